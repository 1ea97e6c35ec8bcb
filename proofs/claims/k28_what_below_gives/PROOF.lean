import PyProof.Rows.All
import Wide.All
import OpenK.AllK
import Wide.FinOn
import Lean
import PyProof.EqAt
import PyProof.EqKinds
import PyProof.TupleCall
import PyProof.FitsReplace
import KE.KLam
import KE.KSortTup
import PySem.Challenge.RW_evenpieces_k28_what_below_gives
set_option Elab.async false
set_option linter.all false
set_option maxRecDepth 100000
abbrev F__:=PySem.W.Frag
theorem aa':type_of% @List.length_map:=@List.length_map
theorem ab':type_of% @List.getElem?_eq_some_iff:=@List.getElem?_eq_some_iff
theorem ac':type_of% @List.mem_map:=@List.mem_map
theorem ad':type_of% @List.mem_cons_of_mem:=@List.mem_cons_of_mem
theorem ae':type_of% @List.mem_of_getElem?:=@List.mem_of_getElem?
theorem af':type_of% @List.mem_cons_self:=@List.mem_cons_self
theorem ag':type_of% @Nat.le_refl:=@Nat.le_refl
theorem ah':type_of% @List.getElem?_eq_getElem:=@List.getElem?_eq_getElem
theorem ai':type_of% @List.mem_cons:=@List.mem_cons
theorem aj':type_of% @List.size_toArray:=@List.size_toArray
theorem ak':type_of% @List.length_take:=@List.length_take
theorem al':type_of% @List.map_map:=@List.map_map
theorem am':type_of% @List.map_append:=@List.map_append
theorem an':type_of% @List.length_append:=@List.length_append
theorem ao':type_of% @List.getElem?_map:=@List.getElem?_map
theorem ap':type_of% @List.map_cons:=@List.map_cons
theorem aq':type_of% @Bool.false_ne_true:=@Bool.false_ne_true
theorem ar':type_of% @List.take_length:=@List.take_length
theorem au':type_of% @Nat.ne_of_lt:=@Nat.ne_of_lt
theorem av':type_of% @List.mem_append:=@List.mem_append
theorem aw':type_of% @Nat.lt_of_lt_of_le:=@Nat.lt_of_lt_of_le
theorem ax':type_of% @List.mem_append_right:=@List.mem_append_right
theorem ay':type_of% @List.mem_singleton:=@List.mem_singleton
theorem az':type_of% @List.length_cons:=@List.length_cons
theorem aA':type_of% @List.append_nil:=@List.append_nil
theorem aB':type_of% @List.nodup_iff_pairwise_ne:=@List.nodup_iff_pairwise_ne
theorem aC':type_of% @Nat.zero_le:=@Nat.zero_le
theorem aD':type_of% @List.take_add_one:=@List.take_add_one
theorem aE':type_of% @List.map_congr_left:=@List.map_congr_left
theorem aF':type_of% @Int.eq_ofNat_of_zero_le:=@Int.eq_ofNat_of_zero_le
theorem aG':type_of% @List.pairwise_map:=@List.pairwise_map
theorem aH':type_of% @List.length_replicate:=@List.length_replicate
theorem aI':type_of% @List.pairwise_cons:=@List.pairwise_cons
theorem aJ':type_of% @List.take_of_length_le:=@List.take_of_length_le
theorem aK':type_of% @Array.length_toList:=@Array.length_toList
theorem aL':type_of% @List.getElem_of_mem:=@List.getElem_of_mem
theorem aM':type_of% @List.nodup_cons:=@List.nodup_cons
theorem aN':type_of% @List.mem_filterMap:=@List.mem_filterMap
theorem aO':type_of% @List.lookup_cons:=@List.lookup_cons
theorem aP':type_of% @List.not_mem_nil:=@List.not_mem_nil
theorem aQ':type_of% @List.getElem?_append_right:=@List.getElem?_append_right
theorem aR':type_of% @List.getElem?_append_left:=@List.getElem?_append_left
theorem aS':type_of% @List.length_singleton:=@List.length_singleton
theorem aT':type_of% @Bool.and_false:=@Bool.and_false
theorem aU':type_of% @List.mem_filter:=@List.mem_filter
theorem aV':type_of% @List.length_nil:=@List.length_nil
theorem aW':type_of% @Bool.false_eq_true:=@Bool.false_eq_true
theorem aX':type_of% @List.filter_append:=@List.filter_append
theorem aY':type_of% @Nat.le_trans:=@Nat.le_trans
theorem aZ':type_of% @Option.map_eq_some_iff:=@Option.map_eq_some_iff
theorem a0':type_of% @List.length_filter_le:=@List.length_filter_le
theorem a1':type_of% @Bool.and_eq_true:=@Bool.and_eq_true
theorem a2':type_of% @Bool.false_and:=@Bool.false_and
theorem a3':type_of% @List.flatMap_cons:=@List.flatMap_cons
theorem a4':type_of% @Nat.lt_irrefl:=@Nat.lt_irrefl
theorem a5':type_of% @Nat.ne_of_gt:=@Nat.ne_of_gt
theorem a6':type_of% @Int.le_of_lt:=@Int.le_of_lt
namespace L2
open PySem PySem.Spec PyProof.Rows
abbrev Key:=Sum Int Str
def cB':Key->Value->Bool
 |.inl k,v=>Value.isInt k v
 |.inr x,v=>Value.isStrOf x v
def keyH(w:World):Key->Int
 |.inl k=>hashInt k
 |.inr x=>hashStr w x
theorem av_:∀{k:Key} {v:Value},cB' k v=true->(∃i t,k=Sum.inl i/\v=Value.int i t)∨(∃x t,k=Sum.inr x/\v=Value.str x t)
 |.inl i,v,h=>by
  obtain⟨t,e⟩:=Value.isInt_shape (k:=i) (v:=v) h;exact .inl ⟨i,t,rfl,e⟩
 |.inr x,v,h=>by
  obtain⟨t,e⟩:=Value.isStrOf_shape (x:=x) (v:=v) h;exact .inr ⟨x,t,rfl,e⟩
theorem gL_(i:Int)(t:Tok):cB' (.inl i) (.int i t)=true:=by simp[cB',Value.isInt]
theorem gi_(x:Str)(t:Tok):cB' (.inr x) (.str x t)=true:=by simp[cB',Value.isStrOf]
theorem jP_(a b:Int):decide ((Sum.inl a:Key)=Sum.inl b)=(a == b):=by
 by_cases e:a=b
 ·subst e;simp
 ·have h:¬(Sum.inl a:Key)=Sum.inl b:=fun q=>e (Sum.inl.inj q);rw[decide_eq_false h];exact (beq_eq_false_iff_ne.mpr e).symm
theorem k5_(a b:Str):decide ((Sum.inr a:Key)=Sum.inr b)=decide (a=b):=by
 by_cases e:a=b
 ·subst e;simp
 ·have h:¬(Sum.inr a:Key)=Sum.inr b:=fun q=>e (Sum.inr.inj q);rw[decide_eq_false h,decide_eq_false e]
theorem k3_(a:Int)(b:Str):decide ((Sum.inl a:Key)=Sum.inr b)=false:=decide_eq_false (fun q=>nomatch q)
theorem kd_(a:Str)(b:Int):decide ((Sum.inr a:Key)=Sum.inl b)=false:=decide_eq_false (fun q=>nomatch q)
def bb'(prog:Program)(w:World):PySem.KeyKind prog w Key where
 is:=cB'
 hash:=keyH w
 inj:=fun v a b ha hb=>by
  rcases av_ ha with⟨i,t,rfl,rfl⟩|⟨x,t,rfl,rfl⟩
  ·rcases av_ hb with⟨j,u,rfl,e⟩|⟨y,u,rfl,e⟩
   ·injection e with e1 _;rw[e1]
   ·exact nomatch e
  ·rcases av_ hb with⟨j,u,rfl,e⟩|⟨y,u,rfl,e⟩
   ·exact nomatch e
   ·injection e with e1 _;rw[e1]
 byValue:=fun k v h=>by
  rcases av_ h with⟨i,t,rfl,rfl⟩|⟨x,t,rfl,rfl⟩<;>rfl
 pyHash:=fun hv h=>by
  rcases av_ hv with⟨i,t,rfl,rfl⟩|⟨x,t,rfl,rfl⟩
  ·exact wpAny_pyHash_int h
  ·exact wpAny_pyHash_str h
 eqBool:=fun hu hv h=>by
  rcases av_ hu with⟨i,t,rfl,rfl⟩|⟨x,t,rfl,rfl⟩
  ·rcases av_ hv with⟨j,u,rfl,rfl⟩|⟨y,u,rfl,rfl⟩
   ·rw[jP_] at h;exact wpAny_eqBool_int h
   ·rw[k3_] at h;exact SeqAt.EqAt.int_str i t y u _ _ _ _ h
  ·rcases av_ hv with⟨j,u,rfl,rfl⟩|⟨y,u,rfl,rfl⟩
   ·rw[kd_] at h;exact SeqAt.EqAt.str_int x t j u _ _ _ _ h
   ·rw[k5_] at h;exact wpAny_eqBool_str h
 «strs»:=fun k x t v h=>by
  rcases av_ h with⟨i,u,rfl,e⟩|⟨y,u,rfl,e⟩
  ·exact nomatch e
  ·injection e with e1 _
   subst e1;cases v<;>rfl
theorem ej_(prog:Program)(w:World)(i:Int)(t:Tok):(bb' prog w).is (.inl i) (.int i t)=true:=gL_ i t
theorem bM_(prog:Program)(w:World)(x:Str)(t:Tok):(bb' prog w).is (.inr x) (.str x t)=true:=gi_ x t
end L2
namespace L2
open PySem PySem.Spec PyProof.Rows
inductive V where
 |non|bl (b:Bool)|int (i:Int)|str (x:Str)|byt (b:Array UInt8)|flt (b:UInt64)|ref (a:Addr)|ty (n:String)
 deriving DecidableEq
def RelV:V->Value->Prop
 |.non,u=>u=Value.none
 |.bl b,u=>u=Value.bool b
 |.int i,u=>∃t,u=Value.int i t
 |.str x,u=>∃t,u=Value.str x t
 |.byt b,u=>∃t,u=Value.bytes b t
 |.flt b,u=>∃t,u=Value.float b t
 |.ref a,u=>u=Value.ref a
 |.ty n,u=>u=Value.type n
abbrev Vals:List V->List Value->Prop:=Paired RelV
theorem Vals.length{xs:List V}{us:List Value}(r:Vals xs us):xs.length=us.length:=Paired.length r
theorem Vals.get:∀{xs:List V} {us:List Value} {i:Nat} {x:V},Vals xs us->xs[i]? = some x->∃u,us[i]? = some u/\RelV x u
 |_,_,_,_,.nil,e=>by simp at e
 |_,_,0,_,.cons r _,e=>by simp at e;subst e;exact⟨_,rfl,r⟩
 |_,_,i+1,x,.cons _ t,e=>by
  obtain⟨u,h1,h2⟩:=Vals.get (i:=i) (x:=x) t (by simpa using e);exact⟨u,by simpa using h1,h2⟩
theorem Vals.set{x:V}{u:Value}(r:RelV x u):∀{xs:List V} {us:List Value} (i:Nat),Vals xs us->Vals (xs.set i x) (us.set i u)
 |_,_,_,.nil=>.nil
 |_,_,0,.cons _ t=>.cons r t
 |_,_,i+1,.cons q t=>.cons q (Vals.set r i t)
theorem Vals.append:∀{xs ys:List V} {us ws:List Value},Vals xs us->Vals ys ws->Vals (xs++ys) (us++ws)
 |_,_,_,_,.nil,s=>s
 |_,_,_,_,.cons r t,s=>.cons r (Vals.append t s)
theorem Vals.take:∀{xs:List V} {us:List Value} (n:Nat),Vals xs us->Vals (xs.take n) (us.take n)
 |_,_,0,_=>.nil
 |_,_,_+1,.nil=>.nil
 |_,_,n+1,.cons r t=>.cons r (Vals.take n t)
theorem Vals.drop:∀{xs:List V} {us:List Value} (n:Nat),Vals xs us->Vals (xs.drop n) (us.drop n)
 |_,_,0,r=>r
 |_,_,_+1,.nil=>.nil
 |_,_,n+1,.cons _ t=>Vals.drop n t
def RelO:Option V->Option Value->Prop
 |some v,some u=>RelV v u
 |none,none=>True
 |_,_=>False
def KV{κ:Type}:List (κ × V)->List (κ × Value)->Prop:=Paired fun(p:κ × V) (q:κ × Value)=>p.1=q.1/\RelV p.2 q.2
def kV:Key->V
 |.inl i=>.int i
 |.inr x=>.str x
inductive HO where
  |lst (xs:List V)
  |tup (xs:List V)
  |dK (kvs:List (Key × V))|dT (kvs:List (List Key × V))
  |set (S:Int->Bool) (n:Nat)
  |ins (C dx:Addr) (fs:List (Str × V))
  |own (x:Addr)
  |xd (fs:List (Str × V))
  |met (f x:Addr)
  |rng (lo hi:Int)
  |frz (o:Obj) (u:HO)
  |tbl (ps:Array Value)
  |ext (φ:Heap->Prop)
abbrev Hp:=Addr->Option HO
def upd(H:Hp)(a:Addr)(o:HO):Hp:=fun b=>if b=a then some o else H b
theorem a1_{H:Hp}{a:Addr}{o:HO}:upd H a o a=some o:=by unfold upd;rw[if_pos rfl]
theorem a4_{H:Hp}{a b:Addr}{o:HO}(h:b≠a):upd H a o b=H b:=by unfold upd;rw[if_neg h]
theorem j1_{H:Hp}{a:Addr}{o u:HO}:upd (upd H a o) a u=upd H a u:=by
 funext b;unfold upd;split<;>rfl
theorem aN_{H:Hp}{a b:Addr}{o u:HO}(h:H a=some o)(h':H b=some u)(d:o≠u):a≠b:=by
 intro e;subst e;rw[h] at h';exact d (Option.some.inj h')
theorem a6_{H:Hp}{a b:Addr}{o:HO}(h:H a=some o)(h':H b=none):a≠b:=by
 intro e;subst e;rw[h] at h';cases h'
section
variable(P:Program)(w:World)
def bi'(H:Hp)(h:Heap)(a:Addr):HO->Prop
 |.lst xs=>xs.length<=sizeLine/\∃(its:List Value) (n:Nat),Vals xs its/\h.get? a=some { cls:=.type "list",data:=.seq its.toArray n }
 |.tup xs=>xs.length<=sizeLine/\∃its:List Value,Vals xs its/\IsTup h a its.toArray/\∃o,h.get? a=some o/\o.dict=none
 |.dK kvs=>kvs.length<=sizeLine/\(a == sysModules)=false/\∃vs,KV kvs vs/\h.DictOf (bb' P w) a vs
 |.dT kvs=>kvs.length<=sizeLine/\(a == sysModules)=false/\∃xs:List (List Key × Addr × Value),
   Paired (fun(p:List Key × V) (q:List Key × Addr × Value)=>p.1=q.1/\H q.2.1=some (.tup (p.1.map kV))/\RelV p.2 q.2.2) kvs xs /\
   ∃o es ep,h.get? a=some o/\o.ExactDict/\o.data=.dict es ep/\es.toList=xs.map (entryOfKey (tupleKind (bb' P w)))/\(xs.map (·.1)).Nodup
 |.set S n=>h.SetOf (intKind P w) a S n
 |.ins C dx fs=>H dx=some (.own a)/\fs.length<=1000/\dx≠a/\h.get? a=some (PySem.W.instObj C dx) /\
   ∃mA,h.Ns1 dx mA/\(∀f,RelO (fs.lookup f) (mA f))/\PySem.Within mA (fs.map (·.1))
 |.own _=>∃o,h.get? a=some o
 |.xd fs=>∃mA,h.Ns1 a mA/\∀f,RelO (fs.lookup f) (mA f)
 |.rng lo hi=>∃t u v,h.get? a=some { cls:=.type "range",data:=.fields #[.int lo t,.int hi u,.int 1 v] }
 |.frz o u=>h.get? a=some o/\bi' H h a u
 |.tbl ps=>h.get? a=some { cls:=.none,data:=.fields ps }
 |.met f x=>h.get? a=some (PySem.W.methodObj (.ref f) (.ref x))
 |.ext φ=>φ h/\(∃o,h.get? a=some o)/\∀h1 h2:Heap,φ h1->(∀o,h1.get? a=some o->h2.get? a=some o)->φ h2
def HOk(H:Hp)(h:Heap):Prop:=∀a o,H a=some o->bi' P w H h a o
end
section
variable{P:Program}{w:World}{H H':Hp}{h h':Heap}{a:Addr}{o:HO}
theorem bi'.lt(x:bi' P w H h a o):a<h.objs.size:=by
 cases o with
 |lst xs=>obtain⟨_,_,_,_,e⟩:=x;exact Heap.lt_size e
 |tup xs=>obtain⟨_,_,_,p,_⟩:=x;exact p.lt
 |dK kvs=>obtain⟨_,_,_,_,o,_,_,e,_⟩:=x;exact Heap.lt_size e
 |dT kvs=>obtain⟨_,_,_,_,o,_,_,e,_⟩:=x;exact Heap.lt_size e
 |set S n=>obtain⟨o,_,_,_,e,_⟩:=x;exact Heap.lt_size e
 |ins C dx fs=>obtain⟨_,_,_,e,_⟩:=x;exact Heap.lt_size e
 |own y=>obtain⟨_,e⟩:=x;exact Heap.lt_size e
 |xd fs=>obtain⟨_,⟨_,_,_,e,_⟩,_⟩:=x;exact Heap.lt_size e
 |rng lo hi=>obtain⟨_,_,_,e⟩:=x;exact Heap.lt_size e
 |frz ob u=>obtain⟨e,_⟩:=x;exact Heap.lt_size e
 |tbl ps=>exact Heap.lt_size (show h.get? a=some _ from x)
 |met f y=>exact Heap.lt_size (show h.get? a=some _ from x)
 |ext φ=>obtain⟨_,⟨_,e⟩,_⟩:=x;exact Heap.lt_size e
theorem Paired.mapP{α β:Type}{F G:α->β->Prop}:∀{l₁:List α} {l₂:List β},Paired F l₁ l₂->(∀a b,F a b->G a b)->Paired G l₁ l₂
 |_,_,.nil,_=>.nil
 |_,_,.cons r t,f=>.cons (f _ _ r) (Paired.mapP t f)
theorem bi'.stay(x:bi' P w H h a o)(k:∀b u,(b=a∨H b=some (.own a))->h.get? b=some u->h'.get? b=some u)
  (ho:∀b,H b=some (.own a)->H' b=some (.own a)) (ht:∀b xs,H b=some (.tup xs)->H' b=some (.tup xs)):bi' P w H' h' a o:=by
 induction o with
 |lst xs=>obtain⟨z,its,n,r,e⟩:=x;exact⟨z,its,n,r,k _ _ (.inl rfl) e⟩
 |tup xs=>obtain⟨z,its,r,⟨ob,e,c⟩,o2,e2,c2⟩:=x;exact⟨z,its,r,⟨ob,k _ _ (.inl rfl) e,c⟩,o2,k _ _ (.inl rfl) e2,c2⟩
 |dK kvs=>obtain⟨z,y,vs,r,ob,es,ep,e,c⟩:=x;exact⟨z,y,vs,r,ob,es,ep,k _ _ (.inl rfl) e,c⟩
 |dT kvs=>
  obtain⟨z,y,xs,r,ob,es,ep,e,c⟩:=x;exact⟨z,y,xs,Paired.mapP r fun p q z=>⟨z.1,ht _ _ z.2.1,z.2.2⟩,ob,es,ep,k _ _ (.inl rfl) e,c⟩
 |set S n=>obtain⟨ob,es,ep,t,e,c⟩:=x;exact⟨ob,es,ep,t,k _ _ (.inl rfl) e,c⟩
 |ins C dx fs=>
  obtain⟨d,z,ne,e,mA,⟨od,es,ep,e2,c⟩,r⟩:=x;exact⟨ho _ d,z,ne,k _ _ (.inl rfl) e,mA,⟨od,es,ep,k _ _ (.inr d) e2,c⟩,r⟩
 |own y=>obtain⟨ob,e⟩:=x;exact⟨ob,k _ _ (.inl rfl) e⟩
 |xd fs=>obtain⟨mA,⟨od,es,ep,e,c⟩,r⟩:=x;exact⟨mA,⟨od,es,ep,k _ _ (.inl rfl) e,c⟩,r⟩
 |rng lo hi=>obtain⟨t,u,v,e⟩:=x;exact⟨t,u,v,k _ _ (.inl rfl) e⟩
 |frz ob u ih=>obtain⟨e,q⟩:=x;exact⟨k _ _ (.inl rfl) e,ih q⟩
 |tbl ps=>
  have e:h.get? a=some { cls:=.none,data:=.fields ps }:=x;show h'.get? a=some { cls:=.none,data:=.fields ps };exact k a _ (.inl rfl) e
 |met f y=>
  have e:h.get? a=some (PySem.W.methodObj (.ref f) (.ref y)):=x;show h'.get? a=some (PySem.W.methodObj (.ref f) (.ref y));exact k a _ (.inl rfl) e
 |ext φ=>obtain⟨p,⟨o,e⟩,st⟩:=x;exact⟨st _ _ p fun o q=>k _ _ (.inl rfl) q,⟨o,k _ _ (.inl rfl) e⟩,st⟩
theorem HOk.lt(x:HOk P w H h)(e:H a=some o):a<h.objs.size:=(x a o e).lt
theorem HOk.fresh(x:HOk P w H h)(e:h.objs.size<=a):H a=none:=by
 cases q:H a with
 |none=>rfl
 |some u=>exact absurd (aw' (x.lt q) e) (a4' _)
theorem HOk.kept(x:HOk P w H h)(k:∀b u,h.get? b=some u->h'.get? b=some u):HOk P w H h':=fun a o e=>
 (x a o e).stay (fun b u _ q=>k b u q) (fun _ q=>q) fun _ _ q=>q
theorem HOk.laid(x:HOk P w H h)(k:∀b u,h.get? b=some u->h'.get? b=some u)(hp:h.objs.size<=a)(new:bi' P w (upd H a o) h' a o):HOk P w (upd H a o) h':=fun b u e=>by
 have hn:=x.fresh hp;by_cases hb:b=a
 ·subst hb;rw[a1_] at e;cases e;exact new
 ·rw[a4_ hb] at e;exact (x b u e).stay (fun c v _ q=>k c v q) (fun c q=>by rw[a4_ (a6_ q hn)];exact q) fun c xs q=>by rw[a4_ (a6_ q hn)];exact q
end
def Rd(H:Hp)(a:Addr)(u:HO):Prop:=H a=some u∨∃o,H a=some (.frz o u)
theorem Rd.of{H:Hp}{a:Addr}{u:HO}(h:H a=some u):Rd H a u:=.inl h
theorem Rd.ok{P:Program}{w:World}{H:Hp}{h:Heap}{a:Addr}{u:HO}(r:Rd H a u)(x:HOk P w H h):bi' P w H h a u:=by
 rcases r with r|⟨o,r⟩
 ·exact x a u r
 ·obtain⟨_,q⟩:=x a _ r;exact q
def Mut:Option HO->Prop
 |some (.lst _)=>True
 |some (.dK _)=>True
 |some (.dT _)=>True
 |some (.set _ _)=>True
 |some (.ins _ _ _)=>True
 |some (.ext _)=>True
 |_=>False
section
variable{P:Program}{w:World}{H:Hp}{h h':Heap}{x e:Addr}{o':HO}
theorem HOk.write(ok:HOk P w H h)(mu:Mut (H x))(he:e=x∨H e=some (.own x))(k:∀b u,b≠e->h.get? b=some u->h'.get? b=some u)(heo:∃u,h'.get? e=some u)
  (new:bi' P w (upd H x o') h' x o'):HOk P w (upd H x o') h':=fun b u q=>by
 have nown:∀c y,H c=some (.own y)->c≠x:=fun c y r z=>by subst z;rw[r] at mu;exact mu
 have ntup:∀c xs,H c=some (.tup xs)->c≠x:=fun c xs r z=>by subst z;rw[r] at mu;exact mu
 by_cases hb:b=x
 ·subst hb;rw[a1_] at q;cases q;exact new
 ·rw[a4_ hb] at q;by_cases hbe:b=e
  ·have q':H b=some (.own x):=by
    rcases he with z|z
    ·exact absurd (hbe.trans z) hb
    ·rw[hbe];exact z
   rw[q] at q';cases q';obtain⟨v,hv⟩:=heo;exact⟨v,by rw[hbe];exact hv⟩
  ·refine (ok b u q).stay (fun c v hc r=>k c v ?_ r) (fun c r=>by rw[a4_ (nown c b r)];exact r) fun c xs r=>by rw[a4_ (ntup c xs r)];exact r
   rcases hc with rfl|hc
   ·exact hbe
   ·rintro rfl;rcases he with z|z
    ·exact nown c b hc z
    ·rw[hc] at z;cases z;exact hb rfl
end
structure Un (fs ex:List Addr) (H H':Hp) (h h':Heap):Prop where
 keep:∀b o,h.get? b=some o->H b=none->b∉fs->b∉ex->h'.get? b=some o
 slot:∀b o,h.get? b=some o->H b=none->b∈fs->b∉ex->∃sl,h'.get? b=some { o with slots:=sl }
 free:∀b o,h.get? b=some o->H b=none->b∉ex->H' b=none
 there:∀b o,h.get? b=some o->b∉ex->∃o',h'.get? b=some o'
 tups:∀b xs,H b=some (.tup xs)->H' b=some (.tup xs)
 frzs:∀b o u,H b=some (.frz o u)->H' b=some (.frz o u)
 tbls:∀b ps,H b=some (.tbl ps)->∃more,H' b=some (.tbl (ps++more))
section
variable{fs fs' ex ex':List Addr}{H H1 H2:Hp}{h h1 h2 h':Heap}{a x e:Addr}{o:HO}
theorem Un.any(u:Un fs ex H H1 h h1){b:Addr}{ob:Obj}(q:h.get? b=some ob)(n:H b=none)(hx:b∉ex):∃sl,h1.get? b=some { ob with slots:=sl }:=by
 by_cases hb:b∈fs
 ·exact u.slot b ob q n hb hx
 ·exact⟨ob.slots,u.keep b ob q n hb hx⟩
theorem Un.kept(k:∀b u,h.get? b=some u->h'.get? b=some u):Un fs ex H H h h':=
 ⟨fun b ob q _ _ _=>k b ob q,fun b ob q _ _ _=>⟨ob.slots,k b ob q⟩,fun _ _ _ n _=>n,fun b ob q _=>⟨ob,k b ob q⟩,fun _ _ q=>q,fun _ _ _ q=>q,fun _ ps q=>⟨#[],by rw[q];simp⟩⟩
theorem Un.refl:Un fs ex H H h h:=Un.kept fun _ _ q=>q
theorem Un.laid(k:∀b u,h.get? b=some u->h'.get? b=some u)(hp:h.objs.size<=a)(hn:H a=none):Un fs ex H (upd H a o) h h' where
 keep:=fun b u q _ _ _=>k b u q
 slot:=fun b u q _ _ _=>⟨u.slots,k b u q⟩
 free:=fun b u q n _=>by rw[a4_ (au' (aw' (Heap.lt_size q) hp))];exact n
 there:=fun b u q _=>⟨u,k b u q⟩
 tups:=fun b xs q=>by rw[a4_ (a6_ q hn)];exact q
 frzs:=fun b u xs q=>by rw[a4_ (a6_ q hn)];exact q
 tbls:=fun b ps q=>⟨#[],by rw[a4_ (a6_ q hn),q];simp⟩
theorem Un.write(mu:Mut (H x))(he:e=x∨H e=some (.own x))(k:∀b u,b≠e->h.get? b=some u->h'.get? b=some u)(heo:∃u,h'.get? e=some u):Un fs ex H (upd H x o) h h':=by
 have hx:∀b,H b=none->b≠x:=fun b n z=>by subst z;rw[n] at mu;exact mu
 have hb:∀b,H b=none->b≠e:=fun b n z=>by
  subst z;rcases he with r|r
  ·exact hx b n r
  ·rw[n] at r;cases r
 have hm:∀b u,H b=some u->¬Mut (some u)->b≠x:=fun b u q nm z=>by subst z;rw[q] at mu;exact nm mu
 refine⟨fun b u q n _ _=>k b u (hb b n) q,fun b u q n _ _=>⟨u.slots,k b u (hb b n) q⟩,fun b u q n _=>by rw[a4_ (hx b n)];exact n,fun b u q _=>?_,
  fun b xs q=>by rw[a4_ (hm b _ q fun z=>z)];exact q,fun b u xs q=>by rw[a4_ (hm b _ q fun z=>z)];exact q,fun b ps q=>⟨#[],by rw[a4_ (hm b _ q fun z=>z),q];simp⟩⟩
 by_cases hbe:b=e
 ·subst hbe;exact heo
 ·exact⟨u,k b u hbe q⟩
end
def trk(h:Heap)(H:Hp):List Addr:=(List.range h.objs.size).filter fun a=>(H a).isSome
def hidT(h:Heap)(H:Hp):Heap:=PySem.W.hideAll h (trk h H)
theorem gB_(h:Heap)(H:Hp):(hidT h H).objs.size=h.objs.size:=PySem.W.hideAll_size _ _
theorem hj_{h:Heap}{H:Hp}{b:Addr}{o:Obj}(e:h.get? b=some o)(n:H b=none):(hidT h H).get? b=some o:=
 PySem.W.hideAll_get _ e fun hm=>by
  have q:(H b).isSome=true:=(aU'.mp hm).2;rw[n] at q;simp at q
theorem jv_{h:Heap}{H:Hp}{b:Addr}{o:Obj}(e:(hidT h H).get? b=some o):h.get? b=some o/\H b=none:=by
 have e':h.get? b=some o:=PySem.W.of_hideAll (trk h H) e;refine⟨e',?_⟩;cases q:H b with
 |none=>rfl
 |some x=>
  have hm:b∈trk h H:=aU'.mpr ⟨List.mem_range.mpr (Heap.lt_size e'),by simp[q]⟩;have z:(hidT h H).get? b=none:=PySem.W.hideAll_none (trk h H) hm;rw[z] at e;cases e
end L2
namespace L2
open PySem PySem.Spec PyProof.Rows
structure Mod (K:F__) (mg:Str->Option Value) (base:Heap):Prop where
 kin:K.In base
 glob:base.Ns mainGlobals mg
 blt:∃mb,base.Ns builtinsNs mb/\∀x:Str,x≠"__name__"->mb x=bootBuiltins x
 nolimit:base.NoLimit
structure Cx where
 prog:Program
 w:World
 K:F__
 mg:Str->Option Value
 base:Heap
 A:Around
 N:List Str
 s₀:Shared
 H₀:Hp
 env:Env
 outer:List Env
 stack:List Env
 ex:List Addr
 fn:Str->Bool
 calm:Bool
 pn:List (Addr × Obj)
 xe:Value->Shared->Prop
def frs(l:List Env):List Addr:=l.filterMap (·.frame)
abbrev Cx.fs(X:Cx):List Addr:=frs X.outer
def Vis(sc:Scope)(x:Str):Prop:=sc.names.lookup x=some .local∨sc.names.lookup x=some .cell∨sc.names.lookup x=some .free
def Loc(sc:Scope)(x:Str):Prop:=sc.names.lookup x=some .local∨sc.names.lookup x=some .cell
def Look(env:Env)(h:Heap)(m:Str->Option Value)(x:Str)(u:Value):Prop:=
 (env.kindOf x=some .local/\m x=some u)∨((env.kindOf x=some .cell∨env.kindOf x=some .free)/\∃c,env.cells.lookup x=some c/\h.IsCell c (some u))
structure Cx.Ok (X:Cx):Prop where
 mod:Mod X.K X.mg X.base
 kind:X.env.scope.kind=.function
 glob:X.env.globals=mainGlobals
 blt:X.env.builtins=builtinsNs
 above:X.s₀.heap.objs.size<=X.env.locals
 inj:∀x y c,X.env.cells.lookup x=some c->X.env.cells.lookup y=some c->x=y
 has:∀x,(X.env.kindOf x=some .cell∨X.env.kindOf x=some .free)->∃c,X.env.cells.lookup x=some c
 cab:∀x c,X.fn x=true->X.env.cells.lookup x=some c->X.s₀.heap.objs.size<=c
 hd:X.calm=true->X.A.handled=none
 frames:X.A.frames=some X.stack
 stk:X.stack=X.outer∨(X.stack=X.env::X.outer/\X.env.frame=some X.env.locals)
 exf:∀b∈X.ex,b≠X.env.locals/\∀x c,X.env.cells.lookup x=some c->c≠b
 bs:∀b o,X.base.get? b=some o->X.s₀.heap.get? b=some o/\X.H₀ b=none
 bsz:X.base.objs.size<=X.s₀.heap.objs.size
 noex:∀b o,X.base.get? b=some o->b∉X.ex
 exfs:∀b∈X.ex,b∉X.fs
 funs:X.s₀.heap.FunFrames X.base X.outer
 frf:∀b∈X.fs,X.H₀ b=none
structure Inv (X:Cx) (pins:List (Addr × Obj)) (σ:List (Option V)) (H:Hp) (s:Shared):Prop where
 ok:X.Ok
 os:s.os=X.s₀.os
 bare:AllBare s.gens
 base:Un X.fs X.ex X.H₀ H X.s₀.heap s.heap
 loc:∃m,s.heap.Ns X.env.locals m/\∀(i:Nat) (x:Str) (v:V),X.N[i]? = some x->σ[i]? = some (some v)->Vis X.env.scope x->∃u,RelV v u/\Look X.env s.heap m x u
 cell:∀x c,X.env.cells.lookup x=some c->∃v,s.heap.IsCell c v
 free:H X.env.locals=none
 freeC:∀x c,X.env.cells.lookup x=some c->H c=none
 pin:∀p∈X.pn++pins,s.heap.get? p.1=some p.2/\H p.1=none/\p.1≠X.env.locals/\p.1∉X.fs/\∀v,p.2.data≠.cell v
 hok:HOk X.prog X.w H s.heap
 len:σ.length=X.N.length
section
variable{X:Cx}{pins:List (Addr × Obj)}{σ:List (Option V)}{H H':Hp}{s:Shared}{h':Heap}
theorem Cx.Ok.nofr(ok:X.Ok){b:Addr}{o:Obj}(e:X.base.get? b=some o):b∉X.fs:=fun hb=>by
 have:=(ok.funs.mem hb).1;rw[e] at this;cases this
theorem Inv.bs(I:Inv X pins σ H s):∀b o,X.base.get? b=some o->s.heap.get? b=some o/\H b=none:=fun b o e=>
 ⟨I.base.keep b o (I.ok.bs b o e).1 (I.ok.bs b o e).2 (I.ok.nofr e) (I.ok.noex b o e),I.base.free b o (I.ok.bs b o e).1 (I.ok.bs b o e).2 (I.ok.noex b o e)⟩
theorem Inv.bk(I:Inv X pins σ H s):∀b o,X.base.get? b=some o->s.heap.get? b=some o:=fun b o e=>(I.bs b o e).1
theorem Inv.mod(I:Inv X pins σ H s):Mod X.K X.mg X.base:=I.ok.mod
theorem Inv.kIn(I:Inv X pins σ H s):X.K.In s.heap:=I.ok.mod.kin.keeps I.bk
theorem Inv.lt(I:Inv X pins σ H s):X.env.locals<s.heap.objs.size:=let ⟨_,hn,_⟩:=I.loc;hn.lt
theorem Inv.sz(I:Inv X pins σ H s):X.s₀.heap.objs.size<=s.heap.objs.size:=aY' I.ok.above (Nat.le_of_lt I.lt)
theorem Inv.nofs(I:Inv X pins σ H s){a:Addr}(h:s.heap.objs.size<=a):a∉X.fs:=fun hb=>by
 obtain⟨_,o,ho,_⟩:=I.ok.funs.mem hb;exact absurd (aw' (Heap.lt_size ho) (aY' I.sz h)) (a4' _)
theorem Inv.cne(I:Inv X pins σ H s):∀x c,X.env.cells.lookup x=some c->c≠X.env.locals:=fun x c e z=>by
 obtain⟨v,o,ho,hd⟩:=I.cell x c e;obtain⟨m,⟨o',es,ep,ho',hd',_⟩,_⟩:=I.loc;rw[z,ho'] at ho;cases ho;rw[hd'] at hd;cases hd
theorem Inv.funs(I:Inv X pins σ H s):s.heap.FunFrames X.base X.outer:=by
 have all:∀(l:List Env),(∀b∈frs l,b∈X.fs)->X.s₀.heap.FunFrames X.base l->s.heap.FunFrames X.base l:=by
  intro l
  induction l with
  |nil=>intro _ _;trivial
  |cons env r ih=>
   intro hs hl;obtain⟨hk,⟨L,o,hf,hn,ho,hd⟩,hr⟩:=hl;have hL:L∈X.fs:=hs L (by unfold frs;rw[List.filterMap_cons,hf];exact af');obtain⟨sl,e⟩:=I.base.slot L o ho (I.ok.frf L hL) hL fun z=>I.ok.exfs L z hL;exact⟨hk,⟨L,_,hf,hn,e,hd⟩,ih (fun b hb=>hs b (by unfold frs;rw[List.filterMap_cons,hf];exact ad' _ hb)) hr⟩
 exact all X.outer (fun _ hb=>hb) I.ok.funs
theorem Inv.stack(I:Inv X pins σ H s):s.heap.FunFrames X.base X.stack:=by
 rcases I.ok.stk with e|⟨e,hf⟩
 ·rw[e];exact I.funs
 ·rw[e];obtain⟨m,hn,_⟩:=I.loc;refine .cons (by rw[I.ok.kind];decide) hf hn ?_ I.funs;exact Heap.get?_none_of_le (aY' I.ok.bsz I.ok.above)
theorem Inv.stkSub(I:Inv X pins σ H s):∀b∈frs X.stack,b∈X.env.locals::X.fs:=fun b hb=>by
 rcases I.ok.stk with e|⟨e,hf⟩
 ·rw[e] at hb;exact ad' _ hb
 ·rw[e] at hb;unfold frs at hb;rw[List.filterMap_cons,hf] at hb;exact hb
theorem Inv.stkFree(I:Inv X pins σ H s):∀b∈frs X.stack,H b=none:=fun b hb=>by
 rcases ai'.mp (I.stkSub b hb) with e|hb
 ·rw[e];exact I.free
 ·obtain⟨_,o,ho,_⟩:=I.ok.funs.mem hb;exact I.base.free b o ho (I.ok.frf b hb) fun z=>I.ok.exfs b z hb
theorem Inv.step{g':Array GenState}{t':Nat}{d':Drawn}{ch:List Addr}(I:Inv X pins σ H s)
  (hch:∀b∈ch,(b∈X.ex∨X.s₀.heap.objs.size<=b)/\b≠X.env.locals/\(∀x c,X.env.cells.lookup x=some c->c≠b)/\∀p∈X.pn++pins,p.1≠b)
  (keep:∀b o,b≠X.env.locals->b∉X.fs->b∉ch->s.heap.get? b=some o->H b=none->h'.get? b=some o)
  (slot:∀b o,b≠X.env.locals->b∈X.fs->b∉ch->s.heap.get? b=some o->H b=none->∃sl,h'.get? b=some { o with slots:=sl }) (free:∀b o,b∉ch->s.heap.get? b=some o->H b=none->H' b=none)
  (there:∀b o,b∉ch->s.heap.get? b=some o->∃o',h'.get? b=some o')
  (tups:∀b xs,H b=some (.tup xs)->H' b=some (.tup xs)) (frzs:∀b o u,H b=some (.frz o u)->H' b=some (.frz o u)) (tbls:∀b ps,H b=some (.tbl ps)->∃more,H' b=some (.tbl (ps++more)))
  (ns:∀m,s.heap.Ns X.env.locals m->h'.Ns X.env.locals m) (hok:HOk X.prog X.w H' h') (hg:AllBare g') :
  Inv X pins σ H' { s with heap:=h',gens:=g',drawn:=d',toks:=t' }:=by
 have neL:∀b o,X.s₀.heap.get? b=some o->b≠X.env.locals:=fun b o e=>au' (aw' (Heap.lt_size e) I.ok.above)
 have neC:∀b o,X.s₀.heap.get? b=some o->b∉X.ex->b∉ch:=fun b o e hx hb=>by
  rcases (hch b hb).1 with z|z
  ·exact hx z
  ·exact absurd (aw' (Heap.lt_size e) z) (a4' _)
 have cellK:∀x c,X.env.cells.lookup x=some c->∀v,s.heap.IsCell c v->h'.IsCell c v:=fun x c e v ⟨o,ho,hd⟩=>by
  have nch:c∉ch:=fun z=>(hch c z).2.2.1 x c e rfl;by_cases hc:c∈X.fs
  ·obtain⟨sl,q⟩:=slot c o (I.cne x c e) hc nch ho (I.freeC x c e);exact⟨_,q,hd⟩
  ·exact⟨o,keep c o (I.cne x c e) hc nch ho (I.freeC x c e),hd⟩
 refine⟨I.ok,I.os,hg,⟨fun b o e n hb hx=>?_,fun b o e n hb hx=>?_,fun b o e n hx=>?_,fun b o e hx=>?_,fun b xs e=>tups b xs (I.base.tups b xs e),fun b o xs e=>frzs b o xs (I.base.frzs b o xs e),fun b ps e=>?_⟩,?_,fun x c e=>?_,?_,fun x c e=>?_,fun p hp=>?_,hok,I.len⟩
 ·exact keep b o (neL b o e) hb (neC b o e hx) (I.base.keep b o e n hb hx) (I.base.free b o e n hx)
 ·obtain⟨sl,e1⟩:=I.base.slot b o e n hb hx;obtain⟨sl',e2⟩:=slot b _ (neL b o e) hb (neC b o e hx) e1 (I.base.free b o e n hx);exact⟨sl',e2⟩
 ·obtain⟨o',e1⟩:=I.base.there b o e hx;exact free b o' (neC b o e hx) e1 (I.base.free b o e n hx)
 ·obtain⟨o',e1⟩:=I.base.there b o e hx;exact there b o' (neC b o e hx) e1
 ·obtain⟨m1,e1⟩:=I.base.tbls b ps e;obtain⟨m2,e2⟩:=tbls b _ e1;exact⟨m1++m2,by rw[e2,Array.append_assoc]⟩
 ·obtain⟨m,hn,hl⟩:=I.loc;refine⟨m,ns m hn,fun i x v e1 e2 e3=>?_⟩;obtain⟨u,r,l⟩:=hl i x v e1 e2 e3;refine⟨u,r,?_⟩;rcases l with l|⟨k,c,e,z⟩
  ·exact .inl l
  ·exact .inr ⟨k,c,e,cellK x c e _ z⟩
 ·obtain⟨v,z⟩:=I.cell x c e;exact⟨v,cellK x c e v z⟩
 ·obtain⟨m,⟨o,_,_,ho,_⟩,_⟩:=I.loc;exact free _ o (fun z=>(hch _ z).2.1 rfl) ho I.free
 ·obtain⟨v,o,ho,hd⟩:=I.cell x c e;exact free c o (fun z=>(hch c z).2.2.1 x c e rfl) ho (I.freeC x c e)
 ·obtain⟨e,n,ne,nf,d⟩:=I.pin p hp;have nch:p.1∉ch:=fun z=>(hch p.1 z).2.2.2 p hp rfl;exact⟨keep p.1 p.2 ne nf nch e n,free p.1 p.2 nch e n,ne,nf,d⟩
theorem Inv.un{t':Nat}(I:Inv X pins σ H s)(u:Un X.fs [] H H' s.heap h')(hok:HOk X.prog X.w H' h'):Inv X pins σ H' { s with heap:=h',toks:=t' }:=by
 obtain⟨m,⟨o,es,ep,ho,r⟩,_⟩:=id I.loc;obtain⟨sl,hL⟩:=u.any ho I.free (by simp)
 exact I.step (g':=s.gens) (d':=s.drawn) (ch:=[]) (fun _ z=>nomatch z) (fun b o _ hb _ e n=>u.keep b o e n hb (by simp)) (fun b o _ hb _ e n=>u.slot b o e n hb (by simp)) (fun b o _ e n=>u.free b o e n (by simp)) (fun b o _ e=>u.there b o e (by simp)) u.tups u.frzs u.tbls (fun m' hm=>by
  obtain⟨o',es',ep',ho',r'⟩:=hm;rw[ho] at ho';cases ho';exact⟨_,es',ep',hL,r'⟩) hok I.bare
theorem Inv.call{g':Array GenState}{t':Nat}{d':Drawn}{ch:List Addr}(I:Inv X pins σ H s)(u:Un (frs X.stack) ch H H' s.heap h')(hok:HOk X.prog X.w H' h')(hg:AllBare g')
  (hch:∀b∈ch,(b∈X.ex∨X.s₀.heap.objs.size<=b)/\b≠X.env.locals/\(∀x c,X.env.cells.lookup x=some c->c≠b)/\∀p∈X.pn++pins,p.1≠b) :
  Inv X pins σ H' { s with heap:=h',gens:=g',drawn:=d',toks:=t' }:=by
 obtain⟨m,⟨o,es,ep,ho,r⟩,_⟩:=id I.loc;obtain⟨sl,hL⟩:=u.any ho I.free fun z=>(hch _ z).2.1 rfl
 exact I.step (ch:=ch) hch (fun b o hL hb hc e n=>u.keep b o e n (fun z=>(ai'.mp (I.stkSub b z)).elim hL hb) hc) (fun b o _ _ hc e n=>u.any e n hc) (fun b o hc e n=>u.free b o e n hc) (fun b o hc e=>u.there b o e hc) u.tups u.frzs u.tbls (fun m' hm=>by
  obtain⟨o',es',ep',ho',r'⟩:=hm;rw[ho] at ho';cases ho';exact⟨_,es',ep',hL,r'⟩) hok hg
theorem Inv.turned{t':Nat}{it:Addr}(I:Inv X pins σ H s)(k:∀b o,b≠it->s.heap.get? b=some o->h'.get? b=some o)(hn:H it=none)(hL:it≠X.env.locals)
  (h1:it∈X.ex∨X.s₀.heap.objs.size<=it) (h2:∀x c,X.env.cells.lookup x=some c->c≠it) (h3:∀p∈X.pn++pins,p.1≠it):Inv X pins σ H { s with heap:=h',toks:=t' }:=by
 have nit:∀b u,H b=some u->b≠it:=fun b u e z=>by rw[z,hn] at e;cases e
 refine I.step (g':=s.gens) (d':=s.drawn) (ch:=[it]) (fun b hb=>?_) (fun b o _ _ hc e _=>k b o (fun z=>hc (by simp[z])) e) (fun b o _ _ hc e _=>⟨o.slots,k b o (fun z=>hc (by simp[z])) e⟩) (fun _ _ _ _ n=>n)
  (fun b o hc e=>⟨o,k b o (fun z=>hc (by simp[z])) e⟩) (fun _ _ e=>e) (fun _ _ _ e=>e) (fun b ps e=>⟨#[],by rw[e];simp⟩) (fun m hm=>?_) (fun b u e=>?_) I.bare
 ·have e:b=it:=by simpa using hb
  subst e;exact⟨h1,hL,h2,h3⟩
 ·obtain⟨o,es,ep,ho,r⟩:=hm;exact⟨o,es,ep,k _ o (Ne.symm hL) ho,r⟩
 ·refine (I.hok b u e).stay (fun c v hc q=>k c v ?_ q) (fun _ q=>q) fun _ _ q=>q;rcases hc with z|z
  ·rw[z];exact nit b u e
  ·exact nit c _ z
theorem Inv.tok(I:Inv X pins σ H s)(t:Nat):Inv X pins σ H { s with toks:=t }:=I.un (h':=s.heap) (t':=t) Un.refl I.hok
theorem Inv.kept{t':Nat}(I:Inv X pins σ H s)(k:∀b u,s.heap.get? b=some u->h'.get? b=some u):Inv X pins σ H { s with heap:=h',toks:=t' }:=I.un (Un.kept k) (I.hok.kept k)
theorem Inv.laid{a:Addr}{o:HO}{t':Nat}(I:Inv X pins σ H s)(k:∀b u,s.heap.get? b=some u->h'.get? b=some u)(hp:s.heap.objs.size<=a)(new:bi' X.prog X.w (upd H a o) h' a o) :
  Inv X pins σ (upd H a o) { s with heap:=h',toks:=t' }:=I.un (Un.laid k hp (I.hok.fresh hp)) (I.hok.laid k hp new)
theorem Inv.write{x e:Addr}{o:HO}{t':Nat}(I:Inv X pins σ H s)(mu:Mut (H x))(he:e=x∨H e=some (.own x))(k:∀b u,b≠e->s.heap.get? b=some u->h'.get? b=some u)(heo:∃u,h'.get? e=some u)
  (new:bi' X.prog X.w (upd H x o) h' x o):Inv X pins σ (upd H x o) { s with heap:=h',toks:=t' }:=I.un (Un.write mu he k heo) (I.hok.write mu he k heo new)
theorem Inv.pins_of{pins':List (Addr × Obj)}(I:Inv X pins σ H s)(h:∀p∈pins',s.heap.get? p.1=some p.2/\H p.1=none/\p.1≠X.env.locals/\p.1∉X.fs/\∀v,p.2.data≠.cell v):Inv X pins' σ H s:=
 ⟨I.ok,I.os,I.bare,I.base,I.loc,I.cell,I.free,I.freeC,fun p hp=>(av'.mp hp).elim (fun z=>I.pin p (List.mem_append_left _ z)) (h p),I.hok,I.len⟩
theorem eJ_{N:List Str}(hN:N.Nodup){i j:Nat}{x:Str}(a:N[i]? = some x)(b:N[j]? = some x):i=j:=by
 obtain⟨h1,e1⟩:=ab'.mp a;obtain⟨h2,e2⟩:=ab'.mp b;exact (List.getElem_inj hN).mp (e1.trans e2.symm)
theorem e4_{M:Model}{A:Around}{E:Value->Shared->Prop}{i:Nat}{x:Str}{v:V}{u:Value}{Q:Unit->Shared->Prop}(I:Inv X pins σ H s)(hN:X.N.Nodup)(hi:X.N[i]? = some x)(hx:Loc X.env.scope x)(r:RelV v u)
  (h:∀s',Inv X pins (σ.set i (some v)) H s'->(∃a,Heap.SameBut a s.heap s'.heap/\(a=X.env.locals∨X.env.cells.lookup x=some a))->Q () s') (hf:X.fn x=true∨X.env.scope.names.lookup x=some .local:=by first|exact .inl rfl|exact .inr rfl|assumption):wpAny M A (storeName X.env x u) Q E s:=by
 obtain⟨m,hn,hl⟩:=id I.loc;have hcls:(X.env.scope.kind == .class || (X.env.scope.kind == .module&&X.env.locals != X.env.globals))=false:=by rw[I.ok.kind];rfl
 have hiσ:i<σ.length:=by rw[I.len];exact (ab'.mp hi).1
 have cne:=I.cne
 have tracked:∀{a:Addr} {h':Heap},(∃o,s.heap.get? a=some o/\H a=none)->Heap.SameBut a s.heap h'->HOk X.prog X.w H h':=fun {a h'} ha hs b ob e=>by
  obtain⟨_,_,hfree⟩:=ha;refine (I.hok b ob e).stay (fun c w' hc q=>(hs.2 c ?_).trans q) (fun _ q=>q) fun _ _ q=>q;rintro rfl;rcases hc with rfl|hc
  ·rw[hfree] at e;cases e
  ·rw[hfree] at hc;cases hc
 rcases hx with hk|hk
 ·refine wpAny_storeName_local hk hn (fun h' hn' hs=>?_) hcls;obtain⟨oL,_,_,hoL,_⟩:=id hn;refine h _ ⟨I.ok,I.os,I.bare,⟨fun b o e n hb hx=>?_,fun b o e n hb hx=>?_,I.base.free,fun b o e hx=>?_,I.base.tups,I.base.frzs,I.base.tbls⟩,⟨_,hn',fun j y v' e1 e2 e3=>?_⟩,fun y c e=>?_,I.free,I.freeC,fun p hp=>?_,tracked ⟨oL,hoL,I.free⟩ hs,by simpa using I.len⟩ ⟨_,hs,.inl rfl⟩
  ·exact (hs.2 b (au' (aw' (Heap.lt_size e) I.ok.above))).trans (I.base.keep b o e n hb hx)
  ·obtain⟨sl,e1⟩:=I.base.slot b o e n hb hx;exact⟨sl,(hs.2 b (au' (aw' (Heap.lt_size e) I.ok.above))).trans e1⟩
  ·obtain⟨o',e1⟩:=I.base.there b o e hx;exact⟨o',(hs.2 b (au' (aw' (Heap.lt_size e) I.ok.above))).trans e1⟩
  ·by_cases hj:j=i
   ·subst hj;rw[hi] at e1;cases e1;rw[List.getElem?_set_self hiσ] at e2;cases e2;exact⟨u,r,.inl ⟨hk,by simp⟩⟩
   ·rw[List.getElem?_set_ne (Ne.symm hj)] at e2;obtain⟨u',r',q⟩:=hl j y v' e1 e2 e3;refine⟨u',r',?_⟩;rcases q with⟨k,e⟩|⟨k,c,e,z⟩
    ·refine .inl ⟨k,?_⟩;have:y≠x:=fun e=>hj (eJ_ hN e1 (e▸hi));simp[this,e]
    ·exact .inr ⟨k,c,e,z.sameBut hs (cne y c e)⟩
  ·obtain⟨w',z⟩:=I.cell y c e;exact⟨w',z.sameBut hs (cne y c e)⟩
  ·obtain⟨e,n,ne,nf,d⟩:=I.pin p hp;exact⟨(hs.2 p.1 ne).trans e,n,ne,nf,d⟩
 ·have hfn:X.fn x=true:=by
   rcases hf with z|z
   ·exact z
   ·rw[z] at hk;cases hk
  obtain⟨c,hc⟩:=I.ok.has x (.inl hk);obtain⟨w',z⟩:=I.cell x c hc;refine wpAny_storeName_cell I.ok.kind hk hc z (fun h' hc' hs=>?_);obtain⟨oc,hoc,hocd⟩:=id z;refine h { s with heap:=h' } ⟨I.ok,I.os,I.bare,⟨fun b o e n hb hx=>?_,fun b o e n hb hx=>?_,I.base.free,fun b o e hx=>?_,I.base.tups,I.base.frzs,I.base.tbls⟩,⟨m,hn.sameBut hs (Ne.symm (cne x c hc)),fun j y v' e1 e2 e3=>?_⟩,fun y c' e=>?_,I.free,I.freeC,fun p hp=>?_,tracked ⟨oc,hoc,I.freeC x c hc⟩ hs,by simpa using I.len⟩ ⟨c,hs,.inr hc⟩
  ·exact (hs.2 b (au' (aw' (Heap.lt_size e) (I.ok.cab x c hfn hc)))).trans (I.base.keep b o e n hb hx)
  ·obtain⟨sl,e1⟩:=I.base.slot b o e n hb hx;exact⟨sl,(hs.2 b (au' (aw' (Heap.lt_size e) (I.ok.cab x c hfn hc)))).trans e1⟩
  ·obtain⟨o',e1⟩:=I.base.there b o e hx;exact⟨o',(hs.2 b (au' (aw' (Heap.lt_size e) (I.ok.cab x c hfn hc)))).trans e1⟩
  ·by_cases hj:j=i
   ·subst hj;rw[hi] at e1;cases e1;rw[List.getElem?_set_self hiσ] at e2;cases e2;exact⟨u,r,.inr ⟨.inl hk,c,hc,hc'⟩⟩
   ·rw[List.getElem?_set_ne (Ne.symm hj)] at e2;obtain⟨u',r',q⟩:=hl j y v' e1 e2 e3;refine⟨u',r',?_⟩;rcases q with q|⟨k,c',e,z'⟩
    ·exact .inl q
    ·refine .inr ⟨k,c',e,z'.sameBut hs ?_⟩;rintro rfl;exact hj (eJ_ hN e1 (I.ok.inj _ _ _ e hc▸hi))
  ·by_cases hcc:c'=c
   ·subst hcc;exact⟨_,hc'⟩
   ·obtain⟨w2,z2⟩:=I.cell y c' e;exact⟨w2,z2.sameBut hs hcc⟩
  ·obtain⟨e,n,ne,nf,d⟩:=I.pin p hp;refine⟨(hs.2 p.1 ?_).trans e,n,ne,nf,d⟩;intro q;rw[q,hoc] at e;have q':oc=p.2:=Option.some.inj e;exact d w' (by rw[<- q'];exact hocd)
theorem eG_{M:Model}{A:Around}{E:Value->Shared->Prop}{i:Nat}{x:Str}{v:V}{u:Value}{Q:Unit->Shared->Prop}(I:Inv X pins σ H s)(hN:X.N.Nodup)(hi:X.N[i]? = some x)(hx:Loc X.env.scope x)(r:RelV v u)
  (h:∀s',Inv X pins (σ.set i (some v)) H s'->Q () s') (hf:X.fn x=true∨X.env.scope.names.lookup x=some .local:=by first|exact .inl rfl|exact .inr rfl|assumption):wpAny M A (storeName X.env x u) Q E s:=
 e4_ I hN hi hx r (fun s' I' _=>h s' I') hf
theorem Inv.call'{s':Shared}{ch:List Addr}(I:Inv X pins σ H s)(ho:s'.os=s.os)(u:Un (frs X.stack) ch H H' s.heap s'.heap)(hok:HOk X.prog X.w H' s'.heap)(hg:AllBare s'.gens)
  (hch:∀b∈ch,(b∈X.ex∨X.s₀.heap.objs.size<=b)/\b≠X.env.locals/\(∀x c,X.env.cells.lookup x=some c->c≠b)/\∀p∈X.pn++pins,p.1≠b):Inv X pins σ H' s':=by
 obtain⟨h',g',d',t',o'⟩:=s';have e:o'=s.os:=ho;subst e;exact I.call (g':=g') (t':=t') (d':=d') u hok hg hch
end
abbrev XK:=Value->Option Addr->Hp->Prop
abbrev St:=List (Option V)
abbrev VK:=V->Hp->Prop
abbrev TE:=St->Hp->VK->Prop
abbrev TT:=St->Hp->(Bool->Hp->Prop)->Prop
abbrev TA:=St->Hp->(List V->Hp->Prop)->Prop
structure Ends where
 nx:St->Hp->Prop
 rt:VK
 bk:St->Hp->Prop:=fun _ _=>False
 ct:St->Hp->Prop:=fun _ _=>False
abbrev TS:=Ends->St->Hp->Prop
def EP(X:Cx)(pins:List (Addr × Obj))(σ:St)(Q:VK)(u:Value)(s':Shared):Prop:=∃v H',Inv X pins σ H' s'/\RelV v u/\Q v H'
def TP(X:Cx)(pins:List (Addr × Obj))(σ:St)(Q:Bool->Hp->Prop)(b:Bool)(s':Shared):Prop:=∃H',Inv X pins σ H' s'/\Q b H'
def AP(X:Cx)(pins:List (Addr × Obj))(σ:St)(Q:List V->Hp->Prop)(us:List Value)(s':Shared):Prop:=∃vs H',Inv X pins σ H' s'/\Vals vs us/\Q vs H'
def SP(X:Cx)(pins:List (Addr × Obj))(D:Ends)(f:Flow)(s':Shared):Prop:=
 match f with
 |.next=>∃σ' H',Inv X pins σ' H' s'/\D.nx σ' H'
 |.brk=>∃σ' H',Inv X pins σ' H' s'/\D.bk σ' H'
 |.cont=>∃σ' H',Inv X pins σ' H' s'/\D.ct σ' H'
 |.ret u=>∃v σ' H',Inv X pins σ' H' s'/\RelV v u/\D.rt v H'
def PE(X:Cx)(e:Expr)(t:TE):Prop:=
 ∀(pins:List (Addr × Obj)) (s:Shared) (σ:St) (H:Hp) (Q:VK),Inv X pins σ H s->t σ H Q->wpAny (model X.prog X.w) X.A (eval e X.env) (EP X pins σ Q) X.xe s
def PT(X:Cx)(e:Expr)(t:TT):Prop:=
 ∀(pins:List (Addr × Obj)) (s:Shared) (σ:St) (H:Hp) (Q:Bool->Hp->Prop),Inv X pins σ H s->t σ H Q->wpAny (model X.prog X.w) X.A (isTrue e X.env (eval e X.env)) (TP X pins σ Q) X.xe s
def PW(X:Cx)(e:Expr)(t:TT):Prop:=
 ∀(whole:Sem Value) (pins:List (Addr × Obj)) (s:Shared) (σ:St) (H:Hp) (Q:Bool->Hp->Prop),Inv X pins σ H s->t σ H Q->wpAny (model X.prog X.w) X.A (isTrue e X.env whole) (TP X pins σ Q) X.xe s
theorem PW.pt{X:Cx}{e:Expr}{t:TT}(h:PW X e t):PT X e t:=h _
def PA(X:Cx)(es:List Expr)(t:TA):Prop:=
 ∀(pos:Pos) (pins:List (Addr × Obj)) (s:Shared) (σ:St) (H:Hp) (Q:List V->Hp->Prop),Inv X pins σ H s->t σ H Q->wpAny (model X.prog X.w) X.A (spliced (backTo pos (starEach es X.env))) (AP X pins σ Q) X.xe s
def PS(X:Cx)(st:Stmt)(t:TS):Prop:=
 ∀(pins:List (Addr × Obj)) (s:Shared) (σ:St) (H:Hp) (D:Ends),Inv X pins σ H s->t D σ H->wpAny (model X.prog X.w) X.A (exec st X.env) (SP X pins D) X.xe s
def PSs(X:Cx)(st:List Stmt)(t:TS):Prop:=
 ∀(pins:List (Addr × Obj)) (s:Shared) (σ:St) (H:Hp) (D:Ends),Inv X pins σ H s->t D σ H->wpAny (model X.prog X.w) X.A (execs st X.env) (SP X pins D) X.xe s
theorem thn{α:Type}{t:Sem α}{Q Q':α->Shared->Prop}{M:Model}{A:Around}{E:Value->Shared->Prop}{s:Shared}(h:wpAny M A t Q E s)(hQ:∀a s,Q a s->Q' a s):wpAny M A t Q' E s:=wpAny_mono h hQ fun _ _ x=>x
end L2
namespace L2
open PySem PySem.Spec PyProof.Rows
section
variable{X:Cx}
def tVar(i:Nat):TE:=fun σ H Q=>∃v,σ[i]? = some (some v)/\Q v H
def tC(v:V):TE:=fun _ H Q=>Q v H
theorem km_{i:Nat}{x:Str}{pos:Pos}(hN:X.N[i]? = some x)(hv:Vis X.env.scope x)(hd:(x == ("__debug__":Str))=false:=by decide)(hcd:(x == ("__classdict__":Str))=false:=by decide):PE X (.Name x pos) (tVar i):=by
 intro pins s σ H Q I h;obtain⟨v,e,h⟩:=h;obtain⟨m,hn,hl⟩:=I.loc;obtain⟨u,r,l⟩:=hl i x v hN e hv;have fin:EP X pins σ Q u s:=⟨v,H,I,r,h⟩;rcases l with⟨hk,hm⟩|⟨hk,c,hc,hcell⟩
 ·exact wpAny_Name (wpAny_loadName_local I.ok.kind hk hn hm fin) hd
 ·rcases hk with hk|hk
  ·exact wpAny_Name (wpAny_loadName_cell I.ok.kind hk hc hcell fin) hd
  ·exact wpAny_Name (wpAny_loadName_free I.ok.kind hk hc hcell fin hcd) hd
theorem a7_{i j pos}:PE X (.Constant (.int i) j pos) (tC (.int i)):=fun _ _ _ H _ I h=>wpAny_Constant_int ⟨.int i,H,I.tok _,⟨_,rfl⟩,h⟩
theorem e8_{b j pos}:PE X (.Constant (.bool b) j pos) (tC (.bl b)):=fun _ _ _ H _ I h=>Constant_bool ⟨.bl b,H,I,rfl,h⟩
theorem d9_{j pos}:PE X (.Constant .none j pos) (tC .non):=fun _ _ _ H _ I h=>Constant_none ⟨.non,H,I,rfl,h⟩
theorem an_{x j pos}:PE X (.Constant (.str x) j pos) (tC (.str x)):=fun _ _ _ H _ I h=>Calls.Constant_str ⟨.str x,H,I.tok _,⟨_,rfl⟩,h⟩
def Gl(X:Cx)(x:Str):Prop:=X.env.kindOf x=some .globalImplicit
theorem dn_{E:Value->Shared->Prop}{pins:List (Addr × Obj)}{s:Shared}{σ:St}{H:Hp}{x:Str}{u:Value}{pos:Pos}{Q:Value->Shared->Prop}(I:Inv X pins σ H s)(hg:Gl X x)(hm:X.mg x=some u)(h:Q u s)
  (hd:(x == ("__debug__":Str))=false:=by decide):wpAny (model X.prog X.w) X.A (eval (.Name x pos) X.env) Q E s:=
 Calls.Name_function_global I.ok.kind hg (Calls.loadGlobal_global (by rw[I.ok.glob];exact I.mod.glob.keeps I.bk) hm h) hd
theorem d1_{E:Value->Shared->Prop}{pins:List (Addr × Obj)}{s:Shared}{σ:St}{H:Hp}{x:Str}{u:Value}{pos:Pos}{Q:Value->Shared->Prop}(I:Inv X pins σ H s)(hg:Gl X x)(hm:X.mg x=none)(hv:bootBuiltins x=some u)(h:Q u s)
  (hn:x≠"__name__":=by decide) (hd:(x == ("__debug__":Str))=false:=by decide):wpAny (model X.prog X.w) X.A (eval (.Name x pos) X.env) Q E s:=by
 obtain⟨mb,h1,h2⟩:=I.mod.blt;exact Calls.Name_function_global I.ok.kind hg (Calls.loadGlobal_builtin (by rw[I.ok.glob];exact I.mod.glob.keeps I.bk) hm (by rw[I.ok.blt];exact h1.keeps I.bk) ((h2 x hn).trans hv) h) hd
theorem bJ_{x:Str}{v:V}{u:Value}{pos:Pos}(hg:Gl X x)(hm:X.mg x=some u)(r:RelV v u)(hd:(x == ("__debug__":Str))=false:=by decide):PE X (.Name x pos) (tC v):=
 fun _ _ _ H _ I h=>dn_ I hg hm ⟨v,H,I,r,h⟩ hd
theorem aZ_{x:Str}{v:V}{u:Value}{pos:Pos}(hg:Gl X x)(hm:X.mg x=none)(hv:bootBuiltins x=some u)(r:RelV v u)(hn:x≠"__name__":=by decide)(hd:(x == ("__debug__":Str))=false:=by decide):PE X (.Name x pos) (tC v):=
 fun _ _ _ H _ I h=>d1_ I hg hm hv ⟨v,H,I,r,h⟩ hn hd
variable{a b:Expr}{ta tb:TE}{pos:Pos}
def PC(X:Cx)(op:CmpOp)(a b:Expr)(t:TE):Prop:=
 ∀(pins:List (Addr × Obj)) (s:Shared) (σ:St) (H:Hp) (Q:VK),Inv X pins σ H s->t σ H Q->
  wpAny (model X.prog X.w) X.A (eval a X.env) (fun v s₁=>wpAny (model X.prog X.w) X.A (eval b X.env) (fun u s₂=>wpAny (model X.prog X.w) X.A (compareOp op v u) (EP X pins σ Q) X.xe s₂) X.xe s₁) X.xe s
theorem nobehind(b:Expr){op:CmpOp}(h:op≠.In)(h2:op≠.NotIn):behindInMarks op b=false:=by
 have e1:(op == CmpOp.In)=false:=by cases op<;>first|rfl|exact absurd rfl h
 have e2:(op == CmpOp.NotIn)=false:=by cases op<;>first|rfl|exact absurd rfl h2
 cases b<;>simp[behindInMarks,e1,e2]
def tIsN(ta:TE):TE:=fun σ H Q=>ta σ H fun x H1=>Q (.bl (decide (x=.non))) H1
theorem RelV.none_iff{x:V}{v:Value}(r:RelV x v):(v == Value.none)=decide (x=.non):=by
 cases x with
 |non=>cases r;rfl
 |bl _=>cases r;rfl
 |int _=>obtain⟨t,rfl⟩:=r;rfl
 |str _=>obtain⟨t,rfl⟩:=r;rfl
 |byt _=>obtain⟨t,rfl⟩:=r;rfl
 |flt _=>obtain⟨t,rfl⟩:=r;rfl
 |ref _=>cases r;rfl
 |ty _=>cases r;rfl
theorem eF_{j pos'}(ha:PE X a ta):PC X .Is a (.Constant .none j pos') (tIsN ta):=by
 intro pins s σ H Q I h;refine thn (ha pins s σ H _ I h) fun v s1 ⟨x,H1,I1,r1,q1⟩=>?_;exact Constant_none (is_none_gen ⟨.bl _,H1,I1,by rw[r1.none_iff];rfl,q1⟩)
def tB(t:TE):TT:=fun σ H Q=>t σ H fun x H1=>∃c,x=.bl c/\Q c H1
theorem dJ_{op:CmpOp}{t:TE}(h:PC X op a b t)(h1:behindInMarks op b=false:=by first|exact nobehind _ (by decide) (by decide)|rfl):PE X (.Compare a [op] [b] pos) t:=fun pins s σ H Q I hw=>wpAny_Compare1 (h pins s σ H Q I hw) h1
theorem cm_{op:CmpOp}{t:TE}(h:PC X op a b t)(h1:behindInMarks op b=false:=by first|exact nobehind _ (by decide) (by decide)|rfl):PT X (.Compare a [op] [b] pos) (tB t):=by
 intro pins s σ H Q I hw;refine wpAny_isTrue_Compare1 (thn (h pins s σ H _ I hw) fun v s1 h1=>thn h1 fun u s2 h2=>thn h2 fun c s3 ⟨x,H1,I1,r1,q1⟩=>?_) h1;obtain⟨d,rfl,q⟩:=q1;cases r1;exact wpAny_truthy_bool ⟨H1,I1,q⟩
theorem aF_{e:Expr}{t:TE}(h:PE X e t)(he:∀whole,isTrue e X.env whole=(do let v <- whole;standAt e.pos;holding [v] (truthy v)):=by intro _;rfl):PT X e (tB t):=by
 intro pins s σ H Q I hw;refine isTrue_plain (thn (h pins s σ H _ I hw) fun v s1 ⟨x,H1,I1,r1,q1⟩=>?_) (he _);obtain⟨d,rfl,q⟩:=q1;cases r1;exact wpAny_truthy_bool ⟨H1,I1,q⟩
variable{tA tB':TT}{rest:List Expr}
def tAnd(t u:TT):TT:=fun σ H Q=>t σ H fun c H1=>if c=true then u σ H1 Q else Q false H1
def tOr(t u:TT):TT:=fun σ H Q=>t σ H fun c H1=>if c=true then Q true H1 else u σ H1 Q
def tNot(t:TT):TT:=fun σ H Q=>t σ H fun c H1=>Q (!c) H1
theorem cQ_(ha:PT X a tA):PW X (.BoolOp .And [a] pos) tA:=by
 intro wh pins s σ H Q I h;refine isTrue_and (thn (ha pins s σ H Q I h) fun c s1 e=>?_);cases c with
 |true=>exact isTrue_and_nil e
 |false=>exact e
theorem ch_(ha:PT X a tA):PW X (.BoolOp .Or [a] pos) tA:=by
 intro wh pins s σ H Q I h;refine isTrue_or (thn (ha pins s σ H Q I h) fun c s1 e=>?_);cases c with
 |false=>exact isTrue_or_nil e
 |true=>exact e
theorem d0_(ha:PT X a tA)(hb:PW X (.BoolOp .And (b::rest) pos) tB'):PW X (.BoolOp .And (a::b::rest) pos) (tAnd tA tB'):=by
 intro wh pins s σ H Q I h;refine isTrue_and (thn (ha pins s σ H _ I h) fun c s1 ⟨H1,I1,q1⟩=>?_);cases c with
 |true=>exact hb wh pins s1 σ H1 Q I1 q1
 |false=>exact⟨H1,I1,q1⟩
theorem dK_(ha:PT X a tA)(hb:PW X (.BoolOp .Or (b::rest) pos) tB'):PW X (.BoolOp .Or (a::b::rest) pos) (tOr tA tB'):=by
 intro wh pins s σ H Q I h;refine isTrue_or (thn (ha pins s σ H _ I h) fun c s1 ⟨H1,I1,q1⟩=>?_);cases c with
 |true=>exact⟨H1,I1,q1⟩
 |false=>exact hb wh pins s1 σ H1 Q I1 q1
theorem aJ_(ha:PT X a tA):PT X (.UnaryOp .Not a pos) (tNot tA):=by
 intro pins s σ H Q I h;exact isTrue_not (ha pins s σ H (fun c H1=>Q (!c) H1) I h)
def tAndV(ta tb:TE):TE:=fun σ H Q=>ta σ H fun x H1=>∃c,x=.bl c/\if c=true then tb σ H1 Q else Q (.bl false) H1
def tOrV(ta tb:TE):TE:=fun σ H Q=>ta σ H fun x H1=>∃c,x=.bl c/\if c=true then Q (.bl true) H1 else tb σ H1 Q
def tNotV(ta:TE):TE:=fun σ H Q=>ta σ H fun x H1=>∃c,x=.bl c/\Q (.bl (!c)) H1
theorem bg_{op}{t:TE}(h:PE X a t):PE X (.BoolOp op [a] pos) t:=fun pins s σ H Q I hw=>BoolOp_one (h pins s σ H Q I hw)
theorem bs_(ha:PE X a ta)(hb:PE X (.BoolOp .And (b::rest) pos) tb):PE X (.BoolOp .And (a::b::rest) pos) (tAndV ta tb):=by
 intro pins s σ H Q I h;refine BoolOp_and (thn (ha pins s σ H _ I h) fun v s1 ⟨x,H1,I1,r1,q1⟩=>?_);obtain⟨c,rfl,q1⟩:=q1;cases r1;refine wpAny_truthy_bool ?_;cases c with
 |true=>exact hb pins s1 σ H1 Q I1 q1
 |false=>exact⟨.bl false,H1,I1,rfl,q1⟩
theorem hE_(ha:PE X a ta)(hb:PE X (.BoolOp .Or (b::rest) pos) tb):PE X (.BoolOp .Or (a::b::rest) pos) (tOrV ta tb):=by
 intro pins s σ H Q I h;refine BoolOp_or (thn (ha pins s σ H _ I h) fun v s1 ⟨x,H1,I1,r1,q1⟩=>?_);obtain⟨c,rfl,q1⟩:=q1;cases r1;refine wpAny_truthy_bool ?_;cases c with
 |false=>exact hb pins s1 σ H1 Q I1 q1
 |true=>exact⟨.bl true,H1,I1,rfl,q1⟩
theorem jZ_(ha:PE X a ta):PE X (.UnaryOp .Not a pos) (tNotV ta):=by
 intro pins s σ H Q I h;refine UnaryOp_ (thn (ha pins s σ H _ I h) fun v s1 ⟨x,H1,I1,r1,q1⟩=>?_);obtain⟨c,rfl,q1⟩:=q1;cases r1;exact not_of (wpAny_truthy_bool ⟨.bl (!c),H1,I1,rfl,q1⟩)
def tIf(t:TT)(ta tb:TE):TE:=fun σ H Q=>t σ H fun c H1=>if c=true then ta σ H1 Q else tb σ H1 Q
theorem hf_{c:Expr}(hc:PT X c tA)(ha:PE X a ta)(hb:PE X b tb):PE X (.IfExp c a b pos) (tIf tA ta tb):=by
 intro pins s σ H Q I h;refine wpAny_IfExp (thn (hc pins s σ H _ I h) fun d s1 ⟨H1,I1,q1⟩=>?_);cases d with
 |true=>exact ha pins s1 σ H1 Q I1 q1
 |false=>exact hb pins s1 σ H1 Q I1 q1
end
end L2
namespace L2
open PySem PySem.Spec PyProof.Rows
def SqL(K:F__)(H:Hp)(a:Addr)(xs:List V):Prop:=
 Rd H a (.lst xs) ∨
  ∃(o:Obj) (its:Array Value) (n:Nat),K.lookup a=some o/\o.cls=.type "list"/\o.dict=none/\o.data=.seq its n/\its.size<=sizeLine/\Vals xs its.toList
def SqT(K:F__)(H:Hp)(a:Addr)(xs:List V):Prop:=
 Rd H a (.tup xs) ∨
  ∃(o:Obj) (its:Array Value) (n:Nat),K.lookup a=some o/\o.cls=.type "tuple"/\o.data=.seq its n/\its.size<=sizeLine/\Vals xs its.toList
def absV:Value->Option V
 |.none=>some .non
 |.bool b=>some (.bl b)
 |.int i _=>some (.int i)
 |.str x _=>some (.str x)
 |.bytes b _=>some (.byt b)
 |.float b _=>some (.flt b)
 |.ref a=>some (.ref a)
 |.type n=>some (.ty n)
 |_=>none
theorem RelV.abs{x:V}{u:Value}(r:RelV x u):absV u=some x:=by
 cases x with
 |non=>cases r;rfl
 |bl _=>cases r;rfl
 |int _=>obtain⟨t,rfl⟩:=r;rfl
 |str _=>obtain⟨t,rfl⟩:=r;rfl
 |byt _=>obtain⟨t,rfl⟩:=r;rfl
 |flt _=>obtain⟨t,rfl⟩:=r;rfl
 |ref _=>cases r;rfl
 |ty _=>cases r;rfl
theorem RelV.inj{x y:V}{u:Value}(r:RelV x u)(q:RelV y u):x=y:=Option.some.inj (r.abs.symm.trans q.abs)
theorem Vals.inj:∀{xs ys:List V} {us:List Value},Vals xs us->Vals ys us->xs=ys
 |_,_,_,.nil,.nil=>rfl
 |_,_,_,.cons r t,.cons r' t'=>by rw[r.inj r',Vals.inj t t']
section
variable{X:Cx}{pins:List (Addr × Obj)}{σ:St}{H:Hp}{s:Shared}{a:Addr}{xs ys:List V}
theorem SqL.of{K:F__}(h:H a=some (.lst xs)):SqL K H a xs:=.inl (.inl h)
theorem SqT.of{K:F__}(h:H a=some (.tup xs)):SqT K H a xs:=.inl (.inl h)
theorem Inv.list(I:Inv X pins σ H s)(h:SqL X.K H a xs):∃its:List Value,Vals xs its/\PlainL s.heap a its.toArray/\xs.length<=sizeLine:=by
 rcases h with h|⟨o,its,n,hk,hc,hd,hs,hz,r⟩
 ·obtain⟨z,its,n,r,e⟩:=h.ok I.hok;exact⟨its,r,⟨_,n,e,rfl,rfl,rfl⟩,z⟩
 ·refine⟨its.toList,r,⟨o,n,I.kIn a o hk,hc,hd,by simpa using hs⟩,?_⟩;have e:=r.length;simp only[aK'] at e;omega
theorem Inv.tuple(I:Inv X pins σ H s)(h:SqT X.K H a xs):∃its:List Value,Vals xs its/\IsTup s.heap a its.toArray/\xs.length<=sizeLine:=by
 rcases h with h|⟨o,its,n,hk,hc,hs,hz,r⟩
 ·obtain⟨z,its,r,p,_⟩:=h.ok I.hok;exact⟨its,r,p,z⟩
 ·refine⟨its.toList,r,⟨o,I.kIn a o hk,hc,n,by simpa using hs⟩,?_⟩;have e:=r.length;simp only[aK'] at e;omega
theorem Inv.list_inj(I:Inv X pins σ H s)(h:SqL X.K H a xs)(h':SqL X.K H a ys):xs=ys:=by
 obtain⟨its,r,⟨o,n,e,_,_,d⟩,_⟩:=I.list h;obtain⟨its',r',⟨o',n',e',_,_,d'⟩,_⟩:=I.list h';rw[e] at e';cases e';rw[d] at d'
 injection d' with d1 _
 have:its=its':=by simpa using congrArg Array.toList d1
 subst this;exact r.inj r'
theorem Inv.tuple_inj(I:Inv X pins σ H s)(h:SqT X.K H a xs)(h':SqT X.K H a ys):xs=ys:=by
 obtain⟨its,r,⟨o,e,_,n,d⟩,_⟩:=I.tuple h;obtain⟨its',r',⟨o',e',_,n',d'⟩,_⟩:=I.tuple h';rw[e] at e';cases e';rw[d] at d'
 injection d' with d1 _
 have:its=its':=by simpa using congrArg Array.toList d1
 subst this;exact r.inj r'
end
abbrev Cx.wish(X:Cx)(E:Value->Shared->Prop):Cx:={ X with xe:=E }
abbrev Cx.nox(X:Cx):Cx:=X.wish fun _ _=>False
theorem Cx.Ok.wish{X:Cx}(ok:X.Ok)(E:Value->Shared->Prop):(X.wish E).Ok:=
 ⟨ok.mod,ok.kind,ok.glob,ok.blt,ok.above,ok.inj,ok.has,ok.cab,ok.hd,ok.frames,ok.stk,ok.exf,ok.bs,ok.bsz,ok.noex,ok.exfs,ok.funs,ok.frf⟩
theorem Cx.Ok.unwish{X:Cx}{E:Value->Shared->Prop}(ok:(X.wish E).Ok):X.Ok:=
 ⟨ok.mod,ok.kind,ok.glob,ok.blt,ok.above,ok.inj,ok.has,ok.cab,ok.hd,ok.frames,ok.stk,ok.exf,ok.bs,ok.bsz,ok.noex,ok.exfs,ok.funs,ok.frf⟩
section
variable{X:Cx}{pins:List (Addr × Obj)}{σ:St}{H:Hp}{s:Shared}{E:Value->Shared->Prop}
theorem Inv.wish(I:Inv X pins σ H s)(E:Value->Shared->Prop):Inv (X.wish E) pins σ H s:=⟨I.ok.wish E,I.os,I.bare,I.base,I.loc,I.cell,I.free,I.freeC,I.pin,I.hok,I.len⟩
theorem Inv.unwish(I:Inv (X.wish E) pins σ H s):Inv X pins σ H s:=⟨I.ok.unwish,I.os,I.bare,I.base,I.loc,I.cell,I.free,I.freeC,I.pin,I.hok,I.len⟩
theorem SP.unwish{D:Ends}{f:Flow}{s':Shared}(h:SP (X.wish E) pins D f s'):SP X pins D f s':=by
 cases f with
 |next=>obtain⟨σ',H',I,q⟩:=h;exact⟨σ',H',I.unwish,q⟩
 |brk=>obtain⟨σ',H',I,q⟩:=h;exact⟨σ',H',I.unwish,q⟩
 |cont=>obtain⟨σ',H',I,q⟩:=h;exact⟨σ',H',I.unwish,q⟩
 |ret u=>obtain⟨v,σ',H',I,r,q⟩:=h;exact⟨v,σ',H',I.unwish,r,q⟩
theorem PSs.nox{st:List Stmt}{t:TS}(h:PSs X.nox st t):PSs X st t:=fun pins s σ H D I hw=>
 wpAny_mono (h pins s σ H D (I.wish _) hw) (fun _ _ q=>q.unwish) fun _ _ z=>False.elim z
end
section
variable{X:Cx}{st:Stmt}{rest:List Stmt}{t u:TS}{e:Expr}{te:TE}{pos:Pos}
def tNext:TS:=fun D σ H=>D.nx σ H
def tSeq(t u:TS):TS:=fun D σ H=>t { D with nx:=u D } σ H
theorem ac_:PSs X [] tNext:=fun _ _ σ H _ I h=>wpAny_execs_nil ⟨σ,H,I,h⟩
theorem a2_(h1:PS X st t)(h2:PSs X rest u):PSs X (st::rest) (tSeq t u):=by
 intro pins s σ H D I h;refine wpAny_execs_cons (thn (h1 pins s σ H { D with nx:=u D } I h) fun f s1 q=>?_);cases f with
 |next=>
  obtain⟨σ',H',I',q⟩:=q;exact h2 pins s1 σ' H' D I' q
 |ret v=>exact q
 |brk=>exact q
 |cont=>exact q
theorem a5_(h1:PS X st t):PSs X [st] t:=by
 intro pins s σ H D I h;refine wpAny_execs_cons (thn (h1 pins s σ H D I h) fun f s1 q=>?_);cases f with
 |next=>exact wpAny_execs_nil q
 |ret v=>exact q
 |brk=>exact q
 |cont=>exact q
theorem Inv.quiet{pins:List (Addr × Obj)}{σ:St}{H:Hp}{s:Shared}(I:Inv X pins σ H s):interactive X.env=false:=by simp[interactive,I.ok.kind]
def tDrop(te:TE):TS:=fun D σ H=>te σ H fun _ H1=>D.nx σ H1
theorem b6_(he:PE X e te)(hs:swapsWith e none pos.line X.env=pure false:=by rfl):PS X (.Expr e pos) (tDrop te):=by
 intro pins s σ H D I h;exact wpAny_Expr_any (thn (he pins s σ H _ I h) fun v s1 ⟨x,H1,I1,r1,q1⟩=>⟨σ,H1,I1,q1⟩) I.quiet hs
def tRet(te:TE):TS:=fun D σ H=>te σ H D.rt
theorem ab_(he:PE X e te):PS X (.Return (some e) pos) (tRet te):=by
 intro pins s σ H D I h;exact wpAny_Return_some (thn (he pins s σ H _ I h) fun v s1 ⟨x,H1,I1,r1,q1⟩=>⟨x,σ,H1,I1,r1,q1⟩)
def tIfS(c:TT)(t u:TS):TS:=fun D σ H=>c σ H fun b H1=>if b=true then t D σ H1 else u D σ H1
theorem ar_{c:Expr}{a b:List Stmt}{tc:TT}(hc:PT X c tc)(ha:PSs X a t)(hb:PSs X b u):PS X (.If c a b pos) (tIfS tc t u):=by
 intro pins s σ H D I h;refine wpAny_If (thn (hc pins s σ H _ I h) fun d s1 ⟨H1,I1,q1⟩=>?_);cases d with
 |true=>exact ha pins s1 σ H1 D I1 q1
 |false=>exact hb pins s1 σ H1 D I1 q1
def tNever:TS:=fun _ _ _=>False
theorem hl_:PS X st tNever:=fun _ _ _ _ _ _ h=>h.elim
theorem ag_{sts:List Stmt}:PSs X sts tNever:=fun _ _ _ _ _ _ h=>h.elim
end
abbrev TG:=V->St->Hp->(St->Hp->Prop)->Prop
abbrev TGs:=List V->St->Hp->(St->Hp->Prop)->Prop
def PG(X:Cx)(target:Expr)(t:TG):Prop:=
 ∀(pins:List (Addr × Obj)) (s:Shared) (σ:St) (H:Hp) (v:V) (u:Value) (Q:St->Hp->Prop),Inv X pins σ H s->RelV v u->t v σ H Q->
  wpAny (model X.prog X.w) X.A (assign target X.env u) (fun _ s'=>∃σ' H',Inv X pins σ' H' s'/\Q σ' H') X.xe s
def PGs(X:Cx)(ts:List Expr)(t:TGs):Prop:=
 ∀(pins:List (Addr × Obj)) (s:Shared) (σ:St) (H:Hp) (vs:List V) (us:List Value) (Q:St->Hp->Prop),Inv X pins σ H s->Vals vs us->t vs σ H Q->
  wpAny (model X.prog X.w) X.A (assignInOrder ((assignEach ts X.env).map (·.2)) us) (fun _ s'=>∃σ' H',Inv X pins σ' H' s'/\Q σ' H') X.xe s
abbrev TSet:=V->V->V->Hp->(Hp->Prop)->Prop
def PSet(X:Cx)(t:TSet):Prop:=
 ∀(pins:List (Addr × Obj)) (s:Shared) (σ:St) (H:Hp) (o i v:V) (ov iv u:Value) (Q:Hp->Prop),Inv X pins σ H s->RelV o ov->RelV i iv->RelV v u->t o i v H Q->
  wpAny (model X.prog X.w) X.A (setItem ov iv u) (fun _ s'=>∃H',Inv X pins σ H' s'/\Q H') X.xe s
section
variable{X:Cx}{pos:Pos}
def b5'(i:Nat):TG:=fun v σ H Q=>Q (σ.set i (some v)) H
theorem a8_{i:Nat}{x:Str}(hN:X.N.Nodup)(hi:X.N[i]? = some x)(hx:Loc X.env.scope x)(hf:X.fn x=true∨X.env.scope.names.lookup x=some .local:=by first|exact .inl rfl|exact .inr rfl|assumption):PG X (.Name x pos) (b5' i):=by
 intro pins s σ H v u Q I r h;exact wpAny_assign_Name (eG_ I hN hi hx r (fun s' I'=>⟨_,H,I',h⟩) hf)
def gNil:TGs:=fun vs σ H Q=>vs=[]/\Q σ H
def cE'(t:TG)(u:TGs):TGs:=fun vs σ H Q=>∃v r,vs=v::r/\t v σ H fun σ' H'=>u r σ' H' Q
theorem aT_:PGs X [] gNil:=by
 intro pins s σ H vs us Q I r h;obtain⟨e,h⟩:=h;subst e;cases r;exact assignInOrder_nil ⟨σ,H,I,h⟩
theorem ad_{e:Expr}{es:List Expr}{t:TG}{u:TGs}(h1:PG X e t)(h2:PGs X es u)
  (hs:(assignEach (e::es) X.env).map (·.2)=assign e X.env::(assignEach es X.env).map (·.2):=by rfl):PGs X (e::es) (cE' t u):=by
 intro pins s σ H vs us Q I r h;obtain⟨v,vr,e1,h⟩:=h;subst e1;cases r with
 |cons r rr=>
  rw[hs];refine assignInOrder_cons (thn (h1 pins s σ H _ _ _ I r h) fun _ s1 ⟨σ1,H1,I1,q1⟩=>?_);exact h2 pins s1 σ1 H1 _ _ Q I1 rr q1
def gTup(K:F__)(n:Nat)(t:TGs):TG:=fun v σ H Q=>∃a xs,v=.ref a/\SqT K H a xs/\xs.length=n/\t xs σ H Q
theorem bd_{es:List Expr}{k:Nat}{t:TGs}{n:Nat}(hc:X.calm=true)(h:PGs X es t)
  (hn:(assignEach es X.env).length=n:=by rfl) (hst:(assignEach es X.env).findIdx? (·.1)=none:=by rfl):PG X (.Tuple es k pos) (gTup X.K n t):=by
 intro pins s σ H v u Q I r hw;obtain⟨a,xs,e1,hq,hl,hw⟩:=hw;subst e1;cases r;obtain⟨its,rv,ht,hz⟩:=I.tuple hq;refine assign_Tuple_tuple (I.ok.hd hc) ht (by simp[hn,<- hl,rv.length]) hst fun h' hx=>?_;have I1:Inv X pins σ H { s with heap:=h' }:=I.kept (t':=s.toks) fun b o e=>hx b o (au' (Heap.lt_size e)) e;exact h pins _ σ H xs _ Q I1 (by simpa using rv) hw
def gSub(to ti:TE)(t:TSet):TG:=fun v σ H Q=>to σ H fun o H1=>ti σ H1 fun i H2=>t o i v H2 fun H3=>Q σ H3
theorem ij_{o i:Expr}{to ti:TE}{t:TSet}(ho:PE X o to)(hi:PE X i ti)(hs:PSet X t)
  (ha:∀v,assign (.Subscript o i pos) X.env v=(do
   let ov <- holding [v] (eval o X.env)
   let iv <- holding [v,ov] (eval i X.env)
   standAt pos
   holding [v,ov,iv] (setItem ov iv v)
   release [v,ov,iv] []):=by intro _;rfl):PG X (.Subscript o i pos) (gSub to ti t):=by
 intro pins s σ H v u Q I r h;rw[ha];refine wpAny_bind (wpAny_holding (thn (ho pins s σ H _ I h) fun ov s1 ⟨x,H1,I1,r1,q1⟩=>?_));refine wpAny_bind (wpAny_holding (thn (hi pins s1 σ H1 _ I1 q1) fun iv s2 ⟨y,H2,I2,r2,q2⟩=>?_));refine wpAny_bind (wpAny_standAt (wpAny_bind (wpAny_holding (thn (hs pins s2 σ H2 x y v ov iv u _ I2 r1 r2 r q2) fun _ s3 ⟨H3,I3,q3⟩=>?_))));exact wpAny_release ⟨σ,H3,I3,q3⟩
def tAsg(te:TE)(g:TG):TS:=fun D σ H=>te σ H fun x H1=>g x σ H1 D.nx
theorem dT_{tg e:Expr}{te:TE}{g:TG}(he:PE X e te)(hg:PG X tg g)(hs:swapsWithSole [tg] e pos.line X.env=pure false:=by rfl)(hw:swappedStores [tg] e X.env=pure none:=by rfl)
  (h1:(assignEach [tg] X.env).map (·.2)=[assign tg X.env]:=by rfl):PS X (.Assign [tg] e pos) (tAsg te g):=by
 intro pins s σ H D I h;refine wpAny_Assign_stores (thn (he pins s σ H _ I h) fun v s1 ⟨x,H1,I1,r1,q1⟩=>?_) hs hw;rw[h1];exact thn (hg pins s1 σ H1 x v _ I1 r1 q1) fun _ s2 q=>q
theorem a9_{i:Nat}{x:Str}{e:Expr}{te:TE}{pos':Pos}(hN:X.N.Nodup)(hi:X.N[i]? = some x)(hx:Loc X.env.scope x)(he:PE X e te)(hs:swapsWith e (some (.Name x pos')) pos.line X.env=pure false:=by rfl)(hf:X.fn x=true∨X.env.scope.names.lookup x=some .local:=by first|exact .inl rfl|exact .inr rfl|assumption) :
  PS X (.Assign [.Name x pos'] e pos) (tAsg te (b5' i)):=by
 intro pins s σ H D I h;refine wpAny_Assign_Name (thn (he pins s σ H _ I h) fun v s1 ⟨y,H1,I1,r1,q1⟩=>?_) hs;exact eG_ I1 hN hi hx r1 (fun s2 I2=>⟨_,H1,I2,q1⟩) hf
end
section
variable{X:Cx}{pos:Pos}
def tWhile(c:TT)(tb:TS):TS:=fun D σ H=>∃W:Nat->St->Hp->Prop,(∃m,W m σ H)/\∀m σ H,W m σ H->
 c σ H fun b H1=>if b=true then ∃N:St->Hp->Prop,(∀σ' H',N σ' H'->∃m',m'<m/\W m' σ' H')/\tb { D with nx:=N,ct:=N,bk:=D.nx } σ H1 else D.nx σ H1
theorem eR_{c:Expr}{body:List Stmt}{tc:TT}{tb:TS}(hp:PassesOwn (model X.prog X.w) X.A X.env X.xe)(hc:PT X c tc)(hb:PSs X body tb):PS X (.While c body [] pos) (tWhile tc tb):=by
 intro pins s σ H D I h;obtain⟨W,⟨m0,w0⟩,turn⟩:=h;refine wpAny_While (codeAny_whileLoop (fun n s'=>∃σ' H',Inv X pins σ' H' s'/\W n σ' H') ?_ m0 ⟨σ,H,I,w0⟩);rintro n s1 ⟨σ1,H1,I1,w1⟩;refine wpAny_passesOwn hp (thn (hc pins s1 σ1 H1 _ I1 (turn n σ1 H1 w1)) fun b s2 ⟨H2,I2,q2⟩=>?_);cases b with
 |true=>
  obtain⟨N,hN,q2⟩:=q2;rw[if_pos rfl];refine wpAny_passesOwn hp (thn (hb pins s2 σ1 H2 _ I2 q2) fun f s3 q3=>?_);cases f with
  |next=>
   obtain⟨σ3,H3,I3,n3⟩:=q3;obtain⟨m',hm,w3⟩:=hN σ3 H3 n3;exact⟨m',hm,σ3,H3,I3,w3⟩
  |cont=>
   obtain⟨σ3,H3,I3,n3⟩:=q3;obtain⟨m',hm,w3⟩:=hN σ3 H3 n3;exact⟨m',hm,σ3,H3,I3,w3⟩
  |brk=>exact q3
  |ret v=>exact q3
 |false=>
  rw[if_neg aq'];exact wpAny_execs_nil ⟨σ1,H2,I2,q2⟩
end
structure It where
 go:Nat->Hp->Prop
 yld:Nat->Hp->V->Hp->Prop
 stop:Nat->Hp->Prop
def FpOk(X:Cx)(pins:List (Addr × Obj))(H:Hp)(b:Addr):Prop:=
 H b=none/\b≠X.env.locals/\b∉X.fs/\(b∈X.ex∨X.s₀.heap.objs.size<=b)/\(∀x c,X.env.cells.lookup x=some c->c≠b)/\∀p∈X.pn++pins,p.1≠b
theorem Inv.fpOk{X:Cx}{pins:List (Addr × Obj)}{σ:St}{H H':Hp}{s:Shared}{b:Addr}(I:Inv X pins σ H s)(hb:s.heap.objs.size<=b)(hn:H' b=none):FpOk X pins H' b:=by
 refine⟨hn,a5' (aw' I.lt hb),I.nofs hb,.inr (aY' I.sz hb),fun x c e z=>?_,fun p hp z=>?_⟩
 ·obtain⟨v,q⟩:=I.cell x c e;exact absurd (aw' q.lt (by rw[z];exact hb)) (a4' _)
 ·exact absurd (aw' (Heap.lt_size (I.pin p hp).1) (by rw[z];exact hb)) (a4' _)
structure Turn (P:Program) (w:World) (K:F__) (tg:Expr) (J:It) (fp:List Addr) (it:Addr) (tn:Nat->Heap->Prop):Prop where
 mem:it∈fp
 obj:∀i h,tn i h->∀b∈fp,∃o,h.get? b=some o/\∀v,o.data≠.cell v
 keep:∀i h h',tn i h->(∀b∈fp,∀o,h.get? b=some o->h'.get? b=some o)->tn i h'
 item:∀(X:Cx),X.prog=P->X.w=w->X.K=K->X.calm=true->∀(i:Nat) (pins:List (Addr × Obj)) (s:Shared) (σ:St) (H:Hp) (E:Value->Shared->Prop),Inv X pins σ H s->(∀b∈fp,FpOk X pins H b)->tn i s.heap->J.go i H->
  wpAny (model P w) X.A (pyNext (.ref it)) (fun r s1=>∃u,r=some u /\
   wpAny (model P w) X.A (letOwnedTupleGo tg (.ref it) u) (fun _ s2=>∃x H',Inv X pins σ H' s2/\RelV x u/\J.yld i H x H'/\tn (i+1) s2.heap/\∀b∈fp,H' b=none) E s1) E s
 done:∀(X:Cx),X.prog=P->X.w=w->X.K=K->X.calm=true->∀(i:Nat) (pins:List (Addr × Obj)) (s:Shared) (σ:St) (H:Hp) (E:Value->Shared->Prop),Inv X pins σ H s->(∀b∈fp,FpOk X pins H b)->tn i s.heap->J.stop i H->
  wpAny (model P w) X.A (pyNext (.ref it)) (fun r s1=>r=none/\Inv X pins σ H s1) E s
 self:∀(A:Around) (i:Nat) (s:Shared) (Q:Value->Shared->Prop) (E:Value->Shared->Prop),tn i s.heap->Q (.ref it) s->wpAny (model P w) A (pyIter (.ref it)) Q E s
abbrev TI:=St->Hp->(It->Hp->Prop)->Prop
def PIE(X:Cx)(pins:List (Addr × Obj))(σ:St)(tg:Expr)(R:It->Hp->Prop)(itv:Value)(s2:Shared):Prop:=
 ∃(it:Addr) (fp:List Addr) (tn:Nat->Heap->Prop) (J:It) (H':Hp),itv=.ref it/\Inv X pins σ H' s2/\Turn X.prog X.w X.K tg J fp it tn/\tn 0 s2.heap/\(∀b∈fp,FpOk X pins H' b)/\R J H'
def PI(X:Cx)(tg iter:Expr)(wi:TI):Prop:=
 ∀(pins:List (Addr × Obj)) (s:Shared) (σ:St) (H:Hp) (R:It->Hp->Prop),Inv X pins σ H s->wi σ H R->
  wpAny (model X.prog X.w) X.A (eval iter X.env) (fun v s1=>wpAny (model X.prog X.w) X.A (pyIter v) (PIE X pins σ tg R) X.xe s1) X.xe s
theorem gD_{M:Model}{A:Around}{E:Value->Shared->Prop}{s:Shared}{tg:Expr}{it:Addr}{u:Value}{o:Obj}{n:String}{vs:Array Value}{Q:Unit->Shared->Prop}(ho:s.heap.get? it=some o)(hc:o.cls=.type n)(hd:o.data=.fields vs)
  (hn:["enumerate","zip","dict_itemiterator","dict_reverseitemiterator","odict_iterator","itertools.zip_longest","itertools.pairwise"].contains n=false) (hQ:Q () s):wpAny M A (letOwnedTupleGo tg (.ref it) u) Q E s:=by
 unfold letOwnedTupleGo
 cases tg<;>first
  |exact wpAny_pure hQ
  |(cases u<;>first
    |exact wpAny_pure hQ
    |(refine wpAny_bind (wpAny_load ho ?_)
      rw[hc,hd];show wpAny M A (if (["enumerate","zip","dict_itemiterator","dict_reverseitemiterator","odict_iterator","itertools.zip_longest","itertools.pairwise"].contains n&&vs[0]? == some (rawInt _))=true then _ else _) Q E s;rw[if_neg (by intro h;rw[hn,a2'] at h;cases h)];exact wpAny_pure hQ))
def Itl(K:F__)(a:Addr):It:=
 ⟨fun i H=>∃xs x,SqL K H a xs/\xs[i]? = some x,fun i H x H'=>H'=H/\∀xs,SqL K H a xs->xs[i]? = some x,fun i H=>∃xs,SqL K H a xs/\xs.length<=i⟩
def Itr(lo:Int)(n:Nat):It:=⟨fun i _=>i<n,fun i H x H'=>H'=H/\x=.int (lo+i),fun i _=>n<=i⟩
theorem gN_{P:Program}{w:World}{K:F__}{tg:Expr}(a it:Addr):Turn P w K tg (Itl K a) [it] it (fun i h=>h.IsListIter it a i) where
 mem:=by simp
 obj:=fun i h st b hb=>by
  have e:b=it:=by simpa using hb
  subst e;obtain⟨o,e,c,d⟩:=st;exact⟨o,e,fun v z=>by rw[d] at z;cases z⟩
 keep:=fun i h h' st k=>st.at fun o e=>k it (by simp) o e
 item:=by
  intro X hP hw hK hc i pins s σ H E I hf st hg;subst hP hw hK;obtain⟨xs,x,hq,hx⟩:=hg;obtain⟨its,rv,p,hz⟩:=I.list hq;obtain⟨u,hu,ru⟩:=rv.get hx;obtain⟨f0,f1,f2,f3,f4,f5⟩:=hf it (by simp);refine wpAny_pyNext_list_item st p.isList (x:=u) (by simpa using hu) fun h' st' sb=>?_;have I1:Inv X pins σ H { s with heap:=h' }:=I.turned (t':=s.toks) (fun b o hb e=>(sb.2 b hb).trans e) f0 f1 f3 f4 f5;obtain⟨o,e,c,d⟩:=id st';exact⟨u,rfl,gD_ (s:={ s with heap:=h' }) e c d (by decide) ⟨x,H,I1,ru,⟨rfl,fun ys hy=>by rw[I.list_inj hy hq];exact hx⟩,st',fun b hb=>(hf b hb).1⟩⟩
 done:=by
  intro X hP hw hK hc i pins s σ H E I hf st hg;subst hP hw hK;obtain⟨xs,hq,hx⟩:=hg;obtain⟨its,rv,p,hz⟩:=I.list hq;obtain⟨f0,f1,f2,f3,f4,f5⟩:=hf it (by simp);have hl:=rv.length;exact wpAny_pyNext_list_end (I.ok.hd hc) st p.isList (by simp;omega) fun h' eb=>⟨rfl,I.turned (t':=s.toks) (fun b o hb e=>eb b o hb e) f0 f1 f3 f4 f5⟩
 self:=fun _ _ _ _ _ st h=>wpAny_pyIter_listiter st h
theorem fw_{P:Program}{w:World}{K:F__}{tg:Expr}(it:Addr)(lo:Int)(n:Nat):Turn P w K tg (Itr lo n) [it] it (fun i h=>IsRangeIter h it (lo+(i:Nat) * 1) ((n:Int) - (i:Nat)) 1) where
 mem:=by simp
 obj:=fun i h st b hb=>by
  have e:b=it:=by simpa using hb
  subst e
  exact⟨_,st,fun v z=>by
   have z':Data.fields _=Data.cell v:=z;cases z'⟩
 keep:=fun i h h' st k=>k it (by simp) _ st
 item:=by
  intro X hP hw hK hc i pins s σ H E I hf st hg;subst hP hw hK;obtain⟨f0,f1,f2,f3,f4,f5⟩:=hf it (by simp);have W:=Walks.range (prog:=X.prog) (w:=X.w) (I.ok.hd hc) it lo 1 n;refine W.item i s _ _ hg st fun v h' tk hv st' kk=>?_;obtain⟨t,rfl⟩:=hv;have I1:Inv X pins σ H { s with heap:=h',toks:=tk }:=I.turned (fun b o hb e=>kk b o (by simpa using hb) e) f0 f1 f3 f4 f5;refine⟨_,rfl,gD_ (s:={ s with heap:=h',toks:=tk }) (n:="range_iterator") st' rfl rfl (by decide) ⟨.int (lo+i),H,I1,⟨t,?_⟩,⟨rfl,rfl⟩,st',fun b hb=>(hf b hb).1⟩⟩;rw[Int.mul_one]
 done:=by
  intro X hP hw hK hc i pins s σ H E I hf st hg;subst hP hw hK;obtain⟨f0,f1,f2,f3,f4,f5⟩:=hf it (by simp);exact wpAny_pyNext_range_end (I.ok.hd hc) st (by have:n<=i:=hg;omega) fun h' eb=>⟨rfl,I.turned (t':=s.toks) (fun b o hb e=>eb b o hb e) f0 f1 f3 f4 f5⟩
 self:=fun _ _ _ _ _ st h=>wpAny_pyIter_rangeiter st h
end L2
namespace L2
open PySem PySem.Spec PyProof.Rows
section
variable{X:Cx}{tg:Expr}
def iList(K:F__)(tl:TE):TI:=fun σ H R=>tl σ H fun x H1=>∃a,x=.ref a/\(∃xs,SqL K H1 a xs)/\R (Itl K a) H1
theorem am_{l:Expr}{tl:TE}(hl:PE X l tl):PI X tg l (iList X.K tl):=by
 intro pins s σ H R I h;refine thn (hl pins s σ H _ I h) fun v s1 ⟨x,H1,I1,r1,q1⟩=>?_;obtain⟨a,e,⟨xs,hq⟩,q⟩:=q1;subst e;cases r1;obtain⟨its,rv,p,hz⟩:=I1.list hq;refine wpAny_pyIter_list p.isList ?_;refine⟨s1.heap.objs.size,[s1.heap.objs.size],_,_,H1,rfl,I1.kept (t':=s1.toks) fun b o e=>Heap.get?_push_of_some _ e,gN_ a _,⟨_,Heap.get?_push_size _ rfl,rfl,rfl⟩,fun b hb=>?_,q⟩;have e:b=s1.heap.objs.size:=by simpa using hb
 subst e;exact I1.fpOk (ag' _) (I1.hok.fresh (ag' _))
theorem ie_{pins:List (Addr × Obj)}{σ:St}{H:Hp}{s:Shared}{R:It->Hp->Prop}{E:Value->Shared->Prop}{lo hi:Int}{t u v:Tok}{tk:Nat}(I:Inv X pins σ H s)(h1:-(2 ^ 62)<=lo)(h2:lo<2 ^ 62)(h3:-(2 ^ 62)<=hi)(h4:hi<2 ^ 62)
  (q:R (Itr lo (hi - lo).toNat) H):wpAny (model X.prog X.w) X.A (pyIter (.ref s.heap.objs.size)) (PIE X pins σ tg R) E { s with heap:=s.heap.push { cls:=.type "range",data:=.fields #[.int lo t,.int hi u,.int 1 v] },toks:=tk }:=by
 refine wpAny_pyIter_range (IsRange.new ..) (small_one h1 h2 h3 h4) ?_;have I1:Inv X pins σ H { s with heap:=s.heap.push { cls:=.type "range",data:=.fields #[.int lo t,.int hi u,.int 1 v] },toks:=tk }:=I.kept fun b o e=>Heap.get?_push_of_some _ e
 refine⟨(s.heap.push { cls:=.type "range",data:=.fields #[.int lo t,.int hi u,.int 1 v] }).objs.size,[(s.heap.push { cls:=.type "range",data:=.fields #[.int lo t,.int hi u,.int 1 v] }).objs.size],_,_,H,rfl,
  I1.kept (t':=tk) fun b o e=>Heap.get?_push_of_some _ e,fw_ _ lo (hi - lo).toNat,?_,fun b hb=>?_,q⟩
 ·have e1:lo+((0:Nat):Int) * 1=lo:=by simp
  have e2:(((hi - lo).toNat:Nat):Int) - ((0:Nat):Int)=Builtin.Range.rangeSize lo hi 1:=by rw[rangeSize_one];split<;>omega
  show IsRangeIter _ _ (lo+((0:Nat):Int) * 1) ((((hi - lo).toNat:Nat):Int) - ((0:Nat):Int)) 1;rw[e1,e2];exact Heap.get?_push_size _ rfl
 ·have e:b=(s.heap.push { cls:=.type "range",data:=.fields #[.int lo t,.int hi u,.int 1 v] }).objs.size:=by simpa using hb
  subst e;exact I1.fpOk (ag' _) (I1.hok.fresh (ag' _))
def iRng1(ta:TA):TI:=fun σ H R=>ta σ H fun vs H1=>∃j:Int,vs=[.int j]/\-(2 ^ 62)<=j/\j<2 ^ 62/\R (Itr 0 j.toNat) H1
theorem bS_{a:Expr}{ta:TA}{p pos:Pos}(hg:Gl X "range")(hm:X.mg "range"=none)(ha:PA X [a] ta)(hs:starEach [a] X.env=[(false,eval a X.env)]:=by rfl):PI X tg (.Call (.Name "range" p) [a] [] pos) (iRng1 ta):=by
 intro pins s σ H R I h;refine Call_ (d1_ I hg hm boot_range (PyProof.Rows.callWith_type1 (thn (ha pos pins s σ H _ I h) fun us s1 ⟨vs,H1,I1,r1,q1⟩=>?_) hs rfl));obtain⟨j,e,q1,q2,q⟩:=q1;subst e;cases r1 with
 |cons r rr=>
  cases rr;obtain⟨t,rfl⟩:=r;exact call_range_1 (ie_ I1 (by omega) (by omega) q1 q2 (by simpa using q))
def tFor(wi:TI)(g:TG)(tb:TS):TS:=fun D σ H=>wi σ H fun J H1=>∃W:Nat->Nat->St->Hp->Prop,(∃m,W 0 m σ H1)/\∀i m σ H,W i m σ H->
 (J.stop i H/\D.nx σ H)∨(J.go i H/\∃N:St->Hp->Prop,(∀σ' H',N σ' H'->∃m',m'<m/\W (i+1) m' σ' H')/\∀x H',J.yld i H x H'->g x σ H' fun σ2 H2=>tb { D with nx:=N,ct:=N,bk:=D.nx } σ2 H2)
def bP'(fp:List Addr)(h:Heap):List (Addr × Obj):=fp.filterMap fun b=>(h.get? b).map fun o=>(b,o)
theorem bD_{fp:List Addr}{h:Heap}{b:Addr}{o:Obj}(hb:b∈fp)(e:h.get? b=some o):(b,o)∈bP' fp h:=aN'.mpr ⟨b,hb,by rw[e];rfl⟩
theorem fW_{fp:List Addr}{h:Heap}{p:Addr × Obj}(hp:p∈bP' fp h):p.1∈fp/\h.get? p.1=some p.2:=by
 obtain⟨b,hb,e⟩:=aN'.mp hp;cases q:h.get? b with
 |none=>rw[q] at e;cases e
 |some o=>
  rw[q] at e;have e':(b,o)=p:=Option.some.inj e;subst e';exact⟨hb,q⟩
theorem Inv.pinned{pins:List (Addr × Obj)}{σ:St}{H:Hp}{s:Shared}{fp:List Addr}(I:Inv X pins σ H s)(hf:∀b∈fp,FpOk X pins H b)(ho:∀b∈fp,∃o,s.heap.get? b=some o/\∀v,o.data≠.cell v):Inv X (pins++bP' fp s.heap) σ H s:=
 I.pins_of fun p hp=>(av'.mp hp).elim (fun z=>I.pin p (ax' _ z)) fun z=>by
  obtain⟨hb,e⟩:=fW_ z;obtain⟨f0,f1,f2,_⟩:=hf p.1 hb;obtain⟨o,e',d⟩:=ho p.1 hb;rw[e] at e';cases e';exact⟨e,f0,f1,f2,d⟩
theorem Inv.unpinned{pins pl:List (Addr × Obj)}{σ:St}{H:Hp}{s:Shared}(I:Inv X (pins++pl) σ H s):Inv X pins σ H s:=I.pins_of fun p hp=>I.pin p (ax' _ (List.mem_append_left _ hp))
theorem aG_{iter:Expr}{body:List Stmt}{wi:TI}{g:TG}{tb:TS}{pos:Pos}(hp:PassesOwn (model X.prog X.w) X.A X.env X.xe)(hc:X.calm=true)(hi:PI X tg iter wi)(hg:PG X tg g)(hb:PSs X body tb)
  (hs:∀x,foldedSetIterable iter X.env x=pure x:=by intro _;rfl):PS X (.For tg iter body [] pos) (tFor wi g tb):=by
 intro pins s σ H D I h;refine wpAny_For (thn (hi pins s σ H _ I h) fun v s1 h1=>thn h1 fun itv s2 h2=>?_) hs;obtain⟨it,fp,tn,J,H2,e,I2,T,st2,f2,W,⟨m0,w0⟩,turn⟩:=h2;subst e;have stat:∀{H':Hp},(∀b∈fp,H' b=none)->∀b∈fp,FpOk X pins H' b:=fun hn b hb=>⟨hn b hb,(f2 b hb).2⟩;refine codeAny_forLoop_any (fun n s'=>∃i σ' H',Inv X pins σ' H' s'/\tn i s'.heap/\(∀b∈fp,H' b=none)/\W i n σ' H') ?_ m0 ⟨0,σ,H2,I2,st2,fun b hb=>(f2 b hb).1,w0⟩;rintro n s3 ⟨i,σ3,H3,I3,st3,fr3,w3⟩;rcases turn i n σ3 H3 w3 with⟨stop,qn⟩|⟨go,N,hN,step⟩
 ·refine wpAny_passesOwn hp (thn (T.done X rfl rfl rfl hc i pins s3 σ3 H3 X.xe I3 (stat fr3) st3 stop) fun r s4 ⟨hr,I4⟩=>?_);subst hr;exact wpAny_execs_nil ⟨σ3,H3,I4,qn⟩
 ·refine wpAny_passesOwn hp (thn (T.item X rfl rfl rfl hc i pins s3 σ3 H3 X.xe I3 (stat fr3) st3 go) fun r s4 ⟨u,hr,h4⟩=>?_);subst hr;refine wpAny_passesOwn hp (thn h4 fun _ s5 ⟨x,H5,I5,r5,y5,st5,fr5⟩=>?_);have I5':=I5.pinned (stat fr5) (T.obj _ _ st5);refine wpAny_passesOwn hp (thn (hg _ s5 σ3 H5 x u _ I5' r5 (step x H5 y5)) fun _ s6 ⟨σ6,H6,I6,q6⟩=>?_);refine wpAny_passesOwn hp (thn (hb _ s6 σ6 H6 _ I6 q6) fun f s7 q7=>?_)
  have again:∀{σ7:St} {H7:Hp},Inv X (pins++bP' fp s5.heap) σ7 H7 s7->N σ7 H7->∃m,m<n/\∃i σ' H',Inv X pins σ' H' s7/\tn i s7.heap/\(∀b∈fp,H' b=none)/\W i m σ' H':=fun {σ7 H7} I7 n7=>by
   obtain⟨m',hm,w7⟩:=hN σ7 H7 n7;refine⟨m',hm,i+1,σ7,H7,I7.unpinned,T.keep _ _ _ st5 fun b hb o e=>(I7.pin (b,o) (ax' _ (ax' _ (bD_ hb e)))).1,fun b hb=>?_,w7⟩;obtain⟨o,e,d⟩:=T.obj _ _ st5 b hb;exact (I7.pin (b,o) (ax' _ (ax' _ (bD_ hb e)))).2.1
  cases f with
  |next=>obtain⟨σ7,H7,I7,n7⟩:=q7;exact again I7 n7
  |cont=>obtain⟨σ7,H7,I7,n7⟩:=q7;exact again I7 n7
  |brk=>obtain⟨σ7,H7,I7,q7⟩:=q7;exact⟨σ7,H7,I7.unpinned,q7⟩
  |ret v=>obtain⟨x7,σ7,H7,I7,r7,q7⟩:=q7;exact⟨x7,σ7,H7,I7.unpinned,r7,q7⟩
end
theorem as_{K:F__}{a:Addr}{xs:List V}{g:TG}{tb:TS}{D:Ends}{σ:St}{H:Hp}(Pv:Nat->St->Hp->Prop)(h0:Pv 0 σ H)(hl:∀i σ H,i<=xs.length->Pv i σ H->SqL K H a xs)
  (hs:∀i x σ H,xs[i]? = some x->Pv i σ H->g x σ H fun σ2 H2=>tb { D with nx:=Pv (i+1),ct:=Pv (i+1),bk:=D.nx } σ2 H2) (hd:∀σ H,Pv xs.length σ H->D.nx σ H) :
  ∃W:Nat->Nat->St->Hp->Prop,(∃m,W 0 m σ H)/\∀i m σ H,W i m σ H->
   ((Itl K a).stop i H/\D.nx σ H)∨((Itl K a).go i H/\∃N:St->Hp->Prop,(∀σ' H',N σ' H'->∃m',m'<m/\W (i+1) m' σ' H')/\∀x H',(Itl K a).yld i H x H'->g x σ H' fun σ2 H2=>tb { D with nx:=N,ct:=N,bk:=D.nx } σ2 H2):=by
 refine⟨fun i m σ H=>m=xs.length - i/\i<=xs.length/\Pv i σ H,⟨xs.length,by simp,aC' _,h0⟩,?_⟩;rintro i m σ H ⟨rfl,hi,p⟩;have q:=hl i σ H hi p;by_cases hlt:i<xs.length
 ·refine .inr ⟨⟨xs,xs[i],q,by simp[hlt]⟩,Pv (i+1),fun σ' H' p'=>⟨xs.length - (i+1),by omega,rfl,hlt,p'⟩,fun x H' y=>?_⟩;obtain⟨e,y⟩:=y;subst e;exact hs i x σ _ (y xs q) p
 ·have e:i=xs.length:=by omega
  subst e;exact .inl ⟨⟨xs,q,ag' _⟩,hd σ H p⟩
theorem fK_{lo:Int}{n:Nat}{g:TG}{tb:TS}{D:Ends}{σ:St}{H:Hp}(Pv:Nat->St->Hp->Prop)(h0:Pv 0 σ H)
  (hs:∀i σ H,i<n->Pv i σ H->g (.int (lo+i)) σ H fun σ2 H2=>tb { D with nx:=Pv (i+1),ct:=Pv (i+1),bk:=D.nx } σ2 H2) (hd:∀σ H,Pv n σ H->D.nx σ H) :
  ∃W:Nat->Nat->St->Hp->Prop,(∃m,W 0 m σ H)/\∀i m σ H,W i m σ H->
   ((Itr lo n).stop i H/\D.nx σ H)∨((Itr lo n).go i H/\∃N:St->Hp->Prop,(∀σ' H',N σ' H'->∃m',m'<m/\W (i+1) m' σ' H')/\∀x H',(Itr lo n).yld i H x H'->g x σ H' fun σ2 H2=>tb { D with nx:=N,ct:=N,bk:=D.nx } σ2 H2):=by
 refine⟨fun i m σ H=>m=n - i/\i<=n/\Pv i σ H,⟨n,by simp,aC' _,h0⟩,?_⟩;rintro i m σ H ⟨rfl,hi,p⟩;by_cases hlt:i<n
 ·refine .inr ⟨hlt,Pv (i+1),fun σ' H' p'=>⟨n - (i+1),by omega,rfl,hlt,p'⟩,fun x H' y=>?_⟩;obtain⟨e,y⟩:=y;subst e y;exact hs i σ _ hlt p
 ·have e:i=n:=by omega
  subst e;exact .inl ⟨ag' _,hd σ H p⟩
theorem hs_{c:TT}{tb:TS}{D:Ends}{σ:St}{H:Hp}(Pv:St->Hp->Prop)(μ:St->Hp->Nat)(h0:Pv σ H)
  (hs:∀σ H,Pv σ H->c σ H fun b H1=>if b=true then tb { D with nx:=fun σ' H'=>Pv σ' H'/\μ σ' H'<μ σ H,ct:=fun σ' H'=>Pv σ' H'/\μ σ' H'<μ σ H,bk:=D.nx } σ H1 else D.nx σ H1)
  (mono:∀σ H Q Q',(∀b H1,Q b H1->Q' b H1)->c σ H Q->c σ H Q'):tWhile c tb D σ H:=by
 refine⟨fun m σ H=>m=μ σ H/\Pv σ H,⟨_,rfl,h0⟩,?_⟩;rintro m σ H ⟨rfl,p⟩;refine mono σ H _ _ (fun b H1 q=>?_) (hs σ H p);cases b with
 |true=>exact⟨_,fun σ' H' ⟨p',l⟩=>⟨_,l,rfl,p'⟩,q⟩
 |false=>exact q
end L2
namespace L2
open PySem PySem.Spec PyProof.Rows
abbrev R2:=V->V->Hp->VK->Prop
def OpR(X:Cx)(f:Value->Value->Sem Value)(r:R2):Prop:=
 ∀(pins:List (Addr × Obj)) (s:Shared) (σ:St) (H:Hp) (x y:V) (v u:Value) (Q:VK),Inv X pins σ H s->RelV x v->RelV y u->r x y H Q->
  wpAny (model X.prog X.w) X.A (f v u) (EP X pins σ Q) X.xe s
def UnR(X:Cx)(f:Value->Sem Value)(r:V->Hp->VK->Prop):Prop:=
 ∀(pins:List (Addr × Obj)) (s:Shared) (σ:St) (H:Hp) (x:V) (v:Value) (Q:VK),Inv X pins σ H s->RelV x v->r x H Q->
  wpAny (model X.prog X.w) X.A (f v) (EP X pins σ Q) X.xe s
def bD'(X:Cx)(f:Value)(r:List V->Hp->VK->Prop):Prop:=
 ∀(pins:List (Addr × Obj)) (s:Shared) (σ:St) (H:Hp) (xs:List V) (us:List Value) (Q:VK),Inv X pins σ H s->Vals xs us->r xs H Q->
  wpAny (model X.prog X.w) X.A (call f us) (EP X pins σ Q) X.xe s
def tOp(r:R2)(ta tb:TE):TE:=fun σ H Q=>ta σ H fun x H1=>tb σ H1 fun y H2=>r x y H2 Q
def tUn(r:V->Hp->VK->Prop)(ta:TE):TE:=fun σ H Q=>ta σ H fun x H1=>r x H1 Q
def rI(C:Int->Int->Prop)(g:Int->Int->V):R2:=fun x y H Q=>∃i j,x=.int i/\y=.int j/\C i j/\Q (g i j) H
def rI0(g:Int->Int->V):R2:=fun x y H Q=>∃i j,x=.int i/\y=.int j/\Q (g i j) H
def rU(g:Int->V):V->Hp->VK->Prop:=fun x H Q=>∃i,x=.int i/\Q (g i) H
section
variable{X:Cx}{a b c:Expr}{ta tb tc:TE}{pos:Pos}
theorem binT(ha:PE X a ta)(hb:PE X b tb){pins:List (Addr × Obj)}{s:Shared}{σ:St}{H:Hp}{R:V->V->Hp->Prop}(I:Inv X pins σ H s)
  (h:ta σ H fun x H1=>tb σ H1 fun y H2=>R x y H2) {Q:Value->Shared->Prop} {f:Value->Value->Sem Value}
  (hf:∀v u s2 x y H2,Inv X pins σ H2 s2->RelV x v->RelV y u->R x y H2->wpAny (model X.prog X.w) X.A (f v u) Q X.xe s2) :
  wpAny (model X.prog X.w) X.A (eval a X.env) (fun v s₁=>wpAny (model X.prog X.w) X.A (eval b X.env) (fun u s₂=>wpAny (model X.prog X.w) X.A (f v u) Q X.xe s₂) X.xe s₁) X.xe s:=by
 refine thn (ha pins s σ H _ I h) fun v s1 ⟨x,H1,I1,r1,q1⟩=>?_;refine thn (hb pins s1 σ H1 _ I1 q1) fun u s2 ⟨y,H2,I2,r2,q2⟩=>?_;exact hf v u s2 x y H2 I2 r1 r2 q2
theorem al_{op:Operator}{r:R2}(ho:OpR X (binaryOp op) r)(ha:PE X a ta)(hb:PE X b tb):PE X (.BinOp a op b pos) (tOp r ta tb):=by
 intro pins s σ H Q I h;exact wpAny_BinOp (binT ha hb I h fun v u s2 x y H2 I2 rx ry q=>ho pins s2 σ H2 x y v u Q I2 rx ry q)
theorem kx_{op:UnaryOp}{r:V->Hp->VK->Prop}(ho:UnR X (unaryOp op) r)(ha:PE X a ta):PE X (.UnaryOp op a pos) (tUn r ta):=by
 intro pins s σ H Q I h;exact UnaryOp_ (thn (ha pins s σ H _ I h) fun v s1 ⟨x,H1,I1,r1,q1⟩=>ho pins s1 σ H1 x v Q I1 r1 q1)
theorem opI{f:Value->Value->Sem Value}{C:Int->Int->Prop}{g:Int->Int->Int}
  (rule:∀(i j:Int) (t u:Tok) (s:Shared) (Q:Value->Shared->Prop) (E:Value->Shared->Prop),C i j->Q (.int (g i j) s.toks) { s with toks:=s.toks+1 }->wpAny (model X.prog X.w) X.A (f (.int i t) (.int j u)) Q E s) :
  OpR X f (rI C fun i j=>.int (g i j)):=by
 intro pins s σ H x y v u Q I rx ry h;obtain⟨i,j,rfl,rfl,hc,q⟩:=h;obtain⟨t,rfl⟩:=rx;obtain⟨t',rfl⟩:=ry;exact rule i j t t' s _ _ hc ⟨.int (g i j),H,I.tok _,⟨_,rfl⟩,q⟩
theorem opI0{f:Value->Value->Sem Value}{g:Int->Int->Int}
  (rule:∀(i j:Int) (t u:Tok) (s:Shared) (Q:Value->Shared->Prop) (E:Value->Shared->Prop),Q (.int (g i j) s.toks) { s with toks:=s.toks+1 }->wpAny (model X.prog X.w) X.A (f (.int i t) (.int j u)) Q E s) :
  OpR X f (rI0 fun i j=>.int (g i j)):=by
 intro pins s σ H x y v u Q I rx ry h;obtain⟨i,j,rfl,rfl,q⟩:=h;obtain⟨t,rfl⟩:=rx;obtain⟨t',rfl⟩:=ry;exact rule i j t t' s _ _ ⟨.int (g i j),H,I.tok _,⟨_,rfl⟩,q⟩
theorem opB0{f:Value->Value->Sem Value}{g:Int->Int->Bool}
  (rule:∀(i j:Int) (t u:Tok) (s:Shared) (Q:Value->Shared->Prop) (E:Value->Shared->Prop),Q (.bool (g i j)) s->wpAny (model X.prog X.w) X.A (f (.int i t) (.int j u)) Q E s) :
  OpR X f (rI0 fun i j=>.bl (g i j)):=by
 intro pins s σ H x y v u Q I rx ry h;obtain⟨i,j,rfl,rfl,q⟩:=h;obtain⟨t,rfl⟩:=rx;obtain⟨t',rfl⟩:=ry;exact rule i j t t' s _ _ ⟨.bl (g i j),H,I,rfl,q⟩
def CDiv(i j:Int):Prop:=0<j/\j<1073741824
def CPow(i j:Int):Prop:=0<=j/\j<=1000000/\i.natAbs<2 ^ 64
def CMul(i j:Int):Prop:=(-(2 ^ 64)<i/\i<2 ^ 64)∨(-(2 ^ 64)<j/\j<2 ^ 64)
theorem CMul.ok{i j:Int}(h:CMul i j):IntMulOk i j:=by
 rcases h with⟨h1,h2⟩|⟨h1,h2⟩
 ·exact .of_left (intBits_le_64 h1 h2)
 ·exact .of_right (intBits_le_64 h1 h2)
theorem b3_:OpR X (binaryOp .Add) (rI0 fun i j=>.int (i+j)):=opI0 fun _ _ _ _ _ _ _ q=>add_int q
theorem iF_:OpR X (binaryOp .Sub) (rI0 fun i j=>.int (i - j)):=opI0 fun _ _ _ _ _ _ _ q=>sub_int q
theorem b8_:OpR X (binaryOp .Mult) (rI CMul fun i j=>.int (i * j)):=opI fun _ _ _ _ _ _ _ hc q=>mul_int q hc.ok
theorem bt_:OpR X (binaryOp .FloorDiv) (rI CDiv fun i j=>.int (i / j)):=opI fun i j _ _ _ _ _ hc q=>by
 have h1:(0:Int)<j:=hc.1;have h2:j<1073741824:=hc.2;exact floordiv_int (by omega) (by rw[Int.fdiv_eq_ediv_of_nonneg i (by omega)];exact q) (.inl (PyProof.noPylong_small (by omega)))
theorem bO_:OpR X (binaryOp .Mod) (rI (fun _ j=>0<j) fun i j=>.int (i % j)):=opI fun i j _ _ _ _ _ hc q=>by
 have h1:(0:Int)<j:=hc;exact mod_int' (by omega) (by rw[Int.fmod_eq_emod_of_nonneg i (by omega)];exact q)
theorem in_:OpR X (binaryOp .Pow) (rI CPow fun i j=>.int (i ^ j.toNat)):=opI fun _ _ _ _ _ _ _ hc q=>pow_int_small hc.1 hc.2.1 hc.2.2 q
theorem unI{f:Value->Sem Value}{g:Int->Int}
  (rule:∀(i:Int) (t:Tok) (s:Shared) (Q:Value->Shared->Prop) (E:Value->Shared->Prop),Q (.int (g i) s.toks) { s with toks:=s.toks+1 }->wpAny (model X.prog X.w) X.A (f (.int i t)) Q E s) :
  UnR X f (rU fun i=>.int (g i)):=by
 intro pins s σ H x v Q I rx h;obtain⟨i,rfl,q⟩:=h;obtain⟨t,rfl⟩:=rx;exact rule i t s _ _ ⟨.int (g i),H,I.tok _,⟨_,rfl⟩,q⟩
theorem kh_:UnR X (unaryOp .USub) (rU fun i=>.int (-i)):=unI fun _ _ _ _ _ q=>neg_int q
end
def scal:V->V->Bool
 |.non,.non=>true | .non,.int _=>true | .int _,.non=>true | .non,.bl _=>true | .bl _,.non=>true | .non,.str _=>true | .str _,.non=>true
 |.int _,.int _=>true | .bl _,.bl _=>true | .str _,.str _=>true | .byt _,.byt _=>true
 |.int _,.str _=>true | .str _,.int _=>true | .bl _,.str _=>true | .str _,.bl _=>true
 |_,_=>false
def rEq:R2:=fun x y H Q=>scal x y=true/\Q (.bl (decide (x=y))) H
def rNe:R2:=fun x y H Q=>scal x y=true/\Q (.bl (!decide (x=y))) H
theorem gj_{i j:Int}:decide (V.int i=V.int j)=(i == j):=by
 rw[Bool.eq_iff_iff];simp
theorem iB_{i j:Bool}:decide (V.bl i=V.bl j)=(i == j):=by
 rw[Bool.eq_iff_iff];simp
theorem gS_{i j:Str}:decide (V.str i=V.str j)=(i == j):=by
 rw[Bool.eq_iff_iff];simp
theorem g2_{i j:Array UInt8}:decide (V.byt i=V.byt j)=(i.toList == j.toList):=by
 rw[Bool.eq_iff_iff];cases i;cases j;simp
section
variable{X:Cx}{a b c:Expr}{ta tb tc:TE}{pos:Pos}
theorem aw_{pins:List (Addr × Obj)}{σ:St}{H:Hp}{s:Shared}{Q:VK}{k k':Bool}(I:Inv X pins σ H s)(q:Q (.bl k) H)(e:k=k'):EP X pins σ Q (.bool k') s:=by
 subst e;exact⟨.bl k,H,I,rfl,q⟩
theorem bP_:OpR X (compareOp .Eq) rEq:=by
 intro pins s σ H x y v u Q I rx ry h;obtain⟨hs,q⟩:=h;cases x with
 |non=>
  cases rx;cases y with
  |non=>cases ry;exact PySem.EqNone.eq_none_none (aw_ I q (by simp))
  |bl j=>cases ry;exact PySem.EqNone.eq_none_bool (aw_ I q (by simp))
  |int j=>obtain⟨t',rfl⟩:=ry;exact PySem.EqNone.eq_none_int (aw_ I q (by simp))
  |str j=>obtain⟨t',rfl⟩:=ry;exact PySem.EqNone.eq_none_str (aw_ I q (by simp))
  |_=>exact absurd (show false=true from hs) aq'
 |bl i=>
  cases rx;cases y with
  |non=>cases ry;exact PySem.EqNone.eq_bool_none (aw_ I q (by simp))
  |bl j=>cases ry;exact eq_bool (aw_ I q iB_)
  |str j=>obtain⟨t',rfl⟩:=ry;exact PySem.EqMixed.eq_bool_str (aw_ I q (by simp))
  |_=>exact absurd (show false=true from hs) aq'
 |int i=>
  obtain⟨t,rfl⟩:=rx;cases y with
  |non=>cases ry;exact PySem.EqNone.eq_int_none (aw_ I q (by simp))
  |int j=>obtain⟨t',rfl⟩:=ry;exact eq_int (aw_ I q gj_)
  |str j=>obtain⟨t',rfl⟩:=ry;exact PySem.EqMixed.eq_int_str (aw_ I q (by simp))
  |_=>exact absurd (show false=true from hs) aq'
 |str i=>
  obtain⟨t,rfl⟩:=rx;cases y with
  |non=>cases ry;exact PySem.EqNone.eq_str_none (aw_ I q (by simp))
  |bl j=>cases ry;exact PySem.EqMixed.eq_str_bool (aw_ I q (by simp))
  |int j=>obtain⟨t',rfl⟩:=ry;exact PySem.EqMixed.eq_str_int (aw_ I q (by simp))
  |str j=>obtain⟨t',rfl⟩:=ry;exact eq_str (aw_ I q gS_)
  |_=>exact absurd (show false=true from hs) aq'
 |byt i=>
  obtain⟨t,rfl⟩:=rx;cases y with
  |byt j=>obtain⟨t',rfl⟩:=ry;exact PySem.W.eq_bytes (aw_ I q g2_)
  |_=>exact absurd (show false=true from hs) aq'
 |_=>cases y<;>exact absurd (show false=true from hs) aq'
theorem ft_:OpR X (compareOp .NotEq) rNe:=by
 intro pins s σ H x y v u Q I rx ry h;obtain⟨hs,q⟩:=h;cases x with
 |non=>
  cases rx;cases y with
  |non=>cases ry;exact PySem.EqNone.ne_none_none (aw_ I q (by simp))
  |bl j=>cases ry;exact PySem.EqNone.ne_none_bool (aw_ I q (by simp))
  |int j=>obtain⟨t',rfl⟩:=ry;exact PySem.EqNone.ne_none_int (aw_ I q (by simp))
  |str j=>obtain⟨t',rfl⟩:=ry;exact PySem.EqNone.ne_none_str (aw_ I q (by simp))
  |_=>exact absurd (show false=true from hs) aq'
 |bl i=>
  cases rx;cases y with
  |non=>cases ry;exact PySem.EqNone.ne_bool_none (aw_ I q (by simp))
  |bl j=>cases ry;exact ne_bool (aw_ I q (congrArg not iB_))
  |str j=>obtain⟨t',rfl⟩:=ry;exact PySem.EqMixed.ne_bool_str (aw_ I q (by simp))
  |_=>exact absurd (show false=true from hs) aq'
 |int i=>
  obtain⟨t,rfl⟩:=rx;cases y with
  |non=>cases ry;exact PySem.EqNone.ne_int_none (aw_ I q (by simp))
  |int j=>obtain⟨t',rfl⟩:=ry;exact ne_int (aw_ I q (congrArg not gj_))
  |str j=>obtain⟨t',rfl⟩:=ry;exact PySem.EqMixed.ne_int_str (aw_ I q (by simp))
  |_=>exact absurd (show false=true from hs) aq'
 |str i=>
  obtain⟨t,rfl⟩:=rx;cases y with
  |non=>cases ry;exact PySem.EqNone.ne_str_none (aw_ I q (by simp))
  |bl j=>cases ry;exact PySem.EqMixed.ne_str_bool (aw_ I q (by simp))
  |int j=>obtain⟨t',rfl⟩:=ry;exact PySem.EqMixed.ne_str_int (aw_ I q (by simp))
  |str j=>obtain⟨t',rfl⟩:=ry;exact ne_str (aw_ I q (congrArg not gS_))
  |_=>exact absurd (show false=true from hs) aq'
 |byt i=>
  obtain⟨t,rfl⟩:=rx;cases y with
  |byt j=>obtain⟨t',rfl⟩:=ry;exact PySem.W.ne_bytes (aw_ I q (congrArg not g2_))
  |_=>exact absurd (show false=true from hs) aq'
 |_=>cases y<;>exact absurd (show false=true from hs) aq'
theorem kn_:OpR X (compareOp .Lt) (rI0 fun i j=>.bl (decide (i<j))):=opB0 fun _ _ _ _ _ _ _ q=>lt_int q
theorem et_:OpR X (compareOp .LtE) (rI0 fun i j=>.bl (decide (i<=j))):=opB0 fun _ _ _ _ _ _ _ q=>le_int q
theorem cu_:OpR X (compareOp .Gt) (rI0 fun i j=>.bl (decide (j<i))):=opB0 fun _ _ _ _ _ _ _ q=>gt_int q
theorem kj_:OpR X (compareOp .GtE) (rI0 fun i j=>.bl (decide (j<=i))):=opB0 fun _ _ _ _ _ _ _ q=>ge_int q
theorem fM_:OpR X (compareOp .Lt) (fun x y H Q=>∃i j,x=.str i/\y=.str j/\Q (.bl (decide (i.cps.toList<j.cps.toList))) H):=by
 intro pins s σ H x y v u Q I rx ry h;obtain⟨i,j,rfl,rfl,q⟩:=h;obtain⟨t,rfl⟩:=rx;obtain⟨t',rfl⟩:=ry;exact lt_str (aw_ I q rfl)
theorem iq_:OpR X (compareOp .Is) (fun x y H Q=>y=.non/\Q (.bl (decide (x=.non))) H):=by
 intro pins s σ H x y v u Q I rx ry h;obtain⟨rfl,q⟩:=h;cases ry;refine is_none_gen (aw_ I q ?_)
 cases x<;>first
  |(cases rx;rfl)
  |(obtain⟨t,rfl⟩:=rx;rfl)
theorem jI_:OpR X (compareOp .IsNot) (fun x y H Q=>y=.non/\Q (.bl (!decide (x=.non))) H):=by
 intro pins s σ H x y v u Q I rx ry h;obtain⟨rfl,q⟩:=h;cases ry;refine isnot_none_gen (aw_ I q ?_)
 cases x<;>first
  |(cases rx;rfl)
  |(obtain⟨t,rfl⟩:=rx;rfl)
theorem nomark(b:Expr){op:CmpOp}(h:op≠.In:=by decide)(h2:op≠.NotIn:=by decide):behindInMarks op b=false:=by
 have e1:(op == CmpOp.In)=false:=by cases op<;>first|rfl|exact absurd rfl h
 have e2:(op == CmpOp.NotIn)=false:=by cases op<;>first|rfl|exact absurd rfl h2
 cases b<;>simp[behindInMarks,e1,e2]
theorem aQ_{op:CmpOp}{r:R2}(ho:OpR X (compareOp op) r)(ha:PE X a ta)(hb:PE X b tb)(hm:behindInMarks op b=false):PE X (.Compare a [op] [b] pos) (tOp r ta tb):=by
 intro pins s σ H Q I h;exact wpAny_Compare1 (binT ha hb I h fun v u s2 x y H2 I2 rx ry q=>ho pins s2 σ H2 x y v u Q I2 rx ry q) hm
def tTest(t:TE):TT:=fun σ H Q=>t σ H fun x H'=>∃k,x=.bl k/\Q k H'
theorem ak_{op:CmpOp}{r:R2}(ho:OpR X (compareOp op) r)(ha:PE X a ta)(hb:PE X b tb)(hm:behindInMarks op b=false):PT X (.Compare a [op] [b] pos) (tTest (tOp r ta tb)):=by
 intro pins s σ H Q I h
 refine wpAny_isTrue_Compare1 (thn (ha pins s σ H _ I h) fun v s1 ⟨x,H1,I1,r1,q1⟩=>thn (hb pins s1 σ H1 _ I1 q1) fun u s2 ⟨y,H2,I2,r2,q2⟩=>
  thn (ho pins s2 σ H2 x y v u _ I2 r1 r2 q2) fun c s3 ⟨z,H3,I3,r3,k,e,q3⟩=>?_) hm
 subst e;cases r3;exact wpAny_truthy_bool ⟨H3,I3,q3⟩
def tChain(r r':R2)(ta tb tc:TE):TE:=fun σ H Q=>ta σ H fun x H1=>tb σ H1 fun y H2=>r x y H2 fun z H3=>∃k,z=.bl k /\
 (if k=true then tc σ H3 fun w' H4=>r' y w' H4 Q else Q (.bl false) H3)
theorem eK_{op op':CmpOp}{r r':R2}(ho:OpR X (compareOp op) r)(ho':OpR X (compareOp op') r')(ha:PE X a ta)(hb:PE X b tb)(hc:PE X c tc)
  (hm:lastMarks [op,op'] [b,c]=false:=by with_unfolding_all rfl):PE X (.Compare a [op,op'] [b,c] pos) (tChain r r' ta tb tc):=by
 intro pins s σ H Q I h
 refine Compare_chain (thn (ha pins s σ H _ I h) fun v s1 ⟨x,H1,I1,r1,q1⟩=>chain_link (thn (hb pins s1 σ H1 _ I1 q1) fun u s2 ⟨y,H2,I2,r2,q2⟩=>
  thn (ho pins s2 σ H2 x y v u _ I2 r1 r2 q2) fun d s3 ⟨z,H3,I3,r3,k,e,q3⟩=>?_)) hm
 subst e;cases r3;refine wpAny_truthy_bool ?_;cases k with
 |false=>exact ite_ff ⟨.bl false,H3,I3,rfl,q3⟩
 |true=>exact ite_tt (chain_last (thn (hc pins s3 σ H3 _ I3 q3) fun w' s4 ⟨z',H4,I4,r4,q4⟩=>ho' pins s4 σ H4 y z' u w' Q I4 r2 r4 q4))
theorem ew_{op op':CmpOp}{r r':R2}(ho:OpR X (compareOp op) r)(ho':OpR X (compareOp op') r')(ha:PE X a ta)(hb:PE X b tb)(hc:PE X c tc)
  (hm:lastMarks [op,op'] [b,c]=false:=by with_unfolding_all rfl):PT X (.Compare a [op,op'] [b,c] pos) (tTest (tChain r r' ta tb tc)):=by
 intro pins s σ H Q I h
 refine isTrue_chain (thn (ha pins s σ H _ I h) fun v s1 ⟨x,H1,I1,r1,q1⟩=>test_link (thn (hb pins s1 σ H1 _ I1 q1) fun u s2 ⟨y,H2,I2,r2,q2⟩=>
  thn (ho pins s2 σ H2 x y v u _ I2 r1 r2 q2) fun d s3 ⟨z,H3,I3,r3,k,e,q3⟩=>?_)) hm
 subst e;cases r3;refine wpAny_truthy_bool ?_;cases k with
 |false=>
  obtain⟨k',e',q'⟩:=q3;cases e';exact ite_ff ⟨H3,I3,q'⟩
 |true=>
  refine ite_tt (test_last (thn (hc pins s3 σ H3 _ I3 q3) fun w' s4 ⟨z',H4,I4,r4,q4⟩=>thn (ho' pins s4 σ H4 y z' u w' _ I4 r2 r4 q4) fun d' s5 ⟨z2,H5,I5,r5,k2,e2,q5⟩=>?_));subst e2;cases r5;exact wpAny_truthy_bool ⟨H5,I5,q5⟩
theorem line63:(sizeLine:Nat)<2 ^ 63:=by rw[sizeLine_eq];decide
theorem bi_:OpR X (binaryOp .Add) (fun x y H Q=>∃i j,x=.str i/\y=.str j/\i.length+j.length<=sizeLine/\Q (.str (i++j)) H):=by
 intro pins s σ H x y v u Q I rx ry h;obtain⟨i,j,rfl,rfl,hz,q⟩:=h;obtain⟨t,rfl⟩:=rx;obtain⟨t',rfl⟩:=ry;exact add_str (fun t' tk=>⟨.str (i++j),H,I.tok _,⟨_,rfl⟩,q⟩) hz
theorem vals1{x:V}{us:List Value}(r:Vals [x] us):∃u,us=[u]/\RelV x u:=by
 cases r with
 |cons r1 r2=>cases r2;exact⟨_,rfl,r1⟩
theorem vals2{x y:V}{us:List Value}(r:Vals [x,y] us):∃u w',us=[u,w']/\RelV x u/\RelV y w':=by
 cases r with
 |cons r1 r2=>
  cases r2 with
  |cons r3 r4=>cases r4;exact⟨_,_,rfl,r1,r3⟩
theorem gf_(hc:X.calm=true):bD' X (.builtin "min") (fun xs H Q=>∃i j,xs=[.int i,.int j]/\Q (.int (if j<i then j else i)) H):=by
 intro pins s σ H xs us Q I r h;obtain⟨i,j,rfl,q⟩:=h;obtain⟨u,w',rfl,⟨t,rfl⟩,⟨t',rfl⟩⟩:=vals2 r;refine min_two_ints (I.ok.hd hc) fun h' tk k=>⟨_,H,I.kept k,?_,q⟩;by_cases hj:j<i
 ·rw[if_pos hj,if_pos hj];exact⟨_,rfl⟩
 ·rw[if_neg hj,if_neg hj];exact⟨_,rfl⟩
theorem bX_:bD' X (.type "int") (fun xs H Q=>(∃i,xs=[.int i]/\Q (.int i) H)∨∃k,xs=[.bl k]/\Q (.int (if k then 1 else 0)) H):=by
 intro pins s σ H xs us Q I r h;rcases h with⟨i,rfl,q⟩|⟨k,rfl,q⟩
 ·obtain⟨u,rfl,t,rfl⟩:=vals1 r;exact call_int_int ⟨.int i,H,I,⟨_,rfl⟩,q⟩
 ·obtain⟨u,rfl,r1⟩:=vals1 r;cases r1;exact call_int_bool ⟨.int (if k then 1 else 0),H,I.tok _,⟨_,rfl⟩,q⟩
end
end L2
namespace L2
open PySem PySem.Spec PyProof.Rows
structure ObjM (h:Heap) (x dx C:Addr) (mA:Str->Option Value):Prop where
 obj:h.get? x=some (PySem.W.instObj C dx)
 ns:h.Ns1 dx mA
 ne:dx≠x
theorem gJ_{h:Heap}{dx:Addr}{mA:Str->Option Value}(n:h.Ns1 dx mA):∃od,h.get? dx=some od/\∀name,PySem.W.lookIn name od=some (mA name):=by
 obtain⟨o,es,ep,ho,hd,hk,_,hm⟩:=n;refine⟨o,ho,fun name=>?_⟩;have e:=hm name;unfold nsFind findBy at e;rw[<- Array.find?_toList] at e;unfold PySem.W.lookIn;rw[hd];dsimp only;split
 ·rename_i y q
  rw[q] at e;exact congrArg some e
 ·rename_i q
  rw[q] at e
  have a:es.toList.any (·.refKey)=false:=by
   rw[List.any_eq_false];intro y hy;obtain⟨z,t,hkey⟩:=hk y (Array.mem_toList_iff.mp hy);simp[DictEntry.refKey,hkey]
  have a':¬es.toList.any (·.refKey)=true:=by rw[a];exact aq'
  rw[if_neg a'];exact congrArg some e
theorem ObjM.look{h:Heap}{x dx C:Addr}{mA:Str->Option Value}(I:ObjM h x dx C mA):∃od,PySem.W.InstAt h x (PySem.W.instObj C dx) C (some od)/\∀name,PySem.W.lookIn name od=some (mA name):=
 let ⟨od,ho,hl⟩:=gJ_ I.ns
 ⟨od,⟨I.obj,rfl,rfl,ho⟩,hl⟩
section
variable{prog:Program}{w:World}{A:Around}{E:Value->Shared->Prop}{s:Shared}{K:F__}{x dx C f:Addr}{mA:Str->Option Value}{name:Str}{v:Value}
theorem jz_{expr:Bool}{Q:Value->Shared->Prop}(X:K.In s.heap)(I:ObjM s.heap x dx C mA)(hg:PySem.W.plainGet K C name=true)(hh:PySem.W.hasDictIn K C=true)
  (ha:PySem.W.findIn K (.ref C) name=some none) (hv:mA name=some v) (hv':PySem.W.handedIn v=true) (h:Q v { s with toks:=s.toks+1 }) :
  wpAny (model prog w) A (getAttr (.ref x) name expr) Q E s:=by
 obtain⟨od,J,hl⟩:=I.look;exact PySem.W.get_value X J (PySem.W.plainGet_of hg).1 (PySem.W.findObj_own hh ha rfl (by rw[hl,hv])) hv' h
theorem i7_{pl:Sem Bool}{Q:Value × List Value->Shared->Prop}(X:K.In s.heap)(I:ObjM s.heap x dx C mA)(hg:PySem.W.plainGet K C name=true)
  (hf:PySem.W.findIn K (.ref C) name=some (some (.ref f))) (ht:PySem.W.isFn K (.ref f)=true) (hv:mA name=none) (h:Q (.ref f,[.ref x]) s) :
  wpAny (model prog w) A (getMethod (.ref x) name pl) Q E s:=by
 obtain⟨od,J,hl⟩:=I.look;exact PySem.W.method_fn X J (PySem.W.plainGet_of hg).1 (PySem.W.plainGet_of hg).2 hf (beq_iff_eq.mp ht) (by show (PySem.W.lookIn name od).map (·.isSome)=some false;rw[hl,hv];rfl) h
theorem jx_{ns:List Str}{Q:Unit->Shared->Prop}(X:K.In s.heap)(I:ObjM s.heap x dx C mA)
  (hs:PySem.W.findIn K (.ref C) "__setattr__"=some (some (.builtin "object.__setattr__"))) (hp:PySem.W.plainOver K C=true) (ht:PySem.W.takerIn K C name=some none) (hh:PySem.W.hasDictIn K C=true)
  (hw:PySem.Within mA ns) (hsz:ns.length<=sizeLine)
  (h:∀h',ObjM h' x dx C (fun y=>if y=name then some v else mA y)->Heap.SameBut dx s.heap h'->Q () { s with heap:=h',toks:=s.toks+2 }) :
  wpAny (model prog w) A (setAttr (.ref x) name v) Q E s:=by
 obtain⟨od,J,hl⟩:=I.look;refine PySem.W.set_plain X J hs (PySem.W.osa_open (s:={ s with toks:=s.toks+1 }) (r:=none) X J hp ht fun b=>?_);obtain⟨cd,hc,hd'⟩:=PySem.W.any_some hh;have hx:s.heap.get? x=some ⟨.ref C,some dx,.plain,#[]⟩:=I.obj;refine wpAny_bind (wpAny_pure (wpAny_bind (wpAny_bind (wpAny_loadPart hx (wpAny_bind (PySem.W.Looks.here (s:={ s with toks:=s.toks+1 }) (PySem.W.looks_clsIn X hc) ?_))))));rw[hd'];refine wpAny_pure (a:=some dx) (wpAny_bind (wpAny_pure (wpAny_bind ?_)));refine wpAny_nsSet1 (s:={ s with toks:=s.toks+1 }) I.ns fun h' hn2 hs2=>?_;obtain⟨oD,esD,epD,hoD,hdD,hcD⟩:=hn2.count (PySem.Within.cons name v hw);refine wpAny_bind (wpAny_lookBehind hoD (by rw[hdD];exact pastItsLine_dict (aY' hcD (by rw[az'];omega))) ?_);exact wpAny_pure (h _ ⟨(hs2.2 _ (Ne.symm I.ne)).trans I.obj,hn2,I.ne⟩ hs2)
theorem hy_{R:Result->Shared->Prop}{vs:List Value}{kw:List (Str × Value)}(X:K.In s.heap)(hm:PySem.W.makesIn K C=true)
  (hi:PySem.W.findIn K (.ref C) "__init__"=some (some (.ref f))) (hf:PySem.W.typeIn K (.ref f)=some (.type "function"))
  (h:codeAny (model prog w) (A.under (.builtin "type.__call__" ⟨.ref C::vs,kw⟩)) (.call (.ref f) ⟨.ref (s.heap.objs.size+1)::vs,kw⟩) (PySem.W.InitBack (s.heap.objs.size+1) R)
   { s with heap:=(s.heap.push PySem.W.emptyDict).push (PySem.W.instObj C s.heap.objs.size) }) :
  codeAny (model prog w) A (.call (.ref C) ⟨vs,kw⟩) R s:=by
 obtain⟨hh,g,d,t,os⟩:=s;exact PySem.W.make_core (PySem.W.makes_of X hm) (PySem.W.looks_findIn X hi) (fun self=>PySem.W.bind_fn X self hf) (.inl rfl) h
end
def putF(f:Str)(v:V):List (Str × V)->List (Str × V)
 |[]=>[(f,v)]
 |(g,x)::r=>if g=f then (g,v)::r else (g,x)::putF f v r
theorem aa_(f g:Str)(v:V):∀fs:List (Str × V),(putF f v fs).lookup g=if g=f then some v else fs.lookup g
 |[]=>by
  show List.lookup g [(f,v)]=_;by_cases h:g=f
  ·have hb:(g == f)=true:=beq_iff_eq.mpr h;simp only[List.lookup,hb,if_pos h]
  ·have hb:(g == f)=false:=beq_eq_false_iff_ne.mpr h;simp only[List.lookup,hb,if_neg h]
 |(k,x)::r=>by
  have ih:=aa_ f g v r;rw[show putF f v ((k,x)::r)=(if k=f then (k,v)::r else (k,x)::putF f v r) from rfl];by_cases hk:k=f
  ·rw[if_pos hk];by_cases h:g=k
   ·have hb:(g == k)=true:=beq_iff_eq.mpr h;simp only[List.lookup,hb,if_pos (h.trans hk)]
   ·have hb:(g == k)=false:=beq_eq_false_iff_ne.mpr h;simp only[List.lookup,hb,if_neg (fun e:g=f=>h (e.trans hk.symm))]
  ·rw[if_neg hk];by_cases h:g=k
   ·have hb:(g == k)=true:=beq_iff_eq.mpr h;simp only[List.lookup,hb,if_neg (fun e:g=f=>hk (h.symm.trans e))]
   ·have hb:(g == k)=false:=beq_eq_false_iff_ne.mpr h;simp only[List.lookup,hb];exact ih
theorem cF_(f:Str)(v:V):∀fs:List (Str × V),f∈(putF f v fs).map (·.1)/\∀g,g∈fs.map (·.1)->g∈(putF f v fs).map (·.1)
 |[]=>⟨by simp[putF],fun g h=>by simp at h⟩
 |(k,x)::r=>by
  obtain⟨i1,i2⟩:=cF_ f v r;rw[show putF f v ((k,x)::r)=(if k=f then (k,v)::r else (k,x)::putF f v r) from rfl];by_cases hk:k=f
  ·rw[if_pos hk];subst hk;exact⟨by simp,fun g h=>by simpa using h⟩
  ·rw[if_neg hk];refine⟨?_,fun g h=>?_⟩
   ·rw[ap'];exact ad' _ i1
   ·rw[ap'] at h ⊢;rcases ai'.mp h with e|e
    ·exact ai'.mpr (.inl e)
    ·exact ad' _ (i2 g e)
theorem cL_(f:Str)(v:V):∀fs:List (Str × V),(putF f v fs).length<=fs.length+1
 |[]=>by simp[putF]
 |(k,x)::r=>by
  have ih:=cL_ f v r;rw[show putF f v ((k,x)::r)=(if k=f then (k,v)::r else (k,x)::putF f v r) from rfl];by_cases hk:k=f
  ·rw[if_pos hk,az',az'];omega
  ·rw[if_neg hk,az',az'];omega
theorem RelO.some_of{v:V}{o:Option Value}(r:RelO (some v) o):∃u,o=some u/\RelV v u:=by
 cases o with
 |none=>exact (show False from r).elim
 |some u=>exact⟨u,rfl,r⟩
theorem RelO.none_of{o:Option Value}(r:RelO none o):o=none:=by
 cases o with
 |none=>rfl
 |some u=>exact (show False from r).elim
theorem gY_{v:V}{u:Value}(r:RelV v u):PySem.W.handedIn u=true:=by
 cases v with
 |non=>cases (show u=Value.none from r);rfl
 |bl b=>cases (show u=Value.bool b from r);rfl
 |int i=>obtain⟨t,e⟩:=(show ∃t,u=Value.int i t from r);cases e;rfl
 |str x=>obtain⟨t,e⟩:=(show ∃t,u=Value.str x t from r);cases e;rfl
 |byt b=>obtain⟨t,e⟩:=(show ∃t,u=Value.bytes b t from r);cases e;rfl
 |flt b=>obtain⟨t,e⟩:=(show ∃t,u=Value.float b t from r);cases e;rfl
 |ref a=>cases (show u=Value.ref a from r);rfl
 |ty n=>cases (show u=Value.type n from r);rfl
section
variable{P:Program}{w:World}{H H':Hp}{h h':Heap}{a C dx:Addr}{fs fs':List (Str × V)}
theorem dr_(hok:HOk P w H h)(e:H a=some (.ins C dx fs)):∃mA,ObjM h a dx C mA/\(∀f,RelO (fs.lookup f) (mA f))/\PySem.Within mA (fs.map (·.1))/\fs.length<=1000/\H dx=some (.own a):=by
 obtain⟨d,z,ne,ob,mA,n,r,q⟩:=(show bi' P w H h a (.ins C dx fs) from hok a _ e);exact⟨mA,⟨ob,n,ne⟩,r,q,z,d⟩
end
structure Cls (K:F__) (C:Addr):Prop where
 pg:PySem.W.plainGet K C Str.empty=true
 hd:PySem.W.hasDictIn K C=true
 po:PySem.W.plainOver K C=true
 sa:PySem.W.findIn K (.ref C) "__setattr__"=some (some (.builtin "object.__setattr__"))
theorem Cls.get{K:F__}{C:Addr}(c:Cls K C)(f:Str):PySem.W.plainGet K C f=true:=c.pg
def bp'(K:F__)(C:Addr)(f:Str):Prop:=PySem.W.findIn K (.ref C) f=some none
theorem bp'.taker{K:F__}{C:Addr}{f:Str}(n:bp' K C f):PySem.W.takerIn K C f=some none:=by
 unfold PySem.W.takerIn;rw[show PySem.W.findIn K (.ref C) f=some none from n];rfl
structure Con (K:F__) (C:Addr) (f:Str) (v:V) (u:Value):Prop where
 at_:PySem.W.findIn K (.ref C) f=some (some u)
 rel:RelV v u
 get:PySem.W.specialIn K u "__get__"=some none
 cp:PySem.W.copiedNames.contains f=false
structure Meth (K:F__) (C:Addr) (m:Str) (f:Addr):Prop where
 at_:PySem.W.findIn K (.ref C) m=some (some (.ref f))
 fn:PySem.W.isFn K (.ref f)=true
 kp:PySem.W.keepIn K (.ref f)=true
section
variable{X:Cx}{pins:List (Addr × Obj)}{σ:St}{H:Hp}{s:Shared}{a C dx:Addr}{fs:List (Str × V)}{f:Str}{v:V}{A:Around}{E:Value->Shared->Prop}
theorem fz_{b:Bool}{Q:Value->Shared->Prop}(I:Inv X pins σ H s)(e:H a=some (.ins C dx fs))(c:Cls X.K C)(n:bp' X.K C f)(l:fs.lookup f=some v)
  (h:∀u s',Inv X pins σ H s'->RelV v u->Q u s'):wpAny (model X.prog X.w) A (getAttr (.ref a) f b) Q E s:=by
 obtain⟨mA,O,r,_,_,_⟩:=dr_ I.hok e;obtain⟨u,hu,ru⟩:=RelO.some_of (v:=v) (o:=mA f) (by rw[<- l];exact r f);exact jz_ I.kIn O (c.get f) c.hd n hu (gY_ ru) (h u _ (I.tok _) ru)
theorem d5_{m:Str}{g:Addr}{pl:Sem Bool}{Q:Value × List Value->Shared->Prop}(I:Inv X pins σ H s)(e:H a=some (.ins C dx fs))(c:Cls X.K C)(k:Meth X.K C m g)(l:fs.lookup m=none)
  (h:Q (.ref g,[.ref a]) s):wpAny (model X.prog X.w) A (getMethod (.ref a) m pl) Q E s:=by
 obtain⟨mA,O,r,_,_,_⟩:=dr_ I.hok e;have hn:mA m=none:=RelO.none_of (by rw[<- l];exact r m);exact i7_ I.kIn O (c.get m) k.at_ k.fn hn h
theorem fy_{y:V}{u:Value}{Q:Unit->Shared->Prop}(I:Inv X pins σ H s)(e:H a=some (.ins C dx fs))(c:Cls X.K C)(n:bp' X.K C f)(hl:fs.length<1000)(ry:RelV y u)
  (h:∀s',Inv X pins σ (upd H a (.ins C dx (putF f y fs))) s'->Q () s'):wpAny (model X.prog X.w) A (setAttr (.ref a) f u) Q E s:=by
 obtain⟨mA,O,r,wi,_,ho⟩:=dr_ I.hok e;have hz:(fs.map (·.1)).length<=sizeLine:=by rw[aa',sizeLine_eq];omega
 refine jx_ I.kIn O c.sa c.po n.taker c.hd wi hz fun h' O' sb=>h _ ?_;have hd:∃o,h'.get? dx=some o:=let ⟨o,_,_,e',_⟩:=O'.ns;⟨o,e'⟩;refine I.write (x:=a) (e:=dx) (by rw[e];exact True.intro) (.inr ho) (fun b q hb z=>(sb.2 b hb).trans z) hd ?_;refine⟨by rw[a4_ O.ne];exact ho,?_,O.ne,O'.obj,_,O'.ns,fun g=>?_,fun g hg=>?_⟩
 ·have:=cL_ f y fs;omega
 ·show RelO ((putF f y fs).lookup g) (if g=f then some u else mA g);rw[aa_];by_cases q:g=f
  ·rw[if_pos q,if_pos q];exact ry
  ·rw[if_neg q,if_neg q];exact r g
 ·by_cases q:g=f
  ·rw[q];exact (cF_ f y fs).1
  ·refine (cF_ f y fs).2 g (wi g fun z=>hg ?_);show (if g=f then some u else mA g)=none;rw[if_neg q];exact z
theorem Inv.made(I:Inv X pins σ H s):Inv X pins σ (upd (upd H s.heap.objs.size (.own (s.heap.objs.size+1))) (s.heap.objs.size+1) (.ins C s.heap.objs.size []))
  { s with heap:=(s.heap.push PySem.W.emptyDict).push (PySem.W.instObj C s.heap.objs.size) }:=by
 have e1:(s.heap.push PySem.W.emptyDict).get? s.heap.objs.size=some PySem.W.emptyDict:=Heap.get?_push_size s.heap rfl
 have e2:((s.heap.push PySem.W.emptyDict).push (PySem.W.instObj C s.heap.objs.size)).get? (s.heap.objs.size+1)=some (PySem.W.instObj C s.heap.objs.size):=by
  have:=Heap.get?_push_size (s.heap.push PySem.W.emptyDict) (o:=PySem.W.instObj C s.heap.objs.size) rfl;rwa [Heap.size_push] at this
 have e3:(s.heap.push PySem.W.emptyDict).Ns s.heap.objs.size (fun _=>none):=⟨PySem.W.emptyDict,#[],_,e1,rfl,(fun e he=>absurd he (by simp)),fun _=>rfl⟩;have I1:=I.laid (a:=s.heap.objs.size) (o:=.own (s.heap.objs.size+1)) (h':=s.heap.push PySem.W.emptyDict) (t':=s.toks) (fun b u q=>Heap.get?_push_of_some _ q) (ag' _) ⟨_,e1⟩;refine I1.laid (a:=s.heap.objs.size+1) (o:=.ins C s.heap.objs.size []) (t':=s.toks) (fun b u q=>Heap.get?_push_of_some _ q) (Nat.le_of_eq (Heap.size_push _ _)) ?_;have ne:s.heap.objs.size≠s.heap.objs.size+1:=au' (Nat.lt_succ_self _);refine⟨by rw[a4_ ne,a1_],aC' _,ne,e2,fun _=>none,(Heap.Ns1.of_empty e3).at fun o q=>Heap.get?_push_of_some _ q,fun _=>True.intro,fun y hy=>absurd rfl hy⟩
theorem jD_{prog:Program}{w:World}{env:Env}{e:Expr}{f:Str}{pos:Pos}{s:Shared}{Q:Value->Shared->Prop}(hb:attributeBase e f env (eval e env)=eval e env)
  (h:wpAny (model prog w) A (eval e env) (fun o s₁=>wpAny (model prog w) A (getAttr o f true) Q E s₁) E s):wpAny (model prog w) A (eval (.Attribute e f pos) env) Q E s:=
 Attribute_any_ h (by rw[arm_eval_Attribute,hb])
end
def tFld(K:F__)(ta:TE)(f:Str):TE:=fun σ H Q=>ta σ H fun x H1=>∃a C dx fs v,x=.ref a/\H1 a=some (.ins C dx fs)/\Cls K C/\bp' K C f/\fs.lookup f=some v/\Q v H1
def sFld(K:F__)(ta tv:TE)(f:Str):TS:=fun D σ H=>tv σ H fun y H1=>ta σ H1 fun x H2=>∃a C dx fs,x=.ref a/\H2 a=some (.ins C dx fs)/\Cls K C/\bp' K C f/\fs.length<1000 /\
 D.nx σ (upd H2 a (.ins C dx (putF f y fs)))
def InOp(X:Cx)(op:Operator)(rd:V->V->Hp->VK->Prop):Prop:=
 ∀(pins:List (Addr × Obj)) (s:Shared) (σ:St) (H:Hp) (x y:V) (u v:Value) (Q:VK),Inv X pins σ H s->RelV x u->RelV y v->rd x y H Q->wpAny (model X.prog X.w) X.A (inplaceOp op u v) (EP X pins σ Q) X.xe s
section
variable{X:Cx}{o e value:Expr}{f:Str}{pos pos' tpos:Pos}{ta tv:TE}
theorem ay_(he:PE X e ta)(hb:attributeBase e f X.env (eval e X.env)=eval e X.env):PE X (.Attribute e f pos) (tFld X.K ta f):=by
 intro pins s σ H Q I h;refine jD_ hb (thn (he pins s σ H _ I h) fun u s1 ⟨x,H1,I1,rx,a,C,dx,fs,v,ex,ea,c,n,l,q⟩=>?_);subst ex;obtain rfl:u=Value.ref a:=rx;exact fz_ I1 ea c n l fun u' s2 I2 ru=>⟨v,H1,I2,ru,q⟩
theorem bH_(ha:PE X o ta)(hv:PE X value tv)(hs:swapsWith value (some (.Attribute o f pos')) pos.line X.env=pure false):PS X (.Assign [.Attribute o f pos'] value pos) (sFld X.K ta tv f):=by
 intro pins s σ H D I h;refine plainObj_wpAny_Assign_Attribute (thn (hv pins s σ H _ I h) fun u s1 ⟨y,H1,I1,ry,q⟩=>thn (ha pins s1 σ H1 _ I1 q) fun ov s2 ⟨x,H2,I2,rx,a,C,dx,fs,ex,ea,c,n,l,q2⟩=>?_) hs;subst ex;obtain rfl:ov=Value.ref a:=rx;exact fy_ I2 ea c n l ry fun s3 I3=>⟨σ,_,I3,q2⟩
def rAdd:V->V->Hp->VK->Prop:=fun x y H Q=>∃i j,x=.int i/\y=.int j/\Q (.int (i+j)) H
theorem k8_:InOp X .Add rAdd:=by
 rintro pins s σ H x y u v Q I rx ry ⟨i,j,rfl,rfl,q⟩;obtain⟨t,rfl⟩:=(show ∃t,u=Value.int i t from rx);obtain⟨t',rfl⟩:=(show ∃t',v=Value.int j t' from ry);exact PyProof.Rows.iadd_int ⟨.int (i+j),H,I.tok _,⟨_,rfl⟩,q⟩
end
section
variable{X:Cx}{pins:List (Addr × Obj)}{σ:St}{H:Hp}{s:Shared}{A:Around}{E:Value->Shared->Prop}{Q:Value->Shared->Prop}{c:Value}{b:Bool}
inductive TyOf (K:F__) (H:Hp):V->Value->Prop where
 |non:TyOf K H .non (.type "NoneType")
 |bl (x:Bool):TyOf K H (.bl x) (.type "bool")
 |int (i:Int):TyOf K H (.int i) (.type "int")
 |str (x:Str):TyOf K H (.str x) (.type "str")
 |flt (x:UInt64):TyOf K H (.flt x) (.type "float")
 |lst {a:Addr} {xs:List V} (e:H a=some (.lst xs)):TyOf K H (.ref a) (.type "list")
 |frz {a:Addr} {o:Obj} {xs:List V} (e:H a=some (.frz o (.lst xs))):TyOf K H (.ref a) (.type "list")
 |tup {a:Addr} {xs:List V} (e:H a=some (.tup xs)):TyOf K H (.ref a) (.type "tuple")
 |dK {a:Addr} {kvs:List (Key × V)} (e:H a=some (.dK kvs)):TyOf K H (.ref a) (.type "dict")
 |dT {a:Addr} {kvs:List (List Key × V)} (e:H a=some (.dT kvs)):TyOf K H (.ref a) (.type "dict")
 |ins {a C dx:Addr} {fs:List (Str × V)} (e:H a=some (.ins C dx fs)) (cl:Cls K C) (ha:PySem.W.findIn K (.ref C) "__class__"=some (some (.builtin "object.__class__")))
   (hn:PySem.W.specialIn K (.builtin "object.__class__") "__get__"=some (some (.builtin "getset_descriptor.__get__"))) (htk:PySem.W.takesIn K (.builtin "object.__class__")=some true)
   (hm:PySem.W.mroIn K C (.type "object")=some true):TyOf K H (.ref a) (.ref C)
theorem dx_{x:V}{u t:Value}(I:Inv X pins σ H s)(rx:RelV x u)(ty:TyOf X.K H x t)(e:PySem.W.kitOne X.K t c=some b)(h:∀tk,Q (.bool b) { s with toks:=tk }) :
  wpAny (model X.prog X.w) A (call (.builtin "isinstance") [u,c]) Q E s:=by
 cases ty with
 |non=>cases (show u=Value.none from rx);exact PySem.W.kia_one PySem.W.kitx_none I.kIn True.intro e nofun h
 |bl y=>cases (show u=Value.bool y from rx);exact PySem.W.kia_one PySem.W.kitx_bool I.kIn True.intro e nofun h
 |int i=>obtain⟨t,q⟩:=(show ∃t,u=Value.int i t from rx);cases q;exact PySem.W.kia_one PySem.W.kitx_int I.kIn True.intro e nofun h
 |str y=>obtain⟨t,q⟩:=(show ∃t,u=Value.str y t from rx);cases q;exact PySem.W.kia_one PySem.W.kitx_str I.kIn True.intro e nofun h
 |flt y=>obtain⟨t,q⟩:=(show ∃t,u=Value.float y t from rx);cases q;exact PySem.W.kia_one PySem.W.kitx_float I.kIn True.intro e nofun h
 |@lst a xs ea=>
  cases (show u=Value.ref a from rx);obtain⟨_,_,n,_,h1⟩:=(show bi' X.prog X.w H s.heap a (.lst xs) from I.hok a _ ea);exact PySem.W.kia_one PySem.W.kitx_list I.kIn ⟨_,h1,rfl⟩ e nofun h
 |@frz a ob xs ea=>
  cases (show u=Value.ref a from rx);obtain⟨_,_,_,n,_,h1⟩:=(show bi' X.prog X.w H s.heap a (.frz ob (.lst xs)) from I.hok a _ ea);exact PySem.W.kia_one PySem.W.kitx_list I.kIn ⟨_,h1,rfl⟩ e nofun h
 |@tup a xs ea=>
  cases (show u=Value.ref a from rx);obtain⟨_,_,_,p,_⟩:=(show bi' X.prog X.w H s.heap a (.tup xs) from I.hok a _ ea);obtain⟨o,h1,h2,_⟩:=p;exact PySem.W.kia_one PySem.W.kitx_tuple I.kIn ⟨o,h1,h2⟩ e nofun h
 |@dK a kvs ea=>
  cases (show u=Value.ref a from rx);obtain⟨_,_,vs,_,p⟩:=(show bi' X.prog X.w H s.heap a (.dK kvs) from I.hok a _ ea);obtain⟨o,es,ep,h1,h2,_⟩:=p;exact PySem.W.kia_one PySem.W.kitx_dict I.kIn ⟨o,h1,h2.1⟩ e nofun h
 |@dT a kvs ea=>
  cases (show u=Value.ref a from rx);obtain⟨_,_,xs,_,o,es,ep,h1,h2,_⟩:=(show bi' X.prog X.w H s.heap a (.dT kvs) from I.hok a _ ea);exact PySem.W.kia_one PySem.W.kitx_dict I.kIn ⟨o,h1,h2.1⟩ e nofun h
 |@ins a C dx fs ea cl ha hn htk hm=>
  cases (show u=Value.ref a from rx);obtain⟨mA,O,_⟩:=dr_ I.hok ea;obtain⟨od,J,_⟩:=O.look;exact PySem.W.kia_one (PySem.W.kitx_own (cl.get _) cl.hd ha hn htk hm) I.kIn J e nofun h
end
end L2
namespace L2
open PySem PySem.Spec PyProof.Rows
structure Room (k:Nat) (A:Around):Prop where
 hd:A.handled=none
 dp:A.depth+3 * k+5<recursionLimit
 un:A.units+16 * k+200<cLine
theorem Room.mono{j k:Nat}{A:Around}(r:Room k A)(h:j<=k):Room j A:=⟨r.hd,by have:=r.dp;omega,by have:=r.un;omega⟩
theorem Room.deeper{k:Nat}{A:Around}(r:Room (k+1) A)(env:Env):Room k (A.deeper env):=
 ⟨r.hd,by have:=r.dp;show A.depth+1+3 * k+5<_;omega,by have:=r.un;show A.units+3+16 * k+200<_;omega⟩
theorem Room.in1{k:Nat}{A:Around}(r:Room (k+1) A):Room k A.in1:=
 ⟨r.hd,by have:=r.dp;show A.depth+3 * k+5<_;omega,by have:=r.un;show A.units+1+16 * k+200<_;omega⟩
theorem fo_{A:Around}{C:Addr}{us:List Value}{kw:List (Str × Value)}:(A.under (.builtin "type.__call__" ⟨.ref C::us,kw⟩)).depth=A.depth+1:=by
 first|rfl|simp[Around.under,Code.weight,Code.isCreation,Code.isGuard,Code.isCaller,Code.frames,Code.isFrame,guardIds]
theorem fs_{A:Around}{C:Addr}{us:List Value}{kw:List (Str × Value)}:(A.under (.builtin "type.__call__" ⟨.ref C::us,kw⟩)).units=A.units+1:=by
 first|rfl|simp[Around.under,Code.cUnits,Code.frames,Code.isFrame]
theorem Room.make{k:Nat}{A:Around}(r:Room (k+1) A)(C:Addr)(us:List Value)(kw:List (Str × Value)):Room k (A.under (.builtin "type.__call__" ⟨.ref C::us,kw⟩)):=
 ⟨r.hd,by have:=r.dp;rw[fo_];omega,by have:=r.un;rw[fs_];omega⟩
theorem Room.depth{k:Nat}{A:Around}(r:Room k A):A.depth<recursionLimit:=by have:=r.dp;omega
theorem Room.units{k:Nat}{A:Around}(r:Room k A):A.units+64<cLine:=by have:=r.un;omega
def tNil:TA:=fun _ H Q=>Q [] H
def tCons(ta:TE)(tr:TA):TA:=fun σ H Q=>ta σ H fun x H1=>tr σ H1 fun xs H2=>Q (x::xs) H2
section
variable{X:Cx}{e:Expr}{es:List Expr}{te:TE}{t:TA}{pos:Pos}
theorem a3_:PA X [] tNil:=fun _ _ _ _ H Q I h=>Calls.spliced_nil ⟨[],H,I,.nil,h⟩
theorem a0_(ha:PE X e te)(hr:PA X es t)(hs:starEach (e::es) X.env=(false,eval e X.env)::starEach es X.env:=by rfl):PA X (e::es) (tCons te t):=by
 intro pos pins s σ H Q I h;rw[hs];show wpAny _ _ (spliced ((false,eval e X.env)::backTo pos (starEach es X.env))) _ _ s;refine Calls.spliced_cons (thn (ha pins s σ H _ I h) fun u s1 ⟨x,H1,I1,r1,q1⟩=>?_);exact thn (hr pos pins s1 σ H1 _ I1 q1) fun us s2 ⟨xs,H2,I2,r2,q2⟩=>⟨x::xs,H2,I2,.cons r1 r2,q2⟩
def tTup(t:TA):TE:=fun σ H Q=>t σ H fun xs H1=>xs.length<=sizeLine/\∀p,H1 p=none->Q (.ref p) (upd H1 p (.tup xs))
def tLst(t:TA):TE:=fun σ H Q=>t σ H fun xs H1=>xs.length<=sizeLine/\∀p,H1 p=none->Q (.ref p) (upd H1 p (.lst xs))
theorem aP_{x1}(h:PA X es t):PE X (.Tuple es x1 pos) (tTup t):=by
 intro pins s σ H Q I hq;refine wpAny_Tuple_spliced (thn (h pos pins s σ H _ I hq) fun us s1 ⟨xs,H1,I1,r,z,q⟩=>⟨by rw[<- r.length];exact z,?_⟩);have hf:H1 s1.heap.objs.size=none:=I1.hok.fresh (ag' _);refine⟨.ref s1.heap.objs.size,upd H1 s1.heap.objs.size (.tup xs),I1.laid (t':=s1.toks) (fun b u e=>Heap.get?_push_of_some _ e) (ag' _) ?_,rfl,q _ hf⟩;exact⟨z,us,r,⟨_,Heap.get?_push_size _ rfl,rfl,_,rfl⟩,_,Heap.get?_push_size _ rfl,rfl⟩
theorem aE_(h:PA X es t):PE X (.List es pos) (tLst t):=by
 intro pins s σ H Q I hq;refine wpAny_List_spliced (thn (h pos pins s σ H _ I hq) fun us s1 ⟨xs,H1,I1,r,z,q⟩=>⟨by rw[<- r.length];exact z,?_⟩);have hf:H1 s1.heap.objs.size=none:=I1.hok.fresh (ag' _);refine⟨.ref s1.heap.objs.size,upd H1 s1.heap.objs.size (.lst xs),I1.laid (t':=s1.toks) (fun b u e=>Heap.get?_push_of_some _ e) (ag' _) ?_,rfl,q _ hf⟩;exact⟨z,us,0,r,Heap.get?_push_size _ rfl⟩
end
abbrev Sp:=List V->Hp->VK->XK->Prop
abbrev CXT:=List Env->Hp->Shared->XK->Value->Shared->Prop
structure Env0 (P:Program) (w:World) (K:F__) (mg:Str->Option Value) (base:Heap) (A:Around) (outer:List Env) (s:Shared) (H:Hp):Prop where
 frames:A.frames=some outer
 mod:Mod K mg base
 bs:∀b o,base.get? b=some o->s.heap.get? b=some o/\H b=none
 bsz:base.objs.size<=s.heap.objs.size
 funs:s.heap.FunFrames base outer
 frf:∀b∈frs outer,H b=none
 hok:HOk P w H s.heap
 bare:AllBare s.gens
def CE(outer:List Env)(P:Program)(w:World)(H:Hp)(s:Shared)(Q:VK)(u:Value)(s':Shared):Prop:=
 ∃v H',s'.os=s.os/\AllBare s'.gens/\Un (frs outer) [] H H' s.heap s'.heap/\HOk P w H' s'.heap/\RelV v u/\Q v H'
def CR(CX:CXT)(outer:List Env)(P:Program)(w:World)(H:Hp)(s:Shared)(Q:VK)(E:XK)(r:Result)(s':Shared):Prop:=
 match r with
 |.ok (.ret u)=>CE outer P w H s Q u s'
 |.ok _=>False
 |.error e=>CX outer H s E e s'
structure FnOk (P:Program) (w:World) (K:F__) (mg:Str->Option Value) (base:Heap) (CX:CXT) (k:Nat) (f:Addr) (fd:FuncData) (ps:List Str) (sp:Sp):Prop where
 len:∀vs H Q E,sp vs H Q E->vs.length=ps.length
 run:∀(A:Around) (outer:List Env) (s:Shared) (H:Hp) (args:Args) (us:List Value) (vs:List V) (Q:VK) (E:XK),Room k A->Env0 P w K mg base A outer s H->BindsTo s fd args (ps.zip us)->Vals vs us->sp vs H Q E->
  codeAny (model P w) A (.call (.ref f) args) (CR CX outer P w H s Q E) s
theorem Env0.make{P:Program}{w:World}{K:F__}{mg:Str->Option Value}{base:Heap}{A:Around}{outer:List Env}{s:Shared}{H:Hp}(e:Env0 P w K mg base A outer s H)(C:Addr)(us:List Value)(kw:List (Str × Value)) :
  Env0 P w K mg base (A.under (.builtin "type.__call__" ⟨.ref C::us,kw⟩)) outer s H:=⟨by first|exact e.frames|(simpa [Around.under,Code.envs,Code.isFrame,pushEnvs] using e.frames),e.mod,e.bs,e.bsz,e.funs,e.frf,e.hok,e.bare⟩
section
variable{X:Cx}{pins:List (Addr × Obj)}{σ:St}{H:Hp}{s s':Shared}
theorem Inv.env0(I:Inv X pins σ H s):Env0 X.prog X.w X.K X.mg X.base X.A X.stack s H:=
 ⟨I.ok.frames,I.ok.mod,I.bs,aY' I.ok.bsz I.sz,I.stack,I.stkFree,I.hok,I.bare⟩
theorem Inv.after{Q:VK}{u:Value}(I:Inv X pins σ H s)(h:CE X.stack X.prog X.w H s Q u s'):EP X pins σ Q u s':=by
 obtain⟨v,H',os,bare,un,hok,r,q⟩:=h;obtain⟨hh,g,d,t,os'⟩:=s';obtain rfl:os'=s.os:=os;exact⟨v,H',I.call (h':=hh) (g':=g) (d':=d) (t':=t) (ch:=[]) un hok bare (fun b z=>absurd z (by simp)),r,q⟩
end
def tCall(sp:Sp)(dvs:List V)(E:XK)(t:TA):TE:=fun σ H Q=>t σ H fun vs H1=>sp (vs++dvs) H1 Q E
def tMeth(C:Addr)(m:Str)(sp:Sp)(dvs:List V)(E:XK)(ta:TE)(t:TA):TE:=fun σ H Q=>ta σ H fun x H1=>∃a dx fs,x=.ref a/\H1 a=some (.ins C dx fs)/\fs.lookup m=none /\
 t σ H1 fun vs H2=>sp (x::(vs++dvs)) H2 Q E
def tMake(C:Addr)(sp:Sp)(dvs:List V)(E:XK)(t:TA):TE:=fun σ H Q=>t σ H fun vs H1=>∀x dx,H1 x=none->H1 dx=none->dx≠x->
 sp (.ref x::(vs++dvs)) (upd (upd H1 dx (.own x)) x (.ins C dx [])) (fun v H2=>v=.non/\Q (.ref x) H2) E
def bW'(K:F__)(fd:FuncData)(ps:List Str)(ds:List Value):Prop:=
 ∀(s:Shared) (us:List Value),K.In s.heap->(us++ds).length=ps.length->BindsTo s fd ⟨us,[]⟩ (ps.zip (us++ds))
theorem bW'.all{K:F__}{fd:FuncData}{ps:List Str}(h:∀us:List Value,us.length=ps.length->bindArgs fd ⟨us,[]⟩=pure (ps.zip us)):bW' K fd ps []:=fun s us _ hl=>by
 rw[aA'] at hl ⊢;exact .of_eq (h us hl)
def bH'(CX:CXT)(X:Cx)(E:XK):Prop:=∀(pins:List (Addr × Obj)) (σ:St) (H:Hp) (s:Shared) (e:Value) (s':Shared),Inv X pins σ H s->CX X.stack H s E e s'->X.xe e s'
section
variable{X:Cx}{CX:CXT}{k:Nat}{f C:Addr}{fd:FuncData}{ps:List Str}{sp:Sp}{dvs:List V}{ds:List Value}{E:XK}{x m:Str}{p pos apos:Pos}{e o:Expr}{es:List Expr}{ta:TE}{t:TA}
theorem g7_{pins:List (Addr × Obj)}{σ:St}{H:Hp}{s:Shared}{Q:VK}{us:List Value}{vs:List V}(F:FnOk X.prog X.w X.K X.mg X.base CX k f fd ps sp)(hr:Room k X.A)(hb:bW' X.K fd ps ds)(hd:Vals dvs ds)(hx:bH' CX X E)
  (I:Inv X pins σ H s) (r:Vals vs us) (h:sp (vs++dvs) H Q E):wpAny (model X.prog X.w) X.A (call (.ref f) us) (EP X pins σ Q) X.xe s:=by
 have r2:Vals (vs++dvs) (us++ds):=r.append hd;have hl:(us++ds).length=ps.length:=by rw[<- r2.length];exact F.len _ _ _ _ h
 refine wpAny_call (codeAny_mono (F.run X.A X.stack s H ⟨us,[]⟩ (us++ds) (vs++dvs) Q E hr I.env0 (hb s us I.kIn hl) r2 h) fun r s' hq=>?_);cases r with
 |error e=>exact hx pins σ H s e s' I hq
 |ok fl=>
  cases fl with
  |ret u=>exact I.after hq
  |next=>exact False.elim hq
  |brk=>exact False.elim hq
  |cont=>exact False.elim hq
theorem iK_(F:FnOk X.prog X.w X.K X.mg X.base CX k f fd ps sp)(hr:Room k X.A)(hg:Gl X x)(hm:X.mg x=some (.ref f))(hk:PySem.W.keepIn X.K (.ref f)=true)(hb:bW' X.K fd ps ds)(hd:Vals dvs ds)(hx:bH' CX X E)
  (ha:PA X (e::es) t) (hdb:(x == ("__debug__":Str))=false:=by decide) (he:starEach (e::es) X.env=(false,eval e X.env)::starEach es X.env:=by rfl) (hpl:(backTo pos (starEach es X.env)).any (·.1)=false:=by rfl) :
  PE X (.Call (.Name x p) (e::es) [] pos) (tCall sp dvs E t):=by
 intro pins s σ H Q I h;refine wpAny_Call_Name_kw (dn_ I hg hm ?_ hdb);refine PySem.W.callWith_K (h₀:=X.base) I.ok.mod.kin hk (thn (ha pos pins s σ H _ I h) fun us s1 ⟨vs,H1,I1,r,q⟩=>⟨I1.kIn,?_⟩) he hpl;exact g7_ F hr hb hd hx I1 r q
theorem gP_{pl:Sem Bool}(he:PE X o ta)(c:Cls X.K C)(hm:Meth X.K C m f)(F:FnOk X.prog X.w X.K X.mg X.base CX k f fd ps sp)(hr:Room k X.A)(hb:bW' X.K fd ps ds)(hd:Vals dvs ds)(hx:bH' CX X E)(ha:PA X (e::es) t)
  (hst:starEach (e::es) X.env=(false,eval e X.env)::starEach es X.env:=by rfl) (hpl:(backTo pos (starEach es X.env)).any (·.1)=false:=by rfl)
  (ht:eval (.Call (.Attribute o m apos) (e::es) [] pos) X.env=(do
   let ov <- eval o X.env
   standAt apos.atName
   let (f,first) <- holding [ov] (getMethod ov m pl)
   callWith pos f first (backTo pos (starEach (e::es) X.env)) (backToKw pos (keywordEach [] X.env))):=by rfl) :
  PE X (.Call (.Attribute o m apos) (e::es) [] pos) (tMeth C m sp dvs E ta t):=by
 intro pins s σ H Q I h;refine PySem.W.methodCall_KW (pl:=pl) (thn (he pins s σ H _ I h) fun u s1 ⟨x,H1,I1,rx,a,dx,fs,ex,ea,l,q⟩=>?_) ht;subst ex;obtain rfl:u=Value.ref a:=rx;refine d5_ I1 ea c hm l ?_;refine PySem.W.callWith_K (first:=[.ref a]) (h₀:=X.base) I.ok.mod.kin hm.kp (thn (ha pos pins s1 σ H1 _ I1 q) fun us s2 ⟨vs,H2,I2,r,q2⟩=>⟨I2.kIn,?_⟩) hst hpl;exact g7_ (us:=.ref a::us) (vs:=.ref a::vs) F hr hb hd hx I2 (.cons rfl r) q2
theorem i9_{pl:Sem Bool}(he:PE X o ta)(c:Cls X.K C)(hm:Meth X.K C m f)(F:FnOk X.prog X.w X.K X.mg X.base CX k f fd ps sp)(hr:Room k X.A)(hb:bW' X.K fd ps ds)(hd:Vals dvs ds)(hx:bH' CX X E)
  (ht:eval (.Call (.Attribute o m apos) [] [] pos) X.env=(do
   let ov <- eval o X.env
   standAt apos.atName
   let (f,first) <- holding [ov] (getMethod ov m pl)
   callWith pos f first (backTo pos (starEach [] X.env)) (backToKw pos (keywordEach [] X.env))):=by rfl) :
  PE X (.Call (.Attribute o m apos) [] [] pos) (tMeth C m sp dvs E ta tNil):=by
 intro pins s σ H Q I h;refine PySem.W.methodCall_KW (pl:=pl) (thn (he pins s σ H _ I h) fun u s1 ⟨x,H1,I1,rx,a,dx,fs,ex,ea,l,q⟩=>?_) ht;subst ex;obtain rfl:u=Value.ref a:=rx;refine d5_ I1 ea c hm l ?_;exact PySem.W.callWith_K0 (first:=[.ref a]) I1.kIn hm.kp (g7_ (us:=[.ref a]) (vs:=[.ref a]) F hr hb hd hx I1 (.cons rfl .nil) q)
structure Mk (K:F__) (C f:Addr):Prop where
 makes:PySem.W.makesIn K C=true
 init:PySem.W.findIn K (.ref C) "__init__"=some (some (.ref f))
 fn:PySem.W.isFn K (.ref f)=true
 kp:PySem.W.keepIn K (.ref C)=true
theorem hC_{pins:List (Addr × Obj)}{σ:St}{H:Hp}{s:Shared}{Q:VK}{us:List Value}{vs:List V}(M:Mk X.K C f)(F:FnOk X.prog X.w X.K X.mg X.base CX k f fd ps sp)(hr:Room (k+1) X.A)(hb:bW' X.K fd ps ds)(hd:Vals dvs ds)
  (hx:bH' CX X E) (I:Inv X pins σ H s) (r:Vals vs us)
  (h:∀x dx,H x=none->H dx=none->dx≠x->sp (.ref x::(vs++dvs)) (upd (upd H dx (.own x)) x (.ins C dx [])) (fun v H2=>v=.non/\Q (.ref x) H2) E) :
  wpAny (model X.prog X.w) X.A (call (.ref C) us) (EP X pins σ Q) X.xe s:=by
 have hq:=h (s.heap.objs.size+1) s.heap.objs.size (I.hok.fresh (Nat.le_succ _)) (I.hok.fresh (ag' _)) (au' (Nat.lt_succ_self _));have I2:=Inv.made (C:=C) I;have r2:Vals (V.ref (s.heap.objs.size+1)::(vs++dvs)) (Value.ref (s.heap.objs.size+1)::(us++ds)):=.cons rfl (r.append hd)
 have hl:(Value.ref (s.heap.objs.size+1)::us++ds).length=ps.length:=by
  have e:=r2.length;rw[F.len _ _ _ _ hq] at e;exact e.symm
 refine wpAny_call (hy_ (f:=f) I.kIn M.makes M.init (beq_iff_eq.mp M.fn) (codeAny_mono (F.run _ X.stack _ _ ⟨Value.ref (s.heap.objs.size+1)::us,[]⟩ (Value.ref (s.heap.objs.size+1)::(us++ds)) _ _ E (hr.make C us [])
  (I2.env0.make C us []) (hb _ (Value.ref (s.heap.objs.size+1)::us) I2.kIn hl) r2 hq) fun r s' hq'=>?_))
 cases r with
 |error e=>exact hx pins σ _ _ e s' I2 hq'
 |ok fl=>
  cases fl with
  |ret u=>
   obtain⟨v,H',I3,rv,ev,q3⟩:=I2.after hq';subst ev;exact⟨rv,⟨V.ref (s.heap.objs.size+1),H',I3,rfl,q3⟩⟩
  |next=>exact False.elim hq'
  |brk=>exact False.elim hq'
  |cont=>exact False.elim hq'
theorem ja_(M:Mk X.K C f)(F:FnOk X.prog X.w X.K X.mg X.base CX k f fd ps sp)(hr:Room (k+1) X.A)(hg:Gl X x)(hm:X.mg x=some (.ref C))(hb:bW' X.K fd ps ds)(hd:Vals dvs ds)(hx:bH' CX X E)
  (ha:PA X (e::es) t) (hdb:(x == ("__debug__":Str))=false:=by decide) (he:starEach (e::es) X.env=(false,eval e X.env)::starEach es X.env:=by rfl) (hpl:(backTo pos (starEach es X.env)).any (·.1)=false:=by rfl) :
  PE X (.Call (.Name x p) (e::es) [] pos) (tMake C sp dvs E t):=by
 intro pins s σ H Q I h;refine wpAny_Call_Name_kw (dn_ I hg hm ?_ hdb);refine PySem.W.callWith_K (h₀:=X.base) I.ok.mod.kin M.kp (thn (ha pos pins s σ H _ I h) fun us s1 ⟨vs,H1,I1,r,q⟩=>⟨I1.kIn,?_⟩) he hpl;exact hC_ M F hr hb hd hx I1 r q
end
def PK(X:Cx)(kws:List Keyword)(t:TA):Prop:=
 ∀(pos:Pos) (pins:List (Addr × Obj)) (s:Shared) (σ:St) (H:Hp) (Q:List V->Hp->Prop),Inv X pins σ H s->t σ H Q->wpAny (model X.prog X.w) X.A (evalAll ((backToKw pos (keywordEach kws X.env)).map (·.2))) (AP X pins σ Q) X.xe s
section
variable{X:Cx}{CX:CXT}{k:Nat}{f C:Addr}{fd:FuncData}{ps ks:List Str}{sp:Sp}{E:XK}{x m:Str}{p pos apos kpos:Pos}{e o:Expr}{es:List Expr}{kws:List Keyword}{te ta:TE}{t tk:TA}{nm:Option Str}
theorem iC_:PK X [] tNil:=fun _ _ _ _ H Q I h=>wpAny_evalAll_nil ⟨[],H,I,.nil,h⟩
theorem fF_(ha:PE X e te)(hr:PK X kws t):PK X (⟨nm,e,kpos⟩::kws) (tCons te t):=by
 intro pos pins s σ H Q I h;show wpAny _ _ (evalAll ((do let v <- eval e X.env;standAt pos;pure v)::(backToKw pos (keywordEach kws X.env)).map (·.2))) _ _ s;refine wpAny_evalAll_cons (wpAny_bind (thn (ha pins s σ H _ I h) fun u s1 ⟨x,H1,I1,r1,q1⟩=>wpAny_bind (wpAny_standAt (wpAny_pure ?_))));exact thn (hr pos pins s1 σ H1 _ I1 q1) fun us s2 ⟨xs,H2,I2,r2,q2⟩=>⟨x::xs,H2,I2,.cons r1 r2,q2⟩
structure KBinds (K:F__) (fd:FuncData) (ps ks:List Str) (g:List Value->List Value->List Value) (gV:List V->List V->List V):Prop where
 to:∀(s:Shared) (us ws:List Value),K.In s.heap->(g us ws).length=ps.length->BindsTo s fd ⟨us,ks.zip ws⟩ (ps.zip (g us ws))
 rel:∀{vs:List V} {us:List Value} {zs:List V} {ws:List Value},Vals vs us->Vals zs ws->Vals (gV vs zs) (g us ws)
variable{g:List Value->List Value->List Value}{gV:List V->List V->List V}
end
structure a8' (N P:List Str) (sc:Scope):Prop where
 kind:sc.kind=.function
 co:sc.isCoroutine=false
 gen:sc.isGenerator=false
 nd:N.Nodup
 pre:N.take P.length=P
 par:∀x∈P,sc.names.lookup x=some .local∨sc.names.lookup x=some .cell
 nofree:∀y∈sc.names,y.2≠.free
theorem dE_{kindOf:Str->Option NameKind}{x:Str}:∀{binds:List (Str × Value)} {m:Str->Option Value},(∀v,(x,v)∉binds)->bindL kindOf binds m x=m x
 |[],_,_=>rfl
 |(n,v)::r,m,h=>by
  unfold bindL;rw[dE_ fun w hw=>h w (ad' _ hw)];split
  ·have:x≠n:=by rintro rfl;exact h v af'
   simp[this]
  ·rfl
theorem dM_{kindOf:Str->Option NameKind}{x:Str}:∀{binds:List (Str × Value)} {m:Str->Option Value},(∀v,(x,v)∉binds)->bindC kindOf binds m x=m x
 |[],_,_=>rfl
 |(n,v)::r,m,h=>by
  unfold bindC;rw[dM_ fun w hw=>h w (ad' _ hw)];split
  ·rfl
  ·have:x≠n:=by rintro rfl;exact h v af'
   simp[this]
theorem dC_{kindOf:Str->Option NameKind}{x:Str}{v:Value}:∀{P:List Str} {vs:List Value} {i:Nat} {m:Str->Option Value},P.Nodup->P[i]? = some x->vs[i]? = some v->kindOf x=some .local->
  bindL kindOf (P.zip vs) m x=some v
 |[],_,_,_,_,h,_,_=>by simp at h
 |_::_,[],_,_,_,_,h,_=>by simp at h
 |p::P,w::vs,0,m,nd,h1,h2,hk=>by
  simp at h1 h2;subst h1;subst h2;show bindL kindOf ((p,w)::P.zip vs) m p=_;unfold bindL;rw[dE_ fun v hv=>(aM'.mp nd).1 (List.of_mem_zip hv).1,if_pos hk];simp
 |p::P,w::vs,i+1,m,nd,h1,h2,hk=>by
  show bindL kindOf ((p,w)::P.zip vs) m x=_;unfold bindL;exact dC_ (i:=i) (aM'.mp nd).2 (by simpa using h1) (by simpa using h2) hk
theorem dB_{kindOf:Str->Option NameKind}{x:Str}{v:Value}:∀{P:List Str} {vs:List Value} {i:Nat} {m:Str->Option Value},P.Nodup->P[i]? = some x->vs[i]? = some v->kindOf x≠some .local->
  bindC kindOf (P.zip vs) m x=some v
 |[],_,_,_,_,h,_,_=>by simp at h
 |_::_,[],_,_,_,_,h,_=>by simp at h
 |p::P,w::vs,0,m,nd,h1,h2,hk=>by
  simp at h1 h2;subst h1;subst h2;show bindC kindOf ((p,w)::P.zip vs) m p=_;unfold bindC;rw[dM_ fun v hv=>(aM'.mp nd).1 (List.of_mem_zip hv).1,if_neg hk];simp
 |p::P,w::vs,i+1,m,nd,h1,h2,hk=>by
  show bindC kindOf ((p,w)::P.zip vs) m x=_;unfold bindC;exact dB_ (i:=i) (aM'.mp nd).2 (by simpa using h1) (by simpa using h2) hk
def start(N:List Str)(vs:List V):St:=vs.map some++List.replicate (N.length - vs.length) none
def cxOf(CX:CXT)(P:Program)(w:World)(K:F__)(mg:Str->Option Value)(base:Heap)(N:List Str)(qual:Str)(scope:Scope)(f:Addr)(cd:Value)(A:Around)(outer:List Env)(s:Shared)(H:Hp)(E:XK):Cx where
 prog:=P
 w:=w
 K:=K
 mg:=mg
 base:=base
 A:=A.deeper (envOfC qual scope s.heap.objs.size f cd)
 N:=N
 s₀:=s
 H₀:=H
 env:=envOfC qual scope s.heap.objs.size f cd
 outer:=outer
 stack:=envOfC qual scope s.heap.objs.size f cd::outer
 ex:=[]
 calm:=true
 fn:=fun _=>true
 pn:=[]
 xe:=fun e s'=>wpAny (model P w) (A.deeper (envOfC qual scope s.heap.objs.size f cd)) (leaving (envOfC qual scope s.heap.objs.size f cd) e) (fun _ s''=>CX outer H s E e s'') (fun e' s''=>CX outer H s E e' s'') s'
theorem ey_{sc:Scope}{n:Nat}{x:Str}(h:sc.names.lookup x=some .cell):∃c,(cellsFrom n sc.names []).lookup x=some c:=by
 have q:=PySem.W.cellsFrom_some sc.names n [] (.inl h);exact Option.isSome_iff_exists.mp q
theorem gn_{CX:CXT}{P:Program}{w:World}{K:F__}{mg:Str->Option Value}{base:Heap}{N ps:List Str}{qual:Str}{scope:Scope}{f:Addr}{cd:Value}{A:Around}{outer:List Env}{s s1:Shared}{H:Hp}{E:XK}{us:List Value}{vs:List V}
  (S:a8' N ps scope) (hd:A.handled=none) (e0:Env0 P w K mg base A outer s H) (hl:vs.length=ps.length) (r:Vals vs us)
  (x:InCallC s s.heap.objs.size (bindL (envOfC qual scope s.heap.objs.size f cd).kindOf (ps.zip us) fun _=>none) (cellsFrom (s.heap.objs.size+1) scope.names []) (bindC (envOfC qual scope s.heap.objs.size f cd).kindOf (ps.zip us) fun _=>none) s1) :
  Inv (cxOf CX P w K mg base N qual scope f cd A outer s H E) [] (start N vs) H s1:=by
 have hpl:ps.length<=N.length:=by have:=congrArg List.length S.pre;rw[ak'] at this;omega
 obtain⟨h1,tk,rfl,hk⟩:=x.done;have noA:∀b:Addr,b∉(cxOf CX P w K mg base N qual scope f cd A outer s H E).ex:=fun b z=>absurd (show b∈([]:List Addr) from z) (by simp)
 refine⟨⟨e0.mod,S.kind,rfl,rfl,ag' _,fun y z c h1 h2=>?_,fun y hy=>?_,fun y c _ h=>?_,fun _=>hd,Around.frames_deeper e0.frames,.inr ⟨rfl,rfl⟩,fun b z=>absurd z (noA b),e0.bs,e0.bsz,fun b _ _=>noA b,fun b z=>absurd z (noA b),e0.funs,e0.frf⟩,
  rfl,e0.bare,Un.kept hk,⟨_,x.toInCall.ns,fun i y v h1 h2 h3=>?_⟩,fun y c h=>⟨_,x.cell y c h⟩,e0.hok.fresh (ag' _),fun y c h=>?_,fun p hp=>absurd (show p∈([]:List (Addr × Obj)) from hp) (by simp),e0.hok.kept hk,?_⟩
 ·exact name_of_addr x.apart (PySem.mem_of_lookup h1) (PySem.mem_of_lookup h2)
 ·have hy:scope.names.lookup y=some .cell∨scope.names.lookup y=some .free:=hy;rcases hy with hy|hy
  ·exact ey_ hy
  ·exact absurd rfl (S.nofree _ (PySem.mem_of_lookup hy))
 ·exact Nat.le_of_lt (x.above y c (PySem.mem_of_lookup h))
 ·have hi:i<vs.length:=by
   unfold start at h2;by_cases hi:i<vs.length
   ·exact hi
   ·rw[aQ' (by simpa using hi)] at h2;rw[List.getElem?_replicate] at h2;split at h2<;>cases h2
  have ha:vs[i]? = some v:=by
   unfold start at h2;rw[aR' (by simpa using hi),ao'] at h2;cases e:vs[i]? with
   |none=>rw[e] at h2;cases h2
   |some a=>rw[e] at h2;cases h2;rfl
  obtain⟨u,hu,rv⟩:=r.get ha
  have hp:ps[i]? = some y:=by
   rw[<- S.pre,List.getElem?_take_of_lt (by omega)];exact h1
  have ndP:ps.Nodup:=by rw[<- S.pre];exact S.nd.sublist (List.take_sublist _ _)
  refine⟨u,rv,?_⟩;rcases S.par y (ae' hp) with k|k
  ·exact .inl ⟨k,dC_ ndP hp hu k⟩
  ·obtain⟨c,e⟩:=ey_ (n:=s.heap.objs.size+1) k;refine .inr ⟨.inl k,c,e,?_⟩;have q:=x.cell y c e;rw[dB_ ndP hp hu (by show scope.names.lookup y≠_;rw[k];decide)] at q;exact q
 ·exact e0.hok.fresh (Nat.le_of_lt (x.above y c (PySem.mem_of_lookup h)))
 ·unfold start;show _=N.length;rw[an',aa',aH'];omega
theorem j7_{CX:CXT}{P:Program}{w:World}{K:F__}{mg:Str->Option Value}{base:Heap}{k:Nat}{f:Addr}{name qual:Str}{params:Arguments}{body:List Stmt}{scope:Scope}{dV kV doc pm cdv ct oc:Value}{an od:Option Addr}
  {osl:Array (Option Value)} {N ps:List Str} {sp:Sp} (lk:K.lookup f=some ⟨oc,od,.func (PySem.W.fnOf name qual params body scope dV kV doc pm an cdv ct),osl⟩) (hcd:PySem.W.codeIn K cdv qual=true) (S:a8' N ps scope)
  (len:∀vs H Q E,sp vs H Q E->vs.length=ps.length)
  (hbody:∀(A:Around) (outer:List Env) (s:Shared) (H:Hp) (vs:List V) (Q:VK) (E:XK),Room k (A.deeper (envOfC qual scope s.heap.objs.size f cdv))->sp vs H Q E->
   ∃t,PSs (cxOf CX P w K mg base N qual scope f cdv A outer s H E) body t/\t { nx:=fun _ H'=>Q .non H',rt:=Q } (start N vs) H) :
  FnOk P w K mg base CX (k+1) f (PySem.W.fnOf name qual params body scope dV kV doc pm an cdv ct) ps sp:=by
 refine⟨len,fun A outer s H args us vs Q E hr e0 hb r hsp=>?_⟩;have hl:=len _ _ _ _ hsp;have KX:K.In s.heap:=e0.mod.kin.keeps fun b o e=>(e0.bs b o e).1;have lim:s.heap.NoLimit:=e0.mod.nolimit.keeps fun b o e=>(e0.bs b o e).1
 have hkind:∀y∈ps.zip us,scope.names.lookup y.1=some .local∨(scope.names.lookup y.1=some .cell/\((cellsFrom (s.heap.objs.size+1) scope.names []).lookup y.1).isSome=true):=fun⟨n,v⟩ hy=>by
  rcases S.par n (List.of_mem_zip hy).1 with q|q
  ·exact .inl q
  ·exact .inr ⟨q,PySem.W.cellsFrom_some _ _ _ (.inl q)⟩
 refine codeAny_call_function hr.depth (KX _ _ lk) rfl S.co S.gen rfl (PySem.W.codeRec_of KX hcd) (hb _ _ _ _ ?_);refine wpAny_newFunctionEnv_cells S.kind hkind fun env he s1 x=>?_;subst he;refine⟨lim.keeps x.toInCall.keep,codeAny_func ?_⟩;obtain⟨t,ht,hq⟩:=hbody A outer s H vs Q E (hr.deeper _) hsp;have I:Inv (cxOf CX P w K mg base N qual scope f cdv A outer s H E) [] (start N vs) H s1:=gn_ S hr.hd e0 hl r x;refine wpAny_mono (ht [] s1 (start N vs) H _ I hq) (fun fl s' hs=>?_) fun e s' hs=>hs
 have fin:∀{σ':St} {H':Hp} {v:V} {u:Value},Inv (cxOf CX P w K mg base N qual scope f cdv A outer s H E) [] σ' H' s'->RelV v u->Q v H'->CE outer P w H s Q u s':=
  fun {σ' H' v u} J rv q=>⟨v,H',J.os,J.bare,J.base,J.hok,rv,q⟩
 cases fl with
 |ret u=>
  obtain⟨v,σ',H',J,rv,q⟩:=hs;exact fin J rv q
 |next=>
  obtain⟨σ',H',J,q⟩:=hs;exact fin (v:=V.non) (u:=Value.none) J rfl q
 |brk=>
  obtain⟨_,_,_,q⟩:=hs;exact False.elim q
 |cont=>
  obtain⟨_,_,_,q⟩:=hs;exact False.elim q
end L2
namespace L2
open PySem PySem.Spec PyProof.Rows
section
variable{X:Cx}{x:Str}{p pos:Pos}{e:Expr}{es:List Expr}{t:TA}{id T:String}{r:List V->Hp->VK->Prop}
def tCB(r:List V->Hp->VK->Prop)(t:TA):TE:=fun σ H Q=>t σ H fun vs H1=>r vs H1 Q
theorem af_(hc:bD' X (.builtin id) r)(hg:Gl X x)(hm:X.mg x=none)(hv:bootBuiltins x=some (.builtin id))(ha:PA X (e::es) t)(hn:x≠"__name__":=by decide)(hdb:(x == ("__debug__":Str))=false:=by decide)
  (he:starEach (e::es) X.env=(false,eval e X.env)::starEach es X.env:=by rfl) (hpl:(backTo pos (starEach es X.env)).any (·.1)=false:=by rfl):PE X (.Call (.Name x p) (e::es) [] pos) (tCB r t):=by
 intro pins s σ H Q I h;refine wpAny_Call_Name_kw (d1_ I hg hm hv ?_ hn hdb);exact PyProof.Rows.callWith_builtin1 (thn (ha pos pins s σ H _ I h) fun us s1 ⟨vs,H1,I1,r1,q1⟩=>hc pins s1 σ H1 vs us Q I1 r1 q1) he hpl
theorem ao_(hc:bD' X (.type T) r)(hg:Gl X x)(hm:X.mg x=none)(hv:bootBuiltins x=some (.type T))(ha:PA X (e::es) t)(hn:x≠"__name__":=by decide)(hdb:(x == ("__debug__":Str))=false:=by decide)
  (he:starEach (e::es) X.env=(false,eval e X.env)::starEach es X.env:=by rfl) (hpl:(backTo pos (starEach es X.env)).any (·.1)=false:=by rfl):PE X (.Call (.Name x p) (e::es) [] pos) (tCB r t):=by
 intro pins s σ H Q I h;refine wpAny_Call_Name_kw (d1_ I hg hm hv ?_ hn hdb);exact PyProof.Rows.callWith_type1 (thn (ha pos pins s σ H _ I h) fun us s1 ⟨vs,H1,I1,r1,q1⟩=>hc pins s1 σ H1 vs us Q I1 r1 q1) he hpl
end
end L2
namespace HT
open PySem PyProof.Rows
section
open PySem.SeqAt
open PySem.AutoSeq1 (wpAny_loadPart')
open PySem.MeetsSeq PySem.MeetsSeq2 PySem.MeetsSeq3
end
section
variable{prog:Program}{w:World}{A:Around}{E:Value->Shared->Prop}{s:Shared}
def sIx(n d:Nat):Option Int->Nat
 |none=>d
 |some v=>if v<0 then (v+(n:Int)).toNat else min v.toNat n
theorem sIx_none(n d:Nat):sIx n d none=d:=rfl
theorem sIx_nat(n d k:Nat):sIx n d (some (k:Int))=min k n:=by
 show (if (k:Int)<0 then ((k:Int)+(n:Int)).toNat else min (k:Int).toNat n)=min k n;rw[if_neg (by omega),Int.toNat_natCast]
end
end HT
namespace L2
open PySem PySem.Spec PyProof.Rows
abbrev TO:=St->Hp->(Option Int->Hp->Prop)->Prop
def PO(X:Cx)(e:Option Expr)(t:TO):Prop:=
 ∀(pins:List (Addr × Obj)) (s:Shared) (σ:St) (H:Hp) (Q:Option Int->Hp->Prop),Inv X pins σ H s->t σ H Q->
  wpAny (model X.prog X.w) X.A (evalPart e X.env) (fun u s'=>∃o H',Inv X pins σ H' s'/\IsPart u o/\Q o H') X.xe s
def tNoPart:TO:=fun _ H Q=>Q none H
def tPart(t:TE):TO:=fun σ H Q=>t σ H fun x H1=>∃i,x=.int i/\Q (some i) H1
section
variable{X:Cx}{e:Expr}{te:TE}{lo hi:Option Expr}{tl th:TO}{pos p2:Pos}
theorem ca_:PO X none tNoPart:=by
 intro pins s σ H Q I h;rw[evalPart_none];exact wpAny_pure ⟨none,H,I,.none,h⟩
theorem c6_(h:PE X e te):PO X (some e) (tPart te):=by
 intro pins s σ H Q I hw;rw[evalPart_some];refine thn (h pins s σ H _ I hw) fun u s1 ⟨x,H1,I1,r1,q1⟩=>?_;obtain⟨i,rfl,q⟩:=q1;obtain⟨t,rfl⟩:=r1;exact⟨some i,H1,I1,.int i t,q⟩
def SlR(X:Cx)(r:V->Option Int->Option Int->Hp->VK->Prop):Prop:=
 ∀(pins:List (Addr × Obj)) (s:Shared) (σ:St) (H:Hp) (x:V) (v vl vu:Value) (lo hi:Option Int) (sl:Addr) (Q:VK),Inv X pins σ H s->RelV x v->s.heap.IsSliceOf sl vl vu .none->IsPart vl lo->IsPart vu hi->r x lo hi H Q->
  ∃T id,typeLookup (.type T) "__getitem__"=pure (some (.builtin id))/\s.TypeIs v T/\wpAny (model X.prog X.w) X.A (getItem v (.ref sl)) (EP X pins σ Q) X.xe s
def tSl(r:V->Option Int->Option Int->Hp->VK->Prop)(te:TE)(tl th:TO):TE:=fun σ H Q=>te σ H fun x H1=>tl σ H1 fun l H2=>th σ H2 fun u H3=>r x l u H3 Q
theorem bE_{r:V->Option Int->Option Int->Hp->VK->Prop}(hr:SlR X r)(he:PE X e te)(hl:PO X lo tl)(hu:PO X hi th):PE X (.Subscript e (.Slice lo hi none p2) pos) (tSl r te tl th):=by
 intro pins s σ H Q I h;refine Subscript_ (thn (he pins s σ H _ I h) fun v s1 ⟨x,H1,I1,r1,q1⟩=>?_);refine wpAny_Slice (thn (hl pins s1 σ H1 _ I1 q1) fun vl s2 ⟨l,H2,I2,pl,q2⟩=>thn (hu pins s2 σ H2 _ I2 q2) fun vu s3 ⟨u,H3,I3,pu,q3⟩=>?_);rw[evalPart_none];refine wpAny_pure ?_;have I4:Inv X pins σ H3 { s3 with heap:=s3.heap.push { cls:=.type "slice",data:=.fields #[vl,vu,.none] } }:=I3.kept (t':=s3.toks) fun b ob q=>Heap.get?_push_of_some _ q;obtain⟨T,id,hT,ht,hg⟩:=hr pins { s3 with heap:=s3.heap.push { cls:=.type "slice",data:=.fields #[vl,vu,.none] } } σ H3 x v vl vu l u s3.heap.objs.size Q I4 r1 (Heap.IsSliceOf.new ..) pl pu q3;show wpAny (model X.prog X.w) X.A (subscriptTail e (.Slice lo hi none p2) v (.ref s3.heap.objs.size)) (EP X pins σ Q) X.xe { s3 with heap:=s3.heap.push { cls:=.type "slice",data:=.fields #[vl,vu,.none] } };exact tail_any (ops:=[.ref s3.heap.objs.size,v]) ht hT hg (by with_unfolding_all rfl)
def cutV(xs:List V)(lo hi:Option Int):List V:=(xs.drop (HT.sIx xs.length 0 lo)).take (HT.sIx xs.length xs.length hi - HT.sIx xs.length 0 lo)
theorem eg_(xs:List V)(lo hi:Option Int):(cutV xs lo hi).length<=xs.length:=by
 unfold cutV;rw[ak',List.length_drop];omega
end
end L2
namespace L2
open PySem PySem.Spec PyProof.Rows
def ixN(n:Nat)(i:Int):Option Nat:=if 0<=i then (if i<n then some i.toNat else none) else if -(n:Int)<=i then some (i+n).toNat else none
def atI{α:Type}(xs:List α)(i:Int):Option α:=(ixN xs.length i).bind fun j=>xs[j]?
theorem fY_{n:Nat}{i:Int}{j:Nat}(h:ixN n i=some j):seqIndex? i n=some j/\j<n/\-(n:Int)<=i/\i<n:=by
 unfold ixN at h;by_cases h0:0<=i
 ·rw[if_pos h0] at h;by_cases h1:i<n
  ·rw[if_pos h1] at h;have e:i.toNat=j:=Option.some.inj h;exact⟨by rw[seqIndex_of h0 h1,e],by omega,by omega,h1⟩
  ·rw[if_neg h1] at h;cases h
 ·rw[if_neg h0] at h;by_cases h1:-(n:Int)<=i
  ·rw[if_pos h1] at h;have e:(i+n).toNat=j:=Option.some.inj h;exact⟨by rw[seqIndex_neg (by omega) h1,e],by omega,h1,by omega⟩
  ·rw[if_neg h1] at h;cases h
theorem ea_{α:Type}{xs:List α}{i:Int}{v:α}(h:atI xs i=some v):∃j,seqIndex? i xs.length=some j/\xs[j]? = some v/\j<xs.length/\-(xs.length:Int)<=i/\i<xs.length:=by
 unfold atI at h;cases e:ixN xs.length i with
 |none=>rw[e] at h;cases h
 |some j=>
  rw[e] at h;obtain⟨h1,h2,h3,h4⟩:=fY_ e;exact⟨j,h1,h,h2,h3,h4⟩
theorem bs'{α:Type}{xs:List α}{j:Nat}{v:α}(h:xs[j]? = some v):atI xs (j:Int)=some v:=by
 have hj:j<xs.length:=(ab'.mp h).1
 have e:ixN xs.length (j:Int)=some j:=by
  unfold ixN;rw[if_pos (by omega),if_pos (by omega)];simp
 unfold atI;rw[e];exact h
def PlainIx(b:Expr):Prop:=∀o i,subscripted b false o i=operate [o,i] (getItem o i)
def IxR(X:Cx)(r:R2):Prop:=
 ∀(value slice:Expr) (pins:List (Addr × Obj)) (s:Shared) (σ:St) (H:Hp) (x y:V) (v u:Value) (Q:VK),Inv X pins σ H s->RelV x v->RelV y u->r x y H Q->
  subscripted slice false v u=operate [v,u] (getItem v u)->wpAny (model X.prog X.w) X.A (subscriptTail value slice v u) (EP X pins σ Q) X.xe s
def MtR(X:Cx)(id:String)(r:V->List V->Hp->VK->Prop):Prop:=
 ∀(pins:List (Addr × Obj)) (s:Shared) (σ:St) (H:Hp) (x:V) (xs:List V) (v:Value) (us:List Value) (Q:VK),Inv X pins σ H s->RelV x v->Vals xs us->r x xs H Q->
  wpAny (model X.prog X.w) X.A (call (.builtin id) (v::us)) (EP X pins σ Q) X.xe s
section
variable{X:Cx}{a b:Expr}{ta tb:TE}{pos:Pos}
theorem ax_{r:R2}(hr:IxR X r)(ha:PE X a ta)(hb:PE X b tb)(hs:PlainIx b):PE X (.Subscript a b pos) (tOp r ta tb):=by
 intro pins s σ H Q I h;exact Subscript_ (binT ha hb I h fun v u s2 x y H2 I2 rx ry q=>hr a b pins s2 σ H2 x y v u Q I2 rx ry q (hs _ _))
def rIxL(K:F__):R2:=fun x y H Q=>∃p xs i v,x=.ref p/\y=.int i/\SqL K H p xs/\atI xs i=some v/\Q v H
def rIxT(K:F__):R2:=fun x y H Q=>∃p xs i v,x=.ref p/\y=.int i/\SqT K H p xs/\atI xs i=some v/\Q v H
def rIxS:R2:=fun x y H Q=>∃z i c,x=.str z/\y=.int i/\z.length<=sizeLine/\atI z.cps.toList i=some c/\Q (.str ⟨#[c]⟩) H
theorem aH_:IxR X (rIxL X.K):=by
 intro value slice pins s σ H x y v u Q I rx ry h hs;obtain⟨p,xs,i,z,rfl,rfl,hq,he,q⟩:=h;cases rx;obtain⟨t,rfl⟩:=ry;obtain⟨its,r,pl,hz⟩:=I.list hq;obtain⟨j,h1,h2,h3,h4,h5⟩:=ea_ he;obtain⟨w,ew,rw'⟩:=r.get h2;have hl:=r.length;have hn:=line63;have fin:EP X pins σ Q w s:=⟨z,H,I,rw',q⟩;by_cases h0:0<=i
 ·have hj:i.toNat=j:=by
   rw[seqIndex_of h0 h5] at h1;exact Option.some.inj h1
  exact item_listR pl.isList h0 (by omega) (by rw[hj];simpa using ew) fin hs
 ·have hj:(i+(its.toArray.size:Int)).toNat=j:=by
   rw[seqIndex_neg (by omega) h4] at h1;rw[aj',<- hl];exact Option.some.inj h1
  exact subscriptTail_builtinR (x:=w) pl.isList.typeIs slot_list_getitem.lookup
   (wpAny_getItem_list_neg (Q:=fun r s'=>r=w/\EP X pins σ Q r s') pl.isList (by omega) (by rw[aj']<;>omega) (by omega) (by rw[hj];simpa using ew) ⟨rfl,fin⟩) hs
theorem aI_:IxR X (rIxT X.K):=by
 intro value slice pins s σ H x y v u Q I rx ry h hs;obtain⟨p,xs,i,z,rfl,rfl,hq,he,q⟩:=h;cases rx;obtain⟨t,rfl⟩:=ry;obtain⟨its,r,pl,hz⟩:=I.tuple hq;obtain⟨j,h1,h2,h3,h4,h5⟩:=ea_ he;obtain⟨w,ew,rw'⟩:=r.get h2;have hl:=r.length;have hn:=line63;have fin:EP X pins σ Q w s:=⟨z,H,I,rw',q⟩
 exact subscriptTail_builtinR (x:=w) pl.typeIs slot_tuple_getitem.lookup
  (getItem_tuple (j:=j) (Q:=fun r s'=>r=w/\EP X pins σ Q r s') pl (by omega) (by omega) (by rw[aj',<- hl];exact h1) (by simpa using ew) ⟨rfl,fin⟩) hs
theorem if_:IxR X rIxS:=by
 intro value slice pins s σ H x y v u Q I rx ry h hs;obtain⟨z,i,c,rfl,rfl,hz,he,q⟩:=h;obtain⟨t,rfl⟩:=rx;obtain⟨t',rfl⟩:=ry;obtain⟨j,h1,h2,h3,h4,h5⟩:=ea_ he;have hl:z.cps.toList.length=z.length:=by simp[Str.length]
 rw[hl] at h1 h4 h5;have hn:=line63
 exact tail_any (typeIs_str s z t) slot_str_getitem.lookup (getItem_str (c:=c) (by
  have e1:decide (i < -(2 ^ 63:Int))=false:=decide_eq_false (by omega);have e2:decide (i ≥ 2 ^ 63)=false:=decide_eq_false (by omega);rw[e1,e2,Bool.or_false]) (by rw[h1];simpa using h2) ⟨.str ⟨#[c]⟩,H,I.tok _,⟨_,rfl⟩,q⟩) hs
theorem fA_(its:List Value)(n j:Nat)(u:Value):Obj.mapSeq (·.setIfInBounds j u) { cls:=.type "list",data:=.seq its.toArray n }={ cls:=.type "list",data:=.seq (its.set j u).toArray n }:=by
 simp[Obj.mapSeq]
theorem Inv.lst{pins:List (Addr × Obj)}{σ:St}{H:Hp}{s:Shared}{p:Addr}{xs:List V}(I:Inv X pins σ H s)(h:H p=some (.lst xs)) :
  ∃(its:List Value) (n:Nat),Vals xs its/\s.heap.get? p=some { cls:=.type "list",data:=.seq its.toArray n }/\xs.length<=sizeLine:=by
 obtain⟨z,its,n,r,e⟩:=I.hok p _ h;exact⟨its,n,r,e,z⟩
theorem Inv.lstUpd{pins:List (Addr × Obj)}{σ:St}{H:Hp}{s:Shared}{p:Addr}{xs ys:List V}{its its':List Value}{n n':Nat}{f:Obj->Obj}(I:Inv X pins σ H s)(h:H p=some (.lst xs))
  (ho:s.heap.get? p=some { cls:=.type "list",data:=.seq its.toArray n }) (hf:f { cls:=.type "list",data:=.seq its.toArray n }={ cls:=.type "list",data:=.seq its'.toArray n' }) (r:Vals ys its') (hz:ys.length<=sizeLine) (t:Nat) :
  Inv X pins σ (upd H p (.lst ys)) { s with heap:=s.heap.update p f,toks:=t }:=by
 have e:(s.heap.update p f).get? p=some { cls:=.type "list",data:=.seq its'.toArray n' }:=by
  rw[Heap.get?_update_self f ho (by rw[hf]<;>rfl),hf]
 refine I.write (x:=p) (e:=p) (by rw[h];trivial) (.inl rfl) (fun b u hb q=>(Heap.get?_update_other _ _ (Ne.symm hb)).trans q) ⟨_,e⟩ ?_;exact⟨hz,its',n',r,e⟩
def rSetL:V->V->V->Hp->(Hp->Prop)->Prop:=fun o i v H Q=>∃p xs k j,o=.ref p/\i=.int k/\H p=some (.lst xs)/\ixN xs.length k=some j/\Q (upd H p (.lst (xs.set j v)))
theorem f1_:PSet X rSetL:=by
 intro pins s σ H o i v ov iv u Q I ro ri rv h;obtain⟨p,xs,k,j,rfl,rfl,hp,hj,q⟩:=h;cases ro;obtain⟨t,rfl⟩:=ri;obtain⟨its,n,r,ho,hz⟩:=I.lst hp;obtain⟨h1,h2,h3,h4⟩:=fY_ hj;have hl:=r.length;have hn:=line63
 have I':Inv X pins σ (upd H p (.lst (xs.set j v))) { s with heap:=s.heap.update p (Obj.mapSeq (·.setIfInBounds j u)) }:=
  I.lstUpd hp ho (fA_ its n j u) (r.set rv j) (by rw[List.length_set];exact hz) s.toks
 by_cases h0:0<=k
 ·have hk:k.toNat=j:=by
   rw[seqIndex_of h0 h4] at h1;exact Option.some.inj h1
  exact PySem.W.ki_setAt ho h0 (by omega) (by rw[aj',<- hl];exact h4) (by rw[hk];exact⟨_,I',q⟩)
 ·have hk:(k+(its.toArray.size:Int)).toNat=j:=by
   rw[seqIndex_neg (by omega) h3] at h1;rw[aj',<- hl];exact Option.some.inj h1
  exact PySem.W.ki_setBack ho (by omega) (by rw[aj',<- hl];exact h3) (by omega) (by rw[hk];exact⟨_,I',q⟩)
theorem dQ_(lo hi:Option Int)(n:Nat):(sliceBounds lo hi none n).1=((HT.sIx n 0 lo:Nat):Int)/\(sliceBounds lo hi none n).2.1=((HT.sIx n n hi:Nat):Int)/\(sliceBounds lo hi none n).2.2=1:=by
 refine⟨?_,?_,rfl⟩
 ·cases lo with
  |none=>simp[sliceBounds,HT.sIx]
  |some i=>
   simp only[sliceBounds,HT.sIx,Option.getD_none,show (1:Int) > 0 by decide,if_true];by_cases h:i<0
   ·simp only[h,if_true]<;>omega
   ·simp only[h,if_false]<;>omega
 ·cases hi with
  |none=>simp[sliceBounds,HT.sIx]
  |some i=>
   simp only[sliceBounds,HT.sIx,Option.getD_none,show (1:Int) > 0 by decide,if_true];by_cases h:i<0
   ·simp only[h,if_true]<;>omega
   ·simp only[h,if_false]<;>omega
theorem dg_(its:List Value)(lo hi:Option Int):slicePick its.toArray lo hi none=((its.drop (HT.sIx its.length 0 lo)).take (HT.sIx its.length its.length hi - HT.sIx its.length 0 lo)).toArray:=by
 obtain⟨h1,h2,h3⟩:=dQ_ lo hi its.toArray.size;unfold slicePick;rw[h1,h2,h3];simp only[sliceRange_one,pick_run,aj']<;>rfl
def rSlL(K:F__):V->Option Int->Option Int->Hp->VK->Prop:=fun x lo hi H Q=>∃a xs,x=.ref a/\SqL K H a xs/\∀p,H p=none->Q (.ref p) (upd H p (.lst (cutV xs lo hi)))
theorem dt_:SlR X (rSlL X.K):=by
 intro pins s σ H x v vl vu lo hi sl Q I rx hs pl pu h;obtain⟨a,xs,rfl,hx,q⟩:=h;cases rx;obtain⟨its,r,ht,hz⟩:=I.list hx;have hlen:=r.length;refine⟨"list",_,slot_list_getitem.lookup,ht.isList.typeIs,?_⟩;refine wpAny_getItem_list_slice ht.isList hs pl pu .none (by simp) ?_ (by rw[aj']<;>omega)
 rw[dg_,<- hlen];refine⟨.ref s.heap.objs.size,_,I.laid (t':=s.toks) (o:=.lst (cutV xs lo hi)) (fun b ob q=>Heap.get?_push_of_some _ q) (ag' _) ?_,rfl,q _ (I.hok.fresh (ag' _))⟩;exact⟨aY' (eg_ xs lo hi) hz,_,0,(r.drop (HT.sIx xs.length 0 lo)).take (HT.sIx xs.length xs.length hi - HT.sIx xs.length 0 lo),Heap.get?_push_size _ rfl⟩
def cm':V->Bool
 |.non=>true
 |.bl _=>true
 |.int _=>true
 |.str _=>true
 |_=>false
def eqV:V->V->Bool
 |.non,.non=>true
 |.bl a,.bl b=>a == b
 |.bl a,.int b=>(if a then 1 else 0) == b
 |.int a,.bl b=>a == (if b then 1 else 0)
 |.int a,.int b=>a == b
 |.str a,.str b=>a == b
 |_,_=>false
theorem h0_{A:Around}{s:Shared}{y x:V}{u v:Value}(ry:RelV y u)(rx:RelV x v)(fy:cm' y=true)(fx:cm' x=true):SeqAt.EqAt A s u v (eqV y x):=by
 cases y with
 |non=>
  cases ry;cases x with
  |non=>cases rx;exact SeqAt.EqAt.same _
  |bl b=>cases rx;exact SeqAt.EqAt.none_bool b
  |int b=>obtain⟨t,rfl⟩:=rx;exact SeqAt.EqAt.none_int b t
  |str b=>obtain⟨t,rfl⟩:=rx;exact SeqAt.EqAt.none_str b t
  |_=>exact absurd (show false=true from fx) aq'
 |bl a=>
  cases ry;cases x with
  |non=>cases rx;exact SeqAt.EqAt.bool_none a
  |bl b=>cases rx;exact SeqAt.EqAt.bool_bool a b
  |int b=>obtain⟨t,rfl⟩:=rx;exact SeqAt.EqAt.bool_int a b t
  |str b=>obtain⟨t,rfl⟩:=rx;exact SeqAt.EqAt.bool_str a b t
  |_=>exact absurd (show false=true from fx) aq'
 |int a=>
  obtain⟨t',rfl⟩:=ry;cases x with
  |non=>cases rx;exact SeqAt.EqAt.int_none a t'
  |bl b=>cases rx;exact SeqAt.EqAt.int_bool a t' b
  |int b=>obtain⟨t,rfl⟩:=rx;exact SeqAt.EqAt.int_int a t' b t
  |str b=>obtain⟨t,rfl⟩:=rx;exact SeqAt.EqAt.int_str a t' b t
  |_=>exact absurd (show false=true from fx) aq'
 |str a=>
  obtain⟨t',rfl⟩:=ry;cases x with
  |non=>cases rx;exact SeqAt.EqAt.str_none a t'
  |bl b=>cases rx;exact SeqAt.EqAt.str_bool a t' b
  |int b=>obtain⟨t,rfl⟩:=rx;exact SeqAt.EqAt.str_int a t' b t
  |str b=>obtain⟨t,rfl⟩:=rx;exact SeqAt.EqAt.str_str a t' b t
  |_=>exact absurd (show false=true from fx) aq'
 |_=>exact absurd (show false=true from fy) aq'
def eqU(x:V)(u:Value):Bool:=match u with
 |.none=>eqV .non x
 |.bool b=>eqV (.bl b) x
 |.int i _=>eqV (.int i) x
 |.str z _=>eqV (.str z) x
 |_=>false
theorem il_{x y:V}{u:Value}(r:RelV y u)(f:cm' y=true):eqU x u=eqV y x:=by
 cases y with
 |non=>cases r;rfl
 |bl b=>cases r;rfl
 |int i=>obtain⟨t,rfl⟩:=r;rfl
 |str z=>obtain⟨t,rfl⟩:=r;rfl
 |_=>exact absurd (show false=true from f) aq'
theorem dq_{A:Around}{s:Shared}{x:V}{v:Value}(rx:RelV x v)(fx:cm' x=true):∀{xs:List V} {us:List Value},Vals xs us->xs.all cm'=true->∀u∈us,SeqAt.EqAt A s u v (eqU x u)
 |_,_,.nil,_=>fun u hu=>by cases hu
 |y::xs,u::us,.cons r t,f=>fun u' hu=>by
  rw[List.all_cons,a1'] at f;rcases ai'.mp hu with rfl|hu
  ·rw[il_ r f.1];exact h0_ r rx f.1 fx
  ·exact dq_ rx fx t f.2 u' hu
theorem aL_:bD' X (.builtin "len") (fun xs H Q=>∃p ys,xs=[.ref p]/\(SqL X.K H p ys∨SqT X.K H p ys)/\Q (.int ys.length) H):=by
 intro pins s σ H xs us Q I r h;obtain⟨p,ys,rfl,hq,q⟩:=h;obtain⟨u,rfl,rx⟩:=vals1 r;cases rx;have hn:=line63;rcases hq with hq|hq
 ·obtain⟨its,r',pl,hz⟩:=I.list hq;have hlen:=r'.length;exact Calls.call_len_list pl.isList (by simp only[aj']<;>omega) ⟨.int ys.length,H,I.tok _,⟨s.toks+1,by rw[aj',hlen]⟩,q⟩
 ·obtain⟨its,r',pl,hz⟩:=I.tuple hq;have hlen:=r'.length;exact len_tuple pl (by simp only[aj']<;>omega) ⟨.int ys.length,H,I.tok _,⟨s.toks+1,by rw[aj',hlen]⟩,q⟩
theorem cn_:bD' X (.builtin "len") (fun xs H Q=>∃z,xs=[.str z]/\z.length<=sizeLine/\Q (.int z.length) H):=by
 intro pins s σ H xs us Q I r h;obtain⟨z,rfl,hz,q⟩:=h;obtain⟨u,rfl,t,rfl⟩:=vals1 r;have hn:=line63;exact len_str (by omega) ⟨.int z.length,H,I.tok _,⟨_,rfl⟩,q⟩
theorem ck_:bD' X (.type "list") (fun xs H Q=>∃p ys,xs=[.ref p]/\(SqL X.K H p ys∨SqT X.K H p ys)/\∀l,H l=none->Q (.ref l) (upd H l (.lst ys))):=by
 intro pins s σ H xs us Q I r h;obtain⟨p,ys,rfl,hq,q⟩:=h;obtain⟨u,rfl,rx⟩:=vals1 r;cases rx
 have fin:∀(its:List Value),Vals ys its->ys.length<=sizeLine->∀(h':Heap) (c':Nat),(∀b o',s.heap.get? b=some o'->h'.get? b=some o')->
   h'.get? s.heap.objs.size=some { cls:=.type "list",dict:=none,data:=.seq its.toArray c',slots:=#[] }->EP X pins σ Q (.ref s.heap.objs.size) { s with heap:=h' }:=fun its r' hz h' c' kp e=>
  ⟨.ref s.heap.objs.size,_,I.laid (t':=s.toks) kp (ag' _) (show bi' X.prog X.w _ h' _ (.lst ys) from ⟨hz,its,c',r',e⟩),rfl,q _ (I.hok.fresh (ag' _))⟩
 rcases hq with hq|hq
 ·obtain⟨its,r',pl,hz⟩:=I.list hq;have hlen:=r'.length;obtain⟨o,ho,hc,n,hd⟩:=pl.isList;exact call_list_seq p (.inl rfl) ho hc hd (fun h' c' kp e=>fin its r' hz h' c' kp e) (by simp only[aj']<;>omega)
 ·obtain⟨its,r',pl,hz⟩:=I.tuple hq;have hlen:=r'.length;obtain⟨o,ho,hc,n,hd⟩:=pl;exact call_list_seq p (.inr rfl) ho hc hd (fun h' c' kp e=>fin its r' hz h' c' kp e) (by simp only[aj']<;>omega)
def tyV(K:F__)(T:String)(x:V)(H:Hp):Prop:=match x with
 |.str _=>T="str"
 |.int _=>T="int"
 |.ref p=>(T="list"/\∃xs,SqL K H p xs)∨(T="tuple"/\∃o,K.lookup p=some o/\o.cls=.type "tuple"/\o.dict=none) ∨
   (T="dict"/\((∃kvs,H p=some (.dK kvs))∨∃kvs,H p=some (.dT kvs)))∨(T="set"/\∃S n,H p=some (.set S n))
 |_=>False
theorem ip_{pins:List (Addr × Obj)}{σ:St}{H:Hp}{s:Shared}{T:String}{x:V}{v:Value}(I:Inv X pins σ H s)(r:RelV x v)(ty:tyV X.K T x H) :
  s.TypeIs v T/\∀a,v=.ref a->∃ob,s.heap.get? a=some ob/\ob.dict=none:=by
 cases x with
 |str z=>
  obtain⟨t,rfl⟩:=r;cases (show T="str" from ty);exact⟨typeIs_str s z t,fun _ e=>nomatch e⟩
 |int i=>
  obtain⟨t,rfl⟩:=r;cases (show T="int" from ty);exact⟨typeIs_int s i t,fun _ e=>nomatch e⟩
 |ref p=>
  cases r;rcases ty with⟨rfl,xs,hq⟩|⟨rfl,o,hk,hc,hd⟩|⟨rfl,hk⟩|⟨rfl,S,n,hk⟩
  ·obtain⟨its,_,pl,_⟩:=I.list hq;refine⟨pl.isList.typeIs,fun a e=>?_⟩;cases e;obtain⟨o,n,e,c,hd,_⟩:=pl;exact⟨o,e,hd⟩
  ·refine⟨⟨o,I.kIn p o hk,hc⟩,fun a e=>?_⟩;cases e;exact⟨o,I.kIn _ o hk,hd⟩
  ·have z:∃o,s.heap.get? p=some o/\o.ExactDict:=by
    rcases hk with⟨kvs,hk⟩|⟨kvs,hk⟩
    ·obtain⟨_,_,_,_,o,_,_,e,ex,_⟩:=I.hok p _ hk;exact⟨o,e,ex⟩
    ·obtain⟨_,_,_,_,o,_,_,e,ex,_⟩:=I.hok p _ hk;exact⟨o,e,ex⟩
   obtain⟨o,e,ex⟩:=z;refine⟨⟨o,e,ex.1⟩,fun a e2=>?_⟩;cases e2;exact⟨o,e,ex.2.1⟩
  ·obtain⟨o,_,_,_,e,ex,_⟩:=I.hok p _ hk;refine⟨⟨o,e,ex.1⟩,fun a e2=>?_⟩;cases e2;exact⟨o,e,ex.2.1⟩
 |_=>exact False.elim ty
def tBM0(K:F__)(T:String)(r:V->List V->Hp->VK->Prop)(to:TE):TE:=fun σ H Q=>to σ H fun x H1=>tyV K T x H1/\r x [] H1 Q
def tBM(K:F__)(T:String)(r:V->List V->Hp->VK->Prop)(to:TE)(t:TA):TE:=fun σ H Q=>to σ H fun x H1=>tyV K T x H1/\t σ H1 fun xs H2=>r x xs H2 Q
variable{o e:Expr}{es:List Expr}{to:TE}{t:TA}{name:Str}{apos cpos:Pos}{T id:String}{r:V->List V->Hp->VK->Prop}
theorem jY_(pa:PlainAttrs T)(slot:Slot T name id)(hty:typeOf (.builtin id)=pure (.type "method_descriptor"))(hm:MtR X id r)(ho:PE X o to)
  (hbase:attributeBase o name X.env (eval o X.env)=eval o X.env:=by rfl) (hline:(apos.endLine == cpos.line)=true:=by rfl):PE X (.Call (.Attribute o name apos) [] [] cpos) (tBM0 X.K T r to):=by
 intro pins s σ H Q I h;refine wpAny_Call_method0_late hbase hline (thn (ho pins s σ H _ I h) fun v s1 ⟨x,H1,I1,r1,ty,q1⟩=>?_);obtain⟨h1,h2⟩:=ip_ I1 r1 ty;exact⟨T,id,pa,slot,hty,h1,h2,Calls.callWith_builtin rfl (PySem.evalArgs_none (hm pins s1 σ H1 x [] v [] Q I1 r1 .nil q1))⟩
theorem bQ_(pa:PlainAttrs T)(slot:Slot T name id)(hty:typeOf (.builtin id)=pure (.type "method_descriptor"))(hm:MtR X id r)(ho:PE X o to)(ha:PA X (e::es) t)
  (hbase:attributeBase o name X.env (eval o X.env)=eval o X.env:=by rfl)
  (hfew:((backTo cpos (starEach (e::es) X.env)).all (fun x=>!x.1)&&(backToKw cpos (keywordEach [] X.env)).all (fun x=>x.1.isSome)
   && decide ((e::es).length+([]:List Keyword).length+(if ([]:List Keyword).isEmpty then 0 else 1)<30))=true:=by rfl)
  (hline:(apos.endLine == cpos.line)=true:=by rfl) (hs:starEach (e::es) X.env=(false,eval e X.env)::starEach es X.env:=by rfl) (hplain:(backTo cpos (starEach es X.env)).any (·.1)=false:=by rfl) :
  PE X (.Call (.Attribute o name apos) (e::es) [] cpos) (tBM X.K T r to t):=by
 intro pins s σ H Q I h;refine wpAny_Call_method_late hbase hfew hline rfl (thn (ho pins s σ H _ I h) fun v s1 ⟨x,H1,I1,r1,ty,q1⟩=>?_);obtain⟨h1,h2⟩:=ip_ I1 r1 ty;refine⟨T,id,pa,slot,hty,h1,h2,?_⟩;have hA:=ha cpos pins s1 σ H1 _ I1 q1;rw[hs] at hA ⊢;refine Calls.callWith_builtin (by show (false || (backTo cpos (starEach es X.env)).any (·.1))=false;rw[hplain]<;>rfl) (Calls.evalArgs_plain ?_)
 exact thn hA fun us s2 ⟨vs,H2,I2,r2,q2⟩=>hm pins s2 σ H2 x vs v us Q I2 r1 r2 q2
/- xs.append(e),list.index on a module's tuple .. are MtR facts of 06m -/
end
end L2
namespace L2
open PySem PySem.Spec PyProof.Rows
def MtM(X:Cx)(id:String)(r:V->List V->Hp->VK->Prop):Prop:=
 ∀(pins:List (Addr × Obj)) (s:Shared) (σ:St) (H:Hp) (x:V) (xs:List V) (v:Value) (us:List Value) (Q:VK),Inv X pins σ H s->RelV x v->Vals xs us->r x xs H Q->
  wpAny (model X.prog X.w) X.A (call (.builtin id) (v::us)) (EP X pins σ Q) X.xe s
theorem Vals.one:∀{x:V} {us:List Value},Vals [x] us->∃u,us=[u]/\RelV x u
 |_,_,.cons r .nil=>⟨_,rfl,r⟩
theorem Vals.zero:∀{us:List Value},Vals [] us->us=[]
 |_,.nil=>rfl
theorem Vals.eraseIdx:∀{xs:List V} {us:List Value} (i:Nat),Vals xs us->Vals (xs.eraseIdx i) (us.eraseIdx i)
 |_,_,_,.nil=>.nil
 |_,_,0,.cons _ t=>t
 |_,_,i+1,.cons r t=>.cons r (Vals.eraseIdx i t)
theorem Vals.rep{xs:List V}{us:List Value}(h:Vals xs us):∀k:Nat,Vals (List.replicate k xs).flatten (List.replicate k us).flatten
 |0=>.nil
 |k+1=>by
  rw[List.replicate_succ,List.replicate_succ,List.flatten_cons,List.flatten_cons];exact Vals.append h (Vals.rep h k)
theorem dO_{α:Type}:∀(l:List α) (i:Nat),(l.eraseIdx i).length<=l.length
 |[],_=>ag' _
 |_::_,0=>Nat.le_succ _
 |_::r,i+1=>Nat.succ_le_succ (dO_ r i)
theorem dH_(its:List Value):∀(k:Nat) (acc:List Value),
  List.foldl (fun x1 x2=>x1++x2) acc.toArray (List.replicate k its.toArray)=(acc++(List.replicate k its).flatten).toArray
 |0,acc=>by simp
 |k+1,acc=>by
  have e:acc.toArray++its.toArray=(acc++its).toArray:=by simp
  have e2:(acc++its)++(List.replicate k its).flatten=acc++(List.replicate (k+1) its).flatten:=by
   rw[List.replicate_succ,List.flatten_cons,List.append_assoc]
  rw[<- e2,<- dH_ its k (acc++its),<- e,List.replicate_succ,List.foldl_cons]
section
variable{X:Cx}{pins:List (Addr × Obj)}{σ:St}{H:Hp}{s:Shared}{l b:Addr}{xs ys zs:List V}
theorem Inv.lset{its its':List Value}{n:Nat}{f:Array Value->Array Value}{t':Nat}(I:Inv X pins σ H s)(hH:H l=some (.lst xs))
  (e:s.heap.get? l=some { cls:=.type "list",data:=.seq its.toArray n }) (hf:f its.toArray=its'.toArray) (hv:Vals ys its') (hz:ys.length<=sizeLine) :
  Inv X pins σ (upd H l (.lst ys)) { s with heap:=s.heap.update l (Obj.mapSeq f),toks:=t' }:=by
 have q:=PySem.IsL.update e f;rw[hf] at q;refine I.write (x:=l) (e:=l) (by rw[hH];exact trivial) (.inl rfl) (fun b' u hb hu=>(Heap.get?_update_other s.heap (Obj.mapSeq f) (Ne.symm hb)).trans hu) ⟨_,q⟩ ?_;exact⟨hz,its',_,hv,q⟩
theorem Inv.lnew{its:List Value}{t':Nat}(I:Inv X pins σ H s)(hv:Vals ys its)(hz:ys.length<=sizeLine) :
  Inv X pins σ (upd H s.heap.objs.size (.lst ys)) { s with heap:=s.heap.push { cls:=.type "list",data:=.seq its.toArray },toks:=t' }:=
 I.laid (fun _ _ q=>Heap.get?_push_of_some _ q) (ag' _) ⟨hz,its,0,hv,Heap.get?_push_size _ rfl⟩
theorem Inv.fresh(I:Inv X pins σ H s):H s.heap.objs.size=none:=I.hok.fresh (ag' _)
theorem Inv.lstM(I:Inv X pins σ H s)(hH:H l=some (.lst xs)):xs.length<=sizeLine/\∃(its:List Value) (n:Nat),Vals xs its/\xs.length=its.length/\s.heap.get? l=some { cls:=.type "list",data:=.seq its.toArray n }:=by
 obtain⟨z,its,n,r,e⟩:=I.hok l _ hH;exact⟨z,its,n,r,r.length,e⟩
theorem dr'{n:Nat}(h:n<=sizeLine):Builtin.List.listTooLong n=false:=by
 unfold Builtin.List.listTooLong;exact decide_eq_false (by omega)
end
section
variable{X:Cx}
def rAppend:V->List V->Hp->VK->Prop:=fun x vs H Q=>∃l xs y,x=.ref l/\vs=[y]/\H l=some (.lst xs)/\xs.length<sizeLine/\Q .non (upd H l (.lst (xs++[y])))
theorem aU_:MtM X "list.append" rAppend:=by
 intro pins s σ H x vs v us Q I rx rv h;obtain⟨l,xs,y,rfl,rfl,hH,hz,q⟩:=h;cases rx;obtain⟨u,rfl,ru⟩:=rv.one;obtain⟨z,its,n,r,hl,e⟩:=I.lstM hH;refine call_meets F.slot_list_append ⟨_,e,rfl⟩ F.entry_list_append (F.args_list_append_2 _ _) (PySem.list_append l its.toArray n u (by rw[aj'];omega)) ⟨e,?_⟩;refine⟨.non,_,I.lset (its':=its++[u]) hH e (by simp) (r.append (.cons ru .nil)) ?_,rfl,q⟩;rw[an',aS'];omega
def rExtend:V->List V->Hp->VK->Prop:=fun x vs H Q=>∃l b xs zs,x=.ref l/\vs=[.ref b]/\H l=some (.lst xs)/\H b=some (.lst zs)/\xs.length+zs.length<=sizeLine/\Q .non (upd H l (.lst (xs++zs)))
theorem dI_:MtM X "list.extend" rExtend:=by
 intro pins s σ H x vs v us Q I rx rv h;obtain⟨l,b,xs,zs,rfl,rfl,hH,hB,hz,q⟩:=h;cases rx;obtain⟨u,rfl,ru⟩:=rv.one;cases ru;obtain⟨z,its,n,r,hl,e⟩:=I.lstM hH;obtain⟨z2,its2,n2,r2,hl2,e2⟩:=I.lstM hB;have hsz:its.toArray.size+its2.toArray.size<=sizeLine:=by rw[aj',aj'];omega
 have hlong:¬(!its.toArray.isEmpty&&Builtin.List.listTooLong (its.toArray.size+its2.toArray.size))=true:=by
  rw[dr' hsz,aT'];exact aq'
 refine call_meets F.slot_list_extend ⟨_,e,rfl⟩ F.entry_list_extend (F.args_list_extend_2 _ _)
  (AutoSeq1.list_extend_list_list_0 l its.toArray n b its2.toArray n2 hlong (by rw[aj'];omega) (by omega)) ⟨e,e2,?_⟩
 refine⟨.non,_,I.lset (its':=its++its2) hH e (by simp) (r.append r2) ?_,rfl,q⟩;rw[an'];omega
def rClear:V->List V->Hp->VK->Prop:=fun x vs H Q=>∃l xs,x=.ref l/\vs=[]/\H l=some (.lst xs)/\Q .non (upd H l (.lst []))
theorem hV_:MtM X "list.clear" rClear:=by
 intro pins s σ H x vs v us Q I rx rv h;obtain⟨l,xs,rfl,rfl,hH,q⟩:=h;cases rx;have hus:=rv.zero;subst hus;obtain⟨z,its,n,r,hl,e⟩:=I.lstM hH;refine call_meets F.slot_list_clear ⟨_,e,rfl⟩ F.entry_list_clear (F.args_list_clear_1 _) (AutoSeq1.list_clear_list_0 l its.toArray n (by rw[aj'];omega)) ⟨e,?_⟩;exact⟨.non,_,I.lset (its':=[]) (ys:=[]) hH e rfl .nil (aC' _),rfl,q⟩
def rCat:R2:=fun x y H Q=>∃l b xs zs,x=.ref l/\y=.ref b/\H l=some (.lst xs)/\H b=some (.lst zs)/\xs.length+zs.length<=sizeLine/\∀p,H p=none->Q (.ref p) (upd H p (.lst (xs++zs)))
theorem io_:OpR X (binaryOp .Add) rCat:=by
 intro pins s σ H x y v u Q I rx ry h;obtain⟨l,b,xs,zs,rfl,rfl,hH,hB,hz,q⟩:=h;cases rx;cases ry;obtain⟨z,its,n,r,hl,e⟩:=I.lstM hH;obtain⟨z2,its2,n2,r2,hl2,e2⟩:=I.lstM hB;refine PySem.P.add_list e e2 ?_ (by rw[aj',aj'];omega);have ea:its.toArray++its2.toArray=(its++its2).toArray:=by simp
 rw[ea];exact⟨.ref _,_,I.lnew (t':=s.toks) (r.append r2) (by rw[an'];omega),rfl,q _ I.fresh⟩
def rRep:R2:=fun x y H Q=>∃l k xs,x=.ref l/\y=.int k/\H l=some (.lst xs)/\-(2 ^ 63)<=k/\k<2 ^ 63/\xs.length * k.toNat<=sizeLine /\
 ∀p,H p=none->Q (.ref p) (upd H p (.lst (List.replicate k.toNat xs).flatten))
theorem ji_{α:Type}(xs:List α)(k:Nat):(List.replicate k xs).flatten.length=k * xs.length:=by
 induction k with
 |zero=>simp
 |succ k ih=>rw[List.replicate_succ,List.flatten_cons,an',ih,Nat.succ_mul,Nat.add_comm]
theorem iu_:OpR X (binaryOp .Mult) rRep:=by
 intro pins s σ H x y v u Q I rx ry h;obtain⟨l,k,xs,rfl,rfl,hH,h1,h2,hz,q⟩:=h;cases rx;obtain⟨t,rfl⟩:=ry;obtain⟨z,its,n,r,hl,e⟩:=I.lstM hH;have hlen:its.toArray.size * k.toNat<=sizeLine:=by rw[aj',<- hl];exact hz
 have hcap:¬its.toArray.size * k.toNat > (2 ^ 63 - 1) / 8:=by
  have:(sizeLine:Nat)<=(2 ^ 63 - 1) / 8:=by decide
  omega
 have hfit:¬(!Builtin.List.listFitsIndex k)=true:=by
  rw[fitsIndex_both h1 h2];exact aq'
 have hlong:¬Builtin.List.listTooLong (its.toArray.size * k.toNat)=true:=by
  rw[dr' hlen];exact aq'
 have hnew:List.foldl (fun x1 x2=>x1++x2) #[] (List.replicate (if its.toArray.isEmpty=true then 0 else k.toNat) its.toArray)=(List.replicate k.toNat its).flatten.toArray:=by
  have f0:∀m:Nat,List.foldl (fun x1 x2=>x1++x2) #[] (List.replicate m its.toArray)=(List.replicate m its).flatten.toArray:=fun m=>by
   have:=dH_ its m [];rw[List.nil_append] at this;exact this
  rw[f0];cases its with
  |nil=>simp
  |cons a r'=>rw[if_neg (by simp)]
 refine wpAny_binaryOp_repeat_ref (T:="list") (U:="int") (by decide) ⟨_,e,rfl⟩ (fun s'=>typeIs_int s' k t) noFill_list_mul F.fills_int_mul F.slot_int_rmul repeat_list F.slot_int_index.lookup
  (call_meets F.slot_int_rmul (typeIs_int s k t) F.entry_int_rmul (F.args_int_rmul_2 _ _) (int___rmul___int_list k t l its.toArray n)
   ⟨e,rfl,⟨_,e,rfl⟩,call_meets F.slot_list_mul ⟨_,e,rfl⟩ F.entry_list_mul (F.args_list_mul_2 _ _) (AutoListH.list___mul___list_int_3 l its.toArray n k t hfit hcap hlong) ⟨e,?_⟩⟩)
 rw[hnew];exact⟨.ref _,_,I.lnew (t':=s.toks) (r.rep k.toNat) (by rw[ji_,Nat.mul_comm];exact hz),rfl,q _ I.fresh⟩
end
section
variable{prog:Program}{w:World}{A:Around}{E:Value->Shared->Prop}{s:Shared}
end
section
variable{X:Cx}
end
end L2
namespace L2
open PySem PySem.Spec PyProof.Rows
section
variable{κ:Type}[DecidableEq κ]
def valV(kvs:List (κ × V))(k:κ):Option V:=(kvs.find? fun kv=>decide (kv.1=k)).map (·.2)
def putK(kvs:List (κ × V))(k:κ)(v:V):List (κ × V):=
 if (kvs.any fun kv=>decide (kv.1=k))=true then kvs.map (fun kv=>if kv.1=k then (kv.1,v) else kv) else kvs++[(k,v)]
theorem bk_{p:κ × V}{r:List (κ × V)}{k:κ}(e:p.1=k):valV (p::r) k=some p.2:=by simp[valV,List.find?_cons,e]
theorem bl_{p:κ × V}{r:List (κ × V)}{k:κ}(e:¬p.1=k):valV (p::r) k=valV r k:=by simp[valV,List.find?_cons,e]
theorem bT_(k:κ):∀kvs:List (κ × V),(kvs.any fun kv=>decide (kv.1=k))=(valV kvs k).isSome
 |[]=>rfl
 |p::r=>by
  rw[List.any_cons];by_cases e:p.1=k
  ·simp only[bk_ e,decide_eq_true e,Bool.true_or,Option.isSome_some]
  ·rw[bl_ e,decide_eq_false e,Bool.false_or];exact bT_ k r
theorem bK_(kvs:List (κ × V))(k:κ)(v:V):(putK kvs k v).length<=kvs.length+1:=by
 unfold putK;split
 ·rw[aa'];omega
 ·rw[an',az',aV'];omega
theorem bA_{kvs:List (κ × V)}{k:κ}(v:V)(h:valV kvs k=none):putK kvs k v=kvs++[(k,v)]:=by
 unfold putK;rw[bT_,h];exact if_neg (by decide)
theorem RelO.isSome_eq{o:Option V}{u:Option Value}(r:RelO o u):o.isSome=u.isSome:=by
 cases o with
 |none=>cases u with
  |none=>rfl
  |some _=>exact (show False from r).elim
 |some _=>cases u with
  |none=>exact (show False from r).elim
  |some _=>rfl
theorem KV.val{kvs:List (κ × V)}{vs:List (κ × Value)}(r:KV kvs vs)(k:κ):RelO (valV kvs k) (valueAt vs k):=by
 unfold KV at r
 induction r with
 |nil=>exact True.intro
 |@cons p q ps qs h t ih=>
  obtain⟨h1,h2⟩:=h;by_cases e:p.1=k
  ·have e':q.1=k:=h1.symm.trans e;have b:valueAt (q::qs) k=some q.2:=by simp[valueAt,List.find?_cons,e']
   rw[bk_ e,b];exact h2
  ·have e':¬q.1=k:=fun z=>e (h1.trans z);have b:valueAt (q::qs) k=valueAt qs k:=by simp[valueAt,List.find?_cons,e']
   rw[bl_ e,b];exact ih
theorem KV.any{kvs:List (κ × V)}{vs:List (κ × Value)}(r:KV kvs vs)(k:κ):(kvs.any fun kv=>decide (kv.1=k))=vs.any fun kv=>decide (kv.1=k):=by
 unfold KV at r
 induction r with
 |nil=>rfl
 |cons h t ih=>rw[List.any_cons,List.any_cons,ih,h.1]
theorem KV.repl{kvs:List (κ × V)}{vs:List (κ × Value)}(r:KV kvs vs)(k:κ){y:V}{u:Value}(ry:RelV y u) :
  KV (kvs.map fun kv=>if kv.1=k then (kv.1,y) else kv) (vs.map fun kv=>if kv.1=k then (kv.1,u) else kv):=by
 unfold KV at r ⊢
 induction r with
 |nil=>exact .nil
 |@cons p q ps qs h t ih=>
  rw[ap',ap'];refine .cons ?_ ih;obtain⟨h1,h2⟩:=h;by_cases e:p.1=k
  ·rw[if_pos e,if_pos (h1.symm.trans e)];exact⟨h1,ry⟩
  ·rw[if_neg e,if_neg (fun z=>e (h1.trans z))];exact⟨h1,h2⟩
theorem KV.put{kvs:List (κ × V)}{vs:List (κ × Value)}(r:KV kvs vs)(k:κ){y:V}{u:Value}(ry:RelV y u):KV (putK kvs k y) (stored vs k u):=by
 unfold putK stored;rw[r.any k];by_cases e:(vs.any fun kv=>decide (kv.1=k))=true
 ·rw[if_pos e,if_pos e];exact r.repl k ry
 ·rw[if_neg e,if_neg e];exact Paired.snoc r ⟨rfl,ry⟩
theorem KV.keys{kvs:List (κ × V)}{vs:List (κ × Value)}(r:KV kvs vs):kvs.map (·.1)=vs.map (·.1):=by
 unfold KV at r
 induction r with
 |nil=>rfl
 |cons h t ih=>rw[ap',ap',ih,h.1]
theorem KV.length{kvs:List (κ × V)}{vs:List (κ × Value)}(r:KV kvs vs):kvs.length=vs.length:=Paired.length r
end
theorem df_{P:Program}{w:World}{k:Key}{u:Value}(r:RelV (kV k) u):(bb' P w).is k u=true:=by
 cases k with
 |inl i=>obtain⟨t,e⟩:=(show ∃t,u=Value.int i t from r);subst e;exact ej_ P w i t
 |inr x=>obtain⟨t,e⟩:=(show ∃t,u=Value.str x t from r);subst e;exact bM_ P w x t
theorem e3_{P:Program}{w:World}:∀{ks:List Key} {us:List Value},Vals (ks.map kV) us->ItemsAre (bb' P w) ks us
 |[],_,r=>by rw[List.map_nil] at r;cases r;exact .nil
 |k::ks,_,r=>by
  rw[ap'] at r;cases r with
  |cons h t=>exact .cons (df_ h) (e3_ t)
abbrev KT(H:Hp):List (List Key × V)->List (List Key × Addr × Value)->Prop:=Paired fun p q=>p.1=q.1/\H q.2.1=some (.tup (p.1.map kV))/\RelV p.2 q.2.2
theorem KT.val{H:Hp}{kvs:List (List Key × V)}{xs:List (List Key × Addr × Value)}(r:KT H kvs xs)(k:List Key):RelO (valV kvs k) ((atKey xs k).map (·.2)):=by
 induction r with
 |nil=>exact True.intro
 |@cons p q ps qs h t ih=>
  obtain⟨h1,_,h2⟩:=h;by_cases e:p.1=k
  ·have e':q.1=k:=h1.symm.trans e;have b:atKey (q::qs) k=some q.2:=by simp[atKey,List.find?_cons,e']
   rw[bk_ e,b];exact h2
  ·have e':¬q.1=k:=fun z=>e (h1.trans z);have b:atKey (q::qs) k=atKey qs k:=by simp[atKey,List.find?_cons,e']
   rw[bl_ e,b];exact ih
theorem KT.repl{H:Hp}{kvs:List (List Key × V)}{xs:List (List Key × Addr × Value)}(r:KT H kvs xs)(k:List Key){y:V}{u:Value}(ry:RelV y u) :
  KT H (kvs.map fun kv=>if kv.1=k then (kv.1,y) else kv) (xs.map (putAt k u)):=by
 induction r with
 |nil=>exact .nil
 |@cons p q ps qs h t ih=>
  rw[ap',ap'];refine .cons ?_ ih;obtain⟨h1,h2,h3⟩:=h;unfold putAt;by_cases e:p.1=k
  ·rw[if_pos e,if_pos (h1.symm.trans e)];exact⟨h1,h2,ry⟩
  ·rw[if_neg e,if_neg (fun z=>e (h1.trans z))];exact⟨h1,h2,h3⟩
theorem KT.put{H:Hp}{kvs:List (List Key × V)}{xs:List (List Key × Addr × Value)}(r:KT H kvs xs)(k:List Key){b:Addr}{y:V}{u:Value}(hb:H b=some (.tup (k.map kV)))(ry:RelV y u) :
  KT H (putK kvs k y) (storedH xs k b u):=by
 have e:(kvs.any fun kv=>decide (kv.1=k))=(atKey xs k).isSome:=by
  rw[bT_,(r.val k).isSome_eq,Option.isSome_map]
 unfold putK storedH;rw[e];by_cases q:(atKey xs k).isSome=true
 ·rw[if_pos q,if_pos q];exact r.repl k ry
 ·rw[if_neg q,if_neg q];exact Paired.snoc r ⟨rfl,hb,ry⟩
theorem KT.keeps{H H':Hp}{kvs:List (List Key × V)}{xs:List (List Key × Addr × Value)}(r:KT H kvs xs)(ht:∀b ys,H b=some (.tup ys)->H' b=some (.tup ys)):KT H' kvs xs:=
 Paired.mapP r fun _ _ z=>⟨z.1,ht _ _ z.2.1,z.2.2⟩
section
variable{P:Program}{w:World}{H:Hp}{h:Heap}{a:Addr}
theorem kc_{u:HO}(ok:HOk P w H h)(e:Rd H a u):bi' P w H h a u:=e.ok ok
theorem cp_{kvs:List (Key × V)}(ok:HOk P w H h)(e:Rd H a (.dK kvs)):kvs.length<=sizeLine/\(a == sysModules)=false/\∃vs,KV kvs vs/\h.DictOf (bb' P w) a vs:=
 show bi' P w H h a (.dK kvs) from kc_ ok e
theorem fr_{kvs:List (Key × V)}(ok:HOk P w H h)(e:H a=some (.dK kvs)):kvs.length<=sizeLine/\(a == sysModules)=false/\∃vs,KV kvs vs/\h.DictOf (bb' P w) a vs:=cp_ ok (.inl e)
theorem dW_{ks:List Key}(ok:HOk P w H h)(e:H a=some (.tup (ks.map kV))):(tupleKind (bb' P w)).is h ks a:=by
 obtain⟨_,its,r,⟨o,h1,h2,n,h3⟩,_⟩:=(show bi' P w H h a (.tup (ks.map kV)) from ok a _ e);exact⟨o,its.toArray,n,h1,h2,h3,by simpa using e3_ r⟩
theorem fh_{kvs:List (List Key × V)}(ok:HOk P w H h)(e:Rd H a (.dT kvs)):kvs.length<=sizeLine/\(a == sysModules)=false /\
  ∃xs,KT H kvs xs/\h.DictOfH (tupleKind (bb' P w)) a xs:=by
 obtain⟨z,y,xs,r,o,es,ep,h1,h2,h3,h4,h5⟩:=(show bi' P w H h a (.dT kvs) from kc_ ok e);refine⟨z,y,xs,r,o,es,ep,h1,h2,h3,h4,fun x hx=>?_,h5⟩
 have all:∀{l:List (List Key × V)} {m:List (List Key × Addr × Value)},KT H l m->∀x∈m,(tupleKind (bb' P w)).is h x.1 x.2.1:=by
  intro l m q
  induction q with
  |nil=>intro x hx;exact nomatch hx
  |@cons p q ps qs hq t ih=>
   intro x hx;rcases ai'.mp hx with e|hx
   ·subst e;exact dW_ ok (by rw[<- hq.1];exact hq.2.1)
   ·exact ih x hx
 exact all r x hx
theorem kt_{kvs:List (List Key × V)}(ok:HOk P w H h)(e:H a=some (.dT kvs)):kvs.length<=sizeLine/\(a == sysModules)=false /\
  ∃xs,KT H kvs xs/\h.DictOfH (tupleKind (bb' P w)) a xs:=fh_ ok (.inl e)
end
def DGet(H:Hp)(a:Addr)(y:V)(r:Option V):Prop:=
 (∃kvs k,Rd H a (.dK kvs)/\y=kV k/\r=valV kvs k)∨∃kvs k b,Rd H a (.dT kvs)/\y=.ref b/\H b=some (.tup (k.map kV))/\r=valV kvs k
def DPut(H:Hp)(a:Addr)(y v:V)(H':Hp):Prop:=
 (∃kvs k,H a=some (.dK kvs)/\y=kV k/\kvs.length<sizeLine/\H'=upd H a (.dK (putK kvs k v))) ∨
 ∃kvs k b,H a=some (.dT kvs)/\y=.ref b/\H b=some (.tup (k.map kV))/\kvs.length<sizeLine/\H'=upd H a (.dT (putK kvs k v))
theorem DGet.k{H:Hp}{a:Addr}{kvs:List (Key × V)}{k:Key}(e:H a=some (.dK kvs)):DGet H a (kV k) (valV kvs k):=.inl ⟨kvs,k,.inl e,rfl,rfl⟩
theorem DGet.t{H:Hp}{a b:Addr}{kvs:List (List Key × V)}{k:List Key}(e:H a=some (.dT kvs))(eb:H b=some (.tup (k.map kV))):DGet H a (.ref b) (valV kvs k):=.inr ⟨kvs,k,b,.inl e,rfl,eb,rfl⟩
theorem DPut.k{H:Hp}{a:Addr}{kvs:List (Key × V)}{k:Key}{v:V}(e:H a=some (.dK kvs))(hl:kvs.length<sizeLine):DPut H a (kV k) v (upd H a (.dK (putK kvs k v))):=.inl ⟨kvs,k,e,rfl,hl,rfl⟩
theorem DPut.t{H:Hp}{a b:Addr}{kvs:List (List Key × V)}{k:List Key}{v:V}(e:H a=some (.dT kvs))(eb:H b=some (.tup (k.map kV)))(hl:kvs.length<sizeLine) :
  DPut H a (.ref b) v (upd H a (.dT (putK kvs k v))):=.inr ⟨kvs,k,b,e,rfl,eb,hl,rfl⟩
section
variable{X:Cx}{pins:List (Addr × Obj)}{σ:St}{H:Hp}{s:Shared}{a:Addr}{y v:V}{u r:Value}{o:Option V}{A:Around}{E:Value->Shared->Prop}
theorem Inv.big(I:Inv X pins σ H s):sysModules<s.heap.objs.size:=by
 have h:mainGlobals<s.heap.objs.size:=(I.mod.glob.keeps I.bk).lt;exact Nat.lt_trans (by decide) h
theorem dL_{Q:Value->Shared->Prop}(hu:A.units+1<cLine)(I:Inv X pins σ H s)(g:DGet H a y (some v))(ry:RelV y u)(h:∀w' s',Inv X pins σ H s'->RelV v w'->Q w' s') :
  wpAny (model X.prog X.w) A (getItem (.ref a) u) Q E s:=by
 rcases g with⟨kvs,k,e,ey,l⟩|⟨kvs,k,b,e,ey,eb,l⟩
 ·subst ey;obtain⟨z,hd,vs,rel,dd⟩:=cp_ I.hok e;obtain⟨w',hw,rw'⟩:=RelO.some_of (v:=v) (o:=valueAt vs k) (by rw[l];exact rel.val k);exact wpAny_getItem_of (df_ ry) dd.mapOf hw (h w' _ (I.tok _) rw')
 ·subst ey;cases (show u=Value.ref b from ry);obtain⟨z,hd,xs,rel,dd⟩:=fh_ I.hok e;obtain⟨w',hw,rw'⟩:=RelO.some_of (v:=v) (o:=(atKey xs k).map (·.2)) (by rw[l];exact rel.val k);obtain⟨p,hp,hp2⟩:=aZ'.mp hw;refine wpAny_getItem_heap (tupleKind_room_in1 hu) (dW_ I.hok eb) dd hp ?_;rw[hp2];exact h w' _ (I.tok _) rw'
theorem d_in{Q:Value->Shared->Prop}(hu:A.units+1<cLine)(I:Inv X pins σ H s)(g:DGet H a y o)(ry:RelV y u)(h:∀s',Inv X pins σ H s'->Q (.bool o.isSome) s') :
  wpAny (model X.prog X.w) A (compareOp .In u (.ref a)) Q E s:=by
 rcases g with⟨kvs,k,e,ey,l⟩|⟨kvs,k,b,e,ey,eb,l⟩
 ·subst ey;obtain⟨z,hd,vs,rel,dd⟩:=cp_ I.hok e;refine wpAny_in_of (df_ ry) hd dd.mapOf ?_;rw[<- (rel.val k).isSome_eq,<- l];exact h _ (I.tok _)
 ·subst ey;cases (show u=Value.ref b from ry);obtain⟨z,hd,xs,rel,dd⟩:=fh_ I.hok e;refine wpAny_in_heap (tupleKind_room_in1 hu) (dW_ I.hok eb) hd dd ?_;have q:=(rel.val k).isSome_eq;rw[Option.isSome_map] at q;rw[<- q,<- l];exact h _ (I.tok _)
theorem iS_{Q:Value->Shared->Prop}(hu:A.units+1<cLine)(I:Inv X pins σ H s)(g:DGet H a y o)(ry:RelV y u)(h:∀s',Inv X pins σ H s'->Q (.bool (!o.isSome)) s') :
  wpAny (model X.prog X.w) A (compareOp .NotIn u (.ref a)) Q E s:=by
 rcases g with⟨kvs,k,e,ey,l⟩|⟨kvs,k,b,e,ey,eb,l⟩
 ·subst ey;obtain⟨z,hd,vs,rel,dd⟩:=cp_ I.hok e;refine wpAny_notIn_of (df_ ry) hd dd.mapOf ?_;rw[<- (rel.val k).isSome_eq,<- l];exact h _ (I.tok _)
 ·subst ey;cases (show u=Value.ref b from ry);obtain⟨z,hd,xs,rel,dd⟩:=fh_ I.hok e;refine wpAny_notIn_heap (tupleKind_room_in1 hu) (dW_ I.hok eb) hd dd ?_;have q:=(rel.val k).isSome_eq;rw[Option.isSome_map] at q;rw[<- q,<- l];exact h _ (I.tok _)
theorem eh_{h':Heap}{t':Nat}{ob:HO}(I:Inv X pins σ H s)(mu:Mut (H a))(hs:Heap.SameBut a s.heap h')(he:∃q,h'.get? a=some q)(new:bi' X.prog X.w (upd H a ob) h' a ob) :
  Inv X pins σ (upd H a ob) { s with heap:=h',toks:=t' }:=
 I.write (x:=a) (e:=a) mu (.inl rfl) (fun b q hb z=>(hs.2 b hb).trans z) he new
theorem eD_{P:Program}{w:World}{H':Hp}{h':Heap}{kvs:List (Key × V)}{vs:List (Key × Value)}(z:kvs.length<=sizeLine)(hd:(a == sysModules)=false)(rel:KV kvs vs)(dd:h'.DictOf (bb' P w) a vs) :
  bi' P w H' h' a (.dK kvs):=⟨z,hd,vs,rel,dd⟩
theorem dY_{H':Hp}{Q:Unit->Shared->Prop}(hu:A.units+1<cLine)(I:Inv X pins σ H s)(g:DPut H a y v H')(ry:RelV y u)(rv:RelV v r)(h:∀s',Inv X pins σ H' s'->Q () s') :
  wpAny (model X.prog X.w) A (setItem (.ref a) u r) Q E s:=by
 rcases g with⟨kvs,k,e,ey,l,eH⟩|⟨kvs,k,b,e,ey,eb,l,eH⟩
 ·subst ey eH;obtain⟨z,hd,vs,rel,dd⟩:=fr_ I.hok e;have hz:vs.length<=sizeLine:=by rw[<- rel.length];exact z
  have hl:(putK kvs k v).length<=sizeLine:=by have:=bK_ kvs k v;omega
  refine wpAny_setItem_pairs (hsz:=hz) (df_ ry) dd fun h' dd' hs=>h _ ?_;have he:∃q,h'.get? a=some q:=let ⟨q,_,_,hq,_⟩:=dd';⟨q,hq⟩;exact eh_ I (by rw[e];exact True.intro) hs he (eD_ hl hd (rel.put k rv) dd')
 ·subst ey eH;cases (show u=Value.ref b from ry);obtain⟨z,hd,xs,rel,dd⟩:=kt_ I.hok e;have hz:xs.length<=sizeLine:=by rw[<- Paired.length rel];exact z
  have hl:(putK kvs k v).length<=sizeLine:=by have:=bK_ kvs k v;omega
  refine wpAny_setItem_heap (hsz:=hz) (tupleKind_room_in1 hu) (dW_ I.hok eb) dd fun h' dd' hs=>h _ ?_;obtain⟨q,es,ep,hq,h2,h3,h4,_,h5⟩:=dd';refine eh_ I (by rw[e];exact True.intro) hs ⟨q,hq⟩ ⟨hl,hd,_,(rel.put k eb rv).keeps fun c ys ec=>?_,q,es,ep,hq,h2,h3,h4,h5⟩;rw[a4_ (aN_ ec e nofun)];exact ec
end
section
variable{X:Cx}{pins:List (Addr × Obj)}{σ:St}{H:Hp}{s:Shared}{a:Addr}{kvs:List (Key × V)}{k:Key}{u:Value}{A:Around}{E:Value->Shared->Prop}
theorem kB_{Q:Value->Shared->Prop}(I:Inv X pins σ H s)(e:Rd H a (.dK kvs))(h:∀t s',Inv X pins σ H s'->Q (.int kvs.length t) s'):wpAny (model X.prog X.w) A (call (.builtin "len") [.ref a]) Q E s:=by
 obtain⟨z,hd,vs,rel,dd⟩:=cp_ I.hok e;refine call_len_dict hd dd (by rw[<- rel.length];rw[sizeLine_eq] at z;omega) ?_;rw[<- rel.length];exact h _ _ (I.tok _)
end
def NoSl(i:Expr):Prop:=∀ov iv,subscripted i false ov iv=operate [ov,iv] (getItem ov iv)
theorem gz_{prog:Program}{w:World}{A:Around}{E:Value->Shared->Prop}{s:Shared}{env:Env}{value slice:Expr}{pos:Pos}{T id:String}{Q:Value->Shared->Prop}
  (hl:typeLookup (.type T) "__getitem__"=pure (some (.builtin id))) (hs:NoSl slice)
  (h:wpAny (model prog w) A (eval value env) (fun o s₁=>wpAny (model prog w) A (eval slice env) (fun i s₂=>s₂.TypeIs o T/\wpAny (model prog w) A (getItem o i) Q E s₂) E s₁) E s) :
  wpAny (model prog w) A (eval (.Subscript value slice pos) env) Q E s:=by
 refine Subscript_ (wpAny_mono h (fun o s₁ h₁=>wpAny_mono h₁ (fun i s₂ h₂=>?_) fun _ _ x=>x) fun _ _ x=>x);obtain⟨hT,h₂⟩:=h₂;unfold subscriptTail;refine wpAny_bind ?_;rw[getitemInPython_of_ne hT.not_modules];refine wpAny_bind (wpAny_specialOf hT hl ?_)
 have fin:wpAny (model prog w) A (subscripted slice false o i) (fun r s₃=>wpAny (model prog w) A (letTemporaryGo value o r >>= fun _=>pure r) Q E s₃) E s₂:=by
  rw[hs o i];exact wpAny_operating (wpAny_mono h₂ (fun r s₃ h₃=>wpAny_bind (wpAny_letTemporaryGo (wpAny_pure h₃))) fun _ _ x=>x)
 first
  |exact wpAny_pure (wpAny_bind fin)
  |exact wpAny_bind (wpAny_pure (wpAny_bind fin))
  |exact wpAny_bind fin
theorem ef_{X:Cx}{pins:List (Addr × Obj)}{σ:St}{H:Hp}{s:Shared}{a:Addr}{y:V}{o:Option V}(I:Inv X pins σ H s)(g:DGet H a y o):s.TypeIs (.ref a) "dict":=by
 rcases g with⟨kvs,k,e,_,_⟩|⟨kvs,k,b,e,_,_,_⟩
 ·obtain⟨_,_,vs,_,dd⟩:=cp_ I.hok e;exact dd.typeIs
 ·obtain⟨_,_,xs,_,dd⟩:=fh_ I.hok e;exact dd.typeIs
def tDGet(td ty:TE):TE:=fun σ H Q=>td σ H fun x H1=>ty σ H1 fun y H2=>∃a v,x=.ref a/\DGet H2 a y (some v)/\Q v H2
def tDIn(ty td:TE):TE:=fun σ H Q=>ty σ H fun y H1=>td σ H1 fun x H2=>∃a o,x=.ref a/\DGet H2 a y o/\Q (.bl o.isSome) H2
def tDNotIn(ty td:TE):TE:=fun σ H Q=>ty σ H fun y H1=>td σ H1 fun x H2=>∃a o,x=.ref a/\DGet H2 a y o/\Q (.bl (!o.isSome)) H2
def sDPut(td ty tv:TE):TS:=fun D σ H=>tv σ H fun v H1=>td σ H1 fun x H2=>ty σ H2 fun y H3=>∃a H4,x=.ref a/\DPut H3 a y v H4/\D.nx σ H4
def sDAug(td ty tv:TE)(rd:V->V->Hp->VK->Prop):TS:=fun D σ H=>td σ H fun x H1=>ty σ H1 fun y H2=>∃a v,x=.ref a/\DGet H2 a y (some v) /\
 tv σ H2 fun y2 H3=>rd v y2 H3 fun z H4=>∃H5,DPut H4 a y z H5/\D.nx σ H5
section
variable{X:Cx}{o i e value:Expr}{pos pos' tpos:Pos}{td ty tv:TE}
theorem ai_(hu:X.A.units+1<cLine)(ho:PE X o td)(hi:PE X i ty)(hs:NoSl i):PE X (.Subscript o i pos) (tDGet td ty):=by
 intro pins s σ H Q I h;refine gz_ PySem.F.slot_dict_getitem.lookup hs (thn (ho pins s σ H _ I h) fun u s1 ⟨x,H1,I1,rx,q1⟩=>thn (hi pins s1 σ H1 _ I1 q1) fun iv s2 ⟨y,H2,I2,ry,a,v,ex,g,q2⟩=>?_);subst ex;obtain rfl:u=Value.ref a:=rx;exact⟨ef_ I2 g,dL_ hu I2 g ry fun w' s3 I3 rw'=>⟨v,H2,I3,rw',q2⟩⟩
theorem d4_(hu:X.A.units+1<cLine)(hi:PE X i ty)(ho:PE X o td):PC X .In i o (tDIn ty td):=by
 intro pins s σ H Q I h;refine thn (hi pins s σ H _ I h) fun iv s1 ⟨y,H1,I1,ry,q1⟩=>thn (ho pins s1 σ H1 _ I1 q1) fun u s2 ⟨x,H2,I2,rx,a,ov,ex,g,q2⟩=>?_;subst ex;obtain rfl:u=Value.ref a:=rx;exact d_in hu I2 g ry fun s3 I3=>⟨.bl ov.isSome,H2,I3,rfl,q2⟩
theorem e0_(hu:X.A.units+1<cLine)(hi:PE X i ty)(ho:PE X o td):PC X .NotIn i o (tDNotIn ty td):=by
 intro pins s σ H Q I h;refine thn (hi pins s σ H _ I h) fun iv s1 ⟨y,H1,I1,ry,q1⟩=>thn (ho pins s1 σ H1 _ I1 q1) fun u s2 ⟨x,H2,I2,rx,a,ov,ex,g,q2⟩=>?_;subst ex;obtain rfl:u=Value.ref a:=rx;exact iS_ hu I2 g ry fun s3 I3=>⟨.bl (!ov.isSome),H2,I3,rfl,q2⟩
theorem ba_(hu:X.A.units+1<cLine)(ho:PE X o td)(hi:PE X i ty)(hv:PE X value tv)(hs:swapsWith value (some (.Subscript o i pos')) pos.line X.env=pure false) :
  PS X (.Assign [.Subscript o i pos'] value pos) (sDPut td ty tv):=by
 intro pins s σ H D I h;refine wpAny_Assign_Subscript (thn (hv pins s σ H _ I h) fun r s1 ⟨v,H1,I1,rv,q1⟩=>thn (ho pins s1 σ H1 _ I1 q1) fun u s2 ⟨x,H2,I2,rx,q2⟩=>thn (hi pins s2 σ H2 _ I2 q2) fun iv s3 ⟨y,H3,I3,ry,a,H4,ex,g,q3⟩=>?_) hs;subst ex;obtain rfl:u=Value.ref a:=rx;exact dY_ hu I3 g ry rv fun s4 I4=>⟨σ,H4,I4,q3⟩
theorem iV_{op:Operator}{rd:V->V->Hp->VK->Prop}(hu:X.A.units+1<cLine)(ho:PE X o td)(hi:PE X i ty)(hv:PE X value tv)(hop:InOp X op rd)
  (ha:∀ov iv new,augStore i ov iv new=(do holding [new,ov,iv] (setItem ov iv new);release [new,ov,iv] [];pure .next)):PS X (.AugAssign (.Subscript o i tpos) op value pos) (sDAug td ty tv rd):=by
 intro pins s σ H D I h;refine wpAny_AugAssign_SubscriptAny (thn (ho pins s σ H _ I h) fun u s1 ⟨x,H1,I1,rx,q1⟩=>thn (hi pins s1 σ H1 _ I1 q1) fun iv s2 ⟨y,H2,I2,ry,a,v,ex,g,q2⟩=>?_) ha;subst ex;obtain rfl:u=Value.ref a:=rx;refine dL_ hu I2 g ry fun w' s3 I3 rw'=>thn (hv pins s3 σ H2 _ I3 q2) fun w2 s4 ⟨y2,H3,I4,ry2,q3⟩=>thn (hop pins s4 σ H3 v y2 w' w2 _ I4 rw' ry2 q3) fun w3 s5 ⟨z,H4,I5,rz,H5,g5,q4⟩=>?_;exact dY_ hu I5 g5 ry rz fun s6 I6=>⟨σ,H5,I6,q4⟩
end
theorem eT_{P:Program}{w:World}{H:Hp}(h:Heap)(hb:sysModules<h.objs.size):bi' P w H (h.push { cls:=.type "dict",data:=.dict #[] }) h.objs.size (.dK []):=
 ⟨aC' _,beq_eq_false_iff_ne.mpr (Ne.symm (au' hb)),[],.nil,Heap.DictOf.new h⟩
theorem hg_{P:Program}{w:World}{H:Hp}(h:Heap)(hb:sysModules<h.objs.size):bi' P w H (h.push { cls:=.type "dict",data:=.dict #[] }) h.objs.size (.dT []):=
 ⟨aC' _,beq_eq_false_iff_ne.mpr (Ne.symm (au' hb)),[],.nil,_,#[],0,Heap.get?_push_size _ rfl,⟨rfl,rfl,rfl⟩,rfl,rfl,List.nodup_nil⟩
def tDNewK:TE:=fun _ H Q=>∀p,H p=none->Q (.ref p) (upd H p (.dK []))
def tDNewT:TE:=fun _ H Q=>∀p,H p=none->Q (.ref p) (upd H p (.dT []))
section
variable{X:Cx}{pos:Pos}
theorem br_:PE X (.Dict [] [] pos) tDNewK:=fun pins s σ H Q I h=>
 wpAny_Dict_empty ⟨.ref s.heap.objs.size,_,I.laid (a:=s.heap.objs.size) (o:=.dK []) (t':=s.toks) (fun _ _ q=>Heap.get?_push_of_some _ q) (ag' _) (eT_ s.heap I.big),rfl,h _ (I.hok.fresh (ag' _))⟩
theorem hr_:PE X (.Dict [] [] pos) tDNewT:=fun pins s σ H Q I h=>
 wpAny_Dict_empty ⟨.ref s.heap.objs.size,_,I.laid (a:=s.heap.objs.size) (o:=.dT []) (t':=s.toks) (fun _ _ q=>Heap.get?_push_of_some _ q) (ag' _) (hg_ s.heap I.big),rfl,h _ (I.hok.fresh (ag' _))⟩
end
def tPairs:List (TE × TE)->St->Hp->(List (V × V)->Hp->Prop)->Prop
 |[],_,H,Q=>Q [] H
 |(tk,tv)::r,σ,H,Q=>tk σ H fun x H1=>tv σ H1 fun y H2=>tPairs r σ H2 fun ps H3=>Q ((x,y)::ps) H3
abbrev VV:List (V × V)->List (Value × Value)->Prop:=Paired fun p q=>RelV p.1 q.1/\RelV p.2 q.2
def PPs(X:Cx)(pos:Pos)(keys:List (Option Expr))(values:List Expr)(trs:List (TE × TE)):Prop:=
 ∀(pins:List (Addr × Obj)) (s:Shared) (σ:St) (H:Hp) (Q:List (V × V)->Hp->Prop),Inv X pins σ H s->tPairs trs σ H Q->
  wpAny (model X.prog X.w) X.A (evalPairs (pairTrees keys values X.env pos)) (fun vs s'=>∃ps H',Inv X pins σ H' s'/\VV ps vs/\Q ps H') X.xe s
theorem jy_{X:Cx}{pos:Pos}:PPs X pos [] [] []:=fun pins s σ H Q I h=>pairTrees_nil_walk ⟨[],H,I,.nil,h⟩
theorem dp_{X:Cx}{pos:Pos}{k v:Expr}{ks:List (Option Expr)}{vs:List Expr}{tk tv:TE}{trs:List (TE × TE)}(hk:PE X k tk)(hv:PE X v tv)(hr:PPs X pos ks vs trs) :
  PPs X pos (some k::ks) (v::vs) ((tk,tv)::trs):=fun pins s σ H Q I h=>
 pairTrees_cons_walk (thn (hk pins s σ H _ I h) fun u s1 ⟨x,H1,I1,rx,q1⟩=>thn (hv pins s1 σ H1 _ I1 q1) fun w2 s2 ⟨y,H2,I2,ry,q2⟩=>
  thn (hr pins s2 σ H2 _ I2 q2) fun ws s3 ⟨ps,H3,I3,rel,q3⟩=>⟨(x,y)::ps,H3,I3,.cons ⟨rx,ry⟩ rel,q3⟩)
def bt'(kvs more:List (Key × V)):List (Key × V):=more.foldl (fun acc kv=>putK acc kv.1 kv.2) kvs
theorem KV.merge:∀{more:List (Key × V)} {rs:List (Key × Value)} {kvs:List (Key × V)} {vs:List (Key × Value)},KV more rs->KV kvs vs->KV (bt' kvs more) (merged vs rs):=by
 intro more rs kvs vs r;unfold KV at r
 induction r generalizing kvs vs with
 |nil=>intro q;exact q
 |@cons p q ps qs h t ih=>
  intro r0
  have e:KV (putK kvs p.1 p.2) (stored vs q.1 q.2):=by
   have:=r0.put p.1 h.2;rw[<- h.1];exact this
  exact ih e
theorem bn_:∀(more kvs:List (Key × V)),(bt' kvs more).length<=kvs.length+more.length
 |[],kvs=>by show kvs.length<=kvs.length+0;omega
 |p::r,kvs=>by
  have h1:=bn_ r (putK kvs p.1 p.2);have h2:=bK_ kvs p.1 p.2;show (bt' (putK kvs p.1 p.2) r).length<=_;rw[az'];omega
theorem d7_{P:Program}{w:World}:∀{kvs:List (Key × V)} {ws:List (Value × Value)},VV (kvs.map fun kv=>(kV kv.1,kv.2)) ws->∃rs,Carries (bb' P w) ws rs/\KV kvs rs
 |[],_,r=>by rw[List.map_nil] at r;cases r;exact⟨[],True.intro,.nil⟩
 |p::kvs,_,r=>by
  rw[ap'] at r;cases r with
  |@cons a b as bs h t=>
   obtain⟨rs,c,q⟩:=d7_ (P:=P) (w:=w) t;obtain⟨b1,b2⟩:=b;exact⟨(p.1,b2)::rs,⟨df_ h.1,rfl,c⟩,.cons ⟨rfl,h.2⟩ q⟩
def tDisp(trs:List (TE × TE)):TE:=fun σ H Q=>∀p,H p=none->tPairs trs σ (upd H p (.dK [])) fun ps H2=>H2 p=some (.dK [])/\∃kvs:List (Key × V),ps=kvs.map (fun kv=>(kV kv.1,kv.2))/\kvs.length<=15/\Q (.ref p) (upd H2 p (.dK (bt' [] kvs)))
theorem j4_{X:Cx}{pos:Pos}{keys:List (Option Expr)}{values:List Expr}{trs:List (TE × TE)}(h:PPs X pos keys values trs)(hall:keys.all (·.isSome)=true)(hl:keys.length=values.length)(h0:keys≠[])
  (h15:keys.length<=15):PE X (.Dict keys values pos) (tDisp trs):=by
 intro pins s σ H Q I q;have hn:=I.hok.fresh (ag' s.heap.objs.size);have I1:=I.laid (a:=s.heap.objs.size) (o:=.dK []) (h':=s.heap.push { cls:=.type "dict",data:=.dict #[] }) (t':=s.toks) (fun _ _ q=>Heap.get?_push_of_some _ q) (ag' _) (eT_ s.heap I.big);refine wpAny_Dict_walk (knd:=bb' X.prog X.w) hall hl h0 h15 (thn (h pins _ σ _ _ I1 (q _ hn)) fun ws s2 ⟨ps,H2,I2,rel,e,kvs,ep,lk,q2⟩=>?_);subst ep;obtain⟨rs,c,rk⟩:=d7_ (P:=X.prog) (w:=X.w) rel;obtain⟨z,hd,vs0,r0,dd⟩:=fr_ I2.hok e;cases r0;refine⟨rs,c,dd,fun h' dd' hs=>⟨.ref s.heap.objs.size,_,?_,rfl,q2⟩⟩
 have hz:(bt' [] kvs).length<=sizeLine:=by
  have h1:=bn_ kvs [];rw[aV'] at h1;rw[sizeLine_eq];omega
 have he:∃q,h'.get? s.heap.objs.size=some q:=let ⟨q,_,_,hq,_⟩:=dd';⟨q,hq⟩;exact eh_ I2 (by rw[e];exact True.intro) hs he (eD_ hz hd (rk.merge .nil) dd')
structure M1 (X:Cx) (o:Expr) (m:Str) (apos:Pos) (e:Expr) (cpos:Pos):Prop where
 base:attributeBase o m X.env (eval o X.env)=eval o X.env
 few:((backTo cpos (starEach [e] X.env)).all (fun x=>!x.1)&&(backToKw cpos (keywordEach [] X.env)).all (fun x=>x.1.isSome)
  && decide (([e]:List Expr).length+([]:List Keyword).length+(if ([]:List Keyword).isEmpty then 0 else 1)<30))=true
 line:(apos.endLine == cpos.line)=true
 trees:backTo cpos (starEach [e] X.env)=[(false,eval e X.env)]
structure M2 (X:Cx) (o:Expr) (m:Str) (apos:Pos) (e f:Expr) (cpos:Pos):Prop where
 base:attributeBase o m X.env (eval o X.env)=eval o X.env
 few:((backTo cpos (starEach [e,f] X.env)).all (fun x=>!x.1)&&(backToKw cpos (keywordEach [] X.env)).all (fun x=>x.1.isSome)
  && decide (([e,f]:List Expr).length+([]:List Keyword).length+(if ([]:List Keyword).isEmpty then 0 else 1)<30))=true
 line:(apos.endLine == cpos.line)=true
 trees:backTo cpos (starEach [e,f] X.env)=[(false,eval e X.env),(false,eval f X.env)]
def IsD(H:Hp)(a:Addr):Prop:=(∃kvs,Rd H a (.dK kvs))∨∃kvs,Rd H a (.dT kvs)
theorem kb_{X:Cx}{pins:List (Addr × Obj)}{σ:St}{H:Hp}{s:Shared}{a:Addr}(I:Inv X pins σ H s)(d:IsD H a) :
  s.TypeIs (.ref a) "dict"/\(∀b,Value.ref a=.ref b->∃ob,s.heap.get? b=some ob/\ob.dict=none)/\(a == sysModules)=false:=by
 rcases d with⟨kvs,e⟩|⟨kvs,e⟩
 ·obtain⟨_,hd,vs,_,dd⟩:=cp_ I.hok e;refine⟨dd.typeIs,fun b q=>?_,hd⟩;cases q;obtain⟨ob,_,_,h1,h2,_⟩:=dd;exact⟨ob,h1,h2.2.1⟩
 ·obtain⟨_,hd,xs,_,dd⟩:=fh_ I.hok e;refine⟨dd.typeIs,fun b q=>?_,hd⟩;cases q;obtain⟨ob,_,_,h1,h2,_⟩:=dd;exact⟨ob,h1,h2.2.1⟩
section
variable{X:Cx}{pins:List (Addr × Obj)}{σ:St}{H:Hp}{s:Shared}{a:Addr}{y d:V}{u r:Value}{o:Option V}{A:Around}{E:Value->Shared->Prop}
end
section
variable{X:Cx}{o e f:Expr}{apos cpos:Pos}{td ty tx:TE}
end
section
variable{X:Cx}{pins:List (Addr × Obj)}{σ:St}{H:Hp}{s:Shared}{a:Addr}{kvs:List (Key × V)}{A:Around}{E:Value->Shared->Prop}
theorem hS_{Q:Value->Shared->Prop}(I:Inv X pins σ H s)(e:Rd H a (.dK kvs))(h:∀p s',H p=none->Inv X pins σ (upd H p (.dK kvs)) s'->Q (.ref p) s'):wpAny (model X.prog X.w) A (call (.type "dict") [.ref a]) Q E s:=by
 obtain⟨z,hd,vs,rel,dd⟩:=cp_ I.hok e;refine kt_call_dict hd dd (by rw[<- rel.length];exact z) fun h' dd' hs=>?_;refine h _ _ (I.hok.fresh (ag' _)) (I.laid (a:=s.heap.objs.size) (o:=.dK kvs) (t':=s.toks) (fun b q hq=>?_) (ag' _) (eD_ z (beq_eq_false_iff_ne.mpr (Ne.symm (au' I.big))) rel dd'));exact (hs.2 b (au' (Heap.lt_size hq))).trans (Heap.get?_push_of_some _ hq)
end
section
variable{X:Cx}{pins:List (Addr × Obj)}{σ:St}{H:Hp}{s:Shared}{a:Addr}{y:V}{u:Value}{A:Around}{E:Value->Shared->Prop}
end
end L2
namespace Att
open PySem PySem.W PySem.Calls PyProof.Rows
theorem cD_{P:Params}{h:Heap}:∀(ns:List Int) (vs:List Value),WellAll P h vs (ns.map WData.int)->IntsAre vs ns:=by
 intro ns
 induction ns with
 |nil=>
  intro vs w;rw[List.map_nil] at w;cases w;exact .nil
 |cons n ns ih=>
  intro vs w;rw[ap'] at w;cases w with
  |cons a b=>
   cases a;exact .cons _ _ (ih _ b)
theorem gb_{l:OpenLaw}{n:Nat}(hn:l.most=some n){P:Params}{h:Heap}{args:List WData}{vals:List Value}
  (hpre:l.row.toRowW.claim.pre args=true) (hwl:WellAll P h vals args) :
  ∃a vs ns,vals=[Value.ref a]/\args=[WData.list (ns.map WData.int)]/\h.get? a=some { cls:=.type "list",data:=.seq vs.toArray }/\IntsAre vs ns/\ns.length<=n:=by
 have hsh:WShape.hasAll [] args [.list .int]=true:=(pre_splitW hpre).1;have hc:l.pre.holds [] { args:=args }=true:=(pre_splitW hpre).2;obtain⟨d,r,rfl,h1,h2⟩:=hasAllW_cons hsh;obtain rfl:=hasAllW_nil h2;obtain⟨xs,rfl,h3⟩:=hasW_list h1;obtain⟨ns,rfl⟩:=items_int h3
 have hlen:ns.length<=n:=by
  unfold OpenLaw.pre at hc
  have h4:(WTm.not (.lt (.lit (.int (n:Int))) (.len (.arg 0)))).holds [] { args:=[.list (ns.map .int)] }=true:=by
   have h4:=(holds_andW hc).1;rw[hn] at h4;exact h4
  have h5:=condW_of h4 (w_not (w_lt w_lit (w_len_list (w_arg rfl))));rw[aa'] at h5;refine Nat.le_of_not_lt fun q=>?_;have q':(n:Int)<((ns.length:Nat):Int):=by omega
  first
   |(rw[decide_eq_true q'] at h5;exact absurd h5 (by decide))
   |(simp at h5;omega)
 cases hwl with
 |cons w1 w2=>
  cases w2;cases w1 with
  |list ho hall=>exact⟨_,_,ns,rfl,rfl,ho,cD_ ns _ hall,hlen⟩
theorem ga_(l:OpenLaw)(args:List WData):l.row.toRowW.claim.post args (.bool true) args=true:=
 postW_of (r:=l.row.toRowW) (X:=(true == true))
  (show WShape.has [] (.bool true) .bool=true by first|rfl|decide|simp[WShape.has,WShape.arms,WShape.armsAll])
  (show (WTm.eq .res (.lit (.bool true))).value [] { args:=args,res:=some (.bool true),after:=args }=some (.bool (true == true)) from w_eq_bool (w_res rfl) w_lit) rfl
theorem attach_call{l:OpenLaw}{n:Nat}{q:Program}{loose:List Str}{XP:(Str->Option Value)->Heap->Prop}{YP:World->Heap->Prop}{d:DefRec}
  (hn:l.most=some n) (hdf:d.params.defaults=[])
  (call:∀(w:World) (s₀ s₁:Shared) (mg mb:Str->Option Value) (fa:Addr) (o:Obj) (pm cd doc:Value) (a:Addr) (vs:List Value) (ns:List Int),
   Ground q loose [] XP w s₀ mg mb s₁.heap->YP w s₁.heap->
   s₁.heap.get? fa=some o->o.data=.func (docDef d.name d.params d.body d.scope pm cd doc)->s₁.heap.CodeRec cd d.name->mg d.name=some (.ref fa)->
   s₁.heap.get? a=some { cls:=.type "list",data:=.seq vs.toArray }->IntsAre vs ns->ns.length<=n->s₁.gens=#[]->
   codeAny (model l.prog w) callerA (.call (.ref fa) ⟨[.ref a],[]⟩) (fun r s'=>r=.ok (.ret (.bool true))/\OldK s₁.heap s'.heap/\s'.os=s₁.os/\AllBare s'.gens) s₁) :
  WalkO q loose XP YP l.row.toRowW d [] (fun f vs=>PySem.call f vs):=by
 intro w s₀ s₁ mg mb G Y fa o pm cd doc dV kV ho hd hcd hD hmg hg args vals as hpre hlay hrd hwl hlo;obtain rfl:dV=.none:=Dflts.none hD hdf;obtain rfl:kV=.none:=Dflts.noKw hD;obtain⟨a,vs,ns,rfl,rfl,hobj,hints,hlen⟩:=gb_ hn hpre hwl;refine enter_call (codeAny_mono (call w s₀ s₁ mg mb fa o pm cd doc a vs ns G Y ho (fd_plain hd) hcd hmg hobj hints hlen hg) fun r s' hq=>?_);obtain⟨rfl,h2,h3,h4⟩:=hq;exact⟨.inl ⟨.bool true,.bool true,[],rfl,fun _=>rfl,.bool true,ga_ l _,fun _=>⟨List.Pairwise.nil,fun _ hm=>(nomatch hm)⟩⟩,h2,h3,h4⟩
section
variable{prog:Program}{w:World}{A:Around}{E:Value->Shared->Prop}{s:Shared}{K:Frag}
end
end Att
namespace L2
open PySem PySem.Spec PyProof.Rows
theorem dS_:∀{vs:List Value} {ns:List Int},IntsAre vs ns->Vals (ns.map V.int) vs
 |_,_,.nil=>.nil
 |_,_,.cons n t h=>.cons ⟨t,rfl⟩ (dS_ h)
end L2
namespace L2
open PySem PySem.Spec PyProof.Rows
end L2
/- THE LAST THEOREM (shape;LID,My.* are yours):
  My.Adr: a structure of the addresses that your layer names (classes,functions);My.Txt K t: a structure (Prop) of the equations over K;
  My.txt_mk:{K} {implicit addresses ..} (e1:nsIn K mainGlobals "law"=some (some (.ref f))) (e2:K.lookup f=some ⟨oc,od,.func (fnOf "law" "law" params body scope dV kV doc pm an cdv ct),sl⟩) (e3:codeIn K cdv "law"=true) .. : ∃t,My.Txt K t
set_option maxRecDepth 100000 in
set_option maxHeartbeats 0 in
theorem PySem.Challenge.cw_LID_holds : PySem.Challenge.rw_LID.Holds := by
 w_on;o_law;k_head;(case hw=>w_witness2)
 k_fill
 refine L2.walk_of (l:=PySem.Challenge.rw_LID) (n:=63) (k:=40) (x:="script") (CX:=fun w=>..) (sp:=fun _=>My.sp_law) rfl (by decide) rfl ⟨rfl,by decide,by decide⟩ (fun w h Y=>PySem.W.kIn_of Y) ?F ?S ?C
 case F=>
  intro w mg fa h KX G hmg
  have T:∃t,My.Txt (L2.KOf KX) t:=by
   dsimp only[L2.KOf]                          -- K must stand as «<heap const> w.params» for k_is;refine' My.txt_mk ?e1 ?e2 ?e3 ..
   (case e1=>PySem.W.k_is)                    -- in the order: a name->its address->its object->its parts
   (case e2=>PySem.W.k_is)
   ..
  obtain⟨t,T⟩:=T;have e0:=hmg.symm.trans (PySem.W.mg_of KX G T.law);cases e0                                       -- fa is the law's own address;exact⟨_,fun s u=>.of_eq rfl,fun base kb nb=>My.law_fn T kb nb⟩     -- if «.of_eq rfl» comes too early: refine' ⟨_,?b,fun base kb nb=>My.law_fn T kb nb⟩;exact fun s u=>.of_eq rfl
 case S=>exact fun w H a ns hl hO hS=>..
 case C=>exact ..
(the tactic k_is has no namespace: write k_is) -/
namespace L2
open PySem PySem.Spec PyProof.Rows
def bl'(s:Stmt)(j:Nat):Stmt:=match s with
 |.ClassDef _ _ _ body _ _ _ _ _ _ _=>body.getD j (.Pass ⟨0,0,0,0⟩)
 |_=>.Pass ⟨0,0,0,0⟩
def bh'(s:Stmt):Arguments:=match s with
 |.FunctionDef _ a _ _ _ _ _ _ _ _=>a
 |_=>{ posonlyargs:=[],args:=[],vararg:=none,kwonlyargs:=[],kw_defaults:=[],kwarg:=none,defaults:=[] }
def bd'(s:Stmt):List Stmt:=match s with
 |.FunctionDef _ _ b _ _ _ _ _ _ _=>b
 |_=>[]
def a7'(s:Stmt):Scope:=match s with
 |.FunctionDef _ _ _ _ _ _ sc _ _ _=>sc
 |_=>{ kind:=.function,names:=[],isGenerator:=false,isCoroutine:=false }
abbrev CX0:CXT:=fun _ _ _ _ _ _=>False
abbrev E0:XK:=fun _ _ _=>False
theorem pass0{X:Cx}:bH' CX0 X E0:=fun _ _ _ _ _ _ _ h=>h.elim
structure Fun (K:F__) (x qual:Str) (st:Stmt) (f:Addr) (fd:FuncData):Prop where
 ex:∃(oc:Value) (od:Option Addr) (kV doc pm:Value) (an:Option Addr) (cdv ct:Value) (osl:Array (Option Value)),
  fd=PySem.W.fnOf x qual (bh' st) (bd' st) (a7' st) .none kV doc pm an cdv ct/\K.lookup f=some ⟨oc,od,.func fd,osl⟩/\PySem.W.codeIn K cdv qual=true
 kp:PySem.W.keepIn K (.ref f)=true
section
variable{P:Program}{w:World}{K:F__}{mg:Str->Option Value}{base:Heap}
theorem Fun.ok{x qual:Str}{st:Stmt}{f:Addr}{fd:FuncData}{N ps:List Str}{k:Nat}{sp:Sp}(F:Fun K x qual st f fd)(S:a8' N ps (a7' st))(len:∀vs H Q E,sp vs H Q E->vs.length=ps.length)
  (hbody:∀(cdv:Value) (A:Around) (outer:List Env) (s:Shared) (H:Hp) (vs:List V) (Q:VK) (E:XK),Room k (A.deeper (envOfC qual (a7' st) s.heap.objs.size f cdv))->sp vs H Q E->
   ∃t,PSs (cxOf CX0 P w K mg base N qual (a7' st) f cdv A outer s H E).nox (bd' st) t/\t { nx:=fun _ H'=>Q .non H',rt:=Q } (start N vs) H):FnOk P w K mg base CX0 (k+1) f fd ps sp:=by
 obtain⟨oc,od,kV,doc,pm,an,cdv,ct,osl,rfl,lk,hcd⟩:=F.ex;refine j7_ lk hcd S len fun A outer s H vs Q E hr hsp=>?_;obtain⟨t,h,q⟩:=hbody cdv A outer s H vs Q E hr hsp;exact⟨t,h.nox,q⟩
theorem Fun.binds{x qual:Str}{st:Stmt}{f:Addr}{fd:FuncData}{ps:List Str}(F:Fun K x qual st f fd)
  (h:∀(kV doc pm:Value) (an:Option Addr) (cdv ct:Value) (us:List Value),us.length=ps.length->bindArgs (PySem.W.fnOf x qual (bh' st) (bd' st) (a7' st) .none kV doc pm an cdv ct) ⟨us,[]⟩=pure (ps.zip us)):bW' K fd ps []:=by
 obtain⟨oc,od,kV,doc,pm,an,cdv,ct,osl,rfl,lk,hcd⟩:=F.ex;exact .all (h kV doc pm an cdv ct)
theorem gR_{x qual:Str}{st:Stmt}{f:Addr}{oc:Value}{od an:Option Addr}{osl:Array (Option Value)}{kV doc pm cdv ct:Value}(l:K.lookup f=some ⟨oc,od,.func (PySem.W.fnOf x qual (bh' st) (bd' st) (a7' st) .none kV doc pm an cdv ct),osl⟩)
  (c:PySem.W.codeIn K cdv qual=true) (k:PySem.W.keepIn K (.ref f)=true):Fun K x qual st f (PySem.W.fnOf x qual (bh' st) (bd' st) (a7' st) .none kV doc pm an cdv ct):=⟨⟨oc,od,kV,doc,pm,an,cdv,ct,osl,rfl,l,c⟩,k⟩
end
theorem b0_{A:Around}{k:Nat}(hr:Room k A):A.units+1<cLine:=Nat.lt_of_le_of_lt (Nat.add_le_add_left (by decide:1<=64) _) hr.units
section
variable{X:Cx}
theorem pv(i:Nat){x:Str}{pos:Pos}(hN:X.N[i]? = some x:=by rfl)(hv:Vis X.env.scope x:=by first|exact Or.inl rfl|exact Or.inr (Or.inl rfl)|exact Or.inr (Or.inr rfl))(hd:(x == ("__debug__":Str))=false:=by decide)
  (hcd:(x == ("__classdict__":Str))=false:=by decide):PE X (.Name x pos) (tVar i):=km_ hN hv hd hcd
theorem fZ_:bD' X (.builtin "len") (fun xs H Q=>∃a kvs,xs=[V.ref a]/\H a=some (.dK kvs)/\Q (.int kvs.length) H):=by
 intro pins s σ H xs us Q I r h;obtain⟨a,kvs,rfl,ha,q⟩:=h;obtain⟨u,rfl,ru⟩:=vals1 r;cases ru;exact kB_ I (.inl ha) fun t s' I'=>⟨.int kvs.length,H,I',⟨t,rfl⟩,q⟩
end
theorem iteF{A B:Prop}(h:B):if false=true then A else B:=by
 rw[if_neg aq'];exact h
theorem iteT{A B:Prop}(h:A):if true=true then A else B:=by
 rw[if_pos rfl];exact h
theorem ite2{c A B:Prop}[Decidable c](h1:c->A)(h2:¬c->B):if c then A else B:=by
 by_cases h:c
 ·rw[if_pos h];exact h1 h
 ·rw[if_neg h];exact h2 h
theorem iteNS{c A B:Prop}[Decidable c](hc:c)(h:B):if (!decide c)=true then A else B:=by
 rw[decide_eq_true hc];exact iteF h
def Same(H H':Hp):Prop:=∀b o,H b=some o->H' b=some o
theorem Same.refl(H:Hp):Same H H:=fun _ _ h=>h
theorem Same.trans{H H1 H2:Hp}(a:Same H H1)(b:Same H1 H2):Same H H2:=fun c o h=>b c o (a c o h)
theorem Same.free{H H':Hp}(e:Same H H'){l:Addr}(h:H' l=Option.none):H l=Option.none:=by
 cases q:H l with
 |none=>rfl
 |some o=>
  rw[e l o q] at h;cases h
section
variable{κ:Type}[DecidableEq κ]
theorem j0_{kvs:List (κ × V)}{k:κ}{v:V}(h:valV kvs k=some v):k∈kvs.map (·.1):=by
 have q:(kvs.any fun kv=>decide (kv.1=k))=true:=by
  rw[bT_,h]
  all_goals rfl
 obtain⟨p,hp,e⟩:=List.any_eq_true.mp q;exact ac'.mpr ⟨p,hp,of_decide_eq_true e⟩
end
end L2
namespace L2
open PySem PySem.Spec PyProof.Rows
def bm'(env:Env):List (Str × NameKind)->List (Str × Addr)->List (Str × Addr)
 |[],cs=>cs
 |(n,k)::r,cs=>bm' env r (if k == .free then (n,(env.cells.lookup n).getD 0)::cs else cs)
theorem bm_{env:Env}(f:Str × NameKind->List (Str × Addr)->Sem (ForInStep (List (Str × Addr))))
  (hf:∀n k cs,f (n,k) cs=if (k == .free)=true then (do let a <- cellOf env n;pure (.yield ((n,a)::cs))) else pure (.yield cs)) :
  ∀(names:List (Str × NameKind)) (cs:List (Str × Addr)),(∀x∈names,x.2=.free->∃c,env.cells.lookup x.1=some c)->forIn names cs f=(pure (bm' env names cs):Sem _)
 |[],cs,_=>by rw[List.forIn_nil];rfl
 |(n,k)::r,cs,h=>by
  rw[List.forIn_cons,hf];have hr:∀x∈r,x.2=.free->∃c,env.cells.lookup x.1=some c:=fun x hx=>h x (ad' _ hx);unfold bm';by_cases hk:(k == NameKind.free)=true
  ·obtain⟨c,hc⟩:=h (n,k) af' (by simpa using hk);have hc:env.cells.lookup n=some c:=hc;rw[if_pos hk,if_pos hk];have e:cellOf env n=pure c:=by unfold cellOf;rw[hc]
   rw[e];simp only[pure_bind];rw[bm_ f hf r _ hr,hc];rfl
  ·rw[if_neg hk,if_neg hk];simp only[pure_bind];exact bm_ f hf r _ hr
theorem bW_{scope:Scope}{env:Env}(h:∀x∈scope.names,x.2=.free->∃c,env.cells.lookup x.1=some c):closureFor scope env=pure (bm' env scope.names []):=by
 simp only[closureFor];rw[bm_ (env:=env) _ (fun n k cs=>by by_cases hk:(k == NameKind.free)=true<;>simp[hk]) scope.names [] h]
 simp only[pure_bind]
theorem cX_{env:Env}:∀{names:List (Str × NameKind)} {cs:List (Str × Addr)} {x:Str} {c:Addr},(x,c)∈bm' env names cs->(x,c)∈cs∨((x,NameKind.free)∈names/\c=(env.cells.lookup x).getD 0)
 |[],cs,x,c,h=>.inl h
 |(n,k)::r,cs,x,c,h=>by
  unfold bm' at h;rcases cX_ h with h|⟨h,e⟩
  ·by_cases hk:(k == NameKind.free)=true
   ·rw[if_pos hk] at h;rcases ai'.mp h with q|q
    ·cases q;have:k=.free:=by simpa using hk
     subst this;exact .inr ⟨af',rfl⟩
    ·exact .inl q
   ·rw[if_neg hk] at h;exact .inl h
  ·exact .inr ⟨ad' _ h,e⟩
theorem ce_{env:Env}:∀{names:List (Str × NameKind)} {cs:List (Str × Addr)} {x:Str},(x,NameKind.free)∈names∨(∃c,(x,c)∈cs)->∃c,(x,c)∈bm' env names cs
 |[],cs,x,h=>by
  rcases h with h|h
  ·cases h
  ·exact h
 |(n,k)::r,cs,x,h=>by
  unfold bm';refine ce_ ?_;rcases h with h|⟨c,h⟩
  ·rcases ai'.mp h with e|h
   ·cases e;exact .inr ⟨(env.cells.lookup n).getD 0,by rw[if_pos (by decide)];exact af'⟩
   ·exact .inl h
  ·refine .inr ⟨c,?_⟩;split
   ·exact ad' _ h
   ·exact h
theorem bj_:∀(names:List (Str × NameKind)) (n:Nat) (acc cl:List (Str × Addr)),cellsFrom n names (acc++cl)=cellsFrom n names acc++cl
 |[],_,_,_=>rfl
 |(x,k)::r,n,acc,cl=>by
  unfold cellsFrom;split
  ·exact bj_ r (n+1) ((x,n)::acc) cl
  ·exact bj_ r n acc cl
theorem bo_:∀{names:List (Str × NameKind)} {n:Nat} {acc:List (Str × Addr)} {x:Str} {c:Addr},(x,c)∈cellsFrom n names acc->(x,c)∈acc∨(x,NameKind.cell)∈names
 |[],_,_,_,_,h=>.inl h
 |(y,k)::r,n,acc,x,c,h=>by
  unfold cellsFrom at h;by_cases hk:(k == NameKind.cell)=true
  ·rw[if_pos hk] at h;rcases bo_ h with h|h
   ·rcases ai'.mp h with e|h
    ·cases e;have:k=.cell:=by simpa using hk
     subst this;exact .inr af'
    ·exact .inl h
   ·exact .inr (ad' _ h)
  ·rw[if_neg hk] at h;rcases bo_ h with h|h
   ·exact .inl h
   ·exact .inr (ad' _ h)
theorem bq_{α:Type}:∀{l:List (Str × α)} {x:Str} {c:α},(x,c)∈l->∃c',l.lookup x=some c'
 |(k,v)::r,x,c,h=>by
  rw[aO'];cases hb:x == k with
  |true=>exact⟨v,rfl⟩
  |false=>
   rcases ai'.mp h with e|h
   ·cases e;simp at hb
   ·exact bq_ h
def cpEnv(scope:Scope)(C:Addr)(env:Env):Env:=
 { scope:=relabel scope env,locals:=C,globals:=env.globals,cells:=cellsFrom (C+1) scope.names (bm' env scope.names []),qual:=env.qual,func:=none,code:=env.code,frame:=env.frame,builtins:=env.builtins }
theorem cE_{M:Model}{A:Around}{E:Value->Shared->Prop}{s:Shared}{scope:Scope}{cl:List (Str × Addr)}{env:Env}{Q:Env->Shared->Prop}
  (h:Q { scope:=scope,locals:=s.heap.objs.size,globals:=env.globals,cells:=cellsFrom (s.heap.objs.size+1) scope.names cl,qual:=env.qual,func:=none,code:=env.code,frame:=env.frame,builtins:=env.builtins }
   { s with heap:=pushCells (s.heap.push { cls:=.type "dict",data:=.dict #[] }) scope.names }) :
  wpAny M A (newFunctionEnv scope env.globals cl [] env.qual none .none (some env)) Q E s:=by
 simp only[newFunctionEnv,Option.isSome_some,if_true];refine wpAny_bind (wpAny_alloc ?_);refine wpAny_bind (wpAny_layCells _ (fun name kind cells=>by cases hkc:kind == NameKind.cell<;>simp[hkc]) _ _ _ _ ?_)
 rw[show ({ s with heap:=s.heap.push { cls:=.type "dict",data:=.dict #[] } }:Shared).heap.objs.size=s.heap.objs.size+1 from Heap.size_push ..];rw[List.forIn_nil];exact wpAny_bind (wpAny_pure (wpAny_pure h))
def cF'(PN:List Str)(ps:Scope)(N:List Str)(own:Nat)(fr:List Nat)(scope:Scope):Bool:=
 decide (scope.kind=.function)&&decide N.Nodup&&decide (own+fr.length=N.length)
 && (scope.names.all fun y=>decide (scope.names.lookup y.1=some y.2))
 && (scope.names.all fun y=>if y.2=.free then decide (ps.names.lookup y.1=some .cell) || decide (ps.names.lookup y.1=some .free) else true)
 && ((fr.map fun j=>PN[j]?) == (N.drop own).map some)
 && ((N.drop own).all fun x=>decide (scope.names.lookup x=some .free))
structure CpOk (PN:List Str) (ps:Scope) (N:List Str) (own:Nat) (fr:List Nat) (scope:Scope):Prop where
 kind:scope.kind=.function
 nd:N.Nodup
 len:own+fr.length=N.length
 look:∀y∈scope.names,scope.names.lookup y.1=some y.2
 par:∀y∈scope.names,y.2=.free->ps.names.lookup y.1=some .cell∨ps.names.lookup y.1=some .free
 frs:(fr.map fun j=>PN[j]?)=(N.drop own).map some
 frk:∀x∈N.drop own,scope.names.lookup x=some .free
theorem CpOk.of{PN:List Str}{ps:Scope}{N:List Str}{own:Nat}{fr:List Nat}{scope:Scope}(h:cF' PN ps N own fr scope=true):CpOk PN ps N own fr scope:=by
 unfold cF' at h;simp only[a1',decide_eq_true_eq,List.all_eq_true,beq_iff_eq] at h;obtain⟨⟨⟨⟨⟨⟨h1,h2⟩,h3⟩,h4⟩,h5⟩,h6⟩,h7⟩:=h;refine⟨h1,h2,h3,h4,fun y hy e=>?_,h6,h7⟩;have q:=h5 y hy;rw[if_pos e] at q;simpa using q
def bL'(own:Nat)(fr:List Nat)(σ:St):St:=List.replicate own none++fr.map fun j=>(σ[j]?).join
def bg'(X:Cx)(N:List Str)(scope:Scope)(fp:List Addr)(s:Shared)(H:Hp):Cx where
 prog:=X.prog
 w:=X.w
 K:=X.K
 mg:=X.mg
 base:=X.base
 A:=X.A
 N:=N
 s₀:=s
 H₀:=H
 env:=cpEnv scope s.heap.objs.size X.env
 outer:=X.stack
 stack:=X.stack
 ex:=fp
 fn:=fun x=>decide (scope.names.lookup x=some .local) || decide (scope.names.lookup x=some .cell)
 calm:=X.calm
 pn:=[]
 xe:=fun _ _=>False
theorem cl_{ps:Scope}{env:Env}(he:env.scope=ps){x:Str}:∀{names:List (Str × NameKind)} {k:NameKind},names.lookup x=some k->
  (names.map fun(n,k)=>if (k == NameKind.free&&env.scope.kind == .function&&env.kindOf n == some .cell) then (n,NameKind.cell) else (n,k)).lookup x =
   some (if (k == NameKind.free&&env.scope.kind == .function&&env.kindOf x == some .cell) then .cell else k)
 |(n,k')::r,k,h=>by
  rw[aO'] at h;rw[ap'];cases hb:x == n with
  |true=>
   rw[hb] at h;cases h;have e:x=n:=by simpa using hb
   subst e;dsimp only;split<;>simp[aO']
  |false=>
   rw[hb] at h;have ih:=cl_ he (env:=env) h;dsimp only;split<;>(rw[aO',hb];exact ih)
theorem cb_{env:Env}{x:Str}:∀{names:List (Str × NameKind)} {k:NameKind},(names.map fun(n,k)=>if (k == NameKind.free&&env.scope.kind == .function&&env.kindOf n == some .cell) then (n,NameKind.cell) else (n,k)).lookup x=some k->∃k',names.lookup x=some k'/\(k'=k∨(k'=.free/\k=.cell))
 |(n,k')::r,k,h=>by
  rw[ap'] at h;rw[aO'];dsimp only at h;cases hb:x == n with
  |true=>
   refine⟨k',rfl,?_⟩;by_cases hc:(k' == NameKind.free&&env.scope.kind == .function&&env.kindOf n == some .cell)=true
   ·rw[if_pos hc,aO',hb] at h;cases h;simp only[a1',beq_iff_eq] at hc;exact .inr ⟨hc.1.1,rfl⟩
   ·rw[if_neg hc,aO',hb] at h;cases h;exact .inl rfl
  |false=>
   have h':(r.map fun(n,k)=>if (k == NameKind.free&&env.scope.kind == .function&&env.kindOf n == some .cell) then (n,NameKind.cell) else (n,k)).lookup x=some k:=by
    split at h<;>(rw[aO',hb] at h;exact h)
   exact cb_ h'
theorem dc_{α:Type}{x:Str}{c:α}:∀{l r:List (Str × α)},(l++r).lookup x=some c->(x,c)∈l∨(x,c)∈r:=fun h=>av'.mp (PySem.mem_of_lookup h)
section
variable{X:Cx}{pins:List (Addr × Obj)}{σ:St}{H:Hp}{s:Shared}{N:List Str}{own:Nat}{fr:List Nat}{scope:Scope}{fp:List Addr}
theorem dx'(I:Inv X pins σ H s)(S:CpOk X.N X.env.scope N own fr scope){x:Str}{c:Addr}(h:(x,c)∈bm' X.env scope.names []):X.env.cells.lookup x=some c/\(x,NameKind.free)∈scope.names:=by
 rcases cX_ h with h|⟨h,e⟩
 ·cases h
 ·obtain⟨c',hc⟩:=I.ok.has x (S.par _ h rfl);refine⟨?_,h⟩;rw[e,hc];rfl
theorem Inv.block(I:Inv X pins σ H s)(S:CpOk X.N X.env.scope N own fr scope)(hfp:∀b∈fp,FpOk X pins H b)(hfo:∀b∈fp,∃o,s.heap.get? b=some o) :
  Inv (bg' X N scope fp s H) [] (bL' own fr σ) H { s with heap:=pushCells (s.heap.push { cls:=.type "dict",data:=.dict #[] }) scope.names }:=by
 have kept:∀b o,s.heap.get? b=some o->(pushCells (s.heap.push { cls:=.type "dict",data:=.dict #[] }) scope.names).get? b=some o:=fun b o e=>pushCells_keeps _ _ b o (Heap.get?_push_of_some _ e);have cok:=cellsFrom_ok scope.names (s.heap.push { cls:=.type "dict",data:=.dict #[] }) (s.heap.objs.size+1) [] ⟨fun _ _ hm=>(nomatch hm),List.Pairwise.nil⟩ (by rw[Heap.size_push];exact ag' _);rw[Heap.size_push] at cok;have ecs:cellsFrom (s.heap.objs.size+1) scope.names (bm' X.env scope.names [])=cellsFrom (s.heap.objs.size+1) scope.names []++bm' X.env scope.names []:=bj_ _ _ [] _
 have lookC:∀{x c},(cellsFrom (s.heap.objs.size+1) scope.names (bm' X.env scope.names [])).lookup x=some c->((x,c)∈cellsFrom (s.heap.objs.size+1) scope.names []/\(x,NameKind.cell)∈scope.names/\s.heap.objs.size+1<=c)∨(X.env.cells.lookup x=some c/\(x,NameKind.free)∈scope.names):=fun {x c} h=>by
  rw[ecs] at h;rcases dc_ h with h|h
  ·refine .inl ⟨h,?_,(cok.empty _ _ h).2⟩;rcases bo_ h with q|q
   ·cases q
   ·exact q
  ·exact .inr (dx' I S h)
 have oldC:∀{x c},X.env.cells.lookup x=some c->c<s.heap.objs.size:=fun {x c} h=>by
  obtain⟨v,hv⟩:=I.cell x c h;exact hv.lt
 have hb:∀b∈fp,b<s.heap.objs.size:=fun b hb=>let ⟨o,e⟩:=hfo b hb;Heap.lt_size e
 refine⟨⟨I.ok.mod,S.kind,I.ok.glob,I.ok.blt,ag' _,fun x y c h1 h2=>?_,fun x hx=>?_,fun x c hf h=>?_,I.ok.hd,I.ok.frames,.inl rfl,fun b hb'=>⟨au' (hb b hb'),fun x c h=>?_⟩,I.bs,?_,fun b o e hb'=>?_,fun b hb' hs=>?_,I.stack,I.stkFree⟩,
  rfl,I.bare,Un.kept kept,⟨_,(Heap.Ns.new s.heap (.type "dict")).keeps (pushCells_keeps _ _),fun i x v h1 h2 h3=>?_⟩,fun x c h=>?_,I.hok.fresh (ag' _),fun x c h=>?_,fun p hp=>absurd (show p∈([]:List (Addr × Obj)) from hp) (by simp),I.hok.kept kept,?_⟩
 ·-- inj
  rcases lookC h1 with⟨m1,k1,l1⟩|⟨m1,k1⟩<;>rcases lookC h2 with⟨m2,k2,l2⟩|⟨m2,k2⟩
  ·exact name_of_addr cok.apart m1 m2
  ·exact absurd (oldC m2) (Nat.not_lt.mpr (Nat.le_of_succ_le l1))
  ·exact absurd (oldC m1) (Nat.not_lt.mpr (Nat.le_of_succ_le l2))
  ·exact I.ok.inj x y c m1 m2
 ·-- has
  have key:(x,NameKind.cell)∈scope.names∨(x,NameKind.free)∈scope.names:=by
   rcases hx with hx|hx
   ·obtain⟨k',e,q⟩:=cb_ (env:=X.env) (show _=some NameKind.cell from hx);have m:=PySem.mem_of_lookup e;rcases q with q|⟨q,_⟩
    ·exact .inl (q▸m)
    ·exact .inr (q▸m)
   ·obtain⟨k',e,q⟩:=cb_ (env:=X.env) (show _=some NameKind.free from hx);have m:=PySem.mem_of_lookup e;rcases q with q|⟨_,q⟩
    ·exact .inr (q▸m)
    ·cases q
  show ∃c,(cellsFrom (s.heap.objs.size+1) scope.names (bm' X.env scope.names [])).lookup x=some c
  have:((cellsFrom (s.heap.objs.size+1) scope.names (bm' X.env scope.names [])).lookup x).isSome=true:=by
   refine PySem.W.cellsFrom_some _ _ _ ?_;rcases key with q|q
   ·exact .inl (S.look _ q)
   ·obtain⟨c,m⟩:=ce_ (env:=X.env) (names:=scope.names) (cs:=[]) (x:=x) (.inl q);obtain⟨c',e⟩:=bq_ m;exact .inr (by rw[e];rfl)
  exact Option.isSome_iff_exists.mp this
 ·-- cab
  rcases lookC h with⟨_,_,l⟩|⟨_,k⟩
  ·exact Nat.le_of_succ_le l
  ·have e:=S.look _ k;have hf:(decide (scope.names.lookup x=some .local) || decide (scope.names.lookup x=some .cell))=true:=hf;rw[show scope.names.lookup x=some .free from e] at hf;exact absurd hf (by decide)
 ·rcases lookC h with⟨_,_,l⟩|⟨q,_⟩
  ·exact a5' (aw' (hb b hb') (Nat.le_of_succ_le l))
  ·exact (hfp b hb').2.2.2.2.1 x c q
 ·exact aY' I.ok.bsz I.sz
 ·rcases (hfp b hb').2.2.2.1 with q|q
  ·exact I.ok.noex b o e q
  ·exact absurd (aw' (Heap.lt_size e) I.ok.bsz) (by omega)
 ·rcases ai'.mp (I.stkSub b hs) with q|q
  ·exact (hfp b hb').2.1 q
  ·exact (hfp b hb').2.2.1 q
 ·-- names
  have hi:own<=i:=by
   refine Nat.le_of_not_lt fun hlt=>?_;unfold bL' at h2;rw[aR' (by rw[aH'];exact hlt),List.getElem?_replicate,if_pos hlt] at h2;cases h2
  have h2':(fr.map fun j=>(σ[j]?).join)[i - own]? = some (some v):=by
   unfold bL' at h2;rw[aQ' (by rw[aH'];exact hi),aH'] at h2;exact h2
  have h1:N[i]? = some x:=h1;have hx:(N.drop own)[i - own]? = some x:=by rw[List.getElem?_drop,show own+(i - own)=i by omega];exact h1
  rw[ao'] at h2';cases ej:fr[i - own]? with
  |none=>rw[ej] at h2';cases h2'
  |some j=>
   rw[ej] at h2';have h2':(σ[j]?).join=some v:=Option.some.inj h2'
   have hσ:σ[j]? = some (some v):=by
    cases q:σ[j]? with
    |none=>rw[q] at h2';cases h2'
    |some o=>rw[q] at h2';exact congrArg some h2'
   have hN:X.N[j]? = some x:=by
    have q:=congrArg (fun l=>l[i - own]?) S.frs;simp only[ao',ej,hx,Option.map_some] at q;exact Option.some.inj q
   have kf:=S.frk x (ae' hx);have mf:=PySem.mem_of_lookup kf;obtain⟨m,hm,hv⟩:=I.loc;have pk:=S.par _ mf rfl;obtain⟨u,ru,lk⟩:=hv j x v hN hσ (pk.elim (fun q=>.inr (.inl q)) fun q=>.inr (.inr q));refine⟨u,ru,?_⟩;have pk':X.env.kindOf x=some .cell∨X.env.kindOf x=some .free:=pk;rcases lk with⟨k,_⟩|⟨_,c,hc,hcell⟩
   ·rw[k] at pk';rcases pk' with q|q<;>cases q
   ·obtain⟨c',m1⟩:=ce_ (env:=X.env) (names:=scope.names) (cs:=[]) (x:=x) (.inl mf);have e1:=(dx' I S m1).1;rw[hc] at e1;cases e1;refine .inr ⟨?_,c,?_,hcell.keeps kept⟩
    ·have q:=cl_ (env:=X.env) rfl kf;show (relabel scope X.env).names.lookup x=some .cell∨(relabel scope X.env).names.lookup x=some .free;unfold relabel;rw[q];split
     ·exact .inl rfl
     ·exact .inr rfl
    ·obtain⟨c2,e2⟩:=Option.isSome_iff_exists.mp (PySem.W.cellsFrom_some (x:=x) scope.names (s.heap.objs.size+1) (bm' X.env scope.names []) (.inr (by obtain⟨c',e⟩:=bq_ m1;rw[e];rfl)));show (cellsFrom (s.heap.objs.size+1) scope.names (bm' X.env scope.names [])).lookup x=some c;rcases lookC e2 with⟨_,q,_⟩|⟨q,_⟩
     ·have:=S.look _ q;rw[show scope.names.lookup x=some .free from kf] at this;cases this
     ·rw[hc] at q;cases q;exact e2
 ·-- cells
  rcases lookC h with⟨q,_,_⟩|⟨q,_⟩
  ·exact⟨_,(cok.empty _ _ q).1⟩
  ·obtain⟨v,hv⟩:=I.cell x c q;exact⟨v,hv.keeps kept⟩
 ·rcases lookC h with⟨q,_,l⟩|⟨q,_⟩
  ·exact I.hok.fresh (by omega)
  ·exact I.freeC x c q
 ·show (bL' own fr σ).length=N.length;unfold bL';rw[an',aH',aa'];exact S.len
end
def PTs(X:Cx)(ifs:List Expr)(t:TT):Prop:=
 ∀(pins:List (Addr × Obj)) (s:Shared) (σ:St) (H:Hp) (Q:Bool->Hp->Prop),Inv X pins σ H s->t σ H Q->
  wpAny (model X.prog X.w) X.A (forIn ifs true fun c r=>if r=true then do let ok <- isTrue c X.env (eval c X.env);pure (ForInStep.yield ok) else pure (ForInStep.yield r)) (TP X pins σ Q) X.xe s
def tYes:TT:=fun _ H Q=>Q true H
theorem yesT{σ:St}{H:Hp}{A B:Hp->Prop}(h:A H):tYes σ H fun b H4=>if b=true then A H4 else B H4:=by
 unfold tYes;exact iteT h
theorem aY_{X:Cx}:PTs X [] tYes:=fun _ _ _ H _ I h=>wpAny_tests_nil ⟨H,I,h⟩
theorem gy_{X:Cx}{c:Expr}{t:TT}(h:PT X c t):PTs X [c] t:=fun pins s σ H Q I q=>wpAny_tests_one (h pins s σ H Q I q)
def dz'(J:It)(g:TG)(tc:TT)(te:TE)(σ0:St)(D:Addr)(H1:Hp)(Q:VK):Prop:=∃W:Nat->Nat->St->Hp->Prop,
 (∃m,W 0 m σ0 (upd H1 D (.lst [])))/\∀i m σ' H',W i m σ' H'->(J.stop i H'/\Q (.ref D) H') ∨
  (J.go i H'/\∃Nx:St->Hp->Prop,(∀σ2 H2,Nx σ2 H2->∃m',m'<m/\W (i+1) m' σ2 H2) /\
   ∀x H2,J.yld i H' x H2->g x σ' H2 fun σ3 H3=>tc σ3 H3 fun b H4=>if b=true then te σ3 H4 fun y H5=>∃out,H5 D=some (.lst out)/\out.length<sizeLine/\Nx σ3 (upd H5 D (.lst (out++[y]))) else Nx σ3 H4)
def tComp(wi:TI)(own:Nat)(fr:List Nat)(g:TG)(tc:TT)(te:TE):TE:=fun σ H Q=>wi σ H fun J H1=>∀D,H1 D=none->dz' J g tc te (bL' own fr σ) D H1 Q
section
variable{X:Cx}{tg iter elt:Expr}{ifs:List Expr}{scope:Scope}{pos:Pos}{wi:TI}{g:TG}{tc:TT}{te:TE}{N:List Str}
theorem gH_{R:Result->Shared->Prop}{own:Nat}{fr:List Nat}{pins:List (Addr × Obj)}{σ:St}{H1:Hp}{s2:Shared}{it:Addr}{fp:List Addr}{tn:Nat->Heap->Prop}{J:It}{D:Addr}{Q:VK}
  (S:CpOk X.N X.env.scope N own fr scope) (hc:X.calm=true) (hg:∀fp s H,PG (bg' X N scope fp s H) tg g) (ht:∀fp s H,PTs (bg' X N scope fp s H) ifs tc) (he:∀fp s H,PE (bg' X N scope fp s H) elt te)
  (I3:Inv X pins σ (upd H1 D (.lst [])) s2) (T:Turn X.prog X.w X.K tg J fp it tn) (st:tn 0 s2.heap) (f2:∀b∈fp,FpOk X pins (upd H1 D (.lst [])) b)
  (k:dz' J g tc te (bL' own fr σ) D H1 Q)
  (hR:∀H' s',Inv X pins σ H' s'->(∃m,s'.heap.Ns s2.heap.objs.size m)->H' s2.heap.objs.size=none->Q (.ref D) H'->R (.ok .next) s') :
  codeAny (model X.prog X.w) X.A (.compStart (.ListComp elt [⟨tg,iter,ifs,0⟩] scope pos) 0 (.ref it) (.ref D) (cpEnv scope s2.heap.objs.size X.env)) R
   { s2 with heap:=pushCells (s2.heap.push { cls:=.type "dict",data:=.dict #[] }) scope.names }:=by
 obtain⟨W,⟨m0,w0⟩,turn⟩:=k;have I4:=I3.block (N:=N) S f2 (fun b hb=>let ⟨o,e,_⟩:=T.obj _ _ st b hb;⟨o,e⟩);have kept:∀b o,s2.heap.get? b=some o->(pushCells (s2.heap.push { cls:=.type "dict",data:=.dict #[] }) scope.names).get? b=some o:=fun b o e=>pushCells_keeps _ _ b o (Heap.get?_push_of_some _ e);have st4:tn 0 (pushCells (s2.heap.push { cls:=.type "dict",data:=.dict #[] }) scope.names):=T.keep _ _ _ st fun b hb o e=>kept b o e
 have fx:∀{H':Hp},(∀b∈fp,H' b=none)->∀b∈fp,FpOk (bg' X N scope fp s2 (upd H1 D (.lst []))) [] H' b:=fun hn b hb=>
  ⟨hn b hb,(I4.ok.exf b hb).1,I4.ok.exfs b hb,.inl hb,(I4.ok.exf b hb).2,fun p hp=>absurd (show p∈([]:List (Addr × Obj)) from hp) (by simp)⟩
 have loop:codeAny (model X.prog X.w) X.A (.compLoop (.ListComp elt [⟨tg,iter,ifs,0⟩] scope pos) 0 (.ref it) (.ref D) (cpEnv scope s2.heap.objs.size X.env)) R
   { s2 with heap:=pushCells (s2.heap.push { cls:=.type "dict",data:=.dict #[] }) scope.names }:=by
  refine codeAny_loop rfl (fun n s'=>∃i σ' H',Inv (bg' X N scope fp s2 (upd H1 D (.lst []))) [] σ' H' s'/\tn i s'.heap/\(∀b∈fp,H' b=none)/\W i n σ' H') (fun n s' hI=>?_) m0 ⟨0,_,_,I4,st4,fun b hb=>(f2 b hb).1,w0⟩;obtain⟨i,σ',H',I5,st5,fr5,w5⟩:=hI;show wpAny _ X.A ((compTurn (.ListComp elt [⟨tg,iter,ifs,0⟩] scope pos) 0 (.ref it) (.ref D) (cpEnv scope s2.heap.objs.size X.env)).onRaise (fun x=>do noteFrame x (cpEnv scope s2.heap.objs.size X.env);theTreesLotGoes x)) _ _ s';refine wpAny_noted (wpAny_mono (E:=fun _ _=>False) ?_ (fun _ _ q=>q) fun _ _ q=>q.elim);rw[compTurn_list];refine wpAny_bind (wpAny_standAt (wpAny_bind ?_));rcases turn i n σ' H' w5 with⟨stop,q⟩|⟨go,Nx,hN,step⟩
  ·refine thn (T.done (bg' X N scope fp s2 (upd H1 D (.lst []))) rfl rfl rfl hc i [] s' σ' H' _ I5 (fx fr5) st5 stop) fun r s6 ⟨hr,I6⟩=>?_;subst hr;refine wpAny_pure (hR H' s6 (I3.call' I6.os I6.base I6.hok I6.bare fun b hb=>?_) ?_ I6.free q)
   ·exact⟨(f2 b hb).2.2.2.1,(f2 b hb).2.1,(f2 b hb).2.2.2.2.1,(f2 b hb).2.2.2.2.2⟩
   ·obtain⟨m,hm,_⟩:=I6.loc;exact⟨m,hm⟩
  ·refine thn (T.item (bg' X N scope fp s2 (upd H1 D (.lst []))) rfl rfl rfl hc i [] s' σ' H' _ I5 (fx fr5) st5 go) fun r s6 ⟨u,hr,h6⟩=>?_;subst hr;refine wpAny_bind (thn h6 fun _ s7 ⟨x,H7,I7,r7,y7,st7,fr7⟩=>?_);have I7':=I7.pinned (fx fr7) (T.obj _ _ st7)
   have back:∀{σ8:St} {H8:Hp} {s8:Shared},Inv (bg' X N scope fp s2 (upd H1 D (.lst []))) ([]++bP' fp s7.heap) σ8 H8 s8->Nx σ8 H8->∃m,m<n/\∃i σ' H',Inv (bg' X N scope fp s2 (upd H1 D (.lst []))) [] σ' H' s8/\tn i s8.heap/\(∀b∈fp,H' b=none)/\W i m σ' H':=fun {σ8 H8 s8} I8 n8=>by
    obtain⟨m',hm,w8⟩:=hN σ8 H8 n8;refine⟨m',hm,i+1,σ8,H8,I8.unpinned,T.keep _ _ _ st7 fun b hb o e=>(I8.pin (b,o) (ax' _ (ax' _ (bD_ hb e)))).1,fun b hb=>?_,w8⟩;obtain⟨o,e,d⟩:=T.obj _ _ st7 b hb;exact (I8.pin (b,o) (ax' _ (ax' _ (bD_ hb e)))).2.1
   refine wpAny_bind (thn (hg fp s2 (upd H1 D (.lst [])) _ s7 σ' H7 x u _ I7' r7 (step x H7 y7)) fun _ s8 ⟨σ8,H8,I8,q8⟩=>?_);refine wpAny_bind (thn (ht fp s2 (upd H1 D (.lst [])) _ s8 σ8 H8 _ I8 q8) fun b s9 ⟨H9,I9,q9⟩=>?_);cases b with
   |false=>
    simp only[aW',if_false] at q9 ⊢;exact wpAny_pure ⟨rfl,back I9 q9⟩
   |true=>
    simp only[if_true] at q9 ⊢;refine wpAny_bind (wpAny_bind (thn (he fp s2 (upd H1 D (.lst [])) _ s9 σ8 H9 _ I9 q9) fun y s10 ⟨yv,H10,I10,r10,out,hD,hz,q10⟩=>?_));refine wpAny_bind (thn (aU_ (X:=bg' X N scope fp s2 (upd H1 D (.lst []))) _ s10 σ8 H10 (.ref D) [yv] (.ref D) [y] (fun _ H'=>Nx σ8 H') I10 rfl (.cons r10 .nil) ⟨D,out,yv,rfl,rfl,hD,hz,q10⟩) fun _ s11 ⟨_,H11,I11,_,q11⟩=>?_);exact wpAny_pure (wpAny_pure ⟨rfl,back I11 q11⟩)
 exact codeAny_compStart_list loop (T.self _ 0 _ _ _ st4 loop)
theorem b2_(N:List Str)(own:Nat)(fr:List Nat)(hi:PI X tg iter wi)(hg:∀fp s H,PG (bg' X N scope fp s H) tg g)(ht:∀fp s H,PTs (bg' X N scope fp s H) ifs tc)(he:∀fp s H,PE (bg' X N scope fp s H) elt te)
  (S:cF' X.N X.env.scope N own fr scope=true:=by kernel_rfl) (hc:X.calm=true:=by rfl) (hs:∀x,foldedSetIterable iter X.env x=pure x:=by intro _;rfl) :
  PE X (.ListComp elt [⟨tg,iter,ifs,0⟩] scope pos) (tComp wi own fr g tc te):=by
 intro pins s σ H Q I h;have S':=CpOk.of S;rw[eval_ListComp];have hclos:closureFor scope X.env=pure (bm' X.env scope.names []):=bW_ fun x hx e=>I.ok.has x.1 (S'.par x hx e);refine wpAny_comprehension_free (use:=none) rfl hs hclos S'.kind (fun x hx e=>by rw[S'.look x hx,e]) (thn (hi pins s σ H _ I h) fun v s1 h1=>thn h1 fun itv s2 h2=>?_);obtain⟨it,fp,tn,J,H1,rfl,I2,T,st2,f2,k⟩:=h2;refine wpAny_newObj_type (cE_ ?_);have hD:H1 s2.heap.objs.size=none:=I2.fresh;have I3:=I2.lnew (ys:=[]) (its:=[]) (t':=s2.toks) .nil (aC' _);have kept:∀b o,s2.heap.get? b=some o->(s2.heap.push { cls:=.type "list",data:=.seq ([]:List Value).toArray }).get? b=some o:=fun b o e=>Heap.get?_push_of_some _ e;refine gH_ (own:=own) (fr:=fr) (Q:=Q) S' hc hg ht he I3 T (T.keep _ _ _ st2 fun b hb o e=>kept b o e) (fun b hb=>?_) (k _ hD) ?_
 ·refine⟨?_,(f2 b hb).2⟩;obtain⟨o,e,_⟩:=T.obj _ _ st2 b hb;rw[a4_ (au' (Heap.lt_size e))];exact (f2 b hb).1
 ·rintro H' s' I' ⟨m,hm⟩ hn q;refine⟨m,hm,fun h' hs'=>⟨.ref s2.heap.objs.size,H',?_,rfl,q⟩⟩
  exact I'.turned (t':=s'.toks) (fun b o hb e=>hs'.extBut b o hb e) hn (a5' I3.lt) (.inr I3.sz) (fun x c hcx e=>by
   obtain⟨v,hv⟩:=I3.cell x c hcx
   exact absurd hv.lt (by rw[e];exact a4' _)) fun p hp e=>by
    have:=(I3.pin p hp).1;rw[e] at this;exact absurd (Heap.lt_size this) (a4' _)
def tAsgC(i:Nat)(te:TE):TS:=fun D σ H=>te σ H fun x H1=>D.nx (σ.set i (some x)) H1
theorem gZ_{i:Nat}{x:Str}{px:Pos}(N:List Str)(own:Nat)(fr:List Nat)(hN:X.N.Nodup)(hi':X.N[i]? = some x)(hx:Loc X.env.scope x)
  (hi:PI X tg iter wi) (hg:∀fp s H,PG (bg' X N scope fp s H) tg g) (ht:∀fp s H,PTs (bg' X N scope fp s H) ifs tc) (he:∀fp s H,PE (bg' X N scope fp s H) elt te) {pos':Pos}
  (S:cF' X.N X.env.scope N own fr scope=true:=by kernel_rfl) (hc:X.calm=true:=by rfl) (hs:∀x,foldedSetIterable iter X.env x=pure x:=by intro _;rfl)
  (hf:X.fn x=true∨X.env.scope.names.lookup x=some .local:=by first|exact .inl rfl|exact .inr rfl|assumption)
  (hsw:swapsWith (.ListComp elt [⟨tg,iter,ifs,0⟩] scope pos) (some (.Name x px)) pos'.line X.env=pure true:=by rfl) :
  PS X (.Assign [.Name x px] (.ListComp elt [⟨tg,iter,ifs,0⟩] scope pos) pos') (tAsgC i (tComp wi own fr g tc te)):=by
 intro pins s σ H E I h;have S':=CpOk.of S;rw[exec_Assign_Name_used _ _ _ _ hsw];refine wpAny_bind (wpAny_standAt (wpAny_bind ?_));show wpAny _ X.A (do let _ <- comprehension (.ListComp elt [⟨tg,iter,ifs,0⟩] scope pos) scope X.env _ (newList []) false (eval iter X.env) (some (assign (.Name x px) X.env))) _ _ s;have hclos:closureFor scope X.env=pure (bm' X.env scope.names []):=bW_ fun x hx e=>I.ok.has x.1 (S'.par x hx e)
 refine wpAny_bind (wpAny_mono (wpAny_comprehension_free (use:=some (assign (.Name x px) X.env)) (Q:=fun _ s'=>SP X pins E .next s') rfl hs hclos S'.kind (fun x hx e=>by rw[S'.look x hx,e]) (thn (hi pins s σ H _ I h) fun v s1 h1=>thn h1 fun itv s2 h2=>?_))
  (fun _ s' hq=>wpAny_pure (wpAny_pure hq)) fun _ _ e=>e)
 obtain⟨it,fp,tn,J,H1,rfl,I2,T,st2,f2,k⟩:=h2;refine wpAny_newObj_type (cE_ ?_);have hD:H1 s2.heap.objs.size=none:=I2.fresh;have I3:=I2.lnew (ys:=[]) (its:=[]) (t':=s2.toks) .nil (aC' _);have kept:∀b o,s2.heap.get? b=some o->(s2.heap.push { cls:=.type "list",data:=.seq ([]:List Value).toArray }).get? b=some o:=fun b o e=>Heap.get?_push_of_some _ e;refine gH_ (own:=own) (fr:=fr) (Q:=fun x H1=>E.nx (σ.set i (some x)) H1) S' hc hg ht he I3 T (T.keep _ _ _ st2 fun b hb o e=>kept b o e) (fun b hb=>?_) (k _ hD) ?_
 ·refine⟨?_,(f2 b hb).2⟩;obtain⟨o,e,_⟩:=T.obj _ _ st2 b hb;rw[a4_ (au' (Heap.lt_size e))];exact (f2 b hb).1
 ·rintro H' s' I' ⟨m,hm⟩ hn q
  have cne:∀y c,X.env.cells.lookup y=some c->c≠(s2.heap.push { cls:=.type "list",data:=.seq ([]:List Value).toArray }).objs.size:=fun y c hcx e=>by
   obtain⟨v,hv⟩:=I3.cell y c hcx;exact absurd hv.lt (by rw[e];exact a4' _)
  show wpAny _ X.A (assign (.Name x px) X.env (.ref s2.heap.objs.size)) _ _ s';refine wpAny_assign_Name (e4_ (v:=V.ref s2.heap.objs.size) I' hN hi' hx rfl (fun s'' I'' ⟨a,hs2,ha⟩=>?_) hf)
  have hCa:(s2.heap.push { cls:=.type "list",data:=.seq ([]:List Value).toArray }).objs.size≠a:=by
   rcases ha with e|e
   ·rw[e];exact a5' I3.lt
   ·exact (cne x a e).symm
  refine⟨m,hm.sameBut hs2 hCa,fun h' hs'=>⟨_,H',?_,q⟩⟩
  exact I''.turned (t':=s''.toks) (fun b o hb e=>hs'.extBut b o hb e) hn (a5' I3.lt) (.inr I3.sz) cne fun p hp e=>by
    have:=(I3.pin p hp).1;rw[e] at this;exact absurd (Heap.lt_size this) (a4' _)
end
def GOk(g:TG)(own:Nat)(fv:List (Option V))(dec:V->Hp->List (Option V)->Prop):Prop:=
 ∀(x:V) (o:List (Option V)) (H:Hp) (k:St->Hp->Prop) (o3:List (Option V)),o.length=own->dec x H o3->k (o3++fv) H->g x (o++fv) H k
theorem gok1{fv:List (Option V)}:GOk (b5' 0) 1 fv (fun x _ o3=>o3=[some x]):=fun x o H k o3 hl e h=>by
 subst e
 match o,hl with
 |[a],_=>exact h
def dec2(K:F__):V->Hp->List (Option V)->Prop:=fun x H o3=>∃p u v,x=.ref p/\SqT K H p [u,v]/\o3=[some u,some v]
def dec3(K:F__):V->Hp->List (Option V)->Prop:=fun x H o3=>∃p u v w,x=.ref p/\SqT K H p [u,v,w]/\o3=[some u,some v,some w]
theorem gok2{K:F__}{fv:List (Option V)}:GOk (gTup K 2 (cE' (b5' 0) (cE' (b5' 1) gNil))) 2 fv (dec2 K):=fun x o H k o3 hl e h=>by
 obtain⟨p,u,v,rfl,hp,rfl⟩:=e
 match o,hl with
 |[a,b],_=>exact⟨p,[u,v],rfl,hp,rfl,u,[v],rfl,v,[],rfl,rfl,h⟩
theorem gok3{K:F__}{fv:List (Option V)}:GOk (gTup K 3 (cE' (b5' 0) (cE' (b5' 1) (cE' (b5' 2) gNil)))) 3 fv (dec3 K):=fun x o H k o3 hl e h=>by
 obtain⟨p,u,v,w,rfl,hp,rfl⟩:=e
 match o,hl with
 |[a,b,c],_=>exact⟨p,[u,v,w],rfl,hp,rfl,u,[v,w],rfl,v,[w],rfl,w,[],rfl,rfl,h⟩
theorem c5_{J:It}{g:TG}{tc:TT}{te:TE}{own:Nat}{fv:List (Option V)}{dec:V->Hp->List (Option V)->Prop}{D:Addr}{H:Hp}{Q:VK}{σ0:St}(hσ:σ0=List.replicate own none++fv)(G:GOk g own fv dec)(n:Nat)(Pv:Nat->List V->Hp->Prop)
  (h0:Pv 0 [] (upd H D (.lst []))) (hstop:∀out H',Pv n out H'->J.stop n H'/\Q (.ref D) H')
  (hgo:∀i out H',i<n->Pv i out H'->J.go i H'/\∀x H2,J.yld i H' x H2->∃o3,dec x H2 o3/\o3.length=own/\∀Nx:Hp->Prop,(∀out' H2,Pv (i+1) out' H2->Nx H2)->
   tc (o3++fv) H2 fun b H4=>if b=true then te (o3++fv) H4 fun y H5=>∃out2,H5 D=some (.lst out2)/\out2.length<sizeLine/\Nx (upd H5 D (.lst (out2++[y]))) else Nx H4) :
  dz' J g tc te σ0 D H Q:=by
 subst hσ;refine⟨fun i m σ' H'=>m=n - i/\i<=n/\(∃o:List (Option V),σ'=o++fv/\o.length=own)/\∃out,Pv i out H',⟨n,by simp,aC' _,⟨_,rfl,aH'⟩,_,h0⟩,?_⟩;rintro i m σ' H' ⟨rfl,hi,⟨o,rfl,ho⟩,out,p⟩;by_cases hlt:i<n
 ·obtain⟨go,k⟩:=hgo i out H' hlt p;refine .inr ⟨go,fun σ2 H2=>(∃o:List (Option V),σ2=o++fv/\o.length=own)/\∃out,Pv (i+1) out H2,fun σ2 H2 q=>⟨n - (i+1),by omega,rfl,hlt,q⟩,fun x H2 y=>?_⟩;obtain⟨o3,d,l3,q⟩:=k x H2 y;exact G x o H2 _ o3 ho d (q (fun H2=>(∃o:List (Option V),o3++fv=o++fv/\o.length=own)/\∃out,Pv (i+1) out H2) fun out' H2 z=>⟨⟨o3,rfl,l3⟩,out',z⟩)
 ·have e:i=n:=by omega
  subst e;exact .inl (hstop out H' p)
theorem aR_{K:F__}{a:Addr}{xs:List V}{g:TG}{tc:TT}{te:TE}{own:Nat}{fv:List (Option V)}{dec:V->Hp->List (Option V)->Prop}{D:Addr}{H:Hp}{Q:VK}{σ0:St}(hσ:σ0=List.replicate own none++fv)(G:GOk g own fv dec)(Pv:Nat->List V->Hp->Prop)
  (h0:Pv 0 [] (upd H D (.lst []))) (hl:∀i out H',i<=xs.length->Pv i out H'->SqL K H' a xs) (hd:∀out H',Pv xs.length out H'->Q (.ref D) H')
  (hgo:∀i x out H',xs[i]? = some x->Pv i out H'->∃o3,dec x H' o3/\o3.length=own/\∀Nx:Hp->Prop,(∀out' H2,Pv (i+1) out' H2->Nx H2)->
   tc (o3++fv) H' fun b H4=>if b=true then te (o3++fv) H4 fun y H5=>∃out2,H5 D=some (.lst out2)/\out2.length<sizeLine/\Nx (upd H5 D (.lst (out2++[y]))) else Nx H4) :
  dz' (Itl K a) g tc te σ0 D H Q:=by
 refine c5_ hσ G xs.length Pv h0 (fun out H' p=>⟨⟨xs,hl _ _ _ (ag' _) p,ag' _⟩,hd out H' p⟩) fun i out H' hi p=>?_;have q:=hl i out H' (Nat.le_of_lt hi) p;refine⟨⟨xs,xs[i],q,by simp[hi]⟩,fun x H2 y=>?_⟩;obtain⟨e,y⟩:=y;subst e;exact hgo i x out _ (y xs q) p
end L2
namespace EvS
open PySem PySem.W PyProof.Rows
def Ok{α:Type}(f:Nat->Nat->Bool)(n:Nat):KasT α->(α->Prop)->Prop
 |.ret a,Q=>Q a
 |.ask i j k,Q=>i<n/\j<n/\Ok f n (k (f i j)) Q
theorem Ok.bind{α β:Type}{f:Nat->Nat->Bool}{n:Nat}{g:α->KasT β}{Q:β->Prop}:∀{t:KasT α} {R:α->Prop},Ok f n t R->(∀a,R a->Ok f n (g a) Q)->Ok f n (t.bind g) Q
 |.ret a,R,h,k=>k a h
 |.ask i j t,R,h,k=>⟨h.1,h.2.1,Ok.bind h.2.2 k⟩
theorem Ok.imp{α:Type}{f:Nat->Nat->Bool}{n:Nat}{Q R:α->Prop}(k:∀a,Q a->R a):∀{t:KasT α},Ok f n t Q->Ok f n t R
 |.ret a,h=>k a h
 |.ask i j t,h=>⟨h.1,h.2.1,Ok.imp k h.2.2⟩
theorem Ok.wp{α:Type}{f:Nat->Nat->Bool}{n:Nat}{cmp:Nat->Nat->(Bool->Shared->Prop)->Shared->Prop}{s:Shared}(hc:∀i j C,i<n->j<n->C (f i j) s->cmp i j C s){Q:α->Prop}{G:α->Shared->Prop}(k:∀a,Q a->G a s) :
  ∀{t:KasT α},Ok f n t Q->t.kasWp cmp G s
 |.ret a,h=>k a h
 |.ask i j t,h=>hc i j _ h.1 h.2.1 (Ok.wp hc k h.2.2)
structure Ord (f:Nat->Nat->Bool):Prop where
 rfl':∀i,f i i=false
 trans:∀{i j k},f j i=false->f k j=false->f k i=false
 tot:∀{i j},f i j=true->f j i=false
section
variable{f:Nat->Nat->Bool}(O:Ord f){N:Nat}
abbrev at'(p:Array Nat)(i:Nat):Nat:=p.getD i 0
def Up(f:Nat->Nat->Bool)(p:Array Nat)(k:Nat):Prop:=∀i j,i<=j->j<k->f (at' p j) (at' p i)=false
def Down(f:Nat->Nat->Bool)(p:Array Nat)(k:Nat):Prop:=∀i j,i<=j->j<k->f (at' p i) (at' p j)=false
def Like(f:Nat->Nat->Bool)(p:Array Nat)(lo k:Nat):Prop:=∀i,lo<=i->i<k->f (at' p i) (at' p (k - 1))=false/\f (at' p (k - 1)) (at' p i)=false
def Good(N:Nat)(p:Array Nat):Prop:=p.Perm (List.range N).toArray
theorem Good.size{p:Array Nat}(h:Good N p):p.size=N:=by
 have:=h.size_eq;simpa using this
theorem Good.lt{p:Array Nat}(h:Good N p)(hN:0<N)(i:Nat):at' p i<N:=by
 unfold at';by_cases hi:i<p.size
 ·have e:p.getD i 0=p[i]:=by simp[Array.getD,hi]
  rw[e];have m:p[i]∈(List.range N).toArray:=h.mem_iff.mp (Array.getElem_mem hi);simpa using m
 ·have e:p.getD i 0=0:=by simp[Array.getD,hi]
  rw[e];exact hN
theorem Good.rev{p:Array Nat}(h:Good N p)(i j:Nat):Good N (kas_rev p i j):=(mirror_perm _ _ _ _).trans h
theorem Good.bub{p:Array Nat}(h:Good N p)(i j:Nat):Good N (bubble p i j):=(bubble_perm _ _ _).trans h
theorem cy_{p q:Array Nat}{i j:Nat}(h:p[i]? = q[j]?):at' p i=at' q j:=by
 unfold at';rw[Array.getD_eq_getD_getElem?,Array.getD_eq_getD_getElem?,h]
theorem cA_{p:Array Nat}{i j:Nat}(hj:j<=p.size)(k:Nat):at' (kas_rev p i j) k=if i<=k/\k<j then at' p (i+j - 1 - k) else at' p k:=by
 have e:=getElem?_mirror_all (i:=i) hj k;unfold kas_rev;split
 ·rename_i c
  rw[if_pos c] at e;exact cy_ e
 ·rename_i c
  rw[if_neg c] at e;exact cy_ e
theorem im_{p:Array Nat}{k l:Nat}(hk:k<p.size)(hl:l<=k)(i:Nat):at' (bubble p k (k - l)) i=if i=l then at' p k else if l<i/\i<=k then at' p (i - 1) else at' p i:=by
 have e:=getElem?_bubble hk (k - l) (by omega) i;rw[show k - (k - l)=l by omega] at e;by_cases c:i=l
 ·rw[if_pos c] at e ⊢;exact cy_ e
 ·rw[if_neg c] at e ⊢;split
  ·rename_i d
   rw[if_pos d] at e;exact cy_ e
  ·rename_i d
   rw[if_neg d] at e;exact cy_ e
include O
theorem Up.more{p:Array Nat}{n:Nat}(h:Up f p n)(h1:1<=n)(c:f (at' p n) (at' p (n - 1))=false):Up f p (n+1):=fun i j hij hj=>by
 by_cases e:j<n
 ·exact h i j hij e
 ·have e:j=n:=by omega
  subst e;by_cases e2:i=j
  ·subst e2;exact O.rfl' _
  ·exact O.trans (h i (j - 1) (by omega) (by omega)) c
theorem Down.more{p:Array Nat}{n:Nat}(h:Down f p n)(h1:1<=n)(c:f (at' p (n - 1)) (at' p n)=false):Down f p (n+1):=fun i j hij hj=>by
 by_cases e:j<n
 ·exact h i j hij e
 ·have e:j=n:=by omega
  subst e;by_cases e2:i=j
  ·subst e2;exact O.rfl' _
  ·exact O.trans c (h i (j - 1) (by omega) (by omega))
theorem gk_{p:Array Nat}(g:Good N p)(hN:0<N):∀(m n:Nat),1<=n->Up f p n->Ok f N (kas_asc p m n) fun r=>n<=r/\r<=n+m/\Up f p r/\(r<n+m->f (at' p r) (at' p (r - 1))=true)
 |0,n,_,h=>⟨ag' _,ag' _,h,fun q=>absurd q (by omega)⟩
 |m+1,n,h1,h=>by
  refine⟨g.lt hN _,g.lt hN _,?_⟩;dsimp only;by_cases c:f (at' p n) (at' p (n - 1))=true
  ·rw[if_pos c];exact⟨ag' _,by omega,h,fun _=>c⟩
  ·rw[if_neg c];refine (gk_ g hN m (n+1) (by omega) (h.more O h1 (by simpa using c))).imp fun r ⟨a,b,u,z⟩=>⟨by omega,by omega,u,fun q=>z (by omega)⟩
theorem Like.rev{p:Array Nat}{lo k:Nat}(h:Like f p lo k)(hk:k<=p.size)(i:Nat):f (at' (kas_rev p lo k) i) (at' p i)=false/\f (at' p i) (at' (kas_rev p lo k) i)=false:=by
 rw[cA_ hk];split
 ·rename_i c
  obtain⟨a1,a2⟩:=h i c.1 c.2;obtain⟨b1,b2⟩:=h (lo+k - 1 - i) (by omega) (by omega);exact⟨O.trans a2 b1,O.trans b2 a1⟩
 ·exact⟨O.rfl' _,O.rfl' _⟩
theorem Down.rev{p:Array Nat}{lo k n:Nat}(h:Down f p n)(l:Like f p lo k)(hk:k<=p.size):Down f (kas_rev p lo k) n:=fun i j hij hj=>by
 obtain⟨a1,_⟩:=l.rev O hk i;obtain⟨_,b2⟩:=l.rev O hk j;exact O.trans (O.trans b2 (h i j hij hj)) a1
theorem di_(hN:0<N):∀(m:Nat) (p:Array Nat) (n q:Nat),Good N p->1<=n->q+1<=n->n+m<=N->Down f p n->Like f p (n - (q+1)) n->
  Ok f N (kas_desc m p n q) fun r=>Good N r.1/\n<=r.2.1/\r.2.1<=n+m/\Down f r.1 r.2.1/\r.2.2+1<=r.2.1/\Like f r.1 (r.2.1 - (r.2.2+1)) r.2.1
 |0,p,n,q,g,h1,hq,hn,d,l=>⟨g,ag' _,ag' _,d,hq,l⟩
 |m+1,p,n,q,g,h1,hq,hn,d,l=>by
  refine⟨g.lt hN _,g.lt hN _,?_⟩;dsimp only;by_cases c:f (at' p n) (at' p (n - 1))=true
  ·rw[if_pos c];have d2:Down f p (n+1):=d.more O h1 (O.tot c)
   have one:∀p':Array Nat,Like f p' (n+1 - (0+1)) (n+1):=fun p' i h2 h3=>by
    have e:i=n+1 - 1:=by omega
    subst e;exact⟨O.rfl' _,O.rfl' _⟩
   by_cases hq0:q > 0
   ·rw[if_pos hq0];have hk:n<=p.size:=by rw[g.size];omega
    exact (di_ hN m _ (n+1) 0 (g.rev _ _) (by omega) (by omega) (by omega) (d2.rev O l hk) (one _)).imp fun r ⟨a,b,b2,z⟩=>⟨a,by omega,by omega,z⟩
   ·rw[if_neg hq0];exact (di_ hN m _ (n+1) 0 g (by omega) (by omega) (by omega) d2 (one _)).imp fun r ⟨a,b,b2,z⟩=>⟨a,by omega,by omega,z⟩
  ·rw[if_neg c];refine⟨g.lt hN _,g.lt hN _,?_⟩;dsimp only;have c:f (at' p n) (at' p (n - 1))=false:=by simpa using c
   by_cases e:f (at' p (n - 1)) (at' p n)=true
   ·rw[if_pos e];exact⟨g,ag' _,by show n<=n+(m+1);omega,d,hq,l⟩
   ·rw[if_neg e];have e:f (at' p (n - 1)) (at' p n)=false:=by simpa using e
    refine (di_ hN m p (n+1) (q+1) g (by omega) (by omega) (by omega) (d.more O h1 e) fun i h2 h3=>?_).imp fun r ⟨a,b,b2,z⟩=>⟨a,by omega,by omega,z⟩;show f (at' p i) (at' p n)=false/\f (at' p n) (at' p i)=false;by_cases ei:i=n
    ·subst ei;exact⟨O.rfl' _,O.rfl' _⟩
    ·obtain⟨a1,a2⟩:=l i (by omega) (by omega);exact⟨O.trans e a1,O.trans a2 c⟩
def c9'(f:Nat->Nat->Bool)(N nrem:Nat)(r:Nat × Array Nat):Prop:=Good N r.2/\1<=r.1/\r.1<=nrem/\Up f r.2 r.1
theorem gT_(hN:0<N){p:Array Nat}{n nrem:Nat}(g:Good N p)(h1:1<=n)(hn:n<=nrem)(hr:nrem<=N)(d:Down f p n):Ok f N (kas_tail3 n nrem p) (c9' f N nrem):=by
 unfold kas_tail3
 have u:Up f (kas_rev p 0 n) n:=fun i j hij hj=>by
  rw[cA_ (by rw[g.size];omega),cA_ (by rw[g.size];omega),if_pos (by omega),if_pos (by omega)];exact d _ _ (by omega) (by omega)
 exact (gk_ O (g.rev _ _) hN (nrem - n) n h1 u).bind fun m ⟨a,b,u,_⟩=>⟨g.rev _ _,by show 1<=m;omega,by show m<=nrem;omega,u⟩
theorem cO_(hN:0<N){p:Array Nat}{n nrem:Nat}(g:Good N p)(hn:n+1<=nrem)(hr:nrem<=N)(d:Down f p (n+1)):Ok f N (kas_descPart n nrem p) (c9' f N nrem):=by
 unfold kas_descPart;refine (di_ O hN (nrem - (n+1)) p (n+1) 0 g (by omega) (by omega) (by omega) d fun i h2 h3=>?_).bind fun r ⟨g',a,b,d',hq,l⟩=>?_
 ·have e:i=n+1 - 1:=by omega
  subst e;exact⟨O.rfl' _,O.rfl' _⟩
 ·split
  ·exact gT_ O hN (g'.rev _ _) (by omega) (by omega) hr (d'.rev O l (by rw[g'.size];omega))
  ·exact gT_ O hN g' (by omega) (by omega) hr d'
theorem ib_(hN:0<N){p:Array Nat}{nrem:Nat}(g:Good N p)(h1:1<=nrem)(hr:nrem<=N):Ok f N (kas_count nrem p) (c9' f N nrem):=by
 unfold kas_count;refine (gk_ O g hN (nrem - 1) 1 (ag' _) fun i j hij hj=>?_).bind fun n ⟨a,b,u,st⟩=>?_
 ·have e:i=j:=by omega
  subst e;exact O.rfl' _
 ·by_cases e:(n == nrem)=true
  ·rw[if_pos e];exact⟨g,a,by show n<=nrem;omega,u⟩
  ·rw[if_neg e];have e:n≠nrem:=by simpa using e
   have c:=st (by omega);by_cases h2:n > 1
   ·rw[if_pos h2];refine⟨g.lt hN _,g.lt hN _,?_⟩;dsimp only;by_cases c2:f (at' p 0) (at' p (n - 1))=true
    ·rw[if_pos c2];exact⟨g,a,by show n<=nrem;omega,u⟩
    ·rw[if_neg c2];have c2:f (at' p 0) (at' p (n - 1))=false:=by simpa using c2
     refine cO_ O hN (g.rev _ _) (by omega) hr fun i j hij hj=>?_;by_cases ej:j<n
     ·rw[cA_ (by rw[g.size];omega),cA_ (by rw[g.size];omega),if_pos (by omega),if_pos (by omega)];exact u _ _ (by omega) (by omega)
     ·have ej:j=n:=by omega
      subst ej;by_cases ei:i=j
      ·subst ei;exact O.rfl' _
      ·rw[cA_ (by rw[g.size];omega),cA_ (by rw[g.size];omega),if_pos (by omega),if_neg (by omega)];exact O.trans (O.trans (O.tot c) c2) (u 0 _ (by omega) (by omega))
   ·rw[if_neg h2];have e1:n=1:=by omega
    subst e1;refine cO_ O hN g (by omega) hr fun i j hij hj=>?_;by_cases ei:i=j
    ·subst ei;exact O.rfl' _
    ·have q1:i=0:=by omega
     have q2:j=1:=by omega
     subst q1;subst q2;exact O.tot c
theorem dh_(hN:0<N){p:Array Nat}{k:Nat}(g:Good N p)(u:Up f p k):∀(m l r:Nat),r - l<=m->l<=r->r<=k->(∀i,i<l->f (at' p k) (at' p i)=false)->(∀i,r<=i->i<k->f (at' p k) (at' p i)=true)->
  Ok f N (kas_place p k m l r) fun x=>x<=k/\(∀i,i<x->f (at' p k) (at' p i)=false)/\∀i,x<=i->i<k->f (at' p k) (at' p i)=true
 |0,l,r,hm,hl,hr,h1,h2=>by
  have e:l=r:=by omega
  subst e;exact⟨hr,h1,h2⟩
 |m+1,l,r,hm,hl,hr,h1,h2=>by
  unfold kas_place;by_cases e:l ≥ r
  ·rw[if_pos e];have e:l=r:=by omega
   subst e;exact⟨hr,h1,h2⟩
  ·rw[if_neg e];refine⟨g.lt hN _,g.lt hN _,?_⟩;dsimp only;by_cases c:f (at' p k) (at' p ((l+r) / 2))=true
   ·rw[if_pos c];refine dh_ hN g u m l _ (by omega) (by omega) (by omega) h1 fun i h3 h4=>?_;by_cases ei:f (at' p k) (at' p i)=true
    ·exact ei
    ·have ei:f (at' p k) (at' p i)=false:=by simpa using ei
     have:=O.trans (u _ i h3 h4) ei;rw[c] at this;cases this
   ·rw[if_neg c];have c:f (at' p k) (at' p ((l+r) / 2))=false:=by simpa using c
    exact dh_ hN g u m _ r (by omega) (by omega) hr (fun i h3=>O.trans (u i _ (by omega) (by omega)) c) h2
theorem iy_(hN:0<N):∀(m:Nat) (p:Array Nat) (k:Nat),Good N p->k+m=N->Up f p k->Ok f N (kas_bin m p k) fun r=>Good N r/\Up f r N
 |0,p,k,g,e,u=>by
  have e:k=N:=by omega
  subst e;exact⟨g,u⟩
 |m+1,p,k,g,e,u=>by
  unfold kas_bin;refine (dh_ O hN g u k 0 k (by omega) (by omega) (ag' _) (fun i h=>absurd h (by omega)) fun i h1 h2=>absurd h2 (by omega)).bind fun l ⟨hl,h1,h2⟩=>?_;have hk:k<p.size:=by rw[g.size];omega
  refine iy_ hN m _ (k+1) (g.bub _ _) (by omega) fun i j hij hj=>?_;rw[im_ hk hl,im_ hk hl];by_cases ej:j=l
  ·rw[if_pos ej];by_cases ei:i=l
   ·rw[if_pos ei];exact O.rfl' _
   ·rw[if_neg ei,if_neg (by omega)];exact h1 i (by omega)
  ·rw[if_neg ej];by_cases ej2:l<j/\j<=k
   ·rw[if_pos ej2];by_cases ei:i=l
    ·rw[if_pos ei];exact O.tot (h2 (j - 1) (by omega) (by omega))
    ·rw[if_neg ei];by_cases ei2:l<i/\i<=k
     ·rw[if_pos ei2];exact u _ _ (by omega) (by omega)
     ·rw[if_neg ei2];exact u _ _ (by omega) (by omega)
   ·rw[if_neg ej2];rw[if_neg (show ¬i=l by omega),if_neg (show ¬(l<i/\i<=k) by omega)];exact u _ _ (by omega) (by omega)
theorem gd_(hN:0<N):Ok f N (kas_sort N) fun p=>Good N p/\Up f p N:=by
 unfold kas_sort;refine (ib_ O hN (p:=(List.range N).toArray) (Array.Perm.refl _) hN (ag' _)).bind fun r ⟨g,h1,h2,u⟩=>?_;split
 ·rename_i c
  rw[show max r.1 1=r.1 by omega];exact iy_ O hN _ _ _ g (by omega) u
 ·rename_i c
  have e:r.1=N:=by omega
  exact⟨g,e▸u⟩
end
end EvS
namespace EvS
open PySem PySem.W PyProof.Rows
section
variable{prog:Program}{w:World}{A:Around}{E:Value->Shared->Prop}{s:Shared}
def Asks(prog:Program)(w:World)(A:Around)(f:Nat->Nat->Bool)(vs:List Value)(s:Shared):Prop:=
 ∃κ,(∀Q:SortKind->Shared->Prop,Q κ s->wpAny (model prog w) A (keyKind' vs.toArray) Q (fun _ _=>False) s)/\∀i j C,i<vs.length->j<vs.length->C (f i j) s->kas_ask prog w A κ vs i j C s
def ci'(a:Addr)(h h':Heap):Prop:=∀b o,b≠a->h.get? b=some o->h'.get? b=some o
def bK'(p:Array Nat)(vs:List Value):List Value:=p.toList.map fun i=>vs.getD i Value.none
theorem cC_(vs:List Value):bK' (List.range vs.length).toArray vs=vs:=by
 unfold bK';apply List.ext_getElem?;intro i;simp only[ao'];by_cases h:i<vs.length
 ·simp[h]
 ·simp[Nat.le_of_not_lt h]
theorem hZ_{a:Addr}{vs:List Value}{n:Nat}{f:Nat->Nat->Bool}{P:Fin->Shared->Prop}(O:Ord f)(ho:s.heap.get? a=some (seqObj "list" vs.toArray n))(h64:vs.length<64)
  (hask:2<=vs.length->∀h',ci' a s.heap h'->Asks prog w A f vs { s with heap:=h' })
  (h:∀(p:Array Nat) (h':Heap) (e:Nat),Good vs.length p->Up f p vs.length->h'.get? a=some (seqObj "list" (bK' p vs).toArray e)->ci' a s.heap h'->P (.done (.ret .none)) { s with heap:=h' }) :
  wpAny (model prog w) A (Builtin.«list.sort» ⟨[.ref a],[]⟩) P E s:=by
 have haz:a<s.heap.objs.size:=Heap.lt_size ho;obtain⟨e1,ho1⟩:∃e1,(s.heap.update a (Obj.mapSeq fun _=>(#[]:Array Value))).get? a=some (seqObj "list" #[] e1):=⟨_,get?_update_seq ho (fun _=>#[])⟩
 have l64:vs.length<=sizeLine:=by
  have:=sizeLine_eq;omega
 rw[list_sort_plain];refine wpAny_bind (listItems_at ho rfl (wpAny_bind (listUpdate_at ho rfl (wpAny_bind (seqEpoch_at ho1 rfl (wpAny_bind (wpAny_newTuple (wpAny_bind (wpAny_newList (wpAny_holding ?_) (aC' _))) l64)))) (by simpa using l64) (aC' _))))
 have keep:∀g:Array Value->Array Value,ci' a s.heap ((((s.heap.update a (Obj.mapSeq fun _=>(#[]:Array Value))).push (seqObj "tuple" vs.toArray 0)).push (seqObj "list" #[] 0)).update a (Obj.mapSeq g)):=fun g b o hb e=>by
  refine (Heap.get?_update_other _ _ (Ne.symm hb)).trans (Heap.get?_push_of_some _ (Heap.get?_push_of_some _ ?_));exact (Heap.get?_update_other _ _ (Ne.symm hb)).trans e
 have keep0:ci' a s.heap (((s.heap.update a (Obj.mapSeq fun _=>(#[]:Array Value))).push (seqObj "tuple" vs.toArray 0)).push (seqObj "list" #[] 0)):=fun b o hb e=>
  Heap.get?_push_of_some _ (Heap.get?_push_of_some _ ((Heap.get?_update_other _ _ (Ne.symm hb)).trans e))
 have hoB:(((s.heap.update a (Obj.mapSeq fun _=>(#[]:Array Value))).push (seqObj "tuple" vs.toArray 0)).push (seqObj "list" #[] 0)).get? a=some (seqObj "list" #[] e1):=Heap.get?_push_of_some _ (Heap.get?_push_of_some _ ho1);show wpAny (model prog w) A _ P E { s with heap:=((s.heap.update a (Obj.mapSeq fun _=>(#[]:Array Value))).push (seqObj "tuple" vs.toArray 0)).push (seqObj "list" #[] 0) };dsimp only;by_cases h2:vs.toArray.size<2
 ·rw[if_pos h2,if_pos h2];refine wpAny_bind (wpAny_pure ?_);rw[StateT.run_pure]
  have eout:((vs.toArray.zip vs.toArray).map fun x:Keyed=>x.2)=(bK' (List.range vs.length).toArray vs).toArray:=by
   rw[cC_];apply Array.ext';simp[List.map_snd_zip]
  refine wpAny_bind (wpAny_pure (wpAny_bind (seqEpoch_at hoB rfl (wpAny_bind (listUpdate_at hoB rfl ?_ (aC' _) ?_)))))
  ·simp only[bne_self_eq_false,aW',if_false];refine wpAny_pure (h (List.range vs.length).toArray _ _ (Array.Perm.refl _) (fun i j hij hj=>?_) ((get?_update_seq hoB _).trans (congrArg (fun z=>some (seqObj "list" z _)) eout)) (keep _))
   ·have e:i=j:=by
     simp only[aj'] at h2;omega
    subst e;exact O.rfl' _
  ·have e:((vs.toArray.zip vs.toArray).map fun x:Keyed=>x.2).size<=sizeLine+1:=by
    simp only[Array.size_map,Array.size_zip,aj'];omega
   exact e
 ·rw[if_neg h2,if_neg h2]
  have h2':2<=vs.length:=by
   simp only[aj'] at h2;omega
  obtain⟨κ,hk,hc⟩:=hask h2' _ keep0;refine wpAny_bind (wpAny_mono (hk (fun k s'=>k=κ/\s'=_) ⟨rfl,rfl⟩) (fun k s' hks=>?_) fun _ _ x=>x.elim);obtain⟨rfl,rfl⟩:=hks
  refine wpAny_bind (wpAny_mono (kat_run (ks:=vs) (vs:=vs) (G:=fun p s'=>s'={ s with heap:=((s.heap.update a (Obj.mapSeq fun _=>(#[]:Array Value))).push (seqObj "tuple" vs.toArray 0)).push (seqObj "list" #[] 0) }/\Good vs.length p/\Up f p vs.length)
   (Q:=fun st' s'=>∃p:Array Nat,arrOf st'=p.map (kas_item (vs.toArray.zip vs.toArray))/\failedOf st'=none/\s'={ s with heap:=((s.heap.update a (Obj.mapSeq fun _=>(#[]:Array Value))).push (seqObj "tuple" vs.toArray 0)).push (seqObj "list" #[] 0) }/\Good vs.length p/\Up f p vs.length)
   rfl h2' h64 (fun p st' s' _ q1 q2 q3=>⟨p,q1,q2,q3⟩) (Ok.wp hc (fun p q=>⟨rfl,q⟩) (gd_ O (by omega)))) ?_ fun _ _ x=>x)
  rintro⟨⟨⟩,st'⟩ s' ⟨p,har,hf,hs',g,u⟩;have hs':s'={ s with heap:=((s.heap.update a (Obj.mapSeq fun _=>(#[]:Array Value))).push (seqObj "tuple" vs.toArray 0)).push (seqObj "list" #[] 0) }:=hs';subst hs'
  have eout:((arrOf st').map fun x:Keyed=>x.2)=(bK' p vs).toArray:=by
   rw[har];apply Array.ext';unfold bK';simp only[Array.map_map,Array.toList_map,List.toList_toArray];refine aE' fun i _=>?_;show (kas_item (vs.toArray.zip vs.toArray) i).2=_;unfold kas_item;by_cases hi:i<vs.length
   ·simp[Array.getD,hi]
   ·simp[Array.getD,hi,Nat.le_of_not_lt hi]
  have esz:((arrOf st').map fun x:Keyed=>x.2).size=vs.length:=by
   rw[eout];unfold bK';simp only[aj',aa',aK'];exact g.size
  refine wpAny_bind (seqEpoch_at hoB rfl (wpAny_bind (listUpdate_at hoB rfl ?_ (aC' _) (by rw[esz];omega))));rw[hf];simp only[bne_self_eq_false,aW',if_false];exact wpAny_pure (h p _ _ g u ((get?_update_seq hoB _).trans (congrArg (fun z=>some (seqObj "list" z _)) eout)) (keep _))
theorem cY_{x:Value}{f:Nat->Nat->Bool}{Q:Value->Shared->Prop}(O:Ord f)
  (hcol:wpAny (model prog w) A.in1 (collect x) (fun vs s1=>vs.length<64/\(2<=vs.length->∀h':Heap,(∀b o,s1.heap.get? b=some o->h'.get? b=some o)->Asks prog w A.in1.in1 f vs { s1 with heap:=h' }) /\
   ∀(p:Array Nat) (h':Heap) (e:Nat),Good vs.length p->Up f p vs.length->h'.get? s1.heap.objs.size=some (seqObj "list" (bK' p vs).toArray e)->(∀b o,s1.heap.get? b=some o->h'.get? b=some o)->Q (.ref s1.heap.objs.size) { s1 with heap:=h' }) E s) :
  wpAny (model prog w) A (call (.builtin "sorted") [x]) Q E s:=by
 refine Calls.call_function_entry kind_sorted plain_sorted entry_sorted (args_sorted1 _) ?_;unfold Builtin.«sorted»;refine wpAny_bind (m:=checkCount "sorted" 1 1 _) (wpAny_pure (wpAny_bind (wpAny_mono hcol (fun vs s1 q=>?_) fun _ _ z=>z)));obtain⟨h64,hask,hQ⟩:=q;refine wpAny_bind (wpAny_newList ?_ (by have:=sizeLine_eq;omega));have hn:(s1.heap.push (seqObj "list" vs.toArray 0)).get? s1.heap.objs.size=some (seqObj "list" vs.toArray 0):=Heap.get?_push_size _ rfl
 have old:∀h',ci' s1.heap.objs.size (s1.heap.push (seqObj "list" vs.toArray 0)) h'->∀b o,s1.heap.get? b=some o->h'.get? b=some o:=fun h' k b o e=>
  k b o (au' (Heap.lt_size e)) (Heap.get?_push_of_some _ e)
 refine wpAny_bind (wpAny_holding (wpAny_call_entry slot_list_sort ⟨_,hn,rfl⟩ entry_list_sort (hZ_ O hn h64 (fun h2 h' k=>hask h2 h' (old h' k)) fun p h' e g u q k=>⟨_,rfl,?_⟩) (args_list_sort _)));exact wpAny_pure ⟨_,rfl,hQ p h' e g u q (old h' k)⟩
end
end EvS
namespace L2
open PySem PySem.Spec PyProof.Rows PySem.W EvS
def kLt:Key->Key->Bool
 |.inl i,.inl j=>decide (i<j)
 |.inl _,.inr _=>true
 |.inr _,.inl _=>false
 |.inr x,.inr y=>decide (x.cps.toList<y.cps.toList)
def lexK:List Key->List Key->Bool
 |[],[]=>false
 |[],_::_=>true
 |_::_,[]=>false
 |a::r,b::q=>if a=b then lexK r q else kLt a b
theorem gK_:∀a:Key,kLt a a=false
 |.inl i=>by simp[kLt]
 |.inr x=>by simp[kLt,List.lt_irrefl]
theorem e6_:∀{a b:Key},kLt a b=true->kLt b a=false
 |.inl i,.inl j,h=>by
  simp only[kLt,decide_eq_true_eq,decide_eq_false_iff_not] at *;omega
 |.inl _,.inr _,_=>rfl
 |.inr _,.inl _,h=>by cases h
 |.inr x,.inr y,h=>by
  simp only[kLt,decide_eq_true_eq,decide_eq_false_iff_not] at *;exact fun q=>List.lt_irrefl _ (List.lt_trans h q)
theorem gO_:∀{a b:Key},kLt a b=false->kLt b a=false->a=b
 |.inl i,.inl j,h,h2=>by
  simp only[kLt,decide_eq_false_iff_not] at *;rw[show i=j by omega]
 |.inl _,.inr _,h,_=>by cases h
 |.inr _,.inl _,_,h=>by cases h
 |.inr x,.inr y,h,h2=>by
  simp only[kLt,decide_eq_false_iff_not] at *;rw[ext_toList (List.le_antisymm (List.not_lt.mp h2) (List.not_lt.mp h))]
theorem h3_:∀{a b c:Key},kLt a b=true->kLt b c=true->kLt a c=true
 |.inl i,.inl j,.inl k,h,h2=>by
  simp only[kLt,decide_eq_true_eq] at *;omega
 |.inl _,.inl _,.inr _,_,_=>rfl
 |.inl _,.inr _,.inr _,_,_=>rfl
 |.inl _,.inr _,.inl _,_,h=>by cases h
 |.inr _,.inl _,_,h,_=>by cases h
 |.inr _,.inr _,.inl _,_,h=>by cases h
 |.inr x,.inr y,.inr z,h,h2=>by
  simp only[kLt,decide_eq_true_eq] at *;exact List.lt_trans h h2
theorem bB_:∀a:List Key,lexK a a=false
 |[]=>rfl
 |a::r=>by
  unfold lexK;rw[if_pos rfl];exact bB_ r
theorem c2_:∀{a b:List Key},lexK a b=true->lexK b a=false
 |[],[],h=>by cases h
 |[],_::_,_=>rfl
 |_::_,[],h=>by cases h
 |a::r,b::q,h=>by
  unfold lexK at h ⊢;by_cases e:a=b
  ·rw[if_pos e] at h;rw[if_pos e.symm];exact c2_ h
  ·rw[if_neg e] at h;rw[if_neg (Ne.symm e)];exact e6_ h
theorem cr_:∀{a b:List Key},lexK a b=false->lexK b a=false->a=b
 |[],[],_,_=>rfl
 |[],_::_,h,_=>by cases h
 |_::_,[],_,h=>by cases h
 |a::r,b::q,h,h2=>by
  unfold lexK at h h2;by_cases e:a=b
  ·rw[if_pos e] at h;rw[if_pos e.symm] at h2;rw[e,cr_ h h2]
  ·rw[if_neg e] at h;rw[if_neg (Ne.symm e)] at h2;exact absurd (gO_ h h2) e
theorem cj_:∀{a b c:List Key},lexK a b=true->lexK b c=true->lexK a c=true
 |[],_,[],h,h2=>by
  rename_i b
  cases b with
  |nil=>cases h
  |cons _ _=>cases h2
 |[],_,_::_,_,_=>rfl
 |_::_,[],_,h,_=>by cases h
 |_::_,_::_,[],_,h=>by cases h
 |a::r,b::q,c::t,h,h2=>by
  unfold lexK at h h2 ⊢;by_cases e:a=b
  ·subst e;rw[if_pos rfl] at h;by_cases e2:a=c
   ·rw[if_pos e2] at h2 ⊢;exact cj_ h h2
   ·rw[if_neg e2] at h2 ⊢;exact h2
  ·rw[if_neg e] at h;by_cases e2:b=c
   ·subst e2;rw[if_neg e];exact h
   ·rw[if_neg e2] at h2;have h3:=h3_ h h2;rw[if_neg (fun q=>by rw[q,gK_] at h3;cases h3)];exact h3
theorem b9_{a b c:List Key}(h:lexK b a=false)(h2:lexK c b=false):lexK c a=false:=by
 cases e:lexK c a with
 |false=>rfl
 |true=>
  by_cases e1:lexK a b=true
  ·have:=cj_ e e1;rw[h2] at this;cases this
  ·have e1:lexK a b=false:=by simpa using e1
   have:=cr_ e1 h;subst this;rw[h2] at e;cases e
def Asc(ks:List (List Key)):Prop:=ks.Pairwise fun a b=>lexK b a=false
theorem cc_:∀{a b:List (List Key)},a.Perm b->Asc a->Asc b->a=b
 |[],b,p,_,_=>by
  have:=p.length_eq;cases b with
  |nil=>rfl
  |cons _ _=>cases this
 |x::r,[],p,_,_=>by
  have:=p.length_eq;cases this
 |x::r,y::q,p,h1,h2=>by
  obtain⟨a1,a2⟩:=aI'.mp h1;obtain⟨b1,b2⟩:=aI'.mp h2
  have e:x=y:=by
   rcases ai'.mp (p.mem_iff.mp af') with m|m
   ·exact m
   ·rcases ai'.mp (p.mem_iff.mpr af') with m2|m2
    ·exact m2.symm
    ·exact cr_ (b1 _ m) (a1 _ m2)
  subst e;rw[cc_ ((List.perm_cons _).mp p) a2 b2]
def sortKs(ks:List (List Key)):List (List Key):=ks.mergeSort fun a b=>!lexK b a
theorem ap_(ks:List (List Key)):(sortKs ks).Perm ks:=List.mergeSort_perm _ _
theorem bw_(ks:List (List Key)):Asc (sortKs ks):=by
 have:=List.pairwise_mergeSort (le:=fun a b=>!lexK b a) (fun a b c h1 h2=>by
  simp only[Bool.not_eq_true'] at *;exact b9_ h1 h2) (fun a b=>by
  simp only[Bool.or_eq_true,Bool.not_eq_true'];by_cases e:lexK b a=true
  ·exact .inr (c2_ e)
  ·exact .inl (by simpa using e)) ks
 exact this.imp fun h=>by simpa using h
theorem bZ_{ks ks':List (List Key)}(p:ks'.Perm ks)(h:Asc ks'):ks'=sortKs ks:=cc_ (p.trans (ap_ ks).symm) h (bw_ ks)
theorem b7_{α:Type}{p:Array Nat}{n:Nat}(g:Good n p)(F:Nat->α):(p.toList.map F).Perm ((List.range n).map F):=by
 have e:p.toList.Perm (List.range n):=by
  have:=Array.perm_iff_toList_perm.mp g;simpa using this
 exact e.map F
theorem es_{p:Array Nat}{ks:List (List Key)}{f:Nat->Nat->Bool}(hf:∀i j,i<ks.length->j<ks.length->f i j=lexK (ks.getD i []) (ks.getD j []))(g:Good ks.length p)(u:Up f p ks.length):Asc (p.toList.map fun i=>ks.getD i []):=by
 unfold Asc;rw[aG',List.pairwise_iff_getElem];intro i j hi hj hij;have hs:=g.size;rw[aK'] at hi hj;have hj':j<ks.length:=by omega
 have q:=u i j (Nat.le_of_lt hij) hj';have hN:0<ks.length:=by omega
 rw[hf _ _ (g.lt hN _) (g.lt hN _)] at q;have e1:at' p i=p.toList[i]:=by simp[at',Array.getD,hi]
 have e2:at' p j=p.toList[j]:=by simp[at',Array.getD,hj]
 rw[e1,e2] at q;exact q
theorem dj_(ks:List (List Key)):Ord fun i j=>lexK (ks.getD i []) (ks.getD j []):=⟨fun _=>bB_ _,fun h h2=>b9_ h h2,fun h=>c2_ h⟩
theorem aV_{α:Type}(d:α)(l:List α):((List.range l.length).map fun i=>l.getD i d)=l:=by
 apply List.ext_getElem?;intro i;simp only[ao'];by_cases h:i<l.length
 ·simp[h]
 ·simp[Nat.le_of_not_lt h]
theorem db_{ys:List V}{vs:List Value}(r:Vals ys vs){p:Array Nat}(g:Good vs.length p):Vals (p.toList.map fun i=>ys.getD i .non) (bK' p vs):=by
 unfold bK'
 have key:∀l:List Nat,(∀i∈l,i<vs.length)->Vals (l.map fun i=>ys.getD i .non) (l.map fun i=>vs.getD i Value.none):=fun l=>by
  induction l with
  |nil=>exact fun _=>.nil
  |cons i l ih=>
   intro h;refine .cons ?_ (ih fun j hj=>h j (ad' _ hj));have hi:=h i af';have hy:i<ys.length:=by rw[r.length];exact hi
   obtain⟨u,hu,ru⟩:=r.get (ah' hy);have e1:ys.getD i .non=ys[i]:=by simp[hy]
   have e2:vs.getD i Value.none=u:=by simp[hu]
   show RelV (ys.getD i .non) (vs.getD i Value.none);rw[e1,e2];exact ru
 refine key p.toList fun i hi=>?_;have m:i∈(List.range vs.length).toArray:=g.mem_iff.mp (by simpa using hi);simpa using m
theorem gC_:∀{ss:List Str} {vs:List Value},Vals (ss.map V.str) vs->StrsAre vs ss
 |[],_,.nil=>.nil
 |x::r,_,.cons h t=>by
  obtain⟨tk,rfl⟩:=h;exact .cons x tk (gC_ t)
def sortS(ss:List Str):List Str:=(sortKs (ss.map fun x=>[Sum.inr x])).map fun k=>match k with
 |[.inr x]=>x
 |_=>⟨#[]⟩
def keyS(x:Str):List Key:=[Sum.inr x]
theorem fO_{prog:Program}{w:World}{A:Around}{s:Shared}{ss:List Str}{vs:List Value}(r:StrsAre vs ss)(h2:2<=vs.length):Asks prog w A (fun i j=>lexK ((ss.map keyS).getD i []) ((ss.map keyS).getD j [])) vs s:=by
 refine⟨oneType',fun Q q=>?_,fun i j C hi hj hC=>?_⟩
 ·match vs,h2 with
  |v₁::v₂::t,_=>
   rw[keyKind_strs r];exact wpAny_pure q
 ·unfold kas_ask;rw[keyLt'_oneType]
  have look:∀k,k<vs.length->∃x t,vs.getD k Value.none=.str x t/\(ss.map keyS).getD k []=[Sum.inr x]:=fun k hk=>by
   have e:=r.strs;obtain⟨x,t,q⟩:=r.all vs[k] (List.getElem_mem hk);refine⟨x,t,by simp[hk,q],?_⟩
   have hk':k<ss.length:=by
    rw[<- e,aa'];exact hk
   have e2:ss[k]=x:=by
    have e3:(vs.map strOf)[k]? = ss[k]?:=by rw[e]
    rw[ao',ah' hk,ah' hk',q] at e3;exact (Option.some.inj e3).symm
   simp[hk',e2,keyS]
  obtain⟨x,t,e1,e2⟩:=look i hi;obtain⟨y,u,e3,e4⟩:=look j hj;rw[e1,e3];dsimp only at hC;rw[e2,e4] at hC;refine oneLt_str ?_;unfold lexK at hC;by_cases e:x=y
  ·subst e;rw[if_pos rfl] at hC;have:decide (x.cps.toList<x.cps.toList)=false:=by simp[List.lt_irrefl]
   rw[this];exact hC
  ·rw[if_neg (fun q=>e (Sum.inr.inj q))] at hC;exact hC
def isS:Key->Bool
 |.inl _=>false
 |.inr _=>true
theorem gE_{prog:Program}{w:World}{A:Around}{E:Value->Shared->Prop}{s:Shared}{c:Bool}{a b:Key}{p q:Value}{Q:Bool->Shared->Prop}(ra:RelV (kV a) p)(rb:RelV (kV b) q)(hk:isS a=isS b)(h:Q (kLt a b) s) :
  wpAny (model prog w) A (oneLt' c p q) Q E s:=by
 cases a with
 |inl i=>
  cases b with
  |inr y=>cases hk
  |inl j=>
   obtain⟨t,rfl⟩:=ra;obtain⟨u,rfl⟩:=rb;cases c with
   |true=>exact oneLt_int h
   |false=>exact kat_one _ _ (lt_int (show PySem.W.BoolBack Q (.bool _) s from h))
 |inr x=>
  cases b with
  |inl j=>cases hk
  |inr y=>
   obtain⟨t,rfl⟩:=ra;obtain⟨u,rfl⟩:=rb;cases c with
   |true=>exact oneLt_str h
   |false=>exact kat_one _ _ (PyProof.Rows.lt_str (show PySem.W.BoolBack Q (.bool _) s from h))
theorem jC_{a b:Key}(hk:isS a=isS b):eqV (kV a) (kV b)=decide (a=b):=by
 cases a with
 |inl i=>
  cases b with
  |inr y=>cases hk
  |inl j=>
   show (i == j)=_;by_cases e:i=j
   ·subst e;simp
   ·rw[decide_eq_false (fun q=>e (Sum.inl.inj q))];simpa using e
 |inr x=>
  cases b with
  |inl j=>cases hk
  |inr y=>
   show (x == y)=_;by_cases e:x=y
   ·subst e;simp
   ·rw[decide_eq_false (fun q=>e (Sum.inr.inj q))];simpa using e
theorem f0_(a:Key):cm' (kV a)=true:=by cases a<;>rfl
theorem cR_{prog:Program}{w:World}{A:Around}{s:Shared}{Q:Bool->Shared->Prop}:∀{k1 k2:List Key} {us vs:List Value} (i:Nat),Vals (k1.map kV) us->Vals (k2.map kV) vs->k1.map isS=k2.map isS->Q (lexK k1 k2) s->KatLex prog w A true false Q (us.zip vs) i s
 |[],[],_,_,i,.nil,.nil,_,h=>h
 |[],_::_,_,_,_,_,_,h,_=>by cases h
 |_::_,[],_,_,_,_,_,h,_=>by cases h
 |a::k1,b::k2,u::us,v::vs,i,.cons ra r1,.cons rb r2,hk,h=>by
  obtain⟨e1,e2⟩:=List.cons.inj hk;refine kat_cons ?_;refine h0_ ra rb (f0_ a) (f0_ b) prog w _ _ ?_;rw[jC_ e1];unfold lexK at h;by_cases e:a=b
  ·rw[if_pos e] at h;rw[decide_eq_true e];exact kat_yes (cR_ (i+1) r1 r2 e2 h)
  ·rw[if_neg e] at h;rw[decide_eq_false e];exact kat_no (gE_ ra rb e1 h)
def ba'(K:F__)(H:Hp):List V->List (List Key)->Prop:=Paired fun y k=>∃a,y=V.ref a/\H a=some (.tup (k.map kV))
def di'(ks:List (List Key))(sh:List Bool):Prop:=sh≠[]/\∀k∈ks,k.map isS=sh
theorem dz_{X:Cx}{pins:List (Addr × Obj)}{σ:St}{H:Hp}{s s':Shared}{A:Around}{ys:List V}{ks:List (List Key)}{sh:List Bool}{vs:List Value}(I:Inv X pins σ H s)(r:Vals ys vs)(t:ba' X.K H ys ks)(al:di' ks sh)(h2:2<=vs.length)
  (kp:∀b o,s.heap.get? b=some o->s'.heap.get? b=some o):Asks X.prog X.w A (fun i j=>lexK (ks.getD i []) (ks.getD j [])) vs s':=by
 have look:∀k,k<vs.length->∃a its,vs.getD k Value.none=.ref a/\Vals ((ks.getD k []).map kV) its/\IsTup s'.heap a its.toArray/\ks.getD k []∈ks:=fun k hk=>by
  have hy:k<ys.length:=by rw[r.length];exact hk
  have hk2:k<ks.length:=by rw[<- Paired.length t];exact hy
  obtain⟨u,hu,ru⟩:=r.get (ah' hy)
  have gen:∀{ys:List V} {ks:List (List Key)} (k:Nat) (hy:k<ys.length) (hk2:k<ks.length),ba' X.K H ys ks->∃a,ys[k]=V.ref a/\H a=some (.tup (ks[k].map kV)):=fun {ys ks} k hy hk2 t=>by
   induction t generalizing k with
   |nil=>exact absurd hy (by simp)
   |cons h t ih=>
    cases k with
    |zero=>exact h
    |succ k=>exact ih k (by simpa using hy) (by simpa using hk2)
  obtain⟨a,e,sq⟩:=gen k hy hk2 t;obtain⟨its,ri,ti,_⟩:=I.tuple (SqT.of sq);rw[e] at ru;cases ru;have e2:ks.getD k []=ks[k]:=by simp[hk2]
  refine⟨a,its,by simp[hu],by rw[e2];exact ri,ti.keeps kp,?_⟩;rw[e2];exact List.getElem_mem hk2
 obtain⟨hne,hal⟩:=al
 obtain⟨c,sh',rfl⟩:∃c sh',sh=c::sh':=by
  cases sh with
  |nil=>exact absurd rfl hne
  |cons c sh'=>exact⟨c,sh',rfl⟩
 refine⟨tuples' true,fun Q q=>?_,fun i j C hi hj hC=>?_⟩
 ·have firsts:∀l:List Value,(∀v∈l,∃(a:Addr) (its:List Value) (k:List Key),v=.ref a/\Vals (k.map kV) its/\IsTup s'.heap a its.toArray/\k.map isS=c::sh')->∃fs,KatTups s'.heap l fs/\fs.length=l.length/\∀v∈fs,Looks (model X.prog X.w) s'.heap (typeOf v) (.type (if c then "str" else "int")):=fun l=>by
   induction l with
   |nil=>exact fun _=>⟨[],.nil,rfl,fun _ h=>nomatch h⟩
   |cons v l ih=>
    intro h;obtain⟨fs,h1,h2,h3⟩:=ih fun v hv=>h v (ad' _ hv);obtain⟨a,its,k,rfl,rv,⟨o,ho,hc,n,hd⟩,hk⟩:=h v af'
    match k,its,rv,hk with
    |k0::k,u::its,.cons r0 _,hk=>
     refine⟨u::fs,.cons ho hc hd (by simp) h1,by simp[h2],fun v hv=>?_⟩;rcases ai'.mp hv with e|hv
     ·subst e;have e0:=(List.cons.inj hk).1;cases k0 with
      |inl i=>
       obtain⟨t,rfl⟩:=r0;rw[<- e0];exact .now
      |inr x=>
       obtain⟨t,rfl⟩:=r0;rw[<- e0];exact .now
     ·exact h3 v hv
  obtain⟨fs,h1,h3,h4⟩:=firsts vs fun v hv=>by
   obtain⟨k,hk,rfl⟩:=aL' hv;obtain⟨a,its,e,rv,ti,m⟩:=look k hk;refine⟨a,its,_,?_,rv,ti,hal _ m⟩;rw[<- e];simp[hk]
  refine kat_kind h1 (by omega) h4 (by cases c<;>decide) ?_
  have e:((Value.type (if c then "str" else "int")) != Value.type "tuple")=true:=by cases c<;>decide
  rw[e];exact q
 ·unfold kas_ask;obtain⟨a,its,e1,r1,⟨o,ho,_,n,hd⟩,m1⟩:=look i hi;obtain⟨b,its2,e2,r2,⟨o2,ho2,_,n2,hd2⟩,m2⟩:=look j hj;rw[e1,e2];refine kat_lt ho hd ho2 hd2 ?_;have l1:=r1.length;have l2:=r2.length;have l3:=congrArg List.length ((hal _ m1).trans (hal _ m2).symm);simp only[aa'] at l1 l2 l3;rw[show decide (its.toArray.size<its2.toArray.size)=false by simp;omega];exact cR_ 0 r1 r2 ((hal _ m1).trans (hal _ m2).symm) hC
end L2
namespace EvD
open PySem PySem.W PyProof.Rows
section
variable{prog:Program}{w:World}{A:Around}{E:Value->Shared->Prop}{s:Shared}
def Raw(h:Heap)(d:Addr)(es:Array DictEntry)(ep:Nat):Prop:=∃o,h.get? d=some o/\o.ExactDict/\o.data=.dict es ep
theorem Raw.stay{h h':Heap}{d:Addr}{es:Array DictEntry}{ep:Nat}(x:Raw h d es ep)(k:∀o,h.get? d=some o->h'.get? d=some o):Raw h' d es ep:=let ⟨o,e,r⟩:=x;⟨o,k o e,r⟩
theorem Raw.ty{d:Addr}{es:Array DictEntry}{ep:Nat}(x:Raw s.heap d es ep):s.TypeIs (.ref d) "dict":=let ⟨o,e,c,_⟩:=x;⟨o,e,c.1⟩
theorem ic_{d:Addr}{es:Array DictEntry}{ep:Nat}{Q:Value->Shared->Prop}(hd:(d == sysModules)=false)(x:Raw s.heap d es ep)
  (q:Q (.ref s.heap.objs.size) { s with heap:=s.heap.push { cls:=.type "dict_keyiterator",data:=.fields #[.ref d,.int 0 0,.int es.size 0,.int ep 0] } }) :
  wpAny (model prog w) A (pyIter (.ref d)) Q E s:=by
 obtain⟨o,ho,hc,hdat⟩:=id x;refine wpAny_pyIter_slot x.ty F.slot_dict_iter (wpAny_call_entry F.slot_dict_iter x.ty F.entry_dict_iter ?_ (F.args_dict_iter_1 _));unfold Builtin.«dict.__iter__» Builtin.Dict.dictSlotNone;refine wpAny_bind (wpAny_bind (wpAny_notOrdered_dict x.ty (show wpAny _ _ (pure (Value.ref d)) _ _ s from wpAny_pure (show wpAny _ _ (Builtin.Dict.showsAll d >>= _) _ _ s from ?_))));unfold Builtin.Dict.showsAll;rw[if_neg (by rw[hd];decide)];refine wpAny_bind (wpAny_pure (wpAny_bind (wpAny_dictEntries ho hdat (wpAny_bind (wpAny_dictEpoch ho hdat (wpAny_bind (wpAny_newObj_type (wpAny_pure ⟨_,rfl,"dict_keyiterator",_,⟨_,Heap.get?_push_size _ rfl,rfl⟩,F.slot_dict_keyiterator_next.lookup,?_⟩))))))));exact q
theorem hx_{it d:Addr}{i ep:Nat}{es:Array DictEntry}{Q:Option Value->Shared->Prop}(hit:s.heap.IsKeyIter it d i es.size ep)(x:Raw s.heap d es ep)(hi:i<es.size)
  (q:∀h',h'.IsKeyIter it d (i+1) es.size ep->Heap.SameBut it s.heap h'->Q (some es[i].key) { s with heap:=h' }):wpAny (model prog w) A (pyNext (.ref it)) Q E s:=by
 obtain⟨o,ho,hc,hd⟩:=id hit;obtain⟨od,hod,hcd,hdd⟩:=id x;unfold pyNext;refine wpAny_bind (wpAny_attempt (wpAny_callSpecial?_slot (name:=Str.ofString "__next__") hit.typeIs F.slot_dict_keyiterator_next (wpAny_call_entry F.slot_dict_keyiterator_next hit.typeIs F.entry_dict_keyiterator_next ?_ (F.args_dict_keyiterator_next_1 _))));refine wpAny_bind (wpAny_pure (wpAny_bind (wpAny_bind ?_)))
 first|refine wpAny_bind (wpAny_typeNameOfWhole_keyiter hit.typeIs (wpAny_pure (wpAny_bind (wpAny_fieldsOf ho hd ?_))))|refine wpAny_bind (wpAny_typeNameOf_keyiter hit.typeIs (wpAny_pure (wpAny_bind (wpAny_fieldsOf ho hd ?_))))
 simp only[show Builtin.Dict_items.ownsTuple "dict_keyiterator"=false by decide,aW',if_false];refine (show wpAny _ _ (if (Value.ref d == Value.none)=true then _ else _) _ _ s from ?_);rw[if_neg (fun z=>by cases z)];refine wpAny_bind (wpAny_pure (wpAny_bind (wpAny_dictEntries hod hdd ?_)));rw[if_neg (by simp)];refine wpAny_bind (wpAny_pure (wpAny_bind (wpAny_dictEpoch hod hdd ?_)));rw[if_neg (by simp)];refine wpAny_pure ?_;simp only[show ¬((i:Int)<0) from by omega,if_false,Int.toNat_natCast,Array.getElem?_eq_getElem hi];refine wpAny_bind ?_
 first|refine wpAny_bind (wpAny_typeNameOfWhole_keyiter hit.typeIs (wpAny_pure (wpAny_bind (wpAny_isOneOf_keyiter hit.typeIs ?_))))|refine wpAny_bind (wpAny_typeNameOf_keyiter hit.typeIs (wpAny_pure (wpAny_bind (wpAny_isOneOf_keyiter hit.typeIs ?_))))
 refine (show wpAny _ _ (setField (.ref it) 1 (rawInt ((i:Int)+1)) >>= _) _ _ s from wpAny_bind (wpAny_setField ho hd (by simp) ?_))
 have turned:(s.heap.update it (Obj.mapFields (·.setIfInBounds 1 (rawInt ((i:Int)+1))))).IsKeyIter it d (i+1) es.size ep:=
  ⟨_,Heap.get?_update_self _ ho (Obj.isFreed_of_fields (Obj.data_mapFields hd _)),(Obj.cls_mapFields ..).trans hc,by rw[Obj.data_mapFields hd];simp[rawInt]⟩
 refine wpAny_bind (wpAny_holding (wpAny_bind (wpAny_isOneOf_keyiter (s:={ s with heap:=s.heap.update it (Obj.mapFields (·.setIfInBounds 1 (rawInt ((i:Int)+1)))) }) turned.typeIs ?_)));exact (show wpAny _ _ (pure es[i].key) _ _ _ from wpAny_pure (wpAny_pure ⟨_,rfl,wpAny_pure (q _ turned (Heap.SameBut.update ..))⟩))
theorem id_{it d:Addr}{ep:Nat}{es:Array DictEntry}{Q:Option Value->Shared->Prop}(hh:A.handled=none)(hit:s.heap.IsKeyIter it d es.size es.size ep)(x:Raw s.heap d es ep)
  (q:∀h',Heap.ExtBut it s.heap h'->Q none { s with heap:=h' }):wpAny (model prog w) A (pyNext (.ref it)) Q E s:=by
 obtain⟨o,ho,hc,hd⟩:=id hit;obtain⟨od,hod,hcd,hdd⟩:=id x;unfold pyNext;refine wpAny_bind (wpAny_attempt (wpAny_callSpecial?_slot (name:=Str.ofString "__next__") hit.typeIs F.slot_dict_keyiterator_next (wpAny_call_entry F.slot_dict_keyiterator_next hit.typeIs F.entry_dict_keyiterator_next ?_ (F.args_dict_keyiterator_next_1 _))));refine wpAny_bind (wpAny_pure (wpAny_bind (wpAny_bind ?_)))
 first|refine wpAny_bind (wpAny_typeNameOfWhole_keyiter hit.typeIs (wpAny_pure (wpAny_bind (wpAny_fieldsOf ho hd ?_))))|refine wpAny_bind (wpAny_typeNameOf_keyiter hit.typeIs (wpAny_pure (wpAny_bind (wpAny_fieldsOf ho hd ?_))))
 simp only[show Builtin.Dict_items.ownsTuple "dict_keyiterator"=false by decide,aW',if_false];refine (show wpAny _ _ (if (Value.ref d == Value.none)=true then _ else _) _ _ s from ?_);rw[if_neg (fun z=>by cases z)];refine wpAny_bind (wpAny_pure (wpAny_bind (wpAny_dictEntries hod hdd ?_)));rw[if_neg (by simp)];refine wpAny_bind (wpAny_pure (wpAny_bind (wpAny_dictEpoch hod hdd ?_)));rw[if_neg (by simp)];refine wpAny_pure ?_;simp only[show ¬((es.size:Int)<0) from by omega,if_false,Int.toNat_natCast,Array.getElem?_eq_none (ag' _)];refine wpAny_bind ?_
 first|refine wpAny_bind (wpAny_typeNameOfWhole_keyiter hit.typeIs (wpAny_pure ?g))|refine wpAny_bind (wpAny_typeNameOf_keyiter hit.typeIs (wpAny_pure ?g))
 refine (show wpAny _ _ (setField (.ref it) 0 .none >>= _) _ _ s from wpAny_bind (wpAny_setField ho hd (by simp) (show wpAny _ _ (newExc (.type "StopIteration") [] >>= _) _ _ _ from wpAny_bind ?_)));simp only[newExc,newTuple];refine wpAny_bind (wpAny_newObj_type (wpAny_bind (m:=firstArgMember _ _) (wpAny_of_eq (a:=Value.none) (by first|rfl|(simp only[firstArgMember];rfl)) (wpAny_newObj_type ?_ (by size_fits)))) (by size_fits));simp only[raiseNew];refine wpAny_bind (wpAny_handled ?_);rw[show A.in1.handled=none from hh];refine wpAny_bind (wpAny_pure (wpAny_throw ?_));exact wpAny_bind (wpAny_isInstance (T:="StopIteration") (b:=true) ⟨_,Heap.get?_push_size _ rfl,rfl⟩ isSubtype_stop (wpAny_pure (q _ (((Heap.SameBut.update ..).extBut.push _).push _))))
theorem gG_(hh:A.handled=none)(I d:Addr)(hne:d≠I)(es:Array DictEntry)(ep:Nat) :
  Walks prog w A I [I,d] [I] es.size (fun i v=>∃h:i<es.size,v=es[i].key) (fun i h=>h.IsKeyIter I d i es.size ep/\Raw h d es ep) where
 sub:=fun b hb=>by simp only[ay'] at hb;simp[hb]
 frame:=fun _ _ _ st k=>⟨st.1.at fun o e=>k I (by simp) o e,st.2.stay fun o e=>k d (by simp) o e⟩
 item:=fun i s Q E hi st hQ=>hx_ st.1 st.2 hi fun h' hit' hs'=>hQ _ h' s.toks ⟨hi,rfl⟩ ⟨hit',st.2.stay fun o e=>hs'.extBut d o hne e⟩ fun b o hb e=>hs'.extBut b o (fun h=>hb (by simp[h])) e
 done:=fun s Q E st hQ=>id_ hh st.1 st.2 fun h' he'=>hQ h' s.toks fun b o hb e=>he' b o (fun h=>hb (by simp[h])) e
 self:=fun _ _ _ _ st hQ=>wpAny_pyIter_keyiter st.1 hQ
theorem j9_{d:Addr}{es:Array DictEntry}{ep:Nat}(lo:(d == sysModules)=false):KdlSrc prog w "dict" d d es.size (fun i v=>∃h:i<es.size,v=es[i].key) (fun h=>Raw h d es ep) where
 type:=fun s x=>x.ty
 there:=fun h x=>let ⟨o,e,_⟩:=x;⟨Heap.lt_size e,Heap.lt_size e⟩
 keep:=fun h h' x k=>x.stay fun o e=>k d (.inl rfl) o e
 notList:=by decide
 notTuple:=by decide
 hint:=fun _ _ s _ x q=>kdl_hint_dict x.ty q
 iter:=fun A s hh x=>⟨_,_,fun E Q q=>ic_ lo x q,gG_ hh _ d (let ⟨o,e,_⟩:=x;au' (Heap.lt_size e)) es ep,⟨⟨_,Heap.get?_push_size _ rfl,rfl,rfl⟩,x.stay fun o e=>Heap.get?_push_of_some _ e⟩⟩
end
end EvD
namespace EvD
open PySem PySem.W PyProof.Rows
theorem cW_:typeLookup (.type "list") "keys"=pure none:=by rw[typeLookup_type,builtinLookup_eq_fast];kernel_rfl
theorem h1_{prog:Program}{w:World}{A:Around}{s:Shared}{a:Addr}{xs:Array Value}{k:Nat}{tk:Tok}{R:Result->Shared->Prop}(hx:s.heap.get? a=some (seqObj "list" xs k))(h:raisesAttr (.ref a) "keys" A R s) :
  codeAny (model prog w) A (.call (.builtin "list.__getattribute__") ⟨[.ref a,.str "keys" tk],[]⟩) R s:=by
 refine codeAny_call_builtin F.slot_list_getattribute.plain am_entry_list_getattribute (F.slot_list_getattribute.check _ _ _ _ _ _ _ _ ⟨_,hx,rfl⟩ (F.args_list_getattribute_2 _ _) ?_);exact meets_getattribute_miss_list a xs k #[] "keys" tk cW_ (by decide) (by size_fits) prog w A R s ⟨hx,h⟩
theorem noKeys{prog:Program}{w:World}{A:Around}{E:Value->Shared->Prop}{s:Shared}{a:Addr}{xs:Array Value}{k:Nat}{Q:Option Value->Shared->Prop}(hx:s.heap.get? a=some (seqObj "list" xs k))(hA:A.handled=none)
  (h:∀h' tk,(∀b o,s.heap.get? b=some o->h'.get? b=some o)->Q none { s with heap:=h',toks:=tk }):wpAny (model prog w) A (getAttr? (.ref a) "keys") Q E s:=by
 obtain⟨hp,g,d,tk,os⟩:=s;have ty:∀tk',(⟨hp,g,d,tk',os⟩:Shared).TypeIs (.ref a) "list":=fun _=>⟨_,hx,rfl⟩;have f1:=sub_AttributeError;have f2:=F.slot_list_getattribute.lookup;have f3:=F.slot_list_getattribute.bind (.ref a);have f4:=am_list_getattr_none;unfold getAttr? getAttrBy? getAttrBy
 repeat (any_goals (first|assumption|exact ty _|wp_step))
 refine h1_ hx ⟨hA,fun h' tk' e hx'=>?_⟩;obtain⟨t',u',he⟩:=hx'.there;show wpAny _ _ (getattributeRaised _ _ _ _ _ _ _) _ _ _;unfold getattributeRaised
 repeat (any_goals (first|assumption|wp_step))
 exact h _ _ hx'.keeps
end EvD
namespace EvD
open PySem PySem.W PyProof.Rows
theorem dG_:entryFor table "dict.update.loop"=some Builtin.«dict.update.loop»:=entryFor_of_tree (by kernel_rfl)
theorem bR_:plainId "dict.update.loop"=true:=by decide +kernel
theorem iv_(d it:Addr)(i:Int)(tk:Tok):Builtin.«dict.update.loop» ⟨[.ref d,.ref it,.int i tk,.none],[]⟩=(do
  let r <- pyNext (.ref it)
  match r with
  |none=>do Builtin.Dict.addKeywords d [];ret .none
  |some item=>do
   holding [item] (do
    let pair <- (Builtin.Dict.pairItems item).tryCatch fun e=>do
     if !(<- isInstance e (.type "TypeError")) then throw e
     rule "dict.update.element-no-sequence"
     raiseError "TypeError" s!"cannot convert dictionary update sequence element #{i} to a sequence"
    match pair with
    |[k,v]=>holding [k,v] (dictSet d k v)
    |l=>do
     rule "dict.update.element-length"
     raiseError "ValueError" s!"dictionary update sequence element #{i} has length {l.length}; 2 is required")
   again (.builtin "dict.update.loop" ⟨[.ref d,.ref it,rawInt (i+1),.none],[]⟩)):=by
 unfold Builtin.«dict.update.loop»;refine congrArg (fun f=>pyNext (.ref it) >>= f) (funext fun r=>?_);cases r<;>rfl
section
variable{prog:Program}{w:World}{K:Type}[DecidableEq K]{knd:PySem.KeyKind prog w K}{A:Around}
def cS'(knd:PySem.KeyKind prog w K)(h:Heap):List Value->List (K × Value)->Prop:=Paired fun v p=>∃a key,v=.ref a/\IsTup h a #[key,p.2]/\knd.is p.1 key=true
def mergeP(kvs:List (K × Value))(ps:List (K × Value)):List (K × Value):=ps.foldl (fun acc p=>stored acc p.1 p.2) kvs
theorem fB_(kvs:List (K × Value))(k:K)(v:Value):(stored kvs k v).length<=kvs.length+1:=by
 unfold stored;split
 ·simp
 ·simp
theorem cB_{h:Heap}{b it l:Addr}{i:Nat}{ys:Array Value}(t:IsTup h b ys)(q:h.IsListIter it l i):b≠it:=fun z=>by
 obtain⟨o,ho,hc,_⟩:=t;obtain⟨o2,ho2,hc2,_⟩:=q;subst z;rw[ho] at ho2;cases ho2;rw[hc] at hc2;exact absurd hc2 (by decide)
theorem en_{h:Heap}{b d:Addr}{ys:Array Value}{kvs:List (K × Value)}(t:IsTup h b ys)(q:h.DictOf knd d kvs):b≠d:=fun z=>by
 obtain⟨o,ho,hc,_⟩:=t;obtain⟨o2,es,ep,ho2,hc2,_⟩:=q;subst z;rw[ho] at ho2;cases ho2;have hc3:=hc2.1;rw[hc] at hc3;exact absurd hc3 (by decide)
theorem dX_{h h':Heap}{d:Addr}{kvs:List (K × Value)}(q:h.DictOf knd d kvs)(k:∀o,h.get? d=some o->h'.get? d=some o):h'.DictOf knd d kvs:=by
 obtain⟨o,es,ep,ho,r⟩:=q;exact⟨o,es,ep,k _ ho,r⟩
theorem hB_{it l d a:Addr}{i:Nat}{its:List Value}{key x:Value}{k:K}{kvs:List (K × Value)}{s:Shared}{R:Result->Shared->Prop}{tk:Tok}(hdi:d≠it)(hi:its.toArray[i]? = some (.ref a))(ht:IsTup s.heap a #[key,x])(hk:knd.is k key=true)
  (hit:s.heap.IsListIter it l i) (hl:s.heap.IsList l its.toArray) (hd:s.heap.DictOf knd d kvs) (hz:kvs.length<=1000)
  (hR:∀h2,h2.DictOf knd d (stored kvs k x)->(∀b o,b≠d->b≠it->s.heap.get? b=some o->h2.get? b=some o)->h2.IsListIter it l (i+1)->codeAny (model prog w) A (.builtin "dict.update.loop" ⟨[.ref d,.ref it,rawInt ((i:Int)+1),.none],[]⟩) R { s with heap:=h2,toks:=s.toks+1 }) :
  codeAny (model prog w) A (.builtin "dict.update.loop" ⟨[.ref d,.ref it,.int i tk,.none],[]⟩) R s:=by
 refine codeAny_builtin dG_ ?_;rw[Around.under_plainId bR_ _,iv_];refine wpAny_bind (wpAny_pyNext_list_item hit hl hi fun h1 hit1 hs1=>?_);obtain⟨ot,hot,hct,nt,hdt⟩:=id ht;have hot1:h1.get? a=some ot:=hs1.extBut _ _ (cB_ ht hit) hot;refine wpAny_bind (wpAny_holding (wpAny_bind (wpAny_tryCatch ?_)));unfold Builtin.Dict.pairItems;refine wpAny_bind (wpAny_typeOf (T:="tuple") ⟨ot,hot1,hct⟩ ?_);rw[if_pos (by decide)];unfold seqItems?;refine wpAny_bind (wpAny_bind (wpAny_load hot1 ?_));rw[hdt];refine wpAny_pure (wpAny_pure ?_);refine (show wpAny _ _ (holding [key,x] (dictSet d key x)) _ _ _ from wpAny_holding (wpAny_dictSet_pairs hk (dX_ hd fun o q=>hs1.extBut _ _ hdi q) (fun h2 hd2 hs2=>?_) (by have:=sizeLine_eq;omega)));exact wpAny_pure ⟨plainId_quiet bR_ _,hR h2 hd2 (fun b o h3 h4 q=>hs2.extBut _ _ h3 (hs1.extBut _ _ h4 q)) (hit1.extBut hs2.extBut (Ne.symm hdi))⟩
theorem jK_{it l d:Addr}{i:Nat}{its:List Value}{kvs:List (K × Value)}{s:Shared}{R:Result->Shared->Prop}{tk:Tok}(hdi:d≠it)(hh:A.handled=none)(hi:its.toArray[i]? = none)
  (hit:s.heap.IsListIter it l i) (hl:s.heap.IsList l its.toArray) (hd:s.heap.DictOf knd d kvs)
  (hR:∀h',h'.DictOf knd d kvs->(∀b o,b≠it->s.heap.get? b=some o->h'.get? b=some o)->R (.ok (.ret .none)) { s with heap:=h' }) :
  codeAny (model prog w) A (.builtin "dict.update.loop" ⟨[.ref d,.ref it,.int i tk,.none],[]⟩) R s:=by
 refine codeAny_builtin dG_ ?_;rw[Around.under_plainId bR_ _,iv_];refine wpAny_bind (wpAny_pyNext_list_end hh hit hl hi fun h' he=>?_);exact wpAny_bind (m:=Builtin.Dict.addKeywords d []) (wpAny_pure (wpAny_pure (hR h' (dX_ hd fun o q=>he _ _ hdi q) fun b o hb q=>he b o hb q)))
theorem k4_{it l d:Addr}(hil:l≠it)(hdi:d≠it)(hdl:d≠l)(hh:A.handled=none){its:List Value}(rest:List Value):∀(ps:List (K × Value)) (i:Nat) (kvs:List (K × Value)) (s:Shared) (R:Result->Shared->Prop) (tk:Tok),its.drop i=rest->cS' knd s.heap rest ps->
  s.heap.IsListIter it l i->s.heap.IsList l its.toArray->s.heap.DictOf knd d kvs->kvs.length+ps.length<=1000->
  (∀h' tk',h'.DictOf knd d (mergeP kvs ps)->(∀b o,b≠d->b≠it->s.heap.get? b=some o->h'.get? b=some o)->R (.ok (.ret .none)) { s with heap:=h',toks:=tk' })->
  codeAny (model prog w) A (.builtin "dict.update.loop" ⟨[.ref d,.ref it,.int i tk,.none],[]⟩) R s:=by
 induction rest with
 |nil=>
  intro ps i kvs s R tk e hp hit hl hd hz hR;cases hp
  have hi:its.toArray[i]? = none:=by
   have:=congrArg List.length e;simp only[List.length_drop,aV'] at this;simp;omega
  exact jK_ hdi hh hi hit hl hd fun h' hd' kp=>hR h' s.toks hd' fun b o _ hb q=>kp b o hb q
 |cons v rest ih=>
  intro ps i kvs s R tk e hp hit hl hd hz hR;cases hp with
  |@cons _ p _ ps h0 hr=>
  obtain⟨a,key,hv,ht,hk⟩:=h0;obtain⟨k,x⟩:=p;subst hv
  have hi:its.toArray[i]? = some (.ref a):=by
   have q:(its.drop i)[0]? = some (.ref a):=by rw[e];rfl
   rw[List.getElem?_drop] at q;simpa using q
  have e':its.drop (i+1)=rest:=by
   rw[<- List.drop_drop,e];rfl
  simp only[az'] at hz;refine hB_ hdi hi ht hk hit hl hd (by omega) fun h2 hd2 kp hit2=>?_;have c1:((i:Int)+1)=((i+1:Nat):Int):=by omega
  rw[c1];refine ih ps (i+1) (stored kvs k x) _ R 0 e' (L2.Paired.mapP hr fun v p ⟨b,ky,e1,t1,k1⟩=>⟨b,ky,e1,?_,k1⟩) hit2 (hl.at fun o q=>kp _ _ (Ne.symm hdl) hil q) hd2 (by have:=fB_ kvs k x;omega) fun h' tk' hd' kp'=>hR h' tk' hd' fun b o h3 h4 q=>kp' b o h3 h4 (kp b o h3 h4 q);obtain⟨o,ho,r⟩:=id t1;exact⟨o,kp _ _ (en_ t1 hd) (cB_ t1 hit) ho,r⟩
theorem dV_{E:Value->Shared->Prop}{s:Shared}{l:Addr}{its:List Value}{n:Nat}{ps:List (K × Value)}{Q:Value->Shared->Prop}(hh:A.handled=none)(ho:s.heap.get? l=some (seqObj "list" its.toArray n))(hp:cS' knd s.heap its ps)(hz:ps.length<=1000)
  (h:∀h' tk',h'.DictOf knd s.heap.objs.size (mergeP [] ps)->(∀b o,s.heap.get? b=some o->h'.get? b=some o)->Q (.ref s.heap.objs.size) { s with heap:=h',toks:=tk' }) :
  wpAny (model prog w) A (call (.type "dict") [.ref l]) Q E s:=by
 refine callType_codes (Q₁:=fun obj s₁=>obj=.ref s.heap.objs.size/\s₁={ s with heap:=s.heap.push { cls:=.type "dict",data:=.dict #[] } }) F.kt_called_dict (F.kt_typeCall_dict_1 _) F.entry_dict_init (kt_code_dict_new _ ⟨rfl,rfl⟩) ?_;rintro obj s₁ ⟨rfl,rfl⟩;have hnew:(s.heap.push { cls:=.type "dict",data:=.dict #[] }).DictOf knd s.heap.objs.size []:=Heap.DictOf.new s.heap;have hl1:(s.heap.push { cls:=.type "dict",data:=.dict #[] }).get? l=some (seqObj "list" its.toArray n):=Heap.get?_push_of_some _ ho;refine⟨hnew.typeIs,F.args_dict_init_2 _ _,?_⟩;unfold Builtin.«dict.__init__» Builtin.Dict.selfAndRest;refine wpAny_bind (wpAny_bind (wpAny_notOrdered_dict hnew.typeIs ?_));refine (show wpAny _ _ (pure (s.heap.objs.size,[Value.ref l])) _ _ _ from wpAny_pure ?_);refine (show wpAny _ _ (Builtin.Dict.updateFrom "dict.__init__" s.heap.objs.size (.ref l) [] .none) _ _ _ from ?_);unfold Builtin.Dict.updateFrom;refine wpAny_bind (wpAny_typeOf (T:="list") ⟨_,hl1,rfl⟩ ?_);rw[if_pos (by decide)];refine wpAny_bind (noKeys hl1 hh fun h2 tk2 k2=>?_);simp only[Option.isNone_none,if_true];have hl2:h2.get? l=some (seqObj "list" its.toArray n):=k2 _ _ hl1;refine wpAny_bind (wpAny_rule (wpAny_bind (wpAny_pyIter_list ⟨_,hl2,rfl,_,rfl⟩ ?_)));refine wpAny_pure ⟨plainId_quiet bR_ _,?_⟩;have all:∀{b o},s.heap.get? b=some o->(h2.push { cls:=.type "list_iterator",data:=.fields #[.ref l,.int 0 0] }).get? b=some o:=fun q=>Heap.get?_push_of_some _ (k2 _ _ (Heap.get?_push_of_some _ q))
 have hd2:h2.DictOf knd s.heap.objs.size []:=by
  obtain⟨o,es,ep,ho,r⟩:=hnew;exact⟨o,es,ep,k2 _ _ ho,r⟩
 have sz2:s.heap.objs.size<h2.objs.size:=by
  obtain⟨o,es,ep,ho,r⟩:=hd2;exact Heap.lt_size ho
 have lz:l<s.heap.objs.size:=Heap.lt_size ho
 refine k4_ (A:=A.in1) (knd:=knd) (its:=its) (it:=h2.objs.size) (l:=l) (d:=s.heap.objs.size) (au' (Nat.lt_trans lz sz2)) (au' sz2) (a5' lz) hh its ps 0 [] _ _ 0 rfl (L2.Paired.mapP hp fun v p ⟨b,ky,e1,t1,k1⟩=>⟨b,ky,e1,t1.keeps fun b o q=>all q,k1⟩)
  ⟨_,Heap.get?_push_size _ rfl,rfl,rfl⟩ ⟨_,Heap.get?_push_of_some _ hl2,rfl,_,rfl⟩ (by
   obtain⟨o,es,ep,ho,r⟩:=hd2;exact⟨o,es,ep,Heap.get?_push_of_some _ ho,r⟩) (by simpa using hz) fun h' tk' hd' kp=>⟨rfl,h h' tk' hd' fun b o q=>?_⟩
 have bl:b<s.heap.objs.size:=Heap.lt_size q;exact kp b o (au' bl) (au' (Nat.lt_trans bl sz2)) (all q)
end
end EvD
namespace L2
open PySem PySem.Spec PyProof.Rows PySem.W EvS EvD
theorem ba'.same{K:F__}{H H':Hp}{ys:List V}{ks:List (List Key)}(t:ba' K H ys ks)(e:Same H H'):ba' K H' ys ks:=Paired.mapP t fun y k ⟨a,z,q⟩=>⟨a,z,e _ _ q⟩
theorem Same.new{H:Hp}{l:Addr}{o:HO}(h:H l=none):Same H (upd H l o):=fun b u e=>by rw[a4_ (a6_ e h)];exact e
section
variable{X:Cx}{pins:List (Addr × Obj)}{σ:St}{H H':Hp}{s:Shared}{h':Heap}{t':Nat}
theorem Inv.many(I:Inv X pins σ H s)(k:∀b o,s.heap.get? b=some o->h'.get? b=some o)(hold:Same H H')(hnew:∀b,H b=none->b<s.heap.objs.size->H' b=none)
  (hob:∀b o,H' b=some o->H b=none->∃xs its,o=.tup xs/\xs.length<=sizeLine/\Vals xs its/\IsTup h' b its.toArray/\∃o,h'.get? b=some o/\o.dict=none):Inv X pins σ H' { s with heap:=h',toks:=t' }:=by
 refine I.un ⟨fun b o q _ _ _=>k b o q,fun b o q _ _ _=>⟨o.slots,k b o q⟩,fun b o q n _=>hnew b n (Heap.lt_size q),fun b o q _=>⟨o,k b o q⟩,fun b xs q=>hold b _ q,fun b o u q=>hold b _ q,fun b ps q=>⟨#[],by rw[Array.append_empty];exact hold b _ q⟩⟩ fun b o q=>?_;cases e:H b with
 |some u=>
  have e2:=hold b u e;rw[q] at e2;cases e2;exact (I.hok b o e).stay (fun c v _ z=>k c v z) (fun c z=>hold c _ z) fun c xs z=>hold c _ z
 |none=>
  obtain⟨xs,its,rfl,z,r,t⟩:=hob b o q e;exact⟨z,its,r,t⟩
end
section
variable{X:Cx}{pins:List (Addr × Obj)}{σ:St}{H:Hp}{s:Shared}{A:Around}{E:Value->Shared->Prop}
theorem eI_{p:Addr}{ys:List V}{R:List Value->Shared->Prop}(I:Inv X pins σ H s)(h:SqL X.K H p ys)(hz:ys.length<=100000)(q:∀vs s1,Inv X pins σ H s1->Vals ys vs->R vs s1):wpAny (model X.prog X.w) A (collect (.ref p)) R E s:=by
 obtain⟨its,r,pl,_⟩:=I.list h;have hl:=r.length;refine collect_list pl.isList (q its _ ?_ r) (by have:=sizeLine_eq;omega);refine I.kept (t':=s.toks) fun b u e=>?_;have lt:b<s.heap.objs.size:=Heap.lt_size e;rw[Heap.get?_update_ne _ _ _ _ (au' lt)];exact Heap.get?_push_of_some _ e
theorem c1_{P:Nat->Value->Prop}{acc:Array Value}{ys:List V}(h:ItemsOf P acc ys.length)(hp:∀(j:Nat) v,P j v->∀y,ys[j]? = some y->RelV y v):Vals ys acc.toList:=by
 have gen:∀(ys:List V) (vs:List Value),ys.length=vs.length->(∀(j:Nat) y v,ys[j]? = some y->vs[j]? = some v->RelV y v)->Vals ys vs:=fun ys=>by
  induction ys with
  |nil=>
   intro vs hl _;cases vs with
   |nil=>exact .nil
   |cons _ _=>cases hl
  |cons y ys ih=>
   intro vs hl h;cases vs with
   |nil=>cases hl
   |cons v vs=>exact .cons (h 0 y v rfl rfl) (ih vs (by simpa using hl) fun j y v a b=>h (j+1) y v (by simpa using a) (by simpa using b))
 refine gen ys acc.toList (by rw[aK'];exact h.1.symm) fun j y v a b=>hp j v (h.2 j v ?_) y a;rw[<- Array.getElem?_toList];exact b
theorem iE_{d:Addr}{kvs:List (Key × V)}(I:Inv X pins σ H s)(h:Rd H d (.dK kvs)):∃(P:Nat->Value->Prop) (OK:Heap->Prop),KdlSrc X.prog X.w "dict" d d (kvs.map fun kv=>kV kv.1).length P OK/\OK s.heap/\∀(j:Nat) v,P j v->∀y,(kvs.map fun kv=>kV kv.1)[j]? = some y->RelV y v:=by
 obtain⟨z,hd,vs,rel,dd⟩:=cp_ I.hok h;obtain⟨ep,dat⟩:=dd.dictAt;have hl:=rel.length;refine⟨fun i v=>∃k x,vs[i]? = some (k,x)/\(bb' X.prog X.w).is k v=true,fun h=>h.DictAt (bb' X.prog X.w) d vs ep,(by rw[aa',hl];exact kdl_dict (knd:=bb' X.prog X.w) (kvs:=vs) (ep:=ep) hd),dat,fun j v ⟨k,x,e,hk⟩ y hy=>?_⟩;rw[ao'] at hy;have ek:kvs.map (·.1)=vs.map (·.1):=rel.keys;have e2:(kvs.map (·.1))[j]? = (vs.map (·.1))[j]?:=by rw[ek]
 rw[ao',ao',e] at e2;cases e3:kvs[j]? with
 |none=>rw[e3] at e2;cases e2
 |some kv=>
  rw[e3] at e2 hy;have e4:kv.1=k:=Option.some.inj e2;have e5:kV kv.1=y:=Option.some.inj hy;rw[<- e5,e4];have hk:cB' k v=true:=hk;rcases av_ hk with⟨i,t,rfl,rfl⟩|⟨x,t,rfl,rfl⟩
  ·exact⟨t,rfl⟩
  ·exact⟨t,rfl⟩
theorem ii_{d:Addr}{kvs:List (Key × V)}{R:List Value->Shared->Prop}(hh:A.handled=none)(I:Inv X pins σ H s)(h:Rd H d (.dK kvs))(q:∀vs s1,Inv X pins σ H s1->Vals (kvs.map fun kv=>kV kv.1) vs->R vs s1):wpAny (model X.prog X.w) A (collect (.ref d)) R E s:=by
 obtain⟨P,OK,S,ok,hp⟩:=iE_ I h;refine kdu_collect S hh ok ?_ fun h' tk acc k a=>q _ _ (I.kept k) (c1_ a hp);rw[aa'];exact (cp_ I.hok h).1
theorem k6_{d:Addr}{kvs:List (List Key × V)}(I:Inv X pins σ H s)(h:Rd H d (.dT kvs)):∃(ys:List V) (P:Nat->Value->Prop) (OK:Heap->Prop),ba' X.K H ys (kvs.map (·.1))/\ys.length<=sizeLine/\KdlSrc X.prog X.w "dict" d d ys.length P OK/\OK s.heap/\∀(j:Nat) v,P j v->∀y,ys[j]? = some y->RelV y v:=by
 obtain⟨z,hd,xs,rel,o,es,ep,ho,hc,hdat,hes,nd⟩:=h.ok I.hok
 have l1:es.size=xs.length:=by
  have:=congrArg List.length hes;simpa using this
 have l2:=Paired.length rel;refine⟨xs.map fun x=>V.ref x.2.1,fun i v=>∃h:i<es.size,v=es[i].key,fun h=>Raw h d es ep,?_,by rw[aa'];omega,(by rw[aa',<- l1];exact j9_ (es:=es) (ep:=ep) hd),⟨o,ho,hc,hdat⟩,fun j v ⟨hj,e⟩ y hy=>?_⟩
 ·have gen:∀{kvs:List (List Key × V)} {xs:List (List Key × Addr × Value)},KT H kvs xs->ba' X.K H (xs.map fun x=>V.ref x.2.1) (kvs.map (·.1)):=fun {kvs xs} r=>by
   induction r with
   |nil=>exact .nil
   |cons h _ ih=>exact .cons ⟨_,rfl,h.2.1⟩ ih
  exact gen rel
 ·rw[ao'] at hy;have hx:j<xs.length:=by omega
  rw[ah' hx] at hy;have e1:V.ref xs[j].2.1=y:=Option.some.inj hy
  have e2:es[j]=entryOfKey (tupleKind (bb' X.prog X.w)) xs[j]:=by
   have e3:es.toList[j]? = (xs.map (entryOfKey (tupleKind (bb' X.prog X.w))))[j]?:=by rw[hes]
   rw[ao',ah' hx,Array.getElem?_toList,Array.getElem?_eq_getElem hj] at e3;exact Option.some.inj e3
  rw[<- e1,e,e2];rfl
theorem jV_{d:Addr}{kvs:List (List Key × V)}{R:List Value->Shared->Prop}(hh:A.handled=none)(I:Inv X pins σ H s)(h:Rd H d (.dT kvs))(q:∀ys vs s1,Inv X pins σ H s1->Vals ys vs->ba' X.K H ys (kvs.map (·.1))->R vs s1):wpAny (model X.prog X.w) A (collect (.ref d)) R E s:=by
 obtain⟨ys,P,OK,t,z,S,ok,hp⟩:=k6_ I h;exact kdu_collect S hh ok z fun h' tk acc k a=>q ys _ _ (I.kept k) (c1_ a hp) t
def bo'(v d:Addr):HO:=.ext fun h=>h.IsItemsView v d
def be'(K:F__)(H:Hp):List V->List (Key × V)->Prop:=Paired fun y p=>∃a,y=V.ref a/\H a=some (.tup [kV p.1,p.2])
theorem fQ_{v d:Addr}{kvs:List (Key × V)}{R:List Value->Shared->Prop}(hh:A.handled=none)(I:Inv X pins σ H s)(hv:H v=some (bo' v d))(h:Rd H d (.dK kvs))(q:∀H1 ys vs s1,Inv X pins σ H1 s1->Same H H1->Vals ys vs->be' X.K H1 ys kvs->R vs s1) :
  wpAny (model X.prog X.w) A (collect (.ref v)) R E s:=by
 obtain⟨z,hd,vs,rel,dd⟩:=cp_ I.hok h;obtain⟨ep,dat⟩:=dd.dictAt;obtain⟨iv,_,_⟩:=I.hok v _ hv;have hl:=rel.length;refine kdx_collect (knd:=bb' X.prog X.w) (kvs:=vs) (ep:=ep) hh iv dat (by omega) fun h' tk as k la G=>?_;have up:∀b,b∈as->s.heap.objs.size<b:=G.above
 have at1:∀(j:Nat) b p,as[j]? = some b->kvs[j]? = some p->∃its,Vals [kV p.1,p.2] its/\IsTup h' b its.toArray/\∃o,h'.get? b=some o/\o.dict=none:=fun j b p hj hp=>by
  obtain⟨key,kk,x,e1,e2,e3⟩:=G.pairs j b hj
  have gen:∀{kvs:List (Key × V)} {vs:List (Key × Value)},KV kvs vs->∀(j:Nat),vs[j]? = some (kk,x)->kvs[j]? = some p->p.1=kk/\RelV p.2 x:=fun {kvs vs} r=>by
   induction r with
   |nil=>intro j e;simp at e
   |@cons p' q _ _ h _ ih=>
    intro j e e';cases j with
    |zero=>
     have e:q=(kk,x):=by simpa using e
     have e':p'=p:=by simpa using e'
     subst e';rw[e] at h;exact h
    |succ j=>exact ih j (by simpa using e) (by simpa using e')
  obtain⟨g1,g2⟩:=gen rel j e1 hp;refine⟨[key,x],.cons ?_ (.cons g2 .nil),⟨_,e3,rfl,_,rfl⟩,_,e3,rfl⟩;rw[g1];have e2:cB' kk key=true:=e2;rcases av_ e2 with⟨i,t,rfl,rfl⟩|⟨x,t,rfl,rfl⟩
  ·exact⟨t,rfl⟩
  ·exact⟨t,rfl⟩
 have look:∀{as:List Addr} {kvs:List (Key × V)},as.Pairwise (· < ·)->∀(j:Nat) b p,as[j]? = some b->kvs[j]? = some p->(as.zip kvs).lookup b=some p:=fun {as}=>by
  induction as with
  |nil=>intro kvs _ j b p e;simp at e
  |cons a as ih=>
   intro kvs pw j b p e e';cases kvs with
   |nil=>simp at e'
   |cons q kvs=>
    obtain⟨p1,p2⟩:=aI'.mp pw;show ((a,q)::as.zip kvs).lookup b=some p;cases j with
    |zero=>
     have e:a=b:=by simpa using e
     have e':q=p:=by simpa using e'
     subst e;subst e';rw[List.lookup_cons_self]
    |succ j=>
     have e:as[j]? = some b:=by simpa using e
     have e':kvs[j]? = some p:=by simpa using e'
     have lt:=p1 b (ae' e);rw[aO',show (b == a)=false by simp only[beq_eq_false_iff_ne];exact a5' lt];exact ih p2 j b p e e'
 have lk:as.length=kvs.length:=by omega
 let H1:Hp:=fun b=>if b∈as then ((as.zip kvs).lookup b).map fun p=>HO.tup [kV p.1,p.2] else H b
 have h1in:∀(j:Nat) b p,as[j]? = some b->kvs[j]? = some p->H1 b=some (.tup [kV p.1,p.2]):=fun j b p e e'=>by
  show (if b∈as then _ else _)=_;rw[if_pos (ae' e),look G.rise j b p e e'];rfl
 have h1out:∀b,b∉as->H1 b=H b:=fun b hb=>if_neg hb;have old:∀b,b<s.heap.objs.size->b∉as:=fun b hb m=>absurd (up b m) (by omega);refine q H1 (as.map V.ref) _ _ (I.many (t':=tk) k (fun b o e=>by rw[h1out b (old b (I.hok.lt e))];exact e) (fun b e hb=>by rw[h1out b (old b hb)];exact e) fun b o e e0=>?_) (fun b o e=>by rw[h1out b (old b (I.hok.lt e))];exact e) ?_ ?_
 ·by_cases m:b∈as
  ·obtain⟨j,hj⟩:=List.mem_iff_getElem?.mp m
   have jl:j<kvs.length:=by
    have:=(ab'.mp hj).1;omega
   have e':=h1in j b kvs[j] hj (ah' jl);rw[e] at e';cases e';obtain⟨its,r,t⟩:=at1 j b _ hj (ah' jl);exact⟨_,its,rfl,by show 2<=sizeLine;decide,r,t⟩
  ·rw[h1out b m,e0] at e;cases e
 ·have gen:∀as:List Addr,Vals (as.map V.ref) (as.map Value.ref):=fun as=>by
   induction as with
   |nil=>exact .nil
   |cons a as ih=>exact .cons rfl ih
  exact gen as
 ·have gen:∀(as':List Addr) (kvs':List (Key × V)),as'.length=kvs'.length->(∀(j:Nat) b p,as'[j]? = some b->kvs'[j]? = some p->H1 b=some (.tup [kV p.1,p.2]))->be' X.K H1 (as'.map V.ref) kvs':=fun as'=>by
   induction as' with
   |nil=>
    intro kvs' hl _;cases kvs' with
    |nil=>exact .nil
    |cons _ _=>cases hl
   |cons a as' ih=>
    intro kvs' hl h;cases kvs' with
    |nil=>cases hl
    |cons p kvs'=>exact .cons ⟨a,rfl,h 0 a p rfl rfl⟩ (ih kvs' (by simpa using hl) fun j b p e e'=>h (j+1) b p (by simpa using e) (by simpa using e'))
  exact gen as kvs lk h1in
end
end L2
namespace L2
open PySem PySem.Spec PyProof.Rows PySem.W EvS EvD
theorem f7_{a b:List Str}(h:a.map keyS=b.map keyS):a=b:=by
 induction a generalizing b with
 |nil=>
  cases b with
  |nil=>rfl
  |cons _ _=>cases h
 |cons x a ih=>
  cases b with
  |nil=>cases h
  |cons y b=>
   obtain⟨h1,h2⟩:=List.cons.inj h;have h1:[(Sum.inr x:Key)]=[Sum.inr y]:=h1;cases h1;rw[ih h2]
theorem cd_(ss:List Str):(sortS ss).map keyS=sortKs (ss.map keyS):=by
 have all:∀k∈sortKs (ss.map keyS),∃x,k=keyS x:=fun k hk=>by
  obtain⟨x,_,e⟩:=ac'.mp ((ap_ _).mem_iff.mp hk);exact⟨x,e.symm⟩
 have gen:∀l:List (List Key),(∀k∈l,∃x,k=keyS x)->(l.map fun k=>match k with | [.inr x]=>x|_=>(⟨#[]⟩:Str)).map keyS=l:=fun l=>by
  induction l with
  |nil=>exact fun _=>rfl
  |cons k l ih=>
   intro h;obtain⟨x,rfl⟩:=h k af';rw[ap',ap',ih fun k hk=>h k (ad' _ hk)];rfl
 exact gen _ all
theorem ah_(ss:List Str):(sortS ss).Perm ss:=by
 have p:((sortS ss).map keyS).Perm (ss.map keyS):=by rw[cd_];exact ap_ _
 have back:∀l:List Str,(l.map keyS).map (fun k=>match k with | [.inr x]=>x|_=>(⟨#[]⟩:Str))=l:=fun l=>by
  rw[al']
  induction l with
  |nil=>rfl
  |cons x l ih=>rw[ap',ih];rfl
 have q:=p.map (fun k=>match k with | [.inr x]=>x|_=>(⟨#[]⟩:Str));rwa [back,back] at q
section
variable{X:Cx}{pins:List (Addr × Obj)}{σ:St}{H:Hp}{s:Shared}
theorem co_{u:Value}{ss:List Str}{Q:VK}(h64:ss.length<64)(hcol:wpAny (model X.prog X.w) X.A.in1 (collect u) (fun vs s1=>∃H1,Inv X pins σ H1 s1/\Vals (ss.map V.str) vs/\∀l,H1 l=none->Q (.ref l) (upd H1 l (.lst ((sortS ss).map V.str)))) X.xe s) :
  wpAny (model X.prog X.w) X.A (call (.builtin "sorted") [u]) (EP X pins σ Q) X.xe s:=by
 refine cY_ (dj_ (ss.map keyS)) (thn hcol fun vs s1 ⟨H1,I1,r,q⟩=>?_);have hl:vs.length=ss.length:=by rw[<- r.length,aa']
 refine⟨by omega,fun h2 h' _=>fO_ (gC_ r) h2,fun p h' e g up hD kp=>?_⟩;have g':Good (ss.map keyS).length p:=by rw[aa',<- hl];exact g
 have asc:=es_ (ks:=ss.map keyS) (fun i j _ _=>rfl) g' (by rw[aa',<- hl];exact up)
 have perm:(p.toList.map fun i=>(ss.map keyS).getD i []).Perm (ss.map keyS):=by
  have:=b7_ g' fun i=>(ss.map keyS).getD i [];rwa [aV_] at this
 have es:=bZ_ perm asc
 have inr:∀i∈p.toList,i<ss.length:=fun i hi=>by
  have m:i∈(List.range vs.length).toArray:=g.mem_iff.mp (by simpa using hi);rw[hl] at m;simpa using m
 have e1:(p.toList.map fun i=>ss.getD i ⟨#[]⟩)=sortS ss:=by
  refine f7_ ?_;rw[cd_,<- es,al'];refine aE' fun i hi=>?_;have:=inr i hi;simp[this]
 have rv:=db_ r g
 have e2:(p.toList.map fun i=>(ss.map V.str).getD i .non)=(sortS ss).map V.str:=by
  rw[<- e1,al'];refine aE' fun i hi=>?_;have:=inr i hi;simp[this]
 rw[e2] at rv;refine⟨.ref s1.heap.objs.size,_,I1.laid (t':=s1.toks) kp (ag' _) (show bi' X.prog X.w _ h' _ (.lst ((sortS ss).map V.str)) from ⟨?_,bK' p vs,e,rv,hD⟩),rfl,q _ (I1.hok.fresh (ag' _))⟩;rw[aa',(ah_ ss).length_eq];have:=sizeLine_eq;omega
theorem hD_{K:F__}{H:Hp}{ys:List V}{ks:List (List Key)}(t:ba' K H ys ks):∀l:List Nat,(∀i∈l,i<ys.length)->ba' K H (l.map fun i=>ys.getD i .non) (l.map fun i=>ks.getD i []):=fun l=>by
 induction l with
 |nil=>exact fun _=>.nil
 |cons i l ih=>
  intro h;refine .cons ?_ (ih fun j hj=>h j (ad' _ hj));have hi:=h i af'
  have gen:∀{ys:List V} {ks:List (List Key)} (i:Nat),i<ys.length->ba' K H ys ks->∃a,ys.getD i .non=V.ref a/\H a=some (.tup ((ks.getD i []).map kV)):=fun {ys ks} i hy t=>by
   induction t generalizing i with
   |nil=>exact absurd hy (by simp)
   |cons h t ih=>
    cases i with
    |zero=>exact h
    |succ i=>exact ih i (by simpa using hy)
  exact gen i hi t
theorem ci_{u:Value}{ks:List (List Key)}{sh:List Bool}{Q:VK}(h64:ks.length<64)(al:di' ks sh)
  (hcol:wpAny (model X.prog X.w) X.A.in1 (collect u) (fun vs s1=>∃H1 ys,Inv X pins σ H1 s1/\Vals ys vs/\ba' X.K H1 ys ks/\∀l zs,H1 l=none->ba' X.K H1 zs (sortKs ks)->zs.Perm ys->Q (.ref l) (upd H1 l (.lst zs))) X.xe s) :
  wpAny (model X.prog X.w) X.A (call (.builtin "sorted") [u]) (EP X pins σ Q) X.xe s:=by
 refine cY_ (dj_ ks) (thn hcol fun vs s1 ⟨H1,ys,I1,r,t,q⟩=>?_);have l1:=r.length;have l2:=Paired.length t;have hl:vs.length=ks.length:=by omega
 refine⟨by omega,fun h2 h' k=>dz_ I1 r t al h2 k,fun p h' e g up hD kp=>?_⟩;have g':Good ks.length p:=by rw[<- hl];exact g
 have asc:=es_ (ks:=ks) (fun i j _ _=>rfl) g' (by rw[<- hl];exact up)
 have perm:(p.toList.map fun i=>ks.getD i []).Perm ks:=by
  have:=b7_ g' fun i=>ks.getD i [];rwa [aV_] at this
 have es:=bZ_ perm asc
 have inr:∀i∈p.toList,i<ys.length:=fun i hi=>by
  have m:i∈(List.range vs.length).toArray:=g.mem_iff.mp (by simpa using hi);rw[<- l1] at m;simpa using m
 have tz:=hD_ t p.toList inr;rw[es] at tz;have rv:=db_ r g
 have pz:(p.toList.map fun i=>ys.getD i .non).Perm ys:=by
  have:=b7_ (n:=ys.length) (by rw[l1];exact g) fun i=>ys.getD i .non;rwa [aV_] at this
 refine⟨.ref s1.heap.objs.size,_,I1.laid (t':=s1.toks) kp (ag' _) (show bi' X.prog X.w _ h' _ (.lst (p.toList.map fun i=>ys.getD i .non)) from ⟨?_,bK' p vs,e,rv,hD⟩),rfl,q _ _ (I1.hok.fresh (ag' _)) tz pz⟩;rw[pz.length_eq];have:=sizeLine_eq;omega
end
section
variable{X:Cx}
def rSortS(K:F__):List V->Hp->VK->Prop:=fun xs H Q=>∃p ss,xs=[.ref p]/\SqL K H p (ss.map V.str)/\ss.length<64/\∀l,H l=none->Q (.ref l) (upd H l (.lst ((sortS ss).map V.str)))
theorem c3_:bD' X (.builtin "sorted") (rSortS X.K):=by
 intro pins s σ H xs us Q I r h;obtain⟨p,ss,rfl,hp,h64,q⟩:=h;obtain⟨u,rfl,ru⟩:=vals1 r;cases ru;exact co_ h64 (eI_ I hp (by rw[aa'];omega) fun vs s1 I1 r1=>⟨H,I1,r1,q⟩)
def rSortDT(K:F__):List V->Hp->VK->Prop:=fun xs H Q=>∃d kvs sh,xs=[.ref d]/\H d=some (.dT kvs)/\di' (kvs.map (·.1)) sh/\kvs.length<64/\∀l zs,H l=none->ba' K H zs (sortKs (kvs.map (·.1)))->Q (.ref l) (upd H l (.lst zs))
theorem eb_(hc:X.calm=true):bD' X (.builtin "sorted") (rSortDT X.K):=by
 intro pins s σ H xs us Q I r h;obtain⟨d,kvs,sh,rfl,hd,al,h64,q⟩:=h;obtain⟨u,rfl,ru⟩:=vals1 r;cases ru;exact ci_ (by rw[aa'];exact h64) al (jV_ (I.ok.hd hc) I (.inl hd) fun ys vs s1 I1 r1 t=>⟨H,ys,I1,r1,t,fun l zs n t' _=>q l zs n t'⟩)
def rSortDS:List V->Hp->VK->Prop:=fun xs H Q=>∃d kvs ss,xs=[.ref d]/\H d=some (.dK kvs)/\kvs.map (·.1)=ss.map Sum.inr/\ss.length<64/\∀l,H l=none->Q (.ref l) (upd H l (.lst ((sortS ss).map V.str)))
theorem er_(hc:X.calm=true):bD' X (.builtin "sorted") rSortDS:=by
 intro pins s σ H xs us Q I r h;obtain⟨d,kvs,ss,rfl,hd,ek,h64,q⟩:=h;obtain⟨u,rfl,ru⟩:=vals1 r;cases ru;refine co_ h64 (ii_ (I.ok.hd hc) I (.inl hd) fun vs s1 I1 r1=>⟨H,I1,?_,q⟩)
 have e:(kvs.map fun kv=>kV kv.1)=ss.map V.str:=by
  rw[show (kvs.map fun kv=>kV kv.1)=(kvs.map (·.1)).map kV by rw[al'];rfl,ek,al'];rfl
 rwa [e] at r1
def rSortI(K:F__):List V->Hp->VK->Prop:=fun xs H Q=>∃(v d:Addr) (kvs:List (Key × V)) (ks:List (Key × Key)) (sh:List Bool),xs=[.ref v]/\H v=some (bo' v d)/\H d=some (.dK kvs)/\kvs=ks.map (fun k:Key × Key=>(k.1,kV k.2))/\di' (ks.map fun k=>[k.1,k.2]) sh/\ks.length<64 /\
 ∀l H1 zs,Same H H1->H1 l=none->ba' K H1 zs (sortKs (ks.map fun k=>[k.1,k.2]))->Q (.ref l) (upd H1 l (.lst zs))
theorem fq_(hc:X.calm=true):bD' X (.builtin "sorted") (rSortI X.K):=by
 intro pins s σ H xs us Q I r h;obtain⟨v,d,kvs,ks,sh,rfl,hv,hd,ek,al,h64,q⟩:=h;obtain⟨u,rfl,ru⟩:=vals1 r;cases ru;refine ci_ (by rw[aa'];exact h64) al (fQ_ (I.ok.hd hc) I hv (.inl hd) fun H1 ys vs s1 I1 sm r1 t=>⟨H1,ys,I1,r1,?_,fun l zs n t' _=>q l H1 zs sm n t'⟩);subst ek
 have gen:∀(ks:List (Key × Key)) (ys:List V),be' X.K H1 ys (ks.map (fun k:Key × Key=>(k.1,kV k.2)))->ba' X.K H1 ys (ks.map fun k=>[k.1,k.2]):=fun ks=>by
  induction ks with
  |nil=>
   intro ys t;cases t;exact .nil
  |cons k ks ih=>
   intro ys t;cases t with
   |cons h t=>exact .cons h (ih _ t)
 exact gen ks ys t
def rListD:List V->Hp->VK->Prop:=fun xs H Q=>∃d kvs,xs=[.ref d]/\Rd H d (.dK kvs)/\∀l,H l=none->Q (.ref l) (upd H l (.lst (kvs.map fun kv=>kV kv.1)))
theorem cf_(hc:X.calm=true):bD' X (.type "list") rListD:=by
 intro pins s σ H xs us Q I r h;obtain⟨d,kvs,rfl,hd,q⟩:=h;obtain⟨u,rfl,ru⟩:=vals1 r;cases ru;obtain⟨P,OK,S,ok,hp⟩:=iE_ I hd;have z:=(cp_ I.hok hd).1;refine kdl_call S (I.ok.hd hc) ok (by rw[aa'];exact z) fun h' tk acc c k hD a=>?_;refine⟨.ref s.heap.objs.size,_,I.laid (t':=tk) k (ag' _) (show bi' X.prog X.w _ h' _ (.lst (kvs.map fun kv=>kV kv.1)) from ⟨by rw[aa'];exact z,acc.toList,c,c1_ a hp,by rw[Array.toArray_toList];exact hD⟩),rfl,q _ I.fresh⟩
theorem KV.mergeP{κ:Type}[DecidableEq κ]:∀{more:List (κ × V)} {rs:List (κ × Value)} {kvs:List (κ × V)} {vs:List (κ × Value)},KV more rs->KV kvs vs->KV (more.foldl (fun acc kv=>putK acc kv.1 kv.2) kvs) (EvD.mergeP vs rs):=fun {more rs kvs vs} h=>by
 induction h generalizing kvs vs with
 |nil=>exact fun h=>h
 |@cons p q _ _ h _ ih=>
  intro h2;obtain⟨k,y⟩:=p;obtain⟨k',u⟩:=q;obtain⟨h1,h3⟩:=h;have h1:k=k':=h1;subst h1;exact ih (h2.put k h3)
def rDictOf(K:F__):List V->Hp->VK->Prop:=fun xs H Q=>∃p ys kvs,xs=[.ref p]/\H p=some (.lst ys)/\be' K H ys kvs/\kvs.length<=1000/\∀l,H l=none->Q (.ref l) (upd H l (.dK (bt' [] kvs)))
theorem aO_(hc:X.calm=true):bD' X (.type "dict") (rDictOf X.K):=by
 intro pins s σ H xs us Q I r h;obtain⟨p,ys,kvs,rfl,hp,t,hz,q⟩:=h;obtain⟨u,rfl,ru⟩:=vals1 r;cases ru;obtain⟨z,its,n,rv,hl,ho⟩:=I.lstM hp
 have gen:∀{ys:List V} {its:List Value} {kvs:List (Key × V)},Vals ys its->be' X.K H ys kvs->∃ps,KV kvs ps/\cS' (bb' X.prog X.w) s.heap its ps:=fun {ys its kvs} rv t=>by
  induction t generalizing its with
  |nil=>
   cases rv;exact⟨[],.nil,.nil⟩
  |@cons y p ys kvs h t ih=>
   cases rv with
   |cons r0 rv=>
    obtain⟨ps,h1,h2⟩:=ih rv;obtain⟨a,e,sq⟩:=h;subst e;cases r0;obtain⟨tv,rt,it,_⟩:=I.tuple (SqT.of sq);obtain⟨key,x,e2,rk,rx⟩:=vals2 rt;subst e2;refine⟨(p.1,x)::ps,Paired.cons (show p.1=p.1/\RelV p.2 x from ⟨rfl,rx⟩) h1,Paired.cons (show ∃a' key',Value.ref a=.ref a'/\IsTup s.heap a' #[key',x]/\(bb' X.prog X.w).is p.1 key'=true from ⟨a,key,rfl,it,df_ rk⟩) h2⟩
 obtain⟨ps,h1,h2⟩:=gen rv t;have lp:=KV.length h1;refine dV_ (knd:=bb' X.prog X.w) (I.ok.hd hc) ho h2 (by omega) fun h' tk hd kp=>?_;refine⟨.ref s.heap.objs.size,_,I.laid (t':=tk) kp (ag' _) (eD_ ?_ (beq_eq_false_iff_ne.mpr (Ne.symm (au' I.big))) (KV.mergeP h1 .nil) hd),rfl,q _ I.fresh⟩;have:=bn_ kvs [];have:=sizeLine_eq;simp only[aV'] at *;show (bt' [] kvs).length<=sizeLine;omega
theorem eU_:∀{bs:List Bool} {vs:List Value},Vals (bs.map V.bl) vs->vs=bs.map Value.bool
 |[],_,.nil=>rfl
 |b::bs,_,.cons h t=>by
  cases h;rw[eU_ t];rfl
def rAll(K:F__)(g:List Bool->Bool):List V->Hp->VK->Prop:=fun xs H Q=>∃p bs,xs=[.ref p]/\SqL K H p (bs.map V.bl)/\Q (.bl (g bs)) H
theorem hH_(hc:X.calm=true):bD' X (.builtin "all") (rAll X.K fun bs=>bs.all id):=by
 intro pins s σ H xs us Q I r h;obtain⟨p,bs,rfl,hp,q⟩:=h;obtain⟨u,rfl,ru⟩:=vals1 r;cases ru;obtain⟨its,rv,pl,z⟩:=I.list hp;obtain rfl:=eU_ rv;have hl:=pl.isList;have lt:p<s.heap.objs.size:=by obtain⟨_,e,_⟩:=hl;exact Heap.lt_size e
 refine call_all_walk (wpAny_pyIter_list hl ⟨s.heap.objs.size,[s.heap.objs.size,p],[s.heap.objs.size],(bs.map Value.bool).toArray.size,_,_,fun i=>(bs[i]?).getD true,rfl,Walks.list (A:=X.A.in1) (I.ok.hd hc) _ p (au' lt) _,⟨⟨_,Heap.get?_push_size _ rfl,rfl,rfl⟩,hl.push _⟩,fun i v s' Q' E' hP hQ=>?_,fun h' tk hk=>?_⟩)
 ·have hP:(bs.map Value.bool).toArray[i]? = some v:=hP;simp only[List.getElem?_toArray,ao'] at hP;cases e:bs[i]? with
  |none=>rw[e] at hP;cases hP
  |some b=>
   have hQ:Q' ((bs[i]?).getD true) s':=hQ;rw[e] at hP hQ;cases hP;exact wpAny_truthy_bool hQ
 ·have e:((List.range (bs.map Value.bool).toArray.size).all fun i=>(bs[i]?).getD true)=bs.all id:=by
   rw[aj',aa'];exact LSm.range_all bs
  rw[e];exact⟨.bl _,H,I.kept (LSm.kept_iter hk),rfl,q⟩
end
end L2
namespace EvN
open PySem PySem.SeqAt PyProof.Rows
open AutoSeq1 (wpAny_loadPart')
open MeetsSeq MeetsSeq2 MeetsSeq3 SeqRoads2
theorem kz_(l b:Addr)(xs ys:Array Value)(n m:Nat)(dl db:Option Addr)(sl sb:Array (Option Value))(hs:xs.size=ys.size)(e:Nat->Bool)(k:Nat) :
  ∀i:Nat,xs.size - i=k->Meets (Builtin.«list.__eq__.loop» ⟨[.ref l,.ref b,rawInt i,rawInt 3],[]⟩)
   (fun A R s=>(s.heap.get? l=some { cls:=.type "list",dict:=dl,data:=.seq xs n,slots:=sl }/\s.heap.get? b=some { cls:=.type "list",dict:=db,data:=.seq ys m,slots:=sb }) /\
    (∀j (h1:j<xs.size) (h2:j<ys.size),EqAt A.in1 s xs[j] ys[j] (e j))/\R (.ok (.ret (.bool (!((List.range xs.size).drop i).all e)))) s):=by
 induction k with
 |zero=>
  intro i hk prog w A R s ⟨⟨gl,gb⟩,he,h⟩;obtain⟨hp,g,d,tk,os⟩:=s
  wp_walk using wpAny_loadPart' gl,wpAny_loadPart' gb
  rw[show xs[((i:Nat):Int).toNat]? = none by simp;omega,show ys[((i:Nat):Int).toNat]? = none by simp;omega];rw[show (List.range xs.size).drop i=[] by simp;omega] at h
  wp_walk using wpAny_loadPart' gl,wpAny_loadPart' gb
  refine (show R (.ok (.ret (.bool (xs.size != ys.size)))) _ from ?_);rw[show (xs.size != ys.size)=false by simp[hs]];exact h
 |succ k ih=>
  intro i hk prog w A R s ⟨⟨gl,gb⟩,he,h⟩;obtain⟨hp,g,d,tk,os⟩:=s
  wp_walk using wpAny_loadPart' gl,wpAny_loadPart' gb
  have z1:i<xs.size:=by omega
  have z2:i<ys.size:=by omega
  have q1:xs[((i:Nat):Int).toNat]? = some xs[i]:=by simp[z1]
  have q2:ys[((i:Nat):Int).toNat]? = some ys[i]:=by simp[z2]
  rw[show (List.range xs.size).drop i=i::(List.range xs.size).drop (i+1) by simp[List.drop_eq_getElem_cons,z1],List.all_cons] at h;rw[q1,q2];refine wpAny_bind (he i z1 z2 prog w _ _ ?_);cases c:e i with
  |true=>
   rw[c] at h
   wp_walk
   rw[show ((i:Int)+1)=((i+1:Nat):Int) by omega];refine⟨plainId_quiet plain_eq_loop _,codeAny_builtin entry_eq_loop ?_⟩;rw[Around.under_plainId plain_eq_loop _];exact ih (i+1) (by omega) prog w A R _ ⟨⟨gl,gb⟩,he,by simpa using h⟩
  |false=>
   rw[c] at h
   wp_walk using wpAny_loadPart' gl,wpAny_loadPart' gb
   rw[q1,q2]
   wp_walk
   simpa using h
theorem hI_(l b:Addr)(xs ys:Array Value)(n m:Nat)(dl db:Option Addr)(sl sb:Array (Option Value))(hs:xs.size=ys.size)(e:Nat->Bool) :
  Meets (Builtin.«list.__ne__» ⟨[.ref l,.ref b],[]⟩)
   (fun A R s=>(s.heap.get? l=some { cls:=.type "list",dict:=dl,data:=.seq xs n,slots:=sl }/\s.heap.get? b=some { cls:=.type "list",dict:=db,data:=.seq ys m,slots:=sb }) /\
    (∀j (h1:j<xs.size) (h2:j<ys.size),EqAt A.in1 s xs[j] ys[j] (e j))/\R (.ok (.ret (.bool (!(List.range xs.size).all e)))) s):=by
 intro prog w A R s ⟨⟨gl,gb⟩,he,h⟩;obtain⟨hp,g,d,tk,os⟩:=s;have f3:=AutoSeq1.sub_list_list;have no:¬(xs.size != ys.size)=true:=by simp[hs]
 wp_walk using wpAny_loadPart' gl,wpAny_loadPart' gb
 refine⟨plainId_quiet plain_eq_loop _,codeAny_builtin entry_eq_loop ?_⟩;rw[Around.under_plainId plain_eq_loop _];exact kz_ l b xs ys n m dl db sl sb hs e _ 0 rfl prog w A R _ ⟨⟨gl,gb⟩,he,by simpa using h⟩
theorem i0_(l b:Addr)(xs ys:Array Value)(n m:Nat)(dl db:Option Addr)(sl sb:Array (Option Value))(hs:(xs.size != ys.size)=true) :
  Meets (Builtin.«list.__ne__» ⟨[.ref l,.ref b],[]⟩)
   (fun A R s=>(s.heap.get? l=some { cls:=.type "list",dict:=dl,data:=.seq xs n,slots:=sl }/\s.heap.get? b=some { cls:=.type "list",dict:=db,data:=.seq ys m,slots:=sb })/\R (.ok (.ret (.bool true))) s):=
 .of_wp fun prog w A R s ⟨⟨gl,gb⟩,h⟩=>by
  obtain⟨hp,g,d,tk,os⟩:=s;have f3:=AutoSeq1.sub_list_list
  wp_walk using wpAny_loadPart' gl,wpAny_loadPart' gb
  exact⟨_,rfl,h⟩
section
variable{prog:Program}{w:World}{A:Around}{E:Value->Shared->Prop}{s:Shared}
theorem ne_listAt{l b:Addr}{xs ys:Array Value}{e:Nat->Bool}{Q:Value->Shared->Prop}(hl:s.heap.IsList l xs)(hb:s.heap.IsList b ys)(hs:xs.size=ys.size)(hu:A.units<cLine)
  (he:∀j (h1:j<xs.size) (h2:j<ys.size),EqAt A.in1 s xs[j] ys[j] (e j)) (h:Q (.bool (!(List.range xs.size).all e)) s):wpAny (model prog w) A (compareOp .NotEq (.ref l) (.ref b)) Q E s:=by
 obtain⟨⟨c1,d1,t1,l1⟩,o1,k1,n1,z1⟩:=id hl;obtain⟨⟨c2,d2,t2,l2⟩,o2,k2,n2,z2⟩:=id hb;simp only at k1 z1 k2 z2;subst k1 z1 k2 z2;exact richCompare_meets_room (op:=.NotEq) ⟨_,o1,rfl⟩ ⟨_,o2,rfl⟩ F.slot_list_ne F.entry_list_ne (F.args_list_ne_2 _ _) (hI_ l b xs ys n1 n2 d1 d2 l1 l2 hs e) ⟨⟨o1,o2⟩,he,show Value.bool (!(List.range xs.size).all e)≠Value.notImplemented/\Q (.bool (!(List.range xs.size).all e)) s from ⟨(fun x=>nomatch x),h⟩⟩ hu
theorem ne_sizesAt{l b:Addr}{xs ys:Array Value}{Q:Value->Shared->Prop}(hl:s.heap.IsList l xs)(hb:s.heap.IsList b ys)(hs:(xs.size != ys.size)=true)(hu:A.units<cLine)(h:Q (.bool true) s):wpAny (model prog w) A (compareOp .NotEq (.ref l) (.ref b)) Q E s:=by
 obtain⟨⟨c1,d1,t1,l1⟩,o1,k1,n1,z1⟩:=id hl;obtain⟨⟨c2,d2,t2,l2⟩,o2,k2,n2,z2⟩:=id hb;simp only at k1 z1 k2 z2;subst k1 z1 k2 z2;exact richCompare_meets_room (op:=.NotEq) ⟨_,o1,rfl⟩ ⟨_,o2,rfl⟩ F.slot_list_ne F.entry_list_ne (F.args_list_ne_2 _ _) (i0_ l b xs ys n1 n2 d1 d2 l1 l2 hs) ⟨⟨o1,o2⟩,show Value.bool true≠Value.notImplemented/\Q (.bool true) s from ⟨(fun x=>nomatch x),h⟩⟩ hu
end
end EvN
namespace L2
open PySem PySem.Spec PyProof.Rows PySem.W EvS EvD
abbrev Rp(D:Type):=Hp->V->D->Prop
structure Cmp (X:Cx) (n:Nat) {D:Type} [DecidableEq D] (R:Rp D):Prop where
 eq:∀{pins:List (Addr × Obj)} {σ:St} {H:Hp} {s:Shared} {A:Around} {x y:V} {u v:Value} {d e:D},Inv X pins σ H s->RelV x u->RelV y v->R H x d->R H y e->A.units+n<cLine->SeqAt.EqAt A s u v (decide (d=e))
 one:∀{pins:List (Addr × Obj)} {σ:St} {H:Hp} {s:Shared} {x:V} {d e:D},Inv X pins σ H s->R H x d->R H x e->d=e
def rS:Rp Str:=fun _ x d=>x=.str d
def r2(K:F__){D1 D2:Type}(R1:Rp D1)(R2:Rp D2):Rp (D1 × D2):=fun H x d=>∃a u v,x=.ref a/\SqT K H a [u,v]/\R1 H u d.1/\R2 H v d.2
def r3(K:F__){D1 D2 D3:Type}(R1:Rp D1)(R2:Rp D2)(R3:Rp D3):Rp (D1 × D2 × D3):=fun H x d=>∃a u v w,x=.ref a/\SqT K H a [u,v,w]/\R1 H u d.1/\R2 H v d.2.1/\R3 H w d.2.2
def rL(K:F__){D:Type}(R:Rp D):Rp (List D):=fun H x ds=>∃a xs,x=.ref a/\SqL K H a xs/\Paired (R H) xs ds
section
variable{X:Cx}
theorem cmpS:Cmp X 0 rS where
 eq:=fun {pins σ H s A x y u v d e} I ru rv hx hy hu=>by
  have hx:x=.str d:=hx;have hy:y=.str e:=hy;subst hx;subst hy;have q:=h0_ (A:=A) (s:=s) ru rv rfl rfl
  have e2:eqV (.str d) (.str e)=decide (d=e):=by
   show (d == e)=_;by_cases h:d=e
   ·subst h;simp
   ·simp[h]
  rwa [e2] at q
 one:=fun {pins σ H s x d e} I hx hy=>by
  have hx:x=.str d:=hx;have hy:x=.str e:=hy;rw[hx] at hy;exact V.str.inj hy
theorem by_{h:Heap}{a:Addr}{its:Array Value}(t:IsTup h a its):h.IsTuple a its:=t
theorem cmp2{n m:Nat}{D1 D2:Type}[DecidableEq D1][DecidableEq D2]{R1:Rp D1}{R2:Rp D2}(c1:Cmp X n R1)(c2:Cmp X m R2):Cmp X (max n m+1) (r2 X.K R1 R2) where
 one:=fun {pins σ H s x d e} I hx hy=>by
  obtain⟨a,u,v,rfl,t,q1,q2⟩:=hx;obtain⟨b,u',v',e0,t',q1',q2'⟩:=hy;cases e0;have e1:=I.tuple_inj t t';cases e1;exact Prod.ext (c1.one I q1 q1') (c2.one I q2 q2')
 eq:=fun {pins σ H s A x y u v d e} I ru rv hx hy hu=>by
  have hx':=hx;have hy':=hy;obtain⟨a,x1,x2,rfl,t,q1,q2⟩:=hx;obtain⟨b,y1,y2,rfl,t',q1',q2'⟩:=hy;cases ru;cases rv;by_cases hab:a=b
  ·subst hab;have e1:=I.tuple_inj t t';cases e1;have:d=e:=Prod.ext (c1.one I q1 q1') (c2.one I q2 q2');rw[decide_eq_true this];exact SeqAt.EqAt.same _
  ·obtain⟨its,r,it,_⟩:=I.tuple t;obtain⟨its',r',it',_⟩:=I.tuple t';obtain⟨u1,u2,rfl,r1,r2⟩:=vals2 r;obtain⟨w1,w2,rfl,r1',r2'⟩:=vals2 r'
   have key:=SeqAt.EqAt.of_refs hab (SeqAt.RcAt.tuples (A:=A) (s:=s) (e:=fun j=>if j=0 then decide (d.1=e.1) else decide (d.2=e.2)) (by_ it) (by_ it') (by omega) fun j h1 h2=>by
    match j,h1,h2 with
    |0,_,_=>exact c1.eq I r1 r1' q1 q1' (by show A.units+1+n<cLine;omega)
    |1,_,_=>exact c2.eq I r2 r2' q2 q2' (by show A.units+1+m<cLine;omega))
   have e3:((List.range (min [u1,u2].toArray.size [w1,w2].toArray.size)).all (fun j=>if j=0 then decide (d.1=e.1) else decide (d.2=e.2))&&[u1,u2].toArray.size == [w1,w2].toArray.size)=decide (d=e):=by
    show (decide (d.1=e.1)&&(decide (d.2=e.2)&&true)&&true)=_;by_cases h1:d.1=e.1
    ·by_cases h2:d.2=e.2
     ·have:d=e:=Prod.ext h1 h2;simp[this]
     ·have:¬d=e:=fun z=>h2 (by rw[z]);simp[h1,h2,this]
    ·have:¬d=e:=fun z=>h1 (by rw[z]);simp[h1,this]
   rw[e3] at key;exact key
theorem az_{α β:Type}{F:α->β->Prop}:∀{l:List α} {m:List β},Paired F l m->∀(i:Nat) (h1:i<l.length) (h2:i<m.length),F l[i] m[i]
 |_,_,.cons h t,0,_,_=>h
 |_,_,.cons h t,i+1,h1,h2=>az_ t i (by simpa using h1) (by simpa using h2)
theorem dw_{D:Type}[DecidableEq D]:∀{ds es:List D},ds.length=es.length->((List.range ds.length).all fun j=>decide (ds[j]? = es[j]?))=decide (ds=es):=fun {ds es} hl=>by
 by_cases h:ds=es
 ·subst h;simp
 ·rw[decide_eq_false h]
  have:∃i,i<ds.length/\ds[i]?≠es[i]?:=by
   refine Classical.byContradiction fun hn=>h ?_;apply List.ext_getElem?;intro i;by_cases hi:i<ds.length
   ·exact Classical.byContradiction fun q=>hn ⟨i,hi,q⟩
   ·rw[List.getElem?_eq_none (by omega),List.getElem?_eq_none (by omega)]
  obtain⟨i,hi,q⟩:=this;rw[List.all_eq_false];exact⟨i,by simpa using hi,by simpa using q⟩
theorem hu_{D:Type}[DecidableEq D]{n:Nat}{R:Rp D}(c:Cmp X n R){pins:List (Addr × Obj)}{σ:St}{H:Hp}{s:Shared}{A:Around}(I:Inv X pins σ H s){xs ys:List V}{us vs:List Value}{ds es:List D}(ru:Vals xs us)(rv:Vals ys vs)(hx:Paired (R H) xs ds)(hy:Paired (R H) ys es)(hu:A.units+n<cLine) :
  ∀j (h1:j<us.toArray.size) (h2:j<vs.toArray.size),SeqAt.EqAt A s us.toArray[j] vs.toArray[j] (decide (ds[j]? = es[j]?)):=fun j h1 h2=>by
 have l1:=ru.length;have l2:=rv.length;have l3:=Paired.length hx;have l4:=Paired.length hy;simp only[aj'] at h1 h2;have q:=c.eq (A:=A) I (az_ ru j (by omega) h1) (az_ rv j (by omega) h2) (az_ hx j (by omega) (by omega)) (az_ hy j (by omega) (by omega)) hu
 have e:decide (ds[j]? = es[j]?)=decide (ds[j]'(by omega)=es[j]'(by omega)):=by
  rw[ah' (by omega),ah' (by omega)];by_cases z:ds[j]'(by omega)=es[j]'(by omega)
  ·simp[z]
  ·simp[z]
 rw[e];exact q
def rEqD{D:Type}[DecidableEq D](R:Rp D)(neg:Bool):V->V->Hp->VK->Prop:=fun x y H Q=>∃d e,R H x d/\R H y e/\Q (.bl (if neg then !decide (d=e) else decide (d=e))) H
theorem eA_{n:Nat}{D:Type}[DecidableEq D]{R:Rp D}(c:Cmp X n R)(hu:X.A.units+n+1<cLine):OpR X (compareOp .NotEq) (rEqD (rL X.K R) true):=by
 intro pins s σ H x y v u Q I rx ry h;obtain⟨d,e,⟨a,xs,rfl,t,q⟩,⟨b,ys,rfl,t',q'⟩,hq⟩:=h;cases rx;cases ry;obtain⟨us,r,pl,_⟩:=I.list t;obtain⟨vs,r',pl',_⟩:=I.list t';have l1:=r.length;have l2:=r'.length;have l3:=Paired.length q;have l4:=Paired.length q';have hq:Q (.bl (!decide (d=e))) H:=hq;by_cases hl:d.length=e.length
 ·refine EvN.ne_listAt pl.isList pl'.isList (by simp only[aj'];omega) (by omega) (hu_ c I r r' q q' (A:=X.A.in1) (by show X.A.units+1+n<cLine;omega)) ⟨.bl _,H,I,rfl,?_⟩;rw[show us.toArray.size=d.length by simp only[aj'];omega,dw_ hl];exact hq
 ·refine EvN.ne_sizesAt pl.isList pl'.isList (by simp only[aj',bne_iff_ne];omega) (by omega) ⟨.bl _,H,I,rfl,?_⟩;rwa [decide_eq_false (fun z=>hl (by rw[z]))] at hq
def rInD(K:F__){D:Type}[DecidableEq D](R:Rp D)(neg:Bool):V->V->Hp->VK->Prop:=fun x y H Q=>∃d es,R H x d/\rL K R H y es/\Q (.bl (if neg then !decide (d∈es) else decide (d∈es))) H
theorem iw_{D:Type}[DecidableEq D]{n:Nat}{R:Rp D}(c:Cmp X n R){pins:List (Addr × Obj)}{σ:St}{H:Hp}{s:Shared}{A:Around}(I:Inv X pins σ H s){x:V}{u:Value}{d:D}(ru:RelV x u)(hx:R H x d)(hu:A.units+n<cLine):∀{ys:List V} {vs:List Value} {es:List D},Vals ys vs->Paired (R H) ys es->
  ∃f:Value->Bool,(∀w∈vs,SeqAt.EqAt A s w u (f w))/\vs.any f=decide (d∈es):=fun {ys vs es} rv hy=>by
 let f:Value->Bool:=fun w=>@decide (∃y e,RelV y w/\R H y e/\e=d) (Classical.propDecidable _)
 have sound:∀y w e,RelV y w->R H y e->f w=decide (e=d):=fun y w e h1 h2=>by
  by_cases z:e=d
  ·rw[decide_eq_true z];exact @decide_eq_true _ (Classical.propDecidable _) ⟨y,e,h1,h2,z⟩
  ·rw[decide_eq_false z];refine @decide_eq_false _ (Classical.propDecidable _) fun⟨y',e',g1,g2,g3⟩=>z ?_;have:y'=y:=RelV.inj g1 h1;subst this;rw[<- g3];exact c.one I h2 g2
 refine⟨f,?_,?_⟩
 ·induction rv generalizing es with
  |nil=>exact fun w hw=>nomatch hw
  |cons h t ih=>
   cases hy with
   |cons g t'=>
    intro w hw;rcases ai'.mp hw with rfl|hw
    ·rw[sound _ _ _ h g];exact c.eq I h ru g hx hu
    ·exact ih t' w hw
 ·induction rv generalizing es with
  |nil=>
   cases hy;simp
  |cons h t ih=>
   cases hy with
   |@cons _ e _ es g t'=>
    rw[List.any_cons,ih t',sound _ _ _ h g];by_cases z:e=d
    ·subst z;simp
    ·by_cases z2:d∈es
     ·simp[z2]
     ·have:¬d∈e::es:=fun q=>by
       rcases ai'.mp q with q|q
       ·exact z q.symm
       ·exact z2 q
      rw[decide_eq_false z,decide_eq_false z2,decide_eq_false this];rfl
theorem dR_{n:Nat}{D:Type}[DecidableEq D]{R:Rp D}(c:Cmp X n R)(hu:X.A.units+n+1<cLine):OpR X (compareOp .In) (rInD X.K R false):=by
 intro pins s σ H x y v u Q I rx ry h;obtain⟨d,es,hx,⟨a,ys,rfl,t,q⟩,hq⟩:=h;cases ry;obtain⟨us,r,pl,_⟩:=I.list t;obtain⟨f,h1,h2⟩:=iw_ c I (A:=X.A.in1) rx hx (by show X.A.units+1+n<cLine;omega) r q;refine SeqAt.in_listAt f pl.isList (fun w hw=>h1 w (by simpa using hw)) ⟨.bl _,H,I,rfl,?_⟩;rw[show us.toArray.any f=us.any f by simp,h2];exact hq
theorem cw_{n:Nat}{D:Type}[DecidableEq D]{R:Rp D}(c:Cmp X n R)(hu:X.A.units+n+1<cLine):OpR X (compareOp .NotIn) (rInD X.K R true):=by
 intro pins s σ H x y v u Q I rx ry h;obtain⟨d,es,hx,⟨a,ys,rfl,t,q⟩,hq⟩:=h;cases ry;obtain⟨us,r,pl,_⟩:=I.list t;obtain⟨f,h1,h2⟩:=iw_ c I (A:=X.A.in1) rx hx (by show X.A.units+1+n<cLine;omega) r q;refine SeqAt.notIn_listAt f pl.isList (fun w hw=>h1 w (by simpa using hw)) ⟨.bl _,H,I,rfl,?_⟩;rw[show us.toArray.any f=us.any f by simp,h2];exact hq
end
end L2
namespace L2
open PySem PySem.Spec PyProof.Rows PySem.W EvS EvD
section
variable{X:Cx}
def rIsi(K:F__):List V->Hp->VK->Prop:=fun xs H Q=>∃x T t b,xs=[x,.ty T]/\TyOf K H x t/\PySem.W.kitOne K t (.type T)=some b/\Q (.bl b) H
theorem aM_:bD' X (.builtin "isinstance") (rIsi X.K):=by
 intro pins s σ H xs us Q I r h;obtain⟨x,T,t,b,rfl,ty,e,q⟩:=h;obtain⟨u,w',rfl,ru,rw'⟩:=vals2 r;cases (show w'=Value.type T from rw');exact dx_ I ru ty e fun tk=>⟨.bl b,H,I.tok tk,rfl,q⟩
theorem e7_:OpR X (compareOp .LtE) (fun x y H Q=>∃i j,x=.str i/\y=.str j/\Q (.bl (!decide (j.cps.toList<i.cps.toList))) H):=by
 intro pins s σ H x y v u Q I rx ry h;obtain⟨i,j,rfl,rfl,q⟩:=h;obtain⟨t,rfl⟩:=rx;obtain⟨t',rfl⟩:=ry;exact PySem.P.le_str ⟨.bl _,H,I,rfl,q⟩
def tView(mk:Addr->Addr->HO)(td:TE):TE:=fun σ H Q=>td σ H fun x H1=>∃d kvs,x=.ref d/\H1 d=some (.dK kvs)/\∀v,H1 v=none->Q (.ref v) (upd H1 v (mk v d))
theorem jM_{pins:List (Addr × Obj)}{σ:St}{H:Hp}{s:Shared}{d:Addr}{cls:String}(I:Inv X pins σ H s)(φ:Heap->Prop)(hφ:φ (s.heap.push { cls:=.type cls,data:=.fields #[.ref d] }))(hs:∀h1 h2:Heap,φ h1->(∀o,h1.get? s.heap.objs.size=some o->h2.get? s.heap.objs.size=some o)->φ h2) :
  Inv X pins σ (upd H s.heap.objs.size (.ext φ)) { s with heap:=s.heap.push { cls:=.type cls,data:=.fields #[.ref d] } }:=
 I.laid (t':=s.toks) (fun _ _ q=>Heap.get?_push_of_some _ q) (ag' _) ⟨hφ,⟨_,Heap.get?_push_size _ rfl⟩,hs⟩
theorem cq_{o:Expr}{td:TE}{apos cpos:Pos}(ho:PE X o td)(hbase:attributeBase o "items" X.env (eval o X.env)=eval o X.env:=by rfl)(hline:(apos.endLine == cpos.line)=true:=by rfl):PE X (.Call (.Attribute o "items" apos) [] [] cpos) (tView bo' td):=by
 intro pins s σ H Q I h;refine wpAny_Call_method0_late hbase hline (thn (ho pins s σ H _ I h) fun v s1 ⟨x,H1,I1,r1,d,kvs,e,hd,q⟩=>?_);subst e;cases r1;obtain⟨t1,t2,t3⟩:=kb_ I1 (.inl ⟨kvs,.inl hd⟩);obtain⟨_,_,vs,rel,dd⟩:=fr_ I1.hok hd;refine⟨"dict","dict.items",PySem.F.plainAttrs_dict,PySem.F.slot_dict_items,PySem.F.type_dict_items,t1,t2,Calls.callWith_builtin rfl (PySem.evalArgs_none ?_)⟩;refine call_meetsIn PySem.F.slot_dict_items t1 PySem.F.entry_dict_items (PySem.F.args_dict_items_1 _) (meets_dict_items (bb' X.prog X.w) d t3) ⟨⟨vs,dd⟩,?_⟩;exact⟨.ref _,_,jM_ I1 _ ⟨_,Heap.get?_push_size _ rfl,rfl,rfl⟩ fun h1 h2 ⟨o,e,r⟩ k=>⟨o,k o e,r⟩,rfl,q _ I1.fresh⟩
end
section
variable{X:Cx}{pins:List (Addr × Obj)}{σ:St}{H:Hp}{s:Shared}{d:Addr}{kvs:List (Key × V)}
theorem Inv.freeze(I:Inv X pins σ H s)(h:H d=some (.dK kvs)):∃o,s.heap.get? d=some o/\Inv X pins σ (upd H d (.frz o (.dK kvs))) s:=by
 obtain⟨z,hd,vs,rel,dd⟩:=fr_ I.hok h;obtain⟨o,es,ep,ho,r⟩:=id dd;have other:∀{b u},H b=some u->u≠.dK kvs->upd H d (.frz o (.dK kvs)) b=some u:=fun {b u} e ne=>by rw[a4_ (aN_ e h ne)];exact e
 refine⟨o,ho,I.un (h':=s.heap) (t':=s.toks) ⟨fun b u q _ _ _=>q,fun b u q _ _ _=>⟨u.slots,q⟩,fun b u q n _=>?_,fun b u q _=>⟨u,q⟩,fun b xs q=>other q (by simp),fun b u v q=>other q (by simp),fun b ps q=>⟨#[],by rw[Array.append_empty];exact other q (by simp)⟩⟩ fun b u q=>?_⟩
 ·by_cases e:b=d
  ·subst e;rw[h] at n;cases n
  ·rw[a4_ e];exact n
 ·by_cases e:b=d
  ·subst e;rw[a1_] at q;cases q;exact⟨ho,z,hd,vs,rel,dd⟩
  ·rw[a4_ e] at q;exact (I.hok b u q).stay (fun c v _ z=>z) (fun c z=>other z (by simp)) fun c xs z=>other z (by simp)
theorem Inv.thaw{o:Obj}(I:Inv X pins σ H s)(h:H d=some (.frz o (.dK kvs)))(h0:∀o u,X.H₀ d≠some (.frz o u)):Inv X pins σ (upd H d (.dK kvs)) s:=by
 have other:∀{b u},H b=some u->(∀o v,u≠.frz o v)->upd H d (.dK kvs) b=some u:=fun {b u} e ne=>by rw[a4_ (aN_ e h (ne _ _))];exact e
 have none':∀{b},H b=none->upd H d (.dK kvs) b=none:=fun {b} e=>by
  rw[a4_ (fun z=>by subst z;rw[h] at e;cases e)];exact e
 refine⟨I.ok,I.os,I.bare,⟨I.base.keep,I.base.slot,fun b u q n hx=>none' (I.base.free b u q n hx),I.base.there,fun b xs q=>other (I.base.tups b xs q) (by simp),fun b u v q=>?_,fun b ps q=>?_⟩,I.loc,I.cell,none' I.free,fun x c e=>none' (I.freeC x c e),fun p hp=>?_,fun b u q=>?_,I.len⟩
 ·have:=I.base.frzs b u v q;rw[a4_ (fun z=>by subst z;exact h0 _ _ q)];exact this
 ·obtain⟨more,e⟩:=I.base.tbls b ps q;exact⟨more,other e (by simp)⟩
 ·obtain⟨a1,a2,a3⟩:=I.pin p hp;exact⟨a1,none' a2,a3⟩
 ·by_cases e:b=d
  ·subst e;rw[a1_] at q;cases q;obtain⟨ho,z,hd,vs,rel,dd⟩:=I.hok b _ h;exact⟨z,hd,vs,rel,dd⟩
  ·rw[a4_ e] at q;exact (I.hok b u q).stay (fun c v _ z=>z) (fun c z=>other z (by simp)) fun c xs z=>other z (by simp)
end
theorem bz_{X:Cx}{pins:List (Addr × Obj)}{σ:St}{H:Hp}{s:Shared}{d:Addr}{kvs:List (Key × V)}{o:Obj}{es:Array DictEntry}{ep:Nat}(I:Inv X pins σ H s)(h:H d=some (.frz o (.dK kvs)))(ho:o.data=.dict es ep):∃vs,KV kvs vs/\s.heap.DictAt (bb' X.prog X.w) d vs ep:=by
 obtain⟨e,z,hd,vs,rel,o',es',ep',e',c',d',r⟩:=I.hok d _ h;rw[e] at e';cases e';rw[ho] at d';cases d';exact⟨vs,rel,o,es,e,c',ho,r⟩
theorem iA_{κ:Type}{kvs:List (κ × V)}{vs:List (κ × Value)}(r:KV kvs vs):∀(i:Nat) {k:κ} {x:V},kvs[i]? = some (k,x)->∃u,vs[i]? = some (k,u)/\RelV x u:=by
 induction r with
 |nil=>intro i k x e;simp at e
 |@cons p q _ _ h _ ih=>
  intro i k x e;cases i with
  |zero=>
   have e:p=(k,x):=by simpa using e
   subst e;refine⟨q.2,?_,h.2⟩;rw[List.getElem?_cons_zero];have h1:k=q.1:=h.1;rw[h1]
  |succ i=>exact ih i (by simpa using e)
def Its(x:Str):It:=⟨fun i _=>i<x.cps.size,fun i H v H'=>H'=H/\∃c,x.cps[i]? = some c/\v=.str ⟨#[c]⟩,fun i _=>x.cps.size<=i⟩
theorem fu_{P:Program}{w:World}{K:F__}{tg:Expr}(it:Addr)(x:Str)(t:Tok):Turn P w K tg (Its x) [it] it (fun i h=>i<=x.cps.size/\h.IsStrIter it "str_ascii_iterator" x t i) where
 mem:=by simp
 obj:=fun i h st b hb=>by
  obtain rfl:b=it:=by simpa using hb
  obtain⟨o,e,c,d⟩:=st.2;exact⟨o,e,fun v z=>by rw[d] at z;cases z⟩
 keep:=fun i h h' st k=>⟨st.1,let ⟨o,ho,r⟩:=st.2;⟨o,k it (by simp) o ho,r⟩⟩
 item:=by
  intro X hP hw hK hc i pins s σ H E I hf st hg;subst hP hw hK;have hg:i<x.cps.size:=hg;obtain⟨f0,f1,f2,f3,f4,f5⟩:=hf it (by simp);refine wpAny_pyNext_ascii_item st.2 (c:=x.cps[i]) (by simp[hg]) fun h' st' sb=>?_;have I1:Inv X pins σ H { s with heap:=h',toks:=s.toks+1 }:=I.turned (t':=s.toks+1) (fun b o hb e=>(sb.2 b hb).trans e) f0 f1 f3 f4 f5;obtain⟨o',e,c,dd⟩:=id st';exact⟨_,rfl,gD_ (s:={ s with heap:=h',toks:=s.toks+1 }) e c dd (by decide) ⟨.str ⟨#[x.cps[i]]⟩,H,I1,⟨_,rfl⟩,⟨rfl,_,by simp[hg],rfl⟩,⟨hg,st'⟩,fun b hb=>(hf b hb).1⟩⟩
 done:=by
  intro X hP hw hK hc i pins s σ H E I hf st hg;subst hP hw hK;have hg:x.cps.size<=i:=hg;obtain⟨f0,f1,f2,f3,f4,f5⟩:=hf it (by simp);exact wpAny_pyNext_ascii_end (I.ok.hd hc) st.2 (by simp[hg]) fun h' eb=>⟨rfl,I.turned (t':=s.toks) (fun b o hb e=>eb b o hb e) f0 f1 f3 f4 f5⟩
 self:=fun _ _ _ _ _ st h=>wpAny_pyIter_striter_ascii st.2 h
theorem fL_{P:Program}{w:World}{K:F__}{tg:Expr}(it:Addr)(x:Str)(t:Tok):Turn P w K tg (Its x) [it] it (fun i h=>i<=x.cps.size/\h.IsStrIter it "str_iterator" x t i) where
 mem:=by simp
 obj:=fun i h st b hb=>by
  obtain rfl:b=it:=by simpa using hb
  obtain⟨o,e,c,d⟩:=st.2;exact⟨o,e,fun v z=>by rw[d] at z;cases z⟩
 keep:=fun i h h' st k=>⟨st.1,let ⟨o,ho,r⟩:=st.2;⟨o,k it (by simp) o ho,r⟩⟩
 item:=by
  intro X hP hw hK hc i pins s σ H E I hf st hg;subst hP hw hK;have hg:i<x.cps.size:=hg;obtain⟨f0,f1,f2,f3,f4,f5⟩:=hf it (by simp);refine wpAny_pyNext_wide_item st.2 (c:=x.cps[i]) (by simp[hg]) fun h' st' sb=>?_;have I1:Inv X pins σ H { s with heap:=h',toks:=s.toks+1 }:=I.turned (t':=s.toks+1) (fun b o hb e=>(sb.2 b hb).trans e) f0 f1 f3 f4 f5;obtain⟨o',e,c,dd⟩:=id st';exact⟨_,rfl,gD_ (s:={ s with heap:=h',toks:=s.toks+1 }) e c dd (by decide) ⟨.str ⟨#[x.cps[i]]⟩,H,I1,⟨_,rfl⟩,⟨rfl,_,by simp[hg],rfl⟩,⟨hg,st'⟩,fun b hb=>(hf b hb).1⟩⟩
 done:=by
  intro X hP hw hK hc i pins s σ H E I hf st hg;subst hP hw hK;have hg:x.cps.size<=i:=hg;obtain⟨f0,f1,f2,f3,f4,f5⟩:=hf it (by simp);exact wpAny_pyNext_wide_end (I.ok.hd hc) st.2 (by simp[hg]) fun h' eb=>⟨rfl,I.turned (t':=s.toks) (fun b o hb e=>eb b o hb e) f0 f1 f3 f4 f5⟩
 self:=fun _ _ _ _ _ st h=>wpAny_pyIter_striter_wide st.2 h
def iStr(tl:TE):TI:=fun σ H R=>tl σ H fun v H1=>∃x,v=.str x/\R (Its x) H1
theorem ka_{X:Cx}{tg l:Expr}{tl:TE}(hl:PE X l tl):PI X tg l (iStr tl):=by
 intro pins s σ H R I h;refine thn (hl pins s σ H _ I h) fun v s1 ⟨y,H1,I1,r1,x,e,q⟩=>?_;subst e;obtain⟨t,rfl⟩:=r1
 have fp:∀b∈[s1.heap.objs.size],FpOk X pins H1 b:=fun b hb=>by
  obtain rfl:b=s1.heap.objs.size:=by simpa using hb
  exact I1.fpOk (ag' _) (I1.hok.fresh (ag' _))
 cases ha:x.cps.all (· < 128)
 ·refine wpAny_pyIter_wide ha ?_;exact⟨s1.heap.objs.size,[s1.heap.objs.size],_,_,H1,rfl,I1.kept (t':=s1.toks) fun b o e=>Heap.get?_push_of_some _ e,fL_ _ x t,⟨aC' _,_,Heap.get?_push_size _ rfl,rfl,rfl⟩,fp,q⟩
 ·refine wpAny_pyIter_ascii ha ?_;exact⟨s1.heap.objs.size,[s1.heap.objs.size],_,_,H1,rfl,I1.kept (t':=s1.toks) fun b o e=>Heap.get?_push_of_some _ e,fu_ _ x t,⟨aC' _,_,Heap.get?_push_size _ rfl,rfl,rfl⟩,fp,q⟩
end L2
namespace L2
open PySem PySem.Spec PyProof.Rows PySem.W EvS EvD
theorem opK{X:Cx}{f:Value->Value->Sem Value}{K:F__}(r:F__->R2)(h:OpR X f (r X.K))(hK:X.K=K:=by rfl):OpR X f (r K):=by
 subst hK;exact h
theorem ixK{X:Cx}{K:F__}(r:F__->R2)(h:IxR X (r X.K))(hK:X.K=K:=by rfl):IxR X (r K):=by
 subst hK;exact h
theorem eo_{X:Cx}{N:List Str}{scope:Scope}{fp:List Addr}{s:Shared}{H:Hp}{es:List Expr}{k:Nat}{pos:Pos}{t:TGs}{n:Nat}(h:PGs (bg' X N scope fp s H) es t)(hc:X.calm=true:=by rfl)
  (hn:(assignEach es (bg' X N scope fp s H).env).length=n:=by rfl) (hst:(assignEach es (bg' X N scope fp s H).env).findIdx? (·.1)=none:=by rfl):PG (bg' X N scope fp s H) (.Tuple es k pos) (gTup X.K n t):=bd_ (X:=bg' X N scope fp s H) hc h hn hst
end L2
namespace Ev
open PySem L2
def top(i:Nat):Stmt:=PySem.Challenge.pw_evenpieces_k28_what_below_gives.main.body.getD i (.Pass ⟨0,0,0,0⟩)
abbrev sIsW:Stmt:=top 12
abbrev sWhole:Stmt:=top 14
abbrev sName:Stmt:=top 15
abbrev cU':Stmt:=top 16
abbrev sPair:Stmt:=top 17
abbrev de':Stmt:=top 18
abbrev sHand:Stmt:=top 48
abbrev sStr:Stmt:=top 49
abbrev sTies:Stmt:=top 50
abbrev sNear:Stmt:=top 51
abbrev sWeb:Stmt:=top 53
def ltS(a b:Str):Bool:=decide (a.cps.toList<b.cps.toList)
def ord2(a b:Str):Str × Str:=if ltS a b=true then (a,b) else (b,a)
section
variable{P:Program}{w:World}{K:F__}{mg:Str->Option Value}{base:Heap}
theorem f__{N p:List Str}{c:Scope}(h:a8' N p c:=by exact⟨rfl,rfl,rfl,by decide +kernel,rfl,by decide +kernel,by decide +kernel⟩):a8' N p c:=h
theorem scLesser:a8' ["one","other"] ["one","other"] (a7' cU'):=f__
def bS':Sp:=fun vs H Q _=>∃a b,vs=[.str a,.str b]/\∀t,H t=none->Q (.ref t) (upd H t (.tup [.str (ord2 a b).1,.str (ord2 a b).2]))
theorem gm_{f:Addr}{fd:FuncData}(F:Fun K "lesser_first" "lesser_first" cU' f fd):FnOk P w K mg base CX0 1 f fd ["one","other"] bS':=by
 refine F.ok scLesser (fun vs H Q E h=>?_) (fun cdv A outer s H vs Q E hr h=>?_)
 ·obtain⟨a,b,rfl,_⟩:=h;rfl
 ·obtain⟨a,b,rfl,k⟩:=h;refine⟨_,a5_ (ab_ (hf_ (ak_ fM_ (pv 0) (pv 1) (nomark _)) (aP_ (a0_ (pv 0) (a0_ (pv 1) a3_))) (aP_ (a0_ (pv 1) (a0_ (pv 0) a3_))))),?_⟩;refine⟨_,rfl,_,rfl,a,b,rfl,rfl,_,rfl,?_⟩;refine ite2 (fun c=>?_) (fun c=>?_)
  ·refine⟨_,rfl,_,rfl,by show 2<=sizeLine;decide,fun t ht=>?_⟩;have:=k t ht;rwa [show ord2 a b=(a,b) from if_pos c] at this
  ·refine⟨_,rfl,_,rfl,by show 2<=sizeLine;decide,fun t ht=>?_⟩;have:=k t ht;rwa [show ord2 a b=(b,a) from if_neg c] at this
theorem scWhole:a8' ["thing","least","most"] ["thing","least","most"] (a7' sWhole):=f__
def cq':Sp:=fun vs H Q _=>∃i a b:Int,vs=[.int i,.int a,.int b]/\Q (.bl (decide (a<=i)&&decide (i<=b))) H
structure Bi (mg:Str->Option Value):Prop where
 isi:mg "isinstance"=none
 int:mg "int"=none
 bool:mg "bool"=none
 str:mg "str"=none
 tuple:mg "tuple"=none
 list:mg "list"=none
 dict:mg "dict"=none
 len:mg "len"=none
 all:mg "all"=none
 sorted:mg "sorted"=none
 max:mg "max"=none
 range:mg "range"=none
 any:mg "any"=none
 enum:mg "enumerate"=none
 min:mg "min"=none
 abs:mg "abs"=none
structure Cal (P:Program) (w:World) (K:F__) (mg:Str->Option Value) (base:Heap) (k:Nat) (x:Str) (ps:List Str) (sp:Sp):Prop where
 ex:∃f fd,FnOk P w K mg base CX0 k f fd ps sp/\mg x=some (.ref f)/\PySem.W.keepIn K (.ref f)=true/\bW' K fd ps []
theorem ae_{X:Cx}{k:Nat}{x:Str}{ps:List Str}{sp:Sp}{p pos:Pos}{e:Expr}{es:List Expr}{t:TA}(c:Cal X.prog X.w X.K X.mg X.base k x ps sp)(hr:Room k X.A)(ha:PA X (e::es) t)(hg:Gl X x:=by rfl)(hdb:(x == ("__debug__":Str))=false:=by decide)
  (he:starEach (e::es) X.env=(false,eval e X.env)::starEach es X.env:=by rfl) (hpl:(backTo pos (starEach es X.env)).any (·.1)=false:=by rfl):PE X (.Call (.Name x p) (e::es) [] pos) (tCall sp [] E0 t):=by
 obtain⟨f,fd,F,m,kp,b⟩:=c.ex;exact iK_ F hr hg m kp b .nil pass0 ha hdb he hpl
theorem scIsW:a8' ["thing"] ["thing"] (a7' sIsW):=f__
def spIsW:Sp:=fun vs H Q _=>∃i:Int,vs=[.int i]/\Q (.bl true) H
theorem kp_{f:Addr}{fd:FuncData}(F:Fun K "is_whole" "is_whole" sIsW f fd)(B:Bi mg):FnOk P w K mg base CX0 1 f fd ["thing"] spIsW:=by
 refine F.ok scIsW (fun vs H Q E h=>?_) (fun cdv A outer s H vs Q E hr h=>?_)
 ·obtain⟨i,rfl,_⟩:=h;rfl
 ·obtain⟨i,rfl,k⟩:=h;refine⟨_,a5_ (ab_ (bs_ (af_ aM_ (by rfl) B.isi PyProof.Rows.Boot.«isinstance» (a0_ (pv 0) (a0_ (aZ_ (v:=.ty "int") (by rfl) B.int PyProof.Rows.Boot.«int» rfl) a3_))) (bg_ (jZ_ (af_ aM_ (by rfl) B.isi PyProof.Rows.Boot.«isinstance» (a0_ (pv 0) (a0_ (aZ_ (v:=.ty "bool") (by rfl) B.bool PyProof.Rows.Boot.«bool» rfl) a3_))))))),?_⟩;exact⟨_,rfl,_,_,_,_,rfl,.int i,rfl,_,rfl,iteT ⟨_,rfl,_,_,_,_,rfl,.int i,rfl,_,rfl,k⟩⟩
theorem hQ_{f:Addr}{fd:FuncData}(F:Fun K "is_whole_within" "is_whole_within" sWhole f fd)(cI:Cal P w K mg base 1 "is_whole" ["thing"] spIsW):FnOk P w K mg base CX0 2 f fd ["thing","least","most"] cq':=by
 refine F.ok scWhole (fun vs H Q E h=>?_) (fun cdv A outer s H vs Q E hr h=>?_)
 ·obtain⟨i,a,b,rfl,_⟩:=h;rfl
 ·obtain⟨i,a,b,rfl,k⟩:=h;refine⟨_,a5_ (ab_ (bs_ (ae_ cI hr (a0_ (pv 0) a3_)) (bg_ (eK_ et_ et_ (pv 1) (pv 0) (pv 2))))),?_⟩;refine⟨_,rfl,i,rfl,_,rfl,iteT ?_⟩;refine⟨_,rfl,_,rfl,_,_,rfl,rfl,_,rfl,?_⟩;refine ite2 (fun c=>?_) (fun c=>?_)
  ·refine⟨_,rfl,_,_,rfl,rfl,?_⟩;rw[c] at k;exact k
  ·rw[show decide (a<=i)=false by simpa using c] at k;exact k
def okc(c:Nat):Bool:=decide (97<=c)&&decide (c<=122)
def bx'(x:Str):Bool:=decide (1<=x.length)&&decide (x.length<=8)&&x.cps.toList.all okc
theorem scName:a8' ["thing"] ["thing"] (a7' sName):=f__
def cP':Sp:=fun vs H Q _=>∃x:Str,vs=[.str x]/\x.length<=100000/\∀H',Same H H'->Q (.bl (bx' x)) H'
theorem jp_{c:Nat}:(!decide ((⟨#[c]⟩:Str).cps.toList<("a":Str).cps.toList))=decide (97<=c):=by
 have e:("a":Str).cps.toList=[97]:=by decide +kernel
 rw[e];show (!decide ([c] < [97]))=decide (97<=c);by_cases h:97<=c
 ·have:¬[c] < [97]:=by simp[List.cons_lt_cons_iff];omega
  simp[this,h]
 ·have:[c] < [97]:=by simp[List.cons_lt_cons_iff];omega
  simp[this,h]
theorem iT_{c:Nat}:(!decide (("z":Str).cps.toList<(⟨#[c]⟩:Str).cps.toList))=decide (c<=122):=by
 have e:("z":Str).cps.toList=[122]:=by decide +kernel
 rw[e];show (!decide ([122] < [c]))=decide (c<=122);by_cases h:c<=122
 ·have:¬[122] < [c]:=by simp[List.cons_lt_cons_iff];omega
  simp[this,h]
 ·have:[122] < [c]:=by simp[List.cons_lt_cons_iff];omega
  simp[this,h]
theorem j5_{f:Addr}{fd:FuncData}(F:Fun K "is_name" "is_name" sName f fd)(B:Bi mg){t8:Tok}(m8:mg "MOST_LETTERS"=some (.int 8 t8)):FnOk P w K mg base CX0 1 f fd ["thing"] cP':=by
 refine F.ok scName (fun vs H Q E h=>?_) (fun cdv A outer s H vs Q E hr h=>?_)
 ·obtain⟨x,rfl,_⟩:=h;rfl
 ·obtain⟨x,rfl,hz,k⟩:=h;have sz:=sizeLine_eq
  refine⟨_,a2_ (ar_ (dK_ (aJ_ (aF_ (af_ aM_ (by rfl) B.isi PyProof.Rows.Boot.«isinstance» (a0_ (pv 0) (a0_ (aZ_ (v:=.ty "str") (by rfl) B.str PyProof.Rows.Boot.«str» rfl) a3_)))))
    (ch_ (aJ_ (ew_ et_ et_ a7_ (af_ cn_ (by rfl) B.len PySem.boot_len (a0_ (pv 0) a3_)) (bJ_ (v:=.int 8) (by rfl) m8 ⟨t8,rfl⟩))))).pt (a5_ (ab_ e8_)) ac_)
   (a5_ (ab_ (af_ (hH_ rfl) (by rfl) B.all PyProof.Rows.Boot.«all» (a0_
    (b2_ ["letter"] 1 [] (ka_ (pv 0)) (fun fp s H=>a8_ (i:=0) (show (["letter"]:List Str).Nodup by decide +kernel) rfl (Or.inl rfl)) (fun fp s H=>aY_) (fun fp s H=>eK_ e7_ e7_ an_ (pv 0) an_)) a3_)))),?_⟩
  refine⟨_,rfl,_,_,_,_,rfl,.str x,rfl,_,rfl,?_⟩;refine iteF ?_;refine⟨_,rfl,x,rfl,by omega,_,_,rfl,rfl,_,rfl,?_⟩
  have fin:(decide (1<=x.length)&&decide (x.length<=8))=false->∀H',Same H H'->Q (.bl false) H':=fun e H' sm=>by
   have:=k H' sm;rwa [show bx' x=false by unfold bx';rw[e];rfl] at this
  refine ite2 (fun c=>?_) (fun c=>?_)
  ·have c1:1<=x.length:=by
    have:(1:Int)<=(x.length:Int):=by simpa using c
    omega
   refine⟨_,_,rfl,rfl,_,rfl,?_⟩;refine ite2 (fun c2=>?_) (fun c2=>?_)
   ·-- too long
    have c3:¬x.length<=8:=by
     have:¬((x.length:Int)<=8):=by simpa using c2
     omega
    exact fin (by rw[decide_eq_false c3,aT']) H (Same.refl H)
   ·have c3:x.length<=8:=by
     have:(x.length:Int)<=8:=by simpa using c2
     omega
    refine⟨_,rfl,x,rfl,fun D hD=>?_⟩;refine c5_ (own:=1) (fv:=[]) rfl gok1 x.cps.size (fun i out H'=>H'=upd H D (.lst out)/\out=((x.cps.toList.take i).map okc).map V.bl) ⟨rfl,by simp⟩ (fun out H' ⟨e1,e2⟩=>?_) (fun i out H' hi ⟨e1,e2⟩=>?_)
    ·refine⟨ag' _,D,x.cps.toList.map okc,rfl,.of ?_,?_⟩
     ·rw[e1,a1_,e2,aJ' (by simp)]
     ·have:=k H' (by rw[e1];exact Same.new hD);rwa [show bx' x=(x.cps.toList.map okc).all id by unfold bx';rw[decide_eq_true c1,decide_eq_true c3,List.all_map];rfl] at this
    ·refine⟨hi,fun v H2 y=>?_⟩;obtain⟨eH,c,hc,rfl⟩:=y;subst eH;refine⟨_,rfl,rfl,fun Nx hN=>yesT ?_⟩
     have lo:out.length<sizeLine:=by
      rw[e2];have hs:x.length=x.cps.size:=rfl;simp only[aa',ak',aK'];omega
     have nx:Nx (upd H2 D (.lst (out++[V.bl (okc c)]))):=hN (out++[V.bl (okc c)]) _ ⟨by rw[e1,j1_],by
      rw[e2,aD'];simp[hc]⟩
     have atD:H2 D=some (.lst out):=by rw[e1,a1_]
     refine⟨_,rfl,_,_,rfl,rfl,_,rfl,?_⟩;rw[jp_];refine ite2 (fun c2=>?_) (fun c2=>?_)
     ·refine⟨_,_,rfl,rfl,out,atD,lo,?_⟩;rw[iT_];rwa [show okc c=decide (c<=122) by unfold okc;rw[c2];rfl] at nx
     ·refine⟨out,atD,lo,?_⟩;rwa [show okc c=false by unfold okc;rw[show decide (97<=c)=false by simpa using c2];rfl] at nx
  ·have c1:¬1<=x.length:=by
    have:¬((1:Int)<=(x.length:Int)):=by simpa using c
    omega
   exact⟨_,rfl,iteT (fin (by rw[decide_eq_false c1];rfl) H (Same.refl H))⟩
end
end Ev
namespace Ev
open PySem L2
def kT(t:Str × Str):List Key:=[.inr t.1,.inr t.2]
def cX'(t:Str × Str):Prop:=bx' t.1=true/\bx' t.2=true/\t.1≠t.2
theorem bU_{x:Str}(h:bx' x=true):x.length<=8:=by
 unfold bx' at h;simp only[a1',decide_eq_true_eq] at h;exact h.1.2
theorem hpT{H:Hp}{p:Addr}{t:Str × Str}(h:H p=some (.tup ((kT t).map kV))):H p=some (.tup [.str t.1,.str t.2]):=h
section
variable{P:Program}{w:World}{K:F__}{mg:Str->Option Value}{base:Heap}
theorem scPair:a8' ["thing"] ["thing"] (a7' sPair):=f__
def spPair:Sp:=fun vs H Q _=>∃(p:Addr) (a b:Str),vs=[.ref p]/\H p=some (.tup [.str a,.str b])/\a.length<=100000/\b.length<=100000/\∀H',Same H H'->Q (.bl (bx' a&&bx' b&&!decide (a=b))) H'
theorem iJ_{f:Addr}{fd:FuncData}(F:Fun K "is_pair_of_names" "is_pair_of_names" sPair f fd)(B:Bi mg)(cN:Cal P w K mg base 1 "is_name" ["thing"] cP'):FnOk P w K mg base CX0 2 f fd ["thing"] spPair:=by
 refine F.ok scPair (fun vs H Q E h=>?_) (fun cdv A outer s H vs Q E hr h=>?_)
 ·obtain⟨p,a,b,rfl,_⟩:=h;rfl
 ·obtain⟨p,a,b,rfl,hp,la,lb,k⟩:=h
  refine⟨_,a2_ (ar_ (dK_ (aJ_ (aF_ (af_ aM_ (by rfl) B.isi PyProof.Rows.Boot.«isinstance» (a0_ (pv 0) (a0_ (aZ_ (v:=.ty "tuple") (by rfl) B.tuple PyProof.Rows.Boot.«tuple» rfl) a3_)))))
    (ch_ (ak_ ft_ (af_ aL_ (by rfl) B.len PySem.boot_len (a0_ (pv 0) a3_)) a7_ (nomark _)))).pt (a5_ (ab_ e8_)) ac_)
   (a5_ (ab_ (bs_ (ae_ cN hr (a0_ (ax_ aI_ (pv 0) a7_ (fun _ _=>rfl)) a3_)) (bs_ (ae_ cN hr (a0_ (ax_ aI_ (pv 0) a7_ (fun _ _=>rfl)) a3_))
    (bg_ (aQ_ ft_ (ax_ aI_ (pv 0) a7_ (fun _ _=>rfl)) (ax_ aI_ (pv 0) a7_ (fun _ _=>rfl)) (nomark _))))))),?_⟩
  refine⟨_,rfl,_,_,_,_,rfl,.tup hp,rfl,_,rfl,iteF ?_⟩;refine⟨_,rfl,p,_,rfl,.inr (.of hp),rfl,_,rfl,?_⟩;refine iteNS (show V.int ((2:Nat):Int)=V.int 2 from rfl) ?_;refine⟨_,rfl,p,_,_,_,rfl,rfl,.of hp,rfl,a,rfl,la,fun H1 s1=>⟨_,rfl,?_⟩⟩;have hp1:=s1 _ _ hp;refine ite2 (fun c=>?_) (fun c=>?_)
  ·refine⟨_,rfl,p,_,_,_,rfl,rfl,.of hp1,rfl,b,rfl,lb,fun H2 s2=>⟨_,rfl,?_⟩⟩;have hp2:=s2 _ _ hp1;have kk:=k H2 (s1.trans s2);refine ite2 (fun c2=>?_) (fun c2=>?_)
   ·refine⟨_,rfl,p,_,_,_,rfl,rfl,.of hp2,rfl,_,rfl,p,_,_,_,rfl,rfl,.of hp2,rfl,rfl,?_⟩;rw[c,c2] at kk
    have e:decide (V.str a=V.str b)=decide (a=b):=by
     by_cases z:a=b
     ·simp[z]
     ·simp[z]
    show Q (.bl (!decide (V.str a=V.str b))) H2;rw[e];exact kk
   ·rw[c,show bx' b=false by simpa using c2] at kk;exact kk
  ·have kk:=k H1 s1;rw[show bx' a=false by simpa using c] at kk;exact kk
theorem cd':a8' ["ties","found","pair","tie"] ["ties"] (a7' de'):=f__
def cc'(K:F__):Sp:=fun vs H Q _=>∃(l:Addr) (ys:List V) (ts:List (Str × Str)),vs=[.ref l]/\H l=some (.lst ys)/\ba' K H ys (ts.map kT)/\(∀t∈ts,cX' t)/\(ts.map fun t=>kT (ord2 t.1 t.2)).Nodup/\ts.length<64 /\
 ∀l' zs H',Same H H'->H l'=none->H' l'=some (.lst zs)->ba' K H' zs (sortKs (ts.map fun t=>kT (ord2 t.1 t.2)))->Q (.ref l') H'
theorem aD_{α β γ:Type}{F:α->γ->Prop}{g:β->γ}{ys:List α}{ts:List β}(t:Paired F ys (ts.map g)){i:Nat}{y:α}(h:ys[i]? = some y):∃x,ts[i]? = some x/\F y (g x):=by
 have hi:i<ys.length:=(ab'.mp h).1;have hl:=Paired.length t;rw[aa'] at hl;have:=az_ t i hi (by rw[aa'];omega);rw[List.getElem_map] at this;refine⟨ts[i],ah' (by omega),?_⟩;rw[(ab'.mp h).2] at this;exact this
theorem aK_{κ:Type}[DecidableEq κ]{kvs:List (κ × V)}{k:κ}(h:k∉kvs.map (·.1)):valV kvs k=none:=by
 cases e:valV kvs k with
 |none=>rfl
 |some v=>exact absurd (j0_ e) h
theorem bp_{α β:Type}(g:α->β){ts:List α}{i:Nat}{x:α}(h:ts[i]? = some x):(ts.take (i+1)).map g=(ts.take i).map g++[g x]:=by
 rw[aD',h,am'];rfl
theorem bh_{α β:Type}{g:α->β}{ts:List α}{i:Nat}{x:α}(h:(ts.map g).Nodup)(hx:ts[i]? = some x):g x∉(ts.take i).map g:=by
 intro m;have hi:i<ts.length:=(ab'.mp hx).1;obtain⟨y,hy,e⟩:=ac'.mp m;obtain⟨j,hj,e2⟩:=aL' hy;rw[ak'] at hj;rw[List.getElem_take] at e2;rw[aB',aG',List.pairwise_iff_getElem] at h;refine h j i (by omega) hi (by omega) ?_;rw[e2,e,(ab'.mp hx).2]
theorem g0_{f:Addr}{fd:FuncData}(F:Fun K "sorted_ties" "sorted_ties" de' f fd)(B:Bi mg)(cP:Cal P w K mg base 2 "is_pair_of_names" ["thing"] spPair)(cL:Cal P w K mg base 1 "lesser_first" ["one","other"] bS'):FnOk P w K mg base CX0 3 f fd ["ties"] (cc' K):=by
 refine F.ok cd' (fun vs H Q E h=>?_) (fun cdv A outer s H vs Q E hr h=>?_)
 ·obtain⟨l,ys,ts,rfl,_⟩:=h;rfl
 ·obtain⟨l,ys,ts,rfl,hl,tu,good,nd,h64,k⟩:=h;have hu:=b0_ hr;have hr1:Room 1 _:=hr.mono (by decide);have sz:=sizeLine_eq
  refine⟨_,a2_ (ar_ (aJ_ (aF_ (af_ aM_ (by rfl) B.isi PyProof.Rows.Boot.«isinstance» (a0_ (pv 0) (a0_ (aZ_ (v:=.ty "list") (by rfl) B.list PyProof.Rows.Boot.«list» rfl) a3_))))) ag_ ac_)
   (a2_ (a9_ (i:=1) cd'.nd rfl (Or.inl rfl) hr_)
   (a2_ (aG_ PassesOwn.never rfl (am_ (pv 0)) (a8_ (i:=2) cd'.nd rfl (Or.inl rfl))
    (a2_ (ar_ (aJ_ (aF_ (ae_ cP hr (a0_ (pv 2) a3_)))) ag_ ac_)
    (a2_ (a9_ (i:=3) cd'.nd rfl (Or.inl rfl) (ae_ cL hr1 (a0_ (ax_ aI_ (pv 2) a7_ (fun _ _=>rfl)) (a0_ (ax_ aI_ (pv 2) a7_ (fun _ _=>rfl)) a3_))))
    (a2_ (ar_ (cm_ (d4_ hu (pv 3) (pv 1))) ag_ ac_)
    (a5_ (ba_ hu (pv 1) (pv 3) e8_ rfl))))))
   (a5_ (ab_ (af_ (eb_ rfl) (by rfl) B.sorted PyProof.Rows.Boot.«sorted» (a0_ (pv 1) a3_)))))),?_⟩
  refine⟨_,rfl,_,_,_,_,rfl,.lst hl,rfl,_,rfl,iteF ?_⟩;intro d hd;have s0:Same H (upd H d (.dT [])):=Same.new hd;refine⟨_,rfl,l,rfl,⟨_,.of (s0 _ _ hl)⟩,as_ (K:=K) (a:=l) (xs:=ys) (fun i σ H2=>∃(v3 v4:Option V),σ=[some (.ref l),some (.ref d),v3,v4]/\Same H H2/\H2 d=some (.dT ((ts.take i).map fun t=>(kT (ord2 t.1 t.2),V.bl true)))) ⟨none,none,rfl,s0,a1_⟩ (fun i σ H2 _ ⟨_,_,_,s2,_⟩=>.of (s2 _ _ hl)) ?_ ?_⟩
  ·rintro i y σ H2 hy ⟨v3,v4,rfl,s2,hd2⟩;obtain⟨t,ht,a,rfl,ha⟩:=aD_ tu hy;obtain⟨g1,g2,g3⟩:=good t (ae' ht);have ha2:=s2 _ _ (hpT ha);refine⟨_,rfl,a,t.1,t.2,rfl,ha2,by have:=bU_ g1;omega,by have:=bU_ g2;omega,fun H3 s3=>⟨_,rfl,?_⟩⟩;have ha3:=s3 _ _ ha2;have hd3:=s3 _ _ hd2;rw[g1,g2,decide_eq_false g3];refine iteF ?_;refine⟨_,rfl,a,_,_,_,rfl,rfl,.of ha3,rfl,_,rfl,a,_,_,_,rfl,rfl,.of ha3,rfl,t.1,t.2,rfl,fun b hb=>?_⟩;have s4:Same H3 (upd H3 b (.tup [.str (ord2 t.1 t.2).1,.str (ord2 t.1 t.2).2])):=Same.new hb;have hd4:=s4 _ _ hd3;have hb4:upd H3 b (.tup [.str (ord2 t.1 t.2).1,.str (ord2 t.1 t.2).2]) b=some (.tup ((kT (ord2 t.1 t.2)).map kV)):=a1_
   have nov:valV ((ts.take i).map fun t=>(kT (ord2 t.1 t.2),V.bl true)) (kT (ord2 t.1 t.2))=none:=aK_ (by
    rw[al'];exact bh_ (g:=fun t=>kT (ord2 t.1 t.2)) nd ht)
   refine⟨_,rfl,_,rfl,d,_,rfl,.t (k:=kT (ord2 t.1 t.2)) hd4 hb4,_,rfl,?_⟩;rw[nov];refine iteF ?_;refine⟨_,rfl,_,rfl,d,_,rfl,.t (k:=kT (ord2 t.1 t.2)) hd4 hb4 (by rw[aa',ak'];omega),?_⟩;refine⟨_,_,rfl,fun c o e=>?_,?_⟩
   ·rw[a4_ (a6_ e hd)];exact s4 _ _ (s3 _ _ (s2 _ _ e))
   ·rw[a1_,bA_ _ nov,bp_ _ ht]
  ·rintro σ H2 ⟨v3,v4,rfl,s2,hd2⟩;have le:=Paired.length tu;rw[aa'] at le;rw[le,ar'] at hd2;refine⟨_,rfl,d,_,[true,true],rfl,hd2,⟨by decide,fun k hk=>?_⟩,by rw[aa'];exact h64,fun l' zs hn tz=>?_⟩
   ·rw[al'] at hk;obtain⟨t,_,rfl⟩:=ac'.mp hk;rfl
   ·rw[al'] at tz;exact k l' zs _ (s2.trans (Same.new hn)) (s2.free hn) a1_ (tz.same (Same.new hn))
theorem bv_{K:F__}{H:Hp}{ys:List V}{ks:List (List Key)}{a:Addr}{k:List Key}(t:ba' K H ys ks)(h:H a=some (.tup (k.map kV))):ba' K H (ys++[.ref a]) (ks++[k]):=Paired.snoc t ⟨a,rfl,h⟩
theorem aC_{H H1:Hp}{D:Addr}{o:HO}(h:Same H H1)(hD:H D=none):Same H (upd H1 D o):=fun b u e=>by rw[a4_ (a6_ e hD)];exact h b u e
theorem b4_{K:F__}{H:Hp}{ys:List V}{ks:List (List Key)}{D:Addr}{o:HO}{xs:List V}(t:ba' K H ys ks)(hD:H D=some (.lst xs)):ba' K (upd H D o) ys ks:=Paired.mapP t fun y k ⟨a,z,q⟩=>⟨a,z,by rw[a4_ (aN_ q hD nofun)];exact q⟩
end
end Ev
namespace Ev
open PySem L2
def kH(h:Str × Int):List Key:=[.inr h.1,.inl h.2]
def goodH(h:Str × Int):Prop:=bx' h.1=true/\1<=h.2/\h.2<=1000
def kvOf:List Key->Key × V
 |[k,v]=>(k,kV v)
 |_=>(.inl 0,.non)
def sortH(hs:List (Str × Int)):List (Key × V):=(sortKs (hs.map kH)).map kvOf
theorem hpH{H:Hp}{p:Addr}{t:Str × Int}(h:H p=some (.tup ((kH t).map kV))):H p=some (.tup [.str t.1,.int t.2]):=h
theorem d6_:∀(more kvs:List (Key × V)),(kvs.map (·.1)++more.map (·.1)).Nodup->bt' kvs more=kvs++more
 |[],kvs,_=>by
  show kvs=kvs++[];rw[aA']
 |p::more,kvs,h=>by
  show bt' (putK kvs p.1 p.2) more=kvs++p::more
  have hn:valV kvs p.1=none:=aK_ fun m=>by
   rw[ap',List.nodup_append] at h;exact h.2.2 p.1 m p.1 af' rfl
  rw[bA_ _ hn,d6_ more (kvs++[(p.1,p.2)])]
  ·simp
  ·simpa using h
theorem aS_{more:List (Key × V)}(h:(more.map (·.1)).Nodup):bt' [] more=more:=by
 rw[d6_ more [] (by simpa using h)];rfl
theorem d2_(hs:List (Str × Int)):((sortH hs).map (·.1)).Perm (hs.map fun h=>Sum.inr h.1):=by
 unfold sortH;rw[al'];have p:=(ap_ (hs.map kH)).map fun k=>(kvOf k).1;rw[al'] at p;exact p
theorem cv_{hs:List (Str × Int)}(h:(hs.map (·.1)).Nodup):((sortH hs).map (·.1)).Nodup:=by
 refine (d2_ hs).nodup_iff.mpr ?_;have:(hs.map fun h=>(Sum.inr h.1:Key))=(hs.map (·.1)).map Sum.inr:=by rw[al'];rfl
 rw[this,aB',aG'];exact h.imp fun n e=>n (Sum.inr.inj e)
theorem bZ'{k:Nat}{A:Around}(hr:Room k A)(n:Nat)(h:n+1<=64:=by decide):A.units+n+1<cLine:=by
 have:=hr.units;omega
section
variable{P:Program}{w:World}{K:F__}{mg:Str->Option Value}{base:Heap}
theorem scHand:a8' ["thing"] ["thing"] (a7' sHand):=f__
def spHand:Sp:=fun vs H Q _=>∃(p:Addr) (a:Str) (n:Int),vs=[.ref p]/\H p=some (.tup [.str a,.int n])/\a.length<=100000/\∀H',Same H H'->Q (.bl (bx' a&&(decide (1<=n)&&decide (n<=1000)))) H'
theorem jt_{f:Addr}{fd:FuncData}(F:Fun K "is_hand_with_strength" "is_hand_with_strength" sHand f fd)(B:Bi mg)(cN:Cal P w K mg base 1 "is_name" ["thing"] cP')(cW:Cal P w K mg base 2 "is_whole_within" ["thing","least","most"] cq'){tk:Tok}(mS:mg "MOST_STRENGTH"=some (.int 1000 tk)) :
  FnOk P w K mg base CX0 3 f fd ["thing"] spHand:=by
 refine F.ok scHand (fun vs H Q E h=>?_) (fun cdv A outer s H vs Q E hr h=>?_)
 ·obtain⟨p,a,b,rfl,_⟩:=h;rfl
 ·obtain⟨p,a,n,rfl,hp,la,k⟩:=h;have hr1:Room 1 _:=hr.mono (by decide)
  refine⟨_,a2_ (ar_ (dK_ (aJ_ (aF_ (af_ aM_ (by rfl) B.isi PyProof.Rows.Boot.«isinstance» (a0_ (pv 0) (a0_ (aZ_ (v:=.ty "tuple") (by rfl) B.tuple PyProof.Rows.Boot.«tuple» rfl) a3_)))))
    (ch_ (ak_ ft_ (af_ aL_ (by rfl) B.len PySem.boot_len (a0_ (pv 0) a3_)) a7_ (nomark _)))).pt (a5_ (ab_ e8_)) ac_)
   (a5_ (ab_ (bs_ (ae_ cN hr1 (a0_ (ax_ aI_ (pv 0) a7_ (fun _ _=>rfl)) a3_)) (bg_ (ae_ cW hr (a0_ (ax_ aI_ (pv 0) a7_ (fun _ _=>rfl)) (a0_ a7_ (a0_ (bJ_ (v:=.int 1000) (by rfl) mS ⟨tk,rfl⟩) a3_)))))))),?_⟩
  refine⟨_,rfl,_,_,_,_,rfl,.tup hp,rfl,_,rfl,iteF ?_⟩;refine⟨_,rfl,p,_,rfl,.inr (.of hp),rfl,_,rfl,?_⟩;refine iteNS (show V.int ((2:Nat):Int)=V.int 2 from rfl) ?_;refine⟨_,rfl,p,_,_,_,rfl,rfl,.of hp,rfl,a,rfl,la,fun H1 s1=>⟨_,rfl,?_⟩⟩;have hp1:=s1 _ _ hp;have kk:=k H1 s1;refine ite2 (fun c=>?_) (fun c=>?_)
  ·refine⟨_,rfl,p,_,_,_,rfl,rfl,.of hp1,rfl,n,1,1000,rfl,?_⟩;rw[c] at kk;exact kk
  ·rw[show bx' a=false by simpa using c] at kk;exact kk
theorem scStr:a8' ["hands","found","hand"] ["hands"] (a7' sStr):=f__
def spStr(K:F__):Sp:=fun vs H Q _=>∃(l:Addr) (ys:List V) (hs:List (Str × Int)),vs=[.ref l]/\H l=some (.lst ys)/\ba' K H ys (hs.map kH)/\(∀h∈hs,goodH h)/\(hs.map (·.1)).Nodup/\1<=hs.length/\hs.length<=8 /\
 ∀d H',Same H H'->H d=none->H' d=some (.dK (sortH hs))->Q (.ref d) H'
theorem kl_{f:Addr}{fd:FuncData}(F:Fun K "checked_strengths" "checked_strengths" sStr f fd)(B:Bi mg)(cH:Cal P w K mg base 3 "is_hand_with_strength" ["thing"] spHand){tk:Tok}(mH:mg "MOST_HANDS"=some (.int 8 tk)):FnOk P w K mg base CX0 4 f fd ["hands"] (spStr K):=by
 refine F.ok scStr (fun vs H Q E h=>?_) (fun cdv A outer s H vs Q E hr h=>?_)
 ·obtain⟨l,ys,hs,rfl,_⟩:=h;rfl
 ·obtain⟨l,ys,hs,rfl,hl,tu,good,nd,h1,h8,k⟩:=h;have hu:=b0_ hr;have sz:=sizeLine_eq;have le:=Paired.length tu;rw[aa'] at le
  refine⟨_,a2_ (ar_ (dK_ (aJ_ (aF_ (af_ aM_ (by rfl) B.isi PyProof.Rows.Boot.«isinstance» (a0_ (pv 0) (a0_ (aZ_ (v:=.ty "list") (by rfl) B.list PyProof.Rows.Boot.«list» rfl) a3_)))))
    (ch_ (aJ_ (ew_ et_ et_ a7_ (af_ aL_ (by rfl) B.len PySem.boot_len (a0_ (pv 0) a3_)) (bJ_ (v:=.int 8) (by rfl) mH ⟨tk,rfl⟩))))).pt ag_ ac_)
   (a2_ (a9_ (i:=1) scStr.nd rfl (Or.inl rfl) br_)
   (a2_ (aG_ PassesOwn.never rfl (am_ (pv 0)) (a8_ (i:=2) scStr.nd rfl (Or.inl rfl))
    (a2_ (ar_ (aJ_ (aF_ (ae_ cH hr (a0_ (pv 2) a3_)))) ag_ ac_)
    (a2_ (ar_ (cm_ (d4_ hu (ax_ aI_ (pv 2) a7_ (fun _ _=>rfl)) (pv 1))) ag_ ac_)
    (a5_ (ba_ hu (pv 1) (ax_ aI_ (pv 2) a7_ (fun _ _=>rfl)) (ax_ aI_ (pv 2) a7_ (fun _ _=>rfl)) rfl)))))
   (a5_ (ab_ (ao_ (aO_ rfl) (by rfl) B.dict PyProof.Rows.Boot.«dict» (a0_ (af_ (fq_ rfl) (by rfl) B.sorted PyProof.Rows.Boot.«sorted» (a0_ (cq_ (pv 1)) a3_)) a3_)))))),?_⟩
  refine⟨_,rfl,_,_,_,_,rfl,.lst hl,rfl,_,rfl,iteF ?_⟩;refine⟨_,rfl,l,_,rfl,.inl (.of hl),_,_,rfl,rfl,_,rfl,?_⟩;rw[decide_eq_true (show (1:Int)<=(ys.length:Int) by omega)];refine iteT ⟨_,_,rfl,rfl,_,rfl,?_⟩;rw[decide_eq_true (show (ys.length:Int)<=8 by omega)];refine iteF ?_;intro d hd;have s0:Same H (upd H d (.dK [])):=Same.new hd;refine⟨_,rfl,l,rfl,⟨_,.of (s0 _ _ hl)⟩,as_ (K:=K) (a:=l) (xs:=ys) (fun i σ H2=>∃(v2:Option V),σ=[some (.ref l),some (.ref d),v2]/\Same H H2/\H2 d=some (.dK ((hs.take i).map fun h=>(Sum.inr h.1,V.int h.2)))) ⟨none,rfl,s0,a1_⟩ (fun i σ H2 _ ⟨_,_,s2,_⟩=>.of (s2 _ _ hl)) ?_ ?_⟩
  ·rintro i y σ H2 hy ⟨v2,rfl,s2,hd2⟩;obtain⟨t,ht,a,rfl,ha⟩:=aD_ tu hy;obtain⟨g1,g2,g3⟩:=good t (ae' ht);have ha2:=s2 _ _ (hpH ha);refine⟨_,rfl,a,t.1,t.2,rfl,ha2,by have:=bU_ g1;omega,fun H3 s3=>⟨_,rfl,?_⟩⟩;have ha3:=s3 _ _ ha2;have hd3:=s3 _ _ hd2;rw[g1,decide_eq_true g2,decide_eq_true g3];refine iteF ?_
   have nov:valV ((hs.take i).map fun h=>((Sum.inr h.1:Key),V.int h.2)) (Sum.inr t.1)=none:=aK_ (by
    rw[al'];have q:=bh_ (g:=fun h:Str × Int=>h.1) nd ht;intro m;obtain⟨h,hh,e⟩:=ac'.mp m;exact q (ac'.mpr ⟨h,hh,Sum.inr.inj e⟩))
   refine⟨_,rfl,a,_,_,_,rfl,rfl,.of ha3,rfl,_,rfl,d,_,rfl,.k (k:=Sum.inr t.1) hd3,_,rfl,?_⟩;rw[nov];refine iteF ?_;refine⟨_,rfl,a,_,_,_,rfl,rfl,.of ha3,rfl,_,rfl,_,rfl,a,_,_,_,rfl,rfl,.of ha3,rfl,d,_,rfl,.k (k:=Sum.inr t.1) hd3 (by rw[aa',ak'];omega),?_⟩;refine⟨_,rfl,fun c o e=>?_,?_⟩
   ·rw[a4_ (a6_ e hd)];exact s3 _ _ (s2 _ _ e)
   ·rw[a1_,bA_ _ nov,bp_ _ ht]
  ·rintro σ H2 ⟨v2,rfl,s2,hd2⟩;rw[le,ar'] at hd2;refine⟨_,rfl,d,_,rfl,hd2,fun v hv=>?_⟩;have s3:Same H2 (upd H2 v (bo' v d)):=Same.new hv;refine⟨v,d,_,hs.map fun h=>(Sum.inr h.1,Sum.inl h.2),[true,false],rfl,a1_,s3 _ _ hd2,by rw[al'];rfl,⟨by decide,fun q hq=>?_⟩,by rw[aa'];omega,fun l' H4 zs s4 hn tz=>?_⟩
   ·rw[al'] at hq;obtain⟨h,_,rfl⟩:=ac'.mp hq;rfl
   ·have ez:((hs.map fun h=>((Sum.inr h.1:Key),(Sum.inl h.2:Key))).map fun k=>[k.1,k.2])=hs.map kH:=by rw[al'];rfl
    rw[ez] at tz
    have pz:be' K (upd H4 l' (.lst zs)) zs (sortH hs):=by
     have shape:∀k∈sortKs (hs.map kH),∃a b,k=[a,b]:=fun k hk=>by
      obtain⟨h,_,e⟩:=ac'.mp ((ap_ _).mem_iff.mp hk);exact⟨_,_,e.symm⟩
     have gen:∀(ks:List (List Key)) (zs:List V),(∀k∈ks,∃a b,k=[a,b])->ba' K (upd H4 l' (.lst zs)) zs ks->be' K (upd H4 l' (.lst zs)) zs (ks.map kvOf):=fun ks=>by
      intro zs;generalize upd H4 l' (.lst zs)=HH;intro sh t
      induction t with
      |nil=>exact .nil
      |cons h t ih=>
       obtain⟨a,b,rfl⟩:=sh _ af';exact .cons h (ih fun k hk=>sh k (ad' _ hk))
     exact gen _ _ shape (tz.same (Same.new hn))
    refine⟨l',zs,_,rfl,a1_,pz,?_,fun d' hd'=>?_⟩
    ·have:=(d2_ hs).length_eq;simp only[aa'] at this;omega
    ·rw[aS_ (cv_ nd)];have sAll:Same H (upd H4 l' (.lst zs)):=(s2.trans (s3.trans s4)).trans (Same.new hn);exact k d' _ (sAll.trans (Same.new hd')) (sAll.free hd') a1_
theorem dq':a8' ["ties","strengths","found","one","other"] ["ties","strengths"] (a7' sTies):=f__
def spTies(K:F__):Sp:=fun vs H Q _=>∃(l d:Addr) (ys:List V) (ts:List (Str × Str)) (kvs:List (Key × V)),vs=[.ref l,.ref d]/\H l=some (.lst ys)/\ba' K H ys (ts.map kT)/\(∀t∈ts,cX' t)/\(ts.map fun t=>kT (ord2 t.1 t.2)).Nodup/\ts.length<64 /\
 H d=some (.dK kvs)/\(∀t∈ts,(valV kvs (Sum.inr t.1)).isSome=true/\(valV kvs (Sum.inr t.2)).isSome=true) /\
 ∀l' zs H',Same H H'->H l'=none->H' l'=some (.lst zs)->ba' K H' zs (sortKs (ts.map fun t=>kT (ord2 t.1 t.2)))->Q (.ref l') H'
theorem dk_(a b:Str):ord2 a b=(a,b)∨ord2 a b=(b,a):=by
 unfold ord2;split
 ·exact .inl rfl
 ·exact .inr rfl
theorem jb_{f:Addr}{fd:FuncData}(F:Fun K "checked_ties" "checked_ties" sTies f fd)(B:Bi mg)(cS:Cal P w K mg base 3 "sorted_ties" ["ties"] (cc' K)):FnOk P w K mg base CX0 4 f fd ["ties","strengths"] (spTies K):=by
 refine F.ok dq' (fun vs H Q E h=>?_) (fun cdv A outer s H vs Q E hr h=>?_)
 ·obtain⟨l,d,ys,ts,kvs,rfl,_⟩:=h;rfl
 ·obtain⟨l,d,ys,ts,kvs,rfl,hl,tu,good,nd,h64,hd,there,k⟩:=h;have hu:=b0_ hr
  refine⟨_,a2_ (a9_ (i:=2) dq'.nd rfl (Or.inl rfl) (ae_ cS hr (a0_ (pv 0) a3_)))
   (a2_ (ar_ (cm_ (eF_ (pv 2))) ag_ ac_)
   (a2_ (aG_ PassesOwn.never rfl (am_ (pv 2)) (bd_ rfl (ad_ (a8_ (i:=3) dq'.nd rfl (Or.inl rfl)) (ad_ (a8_ (i:=4) dq'.nd rfl (Or.inl rfl)) aT_)))
    (a5_ (ar_ (dK_ (cm_ (e0_ hu (pv 3) (pv 1))) (ch_ (cm_ (e0_ hu (pv 4) (pv 1))))).pt ag_ ac_)))
   (a5_ (ab_ (pv 2))))),?_⟩
  refine⟨_,rfl,l,ys,ts,rfl,hl,tu,good,nd,h64,fun l' zs H1 s1 hf hl1 tz=>?_⟩;refine⟨_,rfl,_,rfl,iteF ?_⟩;refine⟨_,rfl,l',rfl,⟨_,.of hl1⟩,as_ (K:=K) (a:=l') (xs:=zs) (fun i σ H2=>∃(v3 v4:Option V),σ=[some (.ref l),some (.ref d),some (.ref l'),v3,v4]/\H2=H1) ⟨none,none,rfl,rfl⟩ (fun i σ H2 _ ⟨_,_,_,e⟩=>by subst e;exact .of hl1) ?_ ?_⟩
  ·rintro i y σ H2 hy ⟨v3,v4,rfl,rfl⟩;have ez:=Paired.length tz;have hi:i<zs.length:=(ab'.mp hy).1;obtain⟨a,e,ha⟩:=az_ tz i hi (by omega);rw[(ab'.mp hy).2] at e;subst e;obtain⟨t,ht,e⟩:=ac'.mp ((ap_ _).mem_iff.mp (List.getElem_mem (show i<(sortKs (ts.map fun t=>kT (ord2 t.1 t.2))).length by omega)));rw[<- e] at ha;obtain⟨t1,t2⟩:=there t ht
   have both:(valV kvs (Sum.inr (ord2 t.1 t.2).1)).isSome=true/\(valV kvs (Sum.inr (ord2 t.1 t.2).2)).isSome=true:=by
    rcases dk_ t.1 t.2 with q|q
    ·rw[q];exact⟨t1,t2⟩
    ·rw[q];exact⟨t2,t1⟩
   have hd1:=s1 _ _ hd;refine⟨a,_,rfl,.of (hpT ha),rfl,_,_,rfl,_,_,rfl,rfl,?_⟩;refine⟨_,rfl,_,rfl,d,_,rfl,.k (k:=Sum.inr (ord2 t.1 t.2).1) hd1,_,rfl,?_⟩;rw[both.1];refine iteF ?_;refine⟨_,rfl,_,rfl,d,_,rfl,.k (k:=Sum.inr (ord2 t.1 t.2).2) hd1,_,rfl,?_⟩;rw[both.2];refine iteF ?_;exact⟨_,_,rfl,rfl⟩
  ·rintro σ H2 ⟨v3,v4,rfl,rfl⟩;exact⟨_,rfl,k l' zs _ s1 hf hl1 tz⟩
def near(ns:List Str)(ts:List (Str × Str))(n:Str):List Str:=ns.filter fun o=>decide (ord2 n o∈ts)
theorem scNear:a8' ["names","ties","found","hand"] ["names","ties"] (a7' sNear):=f__
def bE'(ns:List Str)(as:List Addr):List (Key × V):=(ns.zip as).map fun p=>(Sum.inr p.1,V.ref p.2)
def spNear(K:F__):Sp:=fun vs H Q _=>∃(l1 l2:Addr) (ns:List Str) (zs:List V) (ts:List (Str × Str)),vs=[.ref l1,.ref l2]/\H l1=some (.lst (ns.map V.str))/\H l2=some (.lst zs)/\ba' K H zs (ts.map kT)/\ns.Nodup/\ns.length<=1000/\l1≠l2 /\
 ∀d as H',Same H H'->H d=none->as.length=ns.length->H' d=some (.dK (bE' ns as))->(∀(i:Nat) n a,ns[i]? = some n->as[i]? = some a->H a=none/\H' a=some (.lst ((near ns ts n).map V.str)))->Q (.ref d) H'
theorem cU_{K:F__}{H:Hp}:∀{ts:List (Str × Str)} {zs:List V},ba' K H zs (ts.map kT)->Paired (r2 K rS rS H) zs ts
 |[],_,.nil=>.nil
 |t::ts,_,.cons ⟨a,e,h⟩ r=>.cons ⟨a,_,_,e,.of (hpT h),rfl,rfl⟩ (cU_ r)
theorem aj_{ns:List Str}{i:Nat}{x:V}(h:(ns.map V.str)[i]? = some x):∃n,ns[i]? = some n/\x=.str n:=by
 rw[ao'] at h;cases e:ns[i]? with
 |none=>rw[e] at h;cases h
 |some n=>rw[e] at h;exact⟨n,rfl,(Option.some.inj h).symm⟩
theorem cS_{α:Type}(p:α->Bool){l:List α}{i:Nat}{x:α}(h:l[i]? = some x):(l.take (i+1)).filter p=(l.take i).filter p++(if p x then [x] else []):=PySem.take_succ_filter p l i x h
theorem iH_{f:Addr}{fd:FuncData}(F:Fun K "neighbours_of_all" "neighbours_of_all" sNear f fd)(cL:Cal P w K mg base 1 "lesser_first" ["one","other"] bS'):FnOk P w K mg base CX0 2 f fd ["names","ties"] (spNear K):=by
 refine F.ok scNear (fun vs H Q E h=>?_) (fun cdv A outer s H vs Q E hr h=>?_)
 ·obtain⟨l1,l2,ns,zs,ts,rfl,_⟩:=h;rfl
 ·obtain⟨l1,l2,ns,zs,ts,rfl,hl1,hl2,tz,nd,h8,hne,k⟩:=h;have hu:=b0_ hr;have hu3:=hr.units;have sz:=sizeLine_eq
  refine⟨_,a2_ (a9_ (i:=2) scNear.nd rfl (Or.inl rfl) br_)
   (a2_ (aG_ PassesOwn.never rfl (am_ (pv 0)) (a8_ (i:=3) scNear.nd rfl (Or.inr rfl))
    (a5_ (ba_ hu (pv 2) (pv 3) (b2_ ["other","hand","ties"] 1 [3,1] (am_ (pv 0)) (fun fp s H=>a8_ (i:=0) (show (["other","hand","ties"]:List Str).Nodup by decide +kernel) rfl (Or.inl rfl))
     (fun fp s H=>gy_ (ak_ (opK (K:=K) (fun K=>rInD K (r2 K rS rS) false) (dR_ (cmp2 cmpS cmpS) (bZ' hr _))) (ae_ cL hr (a0_ (pv 1) (a0_ (pv 0) a3_))) (pv 2) (by with_unfolding_all rfl))) (fun fp s H=>pv 0)) rfl)))
   (a5_ (ab_ (pv 2)))),?_⟩
  intro d hd;have s0:Same H (upd H d (.dK [])):=Same.new hd
  refine⟨_,rfl,l1,rfl,⟨_,.of (s0 _ _ hl1)⟩,as_ (K:=K) (a:=l1) (xs:=ns.map V.str) (fun i σ H2=>∃(v3:Option V) (as:List Addr),σ=[some (.ref l1),some (.ref l2),some (.ref d),v3]/\Same H H2/\as.length=i/\H2 d=some (.dK (bE' (ns.take i) as)) /\
   ∀(j:Nat) n a,ns[j]? = some n->as[j]? = some a->H a=none/\a≠d/\H2 a=some (.lst ((near ns ts n).map V.str))) ⟨none,[],rfl,s0,rfl,a1_,fun j n a _ e=>by simp at e⟩ (fun i σ H2 _ ⟨_,_,_,s2,_⟩=>.of (s2 _ _ hl1)) ?_ ?_⟩
  ·rintro i y σ H2 hy ⟨v3,as,rfl,s2,la,hd2,lists⟩;obtain⟨n,hn,rfl⟩:=aj_ hy;have hi:i<ns.length:=(ab'.mp hn).1
   have lk:(bE' (ns.take i) as).length=i:=by
    unfold bE';rw[aa',List.length_zip,ak'];omega
   refine⟨_,rfl,l1,rfl,⟨_,.of (s2 _ _ hl1)⟩,fun D hD=>?_⟩;refine aR_ (own:=1) (fv:=[some (.str n),some (.ref l2)]) (xs:=ns.map V.str) rfl gok1 (fun j out H'=>Same H2 H'/\H' D=some (.lst out)/\out=((ns.take j).filter fun o=>decide (ord2 n o∈ts)).map V.str) ⟨Same.new hD,a1_,rfl⟩ (fun j out H' _ ⟨sm,_,_⟩=>.of (sm _ _ (s2 _ _ hl1))) (fun out H' ⟨sm,hD',eo⟩=>?_) (fun j x out H' hx ⟨sm,hD',eo⟩=>?_)
   ·rw[aa',ar'] at eo
    have nov:valV (bE' (ns.take i) as) (Sum.inr n)=none:=aK_ fun m=>by
     unfold bE' at m;rw[al'] at m;obtain⟨p,hp,e⟩:=ac'.mp m;have e:p.1=n:=Sum.inr.inj e;have q:=bh_ (g:=id) (by rw[List.map_id];exact nd) hn;rw[List.map_id] at q;exact q (e▸(List.of_mem_zip hp).1)
    have neD:D≠d:=fun z=>by subst z;rw[hD] at hd2;cases hd2
    refine⟨_,rfl,_,rfl,d,_,rfl,.k (k:=Sum.inr n) (sm _ _ hd2) (by omega),?_⟩;refine⟨_,as++[D],rfl,fun c o e=>?_,by rw[an',la];rfl,?_,fun j n' a hn' ha=>?_⟩
    ·rw[a4_ (a6_ e hd)];exact sm _ _ (s2 _ _ e)
    ·rw[a1_,bA_ _ nov];congr 2;unfold bE';rw[aD',hn,List.zip_append (by rw[ak'];omega),am'];rfl
    ·by_cases hj:j<as.length
     ·rw[aR' hj] at ha;obtain⟨q1,q2,q3⟩:=lists j n' a hn' ha;refine⟨q1,q2,?_⟩;rw[a4_ q2];exact sm _ _ q3
     ·have hj2:j=i:=by
       have:=(ab'.mp ha).1;rw[an'] at this;simp only[aS'] at this;omega
      subst hj2;rw[aQ' (by omega),la,Nat.sub_self] at ha;have ha:D=a:=by simpa using ha
      subst ha;rw[hn] at hn';cases hn';refine⟨s2.free hD,neD,?_⟩;rw[a4_ neD,hD',eo];rfl
   ·obtain⟨o,ho,rfl⟩:=aj_ hx;refine⟨_,rfl,rfl,fun Nx hN=>?_⟩;refine⟨_,rfl,_,rfl,n,o,rfl,fun t ht=>?_⟩;have s3:Same H' (upd H' t (.tup [.str (ord2 n o).1,.str (ord2 n o).2])):=Same.new ht;have tz':=((tz.same s2).same sm).same s3
    have lo:out.length<sizeLine:=by
     rw[eo,aa'];have:=a0' (fun o=>decide (ord2 n o∈ts)) (ns.take j);rw[ak'] at this;omega
    refine⟨_,rfl,ord2 n o,ts,⟨t,_,_,rfl,.of a1_,rfl,rfl⟩,⟨l2,zs,rfl,.of (s3 _ _ (sm _ _ (s2 _ _ hl2))),cU_ tz'⟩,_,rfl,?_⟩;refine ite2 (fun c=>?_) (fun c=>?_)
    ·refine⟨_,rfl,out,s3 _ _ hD',lo,hN _ _ ⟨aC_ (sm.trans s3) hD,a1_,?_⟩⟩;have c:decide (ord2 n o∈ts)=true:=by simpa using c
     rw[cS_ _ ho,if_pos c,am',eo];rfl
    ·refine hN _ _ ⟨sm.trans s3,s3 _ _ hD',?_⟩;have c:¬decide (ord2 n o∈ts)=true:=by simpa using c
     rw[cS_ _ ho,if_neg c,aA',eo]
  ·rintro σ H2 ⟨v3,as,rfl,s2,la,hd2,lists⟩;rw[aa'] at la hd2;rw[ar'] at hd2;exact⟨_,rfl,k d as _ s2 hd la hd2 fun j n a h1 h2=>⟨(lists j n a h1 h2).1,(lists j n a h1 h2).2.2⟩⟩
end
end Ev
namespace Ev
open PySem L2
abbrev sInit:Stmt:=bl' sWeb 0
abbrev sHas:Stmt:=bl' sWeb 1
abbrev sHands:Stmt:=bl' sWeb 2
abbrev cl':Stmt:=bl' sWeb 3
abbrev sNeigh:Stmt:=bl' sWeb 4
abbrev sTied:Stmt:=bl' sWeb 5
def fstK:List Key->Str
 |.inr a::_=>a
 |_=>⟨#[]⟩
def twoK:List Key->Str × Str
 |[.inr a,.inr b]=>(a,b)
 |_=>(⟨#[]⟩,⟨#[]⟩)
def a9'(hs:List (Str × Int)):List Str:=(sortKs (hs.map kH)).map fstK
def tsOf(ts:List (Str × Str)):List (Str × Str):=(sortKs (ts.map fun t=>kT (ord2 t.1 t.2))).map twoK
theorem cH_(ts:List (Str × Str)):(tsOf ts).map kT=sortKs (ts.map fun t=>kT (ord2 t.1 t.2)):=by
 unfold tsOf;rw[al']
 have all:∀k∈sortKs (ts.map fun t=>kT (ord2 t.1 t.2)),∃t:Str × Str,k=kT t:=fun k hk=>by
  obtain⟨t,_,e⟩:=ac'.mp ((ap_ _).mem_iff.mp hk);exact⟨_,e.symm⟩
 generalize sortKs (ts.map fun t=>kT (ord2 t.1 t.2))=l at all
 induction l with
 |nil=>rfl
 |cons k l ih=>
  obtain⟨t,rfl⟩:=all k af';rw[ap',ih fun k hk=>all k (ad' _ hk)];rfl
theorem bG_(hs:List (Str × Int)):∀k∈sortKs (hs.map kH),∃h:Str × Int,h∈hs/\k=kH h:=fun k hk=>by
 obtain⟨t,ht,e⟩:=ac'.mp ((ap_ _).mem_iff.mp hk);exact⟨t,ht,e.symm⟩
theorem f4_(hs:List (Str × Int)):((sortH hs).map fun kv=>kV kv.1)=(a9' hs).map V.str:=by
 unfold sortH a9';rw[al',al'];refine aE' fun k hk=>?_;obtain⟨h,_,rfl⟩:=bG_ hs k hk;rfl
theorem eZ_(hs:List (Str × Int)):(sortH hs).map (·.1)=(a9' hs).map Sum.inr:=by
 unfold sortH a9';rw[al',al'];refine aE' fun k hk=>?_;obtain⟨h,_,rfl⟩:=bG_ hs k hk;rfl
theorem au_(hs:List (Str × Int)):(a9' hs).Perm (hs.map (·.1)):=by
 unfold a9';have p:=(ap_ (hs.map kH)).map fstK;rw[al'] at p;exact p
theorem dZ_{κ:Type}[DecidableEq κ]{kvs:List (κ × V)}{k:κ}(h:k∈kvs.map (·.1)):(valV kvs k).isSome=true:=by
 rw[<- bT_];obtain⟨p,hp,e⟩:=ac'.mp h;exact List.any_eq_true.mpr ⟨p,hp,decide_eq_true e⟩
theorem dm_{hs:List (Str × Int)}{n:Str}:(valV (sortH hs) (Sum.inr n)).isSome=decide (n∈hs.map (·.1)):=by
 by_cases h:n∈hs.map (·.1)
 ·rw[decide_eq_true h];refine dZ_ ?_;rw[eZ_];exact ac'.mpr ⟨n,(au_ hs).mem_iff.mpr h,rfl⟩
 ·rw[decide_eq_false h,aK_]
  ·rfl
  ·rw[eZ_];intro m;obtain⟨x,hx,e⟩:=ac'.mp m;cases e;exact h ((au_ hs).mem_iff.mp hx)
theorem n12:¬(("strength_by_hand":Str)="sorted_pairs"):=by decide +kernel
theorem n13:¬(("strength_by_hand":Str)="neighbours_by_hand"):=by decide +kernel
def flds(d1 l2 d3:Addr):List (Str × V):=putF "neighbours_by_hand" (.ref d3) (putF "sorted_pairs" (.ref l2) (putF "strength_by_hand" (.ref d1) []))
theorem eM_(d1 l2 d3:Addr):(flds d1 l2 d3).lookup ("strength_by_hand":Str)=some (.ref d1):=by
 unfold flds;rw[aa_,if_neg n13,aa_,if_neg n12,aa_,if_pos rfl]
theorem ik_(d1 l2 d3:Addr):(flds d1 l2 d3).lookup ("neighbours_by_hand":Str)=some (.ref d3):=by
 unfold flds;rw[aa_,if_pos rfl]
theorem b1_(d1 l2 d3:Addr){m:Str}(h1:¬m="strength_by_hand")(h2:¬m="sorted_pairs")(h3:¬m="neighbours_by_hand"):(flds d1 l2 d3).lookup m=none:=by
 unfold flds;rw[aa_,if_neg h3,aa_,if_neg h2,aa_,if_neg h1]
 all_goals rfl
structure bq' (K:F__) (C:Addr) (H:Hp) (p:Addr) (hs:List (Str × Int)) (ts:List (Str × Str)) (fp:List Addr):Prop where
 ex:∃(dx d1 l2 d3:Addr) (zs:List V) (as:List Addr),fp=p::d1::l2::d3::as/\H p=some (.ins C dx (flds d1 l2 d3))/\H d1=some (.dK (sortH hs))/\H l2=some (.lst zs)/\ba' K H zs ((tsOf ts).map kT)/\H d3=some (.dK (bE' (a9' hs) as))/\as.length=(a9' hs).length /\
  ∀(i:Nat) n a,(a9' hs)[i]? = some n->as[i]? = some a->H a=some (.lst ((near (a9' hs) (tsOf ts) n).map V.str))
theorem bq'.keep{K:F__}{C:Addr}{H H':Hp}{p:Addr}{hs:List (Str × Int)}{ts:List (Str × Str)}{fp:List Addr}(W:bq' K C H p hs ts fp)(k:∀b∈fp,∀o,H b=some o->H' b=some o)(kt:∀b xs,H b=some (.tup xs)->H' b=some (.tup xs)):bq' K C H' p hs ts fp:=by
 obtain⟨dx,d1,l2,d3,zs,as,rfl,h1,h2,h3,h4,h5,h6,h7⟩:=W.ex;refine⟨dx,d1,l2,d3,zs,as,rfl,k _ (by simp) _ h1,k _ (by simp) _ h2,k _ (by simp) _ h3,Paired.mapP h4 fun y q ⟨a,e,z⟩=>⟨a,e,kt _ _ z⟩,k _ (by simp) _ h5,h6,fun i n a e1 e2=>k _ ?_ _ (h7 i n a e1 e2)⟩;have:=ae' e2;simp[this]
theorem bq'.same{K:F__}{C:Addr}{H H':Hp}{p:Addr}{hs:List (Str × Int)}{ts:List (Str × Str)}{fp:List Addr}(W:bq' K C H p hs ts fp)(s:Same H H'):bq' K C H' p hs ts fp:=W.keep (fun b _ o e=>s b o e) fun b xs e=>s b _ e
structure Good (hs:List (Str × Int)) (ts:List (Str × Str)):Prop where
 hok:∀h∈hs,goodH h
 hnd:(hs.map (·.1)).Nodup
 h1:1<=hs.length
 h8:hs.length<=8
 tok:∀t∈ts,cX' t
 tnd:(ts.map fun t=>kT (ord2 t.1 t.2)).Nodup
 t64:ts.length<64
 tin:∀t∈ts,t.1∈hs.map (·.1)/\t.2∈hs.map (·.1)
theorem Good.nnd{hs:List (Str × Int)}{ts:List (Str × Str)}(G:Good hs ts):(a9' hs).Nodup:=(au_ hs).nodup_iff.mpr G.hnd
theorem Good.nlen{hs:List (Str × Int)}{ts:List (Str × Str)}(G:Good hs ts):(a9' hs).length=hs.length:=by
 rw[(au_ hs).length_eq,aa']
structure Txt (K:F__) (mg:Str->Option Value) (C:Addr):Prop where
 cl:Cls K C
 nS:bp' K C "strength_by_hand"
 nP:bp' K C "sorted_pairs"
 nN:bp' K C "neighbours_by_hand"
section
variable{P:Program}{w:World}{K:F__}{mg:Str->Option Value}{base:Heap}
theorem scInit:a8' ["self","hands","ties","strengths","checked"] ["self","hands","ties"] (a7' sInit):=f__
def spInit(K:F__)(C:Addr):Sp:=fun vs H Q _=>∃(p dx lh lt:Addr) (ys zs:List V) (hs:List (Str × Int)) (ts:List (Str × Str)),vs=[.ref p,.ref lh,.ref lt]/\H p=some (.ins C dx [])/\H lh=some (.lst ys)/\ba' K H ys (hs.map kH)/\H lt=some (.lst zs)/\ba' K H zs (ts.map kT)/\Good hs ts /\
 ∀fp H',(∀b o,H b=some o->b≠p->H' b=some o)->bq' K C H' p hs ts fp->(∀b∈fp,b=p∨H b=none)->Q .non H'
theorem jf_{f C:Addr}{fd:FuncData}(F:Fun K "__init__" "Web.__init__" sInit f fd)(T:Txt K mg C)(B:Bi mg)(cS:Cal P w K mg base 4 "checked_strengths" ["hands"] (spStr K))(cT:Cal P w K mg base 4 "checked_ties" ["ties","strengths"] (spTies K))(cN:Cal P w K mg base 2 "neighbours_of_all" ["names","ties"] (spNear K)) :
  FnOk P w K mg base CX0 5 f fd ["self","hands","ties"] (spInit K C):=by
 refine F.ok scInit (fun vs H Q E h=>?_) (fun cdv A outer s H vs Q E hr h=>?_)
 ·obtain⟨p,dx,lh,lt,ys,zs,hs,ts,rfl,_⟩:=h;rfl
 ·obtain⟨p,dx,lh,lt,ys,zs,hs,ts,rfl,hp,hlh,th,hlt,tt,G,k⟩:=h;have hr3:Room 3 _:=hr.mono (by decide);have hr2:Room 2 _:=hr.mono (by decide)
  refine⟨_,a2_ (a9_ (i:=3) scInit.nd rfl (Or.inl rfl) (ae_ cS hr (a0_ (pv 1) a3_)))
   (a2_ (a9_ (i:=4) scInit.nd rfl (Or.inl rfl) (ae_ cT hr (a0_ (pv 2) (a0_ (pv 3) a3_))))
   (a2_ (bH_ (pv 0) (pv 3) rfl) (a2_ (bH_ (pv 0) (pv 4) rfl)
   (a5_ (bH_ (pv 0) (ae_ cN hr2 (a0_ (ao_ (cf_ rfl) (by rfl) B.list PyProof.Rows.Boot.«list» (a0_ (pv 3) a3_)) (a0_ (pv 4) a3_))) rfl))))),?_⟩
  refine⟨_,rfl,lh,ys,hs,rfl,hlh,th,G.hok,G.hnd,G.h1,G.h8,fun d1 H1 s1 f1 hd1=>?_⟩;refine⟨_,rfl,_,rfl,lt,d1,zs,ts,_,rfl,s1 _ _ hlt,tt.same s1,G.tok,G.tnd,G.t64,hd1,fun t ht=>?_,fun l2 zs2 H2 s2 f2 hl2 tz=>?_⟩
  ·rw[dm_,dm_];exact⟨decide_eq_true (G.tin t ht).1,decide_eq_true (G.tin t ht).2⟩
  have hd12:=s2 _ _ hd1;have hp2:=s2 _ _ (s1 _ _ hp);have p1:p≠d1:=aN_ hp2 hd12 nofun;have p2:p≠l2:=aN_ hp2 hl2 nofun;refine⟨_,rfl,_,rfl,p,C,dx,[],rfl,hp2,T.cl,T.nS,by show 0<1000;decide,?_⟩;refine⟨_,rfl,_,rfl,p,C,dx,_,rfl,a1_,T.cl,T.nP,by show 1<1000;decide,?_⟩
  let H3:Hp:=upd (upd H2 p (.ins C dx (putF "strength_by_hand" (.ref d1) []))) p (.ins C dx (putF "sorted_pairs" (.ref l2) (putF "strength_by_hand" (.ref d1) [])))
  have h3:∀{b o},H2 b=some o->b≠p->H3 b=some o:=fun e ne=>by
   show upd (upd H2 p _) p _ _=_;rw[a4_ ne,a4_ ne];exact e
  have h3p:H3 p=some (.ins C dx (putF "sorted_pairs" (.ref l2) (putF "strength_by_hand" (.ref d1) []))):=a1_
  have none3:∀{b},H3 b=none->H2 b=none:=fun {b} e=>by
   by_cases z:b=p
   ·subst z;rw[h3p] at e;cases e
   ·have e:upd (upd H2 p _) p _ b=none:=e;rw[a4_ z,a4_ z] at e;exact e
  have tz3:ba' K H3 zs2 ((tsOf ts).map kT):=by
   rw[cH_];exact Paired.mapP tz fun y q ⟨a,e,z⟩=>⟨a,e,h3 z (aN_ z hp2 nofun)⟩
  refine⟨_,rfl,d1,_,rfl,.inl (h3 hd12 p1.symm),fun l1 hl1=>?_⟩;rw[f4_];have s4:Same H3 (upd H3 l1 (.lst ((a9' hs).map V.str))):=Same.new hl1;have ne12:l1≠l2:=(a6_ (H:=H3) (h3 hl2 p2.symm) hl1).symm;refine⟨_,rfl,l1,l2,a9' hs,zs2,tsOf ts,rfl,a1_,s4 _ _ (h3 hl2 p2.symm),tz3.same s4,G.nnd,by rw[G.nlen];have:=G.h8;omega,ne12,fun d3 as H5 s5 f5 la hd3 lists=>?_⟩;have hp5:=s5 _ _ (s4 _ _ h3p);refine⟨_,rfl,p,C,dx,_,rfl,hp5,T.cl,T.nN,by show 2<1000;decide,?_⟩
  have up:∀{b o},H2 b=some o->b≠p->upd H5 p (.ins C dx (flds d1 l2 d3)) b=some o:=fun e ne=>by
   rw[a4_ ne];exact s5 _ _ (s4 _ _ (h3 e ne))
  have fr5:∀{b},upd H3 l1 (.lst ((a9' hs).map V.str)) b=none->H b=none:=fun e=>s1.free (s2.free (none3 (s4.free e)));have hd3p:d3≠p:=(a6_ (s4 _ _ h3p) f5).symm;refine k (p::d1::l2::d3::as) _ (fun b o e ne=>up (s2 _ _ (s1 _ _ e)) ne) ⟨dx,d1,l2,d3,zs2,as,rfl,a1_,up hd12 p1.symm,up hl2 p2.symm,?_,?_,la,fun i n a e1 e2=>?_⟩ fun b hb=>?_
  ·exact Paired.mapP (tz3.same (s4.trans s5)) fun y q ⟨a,e,z⟩=>⟨a,e,by rw[a4_ (aN_ z hp5 nofun)];exact z⟩
  ·rw[a4_ hd3p];exact hd3
  ·obtain⟨q1,q2⟩:=lists i n a e1 e2;rw[a4_ (aN_ q2 hp5 nofun)];exact q2
  ·simp only[ai'] at hb;rcases hb with rfl|rfl|rfl|rfl|hb
   ·exact .inl rfl
   ·exact .inr f1
   ·exact .inr (s1.free f2)
   ·exact .inr (fr5 f5)
   ·obtain⟨i,hi,e⟩:=aL' hb;have e1:as[i]? = some b:=by rw[ah' hi,e]
    have hn:i<(a9' hs).length:=by omega
    exact .inr (fr5 (lists i _ b (ah' hn) e1).1)
end
end Ev
namespace Ev
open PySem L2
structure CalM (P:Program) (w:World) (K:F__) (mg:Str->Option Value) (base:Heap) (C:Addr) (k:Nat) (m:Str) (ps:List Str) (sp:Sp):Prop where
 ex:∃f fd,FnOk P w K mg base CX0 k f fd ps sp/\Meth K C m f/\bW' K fd ps []
theorem bf_{X:Cx}{C:Addr}{k:Nat}{m:Str}{ps:List Str}{sp:Sp}{pos apos:Pos}{o e:Expr}{es:List Expr}{ta:TE}{t:TA}{pl:Sem Bool}(c:CalM X.prog X.w X.K X.mg X.base C k m ps sp)(cl:Cls X.K C)(hr:Room k X.A)(he:PE X o ta)(ha:PA X (e::es) t)
  (hst:starEach (e::es) X.env=(false,eval e X.env)::starEach es X.env:=by rfl) (hpl:(backTo pos (starEach es X.env)).any (·.1)=false:=by rfl)
  (ht:eval (.Call (.Attribute o m apos) (e::es) [] pos) X.env=(do
   let ov <- eval o X.env
   standAt apos.atName
   let (f,first) <- holding [ov] (getMethod ov m pl)
   callWith pos f first (backTo pos (starEach (e::es) X.env)) (backToKw pos (keywordEach [] X.env))):=by rfl) :
  PE X (.Call (.Attribute o m apos) (e::es) [] pos) (tMeth C m sp [] E0 ta t):=by
 obtain⟨f,fd,F,hm,b⟩:=c.ex;exact gP_ he cl hm F hr b .nil pass0 ha hst hpl ht
theorem dD_{X:Cx}{C:Addr}{k:Nat}{m:Str}{ps:List Str}{sp:Sp}{pos apos:Pos}{o:Expr}{ta:TE}{pl:Sem Bool}(c:CalM X.prog X.w X.K X.mg X.base C k m ps sp)(cl:Cls X.K C)(hr:Room k X.A)(he:PE X o ta)
  (ht:eval (.Call (.Attribute o m apos) [] [] pos) X.env=(do
   let ov <- eval o X.env
   standAt apos.atName
   let (f,first) <- holding [ov] (getMethod ov m pl)
   callWith pos f first (backTo pos (starEach [] X.env)) (backToKw pos (keywordEach [] X.env))):=by rfl) :
  PE X (.Call (.Attribute o m apos) [] [] pos) (tMeth C m sp [] E0 ta tNil):=by
 obtain⟨f,fd,F,hm,b⟩:=c.ex;exact i9_ he cl hm F hr b .nil pass0 ht
theorem fC_{hs:List (Str × Int)}(nd:(hs.map (·.1)).Nodup){x:Str}{n:Int}(h:(x,n)∈hs):valV (sortH hs) (Sum.inr x)=some (.int n):=by
 have m:((Sum.inr x:Key),V.int n)∈sortH hs:=by
  unfold sortH;refine ac'.mpr ⟨kH (x,n),(ap_ _).mem_iff.mpr (ac'.mpr ⟨_,h,rfl⟩),rfl⟩
 have nk:=cv_ nd;generalize sortH hs=kvs at m nk
 induction kvs with
 |nil=>cases m
 |cons p r ih=>
  obtain⟨n1,n2⟩:=aM'.mp nk;rcases ai'.mp m with e|m
  ·rw[<- e];exact bk_ rfl
  ·rw[bl_ (fun e:p.1=Sum.inr x=>n1 (ac'.mpr ⟨_,m,e.symm⟩))];exact ih m n2
theorem gU_{ns:List Str}{as:List Addr}(nd:ns.Nodup)(la:as.length=ns.length){i:Nat}{n:Str}(hn:ns[i]? = some n):∃a,as[i]? = some a/\valV (bE' ns as) (Sum.inr n)=some (.ref a):=by
 induction ns generalizing as i with
 |nil=>simp at hn
 |cons x ns ih=>
  cases as with
  |nil=>cases la
  |cons b as=>
   obtain⟨n1,n2⟩:=aM'.mp nd;cases i with
   |zero=>
    have e:x=n:=by simpa using hn
    subst e;exact⟨b,rfl,bk_ rfl⟩
   |succ i=>
    have hn:ns[i]? = some n:=by simpa using hn
    obtain⟨a,h1,h2⟩:=ih n2 (by simpa using la) hn;refine⟨a,by simpa using h1,?_⟩;show valV ((Sum.inr x,V.ref b)::bE' ns as) (Sum.inr n)=_;rw[bl_ fun e=>n1 (by rw[show x=n from Sum.inr.inj e];exact ae' hn)];exact h2
section
variable{P:Program}{w:World}{K:F__}{mg:Str->Option Value}{base:Heap}
theorem scHas:a8' ["self","thing"] ["self","thing"] (a7' sHas):=f__
def spHas(K:F__)(C:Addr):Sp:=fun vs H Q _=>∃(p:Addr) (x:Str) (hs:List (Str × Int)) (ts:List (Str × Str)) (fp:List Addr),vs=[.ref p,.str x]/\bq' K C H p hs ts fp/\Q (.bl (decide (x∈hs.map (·.1)))) H
theorem kr_{f C:Addr}{fd:FuncData}(F:Fun K "has_hand" "Web.has_hand" sHas f fd)(T:Txt K mg C)(B:Bi mg):FnOk P w K mg base CX0 1 f fd ["self","thing"] (spHas K C):=by
 refine F.ok scHas (fun vs H Q E h=>?_) (fun cdv A outer s H vs Q E hr h=>?_)
 ·obtain⟨p,x,hs,ts,fp,rfl,_⟩:=h;rfl
 ·obtain⟨p,x,hs,ts,fp,rfl,W,k⟩:=h;have hu:=b0_ hr;obtain⟨dx,d1,l2,d3,zs,as,rfl,h1,h2,h3,h4,h5,h6,h7⟩:=W.ex;refine⟨_,a5_ (ab_ (bs_ (af_ aM_ (by rfl) B.isi PyProof.Rows.Boot.«isinstance» (a0_ (pv 1) (a0_ (aZ_ (v:=.ty "str") (by rfl) B.str PyProof.Rows.Boot.«str» rfl) a3_))) (bg_ (dJ_ (d4_ hu (pv 1) (ay_ (pv 0) rfl)))))),?_⟩;refine⟨_,rfl,_,_,_,_,rfl,.str x,rfl,_,rfl,iteT ?_⟩;refine⟨_,rfl,_,rfl,p,C,dx,_,_,rfl,h1,T.cl,T.nS,eM_ _ _ _,d1,_,rfl,.k (k:=Sum.inr x) h2,?_⟩;rw[dm_];exact k
theorem scHands:a8' ["self"] ["self"] (a7' sHands):=f__
def bY'(K:F__)(C:Addr):Sp:=fun vs H Q _=>∃(p:Addr) (hs:List (Str × Int)) (ts:List (Str × Str)) (fp:List Addr),vs=[.ref p]/\bq' K C H p hs ts fp/\∀l,H l=none->Q (.ref l) (upd H l (.lst ((a9' hs).map V.str)))
theorem hM_{f C:Addr}{fd:FuncData}(F:Fun K "hands" "Web.hands" sHands f fd)(T:Txt K mg C)(B:Bi mg):FnOk P w K mg base CX0 1 f fd ["self"] (bY' K C):=by
 refine F.ok scHands (fun vs H Q E h=>?_) (fun cdv A outer s H vs Q E hr h=>?_)
 ·obtain⟨p,hs,ts,fp,rfl,_⟩:=h;rfl
 ·obtain⟨p,hs,ts,fp,rfl,W,k⟩:=h;obtain⟨dx,d1,l2,d3,zs,as,rfl,h1,h2,h3,h4,h5,h6,h7⟩:=W.ex;refine⟨_,a5_ (ab_ (ao_ (cf_ rfl) (by rfl) B.list PyProof.Rows.Boot.«list» (a0_ (ay_ (pv 0) rfl) a3_))),?_⟩;refine⟨_,rfl,p,C,dx,_,_,rfl,h1,T.cl,T.nS,eM_ _ _ _,d1,_,rfl,.inl h2,fun l hl=>?_⟩;rw[f4_];exact k l hl
theorem dD':a8' ["self","hand"] ["self","hand"] (a7' cl'):=f__
def br'(K:F__)(C:Addr):Sp:=fun vs H Q _=>∃(p:Addr) (x:Str) (n:Int) (hs:List (Str × Int)) (ts:List (Str × Str)) (fp:List Addr),vs=[.ref p,.str x]/\bq' K C H p hs ts fp/\(hs.map (·.1)).Nodup/\(x,n)∈hs/\Q (.int n) H
theorem eq_{f C:Addr}{fd:FuncData}(F:Fun K "strength" "Web.strength" cl' f fd)(T:Txt K mg C)(cH:CalM P w K mg base C 1 "has_hand" ["self","thing"] (spHas K C)):FnOk P w K mg base CX0 2 f fd ["self","hand"] (br' K C):=by
 refine F.ok dD' (fun vs H Q E h=>?_) (fun cdv A outer s H vs Q E hr h=>?_)
 ·obtain⟨p,x,n,hs,ts,fp,rfl,_⟩:=h;rfl
 ·obtain⟨p,x,n,hs,ts,fp,rfl,W,nd,hx,k⟩:=h;have hu:=b0_ hr;obtain⟨dx,d1,l2,d3,zs,as,rfl,h1,h2,h3,h4,h5,h6,h7⟩:=id W.ex;refine⟨_,a2_ (ar_ (aJ_ (aF_ (bf_ cH T.cl hr (pv 0) (a0_ (pv 1) a3_)))) ag_ ac_) (a5_ (ab_ (ai_ hu (ay_ (pv 0) rfl) (pv 1) (fun _ _=>rfl)))),?_⟩;refine⟨_,rfl,p,dx,_,rfl,h1,b1_ _ _ _ (by decide +kernel) (by decide +kernel) (by decide +kernel),_,rfl,p,x,hs,ts,_,rfl,W,_,rfl,?_⟩;rw[decide_eq_true (ac'.mpr ⟨_,hx,rfl⟩)];refine iteF ?_;refine⟨_,rfl,p,C,dx,_,_,rfl,h1,T.cl,T.nS,eM_ _ _ _,_,rfl,d1,_,rfl,?_,k⟩;rw[<- fC_ nd hx];exact .k (k:=Sum.inr x) h2
theorem scNeigh:a8' ["self","hand"] ["self","hand"] (a7' sNeigh):=f__
def c2'(K:F__)(C:Addr):Sp:=fun vs H Q _=>∃(p:Addr) (x:Str) (hs:List (Str × Int)) (ts:List (Str × Str)) (fp:List Addr),vs=[.ref p,.str x]/\bq' K C H p hs ts fp/\(a9' hs).Nodup/\x∈hs.map (·.1)/\∀l,H l=none->Q (.ref l) (upd H l (.lst ((near (a9' hs) (tsOf ts) x).map V.str)))
theorem ir_{H:Hp}{hs:List (Str × Int)}{ts:List (Str × Str)}{as:List Addr}{x:Str}(nd:(a9' hs).Nodup)(hx:x∈hs.map (·.1))(la:as.length=(a9' hs).length)
  (h7:∀(i:Nat) n a,(a9' hs)[i]? = some n->as[i]? = some a->H a=some (.lst ((near (a9' hs) (tsOf ts) n).map V.str))):∃a,valV (bE' (a9' hs) as) (Sum.inr x)=some (.ref a)/\H a=some (.lst ((near (a9' hs) (tsOf ts) x).map V.str)):=by
 obtain⟨i,hi,e⟩:=aL' ((au_ hs).mem_iff.mpr hx);have hn:(a9' hs)[i]? = some x:=by rw[ah' hi,e]
 obtain⟨a,h1,h2⟩:=gU_ nd la hn;exact⟨a,h2,h7 i x a hn h1⟩
theorem hk_{f C:Addr}{fd:FuncData}(F:Fun K "neighbours" "Web.neighbours" sNeigh f fd)(T:Txt K mg C)(B:Bi mg)(cH:CalM P w K mg base C 1 "has_hand" ["self","thing"] (spHas K C)):FnOk P w K mg base CX0 2 f fd ["self","hand"] (c2' K C):=by
 refine F.ok scNeigh (fun vs H Q E h=>?_) (fun cdv A outer s H vs Q E hr h=>?_)
 ·obtain⟨p,x,hs,ts,fp,rfl,_⟩:=h;rfl
 ·obtain⟨p,x,hs,ts,fp,rfl,W,nd,hx,k⟩:=h;have hu:=b0_ hr;obtain⟨dx,d1,l2,d3,zs,as,rfl,h1,h2,h3,h4,h5,h6,h7⟩:=id W.ex;obtain⟨a,e1,ha⟩:=ir_ nd hx h6 h7;refine⟨_,a2_ (ar_ (aJ_ (aF_ (bf_ cH T.cl hr (pv 0) (a0_ (pv 1) a3_)))) ag_ ac_) (a5_ (ab_ (ao_ ck_ (by rfl) B.list PyProof.Rows.Boot.«list» (a0_ (ai_ hu (ay_ (pv 0) rfl) (pv 1) (fun _ _=>rfl)) a3_)))),?_⟩;refine⟨_,rfl,p,dx,_,rfl,h1,b1_ _ _ _ (by decide +kernel) (by decide +kernel) (by decide +kernel),_,rfl,p,x,hs,ts,_,rfl,W,_,rfl,?_⟩;rw[decide_eq_true hx];refine iteF ?_;refine⟨_,rfl,p,C,dx,_,_,rfl,h1,T.cl,T.nN,ik_ _ _ _,_,rfl,d3,.ref a,rfl,?_,a,_,rfl,.inl (.of ha),k⟩;rw[<- e1];exact .k (k:=Sum.inr x) h5
theorem scTied:a8' ["self","one","other"] ["self","one","other"] (a7' sTied):=f__
theorem bF_{H:Hp}:∀ns:List Str,Paired (rS H) (ns.map V.str) ns
 |[]=>.nil
 |_::ns=>.cons rfl (bF_ ns)
end
end Ev
namespace L2
open PySem PySem.Spec PyProof.Rows PySem.W
def Ite(K:F__)(a:Addr):It:=
 ⟨fun i H=>∃xs x,SqL K H a xs/\xs[i]? = some x,fun i H y H'=>∃t x,y=.ref t/\H t=none/\(∀xs,SqL K H a xs->xs[i]? = some x)/\H'=upd H t (.tup [.int i,x]),fun i H=>∃xs,SqL K H a xs/\xs.length=i⟩
theorem Inv.turnedN{X:Cx}{pins:List (Addr × Obj)}{σ:St}{H:Hp}{s:Shared}{h':Heap}{t':Nat}{fp:List Addr}{T:Addr}{xs:List V}{its:List Value}(I:Inv X pins σ H s)(k:∀b o,b∉fp->s.heap.get? b=some o->h'.get? b=some o)(hf:∀b∈fp,FpOk X pins H b)
  (hT:s.heap.objs.size<=T) (hz:xs.length<=sizeLine) (r:Vals xs its) (ht:IsTup h' T its.toArray/\∃o,h'.get? T=some o/\o.dict=none):Inv X pins σ (upd H T (.tup xs)) { s with heap:=h',toks:=t' }:=by
 have fT:H T=none:=I.hok.fresh hT;have nf:∀b u,H b=some u->b∉fp:=fun b u e hb=>by rw[(hf b hb).1] at e;cases e
 have old:∀{b u},H b=some u->upd H T (.tup xs) b=some u:=fun e=>by rw[a4_ (a6_ e fT)];exact e
 refine I.step (g':=s.gens) (d':=s.drawn) (ch:=fp) (fun b hb=>?_) (fun b o _ _ hc e _=>k b o hc e) (fun b o _ _ hc e _=>⟨o.slots,k b o hc e⟩) (fun b o _ e n=>?_)
  (fun b o hc e=>⟨o,k b o hc e⟩) (fun b ys e=>old e) (fun b o u e=>old e) (fun b ps e=>⟨#[],by rw[Array.append_empty];exact old e⟩) (fun m hm=>?_) (fun b u e=>?_) I.bare
 ·obtain⟨f0,f1,f2,f3,f4,f5⟩:=hf b hb;exact⟨f3,f1,f4,f5⟩
 ·rw[a4_ (fun z=>by subst z;exact absurd (Heap.lt_size e) (Nat.not_lt.mpr hT))];exact n
 ·obtain⟨o,es,ep,ho,r⟩:=hm;exact⟨o,es,ep,k _ o (fun hb=>(hf _ hb).2.1 rfl) ho,r⟩
 ·by_cases z:b=T
  ·subst z;rw[a1_] at e;cases e;exact⟨hz,its,r,ht⟩
  ·rw[a4_ z] at e;refine (I.hok b u e).stay (fun c v hc q=>k c v ?_ q) (fun _ q=>old q) fun _ _ q=>old q;rcases hc with z|z
   ·rw[z];exact nf b u e
   ·exact nf c _ z
theorem Inv.turnedF{X:Cx}{pins:List (Addr × Obj)}{σ:St}{H:Hp}{s:Shared}{h':Heap}{t':Nat}{fp:List Addr}(I:Inv X pins σ H s)(k:∀b o,b∉fp->s.heap.get? b=some o->h'.get? b=some o)(hf:∀b∈fp,FpOk X pins H b):Inv X pins σ H { s with heap:=h',toks:=t' }:=by
 have nf:∀b u,H b=some u->b∉fp:=fun b u e hb=>by rw[(hf b hb).1] at e;cases e
 refine I.step (g':=s.gens) (d':=s.drawn) (ch:=fp) (fun b hb=>?_) (fun b o _ _ hc e _=>k b o hc e) (fun b o _ _ hc e _=>⟨o.slots,k b o hc e⟩) (fun b o _ e n=>n)
  (fun b o hc e=>⟨o,k b o hc e⟩) (fun b ys e=>e) (fun b o u e=>e) (fun b ps e=>⟨#[],by rw[Array.append_empty];exact e⟩) (fun m hm=>?_) (fun b u e=>?_) I.bare
 ·obtain⟨f0,f1,f2,f3,f4,f5⟩:=hf b hb;exact⟨f3,f1,f4,f5⟩
 ·obtain⟨o,es,ep,ho,r⟩:=hm;exact⟨o,es,ep,k _ o (fun hb=>(hf _ hb).2.1 rfl) ho,r⟩
 ·refine (I.hok b u e).stay (fun c v hc q=>k c v ?_ q) (fun _ q=>q) fun _ _ q=>q;rcases hc with z|z
  ·rw[z];exact nf b u e
  ·exact nf c _ z
theorem ha_{P:Program}{w:World}{K:F__}{elts:List Expr}{k:Nat}{pos:Pos}(a e it:Addr)(h1:e≠it)(h2:a≠e)(h3:a≠it):Turn P w K (.Tuple elts k pos) (Ite K a) [e,it] e (fun i h=>(∃old,IsEnum h e it i old)/\h.IsListIter it a i) where
 mem:=by simp
 obj:=fun i h st b hb=>by
  obtain⟨⟨old,q⟩,o,e2,c,d⟩:=st;rcases ai'.mp hb with rfl|hb
  ·exact⟨_,q,fun v z=>by cases z⟩
  ·obtain rfl:b=it:=by simpa using hb
   exact⟨o,e2,fun v z=>by rw[d] at z;cases z⟩
 keep:=fun i h h' st kk=>by
  obtain⟨⟨old,q⟩,st2⟩:=st;exact⟨⟨old,kk e (by simp) _ q⟩,st2.at fun o q2=>kk it (by simp) o q2⟩
 item:=by
  intro X hP hw hK hc i pins s σ H E I hf st hg;subst hP hw hK;obtain⟨xs,x,hq,hx⟩:=hg;obtain⟨its,rv,p,hz⟩:=I.list hq;obtain⟨u,hu,ru⟩:=rv.get hx;have W:=WalksT.enumerate (prog:=X.prog) (w:=X.w) (A:=X.A) (I.ok.hd hc) e it a h1 h2 h3 its.toArray
  have hi:i<its.toArray.size:=by
   simp only[aj'];exact (ab'.mp hu).1
  obtain⟨old,he⟩:=st.1;have hit:=st.2;refine wpAny_pyNext_enum_item he hit p.isList (x:=u) (by rw[List.getElem?_toArray];exact hu) h1 fun h' ho hit' hTo hsz hk=>?_;have helt:e<s.heap.objs.size:=Heap.lt_size he;have hilt:it<s.heap.objs.size:=by obtain⟨_,x,_⟩:=hit;exact Heap.lt_size x
  have mid:(∃x,IsEnumOut h' e it ((i:Int)+1) x s.heap.objs.size)/\h'.IsListIter it a (i+1)/\h'.IsList a its.toArray/\s.heap.objs.size≠e/\s.heap.objs.size≠it:=⟨⟨_,ho⟩,hit',p.isList.at fun o x=>hk a o h2 h3 x,a5' helt,a5' hilt⟩;have kk:∀b o,b∉[e,it]->s.heap.get? b=some o->h'.get? b=some o:=fun b o hb x=>hk b o (fun e'=>hb (by simp[e'])) (fun e'=>hb (by simp[e'])) x;have isT:h'.IsTuple s.heap.objs.size #[.int i s.toks,u]:=⟨_,hTo,rfl,_,rfl⟩;obtain⟨T,eT⟩:∃T,T=s.heap.objs.size:=⟨_,rfl⟩;obtain⟨t,et⟩:∃t,t=s.toks:=⟨_,rfl⟩;obtain⟨tk,htk⟩:∃tk,tk=s.toks+1:=⟨_,rfl⟩;rw[<- eT] at isT mid hTo ⊢;have hT:s.heap.objs.size<=T:=Nat.le_of_eq eT.symm;rw[<- et] at isT hTo;rw[<- htk];refine⟨_,rfl,W.go elts k pos i T { s with heap:=h',toks:=tk } _ _ mid fun h2' st' kk2=>?_⟩;have nT:T∉[e,it]:=W.apart i T h' mid
  have isT2:h2'.IsTuple T #[.int i t,u]:=by
   obtain⟨o,q,r⟩:=isT;exact⟨o,kk2 T o nT q,r⟩
  have I1:Inv X pins σ (upd H T (.tup [.int i,x])) { s with heap:=h2',toks:=tk }:=I.turnedN (t':=tk) (fp:=[e,it]) (its:=[.int i t,u]) (fun b o hb q=>kk2 b o hb (kk b o hb q)) hf hT (by show 2<=sizeLine;decide) (.cons ⟨t,rfl⟩ (.cons ru .nil)) ⟨isT2,_,kk2 T _ nT hTo,rfl⟩;refine⟨.ref T,_,I1,rfl,⟨T,x,rfl,I.hok.fresh hT,fun ys hy=>by rw[I.list_inj hy hq];exact hx,rfl⟩,⟨?_,st'.2.1⟩,fun b hb=>?_⟩
  ·obtain⟨old,q⟩:=st'.1;exact⟨old,by simpa using q⟩
  ·rw[a4_ (fun z:b=T=>nT (by rw[<- z];exact hb))];exact (hf b hb).1
 done:=by
  intro X hP hw hK hc i pins s σ H E I hf st hg;subst hP hw hK;obtain⟨xs,hq,hx⟩:=hg;obtain⟨its,rv,p,hz⟩:=I.list hq;have W:=WalksT.enumerate (prog:=X.prog) (w:=X.w) (A:=X.A) (I.ok.hd hc) e it a h1 h2 h3 its.toArray
  have hn:its.toArray.size=i:=by
   have:=rv.length;simp only[aj'];omega
  refine W.done s _ _ (by rw[hn];exact⟨st.1,st.2,p.isList⟩) fun h' tk kk=>⟨rfl,I.turnedF (t':=tk) (fp:=[e,it]) kk hf⟩
 self:=fun A i s Q E st h=>by
  obtain⟨old,q⟩:=st.1;exact wpAny_pyIter_enum q h
def iEnum(K:F__)(ta:TA):TI:=fun σ H R=>ta σ H fun vs H1=>∃a,vs=[.ref a]/\(∃xs,SqL K H1 a xs)/\R (Ite K a) H1
theorem jr_{X:Cx}{elts:List Expr}{kk:Nat}{p2:Pos}{a:Expr}{ta:TA}{p pos:Pos}(hg:Gl X "enumerate")(hm:X.mg "enumerate"=none)(ha:PA X [a] ta)(hs:starEach [a] X.env=[(false,eval a X.env)]:=by rfl):PI X (.Tuple elts kk p2) (.Call (.Name "enumerate" p) [a] [] pos) (iEnum X.K ta):=by
 intro pins s σ H R I h;refine Call_ (d1_ I hg hm boot_enumerate (PyProof.Rows.callWith_type1 (thn (ha pos pins s σ H _ I h) fun us s1 ⟨vs,H1,I1,r1,q1⟩=>?_) hs rfl));obtain⟨l,e,⟨xs,hq⟩,q⟩:=q1;subst e;cases r1 with
 |cons r rr=>
  cases rr;cases r;obtain⟨its,rv,pl,hz⟩:=I1.list hq;have ll:l<s1.heap.objs.size:=by obtain⟨_,e,_⟩:=pl.isList;exact Heap.lt_size e
  refine call_enumerate_list pl.isList fun h' he hi hn kp=>?_;refine wpAny_pyIter_enum he ?_;refine⟨s1.heap.objs.size+1,[s1.heap.objs.size+1,s1.heap.objs.size],_,_,H1,rfl,I1.kept (t':=s1.toks) kp,ha_ l _ _ (Nat.succ_ne_self _) (au' (Nat.lt_succ_of_lt ll)) (au' ll),⟨⟨_,he⟩,hi⟩,fun b hb=>?_,q⟩
  have e:s1.heap.objs.size<=b:=by
   rcases ai'.mp hb with rfl|hb
   ·exact Nat.le_succ _
   ·obtain rfl:b=s1.heap.objs.size:=by simpa using hb
    exact ag' _
  exact I1.fpOk e (I1.hok.fresh e)
theorem hz_{K:F__}{a:Addr}{xs:List V}{g:TG}{tb:TS}{D:Ends}{σ:St}{H:Hp}(Pv:Nat->St->Hp->Prop)(h0:Pv 0 σ H)(hl:∀i σ H,i<=xs.length->Pv i σ H->SqL K H a xs)
  (hs:∀i x σ H,xs[i]? = some x->Pv i σ H->∀t,H t=none->g (.ref t) σ (upd H t (.tup [.int i,x])) fun σ2 H2=>tb { D with nx:=Pv (i+1),ct:=Pv (i+1),bk:=D.nx } σ2 H2) (hd:∀σ H,Pv xs.length σ H->D.nx σ H) :
  ∃W:Nat->Nat->St->Hp->Prop,(∃m,W 0 m σ H)/\∀i m σ H,W i m σ H->
   ((Ite K a).stop i H/\D.nx σ H)∨((Ite K a).go i H/\∃N:St->Hp->Prop,(∀σ' H',N σ' H'->∃m',m'<m/\W (i+1) m' σ' H')/\∀x H',(Ite K a).yld i H x H'->g x σ H' fun σ2 H2=>tb { D with nx:=N,ct:=N,bk:=D.nx } σ2 H2):=by
 refine⟨fun i m σ H=>m=xs.length - i/\i<=xs.length/\Pv i σ H,⟨xs.length,by simp,aC' _,h0⟩,?_⟩;rintro i m σ H ⟨rfl,hi,p⟩;have q:=hl i σ H hi p;by_cases hlt:i<xs.length
 ·refine .inr ⟨⟨xs,xs[i],q,by simp[hlt]⟩,Pv (i+1),fun σ' H' p'=>⟨xs.length - (i+1),by omega,rfl,hlt,p'⟩,fun x H' y=>?_⟩;obtain⟨t,x,rfl,ht,y,rfl⟩:=y;exact hs i x σ H (y xs q) p t ht
 ·have e:i=xs.length:=by omega
  subst e;exact .inl ⟨⟨xs,q,rfl⟩,hd σ H p⟩
end L2
namespace L2
open PySem PySem.Spec PyProof.Rows
theorem bi'.here{P:Program}{w:World}{H:Hp}{h:Heap}{a:Addr}{o:HO}(x:bi' P w H h a o):∃u,h.get? a=some u:=by
 cases o with
 |lst xs=>obtain⟨_,_,_,_,e⟩:=x;exact⟨_,e⟩
 |tup xs=>obtain⟨_,_,_,⟨o,e,_⟩,_⟩:=x;exact⟨_,e⟩
 |dK kvs=>obtain⟨_,_,_,_,o,_,_,e,_⟩:=x;exact⟨_,e⟩
 |dT kvs=>obtain⟨_,_,_,_,o,_,_,e,_⟩:=x;exact⟨_,e⟩
 |set S n=>obtain⟨o,_,_,_,e,_⟩:=x;exact⟨_,e⟩
 |ins C dx fs=>obtain⟨_,_,_,e,_⟩:=x;exact⟨_,e⟩
 |own y=>exact x
 |xd fs=>obtain⟨_,⟨_,_,_,e,_⟩,_⟩:=x;exact⟨_,e⟩
 |rng lo hi=>obtain⟨_,_,_,e⟩:=x;exact⟨_,e⟩
 |frz ob u=>obtain⟨e,_⟩:=x;exact⟨_,e⟩
 |tbl ps=>exact⟨_,show h.get? a=some _ from x⟩
 |met f y=>exact⟨_,show h.get? a=some _ from x⟩
 |ext φ=>obtain⟨_,e,_⟩:=x;exact e
def InB(B:Heap)(l:List Env)(H:Hp)(h0 h:Heap):Prop:=
 ∀b o,h.get? b=some o->b∉frs l->((H b).isSome=true∨∃o0,h0.get? b=some o0)->B.get? b=some o
section
variable{P:Program}{w:World}{H H':Hp}{B h0 h h1:Heap}{l:List Env}
theorem e2_(hok:HOk P w H' h)(fr:∀b∈frs l,H' b=none)(i:InB B l H' h0 h)(st:B.StaysIn h1):HOk P w H' h1:=fun b o e=>
 (hok b o e).stay (fun c u hc q=>by
  have hs:∃x,H' c=some x:=by
   rcases hc with z|z
   ·exact⟨o,z▸e⟩
   ·exact⟨_,z⟩
  obtain⟨x,hx⟩:=hs;exact st c u (i c u q (fun m=>by rw[fr c m] at hx;cases hx) (.inl (by rw[hx];rfl)))) (fun _ q=>q) (fun _ _ q=>q)
theorem eE_(un:Un (frs l) [] H H' h0 h)(ff:h.FunFrames B l)(i:InB B l H' h0 h)(st:B.StaysIn h1)(up:h.UpToSlots h1):Un (frs l) [] H H' h0 h1 where
 keep:=fun b o q n hb hx=>st b o (i b o (un.keep b o q n hb hx) hb (.inr ⟨o,q⟩))
 slot:=fun b o q n hb hx=>by
  obtain⟨sl,e⟩:=un.slot b o q n hb hx;obtain⟨_,o',e',d⟩:=ff.mem hb;rw[e] at e';cases e';obtain⟨sl2,e2⟩:=up b _ e d;exact⟨sl2,e2⟩
 free:=un.free
 there:=fun b o q hx=>by
  obtain⟨o',e⟩:=un.there b o q hx;by_cases hb:b∈frs l
  ·obtain⟨_,o2,e',d⟩:=ff.mem hb;rw[e] at e';cases e';obtain⟨sl2,e2⟩:=up b _ e d;exact⟨_,e2⟩
  ·exact⟨o',st b o' (i b o' e hb (.inr ⟨o,q⟩))⟩
 tups:=un.tups
 frzs:=un.frzs
 tbls:=un.tbls
theorem fc_(hok:HOk P w H' h)(un:Un (frs l) [] H H' h0 h)(i:InB B l H' h0 h)(st:B.StaysIn h1):InB B l H' h0 h1:=fun b o e hb c=>by
 have:∃u,h.get? b=some u:=by
  rcases c with z|⟨o0,z⟩
  ·obtain⟨x,hx⟩:=Option.isSome_iff_exists.mp z;exact (hok b x hx).here
  ·exact un.there b o0 z (by simp)
 obtain⟨u,hu⟩:=this;have q:=i b u hu hb c;have:=st b u q;rw[e] at this;cases this;exact q
end
def CX1(P:Program)(w:World):CXT:=fun l H s E e s'=>
 ∃a cls H' B a0,e=Value.ref a/\s'.os=s.os/\AllBare s'.gens/\Un (frs l) [] H H' s.heap s'.heap/\HOk P w H' s'.heap/\Heap.FlyingW B l a cls a0 s'.heap/\InB B l H' s.heap s'.heap/\E cls none H'
section
variable{X:Cx}{pins:List (Addr × Obj)}{σ:St}{H H':Hp}{s s1:Shared}{B h:Heap}{a:Addr}{cls a0:Value}{E:XK}
theorem f6_(I:Inv X pins σ H s)(un:Un (frs X.stack) [] H H' s.heap h):∀b∈frs X.stack,H' b=none:=fun b hb=>by
 obtain⟨_,o,ho,_⟩:=I.stack.mem hb;exact un.free b o ho (I.stkFree b hb) (by simp)
theorem fH_(I:Inv X pins σ H s)(hex:X.ex=[])(os:s1.os=s.os)(bare:AllBare s1.gens)(un:Un (frs X.stack) [] H H' s.heap h)(hok:HOk X.prog X.w H' h)(i:InB B X.stack H' s.heap h)(ff:h.FunFrames B X.stack)(up:h.UpToSlots s1.heap)
  (fl:Heap.FlyingW B X.outer a cls a0 s1.heap) (hE:E cls none H'):CX1 X.prog X.w X.outer X.H₀ X.s₀ E (.ref a) s1:=by
 have un1:=eE_ un ff i fl.1 up;have hok1:=e2_ hok (f6_ I un) i fl.1;have I1:Inv X pins σ H' s1:=I.call' os un1 hok1 bare (fun b z=>absurd z (by simp));have bs:=I1.base;rw[hex] at bs;refine⟨a,cls,H',B,a0,rfl,I1.os,I1.bare,bs,I1.hok,fl,fun b o e hb c=>?_,hE⟩
 have nL:b≠X.env.locals:=by
  rcases c with z|⟨o0,z⟩
  ·intro q;rw[q,I1.free] at z;cases z
  ·exact au' (aw' (Heap.lt_size z) I.ok.above)
 refine fc_ hok un i fl.1 b o e (fun hm=>?_) (c.imp id fun⟨o0,z⟩=>I.base.there b o0 z (by rw[hex];simp));rcases ai'.mp (I.stkSub b hm) with z|z
 ·exact nL z
 ·exact hb z
end
section
variable{P:Program}{w:World}{K:F__}{mg:Str->Option Value}{base:Heap}{N:List Str}{qual:Str}{scope:Scope}{f:Addr}{cd:Value}{A:Around}{outer:List Env}{s:Shared}{H:Hp}{E:XK}
def Raises(X:Cx)(E:XK):Prop:=∀(pins:List (Addr × Obj)) (σ:St) (H:Hp) (s:Shared) (h':Heap) (e:Addr) (cls:Value) (vs:List Value),Inv X pins σ H s->Heap.MadeExcOf s.heap h' e cls vs->E cls none H->X.xe (.ref e) { s with heap:=h' }
theorem raises1:Raises (cxOf (CX1 P w) P w K mg base N qual scope f cd A outer s H E) E:=by
 intro pins σ H1 s1 h' e cls vs I hx hE;have ff:=PySem.W.funFrames_hide (as:=frs (cxOf (CX1 P w) P w K mg base N qual scope f cd A outer s H E).stack) I.stack (fun env he b hb=>aN'.mpr ⟨env,he,hb⟩);refine wpAny_leaves_madeW (base:=PySem.W.hideAll s1.heap (frs (cxOf (CX1 P w) P w K mg base N qual scope f cd A outer s H E).stack)) (h:=s1.heap) I.ok.frames rfl (fun b o q=>PySem.W.of_hideAll _ q) ff hx fun h1 t fl tup nt up=>?_;exact fH_ (s1:={ s1 with heap:=h1 }) I rfl rfl I.bare Un.refl I.hok (fun b o q hb _=>PySem.W.hideAll_get _ q hb) ff ((Heap.UpToSlots.of_keeps hx.keeps).trans up) fl hE
end
section
variable{X:Cx}{x:Str}{C:Addr}{bm:List Value}{B newId initId:String}{np cpos pos:Pos}{e₀:Expr}{t:TA}{E:XK}
theorem jX_{K:F__}{h:Heap}{mg:Str->Option Value}{bmB:List Value}(X:K.In h)(hm:mg x=some (.ref C))(q:PySem.W.excIn K C bmB newId=true):OwnCls x C bmB newId mg h:=by
 refine⟨hm,?_⟩;unfold PySem.W.excIn at q;split at q
 ·rename_i dd cd sl ho
  split at q
  ·rename_i C' bm k0 k1 k2 k3 n k5 hm' hs
   simp only[a1',beq_iff_eq,Bool.not_eq_true'] at q;obtain⟨⟨⟨⟨⟨rfl,rfl⟩,hdel⟩,ht⟩,hok⟩,hni⟩:=q;obtain⟨nm,bs,mro,ns,qn,hd,sn,sub,ab,col,del⟩:=cd;dsimp only at hm' hdel hok hni;subst hm' hdel
   have hsl:sl=#[k0,k1,k2,k3,some (.builtin n),k5]:=by
    obtain⟨l⟩:=sl;simp only at hs;rw[hs]
   subst hsl;exact⟨bm,ns,nm,qn,bs,hd,sn,sub,ab,col,dd,k0,k1,k2,k3,k5,_,X _ _ ho,.of_isNs (PySem.W.isNs_of_in X hok),PySem.W.nsMap_none_of_in X hok hni,PySem.W.tail_of_in X ht⟩
  ·cases q
 ·cases q
def tRaise(cls:Value)(E:XK)(t:TA):TS:=fun _ σ H=>t σ H fun vs H1=>vs.length<=sizeLine/\E cls none H1
theorem eN_(hh:X.calm=true)(R:Raises X E)(hm:X.mg x=some (.ref C))(qx:PySem.W.excIn X.K C bm newId=true)(FB:ExcBaseFacts B newId initId bm)(hg:Gl X x)(ha:PA X [e₀] t)
  (he:starEach [e₀] X.env=(false,eval e₀ X.env)::starEach [] X.env:=by rfl) (hpl:(backTo cpos (starEach [e₀] X.env)).any (·.1)=false:=by rfl) (hd:(x == ("__debug__":Str))=false:=by decide) :
  PS X (.Raise (some (.Call (.Name x np) [e₀] [] cpos)) none pos) (tRaise (.ref C) E t):=by
 intro pins s σ H D I h;have O:=jX_ I.ok.mod.kin hm qx;obtain⟨tl,N,nm,q,bs,hdct,sn,sub,ab,col,dd,k0,k1,k2,k3,k5,mN,hC,hN,hni,T⟩:=O.obj
 refine wpAny_Raise_call_subT (C:=C) (nm:=nm) (q:=q) (N:=N) (bs:=bs) (bm:=tl) (hdct:=hdct) (sn:=sn) (sub:=sub) (ab:=ab) (col:=col) (dd:=dd) (k0:=k0) (k1:=k1) (k2:=k2) (k3:=k3) (k5:=k5)
  FB (mN:=mN) (T.hasType FB.hasBase) (I.ok.hd hh) hpl hni (dn_ I hg O.bound ⟨rfl,?_⟩ hd)
 have ha':=ha cpos pins s σ H _ I h;rw[he] at ha' ⊢;refine Calls.evalArgs_plain (wpAny_mono ha' (fun us s₂ ⟨vs,H1,I1,r,z,q⟩=>⟨rfl,by rw[<- r.length];exact z,I1.bk _ _ hC,hN.keeps I1.bk,T.keeps I1.bk,fun h' e hm=>R pins σ H1 s₂ h' e _ _ I1 hm q⟩) fun _ _ y=>y)
end
section
variable{P:Program}{w:World}{K:F__}{mg:Str->Option Value}{base:Heap}
theorem Fun.okX{x qual:Str}{st:Stmt}{f:Addr}{fd:FuncData}{N ps:List Str}{k:Nat}{sp:Sp}(F:Fun K x qual st f fd)(S:a8' N ps (a7' st))(len:∀vs H Q E,sp vs H Q E->vs.length=ps.length)
  (hbody:∀(cdv:Value) (A:Around) (outer:List Env) (s:Shared) (H:Hp) (vs:List V) (Q:VK) (E:XK),Room k (A.deeper (envOfC qual (a7' st) s.heap.objs.size f cdv))->sp vs H Q E->
   ∃t,PSs (cxOf (CX1 P w) P w K mg base N qual (a7' st) f cdv A outer s H E) (bd' st) t/\t { nx:=fun _ H'=>Q .non H',rt:=Q } (start N vs) H):FnOk P w K mg base (CX1 P w) (k+1) f fd ps sp:=by
 obtain⟨oc,od,kV,doc,pm,an,cdv,ct,osl,rfl,lk,hcd⟩:=F.ex;refine j7_ lk hcd S len fun A outer s H vs Q E hr hsp=>?_;obtain⟨t,h,q⟩:=hbody cdv A outer s H vs Q E hr hsp;exact⟨t,h,q⟩
end
end L2
namespace L2
open PySem PySem.Spec PySem.Calls PyProof.Rows PySem.W Builtin Builtin.ObjectAttr Builtin.Getset_descriptor
structure ExcK (K:F__) (C:Addr):Prop where
 cl:(clsIn K C).isSome=true
 ga:findIn K (.ref C) "__getattribute__"=some (some (.builtin "BaseException.__getattribute__"))
 ha:findIn K (.ref C) "__getattr__"=some none
 ca:findIn K (.ref C) "__class__"=some (some (.builtin "object.__class__"))
 gt:specialIn K (.builtin "object.__class__") "__get__"=some (some (.builtin "getset_descriptor.__get__"))
 tk:takesIn K (.builtin "object.__class__")=some true
 mo:mroIn K C (.type "object")=some true
 mb:mroIn K C (.type "BaseException")=some true
section
variable{prog:Program}{w:World}{A:Around}{E:Value->Shared->Prop}{s:Shared}{K:F__}{x C:Addr}
end
section
variable{X:Cx}
def rIsiC(K:F__):List V->Hp->VK->Prop:=fun xs H Q=>∃x C t b,xs=[x,.ref C]/\TyOf K H x t/\PySem.W.kitOne K t (.ref C)=some b/\Q (.bl b) H
theorem gp_:bD' X (.builtin "isinstance") (rIsiC X.K):=by
 intro pins s σ H xs us Q I r h;obtain⟨x,C,t,b,rfl,ty,e,q⟩:=h;obtain⟨u,w',rfl,ru,rw'⟩:=vals2 r;cases (show w'=Value.ref C from rw');exact dx_ I ru ty e fun tk=>⟨.bl b,H,I.tok tk,rfl,q⟩
end
end L2
namespace L2
open PySem PySem.Spec PyProof.Rows
section
variable{X:Cx}{pins:List (Addr × Obj)}{σ:St}{H:Hp}{s:Shared}{a:Addr}
end
section
variable{X:Cx}{st:Stmt}{e c:Expr}{te:XS->TE}{t u:XS->TS}{pos:Pos}{a b:List Stmt}{tc:TT}
end
section
variable{X:Cx}{k:Nat}{f C:Addr}{fd:FuncData}{ps:List Str}{sp:Sp}{dvs:List V}{ds:List Value}{ES:XS}{x m:Str}{p pos apos:Pos}{e o:Expr}{es:List Expr}{ta:TE}{t:TA}
end
section
variable{X:Cx}{i:Nat}{x n:Str}{D C:Addr}{np hpos pos:Pos}{b₀:Stmt}{suite body:List Stmt}{tb:XS->TS}{ts:TS}
end
end L2
namespace Ev
open PySem L2
abbrev sCell:Stmt:=top 61
abbrev sDigit:Stmt:=top 64
abbrev sLWeb:Stmt:=top 66
abbrev sGd:Stmt:=top 20
abbrev dj':Stmt:=top 29
abbrev sWords:Stmt:=top 30
abbrev sMixed:Stmt:=top 62
abbrev sState:Stmt:=top 63
abbrev sNamed:Stmt:=top 65
abbrev sCWays:Stmt:=top 56
abbrev c5':Stmt:=top 57
abbrev cx':Stmt:=top 58
abbrev cO':Stmt:=top 59
abbrev c0':Stmt:=top 23
abbrev cJ':Stmt:=top 24
abbrev sLM:Stmt:=top 21
abbrev sMult:Stmt:=top 25
abbrev c4':Stmt:=top 26
abbrev dn':Stmt:=top 13
abbrev sHvF:Stmt:=top 31
abbrev dp':Stmt:=top 32
abbrev sFits:Stmt:=top 33
abbrev sHvM:Stmt:=top 34
abbrev cw':Stmt:=top 37
abbrev c1':Stmt:=top 39
abbrev sSeen:Stmt:=top 41
abbrev cY':Stmt:=top 42
abbrev cg':Stmt:=top 43
abbrev cu':Stmt:=top 44
abbrev cv':Stmt:=top 67
abbrev sWaysL:Stmt:=top 68
abbrev cW':Stmt:=top 69
abbrev sWorld:Stmt:=top 70
abbrev sHeld:Stmt:=top 71
abbrev sDrop:Stmt:=top 72
abbrev sMayL:Stmt:=top 73
abbrev sIsFit:Stmt:=top 74
abbrev sHvL:Stmt:=top 75
abbrev sBest:Stmt:=top 76
abbrev c3':Stmt:=top 77
abbrev sByLow:Stmt:=top 78
abbrev sLaw:Stmt:=top 79
def But(l:Addr)(H H':Hp):Prop:=∀b o,H b=some o->b≠l->H' b=some o
theorem But.trans{l:Addr}{H H1 H2:Hp}(h:But l H H1)(h2:But l H1 H2):But l H H2:=fun b o e n=>h2 b o (h b o e n) n
theorem But.of{l:Addr}{H H1:Hp}(h:Same H H1):But l H H1:=fun b o e _=>h b o e
theorem But.upd{l:Addr}{H:Hp}{o:HO}:But l H (upd H l o):=fun b u e n=>by rw[a4_ n];exact e
def stt(H:Hp)(l:Addr):Prop:=∃a b c:Int,H l=some (.lst [.int a,.int b,.int c])
theorem stt.some{H:Hp}{l:Addr}(h:stt H l):∃xs,H l=some (.lst xs):=by
 obtain⟨a,b,c,e⟩:=h;exact⟨_,e⟩
theorem stt.same{H H':Hp}{l:Addr}(h:stt H l)(s:Same H H'):stt H' l:=by
 obtain⟨a,b,c,e⟩:=h;exact⟨a,b,c,s _ _ e⟩
theorem stt.ne{H:Hp}{l a:Addr}(h:stt H l)(e:H a=none):a≠l:=by
 rintro rfl;obtain⟨x,y,z,h⟩:=h;rw[e] at h;cases h
theorem But.free{l b:Addr}{H H':Hp}(h:But l H H')(s:stt H' l)(e:H' b=none):H b=none:=by
 cases z:H b with
 |none=>rfl
 |some o=>
  by_cases q:b=l
  ·subst q;obtain⟨x,y,u,s⟩:=s;rw[e] at s;cases s
  ·rw[h b o z q] at e;cases e
theorem bs'{α:Type}{xs:List α}{i:Int}(h0:0<=i)(h1:i<xs.length):atI xs i=xs[i.toNat]?:=by
 unfold atI ixN;rw[if_pos h0,if_pos h1];rfl
section
variable{P:Program}{w:World}{K:F__}{mg:Str->Option Value}{base:Heap}
end
end Ev
namespace Ev
open PySem L2
theorem hm_:("abcdefghijklmnopqrstuvwxyz":Str).cps.toList=[97,98,99,100,101,102,103,104,105,106,107,108,109,110,111,112,113,114,115,116,117,118,119,120,121,122]:=by decide +kernel
end Ev
namespace Ev
open PySem L2
def dB'{α:Type}(l:List α)(k:Nat)(x:α):List α:=l.take k++x::l.drop k
theorem c4_{α:Type}(l:List α)(k:Nat)(x:α):(dB' l k x).Perm (x::l):=by
 unfold dB';refine List.perm_middle.trans ?_;rw[List.take_append_drop]
theorem h2_{α:Type}(l:List α)(k:Nat)(x:α):(dB' l k x).length=l.length+1:=(c4_ l k x).length_eq
theorem hit2{α:Type}{a b:α}{r:Int}(h0:0<=r)(h1:r<2):atI [a,b] r=some a∨atI [a,b] r=some b:=by
 have:r=0∨r=1:=by omega
 rcases this with rfl|rfl
 ·exact .inl rfl
 ·exact .inr rfl
section
theorem aX_{K:F__}{H H':Hp}{l:Addr}{ys:List V}{ks:List (List Key)}(t:ba' K H ys ks)(b:But l H H'){xs:List V}(hl:H l=some (.lst xs)):ba' K H' ys ks:=Paired.mapP t fun y k ⟨a,z,q⟩=>⟨a,z,b _ _ q (aN_ q hl nofun)⟩
theorem e5_{K:F__}{H:Hp}{D:Addr}{ns:List Str}(h:H D=some (.lst (ns.map V.str))):rL K rS H (.ref D) ns:=⟨D,_,rfl,.of h,bF_ ns⟩
end
end Ev
namespace Ev
open PySem L2
def kO(t:Str × Str):List Key:=kT (ord2 t.1 t.2)
structure TI (ns:List Str) (k j:Nat) (ts:List (Str × Str)):Prop where
 at':∀t∈ts,∃(a b:Nat) (x y:Str),b<a/\(a<k∨(a=k/\b<j))/\ns[a]? = some x/\ns[b]? = some y/\(t=(x,y)∨t=(y,x))
 nd:(ts.map kO).Nodup
 len:ts.length<=7 * k+j
theorem TI.skip{ns:List Str}{k j:Nat}{ts:List (Str × Str)}(h:TI ns k j ts):TI ns k (j+1) ts:=
 ⟨fun t ht=>let ⟨a,b,x,y,h1,h2,h3,h4,h5⟩:=h.at' t ht;⟨a,b,x,y,h1,by omega,h3,h4,h5⟩,h.nd,by have:=h.len;omega⟩
theorem TI.next{ns:List Str}{k:Nat}{ts:List (Str × Str)}(h:TI ns k k ts)(h7:k<=7):TI ns (k+1) 0 ts:=
 ⟨fun t ht=>let ⟨a,b,x,y,h1,h2,h3,h4,h5⟩:=h.at' t ht;⟨a,b,x,y,h1,by omega,h3,h4,h5⟩,h.nd,by have:=h.len;omega⟩
theorem fb_{a b:Str × Str}(h:kT a=kT b):a=b:=by
 unfold kT at h;obtain⟨h1,h2⟩:=List.cons.inj h;obtain⟨h2,_⟩:=List.cons.inj h2;exact Prod.ext (Sum.inr.inj h1) (Sum.inr.inj h2)
theorem cG_{ns:List Str}(nd:ns.Nodup){i j:Nat}{x:Str}(h:ns[i]? = some x)(h2:ns[j]? = some x):i=j:=by
 obtain⟨hi,e1⟩:=ab'.mp h;obtain⟨hj,e2⟩:=ab'.mp h2;exact (List.getElem_inj nd).mp (e1.trans e2.symm)
theorem g9_{a b c d:Str}(h:kO (a,b)=kO (c,d)):(a=c/\b=d)∨(a=d/\b=c):=by
 have h:=fb_ h;dsimp only at h;rcases dk_ a b with e|e<;>rcases dk_ c d with e2|e2<;>rw[e,e2] at h<;>have h1:=(Prod.mk.inj h).1<;>have h2:=(Prod.mk.inj h).2
 ·exact .inl ⟨h1,h2⟩
 ·exact .inr ⟨h1,h2⟩
 ·exact .inr ⟨h2,h1⟩
 ·exact .inl ⟨h2,h1⟩
theorem TI.add{ns:List Str}{k j:Nat}{ts:List (Str × Str)}(h:TI ns k j ts)(nd:ns.Nodup){x y:Str}{t:Str × Str}(hj:j<k)(hx:ns[k]? = some x)(hy:ns[j]? = some y)(ht:t=(x,y)∨t=(y,x))(q:Nat):TI ns k (j+1) (dB' ts q t):=by
 refine⟨fun u hu=>?_,?_,by have:=h.len;rw[h2_];omega⟩
 ·rcases ai'.mp ((c4_ _ _ _).mem_iff.mp hu) with rfl|hu
  ·exact⟨k,j,x,y,hj,.inr ⟨rfl,by omega⟩,hx,hy,ht⟩
  ·exact h.skip.at' u hu
 ·refine ((c4_ ts q t).map kO).nodup_iff.mpr ?_;rw[ap'];refine aM'.mpr ⟨fun m=>?_,h.nd⟩;obtain⟨u,hu,e⟩:=ac'.mp m;obtain⟨a,b,c,d,h1,h2,h3,h4,h5⟩:=h.at' u hu
  have key:(c=x/\d=y)∨(c=y/\d=x):=by
   rcases h5 with rfl|rfl<;>rcases ht with rfl|rfl<;>rcases g9_ e with⟨q1,q2⟩|⟨q1,q2⟩<;>simp_all
  rcases key with⟨rfl,rfl⟩|⟨rfl,rfl⟩
  ·have:=cG_ nd h3 hx;have:=cG_ nd h4 hy;omega
  ·have:=cG_ nd h3 hy;have:=cG_ nd h4 hx;omega
theorem TI.good{ns:List Str}{k j:Nat}{ts:List (Str × Str)}(h:TI ns k j ts)(nd:ns.Nodup)(ok:∀n∈ns,bx' n=true):∀t∈ts,cX' t/\t.1∈ns/\t.2∈ns:=fun t ht=>by
 obtain⟨a,b,x,y,h1,h2,h3,h4,h5⟩:=h.at' t ht;have mx:=ae' h3;have my:=ae' h4
 have ne:x≠y:=fun e=>by
  subst e;have:=cG_ nd h3 h4;omega
 rcases h5 with rfl|rfl
 ·exact⟨⟨ok _ mx,ok _ my,ne⟩,mx,my⟩
 ·exact⟨⟨ok _ my,ok _ mx,ne.symm⟩,my,mx⟩
theorem hL_(ns:List Str)(k:Nat):cutV (ns.map V.str) none (some (k:Int))=(ns.take k).map V.str:=by
 unfold cutV;rw[HT.sIx_none,HT.sIx_nat,List.drop_zero,Nat.sub_zero,List.map_take,aa'];by_cases h:k<=ns.length
 ·rw[Nat.min_eq_left h]
 ·rw[Nat.min_eq_right (by omega),aJ' (by rw[aa'];omega),aJ' (by rw[aa'];omega)]
end Ev
namespace Ev
open PySem L2
theorem dv_(a:Str):ltS a a=false:=gK_ (Sum.inr a)
theorem fT_{a b:Str}(h:ltS a b=true):ltS b a=false:=e6_ (a:=Sum.inr a) (b:=Sum.inr b) h
theorem iP_{a b:Str}(h:ltS a b=false)(h2:ltS b a=false):a=b:=Sum.inr.inj (gO_ (a:=Sum.inr a) (b:=Sum.inr b) h h2)
theorem lexS(a b:Str):lexK (keyS a) (keyS b)=ltS a b:=by
 show (if (Sum.inr a:Key)=Sum.inr b then false else ltS a b)=ltS a b;by_cases h:a=b
 ·subst h;rw[if_pos rfl,dv_]
 ·rw[if_neg fun e=>h (Sum.inr.inj e)]
def SAsc(ns:List Str):Prop:=ns.Pairwise fun a b=>ltS b a=false
theorem SAsc.keys{ns:List Str}(h:SAsc ns):Asc (ns.map keyS):=by
 unfold Asc;rw[aG'];exact h.imp fun q=>by rw[lexS];exact q
theorem cJ_{a b:List Str}(p:a.Perm b)(h1:SAsc a)(h2:SAsc b):a=b:=f7_ (cc_ (p.map keyS) h1.keys h2.keys)
theorem c0_(ss:List Str):SAsc (sortS ss):=by
 have h:=bw_ (ss.map keyS);rw[<- cd_] at h;unfold Asc at h;rw[aG'] at h;exact h.imp fun q=>by rw[lexS] at q;exact q
theorem fV_(hs:List (Str × Int)):SAsc (a9' hs):=by
 unfold a9' SAsc;rw[aG'];refine (bw_ (hs.map kH)).imp_of_mem fun {a b} ha hb q=>?_;obtain⟨x,_,rfl⟩:=bG_ hs a ha;obtain⟨y,_,rfl⟩:=bG_ hs b hb;show ltS y.1 x.1=false;by_cases h:y.1=x.1
 ·rw[h,dv_]
 ·have q:(if (Sum.inr y.1:Key)=Sum.inr x.1 then lexK [Sum.inl y.2] [Sum.inl x.2] else ltS y.1 x.1)=false:=q;rwa [if_neg fun e=>h (Sum.inr.inj e)] at q
theorem bV_(a b:Str):ord2 a b=ord2 b a:=by
 unfold ord2;by_cases h:ltS a b=true
 ·rw[if_pos h,if_neg (by rw[fT_ h];decide)]
 ·by_cases h2:ltS b a=true
  ·rw[if_neg h,if_pos h2]
  ·have:=iP_ (by simpa using h) (by simpa using h2);subst this;rw[if_neg h]
theorem ca'{ts:List (Str × Str)}{x:Str × Str}:x∈tsOf ts ↔ ∃t∈ts,ord2 t.1 t.2=x:=by
 have e:kT x∈(tsOf ts).map kT ↔ x∈tsOf ts:=⟨fun h=>by
  obtain⟨y,hy,e⟩:=ac'.mp h;rw[<- fb_ e];exact hy,fun h=>ac'.mpr ⟨x,h,rfl⟩⟩
 rw[<- e,cH_,(ap_ _).mem_iff,ac'];exact⟨fun⟨t,ht,q⟩=>⟨t,ht,fb_ q⟩,fun⟨t,ht,q⟩=>⟨t,ht,by rw[q]⟩⟩
theorem ep_(a b:Str):kO (a,b)=kO (b,a):=by
 show kT (ord2 a b)=kT (ord2 b a);rw[bV_]
end Ev
namespace L2
open PySem PySem.Spec PyProof.Rows
section
variable{X:Cx}
def rSlS:V->Option Int->Option Int->Hp->VK->Prop:=fun x lo hi H Q=>∃z,x=.str z/\z.length<=sizeLine/\Q (.str (Txt.slice z lo hi)) H
theorem it_:SlR X rSlS:=by
 intro pins s σ H x v vl vu lo hi sl Q I rx hs pl pu h;obtain⟨z,rfl,hz,q⟩:=h;obtain⟨t,rfl⟩:=rx;refine⟨"str",_,PySem.F.slot_str_getitem.lookup,typeIs_str _ _ _,?_⟩
 have fin:∀lo hi,Q (.str (Txt.slice z lo hi)) H->(Txt.slice z lo hi).length<=sizeLine/\∀t' k,EP X pins σ Q (.str (Txt.slice z lo hi) t') { s with toks:=k }:=fun lo hi q=>
  ⟨aY' (Txt.slice_le z _ _) hz,fun t' k=>⟨.str _,H,I.kept (h':=s.heap) (t':=k) fun _ _ e=>e,⟨t',rfl⟩,q⟩⟩
 cases pl with
 |none=>
  cases pu with
  |none=>exact wpAny_getItem_str_slice (l:=none) (u:=none) (st:=none) hs rfl (post_val_or_str (fin _ _ q))
  |int j u=>exact wpAny_getItem_str_slice (l:=none) (u:=some (j,u)) (st:=none) hs rfl (post_val_or_str (fin _ _ q))
 |int i u=>
  cases pu with
  |none=>exact wpAny_getItem_str_slice (l:=some (i,u)) (u:=none) (st:=none) hs rfl (post_val_or_str (fin _ _ q))
  |int j u'=>exact wpAny_getItem_str_slice (l:=some (i,u)) (u:=some (j,u')) (st:=none) hs rfl (post_val_or_str (fin _ _ q))
theorem ki_{x:Str}{j:Nat}(h:j<=x.length):(Txt.slice x none (some (j:Int))).cps.toList=x.cps.toList.take j:=by
 have:=eq_of_beq (slice_closes_toL (x:=x) (j:=(j:Int)) (by omega) (by omega));rw[this];simp
theorem i5_{x:Str}{i:Nat}(h:i<=x.length):(Txt.slice x (some (i:Int)) none).cps.toList=x.cps.toList.drop i:=by
 rw[slice_from_eq (x:=x) (i:=(i:Int)) (b:=(x.length:Int)) (by omega) (by omega) rfl]
 have:((x.length:Int) - (i:Int)).toNat=x.cps.toList.length - i:=by
  have:x.length=x.cps.toList.length:=by rw[aK'];rfl
  omega
 rw[this];simp;rw[aJ'];simp
end
end L2
namespace L2
open PySem PySem.Spec PyProof.Rows PySem.Builtin PySem.Builtin.Str
theorem eS_:∀{ss:List Str} {us:List Value},Vals (ss.map V.str) us->StrsAre us ss
 |[],_,.nil=>.nil
 |x::ss,_,.cons r rs=>by
  obtain⟨t,rfl⟩:=r;exact .cons x t (eS_ rs)
section
variable{X:Cx}
def rJoin(K:F__):V->List V->Hp->VK->Prop:=fun x vs H Q=>∃(sep:Str) (p:Addr) (ss:List Str),x=.str sep/\vs=[.ref p]/\SqL K H p (ss.map V.str)/\(ss.map (·.length)).sum+ss.length * sep.length<=16777216/\Q (.str (Txt.join sep ss)) H
theorem jB_:MtM X "str.join" (rJoin X.K):=by
 intro pins s σ H x vs v us Q I rx rv h;obtain⟨sep,p,ss,rfl,rfl,hp,hz,q⟩:=h;obtain⟨t,rfl⟩:=rx;obtain⟨u,rfl,ru⟩:=rv.one;cases (show u=Value.ref p from ru);obtain⟨its,r,ht,_⟩:=I.list hp;exact join_list ht.isList (eS_ r) hz fun t' k=>⟨.str _,H,I.tok k,⟨t',rfl⟩,q⟩
end
end L2
namespace L2
open PySem PySem.Spec PyProof.Rows PySem.W
section
variable{X:Cx}
def rMulS:R2:=fun x y H Q=>∃z n,x=.str z/\y=.int n/\PySem.MulOk z n/\Q (.str (Txt.mul z n)) H
theorem jH_:OpR X (binaryOp .Mult) rMulS:=by
 intro pins s σ H x y v u Q I rx ry h;obtain⟨z,n,rfl,rfl,ok,q⟩:=h;obtain⟨t,rfl⟩:=rx;obtain⟨t2,rfl⟩:=ry;exact SB.mul ok fun t' k=>⟨.str _,H,I.tok _,⟨_,rfl⟩,q⟩
end
end L2
namespace Ev
open PySem L2
theorem hitL{α:Type}{p:α->Prop}{xs:List α}{r:Int}{n:Nat}(hn:xs.length=n)(h0:0<=r)(h1:r<(n:Int))(h:∀v∈xs,p v):∃v,atI xs r=some v/\p v:=by
 have hl:r.toNat<xs.length:=by omega
 refine⟨xs[r.toNat],?_,h _ (List.getElem_mem hl)⟩;rw[bs' h0 (by omega),ah' hl]
section
variable{P:Program}{w:World}{K:F__}{mg:Str->Option Value}{base:Heap}
theorem scCell:a8' ["_law_script","_law_k"] ["_law_script","_law_k"] (a7' sCell):=f__
def spCell(K:F__):Sp:=fun vs H Q _=>∃(l:Addr) (ns:List Int) (k:Int),vs=[.ref l,.int k]/\0<=k/\SqL K H l (ns.map V.int)/\∀n,Q (.int n) H
theorem ju_{f:Addr}{fd:FuncData}(F:Fun K "_law_cell_at" "_law_cell_at" sCell f fd)(B:Bi mg):FnOk P w K mg base CX0 1 f fd ["_law_script","_law_k"] (spCell K):=by
 refine F.ok scCell (fun vs H Q E h=>?_) (fun cdv A outer s H vs Q E hr h=>?_)
 ·obtain⟨l,ns,k,rfl,_⟩:=h;rfl
 ·obtain⟨l,ns,i,rfl,h0,hl,k⟩:=h;refine⟨_,a2_ (ar_ (ak_ kn_ (pv 1) (af_ aL_ (by rfl) B.len PySem.boot_len (a0_ (pv 0) a3_)) (nomark _)) (a5_ (ab_ (ax_ aH_ (pv 0) (pv 1) (fun _ _=>rfl)))) ac_) (a5_ (ab_ a7_)),?_⟩;refine⟨_,rfl,_,rfl,l,_,rfl,.inl hl,_,_,rfl,rfl,_,rfl,?_⟩;refine ite2 (fun c=>?_) (fun c=>?_)
  ·have c:i<(ns.map V.int).length:=by simpa using c
   have e:atI (ns.map V.int) i=some (.int (ns[i.toNat]'(by rw[aa'] at c;omega))):=by
    rw[bs' h0 c,ao',ah' (by rw[aa'] at c;omega)];rfl
   exact⟨_,rfl,_,rfl,l,_,_,_,rfl,rfl,hl,e,k _⟩
  ·exact k 0
theorem db':a8' ["_law_number"] ["_law_number"] (a7' sMixed):=f__
def da':Sp:=fun vs H Q _=>∃n:Int,vs=[.int n]/\∀r:Int,Q (.int r) H
theorem small(x:Int):-(2 ^ 64)<x % 2147483647/\x % 2147483647<2 ^ 64:=by
 have a:=Int.emod_nonneg x (show (2147483647:Int)≠0 by decide);have b:=Int.emod_lt_of_pos x (show (0:Int)<2147483647 by decide);omega
theorem small1(x:Int):-(2 ^ 64)<x % 2147483647+1/\x % 2147483647+1<2 ^ 64:=by
 have a:=Int.emod_nonneg x (show (2147483647:Int)≠0 by decide);have b:=Int.emod_lt_of_pos x (show (0:Int)<2147483647 by decide);omega
theorem hR_{f:Addr}{fd:FuncData}(F:Fun K "_law_mixed" "_law_mixed" sMixed f fd):FnOk P w K mg base CX0 1 f fd ["_law_number"] da':=by
 refine F.ok db' (fun vs H Q E h=>?_) (fun cdv A outer s H vs Q E hr h=>?_)
 ·obtain⟨n,rfl,_⟩:=h;rfl
 ·obtain⟨n,rfl,k⟩:=h;refine' ⟨_,a2_ ?s1 (a2_ ?s2 ?s3),?kk⟩
  case s1=>exact a9_ (i:=0) db'.nd rfl (Or.inl rfl) (al_ bO_ (al_ b8_ (al_ b3_ (al_ bO_ (pv 0) a7_) a7_) a7_) a7_)
  case s2=>exact a9_ (i:=0) db'.nd rfl (Or.inl rfl) (al_ bO_ (al_ b8_ (pv 0) (al_ b3_ (al_ bt_ (pv 0) a7_) a7_)) a7_)
  case s3=>exact a5_ (ab_ (al_ bO_ (al_ b8_ (al_ b3_ (pv 0) a7_) (al_ b3_ (al_ bt_ (pv 0) a7_) a7_)) a7_))
  case' kk=>skip
  refine⟨_,rfl,_,_,rfl,rfl,by show (0:Int)<2147483647;decide,_,_,rfl,rfl,_,_,rfl,rfl,.inl (small1 n),_,_,rfl,rfl,by show (0:Int)<2147483647;decide,?_⟩;refine⟨_,rfl,_,rfl,_,_,rfl,rfl,⟨by decide,by decide⟩,_,_,rfl,rfl,_,_,rfl,rfl,.inl (small _),_,_,rfl,rfl,by show (0:Int)<2147483647;decide,?_⟩;exact⟨_,rfl,_,_,rfl,rfl,_,rfl,_,_,rfl,rfl,⟨by decide,by decide⟩,_,_,rfl,rfl,_,_,rfl,rfl,.inl (small1 _),_,_,rfl,rfl,by show (0:Int)<2147483629;decide,k _⟩
theorem scState:a8' ["_law_cell","_law_k"] ["_law_cell","_law_k"] (a7' sState):=f__
def dc':Sp:=fun vs H Q _=>∃(c:Int) (i:Nat),vs=[.int c,.int i]/\i<100/\∀l H',Same H H'->H l=none->stt H' l->Q (.ref l) H'
theorem hG_{f:Addr}{fd:FuncData}(F:Fun K "_law_state" "_law_state" sState f fd):FnOk P w K mg base CX0 1 f fd ["_law_cell","_law_k"] dc':=by
 refine F.ok scState (fun vs H Q E h=>?_) (fun cdv A outer s H vs Q E hr h=>?_)
 ·obtain⟨c,i,rfl,_⟩:=h;rfl
 ·obtain⟨c,i,rfl,hi,k⟩:=h;refine⟨_,a5_ (ab_ (aE_ (a0_ (al_ bt_ (pv 0) a7_) (a0_ (al_ bO_ (pv 0) a7_) (a0_ (al_ b3_ (pv 0) (al_ b8_ a7_ (pv 1))) a3_))))),?_⟩;refine⟨_,rfl,_,_,rfl,rfl,⟨by decide,by decide⟩,_,rfl,_,_,rfl,rfl,by show (0:Int)<2;decide,_,rfl,_,rfl,_,_,rfl,rfl,.inl ⟨by decide,by decide⟩,_,_,rfl,rfl,by show 3<=sizeLine;decide,fun l hl=>?_⟩;exact k l _ (Same.new hl) hl ⟨_,_,_,a1_⟩
theorem scDigit:a8' ["_law_state_here","_law_base","_law_found"] ["_law_state_here","_law_base"] (a7' sDigit):=f__
def bF':Sp:=fun vs H Q _=>∃(l:Addr) (b:Int),vs=[.ref l,.int b]/\0<b/\b<1073741824/\stt H l/\∀r H',0<=r->r<b->But l H H'->stt H' l->Q (.int r) H'
theorem hi_{f:Addr}{fd:FuncData}(F:Fun K "_law_digit" "_law_digit" sDigit f fd)(cM:Cal P w K mg base 1 "_law_mixed" ["_law_number"] da'):FnOk P w K mg base CX0 2 f fd ["_law_state_here","_law_base"] bF':=by
 refine F.ok scDigit (fun vs H Q E h=>?_) (fun cdv A outer s H vs Q E hr h=>?_)
 ·obtain⟨l,b,rfl,_⟩:=h;rfl
 ·obtain⟨l,b,rfl,h0,h1,⟨x,y,z,hl⟩,k⟩:=h;refine' ⟨_,a2_ ?s1 (a2_ ?s2 ?s3),?kk⟩
  case s1=>exact ar_ (d0_ (ak_ bP_ (ax_ aH_ (pv 0) a7_ (fun _ _=>rfl)) a7_ (nomark _)) (cQ_ (ak_ cu_ (ax_ aH_ (pv 0) a7_ (fun _ _=>rfl)) a7_ (nomark _)))).pt (a2_ (a9_ (i:=2) scDigit.nd rfl (Or.inl rfl) (al_ bO_ (ax_ aH_ (pv 0) a7_ (fun _ _=>rfl)) (pv 1))) (a2_ (dT_ (al_ bt_ (ax_ aH_ (pv 0) a7_ (fun _ _=>rfl)) (pv 1)) (ij_ (pv 0) a7_ f1_)) (a5_ (ab_ (pv 2))))) ac_
  case s2=>exact dT_ (ae_ cM hr (a0_ (al_ b3_ (ax_ aH_ (pv 0) a7_ (fun _ _=>rfl)) a7_) a3_)) (ij_ (pv 0) a7_ f1_)
  case s3=>exact a5_ (ab_ (al_ bO_ (al_ bt_ (ax_ aH_ (pv 0) a7_ (fun _ _=>rfl)) a7_) (pv 1)))
  case' kk=>skip
  have other:∀{R:Prop},R->R:=fun h=>h;refine⟨_,rfl,l,_,_,_,rfl,rfl,.of hl,rfl,rfl,_,rfl,?_⟩;refine ite2 (fun c=>?_) (fun c=>?_)
  ·refine⟨_,rfl,l,_,_,_,rfl,rfl,.of hl,rfl,_,_,rfl,rfl,_,rfl,?_⟩;refine ite2 (fun c2=>?_) (fun c2=>?_)
   ·refine⟨_,rfl,l,_,_,_,rfl,rfl,.of hl,rfl,_,rfl,_,_,rfl,rfl,h0,?_⟩;refine⟨_,rfl,l,_,_,_,rfl,rfl,.of hl,rfl,_,rfl,_,_,rfl,rfl,⟨h0,h1⟩,_,rfl,l,_,_,0,rfl,rfl,hl,rfl,?_⟩;exact⟨_,rfl,k _ _ (Int.emod_nonneg _ (by omega)) (Int.emod_lt_of_pos _ h0) But.upd ⟨_,_,_,a1_⟩⟩
   ·refine⟨_,rfl,l,_,_,_,rfl,rfl,.of hl,rfl,_,_,rfl,rfl,_,rfl,fun r=>⟨_,rfl,l,_,_,2,rfl,rfl,hl,rfl,?_⟩⟩;refine⟨_,rfl,l,_,_,_,rfl,rfl,.of a1_,rfl,_,_,rfl,rfl,⟨by decide,by decide⟩,_,rfl,_,_,rfl,rfl,h0,?_⟩;exact k _ _ (Int.emod_nonneg _ (by omega)) (Int.emod_lt_of_pos _ h0) But.upd ⟨_,_,_,a1_⟩
  ·refine⟨_,rfl,l,_,_,_,rfl,rfl,.of hl,rfl,_,_,rfl,rfl,_,rfl,fun r=>⟨_,rfl,l,_,_,2,rfl,rfl,hl,rfl,?_⟩⟩;refine⟨_,rfl,l,_,_,_,rfl,rfl,.of a1_,rfl,_,_,rfl,rfl,⟨by decide,by decide⟩,_,rfl,_,_,rfl,rfl,h0,?_⟩;exact k _ _ (Int.emod_nonneg _ (by omega)) (Int.emod_lt_of_pos _ h0) But.upd ⟨_,_,_,a1_⟩
end
end Ev
namespace Ev
open PySem L2
theorem seqG{t u:TS}{D:Ends}{σ:St}{H:Hp}(R:St->Hp->Prop)(later:∀σ H,R σ H->u D σ H)(now:∀N:St->Hp->Prop,(∀σ H,R σ H->N σ H)->t { D with nx:=N } σ H):tSeq t u D σ H:=now (u D) later
theorem setG{i:Nat}{v:V}{σ:St}{H:Hp}{N:St->Hp->Prop}(h:N (σ.set i (some v)) H):b5' i v σ H N:=h
theorem stt.upd{H:Hp}{l a:Addr}{o:HO}(h:stt H l)(n:a≠l):stt (L2.upd H a o) l:=by
 obtain⟨x,y,z,e⟩:=h;exact⟨x,y,z,by rw[a4_ n.symm];exact e⟩
theorem But.snd{l a:Addr}{H H':Hp}{o:HO}(h:But l H H')(e:H a=none):But l H (L2.upd H' a o):=fun b u q n=>by
 rw[a4_ (a6_ q e)];exact h b u q n
theorem i3_(sep:Str)(ss:List Str):(Txt.join sep ss).length<=(ss.map (·.length)).sum+ss.length * sep.length:=by
 show (Builtin.Str.glued sep ss).length<=_;rw[size_glued];have:(ss.length - 1) * sep.length<=ss.length * sep.length:=Nat.mul_le_mul_right _ (by omega);omega
theorem kq_{ss:List Str}{m:Nat}(h:∀x∈ss,x.length<=m):(ss.map (·.length)).sum<=m * ss.length:=by
 induction ss with
 |nil=>simp
 |cons x ss ih=>
  have a:=h x af';have b:=ih fun y hy=>h y (ad' _ hy);rw[ap',List.sum_cons,az',Nat.mul_add,Nat.mul_one];omega
theorem i1_{ss:List Str}(h:∀x∈ss,∀c∈x.cps.toList,okc c=true):∀c∈(Txt.join "" ss).cps.toList,okc c=true:=by
 rw[show Txt.join "" ss=Str.join "" ss from StrLaws.glued_eq_join "" ss];intro c hc;rcases (PyProof.Rows.mem_join (sep:="") (ts:=ss) c).mp hc with⟨t,ht,m⟩|⟨_,m⟩
 ·exact h t ht c m
 ·rw[show ("":Str)=⟨#[]⟩ by decide +kernel] at m;simp at m
theorem aW_(x:Str):x.length=x.cps.toList.length:=by rw[aK'];rfl
theorem g5_(a b:Str):(a++b).cps.toList=a.cps.toList++b.cps.toList:=by rw[PySem.Str.cps_append,Array.toList_append]
theorem abc_len:("abcdefghijklmnopqrstuvwxyz":Str).length=26/\("abcdefghijklmnopqrstuvwxyz":Str).cps.toList.length=26:=by decide +kernel
theorem ge_{q:Nat}(h:q<26):atI ("abcdefghijklmnopqrstuvwxyz":Str).cps.toList (q:Int)=some (97+q):=by
 rw[bs' (by omega) (by rw[abc_len.2];omega),hm_];have:∀q:Fin 26,([97,98,99,100,101,102,103,104,105,106,107,108,109,110,111,112,113,114,115,116,117,118,119,120,121,122]:List Nat)[(q.val:Int).toNat]? = some (97+q.val):=by decide +kernel
 exact this ⟨q,h⟩
theorem hb_{q:Nat}(h:q<26):okc (97+q)=true:=by
 unfold okc;simp;omega
structure Nm (m:Nat) (ns:List Str):Prop where
 len:ns.length=m
 nd:ns.Nodup
 ok:∀n∈ns,bx' n=true
theorem iQ_{m f:Nat}{ns:List Str}{a b:List Nat}(hm:m<=30)(hl:ns.length=m)(oa:∀c∈a,okc c=true)(ob:∀c∈b,okc c=true)(l7:a.length+b.length<=6)
  (h:∀k n,ns[k]? = some n->n.cps.toList=a++(97+(f+7 * k) % 26)::(b++List.replicate (k / 26) 122)):Nm m ns:=by
 refine⟨hl,?_,?_⟩
 ·refine aB'.mpr (List.pairwise_iff_getElem.mpr fun i j hi hj hij e=>?_);have e1:=h i _ (ah' hi);have e2:=h j _ (ah' hj);rw[e,e2] at e1;obtain⟨c1,c2⟩:=List.cons.inj (List.append_cancel_left e1);have c3:=congrArg List.length c2;rw[an',an',aH',aH'] at c3;omega
 ·intro n hn;obtain⟨k,hk⟩:=List.mem_iff_getElem?.mp hn;have e:=h k n hk;unfold bx';rw[aW_,e]
  have hk30:k<30:=by
   have:=(ab'.mp hk).1;omega
  simp only[an',az',aH',List.all_append,List.all_cons,a1',decide_eq_true_eq,List.all_eq_true];exact⟨⟨by omega,by omega⟩,oa,hb_ (Nat.mod_lt _ (by decide)),ob,fun c hc=>by rw[(List.mem_replicate.mp hc).2];rfl⟩
abbrev nW1:List Str:=["_law_k","_law_letters","_law_state_here"]
abbrev nW2:List Str:=["_law_k","_law_first","_law_letters"]
abbrev nW3:List Str:=["_law_k","_law_place","_law_signs","_law_stem"]
theorem mulZ{q:Nat}(h:q<=1):PySem.MulOk "z" (q:Int)/\(Txt.mul "z" (q:Int)).cps.toList=List.replicate q 122:=by
 have:q=0∨q=1:=by omega
 rcases this with rfl|rfl
 ·exact⟨by unfold PySem.MulOk;decide +kernel,by decide +kernel⟩
 ·exact⟨by unfold PySem.MulOk;decide +kernel,by decide +kernel⟩
section
variable{P:Program}{w:World}{K:F__}{mg:Str->Option Value}{base:Heap}
theorem b0':a8' ["_law_state_here","_law_many","_law_letters","_law_stem","_law_place","_law_first","_law_signs"] ["_law_state_here","_law_many"] (a7' sNamed):=f__
def cK':Sp:=fun vs H Q _=>∃(l:Addr) (m:Nat),vs=[.ref l,.int m]/\m<=30/\stt H l/\∀(a:Addr) (ns:List Str) (H':Hp),But l H H'->stt H' l->H a=none->H' a=some (.lst (ns.map V.str))->Nm m ns->Q (.ref a) H'
set_option maxHeartbeats 1600000 in
theorem hh_{f:Addr}{fd:FuncData}(F:Fun K "_law_named" "_law_named" sNamed f fd)(B:Bi mg)(cD:Cal P w K mg base 2 "_law_digit" ["_law_state_here","_law_base"] bF'):FnOk P w K mg base CX0 3 f fd ["_law_state_here","_law_many"] cK':=by
 refine F.ok b0' (fun vs H Q E h=>?_) (fun cdv A outer s H vs Q E hr h=>?_)
 ·obtain⟨l,m,rfl,_⟩:=h;rfl
 ·obtain⟨l,m,rfl,m8,st,k⟩:=h;have sz:=sizeLine_eq;refine' ⟨_,?r0,?kk⟩
  case' r0=>refine' a2_ ?s1 ?r1
  case' r1=>refine' a2_ ?s2 ?r2
  case' r2=>refine' a2_ ?s3 ?r3
  case' r3=>refine' a2_ ?s4 ?r4
  case' r4=>refine' a2_ ?s5 ?r5
  case' r5=>refine' a5_ ?s6
  case s1=>exact a9_ (i:=2) b0'.nd rfl (Or.inr rfl) an_
  case' s2=>refine' a9_ (i:=3) b0'.nd rfl (Or.inr rfl) ?a1
  case' a1=>refine' bQ_ PySem.F.plainAttrs_str PySem.F.slot_str_join PySem.F.type_str_join jB_ ?a2 ?a3
  case a2=>exact an_
  case' a3=>refine' a0_ ?a4 a3_
  case' a4=>refine' b2_ nW1 1 [2,0] ?d1 ?d2 ?d3 ?d4
  case d1=>exact bS_ (by rfl) B.range (a0_ (ae_ cD hr (a0_ (pv 0) (a0_ a7_ a3_))) a3_)
  case d2=>exact fun fp s H=>a8_ (i:=0) (show nW1.Nodup by decide +kernel) rfl (Or.inl rfl)
  case d3=>exact fun fp s H=>aY_
  case d4=>exact fun fp s H=>ax_ if_ (pv 1) (ae_ cD hr (a0_ (pv 2) (a0_ a7_ a3_))) (fun _ _=>rfl)
  case s3=>exact a9_ (i:=4) b0'.nd rfl (Or.inr rfl) (ae_ cD hr (a0_ (pv 0) (a0_ (al_ b3_ (af_ cn_ (by rfl) B.len PySem.boot_len (a0_ (pv 3) a3_)) a7_) a3_)))
  case s4=>exact a9_ (i:=5) b0'.nd rfl (Or.inr rfl) (ae_ cD hr (a0_ (pv 0) (a0_ a7_ a3_)))
  case' s5=>refine' a9_ (i:=6) b0'.nd rfl (Or.inr rfl) ?e0
  case' e0=>refine' b2_ nW2 1 [5,2] ?e1 ?e2 ?e3 ?e4
  case e1=>exact bS_ (by rfl) B.range (a0_ (pv 1) a3_)
  case e2=>exact fun fp s H=>a8_ (i:=0) (show nW2.Nodup by decide +kernel) rfl (Or.inl rfl)
  case e3=>exact fun fp s H=>aY_
  case e4=>exact fun fp s H=>ax_ if_ (pv 2) (al_ bO_ (al_ b3_ (pv 1) (al_ b8_ a7_ (pv 0))) a7_) (fun _ _=>rfl)
  case' s6=>refine' ab_ ?f0
  case' f0=>refine' b2_ nW3 1 [4,6,3] ?f1 ?f2 ?f3 ?f4
  case f1=>exact bS_ (by rfl) B.range (a0_ (pv 1) a3_)
  case f2=>exact fun fp s H=>a8_ (i:=0) (show nW3.Nodup by decide +kernel) rfl (Or.inl rfl)
  case f3=>exact fun fp s H=>aY_
  case' f4=>intro fp s H
  case' f4=>refine' al_ bi_ ?g1 ?g2
  case' g1=>refine' al_ bi_ ?g3 ?g4
  case' g3=>refine' al_ bi_ ?g5 ?g6
  case g5=>exact bE_ it_ (pv 3) ca_ (c6_ (pv 1))
  case g6=>exact ax_ (ixK (K:=K) rIxL aH_) (pv 2) (pv 0) (fun _ _=>rfl)
  case g4=>exact bE_ it_ (pv 3) (c6_ (pv 1)) ca_
  case g2=>exact al_ jH_ an_ (al_ bt_ (pv 0) a7_)
  case' kk=>skip
  refine⟨rfl,_,rfl,l,7,rfl,by decide,by decide,st,fun r H1 r0 r7 b1 st1=>⟨r,rfl,by omega,by omega,fun D hD=>?_⟩⟩;have Dl:=st1.ne hD;refine c5_ (own:=1) (fv:=[some (.str "abcdefghijklmnopqrstuvwxyz"),some (.ref l)]) rfl gok1 r.toNat (fun i out H'=>∃ss:List Str,But l H1 H'/\stt H' l/\out=ss.map V.str/\H' D=some (.lst out)/\ss.length=i/\∀x∈ss,x.length<=1/\∀c∈x.cps.toList,okc c=true) ⟨[],But.of (Same.new hD),st1.same (Same.new hD),rfl,a1_,rfl,by simp⟩ (fun out H2 ⟨ss,b2,st2,eo,hD2,le,h1⟩=>⟨ag' _,?_⟩) (fun i out H2 hi ⟨ss,b2,st2,eo,hD2,le,h1⟩=>⟨hi,fun x H3 ⟨e3,ex⟩=>?_⟩);rotate_left 1
  ·subst e3;refine⟨_,rfl,rfl,fun Nx hN=>yesT ?_⟩;refine⟨_,rfl,_,rfl,l,26,rfl,by decide,by decide,st2,fun q H4 q0 q26 b4 st4=>?_⟩;obtain⟨q,rfl⟩:=aF' q0;have q26':q<26:=by omega
   refine⟨_,_,97+q,rfl,rfl,by rw[abc_len.1];decide,ge_ q26',out,b4 _ _ hD2 Dl,?_,hN (out++[.str ⟨#[97+q]⟩]) _ ⟨ss++[⟨#[97+q]⟩],?_,st4.upd Dl,?_,a1_,?_,?_⟩⟩
   ·rw[eo,aa'];omega
   ·exact (b2.trans b4).snd hD
   ·rw[eo,am'];rfl
   ·rw[an',le];rfl
   ·intro x hx;rcases av'.mp hx with hx|hx
    ·exact h1 x hx
    ·obtain rfl:x=⟨#[97+q]⟩:=by simpa using hx
     refine⟨ag' 1,fun c hc=>?_⟩;obtain rfl:c=97+q:=by simpa using hc
     exact hb_ q26'
  subst eo;have sl:=kq_ fun x hx=>(h1 x hx).1;have l8:ss.length<=6:=by omega
  have b02:=b1.trans b2;have fD:=b1.free st1 hD;refine⟨"",D,ss,rfl,rfl,.of hD2,by show (ss.map (·.length)).sum+ss.length * 0<=16777216;omega,?_⟩
  have jl:(Txt.join "" ss).length<=6:=by
   have:=i3_ "" ss;have e0:("":Str).length=0:=by decide +kernel
   rw[e0] at this;omega
  have jo:=i1_ fun x hx=>(h1 x hx).2;generalize Txt.join "" ss=jn at jl jo ⊢;clear hD2 h1 sl;refine⟨_,rfl,_,rfl,jn,rfl,by omega,_,_,rfl,rfl,l,_,rfl,by omega,by omega,st2,fun pl H4 p0 p1 b4 st4=>?_⟩;obtain⟨pl,rfl⟩:=aF' p0;have p1':pl<=jn.length:=by omega
  refine⟨_,rfl,l,26,rfl,by decide,by decide,st4,fun fi H5 f0 f1 b5 st5=>?_⟩;obtain⟨fi,rfl⟩:=aF' f0;have b05:=b02.trans (b4.trans b5);clear b02 b4 b5 b1 b2;refine⟨_,rfl,(m:Int),rfl,by omega,by omega,fun D2 hD2=>?_⟩;have D2l:=st5.ne hD2;have fD2:=b05.free st5 hD2;refine c5_ (own:=1) (fv:=[some (.int fi),some (.str "abcdefghijklmnopqrstuvwxyz")]) rfl gok1 m (fun i out H'=>Same H5 H'/\out=((List.range i).map fun k=>V.str ⟨#[97+(fi+7 * k) % 26]⟩)/\H' D2=some (.lst out)) ⟨Same.new hD2,rfl,a1_⟩ (fun out H6 ⟨s6,eo,h6⟩=>⟨ag' _,?_⟩) (fun i out H6 hi ⟨s6,eo,h6⟩=>⟨hi,fun x H7 ⟨e7,ex⟩=>?_⟩);rotate_left 1
  ·subst e7;subst ex;have q26:(fi+7 * i) % 26<26:=Nat.mod_lt _ (by decide);refine⟨_,rfl,rfl,fun Nx hN=>yesT ?_⟩;refine⟨_,rfl,_,rfl,_,rfl,_,_,rfl,rfl,.inl ⟨by decide,by decide⟩,_,_,rfl,rfl,_,_,rfl,rfl,by show (0:Int)<26;decide,?_⟩;have e:((fi:Int)+7 * (0+(i:Int))) % 26=(((fi+7 * i) % 26:Nat):Int):=by omega
   refine⟨_,_,97+(fi+7 * i) % 26,rfl,rfl,by rw[abc_len.1];decide,?_,out,h6,?_,hN (out++[.str ⟨#[97+(fi+7 * i) % 26]⟩]) _ ⟨aC_ s6 hD2,?_,a1_⟩⟩
   ·rw[e];exact ge_ q26
   ·rw[eo,aa',List.length_range];omega
   ·rw[eo,List.range_succ,am'];rfl
  subst eo;have b06:But l H H6:=b05.trans (But.of s6);have st6:=st5.same s6;have hl6:jn.length=jn.cps.toList.length:=aW_ jn;refine⟨_,rfl,(m:Int),rfl,by omega,by omega,fun D3 hD3=>?_⟩;have D3l:=st6.ne hD3;have fD3:=b06.free st6 hD3;refine c5_ (own:=1) (fv:=[some (.int pl),some (.ref D2),some (.str jn)]) rfl gok1 m (fun i out H'=>∃ns:List Str,Same H6 H'/\out=ns.map V.str/\H' D3=some (.lst out)/\ns.length=i/\∀k n,ns[k]? = some n->n.cps.toList=jn.cps.toList.take pl++(97+(fi+7 * k) % 26)::(jn.cps.toList.drop pl++List.replicate (k / 26) 122)) ⟨[],Same.new hD3,rfl,a1_,rfl,by simp⟩ (fun out H7 ⟨ns,s7,eo,h7,le,hn⟩=>⟨ag' _,?_⟩) (fun i out H7 hi ⟨ns,s7,eo,h7,le,hn⟩=>⟨hi,fun x H8 ⟨e8,ex⟩=>?_⟩)
  ·subst eo;refine k D3 ns H7 (b06.trans (But.of s7)) (st6.same s7) fD3 h7 (iQ_ m8 le (fun c hc=>jo c (List.mem_of_mem_take hc)) (fun c hc=>jo c (List.mem_of_mem_drop hc)) ?_ hn);rw[ak',List.length_drop];omega
  ·subst e8;subst ex;refine⟨_,rfl,rfl,fun Nx hN=>yesT ?_⟩;have ct:=ki_ (x:=jn) p1';have cf:=i5_ (x:=jn) p1'
   have lt:(Txt.slice jn none (some (pl:Int))).length<=6:=by
    rw[aW_,ct,ak'];omega
   have lf:(Txt.slice jn (some (pl:Int)) none).length<=6:=by
    rw[aW_,cf,List.length_drop];omega
   have ha:((List.range m).map fun k=>V.str ⟨#[97+(fi+7 * k) % 26]⟩)[i]? = some (V.str ⟨#[97+(fi+7 * i) % 26]⟩):=by
    rw[ao',List.getElem?_range hi];rfl
   refine⟨_,rfl,_,rfl,_,rfl,jn,rfl,by omega,_,rfl,_,rfl,D2,_,_,V.str ⟨#[97+(fi+7 * i) % 26]⟩,rfl,rfl,.of (s7 _ _ h6),?_,_,_,rfl,rfl,?_,?_⟩
   ·rw[bs' (by omega) (by rw[aa',List.length_range];omega),Int.zero_add];exact ha
   ·show (Txt.slice jn none (some (pl:Int))).length+1<=sizeLine;omega
   have l1:(Txt.slice jn none (some (pl:Int))++(⟨#[97+(fi+7 * i) % 26]⟩:Str)).length<=7:=by
    rw[aW_,g5_,an',<- aW_];show _+1<=7;omega
   refine⟨_,rfl,_,rfl,_,rfl,jn,rfl,by omega,_,_,rfl,rfl,by omega,?_⟩
   have l2:(Txt.slice jn none (some (pl:Int))++(⟨#[97+(fi+7 * i) % 26]⟩:Str)++Txt.slice jn (some (pl:Int)) none).length<=13:=by
    rw[aW_,g5_,an',<- aW_,<- aW_];omega
   have z0:((0:Int)+(i:Int)) / 26=((i / 26:Nat):Int):=by omega
   have q1:i / 26<=1:=by omega
   have lz:(Txt.mul "z" ((i / 26:Nat):Int)).length<=1:=by
    rw[aW_,(mulZ q1).2,aH'];exact q1
   refine⟨_,rfl,_,_,rfl,rfl,⟨by decide,by decide⟩,"z",((i / 26:Nat):Int),rfl,by show V.int ((0+(i:Int)) / 26)=_;rw[z0],(mulZ q1).1,_,_,rfl,rfl,?_,out,h7,?_,hN _ _ ⟨ns++[Txt.slice jn none (some (pl:Int))++(⟨#[97+(fi+7 * i) % 26]⟩:Str)++Txt.slice jn (some (pl:Int)) none++Txt.mul "z" ((i / 26:Nat):Int)],aC_ s7 hD3,?_,a1_,?_,?_⟩⟩
   ·omega
   ·rw[eo,aa'];omega
   ·rw[eo,am'];rfl
   ·rw[an',le];rfl
   ·intro k n hk;by_cases z:k<ns.length
    ·rw[aR' z] at hk;exact hn k n hk
    ·rw[aQ' (by omega)] at hk
     have hk0:k - ns.length=0:=by
      have:=(ab'.mp hk).1;simp at this;omega
     rw[hk0] at hk;have:k=i:=by omega
     subst this;obtain rfl:=(Option.some.inj hk);rw[g5_,g5_,g5_,ct,cf,(mulZ q1).2];simp
end
end Ev
namespace Ev
open PySem L2
theorem cK_(ys:List V)(k:Nat):cutV ys none (some (k:Int))=ys.take k:=by
 unfold cutV;rw[HT.sIx_none,HT.sIx_nat,List.drop_zero,Nat.sub_zero];by_cases h:k<=ys.length
 ·rw[Nat.min_eq_left h]
 ·rw[Nat.min_eq_right (by omega),aJ' (ag' _),aJ' (by omega)]
structure WI (K:F__) (H0 H:Hp) (l ln lh lt:Addr) (ns:List Str) (nh k j:Nat):Prop where
 but:But l H0 H
 st:stt H l
 hn:H ln=some (.lst (ns.map V.str))
 hands:∃(ys:List V) (hs:List (Str × Int)),H lh=some (.lst ys)/\ba' K H ys (hs.map kH)/\hs.map (·.1)=ns.take nh/\∀h∈hs,1<=h.2/\h.2<=1000
 ties:∃(zs:List V) (ts:List (Str × Str)),H lt=some (.lst zs)/\ba' K H zs (ts.map kT)/\TI ns k j ts
 nl:ln≠l
 hl:lh≠l
 tl:lt≠l
 th:lt≠lh
 nh':ln≠lh
 nt:ln≠lt
 fh:H0 lh=none
 ft:H0 lt=none
section
variable{K:F__}{H0 H H':Hp}{l ln lh lt:Addr}{ns:List Str}{nh k j:Nat}
theorem WI.mv(W:WI K H0 H l ln lh lt ns nh k j)(b:But l H H')(s:stt H' l):WI K H0 H' l ln lh lt ns nh k j:=by
 obtain⟨xs,hx⟩:=W.st.some;obtain⟨ys,hs,h1,h2,h3,h4⟩:=W.hands;obtain⟨zs,ts,t1,t2,t3⟩:=W.ties;exact⟨W.but.trans b,s,b _ _ W.hn W.nl,⟨ys,hs,b _ _ h1 W.hl,aX_ h2 b hx,h3,h4⟩,⟨zs,ts,b _ _ t1 W.tl,aX_ t2 b hx,t3⟩,W.nl,W.hl,W.tl,W.th,W.nh',W.nt,W.fh,W.ft⟩
theorem WI.same(W:WI K H0 H l ln lh lt ns nh k j)(s:Same H H'):WI K H0 H' l ln lh lt ns nh k j:=W.mv (But.of s) (W.st.same s)
theorem WI.hand(W:WI K H0 H l ln lh lt ns nh k j){t:Addr}{n:Str}{x:Int}{ys:List V}(hx:1<=x/\x<=1000)(hn:ns[nh]? = some n)(hy:H lh=some (.lst ys))(ht:H t=some (.tup [.str n,.int x])):WI K H0 (upd H lh (.lst (ys++[.ref t]))) l ln lh lt ns (nh+1) k j:=by
 obtain⟨ys',hs,h1,h2,h3,h4⟩:=W.hands;rw[hy] at h1;cases h1;obtain⟨zs,ts,t1,t2,t3⟩:=W.ties;have tt:H t=some (.tup ((kH (n,x)).map kV)):=ht;refine⟨W.but.snd W.fh,W.st.upd W.hl,by rw[a4_ W.nh'];exact W.hn,⟨_,hs++[(n,x)],a1_,?_,?_,fun h hh=>?_⟩,⟨zs,ts,by rw[a4_ W.th];exact t1,b4_ t2 hy,t3⟩,W.nl,W.hl,W.tl,W.th,W.nh',W.nt,W.fh,W.ft⟩
 ·rw[am'];exact b4_ (bv_ h2 tt) hy
 ·rw[am',h3,aD',hn];rfl
 ·rcases av'.mp hh with hh|hh
  ·exact h4 h hh
  ·obtain rfl:h=(n,x):=by simpa using hh
   exact hx
theorem fX_{α:Type}(l:List α)(x:α):dB' l l.length x=l++[x]:=by
 unfold dB';rw[ar',List.drop_length]
end
section
variable{P:Program}{w:World}{K:F__}{mg:Str->Option Value}{base:Heap}
theorem bC':a8' ["_law_state_here","_law_names","_law_plain","_law_dense","_law_hands","_law_ties","_law_k","_law_name","_law_some","_law_other","_law_pair"] ["_law_state_here"] (a7' sLWeb):=f__
def spLWeb(K:F__):Sp:=fun vs H Q _=>∃(l:Addr),vs=[.ref l]/\stt H l/\∀(t lh lt:Addr) (ys zs:List V) (hs:List (Str × Int)) (ts:List (Str × Str)) (H':Hp),But l H H'->stt H' l->H' t=some (.tup [.ref lh,.ref lt])->H lh=none->H lt=none->lh≠lt->lh≠l->lt≠l->
 H' lh=some (.lst ys)->ba' K H' ys (hs.map kH)->H' lt=some (.lst zs)->ba' K H' zs (ts.map kT)->Good hs ts->Q (.ref t) H'
set_option maxHeartbeats 1600000 in
theorem iW_{f:Addr}{fd:FuncData}(F:Fun K "_law_web" "_law_web" sLWeb f fd)(B:Bi mg)(cD:Cal P w K mg base 2 "_law_digit" ["_law_state_here","_law_base"] bF')(cN:Cal P w K mg base 3 "_law_named" ["_law_state_here","_law_many"] cK'):FnOk P w K mg base CX0 4 f fd ["_law_state_here"] (spLWeb K):=by
 refine F.ok bC' (fun vs H Q E h=>?_) (fun cdv A outer s H vs Q E hr h=>?_)
 ·obtain⟨l,rfl,_⟩:=h;rfl
 ·obtain⟨l,rfl,st,k⟩:=h;have sz:=sizeLine_eq;have hr2:Room 2 _:=hr.mono (by decide);refine' ⟨_,?r0,?kk⟩
  case' r0=>refine' a2_ ?s1 ?r1
  case' r1=>refine' a2_ ?s2 ?r2
  case' r2=>refine' a2_ ?s3 ?r3
  case' r3=>refine' a2_ ?s4 ?r4
  case' r4=>refine' a2_ ?s5 ?r5
  case' r5=>refine' a2_ ?s6 ?r6
  case' r6=>refine' a5_ ?s7
  case s1=>exact a9_ (i:=1) bC'.nd rfl (Or.inl rfl) (ae_ cN hr (a0_ (pv 0) (a0_ (al_ b3_ a7_ (ae_ cD hr2 (a0_ (pv 0) (a0_ a7_ a3_)))) a3_)))
  case s2=>exact a9_ (i:=2) bC'.nd rfl (Or.inl rfl) (ae_ cD hr2 (a0_ (pv 0) (a0_ a7_ a3_)))
  case s3=>exact a9_ (i:=3) bC'.nd rfl (Or.inl rfl) (al_ b3_ a7_ (ae_ cD hr2 (a0_ (pv 0) (a0_ a7_ a3_))))
  case s4=>exact a9_ (i:=4) bC'.nd rfl (Or.inl rfl) (aE_ a3_)
  case s5=>exact a9_ (i:=5) bC'.nd rfl (Or.inl rfl) (aE_ a3_)
  case' s6=>refine' aG_ PassesOwn.never rfl (jr_ (by rfl) B.enum (a0_ (pv 1) a3_)) (bd_ rfl (ad_ (a8_ (i:=6) bC'.nd rfl (Or.inl rfl)) (ad_ (a8_ (i:=7) bC'.nd rfl (Or.inl rfl)) aT_))) ?b0
  case' b0=>refine' a2_ ?b1 ?c1
  case' c1=>refine' a2_ ?b2 ?c2
  case' c2=>refine' a5_ ?b3
  case' b1=>refine' a9_ (i:=8) bC'.nd rfl (Or.inl rfl) (aE_ ?l0)
  case' l0=>refine' a0_ a7_ ?l1
  case' l1=>refine' a0_ (al_ b3_ a7_ (ae_ cD hr2 (a0_ (pv 0) (a0_ a7_ a3_)))) ?l2
  case' l2=>refine' a0_ (al_ b3_ a7_ (ae_ cD hr2 (a0_ (pv 0) (a0_ a7_ a3_)))) ?l3
  case l3=>exact a0_ a7_ a3_
  case' b2=>refine' b6_ (bQ_ PySem.F.plainAttrs_list PySem.F.slot_list_append PySem.F.type_list_append aU_ (pv 4) (a0_ (aP_ (a0_ (pv 7) (a0_ ?d1 a3_))) a3_))
  case d1=>exact ax_ aH_ (pv 8) (al_ b8_ (ae_ cD hr2 (a0_ (pv 0) (a0_ a7_ a3_))) (ao_ bX_ (by rfl) B.int PyProof.Rows.Boot.«int» (a0_ (aQ_ cu_ (pv 2) a7_ (nomark _)) a3_))) (fun _ _=>rfl)
  case' b3=>refine' aG_ PassesOwn.never rfl (am_ (bE_ dt_ (pv 1) ca_ (c6_ (pv 6)))) (a8_ (i:=9) bC'.nd rfl (Or.inl rfl)) ?e0
  case' e0=>refine' a2_ ?e1 ?e2
  case e1=>exact a9_ (i:=10) bC'.nd rfl (Or.inl rfl) (ax_ aH_ (aE_ (a0_ (aP_ (a0_ (pv 7) (a0_ (pv 9) a3_))) (a0_ (aP_ (a0_ (pv 9) (a0_ (pv 7) a3_))) a3_))) (ae_ cD hr2 (a0_ (pv 0) (a0_ a7_ a3_))) (fun _ _=>rfl))
  case' e2=>refine' a5_ (a9_ (i:=5) bC'.nd rfl (Or.inl rfl) (al_ io_ (pv 5) (al_ iu_ (aE_ (a0_ (pv 10) a3_)) ?g1)))
  case g1=>exact ao_ bX_ (by rfl) B.int PyProof.Rows.Boot.«int» (a0_ (aQ_ kn_ (ae_ cD hr2 (a0_ (pv 0) (a0_ a7_ a3_))) (pv 3) (nomark _)) a3_)
  case s7=>exact ab_ (aP_ (a0_ (pv 4) (a0_ (pv 5) a3_)))
  case' kk=>skip
  refine⟨_,rfl,_,rfl,l,8,rfl,by decide,by decide,st,fun r H1 r0 r8 b1 st1=>⟨_,_,rfl,rfl,?_⟩⟩;obtain⟨r,rfl⟩:=aF' r0;refine⟨l,1+r,by show [V.ref l,V.int (1+(r:Int))]=[V.ref l,V.int ((1+r:Nat):Int)];rw[Int.natCast_add];rfl,by omega,st1,fun ln ns H2 b2 st2 fn hn2 N=>?_⟩;have n8:ns.length<=8:=by rw[N.len];omega
  have n1:1<=ns.length:=by rw[N.len];omega
  have lnl:ln≠l:=st1.ne fn;refine⟨_,rfl,l,3,rfl,by decide,by decide,st2,fun pln H3 p0 p1 b3 st3=>?_⟩;refine⟨_,rfl,l,3,rfl,by decide,by decide,st3,fun dn H4 d0 d1 b4 st4=>⟨_,_,rfl,rfl,?_⟩⟩;have hn4:=b4 _ _ (b3 _ _ hn2 lnl) lnl;have B4:But l H H4:=b1.trans (b2.trans (b3.trans b4));refine⟨by show 0<=sizeLine;decide,fun lh hlh=>?_⟩;have s5:=Same.new (o:=.lst []) hlh;have hlh5:upd H4 lh (.lst []) lh=some (.lst []):=a1_;have lhl:=st4.ne hlh;have fh:H lh=none:=B4.free st4 hlh;have nlh:ln≠lh:=a6_ hn4 hlh;generalize upd H4 lh (.lst [])=H5 at s5 hlh5 ⊢;refine⟨by show 0<=sizeLine;decide,fun lt hlt=>?_⟩;have s6:=Same.new (o:=.lst []) hlt;have st5:=st4.same s5;have ltl:=st5.ne hlt;have B5:=B4.trans (But.of s5);have ft:H lt=none:=B5.free st5 hlt;have W0:WI K H (upd H5 lt (.lst [])) l ln lh lt ns 0 0 0:=⟨B5.trans (But.of s6),st5.same s6,s6 _ _ (s5 _ _ hn4),⟨[],[],s6 _ _ hlh5,.nil,rfl,by simp⟩,⟨[],[],a1_,.nil,⟨by simp,.nil,aC' _⟩⟩,lnl,lhl,ltl,(a6_ hlh5 hlt).symm,nlh,a6_ (s5 _ _ hn4) hlt,fh,ft⟩;clear B4 B5 b1 b2 b3 b4 st1 st2 st3 st4 st5 s5 s6 fn hn2 hn4;generalize upd H5 lt (.lst [])=H6 at W0 ⊢;refine setG ?_;dsimp only;refine seqG (fun σ H'=>∃(lt:Addr) (v6 v7 v8 v9 v10:Option V),σ=[some (.ref l),some (.ref ln),some (.int pln),some (.int (1+dn)),some (.ref lh),some (.ref lt),v6,v7,v8,v9,v10]/\WI K H H' l ln lh lt ns ns.length ns.length 0) ?last ?loop
  case last=>
   rintro σ H7 ⟨lt,v6,v7,v8,v9,v10,rfl,W⟩;obtain⟨ys,hs,h1,h2,h3,h4⟩:=W.hands;obtain⟨zs,ts,t1,t2,t3⟩:=W.ties;rw[ar'] at h3;refine⟨_,rfl,_,rfl,by show 2<=sizeLine;decide,fun t ht=>?_⟩;have s8:=Same.new (o:=.tup [.ref lh,.ref lt]) ht;refine k t lh lt ys zs hs ts _ (W.but.trans (But.of s8)) (W.st.same s8) a1_ W.fh W.ft W.th.symm W.hl W.tl (s8 _ _ h1) (h2.same s8) (s8 _ _ t1) (t2.same s8) ?_;have tg:=t3.good N.nd N.ok
   have hlen:hs.length=ns.length:=by
    have:=congrArg List.length h3;rwa [aa'] at this
   refine⟨fun h hh=>⟨N.ok _ ?_,h4 h hh⟩,by rw[h3];exact N.nd,by omega,by omega,fun t ht=>(tg t ht).1,t3.nd,by have:=t3.len;omega,fun t ht=>by rw[h3];exact (tg t ht).2⟩;rw[<- h3];exact ac'.mpr ⟨h,hh,rfl⟩
  case loop=>
   intro N0 hN
   refine⟨_,rfl,ln,rfl,⟨_,.of W0.hn⟩,hz_ (K:=K) (a:=ln) (xs:=ns.map V.str) (fun i σ H'=>∃(lt:Addr) (v6 v7 v8 v9 v10:Option V),σ=[some (.ref l),some (.ref ln),some (.int pln),some (.int (1+dn)),some (.ref lh),some (.ref lt),v6,v7,v8,v9,v10]/\WI K H H' l ln lh lt ns i i 0)
    ⟨lt,none,none,none,none,none,rfl,W0⟩ (fun i σ H' _ ⟨_,_,_,_,_,_,_,W⟩=>.of W.hn) ?_ ?_⟩
   rotate_left 1
   ·rintro σ H' ⟨lt,v6,v7,v8,v9,v10,rfl,W⟩;rw[aa'] at W;exact hN _ _ ⟨lt,v6,v7,v8,v9,v10,rfl,W⟩
   rintro i x σ H7 hx ⟨lt,v6,v7,v8,v9,v10,rfl,W⟩ u hu;obtain⟨one,hone,rfl⟩:=aj_ hx;have hi:i<ns.length:=(ab'.mp hone).1;have s7:Same H7 (upd H7 u (.tup [.int i,.str one])):=Same.new hu;have hu7:upd H7 u (.tup [.int i,.str one]) u=some (.tup [.int i,.str one]):=a1_;refine⟨u,_,rfl,.of hu7,rfl,_,_,rfl,_,_,rfl,rfl,?_⟩;have W8:=W.same s7;clear W hu7;generalize upd H7 u (.tup [.int i,.str one])=H8 at W8 ⊢;clear s7 hu;dsimp only;refine seqG (fun σ H'=>∃(lt ls:Addr) (v9 v10:Option V) (a b:Int),σ=[some (.ref l),some (.ref ln),some (.int pln),some (.int (1+dn)),some (.ref lh),some (.ref lt),some (.int i),some (.str one),some (.ref ls),v9,v10]/\WI K H H' l ln lh lt ns i i 0/\H' ls=some (.lst [.int 1,.int a,.int b,.int 1000])/\ls≠l/\1<=a/\a<=1000/\1<=b/\b<=1000) ?m2 ?m1
   case m1=>
    intro N2 hN2;refine⟨_,rfl,l,4,rfl,by decide,by decide,W8.st,fun r1 H9 q0 q1 b9 st9=>⟨_,_,rfl,rfl,?_⟩⟩;have W9:=W8.mv b9 st9;refine⟨_,rfl,l,1000,rfl,by decide,by decide,W9.st,fun r2 H10 q2 q3 b10 st10=>⟨_,_,rfl,rfl,?_⟩⟩;have W10:=W9.mv b10 st10;refine⟨by show 4<=sizeLine;decide,fun ls hls=>?_⟩;exact hN2 _ _ ⟨lt,ls,_,_,1+r1,1+r2,rfl,W10.same (Same.new hls),a1_,W10.st.ne hls,by omega,by omega,by omega,by omega⟩
   rintro σ H9 ⟨lt,ls,v9,v10,a,b,rfl,W9,hls,lsl,a1,a2,b1,b2⟩;refine seqG (fun σ H'=>∃(lt ls:Addr) (v9 v10:Option V),σ=[some (.ref l),some (.ref ln),some (.int pln),some (.int (1+dn)),some (.ref lh),some (.ref lt),some (.int i),some (.str one),some (.ref ls),v9,v10]/\WI K H H' l ln lh lt ns (i+1) i 0) ?m4 ?m3
   case m3=>
    intro N3 hN3;obtain⟨ys,hs,h1,h2,h3,h4⟩:=W9.hands;refine⟨_,rfl,.inl ⟨rfl,_,.of h1⟩,_,rfl,_,rfl,_,rfl,l,4,rfl,by decide,by decide,W9.st,fun r1 H10 q0 q1 b10 st10=>?_⟩;have W10:=W9.mv b10 st10
    obtain⟨ix,e0,e4,eix⟩:∃ix:Int,0<=ix/\ix<4/\r1 * (if decide (0<pln)=true then 1 else 0)=ix:=by
     refine⟨_,?_,?_,rfl⟩
     ·by_cases c:decide (0<pln)=true
      ·rw[if_pos c];omega
      ·rw[if_neg c];omega
     ·by_cases c:decide (0<pln)=true
      ·rw[if_pos c];omega
      ·rw[if_neg c];omega
    obtain⟨v,hv,x,rfl,x1,x2⟩:=hitL (p:=fun v:V=>∃x:Int,v=V.int x/\1<=x/\x<=1000) (xs:=[V.int 1,.int a,.int b,.int 1000]) (n:=4) rfl e0 e4 (fun v hv=>by
     simp only[ai',aP',or_false] at hv;rcases hv with rfl|rfl|rfl|rfl
     ·exact⟨_,rfl,by decide,by decide⟩
     ·exact⟨_,rfl,a1,a2⟩
     ·exact⟨_,rfl,b1,b2⟩
     ·exact⟨_,rfl,by decide,by decide⟩)
    have hls10:=b10 _ _ hls lsl;refine⟨_,rfl,_,_,rfl,rfl,.inr ⟨_,rfl,_,_,rfl,rfl,.inl ⟨by omega,by omega⟩,ls,_,_,_,rfl,congrArg V.int eix,.of hls10,hv,by show 2<=sizeLine;decide,fun t ht=>?_⟩⟩;have W11:=W10.same (Same.new (o:=.tup [.str one,.int x]) ht);have h10:=b10 _ _ h1 W9.hl;refine⟨lh,_,_,rfl,rfl,Same.new (o:=.tup [.str one,.int x]) ht _ _ h10,?_,hN3 _ _ ⟨lt,ls,v9,v10,rfl,W11.hand ⟨x1,x2⟩ hone (Same.new (o:=.tup [.str one,.int x]) ht _ _ h10) a1_⟩⟩;have:=congrArg List.length h3;have:=Paired.length h2;rw[aa'] at this;rw[aa',ak'] at *;omega
   rintro σ H10 ⟨lt,ls,v9,v10,rfl,W10⟩;refine⟨_,rfl,_,rfl,_,rfl,ln,_,rfl,.of W10.hn,fun p hp=>?_⟩;rw[hL_];have W11:=W10.same (Same.new (o:=.lst ((ns.take i).map V.str)) hp);have hp11:upd H10 p (.lst ((ns.take i).map V.str)) p=some (.lst ((ns.take i).map V.str)):=a1_;have lp:=W10.st.ne hp;generalize upd H10 p (.lst ((ns.take i).map V.str))=H11 at W11 hp11 ⊢
   refine⟨p,rfl,⟨_,.of hp11⟩,as_ (K:=K) (a:=p) (xs:=(ns.take i).map V.str) (fun j σ H'=>∃(lt ls:Addr) (v9 v10:Option V),σ=[some (.ref l),some (.ref ln),some (.int pln),some (.int (1+dn)),some (.ref lh),some (.ref lt),some (.int i),some (.str one),some (.ref ls),v9,v10]/\H' p=some (.lst ((ns.take i).map V.str))/\WI K H H' l ln lh lt ns (i+1) i j)
    ⟨lt,ls,v9,v10,rfl,hp11,W11⟩ (fun j σ H' _ ⟨_,_,_,_,_,q,_⟩=>.of q) ?_ ?_⟩
   rotate_left 1
   ·rintro σ H' ⟨lt,ls,v9,v10,rfl,_,W⟩;refine⟨lt,_,_,_,_,_,rfl,?_⟩;obtain⟨zs,ts,t1,t2,t3⟩:=W.ties;rw[aa',ak',Nat.min_eq_left (by omega)] at t3;exact⟨W.but,W.st,W.hn,W.hands,⟨zs,ts,t1,t2,t3.next (by omega)⟩,W.nl,W.hl,W.tl,W.th,W.nh',W.nt,W.fh,W.ft⟩
   rintro j y σ H12 hy ⟨lt,ls,v9,v10,rfl,hp12,W12⟩;obtain⟨o,ho,rfl⟩:=aj_ hy
   have hj:j<i:=by
    have:=(ab'.mp ho).1;rw[ak'] at this;omega
   rw[List.getElem?_take,if_pos hj] at ho;refine setG ?_;dsimp only;refine seqG (fun σ H'=>∃(lt ls t:Addr) (v9:Option V) (tt:Str × Str),σ=[some (.ref l),some (.ref ln),some (.int pln),some (.int (1+dn)),some (.ref lh),some (.ref lt),some (.int i),some (.str one),some (.ref ls),v9,some (.ref t)]/\H' p=some (.lst ((ns.take i).map V.str))/\WI K H H' l ln lh lt ns (i+1) i j/\H' t=some (.tup ((kT tt).map kV))/\(tt=(one,o)∨tt=(o,one))) ?m6 ?m5
   case m5=>
    intro N5 hN5;refine⟨_,rfl,_,rfl,by show 2<=sizeLine;decide,fun t1 ht1=>?_⟩;have s11:=Same.new (o:=.tup [.str one,.str o]) ht1;refine⟨_,rfl,_,rfl,by show 2<=sizeLine;decide,fun t2 ht2=>?_⟩;have s12:=Same.new (o:=.tup [.str o,.str one]) ht2;refine⟨by show 2<=sizeLine;decide,fun lx hlx=>?_⟩;have s13:=Same.new (o:=.lst [.ref t1,.ref t2]) hlx;have W13:=W12.same ((s11.trans s12).trans s13);have hp13:=s13 _ _ (s12 _ _ (s11 _ _ hp12));refine⟨_,rfl,l,2,rfl,by decide,by decide,W13.st,fun r5 H14 q4 q5 b14 st14=>?_⟩;have lxl:lx≠l:=(W12.same (s11.trans s12)).st.ne hlx;have hlx14:=b14 _ _ (show upd (upd (upd H12 t1 (.tup [.str one,.str o])) t2 (.tup [.str o,.str one])) lx (.lst [.ref t1,.ref t2]) lx=_ from a1_) lxl;obtain⟨xs13,hl13⟩:=W13.st.some;have ht1':=s13 _ _ (s12 _ _ (show upd H12 t1 (.tup [.str one,.str o]) t1=_ from a1_));have ht2':=s13 _ _ (show upd (upd H12 t1 (.tup [.str one,.str o])) t2 (.tup [.str o,.str one]) t2=_ from a1_);have ht1'':=b14 _ _ ht1' (aN_ ht1' hl13 nofun);have ht2'':=b14 _ _ ht2' (aN_ ht2' hl13 nofun)
    have pick:∃(t:Addr) (tt:Str × Str),atI [V.ref t1,V.ref t2] r5=some (.ref t)/\H14 t=some (.tup ((kT tt).map kV))/\(tt=(one,o)∨tt=(o,one)):=by
     rcases hit2 (a:=V.ref t1) (b:=V.ref t2) q4 q5 with e|e
     ·exact⟨t1,(one,o),e,ht1'',.inl rfl⟩
     ·exact⟨t2,(o,one),e,ht2'',.inr rfl⟩
    obtain⟨t,tt,et,htt,hor⟩:=pick;exact⟨lx,_,_,_,rfl,rfl,.of hlx14,et,hN5 _ _ ⟨lt,ls,t,_,tt,rfl,b14 _ _ hp13 lp,W13.mv b14 st14,htt,hor⟩⟩
   rintro σ H13 ⟨lt,ls,t,v9,tt,rfl,hp13,W13,htt,hor⟩;obtain⟨zs,ts,t1,t2,t3⟩:=W13.ties;refine⟨_,rfl,_,rfl,by show 1<=sizeLine;decide,fun lx hlx=>?_⟩;have s14:=Same.new (o:=.lst [.ref t]) hlx;have W14:=W13.same s14;have hlx14:upd H13 lx (.lst [.ref t]) lx=some (.lst [.ref t]):=a1_;have lxl:=W13.st.ne hlx;have lxh:lx≠p:=(a6_ hp13 hlx).symm;have hp14:=s14 _ _ hp13;have htt14:=s14 _ _ htt;generalize upd H13 lx (.lst [.ref t])=H14 at s14 W14 hlx14 hp14 htt14 ⊢;refine⟨_,rfl,l,3,rfl,by decide,by decide,W14.st,fun r6 H15 q6 q7 b15 st15=>⟨_,rfl,_,_,rfl,rfl,.inr ⟨_,rfl,?_⟩⟩⟩;have W15:=W14.mv b15 st15;have hlx15:=b15 _ _ hlx14 lxl;have hp15:=b15 _ _ hp14 lp;obtain⟨xs14,hl14⟩:=W14.st.some;have htt15:=b15 _ _ htt14 (aN_ htt14 hl14 nofun);obtain⟨zs5,ts5,u1,u2,u3⟩:=W15.ties
   have u7:zs5.length<=100:=by
    have a1:=Paired.length u2;have a2:=u3.len;rw[aa'] at a1;omega
   have fin:∀(b:Bool) (q:Addr) (H16:Hp),Same H15 H16->∀u,H16 u=none->WI K H (upd H16 u (.lst (zs5++(List.replicate (if b=true then (1:Int) else 0).toNat [V.ref t]).flatten))) l ln lh u ns (i+1) i (j+1):=by
    intro b q H16 s16 u hu;have W16:=W15.same s16;have W17:=W16.same (Same.new (o:=.lst (zs5++(List.replicate (if b=true then (1:Int) else 0).toNat [V.ref t]).flatten)) hu);refine⟨W17.but,W17.st,W17.hn,W17.hands,⟨_,if b=true then ts5++[tt] else ts5,a1_,?_,?_⟩,W17.nl,W17.hl,W16.st.ne hu,?_,W17.nh',?_,W17.fh,W16.but.free W16.st hu⟩
    ·have u2':=(u2.same s16).same (Same.new (o:=.lst (zs5++(List.replicate (if b=true then (1:Int) else 0).toNat [V.ref t]).flatten)) hu);cases b with
     |true=>
      show ba' K _ (zs5++[V.ref t]) ((ts5++[tt]).map kT);rw[am'];exact bv_ u2' (Same.new hu _ _ (s16 _ _ htt15))
     |false=>
      show ba' K _ (zs5++[]) (ts5.map kT);rw[aA'];exact u2'
    ·cases b with
     |true=>
      have:=u3.add N.nd hj hone ho hor ts5.length;rw[fX_] at this;exact this
     |false=>exact u3.skip
    ·obtain⟨ys,hs,h1,_⟩:=W16.hands;exact (a6_ h1 hu).symm
    ·exact a6_ W16.hn hu
   refine⟨lx,_,_,rfl,rfl,hlx15,?_,?_,?_,fun q hq=>?_⟩
   ·by_cases c:decide (r6<1+dn)=true
    ·rw[if_pos c];decide
    ·rw[if_neg c];decide
   ·by_cases c:decide (r6<1+dn)=true
    ·rw[if_pos c];decide
    ·rw[if_neg c];decide
   ·by_cases c:decide (r6<1+dn)=true
    ·rw[if_pos c];show 1 * 1<=sizeLine;decide
    ·rw[if_neg c];show 1 * 0<=sizeLine;decide
   have s16:=Same.new (o:=.lst (List.replicate (if decide (r6<1+dn)=true then (1:Int) else 0).toNat [V.ref t]).flatten) hq;refine⟨lt,q,_,_,rfl,rfl,s16 _ _ u1,a1_,?_,fun u hu=>⟨u,ls,_,_,rfl,Same.new hu _ _ (s16 _ _ hp15),fin _ q _ s16 u hu⟩⟩;by_cases c:decide (r6<1+dn)=true
   ·rw[if_pos c];show zs5.length+1<=sizeLine;omega
   ·rw[if_neg c];show zs5.length+0<=sizeLine;omega
end
end Ev
namespace Ev
open PySem L2
theorem cI_{α:Type}{ps:List (Str × α)}(nd:(ps.map (·.1)).Nodup){a b:Str × α}(ha:a∈ps)(hb:b∈ps)(e:a.1=b.1):a=b:=by
 induction ps with
 |nil=>cases ha
 |cons p ps ih=>
  rw[ap',aM'] at nd;rcases ai'.mp ha with za|ha
  ·rcases ai'.mp hb with zb|hb
   ·rw[za,zb]
   ·rw[za] at e;exact absurd (show p.1∈ps.map (·.1) from ac'.mpr ⟨b,hb,e.symm⟩) nd.1
  ·rcases ai'.mp hb with zb|hb
   ·rw[zb] at e;exact absurd (show p.1∈ps.map (·.1) from ac'.mpr ⟨a,ha,e⟩) nd.1
   ·exact ih nd.2 ha hb
def strOf(hs:List (Str × Int))(n:Str):Int:=((hs.find? fun h=>decide (h.1=n)).map (·.2)).getD 0
theorem b5_{hs:List (Str × Int)}{n:Str}(h:n∈hs.map (·.1)):(n,strOf hs n)∈hs:=by
 unfold strOf;obtain⟨x,hx,e⟩:=ac'.mp h;cases q:hs.find? fun h=>decide (h.1=n) with
 |none=>
  have:=List.find?_eq_none.mp q x hx;simp[e] at this
 |some y=>
  have m:=List.mem_of_find?_eq_some q;have:=List.find?_some q;have e2:y.1=n:=by simpa using this
  show (n,y.2)∈hs;rw[<- e2];exact m
theorem eP_{hs:List (Str × Int)}(nd:(hs.map (·.1)).Nodup){n:Str}{s:Int}(h:(n,s)∈hs):strOf hs n=s:=by
 have m:=b5_ (ac'.mpr ⟨_,h,rfl⟩:n∈hs.map (·.1));exact congrArg Prod.snd (cI_ nd m h rfl)
theorem hv_{a b:Int}(ha:0<=a)(h:0<b):Int.gcd b (a % b)=Int.gcd a b:=by
 obtain⟨m,rfl⟩:=aF' ha;obtain⟨n,rfl⟩:=aF' (a6' h);rw[<- Int.natCast_emod];show Nat.gcd n (m % n)=Nat.gcd m n;rw[Nat.gcd_comm n,<- Nat.gcd_rec,Nat.gcd_comm]
theorem ku_{a b:Int}(hb:0<b)(hb2:b<=2000000):0<(Int.gcd a b:Int)/\(Int.gcd a b:Int)<1073741824:=by
 have h1:0<Int.gcd a b:=Int.gcd_pos_of_ne_zero_right a (by omega);have h2:(Int.gcd a b:Int) ∣ b:=Int.gcd_dvd_right a b;have h3:=Int.le_of_dvd hb h2;omega
section
variable{P:Program}{w:World}{K:F__}{mg:Str->Option Value}{base:Heap}
theorem scGd:a8' ["one","other","rest","divisor","left"] ["one","other"] (a7' sGd):=f__
def spGd:Sp:=fun vs H Q _=>∃a b:Int,vs=[.int a,.int b]/\0<=a/\0<b/\Q (.int (Int.gcd a b)) H
theorem ky_{f:Addr}{fd:FuncData}(F:Fun K "greatest_divisor" "greatest_divisor" sGd f fd):FnOk P w K mg base CX0 1 f fd ["one","other"] spGd:=by
 refine F.ok scGd (fun vs H Q E h=>?_) (fun cdv A outer s H vs Q E hr h=>?_)
 ·obtain⟨a,b,rfl,_⟩:=h;rfl
 ·obtain⟨a,b,rfl,ha,hb,k⟩:=h;refine' ⟨_,a2_ ?s1 (a2_ ?s2 (a2_ ?s3 ?s4)),?kk⟩
  case s1=>exact a9_ (i:=2) scGd.nd rfl (Or.inl rfl) (pv 0)
  case s2=>exact a9_ (i:=3) scGd.nd rfl (Or.inl rfl) (pv 1)
  case s3=>exact eR_ PassesOwn.never (ak_ ft_ (pv 2) a7_ (nomark _)) (a2_ (a9_ (i:=4) scGd.nd rfl (Or.inl rfl) (al_ bO_ (pv 3) (pv 2))) (a2_ (a9_ (i:=3) scGd.nd rfl (Or.inl rfl) (pv 2)) (a5_ (a9_ (i:=2) scGd.nd rfl (Or.inl rfl) (pv 4)))))
  case s4=>exact a5_ (ab_ (pv 3))
  case' kk=>skip
  refine⟨_,rfl,_,rfl,?_⟩;refine hs_ (fun σ H'=>H'=H/\∃(r d:Int) (v4:Option V),σ=[some (.int a),some (.int b),some (.int r),some (.int d),v4]/\0<=r/\0<d/\Int.gcd r d=Int.gcd a b) (fun σ _=>match σ with | [_,_,some (.int r),_,_]=>r.toNat|_=>0) ⟨rfl,a,b,none,rfl,ha,hb,rfl⟩ ?_ ?_
  ·rintro σ H' ⟨rfl,r,d,v4,rfl,hr0,hd,e⟩;refine⟨_,rfl,rfl,_,rfl,?_⟩;refine ite2 (fun c=>?_) (fun c=>?_)
   ·have hr1:0<r:=by
     have:r≠0:=by
      intro z;subst z;simp at c
     omega
    refine⟨_,rfl,_,rfl,_,_,rfl,rfl,hr1,_,rfl,_,rfl,?_⟩;have h1:=Int.emod_nonneg d (Int.ne_of_gt hr1);have h2:=Int.emod_lt_of_pos d hr1;refine⟨⟨rfl,_,_,_,rfl,h1,hr1,?_⟩,?_⟩
    ·rw[<- e,Int.gcd_comm (d % r) r,hv_ (a6' hd) hr1,Int.gcd_comm]
    ·show (d % r).toNat<r.toNat;omega
   ·have hr1:r=0:=by simpa using c
    subst hr1;refine⟨_,rfl,?_⟩
    have e2:(Int.gcd a b:Int)=d:=by
     rw[<- e,Int.gcd_zero_left];omega
    rw[<- e2];exact k
  ·intro σ H' Q1 Q2 hq h;obtain⟨x,e,h⟩:=h;exact⟨x,e,h.1,h.2.choose,h.2.choose_spec.1,hq _ _ h.2.choose_spec.2⟩
end
end Ev
namespace L2
open PySem PySem.Spec PyProof.Rows
def dv'(w:World)(l:List (Str × Tok × Value)):List DictEntry:=l.map fun x=>⟨hashStr w x.1,.str x.1 x.2.1,x.2.2⟩
def KDict(K:F__)(w:World)(d:Addr)(kvs:List (Str × V)):Prop:=
 (d == sysModules)=false/\(kvs.map (·.1)).Nodup/\∃(l:List (Str × Tok × Value)) (o:Obj) (es:Array DictEntry) (ep:Nat),K.lookup d=some o/\o.ExactDict/\o.data=.dict es ep/\es.toList=dv' w l/\Paired (fun(p:Str × V) (x:Str × Tok × Value)=>p.1=x.1/\RelV p.2 x.2.2) kvs l
theorem dF_{P:Program}{w:World}:∀{l:List (Str × Tok × Value)},Pairs (bb' P w) (dv' w l) (l.map fun x=>((Sum.inr x.1:Key),x.2.2))
 |[]=>.nil
 |x::l=>.cons (bM_ P w x.1 x.2.1) rfl (dF_ (l:=l))
theorem eB_{kvs:List (Str × V)}{l:List (Str × Tok × Value)}(h:Paired (fun(p:Str × V) (x:Str × Tok × Value)=>p.1=x.1/\RelV p.2 x.2.2) kvs l):kvs.map (·.1)=l.map (·.1):=by
 induction h with
 |nil=>rfl
 |cons a _ ih=>rw[ap',ap',ih,a.1]
theorem KDict.of{P:Program}{K:F__}{w:World}{d:Addr}{kvs:List (Str × V)}{h:Heap}(k:KDict K w d kvs)(X:K.In h):∃l:List (Str × Tok × Value),Paired (fun(p:Str × V) (x:Str × Tok × Value)=>p.1=x.1/\RelV p.2 x.2.2) kvs l/\h.DictOf (bb' P w) d (l.map fun x=>((Sum.inr x.1:Key),x.2.2)):=by
 obtain⟨_,nd,l,o,es,ep,ho,hx,hd,he,hp⟩:=k;refine⟨l,hp,o,es,ep,X _ _ ho,hx,hd,fun e m=>?_,?_,?_⟩
 ·have m:e∈dv' w l:=by
   rw[<- he];simpa using m
  obtain⟨x,_,rfl⟩:=ac'.mp m;exact⟨Sum.inr x.1,bM_ P w x.1 x.2.1,rfl⟩
 ·rw[he];exact dF_
 ·rw[eB_ hp] at nd;rw[al',aB',aG'];rw[aB',aG'] at nd;exact nd.imp fun n e=>n (Sum.inr.inj e)
theorem iN_{kvs:List (Str × V)}{l:List (Str × Tok × Value)}(h:Paired (fun(p:Str × V) (x:Str × Tok × Value)=>p.1=x.1/\RelV p.2 x.2.2) kvs l)(nd:(kvs.map (·.1)).Nodup){z:Str}{v:V}(m:(z,v)∈kvs):∃u,valueAt (l.map fun x=>((Sum.inr x.1:Key),x.2.2)) (Sum.inr z)=some u/\RelV v u:=by
 unfold valueAt
 induction h with
 |nil=>cases m
 |@cons p x kvs l a _ ih=>
  rw[ap'] at nd ⊢;rw[List.find?_cons];obtain⟨n1,n2⟩:=aM'.mp nd;by_cases e:x.1=z
  ·rcases ai'.mp m with m|m
   ·subst m;refine⟨x.2.2,?_,a.2⟩;simp[e]
   ·exact absurd (by rw[a.1,e];exact ac'.mpr ⟨_,m,rfl⟩) n1
  ·rcases ai'.mp m with m|m
   ·subst m;exact absurd a.1.symm e
   ·have:=ih n2 m;simp[e];simpa using this
theorem h9_{kvs:List (Str × V)}{l:List (Str × Tok × Value)}(h:Paired (fun(p:Str × V) (x:Str × Tok × Value)=>p.1=x.1/\RelV p.2 x.2.2) kvs l)(z:Str):(valueAt (l.map fun x=>((Sum.inr x.1:Key),x.2.2)) (Sum.inr z)).isSome=decide (z∈kvs.map (·.1)):=by
 rw[eB_ h];unfold valueAt;rw[Option.isSome_map,List.isSome_find?];rw[Bool.eq_iff_iff,List.any_eq_true,decide_eq_true_iff];constructor
 ·rintro⟨kv,hm,e⟩;obtain⟨x,hx,rfl⟩:=ac'.mp hm;have e:(Sum.inr x.1:Key)=Sum.inr z:=by simpa using e
  exact ac'.mpr ⟨x,hx,Sum.inr.inj e⟩
 ·intro m;obtain⟨x,hx,e⟩:=ac'.mp m;exact⟨_,ac'.mpr ⟨x,hx,rfl⟩,by simp[e]⟩
section
variable{X:Cx}{o i:Expr}{pos:Pos}{td ty:TE}
def tKIn(K:F__)(w:World)(ty td:TE):TE:=fun σ H Q=>ty σ H fun y H1=>td σ H1 fun x H2=>∃d kvs z,x=.ref d/\KDict K w d kvs/\y=.str z/\Q (.bl (decide (z∈kvs.map (·.1)))) H2
theorem kk_(hi:PE X i ty)(ho:PE X o td):PC X .In i o (tKIn X.K X.w ty td):=by
 intro pins s σ H Q I h;refine thn (hi pins s σ H _ I h) fun iv s1 ⟨y,H1,I1,ry,q1⟩=>thn (ho pins s1 σ H1 _ I1 q1) fun u s2 ⟨x,H2,I2,rx,d,kvs,z,ex,kd,ey,q2⟩=>?_;subst ex;subst ey;obtain rfl:u=Value.ref d:=rx;obtain⟨l,hp,dd⟩:=kd.of (P:=X.prog) I2.kIn;refine wpAny_in_of (df_ (k:=Sum.inr z) ry) kd.1 dd.mapOf ?_;rw[h9_ hp];exact⟨.bl _,H2,I2.tok _,rfl,q2⟩
def tKGet(K:F__)(w:World)(td ty:TE):TE:=fun σ H Q=>td σ H fun x H1=>ty σ H1 fun y H2=>∃d kvs z v,x=.ref d/\KDict K w d kvs/\y=.str z/\(z,v)∈kvs/\Q v H2
theorem jG_(ho:PE X o td)(hi:PE X i ty)(hs:NoSl i):PE X (.Subscript o i pos) (tKGet X.K X.w td ty):=by
 intro pins s σ H Q I h;refine gz_ PySem.F.slot_dict_getitem.lookup hs (thn (ho pins s σ H _ I h) fun u s1 ⟨x,H1,I1,rx,q1⟩=>thn (hi pins s1 σ H1 _ I1 q1) fun iv s2 ⟨y,H2,I2,ry,d,kvs,z,v,ex,kd,ey,hm,q2⟩=>?_);subst ex;subst ey;obtain rfl:u=Value.ref d:=rx;obtain⟨l,hp,dd⟩:=kd.of (P:=X.prog) I2.kIn;obtain⟨w',hw,rw'⟩:=iN_ hp kd.2.1 hm;exact⟨dd.mapOf.typeIs,wpAny_getItem_of (df_ (k:=Sum.inr z) ry) dd.mapOf hw ⟨v,H2,I2.tok _,rw',q2⟩⟩
end
end L2
namespace Ev
open PySem L2
abbrev Rl:=Str × Str × Str × Option Str
def rl:List Rl:=[("least one high","least","one",some "high"),("least one fall","least","one",some "fall"),("least one calm","least","one",some "calm"),("least all high","least","all",some "high"),("least all fall","least","all",some "fall"),("least all calm","least","all",some "calm"),("below one high","below","one",some "high"),("below one fall","below","one",some "fall"),("below one calm","below","one",some "calm"),("below all high","below","all",some "high"),("below all fall","below","all",some "fall"),("below all calm","below","all",some "calm"),("shares one","shares","one",none),("shares all","shares","all",none),("turns high","turns","all",some "high"),("turns fall","turns","all",some "fall"),("turns calm","turns","all",some "calm")]
def optV:Option Str->V
 |some x=>.str x
 |none=>.non
def rnames:List Str:=rl.map (·.1)
theorem h7_:rnames.Nodup:=by decide +kernel
def rkv(as:List Addr):List (Str × V):=List.zipWith (fun(r:Rl) a=>(r.1,V.ref a)) rl as
structure cH' (K:F__) (w:World) (mg:Str->Option Value) (d:Addr) (as:List Addr):Prop where
 mg:mg "RULES"=some (.ref d)
 len:as.length=17
 kd:KDict K w d (rkv as)
 tup:Paired (fun a (r:Rl)=>∀H,SqT K H a [.str r.2.1,.str r.2.2.1,optV r.2.2.2]) as rl
theorem dA_{as:List Addr}(h:as.length=17):(rkv as).map (·.1)=rnames:=by
 have:∀(rs:List Rl) (as:List Addr),as.length=rs.length->(List.zipWith (fun(r:Rl) a=>(r.1,V.ref a)) rs as).map (·.1)=rs.map (·.1):=by
  intro rs
  induction rs with
  |nil=>intro as _;rfl
  |cons r rs ih=>
   intro as e;cases as with
   |nil=>cases e
   |cons a as=>
    rw[List.zipWith_cons_cons,ap',ap',ih as (by simpa using e)]
 exact this rl as h
theorem iD_{K:F__}:∀{rs:List Rl} {as:List Addr},Paired (fun a (r:Rl)=>∀H,SqT K H a [.str r.2.1,.str r.2.2.1,optV r.2.2.2]) as rs->∀r∈rs,∃a,(r.1,V.ref a)∈List.zipWith (fun(r:Rl) a=>(r.1,V.ref a)) rs as/\∀H,SqT K H a [.str r.2.1,.str r.2.2.1,optV r.2.2.2]
 |_,_,.nil,r,h=>by cases h
 |r0::rs,a::as,.cons h t,r,m=>by
  rw[List.zipWith_cons_cons];rcases ai'.mp m with rfl|m
  ·exact⟨a,af',h⟩
  ·obtain⟨b,hb,hs⟩:=iD_ t r m;exact⟨b,ad' _ hb,hs⟩
def inB(ns:List Str):Option Str->Bool
 |some x=>decide (x∈ns)
 |none=>false
section
variable{P:Program}{w:World}{K:F__}{mg:Str->Option Value}{base:Heap}
theorem scIsRule:a8' ["thing"] ["thing"] (a7' dj'):=f__
def cy':Sp:=fun vs H Q _=>∃r∈rl,vs=[.str r.1]/\Q (.bl true) H
theorem gq_{f d:Addr}{as:List Addr}{fd:FuncData}(F:Fun K "is_rule" "is_rule" dj' f fd)(B:Bi mg)(R:cH' K w mg d as):FnOk P w K mg base CX0 1 f fd ["thing"] cy':=by
 refine F.ok scIsRule (fun vs H Q E h=>?_) (fun cdv A outer s H vs Q E hr h=>?_)
 ·obtain⟨r,hr,rfl,_⟩:=h;rfl
 ·obtain⟨r,hr',rfl,k⟩:=h;refine⟨_,a5_ (ab_ (bs_ (af_ aM_ (by rfl) B.isi PyProof.Rows.Boot.«isinstance» (a0_ (pv 0) (a0_ (aZ_ (v:=.ty "str") (by rfl) B.str PyProof.Rows.Boot.«str» rfl) a3_))) (bg_ (dJ_ (kk_ (pv 0) (bJ_ (v:=.ref d) (by rfl) R.mg rfl)))))),?_⟩;refine⟨_,rfl,_,_,_,_,rfl,.str r.1,rfl,_,rfl,iteT ⟨_,rfl,d,_,r.1,rfl,R.kd,rfl,?_⟩⟩;rw[dA_ R.len,show decide (r.1∈rnames)=true from decide_eq_true (ac'.mpr ⟨r,hr',rfl⟩)];exact k
theorem scWords:a8' ["rule"] ["rule"] (a7' sWords):=f__
def cA'(K:F__):Sp:=fun vs H Q _=>∃r∈rl,vs=[.str r.1]/\∀a,(∀H',SqT K H' a [.str r.2.1,.str r.2.2.1,optV r.2.2.2])->Q (.ref a) H
theorem hK_{f d:Addr}{as:List Addr}{fd:FuncData}(F:Fun K "checked_words" "checked_words" sWords f fd)(R:cH' K w mg d as)(cI:Cal P w K mg base 1 "is_rule" ["thing"] cy'):FnOk P w K mg base CX0 2 f fd ["rule"] (cA' K):=by
 refine F.ok scWords (fun vs H Q E h=>?_) (fun cdv A outer s H vs Q E hr h=>?_)
 ·obtain⟨r,hr,rfl,_⟩:=h;rfl
 ·obtain⟨r,hr',rfl,k⟩:=h;refine⟨_,a2_ (ar_ (aJ_ (aF_ (ae_ cI hr (a0_ (pv 0) a3_)))) (a5_ hl_) ac_) (a5_ (ab_ (jG_ (bJ_ (v:=.ref d) (by rfl) R.mg rfl) (pv 0) (fun _ _=>rfl)))),?_⟩;obtain⟨a,ha,hs⟩:=iD_ R.tup r hr';exact⟨_,rfl,r,hr',rfl,_,rfl,iteF ⟨_,rfl,d,_,r.1,.ref a,rfl,R.kd,rfl,ha,k a hs⟩⟩
end
end Ev
namespace HT
open PySem PySem.Spec PyProof.Rows
section
variable{prog:Program}{w:World}{A:Around}{E:Value->Shared->Prop}{s:Shared}
end
end HT
namespace L2
open PySem PySem.Spec PyProof.Rows
section
variable{X:Cx}{e st:Expr}{te ts:TE}{pos p2:Pos}
end
end L2
namespace Ev
open PySem L2
structure cp' (ts ws:List (Str × Str)):Prop where
 good:∀w∈ws,cX' w
 nd:(ws.map kO).Nodup
 inn:∀w∈ws,kO w∈ts.map kO
 len:ws.length<=ts.length
theorem jL_{ts us ws:List (Str × Str)}(good:∀t∈ts,cX' t)(nd:(ts.map kO).Nodup)(sub:us.Sublist ts)(p:Paired (fun w u=>w=u∨w=(u.2,u.1)) ws us):cp' ts ws:=by
 have e:ws.map kO=us.map kO:=by
  clear sub
  induction p with
  |nil=>rfl
  |cons h _ ih=>
   rw[ap',ap',ih];rcases h with rfl|rfl
   ·rfl
   ·exact congrArg (·::_) (ep_ _ _)
 refine⟨fun w hw=>?_,?_,fun w hw=>?_,?_⟩
 ·obtain⟨i,hi,ew⟩:=aL' hw;have hl:=Paired.length p;have q:=az_ p i hi (by omega);rw[ew] at q;have g:=good _ (sub.subset (List.getElem_mem (show i<us.length by omega)));rcases q with q|q
  ·rw[q];exact g
  ·rw[q];exact⟨g.2.1,g.1,g.2.2.symm⟩
 ·rw[e];exact (sub.map kO).nodup nd
 ·have:kO w∈ws.map kO:=ac'.mpr ⟨w,hw,rfl⟩;rw[e] at this;exact (sub.map kO).subset this
 ·rw[Paired.length p];exact sub.length_le
def WyAt(K:F__)(H:Hp)(v:V):Option (List (Str × Str))->Prop
 |none=>v=.non
 |some ws=>∃a ys,v=.ref a/\H a=some (.lst ys)/\ba' K H ys (ws.map kT)
theorem WyAt.same{K:F__}{H H':Hp}{v:V}{o:Option (List (Str × Str))}(h:WyAt K H v o)(s:Same H H'):WyAt K H' v o:=by
 cases o with
 |none=>exact h
 |some ws=>
  obtain⟨a,ys,e,ha,t⟩:=h;exact⟨a,ys,e,s _ _ ha,t.same s⟩
abbrev Pc:=Str × Int × Option (List (Str × Str))
def PcAt(K:F__)(H:Hp)(y:V)(p:Pc):Prop:=∃t v,y=.ref t/\H t=some (.tup [.str p.1,.int p.2.1,v])/\WyAt K H v p.2.2
abbrev c6'(K:F__)(H:Hp)(ys:List V)(ps:List Pc):Prop:=Paired (PcAt K H) ys ps
structure do' (ts:List (Str × Str)) (p:Pc):Prop where
 nm:bx' p.1=true
 w1:1<=p.2.1
 w2:p.2.1<=1000000000
 ws:∀ws,p.2.2=some ws->cp' ts ws
theorem PcAt.same{K:F__}{H H':Hp}{y:V}{p:Pc}(h:PcAt K H y p)(s:Same H H'):PcAt K H' y p:=by
 obtain⟨t,v,e,ht,hv⟩:=h;exact⟨t,v,e,s _ _ ht,hv.same s⟩
theorem WyAt.put{K:F__}{H:Hp}{D:Addr}{xs:List V}{v:V}{o:Option (List (Str × Str))}{u:HO}(h:WyAt K H v o)(hD:H D=some (.lst xs))(ne:v≠.ref D):WyAt K (upd H D u) v o:=by
 cases o with
 |none=>exact h
 |some ws=>
  obtain⟨a,ys,e,ha,t⟩:=h;subst e;exact⟨a,ys,rfl,by rw[a4_ fun z=>ne (by rw[z])];exact ha,b4_ t hD⟩
end Ev
namespace Ev
open PySem L2
theorem aA_{α β:Type}{F:α->β->Prop}:∀{ys ys':List α} {ks ks':List β},Paired F ys ks->Paired F ys' ks'->Paired F (ys++ys') (ks++ks')
 |_,_,_,_,.nil,h=>h
 |_,_,_,_,.cons a t,h=>.cons a (aA_ t h)
def StrV(K:F__)(H:Hp)(v:V):Option Str->Prop
 |some x=>v=.str x
 |none=>∃t,TyOf K H v t/\PySem.W.kitOne K t (.type "str")=some false
def tiedB(hs:List (Str × Int))(ts:List (Str × Str)):Option Str->Option Str->Bool
 |some x,some y=>decide (x∈hs.map (·.1))&&(decide (y∈hs.map (·.1))&&decide (y∈near (a9' hs) (tsOf ts) x))
 |_,_=>false
theorem bC_(hs:List (Str × Int))(ts:List (Str × Str))(x y:Str):tiedB hs ts (some x) (some y)=(decide (x∈hs.map (·.1))&&(decide (y∈hs.map (·.1))&&decide (y∈near (a9' hs) (tsOf ts) x))):=rfl
section
variable{P:Program}{w:World}{K:F__}{mg:Str->Option Value}{base:Heap}
def spHasA(K:F__)(C:Addr):Sp:=fun vs H Q _=>∃(p:Addr) (v:V) (x:Option Str) (hs:List (Str × Int)) (ts:List (Str × Str)) (fp:List Addr),vs=[.ref p,v]/\bq' K C H p hs ts fp/\StrV K H v x/\Q (.bl (inB (hs.map (·.1)) x)) H
theorem jh_{f C:Addr}{fd:FuncData}(F:Fun K "has_hand" "Web.has_hand" sHas f fd)(T:Txt K mg C)(B:Bi mg):FnOk P w K mg base CX0 1 f fd ["self","thing"] (spHasA K C):=by
 refine F.ok scHas (fun vs H Q E h=>?_) (fun cdv A outer s H vs Q E hr h=>?_)
 ·obtain⟨p,v,x,hs,ts,fp,rfl,_⟩:=h;rfl
 ·obtain⟨p,v,x,hs,ts,fp,rfl,W,sv,k⟩:=h;have hu:=b0_ hr;obtain⟨dx,d1,l2,d3,zs,as,rfl,h1,h2,h3,h4,h5,h6,h7⟩:=W.ex;refine⟨_,a5_ (ab_ (bs_ (af_ aM_ (by rfl) B.isi PyProof.Rows.Boot.«isinstance» (a0_ (pv 1) (a0_ (aZ_ (v:=.ty "str") (by rfl) B.str PyProof.Rows.Boot.«str» rfl) a3_))) (bg_ (dJ_ (d4_ hu (pv 1) (ay_ (pv 0) rfl)))))),?_⟩;cases x with
  |some x=>
   cases (show v=.str x from sv);refine⟨_,rfl,_,_,_,_,rfl,.str x,rfl,_,rfl,iteT ?_⟩;refine⟨_,rfl,_,rfl,p,C,dx,_,_,rfl,h1,T.cl,T.nS,eM_ _ _ _,d1,_,rfl,.k (k:=Sum.inr x) h2,?_⟩;rw[dm_];exact k
  |none=>
   obtain⟨t,ty,e⟩:=sv;exact⟨_,rfl,_,_,_,_,rfl,ty,e,_,rfl,iteF k⟩
def cN'(K:F__)(C:Addr):Sp:=fun vs H Q _=>∃(p:Addr) (v u:V) (x y:Option Str) (hs:List (Str × Int)) (ts:List (Str × Str)) (fp:List Addr),vs=[.ref p,v,u]/\bq' K C H p hs ts fp/\(a9' hs).Nodup/\StrV K H v x/\StrV K H u y/\Q (.bl (tiedB hs ts x y)) H
theorem hT_{f C:Addr}{fd:FuncData}(F:Fun K "are_tied" "Web.are_tied" sTied f fd)(T:Txt K mg C)(cH:CalM P w K mg base C 1 "has_hand" ["self","thing"] (spHasA K C)):FnOk P w K mg base CX0 2 f fd ["self","one","other"] (cN' K C):=by
 refine F.ok scTied (fun vs H Q E h=>?_) (fun cdv A outer s H vs Q E hr h=>?_)
 ·obtain⟨p,v,u,x,y,hs,ts,fp,rfl,_⟩:=h;rfl
 ·obtain⟨p,v,u,x,y,hs,ts,fp,rfl,W,nd,sv,su,k⟩:=h;have hu:=b0_ hr;obtain⟨dx,d1,l2,d3,zs,as,rfl,h1,h2,h3,h4,h5,h6,h7⟩:=id W.ex;have hno:(flds d1 l2 d3).lookup ("has_hand":Str)=none:=b1_ _ _ _ (by decide +kernel) (by decide +kernel) (by decide +kernel);refine⟨_,a5_ (ab_ (bs_ (bf_ cH T.cl hr (pv 0) (a0_ (pv 1) a3_)) (bs_ (bf_ cH T.cl hr (pv 0) (a0_ (pv 2) a3_)) (bg_ (aQ_ (dR_ cmpS (bZ' hr 0)) (pv 2) (ai_ hu (ay_ (pv 0) rfl) (pv 1) (fun _ _=>rfl)) (by with_unfolding_all rfl)))))),?_⟩;refine⟨_,rfl,p,dx,_,rfl,h1,hno,_,rfl,p,v,x,hs,ts,_,rfl,W,sv,_,rfl,?_⟩;cases x with
  |none=>exact iteF k
  |some x=>
   cases (show v=.str x from sv);refine ite2 (fun c=>?_) (fun c=>?_)
   ·have hx:x∈hs.map (·.1):=of_decide_eq_true c;obtain⟨a,e1,ha⟩:=ir_ nd hx h6 h7;refine⟨_,rfl,p,dx,_,rfl,h1,hno,_,rfl,p,u,y,hs,ts,_,rfl,W,su,_,rfl,?_⟩;cases y with
    |none=>exact iteF k
    |some y=>
     cases (show u=.str y from su);rw[bC_,decide_eq_true hx,Bool.true_and] at k;refine ite2 (fun c2=>?_) (fun c2=>?_)
     ·have hy:y∈hs.map (·.1):=of_decide_eq_true c2;rw[decide_eq_true hy,Bool.true_and] at k;refine⟨_,rfl,_,rfl,p,C,dx,_,_,rfl,h1,T.cl,T.nN,ik_ _ _ _,_,rfl,d3,.ref a,rfl,?_,y,_,rfl,⟨a,_,rfl,.of ha,bF_ _⟩,k⟩;rw[<- e1];exact .k (k:=Sum.inr x) h5
     ·have hy:¬y∈hs.map (·.1):=fun z=>c2 (decide_eq_true z);rw[decide_eq_false hy,a2'] at k;exact k
   ·have hx:¬x∈hs.map (·.1):=fun z=>c (decide_eq_true z);cases y with
    |none=>exact k
    |some y=>
     rw[bC_,decide_eq_false hx,a2'] at k;exact k
theorem ht_{hs:List (Str × Int)}{ts ws:List (Str × Str)}(G:Good hs ts)(W:cp' ts ws){t:Str × Str}(ht:t∈tsOf ws):tiedB hs ts (some t.1) (some t.2)=true:=by
 obtain⟨x,hx,ex⟩:=ca'.mp ht;obtain⟨u,hu,eu⟩:=ac'.mp (W.inn x hx);have eo:ord2 u.1 u.2=t:=(fb_ eu).trans ex
 have both:t.1∈hs.map (·.1)/\t.2∈hs.map (·.1)/\ord2 t.1 t.2=t:=by
  obtain⟨g1,g2⟩:=G.tin u hu;rcases dk_ u.1 u.2 with e|e
  ·rw[<- eo,e];exact⟨g1,g2,e⟩
  ·rw[<- eo,e];exact⟨g2,g1,(bV_ _ _).trans e⟩
 obtain⟨m1,m2,m3⟩:=both;have m4:t.2∈near (a9' hs) (tsOf ts) t.1:=aU'.mpr ⟨(au_ hs).mem_iff.mpr m2,decide_eq_true (by rw[m3];exact ca'.mpr ⟨u,hu,eo⟩)⟩;rw[bC_,decide_eq_true m1,decide_eq_true m2,decide_eq_true m4];rfl
theorem ct':a8' ["web","ways","found","one","other"] ["web","ways"] (a7' sCWays):=f__
def dh'(K:F__)(C:Addr):Sp:=fun vs H Q _=>∃(p:Addr) (v:V) (o:Option (List (Str × Str))) (hs:List (Str × Int)) (ts:List (Str × Str)) (fp:List Addr),vs=[.ref p,v]/\bq' K C H p hs ts fp/\Good hs ts/\WyAt K H v o/\(∀ws,o=some ws->cp' ts ws) /\
 ∀v' H',Same H H'->WyAt K H' v' (o.map tsOf)->(∀a,v'=.ref a->H a=none)->Q v' H'
theorem hU_{f C:Addr}{fd:FuncData}(F:Fun K "checked_ways" "checked_ways" sCWays f fd)(T:Txt K mg C)(cS:Cal P w K mg base 3 "sorted_ties" ["ties"] (cc' K))(cT:CalM P w K mg base C 2 "are_tied" ["self","one","other"] (cN' K C)):FnOk P w K mg base CX0 4 f fd ["web","ways"] (dh' K C):=by
 refine F.ok ct' (fun vs H Q E h=>?_) (fun cdv A outer s H vs Q E hr h=>?_)
 ·obtain⟨p,v,o,hs,ts,fp,rfl,_⟩:=h;rfl
 ·obtain⟨p,v,o,hs,ts,fp,rfl,W,G,wy,gw,k⟩:=h;have hu:=b0_ hr;have hr2:Room 2 _:=hr.mono (by decide)
  refine⟨_,a2_ (ar_ (cm_ (eF_ (pv 1))) (a5_ (ab_ d9_)) ac_)
   (a2_ (a9_ (i:=2) ct'.nd rfl (Or.inl rfl) (ae_ cS hr (a0_ (pv 1) a3_)))
   (a2_ (ar_ (cm_ (eF_ (pv 2))) ag_ ac_)
   (a2_ (aG_ PassesOwn.never rfl (am_ (pv 2)) (bd_ rfl (ad_ (a8_ (i:=3) ct'.nd rfl (Or.inl rfl)) (ad_ (a8_ (i:=4) ct'.nd rfl (Or.inl rfl)) aT_)))
    (a5_ (ar_ (aJ_ (aF_ (bf_ cT T.cl hr2 (pv 0) (a0_ (pv 3) (a0_ (pv 4) a3_))))) ag_ ac_)))
   (a5_ (ab_ (pv 2)))))),?_⟩
  cases o with
  |none=>
   cases (show v=.non from wy);exact⟨_,rfl,_,rfl,iteT (k .non H (Same.refl H) rfl (fun a z=>by cases z))⟩
  |some ws=>
   obtain⟨a,ys,rfl,ha,tu⟩:=wy;have Wo:=gw ws rfl;refine⟨_,rfl,_,rfl,iteF ?_⟩;refine⟨_,rfl,a,ys,ws,rfl,ha,tu,Wo.good,Wo.nd,by have:=Wo.len;have:=G.t64;omega,fun l' zs H1 s1 hf hl1 tz=>?_⟩;refine⟨_,rfl,_,rfl,iteF ?_⟩;have W1:=W.same s1;obtain⟨dx,d1,l2,d3,zs0,as,rfl,h1,h2,h3,h4,h5,h6,h7⟩:=id W1.ex;have hno:(flds d1 l2 d3).lookup ("are_tied":Str)=none:=b1_ _ _ _ (by decide +kernel) (by decide +kernel) (by decide +kernel);rw[<- cH_] at tz;refine⟨_,rfl,l',rfl,⟨_,.of hl1⟩,as_ (K:=K) (a:=l') (xs:=zs) (fun i σ H2=>∃(v3 v4:Option V),σ=[some (.ref p),some (.ref a),some (.ref l'),v3,v4]/\H2=H1) ⟨none,none,rfl,rfl⟩ (fun i σ H2 _ ⟨_,_,_,e⟩=>by subst e;exact .of hl1) ?_ ?_⟩
   ·rintro i y σ H2 hy ⟨v3,v4,rfl,rfl⟩;obtain⟨t,ht,q,rfl,hq⟩:=aD_ tz hy;refine⟨q,_,rfl,.of (hpT hq),rfl,_,_,rfl,_,_,rfl,rfl,?_⟩;refine⟨_,rfl,p,dx,_,rfl,h1,hno,_,rfl,_,rfl,p,_,_,some t.1,some t.2,hs,ts,_,rfl,W1,G.nnd,rfl,rfl,_,rfl,?_⟩;rw[ht_ G Wo (ae' ht)];refine iteF ?_;exact⟨_,_,rfl,rfl⟩
   ·rintro σ H2 ⟨v3,v4,rfl,rfl⟩;exact⟨_,rfl,k (.ref l') _ s1 ⟨l',zs,rfl,hl1,tz⟩ (fun c z=>by cases z;exact hf)⟩
def nrm(p:Pc):Pc:=(p.1,p.2.1,p.2.2.map tsOf)
def b6'(K:F__)(H0 H:Hp)(y:V)(p:Pc):Prop:=∃t v,y=.ref t/\H t=some (.tup [.str p.1,.int p.2.1,v])/\WyAt K H v p.2.2/\∀a,v=.ref a->H0 a=none
theorem b6'.same{K:F__}{H0 H H':Hp}{y:V}{p:Pc}(h:b6' K H0 H y p)(s:Same H H'):b6' K H0 H' y p:=by
 obtain⟨t,v,e,ht,hv,hn⟩:=h;exact⟨t,v,e,s _ _ ht,hv.same s,hn⟩
theorem WyAt.up{K:F__}{H:Hp}{D:Addr}{u:HO}{v:V}{o:Option (List (Str × Str))}(h:WyAt K H v o)(n1:∀xs,H D≠some (.lst xs))(n2:∀xs,H D≠some (.tup xs)):WyAt K (upd H D u) v o:=by
 cases o with
 |none=>exact h
 |some ws=>
  obtain⟨a,ys,e,ha,t⟩:=h;exact⟨a,ys,e,by rw[a4_ (fun z:a=D=>n1 ys (z▸ha))];exact ha,Paired.mapP t fun y k ⟨b,z,q⟩=>⟨b,z,by rw[a4_ (fun z:b=D=>n2 _ (z▸q))];exact q⟩⟩
theorem b6'.up{K:F__}{H0 H:Hp}{D:Addr}{u:HO}{y:V}{p:Pc}(h:b6' K H0 H y p)(n1:∀xs,H D≠some (.lst xs))(n2:∀xs,H D≠some (.tup xs)):b6' K H0 (upd H D u) y p:=by
 obtain⟨t,v,e,ht,hv,hn⟩:=h;exact⟨t,v,e,by rw[a4_ (fun z:t=D=>n2 _ (z▸ht))];exact ht,hv.up n1 n2,hn⟩
theorem da_{ps:List Pc}{cs:List V}(nd:(ps.map (·.1)).Nodup)(hl:cs.length=ps.length):∀{j:Nat} {q:Pc} {c:V},ps[j]? = some q->cs[j]? = some c->valV ((ps.zip cs).map fun q=>((Sum.inr q.1.1:Key),q.2)) (Sum.inr q.1)=some c:=by
 induction ps generalizing cs with
 |nil=>
  intro j q c h;simp at h
 |cons p ps ih=>
  intro j q c h1 h2;cases cs with
  |nil=>cases hl
  |cons b cs=>
   rw[ap'] at nd;obtain⟨n1,n2⟩:=aM'.mp nd;cases j with
   |zero=>
    have e1:p=q:=by simpa using h1
    have e2:b=c:=by simpa using h2
    subst e1 e2;exact bk_ rfl
   |succ j=>
    have h1:ps[j]? = some q:=by simpa using h1
    have h2:cs[j]? = some c:=by simpa using h2
    show valV ((Sum.inr p.1,b)::((ps.zip cs).map fun q=>((Sum.inr q.1.1:Key),q.2))) (Sum.inr q.1)=_;rw[bl_ fun e=>n1 (by rw[show p.1=q.1 from Sum.inr.inj e];exact ac'.mpr ⟨q,ae' h1,rfl⟩)];exact ih n2 (by simpa using hl) h1 h2
theorem scCPiece:a8' ["web","piece"] ["web","piece"] (a7' c5'):=f__
def cG'(K:F__)(C:Addr):Sp:=fun vs H Q _=>∃(p:Addr) (y:V) (q:Pc) (hs:List (Str × Int)) (ts:List (Str × Str)) (fp:List Addr),vs=[.ref p,y]/\bq' K C H p hs ts fp/\Good hs ts/\PcAt K H y q/\do' ts q /\
 ∀y' H',Same H H'->b6' K H H' y' (nrm q)->Q y' H'
theorem gh_{f C:Addr}{fd:FuncData}(F:Fun K "checked_piece" "checked_piece" c5' f fd)(B:Bi mg)(cN:Cal P w K mg base 1 "is_name" ["thing"] cP')(cW:Cal P w K mg base 2 "is_whole_within" ["thing","least","most"] cq')(cC:Cal P w K mg base 4 "checked_ways" ["web","ways"] (dh' K C)){tk:Tok}(mW:mg "MOST_WEIGHT"=some (.int 1000000000 tk)) :
  FnOk P w K mg base CX0 5 f fd ["web","piece"] (cG' K C):=by
 refine F.ok scCPiece (fun vs H Q E h=>?_) (fun cdv A outer s H vs Q E hr h=>?_)
 ·obtain⟨p,y,q,hs,ts,fp,rfl,_⟩:=h;rfl
 ·obtain⟨p,y,q,hs,ts,fp,rfl,W,G,⟨t,v,rfl,ht,wy⟩,gp,k⟩:=h;have hr1:Room 1 _:=hr.mono (by decide);have hr2:Room 2 _:=hr.mono (by decide)
  refine⟨_,a2_ (ar_ (dK_ (aJ_ (aF_ (af_ aM_ (by rfl) B.isi PyProof.Rows.Boot.«isinstance» (a0_ (pv 1) (a0_ (aZ_ (v:=.ty "tuple") (by rfl) B.tuple PyProof.Rows.Boot.«tuple» rfl) a3_)))))
    (ch_ (ak_ ft_ (af_ aL_ (by rfl) B.len PySem.boot_len (a0_ (pv 1) a3_)) a7_ (nomark _)))).pt ag_ ac_)
   (a2_ (ar_ (aJ_ (aF_ (ae_ cN hr1 (a0_ (ax_ aI_ (pv 1) a7_ (fun _ _=>rfl)) a3_)))) ag_ ac_)
   (a2_ (ar_ (aJ_ (aF_ (ae_ cW hr2 (a0_ (ax_ aI_ (pv 1) a7_ (fun _ _=>rfl)) (a0_ a7_ (a0_ (bJ_ (v:=.int 1000000000) (by rfl) mW ⟨tk,rfl⟩) a3_)))))) ag_ ac_)
   (a5_ (ab_ (aP_ (a0_ (ax_ aI_ (pv 1) a7_ (fun _ _=>rfl)) (a0_ (ax_ aI_ (pv 1) a7_ (fun _ _=>rfl)) (a0_ (ae_ cC hr (a0_ (pv 0) (a0_ (ax_ aI_ (pv 1) a7_ (fun _ _=>rfl)) a3_))) a3_)))))))),?_⟩
  refine⟨_,rfl,_,_,_,_,rfl,.tup ht,rfl,_,rfl,iteF ?_⟩;refine⟨_,rfl,t,_,rfl,.inr (.of ht),rfl,_,rfl,?_⟩;refine iteNS (show V.int ((3:Nat):Int)=V.int 3 from rfl) ?_;refine⟨_,rfl,t,_,_,_,rfl,rfl,.of ht,rfl,q.1,rfl,by have:=bU_ gp.nm;omega,fun H1 s1=>⟨_,rfl,?_⟩⟩;rw[gp.nm];refine iteF ?_;have ht1:=s1 _ _ ht;refine⟨_,rfl,t,_,_,_,rfl,rfl,.of ht1,rfl,q.2.1,1,1000000000,rfl,_,rfl,?_⟩;rw[decide_eq_true gp.w1,decide_eq_true gp.w2];refine iteF ?_;refine⟨_,rfl,t,_,_,_,rfl,rfl,.of ht1,rfl,_,rfl,t,_,_,_,rfl,rfl,.of ht1,rfl,_,rfl,_,rfl,t,_,_,_,rfl,rfl,.of ht1,rfl,p,v,q.2.2,hs,ts,fp,rfl,W.same s1,G,wy.same s1,gp.ws,fun v' H2 s2 wy2 hf=>?_⟩;refine⟨by show 3<=sizeLine;decide,fun t' ht'=>?_⟩;exact k (.ref t') _ (s1.trans (s2.trans (Same.new ht'))) ⟨t',v',rfl,a1_,wy2.same (Same.new ht'),fun a z=>s1.free (hf a z)⟩
theorem bV':a8' ["web","pieces","found","piece","checked"] ["web","pieces"] (a7' cx'):=f__
structure Qs (ps qs:List Pc):Prop where
 nms:qs.map (·.1)=sortS (ps.map (·.1))
 mem:∀q∈qs,∃p∈ps,q=nrm p
def ch'(K:F__)(C:Addr):Sp:=fun vs H Q _=>∃(p l:Addr) (ys:List V) (ps:List Pc) (hs:List (Str × Int)) (ts:List (Str × Str)) (fp:List Addr),vs=[.ref p,.ref l]/\bq' K C H p hs ts fp/\Good hs ts/\H l=some (.lst ys)/\c6' K H ys ps/\(∀q∈ps,do' ts q)/\(ps.map (·.1)).Nodup/\ps.length<64 /\
 ∀l' zs qs H',Same H H'->H' l'=some (.lst zs)->Paired (b6' K H H') zs qs->Qs ps qs->Q (.ref l') H'
theorem fl_{f C:Addr}{fd:FuncData}(F:Fun K "checked_pieces" "checked_pieces" cx' f fd)(B:Bi mg)(cP:Cal P w K mg base 5 "checked_piece" ["web","piece"] (cG' K C)):FnOk P w K mg base CX0 6 f fd ["web","pieces"] (ch' K C):=by
 refine F.ok bV' (fun vs H Q E h=>?_) (fun cdv A outer s H vs Q E hr h=>?_)
 ·obtain⟨p,l,ys,ps,hs,ts,fp,rfl,_⟩:=h;rfl
 ·obtain⟨p,l,ys,ps,hs,ts,fp,rfl,W,G,hl,pc,gp,nd,h64,k⟩:=h;have hu:=b0_ hr;have sz:=sizeLine_eq;have le:=Paired.length pc
  refine⟨_,a2_ (ar_ (aJ_ (aF_ (af_ aM_ (by rfl) B.isi PyProof.Rows.Boot.«isinstance» (a0_ (pv 1) (a0_ (aZ_ (v:=.ty "list") (by rfl) B.list PyProof.Rows.Boot.«list» rfl) a3_))))) ag_ ac_)
   (a2_ (a9_ (i:=2) bV'.nd rfl (Or.inr rfl) br_)
   (a2_ (aG_ PassesOwn.never rfl (am_ (pv 1)) (a8_ (i:=3) bV'.nd rfl (Or.inl rfl))
    (a2_ (a9_ (i:=4) bV'.nd rfl (Or.inl rfl) (ae_ cP hr (a0_ (pv 0) (a0_ (pv 3) a3_))))
    (a2_ (ar_ (cm_ (d4_ hu (ax_ aI_ (pv 4) a7_ (fun _ _=>rfl)) (pv 2))) ag_ ac_)
    (a5_ (ba_ hu (pv 2) (ax_ aI_ (pv 4) a7_ (fun _ _=>rfl)) (pv 4) rfl)))))
   (a5_ (ab_ (b2_ ["name","found"] 1 [2] (am_ (af_ (er_ rfl) (by rfl) B.sorted PyProof.Rows.Boot.«sorted» (a0_ (pv 2) a3_))) (fun fp s H=>a8_ (i:=0) (show (["name","found"]:List Str).Nodup by decide +kernel) rfl (Or.inl rfl)) (fun fp s H=>aY_)
    (fun fp s H=>ai_ hu (pv 1) (pv 0) (fun _ _=>rfl))))))),?_⟩
  refine⟨_,rfl,_,_,_,_,rfl,.lst hl,rfl,_,rfl,iteF ?_⟩;intro d hd;have s0:Same H (upd H d (.dK [])):=Same.new hd;refine⟨_,rfl,l,rfl,⟨_,.of (s0 _ _ hl)⟩,as_ (K:=K) (a:=l) (xs:=ys) (fun i σ H2=>∃(v3 v4:Option V) (cs:List V),σ=[some (.ref p),some (.ref l),some (.ref d),v3,v4]/\Same H H2/\Paired (b6' K H H2) cs ((ps.take i).map nrm)/\H2 d=some (.dK (((ps.take i).zip cs).map fun q=>(Sum.inr q.1.1,q.2)))) ⟨none,none,[],rfl,s0,.nil,a1_⟩ (fun i σ H2 _ ⟨_,_,_,_,s2,_⟩=>.of (s2 _ _ hl)) ?_ ?_⟩
  ·rintro i y σ H2 hy ⟨v3,v4,cs,rfl,s2,pn,hd2⟩;have hi:i<ys.length:=(ab'.mp hy).1;have hq:ps[i]? = some (ps[i]'(by omega)):=ah' (by omega);have py:=az_ pc i hi (by omega);rw[(ab'.mp hy).2] at py;generalize ps[i]'(by omega)=q at hq py;refine⟨_,rfl,_,rfl,p,y,q,hs,ts,fp,rfl,W.same s2,G,py.same s2,gp q (ae' hq),fun y' H3 s3 pw=>?_⟩;obtain⟨t,v,rfl,ht,wy,hf⟩:=pw;have hd3:=s3 _ _ hd2;have lc:=Paired.length pn;rw[aa',ak'] at lc
   have keys:((((ps.take i).zip cs).map fun q=>((Sum.inr q.1.1:Key),q.2)).map (·.1))=((ps.take i).map (·.1)).map Sum.inr:=by
    rw[al'];have:((fun x:Key × V=>x.1) ∘ fun q:Pc × V=>((Sum.inr q.1.1:Key),q.2))=(fun p:Pc=>(Sum.inr p.1:Key)) ∘ Prod.fst:=rfl;rw[this,<- al',List.map_fst_zip (by rw[ak'];omega),al'];rfl
   have nov:valV (((ps.take i).zip cs).map fun q=>((Sum.inr q.1.1:Key),q.2)) (Sum.inr q.1)=none:=aK_ (by
    rw[keys];intro m;obtain⟨x,hx,e⟩:=ac'.mp m;cases e;exact bh_ (g:=fun p:Pc=>p.1) nd hq hx)
   refine⟨_,rfl,t,_,_,_,rfl,rfl,.of ht,rfl,_,rfl,d,_,rfl,.k (k:=Sum.inr q.1) hd3,_,rfl,?_⟩;rw[nov];refine iteF ?_;refine⟨_,rfl,_,rfl,_,rfl,t,_,_,_,rfl,rfl,.of ht,rfl,d,_,rfl,.k (k:=Sum.inr q.1) hd3 (by rw[aa',List.length_zip,ak'];omega),?_⟩;have s23:=s2.trans s3;have n1:∀xs,H3 d≠some (.lst xs):=fun xs z=>by rw[hd3] at z;cases z
   have n2:∀xs,H3 d≠some (.tup xs):=fun xs z=>by rw[hd3] at z;cases z
   refine⟨_,_,cs++[.ref t],rfl,fun c o e=>?_,?_,?_⟩
   ·rw[a4_ (a6_ e hd)];exact s23 _ _ e
   ·rw[aD',hq,am'];exact aA_ (Paired.mapP pn fun y q h=>(h.same s3).up n1 n2) (.cons (b6'.up ⟨t,v,rfl,ht,wy,fun a z=>s2.free (hf a z)⟩ n1 n2) .nil)
   ·rw[a1_,bA_ _ nov,aD',hq,List.zip_append (by rw[ak'];omega),am'];rfl
  ·rintro σ H2 ⟨v3,v4,cs,rfl,s2,pn,hd2⟩;rw[le,ar'] at pn hd2;have lc:=Paired.length pn;rw[aa'] at lc
   have keys:(((ps.zip cs).map fun q=>((Sum.inr q.1.1:Key),q.2)).map (·.1))=(ps.map (·.1)).map Sum.inr:=by
    rw[al'];have:((fun x:Key × V=>x.1) ∘ fun q:Pc × V=>((Sum.inr q.1.1:Key),q.2))=(fun p:Pc=>(Sum.inr p.1:Key)) ∘ Prod.fst:=rfl;rw[this,<- al',List.map_fst_zip (by omega),al'];rfl
   refine⟨_,rfl,d,_,ps.map (·.1),rfl,hd2,keys,by rw[aa'];exact h64,fun ls hls=>?_⟩;have s3:=Same.new (o:=.lst ((sortS (ps.map (·.1))).map V.str)) hls;have hl3:upd H2 ls (.lst ((sortS (ps.map (·.1))).map V.str)) ls=some (.lst ((sortS (ps.map (·.1))).map V.str)):=a1_;refine⟨ls,rfl,⟨_,.of hl3⟩,fun D hD=>?_⟩;generalize upd H2 ls (.lst ((sortS (ps.map (·.1))).map V.str))=H3 at s3 hl3 hD ⊢;have lss:(sortS (ps.map (·.1))).length=ps.length:=by rw[(ah_ _).length_eq,aa']
   refine aR_ (own:=1) (fv:=[some (.ref d)]) (xs:=(sortS (ps.map (·.1))).map V.str) rfl gok1 (fun i out H'=>∃qs:List Pc,Same H3 H'/\H' D=some (.lst out)/\Paired (b6' K H H2) out qs/\qs.map (·.1)=(sortS (ps.map (·.1))).take i/\∀q∈qs,∃p∈ps,q=nrm p) ⟨[],Same.new hD,a1_,.nil,rfl,by simp⟩ (fun i out H' _ ⟨_,sm,_⟩=>.of (sm _ _ hl3)) (fun zs H4 ⟨qs,s4,hD4,pq,en,mem⟩=>?_) (fun i x out H' hx ⟨qs,sm,hD',pq,en,mem⟩=>?_)
   ·rw[aa',ar'] at en;exact k D zs qs H4 (s2.trans (s3.trans s4)) hD4 (Paired.mapP pq fun y q h=>h.same (s3.trans s4)) ⟨en,mem⟩
   ·obtain⟨n,hn,rfl⟩:=aj_ hx;have hm:n∈ps.map (·.1):=(ah_ _).mem_iff.mp (ae' hn);obtain⟨q,hq,eq⟩:=ac'.mp hm;obtain⟨j,hj,ej⟩:=aL' hq;have hqj:ps[j]? = some q:=by rw[ah' hj,ej]
    have hcj:cs[j]? = some (cs[j]'(by omega)):=ah' (by omega);have hv:=da_ nd lc hqj hcj;have pj:=az_ pn j (by omega) (by rw[aa'];omega);rw[List.getElem_map,ej] at pj;generalize cs[j]'(by omega)=c at hcj hv pj;rw[eq] at hv;have lo:=Paired.length pq;have lq:=congrArg List.length en;rw[aa',ak'] at lq;have hi:i<(sortS (ps.map (·.1))).length:=(ab'.mp hn).1;refine⟨_,rfl,rfl,fun Nx hN=>yesT ?_⟩;refine⟨_,rfl,_,rfl,d,c,rfl,?_,out,hD',by omega,hN _ _ ⟨qs++[nrm q],aC_ sm hD,a1_,?_,?_,?_⟩⟩
    ·rw[<- hv];exact .k (k:=Sum.inr n) (sm _ _ (s3 _ _ hd2))
    ·exact aA_ pq (.cons pj .nil)
    ·rw[am',en,aD',hn,<- eq];rfl
    ·intro q' hq';rcases av'.mp hq' with hq'|hq'
     ·exact mem q' hq'
     ·obtain rfl:q'=nrm q:=by simpa using hq'
      exact⟨q,hq,rfl⟩
end
end Ev
namespace Ev
open PySem L2
abbrev sGInit:Stmt:=bl' cO' 0
abbrev sGHas:Stmt:=bl' cO' 1
abbrev dk':Stmt:=bl' cO' 2
abbrev cI':Stmt:=bl' cO' 3
abbrev sGMay:Stmt:=bl' cO' 5
def gflds(p dw dy:Addr):List (Str × V):=putF "ways_by_name" (.ref dy) (putF "weight_by_name" (.ref dw) (putF "web" (.ref p) []))
theorem g12:¬(("web":Str)="weight_by_name"):=by decide +kernel
theorem g13:¬(("web":Str)="ways_by_name"):=by decide +kernel
theorem g23:¬(("weight_by_name":Str)="ways_by_name"):=by decide +kernel
theorem bc_(p dw dy:Addr):(gflds p dw dy).lookup ("web":Str)=some (.ref p):=by
 unfold gflds;rw[aa_,if_neg g13,aa_,if_neg g12,aa_,if_pos rfl]
theorem e9_(p dw dy:Addr):(gflds p dw dy).lookup ("weight_by_name":Str)=some (.ref dw):=by
 unfold gflds;rw[aa_,if_neg g23,aa_,if_pos rfl]
theorem iZ_(p dw dy:Addr):(gflds p dw dy).lookup ("ways_by_name":Str)=some (.ref dy):=by
 unfold gflds;rw[aa_,if_pos rfl]
theorem be_(p dw dy:Addr){m:Str}(h1:¬m="web")(h2:¬m="weight_by_name")(h3:¬m="ways_by_name"):(gflds p dw dy).lookup m=none:=by
 unfold gflds;rw[aa_,if_neg h3,aa_,if_neg h2,aa_,if_neg h1]
 all_goals rfl
def wKV(qs:List Pc):List (Key × V):=qs.map fun q=>(Sum.inr q.1,V.int q.2.1)
def yKV(qs:List Pc)(vs:List V):List (Key × V):=(qs.zip vs).map fun x=>(Sum.inr x.1.1,x.2)
theorem eV_(qs:List Pc):(wKV qs).map (·.1)=(qs.map (·.1)).map Sum.inr:=by
 unfold wKV;rw[al',al'];rfl
theorem hw_{qs:List Pc}{vs:List V}(h:vs.length=qs.length):(yKV qs vs).map (·.1)=(qs.map (·.1)).map Sum.inr:=by
 unfold yKV;rw[al'];have:((fun x:Key × V=>x.1) ∘ fun q:Pc × V=>((Sum.inr q.1.1:Key),q.2))=(fun p:Pc=>(Sum.inr p.1:Key)) ∘ Prod.fst:=rfl;rw[this,<- al',List.map_fst_zip (by omega),al'];rfl
structure bc' (K:F__) (CG CW:Addr) (H:Hp) (g p:Addr) (hs:List (Str × Int)) (ts:List (Str × Str)) (qs:List Pc) (fp:List Addr):Prop where
 ex:∃(dx dw dy:Addr) (vs:List V) (fpw:List Addr),H g=some (.ins CG dx (gflds p dw dy))/\bq' K CW H p hs ts fpw/\H dw=some (.dK (wKV qs))/\H dy=some (.dK (yKV qs vs))/\Paired (fun v (q:Pc)=>WyAt K H v q.2.2) vs qs /\
  g∈fp/\dw∈fp/\dy∈fp/\(∀b∈fpw,b∈fp)/\∀v∈vs,∀a,v=.ref a->a∈fp
theorem bL_{α β:Type}{F G:α->β->Prop}:∀{l:List α} {m:List β},Paired F l m->(∀a∈l,∀b,F a b->G a b)->Paired G l m
 |_,_,.nil,_=>.nil
 |_,_,.cons h t,f=>.cons (f _ af' _ h) (bL_ t fun a ha=>f a (ad' _ ha))
theorem WyAt.keep{K:F__}{H H':Hp}{v:V}{o:Option (List (Str × Str))}(h:WyAt K H v o)(k:∀a,v=.ref a->∀u,H a=some u->H' a=some u)(kt:∀b xs,H b=some (.tup xs)->H' b=some (.tup xs)):WyAt K H' v o:=by
 cases o with
 |none=>exact h
 |some ws=>
  obtain⟨a,ys,e,ha,t⟩:=h;exact⟨a,ys,e,k a e _ ha,Paired.mapP t fun y q ⟨b,z,hb⟩=>⟨b,z,kt _ _ hb⟩⟩
theorem bc'.keep{K:F__}{CG CW:Addr}{H H':Hp}{g p:Addr}{hs:List (Str × Int)}{ts:List (Str × Str)}{qs:List Pc}{fp:List Addr}(G:bc' K CG CW H g p hs ts qs fp)(k:∀b∈fp,∀o,H b=some o->H' b=some o)(kt:∀b xs,H b=some (.tup xs)->H' b=some (.tup xs)):bc' K CG CW H' g p hs ts qs fp:=by
 obtain⟨dx,dw,dy,vs,fpw,h1,h2,h3,h4,h5,m1,m2,m3,m4,m5⟩:=G.ex;exact⟨dx,dw,dy,vs,fpw,k _ m1 _ h1,h2.keep (fun b hb o e=>k b (m4 b hb) o e) kt,k _ m2 _ h3,k _ m3 _ h4,bL_ h5 fun v hv q h=>h.keep (fun a z u e=>k a (m5 v hv a z) u e) kt,m1,m2,m3,m4,m5⟩
theorem bc'.same{K:F__}{CG CW:Addr}{H H':Hp}{g p:Addr}{hs:List (Str × Int)}{ts:List (Str × Str)}{qs:List Pc}{fp:List Addr}(G:bc' K CG CW H g p hs ts qs fp)(s:Same H H'):bc' K CG CW H' g p hs ts qs fp:=G.keep (fun b _ o e=>s b o e) fun b xs e=>s b _ e
structure TxtG (K:F__) (CG:Addr):Prop where
 cl:Cls K CG
 nW:bp' K CG "web"
 nG:bp' K CG "weight_by_name"
 nY:bp' K CG "ways_by_name"
structure InsK (K:F__) (C:Addr):Prop where
 ha:PySem.W.findIn K (.ref C) "__class__"=some (some (.builtin "object.__class__"))
 hn:PySem.W.specialIn K (.builtin "object.__class__") "__get__"=some (some (.builtin "getset_descriptor.__get__"))
 tk:PySem.W.takesIn K (.builtin "object.__class__")=some true
 mo:PySem.W.mroIn K C (.type "object")=some true
theorem hA_(K:F__)(c:Value):PySem.W.kitOne K c c=some true:=by
 unfold PySem.W.kitOne;rw[if_pos (beq_self_eq_true c)]
theorem eW_{K:F__}{H0 H:Hp}:∀{zs:List V} {qs:List Pc},Paired (b6' K H0 H) zs qs->∃vs:List V,vs.length=qs.length/\Paired (fun z (x:Pc × V)=>∃t,z=.ref t/\H t=some (.tup [.str x.1.1,.int x.1.2.1,x.2])) zs (qs.zip vs)/\Paired (fun v (q:Pc)=>WyAt K H v q.2.2) vs qs/\∀v∈vs,∀a,v=.ref a->H0 a=none
 |_,_,.nil=>⟨[],rfl,.nil,.nil,by simp⟩
 |_,_,.cons ⟨t,v,e,ht,wy,hn⟩ r=>by
  obtain⟨vs,h1,h2,h3,h4⟩:=eW_ r;refine⟨v::vs,by simp[h1],.cons ⟨t,e,ht⟩ h2,.cons wy h3,fun u hu=>?_⟩;rcases ai'.mp hu with rfl|hu
  ·exact hn
  ·exact h4 u hu
theorem eL_{K:F__}{l D:Addr}{zs:List V}{xs:List (Pc × V)}{H:Hp}{Q:VK}{σ0:St}{j:Nat}(sel:Pc × V->V)(hj:∀x:Pc × V,[some (V.str x.1.1),some (V.int x.1.2.1),some x.2][j]? = some (some (sel x)))(hσ:σ0=[none,none,none])(hl:H l=some (.lst zs))
  (pz:Paired (fun z (x:Pc × V)=>∃t,z=.ref t/\H t=some (.tup [.str x.1.1,.int x.1.2.1,x.2])) zs xs) (h1000:xs.length<=1000) (hD:H D=none)
  (q:∀H' out,Same H H'->H' D=some (.lst out)->be' K H' out (xs.map fun x=>(Sum.inr x.1.1,sel x))->Q (.ref D) H') :
  dz' (Itl K l) (gTup K 3 (cE' (b5' 0) (cE' (b5' 1) (cE' (b5' 2) gNil)))) tYes (tTup (tCons (tVar 0) (tCons (tVar j) tNil))) σ0 D H Q:=by
 have sz:=sizeLine_eq;have le:=Paired.length pz;refine aR_ (own:=3) (fv:=[]) (xs:=zs) hσ gok3 (fun i out H'=>Same H H'/\H' D=some (.lst out)/\be' K H' out ((xs.take i).map fun x=>(Sum.inr x.1.1,sel x))) ⟨Same.new hD,a1_,.nil⟩ (fun i out H' _ ⟨sm,_,_⟩=>.of (sm _ _ hl)) (fun out H4 ⟨sm,hD4,eo⟩=>?_) (fun i y out H' hy ⟨sm,hD',eo⟩=>?_)
 ·rw[le,ar'] at eo;exact q _ _ sm hD4 eo
 ·have hi:i<zs.length:=(ab'.mp hy).1;have hx:xs[i]? = some (xs[i]'(by omega)):=ah' (by omega);obtain⟨t,et,ht⟩:=az_ pz i hi (by omega);rw[(ab'.mp hy).2] at et;subst et;generalize xs[i]'(by omega)=x at hx ht;have lo:=Paired.length eo;rw[aa',ak'] at lo;refine⟨_,⟨t,_,_,_,rfl,.of (sm _ _ ht),rfl⟩,rfl,fun Nx hN=>yesT ?_⟩;refine⟨_,rfl,_,hj x,by show 2<=sizeLine;decide,fun p hp=>?_⟩;have s2:=Same.new (o:=.tup [.str x.1.1,sel x]) hp;refine⟨out,s2 _ _ hD',by omega,hN _ _ ⟨aC_ (sm.trans s2) hD,a1_,?_⟩⟩;rw[bp_ _ hx];have pD:∀{b:Addr} {ys:List V},upd H' p (.tup [.str x.1.1,sel x]) b=some (.tup ys)->b≠D:=fun hb=>aN_ hb (s2 _ _ hD') nofun;refine aA_ (Paired.mapP eo fun y kv ⟨b,z,hb⟩=>⟨b,z,by rw[a4_ (pD (s2 _ _ hb))];exact s2 _ _ hb⟩) (.cons ⟨p,rfl,?_⟩ .nil);have hp2:upd H' p (.tup [.str x.1.1,sel x]) p=some (.tup [.str x.1.1,sel x]):=a1_;rw[a4_ (pD hp2)];exact hp2
section
variable{P:Program}{w:World}{K:F__}{mg:Str->Option Value}{base:Heap}
theorem scGInit:a8' ["self","web","pieces","checked"] ["self","web","pieces"] (a7' sGInit):=f__
def dm'(K:F__)(CG CW:Addr):Sp:=fun vs H Q _=>∃(g dx p l:Addr) (ys:List V) (ps:List Pc) (hs:List (Str × Int)) (ts:List (Str × Str)) (fpw:List Addr),vs=[.ref g,.ref p,.ref l]/\H g=some (.ins CG dx [])/\bq' K CW H p hs ts fpw/\g∉fpw/\Good hs ts/\H l=some (.lst ys)/\c6' K H ys ps/\(∀q∈ps,do' ts q)/\(ps.map (·.1)).Nodup/\ps.length<64 /\
 ∀qs fp H',(∀b o,H b=some o->b≠g->H' b=some o)->bc' K CG CW H' g p hs ts qs fp->Qs ps qs->(∀b∈fp,b=g∨b∈fpw∨H b=none)->Q .non H'
theorem hp_{f CG CW:Addr}{fd:FuncData}(F:Fun K "__init__" "Goods.__init__" sGInit f fd)(T:TxtG K CG)(TW:Txt K mg CW)(IW:InsK K CW)(B:Bi mg)(mWeb:mg "Web"=some (.ref CW))(cP:Cal P w K mg base 6 "checked_pieces" ["web","pieces"] (ch' K CW)):FnOk P w K mg base CX0 7 f fd ["self","web","pieces"] (dm' K CG CW):=by
 refine F.ok scGInit (fun vs H Q E h=>?_) (fun cdv A outer s H vs Q E hr h=>?_)
 ·obtain⟨g,dx,p,l,ys,ps,hs,ts,fpw,rfl,_⟩:=h;rfl
 ·obtain⟨g,dx,p,l,ys,ps,hs,ts,fpw,rfl,hg,W,gw,G,hl,pc,gp,nd,h64,k⟩:=h
  refine⟨_,a2_ (ar_ (aJ_ (aF_ (af_ gp_ (by rfl) B.isi PyProof.Rows.Boot.«isinstance» (a0_ (pv 1) (a0_ (bJ_ (v:=.ref CW) (by rfl) mWeb rfl) a3_))))) ag_ ac_)
   (a2_ (a9_ (i:=3) scGInit.nd rfl (Or.inl rfl) (ae_ cP hr (a0_ (pv 1) (a0_ (pv 2) a3_))))
   (a2_ (bH_ (pv 0) (pv 1) rfl)
   (a2_ (bH_ (pv 0) (ao_ (aO_ rfl) (by rfl) B.dict PyProof.Rows.Boot.«dict» (a0_ (b2_ ["name","weight","ways"] 3 [] (am_ (pv 3)) (fun fp s H=>eo_ (n:=3) (ad_ (a8_ (i:=0) (show (["name","weight","ways"]:List Str).Nodup by decide +kernel) rfl (Or.inl rfl)) (ad_ (a8_ (i:=1) (show (["name","weight","ways"]:List Str).Nodup by decide +kernel) rfl (Or.inl rfl)) (ad_ (a8_ (i:=2) (show (["name","weight","ways"]:List Str).Nodup by decide +kernel) rfl (Or.inl rfl)) aT_)))) (fun fp s H=>aY_) (fun fp s H=>aP_ (a0_ (pv 0) (a0_ (pv 1) a3_)))) a3_)) rfl)
   (a5_ (bH_ (pv 0) (ao_ (aO_ rfl) (by rfl) B.dict PyProof.Rows.Boot.«dict» (a0_ (b2_ ["name","weight","ways"] 3 [] (am_ (pv 3)) (fun fp s H=>eo_ (n:=3) (ad_ (a8_ (i:=0) (show (["name","weight","ways"]:List Str).Nodup by decide +kernel) rfl (Or.inl rfl)) (ad_ (a8_ (i:=1) (show (["name","weight","ways"]:List Str).Nodup by decide +kernel) rfl (Or.inl rfl)) (ad_ (a8_ (i:=2) (show (["name","weight","ways"]:List Str).Nodup by decide +kernel) rfl (Or.inl rfl)) aT_)))) (fun fp s H=>aY_) (fun fp s H=>aP_ (a0_ (pv 0) (a0_ (pv 2) a3_)))) a3_)) rfl))))),?_⟩
  obtain⟨dxw,d1,l2,d3,zs0,as,ef,w1,_⟩:=id W.ex;refine⟨_,rfl,_,_,_,_,rfl,.ins w1 TW.cl IW.ha IW.hn IW.tk IW.mo,hA_ _ _,_,rfl,iteF ?_⟩;refine⟨_,rfl,_,rfl,p,l,ys,ps,hs,ts,fpw,rfl,W,G,hl,pc,gp,nd,h64,fun lc zs qs H1 s1 hlc pn Qq=>?_⟩;obtain⟨vs,lv,pz,wys,vnew⟩:=eW_ pn;have hg1:=s1 _ _ hg
  have lq:qs.length=ps.length:=by
   have:=congrArg List.length Qq.nms;rw[aa',(ah_ _).length_eq,aa'] at this;exact this
  have qnd:(qs.map (·.1)).Nodup:=by
   rw[Qq.nms];exact (ah_ _).nodup_iff.mpr nd
  refine⟨_,rfl,_,rfl,g,CG,dx,[],rfl,hg1,T.cl,T.nW,by show 0<1000;decide,?_⟩;have up1:∀{b o},H1 b=some o->b≠g->upd H1 g (.ins CG dx (putF "web" (.ref p) [])) b=some o:=fun e ne=>by rw[a4_ ne];exact e
  have hg2:upd H1 g (.ins CG dx (putF "web" (.ref p) [])) g=some (.ins CG dx (putF "web" (.ref p) [])):=a1_
  have fr1:∀{b},upd H1 g (.ins CG dx (putF "web" (.ref p) [])) b=none->H1 b=none:=fun {b} e=>by
   by_cases z:b=g
   ·rw[z,a1_] at e;cases e
   ·rw[a4_ z] at e;exact e
  generalize upd H1 g (.ins CG dx (putF "web" (.ref p) []))=H2 at up1 hg2 fr1 ⊢;have lcg:lc≠g:=aN_ hlc hg1 nofun;have pz2:Paired (fun z (x:Pc × V)=>∃t,z=.ref t/\H2 t=some (.tup [.str x.1.1,.int x.1.2.1,x.2])) zs (qs.zip vs):=Paired.mapP pz fun z x ⟨t,e,ht⟩=>⟨t,e,up1 ht (aN_ ht hg1 nofun)⟩;have z1000:(qs.zip vs).length<=1000:=by rw[List.length_zip];omega
  refine⟨_,rfl,lc,rfl,⟨_,.of (up1 hlc lcg)⟩,fun D hD=>?_⟩;refine eL_ (fun x=>.int x.1.2.1) (fun x=>rfl) rfl (up1 hlc lcg) pz2 z1000 hD fun H3 out s3 hD3 pa3=>?_;refine⟨D,out,_,rfl,hD3,pa3,by rw[aa'];exact z1000,fun dw hdw=>?_⟩
  have ekv:((qs.zip vs).map fun x:Pc × V=>((Sum.inr x.1.1:Key),V.int x.1.2.1))=wKV qs:=by
   unfold wKV;have:(fun x:Pc × V=>((Sum.inr x.1.1:Key),V.int x.1.2.1))=(fun q:Pc=>((Sum.inr q.1:Key),V.int q.2.1)) ∘ Prod.fst:=rfl;rw[this,<- al',List.map_fst_zip (by omega)]
  have ndk:(qs.map (·.1)).map (Sum.inr:Str->Key) |>.Nodup:=by
   rw[aB',aG'];exact qnd.imp fun n e=>n (Sum.inr.inj e)
  rw[ekv,aS_ (by rw[eV_];exact ndk)];have s4:=Same.new (o:=.dK (wKV qs)) hdw;have hg4:=s4 _ _ (s3 _ _ hg2);refine⟨_,rfl,g,CG,dx,_,rfl,hg4,T.cl,T.nG,by show 1<1000;decide,?_⟩;have s24:=s3.trans s4;have hdw4:upd H3 dw (.dK (wKV qs)) dw=some (.dK (wKV qs)):=a1_;have dwg:dw≠g:=(a6_ (s3 _ _ hg2) hdw).symm;have fr4:∀{b},upd H3 dw (.dK (wKV qs)) b=none->H2 b=none:=fun e=>s24.free e;have dwn:H2 dw=none:=s3.free hdw;generalize upd H3 dw (.dK (wKV qs))=H4 at s4 hg4 s24 hdw4 fr4 ⊢;have up5:∀{b o},H4 b=some o->b≠g->upd H4 g (.ins CG dx (putF "weight_by_name" (.ref dw) (putF "web" (.ref p) []))) b=some o:=fun e ne=>by rw[a4_ ne];exact e
  have hg5:upd H4 g (.ins CG dx (putF "weight_by_name" (.ref dw) (putF "web" (.ref p) []))) g=some (.ins CG dx (putF "weight_by_name" (.ref dw) (putF "web" (.ref p) []))):=a1_
  have fr5:∀{b},upd H4 g (.ins CG dx (putF "weight_by_name" (.ref dw) (putF "web" (.ref p) []))) b=none->H4 b=none:=fun {b} e=>by
   by_cases z:b=g
   ·rw[z,a1_] at e;cases e
   ·rw[a4_ z] at e;exact e
  generalize upd H4 g (.ins CG dx (putF "weight_by_name" (.ref dw) (putF "web" (.ref p) [])))=H5 at up5 hg5 fr5 ⊢;have up15:∀{b o},H1 b=some o->b≠g->H5 b=some o:=fun e ne=>up5 (s24 _ _ (up1 e ne)) ne;have pz5:Paired (fun z (x:Pc × V)=>∃t,z=.ref t/\H5 t=some (.tup [.str x.1.1,.int x.1.2.1,x.2])) zs (qs.zip vs):=Paired.mapP pz fun z x ⟨t,e,ht⟩=>⟨t,e,up15 ht (aN_ ht hg1 nofun)⟩;refine⟨_,rfl,lc,rfl,⟨_,.of (up15 hlc lcg)⟩,fun D2 hD2=>?_⟩;refine eL_ (fun x=>x.2) (fun x=>rfl) rfl (up15 hlc lcg) pz5 z1000 hD2 fun H6 out2 s6 hD6 pa6=>?_;refine⟨D2,out2,_,rfl,hD6,pa6,by rw[aa'];exact z1000,fun dy hdy=>?_⟩;rw[show ((qs.zip vs).map fun x:Pc × V=>((Sum.inr x.1.1:Key),x.2))=yKV qs vs from rfl,aS_ (by rw[hw_ lv];exact ndk)];have s7:=Same.new (o:=.dK (yKV qs vs)) hdy;have s57:=s6.trans s7;have hg7:=s57 _ _ hg5;refine⟨_,rfl,g,CG,dx,_,rfl,hg7,T.cl,T.nY,by show 2<1000;decide,?_⟩;have hdy7:upd H6 dy (.dK (yKV qs vs)) dy=some (.dK (yKV qs vs)):=a1_;have dyg:dy≠g:=(a6_ (s6 _ _ hg5) hdy).symm;have dyn:H5 dy=none:=s6.free hdy;generalize upd H6 dy (.dK (yKV qs vs))=H7 at s7 s57 hg7 hdy7 ⊢
  have fin:∀{b o},H1 b=some o->b≠g->upd H7 g (.ins CG dx (gflds p dw dy)) b=some o:=fun e ne=>by
   rw[a4_ ne];exact s57 _ _ (up15 e ne)
  have tupf:∀b xs,H1 b=some (.tup xs)->upd H7 g (.ins CG dx (gflds p dw dy)) b=some (.tup xs):=fun b xs e=>fin e (aN_ e hg1 nofun);have nH:∀{b},H1 b=none->H b=none:=fun e=>s1.free e;refine k qs (g::dw::dy::(fpw++vs.filterMap fun v=>match v with | .ref a=>some a|_=>none)) _ (fun b o e ne=>fin (s1 _ _ e) ne) ⟨dx,dw,dy,vs,fpw,a1_,?_,?_,?_,?_,by simp,by simp,by simp,fun b hb=>by simp[hb],fun v hv a z=>?_⟩ Qq fun b hb=>?_
  ·exact W.keep (fun b hb o e=>fin (s1 _ _ e) (fun z=>gw (z▸hb))) fun b xs e=>tupf b xs (s1 _ _ e)
  ·rw[a4_ dwg];exact s57 _ _ (up5 hdw4 dwg)
  ·rw[a4_ dyg];exact hdy7
  ·exact bL_ wys fun v hv q h=>h.keep (fun a z u e=>fin e (fun zz=>by
    subst zz;have:=vnew v hv _ z;rw[hg] at this;cases this)) fun b xs e=>tupf b xs e
  ·refine ad' _ (ad' _ (ad' _ (ax' _ (aN'.mpr ⟨v,hv,?_⟩))));rw[z]
  ·simp only[ai',av',aN'] at hb;rcases hb with rfl|rfl|rfl|hb|⟨v,hv,e⟩
   ·exact .inl rfl
   ·exact .inr (.inr (nH (fr1 dwn)))
   ·exact .inr (.inr (nH (fr1 (s24.free (fr5 dyn)))))
   ·exact .inr (.inl hb)
   ·cases v with
    |ref a=>
     cases e;exact .inr (.inr (vnew _ hv _ rfl))
    |_=>cases e
end
end Ev
namespace L2
open PySem
theorem pass1{P:Program}{w:World}{X:Cx}:bH' (CX1 P w) X E0:=fun _ _ _ _ _ _ _ h=>by
 obtain⟨_,_,_,_,_,_,_,_,_,_,_,_,z⟩:=h;exact z.elim
end L2
namespace Ev
open PySem L2
structure CalX (P:Program) (w:World) (K:F__) (mg:Str->Option Value) (base:Heap) (C:Addr) (k:Nat) (m:Str) (ps:List Str) (sp:Sp):Prop where
 ex:∃f fd,FnOk P w K mg base (CX1 P w) k f fd ps sp/\Meth K C m f/\bW' K fd ps []
theorem i2_{X:Cx}{C:Addr}{k:Nat}{m:Str}{ps:List Str}{sp:Sp}{pos apos:Pos}{o e:Expr}{es:List Expr}{ta:TE}{t:TA}{pl:Sem Bool}(c:CalX X.prog X.w X.K X.mg X.base C k m ps sp)(cl:Cls X.K C)(hr:Room k X.A)(he:PE X o ta)(ha:PA X (e::es) t)
  (hst:starEach (e::es) X.env=(false,eval e X.env)::starEach es X.env:=by rfl) (hpl:(backTo pos (starEach es X.env)).any (·.1)=false:=by rfl)
  (ht:eval (.Call (.Attribute o m apos) (e::es) [] pos) X.env=(do
   let ov <- eval o X.env
   standAt apos.atName
   let (f,first) <- holding [ov] (getMethod ov m pl)
   callWith pos f first (backTo pos (starEach (e::es) X.env)) (backToKw pos (keywordEach [] X.env))):=by rfl) :
  PE X (.Call (.Attribute o m apos) (e::es) [] pos) (tMeth C m sp [] E0 ta t):=by
 obtain⟨f,fd,F,hm,b⟩:=c.ex;exact gP_ he cl hm F hr b .nil pass1 ha hst hpl ht
theorem ee_{kvs:List (Key × V)}{ns:List Str}(h:kvs.map (·.1)=ns.map Sum.inr)(x:Str):(valV kvs (Sum.inr x)).isSome=decide (x∈ns):=by
 by_cases hx:x∈ns
 ·rw[decide_eq_true hx];refine dZ_ ?_;rw[h];exact ac'.mpr ⟨x,hx,rfl⟩
 ·rw[decide_eq_false hx,aK_]
  ·rfl
  ·rw[h];intro m;obtain⟨y,hy,e⟩:=ac'.mp m;cases e;exact hx hy
theorem jW_{qs:List Pc}(nd:(qs.map (·.1)).Nodup){q:Pc}(hq:q∈qs):valV (wKV qs) (Sum.inr q.1)=some (.int q.2.1):=by
 obtain⟨j,hj,e⟩:=aL' hq;have:=da_ (ps:=qs) (cs:=qs.map fun q=>V.int q.2.1) nd (by rw[aa']) (j:=j) (q:=q) (c:=.int q.2.1) (by rw[ah' hj,e]) (by rw[ao',ah' hj,e];rfl)
 have e2:((qs.zip (qs.map fun q=>V.int q.2.1)).map fun q=>((Sum.inr q.1.1:Key),q.2))=wKV qs:=by
  unfold wKV;rw[List.zip_map_right,al']
  have:qs.zip qs=qs.map fun q=>(q,q):=by
   clear nd hq this hj e j
   induction qs with
   |nil=>rfl
   |cons a l ih=>rw[List.zip_cons_cons,ih,ap']
  rw[this,al'];rfl
 rwa [e2] at this
theorem k1_{qs:List Pc}{vs:List V}(nd:(qs.map (·.1)).Nodup){K:F__}{H:Hp}(h:Paired (fun v (q:Pc)=>WyAt K H v q.2.2) vs qs){q:Pc}(hq:q∈qs):∃v∈vs,valV (yKV qs vs) (Sum.inr q.1)=some v/\WyAt K H v q.2.2:=by
 obtain⟨j,hj,e⟩:=aL' hq;have hl:=Paired.length h;have hv:j<vs.length:=by omega
 have p:=az_ h j hv hj;rw[e] at p;exact⟨vs[j],List.getElem_mem hv,da_ nd (by omega) (by rw[ah' hj,e]) (ah' hv),p⟩
def goB(hs:List (Str × Int))(ts:List (Str × Str))(o:Option (List (Str × Str)))(x y:Option Str):Bool:=
 tiedB hs ts x y&&match o,x,y with
  |none,_,_=>true
  |some ws,some a,some b=>decide (ord2 a b∈ws)
  |_,_,_=>false
section
variable{P:Program}{w:World}{K:F__}{mg:Str->Option Value}{base:Heap}
theorem scGHas:a8' ["self","thing"] ["self","thing"] (a7' sGHas):=f__
def cQ'(K:F__)(CG CW:Addr):Sp:=fun vs H Q _=>∃(g p:Addr) (v:V) (x:Option Str) (hs:List (Str × Int)) (ts:List (Str × Str)) (qs:List Pc) (fp:List Addr),vs=[.ref g,v]/\bc' K CG CW H g p hs ts qs fp/\StrV K H v x/\Q (.bl (inB (qs.map (·.1)) x)) H
theorem jl_{f CG CW:Addr}{fd:FuncData}(F:Fun K "has_piece" "Goods.has_piece" sGHas f fd)(T:TxtG K CG)(B:Bi mg):FnOk P w K mg base CX0 1 f fd ["self","thing"] (cQ' K CG CW):=by
 refine F.ok scGHas (fun vs H Q E h=>?_) (fun cdv A outer s H vs Q E hr h=>?_)
 ·obtain⟨g,p,v,x,hs,ts,qs,fp,rfl,_⟩:=h;rfl
 ·obtain⟨g,p,v,x,hs,ts,qs,fp,rfl,G,sv,k⟩:=h;have hu:=b0_ hr;obtain⟨dx,dw,dy,vs,fpw,h1,h2,h3,h4,h5,m1,m2,m3,m4,m5⟩:=G.ex;refine⟨_,a5_ (ab_ (bs_ (af_ aM_ (by rfl) B.isi PyProof.Rows.Boot.«isinstance» (a0_ (pv 1) (a0_ (aZ_ (v:=.ty "str") (by rfl) B.str PyProof.Rows.Boot.«str» rfl) a3_))) (bg_ (dJ_ (d4_ hu (pv 1) (ay_ (pv 0) rfl)))))),?_⟩;cases x with
  |some x=>
   cases (show v=.str x from sv);refine⟨_,rfl,_,_,_,_,rfl,.str x,rfl,_,rfl,iteT ?_⟩;refine⟨_,rfl,_,rfl,g,CG,dx,_,_,rfl,h1,T.cl,T.nG,e9_ _ _ _,dw,_,rfl,.k (k:=Sum.inr x) h3,?_⟩;rw[ee_ (eV_ qs)];exact k
  |none=>
   obtain⟨t,ty,e⟩:=sv;exact⟨_,rfl,_,_,_,_,rfl,ty,e,_,rfl,iteF k⟩
theorem scGNames:a8' ["self"] ["self"] (a7' dk'):=f__
def cs'(K:F__)(CG CW:Addr):Sp:=fun vs H Q _=>∃(g p:Addr) (hs:List (Str × Int)) (ts:List (Str × Str)) (qs:List Pc) (fp:List Addr),vs=[.ref g]/\bc' K CG CW H g p hs ts qs fp/\∀l,H l=none->Q (.ref l) (upd H l (.lst ((qs.map (·.1)).map V.str)))
theorem gA_{f CG CW:Addr}{fd:FuncData}(F:Fun K "names" "Goods.names" dk' f fd)(T:TxtG K CG)(B:Bi mg):FnOk P w K mg base CX0 1 f fd ["self"] (cs' K CG CW):=by
 refine F.ok scGNames (fun vs H Q E h=>?_) (fun cdv A outer s H vs Q E hr h=>?_)
 ·obtain⟨g,p,hs,ts,qs,fp,rfl,_⟩:=h;rfl
 ·obtain⟨g,p,hs,ts,qs,fp,rfl,G,k⟩:=h;obtain⟨dx,dw,dy,vs,fpw,h1,h2,h3,h4,h5,m1,m2,m3,m4,m5⟩:=G.ex;refine⟨_,a5_ (ab_ (ao_ (cf_ rfl) (by rfl) B.list PyProof.Rows.Boot.«list» (a0_ (ay_ (pv 0) rfl) a3_))),?_⟩;refine⟨_,rfl,g,CG,dx,_,_,rfl,h1,T.cl,T.nG,e9_ _ _ _,dw,_,rfl,.inl h3,fun l hl=>?_⟩
  have e:((wKV qs).map fun kv=>kV kv.1)=(qs.map (·.1)).map V.str:=by
   unfold wKV;rw[al',al'];rfl
  rw[e];exact k l hl
structure Ref (K:F__) (mg:Str->Option Value) (x:Str) (C:Addr):Prop where
 mg:mg x=some (.ref C)
 ex:PySem.W.excIn K C [.type "ValueError",.type "Exception",.type "BaseException",.type "object"] "ValueError.__new__"=true
theorem scGWeight:a8' ["self","piece"] ["self","piece"] (a7' cI'):=f__
def by'(K:F__)(CG CW CP:Addr):Sp:=fun vs H Q E=>∃(g p:Addr) (v:V) (x:Option Str) (hs:List (Str × Int)) (ts:List (Str × Str)) (qs:List Pc) (fp:List Addr),vs=[.ref g,v]/\bc' K CG CW H g p hs ts qs fp/\(qs.map (·.1)).Nodup/\StrV K H v x /\
 ((∃q∈qs,x=some q.1/\Q (.int q.2.1) H)∨(inB (qs.map (·.1)) x=false/\E (.ref CP) none H))
theorem fE_{f CG CW CP:Addr}{fd:FuncData}(F:Fun K "weight" "Goods.weight" cI' f fd)(T:TxtG K CG)(R:Ref K mg "NoPiece" CP)(cH:CalM P w K mg base CG 1 "has_piece" ["self","thing"] (cQ' K CG CW)):FnOk P w K mg base (CX1 P w) 2 f fd ["self","piece"] (by' K CG CW CP):=by
 refine F.okX scGWeight (fun vs H Q E h=>?_) (fun cdv A outer s H vs Q E hr h=>?_)
 ·obtain⟨g,p,v,x,hs,ts,qs,fp,rfl,_⟩:=h;rfl
 ·obtain⟨g,p,v,x,hs,ts,qs,fp,rfl,G,nd,sv,k⟩:=h;have hu:=b0_ hr;obtain⟨dx,dw,dy,vs,fpw,h1,h2,h3,h4,h5,m1,m2,m3,m4,m5⟩:=id G.ex;have hno:(gflds p dw dy).lookup ("has_piece":Str)=none:=be_ _ _ _ (by decide +kernel) (by decide +kernel) (by decide +kernel);refine⟨_,a2_ (ar_ (aJ_ (aF_ (bf_ cH T.cl hr (pv 0) (a0_ (pv 1) a3_)))) (a5_ (eN_ rfl raises1 R.mg R.ex PySem.F.excBase_ValueError (by rfl) (a0_ an_ a3_))) ac_) (a5_ (ab_ (ai_ hu (ay_ (pv 0) rfl) (pv 1) (fun _ _=>rfl)))),?_⟩;refine⟨_,rfl,g,dx,_,rfl,h1,hno,_,rfl,g,p,v,x,hs,ts,qs,fp,rfl,G,sv,_,rfl,?_⟩;rcases k with⟨q,hq,rfl,k⟩|⟨hb,k⟩
  ·cases (show v=.str q.1 from sv);rw[show inB (qs.map (·.1)) (some q.1)=true from decide_eq_true (ac'.mpr ⟨q,hq,rfl⟩)];refine iteF ?_;refine⟨_,rfl,g,CG,dx,_,_,rfl,h1,T.cl,T.nG,e9_ _ _ _,_,rfl,dw,_,rfl,?_,k⟩;rw[<- jW_ nd hq];exact .k (k:=Sum.inr q.1) h3
  ·rw[hb];exact iteT ⟨by show 1<=sizeLine;decide,k⟩
theorem scGMay:a8' ["self","piece","one","other","ties"] ["self","piece","one","other"] (a7' sGMay):=f__
def spGMay(K:F__)(CG CW CP:Addr):Sp:=fun vs H Q E=>∃(g p:Addr) (v u1 u2:V) (x y1 y2:Option Str) (hs:List (Str × Int)) (ts:List (Str × Str)) (qs:List Pc) (fp:List Addr),vs=[.ref g,v,u1,u2]/\bc' K CG CW H g p hs ts qs fp/\(qs.map (·.1)).Nodup/\(a9' hs).Nodup/\StrV K H v x /\
 ((∃q∈qs,x=some q.1/\StrV K H u1 y1/\StrV K H u2 y2/\∀H',Same H H'->Q (.bl (goB hs ts q.2.2 y1 y2)) H')∨(inB (qs.map (·.1)) x=false/\E (.ref CP) none H))
theorem jE_{f CG CW CP:Addr}{fd:FuncData}(F:Fun K "may_go" "Goods.may_go" sGMay f fd)(T:TxtG K CG)(TW:Txt K mg CW)(R:Ref K mg "NoPiece" CP)(cH:CalM P w K mg base CG 1 "has_piece" ["self","thing"] (cQ' K CG CW))(cT:CalM P w K mg base CW 2 "are_tied" ["self","one","other"] (cN' K CW))(cL:Cal P w K mg base 1 "lesser_first" ["one","other"] bS') :
  FnOk P w K mg base (CX1 P w) 3 f fd ["self","piece","one","other"] (spGMay K CG CW CP):=by
 refine F.okX scGMay (fun vs H Q E h=>?_) (fun cdv A outer s H vs Q E hr h=>?_)
 ·obtain⟨g,p,v,u1,u2,x,y1,y2,hs,ts,qs,fp,rfl,_⟩:=h;rfl
 ·obtain⟨g,p,v,u1,u2,x,y1,y2,hs,ts,qs,fp,rfl,G,nd,nnd,sv,k⟩:=h;have hu:=b0_ hr;have hr1:Room 1 _:=hr.mono (by decide);obtain⟨dx,dw,dy,vs,fpw,h1,h2,h3,h4,h5,m1,m2,m3,m4,m5⟩:=id G.ex;have hno:(gflds p dw dy).lookup ("has_piece":Str)=none:=be_ _ _ _ (by decide +kernel) (by decide +kernel) (by decide +kernel);obtain⟨dxw,d1,l2,d3,zs0,as,ef,w1,_⟩:=id h2.ex;have hnw:(flds d1 l2 d3).lookup ("are_tied":Str)=none:=b1_ _ _ _ (by decide +kernel) (by decide +kernel) (by decide +kernel)
  refine⟨_,a2_ (ar_ (aJ_ (aF_ (bf_ cH T.cl hr1 (pv 0) (a0_ (pv 1) a3_)))) (a5_ (eN_ rfl raises1 R.mg R.ex PySem.F.excBase_ValueError (by rfl) (a0_ an_ a3_))) ac_)
   (a2_ (ar_ (aJ_ (aF_ (bf_ cT TW.cl hr (ay_ (pv 0) rfl) (a0_ (pv 2) (a0_ (pv 3) a3_))))) (a5_ (ab_ e8_)) ac_)
   (a2_ (a9_ (i:=4) scGMay.nd rfl (Or.inl rfl) (ai_ hu (ay_ (pv 0) rfl) (pv 1) (fun _ _=>rfl)))
   (a5_ (ab_ (hE_ (dJ_ (eF_ (pv 4))) (bg_ (aQ_ (dR_ (cmp2 cmpS cmpS) (bZ' hr _)) (ae_ cL hr1 (a0_ (pv 2) (a0_ (pv 3) a3_))) (pv 4) (by with_unfolding_all rfl)))))))),?_⟩
  refine⟨_,rfl,g,dx,_,rfl,h1,hno,_,rfl,g,p,v,x,hs,ts,qs,fp,rfl,G,sv,_,rfl,?_⟩;rcases k with⟨q,hq,rfl,s1,s2,k⟩|⟨hb,k⟩
  ·cases (show v=.str q.1 from sv);rw[show inB (qs.map (·.1)) (some q.1)=true from decide_eq_true (ac'.mpr ⟨q,hq,rfl⟩)];refine iteF ?_;refine⟨_,rfl,g,CG,dx,_,_,rfl,h1,T.cl,T.nW,bc_ _ _ _,p,dxw,_,rfl,w1,hnw,_,rfl,_,rfl,p,u1,u2,y1,y2,hs,ts,fpw,rfl,h2,nnd,s1,s2,_,rfl,?_⟩;cases tb:tiedB hs ts y1 y2 with
   |false=>
    refine iteT ?_;have:=k H (Same.refl H);unfold goB at this;rw[tb,a2'] at this;exact this
   |true=>
    refine iteF ?_;obtain⟨u,hu',eu,wy⟩:=k1_ nd h5 hq;refine⟨_,rfl,g,CG,dx,_,_,rfl,h1,T.cl,T.nY,iZ_ _ _ _,_,rfl,dy,u,rfl,?_,?_⟩
    ·rw[<- eu];exact .k (k:=Sum.inr q.1) h4
    ·refine⟨_,rfl,_,rfl,?_⟩;unfold goB at k;rw[tb] at k;cases e:q.2.2 with
     |none=>
      rw[e] at wy k;cases (show u=.non from wy);exact iteT (k H (Same.refl H))
     |some ws=>
      rw[e] at wy k;obtain⟨a,ys,rfl,ha,tu⟩:=wy;cases y1 with
      |none=>cases tb
      |some a1=>
       cases y2 with
       |none=>cases tb
       |some a2=>
        cases (show u1=.str a1 from s1);cases (show u2=.str a2 from s2);refine iteF ⟨_,rfl,_,rfl,a1,a2,rfl,fun t ht=>?_⟩;have s3:Same H (upd H t (.tup [.str (ord2 a1 a2).1,.str (ord2 a1 a2).2])):=Same.new ht;refine⟨_,rfl,ord2 a1 a2,ws,⟨t,_,_,rfl,.of a1_,rfl,rfl⟩,⟨a,ys,rfl,.of (s3 _ _ ha),cU_ (tu.same s3)⟩,?_⟩;have z:=k _ s3;rw[Bool.true_and] at z;rw[if_neg aq'];show Q (.bl _) _;have z:Q (.bl (decide (ord2 a1 a2∈ws))) (upd H t (.tup [.str (ord2 a1 a2).1,.str (ord2 a1 a2).2])):=z;generalize upd H t (.tup [.str (ord2 a1 a2).1,.str (ord2 a1 a2).2])=Hz at z ⊢;by_cases hm:ord2 a1 a2∈ws
        ·simpa [hm] using z
        ·simpa [hm] using z
  ·rw[hb];exact iteT ⟨by show 1<=sizeLine;decide,k⟩
end
end Ev
namespace L2
open PySem PySem.Spec PyProof.Rows PySem.W
theorem g1_{P:Program}{w:World}{k:Key}{key:Value}(h:(bb' P w).is k key=true):RelV (kV k) key:=by
 have e2:cB' k key=true:=h;rcases av_ e2 with⟨i,t,rfl,rfl⟩|⟨x,t,rfl,rfl⟩
 ·exact⟨t,rfl⟩
 ·exact⟨t,rfl⟩
def Itm(d:Addr)(o:Obj)(kvs:List (Key × V)):It:=⟨fun i H=>H d=some (.frz o (.dK kvs))/\i<kvs.length,fun i H y H'=>∃t k x,y=.ref t/\H t=none/\kvs[i]? = some (k,x)/\H'=upd H t (.tup [kV k,x]),fun i H=>H d=some (.frz o (.dK kvs))/\kvs.length<=i⟩
theorem fe_{P:Program}{w:World}{K:F__}{elts:List Expr}{kk:Nat}{pos:Pos}(d it:Addr)(o:Obj)(kvs:List (Key × V)){es:Array DictEntry}{ep:Nat}(ho:o.data=.dict es ep):Turn P w K (.Tuple elts kk pos) (Itm d o kvs) [it] it (fun i h=>∃ok ov,IsItemIter h it d i kvs.length ep ok ov) where
 mem:=by simp
 obj:=fun i h st b hb=>by
  obtain rfl:b=it:=by simpa using hb
  obtain⟨ok,ov,q⟩:=st;exact⟨_,q,fun v z=>by cases z⟩
 keep:=fun i h h' st k=>by
  obtain⟨ok,ov,q⟩:=st;exact⟨ok,ov,k it (by simp) _ q⟩
 item:=by
  intro X hP hw hK hc i pins s σ H E I hf st hg;subst hP hw hK;obtain⟨hd,hi⟩:=hg;obtain⟨vs,rel,dat⟩:=bz_ I hd ho;obtain⟨⟨k,x⟩,hx⟩:∃p,kvs[i]? = some p:=⟨kvs[i],by simp[hi]⟩;obtain⟨u,hu,ru⟩:=iA_ rel i hx;obtain⟨ok,ov,st⟩:=st;have itl:it<s.heap.objs.size:=Heap.lt_size st;rw[rel.length] at st;refine wpAny_pyNext_items_item st dat hu fun key h' hk out ht sz kp=>?_;refine⟨_,rfl,wpAny_letOwnedTupleGo_items (s:={ s with heap:=h' }) out fun h2 st2 sb=>?_⟩;have nT:s.heap.objs.size≠it:=a5' itl;have I1:Inv X pins σ (upd H s.heap.objs.size (.tup [kV k,x])) { s with heap:=h2 }:=I.turnedN (t':=s.toks) (fp:=[it]) (its:=[key,u]) (fun b o hb q=>(sb.2 b (by simpa using hb)).trans (kp b o (by simpa using hb) q)) hf (ag' _) (by show 2<=sizeLine;decide) (.cons (g1_ hk) (.cons ru .nil)) ⟨⟨_,(sb.2 _ nT).trans ht,rfl,_,rfl⟩,_,(sb.2 _ nT).trans ht,rfl⟩;refine⟨.ref _,_,I1,rfl,⟨_,k,x,rfl,I.hok.fresh (ag' _),hx,rfl⟩,⟨_,_,by rw[rel.length];exact st2⟩,fun b hb=>?_⟩;have e:b=it:=by simpa using hb
  rw[a4_ (fun z=>nT (z.symm.trans e))];exact (hf b hb).1
 done:=by
  intro X hP hw hK hc i pins s σ H E I hf st hg;subst hP hw hK;obtain⟨hd,hi⟩:=hg;obtain⟨vs,rel,dat⟩:=bz_ I hd ho;obtain⟨f0,f1,f2,f3,f4,f5⟩:=hf it (by simp);obtain⟨ok,ov,st⟩:=st;rw[rel.length] at st hi;exact wpAny_pyNext_items_end (I.ok.hd hc) st dat (by simp;omega) fun h' eb=>⟨rfl,I.turned (t':=s.toks) (fun b o hb e=>eb b o hb e) f0 f1 f3 f4 f5⟩
 self:=fun A i s Q E st h=>by
  obtain⟨ok,ov,q⟩:=st;exact kcp_self q h
def iItems(tv:TE):TI:=fun σ H R=>tv σ H fun x H1=>∃v d kvs,x=.ref v/\H1 v=some (bo' v d)/\H1 d=some (.dK kvs)/\∀o,R (Itm d o kvs) (upd H1 d (.frz o (.dK kvs)))
theorem dd_{X:Cx}{elts:List Expr}{kk:Nat}{p2:Pos}{e:Expr}{tv:TE}(he:PE X e tv):PI X (.Tuple elts kk p2) e (iItems tv):=by
 intro pins s σ H R I h;refine thn (he pins s σ H _ I h) fun u s1 ⟨x,H1,I1,r1,v,d,kvs,ex,hv,hd,q⟩=>?_;subst ex;cases r1;obtain⟨iv,_,_⟩:=I1.hok v _ hv;obtain⟨o,ho,I2⟩:=I1.freeze hd;obtain⟨z,_,vs,rel,o',es,ep,ho',c',dt,r⟩:=fr_ I1.hok hd;rw[ho] at ho';cases ho';refine wpAny_pyIter_items (knd:=bb' X.prog X.w) (kvs:=vs) (ep:=ep) iv ⟨o,es,ho,c',dt,r⟩ ?_;refine⟨s1.heap.objs.size,[s1.heap.objs.size],_,_,_,rfl,I2.kept (t':=s1.toks) fun b o e=>Heap.get?_push_of_some _ e,fe_ d _ o kvs dt,?_,fun b hb=>?_,q o⟩
 ·rw[rel.length];exact⟨.none,.none,Heap.get?_push_size _ rfl⟩
 ·obtain rfl:b=s1.heap.objs.size:=by simpa using hb
  exact I2.fpOk (ag' _) (I2.hok.fresh (ag' _))
theorem cP_{d:Addr}{o:Obj}{kvs:List (Key × V)}{g:TG}{tb:TS}{D:Ends}{σ:St}{H:Hp}(Pv:Nat->St->Hp->Prop)(h0:Pv 0 σ H)(hl:∀i σ H,i<=kvs.length->Pv i σ H->H d=some (.frz o (.dK kvs)))
  (hs:∀i k x σ H,kvs[i]? = some (k,x)->Pv i σ H->∀t,H t=none->g (.ref t) σ (upd H t (.tup [kV k,x])) fun σ2 H2=>tb { D with nx:=Pv (i+1),ct:=Pv (i+1),bk:=D.nx } σ2 H2) (hd:∀σ H,Pv kvs.length σ H->D.nx σ H) :
  ∃W:Nat->Nat->St->Hp->Prop,(∃m,W 0 m σ H)/\∀i m σ H,W i m σ H->
   ((Itm d o kvs).stop i H/\D.nx σ H)∨((Itm d o kvs).go i H/\∃N:St->Hp->Prop,(∀σ' H',N σ' H'->∃m',m'<m/\W (i+1) m' σ' H')/\∀x H',(Itm d o kvs).yld i H x H'->g x σ H' fun σ2 H2=>tb { D with nx:=N,ct:=N,bk:=D.nx } σ2 H2):=by
 refine⟨fun i m σ H=>m=kvs.length - i/\i<=kvs.length/\Pv i σ H,⟨kvs.length,by simp,aC' _,h0⟩,?_⟩;rintro i m σ H ⟨rfl,hi,p⟩;have q:=hl i σ H hi p;by_cases hlt:i<kvs.length
 ·refine .inr ⟨⟨q,hlt⟩,Pv (i+1),fun σ' H' p'=>⟨kvs.length - (i+1),by omega,rfl,hlt,p'⟩,fun x H' y=>?_⟩;obtain⟨t,k,x,rfl,ht,hx,rfl⟩:=y;exact hs i k x σ H hx p t ht
 ·have e:i=kvs.length:=by omega
  subst e;exact .inl ⟨⟨q,ag' _⟩,hd σ H p⟩
def Itk(d:Addr)(o:Obj)(kvs:List (Key × V)):It:=⟨fun i H=>H d=some (.frz o (.dK kvs))/\i<kvs.length,fun i H y H'=>H'=H/\∃k x,kvs[i]? = some (k,x)/\y=kV k,fun i H=>H d=some (.frz o (.dK kvs))/\kvs.length<=i⟩
theorem gM_{P:Program}{w:World}{K:F__}{tg:Expr}(d it:Addr)(o:Obj)(kvs:List (Key × V)){es:Array DictEntry}{ep:Nat}(ho:o.data=.dict es ep):Turn P w K tg (Itk d o kvs) [it] it (fun i h=>h.IsKeyIter it d i kvs.length ep) where
 mem:=by simp
 obj:=fun i h st b hb=>by
  obtain rfl:b=it:=by simpa using hb
  obtain⟨o,e,c,d⟩:=st;exact⟨o,e,fun v z=>by rw[d] at z;cases z⟩
 keep:=fun i h h' st k=>st.at fun o e=>k it (by simp) o e
 item:=by
  intro X hP hw hK hc i pins s σ H E I hf st hg;subst hP hw hK;obtain⟨hd,hi⟩:=hg;obtain⟨vs,rel,dat⟩:=bz_ I hd ho;obtain⟨⟨k,x⟩,hx⟩:∃p,kvs[i]? = some p:=⟨kvs[i],by simp[hi]⟩;obtain⟨u,hu,ru⟩:=iA_ rel i hx;obtain⟨f0,f1,f2,f3,f4,f5⟩:=hf it (by simp);rw[rel.length] at st;refine wpAny_pyNext_dict_item st dat hu fun key h' hk st' sb=>?_;have I1:Inv X pins σ H { s with heap:=h' }:=I.turned (t':=s.toks) (fun b o hb e=>(sb.2 b hb).trans e) f0 f1 f3 f4 f5;obtain⟨o',e,c,dd⟩:=id st';refine⟨key,rfl,gD_ (s:={ s with heap:=h' }) e c dd (by decide) ⟨kV k,H,I1,g1_ hk,⟨rfl,k,x,hx,rfl⟩,?_,fun b hb=>(hf b hb).1⟩⟩;show h'.IsKeyIter it d (i+1) kvs.length ep;rw[rel.length];exact st'
 done:=by
  intro X hP hw hK hc i pins s σ H E I hf st hg;subst hP hw hK;obtain⟨hd,hi⟩:=hg;obtain⟨vs,rel,dat⟩:=bz_ I hd ho;obtain⟨f0,f1,f2,f3,f4,f5⟩:=hf it (by simp);rw[rel.length] at st hi;exact wpAny_pyNext_dict_end (I.ok.hd hc) st dat (by simp;omega) fun h' eb=>⟨rfl,I.turned (t':=s.toks) (fun b o hb e=>eb b o hb e) f0 f1 f3 f4 f5⟩
 self:=fun _ _ _ _ _ st h=>wpAny_pyIter_keyiter st h
def iKeys(tv:TE):TI:=fun σ H R=>tv σ H fun x H1=>∃d kvs,x=.ref d/\H1 d=some (.dK kvs)/\∀o,R (Itk d o kvs) (upd H1 d (.frz o (.dK kvs)))
theorem em_{X:Cx}{tg e:Expr}{tv:TE}(he:PE X e tv):PI X tg e (iKeys tv):=by
 intro pins s σ H R I h;refine thn (he pins s σ H _ I h) fun u s1 ⟨x,H1,I1,r1,d,kvs,ex,hd,q⟩=>?_;subst ex;cases r1;obtain⟨o,ho,I2⟩:=I1.freeze hd;obtain⟨z,hne,vs,rel,o',es,ep,ho',c',dt,r⟩:=fr_ I1.hok hd;rw[ho] at ho';cases ho';refine wpAny_pyIter_dict (knd:=bb' X.prog X.w) (kvs:=vs) (ep:=ep) hne ⟨o,es,ho,c',dt,r⟩ ?_;refine⟨s1.heap.objs.size,[s1.heap.objs.size],_,_,_,rfl,I2.kept (t':=s1.toks) fun b o e=>Heap.get?_push_of_some _ e,gM_ d _ o kvs dt,?_,fun b hb=>?_,q o⟩
 ·rw[rel.length];exact⟨_,Heap.get?_push_size _ rfl,rfl,rfl⟩
 ·obtain rfl:b=s1.heap.objs.size:=by simpa using hb
  exact I2.fpOk (ag' _) (I2.hok.fresh (ag' _))
theorem gc_{d:Addr}{o:Obj}{kvs:List (Key × V)}{g:TG}{tc:TT}{te:TE}{own:Nat}{fv:List (Option V)}{dec:V->Hp->List (Option V)->Prop}{D:Addr}{H:Hp}{Q:VK}{σ0:St}(hσ:σ0=List.replicate own none++fv)(G:GOk g own fv dec)(Pv:Nat->List V->Hp->Prop)
  (h0:Pv 0 [] (upd H D (.lst []))) (hl:∀i out H',i<=kvs.length->Pv i out H'->H' d=some (.frz o (.dK kvs))) (hd:∀out H',Pv kvs.length out H'->Q (.ref D) H')
  (hgo:∀i k x out H',kvs[i]? = some (k,x)->Pv i out H'->∃o3,dec (kV k) H' o3/\o3.length=own/\∀Nx:Hp->Prop,(∀out' H2,Pv (i+1) out' H2->Nx H2)->
   tc (o3++fv) H' fun b H4=>if b=true then te (o3++fv) H4 fun y H5=>∃out2,H5 D=some (.lst out2)/\out2.length<sizeLine/\Nx (upd H5 D (.lst (out2++[y]))) else Nx H4) :
  dz' (Itk d o kvs) g tc te σ0 D H Q:=by
 refine c5_ hσ G kvs.length Pv h0 (fun out H' p=>⟨⟨hl _ _ _ (ag' _) p,ag' _⟩,hd out H' p⟩) fun i out H' hi p=>?_;have q:=hl i out H' (Nat.le_of_lt hi) p;refine⟨⟨q,hi⟩,fun x H2 y=>?_⟩;obtain⟨e,k,v,hx,rfl⟩:=y;subst e;exact hgo i k v out _ hx p
def tThawS(t:TS):TS:=fun D σ H=>∃d kvs,H d=some (.dK kvs)/\t { nx:=fun σ1 H1=>∃o,H1 d=some (.frz o (.dK kvs))/\D.nx σ1 (upd H1 d (.dK kvs)),rt:=fun v H1=>∃o,H1 d=some (.frz o (.dK kvs))/\D.rt v (upd H1 d (.dK kvs)) } σ H
theorem cN_{X:Cx}{st:Stmt}{t:TS}(h:PS X st t):PS X st (tThawS t):=by
 intro pins s σ H D I q;obtain⟨d,kvs,hd,q⟩:=q
 have nf:∀o u,X.H₀ d≠some (.frz o u):=fun o u z=>by
  have:=I.base.frzs _ _ _ z;rw[hd] at this;cases this
 refine thn (h pins s σ H _ I q) fun f s' p=>?_;cases f with
 |next=>
  obtain⟨σ1,H1,I1,o,hf,q1⟩:=p;exact⟨σ1,_,I1.thaw hf nf,q1⟩
 |brk=>
  obtain⟨σ1,H1,I1,q1⟩:=p;exact False.elim q1
 |cont=>
  obtain⟨σ1,H1,I1,q1⟩:=p;exact False.elim q1
 |ret u=>
  obtain⟨v,σ1,H1,I1,r,o,hf,q1⟩:=p;exact⟨v,σ1,_,I1.thaw hf nf,r,q1⟩
end L2
namespace Ev
open PySem L2
structure Fz (d:Addr) (o:Obj) (kvs:List (Key × V)) (H H':Hp):Prop where
 at_:H' d=some (.frz o (.dK kvs))
 sm:∀b u,b≠d->H b=some u->H' b=some u
section
variable{d:Addr}{o:Obj}{kvs:List (Key × V)}{H H' H2:Hp}
theorem Fz.start:Fz d o kvs H (upd H d (.frz o (.dK kvs))):=⟨a1_,fun b u ne e=>by rw[a4_ ne];exact e⟩
theorem Fz.step(f:Fz d o kvs H H')(s:Same H' H2):Fz d o kvs H H2:=⟨s _ _ f.at_,fun b u ne e=>s _ _ (f.sm b u ne e)⟩
theorem Fz.thaw(f:Fz d o kvs H H')(hd:H d=some (.dK kvs)):Same H (upd H' d (.dK kvs)):=fun b u e=>by
 by_cases z:b=d
 ·subst z;rw[hd] at e;cases e;exact a1_
 ·rw[a4_ z];exact f.sm b u z e
theorem Fz.goods{K:F__}{CG CW g p:Addr}{hs:List (Str × Int)}{ts:List (Str × Str)}{qs:List Pc}{fp:List Addr}(f:Fz d o kvs H H')(hd:H d=some (.dK kvs))(G:bc' K CG CW H g p hs ts qs fp)(nd:d∉fp):bc' K CG CW H' g p hs ts qs fp:=
 G.keep (fun b hb u e=>f.sm b u (fun z=>nd (z▸hb)) e) fun b xs e=>f.sm b _ (aN_ e hd nofun) e
end
def mKV(ns:List Str)(g:Str->V):List (Key × V):=ns.map fun n=>(Sum.inr n,g n)
theorem bY_(ns:List Str)(g:Str->V):(mKV ns g).map (·.1)=ns.map Sum.inr:=by
 unfold mKV;rw[al'];rfl
theorem aB_(ns:List Str)(g:Str->V):(mKV ns g).length=ns.length:=aa' _
theorem de_{ns:List Str}{g:Str->V}{n:Str}(h:n∈ns):valV (mKV ns g) (Sum.inr n)=some (g n):=by
 induction ns with
 |nil=>cases h
 |cons m ns ih=>
  by_cases e:m=n
  ·subst e;exact bk_ rfl
  ·have:valV (mKV (m::ns) g) (Sum.inr n)=valV (mKV ns g) (Sum.inr n):=bl_ fun z=>e (Sum.inr.inj z);rw[this];rcases ai'.mp h with z|z
   ·exact absurd z.symm e
   ·exact ih z
theorem bu_{ns:List Str}{g k:Str->V}(h:∀n∈ns,g n=k n):mKV ns g=mKV ns k:=aE' fun n hn=>by rw[h n hn]
theorem gQ_{ns:List Str}{g:Str->V}{n:Str}{v:V}(h:n∈ns):putK (mKV ns g) (Sum.inr n) v=mKV ns fun m=>if m=n then v else g m:=by
 unfold putK;rw[if_pos]
 ·unfold mKV;rw[al'];refine aE' fun m _=>?_;by_cases e:m=n
  ·subst e;simp
  ·have:¬((Sum.inr m:Key)=Sum.inr n):=fun z=>e (Sum.inr.inj z);simp[e]
 ·refine List.any_eq_true.mpr ⟨(Sum.inr n,g n),ac'.mpr ⟨n,h,rfl⟩,by simp⟩
theorem du_{ns:List Str}{g:Str->V}{n:Str}{v:V}(h:n∉ns):putK (mKV ns g) (Sum.inr n) v=mKV (ns++[n]) fun m=>if m=n then v else g m:=by
 rw[bA_ _ (aK_ (by
  rw[bY_];intro m;obtain⟨x,hx,e⟩:=ac'.mp m;exact h (Sum.inr.inj e▸hx)))]
 unfold mKV;rw[am'];congr 1
 ·refine aE' fun m hm=>?_;have e:¬m=n:=fun z=>h (z▸hm);simp[e]
 ·simp
theorem d3_{ns:List Str}{g:Str->V}{i:Nat}{k:Key}{x:V}(h:(mKV ns g)[i]? = some (k,x)):∃n,ns[i]? = some n/\k=Sum.inr n/\x=g n:=by
 unfold mKV at h;rw[ao'] at h;cases e:ns[i]? with
 |none=>rw[e] at h;cases h
 |some n=>
  rw[e] at h;have h:=Option.some.inj h;exact⟨n,rfl,(congrArg Prod.fst h).symm,(congrArg Prod.snd h).symm⟩
theorem bN_{ns:List Str}(nd:ns.Nodup){i:Nat}{n:Str}(h:ns[i]? = some n):n∉ns.take i:=by
 have q:=bh_ (g:=id) (ts:=ns) (by rw[List.map_id];exact nd) h;rwa [List.map_id] at q
theorem aq_{ns:List Str}{i:Nat}{n:Str}(h:ns[i]? = some n):ns.take (i+1)=ns.take i++[n]:=by
 rw[aD',h];rfl
abbrev stF(ns:List Str)(f:Str->Str):List (Key × V):=mKV ns fun n=>.str (f n)
def wOf(q:Pc):Str × Int:=(q.1,q.2.1)
def ld(f:Str->Str)(ws:List (Str × Int))(h:Str):Int:=((ws.filter fun x=>decide (f x.1=h)).map (·.2)).sum
theorem g8_(f:Str->Str)(ws:List (Str × Int))(x:Str × Int)(h:Str):ld f (ws++[x]) h=if h=f x.1 then ld f ws h+x.2 else ld f ws h:=by
 unfold ld;rw[aX'];by_cases e:f x.1=h
 ·rw[if_pos e.symm,am',List.sum_append];simp[e]
 ·rw[if_neg fun z=>e z.symm];simp[e]
theorem hX_{a b:List Int}(p:a.Perm b):a.sum=b.sum:=by
 induction p with
 |nil=>rfl
 |cons x _ ih=>simp[ih]
 |swap x y l=>simp only[List.sum_cons];omega
 |trans _ _ h1 h2=>exact h1.trans h2
theorem jn_(f:Str->Str){a b:List (Str × Int)}(p:a.Perm b)(h:Str):ld f a h=ld f b h:=hX_ ((p.filter _).map _)
theorem go_:∀{l:List Int},(∀x∈l,0<=x)->0<=l.sum
 |[],_=>by simp
 |x::l,h=>by
  rw[List.sum_cons];have:=h x af';have:=go_ (l:=l) fun y hy=>h y (ad' _ hy);omega
theorem k7_{f:Str->Str}{ws:List (Str × Int)}{h:Str}(p:∀x∈ws,0<=x.2):0<=ld f ws h:=go_ fun x hx=>by
 obtain⟨y,hy,rfl⟩:=ac'.mp hx;exact p y (aU'.mp hy).1
theorem Qs.nd{ps qs:List Pc}(Q:Qs ps qs)(nd:(ps.map (·.1)).Nodup):(qs.map (·.1)).Nodup:=by
 rw[Q.nms];exact (ah_ _).nodup_iff.mpr nd
theorem Qs.len{ps qs:List Pc}(Q:Qs ps qs):qs.length=ps.length:=by
 have:=congrArg List.length Q.nms;rw[aa',(ah_ _).length_eq,aa'] at this;exact this
theorem Qs.ws{ps qs:List Pc}(Q:Qs ps qs)(nd:(ps.map (·.1)).Nodup):(qs.map wOf).Perm (ps.map wOf):=by
 have nw:∀{l:List Pc},(l.map (·.1)).Nodup->(l.map wOf).Nodup:=fun {l} h=>by
  have e:(l.map (·.1))=(l.map wOf).map (·.1):=by rw[al'];rfl
  rw[e] at h;exact (aG'.mp h).imp fun n z=>n (by rw[z])
 refine (List.perm_ext_iff_of_nodup (nw (Q.nd nd)) (nw nd)).mpr fun a=>⟨fun h=>?_,fun h=>?_⟩
 ·obtain⟨q,hq,rfl⟩:=ac'.mp h;obtain⟨p,hp,rfl⟩:=Q.mem q hq;exact ac'.mpr ⟨p,hp,rfl⟩
 ·obtain⟨p,hp,rfl⟩:=ac'.mp h
  have m:p.1∈qs.map (·.1):=by
   rw[Q.nms];exact (ah_ _).mem_iff.mpr (ac'.mpr ⟨p,hp,rfl⟩)
  obtain⟨q,hq,e⟩:=ac'.mp m;obtain⟨p',hp',e'⟩:=Q.mem q hq;have:p'=p:=cI_ nd hp' hp (by rw[e'] at e;exact e);refine ac'.mpr ⟨q,hq,?_⟩;rw[e',this];rfl
end Ev
namespace Ev
open PySem L2
section
variable{P:Program}{w:World}{K:F__}{mg:Str->Option Value}{base:Heap}
structure StandOk (hs:List (Str × Int)) (qs:List Pc) (ns:List Str) (f:Str->Str):Prop where
 perm:ns.Perm (qs.map (·.1))
 at_:∀n∈ns,f n∈hs.map (·.1)
theorem b8':a8' ["goods","stand","piece","hand","names"] ["goods","stand"] (a7' c0'):=f__
def b9'(K:F__)(CG CW:Addr):Sp:=fun vs H Q _=>∃(g p d:Addr) (hs:List (Str × Int)) (ts:List (Str × Str)) (qs:List Pc) (fp:List Addr) (ns:List Str) (f:Str->Str),vs=[.ref g,.ref d]/\bc' K CG CW H g p hs ts qs fp/\d∉fp/\H d=some (.dK (stF ns f))/\StandOk hs qs ns f/\(qs.map (·.1)).Nodup/\qs.length<64 /\
 ∀d' H',Same H H'->H d'=none->H' d'=some (.dK (stF (qs.map (·.1)) f))->Q (.ref d') H'
theorem fG_{f CG CW:Addr}{fd:FuncData}(F:Fun K "checked_stand" "checked_stand" c0' f fd)(B:Bi mg)(T:TxtG K CG)(TW:Txt K mg CW)(cH:CalM P w K mg base CG 1 "has_piece" ["self","thing"] (cQ' K CG CW))(cW:CalM P w K mg base CW 1 "has_hand" ["self","thing"] (spHas K CW))(cN:CalM P w K mg base CG 1 "names" ["self"] (cs' K CG CW)) :
  FnOk P w K mg base CX0 2 f fd ["goods","stand"] (b9' K CG CW):=by
 refine F.ok b8' (fun vs H Q E h=>?_) (fun cdv A outer s H vs Q E hr h=>?_)
 ·obtain⟨g,p,d,hs,ts,qs,fp,ns,f,rfl,_⟩:=h;rfl
 ·obtain⟨g,p,d,hs,ts,qs,fp,ns,f,rfl,G,dfp,hd,so,nd,h64,k⟩:=h;have hu:=b0_ hr;have sz:=sizeLine_eq;refine' ⟨_,?r0,?kk⟩
  case' r0=>refine' a2_ ?s1 ?r1
  case s1=>exact ar_ (aJ_ (aF_ (af_ aM_ (by rfl) B.isi PyProof.Rows.Boot.«isinstance» (a0_ (pv 1) (a0_ (aZ_ (v:=.ty "dict") (by rfl) B.dict PyProof.Rows.Boot.«dict» rfl) a3_))))) ag_ ac_
  case' r1=>refine' a2_ ?s2 ?r2
  case' s2=>refine' cN_ (aG_ PassesOwn.never rfl ?i2 ?g2 ?b2)
  case i2=>exact dd_ (cq_ (pv 1))
  case g2=>exact bd_ rfl (ad_ (a8_ (i:=2) b8'.nd rfl (Or.inl rfl)) (ad_ (a8_ (i:=3) b8'.nd rfl (Or.inl rfl)) aT_))
  case b2=>exact a2_ (ar_ (aJ_ (aF_ (bf_ cH T.cl hr (pv 0) (a0_ (pv 2) a3_)))) ag_ ac_) (a5_ (ar_ (aJ_ (aF_ (bf_ cW TW.cl hr (ay_ (pv 0) rfl) (a0_ (pv 3) a3_)))) ag_ ac_))
  case' r2=>refine' a2_ ?s3 ?r3
  case s3=>exact a9_ (i:=4) b8'.nd rfl (Or.inl rfl) (dD_ cN T.cl hr (pv 0))
  case' r3=>refine' a2_ ?s4 (a5_ ?s5)
  case s4=>exact ar_ (ak_ ft_ (af_ fZ_ (by rfl) B.len PySem.boot_len (a0_ (pv 1) a3_)) (af_ aL_ (by rfl) B.len PySem.boot_len (a0_ (pv 4) a3_)) (nomark _)) ag_ ac_
  case s5=>exact ab_ (ao_ (aO_ rfl) (by rfl) B.dict PyProof.Rows.Boot.«dict» (a0_ (b2_ ["piece","stand"] 1 [1] (am_ (pv 4)) (fun fp s H=>a8_ (i:=0) (show (["piece","stand"]:List Str).Nodup by decide +kernel) rfl (Or.inl rfl)) (fun fp s H=>aY_) (fun fp s H=>aP_ (a0_ (pv 0) (a0_ (ai_ hu (pv 1) (pv 0) (fun _ _=>rfl)) a3_)))) a3_))
  case' kk=>skip
  have lns:ns.length=qs.length:=by rw[so.perm.length_eq,aa']
  refine⟨_,rfl,_,_,_,_,rfl,.dK hd,rfl,_,rfl,iteF ?_⟩;refine⟨d,_,hd,?_⟩;refine⟨_,rfl,d,_,rfl,hd,fun v hv=>?_⟩;have s1:=Same.new (o:=bo' v d) hv;have hv1:upd H v (bo' v d) v=some (bo' v d):=a1_;have G1:=G.same s1;have hd1:=s1 _ _ hd;generalize upd H v (bo' v d)=H1 at s1 hv1 G1 hd1 ⊢;refine⟨v,d,_,rfl,hv1,hd1,fun o=>?_⟩;refine cP_ (fun i σ H'=>∃(v2 v3:Option V),σ=[some (.ref g),some (.ref d),v2,v3,none]/\Fz d o (stF ns f) H1 H') ⟨none,none,rfl,Fz.start⟩ (fun i σ H' _ ⟨_,_,_,z⟩=>z.at_) ?_ ?_
  ·rintro i ky x σ H2 hx ⟨v2,v3,rfl,fz⟩ t ht;obtain⟨n,hn,rfl,rfl⟩:=d3_ hx;have nm:=ae' hn;have s2:=Same.new (o:=.tup [.str n,.str (f n)]) ht;have fz2:=fz.step s2;have e2:upd H2 t (.tup [.str n,.str (f n)]) t=some (.tup [.str n,.str (f n)]):=a1_;show gTup _ _ _ _ _ (upd H2 t (.tup [.str n,.str (f n)])) _;generalize upd H2 t (.tup [.str n,.str (f n)])=H3 at s2 fz2 e2 ⊢;refine⟨t,_,rfl,.of e2,rfl,_,_,rfl,_,_,rfl,rfl,?_⟩;have G3:=fz2.goods hd1 G1 dfp;obtain⟨dx,dw,dy,vs,fpw,h1,h2,h3,h4,h5,m1,m2,m3,m4,m5⟩:=id G3.ex;obtain⟨dxw,d1,l2,d3,zs0,as,ef,w1,_⟩:=id h2.ex;have hno:(gflds p dw dy).lookup ("has_piece":Str)=none:=be_ _ _ _ (by decide +kernel) (by decide +kernel) (by decide +kernel);have hnw:(flds d1 l2 d3).lookup ("has_hand":Str)=none:=b1_ _ _ _ (by decide +kernel) (by decide +kernel) (by decide +kernel);refine⟨_,rfl,g,dx,_,rfl,h1,hno,_,rfl,g,p,.str n,some n,hs,ts,qs,fp,rfl,G3,rfl,_,rfl,?_⟩;rw[show inB (qs.map (·.1)) (some n)=true from decide_eq_true (so.perm.mem_iff.mp nm)];refine iteF ?_;refine⟨_,rfl,g,CG,dx,_,_,rfl,h1,T.cl,T.nW,bc_ _ _ _,p,dxw,_,rfl,w1,hnw,_,rfl,p,f n,hs,ts,fpw,rfl,h2,_,rfl,?_⟩;rw[decide_eq_true (so.at_ n nm)];exact iteF ⟨_,_,rfl,fz2⟩
  rintro σ H2 ⟨v2,v3,rfl,fz⟩;refine⟨o,fz.at_,?_⟩;have s2:=s1.trans (fz.thaw hd1);have hd2:upd H2 d (.dK (stF ns f)) d=some (.dK (stF ns f)):=a1_;generalize upd H2 d (.dK (stF ns f))=H3 at s2 hd2 ⊢;have G3:=G.same s2;obtain⟨dx,dw,dy,vs,fpw,h1,h2,h3,h4,h5,m1,m2,m3,m4,m5⟩:=id G3.ex;refine⟨_,rfl,g,dx,_,rfl,h1,be_ _ _ _ (by decide +kernel) (by decide +kernel) (by decide +kernel),g,p,hs,ts,qs,fp,rfl,G3,fun ln hln=>?_⟩;have s3:=Same.new (o:=.lst ((qs.map (·.1)).map V.str)) hln;have e3:upd H3 ln (.lst ((qs.map (·.1)).map V.str)) ln=some (.lst ((qs.map (·.1)).map V.str)):=a1_;have hd3:=s3 _ _ hd2;generalize upd H3 ln (.lst ((qs.map (·.1)).map V.str))=H4 at s3 e3 hd3 ⊢;refine⟨_,rfl,d,_,rfl,hd3,_,rfl,ln,_,rfl,.inl (.of e3),rfl,_,rfl,?_⟩;rw[aB_,aa',aa',lns];simp only[bne_self_eq_false,decide_true,Bool.not_true];refine iteF ?_;have s04:=s2.trans s3;refine⟨_,rfl,ln,rfl,⟨_,.of e3⟩,fun D hD=>?_⟩;refine aR_ (own:=1) (fv:=[some (.ref d)]) (xs:=(qs.map (·.1)).map V.str) rfl gok1 (fun i out H'=>Same H4 H'/\H' D=some (.lst out)/\be' K H' out (stF ((qs.map (·.1)).take i) f)) ⟨Same.new hD,a1_,.nil⟩ (fun i out H' _ ⟨sm,_,_⟩=>.of (sm _ _ e3)) (fun out H5 ⟨sm,hD5,pa⟩=>?_) (fun i y out H' hy ⟨sm,hD',pa⟩=>?_)
  ·rw[aa',ar'] at pa;refine⟨D,out,_,rfl,hD5,pa,by rw[aB_,aa'];omega,fun d' hd'=>?_⟩
   have ndk:((stF (qs.map (·.1)) f).map (·.1)).Nodup:=by
    rw[bY_,aB',aG'];exact nd.imp fun n e=>n (Sum.inr.inj e)
   rw[aS_ ndk];exact k d' _ ((s04.trans sm).trans (Same.new hd')) (s04.free (sm.free hd')) a1_
  ·obtain⟨n,hn,rfl⟩:=aj_ hy;have hi:i<(qs.map (·.1)).length:=(ab'.mp hn).1;rw[aa'] at hi;have nm:n∈ns:=so.perm.mem_iff.mpr (ae' hn);refine⟨_,rfl,rfl,fun Nx hN=>yesT ?_⟩;refine⟨_,rfl,_,rfl,_,rfl,d,.str (f n),rfl,?_,by show 2<=sizeLine;decide,fun t ht=>?_⟩
   ·rw[<- de_ (g:=fun n=>V.str (f n)) nm];exact .k (k:=Sum.inr n) (sm _ _ hd3)
   have s5:=Same.new (o:=.tup [.str n,.str (f n)]) ht;have lo:=Paired.length pa;rw[aB_,ak',aa'] at lo;refine⟨out,s5 _ _ hD',by omega,hN _ _ ⟨aC_ (sm.trans s5) hD,a1_,?_⟩⟩;have ht5:upd H' t (.tup [.str n,.str (f n)]) t=some (.tup [.str n,.str (f n)]):=a1_;have pD:∀{b:Addr} {ys:List V},upd H' t (.tup [.str n,.str (f n)]) b=some (.tup ys)->b≠D:=fun hb=>aN_ hb (s5 _ _ hD') nofun;rw[aq_ hn];show be' K _ _ (((qs.map (·.1)).take i++[n]).map _);rw[am'];exact aA_ (Paired.mapP pa fun y kv ⟨b,z,hb⟩=>⟨b,z,by rw[a4_ (pD (s5 _ _ hb))];exact s5 _ _ hb⟩) (.cons ⟨t,rfl,by rw[a4_ (pD ht5)];exact ht5⟩ .nil)
end
end Ev
namespace Ev
open PySem L2
section
variable{d d2:Addr}{o:Obj}{kvs:List (Key × V)}{H H' H1:Hp}{u:HO}
theorem Fz.start'(s:Same H H1):Fz d o kvs H (upd H1 d (.frz o (.dK kvs))):=⟨a1_,fun b u ne e=>by rw[a4_ ne];exact s _ _ e⟩
theorem Fz.put(f:Fz d o kvs H H')(hn:H d2=none)(ne:d2≠d):Fz d o kvs H (upd H' d2 u):=⟨by rw[a4_ ne.symm];exact f.at_,fun b u nb e=>by rw[a4_ (a6_ e hn)];exact f.sm b u nb e⟩
end
section
variable{P:Program}{w:World}{K:F__}{mg:Str->Option Value}{base:Heap}
theorem bR':a8' ["goods","placed","hand","found","piece"] ["goods","placed"] (a7' cJ'):=f__
structure b2' (K:F__) (CG CW:Addr) (H:Hp) (g p d:Addr) (hs:List (Str × Int)) (ts:List (Str × Str)) (qs:List Pc) (fp:List Addr) (f:Str->Str):Prop where
 G:bc' K CG CW H g p hs ts qs fp
 Gd:Good hs ts
 dfp:d∉fp
 hd:H d=some (.dK (stF (qs.map (·.1)) f))
 at_:∀n∈qs.map (·.1),f n∈hs.map (·.1)
 nd:(qs.map (·.1)).Nodup
 h64:qs.length<64
abbrev ldV(hs:List (Str × Int))(qs:List Pc)(f:Str->Str):List (Key × V):=mKV (a9' hs) fun h=>.int (ld f (qs.map wOf) h)
def bN'(K:F__)(CG CW:Addr):Sp:=fun vs H Q _=>∃(g p d:Addr) (hs:List (Str × Int)) (ts:List (Str × Str)) (qs:List Pc) (fp:List Addr) (f:Str->Str),vs=[.ref g,.ref d]/\b2' K CG CW H g p d hs ts qs fp f /\
 ∀d' H',Same H H'->H d'=none->H' d'=some (.dK (ldV hs qs f))->Q (.ref d') H'
theorem fg_{f CG CW CP:Addr}{fd:FuncData}(F:Fun K "loads_at" "loads_at" cJ' f fd)(B:Bi mg)(T:TxtG K CG)(TW:Txt K mg CW)(cH:CalM P w K mg base CW 1 "hands" ["self"] (bY' K CW))(cW:CalX P w K mg base CG 2 "weight" ["self","piece"] (by' K CG CW CP)) :
  FnOk P w K mg base CX0 3 f fd ["goods","placed"] (bN' K CG CW):=by
 refine F.ok bR' (fun vs H Q E h=>?_) (fun cdv A outer s H vs Q E hr h=>?_)
 ·obtain⟨g,p,d,hs,ts,qs,fp,f,rfl,_⟩:=h;rfl
 ·obtain⟨g,p,d,hs,ts,qs,fp,f,rfl,Pl,k⟩:=h;have hu:=b0_ hr;have sz:=sizeLine_eq;have hr1:Room 1 _:=hr.mono (by decide);refine' ⟨_,?r0,?kk⟩
  case' r0=>refine' a2_ ?s1 ?r1
  case s1=>exact a9_ (i:=3) bR'.nd rfl (Or.inl rfl) (ao_ (aO_ rfl) (by rfl) B.dict PyProof.Rows.Boot.«dict» (a0_ (b2_ ["hand"] 1 [] (am_ (dD_ cH TW.cl hr1 (ay_ (pv 0) rfl))) (fun fp s H=>a8_ (i:=0) (show (["hand"]:List Str).Nodup by decide +kernel) rfl (Or.inl rfl)) (fun fp s H=>aY_) (fun fp s H=>aP_ (a0_ (pv 0) (a0_ a7_ a3_)))) a3_))
  case' r1=>refine' a2_ ?s2 ?r2
  case' s2=>refine' cN_ (aG_ PassesOwn.never rfl ?i2 ?g2 (a5_ ?b2))
  case i2=>exact dd_ (cq_ (pv 1))
  case g2=>exact bd_ rfl (ad_ (a8_ (i:=4) bR'.nd rfl (Or.inl rfl)) (ad_ (a8_ (i:=2) bR'.nd rfl (Or.inl rfl)) aT_))
  case b2=>exact ba_ hu (pv 3) (pv 2) (al_ b3_ (ai_ hu (pv 3) (pv 2) (fun _ _=>rfl)) (i2_ cW T.cl hr (pv 0) (a0_ (pv 4) a3_))) rfl
  case r2=>exact a5_ (ab_ (pv 3))
  case' kk=>skip
  have nl:=Pl.Gd.nlen;have h8:=Pl.Gd.h8;obtain⟨dx,dw,dy,vs,fpw,h1,h2,h3,h4,h5,m1,m2,m3,m4,m5⟩:=id Pl.G.ex;obtain⟨dxw,d1,l2,d3,zs0,as,ef,w1,_⟩:=id h2.ex;have hnw:(flds d1 l2 d3).lookup ("hands":Str)=none:=b1_ _ _ _ (by decide +kernel) (by decide +kernel) (by decide +kernel);refine⟨_,rfl,g,CG,dx,_,_,rfl,h1,T.cl,T.nW,bc_ _ _ _,p,dxw,_,rfl,w1,hnw,p,hs,ts,fpw,rfl,h2,fun lh hlh=>?_⟩;have s1:=Same.new (o:=.lst ((a9' hs).map V.str)) hlh;have e1:upd H lh (.lst ((a9' hs).map V.str)) lh=some (.lst ((a9' hs).map V.str)):=a1_;generalize upd H lh (.lst ((a9' hs).map V.str))=H1 at s1 e1 ⊢;refine⟨lh,rfl,⟨_,.of e1⟩,fun D hD=>?_⟩;refine aR_ (own:=1) (fv:=[]) (xs:=(a9' hs).map V.str) rfl gok1 (fun i out H'=>Same H1 H'/\H' D=some (.lst out)/\be' K H' out (mKV ((a9' hs).take i) fun _=>.int 0)) ⟨Same.new hD,a1_,.nil⟩ (fun i out H' _ ⟨sm,_,_⟩=>.of (sm _ _ e1)) (fun out H5 ⟨sm,hD5,pa⟩=>?_) (fun i y out H' hy ⟨sm,hD',pa⟩=>?_);rotate_left 1
  ·obtain⟨n,hn,rfl⟩:=aj_ hy;have hi:i<(a9' hs).length:=(ab'.mp hn).1;refine⟨_,rfl,rfl,fun Nx hN=>yesT ?_⟩;refine⟨_,rfl,by show 2<=sizeLine;decide,fun t ht=>?_⟩;have s5:=Same.new (o:=.tup [.str n,.int 0]) ht;have lo:=Paired.length pa;rw[aB_,ak'] at lo;refine⟨out,s5 _ _ hD',by omega,hN _ _ ⟨aC_ (sm.trans s5) hD,a1_,?_⟩⟩;have ht5:upd H' t (.tup [.str n,.int 0]) t=some (.tup [.str n,.int 0]):=a1_;have pD:∀{b:Addr} {ys:List V},upd H' t (.tup [.str n,.int 0]) b=some (.tup ys)->b≠D:=fun hb=>aN_ hb (s5 _ _ hD') nofun;rw[aq_ hn];show be' K _ _ (((a9' hs).take i++[n]).map _);rw[am'];exact aA_ (Paired.mapP pa fun y kv ⟨b,z,hb⟩=>⟨b,z,by rw[a4_ (pD (s5 _ _ hb))];exact s5 _ _ hb⟩) (.cons ⟨t,rfl,by rw[a4_ (pD ht5)];exact ht5⟩ .nil)
  rw[aa',ar'] at pa;refine⟨D,out,_,rfl,hD5,pa,by rw[aB_];omega,fun d2 hd2=>?_⟩
  have ndk:((mKV (a9' hs) fun _=>V.int 0).map (·.1)).Nodup:=by
   rw[bY_,aB',aG'];exact Pl.Gd.nnd.imp fun n e=>n (Sum.inr.inj e)
  rw[aS_ ndk];have s2:=(s1.trans sm).trans (Same.new (o:=.dK (mKV (a9' hs) fun _=>V.int 0)) hd2);have e2:upd H5 d2 (.dK (mKV (a9' hs) fun _=>V.int 0)) d2=some (.dK (mKV (a9' hs) fun _=>V.int 0)):=a1_;have n2:H d2=none:=s1.free (sm.free hd2);show tSeq _ _ _ _ (upd H5 d2 (.dK (mKV (a9' hs) fun _=>V.int 0)));generalize upd H5 d2 (.dK (mKV (a9' hs) fun _=>V.int 0))=H6 at s2 e2 ⊢;have d2d:d2≠d:=(a6_ Pl.hd n2).symm;refine⟨d,_,s2 _ _ Pl.hd,?_⟩;refine⟨_,rfl,d,_,rfl,s2 _ _ Pl.hd,fun v hv=>?_⟩;have s3:=Same.new (o:=bo' v d) hv;have hv1:upd H6 v (bo' v d) v=some (bo' v d):=a1_;have e3:=s3 _ _ e2;have s03:=s2.trans s3;generalize upd H6 v (bo' v d)=H7 at s3 hv1 e3 s03 ⊢;refine⟨v,d,_,rfl,hv1,s03 _ _ Pl.hd,fun o=>?_⟩;refine cP_ (fun i σ H'=>∃(v2 v4:Option V),σ=[some (.ref g),some (.ref d),v2,some (.ref d2),v4]/\Fz d o (stF (qs.map (·.1)) f) H H'/\H' d2=some (.dK (mKV (a9' hs) fun h=>.int (ld f ((qs.take i).map wOf) h)))) ⟨none,none,rfl,Fz.start' s03,by rw[a4_ d2d];exact e3⟩ (fun i σ H' _ ⟨_,_,_,z,_⟩=>z.at_) ?_ ?_
  ·rintro i ky x σ H8 hx ⟨v2,v4,rfl,fz,e8⟩ t ht;obtain⟨n,hn,rfl,rfl⟩:=d3_ hx
   have hi:i<qs.length:=by
    have:=(ab'.mp hn).1;rwa [aa'] at this
   have hq:qs[i]? = some (qs[i]'hi):=ah' hi
   have en:n=(qs[i]'hi).1:=by
    rw[ao',hq] at hn;exact (Option.some.inj hn).symm
   have fm:f n∈a9' hs:=(au_ hs).mem_iff.mpr (Pl.at_ n (ae' hn));generalize qs[i]'hi=q at hq en;have s8:=Same.new (o:=.tup [.str n,.str (f n)]) ht;have fz2:=fz.step s8;have e9:=s8 _ _ e8;have et:upd H8 t (.tup [.str n,.str (f n)]) t=some (.tup [.str n,.str (f n)]):=a1_;show gTup _ _ _ _ _ (upd H8 t (.tup [.str n,.str (f n)])) _;generalize upd H8 t (.tup [.str n,.str (f n)])=H9 at s8 fz2 e9 et ⊢;refine⟨t,_,rfl,.of et,rfl,_,_,rfl,_,_,rfl,rfl,?_⟩;have G9:=fz2.goods Pl.hd Pl.G Pl.dfp;obtain⟨dx,dw,dy,vs,fpw,h1,h2,h3,h4,h5,m1,m2,m3,m4,m5⟩:=id G9.ex;have hno:(gflds p dw dy).lookup ("weight":Str)=none:=be_ _ _ _ (by decide +kernel) (by decide +kernel) (by decide +kernel);refine⟨_,rfl,_,rfl,d2,.int (ld f ((qs.take i).map wOf) (f n)),rfl,?_,_,rfl,g,dx,_,rfl,h1,hno,_,rfl,g,p,.str n,some n,hs,ts,qs,fp,rfl,G9,Pl.nd,rfl,.inl ⟨q,ae' hq,congrArg some en,?_⟩⟩
   ·rw[<- de_ (g:=fun h=>V.int (ld f ((qs.take i).map wOf) h)) fm];exact .k (k:=Sum.inr (f n)) e9
   refine⟨_,_,rfl,rfl,_,rfl,_,rfl,d2,_,rfl,.k (k:=Sum.inr (f n)) e9 (by rw[aB_];omega),?_⟩;refine⟨_,_,rfl,fz2.put n2 d2d,?_⟩;rw[a1_,gQ_ fm];congr 2;refine bu_ fun m _=>?_
   have e5:(qs.take (i+1)).map wOf=(qs.take i).map wOf++[wOf q]:=by
    rw[aD',hq,am'];rfl
   rw[e5,g8_];show (if m=f n then V.int (ld f ((qs.take i).map wOf) (f n)+q.2.1) else V.int (ld f ((qs.take i).map wOf) m))=V.int (if m=f q.1 then _ else _);rw[<- en];by_cases z:m=f n
   ·rw[if_pos z,if_pos z,z];rfl
   ·rw[if_neg z,if_neg z]
  rintro σ H8 ⟨v2,v4,rfl,fz,e8⟩;refine⟨o,fz.at_,?_⟩;rw[aB_,aa',ar'] at e8;exact⟨_,rfl,k d2 _ (fz.thaw Pl.hd) n2 (by rw[a4_ d2d];exact e8)⟩
end
end Ev
namespace L2
open PySem PySem.Spec PyProof.Rows PySem.W
section
variable{X:Cx}
def rDictD:List V->Hp->VK->Prop:=fun xs H Q=>∃a kvs,xs=[.ref a]/\Rd H a (.dK kvs)/\∀p,H p=none->Q (.ref p) (upd H p (.dK kvs))
theorem ff_:bD' X (.type "dict") rDictD:=by
 intro pins s σ H xs us Q I r h;obtain⟨a,kvs,rfl,hd,q⟩:=h;obtain⟨u,rfl,ru⟩:=vals1 r;cases ru;exact hS_ I hd fun p s' hp I'=>⟨.ref p,_,I',rfl,q p hp⟩
def rNeNil(K:F__):V->V->Hp->VK->Prop:=fun x y H Q=>∃a b xs,x=.ref a/\y=.ref b/\SqL K H a xs/\SqL K H b []/\Q (.bl (!xs.isEmpty)) H
theorem ez_(hu:X.A.units+0+1<cLine):OpR X (compareOp .NotEq) (rNeNil X.K):=by
 intro pins s σ H x y v u Q I rx ry h;obtain⟨a,b,xs,rfl,rfl,t,t',hq⟩:=h;cases xs with
 |nil=>exact eA_ cmpS hu pins s σ H (.ref a) (.ref b) v u Q I rx ry ⟨[],[],⟨a,[],rfl,t,.nil⟩,⟨b,[],rfl,t',.nil⟩,hq⟩
 |cons z zs=>
  cases rx;cases ry;obtain⟨us,r,pl,_⟩:=I.list t;obtain⟨vs,r',pl',_⟩:=I.list t';have l1:=r.length;have l2:=r'.length;exact EvN.ne_sizesAt pl.isList pl'.isList (by simp only[aj',bne_iff_ne];simp at l1 l2;omega) (by omega) ⟨.bl true,H,I,rfl,hq⟩
end
end L2
namespace Ev
open PySem L2
def lcmI(a n:Int):Int:=a / (Int.gcd a n:Int) * n
theorem js_{a n:Int}(ha:0<a)(hn:0<n):lcmI a n=(Int.lcm a n:Int):=by
 obtain⟨p,rfl⟩:=aF' (a6' ha);obtain⟨q,rfl⟩:=aF' (a6' hn);show ((p:Int) / ((Nat.gcd p q:Nat):Int)) * (q:Int)=((Nat.lcm p q:Nat):Int);rw[<- Int.natCast_ediv,<- Int.natCast_mul,Nat.div_mul_right_comm (Nat.gcd_dvd_left p q)];rfl
def lcmL(ns:List Int):Int:=ns.foldl lcmI 1
theorem ds_:∀(ns:List Int) (a:Int),0<a->(∀n∈ns,0<n)->0<ns.foldl lcmI a/\∀x:Int,0<=x->(ns.foldl lcmI a ∣ x ↔ a ∣ x/\∀n∈ns,n ∣ x)
 |[],a,ha,_=>⟨ha,fun x _=>by simp⟩
 |n::ns,a,ha,h=>by
  have hn:=h n af';have e:=js_ ha hn
  have p:0<lcmI a n:=by
   rw[e];have:=Nat.lcm_pos (m:=a.natAbs) (n:=n.natAbs) (by omega) (by omega);have:0<Int.lcm a n:=this;omega
  obtain⟨h1,h2⟩:=ds_ ns (lcmI a n) p fun m hm=>h m (ad' _ hm);refine⟨h1,fun x hx=>(h2 x hx).trans ?_⟩;obtain⟨z,rfl⟩:=aF' hx;rw[e,Int.natCast_dvd_natCast,Int.lcm_dvd_iff];constructor
  ·rintro⟨⟨q1,q2⟩,q3⟩
   exact⟨q1,fun m hm=>by
    rcases ai'.mp hm with rfl|hm
    ·exact q2
    ·exact q3 m hm⟩
  ·rintro⟨q1,q2⟩;exact⟨⟨q1,q2 n af'⟩,fun m hm=>q2 m (ad' _ hm)⟩
theorem dl_{ns:List Int}(h:∀n∈ns,0<n):0<lcmL ns:=(ds_ ns 1 (by decide) h).1
theorem hY_{ns:List Int}(h:∀n∈ns,0<n){n:Int}(hn:n∈ns):n ∣ lcmL ns:=
 (((ds_ ns 1 (by decide) h).2 _ (a6' (dl_ h))).mp (Int.dvd_refl _)).2 n hn
theorem iY_(f:Str->Str)(x:Str × Int)(ws:List (Str × Int))(h:Str):ld f (x::ws) h=(if f x.1=h then x.2 else 0)+ld f ws h:=by
 unfold ld;by_cases e:f x.1=h
 ·simp[e]
 ·simp[e]
end Ev
namespace Ev
open PySem L2
theorem k0_{f:Str->Str}{h:Str}:∀{ws:List (Str × Int)},(∀x∈ws,0<=x.2/\x.2<=1000000000)->ld f ws h<=1000000000 * ws.length
 |[],_=>by
  unfold ld;simp
 |x::ws,p=>by
  have h1:=p x af';have h2:=k0_ (f:=f) (h:=h) (ws:=ws) fun y hy=>p y (ad' _ hy);rw[iY_,az'];by_cases z:f x.1=h
  ·rw[if_pos z];omega
  ·rw[if_neg z];omega
def dA'(hs:List (Str × Int)):Int:=lcmL ((a9' hs).map (strOf hs))
theorem str_ok{hs:List (Str × Int)}{ts:List (Str × Str)}(G:Good hs ts){n:Str}(h:n∈a9' hs):1<=strOf hs n/\strOf hs n<=1000:=(G.hok _ (b5_ ((au_ hs).mem_iff.mp h))).2
section
variable{P:Program}{w:World}{K:F__}{mg:Str->Option Value}{base:Heap}
theorem scLM:a8' ["numbers","found","number"] ["numbers"] (a7' sLM):=f__
def spLM(K:F__):Sp:=fun vs H Q _=>∃(l:Addr) (ns:List Int),vs=[.ref l]/\SqL K H l (ns.map V.int)/\(∀n∈ns,1<=n/\n<=1000)/\Q (.int (lcmL ns)) H
theorem hW_{ns:List Int}{i:Nat}{n:Int}(h:ns[i]? = some n):lcmL (ns.take (i+1))=lcmI (lcmL (ns.take i)) n:=by
 unfold lcmL;rw[aD',h,List.foldl_append];rfl
theorem ec_{ns:List Int}{i:Nat}{y:V}(h:(ns.map V.int)[i]? = some y):∃n,ns[i]? = some n/\y=.int n:=by
 rw[ao'] at h;cases e:ns[i]? with
 |none=>rw[e] at h;cases h
 |some n=>rw[e] at h;exact⟨n,rfl,(Option.some.inj h).symm⟩
theorem kv_{f:Addr}{fd:FuncData}(F:Fun K "least_multiple" "least_multiple" sLM f fd)(cG:Cal P w K mg base 1 "greatest_divisor" ["one","other"] spGd):FnOk P w K mg base CX0 2 f fd ["numbers"] (spLM K):=by
 refine F.ok scLM (fun vs H Q E h=>?_) (fun cdv A outer s H vs Q E hr h=>?_)
 ·obtain⟨l,ns,rfl,_⟩:=h;rfl
 ·obtain⟨l,ns,rfl,hl,b,k⟩:=h;refine' ⟨_,a2_ ?s1 (a2_ ?s2 (a5_ ?s3)),?kk⟩
  case s1=>exact a9_ (i:=1) scLM.nd rfl (Or.inl rfl) a7_
  case s2=>exact aG_ PassesOwn.never rfl (am_ (pv 0)) (a8_ (i:=2) scLM.nd rfl (Or.inl rfl)) (a5_ (a9_ (i:=1) scLM.nd rfl (Or.inl rfl) (al_ b8_ (al_ bt_ (pv 1) (ae_ cG hr (a0_ (pv 1) (a0_ (pv 2) a3_)))) (pv 2))))
  case s3=>exact ab_ (pv 1)
  case' kk=>skip
  refine⟨_,rfl,l,rfl,⟨_,hl⟩,as_ (K:=K) (a:=l) (xs:=ns.map V.int) (fun i σ H'=>H'=H/\∃(v2:Option V),σ=[some (.ref l),some (.int (lcmL (ns.take i))),v2]) ⟨rfl,none,rfl⟩ (fun i σ H' _ ⟨e,_⟩=>by rw[e];exact hl) ?_ ?_⟩
  ·rintro i y σ H' hy ⟨rfl,v2,rfl⟩;obtain⟨n,hn,rfl⟩:=ec_ hy;have bn:=b n (ae' hn)
   have p:=dl_ (ns:=ns.take i) fun m hm=>by
    have:=b m (List.take_subset _ _ hm);omega
   refine⟨_,rfl,_,rfl,_,rfl,_,_,rfl,a6' p,by omega,_,_,rfl,rfl,ku_ (by omega) (Int.le_trans bn.2 (by decide)),_,rfl,_,_,rfl,rfl,.inr ⟨by omega,by omega⟩,rfl,some (.int n),?_⟩;rw[hW_ hn];rfl
  ·rintro σ H' ⟨rfl,v2,rfl⟩;refine⟨_,rfl,?_⟩;rw[aa',ar'];exact k
theorem scMult:a8' ["web"] ["web"] (a7' sMult):=f__
def spMult(K:F__)(C:Addr):Sp:=fun vs H Q _=>∃(p:Addr) (hs:List (Str × Int)) (ts:List (Str × Str)) (fp:List Addr),vs=[.ref p]/\bq' K C H p hs ts fp/\Good hs ts/\∀H',Same H H'->Q (.int (dA' hs)) H'
theorem jo_{f CW:Addr}{fd:FuncData}(F:Fun K "multiple_of_strengths" "multiple_of_strengths" sMult f fd)(TW:Txt K mg CW)(cL:Cal P w K mg base 2 "least_multiple" ["numbers"] (spLM K))(cH:CalM P w K mg base CW 1 "hands" ["self"] (bY' K CW))(cS:CalM P w K mg base CW 2 "strength" ["self","hand"] (br' K CW)):FnOk P w K mg base CX0 3 f fd ["web"] (spMult K CW):=by
 refine F.ok scMult (fun vs H Q E h=>?_) (fun cdv A outer s H vs Q E hr h=>?_)
 ·obtain⟨p,hs,ts,fp,rfl,_⟩:=h;rfl
 ·obtain⟨p,hs,ts,fp,rfl,W,G,k⟩:=h;have sz:=sizeLine_eq;have nl:=G.nlen;have h8:=G.h8;refine' ⟨_,a5_ (ab_ (ae_ cL hr (a0_ (b2_ ["hand","web"] 1 [0] (am_ (dD_ cH TW.cl (hr.mono (by decide)) (pv 0))) (fun fp s H=>a8_ (i:=0) (show (["hand","web"]:List Str).Nodup by decide +kernel) rfl (Or.inl rfl)) (fun fp s H=>aY_) (fun fp s H=>?e1)) a3_))),?kk⟩
  case e1=>exact bf_ cS TW.cl hr (pv 1) (a0_ (pv 0) a3_)
  case' kk=>skip
  obtain⟨dxw,d1,l2,d3,zs0,as,ef,w1,_⟩:=id W.ex;refine⟨_,rfl,p,dxw,_,rfl,w1,b1_ _ _ _ (by decide +kernel) (by decide +kernel) (by decide +kernel),p,hs,ts,fp,rfl,W,fun lh hlh=>?_⟩;have s1:=Same.new (o:=.lst ((a9' hs).map V.str)) hlh;have e1:upd H lh (.lst ((a9' hs).map V.str)) lh=some (.lst ((a9' hs).map V.str)):=a1_;generalize upd H lh (.lst ((a9' hs).map V.str))=H1 at s1 e1 ⊢;refine⟨lh,rfl,⟨_,.of e1⟩,fun D hD=>?_⟩;refine aR_ (own:=1) (fv:=[some (.ref p)]) (xs:=(a9' hs).map V.str) rfl gok1 (fun i out H'=>Same H1 H'/\H' D=some (.lst out)/\out=(((a9' hs).take i).map (strOf hs)).map V.int) ⟨Same.new hD,a1_,rfl⟩ (fun i out H' _ ⟨sm,_,_⟩=>.of (sm _ _ e1)) (fun out H5 ⟨sm,hD5,eo⟩=>?_) (fun i y out H' hy ⟨sm,hD',eo⟩=>?_)
  ·rw[aa',ar'] at eo;rw[eo] at hD5;refine⟨D,_,rfl,.of hD5,fun n hn=>?_,k H5 (s1.trans sm)⟩;obtain⟨m,hm,rfl⟩:=ac'.mp hn;exact str_ok G hm
  ·obtain⟨n,hn,rfl⟩:=aj_ hy;have hi:i<(a9' hs).length:=(ab'.mp hn).1;refine⟨_,rfl,rfl,fun Nx hN=>yesT ?_⟩;have W':=(W.same s1).same sm;obtain⟨dxw,d1,l2,d3,zs0,as,ef,w1,_⟩:=id W'.ex;refine⟨_,rfl,p,dxw,_,rfl,w1,b1_ _ _ _ (by decide +kernel) (by decide +kernel) (by decide +kernel),_,rfl,p,n,strOf hs n,hs,ts,fp,rfl,W',G.hnd,b5_ ((au_ hs).mem_iff.mp (ae' hn)),?_⟩;refine⟨out,hD',by rw[eo,aa',aa',ak'];omega,hN _ _ ⟨aC_ sm hD,a1_,?_⟩⟩;rw[aq_ hn,am',am',eo];rfl
theorem bU':a8' ["goods","placed","multiple","found","hand","load"] ["goods","placed"] (a7' c4'):=f__
def lvF(hs:List (Str × Int))(qs:List Pc)(f:Str->Str)(h:Str):Int:=ld f (qs.map wOf) h * (dA' hs / strOf hs h)
def cz'(K:F__)(CG CW:Addr):Sp:=fun vs H Q _=>∃(g p d:Addr) (hs:List (Str × Int)) (ts:List (Str × Str)) (qs:List Pc) (fp:List Addr) (f:Str->Str),vs=[.ref g,.ref d]/\b2' K CG CW H g p d hs ts qs fp f/\(∀q∈qs,0<=q.2.1/\q.2.1<=1000000000) /\
 ∀d' H',Same H H'->H d'=none->H' d'=some (.dK (mKV (a9' hs) fun h=>.int (lvF hs qs f h)))->Q (.ref d') H'
theorem he_{qs:List Pc}(wp:∀q∈qs,0<=q.2.1/\q.2.1<=1000000000)(h64:qs.length<64)(f:Str->Str)(h:Str):0<=ld f (qs.map wOf) h/\ld f (qs.map wOf) h<=64000000000:=by
 have p:∀x∈qs.map wOf,0<=x.2/\x.2<=1000000000:=fun x hx=>by
  obtain⟨q,hq,rfl⟩:=ac'.mp hx;exact wp q hq
 have h1:=k0_ (f:=f) (h:=h) p;rw[aa'] at h1;exact⟨k7_ fun x hx=>(p x hx).1,by omega⟩
theorem g4_{f CG CW:Addr}{fd:FuncData}(F:Fun K "levels_at" "levels_at" c4' f fd)(T:TxtG K CG)(TW:Txt K mg CW)(cL:Cal P w K mg base 3 "loads_at" ["goods","placed"] (bN' K CG CW))(cM:Cal P w K mg base 3 "multiple_of_strengths" ["web"] (spMult K CW))(cS:CalM P w K mg base CW 2 "strength" ["self","hand"] (br' K CW)) :
  FnOk P w K mg base CX0 4 f fd ["goods","placed"] (cz' K CG CW):=by
 refine F.ok bU' (fun vs H Q E h=>?_) (fun cdv A outer s H vs Q E hr h=>?_)
 ·obtain⟨g,p,d,hs,ts,qs,fp,f,rfl,_⟩:=h;rfl
 ·obtain⟨g,p,d,hs,ts,qs,fp,f,rfl,Pl,wp,k⟩:=h;have hu:=b0_ hr;have sz:=sizeLine_eq;have hr2:Room 2 _:=hr.mono (by decide);refine' ⟨_,?r0,?kk⟩
  case' r0=>refine' a2_ ?s0 (a2_ ?s1 (a2_ ?s2 ?r2))
  case s0=>exact a9_ (i:=2) bU'.nd rfl (Or.inl rfl) (ae_ cM hr (a0_ (ay_ (pv 0) rfl) a3_))
  case s1=>exact a9_ (i:=3) bU'.nd rfl (Or.inl rfl) br_
  case' s2=>refine' aG_ PassesOwn.never rfl ?i2 ?g2 (a5_ ?b2)
  case i2=>exact dd_ (cq_ (ae_ cL hr (a0_ (pv 0) (a0_ (pv 1) a3_))))
  case g2=>exact bd_ rfl (ad_ (a8_ (i:=4) bU'.nd rfl (Or.inl rfl)) (ad_ (a8_ (i:=5) bU'.nd rfl (Or.inl rfl)) aT_))
  case b2=>exact ba_ hu (pv 3) (pv 4) (al_ b8_ (pv 5) (al_ bt_ (pv 2) (bf_ cS TW.cl hr2 (ay_ (pv 0) rfl) (a0_ (pv 4) a3_)))) rfl
  case r2=>exact a5_ (ab_ (pv 3))
  case' kk=>skip
  have nl:=Pl.Gd.nlen;have h8:=Pl.Gd.h8;obtain⟨dx,dw,dy,vs,fpw,h1,h2,_⟩:=id Pl.G.ex;refine⟨_,rfl,g,CG,dx,_,_,rfl,h1,T.cl,T.nW,bc_ _ _ _,p,hs,ts,fpw,rfl,h2,Pl.Gd,fun H0 s0=>?_⟩;intro d2 hd2;have s1:=s0.trans (Same.new (o:=.dK []) hd2);have e1:upd H0 d2 (.dK []) d2=some (.dK []):=a1_;have n2:H d2=none:=s0.free hd2;show tSeq _ _ _ _ (upd H0 d2 (.dK []));generalize upd H0 d2 (.dK [])=H1 at s1 e1 ⊢;have Pl1:b2' K CG CW H1 g p d hs ts qs fp f:=⟨Pl.G.same s1,Pl.Gd,Pl.dfp,s1 _ _ Pl.hd,Pl.at_,Pl.nd,Pl.h64⟩;refine⟨_,rfl,_,rfl,g,p,d,hs,ts,qs,fp,f,rfl,Pl1,fun dl H2 s2 hdl e2=>?_⟩;refine⟨dl,_,rfl,e2,fun v hv=>?_⟩;have s3:=Same.new (o:=bo' v dl) hv;have hv1:upd H2 v (bo' v dl) v=some (bo' v dl):=a1_;have e3:=s3 _ _ e2;have s13:=s2.trans s3;generalize upd H2 v (bo' v dl)=H3 at s3 hv1 e3 s13 ⊢;have ndl:H dl=none:=s1.free hdl;have d2l:d2≠dl:=a6_ e1 hdl;refine⟨v,dl,_,rfl,hv1,e3,fun o=>?_⟩;refine cP_ (fun i σ H'=>∃(v4 v5:Option V),σ=[some (.ref g),some (.ref d),some (.int (dA' hs)),some (.ref d2),v4,v5]/\Same H H'/\H' dl=some (.frz o (.dK (ldV hs qs f)))/\H' d2=some (.dK (mKV ((a9' hs).take i) fun h=>.int (lvF hs qs f h)))) ⟨none,none,rfl,aC_ (s1.trans s13) ndl,a1_,by rw[a4_ d2l];exact s13 _ _ e1⟩ (fun i σ H' _ ⟨_,_,_,_,z,_⟩=>z) ?_ ?_
  ·rintro i ky x σ H8 hx ⟨v4,v5,rfl,s8,f8,e8⟩ t ht;obtain⟨n,hn,rfl,rfl⟩:=d3_ hx;have hi:i<(a9' hs).length:=(ab'.mp hn).1;have nm:n∈hs.map (·.1):=(au_ hs).mem_iff.mp (ae' hn);have sm:=b5_ nm;have sg:=str_ok Pl.Gd (ae' hn);have lo:=he_ wp Pl.h64 f n;have ss:=Same.new (o:=.tup [.str n,.int (ld f (qs.map wOf) n)]) ht;have s9:=s8.trans ss;have e9:=ss _ _ e8;have f9:=ss _ _ f8;have et:upd H8 t (.tup [.str n,.int (ld f (qs.map wOf) n)]) t=some (.tup [.str n,.int (ld f (qs.map wOf) n)]):=a1_;show gTup _ _ _ _ _ (upd H8 t (.tup [.str n,.int (ld f (qs.map wOf) n)])) _;generalize upd H8 t (.tup [.str n,.int (ld f (qs.map wOf) n)])=H9 at ss s9 e9 f9 et ⊢;refine⟨t,_,rfl,.of et,rfl,_,_,rfl,_,_,rfl,rfl,?_⟩;have G9:=Pl.G.same s9;obtain⟨dx,dw,dy,vs,fpw,h1,h2,h3,h4,h5,m1,m2,m3,m4,m5⟩:=id G9.ex;obtain⟨dxw,d1,l2,d3,zs0,as,ef,w1,_⟩:=id h2.ex;have hnw:(flds d1 l2 d3).lookup ("strength":Str)=none:=b1_ _ _ _ (by decide +kernel) (by decide +kernel) (by decide +kernel);refine⟨_,rfl,_,rfl,_,rfl,g,CG,dx,_,_,rfl,h1,T.cl,T.nW,bc_ _ _ _,p,dxw,_,rfl,w1,hnw,_,rfl,p,n,strOf hs n,hs,ts,fpw,rfl,h2,Pl.Gd.hnd,sm,?_⟩;refine⟨_,_,rfl,rfl,⟨by omega,by omega⟩,_,_,rfl,rfl,.inl ⟨by omega,by omega⟩,_,rfl,_,rfl,d2,_,rfl,.k (k:=Sum.inr n) e9 (by rw[aB_,ak'];omega),?_⟩;refine⟨_,_,rfl,aC_ s9 n2,by rw[a4_ d2l.symm];exact f9,?_⟩;rw[a1_,aq_ hn,du_ (bN_ Pl.Gd.nnd hn)];congr 2;refine bu_ fun m _=>?_;by_cases z:m=n
   ·subst z;simp[lvF]
   ·simp[z]
  rintro σ H8 ⟨v4,v5,rfl,s8,f8,e8⟩;rw[aB_,ar'] at e8;exact⟨_,rfl,k d2 H8 s8 n2 e8⟩
end
end Ev
namespace L2
open PySem PySem.Spec PyProof.Rows
section
variable{M:Model}{A:Around}{E:Value->Shared->Prop}{s:Shared}
end
section
variable{X:Cx}{E:XK}
end
section
variable{P:Program}{w:World}{K:F__}{mg:Str->Option Value}{base:Heap}
section
variable{N:List Str}{qual:Str}{scope:Scope}{f:Addr}{cd:Value}{A:Around}{outer:List Env}{s:Shared}{H:Hp}{E:XK}
end
end
end L2
namespace L2
open PySem PySem.Spec PySem.Calls PyProof.Rows PySem.W
section
variable{M:Model}{A:Around}{E:Value->Shared->Prop}{s:Shared}{base:Heap}{env:Env}{outer:List Env}{L e:Addr}{cls a0:Value}{Q:Unit->Shared->Prop}
def TracedD(h base:Heap)(e:Addr)(cls a0:Value)(dd:Option Addr):Prop:=∃oe vs T oT ts,h.get? e=some oe/\(oe.cls=cls/\vs[0]? = some a0)/\oe.data=Data.fields vs/\vs[1]? = some (Value.ref T)/\base.get? T=none/\T≠e/\h.get? T=some oT/\oT.data=Data.fields ts/\ts[3]? = some Value.none/\oe.dict=dd
def bz'(base:Heap)(l:List Env)(e:Addr)(cls a0:Value)(dd:Option Addr)(h:Heap):Prop:=base.StaysIn h/\base.get? e=none/\h.FunFrames base l/\TracedD h base e cls a0 dd
theorem newEntryD{oe:Obj}{vs:Array Value}{head:Value}{hadNext:Bool}(hfr:A.frames=some (env::outer))(hl:s.heap.FunFrames base (env::outer))(hf:env.frame=some L)(he:s.heap.get? e=some oe)(hkb:base.StaysIn s.heap)(hen:base.get? e=none)(hd:oe.data=Data.fields vs)(hsz:1<vs.size)(h0:vs[0]? = some a0)
  (h:∀h',base.StaysIn h'->h'.FunFrames base (env::outer)->TracedD h' base e oe.cls a0 oe.dict->s.heap.UpToSlots h'->Q () { s with heap:=h' }) :
  wpAny M A (do
   let a <- PySem.frameOf env
   let pl <- entryPlaceOf L hadNext
   let b <- EntryCells.newEntry head a Value.none (rawInt L) Value.none pl
   setField (Value.ref e) 1 b) (fun _ s'=>wpAny M A (setFlight (Value.ref e) none) Q E s') E s:=by
 have hene:e∉List.filterMap (fun x=>x.frame) (env::outer):=fun hm=>by
  obtain⟨_,o,ho,hnf⟩:=Heap.FunFrames.mem hl hm;rw[he] at ho;cases ho;exact hnf vs hd
 refine wpAny_bind (wpAny_frameOf_fun hfr hl hf fun h₁ hs₁=>wpAny_bind (wpAny_entryPlaceOf fun pl hpl=>?_));unfold EntryCells.newEntry newFields;have hsz1:h₁.objs.size=s.heap.objs.size:=hs₁.1;have he₁:=(hs₁.right.left e hene).trans he;have hlt:∀b o,s.heap.get? b=some o->b≠h₁.objs.size:=fun b o q=>au' (by rw[hsz1];exact Heap.lt_size q)
 have hbn:base.get? h₁.objs.size=none:=by
  cases q:base.get? h₁.objs.size with
  |none=>rfl
  |some o=>exact absurd rfl (hlt _ o (hkb _ o q))
 have hbase:∀b o,base.get? b=some o->h₁.get? b=some o:=fun b o q=>(hs₁.right.left b (fun hm=>by
  have:=(Heap.FunFrames.mem hl hm).1;rw[q] at this;cases this)).trans (hkb b o q)
 obtain⟨tbs,htb,ht3⟩:∃tbs:Array Value,([head,Value.ref L,Value.none,rawInt ↑L,Value.none]++if pl.isEmpty=true then List.replicate 6 Value.none else pl).toArray=tbs/\3<tbs.size:=⟨_,rfl,by simp⟩
 have hts:tbs.size<=sizeLine+2:=by
  rw[<- htb];rcases hpl with rfl|⟨a,b,c,d,c9,b10,_,rfl⟩
  ·show 11<=sizeLine+2;decide
  ·show 11<=sizeLine+2;decide
 refine wpAny_bind (wpAny_newObj_type ?_ (by rw[htb];exact hts));rw[htb];have he₂:(h₁.push { cls:=Value.type "traceback",data:=Data.fields tbs }).get? e=some oe:=Heap.get?_push_of_some _ he₁;have hn₂:(h₁.push { cls:=Value.type "traceback",data:=Data.fields tbs }).get? h₁.objs.size=some { cls:=Value.type "traceback",data:=Data.fields tbs }:=Heap.get?_push_size h₁ rfl;have hTe:h₁.objs.size≠e:=(hlt e oe he).symm;refine wpAny_setField he₂ hd hsz ?_;have hd₃:=Obj.data_mapFields hd fun x=>x.setIfInBounds 1 (Value.ref h₁.objs.size);have he₃:=Heap.get?_update_self (Obj.mapFields fun x=>x.setIfInBounds 1 (Value.ref h₁.objs.size)) he₂ (Obj.isFreed_of_fields hd₃);have hn₃:=(Heap.get?_update_other (h₁.push { cls:=Value.type "traceback",data:=Data.fields tbs }) (Obj.mapFields fun x=>x.setIfInBounds 1 (Value.ref h₁.objs.size)) hTe.symm).trans hn₂;unfold setFlight;refine wpAny_bind (wpAny_field (x:=.ref h₁.objs.size) he₃ hd₃ (by simp[hsz]) ?_);rw[if_pos (by simp)];refine wpAny_setField hn₃ rfl ht3 ?_;have hd₄:=Obj.data_mapFields (o:={ cls:=Value.type "traceback",data:=Data.fields tbs }) rfl fun x=>x.setIfInBounds 3 Value.none;have hn₄:=Heap.get?_update_self (Obj.mapFields fun x=>x.setIfInBounds 3 Value.none) hn₃ (Obj.isFreed_of_fields hd₄);have he₄:=(Heap.get?_update_other ((h₁.push { cls:=Value.type "traceback",data:=Data.fields tbs }).update e (Obj.mapFields fun x=>x.setIfInBounds 1 (Value.ref h₁.objs.size))) (Obj.mapFields fun x=>x.setIfInBounds 3 Value.none) hTe).trans he₃
 have oth:∀b o,b≠e->b≠h₁.objs.size->h₁.get? b=some o->(((h₁.push { cls:=Value.type "traceback",data:=Data.fields tbs }).update e (Obj.mapFields fun x=>x.setIfInBounds 1 (Value.ref h₁.objs.size))).update h₁.objs.size (Obj.mapFields fun x=>x.setIfInBounds 3 Value.none)).get? b=some o:=fun b o n1 n2 q=>
  (Heap.get?_update_other _ _ n2.symm).trans ((Heap.get?_update_other _ _ n1.symm).trans (Heap.get?_push_of_some _ q))
 have hec:((Obj.mapFields fun x=>x.setIfInBounds 1 (Value.ref h₁.objs.size)) oe).cls=oe.cls/\((Obj.mapFields fun x=>x.setIfInBounds 1 (Value.ref h₁.objs.size)) oe).dict=oe.dict:=by
  obtain⟨c,dt,da,sl⟩:=oe;have:da=Data.fields vs:=hd;subst this;exact⟨rfl,rfl⟩
 have ups:∀b o,s.heap.get? b=some o->(∀vs,o.data≠Data.fields vs)->∃sl,(((h₁.push { cls:=Value.type "traceback",data:=Data.fields tbs }).update e (Obj.mapFields fun x=>x.setIfInBounds 1 (Value.ref h₁.objs.size))).update h₁.objs.size (Obj.mapFields fun x=>x.setIfInBounds 3 Value.none)).get? b=some { cls:=o.cls,dict:=o.dict,data:=o.data,slots:=sl }:=fun b o q nf=>by
  obtain⟨sl,q1⟩:=hs₁.right.right b o q;refine⟨sl,oth b _ (fun z=>?_) (hlt b o q) q1⟩;subst z;rw[he] at q;cases q;exact nf vs hd
 refine h _ (fun b o q=>oth b o (fun z=>?_) (fun z=>?_) (hbase b o q)) (Heap.FunFrames.of_keeps (fun b o q nf=>?_) hl) ⟨_,_,h₁.objs.size,_,_,he₄,⟨hec.1,?_⟩,hd₃,?_,hbn,hTe,hn₄,hd₄,?_,hec.2⟩ ups
 ·subst z;rw[hen] at q;cases q
 ·subst z;rw[hbn] at q;cases q
 ·obtain⟨sl,q1⟩:=ups b o q nf;exact⟨_,q1,rfl⟩
 ·rw[Array.getElem?_setIfInBounds];simpa using h0
 ·simp[hsz]
 ·simp[ht3]
theorem bz'.less{dd:Option Addr}{h:Heap}(f:bz' base (env::outer) e cls a0 dd h):bz' base outer e cls a0 dd h:=⟨f.1,f.2.1,f.2.2.1.2.2,f.2.2.2⟩
theorem dN_{dd:Option Addr}(hfr:A.frames=some (env::outer))(hf:env.frame=some L)(hfl:bz' base (env::outer) e cls a0 dd s.heap)
  (hQ:∀h',bz' base (env::outer) e cls a0 dd h'->s.heap.UpToSlots h'->Q () { s with heap:=h' }):wpAny M A (noteFrame (Value.ref e) env) (fun _ s₂=>wpAny M A (setFlight (Value.ref e) none) Q E s₂) E s:=by
 obtain⟨f1,f2,f3,oe,vs,T,oT,ts,he,⟨hc,h0⟩,hd,h1,hnT,hTe,hT,hdT,h3,hdd⟩:=hfl;unfold noteFrame;rw[hf];dsimp only;refine wpAny_bind (wpAny_field he hd h1 ?_);rw[if_pos (by simp)];refine wpAny_bind (wpAny_field hT hdT h3 ?_);rw[if_neg (by simp[rawInt])];refine wpAny_bind (wpAny_setField hT hdT (Array.getElem?_eq_some_iff.mp h3).1 ?_);have other:∀b,b≠T->(s.heap.update T (Obj.mapFields fun x=>x.setIfInBounds 3 Value.none)).get? b=s.heap.get? b:=fun b hb=>Heap.get?_update_other _ _ hb.symm
 have nrec:∀b o,s.heap.get? b=some o->(∀vs,o.data≠Data.fields vs)->b≠T:=fun b o q nf z=>by
  subst z;rw[hT] at q;cases q;exact nf ts hdT
 refine newEntryD (base:=base) (s:={ s with heap:=s.heap.update T (Obj.mapFields fun x=>x.setIfInBounds 3 Value.none) }) hfr (Heap.FunFrames.of_keeps (fun b o q nf=>⟨o,(other b (nrec b o q nf)).trans q,rfl⟩) f3) hf ((other e hTe.symm).trans he) (fun b o q=>(other b (fun z=>?_)).trans (f1 b o q)) f2 hd (Array.getElem?_eq_some_iff.mp h1).1 h0 fun h' g1 g2 g3 g4=>?_
 ·subst z;rw[hnT] at q;cases q
 ·refine hQ h' ⟨g1,f2,g2,?_⟩ fun b o q nf=>g4 b o ((other b (nrec b o q nf)).trans q) nf;rw[hc,hdd] at g3;exact g3
theorem fv_{dd:Option Addr}(hfr:A.frames=some (env::outer))(hf:env.frame=some L)(hfl:bz' base (env::outer) e cls a0 dd s.heap)
  (hQ:∀h',bz' base outer e cls a0 dd h'->s.heap.UpToSlots h'->Q () { s with heap:=h' }):wpAny M A (leaving env (Value.ref e)) Q E s:=by
 unfold leaving;exact wpAny_bind (dN_ hfr hf hfl fun h' f u=>hQ h' f.less u)
end
end L2
namespace L2
open PySem PySem.Spec PySem.Calls PyProof.Rows PySem.W
section
variable{prog:Program}{w:World}{A:Around}{E:Value->Shared->Prop}{h:Heap}{g:Array GenState}{d:Drawn}{t:Nat}{os:OsState}{nm q:Str}{C N f:Addr}{bs bm bmB:List Value}{hdct:Bool}{sn:List Str}{sub:List Value}{ab:Bool}{col:Option Bool}{dd:Option Addr}{k0 k1 k2 k3 k5:Option Value}{B newId initId:String}{K:F__}{rest:List Value}
end
end L2
namespace L2
open PySem PySem.Spec PySem.Calls PyProof.Rows PySem.W Builtin Builtin.ObjectAttr
def excMro(C CE:Addr):List Value:=[.ref C,.ref CE,.type "ValueError",.type "Exception",.type "BaseException",.type "object"]
section
variable{prog:Program}{w:World}{A:Around}{E:Value->Shared->Prop}{s:Shared}{K:F__}{x C CE:Addr}{ox:Obj}{od:Option Obj}{name:Str}{tk:Tok}{v:Value}{cd:ClassData}
end
end L2
namespace L2
open PySem PySem.Spec PySem.Calls PyProof.Rows PySem.W
section
variable{M:Model}{A:Around}{E:Value->Shared->Prop}{s:Shared}{env:Env}{nm q:Str}{C N:Addr}{bs bm:List Value}{hdct:Bool}{sn:List Str}{sub:List Value}{ab:Bool}{col:Option Bool}{dd:Option Addr}{k0 k1 k2 k3 k5:Option Value}{newId:String}
end
end L2
namespace L2
open PySem PySem.Spec PySem.Calls PyProof.Rows PySem.W
def excInO(K:F__)(C:Addr)(bmB:List Value)(newId:String):Bool:=
 match K.lookup C with
 |some ⟨.type "type",_,.cls cd,sl⟩=>
  match cd.mro,sl.toList with
  |.ref C'::bm,[_,_,_,_,some (.builtin n),_]=>C' == C&&n == newId&&!cd.hasDel&&tailIn K bmB bm&&nsOkIn K cd.ns
  |_,_=>false
 |_=>false
def clsO(K:F__)(C CE:Addr):Bool:=
 match clsIn K C with
 |some cd=>cd.mro == excMro C CE&&cd.hasDict
 |none=>false
structure ExO (K:F__) (C CE:Addr):Prop where
 kx:ExcK K C
 ex:excInO K C bmV "ValueError.__new__"=true
 es:findIn K (.ref C) "__setattr__"=some (some (.builtin "object.__setattr__"))
 cl:clsO K C CE=true
structure ExF (K:F__) (C:Addr) (f:Str):Prop where
 tk:takerIn K C f=some none
 fd:findIn K (.ref C) f=some none
structure ExB (K:F__) (CE:Addr):Prop where
 sp:specialIn K (.ref CE) "__getattribute__"=some (some (.builtin "type.__getattribute__"))
 rd:readsIn K CE (.type "type")=true
 fc:findCls K (.ref CE) (.type "type") "__init__"=some (.val (.builtin "ValueError.__init__"))
section
variable{P:Program}{w:World}{H:Hp}{h:Heap}{e C a0 d:Addr}{dd:Option Addr}{fs:List (Str × V)}
end
section
variable{X:Cx}{C CE:Addr}{x f:Str}{p apos pos pos':Pos}{o e value:Expr}{es:List Expr}{ta tv:TE}{t:TA}
end
end L2
namespace L2
open PySem PySem.Spec PySem.Calls PyProof.Rows PySem.W
def CX2(P:Program)(w:World):CXT:=fun l H s E e s'=>
 ∃a cls H' B a0 dd,e=Value.ref a/\s'.os=s.os/\AllBare s'.gens/\Un (frs l) [] H H' s.heap s'.heap/\HOk P w H' s'.heap/\bz' B l a cls a0 dd s'.heap/\InB B l H' s.heap s'.heap/\E cls dd H'
section
variable{X:Cx}{pins:List (Addr × Obj)}{σ:St}{H H':Hp}{s s1:Shared}{B h:Heap}{a:Addr}{cls a0:Value}{dd:Option Addr}{E:XK}
theorem fn_(I:Inv X pins σ H s)(hex:X.ex=[])(os:s1.os=s.os)(bare:AllBare s1.gens)(un:Un (frs X.stack) [] H H' s.heap h)(hok:HOk X.prog X.w H' h)(i:InB B X.stack H' s.heap h)(ff:h.FunFrames B X.stack)(up:h.UpToSlots s1.heap)
  (fl:bz' B X.outer a cls a0 dd s1.heap) (hE:E cls dd H'):CX2 X.prog X.w X.outer X.H₀ X.s₀ E (.ref a) s1:=by
 have un1:=eE_ un ff i fl.1 up;have hok1:=e2_ hok (f6_ I un) i fl.1;have I1:Inv X pins σ H' s1:=I.call' os un1 hok1 bare (fun b z=>absurd z (by simp));have bs:=I1.base;rw[hex] at bs;refine⟨a,cls,H',B,a0,dd,rfl,I1.os,I1.bare,bs,I1.hok,fl,fun b o e hb c=>?_,hE⟩
 have nL:b≠X.env.locals:=by
  rcases c with z|⟨o0,z⟩
  ·intro q;rw[q,I1.free] at z;cases z
  ·exact au' (aw' (Heap.lt_size z) I.ok.above)
 refine fc_ hok un i fl.1 b o e (fun hm=>?_) (c.imp id fun⟨o0,z⟩=>I.base.there b o0 z (by rw[hex];simp));rcases ai'.mp (I.stkSub b hm) with z|z
 ·exact nL z
 ·exact hb z
end
section
variable{P:Program}{w:World}{K:F__}{mg:Str->Option Value}{base:Heap}{N:List Str}{qual:Str}{scope:Scope}{f:Addr}{cd:Value}{A:Around}{outer:List Env}{s:Shared}{H:Hp}{E:XK}
end
section
variable{X:Cx}{x:Str}{C f:Addr}{fd:FuncData}{ps:List Str}{sp:Sp}{k:Nat}{np cpos pos:Pos}{e:Expr}{es:List Expr}{t:TA}{E:XK}
end
end L2
namespace L2
open PySem PySem.Spec PySem.Calls PyProof.Rows PySem.W
section
variable{X:Cx}{i:Nat}{x n:Str}{D C:Addr}{np hpos pos:Pos}{b₀:Stmt}{suite body:List Stmt}{tb:XK->TS}{ts:TS}{rest:List ExceptHandler}
end
end L2
namespace L2
open PySem PySem.Spec PySem.Calls PyProof.Rows PySem.W
section
variable{P:Program}{w:World}{K:F__}{mg:Str->Option Value}{base:Heap}{N:List Str}{qual:Str}{scope:Scope}{f:Addr}{cd:Value}{A:Around}{outer:List Env}{s:Shared}{H:Hp}{E:XK}
end
section
variable{X:Cx}{i:Nat}{x x2 n:Str}{D C D2 C2:Addr}{np hpos np2 hpos2 pos:Pos}{b₀ c₀:Stmt}{suite suite2 body:List Stmt}{tb:XK->TS}{ts ts2:TS}
end
section
variable{X:Cx}
end
end L2
namespace L2
open PySem PySem.Spec PySem.Calls PyProof.Rows PySem.W
section
variable{X:Cx}{i:Nat}{x n:Str}{D:Addr}{ok:Addr->Prop}{np hpos pos:Pos}{b₀:Stmt}{suite body:List Stmt}{tb:XK->TS}{ts:TS}
end
end L2
namespace L2
open PySem PySem.Spec PySem.Calls PyProof.Rows PySem.W
end L2
namespace L2
open PySem PySem.Spec PyProof.Rows
section
variable{X:Cx}
end
section
variable{X:Cx}{k:Nat}{ps:List Str}{x:Str}{p pos:Pos}{e:Expr}{es:List Expr}{tn:TE}{t:TA}
end
end L2
namespace L2
open PySem PySem.Spec PyProof.Rows PySem.W
structure bQ' (ps fvs:List Str) (scope:Scope):Prop where
 nd:(ps++fvs).Nodup
 kind:scope.kind=.function
 co:scope.isCoroutine=false
 gen:scope.isGenerator=false
 par:∀p∈ps,scope.names.lookup p=some .local
 fv:∀x∈fvs,scope.names.lookup x=some .free
 all:∀x,scope.names.lookup x=some .free->x∈fvs
 nocell:∀x∈scope.names,x.2≠.cell
def dy'(CX:CXT)(P:Program)(w:World)(K:F__)(mg:Str->Option Value)(base:Heap)(N:List Str)(qual:Str)(scope:Scope)(f:Addr)(cd:Value)(cl:List (Str × Addr))(A:Around)(outer:List Env)(s:Shared)(H:Hp)(E:XK):Cx where
 prog:=P
 w:=w
 K:=K
 mg:=mg
 base:=base
 A:=A.deeper (envX qual scope s.heap.objs.size f cd cl)
 N:=N
 s₀:=s
 H₀:=H
 env:=envX qual scope s.heap.objs.size f cd cl
 outer:=outer
 stack:=envX qual scope s.heap.objs.size f cd cl::outer
 ex:=[]
 calm:=true
 fn:=fun _=>false
 pn:=[]
 xe:=fun e s'=>wpAny (model P w) (A.deeper (envX qual scope s.heap.objs.size f cd cl)) (leaving (envX qual scope s.heap.objs.size f cd cl) e) (fun _ s''=>CX outer H s E e s'') (fun e' s''=>CX outer H s E e' s'') s'
theorem e1_{x:Str}{u:Value}:∀{l:List (Str × Value)},(l.map (·.1)).Nodup->(x,u)∈l->l.lookup x=some u
 |(y,v)::l,nd,h=>by
  have n:=aM'.mp nd;rcases ai'.mp h with e|h
  ·cases e;simp[List.lookup]
  ·have ne:x≠y:=fun z=>n.1 (by rw[<- z];exact ac'.mpr ⟨_,h,rfl⟩);have:(x == y)=false:=by simpa using ne
   rw[aO',this];exact e1_ n.2 h
theorem gl_:∀(ps:List Str) (us:List Value),((ps.zip us).map (·.1)).Sublist ps
 |[],_=>by simp
 |_::_,[]=>by simp
 |p::ps,u::us=>by
  simp only[List.zip_cons_cons,ap'];exact (gl_ ps us).cons₂ p
theorem cV_{ps:List Str}{us:List Value}{i:Nat}{x:Str}{u:Value}(nd:ps.Nodup)(h1:ps[i]? = some x)(h2:us[i]? = some u):(ps.zip us).reverse.lookup x=some u:=by
 refine e1_ ?_ (List.mem_reverse.mpr (ae' (i:=i) ?_))
 ·rw[List.map_reverse];refine (List.reverse_perm _).nodup_iff.mpr (nd.sublist ?_);exact gl_ ps us
 ·rw[List.getElem?_zip_eq_some];exact⟨h1,h2⟩
structure cb' (fvs:List Str) (cl:List (Str × Addr)) (gs:List V) (h:Heap):Prop where
 inj:∀x y c,cl.lookup x=some c->cl.lookup y=some c->x=y
 has:∀x∈fvs,∃c,cl.lookup x=some c
 all:∀x c,cl.lookup x=some c->∃v,h.IsCell c v
 is:∀(i:Nat) x v,fvs[i]? = some x->gs[i]? = some v->∃c u,cl.lookup x=some c/\RelV v u/\h.IsCell c (some u)
theorem IsCell.keeps{h h':Heap}{c:Addr}{v:Option Value}(x:h.IsCell c v)(k:∀o,h.get? c=some o->h'.get? c=some o):h'.IsCell c v:=let ⟨o,e,d⟩:=x;⟨o,k o e,d⟩
theorem jN_{CX:CXT}{P:Program}{w:World}{K:F__}{mg:Str->Option Value}{base:Heap}{ps fvs:List Str}{qual:Str}{scope:Scope}{f:Addr}{cd:Value}{cl:List (Str × Addr)}{A:Around}{outer:List Env}{s:Shared}{H:Hp}{E:XK}{us:List Value}{vs gs:List V}{h1:Heap}{tk:Nat}
  (S:bQ' ps fvs scope) (hd:A.handled=none) (e0:Env0 P w K mg base A outer s H) (hl:vs.length=ps.length) (hg:gs.length=fvs.length) (r:Vals vs us) (C:cb' fvs cl gs s.heap) (fc:∀x c,cl.lookup x=some c->H c=none)
  (ns:h1.Ns s.heap.objs.size fun x=>(ps.zip us).reverse.lookup x) (k:∀b o,s.heap.get? b=some o->h1.get? b=some o) :
  Inv (dy' CX P w K mg base (ps++fvs) qual scope f cd cl A outer s H E) [] (vs.map some++gs.map some) H { s with heap:=h1,toks:=tk }:=by
 have noA:∀b:Addr,b∉(dy' CX P w K mg base (ps++fvs) qual scope f cd cl A outer s H E).ex:=fun b z=>absurd (show b∈([]:List Addr) from z) (by simp)
 refine⟨⟨e0.mod,S.kind,rfl,rfl,ag' _,C.inj,fun y hy=>?_,fun y c h=>(by cases h),fun _=>hd,Around.frames_deeper e0.frames,.inr ⟨rfl,rfl⟩,fun b z=>absurd z (noA b),e0.bs,e0.bsz,fun b _ _=>noA b,fun b z=>absurd z (noA b),e0.funs,e0.frf⟩,
  rfl,e0.bare,Un.kept k,⟨_,ns,fun i y v h1' h2 h3=>?_⟩,fun y c h=>?_,e0.hok.fresh (ag' _),fc,fun p hp=>absurd (show p∈([]:List (Addr × Obj)) from hp) (by simp),e0.hok.kept k,?_⟩
 ·have hy:scope.names.lookup y=some .cell∨scope.names.lookup y=some .free:=hy;rcases hy with hy|hy
  ·exact absurd rfl (S.nocell _ (PySem.mem_of_lookup hy))
  ·exact C.has y (S.all y hy)
 ·have h1':(ps++fvs)[i]? = some y:=h1';by_cases hi:i<ps.length
  ·rw[aR' hi] at h1';rw[aR' (by simpa [hl] using hi),ao'] at h2;obtain⟨v',hv,e⟩:=aZ'.mp h2;cases e;obtain⟨u,hu,rv⟩:=r.get hv;refine⟨u,rv,.inl ⟨S.par y (ae' h1'),?_⟩⟩;have ndP:ps.Nodup:=(List.nodup_append.mp S.nd).1;show (ps.zip us).reverse.lookup y=some u;exact cV_ ndP h1' hu
  ·rw[aQ' (by omega)] at h1';rw[aQ' (by simp[hl];omega),ao',aa',hl] at h2;obtain⟨v',hv,e⟩:=aZ'.mp h2;cases e;obtain⟨c,u,e1,rv,ce⟩:=C.is _ _ _ h1' hv;exact⟨u,rv,.inr ⟨.inr (S.fv y (ae' h1')),c,e1,IsCell.keeps ce fun o e=>k _ _ e⟩⟩
 ·obtain⟨v,ce⟩:=C.all y c h;exact⟨v,IsCell.keeps ce fun o e=>k _ _ e⟩
 ·show _=(ps++fvs).length;rw[an',an',aa',aa',hl,hg]
theorem iX_{CX:CXT}{P:Program}{w:World}{K:F__}{mg:Str->Option Value}{base:Heap}{k:Nat}{ps fvs:List Str}{qual:Str}{params:Arguments}{body:PySem.Expr}{scope:Scope}{f c':Addr}{pm ctv:Value}{cl:List (Str × Addr)}{A:Around}{outer:List Env}{s:Shared}{H:Hp}{Q:VK}{E:XK}{us:List Value}{vs gs:List V}{t:TE}
  (S:bQ' ps fvs scope) (hr:Room (k+1) A) (e0:Env0 P w K mg base A outer s H) (hf:s.heap.get? f=some (kla_obj "<lambda>" qual params body scope cl pm c' ctv)) (hcd:s.heap.CodeRec (.ref c') qual)
  (hb:bindArgs (kla_fn "<lambda>" qual params body scope cl pm (.ref c') ctv) ⟨us,[]⟩=pure (ps.zip us)) (hl:vs.length=ps.length) (hg:gs.length=fvs.length) (r:Vals vs us) (C:cb' fvs cl gs s.heap) (fc:∀x c,cl.lookup x=some c->H c=none)
  (ht:Room k (A.deeper (envX qual scope s.heap.objs.size f (.ref c') cl))->PE (dy' CX P w K mg base (ps++fvs) qual scope f (.ref c') cl A outer s H E) body t) (hq:t (vs.map some++gs.map some) H Q) :
  codeAny (model P w) A (.call (.ref f) ⟨us,[]⟩) (CR CX outer P w H s Q E) s:=by
 have lim:s.heap.NoLimit:=e0.mod.nolimit.keeps fun b o e=>(e0.bs b o e).1;refine kla_callFunE hr.depth hf rfl S.co S.gen rfl hcd ?_;rw[hb];refine wpAny_pure (wpAny_newFunctionEnv S.nocell (fun x hx=>?_) (fun h1 ns sb=>?_) S.kind)
 ·exact S.par x.1 (List.of_mem_zip hx).1
 have k1:∀b o,s.heap.get? b=some o->h1.get? b=some o:=fun b o e=>sb.extBut b o (au' (Heap.lt_size e)) (Heap.get?_push_of_some _ e);refine⟨lim.keeps k1,?_⟩;show codeAny _ _ (.expr body (envX qual scope s.heap.objs.size f (.ref c') cl)) _ _;have I:=jN_ (CX:=CX) (qual:=qual) (f:=f) (cd:=.ref c') (E:=E) (tk:=s.toks+(ps.zip us).length) S hr.hd e0 hl hg r C fc ns k1;refine kla_codeExpr (wpAny_mono (ht (hr.deeper _) [] _ _ H _ I hq) (fun v s' hs=>?_) fun e s' hs=>hs);obtain⟨x,H',J,rv,q⟩:=hs;exact⟨x,H',J.os,J.bare,J.base,J.hok,rv,q⟩
end L2
namespace L2
open PySem PySem.Spec PyProof.Rows PySem.W
def lamH(f:Addr)(qual:Str)(params:Arguments)(body:PySem.Expr)(scope:Scope)(cl:List (Str × Addr))(c':Addr):HO:=.ext fun h=>∃pm ctv,h.get? f=some (kla_obj "<lambda>" qual params body scope cl pm c' ctv)
def df'(c':Addr)(qual:Str):HO:=.ext fun h=>∃o vs t,h.get? c'=some o/\o.data=.fields vs/\vs[1]? = some (.str qual t)
def tLam(P:Addr)(qual:Str)(params:Arguments)(body:PySem.Expr)(scope:Scope)(pos:Pos)(cl:List (Str × Addr)):TE:=fun _ H Q=>∃ps,H P=some (.tbl ps)/\TriplesOk ps.toList /\
 ((codeAmong pos ps.toList=none/\∀c' f,H c'=none->H f=none->c'≠f->Q (.ref f) (upd (upd (upd H P (.tbl (ps++#[rawInt pos.line,rawInt pos.col,.ref c']))) c' (df' c' qual)) f (lamH f qual params body scope cl c'))) ∨
  ∃c',codeAmong pos ps.toList=some (.ref c')/\∀f,H f=none->Q (.ref f) (upd H f (lamH f qual params body scope cl c')))
theorem ix_{X:Cx}{params:Arguments}{body:PySem.Expr}{scope:Scope}{pos:Pos}{cl:List (Str × Addr)}{c P:Addr}(hdef:defaultsOf params X.env=([],[]))(hcl:closureFor scope X.env=pure cl)(hcode:X.env.code=.ref c)(C:CodeHd X.base c P)(hbm:X.base.BuiltinsAt X.mg P) :
  PE X (.Lambda params body scope pos) (tLam P (X.env.qual++"<lambda>") params body scope pos cl):=by
 intro pins s σ H Q I h;obtain⟨ps,hP,ht,h⟩:=h;have hPh:s.heap.get? P=some (tabObj ps):=I.hok P _ hP
 have hgl:H mainGlobals=none:=by
  obtain⟨o,_,_,e,_⟩:=I.mod.glob;exact (I.bs _ _ e).2
 refine kla_eval hdef ?_;rcases h with⟨hn,q⟩|⟨c',hf,q⟩
 ·refine kla_makeFunction hcl I.ok.glob (I.mod.glob.keeps I.bk) hcode (C.keeps I.bk) hPh ht hn (fun z=>by rw[z,hP] at hgl;cases hgl) (hbm.keeps I.bk) fun c' ctv h' tk hx hge hlt hrec htb=>?_;have fz:s.heap.objs.size<=h'.objs.size:=aY' hge (Nat.le_of_lt hlt);have nc:H c'=none:=I.hok.fresh hge;have nf:H h'.objs.size=none:=I.hok.fresh fz;have cf:c'≠h'.objs.size:=au' hlt;have Pc:P≠c':=a6_ hP nc;have Pf:P≠h'.objs.size:=a6_ hP nf
  have old:∀{b u},H b=some u->b≠P->upd (upd (upd H P (.tbl (ps++#[rawInt pos.line,rawInt pos.col,.ref c']))) c' (df' c' (X.env.qual++"<lambda>"))) h'.objs.size (lamH h'.objs.size (X.env.qual++"<lambda>") params body scope cl c') b=some u:=fun {b u} e n=>by
   rw[a4_ (a6_ e nf),a4_ (a6_ e nc),a4_ n];exact e
  have notT:∀{b u},H b=some u->(∀ps,u≠.tbl ps)->b≠P:=fun {b u} e n z=>by
   rw[z,hP] at e;cases e;exact n _ rfl
  have kp:∀b o,b≠P->s.heap.get? b=some o->(h'.push (kla_obj "<lambda>" (X.env.qual++"<lambda>") params body scope cl ((X.mg "__name__").getD .none) c' ctv)).get? b=some o:=fun b o n e=>Heap.get?_push_of_some _ (hx b o n e);refine⟨.ref h'.objs.size,_,I.un (t':=tk) ⟨fun b o e n _ _=>kp b o (fun z=>by rw[z,hP] at n;cases n) e,fun b o e n _ _=>⟨o.slots,kp b o (fun z=>by rw[z,hP] at n;cases n) e⟩,fun b o e n _=>?_,fun b o e _=>?_,fun b xs e=>old e (notT e (by simp)),fun b o u e=>old e (notT e (by simp)),fun b qs e=>?_⟩ (fun b u e=>?_),rfl,q c' h'.objs.size nc nf cf⟩
  ·have lt:=Heap.lt_size e;rw[a4_ (au' (aw' lt fz)),a4_ (au' (aw' lt hge)),a4_ (fun z=>by rw[z,hP] at n;cases n)];exact n
  ·by_cases z:b=P
   ·subst z;exact⟨_,Heap.get?_push_of_some _ htb⟩
   ·exact⟨o,kp b o z e⟩
  ·by_cases z:b=P
   ·subst z;rw[hP] at e;cases e;exact⟨_,by rw[a4_ Pf,a4_ Pc,a1_]⟩
   ·exact⟨#[],by rw[Array.append_empty];exact old e z⟩
  ·by_cases z1:b=h'.objs.size
   ·subst z1;rw[a1_] at e;cases e;exact⟨⟨_,_,Heap.get?_push_size _ rfl⟩,⟨_,Heap.get?_push_size _ rfl⟩,fun h1 h2 ⟨pm,cv,e1⟩ k=>⟨pm,cv,k _ e1⟩⟩
   ·rw[a4_ z1] at e;by_cases z2:b=c'
    ·subst z2;rw[a1_] at e;cases e;obtain⟨c2,oc,vs,t,ec,hoc,hd,hv⟩:=hrec;cases ec;exact⟨⟨oc,vs,t,Heap.get?_push_of_some _ hoc,hd,hv⟩,⟨_,Heap.get?_push_of_some _ hoc⟩,fun h1 h2 ⟨o,vs,t,e1,r⟩ k=>⟨o,vs,t,k _ e1,r⟩⟩
    ·rw[a4_ z2] at e;by_cases z3:b=P
     ·subst z3;rw[a1_] at e;cases e;exact Heap.get?_push_of_some _ htb
     ·rw[a4_ z3] at e;refine (I.hok b u e).stay (fun d v hd e1=>kp d v ?_ e1) (fun d e1=>old e1 (notT e1 (by simp))) fun d xs e1=>old e1 (notT e1 (by simp));rcases hd with rfl|hd
      ·exact z3
      ·exact notT hd (by simp)
 ·refine kla_makeFunctionHit hcl I.ok.glob (I.mod.glob.keeps I.bk) hcode (C.keeps I.bk) hPh ht hf (hbm.keeps I.bk) fun ctv h' tk hk hsz=>?_;have nf:H h'.objs.size=none:=I.hok.fresh hsz;refine⟨.ref h'.objs.size,_,I.laid (t':=tk) (fun b o e=>Heap.get?_push_of_some _ (hk b o e)) hsz ?_,rfl,q _ nf⟩;exact⟨⟨_,_,Heap.get?_push_size _ rfl⟩,⟨_,Heap.get?_push_size _ rfl⟩,fun h1 h2 ⟨pm,cv,e1⟩ k=>⟨pm,cv,k _ e1⟩⟩
end L2
namespace L2
open PySem PySem.Spec PyProof.Rows PySem.W
theorem passesL{P:Program}{w:World}{K:F__}{mg:Str->Option Value}{base:Heap}{N:List Str}{qual:Str}{scope:Scope}{f:Addr}{cd:Value}{cl:List (Str × Addr)}{A:Around}{outer:List Env}{s:Shared}{H:Hp}{E:XK}:bH' (CX2 P w) (dy' (CX2 P w) P w K mg base N qual scope f cd cl A outer s H E) E:=by
 intro pins σ H1 s1 e s' I hc;obtain⟨a,cls,H',B,a0,dd,rfl,os,bare,un,hok,fl,i,hE⟩:=hc;refine fv_ (base:=B) I.ok.frames rfl fl fun h1 fl1 up=>?_;exact fn_ (s1:={ s' with heap:=h1 }) I rfl os bare un hok i fl.2.2.1 up fl1 hE
section
variable{cs:List (Addr × Obj)}{H H':Hp}{b:Addr}{o:Obj}{u:HO}
variable{P:Program}{w:World}{h:Heap}
end
section
variable{X:Cx}{pins:List (Addr × Obj)}{σ:St}{H:Hp}{s s':Shared}{cs:List (Addr × Obj)}
def LamOk(P:Program)(w:World)(K:F__)(mg:Str->Option Value)(base:Heap)(k:Nat)(qual:Str)(params:Arguments)(body:PySem.Expr)(scope:Scope)(ps fvs:List Str)(sp:List V->List V->Hp->VK->XK->Prop):Prop:=
 ∀(A:Around) (outer:List Env) (s:Shared) (H:Hp) (f c':Addr) (pm ctv:Value) (cl:List (Str × Addr)) (us:List Value) (vs gs:List V) (Q:VK) (E:XK),Room k A->Env0 P w K mg base A outer s H->s.heap.get? f=some (kla_obj "<lambda>" qual params body scope cl pm c' ctv)->s.heap.CodeRec (.ref c') qual->
  vs.length=ps.length->gs.length=fvs.length->Vals vs us->cb' fvs cl gs s.heap->(∀x c,cl.lookup x=some c->H c=none)->sp vs gs H Q E->codeAny (model P w) A (.call (.ref f) ⟨us,[]⟩) (CR (CX2 P w) outer P w H s Q E) s
theorem lamOk{P:Program}{w:World}{K:F__}{mg:Str->Option Value}{base:Heap}{k:Nat}{qual:Str}{params:Arguments}{body:PySem.Expr}{scope:Scope}{ps fvs:List Str}{sp:List V->List V->Hp->VK->XK->Prop}(S:bQ' ps fvs scope)
  (hb:∀pm c' ctv cl us,us.length=ps.length->bindArgs (kla_fn "<lambda>" qual params body scope cl pm (.ref c') ctv) ⟨us,[]⟩=pure (ps.zip us))
  (hbody:∀(A:Around) (outer:List Env) (s:Shared) (H:Hp) (f:Addr) (cd:Value) (cl:List (Str × Addr)) (vs gs:List V) (Q:VK) (E:XK),Room k (A.deeper (envX qual scope s.heap.objs.size f cd cl))->sp vs gs H Q E->bH' (CX2 P w) (dy' (CX2 P w) P w K mg base (ps++fvs) qual scope f cd cl A outer s H E) E->
   ∃t,PE (dy' (CX2 P w) P w K mg base (ps++fvs) qual scope f cd cl A outer s H E) body t/\t (vs.map some++gs.map some) H Q):LamOk P w K mg base (k+1) qual params body scope ps fvs sp:=by
 intro A outer s H f c' pm ctv cl us vs gs Q E hr e0 hf hcd hl hg r C fc hsp;obtain⟨t,ht,hq⟩:=hbody A outer s H f (.ref c') cl vs gs Q E (hr.deeper _) hsp passesL;exact iX_ S hr e0 hf hcd (hb pm c' ctv cl us (by rw[<- r.length];exact hl)) hl hg r C fc (fun _=>ht) hq
end
end L2
namespace L2
open PySem PySem.Spec PyProof.Rows PySem.W
structure CellsOf (fvs:List Str) (cl:List (Str × Addr)) (cs:List (Addr × Obj)) (gs:List V):Prop where
 len:gs.length=fvs.length
 inj:∀x y c,cl.lookup x=some c->cl.lookup y=some c->x=y
 has:∀x∈fvs,∃c,cl.lookup x=some c
 all:∀x c,cl.lookup x=some c->∃o v,cs.lookup c=some o/\o.data=.cell v
 is:∀(i:Nat) x v,fvs[i]? = some x->gs[i]? = some v->∃c o u,cl.lookup x=some c/\cs.lookup c=some o/\o.data=.cell (some u)/\RelV v u
section
variable{X:Cx}{k:Nat}{x:Str}{p pos:Pos}{tn:TE}{qual:Str}{params:Arguments}{body:PySem.Expr}{scope:Scope}{fvs ps:List Str}{sp':List V->List V->Hp->VK->XK->Prop}{E:XK}
end
section
variable{X:Cx}{k:Nat}{x:Str}{p pos:Pos}{e:PySem.Expr}{es:List PySem.Expr}{ta:TA}{fvs ps:List Str}{sp:Sp}{f:Addr}{fd:FuncData}{cl:List (Str × Addr)}{is:List Nat}
end
end L2
namespace L2
open PySem PySem.Spec PyProof.Rows PySem.W
theorem hc_{P:Program}{w:World}{K:F__}{mg mb:Str->Option Value}{CX:CXT}{k:Nat}{fa a:Addr}{ts:List Addr}{fd:FuncData}{x:Str}{sp:Sp}{s₁:Shared}{vs:List Value}{ns:List Int}
  (hT:∀T∈ts,K.lookup T=none) (eT:∀T∈ts,s₁.heap.get? T=some (tabObj #[])) (hct:∀T∈ts,isCodeTable s₁.heap T)
  (KX:K.In s₁.heap) (hns:s₁.heap.Ns mainGlobals mg) (hb:s₁.heap.Ns builtinsNs mb) (hbb:∀x:Str,x≠"__name__"->mb x=bootBuiltins x) (hlim:s₁.heap.NoLimit) (hg:s₁.gens=#[])
  (ha:s₁.heap.get? a=some { cls:=.type "list",data:=.seq vs.toArray }) (hi:IntsAre vs ns) (hl:ns.length<=sizeLine) (hr:Room k callerA)
  (hbm:∃bm ob,mg "__builtins__"=some (.ref bm)/\bm≠builtinsNs/\s₁.heap.get? bm=some ob/\ob.cls=.type "module"/\ob.dict=some builtinsNs/\ob.data=.plain)
  (F:∀base:Heap,K.In base->base.Ns mainGlobals mg->(∀T∈ts,base.BuiltinsAt mg T)->FnOk P w K mg base CX k fa fd [x] sp) (hbind:∀(s:Shared) (u:Value),BindsTo s fd ⟨[u],[]⟩ [(x,u)])
  (hsp:∀H:Hp,(∀T∈ts,H T=some (.tbl #[]))->SqL K H a (ns.map V.int)->sp [.ref a] H (fun v _=>v=.bl true) fun _ _ _=>False)
  (hCX:∀H e s',CX [] H s₁ (fun _ _ _=>False) e s'->False) :
  codeAny (model P w) callerA (.call (.ref fa) ⟨[.ref a],[]⟩) (fun r s'=>r=.ok (.ret (.bool true))/\OldK s₁.heap s'.heap/\s'.os=s₁.os/\AllBare s'.gens) s₁:=by
 have rv:=dS_ hi;have lenV:=hi.length
 have aT:∀{b},b∈ts->b≠a:=fun {b} hb z=>by
  have:=eT b hb;rw[z,ha] at this;cases this
 have core:∀H:Hp,(∀b,H b=none∨(b∈ts/\H b=some (.tbl #[]))∨(b∉ts/\∃o xs,H b=some (.frz o (.lst xs))))->(∀T∈ts,H T=some (.tbl #[]))->SqL K H a (ns.map V.int)->HOk P w H s₁.heap->(∀b,H b≠none->b=a∨b∈ts)->(H a≠none->K.lookup a=none)->
   codeAny (model P w) callerA (.call (.ref fa) ⟨[.ref a],[]⟩) (fun r s'=>r=.ok (.ret (.bool true))/\OldK s₁.heap s'.heap/\s'.os=s₁.os/\AllBare s'.gens) s₁:=by
  intro H hO hHT hS hok hA hK;have base_of:∀{b:Addr} {o:Obj},s₁.heap.get? b=some o->H b=none->(hidT s₁.heap H).get? b=some o:=fun e n=>hj_ e n
  have noA:∀{b:Addr} {o:Obj} {es:Array DictEntry} {ep:Nat},s₁.heap.get? b=some o->o.data=.dict es ep->H b=none:=fun {b o es ep} e d=>by
   cases q:H b with
   |none=>rfl
   |some u=>
    rcases hA b (by rw[q];simp) with e'|e'
    ·subst e';rw[ha] at e;cases e;have d':Data.seq vs.toArray _=Data.dict es ep:=d;cases d'
    ·rw[eT b e'] at e;cases e;cases d
  have nsK:∀{b:Addr} {m:Str->Option Value},s₁.heap.Ns b m->(hidT s₁.heap H).Ns b m:=fun {b m} ⟨o,es,ep,e,d,r⟩=>⟨o,es,ep,base_of e (noA e d),d,r⟩
  have hKb:K.In (hidT s₁.heap H):=fun b o e=>base_of (KX b o e) (by
   cases q:H b with
   |none=>rfl
   |some u=>
    rcases hA b (by rw[q];simp) with e'|e'
    ·subst e';rw[hK (by rw[q];simp)] at e;cases e
    ·rw[hT b e'] at e;cases e)
  have hB:∀T∈ts,(hidT s₁.heap H).BuiltinsAt mg T:=fun T hTs=>by
   obtain⟨bm,ob,h1,h2,h3,h4,h5,h6⟩:=hbm
   have n1:bm≠mainGlobals:=fun z=>by
    obtain⟨o,es,ep,e,d,_⟩:=hns;rw[z,e] at h3;cases h3;rw[d] at h6;cases h6
   have n2:∀{b},b∈ts->bm≠b:=fun {b} hb z=>by
    rw[z,eT b hb] at h3;cases h3;cases h6
   refine⟨bm,ob,h1,h2,n1,n2 hTs,base_of h3 ?_,h4,h5,h6⟩;cases q:H bm with
   |none=>rfl
   |some u=>
    rcases hA bm (by rw[q];simp) with e'|e'
    ·subst e';rw[ha] at h3;cases h3;cases h6
    ·exact absurd rfl (n2 e')
  have hM:Mod K mg (hidT s₁.heap H):=⟨hKb,nsK hns,⟨mb,nsK hb,hbb⟩,let ⟨mc,h1,h2⟩:=hlim;⟨mc,nsK h1,h2⟩⟩;have e0:Env0 P w K mg (hidT s₁.heap H) callerA [] s₁ H:=⟨rfl,hM,fun b o e=>jv_ e,Nat.le_of_eq (gB_ _ _),trivial,fun b hb=>absurd (show b∈([]:List Addr) from hb) (by simp),hok,.of_eq hg⟩;refine codeAny_mono ((F _ hKb (nsK hns) hB).run callerA [] s₁ H ⟨[.ref a],[]⟩ [.ref a] [.ref a] _ _ hr e0 (hbind s₁ (.ref a)) (.cons rfl .nil) (hsp H hHT hS)) fun r s' h=>?_;cases r with
  |error e=>exact (hCX H e s' h).elim
  |ok fl=>
   cases fl with
   |next=>exact False.elim h
   |brk=>exact False.elim h
   |cont=>exact False.elim h
   |ret u=>
    obtain⟨v,H',os,bare,un,hok',r',q⟩:=h;have q':v=.bl true:=q;subst q';obtain rfl:u=Value.bool true:=r'
    have main:∀b o,s₁.heap.get? b=some o->s'.heap.get? b=some o∨(b∈ts/\o=tabObj #[]/\∃more,s'.heap.get? b=some (tabObj (#[]++more))):=fun b o e=>by
     cases q:H b with
     |none=>exact .inl (un.keep b o e q (by intro z;exact absurd (show b∈([]:List Addr) from z) (by simp)) (by simp))
     |some u=>
      rcases hO b with z|⟨zT,z⟩|⟨_,ob,xs,z⟩
      ·rw[q] at z;cases z
      ·rw[eT b zT] at e;cases e;obtain⟨more,z⟩:=un.tbls b _ z;exact .inr ⟨zT,rfl,more,hok' b _ z⟩
      ·have z2:=un.frzs b ob _ z;obtain⟨e1,_⟩:=hok b _ z;obtain⟨e2,_⟩:=hok' b _ z2;rw[e] at e1;cases e1;exact .inl e2
    refine⟨rfl,⟨fun b o e=>?_,fun b o e=>?_⟩,os,bare⟩
    ·rcases main b o e with z|⟨zT,rfl,more,z⟩
     ·exact .inl z
     ·exact .inr (.inl ⟨hct b zT,rfl,_,_,rfl,z⟩)
    ·rcases main b o e with z|⟨_,_,more,z⟩
     ·exact⟨_,z⟩
     ·exact⟨_,z⟩
 cases hk:K.lookup a with
 |some o=>
  have e:=KX a o hk;rw[ha] at e;cases e;refine core (fun b=>if b∈ts then some (.tbl #[]) else none) (fun b=>?_) (fun T h=>if_pos h) (.inr ⟨_,vs.toArray,_,hk,rfl,rfl,rfl,by rw[aj',lenV];exact hl,by simpa using rv⟩) (fun b u z=>?_) (fun b z=>?_) fun z=>absurd (if_neg fun q=>aT q rfl) z
  ·by_cases hb:b∈ts
   ·exact .inr (.inl ⟨hb,if_pos hb⟩)
   ·exact .inl (if_neg hb)
  ·by_cases hb:b∈ts
   ·have z':=(if_pos hb).symm.trans z;cases z';exact eT b hb
   ·have z':=(if_neg hb).symm.trans z;cases z'
  ·by_cases hb:b∈ts
   ·exact .inr hb
   ·exact absurd (if_neg hb) z
 |none=>
  have T2:∀{b:Addr},b∈ts->(fun b=>if b∈ts then some (.tbl #[]) else if b=a then some (HO.frz { cls:=.type "list",data:=.seq vs.toArray } (.lst (ns.map V.int))) else none) b=some (.tbl #[]):=fun {b} hb=>if_pos hb;refine core (fun b=>if b∈ts then some (.tbl #[]) else if b=a then some (.frz { cls:=.type "list",data:=.seq vs.toArray } (.lst (ns.map V.int))) else none) (fun b=>?_) (fun T h=>if_pos h) (.inl (.inr ⟨{ cls:=.type "list",data:=.seq vs.toArray },(if_neg fun q=>aT q rfl).trans (if_pos rfl)⟩)) (fun b u z=>?_) (fun b z=>?_) fun _=>hk
  ·by_cases hb2:b∈ts
   ·exact .inr (.inl ⟨hb2,if_pos hb2⟩)
   ·by_cases hb:b=a
    ·exact .inr (.inr ⟨hb2,_,_,(if_neg hb2).trans (if_pos hb)⟩)
    ·exact .inl ((if_neg hb2).trans (if_neg hb))
  ·by_cases hb2:b∈ts
   ·have z':=(if_pos hb2).symm.trans z;cases z';exact eT b hb2
   ·by_cases hb:b=a
    ·have z':=((if_neg hb2).trans (if_pos hb)).symm.trans z;cases z';subst hb;exact⟨ha,by rw[aa'];exact hl,vs,_,rv,ha⟩
    ·have z':=((if_neg hb2).trans (if_neg hb)).symm.trans z;cases z'
  ·by_cases hb2:b∈ts
   ·exact .inr hb2
   ·by_cases hb:b=a
    ·exact .inl hb
    ·exact absurd ((if_neg hb2).trans (if_neg hb)) z
theorem fp_{K:F__}{T:Addr}(h:T∉K.map (·.1)):K.lookup T=none:=by
 induction K with
 |nil=>rfl
 |cons p K ih=>
  obtain⟨b,o⟩:=p;simp only[ap',ai',not_or] at h;rw[aO',show (T == b)=false by simpa using h.1];exact ih h.2
theorem walk_ofT{l:PySem.W.OpenLaw}{n k:Nat}{q:Program}{loose:List Str}{XP:(Str->Option Value)->Heap->Prop}{d:DefRec}{K:Params->F__}{as ts:List Addr}{eas:∀P:Params,as=(K P).map (·.1)}{CX:World->CXT}{sp:World->Sp}{x:Str}
  (hn:l.most=some n) (hn2:n<=sizeLine) (hdf:d.params.defaults=[]) (hr:Room k callerA)
  (hts:(ts.all fun T=>!as.contains T)=true)
  (F:∀(w:World) (mg:Str->Option Value) (fa:Addr) (h:Heap),(K w.params).In h->h.Ns mainGlobals mg->mg d.name=some (.ref fa)->
   ∃fd:FuncData,(∀(s:Shared) (u:Value),BindsTo s fd ⟨[u],[]⟩ [(x,u)])/\(∀T∈ts,isCodeTable h T) /\
    ∀base:Heap,(K w.params).In base->base.Ns mainGlobals mg->(∀T∈ts,base.BuiltinsAt mg T)->FnOk l.prog w (K w.params) mg base (CX w) k fa fd [x] (sp w))
  (hsp:∀(w:World) (H:Hp) (a:Addr) (ns:List Int),ns.length<=n->(∀T∈ts,H T=some (.tbl #[]))->SqL (K w.params) H a (ns.map V.int)->sp w [.ref a] H (fun v _=>v=.bl true) fun _ _ _=>False)
  (hCX:∀(w:World) (H:Hp) (s:Shared) (e:Value) (s':Shared),CX w [] H s (fun _ _ _=>False) e s'->False) :
  PySem.W.WalkO q loose XP (kmHook K as eas ts).says l.row.toRowW d [] (fun f vs=>PySem.call f vs):=by
 refine Att.attach_call hn hdf fun w s₀ s₁ mg mb fa o pm cd doc a vs ns G Y ho hd hcd hmg hobj hints hlen hg=>?_;have KX:(K w.params).In s₁.heap:=km_in_of Y;have eT:∀T∈ts,s₁.heap.get? T=some (tabObj #[]):=Y.2;obtain⟨fd,hb,hct,hF⟩:=F w mg fa _ KX G.T.g hmg;refine hc_ (fun T h=>fp_ ?_) eT hct KX G.T.g G.T.b G.T.builtins G.T.nolimit hg hobj hints (aY' hlen hn2) hr G.T.bmain hF hb (fun H hO hS=>hsp w H a ns hlen hO hS) fun H e s'=>hCX w H s₁ e s';have:=List.all_eq_true.mp hts T h;rw[<- eas w.params];simpa using this
end L2
namespace L2
open PySem PySem.Spec PyProof.Rows
section
variable{X:Cx}
end
open PySem.W in
def bM':List (Pos × Addr)->List Value
 |[]=>[]
 |(p,c)::es=>rawInt p.line::rawInt p.col::.ref c::bM' es
def bf'(H:Hp)(T:Addr)(qual:Str):Prop:=∃es:List (Pos × Addr),H T=some (.tbl (bM' es).toArray)/\∀e∈es,H e.2=some (df' e.2 qual)
theorem bf'.same{H H':Hp}{T:Addr}{qual:Str}(s:Same H H')(h:bf' H T qual):bf' H' T qual:=by
 obtain⟨es,a,b⟩:=h;exact⟨es,s _ _ a,fun e he=>s _ _ (b e he)⟩
theorem f5_:∀es:List (Pos × Addr),TriplesOk (bM' es)
 |[]=>trivial
 |(p,c)::es=>by
  have:=f5_ es;simp[bM',TriplesOk,rawInt,this]
theorem dU_:∀(es:List (Pos × Addr)) (p:Pos) (c:Addr),bM' (es++[(p,c)])=bM' es++[rawInt p.line,rawInt p.col,.ref c]
 |[],p,c=>rfl
 |(p',c')::es,p,c=>by
  show rawInt p'.line::rawInt p'.col::.ref c'::bM' (es++[(p,c)])=_;rw[dU_ es p c];rfl
theorem ct_(pos:Pos):∀es:List (Pos × Addr),codeAmong pos (bM' es)=none∨∃e∈es,codeAmong pos (bM' es)=some (.ref e.2)
 |[]=>.inl rfl
 |(p,c)::es=>by
  by_cases h:codeAmong pos (bM' ((p,c)::es))=some (.ref c)
  ·exact .inr ⟨(p,c),af',h⟩
  ·have e:codeAmong pos (bM' ((p,c)::es))=codeAmong pos (bM' es):=by
    show codeAmong pos (rawInt p.line::rawInt p.col::.ref c::bM' es)=_;have h:¬codeAmong pos (rawInt p.line::rawInt p.col::.ref c::bM' es)=some (.ref c):=h;simp only[codeAmong,rawInt] at h ⊢;split at h
    ·exact absurd rfl h
    ·rename_i q
     rw[if_neg q]
   rcases ct_ pos es with q|⟨x,hx,q⟩
   ·exact .inl (e.trans q)
   ·exact .inr ⟨x,ad' _ hx,e.trans q⟩
end L2
namespace L2
open PySem PySem.Spec PyProof.Rows PySem.W EvS
section
variable{X:Cx}{pins:List (Addr × Obj)}{σ:St}{H:Hp}{s:Shared}
theorem Inv.trackL{h':Heap}{t':Nat}{fp:List Addr}{T:Addr}{ys:List V}{its:List Value}{n:Nat}(I:Inv X pins σ H s)(k:∀b o,b∉fp->s.heap.get? b=some o->h'.get? b=some o)(hf:∀b∈fp,FpOk X pins H b)
  (hT:T∈fp) (hz:ys.length<=sizeLine) (r:Vals ys its) (ht:h'.get? T=some { cls:=.type "list",data:=.seq its.toArray n }):Inv X pins σ (upd H T (.lst ys)) { s with heap:=h',toks:=t' }:=by
 have fT:H T=none:=(hf T hT).1;have nf:∀b u,H b=some u->b∉fp:=fun b u e hb=>by rw[(hf b hb).1] at e;cases e
 have old:∀{b u},H b=some u->upd H T (.lst ys) b=some u:=fun e=>by rw[a4_ (a6_ e fT)];exact e
 refine I.step (g':=s.gens) (d':=s.drawn) (ch:=fp) (fun b hb=>?_) (fun b o _ _ hc e _=>k b o hc e) (fun b o _ _ hc e _=>⟨o.slots,k b o hc e⟩) (fun b o hc e n=>?_)
  (fun b o hc e=>⟨o,k b o hc e⟩) (fun b ys e=>old e) (fun b o u e=>old e) (fun b ps e=>⟨#[],by rw[Array.append_empty];exact old e⟩) (fun m hm=>?_) (fun b u e=>?_) I.bare
 ·obtain⟨f0,f1,f2,f3,f4,f5⟩:=hf b hb;exact⟨f3,f1,f4,f5⟩
 ·rw[a4_ (fun z=>hc (by rw[z];exact hT))];exact n
 ·obtain⟨o,es,ep,ho,r⟩:=hm;exact⟨o,es,ep,k _ o (fun hb=>(hf _ hb).2.1 rfl) ho,r⟩
 ·by_cases z:b=T
  ·subst z;rw[a1_] at e;cases e;exact⟨hz,its,n,r,ht⟩
  ·rw[a4_ z] at e;refine (I.hok b u e).stay (fun c v hc q=>k c v ?_ q) (fun _ q=>old q) fun _ _ q=>old q;rcases hc with z|z
   ·rw[z];exact nf b u e
   ·exact nf c _ z
theorem FpOk.at{H':Hp}{b:Addr}(f:FpOk X pins H b)(n:H' b=none):FpOk X pins H' b:=⟨n,f.2⟩
def KeyOf(X:Cx)(σ:St)(B:Around)(fv:Value)(H0:Hp)(kf:V->List Key)(xs:List V):Prop:=
 ∀(pins:List (Addr × Obj)) (H:Hp) (s:Shared) (x:V) (u:Value),Inv X pins σ H s->Same H0 H->x∈xs->RelV x u->
  wpAny (model X.prog X.w) B (call fv [u]) (EP X pins σ fun v H'=>Same H H'/\∃t,v=.ref t/\H' t=some (.tup ((kf x).map kV))) (fun _ _=>False) s
theorem jw_{B:Around}{fv:Value}{a kS:Addr}{e1:Nat}{H0:Hp}{kf:V->List Key}{all:List V}{Q:PUnit->Shared->Prop}{E:Value->Shared->Prop}{body:Value->PUnit->Sem (ForInStep PUnit)}(hne:a≠kS)(call1:KeyOf X σ B fv H0 kf all)
  (hb:∀(u:Value) (s:Shared) (Qb:ForInStep PUnit->Shared->Prop),wpAny (model X.prog X.w) B (call fv [u]) (fun k s'=>wpAny (model X.prog X.w) B (Builtin.List.listUpdate (.ref kS) (·.push k)) (fun _ s''=>Qb (.yield ⟨⟩) s'') E s') (fun _ _=>False) s->wpAny (model X.prog X.w) B (body u ⟨⟩) Qb E s) :
  ∀(xs:List V) (us:List Value) (ks:List V) (kvs:List Value) (kk:List (List Key)) (H:Hp) (s:Shared) (c:Nat),Vals xs us->(∀x∈xs,x∈all)->Inv X pins σ H s->Same H0 H->FpOk X pins H a->FpOk X pins H kS->s.heap.get? a=some (seqObj "list" #[] e1)->s.heap.get? kS=some (seqObj "list" kvs.toArray c)->
   Vals ks kvs->ba' X.K H ks kk->kvs.length+us.length<64->
   (∀H' s' kvs' c',Inv X pins σ H' s'->Same H0 H'->FpOk X pins H' a->FpOk X pins H' kS->s'.heap.get? a=some (seqObj "list" #[] e1)->s'.heap.get? kS=some (seqObj "list" kvs'.toArray c')->kvs'.length=kvs.length+us.length->(∃ks',Vals ks' kvs'/\ba' X.K H' ks' (kk++xs.map kf))->Q ⟨⟩ s')->
   wpAny (model X.prog X.w) B (forIn us PUnit.unit body) Q E s:=by
 intro xs
 induction xs with
 |nil=>
  intro us ks kvs kk H s c rv _ I sm fa fk ha hk r t _ q;cases rv;rw[List.forIn_nil];exact wpAny_pure (q H s kvs c I sm fa fk ha hk (by simp) ⟨ks,r,by simpa using t⟩)
 |cons x xs ih=>
  intro us ks kvs kk H s c rv hx I sm fa fk ha hk r t hz q
  obtain⟨u,us,rfl,ru,rr⟩:∃u us',us=u::us'/\RelV x u/\Vals xs us':=by
   cases rv with
   |cons h t=>exact⟨_,_,rfl,h,t⟩
  rw[List.forIn_cons];rw[az'] at hz;refine wpAny_bind (hb u s _ ?_)
  have hf:∀b∈[a,kS],FpOk X pins H b:=fun b hb=>by
   rcases ai'.mp hb with rfl|hb
   ·exact fa
   ·obtain rfl:b=kS:=by simpa using hb
    exact fk
  have I1:=I.pinned (fp:=[a,kS]) hf (fun b hb=>by
   rcases ai'.mp hb with rfl|hb
   ·exact⟨_,ha,fun v z=>by cases z⟩
   ·obtain rfl:b=kS:=by simpa using hb
    exact⟨_,hk,fun v z=>by cases z⟩)
  refine wpAny_mono (call1 _ H s x u I1 sm (hx x af') ru) (fun k s1 ⟨v,H1,J,rv,s01,tk,ev,etk⟩=>?_) fun _ _ z=>z
  have pa:(a,seqObj "list" #[] e1)∈bP' [a,kS] s.heap:=by
   unfold bP';exact aN'.mpr ⟨a,by simp,by rw[ha];rfl⟩
  have pk:(kS,seqObj "list" kvs.toArray c)∈bP' [a,kS] s.heap:=by
   unfold bP';exact aN'.mpr ⟨kS,by simp,by rw[hk];rfl⟩
  obtain⟨ha1,na1,_⟩:=J.pin _ (ax' _ (ax' _ pa));obtain⟨hk1,nk1,_⟩:=J.pin _ (ax' _ (ax' _ pk));have ha1:s1.heap.get? a=some (seqObj "list" #[] e1):=ha1;have hk1:s1.heap.get? kS=some (seqObj "list" kvs.toArray c):=hk1;have J0:=J.unpinned;have fa1:=fa.at (H':=H1) na1;have fk1:=fk.at (H':=H1) nk1;have l64:kvs.length<64:=by omega
  refine listUpdate_at hk1 rfl ?_ (by rw[aj',sizeLine_eq];omega) (aY' (Nat.le_of_eq (Array.size_push ..)) (by rw[aj',sizeLine_eq];omega));have oth:∀b o,b∉[kS]->s1.heap.get? b=some o->(s1.heap.update kS (Obj.mapSeq (·.push k))).get? b=some o:=fun b o hb e=>(Heap.get?_update_other _ _ (fun z=>hb (by simp[z]))).trans e;have ea:kvs.toArray.push k=(kvs++[k]).toArray:=by simp
  obtain⟨c2,hc2⟩:∃c2,(s1.heap.update kS (Obj.mapSeq (·.push k))).get? kS=some (seqObj "list" (kvs++[k]).toArray c2):=⟨_,by rw[<- ea];exact get?_update_seq hk1 (·.push k)⟩
  have I2:Inv X pins σ H1 { s1 with heap:=s1.heap.update kS (Obj.mapSeq (·.push k)) }:=J0.turnedF (t':=s1.toks) (fp:=[kS]) oth (fun b hb=>by
   obtain rfl:b=kS:=by simpa using hb
   exact fk1)
  subst ev;refine ih us (ks++[.ref tk]) (kvs++[k]) (kk++[kf x]) H1 _ c2 rr (fun y hy=>hx y (ad' _ hy)) I2 (sm.trans s01) fa1 fk1 ?_ hc2 (r.append (.cons rv .nil)) ?_ (by rw[an',aS'];omega) fun H' s' kvs' c' a1 a2 a3 a4 a5 a6 a7 a8=>?_
  ·exact oth a _ (by simpa using hne) ha1
  ·exact Paired.snoc (t.same s01) ⟨tk,rfl,etk⟩
  ·refine q H' s' kvs' c' a1 a2 a3 a4 a5 a6 (by rw[a7,an',aS',az'];omega) ?_;obtain⟨ks',b1,b2⟩:=a8;exact⟨ks',b1,by simpa using b2⟩
end
section
variable{X:Cx}{pins:List (Addr × Obj)}{σ:St}{H:Hp}{s:Shared}{B:Around}
theorem jF_{xs zs:List V}{kf:V->List Key}{p:Array Nat}(g:Good xs.length p)(up:Up (fun i j=>lexK ((xs.map kf).getD i []) ((xs.map kf).getD j [])) p xs.length)(ez:zs=p.toList.map fun i=>xs.getD i .non):zs.Perm xs/\zs.map kf=sortKs (xs.map kf):=by
 have gk:Good (xs.map kf).length p:=by rw[aa'];exact g
 have asc:=es_ (ks:=xs.map kf) (fun i j _ _=>rfl) gk (by rw[aa'];exact up)
 have perm:(p.toList.map fun i=>(xs.map kf).getD i []).Perm (xs.map kf):=by
  have:=b7_ gk fun i=>(xs.map kf).getD i [];rwa [aV_] at this
 have es:=bZ_ perm asc;refine⟨?_,?_⟩
 ·have:=b7_ (n:=xs.length) g fun i=>xs.getD i .non;rw[aV_] at this;rw[ez];exact this
 ·rw[<- es,ez,al'];refine aE' fun i hi=>?_;have m:i∈(List.range xs.length).toArray:=g.mem_iff.mp (by simpa using hi);have m:i<xs.length:=by simpa using m
  show kf (xs.getD i .non)=(xs.map kf).getD i [];simp[List.getD,m]
theorem h8_{f a:Addr}{xs:List V}{us:List Value}{n:Nat}{P:PySem.Fin->Shared->Prop}{E:Value->Shared->Prop}{kf:V->List Key}{sh:List Bool}(I:Inv X pins σ H s)(fa:FpOk X pins H a)(ho:s.heap.get? a=some (seqObj "list" us.toArray n))(r:Vals xs us)(h64:us.length<64)(al:di' (xs.map kf) sh)(call1:KeyOf X σ B (.ref f) H kf xs)
  (h:∀zs H' s',Inv X pins σ (upd H' a (.lst zs)) s'->Same H H'->H' a=none->zs.Perm xs->zs.map kf=sortKs (xs.map kf)->P (.done (.ret .none)) s'):wpAny (model X.prog X.w) B (ksk_tree a (.ref f) false) P E s:=by
 have lx:=r.length;obtain⟨e1,ho1⟩:∃e1,(s.heap.update a (Obj.mapSeq fun _=>(#[]:Array Value))).get? a=some (seqObj "list" #[] e1):=⟨_,get?_update_seq ho fun _=>#[]⟩;have oth:∀b o,b∉[a]->s.heap.get? b=some o->(s.heap.update a (Obj.mapSeq fun _=>(#[]:Array Value))).get? b=some o:=fun b o hb e=>(Heap.get?_update_other _ _ (fun z=>hb (by simp[z]))).trans e
 have I1:Inv X pins σ H { s with heap:=s.heap.update a (Obj.mapSeq fun _=>(#[]:Array Value)) }:=I.turnedF (t':=s.toks) (fp:=[a]) oth (fun b hb=>by
  obtain rfl:b=a:=by simpa using hb
  exact fa)
 unfold ksk_tree;refine wpAny_bind (listItems_at ho rfl ?_);refine wpAny_bind (listUpdate_at ho rfl ?_ (by rw[aj',sizeLine_eq];omega) (aC' _));refine wpAny_bind (seqEpoch_at ho1 rfl ?_);refine wpAny_bind (wpAny_newTuple ?_ (by show us.length<=_;rw[sizeLine_eq];omega));refine wpAny_bind (wpAny_newList ?_ (aC' _));refine wpAny_holding ?_;have I2:Inv X pins σ H { s with heap:=(s.heap.update a (Obj.mapSeq fun _=>(#[]:Array Value))).push (seqObj "tuple" us.toArray 0) }:=I1.kept (t':=s.toks) fun b u e=>Heap.get?_push_of_some _ e;have I3:Inv X pins σ H { s with heap:=((s.heap.update a (Obj.mapSeq fun _=>(#[]:Array Value))).push (seqObj "tuple" us.toArray 0)).push (seqObj "list" #[] 0) }:=I2.kept (t':=s.toks) fun b u e=>Heap.get?_push_of_some _ e;have fk:FpOk X pins H ((s.heap.update a (Obj.mapSeq fun _=>(#[]:Array Value))).push (seqObj "tuple" us.toArray 0)).objs.size:=I2.fpOk (ag' _) (I2.hok.fresh (ag' _));have ha3:(((s.heap.update a (Obj.mapSeq fun _=>(#[]:Array Value))).push (seqObj "tuple" us.toArray 0)).push (seqObj "list" #[] 0)).get? a=some (seqObj "list" #[] e1):=Heap.get?_push_of_some _ (Heap.get?_push_of_some _ ho1);have hk3:(((s.heap.update a (Obj.mapSeq fun _=>(#[]:Array Value))).push (seqObj "tuple" us.toArray 0)).push (seqObj "list" #[] 0)).get? ((s.heap.update a (Obj.mapSeq fun _=>(#[]:Array Value))).push (seqObj "tuple" us.toArray 0)).objs.size=some (seqObj "list" #[] 0):=Heap.get?_push_size _ rfl;have hne:a≠((s.heap.update a (Obj.mapSeq fun _=>(#[]:Array Value))).push (seqObj "tuple" us.toArray 0)).objs.size:=au' (Heap.lt_size (Heap.get?_push_of_some (seqObj "tuple" us.toArray 0) ho1));show wpAny (model X.prog X.w) B (ksk_rest a (.ref f) false us.toArray e1 (.ref ((s.heap.update a (Obj.mapSeq fun _=>(#[]:Array Value))).push (seqObj "tuple" us.toArray 0)).objs.size)) P E { s with heap:=((s.heap.update a (Obj.mapSeq fun _=>(#[]:Array Value))).push (seqObj "tuple" us.toArray 0)).push (seqObj "list" #[] 0) };generalize ((s.heap.update a (Obj.mapSeq fun _=>(#[]:Array Value))).push (seqObj "tuple" us.toArray 0)).objs.size=kS at fk hk3 hne ⊢;generalize ((s.heap.update a (Obj.mapSeq fun _=>(#[]:Array Value))).push (seqObj "tuple" us.toArray 0)).push (seqObj "list" #[] 0)=h3 at I3 ha3 hk3 ⊢;clear I2 I1 oth;unfold ksk_rest;refine wpAny_bind (wpAny_rule ?_);rw[List.forIn_toArray];refine wpAny_bind (jw_ (pins:=pins) (E:=E) (e1:=e1) hne call1 (fun u s4 Qb hq=>?_) xs us [] [] [] H _ 0 r (fun x hx=>hx) I3 (Same.refl H) fa fk ha3 hk3 .nil .nil (by simpa using h64) fun H5 s5 kvs c5 I5 sm5 fa5 fk5 ha5 hk5 lk ⟨ks,rk,tk⟩=>?_)
 ·refine wpAny_bind (wpAny_attempt (wpAny_mono hq (fun k s'' hk=>?_) fun _ _ hF=>hF.elim));exact wpAny_bind (wpAny_mono hk (fun _ s6 h6=>wpAny_pure h6) fun _ _ z=>z)
 rw[List.nil_append] at tk;rw[aV',Nat.zero_add] at lk;refine wpAny_bind (listItems_at hk5 rfl ?_)
 have tail:∀(p:Array Nat) (st:SortSt),Good xs.length p->Up (fun i j=>lexK ((xs.map kf).getD i []) ((xs.map kf).getD j [])) p xs.length->(arrOf st).map (·.2)=(bK' p us).toArray->failedOf st=none->wpAny (model X.prog X.w) B (ksk_tail a false e1 (.ref kS) st) P E s5:=fun p st g up hout hfl=>by
  have gu:Good us.length p:=by rw[<- lx];exact g
  have hz:(bK' p us).length=us.length:=by
   unfold bK';rw[aa',aK'];exact gu.size
  have s1:=Heap.SameBut.update s5.heap kS (Obj.mapSeq fun _=>(#[]:Array Value));have ha6:(s5.heap.update kS (Obj.mapSeq fun _=>(#[]:Array Value))).get? a=some (seqObj "list" #[] e1):=(Heap.get?_update_other _ _ (Ne.symm hne)).trans ha5;unfold ksk_tail;dsimp only;rw[hout];refine wpAny_bind (listUpdate_at hk5 rfl ?_ (by rw[aj',sizeLine_eq];omega) (aC' _));refine wpAny_bind (wpAny_letGo ?_);refine wpAny_bind (seqEpoch_at ha6 rfl ?_);simp only[aW',if_false];refine wpAny_bind (listUpdate_at ha6 rfl ?_ (aC' _) (by rw[aj',hz,sizeLine_eq];omega));rw[hfl];simp only[bne_self_eq_false,aW',if_false]
  have zl:(p.toList.map fun i=>xs.getD i .non).length<=sizeLine:=by
   rw[aa',aK',g.size,sizeLine_eq];omega
  obtain⟨pz,ek⟩:=jF_ (zs:=p.toList.map fun i=>xs.getD i .non) g up rfl;refine wpAny_pure (h _ H5 _ (I5.trackL (t':=s5.toks) (fp:=[a,kS]) (T:=a) (fun b o hb e=>?_) (fun b hb=>?_) (by simp) zl (db_ r gu) (get?_update_seq ha6 _)) sm5 fa5.1 pz ek)
  ·have n1:b≠a:=fun z=>hb (by simp[z]);have n2:b≠kS:=fun z=>hb (by simp[z]);exact (Heap.get?_update_other _ _ (Ne.symm n1)).trans ((Heap.get?_update_other _ _ (Ne.symm n2)).trans e)
  ·rcases ai'.mp hb with rfl|hb
   ·exact fa5
   ·obtain rfl:b=kS:=by simpa using hb
    exact fk5
 unfold ksk_end;dsimp only;simp only[aW',if_false];by_cases h2:us.toArray.size<2
 ·rw[if_pos h2,if_pos h2];refine wpAny_bind (wpAny_pure ?_);rw[StateT.run_pure];refine wpAny_bind (wpAny_pure (tail (List.range xs.length).toArray _ (Array.Perm.refl _) (fun i j hij hj=>?_) ?_ rfl))
  ·have e:i=j:=by
    simp only[aj'] at h2;omega
   subst e;exact bB_ _
  ·show ((kvs.toArray.zip us.toArray).map fun x:Keyed=>x.2)=_;rw[show xs.length=us.length from lx,cC_];apply Array.ext';simp[List.map_snd_zip,lk]
 ·rw[if_neg h2,if_neg h2]
  have h2':2<=us.length:=by
   simp only[aj'] at h2;omega
  obtain⟨κ,hk,hc⟩:=dz_ (A:=B) (s':=s5) I5 rk tk al (by omega) (fun _ _ e=>e);refine wpAny_bind (wpAny_mono (hk (fun k s'=>k=κ/\s'=s5) ⟨rfl,rfl⟩) (fun k s7 hks=>?_) fun _ _ x=>x.elim);obtain⟨rfl,rfl⟩:=hks;have O:Ord (fun i j=>lexK ((xs.map kf).getD i []) ((xs.map kf).getD j [])):=dj_ _
  refine wpAny_bind (wpAny_mono (kat_run (ks:=kvs) (vs:=us) (G:=fun p s'=>s'=s7/\Good us.length p/\Up (fun i j=>lexK ((xs.map kf).getD i []) ((xs.map kf).getD j [])) p us.length)
   (Q:=fun st' s'=>∃p:Array Nat,arrOf st'=p.map (kas_item (kvs.toArray.zip us.toArray))/\failedOf st'=none/\s'=s7/\Good us.length p/\Up (fun i j=>lexK ((xs.map kf).getD i []) ((xs.map kf).getD j [])) p us.length)
   lk h2' h64 (fun p st' s' _ q1 q2 q3=>⟨p,q1,q2,q3⟩) (Ok.wp (n:=us.length) (fun i j C hi hj=>hc i j C (by omega) (by omega)) (fun p q=>⟨rfl,q⟩) (gd_ O (by omega)))) ?_ fun _ _ x=>x)
  rintro⟨⟨⟩,st'⟩ s' ⟨p,har,hf,hs',g,u⟩;subst hs';rw[<- lx] at g u;exact tail p st' g u (kat_snds lk har) hf
end
end L2
namespace L2
open PySem PySem.Spec PyProof.Rows PySem.W EvS
section
variable{X:Cx}{pins:List (Addr × Obj)}{σ:St}{H:Hp}{s:Shared}
theorem Inv.cellsAre{fvs:List Str}{cl:List (Str × Addr)}{is:List Nat}{gs:List V}(I:Inv X pins σ H s)(hin:∀q∈cl,X.env.cells.lookup q.1=some q.2)(hcl:∀x∈fvs,∃c,cl.lookup x=some c)(hkd:∀x∈fvs,X.env.scope.names.lookup x=some .cell)(hN:is.map (fun i=>X.N[i]?)=fvs.map some)
  (hgs:is.map (fun i=>σ[i]?)=gs.map (fun v=>some (some v))):gs.length=fvs.length/\cb' fvs cl gs s.heap/\∀x c,cl.lookup x=some c->H c=none:=by
 have lk:∀{x c},cl.lookup x=some c->(x,c)∈cl:=fun e=>PySem.mem_of_lookup e;refine⟨?_,⟨fun a b c h1 h2=>I.ok.inj a b c (hin _ (lk h1)) (hin _ (lk h2)),hcl,fun a c h1=>I.cell a c (hin _ (lk h1)),fun j a v h1 h2=>?_⟩,fun x c e=>I.freeC x c (hin _ (lk e))⟩
 ·have a:=congrArg List.length hgs;have b:=congrArg List.length hN;simp only[aa'] at a b;omega
 ·obtain⟨c,hc⟩:=hcl a (ae' h1);have e1:(is.map fun i=>X.N[i]?)[j]? = some (some a):=by rw[hN,ao',h1];rfl
  have e2:(is.map fun i=>σ[i]?)[j]? = some (some (some v)):=by rw[hgs,ao',h2];rfl
  rw[ao'] at e1 e2;obtain⟨i,hi,e1⟩:=aZ'.mp e1;rw[hi] at e2;have e2:σ[i]? = some (some v):=Option.some.inj e2;obtain⟨m,_,hl⟩:=I.loc;have kd:=hkd a (ae' h1);obtain⟨u,ru,lo⟩:=hl i a v e1 e2 (.inr (.inl kd));rcases lo with⟨z,_⟩|⟨_,c2,e3,o,e4,e5⟩
  ·have z:X.env.scope.names.lookup a=some .local:=z;rw[kd] at z;cases z
  ·rw[hin _ (lk hc)] at e3;cases e3;exact⟨c,u,hc,ru,o,e4,e5⟩
theorem j3_{B:Around}{k:Nat}{qual:Str}{params:Arguments}{body:PySem.Expr}{scope:Scope}{p:Str}{fvs:List Str}{sp:List V->List V->Hp->VK->XK->Prop}{f c':Addr}{cl:List (Str × Addr)}{is:List Nat}{gs xs:List V}{kf:V->List Key}{H0:Hp}(F:LamOk X.prog X.w X.K X.mg X.base k qual params body scope [p] fvs sp)(hr:Room k B)(hB:B.frames=X.A.frames)
  (hf:H0 f=some (lamH f qual params body scope cl c')) (hc:H0 c'=some (df' c' qual)) (hin:∀q∈cl,X.env.cells.lookup q.1=some q.2) (hcl:∀x∈fvs,∃c,cl.lookup x=some c) (hkd:∀x∈fvs,X.env.scope.names.lookup x=some .cell) (hN:is.map (fun i=>X.N[i]?)=fvs.map some) (hgs:is.map (fun i=>σ[i]?)=gs.map (fun v=>some (some v)))
  (hsp:∀H x,Same H0 H->x∈xs->sp [x] gs H (fun v H'=>Same H H'/\∃t,v=.ref t/\H' t=some (.tup ((kf x).map kV))) (fun _ _ _=>False)):KeyOf X σ B (.ref f) H0 kf xs:=by
 intro pins H s x u I sm hx ru;obtain⟨⟨pm,ctv,ef⟩,_⟩:=I.hok f _ (sm _ _ hf);obtain⟨⟨oc,vs',t,ec,d1,d2⟩,_⟩:=I.hok c' _ (sm _ _ hc);obtain⟨hg,C,fc⟩:=I.cellsAre hin hcl hkd hN hgs;have e0:=I.env0;refine wpAny_call (codeAny_mono (F B X.stack s H f c' pm ctv cl [u] [x] gs _ _ hr ⟨hB.trans e0.frames,e0.mod,e0.bs,e0.bsz,e0.funs,e0.frf,e0.hok,e0.bare⟩ ef ⟨c',oc,vs',t,rfl,ec,d1,d2⟩ rfl hg (.cons ru .nil) C fc (hsp H x sm hx)) fun r s' hq=>?_);cases r with
 |error e=>
  obtain⟨a,cls,H',B,a0,dd,rfl,os,bare,un,hok,fl,i,hE⟩:=hq;exact hE.elim
 |ok fl=>
  cases fl with
  |ret u=>exact I.after hq
  |next=>exact False.elim hq
  |brk=>exact False.elim hq
  |cont=>exact False.elim hq
theorem sortedK{f:Addr}{x:Value}{xs:List V}{kf:V->List Key}{sh:List Bool}{Q:VK}{E:Value->Shared->Prop}(I:Inv X pins σ H s)(h64:xs.length<64)(al:di' (xs.map kf) sh)(call1:KeyOf X σ X.A.in1.in1 (.ref f) H kf xs)
  (hcol:∀R:List Value->Shared->Prop,(∀vs s1,Inv X pins σ H s1->Vals xs vs->R vs s1)->wpAny (model X.prog X.w) X.A.in1 (collect x) R E s)
  (q:∀l zs H',Same H H'->H' l=none->H l=none->zs.Perm xs->zs.map kf=sortKs (xs.map kf)->Q (.ref l) (upd H' l (.lst zs))):wpAny (model X.prog X.w) X.A (call (.builtin "sorted") [x] [(Str.ofString "key",.ref f)]) (EP X pins σ Q) E s:=by
 refine call_function_entry_kw kind_sorted plain_sorted entry_sorted (ksk_s1 _ _) ?_;unfold Builtin.«sorted»;refine wpAny_bind (m:=checkCount "sorted" 1 1 _) (wpAny_pure ?_);refine wpAny_bind (hcol _ fun vs s1 I1 r=>?_);have lv:=r.length;refine wpAny_bind (wpAny_newList ?_ (by rw[sizeLine_eq];omega));have hoL:(s1.heap.push (seqObj "list" vs.toArray 0)).get? s1.heap.objs.size=some (seqObj "list" vs.toArray 0):=Heap.get?_push_size _ rfl;have I2:Inv X pins σ H { s1 with heap:=s1.heap.push (seqObj "list" vs.toArray 0) }:=I1.kept (t':=s1.toks) fun b u e=>Heap.get?_push_of_some _ e;have fa:FpOk X pins H s1.heap.objs.size:=I1.fpOk (ag' _) (I1.hok.fresh (ag' _));have nl:H s1.heap.objs.size=none:=I1.hok.fresh (ag' _);refine wpAny_bind (wpAny_holding (wpAny_call_entry_kw slot_list_sort ⟨_,hoL,rfl⟩ entry_list_sort ?body (ksk_l1 _ _)))
 case body=>
  show wpAny (model X.prog X.w) X.A.in1.in1 (Builtin.«list.sort» ⟨[.ref s1.heap.objs.size],[(Str.ofString "key",.ref f)]⟩) _ _ _;rw[ksk_t1];refine h8_ (s:={ s1 with heap:=s1.heap.push (seqObj "list" vs.toArray 0) }) I2 fa hoL r (by omega) al call1 fun zs H' s' I' sm na pz ek=>?_;exact⟨_,rfl,wpAny_pure ⟨_,rfl,.ref _,_,I',rfl,q _ zs H' sm na nl pz ek⟩⟩
end
def SrcK(K:F__)(H:Hp)(x:V)(xs:List V):Prop:=(∃l,x=.ref l/\SqL K H l xs)∨∃d kvs,x=.ref d/\H d=some (.dK kvs)/\xs=kvs.map fun kv=>kV kv.1
def tSortK(K:F__)(qual:Str)(params:Arguments)(body:PySem.Expr)(scope:Scope)(cl:List (Str × Addr))(is:List Nat)(sp:List V->List V->Hp->VK->XK->Prop)(t tk:TA):TE:=fun σ H Q=>t σ H fun vs H1=>tk σ H1 fun ws H2=>∃x f c' xs kf sh gs,vs=[x]/\ws=[.ref f]/\H2 f=some (lamH f qual params body scope cl c')/\H2 c'=some (df' c' qual)/\SrcK K H2 x xs/\xs.length<64/\di' (xs.map kf) sh /\
 is.map (fun i=>σ[i]?)=gs.map (fun v=>some (some v))/\(∀H x,Same H2 H->x∈xs->sp [x] gs H (fun v H'=>Same H H'/\∃t,v=.ref t/\H' t=some (.tup ((kf x).map kV))) (fun _ _ _=>False)) /\
 ∀l zs H',Same H2 H'->H' l=none->H2 l=none->zs.Perm xs->zs.map kf=sortKs (xs.map kf)->Q (.ref l) (upd H' l (.lst zs))
theorem ev_{X:Cx}{e:PySem.Expr}{t tk:TA}{p pos kp lpos:Pos}{k:Nat}{params:Arguments}{body:PySem.Expr}{scope:Scope}{px:Str}{fvs:List Str}{qual:Str}{sp:List V->List V->Hp->VK->XK->Prop}{cl:List (Str × Addr)}{is:List Nat}(hc:X.calm=true)(hg:Gl X "sorted")(hm:X.mg "sorted"=none)(ha:PA X [e] t)(hkw:PK X [⟨some "key",.Lambda params body scope lpos,kp⟩] tk)
  (F:LamOk X.prog X.w X.K X.mg X.base k qual params body scope [px] fvs sp) (hr:Room (k+2) X.A) (hin:∀q∈cl,X.env.cells.lookup q.1=some q.2) (hcl:∀x∈fvs,∃c,cl.lookup x=some c) (hkd:∀x∈fvs,X.env.scope.names.lookup x=some .cell) (hN:is.map (fun i=>X.N[i]?)=fvs.map some)
  (he:starEach [e] X.env=[(false,eval e X.env)]:=by rfl) (hall:(backToKw pos (keywordEach [⟨some "key",.Lambda params body scope lpos,kp⟩] X.env)).all (·.1.isSome)=true:=by rfl) (hks:(backToKw pos (keywordEach [⟨some "key",.Lambda params body scope lpos,kp⟩] X.env)).filterMap (·.1)=[Str.ofString "key"]:=by rfl)
  (hkn:(backToKw pos (keywordEach [⟨some "key",.Lambda params body scope lpos,kp⟩] X.env)).any (·.1.isNone)=false:=by rfl):PE X (.Call (.Name "sorted" p) [e] [⟨some "key",.Lambda params body scope lpos,kp⟩] pos) (tSortK X.K qual params body scope cl is sp t tk):=by
 intro pins s σ H Q I h;refine wpAny_Call_Name_kw (d1_ I hg hm PyProof.Rows.Boot.«sorted» ?_);have hA:=ha pos pins s σ H _ I h;rw[he] at hA ⊢;refine callWith_builtin_kwB (first:=[]) rfl hkn (evalArgs_kwB hall (thn hA fun us s1 ⟨vs,H1,I1,r1,q1⟩=>?_));refine thn (hkw pos pins s1 σ H1 _ I1 q1) fun ws s2 ⟨zs,H2,I2,rz,x,f,c',xs,kf,sh,gs,ev,ez,hf,hcd,src,h64,al,hgs,hsp,q⟩=>?_;subst ev ez;obtain⟨u,rfl,ru⟩:=Vals.one r1;obtain⟨fv,rfl,rf⟩:=Vals.one rz;cases rf;rw[hks];have hd:X.A.in1.handled=none:=I.ok.hd hc;refine sortedK I2 h64 al (j3_ F hr.in1.in1 rfl hf hcd hin hcl hkd hN hgs hsp) (fun R hR=>?_) q;rcases src with⟨l,rfl,hl⟩|⟨d,kvs,rfl,hd2,rfl⟩
 ·cases ru;exact eI_ I2 hl (by omega) hR
 ·cases ru;exact ii_ hd I2 (.inl hd2) hR
end L2
namespace L2
open PySem PySem.Spec PyProof.Rows
structure FunC (K:F__) (x qual:Str) (st:Stmt) (f c:Addr) (fd:FuncData):Prop where
 ex:∃(oc:Value) (od:Option Addr) (kV doc pm:Value) (an:Option Addr) (ct:Value) (osl:Array (Option Value)),
  fd=PySem.W.fnOf x qual (bh' st) (bd' st) (a7' st) .none kV doc pm an (.ref c) ct/\K.lookup f=some ⟨oc,od,.func fd,osl⟩/\PySem.W.codeIn K (.ref c) qual=true
 kp:PySem.W.keepIn K (.ref f)=true
theorem FunC.fn{K:F__}{x qual:Str}{st:Stmt}{f c:Addr}{fd:FuncData}(F:FunC K x qual st f c fd):Fun K x qual st f fd:=by
 obtain⟨oc,od,kV,doc,pm,an,ct,osl,e,l,h⟩:=F.ex;exact⟨⟨oc,od,kV,doc,pm,an,.ref c,ct,osl,e,l,h⟩,F.kp⟩
theorem FunC.ok{P:Program}{w:World}{K:F__}{mg:Str->Option Value}{base:Heap}{x qual:Str}{st:Stmt}{f c:Addr}{fd:FuncData}{N ps:List Str}{k:Nat}{sp:Sp}(F:FunC K x qual st f c fd)(S:a8' N ps (a7' st))(len:∀vs H Q E,sp vs H Q E->vs.length=ps.length)
  (hbody:∀(A:Around) (outer:List Env) (s:Shared) (H:Hp) (vs:List V) (Q:VK) (E:XK),Room k (A.deeper (envOfC qual (a7' st) s.heap.objs.size f (.ref c)))->sp vs H Q E->
   ∃t,PSs (cxOf CX0 P w K mg base N qual (a7' st) f (.ref c) A outer s H E).nox (bd' st) t/\t { nx:=fun _ H'=>Q .non H',rt:=Q } (start N vs) H):FnOk P w K mg base CX0 (k+1) f fd ps sp:=by
 obtain⟨oc,od,kV,doc,pm,an,ct,osl,rfl,lk,hcd⟩:=F.ex;refine j7_ lk hcd S len fun A outer s H vs Q E hr hsp=>?_;obtain⟨t,h,q⟩:=hbody A outer s H vs Q E hr hsp;exact⟨t,h.nox,q⟩
end L2
namespace Ev
open PySem L2
def NT(H G:Hp):Prop:=∀b o,H b=some o->(∀vs,o≠.tbl vs)->G b=some o
theorem NT.of{H G:Hp}(s:Same H G):NT H G:=fun b o e _=>s b o e
theorem NT.refl(H:Hp):NT H H:=NT.of (Same.refl H)
theorem NT.trans{H G J:Hp}(s:NT H G)(t:NT G J):NT H J:=fun b o e n=>t b o (s b o e n) n
theorem But.nt{T:Addr}{H G:Hp}{vs:Array Value}(b:But T H G)(hT:H T=some (.tbl vs)):NT H G:=fun c o e n=>b c o e (fun z=>by
 rw[z,hT] at e;exact n _ (Option.some.inj e).symm)
theorem NT.tup{H G:Hp}(s:NT H G){a:Addr}{xs:List V}(h:H a=some (.tup xs)):G a=some (.tup xs):=s _ _ h nofun
theorem NT.lst{H G:Hp}(s:NT H G){a:Addr}{xs:List V}(h:H a=some (.lst xs)):G a=some (.lst xs):=s _ _ h nofun
theorem NT.dK{H G:Hp}(s:NT H G){a:Addr}{xs:List (Key × V)}(h:H a=some (.dK xs)):G a=some (.dK xs):=s _ _ h nofun
theorem NT.ins{H G:Hp}(s:NT H G){a C dx:Addr}{fs:List (Str × V)}(h:H a=some (.ins C dx fs)):G a=some (.ins C dx fs):=s _ _ h nofun
section
variable{K:F__}{H G:Hp}{v:V}
theorem ba'.nt{ys:List V}{ks:List (List Key)}(h:ba' K H ys ks)(s:NT H G):ba' K G ys ks:=Paired.mapP h fun y k ⟨a,z,q⟩=>⟨a,z,s.tup q⟩
theorem bq'.nt{C p:Addr}{hs:List (Str × Int)}{ts:List (Str × Str)}{fp:List Addr}(W:bq' K C H p hs ts fp)(s:NT H G):bq' K C G p hs ts fp:=by
 obtain⟨dx,d1,l2,d3,zs,as,rfl,h1,h2,h3,h4,h5,h6,h7⟩:=W.ex;exact⟨dx,d1,l2,d3,zs,as,rfl,s _ _ h1 nofun,s.dK h2,s.lst h3,ba'.nt h4 s,s.dK h5,h6,fun i n a e1 e2=>s.lst (h7 i n a e1 e2)⟩
theorem WyAt.nt{o:Option (List (Str × Str))}(h:WyAt K H v o)(s:NT H G):WyAt K G v o:=by
 cases o with
 |none=>exact h
 |some ws=>
  obtain⟨a,ys,e,ha,t⟩:=h;exact⟨a,ys,e,s.lst ha,ba'.nt t s⟩
theorem bc'.nt{CG CW g p:Addr}{hs:List (Str × Int)}{ts:List (Str × Str)}{qs:List Pc}{fp:List Addr}(h:bc' K CG CW H g p hs ts qs fp)(s:NT H G):bc' K CG CW G g p hs ts qs fp:=by
 obtain⟨dx,dw,dy,vs,fpw,h1,h2,h3,h4,h5,r⟩:=h.ex;exact⟨dx,dw,dy,vs,fpw,s _ _ h1 nofun,h2.nt s,s.dK h3,s.dK h4,Paired.mapP h5 fun v q h=>h.nt s,r⟩
end
theorem iz_{H:Hp}{T:Addr}{qual q':Str}{a a':Arguments}{b b':Expr}{sc sc':Scope}{ps:Pos}{cl:List (Str × Addr)}{σ:St}{Q:VK}(h:bf' H T qual)(e1:q'=qual)(e2:a'=a)(e3:b'=b)(e4:sc'=sc)(q:∀f c' H1,But T H H1->bf' H1 T qual->H1 f=some (lamH f qual a b sc cl c')->H1 c'=some (df' c' qual)->Q (.ref f) H1):tLam T q' a' b' sc' ps cl σ H Q:=by
 subst e1 e2 e3 e4;obtain⟨es,h,hes⟩:=h;refine⟨_,h,f5_ es,?_⟩;rcases ct_ ps es with e|⟨e,he,q1⟩
 ·refine .inl ⟨e,fun c' f n1 n2 n3=>?_⟩;have nT1:T≠c':=a6_ h n1;have nT2:T≠f:=a6_ h n2
  have B:But T H (upd (upd (upd H T (.tbl ((bM' es).toArray++#[rawInt ps.line,rawInt ps.col,.ref c']))) c' (df' c' q')) f (lamH f q' a' b' sc' cl c')):=fun b o e n=>by
   rw[a4_ (a6_ e n2),a4_ (a6_ e n1),a4_ n];exact e
  refine q f c' _ B ⟨es++[(ps,c')],?_,fun x hx=>?_⟩ a1_ ?_
  ·rw[a4_ nT2,a4_ nT1,a1_,dU_];simp
  ·rcases av'.mp hx with hx|hx
   ·exact B _ _ (hes x hx) (fun z=>by have:=hes x hx;rw[z,h] at this;cases this)
   ·rw[ay'.mp hx];show upd _ f _ c'=_;rw[a4_ n3,a1_]
  ·rw[a4_ n3,a1_]
 ·refine .inr ⟨e.2,q1,fun f hf=>?_⟩;have s:=Same.new (o:=lamH f q' a' b' sc' cl e.2) hf;exact q f e.2 _ (But.of s) ⟨es,s _ _ h,fun x hx=>s _ _ (hes x hx)⟩ a1_ (s _ _ (hes e he))
theorem bb_{H:Hp}{T:Addr}{qual:Str}(h:bf' H T qual):∃vs,H T=some (.tbl vs):=by
 obtain⟨es,e,_⟩:=h;exact⟨_,e⟩
def lamS:Expr->Scope
 |.Lambda _ _ s _=>s
 |_=>a7' sLaw
def lamB:Expr->Expr
 |.Lambda _ b _ _=>b
 |e=>e
def lamA:Expr->Arguments
 |.Lambda a _ _ _=>a
 |_=>bh' sLaw
def kwE:Expr->Expr
 |.Call _ _ (k::_) _=>k.value
 |e=>e
def nthS(l:List Stmt)(i:Nat):Stmt:=l.getD i (.Pass ⟨0,0,0,0⟩)
def forI:Stmt->Expr
 |.For _ i _ _ _=>i
 |_=>.Constant .none 0 ⟨0,0,0,0⟩
def retE:Stmt->Expr
 |.Return (some e) _=>e
 |_=>.Constant .none 0 ⟨0,0,0,0⟩
end Ev
namespace Ev
open PySem L2
theorem nilG{σ:St}{H:Hp}{k:List V->Hp->Prop}(h:k [] H):tNil σ H k:=h
theorem consG{te:TE}{t:TA}{σ:St}{H:Hp}{k:List V->Hp->Prop}(h:te σ H fun x H1=>t σ H1 fun xs H2=>k (x::xs) H2):tCons te t σ H k:=h
abbrev wtN(qs:List Pc)(n:Str):Int:=strOf (qs.map wOf) n
def kN(qs:List Pc)(n:Str):List Key:=[.inl (-(wtN qs n)),.inr n]
def sndK:List Key->Str
 |[_,.inr n]=>n
 |_=>⟨#[]⟩
def hvL(qs:List Pc):List Str:=(sortKs ((qs.map (·.1)).map (kN qs))).map sndK
def kfW(qs:List Pc):V->List Key
 |.str n=>kN qs n
 |_=>[]
theorem dP_{zs:List V}{ns:List Str}(p:zs.Perm (ns.map V.str)):∃ms:List Str,zs=ms.map V.str/\ms.Perm ns:=by
 have all:∀z∈zs,∃n,z=V.str n:=fun z hz=>by
  obtain⟨n,_,e⟩:=ac'.mp (p.mem_iff.mp hz);exact⟨n,e.symm⟩
 have mk:∀l:List V,(∀z∈l,∃n,z=V.str n)->∃ms:List Str,l=ms.map V.str:=fun l=>by
  induction l with
  |nil=>intro _;exact⟨[],rfl⟩
  |cons a r ih=>
   intro h;obtain⟨n,rfl⟩:=h a af';obtain⟨ms,rfl⟩:=ih fun z hz=>h z (ad' _ hz);exact⟨n::ms,rfl⟩
 obtain⟨ms,rfl⟩:=mk zs all;refine⟨ms,rfl,?_⟩;have:=p.map (fun v:V=>match v with | .str n=>n|_=>(⟨#[]⟩:Str));rw[al',al'] at this;simpa [Function.comp_def] using this
theorem ks_{qs:List Pc}{zs:List V}(p:zs.Perm ((qs.map (·.1)).map V.str))(e:zs.map (kfW qs)=sortKs (((qs.map (·.1)).map V.str).map (kfW qs))):zs=(hvL qs).map V.str:=by
 obtain⟨ms,rfl,_⟩:=dP_ p;have e1:(ms.map V.str).map (kfW qs)=ms.map (kN qs):=by rw[al'];rfl
 have e2:((qs.map (·.1)).map V.str).map (kfW qs)=(qs.map (·.1)).map (kN qs):=by
  rw[al'];rfl
 rw[e1,e2] at e
 have em:(ms.map (kN qs)).map sndK=ms:=by
  rw[al'];exact List.map_id' ms
 unfold hvL;rw[<- e,em]
theorem cs_(qs:List Pc):(hvL qs).Perm (qs.map (·.1)):=by
 unfold hvL;have p:=(ap_ ((qs.map (·.1)).map (kN qs))).map sndK
 have e:((qs.map (·.1)).map (kN qs)).map sndK=qs.map (·.1):=by
  generalize qs.map (·.1)=ns;rw[al'];exact List.map_id' _
 rw[e] at p;exact p
def hvAt(qs:List Pc)(f:Str->Str)(h:Str):List Str:=(hvL qs).filter fun n=>decide (f n=h)
abbrev qHF:Str:="heaviest_first.<locals>.<lambda>"
def lamW:Expr:=kwE (forI (nthS (bd' sHvF) 1))
abbrev fvW:List Str:=["goods"]
theorem freeW:∀y∈(lamS lamW).names,y.2=.free->y.1∈fvW:=by decide +kernel
theorem scLamW:bQ' ["name"] fvW (lamS lamW):=⟨by decide +kernel,rfl,rfl,rfl,by decide +kernel,by decide +kernel,fun x h=>freeW (x,.free) (PySem.mem_of_lookup h) rfl,by decide +kernel⟩
section
variable{P:Program}{w:World}{K:F__}{mg:Str->Option Value}{base:Heap}
def spLamW(K:F__)(CG CW:Addr):List V->List V->Hp->VK->XK->Prop:=fun vs gs H Q _=>∃(g p:Addr) (q:Pc) (hs:List (Str × Int)) (ts:List (Str × Str)) (qs:List Pc) (fp:List Addr),vs=[.str q.1]/\gs=[.ref g]/\bc' K CG CW H g p hs ts qs fp/\(qs.map (·.1)).Nodup/\q∈qs/\0<=q.2.1/\q.2.1<=1000000000/\∀t,H t=none->Q (.ref t) (upd H t (.tup [.int (-q.2.1),.str q.1]))
theorem jc_{CG CW CP:Addr}(T:TxtG K CG)(cW:CalX P w K mg base CG 2 "weight" ["self","piece"] (by' K CG CW CP)):LamOk P w K mg base 3 qHF (lamA lamW) (lamB lamW) (lamS lamW) ["name"] fvW (spLamW K CG CW):=by
 refine lamOk scLamW (fun pm c' ctv cl us hl=>?_) (fun A outer s H f cd cl vs gs Q E hr h hp=>?_)
 ·match us,hl with
  |[_],_=>rfl
 ·obtain⟨g,p,q,hs,ts,qs,fp,rfl,rfl,G,nd,hq,w0,w1,k⟩:=h;obtain⟨dx,dw,dy,vs,fpw,h1,h2,_⟩:=id G.ex;refine⟨_,aP_ (a0_ (kx_ kh_ (i2_ cW T.cl hr (pv 1) (a0_ (pv 0) a3_))) (a0_ (pv 0) a3_)),?_⟩;have hno:(gflds p dw dy).lookup ("weight":Str)=none:=be_ _ _ _ (by decide +kernel) (by decide +kernel) (by decide +kernel);refine⟨_,rfl,g,dx,_,rfl,h1,hno,_,rfl,g,p,.str q.1,some q.1,hs,ts,qs,fp,rfl,G,nd,rfl,.inl ⟨q,hq,rfl,?_⟩⟩;exact⟨_,rfl,_,rfl,by show 2<=sizeLine;decide,fun t ht=>k t ht⟩
def clW(L:Addr):List (Str × Addr):=[("goods",L+1)]
theorem cloW{L f:Addr}{cd:Value}:closureFor (lamS lamW) (PyProof.Rows.envOfC "heaviest_first" (a7' sHvF) L f cd)=pure (clW L):=by rfl
theorem celW{L f:Addr}{cd:Value}:∀q∈clW L,(PyProof.Rows.envOfC "heaviest_first" (a7' sHvF) L f cd).cells.lookup q.1=some q.2:=by
 intro q hq;simp only[clW,ai',aP',or_false] at hq;rcases hq with rfl;rfl
theorem lclW{L:Addr}:∀x∈fvW,∃c,(clW L).lookup x=some c:=by
 intro x hx;simp only[fvW,ai',aP',or_false] at hx;rcases hx with rfl;exact⟨_,rfl⟩
theorem lkdW:∀x∈fvW,(a7' sHvF).names.lookup x=some .cell:=by decide +kernel
theorem scHvF:a8' ["goods","placed","found","piece"] ["goods","placed"] (a7' sHvF):=f__
def LsAt(H:Hp)(ns:List Str)(ad:Str->Addr)(g:Str->List Str):Prop:=(∀h∈ns,H (ad h)=some (.lst ((g h).map V.str)))/\∀h∈ns,∀h'∈ns,ad h=ad h'->h=h'
def spHvF(K:F__)(CG CW T:Addr):Sp:=fun vs H Q _=>∃(g p d:Addr) (hs:List (Str × Int)) (ts:List (Str × Str)) (qs:List Pc) (fp:List Addr) (f:Str->Str),vs=[.ref g,.ref d]/\b2' K CG CW H g p d hs ts qs fp f/\(∀q∈qs,0<=q.2.1/\q.2.1<=1000000000)/\bf' H T qHF /\
 ∀d' ad H',But T H H'->bf' H' T qHF->H d'=none->H' d'=some (.dK (mKV (a9' hs) fun h=>.ref (ad h)))->LsAt H' (a9' hs) ad (hvAt qs f)->(∀h∈a9' hs,H (ad h)=none)->Q (.ref d') H'
theorem bf'.putL{H:Hp}{T a:Addr}{q:Str}{xs:List V}{o:HO}(h:bf' H T q)(ha:H a=some (.lst xs)):bf' (upd H a o) T q:=by
 obtain⟨es,e,c⟩:=h;refine⟨es,by rw[a4_ (aN_ e ha nofun)];exact e,fun x hx=>?_⟩;rw[a4_ (fun z=>by have:=c x hx;rw[z,ha] at this;cases this)];exact c x hx
theorem dgR{H:Hp}{d:Addr}{ns:List Str}{g:Str->V}{n:Str}(h:H d=some (.dK (mKV ns g)))(m:n∈ns):DGet H d (.str n) (some (g n)):=by
 have:=DGet.k (k:=Sum.inr n) h;rw[de_ m] at this;exact this
theorem ei_{qs:List Pc}(nd:(qs.map (·.1)).Nodup){q:Pc}(h:q∈qs):wtN qs q.1=q.2.1:=by
 refine eP_ ?_ (ac'.mpr ⟨q,h,rfl⟩);rw[al'];exact nd
set_option maxHeartbeats 3200000 in
theorem jT_{f0 c0 CG CW CP T:Addr}{fd:FuncData}(F:FunC K "heaviest_first" "heaviest_first" sHvF f0 c0 fd)(B:Bi mg)(TG:TxtG K CG)(TW:Txt K mg CW)(hC:PySem.W.CodeHd base c0 T)(hbm:base.BuiltinsAt mg T)(cH:CalM P w K mg base CW 1 "hands" ["self"] (bY' K CW))(cW:CalX P w K mg base CG 2 "weight" ["self","piece"] (by' K CG CW CP)) :
  FnOk P w K mg base CX0 6 f0 fd ["goods","placed"] (spHvF K CG CW T):=by
 refine F.ok scHvF (fun vs H Q E h=>?_) (fun A outer s H vs Q E hr h=>?_)
 ·obtain⟨g,p,d,hs,ts,qs,fp,f,rfl,_⟩:=h;rfl
 ·obtain⟨g,p,d,hs,ts,qs,fp,f,rfl,Pl,wq,tab,k⟩:=h;have hu:=b0_ hr;have sz:=sizeLine_eq;have hr1:Room 1 _:=hr.mono (by decide);refine' ⟨_,a2_ ?s1 (a2_ ?s2 (a5_ ?s3)),?kk⟩
  case' s1=>refine' a9_ (i:=2) scHvF.nd rfl (Or.inl rfl) (ao_ (aO_ rfl) (by rfl) B.dict PyProof.Rows.Boot.«dict» (a0_ (b2_ ["hand"] 1 [] (am_ (dD_ cH TW.cl hr1 (ay_ (pv 0) rfl))) (fun fp s H=>a8_ (i:=0) (show (["hand"]:List Str).Nodup by decide +kernel) rfl (Or.inl rfl)) (fun fp s H=>aY_) (fun fp s H=>?e1)) a3_))
  case e1=>exact aP_ (a0_ (pv 0) (a0_ (aE_ a3_) a3_))
  case' s2=>refine' aG_ PassesOwn.never rfl (am_ ?l2) (a8_ (i:=3) scHvF.nd rfl (Or.inl rfl)) (a5_ ?b2)
  case l2=>exact ev_ (px:="name") (fvs:=fvW) (cl:=clW s.heap.objs.size) (is:=[0]) (k:=3) rfl (by rfl) B.sorted (a0_ (pv 1) a3_) (fF_ (ix_ (P:=T) (c:=c0) rfl cloW rfl hC hbm) iC_) (jc_ TG cW) hr celW lclW lkdW rfl
  case b2=>exact b6_ (bQ_ PySem.F.plainAttrs_list PySem.F.slot_list_append PySem.F.type_list_append aU_ (ai_ hu (pv 2) (ai_ hu (pv 1) (pv 3) (fun _ _=>rfl)) (fun _ _=>rfl)) (a0_ (pv 3) a3_))
  case s3=>exact ab_ (pv 2)
  case' kk=>skip
  have nd:=Pl.Gd.nnd;have n8:(a9' hs).length<=8:=by have:=Pl.Gd.nlen;have:=Pl.Gd.h8;omega
  obtain⟨dx,dw,dy,vs,fpw,h1,h2,h3,h4,h5,m1,m2,m3,m4,m5⟩:=id Pl.G.ex;obtain⟨dxw,d1,l2,d3,zs0,as,ef,w1,_⟩:=id h2.ex;have hnw:(flds d1 l2 d3).lookup ("hands":Str)=none:=b1_ _ _ _ (by decide +kernel) (by decide +kernel) (by decide +kernel);refine⟨_,rfl,g,CG,dx,_,_,rfl,h1,TG.cl,TG.nW,bc_ _ _ _,p,dxw,_,rfl,w1,hnw,p,hs,ts,fpw,rfl,h2,fun lh nh=>?_⟩;have s1:=Same.new (o:=.lst ((a9' hs).map V.str)) nh;have e1:upd H lh (.lst ((a9' hs).map V.str)) lh=some (.lst ((a9' hs).map V.str)):=a1_;generalize upd H lh (.lst ((a9' hs).map V.str))=H1 at s1 e1 ⊢;refine⟨lh,rfl,⟨_,.of e1⟩,fun D hD=>?_⟩;refine aR_ (own:=1) (fv:=[]) (xs:=(a9' hs).map V.str) rfl gok1 (fun i out H'=>∃ad:Str->Addr,Same H1 H'/\H' D=some (.lst out)/\be' K H' out (mKV ((a9' hs).take i) fun h=>.ref (ad h))/\LsAt H' ((a9' hs).take i) ad (fun _=>[])/\∀h∈(a9' hs).take i,H1 (ad h)=none/\ad h≠D) ⟨fun _=>D,Same.new hD,a1_,.nil,⟨by simp,by simp⟩,by simp⟩ (fun i out H' _ ⟨_,sm,_⟩=>.of (sm _ _ e1)) (fun out H2 ⟨ad,s2,hD2,pa,ls,fr⟩=>?_) (fun i x out H' hx ⟨ad,sm,hd,pa,ls,fr⟩=>?_);rotate_left
  ·obtain⟨n,hn,rfl⟩:=aj_ hx;have nn:n∉(a9' hs).take i:=bN_ nd hn;refine⟨_,rfl,rfl,fun Nx hN=>yesT ?_⟩;refine⟨_,rfl,by show 0<=sizeLine;decide,fun l nl=>?_⟩;have s3:=Same.new (o:=.lst []) nl;have e3:upd H' l (.lst []) l=some (.lst []):=a1_;generalize upd H' l (.lst [])=H3 at s3 e3 ⊢;refine⟨by show 2<=sizeLine;decide,fun t nt=>?_⟩;have s4:=Same.new (o:=.tup [.str n,.ref l]) nt;have e4:upd H3 t (.tup [.str n,.ref l]) t=some (.tup [.str n,.ref l]):=a1_;generalize upd H3 t (.tup [.str n,.ref l])=H4 at s4 e4 ⊢;have s34:=s3.trans s4;have hD4:=s34 _ _ hd;have lD:l≠D:=fun z=>by rw[z,hd] at nl;cases nl
   have adl:∀h∈(a9' hs).take i,ad h≠l:=fun h hh z=>by
    have:=ls.1 h hh;rw[z,nl] at this;cases this
   have lo:=Paired.length pa;rw[aB_,ak'] at lo
   have pD:∀{b:Addr} {zs:List V},H4 b=some (.tup zs)->b≠D:=fun hb z=>by
    rw[z,hD4] at hb;cases hb
   have ne:∀h∈(a9' hs).take i,h≠n:=fun h hh z=>nn (z▸hh);refine⟨out,hD4,by omega,hN (out++[.ref t]) _ ⟨fun m=>if m=n then l else ad m,aC_ (sm.trans s34) hD,a1_,?_,⟨fun h hh=>?_,fun h hh h' hh' z=>?_⟩,fun h hh=>?_⟩⟩
   ·have e:mKV ((a9' hs).take (i+1)) (fun h=>.ref (if h=n then l else ad h))=mKV ((a9' hs).take i) (fun h=>.ref (ad h))++[(Sum.inr n,.ref l)]:=by
     rw[aq_ hn];unfold mKV;rw[am',ap',List.map_nil];dsimp only;rw[if_pos rfl];congr 1;exact aE' fun m hm=>by rw[if_neg (ne m hm)]
    rw[e];exact aA_ (Paired.mapP pa fun y kv ⟨b,z,hb⟩=>⟨b,z,by rw[a4_ (pD (s34 _ _ hb))];exact s34 _ _ hb⟩) (.cons ⟨t,rfl,by rw[a4_ (pD e4)];exact e4⟩ .nil)
   ·rw[aq_ hn] at hh;rcases av'.mp hh with hh|hh
    ·dsimp only;rw[if_neg (ne h hh),a4_ (fr h hh).2];exact s34 _ _ (ls.1 h hh)
    ·obtain rfl:h=n:=by simpa using hh
     dsimp only;rw[if_pos rfl,a4_ lD];exact s4 _ _ e3
   ·rw[aq_ hn] at hh hh';dsimp only at z;rcases av'.mp hh with a1|a1<;>rcases av'.mp hh' with a2|a2
    ·rw[if_neg (ne h a1),if_neg (ne h' a2)] at z;exact ls.2 h a1 h' a2 z
    ·have a2:h'=n:=by simpa using a2
     rw[if_neg (ne h a1),if_pos a2] at z;exact absurd z (adl h a1)
    ·have a1:h=n:=by simpa using a1
     rw[if_neg (ne h' a2),if_pos a1] at z;exact absurd z.symm (adl h' a2)
    ·rw[show h=n by simpa using a1,show h'=n by simpa using a2]
   ·rw[aq_ hn] at hh;dsimp only;rcases av'.mp hh with hh|hh
    ·rw[if_neg (ne h hh)];exact fr h hh
    ·obtain rfl:h=n:=by simpa using hh
     rw[if_pos rfl];exact⟨sm.free nl,lD⟩
  rw[aa',ar'] at pa ls fr;refine⟨D,out,_,rfl,hD2,pa,by rw[aB_];omega,fun df ndf=>?_⟩
  have ndk:((mKV (a9' hs) fun h=>V.ref (ad h)).map (·.1)).Nodup:=by
   rw[bY_,aB',aG'];exact nd.imp fun n e=>n (Sum.inr.inj e)
  rw[aS_ ndk];have s3:=Same.new (o:=.dK (mKV (a9' hs) fun h=>V.ref (ad h))) ndf;have e3:upd H2 df (.dK (mKV (a9' hs) fun h=>V.ref (ad h))) df=some (.dK (mKV (a9' hs) fun h=>V.ref (ad h))):=a1_;refine setG ?_;dsimp only;generalize upd H2 df (.dK (mKV (a9' hs) fun h=>V.ref (ad h)))=H3 at s3 e3 ⊢;have s03:=(s1.trans s2).trans s3;have ndf0:H df=none:=(s1.trans s2).free ndf;have fr0:∀h∈a9' hs,H (ad h)=none:=fun h hh=>s1.free (fr h hh).1;have ls3:∀h∈a9' hs,H3 (ad h)=some (.lst []):=fun h hh=>s3 _ _ (ls.1 h hh);have inj:=ls.2;clear s1 s2 s3 e1 pa ls fr hD2 nh hD ndf;refine⟨_,rfl,nilG (consG ?_)⟩;refine iz_ (tab.same s03) rfl rfl rfl rfl fun fl c' H4 b4 tab4 hfl hc'=>?_;obtain⟨tv,hT⟩:=bb_ tab
  have neT:∀{b:Addr} {o:HO},H3 b=some o->(∀vs,o≠.tbl vs)->b≠T:=fun {b o} e n z=>by
   rw[z,s03 _ _ hT] at e;exact n _ (Option.some.inj e).symm
  have nt4:NT H H4:=fun b o e n=>b4 _ _ (s03 _ _ e) (neT (s03 _ _ e) n);have ls4:∀h∈a9' hs,H4 (ad h)=some (.lst []):=fun h hh=>b4 _ _ (ls3 h hh) (neT (ls3 h hh) nofun);have e4:=b4 _ _ e3 (neT e3 nofun);have b04:But T H H4:=fun b o e n=>b4 _ _ (s03 _ _ e) n;refine⟨.ref d,fl,c',(qs.map (·.1)).map V.str,kfW qs,[false,true],[.ref g],rfl,rfl,hfl,hc',.inr ⟨d,_,rfl,nt4.dK Pl.hd,?_⟩,by rw[aa',aa'];exact Pl.h64,⟨by decide,fun k hk=>?_⟩,rfl,fun H' x sm hx=>?_,fun l zs H5 s5 nl nl4 pz ek=>?_⟩
  ·show _=((qs.map (·.1)).map _).map _;generalize qs.map (·.1)=ns';rw[al'];rfl
  ·obtain⟨v,hv,rfl⟩:=ac'.mp hk;obtain⟨n,_,rfl⟩:=ac'.mp hv;rfl
  ·obtain⟨n,hn,rfl⟩:=ac'.mp hx;obtain⟨q,hq,rfl⟩:=ac'.mp hn;refine⟨g,p,q,hs,ts,qs,fp,rfl,rfl,(Pl.G.nt nt4).same sm,Pl.nd,hq,(wq q hq).1,(wq q hq).2,fun t nt=>⟨Same.new nt,t,rfl,?_⟩⟩;rw[a1_];show _=some (HO.tup [.int (-(wtN qs q.1)),.str q.1]);rw[ei_ Pl.nd hq]
  rw[ks_ pz ek];have hl:upd H5 l (.lst ((hvL qs).map V.str)) l=some (.lst ((hvL qs).map V.str)):=a1_;have s6:Same H4 (upd H5 l (.lst ((hvL qs).map V.str))):=s5.trans (Same.new nl)
  have lne:∀h∈a9' hs,ad h≠l:=fun h hh z=>by
   have:=ls4 h hh;rw[z,nl4] at this;cases this
  generalize upd H5 l (.lst ((hvL qs).map V.str))=H6 at hl s6 ⊢
  have len64:(hvL qs).length<64:=by
   rw[(cs_ qs).length_eq,aa'];exact Pl.h64
  have dT:d≠T:=fun z=>by
   have:=Pl.hd;rw[z,hT] at this;cases this
  refine⟨l,rfl,⟨_,.of hl⟩,as_ (K:=K) (a:=l) (xs:=(hvL qs).map V.str) (fun i σ H'=>∃v3:Option V,σ=[some (.ref g),some (.ref d),some (.ref df),v3]/\But T H H'/\bf' H' T qHF/\H' df=some (.dK (mKV (a9' hs) fun h=>V.ref (ad h)))/\H' l=some (.lst ((hvL qs).map V.str))/\LsAt H' (a9' hs) ad (fun h=>((hvL qs).take i).filter fun n=>decide (f n=h))) ⟨none,rfl,fun b o e n=>s6 _ _ (b04 b o e n),tab4.same s6,s6 _ _ e4,hl,fun h hh=>s6 _ _ (ls4 h hh),inj⟩ (fun i σ H' _ ⟨_,_,_,_,_,z,_⟩=>.of z) ?_ ?_⟩
  ·rintro i x σ H' hx ⟨v3,rfl,bT,tab',hdf,hl',ls⟩;obtain⟨n,hn,rfl⟩:=aj_ hx;have nm:n∈qs.map (·.1):=(cs_ qs).mem_iff.mp (ae' hn);have fm:f n∈a9' hs:=(au_ hs).mem_iff.mpr (Pl.at_ n nm);have hd':=bT _ _ Pl.hd dT;have la:=ls.1 (f n) fm;refine setG ?_;dsimp only;refine⟨_,rfl,_,rfl,_,rfl,d,_,rfl,dgR hd' nm,df,_,rfl,dgR hdf fm,.inl ⟨rfl,_,.of la⟩,_,rfl,ad (f n),_,_,rfl,rfl,la,?_,?_⟩
   ·rw[aa'];have:=a0' (fun n'=>decide (f n'=f n)) ((hvL qs).take i);rw[ak'] at this;dsimp only;omega
   refine⟨_,rfl,fun b o e ne=>?_,bf'.putL tab' la,?_,?_,fun h hh=>?_,inj⟩
   ·rw[a4_ (a6_ e (fr0 _ fm))];exact bT b o e ne
   ·rw[a4_ (aN_ hdf la nofun)];exact hdf
   ·rw[a4_ (lne _ fm).symm];exact hl'
   ·by_cases z:h=f n
    ·subst z;dsimp only;rw[a1_,aq_ hn,aX',List.filter_cons_of_pos (by simp),List.filter_nil,am'];rfl
    ·dsimp only;rw[a4_ (fun y=>z (inj h hh _ fm y)),aq_ hn,aX',List.filter_cons_of_neg (by simpa using fun y=>z y.symm),List.filter_nil,aA'];exact ls.1 h hh
  ·rintro σ H' ⟨v3,rfl,bT,tab',hdf,hl',ls⟩;rw[aa',ar'] at ls;exact⟨_,rfl,k df ad H' bT tab' ndf0 hdf ls fr0⟩
end
end Ev
namespace Ev
open PySem L2
abbrev sSInit:Stmt:=bl' dp' 0
abbrev sLead:Stmt:=bl' dp' 1
abbrev sJoint:Stmt:=bl' dp' 2
abbrev co':Stmt:=bl' dp' 3
def sflds(g dl dv dp:Addr):List (Str × V):=putF "pieces_by_hand" (.ref dp) (putF "level_by_hand" (.ref dv) (putF "load_by_hand" (.ref dl) (putF "wares" (.ref g) [])))
theorem sf_g(g dl dv dp:Addr):(sflds g dl dv dp).lookup ("wares":Str)=some (.ref g):=by
 unfold sflds;rw[aa_,aa_,aa_,aa_,if_neg (by decide +kernel),if_neg (by decide +kernel),if_neg (by decide +kernel),if_pos rfl]
theorem sf_l(g dl dv dp:Addr):(sflds g dl dv dp).lookup ("load_by_hand":Str)=some (.ref dl):=by
 unfold sflds;rw[aa_,aa_,aa_,if_neg (by decide +kernel),if_neg (by decide +kernel),if_pos rfl]
theorem sf_v(g dl dv dp:Addr):(sflds g dl dv dp).lookup ("level_by_hand":Str)=some (.ref dv):=by
 unfold sflds;rw[aa_,aa_,if_neg (by decide +kernel),if_pos rfl]
theorem sf_p(g dl dv dp:Addr):(sflds g dl dv dp).lookup ("pieces_by_hand":Str)=some (.ref dp):=by
 unfold sflds;rw[aa_,if_pos rfl]
theorem iG_(g dl dv dp:Addr){m:Str}(h1:¬m="wares")(h2:¬m="load_by_hand")(h3:¬m="level_by_hand")(h4:¬m="pieces_by_hand"):(sflds g dl dv dp).lookup m=none:=by
 unfold sflds;rw[aa_,aa_,aa_,aa_,if_neg h4,if_neg h3,if_neg h2,if_neg h1];rfl
structure TxtS (K:F__) (CS:Addr):Prop where
 cl:Cls K CS
 nW:bp' K CS "wares"
 nL:bp' K CS "load_by_hand"
 nV:bp' K CS "level_by_hand"
 nP:bp' K CS "pieces_by_hand"
structure Wd (hs:List (Str × Int)) (ts:List (Str × Str)) (qs:List Pc) (f:Str->Str):Prop where
 Gd:Good hs ts
 nd:(qs.map (·.1)).Nodup
 h64:qs.length<64
 at_:∀n∈qs.map (·.1),f n∈hs.map (·.1)
 wq:∀q∈qs,0<=q.2.1/\q.2.1<=1000000000
structure bk' (K:F__) (CS CG CW:Addr) (H:Hp) (v g p:Addr) (hs:List (Str × Int)) (ts:List (Str × Str)) (qs:List Pc) (fp:List Addr) (f:Str->Str):Prop where
 ex:∃(dx dl dv dp:Addr) (ad:Str->Addr),H v=some (.ins CS dx (sflds g dl dv dp))/\bc' K CG CW H g p hs ts qs fp/\H dl=some (.dK (ldV hs qs f))/\H dv=some (.dK (mKV (a9' hs) fun h=>.int (lvF hs qs f h)))/\H dp=some (.dK (mKV (a9' hs) fun h=>.ref (ad h)))/\∀h∈a9' hs,H (ad h)=some (.lst ((hvAt qs f h).map V.str))
theorem bk'.nt{K:F__}{CS CG CW:Addr}{H G:Hp}{v g p:Addr}{hs:List (Str × Int)}{ts:List (Str × Str)}{qs:List Pc}{fp:List Addr}{f:Str->Str}(S:bk' K CS CG CW H v g p hs ts qs fp f)(s:NT H G):bk' K CS CG CW G v g p hs ts qs fp f:=by
 obtain⟨dx,dl,dv,dp,ad,h1,h2,h3,h4,h5,h6⟩:=S.ex;exact⟨dx,dl,dv,dp,ad,s.ins h1,h2.nt s,s.dK h3,s.dK h4,s.dK h5,fun h hh=>s.lst (h6 h hh)⟩
theorem bk'.same{K:F__}{CS CG CW:Addr}{H G:Hp}{v g p:Addr}{hs:List (Str × Int)}{ts:List (Str × Str)}{qs:List Pc}{fp:List Addr}{f:Str->Str}(S:bk' K CS CG CW H v g p hs ts qs fp f)(s:Same H G):bk' K CS CG CW G v g p hs ts qs fp f:=S.nt (NT.of s)
abbrev lo(qs:List Pc)(f:Str->Str)(h:Str):Int:=ld f (qs.map wOf) h
def b7'(hs:List (Str × Int))(qs:List Pc)(f:Str->Str)(a b:Str):Int:=lo qs f a * strOf hs b - lo qs f b * strOf hs a
def b3'(hs:List (Str × Int))(a b:Str):Int:=strOf hs a+strOf hs b
section
variable{P:Program}{w:World}{K:F__}{mg:Str->Option Value}{base:Heap}
theorem scSInit:a8' ["self","goods","placed"] ["self","goods","placed"] (a7' sSInit):=f__
def cZ'(K:F__)(CS CG CW T:Addr):Sp:=fun vs H Q _=>∃(v dx g p d:Addr) (hs:List (Str × Int)) (ts:List (Str × Str)) (qs:List Pc) (fp:List Addr) (f:Str->Str),vs=[.ref v,.ref g,.ref d]/\H v=some (.ins CS dx [])/\v∉fp/\b2' K CG CW H g p d hs ts qs fp f/\Wd hs ts qs f/\bf' H T qHF /\
 ∀H',(∀b o,H b=some o->b≠v->b≠T->H' b=some o)->bf' H' T qHF->bk' K CS CG CW H' v g p hs ts qs fp f->Q .non H'
set_option maxHeartbeats 1600000 in
theorem ia_{f0 CS CG CW T:Addr}{fd:FuncData}(F:Fun K "__init__" "Sight.__init__" sSInit f0 fd)(TS:TxtS K CS)(cLA:Cal P w K mg base 3 "loads_at" ["goods","placed"] (bN' K CG CW))(cLv:Cal P w K mg base 4 "levels_at" ["goods","placed"] (cz' K CG CW))(cHF:Cal P w K mg base 6 "heaviest_first" ["goods","placed"] (spHvF K CG CW T)) :
  FnOk P w K mg base CX0 7 f0 fd ["self","goods","placed"] (cZ' K CS CG CW T):=by
 refine F.ok scSInit (fun vs H Q E h=>?_) (fun cdv A outer s H vs Q E hr h=>?_)
 ·obtain⟨v,dx,g,p,d,hs,ts,qs,fp,f,rfl,_⟩:=h;rfl
 ·obtain⟨v,dx,g,p,d,hs,ts,qs,fp,f,rfl,hv,vfp,Pl,W,tab,k⟩:=h;have hr3:Room 3 _:=hr.mono (by decide);have hr4:Room 4 _:=hr.mono (by decide);refine' ⟨_,a2_ ?s1 (a2_ ?s2 (a2_ ?s3 (a5_ ?s4))),?kk⟩
  case s1=>exact bH_ (pv 0) (pv 1) rfl
  case s2=>exact bH_ (pv 0) (ae_ cLA hr3 (a0_ (pv 1) (a0_ (pv 2) a3_))) rfl
  case s3=>exact bH_ (pv 0) (ae_ cLv hr4 (a0_ (pv 1) (a0_ (pv 2) a3_))) rfl
  case s4=>exact bH_ (pv 0) (ae_ cHF hr (a0_ (pv 1) (a0_ (pv 2) a3_))) rfl
  case' kk=>skip
  have dv:d≠v:=aN_ Pl.hd hv nofun;have keepP:∀{G:Hp},(∀b o,H b=some o->b≠v->G b=some o)->b2' K CG CW G g p d hs ts qs fp f:=fun {G} up=>⟨Pl.G.keep (fun b hb o e=>up b o e (fun z=>vfp (z▸hb))) (fun b xs e=>up b _ e (aN_ e hv nofun)),Pl.Gd,Pl.dfp,up _ _ Pl.hd dv,Pl.at_,Pl.nd,Pl.h64⟩;refine⟨_,rfl,_,rfl,v,CS,dx,_,rfl,hv,TS.cl,TS.nW,by show 0<1000;decide,?_⟩;have up1:∀b o,H b=some o->b≠v->upd H v (.ins CS dx (putF "wares" (.ref g) [])) b=some o:=fun b o e n=>by rw[a4_ n];exact e
  have hv1:upd H v (.ins CS dx (putF "wares" (.ref g) [])) v=some (.ins CS dx (putF "wares" (.ref g) [])):=a1_;have fr1:∀{b},upd H v (.ins CS dx (putF "wares" (.ref g) [])) b=none->b≠v:=fun {b} e z=>by rw[z,a1_] at e;cases e
  generalize upd H v (.ins CS dx (putF "wares" (.ref g) []))=H1 at up1 hv1 fr1 ⊢;refine⟨_,rfl,_,rfl,g,p,d,hs,ts,qs,fp,f,rfl,keepP up1,fun dl H2 s2 nl hl=>?_⟩;have hv2:=s2 _ _ hv1;have lv:dl≠v:=fr1 nl;refine⟨_,rfl,v,CS,dx,_,rfl,hv2,TS.cl,TS.nL,by show 1<1000;decide,?_⟩;have up3:∀b o,H b=some o->b≠v->upd H2 v (.ins CS dx (putF "load_by_hand" (.ref dl) (putF "wares" (.ref g) []))) b=some o:=fun b o e n=>by rw[a4_ n];exact s2 _ _ (up1 b o e n)
  have hv3:upd H2 v (.ins CS dx (putF "load_by_hand" (.ref dl) (putF "wares" (.ref g) []))) v=some (.ins CS dx (putF "load_by_hand" (.ref dl) (putF "wares" (.ref g) []))):=a1_;have fr3:∀{b},upd H2 v (.ins CS dx (putF "load_by_hand" (.ref dl) (putF "wares" (.ref g) []))) b=none->b≠v:=fun {b} e z=>by rw[z,a1_] at e;cases e
  have hl3:upd H2 v (.ins CS dx (putF "load_by_hand" (.ref dl) (putF "wares" (.ref g) []))) dl=some (.dK (ldV hs qs f)):=by rw[a4_ lv];exact hl
  generalize upd H2 v (.ins CS dx (putF "load_by_hand" (.ref dl) (putF "wares" (.ref g) [])))=H3 at up3 hv3 fr3 hl3 ⊢;refine⟨_,rfl,_,rfl,g,p,d,hs,ts,qs,fp,f,rfl,keepP up3,W.wq,fun de H4 s4 ne he=>?_⟩;have hv4:=s4 _ _ hv3;have ev:de≠v:=fr3 ne;refine⟨_,rfl,v,CS,dx,_,rfl,hv4,TS.cl,TS.nV,by show 2<1000;decide,?_⟩;have up5:∀b o,H b=some o->b≠v->upd H4 v (.ins CS dx (putF "level_by_hand" (.ref de) (putF "load_by_hand" (.ref dl) (putF "wares" (.ref g) [])))) b=some o:=fun b o e n=>by rw[a4_ n];exact s4 _ _ (up3 b o e n)
  have hv5:upd H4 v (.ins CS dx (putF "level_by_hand" (.ref de) (putF "load_by_hand" (.ref dl) (putF "wares" (.ref g) [])))) v=some (.ins CS dx (putF "level_by_hand" (.ref de) (putF "load_by_hand" (.ref dl) (putF "wares" (.ref g) [])))):=a1_;have fr5:∀{b},upd H4 v (.ins CS dx (putF "level_by_hand" (.ref de) (putF "load_by_hand" (.ref dl) (putF "wares" (.ref g) [])))) b=none->b≠v:=fun {b} e z=>by rw[z,a1_] at e;cases e
  have hl5:upd H4 v (.ins CS dx (putF "level_by_hand" (.ref de) (putF "load_by_hand" (.ref dl) (putF "wares" (.ref g) [])))) dl=some (.dK (ldV hs qs f)):=by rw[a4_ lv];exact s4 _ _ hl3
  have he5:upd H4 v (.ins CS dx (putF "level_by_hand" (.ref de) (putF "load_by_hand" (.ref dl) (putF "wares" (.ref g) [])))) de=some (.dK (mKV (a9' hs) fun h=>.int (lvF hs qs f h))):=by rw[a4_ ev];exact he
  generalize upd H4 v (.ins CS dx (putF "level_by_hand" (.ref de) (putF "load_by_hand" (.ref dl) (putF "wares" (.ref g) []))))=H5 at up5 hv5 fr5 hl5 he5 ⊢;obtain⟨es,hT,hcs⟩:=id tab;have Tv:T≠v:=aN_ hT hv nofun;have tab5:bf' H5 T qHF:=⟨es,up5 _ _ hT Tv,fun e he=>up5 _ _ (hcs e he) (fun z=>by have:=hcs e he;rw[z,hv] at this;cases this)⟩;have Pl5:=keepP up5;refine⟨_,rfl,_,rfl,g,p,d,hs,ts,qs,fp,f,rfl,Pl5,W.wq,tab5,fun dp ad H6 b6 tab6 np hp ls fra=>?_⟩;have nt6:NT H5 H6:=b6.nt (up5 _ _ hT Tv);have hv6:=nt6.ins hv5;have pv':dp≠v:=fr5 np;have av:∀h∈a9' hs,ad h≠v:=fun h hh=>fr5 (fra h hh);refine⟨_,rfl,v,CS,dx,_,rfl,hv6,TS.cl,TS.nP,by show 3<1000;decide,?_⟩;refine k _ (fun b o e n1 n2=>?_) ?_ ⟨dx,dl,de,dp,ad,a1_,(Pl5.G.nt nt6).keep (fun b hb o e=>?_) (fun b xs e=>?_),?_,?_,?_,fun h hh=>?_⟩
  ·rw[a4_ n1];exact b6 _ _ (up5 b o e n1) n2
  ·obtain⟨es,e1,e2⟩:=tab6;exact⟨es,by rw[a4_ (aN_ e1 hv6 nofun)];exact e1,fun e he=>by rw[a4_ (fun z=>by have:=e2 e he;rw[z,hv6] at this;cases this)];exact e2 e he⟩
  ·rw[a4_ (fun z:b=v=>vfp (z▸hb))];exact e
  ·rw[a4_ (aN_ e hv6 nofun)];exact e
  ·rw[a4_ lv];exact nt6.dK hl5
  ·rw[a4_ ev];exact nt6.dK he5
  ·rw[a4_ pv'];exact hp
  ·rw[a4_ (av h hh)];exact ls.1 h hh
theorem scLead:a8' ["self","one","other","web"] ["self","one","other"] (a7' sLead):=f__
def dt'(K:F__)(CS CG CW:Addr):Sp:=fun vs H Q _=>∃(v g p:Addr) (a b:Str) (hs:List (Str × Int)) (ts:List (Str × Str)) (qs:List Pc) (fp:List Addr) (f:Str->Str),vs=[.ref v,.str a,.str b]/\bk' K CS CG CW H v g p hs ts qs fp f/\Wd hs ts qs f/\a∈a9' hs/\b∈a9' hs/\Q (.int (b7' hs qs f a b)) H
theorem iM_{f0 CS CG CW:Addr}{fd:FuncData}(F:Fun K "lead" "Sight.lead" sLead f0 fd)(TS:TxtS K CS)(TG:TxtG K CG)(TW:Txt K mg CW)(cS:CalM P w K mg base CW 2 "strength" ["self","hand"] (br' K CW)):FnOk P w K mg base CX0 3 f0 fd ["self","one","other"] (dt' K CS CG CW):=by
 refine F.ok scLead (fun vs H Q E h=>?_) (fun cdv A outer s H vs Q E hr h=>?_)
 ·obtain⟨v,g,p,a,b,hs,ts,qs,fp,f,rfl,_⟩:=h;rfl
 ·obtain⟨v,g,p,a,b,hs,ts,qs,fp,f,rfl,S,W,ha,hb,k⟩:=h;have hu:=b0_ hr;refine' ⟨_,a2_ ?s1 (a5_ ?s2),?kk⟩
  case s1=>exact a9_ (i:=3) scLead.nd rfl (Or.inl rfl) (ay_ (ay_ (pv 0) rfl) rfl)
  case s2=>exact ab_ (al_ iF_ (al_ b8_ (ai_ hu (ay_ (pv 0) rfl) (pv 1) (fun _ _=>rfl)) (bf_ cS TW.cl hr (pv 3) (a0_ (pv 2) a3_))) (al_ b8_ (ai_ hu (ay_ (pv 0) rfl) (pv 2) (fun _ _=>rfl)) (bf_ cS TW.cl hr (pv 3) (a0_ (pv 1) a3_))))
  case' kk=>skip
  obtain⟨dx,dl,dv,dp,ad,h1,G,h3,h4,h5,h6⟩:=S.ex;obtain⟨dxg,dw,dy,vs,fpw,g1,g2,_⟩:=id G.ex;obtain⟨dxw,d1,l2,d3,zs0,as,ef,w1,_⟩:=id g2.ex;have hnw:(flds d1 l2 d3).lookup ("strength":Str)=none:=b1_ _ _ _ (by decide +kernel) (by decide +kernel) (by decide +kernel);have la:=he_ W.wq W.h64 f a;have lb:=he_ W.wq W.h64 f b;refine⟨_,rfl,v,CS,dx,_,_,rfl,h1,TS.cl,TS.nW,sf_g _ _ _ _,g,CG,dxg,_,_,rfl,g1,TG.cl,TG.nW,bc_ _ _ _,?_⟩;refine setG ?_;dsimp only;refine⟨_,rfl,v,CS,dx,_,_,rfl,h1,TS.cl,TS.nL,sf_l _ _ _ _,_,rfl,dl,_,rfl,dgR h3 ha,_,rfl,p,dxw,_,rfl,w1,hnw,_,rfl,p,b,strOf hs b,hs,ts,fpw,rfl,g2,W.Gd.hnd,b5_ ((au_ hs).mem_iff.mp hb),?_⟩;refine⟨_,_,rfl,rfl,.inl ⟨by omega,by omega⟩,?_⟩;refine⟨_,rfl,v,CS,dx,_,_,rfl,h1,TS.cl,TS.nL,sf_l _ _ _ _,_,rfl,dl,_,rfl,dgR h3 hb,_,rfl,p,dxw,_,rfl,w1,hnw,_,rfl,p,a,strOf hs a,hs,ts,fpw,rfl,g2,W.Gd.hnd,b5_ ((au_ hs).mem_iff.mp ha),?_⟩;exact⟨_,_,rfl,rfl,.inl ⟨by omega,by omega⟩,_,_,rfl,rfl,k⟩
theorem scJoint:a8' ["self","one","other"] ["self","one","other"] (a7' sJoint):=f__
def c8'(K:F__)(CS CG CW:Addr):Sp:=fun vs H Q _=>∃(v g p:Addr) (a b:Str) (hs:List (Str × Int)) (ts:List (Str × Str)) (qs:List Pc) (fp:List Addr) (f:Str->Str),vs=[.ref v,.str a,.str b]/\bk' K CS CG CW H v g p hs ts qs fp f/\Wd hs ts qs f/\a∈a9' hs/\b∈a9' hs/\Q (.int (b3' hs a b)) H
theorem ho_{f0 CS CG CW:Addr}{fd:FuncData}(F:Fun K "joint_strength" "Sight.joint_strength" sJoint f0 fd)(TS:TxtS K CS)(TG:TxtG K CG)(TW:Txt K mg CW)(cS:CalM P w K mg base CW 2 "strength" ["self","hand"] (br' K CW)):FnOk P w K mg base CX0 3 f0 fd ["self","one","other"] (c8' K CS CG CW):=by
 refine F.ok scJoint (fun vs H Q E h=>?_) (fun cdv A outer s H vs Q E hr h=>?_)
 ·obtain⟨v,g,p,a,b,hs,ts,qs,fp,f,rfl,_⟩:=h;rfl
 ·obtain⟨v,g,p,a,b,hs,ts,qs,fp,f,rfl,S,W,ha,hb,k⟩:=h;refine' ⟨_,a5_ ?s2,?kk⟩
  case s2=>exact ab_ (al_ b3_ (bf_ cS TW.cl hr (ay_ (ay_ (pv 0) rfl) rfl) (a0_ (pv 1) a3_)) (bf_ cS TW.cl hr (ay_ (ay_ (pv 0) rfl) rfl) (a0_ (pv 2) a3_)))
  case' kk=>skip
  obtain⟨dx,dl,dv,dp,ad,h1,G,h3,h4,h5,h6⟩:=S.ex;obtain⟨dxg,dw,dy,vs,fpw,g1,g2,_⟩:=id G.ex;obtain⟨dxw,d1,l2,d3,zs0,as,ef,w1,_⟩:=id g2.ex;have hnw:(flds d1 l2 d3).lookup ("strength":Str)=none:=b1_ _ _ _ (by decide +kernel) (by decide +kernel) (by decide +kernel);refine⟨_,rfl,v,CS,dx,_,_,rfl,h1,TS.cl,TS.nW,sf_g _ _ _ _,g,CG,dxg,_,_,rfl,g1,TG.cl,TG.nW,bc_ _ _ _,p,dxw,_,rfl,w1,hnw,_,rfl,p,a,strOf hs a,hs,ts,fpw,rfl,g2,W.Gd.hnd,b5_ ((au_ hs).mem_iff.mp ha),?_⟩;refine⟨_,rfl,v,CS,dx,_,_,rfl,h1,TS.cl,TS.nW,sf_g _ _ _ _,g,CG,dxg,_,_,rfl,g1,TG.cl,TG.nW,bc_ _ _ _,p,dxw,_,rfl,w1,hnw,_,rfl,p,b,strOf hs b,hs,ts,fpw,rfl,g2,W.Gd.hnd,b5_ ((au_ hs).mem_iff.mp hb),?_⟩;exact⟨_,_,rfl,rfl,k⟩
end
end Ev
namespace Ev
open PySem L2
theorem bx_(a b:Str):decide (V.str a=V.str b)=decide (a=b):=by
 by_cases z:a=b
 ·simp[z]
 ·have:¬(V.str a=V.str b):=fun e=>z (V.str.inj e);simp[z,this]
abbrev nb(hs:List (Str × Int))(ts:List (Str × Str))(h:Str):List Str:=near (a9' hs) (tsOf ts) h
def kR(hs:List (Str × Int))(qs:List Pc)(f:Str->Str)(n:Str):List Key:=[.inl (lvF hs qs f n),.inr n]
def risL(hs:List (Str × Int))(ts:List (Str × Str))(qs:List Pc)(f:Str->Str)(h:Str):List Str:=(sortKs ((nb hs ts h).map (kR hs qs f))).map sndK
def kfR(hs:List (Str × Int))(qs:List Pc)(f:Str->Str):V->List Key
 |.str n=>kR hs qs f n
 |_=>[]
theorem ke_{hs:List (Str × Int)}{ts:List (Str × Str)}{qs:List Pc}{f:Str->Str}{h:Str}{zs:List V}(p:zs.Perm ((nb hs ts h).map V.str))(e:zs.map (kfR hs qs f)=sortKs (((nb hs ts h).map V.str).map (kfR hs qs f))):zs=(risL hs ts qs f h).map V.str:=by
 obtain⟨ms,rfl,_⟩:=dP_ p;have e1:(ms.map V.str).map (kfR hs qs f)=ms.map (kR hs qs f):=by rw[al'];rfl
 have e2:((nb hs ts h).map V.str).map (kfR hs qs f)=(nb hs ts h).map (kR hs qs f):=by
  rw[al'];rfl
 rw[e1,e2] at e
 have em:(ms.map (kR hs qs f)).map sndK=ms:=by
  rw[al'];exact List.map_id' ms
 unfold risL;rw[<- e,em]
theorem cz_(hs:List (Str × Int))(ts:List (Str × Str))(qs:List Pc)(f:Str->Str)(h:Str):(risL hs ts qs f h).Perm (nb hs ts h):=by
 unfold risL;have p:=(ap_ ((nb hs ts h).map (kR hs qs f))).map sndK
 have e:((nb hs ts h).map (kR hs qs f)).map sndK=nb hs ts h:=by
  rw[al'];exact List.map_id' _
 rw[e] at p;exact p
theorem ko_{hs:List (Str × Int)}{ts:List (Str × Str)}{h n:Str}(m:n∈nb hs ts h):n∈a9' hs:=(aU'.mp m).1
theorem f8_(hs:List (Str × Int))(ts:List (Str × Str))(h:Str):(nb hs ts h).length<=(a9' hs).length:=a0' ..
abbrev qRN:Str:="Sight.rising_neighbours.<locals>.<lambda>"
def lamR:Expr:=kwE (retE (nthS (bd' co') 0))
abbrev fvR:List Str:=["self"]
theorem freeR:∀y∈(lamS lamR).names,y.2=.free->y.1∈fvR:=by decide +kernel
theorem scLamR:bQ' ["other"] fvR (lamS lamR):=⟨by decide +kernel,rfl,rfl,rfl,by decide +kernel,by decide +kernel,fun x h=>freeR (x,.free) (PySem.mem_of_lookup h) rfl,by decide +kernel⟩
section
variable{P:Program}{w:World}{K:F__}{mg:Str->Option Value}{base:Heap}
def spLamR(K:F__)(CS CG CW:Addr):List V->List V->Hp->VK->XK->Prop:=fun vs gs H Q _=>∃(v g p:Addr) (n:Str) (hs:List (Str × Int)) (ts:List (Str × Str)) (qs:List Pc) (fp:List Addr) (f:Str->Str),vs=[.str n]/\gs=[.ref v]/\bk' K CS CG CW H v g p hs ts qs fp f/\n∈a9' hs/\∀t,H t=none->Q (.ref t) (upd H t (.tup [.int (lvF hs qs f n),.str n]))
theorem jj_{CS CG CW:Addr}(TS:TxtS K CS):LamOk P w K mg base 1 qRN (lamA lamR) (lamB lamR) (lamS lamR) ["other"] fvR (spLamR K CS CG CW):=by
 refine lamOk scLamR (fun pm c' ctv cl us hl=>?_) (fun A outer s H f0 cd cl vs gs Q E hr h hp=>?_)
 ·match us,hl with
  |[_],_=>rfl
 ·obtain⟨v,g,p,n,hs,ts,qs,fp,f,rfl,rfl,S,hn,k⟩:=h;have hu:=b0_ hr;obtain⟨dx,dl,dv,dp,ad,h1,G,h3,h4,h5,h6⟩:=S.ex;refine⟨_,aP_ (a0_ (ai_ hu (ay_ (pv 1) rfl) (pv 0) (fun _ _=>rfl)) (a0_ (pv 0) a3_)),?_⟩;exact⟨_,rfl,v,CS,dx,_,_,rfl,h1,TS.cl,TS.nV,sf_v _ _ _ _,_,rfl,dv,_,rfl,dgR h4 hn,_,rfl,by show 2<=sizeLine;decide,fun t ht=>k t ht⟩
def clR(L:Addr):List (Str × Addr):=[("self",L+1)]
theorem cloR{L f:Addr}{cd:Value}:closureFor (lamS lamR) (PyProof.Rows.envOfC "Sight.rising_neighbours" (a7' co') L f cd)=pure (clR L):=by rfl
theorem celR{L f:Addr}{cd:Value}:∀q∈clR L,(PyProof.Rows.envOfC "Sight.rising_neighbours" (a7' co') L f cd).cells.lookup q.1=some q.2:=by
 intro q hq;simp only[clR,ai',aP',or_false] at hq;rcases hq with rfl;rfl
theorem lclR{L:Addr}:∀x∈fvR,∃c,(clR L).lookup x=some c:=by
 intro x hx;simp only[fvR,ai',aP',or_false] at hx;rcases hx with rfl;exact⟨_,rfl⟩
theorem lkdR:∀x∈fvR,(a7' co').names.lookup x=some .cell:=by decide +kernel
theorem scRisN:a8' ["self","hand"] ["self","hand"] (a7' co'):=f__
def spRisN(K:F__)(CS CG CW T:Addr):Sp:=fun vs H Q _=>∃(v g p:Addr) (h:Str) (hs:List (Str × Int)) (ts:List (Str × Str)) (qs:List Pc) (fp:List Addr) (f:Str->Str),vs=[.ref v,.str h]/\bk' K CS CG CW H v g p hs ts qs fp f/\Wd hs ts qs f/\h∈a9' hs/\bf' H T qRN /\
 ∀l H',But T H H'->bf' H' T qRN->H l=none->H' l=some (.lst ((risL hs ts qs f h).map V.str))->Q (.ref l) H'
set_option maxHeartbeats 1600000 in
theorem jm_{f0 c0 CS CG CW T:Addr}{fd:FuncData}(F:FunC K "rising_neighbours" "Sight.rising_neighbours" co' f0 c0 fd)(B:Bi mg)(TS:TxtS K CS)(TG:TxtG K CG)(TW:Txt K mg CW)(hC:PySem.W.CodeHd base c0 T)(hbm:base.BuiltinsAt mg T)(cN:CalM P w K mg base CW 2 "neighbours" ["self","hand"] (c2' K CW)) :
  FnOk P w K mg base CX0 4 f0 fd ["self","hand"] (spRisN K CS CG CW T):=by
 refine F.ok scRisN (fun vs H Q E h=>?_) (fun A outer s H vs Q E hr h=>?_)
 ·obtain⟨v,g,p,h,hs,ts,qs,fp,f,rfl,_⟩:=h;rfl
 ·obtain⟨v,g,p,h,hs,ts,qs,fp,f,rfl,S,W,hh,tab,k⟩:=h;have hr2:Room 2 _:=hr.mono (by decide);refine' ⟨_,a5_ (ab_ ?l2),?kk⟩
  case l2=>exact ev_ (px:="other") (fvs:=fvR) (cl:=clR s.heap.objs.size) (is:=[0]) (k:=1) rfl (by rfl) B.sorted (a0_ (bf_ cN TW.cl hr2 (ay_ (ay_ (pv 0) rfl) rfl) (a0_ (pv 1) a3_)) a3_) (fF_ (ix_ (P:=T) (c:=c0) rfl cloR rfl hC hbm) iC_) (jj_ (CG:=CG) (CW:=CW) TS) hr celR lclR lkdR rfl
  case' kk=>skip
  obtain⟨dx,dl,dv,dp,ad,h1,G,h3,h4,h5,h6⟩:=S.ex;obtain⟨dxg,dw,dy,vs,fpw,g1,g2,_⟩:=id G.ex;obtain⟨dxw,d1,l2,d3,zs0,as,ef,w1,_⟩:=id g2.ex;have hnw:(flds d1 l2 d3).lookup ("neighbours":Str)=none:=b1_ _ _ _ (by decide +kernel) (by decide +kernel) (by decide +kernel);refine⟨_,rfl,v,CS,dx,_,_,rfl,h1,TS.cl,TS.nW,sf_g _ _ _ _,g,CG,dxg,_,_,rfl,g1,TG.cl,TG.nW,bc_ _ _ _,p,dxw,_,rfl,w1,hnw,_,rfl,p,h,hs,ts,fpw,rfl,g2,W.Gd.nnd,(au_ hs).mem_iff.mp hh,fun ln nn=>?_⟩;have s1:=Same.new (o:=.lst ((nb hs ts h).map V.str)) nn;have e1:upd H ln (.lst ((nb hs ts h).map V.str)) ln=some (.lst ((nb hs ts h).map V.str)):=a1_;show tNil _ (upd H ln (.lst ((nb hs ts h).map V.str))) _;generalize upd H ln (.lst ((nb hs ts h).map V.str))=H1 at s1 e1 ⊢;refine nilG (consG ?_);refine iz_ (tab.same s1) rfl rfl rfl rfl fun fl c' H4 b4 tab4 hfl hc'=>?_;obtain⟨tv,hT⟩:=bb_ tab;have nt4:NT H1 H4:=b4.nt (s1 _ _ hT);have S4:=(S.same s1).nt nt4;have n8:(nb hs ts h).length<=8:=by have:=f8_ hs ts h;have:=W.Gd.nlen;have:=W.Gd.h8;omega
  refine⟨.ref ln,fl,c',(nb hs ts h).map V.str,kfR hs qs f,[false,true],[.ref v],rfl,rfl,hfl,hc',.inl ⟨ln,rfl,.of (nt4.lst e1)⟩,by rw[aa'];omega,⟨by decide,fun k hk=>?_⟩,rfl,fun H' x sm hx=>?_,fun l zs H5 s5 nl nl4 pz ek=>?_⟩
  ·obtain⟨v,hv,rfl⟩:=ac'.mp hk;obtain⟨n,_,rfl⟩:=ac'.mp hv;rfl
  ·obtain⟨n,hn,rfl⟩:=ac'.mp hx;refine⟨v,g,p,n,hs,ts,qs,fp,f,rfl,rfl,S4.same sm,ko_ hn,fun t nt=>⟨Same.new nt,t,rfl,?_⟩⟩;rw[a1_];rfl
  rw[ke_ pz ek];have s6:Same H4 (upd H5 l (.lst ((risL hs ts qs f h).map V.str))):=s5.trans (Same.new nl);refine k l _ (fun b o e n=>s6 _ _ (b4 _ _ (s1 _ _ e) n)) (tab4.same s6) ?_ a1_;cases z:H l with
  |none=>rfl
  |some o=>
   by_cases y:l=T
   ·obtain⟨es,e,_⟩:=tab4;rw[y,e] at nl4;cases nl4
   ·rw[b4 _ _ (s1 _ _ z) y] at nl4;cases nl4
theorem scFits:a8' ["guard","lead","burden"] ["guard","lead","burden"] (a7' sFits):=f__
def fitB(g:Str)(a b:Int):Bool:=if g="high" then decide (0<a) else if g="fall" then decide (b<2 * a) else decide (b<=a)
def spFits:Sp:=fun vs H Q _=>∃(g:Str) (a b:Int),vs=[.str g,.int a,.int b]/\Q (.bl (fitB g a b)) H
theorem iR_{f0:Addr}{fd:FuncData}(F:Fun K "fits" "fits" sFits f0 fd):FnOk P w K mg base CX0 1 f0 fd ["guard","lead","burden"] spFits:=by
 refine F.ok scFits (fun vs H Q E h=>?_) (fun cdv A outer s H vs Q E hr h=>?_)
 ·obtain⟨g,a,b,rfl,_⟩:=h;rfl
 ·obtain⟨g,a,b,rfl,k⟩:=h;refine' ⟨_,a2_ ?s1 (a2_ ?s2 (a5_ ?s3)),?kk⟩
  case s1=>exact ar_ (ak_ bP_ (pv 0) an_ (nomark _)) (a5_ (ab_ (aQ_ cu_ (pv 1) a7_ (nomark _)))) ac_
  case s2=>exact ar_ (ak_ bP_ (pv 0) an_ (nomark _)) (a5_ (ab_ (aQ_ cu_ (al_ b8_ a7_ (pv 1)) (pv 2) (nomark _)))) ac_
  case s3=>exact ab_ (aQ_ kj_ (pv 1) (pv 2) (nomark _))
  case' kk=>skip
  unfold fitB at k;refine⟨_,rfl,rfl,_,rfl,?_⟩;rw[bx_];refine ite2 (fun c=>?_) (fun c=>?_)
  ·have c:g="high":=of_decide_eq_true c;rw[if_pos c] at k;exact⟨_,rfl,_,_,rfl,rfl,k⟩
  ·have c:¬g="high":=fun z=>c (decide_eq_true z);rw[if_neg c] at k;refine⟨_,rfl,rfl,_,rfl,?_⟩;rw[bx_];refine ite2 (fun c=>?_) (fun c=>?_)
   ·have c:g="fall":=of_decide_eq_true c;rw[if_pos c] at k;exact⟨_,rfl,_,_,rfl,rfl,.inl ⟨by decide,by decide⟩,_,rfl,_,_,rfl,rfl,k⟩
   ·have c:¬g="fall":=fun z=>c (decide_eq_true z);rw[if_neg c] at k;exact⟨_,rfl,_,rfl,_,_,rfl,rfl,k⟩
end
end Ev
namespace Ev
open PySem L2
abbrev Mv:=Str × Str × Str
def kM(m:Mv):List Key:=[.inr m.1,.inr m.2.1,.inr m.2.2]
def wyN(qs:List Pc)(n:Str):Option (List (Str × Str)):=match qs.find? fun q=>decide (q.1=n) with
 |some q=>q.2.2
 |none=>none
theorem i6_{qs:List Pc}(nd:(qs.map (·.1)).Nodup){q:Pc}(h:q∈qs):wyN qs q.1=q.2.2:=by
 unfold wyN;cases e:qs.find? fun p=>decide (p.1=q.1) with
 |none=>
  have:=List.find?_eq_none.mp e q h;simp at this
 |some p=>
  have a:=List.mem_of_find?_eq_some e;have b:=List.find?_some e;have b:p.1=q.1:=of_decide_eq_true b;rw[cI_ nd a h b]
def mayN(hs:List (Str × Int))(ts:List (Str × Str))(qs:List Pc)(n a b:Str):Bool:=goB hs ts (wyN qs n) (some a) (some b)
def hmP(hs:List (Str × Int))(ts:List (Str × Str))(qs:List Pc)(f:Str->Str)(gd:Str)(gv:List Str)(a b n:Str):Bool:=!decide (n∈gv)&&(fitB gd (b7' hs qs f a b) (wtN qs n * b3' hs a b)&&mayN hs ts qs n a b)
def hmv(hs:List (Str × Int))(ts:List (Str × Str))(qs:List Pc)(f:Str->Str)(gd:Str)(gv:List Str)(a b:Str):List Mv:=match (hvAt qs f a).find? (hmP hs ts qs f gd gv a b) with
 |some n=>[(n,a,b)]
 |none=>[]
theorem gF_{α:Type}{p:α->Bool}:∀{l:List α} {i:Nat} {x:α},l[i]? = some x->p x=true->(∀y∈l.take i,p y=false)->l.find? p=some x
 |a::l,0,x,h,hp,_=>by
  cases h;rw[List.find?_cons_of_pos hp]
 |a::l,i+1,x,h,hp,hn=>by
  have na:¬p a=true:=by rw[hn a (by simp)];decide
  rw[List.find?_cons_of_neg na];exact gF_ (by simpa using h) hp fun y hy=>hn y (by simp[hy])
 |[],i,x,h,_,_=>by simp at h
theorem je_{qs:List Pc}{f:Str->Str}{h n:Str}(m:n∈hvAt qs f h):n∈qs.map (·.1)/\f n=h:=by
 obtain⟨a,b⟩:=aU'.mp m;exact⟨(cs_ qs).mem_iff.mp a,of_decide_eq_true b⟩
section
variable{P:Program}{w:World}{K:F__}{mg:Str->Option Value}{base:Heap}
theorem scHvM:a8' ["sight","one","other","guard","given","lead","joint","piece"] ["sight","one","other","guard","given"] (a7' sHvM):=f__
def spHvM(K:F__)(CS CG CW:Addr):Sp:=fun vs H Q _=>∃(v g p lg:Addr) (a b gd:Str) (gv:List Str) (hs:List (Str × Int)) (ts:List (Str × Str)) (qs:List Pc) (fp:List Addr) (f:Str->Str),vs=[.ref v,.str a,.str b,.str gd,.ref lg]/\bk' K CS CG CW H v g p hs ts qs fp f/\Wd hs ts qs f/\a∈a9' hs/\b∈a9' hs/\H lg=some (.lst (gv.map V.str)) /\
 ∀l ys H',Same H H'->H l=none->H' l=some (.lst ys)->ba' K H' ys ((hmv hs ts qs f gd gv a b).map kM)->Q (.ref l) H'
set_option maxHeartbeats 1600000 in
theorem k9_{f0 CS CG CW CP:Addr}{fd:FuncData}(F:Fun K "heaviest_move" "heaviest_move" sHvM f0 fd)(TS:TxtS K CS)(TG:TxtG K CG)(cL:CalM P w K mg base CS 3 "lead" ["self","one","other"] (dt' K CS CG CW))(cJ:CalM P w K mg base CS 3 "joint_strength" ["self","one","other"] (c8' K CS CG CW))(cF:Cal P w K mg base 1 "fits" ["guard","lead","burden"] spFits)(cW:CalX P w K mg base CG 2 "weight" ["self","piece"] (by' K CG CW CP))(cM:CalX P w K mg base CG 3 "may_go" ["self","piece","one","other"] (spGMay K CG CW CP)) :
  FnOk P w K mg base CX0 4 f0 fd ["sight","one","other","guard","given"] (spHvM K CS CG CW):=by
 refine F.ok scHvM (fun vs H Q E h=>?_) (fun cdv A outer s H vs Q E hr h=>?_)
 ·obtain⟨v,g,p,lg,a,b,gd,gv,hs,ts,qs,fp,f,rfl,_⟩:=h;rfl
 ·obtain⟨v,g,p,lg,a,b,gd,gv,hs,ts,qs,fp,f,rfl,S,W,ha,hb,hg,k⟩:=h;have hu:=b0_ hr;have sz:=sizeLine_eq;have hr1:Room 1 _:=hr.mono (by decide);have hr2:Room 2 _:=hr.mono (by decide);refine' ⟨_,?r0,?kk⟩
  case' r0=>refine' a2_ ?s1 ?r1
  case' r1=>refine' a2_ ?s2 ?r2
  case' r2=>refine' a2_ ?s3 (a5_ ?s4)
  case s1=>exact a9_ (i:=5) scHvM.nd rfl (Or.inl rfl) (bf_ cL TS.cl hr (pv 0) (a0_ (pv 1) (a0_ (pv 2) a3_)))
  case s2=>exact a9_ (i:=6) scHvM.nd rfl (Or.inl rfl) (bf_ cJ TS.cl hr (pv 0) (a0_ (pv 1) (a0_ (pv 2) a3_)))
  case' s3=>refine' aG_ PassesOwn.never rfl (am_ (ai_ hu (ay_ (pv 0) rfl) (pv 1) (fun _ _=>rfl))) (a8_ (i:=7) scHvM.nd rfl (Or.inl rfl)) (a5_ ?b3)
  case' b3=>refine' ar_ (PW.pt (d0_ ?c1 (cQ_ ?c2))) (a5_ ?b4) ac_
  case c1=>exact ak_ (cw_ cmpS (bZ' hr 0)) (pv 7) (pv 4) (by with_unfolding_all rfl)
  case c2=>exact aF_ (ae_ cF hr1 (a0_ (pv 3) (a0_ (pv 5) (a0_ (al_ b8_ (i2_ cW TG.cl hr2 (ay_ (pv 0) rfl) (a0_ (pv 7) a3_)) (pv 6)) a3_))))
  case b4=>exact ar_ (aF_ (i2_ cM TG.cl hr (ay_ (pv 0) rfl) (a0_ (pv 7) (a0_ (pv 1) (a0_ (pv 2) a3_))))) (a5_ (ab_ (aE_ (a0_ (aP_ (a0_ (pv 7) (a0_ (pv 1) (a0_ (pv 2) a3_)))) a3_)))) ac_
  case s4=>exact ab_ (aE_ a3_)
  case' kk=>skip
  obtain⟨dx,dl,dv,dp,ad,h1,G,h3,h4,h5,h6⟩:=S.ex;have no:∀{m:Str},¬m="wares"->¬m="load_by_hand"->¬m="level_by_hand"->¬m="pieces_by_hand"->(sflds g dl dv dp).lookup m=none:=fun a b c d=>iG_ _ _ _ _ a b c d;refine⟨_,rfl,v,dx,_,rfl,h1,no (by decide +kernel) (by decide +kernel) (by decide +kernel) (by decide +kernel),_,rfl,_,rfl,v,g,p,a,b,hs,ts,qs,fp,f,rfl,S,W,ha,hb,?_⟩;refine setG ?_;dsimp only;refine⟨_,rfl,v,dx,_,rfl,h1,no (by decide +kernel) (by decide +kernel) (by decide +kernel) (by decide +kernel),_,rfl,_,rfl,v,g,p,a,b,hs,ts,qs,fp,f,rfl,S,W,ha,hb,?_⟩;refine setG ?_;dsimp only;have hl:=h6 a ha;refine⟨_,rfl,v,CS,dx,_,_,rfl,h1,TS.cl,TS.nP,sf_p _ _ _ _,_,rfl,dp,_,rfl,dgR h5 ha,ad a,rfl,⟨_,.of hl⟩,as_ (K:=K) (a:=ad a) (xs:=(hvAt qs f a).map V.str) (fun i σ H'=>∃v7:Option V,σ=[some (.ref v),some (.str a),some (.str b),some (.str gd),some (.ref lg),some (.int (b7' hs qs f a b)),some (.int (b3' hs a b)),v7]/\Same H H'/\∀n∈(hvAt qs f a).take i,hmP hs ts qs f gd gv a b n=false) ⟨none,rfl,Same.refl H,by simp⟩ (fun i σ H' _ ⟨_,_,sm,_⟩=>.of (sm _ _ hl)) ?_ ?_⟩
  ·rintro i x σ H' hx ⟨v7,rfl,sm,nf⟩;obtain⟨n,hn,rfl⟩:=aj_ hx;obtain⟨nm,fn⟩:=je_ (ae' hn);obtain⟨q,hq,rfl⟩:=ac'.mp nm;have G':=G.same sm;have h1':=sm _ _ h1;obtain⟨dxg,dw,dy,vs,fpw,g1,g2,_⟩:=id G'.ex;have hwt:(gflds p dw dy).lookup ("weight":Str)=none:=be_ _ _ _ (by decide +kernel) (by decide +kernel) (by decide +kernel);have hmy:(gflds p dw dy).lookup ("may_go":Str)=none:=be_ _ _ _ (by decide +kernel) (by decide +kernel) (by decide +kernel);have wq:=W.wq q hq;have ew:=ei_ W.nd hq;have ey:=i6_ W.nd hq
   have go:∀{H2:Hp},Same H' H2->hmP hs ts qs f gd gv a b q.1=false->∃v7:Option V,[some (V.ref v),some (V.str a),some (V.str b),some (V.str gd),some (V.ref lg),some (V.int (b7' hs qs f a b)),some (V.int (b3' hs a b)),some (V.str q.1)]=[some (V.ref v),some (V.str a),some (V.str b),some (V.str gd),some (V.ref lg),some (V.int (b7' hs qs f a b)),some (V.int (b3' hs a b)),v7]/\Same H H2/\∀n∈(hvAt qs f a).take (i+1),hmP hs ts qs f gd gv a b n=false:=fun {H2} s2 e=>⟨_,rfl,sm.trans s2,fun m hm=>by
    rw[aq_ hn] at hm;rcases av'.mp hm with hm|hm
    ·exact nf m hm
    ·rw[ay'.mp hm];exact e⟩
   refine setG ?_;dsimp only;refine⟨_,rfl,_,rfl,q.1,gv,rfl,⟨lg,_,rfl,.of (sm _ _ hg),bF_ gv⟩,_,rfl,?_⟩;rw[if_pos rfl];refine ite2 (fun c=>?_) (fun c=>?_)
   ·have c:¬q.1∈gv:=by simpa using c
    refine⟨_,rfl,_,rfl,_,rfl,v,CS,dx,_,_,rfl,h1',TS.cl,TS.nW,sf_g _ _ _ _,g,dxg,_,rfl,g1,hwt,_,rfl,g,p,.str q.1,some q.1,hs,ts,qs,fp,rfl,G',W.nd,rfl,.inl ⟨q,hq,rfl,?_⟩⟩;refine⟨_,rfl,_,_,rfl,rfl,.inl ⟨by omega,by omega⟩,gd,b7' hs qs f a b,q.2.1 * b3' hs a b,rfl,_,rfl,?_⟩;refine ite2 (fun c2=>?_) (fun c2=>?_)
    ·refine⟨_,rfl,v,CS,dx,_,_,rfl,h1',TS.cl,TS.nW,sf_g _ _ _ _,g,dxg,_,rfl,g1,hmy,_,rfl,_,rfl,_,rfl,g,p,.str q.1,.str a,.str b,some q.1,some a,some b,hs,ts,qs,fp,rfl,G',W.nd,W.Gd.nnd,rfl,.inl ⟨q,hq,rfl,rfl,rfl,fun H2 s2=>⟨_,rfl,?_⟩⟩⟩;refine ite2 (fun c3=>?_) (fun c3=>?_)
     ·have pt:hmP hs ts qs f gd gv a b q.1=true:=by
       unfold hmP mayN;rw[ew,ey,c2,decide_eq_false c];simpa using c3
      refine⟨_,rfl,_,rfl,_,rfl,by show 3<=sizeLine;decide,fun t nt=>?_⟩;have s3:=Same.new (o:=.tup [.str q.1,.str a,.str b]) nt;have e3:upd H2 t (.tup [.str q.1,.str a,.str b]) t=some (.tup [.str q.1,.str a,.str b]):=a1_;generalize upd H2 t (.tup [.str q.1,.str a,.str b])=H3 at s3 e3 ⊢;refine⟨by show 1<=sizeLine;decide,fun l nl=>?_⟩;have s4:=Same.new (o:=.lst [.ref t]) nl;have s04:=(sm.trans s2).trans s3;refine k l [.ref t] _ (s04.trans s4) (s04.free nl) a1_ ?_;unfold hmv;rw[gF_ hn pt nf];exact .cons ⟨t,rfl,s4 _ _ e3⟩ .nil
     ·refine go s2 ?_;unfold hmP mayN;rw[ew,ey,c2];have c3:goB hs ts q.2.2 (some a) (some b)=false:=by simpa using c3
      rw[c3,aT',aT']
    ·refine go (Same.refl H') ?_;unfold hmP;rw[ew,show fitB gd (b7' hs qs f a b) (q.2.1 * b3' hs a b)=false by simpa using c2,a2',aT']
   ·have c:q.1∈gv:=by simpa using c
    refine go (Same.refl H') ?_;unfold hmP;rw[decide_eq_true c];rfl
  ·rintro σ H' ⟨v7,rfl,sm,nf⟩;rw[aa',ar'] at nf;refine⟨by show 0<=sizeLine;decide,fun l nl=>?_⟩;refine k l [] _ (sm.trans (Same.new nl)) (sm.free nl) a1_ ?_;unfold hmv;rw[List.find?_eq_none.mpr fun n hn=>by rw[nf n hn];decide];exact .nil
def spWay(K:F__)(CS CG CW T:Addr)(mv:List (Str × Int)->List (Str × Str)->List Pc->(Str->Str)->Str->Str->List Mv):Sp:=fun vs H Q _=>∃(v g p:Addr) (h gd:Str) (hs:List (Str × Int)) (ts:List (Str × Str)) (qs:List Pc) (fp:List Addr) (f:Str->Str),vs=[.ref v,.str h,.str gd]/\bk' K CS CG CW H v g p hs ts qs fp f/\Wd hs ts qs f/\h∈a9' hs/\bf' H T qRN /\
 ∀l ys H',But T H H'->bf' H' T qRN->H l=none->H' l=some (.lst ys)->ba' K H' ys ((mv hs ts qs f gd h).map kM)->Q (.ref l) H'
theorem But.new{T l:Addr}{H G:Hp}(b:But T H G)(hT:∃vs,G T=some (.tbl vs))(n:G l=none):H l=none:=by
 cases z:H l with
 |none=>rfl
 |some o=>
  by_cases y:l=T
  ·obtain⟨vs,e⟩:=hT;rw[y,e] at n;cases n
  ·rw[b _ _ z y] at n;cases n
end
end Ev
namespace Ev
open PySem L2
abbrev MvR:=Rl->List (Str × Int)->List (Str × Str)->List Pc->(Str->Str)->Str->List Mv
def b4'(mv:MvR)(r:Rl)(hs:List (Str × Int))(ts:List (Str × Str))(qs:List Pc)(f:Str->Str):List Mv:=if r.2.2.1="one" then ((a9' hs).flatMap (mv r hs ts qs f)).take 1 else (a9' hs).flatMap (mv r hs ts qs f)
theorem iU_:∀r∈rl,r.2.1≠"shares"->r.2.2.2.isSome=true:=by decide +kernel
theorem fJ_(hs:List (Str × Int))(ts:List (Str × Str))(qs:List Pc)(f:Str->Str)(gd:Str)(gv:List Str)(a b:Str):(hmv hs ts qs f gd gv a b).length<=1:=by
 unfold hmv;split
 ·exact ag' 1
 ·exact aC' 1
theorem bI_{α β:Type}{F:α->β->Prop}:∀{ys:List α} {ks:List β} (n:Nat),Paired F ys ks->Paired F (ys.take n) (ks.take n)
 |_,_,0,_=>.nil
 |_,_,_+1,.nil=>.nil
 |_,_,n+1,.cons h t=>.cons h (bI_ n t)
theorem eH_{α:Type}{g:Str->List α}{n:Nat}(h:∀x,(g x).length<=n):∀l:List Str,(l.flatMap g).length<=n * l.length
 |[]=>by simp
 |a::l=>by
  have:=h a;have ih:=eH_ h l;rw[a3',an',az',Nat.mul_succ];omega
section
variable{P:Program}{w:World}{K:F__}{mg:Str->Option Value}{base:Heap}
theorem scMvFrom:a8' ["sight","hand","words"] ["sight","hand","words"] (a7' c1'):=f__
def spFrom(K:F__)(CS CG CW T:Addr)(pr:Rl->Prop)(mv:MvR):Sp:=fun vs H Q _=>∃(v g p aw:Addr) (h:Str) (hs:List (Str × Int)) (ts:List (Str × Str)) (qs:List Pc) (fp:List Addr) (f:Str->Str),∃r∈rl,vs=[.ref v,.str h,.ref aw]/\pr r/\(∀H',SqT K H' aw [.str r.2.1,.str r.2.2.1,optV r.2.2.2])/\bk' K CS CG CW H v g p hs ts qs fp f/\Wd hs ts qs f/\h∈a9' hs/\bf' H T qRN /\
 ∀l ys H',But T H H'->bf' H' T qRN->H l=none->H' l=some (.lst ys)->ba' K H' ys ((mv r hs ts qs f h).map kM)->Q (.ref l) H'
theorem dw':a8' ["sight","rule","moment","words","moves","hand"] ["sight","rule","moment"] (a7' sSeen):=f__
def spSeen(K:F__)(CS CG CW T:Addr)(pr:Rl->Prop)(mv:MvR):Sp:=fun vs H Q _=>∃(v g p:Addr) (m:Int) (hs:List (Str × Int)) (ts:List (Str × Str)) (qs:List Pc) (fp:List Addr) (f:Str->Str),∃r∈rl,vs=[.ref v,.str r.1,.int m]/\pr r/\bk' K CS CG CW H v g p hs ts qs fp f/\Wd hs ts qs f/\bf' H T qRN /\
 ∀l ys H',But T H H'->bf' H' T qRN->H l=none->H' l=some (.lst ys)->ba' K H' ys ((b4' mv r hs ts qs f).map kM)->Q (.ref l) H'
set_option maxHeartbeats 1600000 in
theorem jd_{f0 CS CG CW T:Addr}{fd:FuncData}{pr:Rl->Prop}{mv:MvR}(F:Fun K "moves_seen" "moves_seen" sSeen f0 fd)(TS:TxtS K CS)(TG:TxtG K CG)(TW:Txt K mg CW)(npr:∀r,pr r->r.2.1≠"turns")(hb:∀r hs ts qs f h,Wd hs ts qs f->(mv r hs ts qs f h).length<=1000)(cWo:Cal P w K mg base 2 "checked_words" ["rule"] (cA' K))(cH:CalM P w K mg base CW 1 "hands" ["self"] (bY' K CW))(cF:Cal P w K mg base 6 "moves_from" ["sight","hand","words"] (spFrom K CS CG CW T pr mv)) :
  FnOk P w K mg base CX0 7 f0 fd ["sight","rule","moment"] (spSeen K CS CG CW T pr mv):=by
 refine F.ok dw' (fun vs H Q E h=>?_) (fun cdv A outer s H vs Q E hr h=>?_)
 ·obtain⟨v,g,p,m,hs,ts,qs,fp,f,r,hr,rfl,_⟩:=h;rfl
 ·obtain⟨v,g,p,m,hs,ts,qs,fp,f,r,hr',rfl,hp,S,W,tab,k⟩:=h;have sz:=sizeLine_eq;have hr1:Room 1 _:=hr.mono (by decide);have hr2:Room 2 _:=hr.mono (by decide);refine' ⟨_,?r0,?kk⟩
  case' r0=>refine' a2_ ?s1 ?r1
  case' r1=>refine' a2_ ?s2 ?r2
  case' r2=>refine' a2_ ?s3 ?r3
  case' r3=>refine' a2_ ?s4 (a5_ ?s5)
  case s1=>exact a9_ (i:=3) dw'.nd rfl (Or.inl rfl) (ae_ cWo hr2 (a0_ (pv 1) a3_))
  case s2=>exact ar_ (ak_ bP_ (ax_ aI_ (pv 3) a7_ (fun _ _=>rfl)) an_ (nomark _)) ag_ ac_
  case s3=>exact a9_ (i:=4) dw'.nd rfl (Or.inl rfl) (aE_ a3_)
  case' s4=>refine' aG_ PassesOwn.never rfl (am_ (dD_ cH TW.cl hr1 (ay_ (ay_ (pv 0) rfl) rfl))) (a8_ (i:=5) dw'.nd rfl (Or.inl rfl)) (a2_ ?b1 (a5_ ?b2))
  case b1=>exact b6_ (bQ_ PySem.F.plainAttrs_list PySem.F.slot_list_extend PySem.F.type_list_extend dI_ (pv 4) (a0_ (ae_ cF hr (a0_ (pv 0) (a0_ (pv 5) (a0_ (pv 3) a3_)))) a3_))
  case b2=>exact ar_ (PW.pt (d0_ (ak_ bP_ (ax_ aI_ (pv 3) a7_ (fun _ _=>rfl)) an_ (nomark _)) (cQ_ (ak_ (ez_ (bZ' hr 0)) (pv 4) (aE_ a3_) (nomark _))))) (a5_ (ab_ (bE_ dt_ (pv 4) ca_ (c6_ a7_)))) ac_
  case s5=>exact ab_ (pv 4)
  case' kk=>skip
  refine⟨_,rfl,r,hr',rfl,fun aw ha=>?_⟩;refine setG ?_;dsimp only;refine⟨_,rfl,aw,_,_,_,rfl,rfl,ha _,rfl,rfl,_,rfl,?_⟩;rw[bx_,decide_eq_false (npr r hp)];refine iteF ?_;refine⟨by show 0<=sizeLine;decide,fun lm nm=>?_⟩;refine setG ?_;dsimp only;have s1:=Same.new (o:=.lst []) nm;have e1:upd H lm (.lst []) lm=some (.lst []):=a1_;generalize upd H lm (.lst [])=H1 at s1 e1 ⊢;obtain⟨dx,dl,dv,dp,ad,h1,G,h3,h4,h5,h6⟩:=(S.same s1).ex;obtain⟨dxg,dw,dy,vs,fpw,g1,g2,_⟩:=id G.ex;obtain⟨dxw,d1,l2,d3,zs0,as,ef,w1,_⟩:=id g2.ex;have hnw:(flds d1 l2 d3).lookup ("hands":Str)=none:=b1_ _ _ _ (by decide +kernel) (by decide +kernel) (by decide +kernel);refine⟨_,rfl,v,CS,dx,_,_,rfl,h1,TS.cl,TS.nW,sf_g _ _ _ _,g,CG,dxg,_,_,rfl,g1,TG.cl,TG.nW,bc_ _ _ _,p,dxw,_,rfl,w1,hnw,p,hs,ts,fpw,rfl,g2,fun lh nh=>?_⟩;have s2:=Same.new (o:=.lst ((a9' hs).map V.str)) nh;have e2:upd H1 lh (.lst ((a9' hs).map V.str)) lh=some (.lst ((a9' hs).map V.str)):=a1_;generalize upd H1 lh (.lst ((a9' hs).map V.str))=H2 at s2 e2 ⊢;have lmh:lm≠lh:=a6_ e1 nh;have s02:=s1.trans s2;obtain⟨tv,hT⟩:=bb_ tab;have neT:∀{b:Addr} {xs:List V},H2 b=some (.lst xs)->b≠T:=fun e z=>by rw[z,s02 _ _ hT] at e;cases e
  have n8:(a9' hs).length<=8:=by have:=W.Gd.nlen;have:=W.Gd.h8;omega
  have bound:∀i,(((a9' hs).take i).flatMap (mv r hs ts qs f)).length<=8000:=fun i=>by
   have:=eH_ (g:=mv r hs ts qs f) (n:=1000) (fun x=>hb r hs ts qs f x W) ((a9' hs).take i);rw[ak'] at this;omega
  refine⟨lh,rfl,⟨_,.of e2⟩,as_ (K:=K) (a:=lh) (xs:=(a9' hs).map V.str) (fun i σ H'=>∃(v5:Option V) (ys:List V),σ=[some (.ref v),some (.str r.1),some (.int m),some (.ref aw),some (.ref lm),v5]/\But T H H'/\bf' H' T qRN/\H' lh=some (.lst ((a9' hs).map V.str))/\H' lm=some (.lst ys)/\ba' K H' ys ((((a9' hs).take i).flatMap (mv r hs ts qs f)).map kM)/\(r.2.2.1="one"->((a9' hs).take i).flatMap (mv r hs ts qs f)=[])) ⟨none,[],rfl,fun b o e n=>s02 _ _ e,tab.same s02,e2,s2 _ _ e1,.nil,fun _=>rfl⟩ (fun i σ H' _ ⟨_,_,_,_,_,z,_⟩=>.of z) ?_ ?_⟩
  ·rintro i x σ H' hx ⟨v5,ys,rfl,bT,tab',hlh,hlm,tu,one⟩;obtain⟨n,hn,rfl⟩:=aj_ hx;have nm':=ae' hn;refine setG ?_;dsimp only;have S':=S.nt (bT.nt hT);refine⟨_,rfl,.inl ⟨rfl,_,.of hlm⟩,_,rfl,_,rfl,_,rfl,v,g,p,aw,n,hs,ts,qs,fp,f,r,hr',rfl,hp,ha,S',W,nm',tab',fun l zs H3 b3 tab3 nl hl tz=>?_⟩;obtain⟨tv',hT'⟩:=bb_ tab';have nt3:=b3.nt hT';have hlm3:=nt3.lst hlm;have tu3:=ba'.nt tu nt3;have lT:l≠T:=fun z=>by rw[z,hT'] at nl;cases nl
   have lml:lm≠l:=a6_ hlm nl;have b03:=bound i;have ly:=Paired.length tu;have lz:=Paired.length tz;rw[aa'] at ly lz;have bz:=hb r hs ts qs f n W;refine⟨lm,l,ys,zs,rfl,rfl,hlm3,hl,by omega,?_⟩;have e4:upd H3 lm (.lst (ys++zs)) lm=some (.lst (ys++zs)):=a1_
   have b4:But T H (upd H3 lm (.lst (ys++zs))):=fun b o e ne=>by
    rw[a4_ (a6_ e nm)];exact b3 _ _ (bT _ _ e ne) ne
   have tab4:bf' (upd H3 lm (.lst (ys++zs))) T qRN:=bf'.putL tab3 hlm3
   have hlh4:upd H3 lm (.lst (ys++zs)) lh=some (.lst ((a9' hs).map V.str)):=by
    rw[a4_ lmh.symm];exact nt3.lst hlh
   have fl:((a9' hs).take (i+1)).flatMap (mv r hs ts qs f)=((a9' hs).take i).flatMap (mv r hs ts qs f)++mv r hs ts qs f n:=by
    rw[aq_ hn,List.flatMap_append,a3',List.flatMap_nil,aA']
   have tu4:ba' K (upd H3 lm (.lst (ys++zs))) (ys++zs) ((((a9' hs).take (i+1)).flatMap (mv r hs ts qs f)).map kM):=by
    rw[fl,am'];exact aA_ (b4_ tu3 hlm3) (b4_ tz hlm3)
   generalize upd H3 lm (.lst (ys++zs))=H4 at e4 b4 tab4 hlh4 tu4 ⊢;dsimp only;refine⟨_,rfl,aw,_,_,_,rfl,rfl,ha _,rfl,rfl,_,rfl,?_⟩;rw[bx_];refine ite2 (fun c=>?_) (fun c=>?_)
   ·have c:r.2.2.1="one":=of_decide_eq_true c;refine⟨_,rfl,by show 0<=sizeLine;decide,fun le ne=>?_⟩;have s5:=Same.new (o:=.lst []) ne;have e5:upd H4 le (.lst []) le=some (.lst []):=a1_;generalize upd H4 le (.lst [])=H5 at s5 e5 ⊢;refine⟨lm,le,ys++zs,rfl,rfl,.of (s5 _ _ e4),.of e5,_,rfl,?_⟩;have ll:=Paired.length tu4;rw[aa'] at ll;refine ite2 (fun c2=>?_) (fun c2=>?_)
    ·refine⟨_,rfl,_,rfl,lm,_,rfl,.of (s5 _ _ e4),fun lq nq=>?_⟩;rw[show cutV (ys++zs) none (some 1)=(ys++zs).take 1 from cK_ (ys++zs) 1];have s6:=Same.new (o:=.lst ((ys++zs).take 1)) nq;have s56:=s5.trans s6;have b6:But T H (upd H5 lq (.lst ((ys++zs).take 1))):=fun b o e n=>s56 _ _ (b4 _ _ e n);refine k lq _ _ b6 (tab4.same s56) (But.new (T:=T) (G:=H5) (fun b o e n=>s5 _ _ (b4 _ _ e n)) (bb_ (tab4.same s5)) nq) a1_ ?_;unfold b4';rw[if_pos c]
     have nz:((a9' hs).take (i+1)).flatMap (mv r hs ts qs f)≠[]:=fun z=>by
      rw[z,aV'] at ll;have y:ys++zs=[]:=List.length_eq_zero_iff.mp ll;rw[y] at c2;simp at c2
     have e7:((a9' hs).flatMap (mv r hs ts qs f)).take 1=(((a9' hs).take (i+1)).flatMap (mv r hs ts qs f)).take 1:=by
      conv=>lhs;rw[<- List.take_append_drop (i+1) (a9' hs),List.flatMap_append]
      cases z:((a9' hs).take (i+1)).flatMap (mv r hs ts qs f) with
      |nil=>exact absurd z nz
      |cons a b=>rfl
     rw[e7,List.map_take];exact bI_ 1 (tu4.same s56)
    ·have z:ys++zs=[]:=by simpa using c2
     refine⟨_,_,rfl,fun b o e n=>s5 _ _ (b4 _ _ e n),tab4.same s5,s5 _ _ hlh4,s5 _ _ e4,tu4.same s5,fun _=>?_⟩;rw[z,aV'] at ll;exact List.length_eq_zero_iff.mp ll.symm
   ·refine⟨_,_,rfl,b4,tab4,hlh4,e4,tu4,fun z=>absurd (decide_eq_true z) c⟩
  ·rintro σ H' ⟨v5,ys,rfl,bT,tab',hlh,hlm,tu,one⟩;rw[aa',ar'] at tu one;refine⟨_,rfl,k lm ys H' bT tab' nm hlm ?_⟩;unfold b4';by_cases c:r.2.2.1="one"
   ·rw[if_pos c];have:=one c;rw[this] at tu ⊢;exact tu
   ·rw[if_neg c];exact tu
end
end Ev
namespace Ev
open PySem L2
structure CalC (P:Program) (w:World) (K:F__) (mg:Str->Option Value) (base:Heap) (C:Addr) (k:Nat) (x:Str) (ps:List Str) (sp:Sp):Prop where
 ex:∃f fd,FnOk P w K mg base CX0 k f fd ps sp/\Mk K C f/\mg x=some (.ref C)/\bW' K fd ps []
theorem j6_{X:Cx}{C:Addr}{k:Nat}{x:Str}{ps:List Str}{sp:Sp}{p pos:Pos}{e:Expr}{es:List Expr}{t:TA}(c:CalC X.prog X.w X.K X.mg X.base C k x ps sp)(hr:Room (k+1) X.A)(ha:PA X (e::es) t)(hg:Gl X x:=by rfl)(hdb:(x == ("__debug__":Str))=false:=by decide)
  (he:starEach (e::es) X.env=(false,eval e X.env)::starEach es X.env:=by rfl) (hpl:(backTo pos (starEach es X.env)).any (·.1)=false:=by rfl):PE X (.Call (.Name x p) (e::es) [] pos) (tMake C sp [] E0 t):=by
 obtain⟨f,fd,F,M,m,b⟩:=c.ex;exact ja_ M F hr hg m b .nil pass0 ha hdb he hpl
section
variable{P:Program}{w:World}{K:F__}{mg:Str->Option Value}{base:Heap}
theorem scWholeF:a8' ["thing","least"] ["thing","least"] (a7' dn'):=f__
def cL':Sp:=fun vs H Q _=>∃i a:Int,vs=[.int i,.int a]/\Q (.bl (decide (a<=i))) H
theorem fN_{f0:Addr}{fd:FuncData}(F:Fun K "is_whole_from" "is_whole_from" dn' f0 fd)(cI:Cal P w K mg base 1 "is_whole" ["thing"] spIsW):FnOk P w K mg base CX0 2 f0 fd ["thing","least"] cL':=by
 refine F.ok scWholeF (fun vs H Q E h=>?_) (fun cdv A outer s H vs Q E hr h=>?_)
 ·obtain⟨i,a,rfl,_⟩:=h;rfl
 ·obtain⟨i,a,rfl,k⟩:=h;refine⟨_,a5_ (ab_ (bs_ (ae_ cI hr (a0_ (pv 0) a3_)) (bg_ (aQ_ et_ (pv 1) (pv 0) (nomark _))))),?_⟩;exact⟨_,rfl,i,rfl,_,rfl,iteT ⟨_,rfl,_,rfl,_,_,rfl,rfl,k⟩⟩
theorem dC':a8' ["thing"] ["thing"] (a7' cg'):=f__
def bX':Sp:=fun vs H Q _=>∃i:Int,vs=[.int i]/\0<=i/\Q (.int i) H
theorem eu_{f0:Addr}{fd:FuncData}(F:Fun K "checked_moments" "checked_moments" cg' f0 fd)(cI:Cal P w K mg base 2 "is_whole_from" ["thing","least"] cL'):FnOk P w K mg base CX0 3 f0 fd ["thing"] bX':=by
 refine F.ok dC' (fun vs H Q E h=>?_) (fun cdv A outer s H vs Q E hr h=>?_)
 ·obtain⟨i,rfl,_⟩:=h;rfl
 ·obtain⟨i,rfl,h0,k⟩:=h;refine⟨_,a2_ (ar_ (aJ_ (aF_ (ae_ cI hr (a0_ (pv 0) (a0_ a7_ a3_))))) ag_ ac_) (a5_ (ab_ (pv 0))),?_⟩;refine⟨_,rfl,i,0,rfl,_,rfl,?_⟩;rw[decide_eq_true h0];exact iteF ⟨_,rfl,k⟩
theorem scCStart:a8' ["goods","stand","rule"] ["goods","stand","rule"] (a7' cY'):=f__
def cr'(K:F__)(CG CW:Addr):Sp:=fun vs H Q E=>∃(g d:V),∃r∈rl,vs=[g,d,.str r.1]/\b9' K CG CW [g,d] H Q E
theorem gr_{f0 CG CW:Addr}{fd:FuncData}(F:Fun K "checked_start" "checked_start" cY' f0 fd)(cWo:Cal P w K mg base 2 "checked_words" ["rule"] (cA' K))(cS:Cal P w K mg base 2 "checked_stand" ["goods","stand"] (b9' K CG CW)):FnOk P w K mg base CX0 3 f0 fd ["goods","stand","rule"] (cr' K CG CW):=by
 refine F.ok scCStart (fun vs H Q E h=>?_) (fun cdv A outer s H vs Q E hr h=>?_)
 ·obtain⟨g,d,r,hr,rfl,_⟩:=h;rfl
 ·obtain⟨g,d,r,hr',rfl,h⟩:=h;refine⟨_,a2_ (b6_ (ae_ cWo hr (a0_ (pv 2) a3_))) (a5_ (ab_ (ae_ cS hr (a0_ (pv 0) (a0_ (pv 1) a3_))))),?_⟩;exact⟨_,rfl,r,hr',rfl,fun a _=>⟨_,rfl,_,rfl,h⟩⟩
structure Stn (K:F__) (CG CW:Addr) (H:Hp) (g p d:Addr) (hs:List (Str × Int)) (ts:List (Str × Str)) (qs:List Pc) (fp:List Addr) (ns:List Str) (f:Str->Str):Prop where
 G:bc' K CG CW H g p hs ts qs fp
 dfp:d∉fp
 hd:H d=some (.dK (stF ns f))
 so:StandOk hs qs ns f
 has:∀b∈fp,∃o,H b=some o/\∀vs,o≠.tbl vs
theorem Stn.nt{CG CW g p d:Addr}{H G:Hp}{hs:List (Str × Int)}{ts:List (Str × Str)}{qs:List Pc}{fp:List Addr}{ns:List Str}{f:Str->Str}(S:Stn K CG CW H g p d hs ts qs fp ns f)(s:NT H G):Stn K CG CW G g p d hs ts qs fp ns f:=⟨S.G.nt s,S.dfp,s.dK S.hd,S.so,fun b hb=>by
 obtain⟨o,e,n⟩:=S.has b hb;exact⟨o,s _ _ e n,n⟩⟩
structure Tb (H:Hp) (T1 T2:Addr):Prop where
 a:bf' H T1 qHF
 b:bf' H T2 qRN
 ne:T1≠T2
theorem cR':a8' ["goods","stand","rule","moment","placed"] ["goods","stand","rule","moment"] (a7' cu'):=f__
def ck'(K:F__)(CG CW T1 T2:Addr)(pr:Rl->Prop)(mv:Int->MvR):Sp:=fun vs H Q _=>∃(g p d:Addr) (m:Int) (hs:List (Str × Int)) (ts:List (Str × Str)) (qs:List Pc) (fp:List Addr) (ns:List Str) (f:Str->Str),∃r∈rl,vs=[.ref g,.ref d,.str r.1,.int m]/\pr r/\0<=m/\Stn K CG CW H g p d hs ts qs fp ns f/\Wd hs ts qs f/\Tb H T1 T2 /\
 ∀l ys H',NT H H'->Tb H' T1 T2->H l=none->H' l=some (.lst ys)->ba' K H' ys ((b4' (mv m) r hs ts qs f).map kM)->Q (.ref l) H'
set_option maxHeartbeats 1600000 in
theorem fj_{f0 CS CG CW T1 T2:Addr}{fd:FuncData}{pr:Rl->Prop}{mv:MvR}(F:Fun K "moves_of" "moves_of" cu' f0 fd)(cSt:Cal P w K mg base 3 "checked_start" ["goods","stand","rule"] (cr' K CG CW))(cMk:CalC P w K mg base CS 7 "Sight" ["self","goods","placed"] (cZ' K CS CG CW T1))(cSe:Cal P w K mg base 7 "moves_seen" ["sight","rule","moment"] (spSeen K CS CG CW T2 pr mv))(cMo:Cal P w K mg base 3 "checked_moments" ["thing"] bX') :
  FnOk P w K mg base CX0 9 f0 fd ["goods","stand","rule","moment"] (ck' K CG CW T1 T2 pr (fun _=>mv)):=by
 refine F.ok cR' (fun vs H Q E h=>?_) (fun cdv A outer s H vs Q E hr h=>?_)
 ·obtain⟨g,p,d,m,hs,ts,qs,fp,ns,f,r,hr,rfl,_⟩:=h;rfl
 ·obtain⟨g,p,d,m,hs,ts,qs,fp,ns,f,r,hr',rfl,hp,m0,S,W,tb,k⟩:=h;have hr3:Room 3 _:=hr.mono (by decide);have hr7:Room 7 _:=hr.mono (by decide);refine' ⟨_,a2_ ?s1 (a5_ ?s2),?kk⟩
  case s1=>exact a9_ (i:=4) cR'.nd rfl (Or.inl rfl) (ae_ cSt hr3 (a0_ (pv 0) (a0_ (pv 1) (a0_ (pv 2) a3_))))
  case s2=>exact ab_ (ae_ cSe hr7 (a0_ (j6_ cMk hr (a0_ (pv 0) (a0_ (pv 4) a3_))) (a0_ (pv 2) (a0_ (ae_ cMo hr3 (a0_ (pv 3) a3_)) a3_))))
  case' kk=>skip
  refine⟨_,rfl,_,rfl,_,rfl,_,_,r,hr',rfl,g,p,d,hs,ts,qs,fp,ns,f,rfl,S.G,S.dfp,S.hd,S.so,W.nd,W.h64,fun dp H1 s1 n1 e1=>?_⟩;refine setG ?_;dsimp only
  have d1fp:dp∉fp:=fun hm=>by
   obtain⟨o,e,_⟩:=S.has dp hm;rw[e] at n1;cases n1
  have Pl:b2' K CG CW H1 g p dp hs ts qs fp f:=⟨S.G.same s1,W.Gd,d1fp,e1,W.at_,W.nd,W.h64⟩;refine⟨_,rfl,_,rfl,fun v dx hv hdx ne=>?_⟩;have s2:Same H1 (upd (upd H1 dx (.own v)) v (.ins CS dx [])):=(Same.new hdx).trans (Same.new (by rw[a4_ ne.symm];exact hv));have e2:upd (upd H1 dx (.own v)) v (.ins CS dx []) v=some (.ins CS dx []):=a1_;generalize upd (upd H1 dx (.own v)) v (.ins CS dx [])=H2 at s2 e2 ⊢
  have vfp:v∉fp:=fun hm=>by
   obtain⟨o,e,_⟩:=S.has v hm;rw[s1 _ _ e] at hv;cases hv
  have s02:=s1.trans s2;have Pl2:b2' K CG CW H2 g p dp hs ts qs fp f:=⟨Pl.G.same s2,W.Gd,d1fp,s2 _ _ e1,W.at_,W.nd,W.h64⟩;refine⟨v,dx,g,p,dp,hs,ts,qs,fp,f,rfl,e2,vfp,Pl2,W,tb.a.same s02,fun H3 k3 tab3 S3=>⟨rfl,?_⟩⟩;obtain⟨tv1,hT1⟩:=bb_ tb.a;obtain⟨tv2,hT2⟩:=bb_ tb.b
  have nv:∀{b:Addr} {o:HO},H b=some o->b≠v:=fun e z=>by
   rw[z] at e;rw[s1 _ _ e] at hv;cases hv
  have k03:∀b o,H b=some o->b≠T1->H3 b=some o:=fun b o e n=>k3 b o (s02 _ _ e) (nv e) n;have nt3:NT H H3:=fun b o e n=>k03 b o e (fun z=>by rw[z,hT1] at e;exact n _ (Option.some.inj e).symm)
  have tb2:bf' H3 T2 qRN:=by
   obtain⟨es,a1,a2⟩:=tb.b;exact⟨es,k03 _ _ a1 tb.ne.symm,fun x hx=>nt3 _ _ (a2 x hx) nofun⟩
  refine⟨_,rfl,_,rfl,m,rfl,m0,?_⟩;refine⟨v,g,p,m,hs,ts,qs,fp,f,r,hr',rfl,hp,S3,W,tb2,fun l ys H4 b4 tab4 nl hl tu=>?_⟩;obtain⟨tv3,hT3⟩:=bb_ tb2;have nt4:=b4.nt hT3;refine k l ys H4 (nt3.trans nt4) ⟨?_,tab4,tb.ne⟩ ?_ hl tu
  ·obtain⟨es,a1,a2⟩:=tab3;exact⟨es,b4 _ _ a1 tb.ne,fun x hx=>nt4 _ _ (a2 x hx) nofun⟩
  ·cases z:H l with
   |none=>rfl
   |some o=>
    by_cases y:l=T1
    ·obtain⟨es,a1,_⟩:=tab3;rw[y,a1] at nl;cases nl
    ·rw[k03 _ _ z y] at nl;cases nl
end
end Ev
namespace Ev
open PySem L2
def bJ'(hs:List (Str × Int))(ts:List (Str × Str))(qs:List Pc)(f:Str->Str)(gd h:Str):List Mv->List Str->List Mv
 |ms,[]=>ms
 |ms,o::l=>if 0<b7' hs qs f h o then bJ' hs ts qs f gd h (ms++hmv hs ts qs f gd (ms.map (·.1)) h o) l else bJ' hs ts qs f gd h ms l
def bu'(hs:List (Str × Int))(ts:List (Str × Str))(qs:List Pc)(f:Str->Str)(gd h:Str):List Mv:=bJ' hs ts qs f gd h [] (risL hs ts qs f h)
section
variable{P:Program}{w:World}{K:F__}{mg:Str->Option Value}{base:Heap}
theorem bT':a8' ["sight","hand","guard","moves","other","given"] ["sight","hand","guard"] (a7' cw'):=f__
set_option maxHeartbeats 1600000 in
theorem fD_{f0 CS CG CW T:Addr}{fd:FuncData}(F:Fun K "moves_by_below" "moves_by_below" cw' f0 fd)(TS:TxtS K CS)(cR:CalM P w K mg base CS 4 "rising_neighbours" ["self","hand"] (spRisN K CS CG CW T))(cL:CalM P w K mg base CS 3 "lead" ["self","one","other"] (dt' K CS CG CW))(cH:Cal P w K mg base 4 "heaviest_move" ["sight","one","other","guard","given"] (spHvM K CS CG CW)):FnOk P w K mg base CX0 5 f0 fd ["sight","hand","guard"] (spWay K CS CG CW T bu'):=by
 refine F.ok bT' (fun vs H Q E h=>?_) (fun cdv A outer s H vs Q E hr h=>?_)
 ·obtain⟨v,g,p,h,gd,hs,ts,qs,fp,f,rfl,_⟩:=h;rfl
 ·obtain⟨v,g,p,h,gd,hs,ts,qs,fp,f,rfl,S,W,hh,tab,k⟩:=h;have sz:=sizeLine_eq;have hr3:Room 3 _:=hr.mono (by decide);refine' ⟨_,a2_ ?s1 (a2_ ?s2 (a5_ ?s3)),?kk⟩
  case s1=>exact a9_ (i:=3) bT'.nd rfl (Or.inl rfl) (aE_ a3_)
  case' s2=>refine' aG_ PassesOwn.never rfl (am_ (bf_ cR TS.cl hr (pv 0) (a0_ (pv 1) a3_))) (a8_ (i:=4) bT'.nd rfl (Or.inl rfl)) (a5_ (ar_ ?t1 (a2_ ?b1 (a5_ ?b2)) ac_))
  case t1=>exact ak_ cu_ (bf_ cL TS.cl hr3 (pv 0) (a0_ (pv 1) (a0_ (pv 4) a3_))) a7_ (nomark _)
  case b1=>exact gZ_ (i:=5) ["move"] 1 [] bT'.nd rfl (Or.inl rfl) (am_ (pv 3)) (fun fp s H=>a8_ (i:=0) (show (["move"]:List Str).Nodup by decide +kernel) rfl (Or.inl rfl)) (fun fp s H=>aY_) (fun fp s H=>ax_ (ixK (K:=K) rIxT aI_) (pv 0) a7_ (fun _ _=>rfl))
  case b2=>exact b6_ (bQ_ PySem.F.plainAttrs_list PySem.F.slot_list_extend PySem.F.type_list_extend dI_ (pv 3) (a0_ (ae_ cH hr (a0_ (pv 0) (a0_ (pv 1) (a0_ (pv 4) (a0_ (pv 2) (a0_ (pv 5) a3_)))))) a3_))
  case s3=>exact ab_ (pv 3)
  case' kk=>skip
  have n8:(a9' hs).length<=8:=by have:=W.Gd.nlen;have:=W.Gd.h8;omega
  refine⟨by show 0<=sizeLine;decide,fun lm nm=>?_⟩;refine setG ?_;dsimp only;have s1:=Same.new (o:=.lst []) nm;have e1:upd H lm (.lst []) lm=some (.lst []):=a1_;generalize upd H lm (.lst [])=H1 at s1 e1 ⊢;have S1:=S.same s1;have tab1:=tab.same s1;obtain⟨dx,dl,dv,dp,ad,h1,G,h3,h4,h5,h6⟩:=S1.ex;refine⟨_,rfl,v,dx,_,rfl,h1,iG_ _ _ _ _ (by decide +kernel) (by decide +kernel) (by decide +kernel) (by decide +kernel),_,rfl,v,g,p,h,hs,ts,qs,fp,f,rfl,S1,W,hh,tab1,fun l1 H2 b2 tab2 n1 e2=>?_⟩;obtain⟨tv,hT⟩:=bb_ tab1;obtain⟨tv2,hT2⟩:=bb_ tab2;have nt2:=b2.nt hT;have S2:=S1.nt nt2;have m2:=nt2.lst e1;have lml:lm≠l1:=a6_ e1 n1;have per:=cz_ hs ts qs f h;have inn:∀x∈risL hs ts qs f h,x∈a9' hs:=fun x hx=>ko_ (per.mem_iff.mp hx)
  have ll:(risL hs ts qs f h).length<=8:=by
   rw[per.length_eq];have:=f8_ hs ts h;omega
  have bT:But T H H2:=fun b o e n=>b2 _ _ (s1 _ _ e) n;refine⟨l1,rfl,⟨_,.of e2⟩,as_ (K:=K) (a:=l1) (xs:=(risL hs ts qs f h).map V.str) (fun i σ H'=>∃(v4 v5:Option V) (ys:List V) (ms:List Mv),σ=[some (.ref v),some (.str h),some (.str gd),some (.ref lm),v4,v5]/\But T H H'/\bf' H' T qRN/\H' l1=some (.lst ((risL hs ts qs f h).map V.str))/\H' lm=some (.lst ys)/\ba' K H' ys (ms.map kM)/\ms.length<=i/\bJ' hs ts qs f gd h ms ((risL hs ts qs f h).drop i)=bu' hs ts qs f gd h) ⟨none,none,[],[],rfl,bT,tab2,e2,m2,.nil,ag' _,rfl⟩ (fun i σ H' _ ⟨_,_,_,_,_,_,_,z,_⟩=>.of z) ?_ ?_⟩
  ·rintro i x σ H3 hx ⟨v4,v5,ys,ms,rfl,bT3,tab3,l3,m3,t3,lms,eq3⟩;obtain⟨o,ho,rfl⟩:=aj_ hx;have hi:i<(risL hs ts qs f h).length:=(ab'.mp ho).1;have om:=inn o (ae' ho)
   have dr:(risL hs ts qs f h).drop i=o::(risL hs ts qs f h).drop (i+1):=by
    obtain⟨h1,h2⟩:=ab'.mp ho;rw[List.drop_eq_getElem_cons h1,h2]
   rw[dr] at eq3;obtain⟨tv0,hT0⟩:=bb_ tab;have S3:=S.nt (bT3.nt hT0);obtain⟨dx3,_,_,_,_,k1,_⟩:=S3.ex;have ly:=Paired.length t3;rw[aa'] at ly;refine setG ?_;dsimp only;refine⟨_,rfl,v,dx3,_,rfl,k1,iG_ _ _ _ _ (by decide +kernel) (by decide +kernel) (by decide +kernel) (by decide +kernel),_,rfl,_,rfl,v,g,p,h,o,hs,ts,qs,fp,f,rfl,S3,W,hh,om,_,_,rfl,rfl,_,rfl,?_⟩;refine ite2 (fun c=>?_) (fun c=>?_)
   ·have c:0<b7' hs qs f h o:=by simpa using c
    have eq3:bJ' hs ts qs f gd h (ms++hmv hs ts qs f gd (ms.map (·.1)) h o) ((risL hs ts qs f h).drop (i+1))=bu' hs ts qs f gd h:=by
     rw[bJ',if_pos c] at eq3;exact eq3
    refine⟨_,rfl,lm,rfl,⟨_,.of m3⟩,fun D hD=>?_⟩;refine aR_ (own:=1) (fv:=[]) (xs:=ys) rfl gok1 (fun j out H'=>Same H3 H'/\H' D=some (.lst out)/\out=((ms.map (·.1)).take j).map V.str) ⟨Same.new hD,a1_,rfl⟩ (fun j out H' _ ⟨sm,_⟩=>.of (sm _ _ m3)) (fun out H4 ⟨s4,d4,eo⟩=>?_) (fun j x out H' hx ⟨sm,hd,eo⟩=>?_);rotate_left
    ·obtain⟨q,hq,a,rfl,ha⟩:=aD_ t3 hx;have hj:j<ms.length:=(ab'.mp hq).1;refine⟨_,rfl,rfl,fun Nx hN=>yesT ?_⟩;refine⟨_,rfl,a,_,0,.str q.1,rfl,rfl,.of (sm _ _ ha),L2.bs' (j:=0) rfl,out,hd,?_,hN (out++[.str q.1]) _ ⟨aC_ sm hD,a1_,?_⟩⟩
     ·rw[eo,aa',ak'];omega
     ·rw[eo,aq_ (show (ms.map (·.1))[j]? = some q.1 by rw[ao',hq];rfl),am'];rfl
    rw[ly,aJ' (by rw[aa'];exact ag' _)] at eo;subst eo;refine setG ?_;dsimp only;have m4:=s4 _ _ m3;refine⟨_,rfl,.inl ⟨rfl,_,.of m4⟩,?_⟩;refine⟨_,rfl,_,rfl,_,rfl,_,rfl,_,rfl,v,g,p,D,h,o,gd,ms.map (·.1),hs,ts,qs,fp,f,rfl,S3.same s4,W,hh,om,d4,fun l5 zs H5 s5 n5 e5 t5=>?_⟩;have s35:=s4.trans s5;have m5:=s35 _ _ m3;have lz:=Paired.length t5;have hl:=fJ_ hs ts qs f gd (ms.map (·.1)) h o;rw[aa'] at lz;refine⟨lm,l5,ys,zs,rfl,rfl,m5,e5,by omega,?_⟩;refine⟨_,_,ys++zs,ms++hmv hs ts qs f gd (ms.map (·.1)) h o,rfl,fun b u e n=>?_,bf'.putL (tab3.same s35) m5,?_,a1_,?_,?_,eq3⟩
    ·rw[a4_ (a6_ e nm)];exact s35 _ _ (bT3 _ _ e n)
    ·rw[a4_ lml.symm];exact s35 _ _ l3
    ·rw[am'];exact aA_ (b4_ (t3.same s35) m5) (b4_ t5 m5)
    ·rw[an'];omega
   ·have c:¬0<b7' hs qs f h o:=by simpa using c
    refine⟨_,_,ys,ms,rfl,bT3,tab3,l3,m3,t3,by omega,?_⟩;rw[bJ',if_neg c] at eq3;exact eq3
  ·rintro σ H3 ⟨v4,v5,ys,ms,rfl,bT3,tab3,l3,m3,t3,lms,eq3⟩;rw[aa',List.drop_length] at eq3;refine⟨_,rfl,k lm ys H3 bT3 tab3 nm m3 ?_⟩;rw[<- eq3];exact t3
end
end Ev
namespace Ev
open PySem L2
section
variable{P:Program}{w:World}{K:F__}{mg:Str->Option Value}{base:Heap}
theorem scWeightL:a8' ["_law_state_here","_law_great"] ["_law_state_here","_law_great"] (a7' cv'):=f__
def ce':Sp:=fun vs H Q _=>∃(l:Addr) (g:Int),vs=[.ref l,.int g]/\0<=g/\g<4/\stt H l/\∀r H',1<=r->r<=1000000000->But l H H'->stt H' l->Q (.int r) H'
theorem fx_{f:Addr}{fd:FuncData}(F:Fun K "_law_weight" "_law_weight" cv' f fd)(cD:Cal P w K mg base 2 "_law_digit" ["_law_state_here","_law_base"] bF'):FnOk P w K mg base CX0 3 f fd ["_law_state_here","_law_great"] ce':=by
 refine F.ok scWeightL (fun vs H Q E h=>?_) (fun cdv A outer s H vs Q E hr h=>?_)
 ·obtain⟨l,g,rfl,_⟩:=h;rfl
 ·obtain⟨l,g,rfl,g0,g4,st,k⟩:=h;refine' ⟨_,a2_ ?s1 (a5_ ?s2),?kk⟩
  case s1=>exact ar_ (ak_ bP_ (pv 1) a7_ (nomark _)) (a5_ (ab_ (ax_ aH_ (aE_ (a0_ (al_ in_ a7_ a7_) (a0_ (al_ b3_ a7_ (ae_ cD hr (a0_ (pv 0) (a0_ (al_ in_ a7_ a7_) a3_)))) a3_))) (ae_ cD hr (a0_ (pv 0) (a0_ a7_ a3_))) (fun _ _=>rfl)))) ac_
  case s2=>exact ab_ (al_ b3_ a7_ (ae_ cD hr (a0_ (pv 0) (a0_ (ax_ aH_ (aE_ (a0_ a7_ (a0_ a7_ (a0_ a7_ a3_)))) (pv 1) (fun _ _=>rfl)) a3_))))
  case' kk=>skip
  refine⟨_,rfl,rfl,_,rfl,?_⟩;refine ite2 (fun c=>?_) (fun c=>?_)
  ·refine⟨_,_,rfl,rfl,⟨by decide,by decide,by decide⟩,_,rfl,_,_,rfl,rfl,⟨by decide,by decide,by decide⟩,l,(10:Int) ^ (9:Int).toNat,rfl,by decide,by decide,st,fun r1 H1 q0 q1 b1 st1=>⟨_,_,rfl,rfl,?_⟩⟩;have q1:r1<1000000000:=q1;refine⟨by show 2<=sizeLine;decide,fun lx nx=>?_⟩;have s2:=Same.new (o:=.lst [.int ((10:Int) ^ (9:Int).toNat),.int (1+r1)]) nx;have e2:upd H1 lx (.lst [.int ((10:Int) ^ (9:Int).toNat),.int (1+r1)]) lx=some (.lst [.int ((10:Int) ^ (9:Int).toNat),.int (1+r1)]):=a1_;have xl:=st1.ne nx;generalize upd H1 lx (.lst [.int ((10:Int) ^ (9:Int).toNat),.int (1+r1)])=H2 at s2 e2 ⊢;refine⟨_,rfl,l,2,rfl,by decide,by decide,st1.same s2,fun r2 H3 u0 u1 b3 st3=>?_⟩
   obtain⟨v,hv,x,rfl,x1,x2⟩:=hitL (p:=fun v:V=>∃x:Int,v=V.int x/\1<=x/\x<=1000000000) (xs:=[V.int ((10:Int) ^ (9:Int).toNat),.int (1+r1)]) (n:=2) rfl u0 u1 (fun v hv=>by
    simp only[ai',aP',or_false] at hv;rcases hv with rfl|rfl
    ·exact⟨_,rfl,by decide,by decide⟩
    ·exact⟨_,rfl,by omega,by omega⟩)
   exact⟨lx,_,_,_,rfl,rfl,.of (b3 _ _ e2 xl),hv,k x H3 x1 x2 ((b1.trans (But.of s2)).trans b3) st3⟩
  ·have g3:g<3:=by
    have:¬g=3:=fun z=>c (by rw[z];rfl);omega
   refine⟨_,rfl,by show 3<=sizeLine;decide,fun lx nx=>?_⟩;have s2:=Same.new (o:=.lst [.int 3,.int 12,.int 1000]) nx;have e2:upd H lx (.lst [.int 3,.int 12,.int 1000]) lx=some (.lst [.int 3,.int 12,.int 1000]):=a1_;generalize upd H lx (.lst [.int 3,.int 12,.int 1000])=H2 at s2 e2 ⊢
   obtain⟨v,hv,x,rfl,x1,x2⟩:=hitL (p:=fun v:V=>∃x:Int,v=V.int x/\1<=x/\x<=1000) (xs:=[V.int 3,.int 12,.int 1000]) (n:=3) rfl g0 g3 (fun v hv=>by
    simp only[ai',aP',or_false] at hv;rcases hv with rfl|rfl|rfl
    ·exact⟨_,rfl,by decide,by decide⟩
    ·exact⟨_,rfl,by decide,by decide⟩
    ·exact⟨_,rfl,by decide,by decide⟩)
   refine⟨_,rfl,lx,_,_,_,rfl,rfl,.of e2,hv,l,x,rfl,by omega,by omega,st.same s2,fun r1 H3 q0 q1 b3 st3=>⟨_,_,rfl,rfl,?_⟩⟩;exact k (1+r1) H3 (by omega) (by omega) ((But.of s2).trans b3) st3
theorem b1':a8' ["_law_state_here","_law_ties","_law_found","_law_one","_law_other","_law_pair"] ["_law_state_here","_law_ties"] (a7' sWaysL):=f__
def c7'(K:F__):Sp:=fun vs H Q _=>∃(l lt:Addr) (zs:List V) (ts:List (Str × Str)),vs=[.ref l,.ref lt]/\stt H l/\H lt=some (.lst zs)/\lt≠l/\ba' K H zs (ts.map kT)/\ts.length<64/\(∀t∈ts,cX' t)/\(ts.map kO).Nodup /\
 ∀lw ys ws H',But l H H'->stt H' l->H lw=none->H' lw=some (.lst ys)->ba' K H' ys (ws.map kT)->cp' ts ws->Q (.ref lw) H'
set_option maxHeartbeats 1600000 in
theorem hq_{f:Addr}{fd:FuncData}(F:Fun K "_law_ways" "_law_ways" sWaysL f fd)(B:Bi mg)(cD:Cal P w K mg base 2 "_law_digit" ["_law_state_here","_law_base"] bF'):FnOk P w K mg base CX0 3 f fd ["_law_state_here","_law_ties"] (c7' K):=by
 refine F.ok b1' (fun vs H Q E h=>?_) (fun cdv A outer s H vs Q E hr h=>?_)
 ·obtain⟨l,lt,zs,ts,rfl,_⟩:=h;rfl
 ·obtain⟨l,lt,zs,ts,rfl,st,hlt,ltl,tt,h64,good,nd,k⟩:=h;have sz:=sizeLine_eq;refine' ⟨_,a2_ ?s1 (a2_ ?s2 (a5_ ?s3)),?kk⟩
  case s1=>exact a9_ (i:=2) b1'.nd rfl (Or.inl rfl) (aE_ a3_)
  case' s2=>refine' aG_ PassesOwn.never rfl (am_ (pv 1)) (bd_ rfl (ad_ (a8_ (i:=3) b1'.nd rfl (Or.inl rfl)) (ad_ (a8_ (i:=4) b1'.nd rfl (Or.inl rfl)) aT_))) (a2_ ?b1 (a5_ ?b2))
  case b1=>exact a9_ (i:=5) b1'.nd rfl (Or.inl rfl) (ax_ aH_ (aE_ (a0_ (aP_ (a0_ (pv 3) (a0_ (pv 4) a3_))) (a0_ (aP_ (a0_ (pv 4) (a0_ (pv 3) a3_))) a3_))) (ae_ cD hr (a0_ (pv 0) (a0_ a7_ a3_))) (fun _ _=>rfl))
  case b2=>exact a9_ (i:=2) b1'.nd rfl (Or.inl rfl) (al_ io_ (pv 2) (al_ iu_ (aE_ (a0_ (pv 5) a3_)) (ao_ bX_ (by rfl) B.int PyProof.Rows.Boot.«int» (a0_ (aQ_ cu_ (ae_ cD hr (a0_ (pv 0) (a0_ a7_ a3_))) a7_ (nomark _)) a3_))))
  case s3=>exact ab_ (pv 2)
  case' kk=>skip
  have lz:=Paired.length tt;rw[aa'] at lz;refine⟨by show 0<=sizeLine;decide,fun lw0 nw0=>?_⟩;have s1:=Same.new (o:=.lst []) nw0;have e1:upd H lw0 (.lst []) lw0=some (.lst []):=a1_;have w0l:=st.ne nw0;refine setG ?_;dsimp only;generalize upd H lw0 (.lst [])=H1 at s1 e1 ⊢;refine⟨_,rfl,lt,rfl,⟨_,.of (s1 _ _ hlt)⟩,as_ (K:=K) (a:=lt) (xs:=zs) (fun i σ H'=>∃(lw:Addr) (v3 v4 v5:Option V) (ys:List V) (ws us:List (Str × Str)),σ=[some (.ref l),some (.ref lt),some (.ref lw),v3,v4,v5]/\But l H H'/\stt H' l/\H lw=none/\lw≠l/\H' lw=some (.lst ys)/\ba' K H' ys (ws.map kT)/\us.Sublist (ts.take i)/\Paired (fun w u=>w=u∨w=(u.2,u.1)) ws us) ⟨lw0,none,none,none,[],[],[],rfl,But.of s1,st.same s1,nw0,w0l,e1,.nil,List.Sublist.refl _,.nil⟩ (fun i σ H' _ ⟨_,_,_,_,_,_,_,_,b,_⟩=>.of (b _ _ hlt ltl)) ?_ ?_⟩
  ·rintro i x σ H2 hx ⟨lw,v3,v4,v5,ys,ws,us,rfl,b2,st2,nw,wl,hw,tw,sub,pr⟩;obtain⟨t,ht,a,rfl,ha⟩:=aD_ tt hx;obtain⟨xs0,hl0⟩:=st.some;have ha2:=b2 _ _ (hpT ha) (aN_ (hpT ha) hl0 nofun);refine⟨a,_,rfl,.of ha2,rfl,_,_,rfl,_,_,rfl,rfl,?_⟩;dsimp only
   have lu:us.length<=i:=by
    have:=sub.length_le;rw[ak'] at this;omega
   have lws:=Paired.length pr;have ly:=Paired.length tw;rw[aa'] at ly
   have hi:i<ts.length:=by
    have:=(ab'.mp ht).1;omega
   refine seqG (fun σ H'=>∃(q:Addr) (qq:Str × Str),σ=[some (.ref l),some (.ref lt),some (.ref lw),some (.str t.1),some (.str t.2),some (.ref q)]/\But l H H'/\stt H' l/\H' lw=some (.lst ys)/\ba' K H' ys (ws.map kT)/\H' q=some (.tup ((kT qq).map kV))/\(qq=t∨qq=(t.2,t.1))) ?m2 ?m1
   case m1=>
    intro N hN;refine⟨_,rfl,_,rfl,by show 2<=sizeLine;decide,fun t1 ht1=>?_⟩;have s11:=Same.new (o:=.tup [.str t.1,.str t.2]) ht1;have e11:upd H2 t1 (.tup [.str t.1,.str t.2]) t1=some (.tup [.str t.1,.str t.2]):=a1_;generalize upd H2 t1 (.tup [.str t.1,.str t.2])=H3 at s11 e11 ⊢;refine⟨_,rfl,_,rfl,by show 2<=sizeLine;decide,fun t2 ht2=>?_⟩;have s12:=Same.new (o:=.tup [.str t.2,.str t.1]) ht2;have e12:upd H3 t2 (.tup [.str t.2,.str t.1]) t2=some (.tup [.str t.2,.str t.1]):=a1_;generalize upd H3 t2 (.tup [.str t.2,.str t.1])=H4 at s12 e12 ⊢;refine⟨by show 2<=sizeLine;decide,fun lx hlx=>?_⟩;have s13:=Same.new (o:=.lst [.ref t1,.ref t2]) hlx;have e13:upd H4 lx (.lst [.ref t1,.ref t2]) lx=some (.lst [.ref t1,.ref t2]):=a1_;have xl:=((st2.same s11).same s12).ne hlx;generalize upd H4 lx (.lst [.ref t1,.ref t2])=H5 at s13 e13 ⊢;have s25:=(s11.trans s12).trans s13;have st5:=st2.same s25;obtain⟨xs5,hl5⟩:=st5.some;refine⟨_,rfl,l,2,rfl,by decide,by decide,st5,fun r5 H6 q4 q5 b6 st6=>?_⟩;have tup6:∀{b:Addr} {zs:List V},H5 b=some (.tup zs)->H6 b=some (.tup zs):=fun e=>b6 _ _ e (aN_ e hl5 nofun)
    have pick:∃(q:Addr) (qq:Str × Str),atI [V.ref t1,V.ref t2] r5=some (.ref q)/\H6 q=some (.tup ((kT qq).map kV))/\(qq=t∨qq=(t.2,t.1)):=by
     rcases hit2 (a:=V.ref t1) (b:=V.ref t2) q4 q5 with e|e
     ·exact⟨t1,t,e,tup6 (s13 _ _ (s12 _ _ e11)),.inl rfl⟩
     ·exact⟨t2,(t.2,t.1),e,tup6 (s13 _ _ e12),.inr rfl⟩
    obtain⟨q,qq,et,hqq,hor⟩:=pick;have b26:But l H2 H6:=(But.of s25).trans b6;exact⟨lx,_,_,_,rfl,rfl,.of (b6 _ _ e13 xl),et,hN _ _ ⟨q,qq,rfl,b2.trans b26,st6,b26 _ _ hw wl,aX_ (tw.same s25) b6 hl5,hqq,hor⟩⟩
   rintro σ H6 ⟨q,qq,rfl,b6,st6,hw6,tw6,hqq,hor⟩;refine⟨_,rfl,_,rfl,by show 1<=sizeLine;decide,fun lx hlx=>?_⟩;have s7:=Same.new (o:=.lst [.ref q]) hlx;have e7:upd H6 lx (.lst [.ref q]) lx=some (.lst [.ref q]):=a1_;have xl:=st6.ne hlx;generalize upd H6 lx (.lst [.ref q])=H7 at s7 e7 ⊢;have st7:=st6.same s7;obtain⟨xs7,hl7⟩:=st7.some;refine⟨_,rfl,l,3,rfl,by decide,by decide,st7,fun r6 H8 q6 q7 b8 st8=>⟨_,_,rfl,rfl,.inr ⟨_,rfl,?_⟩⟩⟩;have hw8:=b8 _ _ (s7 _ _ hw6) wl;have e8:=b8 _ _ e7 xl;have tw8:=aX_ (tw6.same s7) b8 hl7;have hq8:=b8 _ _ (s7 _ _ hqq) (aN_ (s7 _ _ hqq) hl7 nofun);have b08:But l H H8:=b6.trans ((But.of s7).trans b8);refine⟨lx,_,_,rfl,rfl,e8,?_,?_,?_,fun p hp=>?_⟩
   ·by_cases c:decide (0<r6)=true
    ·rw[if_pos c];decide
    ·rw[if_neg c];decide
   ·by_cases c:decide (0<r6)=true
    ·rw[if_pos c];decide
    ·rw[if_neg c];decide
   ·by_cases c:decide (0<r6)=true
    ·rw[if_pos c];show 1 * 1<=sizeLine;decide
    ·rw[if_neg c];show 1 * 0<=sizeLine;decide
   have s9:=Same.new (o:=.lst (List.replicate (if decide (0<r6)=true then (1:Int) else 0).toNat [V.ref q]).flatten) hp;have e9:upd H8 p (.lst (List.replicate (if decide (0<r6)=true then (1:Int) else 0).toNat [V.ref q]).flatten) p=some (.lst (List.replicate (if decide (0<r6)=true then (1:Int) else 0).toNat [V.ref q]).flatten):=a1_;generalize upd H8 p (.lst (List.replicate (if decide (0<r6)=true then (1:Int) else 0).toNat [V.ref q]).flatten)=H9 at s9 e9 ⊢;refine⟨lw,p,_,_,rfl,rfl,s9 _ _ hw8,e9,?_,fun u hu=>?_⟩
   ·by_cases c:decide (0<r6)=true
    ·rw[if_pos c];show ys.length+1<=sizeLine;omega
    ·rw[if_neg c];show ys.length+0<=sizeLine;omega
   have s10:=Same.new (o:=.lst (ys++(List.replicate (if decide (0<r6)=true then (1:Int) else 0).toNat [V.ref q]).flatten)) hu;have s90:=s9.trans s10;have b0u:But l H (upd H9 u (.lst (ys++(List.replicate (if decide (0<r6)=true then (1:Int) else 0).toNat [V.ref q]).flatten))):=b08.trans (But.of s90);have st9:=st8.same s9;refine⟨u,_,_,_,_,if decide (0<r6)=true then ws++[qq] else ws,if decide (0<r6)=true then us++[t] else us,rfl,b0u,st8.same s90,(b08.trans (But.of s9)).free st9 hu,st9.ne hu,a1_,?_,?_,?_⟩
   ·by_cases c:decide (0<r6)=true
    ·rw[if_pos c,if_pos c];show ba' K _ (ys++[V.ref q]) ((ws++[qq]).map kT);rw[am'];rw[if_pos c] at s90;exact bv_ (tw8.same s90) (s90 _ _ hq8)
    ·rw[if_neg c,if_neg c];show ba' K _ (ys++[]) (ws.map kT);rw[aA'];rw[if_neg c] at s90;have:=tw8.same s90;simpa using this
   ·have e:ts.take (i+1)=ts.take i++[t]:=by rw[aD',ht];rfl
    rw[e];by_cases c:decide (0<r6)=true
    ·rw[if_pos c];exact sub.append (List.Sublist.refl _)
    ·rw[if_neg c];exact sub.trans (List.sublist_append_left _ _)
   ·by_cases c:decide (0<r6)=true
    ·rw[if_pos c,if_pos c];exact aA_ pr (.cons hor .nil)
    ·rw[if_neg c,if_neg c];exact pr
  ·rintro σ H2 ⟨lw,v3,v4,v5,ys,ws,us,rfl,b2,st2,nw,wl,hw,tw,sub,pr⟩;rw[lz,ar'] at sub;exact⟨_,rfl,k lw ys ws H2 b2 st2 nw hw tw (jL_ good nd sub pr)⟩
end
end Ev
namespace Ev
open PySem L2
theorem hd_{K:F__}{H:Hp}{a l:Addr}{ys:List V}{ks:List (List Key)}(t:ba' K H ys ks)(ha:H a=some (.lst ys))(st:stt H l):a≠l:=fun e=>by
 subst e;obtain⟨x,y,z,e⟩:=st;rw[ha] at e;have e:ys=_:=HO.lst.inj (Option.some.inj e);subst e;cases t with
 |cons h _=>
  obtain⟨b,z,_⟩:=h;cases z
theorem WyAt.mv{K:F__}{H H':Hp}{l:Addr}{v:V}{o:Option (List (Str × Str))}(h:WyAt K H v o)(b:But l H H')(st:stt H l):WyAt K H' v o:=by
 cases o with
 |none=>exact h
 |some ws=>
  obtain⟨a,ys,e,ha,t⟩:=h;obtain⟨xs,hl⟩:=st.some;exact⟨a,ys,e,b _ _ ha (hd_ t ha st),aX_ t b hl⟩
def PcI(K:F__)(H:Hp)(lp:Addr)(y:V)(p:Pc):Prop:=∃t v,y=.ref t/\H t=some (.tup [.str p.1,.int p.2.1,v])/\WyAt K H v p.2.2/\v≠.ref lp
structure GI (K:F__) (H0 H:Hp) (l ln lp d:Addr) (ns:List Str) (hs:List (Str × Int)) (ts:List (Str × Str)) (i j:Nat):Prop where
 but:But l H0 H
 st:stt H l
 hn:H ln=some (.lst (ns.map V.str))
 pcs:∃yp ps,H lp=some (.lst yp)/\Paired (PcI K H lp) yp ps/\ps.map (·.1)=ns.take i/\∀q∈ps,do' ts q
 std:∃f:Str->Str,H d=some (.dK (stF (ns.take j) f))/\∀n∈ns.take j,f n∈hs.map (·.1)
 nl:ln≠l
 pl:lp≠l
 dl:d≠l
 np:ln≠lp
 fp:H0 lp=none
 fd:H0 d=none
section
variable{K:F__}{H0 H G:Hp}{l ln lp d:Addr}{ns:List Str}{hs:List (Str × Int)}{ts:List (Str × Str)}{i j:Nat}
theorem GI.mv(W:GI K H0 H l ln lp d ns hs ts i j)(b:But l H G)(st:stt G l):GI K H0 G l ln lp d ns hs ts i j:=by
 obtain⟨yp,ps,h1,h2,h3,h4⟩:=W.pcs;obtain⟨f,d1,d2⟩:=W.std;obtain⟨xs,hl⟩:=W.st.some;exact⟨W.but.trans b,st,b _ _ W.hn W.nl,⟨yp,ps,b _ _ h1 W.pl,Paired.mapP h2 fun y p ⟨t,v,e,ht,wy,n⟩=>⟨t,v,e,b _ _ ht (aN_ ht hl nofun),wy.mv b W.st,n⟩,h3,h4⟩,⟨f,b _ _ d1 W.dl,d2⟩,W.nl,W.pl,W.dl,W.np,W.fp,W.fd⟩
theorem GI.same(W:GI K H0 H l ln lp d ns hs ts i j)(s:Same H G):GI K H0 G l ln lp d ns hs ts i j:=W.mv (But.of s) (W.st.same s)
theorem GI.piece(W:GI K H0 H l ln lp d ns hs ts i j){n:Str}{x:Int}{v:V}{o:Option (List (Str × Str))}{t:Addr}{yp:List V}(hn:ns[i]? = some n)(hp:H lp=some (.lst yp))(ht:H t=some (.tup [.str n,.int x,v]))(wy:WyAt K H v o)(nv:v≠.ref lp)(g:do' ts (n,x,o)):GI K H0 (upd H lp (.lst (yp++[.ref t]))) l ln lp d ns hs ts (i+1) j:=by
 obtain⟨yp',ps,h1,h2,h3,h4⟩:=W.pcs;obtain⟨f,d1,d2⟩:=W.std;rw[hp] at h1;cases h1;refine⟨fun b o e ne=>by rw[a4_ (a6_ e W.fp)];exact W.but b o e ne,?_,by rw[a4_ W.np];exact W.hn,⟨_,ps++[(n,x,o)],a1_,aA_ (Paired.mapP h2 fun y p ⟨t,v,e,ht,wy,n⟩=>⟨t,v,e,by rw[a4_ (aN_ ht hp nofun)];exact ht,wy.put hp n,n⟩) (.cons ⟨t,v,rfl,by rw[a4_ (aN_ ht hp nofun)];exact ht,wy.put hp nv,nv⟩ .nil),?_,fun q hq=>?_⟩,⟨f,by rw[a4_ (aN_ d1 hp nofun)];exact d1,d2⟩,W.nl,W.pl,W.dl,W.np,W.fp,W.fd⟩
 ·exact W.st.upd W.pl
 ·rw[am',h3,aq_ hn];rfl
 ·rcases av'.mp hq with hq|hq
  ·exact h4 q hq
  ·rw[ay'.mp hq];exact g
theorem GI.put(W:GI K H0 H l ln lp d ns hs ts i j)(nd:ns.Nodup){n h:Str}{f:Str->Str}(hn:ns[j]? = some n)(hd:H d=some (.dK (stF (ns.take j) f)))(fm:∀n∈ns.take j,f n∈hs.map (·.1))(hh:h∈hs.map (·.1)):GI K H0 (upd H d (.dK (putK (stF (ns.take j) f) (Sum.inr n) (.str h)))) l ln lp d ns hs ts i (j+1):=by
 obtain⟨yp,ps,h1,h2,h3,h4⟩:=W.pcs;have nn:=bN_ nd hn;have pd:∀{b:Addr} {zs:List V},H b=some (.tup zs)->b≠d:=fun e z=>by rw[z,hd] at e;cases e
 have ld:∀{b:Addr} {zs:List V},H b=some (.lst zs)->b≠d:=fun e z=>by rw[z,hd] at e;cases e
 refine⟨fun b o e ne=>by rw[a4_ (a6_ e W.fd)];exact W.but b o e ne,W.st.upd W.dl,by rw[a4_ (ld W.hn)];exact W.hn,⟨yp,ps,by rw[a4_ (ld h1)];exact h1,Paired.mapP h2 fun y p ⟨t,v,e,ht,wy,n⟩=>⟨t,v,e,by rw[a4_ (pd ht)];exact ht,?_,n⟩,h3,h4⟩,⟨fun m=>if m=n then h else f m,?_,fun m hm=>?_⟩,W.nl,W.pl,W.dl,W.np,W.fp,W.fd⟩
 ·cases o:p.2.2 with
  |none=>rw[o] at wy;exact wy
  |some ws=>
   rw[o] at wy;obtain⟨a,ys,e,ha,tu⟩:=wy;exact⟨a,ys,e,by rw[a4_ (ld ha)];exact ha,Paired.mapP tu fun y k ⟨b,z,q⟩=>⟨b,z,by rw[a4_ (pd q)];exact q⟩⟩
 ·rw[a1_,du_ nn,aq_ hn];refine congrArg (fun x=>some (HO.dK x)) (bu_ fun m hm=>?_);dsimp only;by_cases z:m=n
  ·simp only[if_pos z]
  ·simp only[if_neg z]
 ·dsimp only;rw[aq_ hn] at hm;by_cases z:m=n
  ·rw[if_pos z];exact hh
  ·rw[if_neg z];rcases av'.mp hm with hm|hm
   ·exact fm m hm
   ·exact absurd (ay'.mp hm) z
end
section
variable{P:Program}{w:World}{K:F__}{mg:Str->Option Value}{base:Heap}
abbrev gN:List Str:=["_law_state_here","_law_hands","_law_ties","_law_many","_law_great","_law_free","_law_heap","_law_pieces","_law_stand","_law_name","_law_ways_here","_law_at"]
theorem bn':a8' gN ["_law_state_here","_law_hands","_law_ties"] (a7' cW'):=f__
def cC'(K:F__):Sp:=fun vs H Q _=>∃(l lh lt:Addr) (yh zs:List V) (hs:List (Str × Int)) (ts:List (Str × Str)),vs=[.ref l,.ref lh,.ref lt]/\stt H l/\H lh=some (.lst yh)/\lh≠l/\ba' K H yh (hs.map kH)/\H lt=some (.lst zs)/\lt≠l/\ba' K H zs (ts.map kT)/\Good hs ts /\
 ∀(t lp d:Addr) (yp:List V) (ps:List Pc) (f:Str->Str) (H':Hp),But l H H'->stt H' l->H' t=some (.tup [.ref lp,.ref d])->H lp=none->H d=none->lp≠l->d≠l->H' lp=some (.lst yp)->c6' K H' yp ps->H' d=some (.dK (stF (ps.map (·.1)) f))->(∀q∈ps,do' ts q)->(ps.map (·.1)).Nodup->ps.length<=30->(∀n∈ps.map (·.1),f n∈hs.map (·.1))->Q (.ref t) H'
set_option maxHeartbeats 3200000 in
theorem g3_{f0:Addr}{fd:FuncData}(F:Fun K "_law_goods" "_law_goods" cW' f0 fd)(B:Bi mg)(cD:Cal P w K mg base 2 "_law_digit" ["_law_state_here","_law_base"] bF')(cN:Cal P w K mg base 3 "_law_named" ["_law_state_here","_law_many"] cK')(cW:Cal P w K mg base 3 "_law_weight" ["_law_state_here","_law_great"] ce')(cY:Cal P w K mg base 3 "_law_ways" ["_law_state_here","_law_ties"] (c7' K)):FnOk P w K mg base CX0 4 f0 fd ["_law_state_here","_law_hands","_law_ties"] (cC' K):=by
 refine F.ok bn' (fun vs H Q E h=>?_) (fun cdv A outer s H vs Q E hr h=>?_)
 ·obtain⟨l,lh,lt,yh,zs,hs,ts,rfl,_⟩:=h;rfl
 ·obtain⟨l,lh,lt,yh,zs,hs,ts,rfl,st,hlh,lhl,th,hlt,ltl,tt,Gd,k⟩:=h;have sz:=sizeLine_eq;have hu:=b0_ hr;have hr2:Room 2 _:=hr.mono (by decide);refine' ⟨_,?r0,?kk⟩
  case' r0=>refine' a2_ ?s1 ?r1
  case' r1=>refine' a2_ ?s2 ?r2
  case' r2=>refine' a2_ ?s3 ?r3
  case' r3=>refine' a2_ ?s4 ?r4
  case' r4=>refine' a2_ ?s5 ?r5
  case' r5=>refine' a2_ ?s6 ?r6
  case' r6=>refine' a2_ ?s7 (a5_ ?s8)
  case s1=>exact a9_ (i:=3) bn'.nd rfl (Or.inl rfl) (ax_ aH_ (aE_ (a0_ (ae_ cD hr2 (a0_ (pv 0) (a0_ a7_ a3_))) (a0_ (ae_ cD hr2 (a0_ (pv 0) (a0_ a7_ a3_))) a3_))) (ae_ cD hr2 (a0_ (pv 0) (a0_ a7_ a3_))) (fun _ _=>rfl))
  case s2=>exact a9_ (i:=4) bn'.nd rfl (Or.inl rfl) (ae_ cD hr2 (a0_ (pv 0) (a0_ a7_ a3_)))
  case s3=>exact a9_ (i:=5) bn'.nd rfl (Or.inl rfl) (ae_ cD hr2 (a0_ (pv 0) (a0_ a7_ a3_)))
  case s4=>exact a9_ (i:=6) bn'.nd rfl (Or.inl rfl) (ae_ cD hr2 (a0_ (pv 0) (a0_ a7_ a3_)))
  case s5=>exact a9_ (i:=7) bn'.nd rfl (Or.inl rfl) (aE_ a3_)
  case s6=>exact a9_ (i:=8) bn'.nd rfl (Or.inl rfl) br_
  case' s7=>refine' aG_ PassesOwn.never rfl (am_ (ae_ cN hr (a0_ (pv 0) (a0_ (pv 3) a3_)))) (a8_ (i:=9) bn'.nd rfl (Or.inl rfl)) ?b0
  case' b0=>refine' a2_ ?b1 ?c1
  case' c1=>refine' a2_ ?b2 ?c2
  case' c2=>refine' a2_ ?b3 ?c3
  case' c3=>refine' a2_ ?b4 (a5_ ?b5)
  case b1=>exact a9_ (i:=10) bn'.nd rfl (Or.inl rfl) d9_
  case b2=>exact ar_ (PW.pt (d0_ (ak_ bP_ (pv 5) a7_ (nomark _)) (cQ_ (ak_ cu_ (ae_ cD hr2 (a0_ (pv 0) (a0_ a7_ a3_))) a7_ (nomark _))))) (a5_ (a9_ (i:=10) bn'.nd rfl (Or.inl rfl) (ae_ cY hr (a0_ (pv 0) (a0_ (pv 2) a3_))))) ac_
  case b3=>exact b6_ (bQ_ PySem.F.plainAttrs_list PySem.F.slot_list_append PySem.F.type_list_append aU_ (pv 7) (a0_ (aP_ (a0_ (pv 9) (a0_ (ae_ cW hr (a0_ (pv 0) (a0_ (pv 4) a3_))) (a0_ (pv 10) a3_)))) a3_))
  case b4=>exact a9_ (i:=11) bn'.nd rfl (Or.inl rfl) (ae_ cD hr2 (a0_ (pv 0) (a0_ (af_ aL_ (by rfl) B.len PySem.boot_len (a0_ (pv 1) a3_)) a3_)))
  case' b5=>refine' ba_ hu (pv 8) (pv 9) (ax_ aI_ (ax_ aH_ (pv 1) ?ix (fun _ _=>rfl)) a7_ (fun _ _=>rfl)) rfl
  case ix=>exact al_ b8_ (pv 11) (ao_ bX_ (by rfl) B.int PyProof.Rows.Boot.«int» (a0_ (hE_ (aQ_ bP_ (pv 6) a7_ (nomark _)) (bg_ (aQ_ bP_ (ae_ cD hr2 (a0_ (pv 0) (a0_ a7_ a3_))) a7_ (nomark _)))) a3_))
  case s8=>exact ab_ (aP_ (a0_ (pv 7) (a0_ (pv 8) a3_)))
  case' kk=>skip
  have lyh:=Paired.length th;rw[aa'] at lyh;have h1':=Gd.h1;have h8':=Gd.h8;refine⟨_,rfl,l,9,rfl,by decide,by decide,st,fun a1 H1 p0 p1 b1 st1=>?_⟩;refine⟨_,rfl,l,31,rfl,by decide,by decide,st1,fun a2 H2 p2 p3 b2 st2=>?_⟩;refine⟨by show 2<=sizeLine;decide,fun lx nx=>?_⟩;have s3:=Same.new (o:=.lst [.int a1,.int a2]) nx;have e3:upd H2 lx (.lst [.int a1,.int a2]) lx=some (.lst [.int a1,.int a2]):=a1_;have xl:=st2.ne nx;generalize upd H2 lx (.lst [.int a1,.int a2])=H3 at s3 e3 ⊢;refine⟨_,rfl,l,2,rfl,by decide,by decide,st2.same s3,fun a3 H4 p4 p5 b4 st4=>?_⟩
  obtain⟨v,hv,m,rfl,m0,m30⟩:=hitL (p:=fun v:V=>∃x:Int,v=V.int x/\0<=x/\x<=30) (xs:=[V.int a1,.int a2]) (n:=2) rfl p4 p5 (fun v hv=>by
   simp only[ai',aP',or_false] at hv;rcases hv with rfl|rfl
   ·exact⟨_,rfl,by omega,by omega⟩
   ·exact⟨_,rfl,by omega,by omega⟩)
  obtain⟨m,rfl⟩:=aF' m0;refine⟨lx,_,_,_,rfl,rfl,.of (b4 _ _ e3 xl),hv,?_⟩;have b04:But l H H4:=(b1.trans b2).trans ((But.of s3).trans b4);refine setG ?_;dsimp only;clear b1 b2 b4 s3 e3 hv nx st1 st2;refine⟨_,rfl,l,4,rfl,by decide,by decide,st4,fun gr H5 g0 g4 b5 st5=>?_⟩;refine setG ?_;dsimp only;refine⟨_,rfl,l,2,rfl,by decide,by decide,st5,fun fr H6 f0 f2 b6 st6=>?_⟩;refine setG ?_;dsimp only;refine⟨_,rfl,l,2,rfl,by decide,by decide,st6,fun hp H7 q0 q2 b7 st7=>?_⟩;refine setG ?_;dsimp only;have b07:But l H H7:=b04.trans (b5.trans (b6.trans b7));clear b04 b5 b6 b7 st4 st5 st6;refine⟨by show 0<=sizeLine;decide,fun lp np=>?_⟩;refine setG ?_;dsimp only;have s8:=Same.new (o:=.lst []) np;have e8:upd H7 lp (.lst []) lp=some (.lst []):=a1_;have lpl:=st7.ne np;have fp0:H lp=none:=b07.free st7 np;generalize upd H7 lp (.lst [])=H8 at s8 e8 ⊢;have st8:=st7.same s8;have b08:=b07.trans (But.of s8);refine fun d nd=>?_;refine setG ?_;dsimp only;have s9:=Same.new (o:=.dK []) nd;have e9:upd H8 d (.dK []) d=some (.dK []):=a1_;have dl:=st8.ne nd;have fd0:H d=none:=b08.free st8 nd;generalize upd H8 d (.dK [])=H9 at s9 e9 ⊢;have st9:=st8.same s9;have b09:=b08.trans (But.of s9);refine⟨_,rfl,_,rfl,l,m,rfl,by omega,st9,fun ln ns H10 b10 st10 nn hn N=>?_⟩;have lnl:ln≠l:=st9.ne nn;have W0:GI K H H10 l ln lp d ns hs ts 0 0:=⟨b09.trans b10,st10,hn,⟨[],[],b10 _ _ (s9 _ _ e8) lpl,.nil,rfl,by simp⟩,⟨fun _=>"",b10 _ _ e9 dl,by simp⟩,lnl,lpl,dl,(a6_ (s9 _ _ e8) nn).symm,fp0,fd0⟩;clear b07 b08 b09 b10 st7 st8 st9 st10 s8 s9 e8 e9 np nd nn hn;have n30:ns.length<=30:=by rw[N.len];omega
  refine⟨ln,rfl,⟨_,.of W0.hn⟩,as_ (K:=K) (a:=ln) (xs:=ns.map V.str) (fun i σ H'=>∃(v9 v10 v11:Option V),σ=[some (.ref l),some (.ref lh),some (.ref lt),some (.int m),some (.int gr),some (.int fr),some (.int hp),some (.ref lp),some (.ref d),v9,v10,v11]/\GI K H H' l ln lp d ns hs ts i i) ⟨none,none,none,rfl,W0⟩ (fun i σ H' _ ⟨_,_,_,_,W⟩=>.of W.hn) ?_ ?_⟩
  ·rintro i x σ H2 hx ⟨v9,v10,v11,rfl,W⟩;obtain⟨n,hn,rfl⟩:=aj_ hx;have hi:i<ns.length:=(ab'.mp hn).1;refine setG ?_;dsimp only;refine setG (i:=10) (v:=.non) ?_;dsimp only;refine seqG (fun σ H'=>∃(wv:V) (o:Option (List (Str × Str))),σ=[some (.ref l),some (.ref lh),some (.ref lt),some (.int m),some (.int gr),some (.int fr),some (.int hp),some (.ref lp),some (.ref d),some (.str n),some wv,v11]/\GI K H H' l ln lp d ns hs ts i i/\WyAt K H' wv o/\wv≠.ref lp/\∀ws,o=some ws->cp' ts ws) ?m2 ?m1
   case m1=>
    intro N1 hN;have none':∀{H3:Hp},GI K H H3 l ln lp d ns hs ts i i->N1 [some (.ref l),some (.ref lh),some (.ref lt),some (.int m),some (.int gr),some (.int fr),some (.int hp),some (.ref lp),some (.ref d),some (.str n),some .non,v11] H3:=fun W3=>hN _ _ ⟨.non,none,rfl,W3,rfl,(fun z=>by cases z),fun ws e=>by cases e⟩;refine⟨_,rfl,rfl,_,rfl,?_⟩;refine ite2 (fun c=>?_) (fun c=>?_)
    ·refine⟨_,rfl,l,3,rfl,by decide,by decide,W.st,fun r1 H3 u0 u1 b3 st3=>⟨_,_,rfl,rfl,_,rfl,?_⟩⟩;have W3:=W.mv b3 st3;refine ite2 (fun c2=>?_) (fun c2=>?_)
     ·refine⟨_,rfl,_,rfl,l,lt,zs,ts,rfl,st3,W3.but _ _ hlt ltl,ltl,?_,Gd.t64,Gd.tok,Gd.tnd,fun lw ys ws H4 b4 st4 nw hw tw wo=>?_⟩
      ·obtain⟨xs0,hl0⟩:=st.some;exact aX_ tt W3.but hl0
      have W4:=W3.mv b4 st4;refine hN _ _ ⟨.ref lw,some ws,rfl,W4,⟨lw,ys,rfl,hw,tw⟩,fun z=>?_,fun ws' e=>by cases e;exact wo⟩;obtain⟨yp,ps,h1,_⟩:=W3.pcs;cases z;rw[h1] at nw;cases nw
     ·exact none' W3
    ·exact none' W
   rintro σ H3 ⟨wv,o,rfl,W3,wy,nv,gw⟩;refine seqG (fun σ H'=>σ=[some (.ref l),some (.ref lh),some (.ref lt),some (.int m),some (.int gr),some (.int fr),some (.int hp),some (.ref lp),some (.ref d),some (.str n),some wv,v11]/\GI K H H' l ln lp d ns hs ts (i+1) i) ?m4 ?m3
   case m3=>
    intro N1 hN;obtain⟨yp,ps,h1,h2,h3,h4⟩:=W3.pcs;refine⟨_,rfl,.inl ⟨rfl,_,.of h1⟩,_,rfl,_,rfl,_,rfl,l,gr,rfl,g0,g4,W3.st,fun x H4 x1 x2 b4 st4=>?_⟩;have W4:=W3.mv b4 st4;have wy4:=wy.mv b4 W3.st;refine⟨_,rfl,by show 3<=sizeLine;decide,fun t nt=>?_⟩;have s5:=Same.new (o:=.tup [.str n,.int x,wv]) nt;have e5:upd H4 t (.tup [.str n,.int x,wv]) t=some (.tup [.str n,.int x,wv]):=a1_;generalize upd H4 t (.tup [.str n,.int x,wv])=H5 at s5 e5 ⊢;have hp5:=s5 _ _ (b4 _ _ h1 W3.pl);have ly:=Paired.length h2;have lps:=congrArg List.length h3;rw[aa',ak'] at lps;refine⟨lp,_,_,rfl,rfl,hp5,by omega,hN _ _ ⟨rfl,(W4.same s5).piece hn hp5 e5 (wy4.same s5) nv ⟨N.ok n (ae' hn),x1,x2,gw⟩⟩⟩
   rintro σ H4 ⟨rfl,W4⟩;refine⟨_,rfl,_,rfl,lh,_,rfl,.inl (.of (W4.but _ _ hlh lhl)),l,_,rfl,by omega,by omega,W4.st,fun at' H5 a0 a1 b5 st5=>?_⟩;have W5:=W4.mv b5 st5;refine setG ?_;dsimp only
   have fin:∀{H6:Hp} {b:Bool},GI K H H6 l ln lp d ns hs ts (i+1) i->∃v,atI yh (at' * (if b=true then 1 else 0))=some v/\∃h∈hs,∃a,v=.ref a/\H6 a=some (.tup [.str h.1,.int h.2]):=fun {H6 b} W6=>by
    have:0<=at' * (if b=true then 1 else 0)/\at' * (if b=true then 1 else 0)<(yh.length:Int):=by
     cases b
     ·simp;omega
     ·simp;omega
    refine hitL (n:=yh.length) (p:=fun v:V=>∃h∈hs,∃a,v=.ref a/\H6 a=some (.tup [.str h.1,.int h.2])) rfl this.1 this.2 fun v hv=>?_;obtain⟨jj,hj⟩:=List.mem_iff_getElem?.mp hv;obtain⟨h,hh,a,e,ha⟩:=aD_ th hj;obtain⟨xs0,hl0⟩:=st.some;have ha:H a=some (.tup [.str h.1,.int h.2]):=ha;exact⟨h,ae' hh,a,e,W6.but _ _ ha (aN_ ha hl0 nofun)⟩
   refine⟨_,rfl,_,rfl,_,rfl,rfl,_,rfl,?_⟩;refine ite2 (fun c=>?_) (fun c=>?_)
   ·refine .inr ⟨_,rfl,_,_,rfl,rfl,.inl ⟨by omega,by omega⟩,?_⟩;obtain⟨v,ev,h,hh,a,ea,ha⟩:=fin (b:=true) W5;subst ea;obtain⟨f,d1,d2⟩:=W5.std;refine⟨lh,_,_,_,rfl,rfl,.of (W5.but _ _ hlh lhl),ev,a,_,_,_,rfl,rfl,.of ha,rfl,_,rfl,_,rfl,d,_,rfl,.k (k:=Sum.inr n) d1 (by rw[aB_,ak'];omega),?_⟩;exact⟨_,_,_,rfl,W5.put N.nd hn d1 d2 (ac'.mpr ⟨h,hh,rfl⟩)⟩
   ·refine⟨_,rfl,l,4,rfl,by decide,by decide,W5.st,fun r1 H6 u0 u1 b6 st6=>⟨rfl,?_⟩⟩;have W6:=W5.mv b6 st6;refine .inr ⟨_,rfl,_,_,rfl,rfl,.inl ⟨by omega,by omega⟩,?_⟩;obtain⟨v,ev,h,hh,a,ea,ha⟩:=fin (b:=decide (V.int r1=V.int 0)) W6;subst ea;obtain⟨f,d1,d2⟩:=W6.std;refine⟨lh,_,_,_,rfl,rfl,.of (W6.but _ _ hlh lhl),ev,a,_,_,_,rfl,rfl,.of ha,rfl,_,rfl,_,rfl,d,_,rfl,.k (k:=Sum.inr n) d1 (by rw[aB_,ak'];omega),?_⟩;exact⟨_,_,_,rfl,W6.put N.nd hn d1 d2 (ac'.mpr ⟨h,hh,rfl⟩)⟩
  ·rintro σ H2 ⟨v9,v10,v11,rfl,W⟩;rw[aa'] at W;obtain⟨yp,ps,h1,h2,h3,h4⟩:=W.pcs;obtain⟨f,d1,d2⟩:=W.std;rw[ar'] at h3 d1 d2;refine⟨_,rfl,_,rfl,by show 2<=sizeLine;decide,fun t nt=>?_⟩;have s3:=Same.new (o:=.tup [.ref lp,.ref d]) nt;have W3:=W.same s3;refine k t lp d yp ps f _ W3.but W3.st a1_ W.fp W.fd W.pl W.dl (s3 _ _ h1) (Paired.mapP h2 fun y p ⟨t,v,e,ht,wy,_⟩=>⟨t,v,e,s3 _ _ ht,wy.same s3⟩) ?_ h4 ?_ ?_ ?_
   ·rw[h3];exact s3 _ _ d1
   ·rw[h3];exact N.nd
   ·have:=congrArg List.length h3;rw[aa'] at this;omega
   ·rw[h3];exact d2
end
end Ev
namespace Ev
open PySem L2
def nbT(h:Str)(t:Str × Str):List Str:=(if t.1=h then [t.2] else [])++if t.2=h then [t.1] else []
def nbL(ts:List (Str × Str))(h:Str):List Str:=ts.flatMap (nbT h)
def wldK(ds dn lt dh dy:Addr):List (Key × V):=[(.inr "strength",.ref ds),(.inr "near",.ref dn),(.inr "ties",.ref lt),(.inr "heavy",.ref dh),(.inr "ways",.ref dy)]
structure WldE (K:F__) (H:Hp) (w ds dn lt dh dy:Addr) (ad:Str->Addr) (gy:Str->V) (hs:List (Str × Int)) (ts:List (Str × Str)) (ps:List Pc):Prop where
 top:H w=some (.dK (wldK ds dn lt dh dy))
 sg:H ds=some (.dK (mKV (hs.map (·.1)) fun n=>.int (strOf hs n)))
 nr:H dn=some (.dK (mKV (hs.map (·.1)) fun n=>.ref (ad n)))
 ls:∀h∈hs.map (·.1),H (ad h)=some (.lst ((nbL ts h).map V.str))
 hv:H dh=some (.dK (mKV (ps.map (·.1)) fun n=>.int (wtN ps n)))
 wy:H dy=some (.dK (mKV (ps.map (·.1)) gy))
 wv:∀q∈ps,WyAt K H (gy q.1) q.2.2
def cj'(K:F__)(H:Hp)(w:Addr)(hs:List (Str × Int))(ts:List (Str × Str))(ps:List Pc):Prop:=∃(ds dn lt dh dy:Addr) (ad:Str->Addr) (gy:Str->V),WldE K H w ds dn lt dh dy ad gy hs ts ps
theorem WldE.nt{K:F__}{H G:Hp}{w ds dn lt dh dy:Addr}{ad:Str->Addr}{gy:Str->V}{hs:List (Str × Int)}{ts:List (Str × Str)}{ps:List Pc}(W:WldE K H w ds dn lt dh dy ad gy hs ts ps)(s:NT H G):WldE K G w ds dn lt dh dy ad gy hs ts ps:=
 ⟨s _ _ W.top nofun,s _ _ W.sg nofun,s _ _ W.nr nofun,fun h hh=>s _ _ (W.ls h hh) nofun,s _ _ W.hv nofun,s _ _ W.wy nofun,fun q hq=>(W.wv q hq).nt s⟩
theorem WldE.same{K:F__}{H G:Hp}{w ds dn lt dh dy:Addr}{ad:Str->Addr}{gy:Str->V}{hs:List (Str × Int)}{ts:List (Str × Str)}{ps:List Pc}(W:WldE K H w ds dn lt dh dy ad gy hs ts ps)(s:Same H G):WldE K G w ds dn lt dh dy ad gy hs ts ps:=W.nt (NT.of s)
theorem cj'.nt{K:F__}{H G:Hp}{w:Addr}{hs:List (Str × Int)}{ts:List (Str × Str)}{ps:List Pc}(W:cj' K H w hs ts ps)(s:NT H G):cj' K G w hs ts ps:=by
 obtain⟨ds,dn,lt,dh,dy,ad,gy,W⟩:=W;exact⟨ds,dn,lt,dh,dy,ad,gy,W.nt s⟩
section
variable{H:Hp}{w ds dn lt dh dy:Addr}{K:F__}{ad:Str->Addr}{gy:Str->V}{hs:List (Str × Int)}{ts:List (Str × Str)}{ps:List Pc}
theorem WldE.gS(W:WldE K H w ds dn lt dh dy ad gy hs ts ps):DGet H w (.str "strength") (some (.ref ds)):=DGet.k (k:=Sum.inr "strength") W.top
theorem WldE.gN(W:WldE K H w ds dn lt dh dy ad gy hs ts ps):DGet H w (.str "near") (some (.ref dn)):=DGet.k (k:=Sum.inr "near") W.top
theorem WldE.gH(W:WldE K H w ds dn lt dh dy ad gy hs ts ps):DGet H w (.str "heavy") (some (.ref dh)):=DGet.k (k:=Sum.inr "heavy") W.top
theorem WldE.gW(W:WldE K H w ds dn lt dh dy ad gy hs ts ps):DGet H w (.str "ways") (some (.ref dy)):=DGet.k (k:=Sum.inr "ways") W.top
theorem hP_:putK (putK (bt' [] [((.inr "strength":Key),V.ref ds),(.inr "near",.ref dn),(.inr "ties",.ref lt)]) (.inr "heavy") (.ref dh)) (.inr "ways") (.ref dy)=wldK ds dn lt dh dy:=rfl
end
structure NrI (H0 H:Hp) (dn:Addr) (ad:Str->Addr) (ns:List Str) (g:Str->List Str):Prop where
 sm:Same H0 H
 nr:H dn=some (.dK (mKV ns fun n=>.ref (ad n)))
 ls:LsAt H ns ad g
 fn:H0 dn=none
 fr:∀h∈ns,H0 (ad h)=none
theorem NrI.same{H0 H G:Hp}{dn:Addr}{ad:Str->Addr}{ns:List Str}{g:Str->List Str}(N:NrI H0 H dn ad ns g)(s:Same H G):NrI H0 G dn ad ns g:=⟨N.sm.trans s,s _ _ N.nr,⟨fun h hh=>s _ _ (N.ls.1 h hh),N.ls.2⟩,N.fn,N.fr⟩
theorem NrI.app{H0 H:Hp}{dn:Addr}{ad:Str->Addr}{ns:List Str}{g:Str->List Str}(N:NrI H0 H dn ad ns g){n m:Str}(hn:n∈ns):NrI H0 (upd H (ad n) (.lst ((g n).map V.str++[.str m]))) dn ad ns (fun h=>if h=n then g h++[m] else g h):=by
 have la:=N.ls.1 n hn;refine⟨aC_ N.sm (N.fr n hn),by rw[a4_ (aN_ N.nr la nofun)];exact N.nr,⟨fun h hh=>?_,N.ls.2⟩,N.fn,N.fr⟩;dsimp only;by_cases z:h=n
 ·subst z;rw[if_pos rfl,a1_,am'];rfl
 ·rw[if_neg z,a4_ fun y=>z (N.ls.2 h hh n hn y)];exact N.ls.1 h hh
theorem NrI.to{H0 H:Hp}{dn:Addr}{ad:Str->Addr}{ns:List Str}{g g':Str->List Str}(N:NrI H0 H dn ad ns g)(e:∀h,g h=g' h):NrI H0 H dn ad ns g':=by
 obtain rfl:g=g':=funext e;exact N
theorem fI_(ts:List (Str × Str))(h:Str):(nbL ts h).length<=2 * ts.length:=by
 induction ts with
 |nil=>exact aC' _
 |cons t ts ih=>
  have:(nbT h t).length<=2:=by
   unfold nbT;rw[an'];have h1:(if t.1=h then [t.2] else []).length<=1:=by split<;>simp
   have h2:(if t.2=h then [t.1] else []).length<=1:=by split<;>simp
   omega
  unfold nbL at ih ⊢;rw[a3',an',az'];omega
theorem i4_{ts:List (Str × Str)}{i:Nat}{t:Str × Str}(ht:ts[i]? = some t)(h:Str):nbL (ts.take (i+1)) h=(nbL (ts.take i) h++if h=t.1 then [t.2] else [])++if h=t.2 then [t.1] else []:=by
 unfold nbL;rw[aD',ht,Option.toList_some,List.flatMap_append,a3',List.flatMap_nil,aA',List.append_assoc];unfold nbT;congr 1;congr 1
 ·by_cases z:h=t.1
  ·rw[if_pos z,if_pos z.symm]
  ·rw[if_neg z,if_neg fun y=>z y.symm]
 ·by_cases z:h=t.2
  ·rw[if_pos z,if_pos z.symm]
  ·rw[if_neg z,if_neg fun y=>z y.symm]
theorem dy_{α β γ δ:Type}{F:α->γ->Prop}{G:α->δ->Prop}{g:β->γ}{k:β->δ}:∀{ys:List α} {ts:List β},Paired F ys (ts.map g)->(∀y t,F y (g t)->G y (k t))->Paired G ys (ts.map k)
 |_,[],t,_=>by rw[List.map_nil] at t;cases t;exact .nil
 |_,b::ts,t,f=>by
  rw[ap'] at t;cases t with
  |cons h r=>rw[ap'];exact .cons (f _ _ h) (dy_ r f)
theorem hsK{hs:List (Str × Int)}(nd:(hs.map (·.1)).Nodup):(hs.map fun h=>((Sum.inr h.1:Key),V.int h.2))=mKV (hs.map (·.1)) fun n=>.int (strOf hs n):=by
 unfold mKV;rw[al']
 exact aE' fun h hh=>by
  show _=((Sum.inr h.1:Key),V.int (strOf hs h.1));rw[eP_ nd (show (h.1,h.2)∈hs from hh)]
theorem gu_{ns:List Str}(nd:ns.Nodup)(g:Str->V):((mKV ns g).map (·.1)).Nodup:=by
 rw[bY_,aB',aG'];exact nd.imp fun n e=>n (Sum.inr.inj e)
section
variable{P:Program}{w:World}{K:F__}{mg:Str->Option Value}{base:Heap}
abbrev wN:List Str:=["_law_hands","_law_ties","_law_pieces","_law_near","_law_one","_law_other","_law_ways_here","_law_heavy","_law_name","_law_weight_here","_law_told","_law_found"]
theorem bv':a8' wN ["_law_hands","_law_ties","_law_pieces"] (a7' sWorld):=f__
def dg'(K:F__):Sp:=fun vs H Q _=>∃(lh lt lp:Addr) (yh zs yp:List V) (hs:List (Str × Int)) (ts:List (Str × Str)) (ps:List Pc),vs=[.ref lh,.ref lt,.ref lp]/\H lh=some (.lst yh)/\ba' K H yh (hs.map kH)/\H lt=some (.lst zs)/\ba' K H zs (ts.map kT)/\H lp=some (.lst yp)/\c6' K H yp ps/\Good hs ts/\(ps.map (·.1)).Nodup/\ps.length<=30 /\
 ∀w H',Same H H'->H w=none->cj' K H' w hs ts ps->Q (.ref w) H'
set_option maxHeartbeats 3200000 in
theorem i8_{f0:Addr}{fd:FuncData}(F:Fun K "_law_world" "_law_world" sWorld f0 fd)(B:Bi mg):FnOk P w K mg base CX0 1 f0 fd ["_law_hands","_law_ties","_law_pieces"] (dg' K):=by
 refine F.ok bv' (fun vs H Q E h=>?_) (fun cdv A outer s H vs Q E hr h=>?_)
 ·obtain⟨lh,lt,lp,yh,zs,yp,hs,ts,ps,rfl,_⟩:=h;rfl
 ·obtain⟨lh,lt,lp,yh,zs,yp,hs,ts,ps,rfl,hlh,th,hlt,tt,hlp,pc,Gd,pnd,p30,k⟩:=h;have sz:=sizeLine_eq;have hu:=b0_ hr;refine' ⟨_,?r0,?kk⟩
  case' r0=>refine' a2_ ?s1 ?r1
  case' r1=>refine' a2_ ?s2 ?r2
  case' r2=>refine' a2_ ?s3 ?r3
  case' r3=>refine' a2_ ?s4 ?r4
  case' r4=>refine' a2_ ?s5 ?r5
  case' r5=>refine' a2_ ?s6 ?r6
  case' r6=>refine' a2_ ?s7 (a2_ ?s8 (a5_ ?s9))
  case s1=>exact a9_ (i:=3) bv'.nd rfl (Or.inl rfl) (ao_ (aO_ rfl) (by rfl) B.dict PyProof.Rows.Boot.«dict» (a0_ (b2_ ["_law_name","_law_strength"] 2 [] (am_ (pv 0)) (fun fp s H=>eo_ (n:=2) (ad_ (a8_ (i:=0) (show (["_law_name","_law_strength"]:List Str).Nodup by decide +kernel) rfl (Or.inl rfl)) (ad_ (a8_ (i:=1) (show (["_law_name","_law_strength"]:List Str).Nodup by decide +kernel) rfl (Or.inl rfl)) aT_))) (fun fp s H=>aY_) (fun fp s H=>aP_ (a0_ (pv 0) (a0_ (aE_ a3_) a3_)))) a3_))
  case' s2=>refine' aG_ PassesOwn.never rfl (am_ (pv 1)) (bd_ rfl (ad_ (a8_ (i:=4) bv'.nd rfl (Or.inl rfl)) (ad_ (a8_ (i:=5) bv'.nd rfl (Or.inl rfl)) aT_))) (a2_ ?b1 (a5_ ?b2))
  case b1=>exact b6_ (bQ_ PySem.F.plainAttrs_list PySem.F.slot_list_append PySem.F.type_list_append aU_ (ai_ hu (pv 3) (pv 4) (fun _ _=>rfl)) (a0_ (pv 5) a3_))
  case b2=>exact b6_ (bQ_ PySem.F.plainAttrs_list PySem.F.slot_list_append PySem.F.type_list_append aU_ (ai_ hu (pv 3) (pv 5) (fun _ _=>rfl)) (a0_ (pv 4) a3_))
  case s3=>exact a9_ (i:=6) bv'.nd rfl (Or.inl rfl) br_
  case s4=>exact a9_ (i:=7) bv'.nd rfl (Or.inl rfl) br_
  case' s5=>refine' aG_ PassesOwn.never rfl (am_ (pv 2)) (bd_ rfl (ad_ (a8_ (i:=8) bv'.nd rfl (Or.inl rfl)) (ad_ (a8_ (i:=9) bv'.nd rfl (Or.inl rfl)) (ad_ (a8_ (i:=10) bv'.nd rfl (Or.inl rfl)) aT_)))) (a2_ ?c1 (a5_ ?c2))
  case c1=>exact ba_ hu (pv 6) (pv 8) (pv 10) rfl
  case c2=>exact ba_ hu (pv 7) (pv 8) (pv 9) rfl
  case s6=>exact a9_ (i:=11) bv'.nd rfl (Or.inl rfl) (j4_ (dp_ an_ (ao_ (aO_ rfl) (by rfl) B.dict PyProof.Rows.Boot.«dict» (a0_ (pv 0) a3_)) (dp_ an_ (pv 3) (dp_ an_ (pv 1) jy_))) rfl rfl nofun (by decide))
  case s7=>exact ba_ hu (pv 11) an_ (pv 7) rfl
  case s8=>exact ba_ hu (pv 11) an_ (pv 6) rfl
  case s9=>exact ab_ (pv 11)
  case' kk=>skip
  have nd:=Gd.hnd;have h8:=Gd.h8;have lyh:=Paired.length th;rw[aa'] at lyh;refine⟨_,rfl,lh,rfl,⟨_,.of hlh⟩,fun D hD=>?_⟩;refine aR_ (own:=2) (fv:=[]) (xs:=yh) rfl gok2 (fun i out H'=>∃ad:Str->Addr,Same H H'/\H' D=some (.lst out)/\be' K H' out (mKV ((hs.map (·.1)).take i) fun h=>.ref (ad h))/\LsAt H' ((hs.map (·.1)).take i) ad (fun _=>[])/\∀h∈(hs.map (·.1)).take i,H (ad h)=none/\ad h≠D) ⟨fun _=>D,Same.new hD,a1_,.nil,⟨by simp,by simp⟩,by simp⟩ (fun i out H' _ ⟨_,sm,_⟩=>.of (sm _ _ hlh)) (fun out H2 ⟨ad,s2,hD2,pa,ls,fr⟩=>?_) (fun i x out H' hx ⟨ad,sm,hd,pa,ls,fr⟩=>?_);rotate_left
  ·obtain⟨h0,hh0,a,rfl,ha⟩:=aD_ th hx;have hn:(hs.map (·.1))[i]? = some h0.1:=by rw[ao',hh0];rfl
   have nn:h0.1∉(hs.map (·.1)).take i:=bN_ nd hn;refine⟨_,⟨a,_,_,rfl,.of (sm _ _ (hpH ha)),rfl⟩,rfl,fun Nx hN=>yesT ?_⟩;refine⟨_,rfl,by show 0<=sizeLine;decide,fun l nl=>?_⟩;have s3:=Same.new (o:=.lst []) nl;have e3:upd H' l (.lst []) l=some (.lst []):=a1_;generalize upd H' l (.lst [])=H3 at s3 e3 ⊢;refine⟨by show 2<=sizeLine;decide,fun t nt=>?_⟩;have s4:=Same.new (o:=.tup [.str h0.1,.ref l]) nt;have e4:upd H3 t (.tup [.str h0.1,.ref l]) t=some (.tup [.str h0.1,.ref l]):=a1_;generalize upd H3 t (.tup [.str h0.1,.ref l])=H4 at s4 e4 ⊢;have s34:=s3.trans s4;have hD4:=s34 _ _ hd;have lD:l≠D:=fun z=>by rw[z,hd] at nl;cases nl
   have adl:∀h∈(hs.map (·.1)).take i,ad h≠l:=fun h hh z=>by
    have:=ls.1 h hh;rw[z,nl] at this;cases this
   have lo:=Paired.length pa;rw[aB_,ak',aa'] at lo
   have pD:∀{b:Addr} {zs:List V},H4 b=some (.tup zs)->b≠D:=fun hb z=>by
    rw[z,hD4] at hb;cases hb
   have ne:∀h∈(hs.map (·.1)).take i,h≠h0.1:=fun h hh z=>nn (z▸hh);refine⟨out,hD4,by omega,hN (out++[.ref t]) _ ⟨fun m=>if m=h0.1 then l else ad m,aC_ (sm.trans s34) hD,a1_,?_,⟨fun h hh=>?_,fun h hh h' hh' z=>?_⟩,fun h hh=>?_⟩⟩
   ·have e:mKV ((hs.map (·.1)).take (i+1)) (fun h=>.ref (if h=h0.1 then l else ad h))=mKV ((hs.map (·.1)).take i) (fun h=>.ref (ad h))++[(Sum.inr h0.1,.ref l)]:=by
     rw[aq_ hn];unfold mKV;rw[am',ap',List.map_nil];dsimp only;rw[if_pos rfl];congr 1;exact aE' fun m hm=>by rw[if_neg (ne m hm)]
    rw[e];exact aA_ (Paired.mapP pa fun y kv ⟨b,z,hb⟩=>⟨b,z,by rw[a4_ (pD (s34 _ _ hb))];exact s34 _ _ hb⟩) (.cons ⟨t,rfl,by rw[a4_ (pD e4)];exact e4⟩ .nil)
   ·rw[aq_ hn] at hh;rcases av'.mp hh with hh|hh
    ·dsimp only;rw[if_neg (ne h hh),a4_ (fr h hh).2];exact s34 _ _ (ls.1 h hh)
    ·have z:=ay'.mp hh;dsimp only;rw[if_pos z,a4_ lD];exact s4 _ _ e3
   ·rw[aq_ hn] at hh hh';dsimp only at z;rcases av'.mp hh with a1|a1<;>rcases av'.mp hh' with a2|a2
    ·rw[if_neg (ne h a1),if_neg (ne h' a2)] at z;exact ls.2 h a1 h' a2 z
    ·have a2:h'=h0.1:=by simpa using a2
     rw[if_neg (ne h a1),if_pos a2] at z;exact absurd z (adl h a1)
    ·have a1:h=h0.1:=by simpa using a1
     rw[if_neg (ne h' a2),if_pos a1] at z;exact absurd z.symm (adl h' a2)
    ·rw[show h=h0.1 by simpa using a1,show h'=h0.1 by simpa using a2]
   ·rw[aq_ hn] at hh;dsimp only;rcases av'.mp hh with hh|hh
    ·rw[if_neg (ne h hh)];exact fr h hh
    ·have z:=ay'.mp hh;rw[if_pos z];exact⟨sm.free nl,lD⟩
  rw[show yh.length=(hs.map (·.1)).length by rw[aa',lyh],ar'] at pa ls fr;have n8:(hs.map (·.1)).length<=8:=by rw[aa'];exact h8
  refine⟨D,out,_,rfl,hD2,pa,by rw[aB_];omega,fun dn ndn=>?_⟩;rw[aS_ (gu_ nd _)];refine setG ?_;dsimp only;have s3:=Same.new (o:=.dK (mKV (hs.map (·.1)) fun h=>V.ref (ad h))) ndn;have N0:NrI H (upd H2 dn (.dK (mKV (hs.map (·.1)) fun h=>V.ref (ad h)))) dn ad (hs.map (·.1)) (nbL (ts.take 0)):=⟨s2.trans s3,a1_,⟨fun h hh=>s3 _ _ (ls.1 h hh),ls.2⟩,s2.free ndn,fun h hh=>(fr h hh).1⟩;generalize upd H2 dn (.dK (mKV (hs.map (·.1)) fun h=>V.ref (ad h)))=H3 at N0 ⊢;clear s2 s3 hD2 pa ls fr hD ndn;refine seqG (fun σ H'=>∃(v4 v5:Option V),σ=[some (.ref lh),some (.ref lt),some (.ref lp),some (.ref dn),v4,v5,none,none,none,none,none,none]/\NrI H H' dn ad (hs.map (·.1)) (nbL ts)) ?m2 ?m1
  case m1=>
   intro N1 hN;have lz:=Paired.length tt;rw[aa'] at lz;have t64:=Gd.t64;refine⟨_,rfl,lt,rfl,⟨_,.of (N0.sm _ _ hlt)⟩,as_ (K:=K) (a:=lt) (xs:=zs) (fun i σ H'=>∃(v4 v5:Option V),σ=[some (.ref lh),some (.ref lt),some (.ref lp),some (.ref dn),v4,v5,none,none,none,none,none,none]/\NrI H H' dn ad (hs.map (·.1)) (nbL (ts.take i))) ⟨none,none,rfl,N0⟩ (fun i σ H' _ ⟨_,_,_,N⟩=>.of (N.sm _ _ hlt)) ?_ ?_⟩
   ·rintro i x σ H4 hx ⟨v4,v5,rfl,N⟩;obtain⟨t,ht,a,rfl,ha⟩:=aD_ tt hx;have m12:=Gd.tin t (ae' ht);have tne:=(Gd.tok t (ae' ht)).2.2;refine⟨a,_,rfl,.of (N.sm _ _ (hpT ha)),rfl,_,_,rfl,_,_,rfl,rfl,?_⟩;dsimp only;have hi:i<ts.length:=(ab'.mp ht).1;have l1:=fI_ (ts.take i) t.1;have l2:=fI_ (ts.take i) t.2;rw[ak'] at l1 l2;have e1:=N.ls.1 _ m12.1;have N2:=N.app (m:=t.2) m12.1;have e2:=N2.ls.1 _ m12.2;refine⟨_,rfl,_,rfl,dn,_,rfl,dgR N.nr m12.1,.inl ⟨rfl,_,.of e1⟩,_,rfl,ad t.1,_,_,rfl,rfl,e1,by rw[aa'];omega,?_⟩;refine⟨_,rfl,_,rfl,dn,_,rfl,dgR N2.nr m12.2,.inl ⟨rfl,_,.of e2⟩,_,rfl,ad t.2,_,_,rfl,rfl,e2,?_,?_⟩
    ·have z:¬t.2=t.1:=fun z=>tne z.symm;rw[aa'];simp only[if_neg z];omega
    refine⟨_,_,rfl,(N2.app (m:=t.1) m12.2).to fun h=>?_⟩;show (if h=t.2 then (if h=t.1 then nbL (ts.take i) h++[t.2] else nbL (ts.take i) h)++[t.1] else if h=t.1 then nbL (ts.take i) h++[t.2] else nbL (ts.take i) h)=_;rw[i4_ ht];by_cases z1:h=t.1
    ·rw[if_neg (c:=h=t.2) (fun z=>tne (z1.symm.trans z)),if_pos z1,if_neg (c:=h=t.2) (fun z=>tne (z1.symm.trans z)),if_pos z1,aA']
    ·by_cases z2:h=t.2
     ·rw[if_pos z2,if_neg z1,if_pos z2,if_neg z1,aA']
     ·rw[if_neg z2,if_neg z1,if_neg z2,if_neg z1,aA',aA']
   ·rintro σ H4 ⟨v4,v5,rfl,N⟩;rw[lz,ar'] at N;exact hN _ _ ⟨_,_,rfl,N⟩
  rintro σ H4 ⟨v4,v5,rfl,N⟩;refine fun dy ny=>?_;refine setG ?_;dsimp only;have s5:=Same.new (o:=.dK []) ny;have e5:upd H4 dy (.dK []) dy=some (.dK []):=a1_;generalize upd H4 dy (.dK [])=H5 at s5 e5 ⊢;refine fun dh nh=>?_;refine setG ?_;dsimp only;have s6:=Same.new (o:=.dK []) nh;have e6:upd H5 dh (.dK []) dh=some (.dK []):=a1_;generalize upd H5 dh (.dK [])=H6 at s6 e6 ⊢;have N6:=(N.same s5).same s6;have hy:dh≠dy:=fun z=>by rw[z,e5] at nh;cases nh
  have fy:H dy=none:=N.sm.free ny;have fh:H dh=none:=(N.sm.trans s5).free nh;have ye:=s6 _ _ e5;have ney:∀{b:Addr} {o:HO},H4 b=some o->b≠dy:=fun e z=>by rw[z,ny] at e;cases e
  have neh:∀{b:Addr} {o:HO},H4 b=some o->b≠dh:=fun e z=>by rw[z] at e;have:=s5 _ _ e;rw[nh] at this;cases this
  refine seqG (fun σ H'=>∃(v4 v5 v8 v9 v10:Option V) (gy:Str->V),σ=[some (.ref lh),some (.ref lt),some (.ref lp),some (.ref dn),v4,v5,some (.ref dy),some (.ref dh),v8,v9,v10,none]/\Same H4 H'/\H' dh=some (.dK (mKV (ps.map (·.1)) fun n=>.int (wtN ps n)))/\H' dy=some (.dK (mKV (ps.map (·.1)) gy))/\∀q∈ps,WyAt K H' (gy q.1) q.2.2) ?m4 ?m3
  case m3=>
   intro N1 hN;have lz:=Paired.length pc;refine⟨_,rfl,lp,rfl,⟨_,.of (N6.sm _ _ hlp)⟩,as_ (K:=K) (a:=lp) (xs:=yp) (fun i σ H'=>∃(v8 v9 v10:Option V) (gy:Str->V),σ=[some (.ref lh),some (.ref lt),some (.ref lp),some (.ref dn),v4,v5,some (.ref dy),some (.ref dh),v8,v9,v10,none]/\Same H4 H'/\H' dh=some (.dK (mKV ((ps.map (·.1)).take i) fun n=>.int (wtN ps n)))/\H' dy=some (.dK (mKV ((ps.map (·.1)).take i) gy))/\∀q∈ps.take i,WyAt K H (gy q.1) q.2.2) ⟨none,none,none,fun _=>.non,rfl,s5.trans s6,e6,ye,by simp⟩ (fun i σ H' _ ⟨_,_,_,_,_,sm,_⟩=>.of (sm _ _ (N.sm _ _ hlp))) ?_ ?_⟩
   ·rintro i x σ H7 hx ⟨v8,v9,v10,gy,rfl,sm,dh7,dy7,wy⟩;obtain⟨q,hq,a,v,rfl,ha,wv⟩:=aD_ (g:=id) (by rw[List.map_id];exact pc) hx;have hn:(ps.map (·.1))[i]? = some q.1:=by rw[ao',hq];rfl
    have hi:i<ps.length:=(ab'.mp hq).1;have nn:=bN_ pnd hn;have ne:∀m∈(ps.map (·.1)).take i,m≠q.1:=fun m hm z=>nn (z▸hm);refine⟨a,_,rfl,.of (sm _ _ (N.sm _ _ ha)),rfl,_,_,rfl,_,_,rfl,_,_,rfl,rfl,?_⟩;dsimp only;refine⟨_,rfl,_,rfl,_,rfl,dy,_,rfl,.k (k:=Sum.inr q.1) dy7 (by rw[aB_,ak',aa'];omega),?_⟩;have dh8:upd H7 dy (.dK (putK (mKV ((ps.map (·.1)).take i) gy) (Sum.inr q.1) v)) dh=some (.dK (mKV ((ps.map (·.1)).take i) fun n=>.int (wtN ps n))):=by rw[a4_ hy];exact dh7
    refine⟨_,rfl,_,rfl,_,rfl,dh,_,rfl,.k (k:=Sum.inr q.1) dh8 (by rw[aB_,ak',aa'];omega),?_⟩;refine⟨_,_,_,fun m=>if m=q.1 then v else gy m,rfl,fun b o e=>?_,?_,?_,fun q' hq'=>?_⟩
    ·rw[a4_ (neh e),a4_ (ney e)];exact sm _ _ e
    ·rw[a1_,du_ nn,aq_ hn];refine congrArg (fun x=>some (HO.dK x)) (bu_ fun m hm=>?_);by_cases z:m=q.1
     ·rw[if_pos z,z,ei_ pnd (ae' hq)];rfl
     ·rw[if_neg z]
    ·rw[a4_ hy.symm,a1_,du_ nn,aq_ hn]
    ·dsimp only;rw[aD',hq,Option.toList_some] at hq';rcases av'.mp hq' with hq'|hq'
     ·rw[if_neg (ne _ (by rw[<- List.map_take];exact ac'.mpr ⟨_,hq',rfl⟩))];exact wy q' hq'
     ·obtain rfl:=ay'.mp hq';rw[if_pos rfl];exact wv
   ·rintro σ H7 ⟨v8,v9,v10,gy,rfl,sm,dh7,dy7,wy⟩;rw[lz] at dh7 dy7 wy;rw[aJ' (by rw[aa'];exact ag' _)] at dh7 dy7;rw[ar'] at wy;exact hN _ _ ⟨_,_,_,_,_,gy,rfl,sm,dh7,dy7,fun q hq=>(wy q hq).same (N.sm.trans sm)⟩
  rintro σ H7 ⟨v4,v5,v8,v9,v10,gy,rfl,sm,dh7,dy7,wy⟩;refine fun wa nw=>?_;have s8:=Same.new (o:=.dK []) nw;have e8:upd H7 wa (.dK []) wa=some (.dK []):=a1_;generalize upd H7 wa (.dK [])=H8 at s8 e8 ⊢;have s08:=(N.sm.trans sm).trans s8
  have kvs:be' K H8 yh (hs.map fun h=>((Sum.inr h.1:Key),V.int h.2)):=by
   exact dy_ th fun y h ⟨b,z,q⟩=>⟨b,z,s08 _ _ (hpH q)⟩
  refine⟨_,rfl,lh,yh,_,rfl,s08 _ _ hlh,kvs,by rw[aa'];omega,fun ds nds=>?_⟩;rw[hsK nd,aS_ (gu_ nd _)];have s9:=Same.new (o:=.dK (mKV (hs.map (·.1)) fun n=>V.int (strOf hs n))) nds;have e9:upd H8 ds (.dK (mKV (hs.map (·.1)) fun n=>V.int (strOf hs n))) ds=some (.dK (mKV (hs.map (·.1)) fun n=>V.int (strOf hs n))):=a1_;generalize upd H8 ds (.dK (mKV (hs.map (·.1)) fun n=>V.int (strOf hs n)))=H9 at s9 e9 ⊢;refine⟨_,rfl,_,rfl,s9 _ _ e8,[((.inr "strength":Key),V.ref ds),(.inr "near",.ref dn),(.inr "ties",.ref lt)],rfl,by show 3<=15;decide,?_⟩;refine setG ?_;dsimp only;refine⟨_,rfl,_,rfl,wa,_,rfl,.k (k:=Sum.inr "heavy") a1_ (by show 3<sizeLine;decide),?_⟩;refine⟨_,rfl,_,rfl,wa,_,rfl,.k (k:=Sum.inr "ways") a1_ (by show 4<sizeLine;decide),?_⟩;have nw0:H wa=none:=(N.sm.trans sm).free nw;have new:∀{b:Addr} {o:HO},H7 b=some o->b≠wa:=fun e z=>by rw[z,nw] at e;cases e
  have dsw:ds≠wa:=fun z=>by rw[z,e8] at nds;cases nds
  have up:∀{b:Addr} {o:HO},H7 b=some o->upd (upd (upd H9 wa (.dK (bt' [] [((.inr "strength":Key),V.ref ds),(.inr "near",.ref dn),(.inr "ties",.ref lt)]))) wa (.dK (putK (bt' [] [((.inr "strength":Key),V.ref ds),(.inr "near",.ref dn),(.inr "ties",.ref lt)]) (Sum.inr "heavy") (.ref dh)))) wa (.dK (putK (putK (bt' [] [((.inr "strength":Key),V.ref ds),(.inr "near",.ref dn),(.inr "ties",.ref lt)]) (Sum.inr "heavy") (.ref dh)) (Sum.inr "ways") (.ref dy))) b=some o:=fun {b o} e=>by
   rw[a4_ (new e),a4_ (new e),a4_ (new e)];exact s9 _ _ (s8 _ _ e)
  refine⟨_,rfl,k wa _ (fun b o e=>up (sm _ _ (N.sm _ _ e))) nw0 ⟨ds,dn,lt,dh,dy,ad,gy,?_,?_,up (sm _ _ N.nr),fun h hh=>up (sm _ _ (N.ls.1 h hh)),up dh7,up dy7,fun q hq=>?_⟩⟩
  ·rw[a1_,hP_]
  ·rw[a4_ dsw,a4_ dsw,a4_ dsw];exact e9
  ·exact (wy q hq).same fun b o e=>up e
end
end Ev
namespace L2
open PySem PySem.Spec PyProof.Rows PySem.W
theorem eY_{d:Addr}{o:Obj}{kvs:List (Key × V)}{g:TG}{tb:TS}{D:Ends}{σ:St}{H:Hp}(Pv:Nat->St->Hp->Prop)(h0:Pv 0 σ H)(hl:∀i σ H,i<=kvs.length->Pv i σ H->H d=some (.frz o (.dK kvs)))
  (hs:∀i k x σ H,kvs[i]? = some (k,x)->Pv i σ H->g (kV k) σ H fun σ2 H2=>tb { D with nx:=Pv (i+1),ct:=Pv (i+1),bk:=D.nx } σ2 H2) (hd:∀σ H,Pv kvs.length σ H->D.nx σ H) :
  ∃W:Nat->Nat->St->Hp->Prop,(∃m,W 0 m σ H)/\∀i m σ H,W i m σ H->
   ((Itk d o kvs).stop i H/\D.nx σ H)∨((Itk d o kvs).go i H/\∃N:St->Hp->Prop,(∀σ' H',N σ' H'->∃m',m'<m/\W (i+1) m' σ' H')/\∀x H',(Itk d o kvs).yld i H x H'->g x σ H' fun σ2 H2=>tb { D with nx:=N,ct:=N,bk:=D.nx } σ2 H2):=by
 refine⟨fun i m σ H=>m=kvs.length - i/\i<=kvs.length/\Pv i σ H,⟨kvs.length,by simp,aC' _,h0⟩,?_⟩;rintro i m σ H ⟨rfl,hi,p⟩;have q:=hl i σ H hi p;by_cases hlt:i<kvs.length
 ·refine .inr ⟨⟨q,hlt⟩,Pv (i+1),fun σ' H' p'=>⟨kvs.length - (i+1),by omega,rfl,hlt,p'⟩,fun x H' y=>?_⟩;obtain⟨rfl,k,v,hx,rfl⟩:=y;exact hs i k v σ _ hx p
 ·have e:i=kvs.length:=by omega
  subst e;exact .inl ⟨⟨q,ag' _⟩,hd σ H p⟩
section
variable{prog:Program}{w:World}{A:Around}
end
end L2
namespace L2
open PySem PySem.Spec PyProof.Rows PySem.W
section
variable{X:Cx}
theorem cx_:∀{xs:List V} {us:List Value},Vals xs us->xs.all cm'=true->∀(k:V) (j:Nat) (h:j<us.length),∃h2:j<xs.length,eqU k us[j]=eqV xs[j] k
 |_,_,.nil,_,k,j,h=>absurd h (Nat.not_lt_zero _)
 |y::xs,u::us,.cons r t,f,k,j,h=>by
  rw[List.all_cons,a1'] at f;cases j with
  |zero=>exact⟨Nat.zero_lt_succ _,il_ r f.1⟩
  |succ j=>
   obtain⟨h2,e⟩:=cx_ t f.2 k j (Nat.lt_of_succ_lt_succ h);exact⟨Nat.succ_lt_succ h2,e⟩
def rIndexF:V->List V->Hp->VK->Prop:=fun x vs H Q=>∃(l:Addr) (xs:List V) (k:V) (j:Nat),x=.ref l/\vs=[k]/\H l=some (.lst xs)/\cm' k=true/\xs.all cm'=true/\j<1000/\(∃y,xs[j]? = some y/\eqV y k=true)/\(∀i y,i<j->xs[i]? = some y->eqV y k=false)/\Q (.int (j:Int)) H
theorem gv_:MtM X "list.index" rIndexF:=by
 intro pins s σ H x vs v us Q I rx rv h;obtain⟨l,xs,k,j,rfl,rfl,hH,fk,fx,hj,⟨y,hy,ey⟩,no,q⟩:=h;cases rx;obtain⟨u,rfl,ru⟩:=rv.one;obtain⟨z,its,n,r,hl,e⟩:=I.lstM hH;obtain⟨hjx,ejx⟩:=ab'.mp hy;refine call_meets PySem.F.slot_list_index ⟨_,e,rfl⟩ PySem.F.entry_list_index (PySem.F.args_list_index_2 _ _) (SeqAt.list_indexAt l its.toArray n none _ u (eqU k) j (by show j<its.length;omega) (by omega) ?_ ?_) ⟨e,fun y hy=>dq_ ru fk r fx y (by simpa using hy),⟨.int _,H,I.tok _,⟨_,rfl⟩,q⟩⟩
 ·obtain⟨h2,e2⟩:=cx_ r fx k j (by omega);show eqU k its[j]=true;rw[e2,ejx];exact ey
 ·intro m hm lt;obtain⟨h2,e2⟩:=cx_ r fx k m (by simpa using hm);show eqU k its[m]=false;rw[e2];exact no m _ lt (ah' h2)
end
end L2
namespace Ev
open PySem L2
theorem h5_{H:Hp}{d:Addr}{ns:List Str}{g:Str->V}{n:Str}(r:Rd H d (.dK (mKV ns g)))(h:n∈ns):DGet H d (.str n) (some (g n)):=by
 rw[<- de_ (g:=g) h];exact .inl ⟨_,Sum.inr n,r,rfl,rfl⟩
structure Pw (hs:List (Str × Int)) (ts:List (Str × Str)) (ps:List Pc) (f:Str->Str):Prop where
 Gd:Good hs ts
 gp:∀q∈ps,do' ts q
 nd:(ps.map (·.1)).Nodup
 p30:ps.length<=30
 at_:∀n∈ps.map (·.1),f n∈hs.map (·.1)
abbrev hld(ps:List Pc)(f:Str->Str)(n:Str):Int:=ld f (ps.map wOf) n
theorem Pw.hld_ok{hs:List (Str × Int)}{ts:List (Str × Str)}{ps:List Pc}{f:Str->Str}(W:Pw hs ts ps f)(n:Str):0<=hld ps f n/\hld ps f n<=64000000000:=he_ (fun q hq=>⟨by have:=(W.gp q hq).w1;omega,(W.gp q hq).w2⟩) (by have:=W.p30;omega) f n
theorem Pw.str_ok{hs:List (Str × Int)}{ts:List (Str × Str)}{ps:List Pc}{f:Str->Str}(W:Pw hs ts ps f){n:Str}(h:n∈hs.map (·.1)):1<=strOf hs n/\strOf hs n<=1000:=(W.Gd.hok _ (b5_ h)).2
theorem Pw.wt{hs:List (Str × Int)}{ts:List (Str × Str)}{ps:List Pc}{f:Str->Str}(W:Pw hs ts ps f){n:Str}(h:n∈ps.map (·.1)):1<=wtN ps n/\wtN ps n<=1000000000:=by
 obtain⟨q,hq,rfl⟩:=ac'.mp h;rw[ei_ W.nd hq];exact⟨(W.gp q hq).w1,(W.gp q hq).w2⟩
theorem kf_{ps:List Pc}{f:Str->Str}{n:Str}{kvs:List (Key × V)}(hn:n∈ps.map (·.1))(h:∀x∈kvs,∃a,x.2=V.ref a)(e:kvs=stF (ps.map (·.1)) f):False:=by
 have m:((Sum.inr n:Key),V.str (f n))∈kvs:=by
  rw[e];exact ac'.mpr ⟨n,hn,rfl⟩
 obtain⟨a,z⟩:=h _ m;cases z
theorem kg_{ns:List Str}{f:Str->Str}{g:Str->Int}{n:Str}(hn:n∈ns)(e:mKV ns (fun n=>.int (g n))=stF ns f):False:=by
 have m:((Sum.inr n:Key),V.str (f n))∈mKV ns (fun n=>.int (g n)):=by
  rw[e];exact ac'.mpr ⟨n,hn,rfl⟩
 obtain⟨k,_,z⟩:=ac'.mp m;cases (Prod.mk.inj z).2
section
variable{P:Program}{w:World}{K:F__}{mg:Str->Option Value}{base:Heap}
abbrev hdN:List Str:=["_law_world_here","_law_stand","_law_found","_law_piece"]
theorem scHeld:a8' hdN ["_law_world_here","_law_stand"] (a7' sHeld):=f__
def ds'(K:F__):Sp:=fun vs H Q _=>∃(wa sd:Addr) (hs:List (Str × Int)) (ts:List (Str × Str)) (ps:List Pc) (f:Str->Str),vs=[.ref wa,.ref sd]/\cj' K H wa hs ts ps/\Pw hs ts ps f/\H sd=some (.dK (stF (ps.map (·.1)) f)) /\
 ∀d H',Same H H'->H d=none->H' d=some (.dK (mKV (hs.map (·.1)) fun n=>.int (hld ps f n)))->Q (.ref d) H'
set_option maxHeartbeats 1600000 in
theorem jA_{f0:Addr}{fd:FuncData}(F:Fun K "_law_held" "_law_held" sHeld f0 fd)(B:Bi mg):FnOk P w K mg base CX0 1 f0 fd ["_law_world_here","_law_stand"] (ds' K):=by
 refine F.ok scHeld (fun vs H Q E h=>?_) (fun cdv A outer s H vs Q E hr h=>?_)
 ·obtain⟨wa,sd,hs,ts,ps,f,rfl,_⟩:=h;rfl
 ·obtain⟨wa,sd,hs,ts,ps,f,rfl,⟨ds,dn,lt,dh,dy,ad,gy,W⟩,Pp,hsd,k⟩:=h;have sz:=sizeLine_eq;have hu:=b0_ hr;refine' ⟨_,a2_ ?s1 (a2_ ?s2 (a5_ ?s3)),?kk⟩
  case s1=>exact cN_ (a9_ (i:=2) scHeld.nd rfl (Or.inl rfl) (ao_ (aO_ rfl) (by rfl) B.dict PyProof.Rows.Boot.«dict» (a0_ (b2_ ["_law_name"] 1 [] (em_ (ai_ hu (pv 0) an_ (fun _ _=>rfl))) (fun fp s H=>a8_ (i:=0) (show (["_law_name"]:List Str).Nodup by decide +kernel) rfl (Or.inl rfl)) (fun fp s H=>aY_) (fun fp s H=>aP_ (a0_ (pv 0) (a0_ a7_ a3_)))) a3_)))
  case s2=>exact cN_ (aG_ PassesOwn.never rfl (em_ (pv 1)) (a8_ (i:=3) scHeld.nd rfl (Or.inl rfl)) (a5_ (iV_ hu (pv 2) (ai_ hu (pv 1) (pv 3) (fun _ _=>rfl)) (ai_ hu (ai_ hu (pv 0) an_ (fun _ _=>rfl)) (pv 3) (fun _ _=>rfl)) k8_ (fun _ _ _=>rfl))))
  case s3=>exact ab_ (pv 2)
  case' kk=>skip
  have hnd:=Pp.Gd.hnd;have h8:(hs.map (·.1)).length<=8:=by rw[aa'];exact Pp.Gd.h8
  refine⟨ds,_,W.sg,?_⟩;refine⟨_,rfl,wa,_,rfl,W.gS,ds,_,rfl,W.sg,fun o D hD=>?_⟩
  have Dds:D≠ds:=by
   intro z;rw[z,a1_] at hD;cases hD
  have hD1:H D=none:=by rw[a4_ Dds] at hD;exact hD
  refine gc_ (own:=1) (fv:=[]) rfl gok1 (fun i out H'=>Fz ds o (mKV (hs.map (·.1)) fun n=>.int (strOf hs n)) H H'/\H' D=some (.lst out)/\be' K H' out (mKV ((hs.map (·.1)).take i) fun _=>.int 0)) ⟨Fz.start.put hD1 Dds,a1_,.nil⟩ (fun i out H' _ ⟨z,_,_⟩=>z.at_) (fun out H2 ⟨fz,hD2,pa⟩=>?_) (fun i ky x out H' hx ⟨fz,hD',pa⟩=>?_);rotate_left 1
  ·obtain⟨n,hn,rfl,rfl⟩:=d3_ hx;have hi:i<(hs.map (·.1)).length:=(ab'.mp hn).1;refine⟨_,rfl,rfl,fun Nx hN=>yesT ?_⟩;refine⟨_,rfl,by show 2<=sizeLine;decide,fun t ht=>?_⟩;have s5:=Same.new (o:=.tup [.str n,.int 0]) ht;have lo:=Paired.length pa;rw[aB_,ak'] at lo;refine⟨out,s5 _ _ hD',by omega,hN _ _ ⟨(fz.step s5).put hD1 Dds,a1_,?_⟩⟩;have ht5:upd H' t (.tup [.str n,.int 0]) t=some (.tup [.str n,.int 0]):=a1_;have pD:∀{b:Addr} {ys:List V},upd H' t (.tup [.str n,.int 0]) b=some (.tup ys)->b≠D:=fun hb=>aN_ hb (s5 _ _ hD') nofun;rw[aq_ hn];show be' K _ _ (((hs.map (·.1)).take i++[n]).map _);rw[am'];exact aA_ (Paired.mapP pa fun y kv ⟨b,z,hb⟩=>⟨b,z,by rw[a4_ (pD (s5 _ _ hb))];exact s5 _ _ hb⟩) (.cons ⟨t,rfl,by rw[a4_ (pD ht5)];exact ht5⟩ .nil)
  rw[aB_,ar'] at pa;refine⟨D,out,_,rfl,hD2,pa,by rw[aB_];omega,fun df ndf=>?_⟩;rw[aS_ (gu_ hnd _)];have dfds:df≠ds:=fun z=>by rw[z,fz.at_] at ndf;cases ndf
  have ndf0:H df=none:=by
   cases e:H df with
   |none=>rfl
   |some u=>have:=fz.sm _ _ dfds e;rw[ndf] at this;cases this
  have fz3:Fz ds o (mKV (hs.map (·.1)) fun n=>.int (strOf hs n)) H (upd H2 df (.dK (mKV (hs.map (·.1)) fun _=>.int 0))):=fz.put ndf0 dfds;refine setG ?_;dsimp only;refine⟨o,fz3.at_,?_⟩;have s3:=fz3.thaw W.sg;have e3:upd (upd H2 df (.dK (mKV (hs.map (·.1)) fun _=>.int 0))) ds (.dK (mKV (hs.map (·.1)) fun n=>.int (strOf hs n))) df=some (.dK (mKV (hs.map (·.1)) fun _=>.int 0)):=by rw[a4_ dfds,a1_]
  generalize upd (upd H2 df (.dK (mKV (hs.map (·.1)) fun _=>.int 0))) ds (.dK (mKV (hs.map (·.1)) fun n=>.int (strOf hs n)))=H3 at s3 e3 ⊢;clear fz3 fz pa hD2 hD hD1 ndf dfds Dds;have W3:=W.same s3;have hsd3:=s3 _ _ hsd;have dfsd:df≠sd:=(a6_ hsd ndf0).symm;have dwd:wa≠df:=a6_ W.top ndf0;have dhd:dh≠df:=a6_ W.hv ndf0;refine⟨sd,_,hsd3,?_⟩;refine⟨_,rfl,sd,_,rfl,hsd3,fun o2=>?_⟩;refine eY_ (fun i σ H'=>∃v3:Option V,σ=[some (.ref wa),some (.ref sd),some (.ref df),v3]/\H' sd=some (.frz o2 (.dK (stF (ps.map (·.1)) f)))/\(∀b u,b≠sd->b≠df->H3 b=some u->H' b=some u)/\H' df=some (.dK (mKV (hs.map (·.1)) fun n=>.int (ld f ((ps.take i).map wOf) n)))) ⟨none,rfl,a1_,fun b u n1 n2 e=>by rw[a4_ n1];exact e,by rw[a4_ dfsd];exact e3⟩ (fun i σ H' _ ⟨_,_,z,_⟩=>z) ?_ ?_
  ·rintro i ky x σ H4 hx ⟨v3,rfl,fz,kp,hdf⟩;obtain⟨n,hn,rfl,rfl⟩:=d3_ hx;have nm:=ae' hn;rw[ao',aZ'] at hn;obtain⟨q,hq,rfl⟩:=hn;have hqm:=ae' hq;have fm:=Pp.at_ _ nm;have top4:H4 wa=some (.dK (wldK ds dn lt dh dy)):=kp _ _ (fun z=>kf_ (ps:=ps) (f:=f) nm (fun x hx=>by simp only[wldK,ai',aP',or_false] at hx;rcases hx with rfl|rfl|rfl|rfl|rfl<;>exact⟨_,rfl⟩) (HO.dK.inj (Option.some.inj ((z▸W3.top).symm.trans hsd3)))) dwd W3.top
   have hv4:H4 dh=some (.dK (mKV (ps.map (·.1)) fun n=>.int (wtN ps n))):=kp _ _ (fun z=>kg_ nm (HO.dK.inj (Option.some.inj ((z▸W3.hv).symm.trans hsd3)))) dhd W3.hv;refine setG ?_;dsimp only;refine⟨_,rfl,_,rfl,_,rfl,sd,_,rfl,h5_ (.inr ⟨o2,fz⟩) nm,df,_,rfl,dgR hdf fm,?_⟩;refine⟨_,rfl,wa,_,rfl,DGet.k (k:=Sum.inr "heavy") top4,_,rfl,dh,_,rfl,dgR hv4 nm,?_⟩;refine⟨_,_,rfl,rfl,_,.k (k:=Sum.inr (f q.1)) hdf (by rw[aB_];omega),?_⟩;refine⟨_,rfl,by rw[a4_ dfsd.symm];exact fz,fun b u n1 n2 e=>by rw[a4_ n2];exact kp b u n1 n2 e,?_⟩;rw[a1_,gQ_ fm];refine congrArg (fun x=>some (HO.dK x)) (bu_ fun m hm=>?_);rw[aD',hq,Option.toList_some,am',ap',List.map_nil,g8_];by_cases z:m=f q.1
   ·rw[if_pos z,if_pos (show m=f (wOf q).1 from z),z,ei_ Pp.nd hqm];rfl
   ·rw[if_neg z,if_neg (show ¬m=f (wOf q).1 from z)]
  ·rintro σ H4 ⟨v3,rfl,fz,kp,hdf⟩;rw[aB_,aa',ar'] at hdf;refine⟨o2,fz,_,rfl,k df _ (fun b u e=>?_) ndf0 (by rw[a4_ dfsd];exact hdf)⟩;by_cases z:b=sd
   ·rw[z] at e ⊢;rw[hsd] at e;rw[a1_];exact e
   ·rw[a4_ z];exact kp b u z (a6_ e ndf0) (s3 _ _ e)
def bw'(hs:List (Str × Int))(ps:List Pc)(f:Str->Str)(a b:Str):Int:=hld ps f a * strOf hs b - hld ps f b * strOf hs a
theorem scDrop:a8' ["_law_world_here","_law_held_here","_law_one","_law_other","_law_strength"] ["_law_world_here","_law_held_here","_law_one","_law_other"] (a7' sDrop):=f__
def du'(K:F__):Sp:=fun vs H Q _=>∃(wa d:Addr) (a b:Str) (hs:List (Str × Int)) (ts:List (Str × Str)) (ps:List Pc) (f:Str->Str),vs=[.ref wa,.ref d,.str a,.str b]/\cj' K H wa hs ts ps/\Pw hs ts ps f/\H d=some (.dK (mKV (hs.map (·.1)) fun n=>.int (hld ps f n)))/\a∈hs.map (·.1)/\b∈hs.map (·.1)/\Q (.int (bw' hs ps f a b)) H
theorem jk_{f0:Addr}{fd:FuncData}(F:Fun K "_law_drop" "_law_drop" sDrop f0 fd):FnOk P w K mg base CX0 1 f0 fd ["_law_world_here","_law_held_here","_law_one","_law_other"] (du' K):=by
 refine F.ok scDrop (fun vs H Q E h=>?_) (fun cdv A outer s H vs Q E hr h=>?_)
 ·obtain⟨wa,d,a,b,hs,ts,ps,f,rfl,_⟩:=h;rfl
 ·obtain⟨wa,d,a,b,hs,ts,ps,f,rfl,⟨ds,dn,lt,dh,dy,ad,gy,W⟩,Pp,hd,ha,hb,k⟩:=h;have hu:=b0_ hr;refine' ⟨_,a2_ ?s1 (a5_ ?s2),?kk⟩
  case s1=>exact a9_ (i:=4) scDrop.nd rfl (Or.inl rfl) (ai_ hu (pv 0) an_ (fun _ _=>rfl))
  case s2=>exact ab_ (al_ iF_ (al_ b8_ (ai_ hu (pv 1) (pv 2) (fun _ _=>rfl)) (ai_ hu (pv 4) (pv 3) (fun _ _=>rfl))) (al_ b8_ (ai_ hu (pv 1) (pv 3) (fun _ _=>rfl)) (ai_ hu (pv 4) (pv 2) (fun _ _=>rfl))))
  case' kk=>skip
  have h1:=Pp.hld_ok a;have h2:=Pp.hld_ok b;have e1:=Pp.str_ok ha;have e2:=Pp.str_ok hb;refine⟨_,rfl,wa,_,rfl,W.gS,?_⟩;refine setG ?_;dsimp only;refine⟨_,rfl,_,rfl,d,_,rfl,dgR hd ha,_,rfl,_,rfl,ds,_,rfl,dgR W.sg hb,_,_,rfl,rfl,.inr ⟨by omega,by omega⟩,?_⟩;exact⟨_,rfl,_,rfl,d,_,rfl,dgR hd hb,_,rfl,_,rfl,ds,_,rfl,dgR W.sg ha,_,_,rfl,rfl,.inr ⟨by omega,by omega⟩,_,_,rfl,rfl,k⟩
def mayL(ts:List (Str × Str))(ps:List Pc)(n a b:Str):Bool:=decide (b∈nbL ts a)&&match wyN ps n with
 |none=>true
 |some ws=>decide ((a,b)∈ws) || decide ((b,a)∈ws)
theorem scMayL:a8' ["_law_world_here","_law_piece","_law_one","_law_other","_law_ways_here"] ["_law_world_here","_law_piece","_law_one","_law_other"] (a7' sMayL):=f__
def spMayL(K:F__):Sp:=fun vs H Q _=>∃(wa:Addr) (n a b:Str) (hs:List (Str × Int)) (ts:List (Str × Str)) (ps:List Pc) (f:Str->Str),vs=[.ref wa,.str n,.str a,.str b]/\cj' K H wa hs ts ps/\Pw hs ts ps f/\n∈ps.map (·.1)/\a∈hs.map (·.1)/\∀H',Same H H'->Q (.bl (mayL ts ps n a b)) H'
set_option maxHeartbeats 800000 in
theorem iO_{f0:Addr}{fd:FuncData}(F:Fun K "_law_may" "_law_may" sMayL f0 fd):FnOk P w K mg base CX0 1 f0 fd ["_law_world_here","_law_piece","_law_one","_law_other"] (spMayL K):=by
 refine F.ok scMayL (fun vs H Q E h=>?_) (fun cdv A outer s H vs Q E hr h=>?_)
 ·obtain⟨wa,n,a,b,hs,ts,ps,f,rfl,_⟩:=h;rfl
 ·obtain⟨wa,n,a,b,hs,ts,ps,f,rfl,⟨ds,dn,lt,dh,dy,ad,gy,W⟩,Pp,hn,ha,k⟩:=h;have hu:=b0_ hr;refine' ⟨_,a2_ ?s1 (a2_ ?s2 (a5_ ?s3)),?kk⟩
  case s1=>exact a9_ (i:=4) scMayL.nd rfl (Or.inl rfl) (ai_ hu (ai_ hu (pv 0) an_ (fun _ _=>rfl)) (pv 1) (fun _ _=>rfl))
  case s2=>exact ar_ (ak_ (cw_ cmpS (bZ' hr 0)) (pv 3) (ai_ hu (ai_ hu (pv 0) an_ (fun _ _=>rfl)) (pv 2) (fun _ _=>rfl)) (by with_unfolding_all rfl)) (a5_ (ab_ e8_)) ac_
  case s3=>exact ab_ (hE_ (aQ_ iq_ (pv 4) d9_ (nomark _)) (hE_ (aQ_ (dR_ (cmp2 cmpS cmpS) (bZ' hr _)) (aP_ (a0_ (pv 2) (a0_ (pv 3) a3_))) (pv 4) (by with_unfolding_all rfl)) (bg_ (aQ_ (dR_ (cmp2 cmpS cmpS) (bZ' hr _)) (aP_ (a0_ (pv 3) (a0_ (pv 2) a3_))) (pv 4) (by with_unfolding_all rfl)))))
  case' kk=>skip
  obtain⟨q,hq,rfl⟩:=ac'.mp hn;have wv:=W.wv q hq;have wn:=i6_ Pp.nd hq;refine⟨_,rfl,wa,_,rfl,W.gW,_,rfl,dy,_,rfl,dgR W.wy hn,?_⟩;refine setG ?_;dsimp only;refine⟨_,rfl,_,rfl,wa,_,rfl,W.gN,_,rfl,dn,_,rfl,dgR W.nr ha,b,nbL ts a,rfl,⟨ad a,_,rfl,.of (W.ls a ha),bF_ _⟩,_,rfl,?_⟩;have fin:∀{H1:Hp} {r:Bool},Same H H1->mayL ts ps q.1 a b=r->Q (.bl r) H1:=fun s e=>e▸k _ s;refine ite2 (fun c=>?_) (fun c=>?_)
  ·refine fin (Same.refl H) ?_;unfold mayL;have c:¬b∈nbL ts a:=by simpa using c
   rw[decide_eq_false c,a2']
  ·have c:b∈nbL ts a:=by simpa using c
   have ml:mayL ts ps q.1 a b=match q.2.2 with
    |none=>true
    |some ws=>decide ((a,b)∈ws) || decide ((b,a)∈ws):=by
    unfold mayL;rw[decide_eq_true c,Bool.true_and,wn]
   cases o:q.2.2 with
   |none=>
    rw[o] at wv ml;have wv:gy q.1=.non:=wv;refine⟨_,rfl,rfl,_,rfl,?_⟩;rw[wv];exact fin (Same.refl H) ml
   |some ws=>
    rw[o] at wv ml;obtain⟨aw,ys,e,hw,tw⟩:=wv;refine⟨_,rfl,rfl,_,rfl,?_⟩;rw[e];refine⟨_,rfl,_,rfl,by show 2<=sizeLine;decide,fun t1 n1=>?_⟩;have s1:=Same.new (o:=.tup [.str a,.str b]) n1;have e1:upd H t1 (.tup [.str a,.str b]) t1=some (.tup [.str a,.str b]):=a1_;generalize upd H t1 (.tup [.str a,.str b])=H1 at s1 e1 ⊢;refine⟨_,rfl,(a,b),ws,⟨t1,_,_,rfl,.of e1,rfl,rfl⟩,⟨aw,ys,rfl,.of (s1 _ _ hw),cU_ (tw.same s1)⟩,_,rfl,?_⟩;refine ite2 (fun c2=>?_) (fun c2=>?_)
    ·refine fin s1 (ml.trans ?_);have c2:(a,b)∈ws:=by simpa using c2
     simp[c2]
    ·refine⟨_,rfl,_,rfl,by show 2<=sizeLine;decide,fun t2 n2=>?_⟩;have s2:=Same.new (o:=.tup [.str b,.str a]) n2;have e2:upd H1 t2 (.tup [.str b,.str a]) t2=some (.tup [.str b,.str a]):=a1_;generalize upd H1 t2 (.tup [.str b,.str a])=H2 at s2 e2 ⊢;refine⟨_,rfl,(b,a),ws,⟨t2,_,_,rfl,.of e2,rfl,rfl⟩,⟨aw,ys,rfl,.of (s2 _ _ (s1 _ _ hw)),cU_ (tw.same (s1.trans s2))⟩,fin (s1.trans s2) (ml.trans ?_)⟩;have c2:¬(a,b)∈ws:=by simpa using c2
     simp[c2]
theorem scIsFit:a8' ["_law_guard","_law_drop_here","_law_much"] ["_law_guard","_law_drop_here","_law_much"] (a7' sIsFit):=f__
def cV':Sp:=fun vs H Q _=>∃(g:Str) (a b:Int),vs=[.str g,.int a,.int b]/\g∈(["high","fall","calm"]:List Str)/\-(2 ^ 63)<a/\a<2 ^ 63/\∀H',Same H H'->Q (.bl (fitB g a b)) H'
theorem hF_{f0:Addr}{fd:FuncData}(F:Fun K "_law_is_fit" "_law_is_fit" sIsFit f0 fd):FnOk P w K mg base CX0 1 f0 fd ["_law_guard","_law_drop_here","_law_much"] cV':=by
 refine F.ok scIsFit (fun vs H Q E h=>?_) (fun cdv A outer s H vs Q E hr h=>?_)
 ·obtain⟨g,a,b,rfl,_⟩:=h;rfl
 ·obtain⟨g,a,b,rfl,hg,a1,a2,k⟩:=h;refine' ⟨_,a5_ (ab_ (ax_ aH_ (aE_ (a0_ (aQ_ cu_ (pv 1) a7_ (nomark _)) (a0_ (aQ_ cu_ (al_ b8_ a7_ (pv 1)) (pv 2) (nomark _)) (a0_ (aQ_ kj_ (pv 1) (pv 2) (nomark _)) a3_)))) (bQ_ PySem.F.plainAttrs_list PySem.F.slot_list_index PySem.F.type_list_index gv_ (aE_ (a0_ an_ (a0_ an_ (a0_ an_ a3_)))) (a0_ (pv 0) a3_)) (fun _ _=>rfl))),?kk⟩
  case' kk=>skip
  refine⟨_,rfl,_,_,rfl,rfl,_,rfl,_,_,rfl,rfl,.inl ⟨by decide,by decide⟩,_,rfl,_,_,rfl,rfl,_,rfl,_,rfl,_,_,rfl,rfl,by show 3<=sizeLine;decide,fun l1 n1=>?_⟩;have s1:=Same.new (o:=.lst [.bl (decide (0<a)),.bl (decide (b<2 * a)),.bl (decide (b<=a))]) n1;have e1:upd H l1 (.lst [.bl (decide (0<a)),.bl (decide (b<2 * a)),.bl (decide (b<=a))]) l1=some (.lst [.bl (decide (0<a)),.bl (decide (b<2 * a)),.bl (decide (b<=a))]):=a1_;generalize upd H l1 (.lst [.bl (decide (0<a)),.bl (decide (b<2 * a)),.bl (decide (b<=a))])=H1 at s1 e1 ⊢;refine⟨by show 3<=sizeLine;decide,fun l2 n2=>?_⟩;have s2:=Same.new (o:=.lst [.str "high",.str "fall",.str "calm"]) n2;have e2:upd H1 l2 (.lst [.str "high",.str "fall",.str "calm"]) l2=some (.lst [.str "high",.str "fall",.str "calm"]):=a1_;generalize upd H1 l2 (.lst [.str "high",.str "fall",.str "calm"])=H2 at s2 e2 ⊢;refine⟨.inl ⟨rfl,_,.of e2⟩,_,rfl,?_⟩;have e3:=s2 _ _ e1;have k:=k H2 (s1.trans s2);simp only[ai',aP',or_false] at hg;rcases hg with rfl|rfl|rfl
  ·exact⟨l2,_,_,0,rfl,rfl,e2,rfl,rfl,by decide,⟨_,rfl,by decide +kernel⟩,fun i y h _=>absurd h (Nat.not_lt_zero _),l1,_,_,_,rfl,rfl,.of e3,rfl,k⟩
  ·refine⟨l2,_,_,1,rfl,rfl,e2,rfl,rfl,by decide,⟨_,rfl,by decide +kernel⟩,fun i y h e=>?_,l1,_,_,_,rfl,rfl,.of e3,rfl,k⟩;obtain rfl:i=0:=by omega
   cases e;decide +kernel
  ·refine⟨l2,_,_,2,rfl,rfl,e2,rfl,rfl,by decide,⟨_,rfl,by decide +kernel⟩,fun i y h e=>?_,l1,_,_,_,rfl,rfl,.of e3,rfl,k⟩;rcases (show i=0∨i=1 by omega) with rfl|rfl
   ·cases e;decide +kernel
   ·cases e;decide +kernel
end
end Ev
namespace Ev
open PySem L2
def hstep(ps:List Pc)(o:Option Str)(n:Str):Option Str:=match o with
 |none=>some n
 |some m=>if wtN ps m<wtN ps n then some n else some m
def hvyL(ps:List Pc)(ns:List Str):Option Str:=(sortS ns).foldl (hstep ps) none
theorem eQ_{ps:List Pc}:∀{l:List Str} {o:Option Str} {m:Str},l.foldl (hstep ps) o=some m->m∈l∨o=some m
 |[],o,m,h=>.inr h
 |n::l,o,m,h=>by
  rw[List.foldl_cons] at h;rcases eQ_ h with h|h
  ·exact .inl (ad' _ h)
  ·unfold hstep at h;cases o with
   |none=>cases h;exact .inl af'
   |some k=>
    dsimp only at h;split at h
    ·cases h;exact .inl af'
    ·exact .inr h
theorem WldE.but{K:F__}{H G:Hp}{w ds dn lt dh dy sd:Addr}{ad:Str->Addr}{gy:Str->V}{hs:List (Str × Int)}{ts:List (Str × Str)}{ps:List Pc}{f:Str->Str}{n:Str}(W:WldE K H w ds dn lt dh dy ad gy hs ts ps)(hsd:H sd=some (.dK (stF (ps.map (·.1)) f)))(hn:n∈ps.map (·.1))(kp:∀b u,b≠sd->H b=some u->G b=some u):WldE K G w ds dn lt dh dy ad gy hs ts ps:=by
 have kl:∀{b:Addr} {xs:List V},H b=some (.lst xs)->G b=some (.lst xs):=fun e=>kp _ _ (fun z=>by rw[z,hsd] at e;cases e) e;have kt:∀{b:Addr} {xs:List V},H b=some (.tup xs)->G b=some (.tup xs):=fun e=>kp _ _ (fun z=>by rw[z,hsd] at e;cases e) e
 have kd:∀{b:Addr} {kvs:List (Key × V)},H b=some (.dK kvs)->(∀x∈kvs,∀y,x=((Sum.inr n:Key),V.str y)->False)->G b=some (.dK kvs):=fun {b kvs} e h=>kp _ _ (fun z=>by
  have:kvs=stF (ps.map (·.1)) f:=HO.dK.inj (Option.some.inj (e.symm.trans (z▸hsd)));exact h ((Sum.inr n:Key),V.str (f n)) (by rw[this];exact ac'.mpr ⟨n,hn,rfl⟩) _ rfl) e
 refine⟨kd W.top fun x hx y z=>?_,kd W.sg fun x hx y z=>?_,kd W.nr fun x hx y z=>?_,fun h hh=>kl (W.ls h hh),kd W.hv fun x hx y z=>?_,kd W.wy fun x hx y z=>?_,fun q hq=>?_⟩
 ·rw[z] at hx;simp[wldK] at hx
 ·rw[z] at hx;obtain⟨_,_,z⟩:=ac'.mp hx;cases (Prod.mk.inj z).2
 ·rw[z] at hx;obtain⟨_,_,z⟩:=ac'.mp hx;cases (Prod.mk.inj z).2
 ·rw[z] at hx;obtain⟨_,_,z⟩:=ac'.mp hx;cases (Prod.mk.inj z).2
 ·rw[z] at hx;obtain⟨m,hm,z⟩:=ac'.mp hx;obtain⟨q,hq,rfl⟩:=ac'.mp hm;have wv:=W.wv q hq;rw[(Prod.mk.inj z).2] at wv;cases o:q.2.2 with
  |none=>rw[o] at wv;cases wv
  |some ws=>
   rw[o] at wv;obtain⟨a,ys,e,_⟩:=wv;cases e
 ·have wv:=W.wv q hq;cases o:q.2.2 with
  |none=>rw[o] at wv;exact wv
  |some ws=>
   rw[o] at wv;obtain⟨a,ys,e,ha,t⟩:=wv;exact⟨a,ys,e,kl ha,Paired.mapP t fun y k ⟨b,z,q⟩=>⟨b,z,kt q⟩⟩
def bB'(hs:List (Str × Int))(ts:List (Str × Str))(ps:List Pc)(f:Str->Str)(gd:Str)(gv:List Str)(a b n:Str):Bool:=decide (f n=a)&&(!decide (n∈gv)&&(mayL ts ps n a b&&fitB gd (bw' hs ps f a b) ((strOf hs a+strOf hs b) * wtN ps n)))
def cn'(hs:List (Str × Int))(ts:List (Str × Str))(ps:List Pc)(f:Str->Str)(gd:Str)(gv:List Str)(a b:Str):Option Str:=hvyL ps ((ps.map (·.1)).filter (bB' hs ts ps f gd gv a b))
section
variable{P:Program}{w:World}{K:F__}{mg:Str->Option Value}{base:Heap}
theorem scHvL:a8' ["_law_world_here","_law_pieces","_law_found","_law_piece"] ["_law_world_here","_law_pieces"] (a7' sHvL):=f__
def spHvL(K:F__):Sp:=fun vs H Q _=>∃(wa l:Addr) (ns:List Str) (hs:List (Str × Int)) (ts:List (Str × Str)) (ps:List Pc),vs=[.ref wa,.ref l]/\cj' K H wa hs ts ps/\H l=some (.lst (ns.map V.str))/\(∀n∈ns,n∈ps.map (·.1))/\ns.length<64/\∀H',Same H H'->Q (optV (hvyL ps ns)) H'
set_option maxHeartbeats 800000 in
theorem jU_{f0:Addr}{fd:FuncData}(F:Fun K "_law_heaviest" "_law_heaviest" sHvL f0 fd)(B:Bi mg):FnOk P w K mg base CX0 1 f0 fd ["_law_world_here","_law_pieces"] (spHvL K):=by
 refine F.ok scHvL (fun vs H Q E h=>?_) (fun cdv A outer s H vs Q E hr h=>?_)
 ·obtain⟨wa,l,ns,hs,ts,ps,rfl,_⟩:=h;rfl
 ·obtain⟨wa,l,ns,hs,ts,ps,rfl,⟨ds,dn,lt,dh,dy,ad,gy,W⟩,hl,sub,n64,k⟩:=h;have hu:=b0_ hr;refine' ⟨_,a2_ ?s1 (a2_ ?s2 (a5_ ?s3)),?kk⟩
  case s1=>exact a9_ (i:=2) scHvL.nd rfl (Or.inl rfl) d9_
  case' s2=>refine' aG_ PassesOwn.never rfl (am_ (af_ c3_ (by rfl) B.sorted PyProof.Rows.Boot.«sorted» (a0_ (pv 1) a3_))) (a8_ (i:=3) scHvL.nd rfl (Or.inl rfl)) (a5_ ?b1)
  case b1=>exact ar_ (PW.pt (dK_ (ak_ iq_ (pv 2) d9_ (nomark _)) (ch_ (ak_ cu_ (ai_ hu (ai_ hu (pv 0) an_ (fun _ _=>rfl)) (pv 3) (fun _ _=>rfl)) (ai_ hu (ai_ hu (pv 0) an_ (fun _ _=>rfl)) (pv 2) (fun _ _=>rfl)) (nomark _))))) (a5_ (a9_ (i:=2) scHvL.nd rfl (Or.inl rfl) (pv 3))) ac_
  case s3=>exact ab_ (pv 2)
  case' kk=>skip
  refine setG ?_;dsimp only;refine⟨_,rfl,l,ns,rfl,.of hl,n64,fun lx nx=>?_⟩;have s1:=Same.new (o:=.lst ((sortS ns).map V.str)) nx;have e1:upd H lx (.lst ((sortS ns).map V.str)) lx=some (.lst ((sortS ns).map V.str)):=a1_;generalize upd H lx (.lst ((sortS ns).map V.str))=H1 at s1 e1 ⊢;have W1:=W.same s1;refine⟨lx,rfl,⟨_,.of e1⟩,as_ (K:=K) (a:=lx) (xs:=(sortS ns).map V.str) (fun i σ H'=>∃v3:Option V,σ=[some (.ref wa),some (.ref l),some (optV (((sortS ns).take i).foldl (hstep ps) none)),v3]/\H'=H1) ⟨none,rfl,rfl⟩ (fun i σ H' _ ⟨_,_,z⟩=>z▸.of e1) ?_ ?_⟩
  ·rintro i x σ H' hx ⟨v3,rfl,rfl⟩;obtain⟨n,hn,rfl⟩:=aj_ hx;have nm:n∈ps.map (·.1):=sub n ((ah_ ns).mem_iff.mp (ae' hn));have st:((sortS ns).take (i+1)).foldl (hstep ps) none=hstep ps (((sortS ns).take i).foldl (hstep ps) none) n:=by rw[aq_ hn,List.foldl_append];rfl
   have inn:∀m,((sortS ns).take i).foldl (hstep ps) none=some m->m∈ps.map (·.1):=fun m hm=>by
    rcases eQ_ hm with h|h
    ·exact sub m ((ah_ ns).mem_iff.mp (List.mem_of_mem_take h))
    ·cases h
   generalize ((sortS ns).take i).foldl (hstep ps) none=o at st inn ⊢;rw[st];refine setG ?_;dsimp only;cases o with
   |none=>
    refine⟨_,rfl,rfl,_,rfl,?_⟩;refine ite2 (fun c=>?_) (fun c=>absurd rfl c);refine ite2 (fun c=>?_) (fun c=>absurd rfl c);exact⟨_,rfl,_,rfl,rfl⟩
   |some m=>
    refine⟨_,rfl,rfl,_,rfl,?_⟩;refine ite2 (fun c=>by simp[optV] at c) (fun c=>?_);refine⟨_,rfl,wa,_,rfl,W1.gH,_,rfl,dh,_,rfl,dgR W1.hv nm,_,rfl,wa,_,rfl,W1.gH,_,rfl,dh,_,rfl,dgR W1.hv (inn m rfl),_,_,rfl,rfl,_,rfl,?_⟩;refine ite2 (fun c=>?_) (fun c=>?_)
    ·refine⟨_,rfl,some (.str n),?_,rfl⟩;have c:wtN ps m<wtN ps n:=by simpa using c
     unfold hstep;dsimp only;rw[if_pos c];rfl
    ·refine⟨some (.str n),?_,rfl⟩;have c:¬wtN ps m<wtN ps n:=by simpa using c
     unfold hstep;dsimp only;rw[if_neg c];rfl
  ·rintro σ H' ⟨v3,rfl,rfl⟩;rw[aa',ar'];exact⟨_,rfl,k _ s1⟩
abbrev btN:List Str:=["_law_world_here","_law_stand","_law_pair","_law_guard","_law_given","_law_one","_law_other","_law_drop_here","_law_both","_law_fit","_law_piece"]
theorem cf':a8' btN ["_law_world_here","_law_stand","_law_pair","_law_guard","_law_given"] (a7' sBest):=f__
def spBest(K:F__):Sp:=fun vs H Q _=>∃(wa sd t lg:Addr) (a b gd:Str) (gv:List Str) (hs:List (Str × Int)) (ts:List (Str × Str)) (ps:List Pc) (f:Str->Str),vs=[.ref wa,.ref sd,.ref t,.str gd,.ref lg]/\cj' K H wa hs ts ps/\Pw hs ts ps f/\H sd=some (.dK (stF (ps.map (·.1)) f))/\H t=some (.tup [.str a,.str b])/\a∈hs.map (·.1)/\b∈hs.map (·.1)/\gd∈(["high","fall","calm"]:List Str)/\H lg=some (.lst (gv.map V.str)) /\
 ∀H',Same H H'->Q (optV (cn' hs ts ps f gd gv a b)) H'
set_option maxHeartbeats 1600000 in
theorem jJ_{f0:Addr}{fd:FuncData}(F:Fun K "_law_best" "_law_best" sBest f0 fd)(cD:Cal P w K mg base 1 "_law_drop" ["_law_world_here","_law_held_here","_law_one","_law_other"] (du' K))(cH:Cal P w K mg base 1 "_law_held" ["_law_world_here","_law_stand"] (ds' K))(cM:Cal P w K mg base 1 "_law_may" ["_law_world_here","_law_piece","_law_one","_law_other"] (spMayL K))(cF:Cal P w K mg base 1 "_law_is_fit" ["_law_guard","_law_drop_here","_law_much"] cV')(cV:Cal P w K mg base 1 "_law_heaviest" ["_law_world_here","_law_pieces"] (spHvL K)) :
  FnOk P w K mg base CX0 2 f0 fd ["_law_world_here","_law_stand","_law_pair","_law_guard","_law_given"] (spBest K):=by
 refine F.ok cf' (fun vs H Q E h=>?_) (fun cdv A outer s H vs Q E hr h=>?_)
 ·obtain⟨wa,sd,t,lg,a,b,gd,gv,hs,ts,ps,f,rfl,_⟩:=h;rfl
 ·obtain⟨wa,sd,t,lg,a,b,gd,gv,hs,ts,ps,f,rfl,WA,Pp,hsd,ht,ha,hb,hgd,hlg,k⟩:=h;obtain⟨ds,dn,lt,dh,dy,ad,gy,W⟩:=id WA;have hu:=b0_ hr;have sz:=sizeLine_eq;refine' ⟨_,?r0,?kk⟩
  case' r0=>refine' a2_ ?s1 ?r1
  case' r1=>refine' a2_ ?s2 ?r2
  case' r2=>refine' a2_ ?s3 ?r3
  case' r3=>refine' a2_ ?s4 (a2_ ?s5 (a5_ ?s6))
  case s1=>exact dT_ (pv 2) (bd_ rfl (ad_ (a8_ (i:=5) cf'.nd rfl (Or.inl rfl)) (ad_ (a8_ (i:=6) cf'.nd rfl (Or.inl rfl)) aT_)))
  case s2=>exact a9_ (i:=7) cf'.nd rfl (Or.inl rfl) (ae_ cD hr (a0_ (pv 0) (a0_ (ae_ cH hr (a0_ (pv 0) (a0_ (pv 1) a3_))) (a0_ (pv 5) (a0_ (pv 6) a3_)))))
  case s3=>exact a9_ (i:=8) cf'.nd rfl (Or.inl rfl) (al_ b3_ (ai_ hu (ai_ hu (pv 0) an_ (fun _ _=>rfl)) (pv 5) (fun _ _=>rfl)) (ai_ hu (ai_ hu (pv 0) an_ (fun _ _=>rfl)) (pv 6) (fun _ _=>rfl)))
  case s4=>exact a9_ (i:=9) cf'.nd rfl (Or.inl rfl) (aE_ a3_)
  case' s5=>refine' cN_ (aG_ PassesOwn.never rfl (em_ (pv 1)) (a8_ (i:=10) cf'.nd rfl (Or.inl rfl)) (a5_ (ar_ ?t5 (a5_ (ar_ ?t6 (a5_ ?b6) ac_)) ac_)))
  case t5=>exact PW.pt (d0_ (ak_ bP_ (ai_ hu (pv 1) (pv 10) (fun _ _=>rfl)) (pv 5) (nomark _)) (d0_ (ak_ (cw_ cmpS (bZ' hr 0)) (pv 10) (pv 4) (by with_unfolding_all rfl)) (cQ_ (aF_ (ae_ cM hr (a0_ (pv 0) (a0_ (pv 10) (a0_ (pv 5) (a0_ (pv 6) a3_)))))))))
  case t6=>exact aF_ (ae_ cF hr (a0_ (pv 3) (a0_ (pv 7) (a0_ (al_ b8_ (pv 8) (ai_ hu (ai_ hu (pv 0) an_ (fun _ _=>rfl)) (pv 10) (fun _ _=>rfl))) a3_))))
  case b6=>exact b6_ (bQ_ PySem.F.plainAttrs_list PySem.F.slot_list_append PySem.F.type_list_append aU_ (pv 9) (a0_ (pv 10) a3_))
  case s6=>exact ab_ (ae_ cV hr (a0_ (pv 0) (a0_ (pv 9) a3_)))
  case' kk=>skip
  have h1:=Pp.hld_ok a;have h2:=Pp.hld_ok b;have e1:=Pp.str_ok ha;have e2:=Pp.str_ok hb;refine⟨_,rfl,t,_,rfl,.of ht,rfl,_,_,rfl,_,_,rfl,rfl,?_⟩;dsimp only;refine⟨_,rfl,_,rfl,_,rfl,wa,sd,hs,ts,ps,f,rfl,WA,Pp,hsd,fun dd H1 s1 nd1 e1'=>?_⟩;refine⟨_,rfl,_,rfl,wa,dd,a,b,hs,ts,ps,f,rfl,WA.nt (NT.of s1),Pp,e1',ha,hb,?_⟩;refine setG ?_;dsimp only;have W1:=W.same s1;refine⟨_,rfl,wa,_,rfl,W1.gS,_,rfl,ds,_,rfl,dgR W1.sg ha,_,rfl,wa,_,rfl,W1.gS,_,rfl,ds,_,rfl,dgR W1.sg hb,_,_,rfl,rfl,?_⟩;refine setG ?_;dsimp only;refine⟨by show 0<=sizeLine;decide,fun lf nf=>?_⟩;refine setG ?_;dsimp only;have s2:=s1.trans (Same.new (o:=.lst []) nf);have e3:upd H1 lf (.lst []) lf=some (.lst []):=a1_;have nf0:H lf=none:=s1.free nf;generalize upd H1 lf (.lst [])=H2 at s2 e3 ⊢
  have db:-(2 ^ 63)<bw' hs ps f a b/\bw' hs ps f a b<2 ^ 63:=by
   unfold bw';have m1:=Int.mul_nonneg h1.1 (show 0<=strOf hs b by omega);have m2:=Int.mul_le_mul h1.2 e2.2 (by omega) (by omega);have m3:=Int.mul_nonneg h2.1 (show 0<=strOf hs a by omega);have m4:=Int.mul_le_mul h2.2 e1.2 (by omega) (by omega);constructor<;>omega
  have jo:0<=strOf hs a+strOf hs b/\strOf hs a+strOf hs b<=2000:=⟨by omega,by omega⟩;generalize hdp:bw' hs ps f a b=dp at db ⊢;generalize hjn:strOf hs a+strOf hs b=jn at jo ⊢;have hsd2:=s2 _ _ hsd;have lfs:lf≠sd:=(a6_ hsd nf0).symm;refine⟨sd,_,hsd2,?_⟩;refine⟨_,rfl,sd,_,rfl,hsd2,fun o=>?_⟩;refine eY_ (fun i σ H'=>∃v10:Option V,σ=[some (.ref wa),some (.ref sd),some (.ref t),some (.str gd),some (.ref lg),some (.str a),some (.str b),some (.int dp),some (.int jn),some (.ref lf),v10]/\H' sd=some (.frz o (.dK (stF (ps.map (·.1)) f)))/\(∀b u,b≠sd->H b=some u->H' b=some u)/\H' lf=some (.lst ((((ps.map (·.1)).take i).filter (bB' hs ts ps f gd gv a b)).map V.str))) ⟨none,rfl,a1_,fun b u n1 e=>by rw[a4_ n1];exact s2 _ _ e,by rw[a4_ lfs];exact e3⟩ (fun i σ H' _ ⟨_,_,z,_⟩=>z) ?_ ?_
  ·rintro i ky x σ H4 hx ⟨v10,rfl,fz,kp,hlf⟩;obtain⟨n,hn,rfl,rfl⟩:=d3_ hx;have nm:=ae' hn;have hi:i<(ps.map (·.1)).length:=(ab'.mp hn).1;rw[aa'] at hi;have p30:=Pp.p30;have W4:=W.but hsd nm kp;have wn:=Pp.wt nm
   have no:∀{H5:Hp},Same H4 H5->bB' hs ts ps f gd gv a b n=false->∃v10:Option V,[some (V.ref wa),some (.ref sd),some (.ref t),some (.str gd),some (.ref lg),some (.str a),some (.str b),some (.int dp),some (.int jn),some (.ref lf),some (.str n)]=[some (V.ref wa),some (.ref sd),some (.ref t),some (.str gd),some (.ref lg),some (.str a),some (.str b),some (.int dp),some (.int jn),some (.ref lf),v10]/\H5 sd=some (.frz o (.dK (stF (ps.map (·.1)) f)))/\(∀b u,b≠sd->H b=some u->H5 b=some u)/\H5 lf=some (.lst ((((ps.map (·.1)).take (i+1)).filter (bB' hs ts ps f gd gv a b)).map V.str)):=fun s5 e=>⟨_,rfl,s5 _ _ fz,fun b u n1 e=>s5 _ _ (kp b u n1 e),by
    rw[aq_ hn,aX',List.filter_cons_of_neg (by rw[e];exact aq'),List.filter_nil,aA'];exact s5 _ _ hlf⟩
   refine setG ?_;dsimp only;refine⟨_,rfl,_,rfl,sd,_,rfl,h5_ (.inr ⟨o,fz⟩) nm,_,rfl,rfl,_,rfl,?_⟩;refine ite2 (fun c1=>?_) (fun c1=>?_)
   ·have c1:f n=a:=by simpa using c1
    refine⟨_,rfl,_,rfl,n,gv,rfl,⟨lg,_,rfl,.of (kp _ _ (fun z=>by rw[z,hsd] at hlg;cases hlg) hlg),bF_ gv⟩,_,rfl,?_⟩;rw[if_pos rfl];refine ite2 (fun c2=>?_) (fun c2=>?_)
    ·have c2:¬n∈gv:=by simpa using c2
     refine⟨_,rfl,_,rfl,_,rfl,_,rfl,wa,n,a,b,hs,ts,ps,f,rfl,⟨ds,dn,lt,dh,dy,ad,gy,W4⟩,Pp,nm,ha,fun H5 s5=>⟨_,rfl,?_⟩⟩;have W5:=W4.same s5;refine ite2 (fun c3=>?_) (fun c3=>?_)
     ·refine⟨_,rfl,_,rfl,_,rfl,_,rfl,wa,_,rfl,W5.gH,_,rfl,dh,_,rfl,dgR W5.hv nm,_,_,rfl,rfl,.inl ⟨by omega,by omega⟩,gd,dp,jn * wtN ps n,rfl,hgd,db.1,db.2,fun H6 s6=>⟨_,rfl,?_⟩⟩;refine ite2 (fun c4=>?_) (fun c4=>?_)
      ·have pt:bB' hs ts ps f gd gv a b n=true:=by
        unfold bB';rw[decide_eq_true c1,decide_eq_false c2,c3,hdp,hjn,c4];rfl
       have lf6:=s6 _ _ (s5 _ _ hlf);refine⟨_,rfl,.inl ⟨rfl,_,.of lf6⟩,_,rfl,lf,_,_,rfl,rfl,lf6,?_,?_⟩
       ·rw[aa'];have:=a0' (bB' hs ts ps f gd gv a b) ((ps.map (·.1)).take i);rw[ak'] at this;omega
       ·refine⟨_,rfl,by rw[a4_ lfs.symm];exact s6 _ _ (s5 _ _ fz),fun b u n1 e=>by rw[a4_ (a6_ e nf0)];exact s6 _ _ (s5 _ _ (kp b u n1 e)),?_⟩;rw[a1_,aq_ hn,aX',List.filter_cons_of_pos (by exact pt),List.filter_nil,am'];rfl
      ·refine no (s5.trans s6) ?_;unfold bB';rw[hdp,hjn,show fitB gd dp (jn * wtN ps n)=false by simpa using c4,aT',aT',aT']
     ·refine no s5 ?_;unfold bB';rw[show mayL ts ps n a b=false by simpa using c3,a2',aT',aT']
    ·refine no (Same.refl H4) ?_;have c2:n∈gv:=by simpa using c2
     unfold bB';rw[decide_eq_true c2,Bool.not_true,a2',aT']
   ·refine no (Same.refl H4) ?_;have c1:¬f n=a:=by simpa using c1
    unfold bB';rw[decide_eq_false c1,a2']
  ·rintro σ H4 ⟨v10,rfl,fz,kp,hlf⟩;rw[aB_,ar'] at hlf
   have s4:Same H (upd H4 sd (.dK (stF (ps.map (·.1)) f))):=fun b u e=>by
    by_cases z:b=sd
    ·rw[z] at e ⊢;rw[hsd] at e;rw[a1_];exact e
    ·rw[a4_ z];exact kp b u z e
   have lf4:upd H4 sd (.dK (stF (ps.map (·.1)) f)) lf=some (.lst (((ps.map (·.1)).filter (bB' hs ts ps f gd gv a b)).map V.str)):=by rw[a4_ lfs];exact hlf
   refine⟨o,fz,?_⟩;generalize upd H4 sd (.dK (stF (ps.map (·.1)) f))=H5 at s4 lf4 ⊢;refine⟨_,rfl,_,rfl,wa,lf,_,hs,ts,ps,rfl,WA.nt (NT.of s4),lf4,fun n hn=>(aU'.mp hn).1,?_,fun H6 s6=>k _ (s4.trans s6)⟩;have:=a0' (bB' hs ts ps f gd gv a b) (ps.map (·.1));have p30:=Pp.p30;rw[aa'] at this;omega
end
end Ev
namespace L2
open PySem
variable{X:Cx}
def rRemoveF:V->List V->Hp->VK->Prop:=fun x vs H Q=>∃(l:Addr) (xs:List V) (k:V) (j:Nat),x=.ref l/\vs=[k]/\H l=some (.lst xs)/\cm' k=true/\xs.all cm'=true/\(∃y,xs[j]? = some y/\eqV y k=true)/\(∀i y,i<j->xs[i]? = some y->eqV y k=false)/\Q .non (upd H l (.lst (xs.eraseIdx j)))
theorem fd_:MtM X "list.remove" rRemoveF:=by
 intro pins s σ H x vs v us Q I rx rv h;obtain⟨l,xs,k,j,rfl,rfl,hH,fk,fx,⟨y,hy,ey⟩,no,q⟩:=h;cases rx;obtain⟨u,rfl,ru⟩:=rv.one;obtain⟨z,its,n,r,hl,e⟩:=I.lstM hH;obtain⟨hjx,ejx⟩:=ab'.mp hy;refine call_meets PySem.F.slot_list_remove ⟨_,e,rfl⟩ PySem.F.entry_list_remove (PySem.F.args_list_remove_2 _ _) (MeetsSeq.list_remove l its.toArray n u (eqU k) (fun y hy prog w A E s Q hq=>dq_ (A:=A) (s:=s) ru fk r fx y (by simpa using hy) prog w E Q hq) j (by show j<its.length;omega) ?_ ?_ (by rw[aj'];omega)) ⟨e,?_⟩
 ·obtain⟨h2,e2⟩:=cx_ r fx k j (by omega);show eqU k its[j]=true;rw[e2,ejx];exact ey
 ·intro m hm lt;obtain⟨h2,e2⟩:=cx_ r fx k m (by simpa using hm);show eqU k its[m]=false;rw[e2];exact no m _ lt (ah' h2)
 ·refine⟨.non,_,I.lset (its':=its.eraseIdx j) hH e ?_ (r.eraseIdx j) ?_,rfl,q⟩
  ·show its.toArray.eraseIdxIfInBounds j=(its.eraseIdx j).toArray;rw[List.eraseIdxIfInBounds_toArray]
  ·have:=dO_ xs j;omega
end L2
namespace Ev
open PySem L2
def lowF(hs:List (Str × Int))(ps:List Pc)(f:Str->Str)(a:Str)(l:List Str):Str:=l.foldl (fun lo x=>if 0<bw' hs ps f lo x then x else lo) a
theorem ex_{hs:List (Str × Int)}{ps:List Pc}{f:Str->Str}:∀{l:List Str} {a:Str},lowF hs ps f a l=a∨lowF hs ps f a l∈l
 |[],a=>.inl rfl
 |x::l,a=>by
  have e:lowF hs ps f a (x::l)=lowF hs ps f (if 0<bw' hs ps f a x then x else a) l:=rfl;rw[e];by_cases c:0<bw' hs ps f a x
  ·rw[if_pos c];rcases ex_ (hs:=hs) (ps:=ps) (f:=f) (l:=l) (a:=x) with h|h
   ·exact .inr (by rw[h];exact af')
   ·exact .inr (ad' _ h)
  ·rw[if_neg c];rcases ex_ (hs:=hs) (ps:=ps) (f:=f) (l:=l) (a:=a) with h|h
   ·exact .inl h
   ·exact .inr (ad' _ h)
theorem el_{hs:List (Str × Int)}{ps:List Pc}{f:Str->Str}{a:Str}{l:List Str}:lowF hs ps f a (a::l)∈a::l:=by
 rcases ex_ (hs:=hs) (ps:=ps) (f:=f) (l:=a::l) (a:=a) with h|h
 ·rw[h];exact af'
 ·exact h
def risW(hs:List (Str × Int))(ps:List Pc)(f:Str->Str):Nat->List Str->List Str
 |0,_=>[]
 |_+1,[]=>[]
 |n+1,a::l=>lowF hs ps f a (a::l)::risW hs ps f n ((a::l).erase (lowF hs ps f a (a::l)))
def risN(hs:List (Str × Int))(ts:List (Str × Str))(ps:List Pc)(f:Str->Str)(h:Str):List Str:=risW hs ps f (sortS (nbL ts h)).length (sortS (nbL ts h))
theorem eX_(hs:List (Str × Int))(ps:List Pc)(f:Str->Str):∀(n:Nat) (l:List Str),(risW hs ps f n l).length<=n
 |0,_=>ag' _
 |_+1,[]=>aC' _
 |n+1,a::l=>Nat.succ_le_succ (eX_ hs ps f n _)
theorem gV_{hs:List (Str × Int)}{ps:List Pc}{f:Str->Str}:∀{n:Nat} {l:List Str} {x:Str},x∈risW hs ps f n l->x∈l
 |0,_,_,h=>by cases h
 |_+1,[],_,h=>by cases h
 |n+1,a::l,x,h=>by
  rcases ai'.mp h with h|h
  ·rw[h];exact el_
  ·exact List.mem_of_mem_erase (gV_ h)
theorem fa_:∀{l:List Str} {a:Str},a∈l->∃j,l[j]? = some a/\(∀i y,i<j->l[i]? = some y->y≠a)/\l.eraseIdx j=l.erase a
 |b::l,a,h=>by
  by_cases z:b=a
  ·subst z;exact⟨0,rfl,fun i y h=>absurd h (Nat.not_lt_zero _),by simp⟩
  ·obtain⟨j,h1,h2,h3⟩:=fa_ (List.mem_of_ne_of_mem (fun y=>z y.symm) h);refine⟨j+1,h1,fun i y hi e=>?_,?_⟩
   ·cases i with
    |zero=>cases e;exact z
    |succ i=>exact h2 i y (by omega) e
   ·rw[List.eraseIdx_cons_succ,h3,List.erase_cons_tail (by simpa using z)]
theorem cg_{α β:Type}(g:α->β):∀(l:List α) (j:Nat),(l.map g).eraseIdx j=(l.eraseIdx j).map g
 |[],_=>by simp
 |a::l,0=>by simp
 |a::l,j+1=>by simp[cg_ g l j]
theorem gX_(x y:Str):eqV (.str x) (.str y)=decide (x=y):=by
 show (x == y)=_;by_cases h:x=y
 ·subst h;simp
 ·simp[h]
def bO'(hs:List (Str × Int))(ts:List (Str × Str))(ps:List Pc)(f:Str->Str)(gd h:Str):List Str->List Str->List Mv
 |_,[]=>[]
 |gv,o::l=>match cn' hs ts ps f gd gv h o with
  |some n=>(n,h,o)::bO' hs ts ps f gd h (gv++[n]) l
  |none=>bO' hs ts ps f gd h gv l
def lowR(hs:List (Str × Int))(ts:List (Str × Str))(ps:List Pc)(f:Str->Str)(w0 gd h:Str):List Mv:=bO' hs ts ps f gd h [] (if w0="least" then (risN hs ts ps f h).take 1 else risN hs ts ps f h)
theorem gs_{hs:List (Str × Int)}{ts:List (Str × Str)}(G:Good hs ts){h x:Str}(m:x∈nbL ts h):x∈hs.map (·.1):=by
 obtain⟨t,ht,m⟩:=List.mem_flatMap.mp m;unfold nbT at m;rcases av'.mp m with m|m
 ·split at m
  ·rw[ay'.mp m];exact (G.tin t ht).2
  ·cases m
 ·split at m
  ·rw[ay'.mp m];exact (G.tin t ht).1
  ·cases m
section
variable{P:Program}{w:World}{K:F__}{mg:Str->Option Value}{base:Heap}
abbrev rsN:List Str:=["_law_world_here","_law_stand","_law_hand","_law_held_here","_law_left","_law_found","_law_lowest","_law_one"]
theorem bA':a8' rsN ["_law_world_here","_law_stand","_law_hand"] (a7' c3'):=f__
def cD'(K:F__):Sp:=fun vs H Q _=>∃(wa sd:Addr) (h:Str) (hs:List (Str × Int)) (ts:List (Str × Str)) (ps:List Pc) (f:Str->Str),vs=[.ref wa,.ref sd,.str h]/\cj' K H wa hs ts ps/\Pw hs ts ps f/\H sd=some (.dK (stF (ps.map (·.1)) f))/\h∈hs.map (·.1)/\(nbL ts h).length<64 /\
 ∀l H',Same H H'->H l=none->H' l=some (.lst ((risN hs ts ps f h).map V.str))->Q (.ref l) H'
set_option maxHeartbeats 1600000 in
theorem gW_{f0:Addr}{fd:FuncData}(F:Fun K "_law_rising" "_law_rising" c3' f0 fd)(B:Bi mg)(cD:Cal P w K mg base 1 "_law_drop" ["_law_world_here","_law_held_here","_law_one","_law_other"] (du' K))(cH:Cal P w K mg base 1 "_law_held" ["_law_world_here","_law_stand"] (ds' K)):FnOk P w K mg base CX0 2 f0 fd ["_law_world_here","_law_stand","_law_hand"] (cD' K):=by
 refine F.ok bA' (fun vs H Q E h=>?_) (fun cdv A outer s H vs Q E hr h=>?_)
 ·obtain⟨wa,sd,h,hs,ts,ps,f,rfl,_⟩:=h;rfl
 ·obtain⟨wa,sd,h,hs,ts,ps,f,rfl,WA,Pp,hsd,hh,n64,k⟩:=h;obtain⟨ds,dn,lt,dh,dy,ad,gy,W⟩:=id WA;have hu:=b0_ hr;have sz:=sizeLine_eq;refine' ⟨_,?r0,?kk⟩
  case' r0=>refine' a2_ ?s1 ?r1
  case' r1=>refine' a2_ ?s2 ?r2
  case' r2=>refine' a2_ ?s3 (a2_ ?s4 (a5_ ?s5))
  case s1=>exact a9_ (i:=3) bA'.nd rfl (Or.inl rfl) (ae_ cH hr (a0_ (pv 0) (a0_ (pv 1) a3_)))
  case s2=>exact a9_ (i:=4) bA'.nd rfl (Or.inl rfl) (af_ c3_ (by rfl) B.sorted PyProof.Rows.Boot.«sorted» (a0_ (ai_ hu (ai_ hu (pv 0) an_ (fun _ _=>rfl)) (pv 2) (fun _ _=>rfl)) a3_))
  case s3=>exact a9_ (i:=5) bA'.nd rfl (Or.inl rfl) (aE_ a3_)
  case' s4=>refine' eR_ PassesOwn.never (ak_ (ez_ (bZ' hr 0)) (pv 4) (aE_ a3_) (nomark _)) (a2_ ?b1 (a2_ ?b2 (a2_ ?b3 (a5_ ?b4))))
  case b1=>exact a9_ (i:=6) bA'.nd rfl (Or.inl rfl) (ax_ aH_ (pv 4) a7_ (fun _ _=>rfl))
  case b2=>exact aG_ PassesOwn.never rfl (am_ (pv 4)) (a8_ (i:=7) bA'.nd rfl (Or.inl rfl)) (a5_ (ar_ (ak_ cu_ (ae_ cD hr (a0_ (pv 0) (a0_ (pv 3) (a0_ (pv 6) (a0_ (pv 7) a3_))))) a7_ (nomark _)) (a5_ (a9_ (i:=6) bA'.nd rfl (Or.inl rfl) (pv 7))) ac_))
  case b3=>exact b6_ (bQ_ PySem.F.plainAttrs_list PySem.F.slot_list_append PySem.F.type_list_append aU_ (pv 5) (a0_ (pv 6) a3_))
  case b4=>exact b6_ (bQ_ PySem.F.plainAttrs_list PySem.F.slot_list_remove PySem.F.type_list_remove fd_ (pv 4) (a0_ (pv 6) a3_))
  case s5=>exact ab_ (pv 5)
  case' kk=>skip
  refine⟨_,rfl,_,rfl,wa,sd,hs,ts,ps,f,rfl,WA,Pp,hsd,fun dd H1 s1 nd1 e1=>?_⟩;refine setG ?_;dsimp only;have W1:=W.same s1;refine⟨_,rfl,wa,_,rfl,W1.gN,_,rfl,dn,_,rfl,dgR W1.nr hh,ad h,nbL ts h,rfl,.of (W1.ls h hh),n64,fun lx nx=>?_⟩;refine setG ?_;dsimp only;have s2:=Same.new (o:=.lst ((sortS (nbL ts h)).map V.str)) nx;have e2:upd H1 lx (.lst ((sortS (nbL ts h)).map V.str)) lx=some (.lst ((sortS (nbL ts h)).map V.str)):=a1_;generalize upd H1 lx (.lst ((sortS (nbL ts h)).map V.str))=H2 at s2 e2 ⊢;refine⟨by show 0<=sizeLine;decide,fun lf nf=>?_⟩;refine setG ?_;dsimp only;have s3:=Same.new (o:=.lst []) nf;have e3:upd H2 lf (.lst []) lf=some (.lst []):=a1_;generalize upd H2 lf (.lst [])=H3 at s3 e3 ⊢;have nx0:H lx=none:=s1.free nx;have nf0:H lf=none:=(s1.trans s2).free nf;have xf:lx≠lf:=a6_ e2 nf;have inn:∀x∈sortS (nbL ts h),x∈hs.map (·.1):=fun x hx=>gs_ Pp.Gd ((ah_ _).mem_iff.mp hx);have l64:(sortS (nbL ts h)).length<64:=by rw[(ah_ _).length_eq];exact n64
  have e33:=s3 _ _ e2;have s03:=(s1.trans s2).trans s3;have e13:=(s2.trans s3) _ _ e1;have ddx:dd≠lx:=a6_ e1 nx;have ddf:dd≠lf:=a6_ (s2 _ _ e1) nf;unfold risN at k;generalize sortS (nbL ts h)=L at inn l64 k e33;clear e2 nx nf s1 s2 s3 W1;refine⟨fun m σ H'=>∃(v6 v7:Option V) (left done:List Str),σ=[some (.ref wa),some (.ref sd),some (.str h),some (.ref dd),some (.ref lx),some (.ref lf),v6,v7]/\Same H H'/\H' dd=some (.dK (mKV (hs.map (·.1)) fun n=>.int (hld ps f n)))/\H' lx=some (.lst (left.map V.str))/\H' lf=some (.lst (done.map V.str))/\m=left.length/\(∀x∈left,x∈hs.map (·.1))/\left.length+done.length<=64/\done++risW hs ps f left.length left=risW hs ps f L.length L,⟨_,none,none,L,[],rfl,s03,e13,e33,e3,rfl,inn,by rw[aV'];omega,rfl⟩,?_⟩;rintro m σ H4 ⟨v6,v7,left,done,rfl,s4,d4,x4,f4,rfl,in4,l4,eq4⟩;refine⟨_,rfl,by show 0<=sizeLine;decide,fun le ne=>?_⟩;have s5:=Same.new (o:=.lst []) ne;have e5:upd H4 le (.lst []) le=some (.lst []):=a1_;generalize upd H4 le (.lst [])=H5 at s5 e5 ⊢;refine⟨lx,le,left.map V.str,rfl,rfl,.of (s5 _ _ x4),.of e5,_,rfl,?_⟩;refine ite2 (fun c=>?_) (fun c=>?_)
  ·cases left with
   |nil=>simp at c
   |cons a l=>
    refine⟨fun σ H'=>∃(v6 v7:Option V) (left done:List Str),left.length<(a::l).length/\σ=[some (.ref wa),some (.ref sd),some (.str h),some (.ref dd),some (.ref lx),some (.ref lf),v6,v7]/\Same H H'/\H' dd=some (.dK (mKV (hs.map (·.1)) fun n=>.int (hld ps f n)))/\H' lx=some (.lst (left.map V.str))/\H' lf=some (.lst (done.map V.str))/\(∀x∈left,x∈hs.map (·.1))/\left.length+done.length<=64/\done++risW hs ps f left.length left=risW hs ps f L.length L,fun σ' H' ⟨v6,v7,left,done,lt,e,q1,q2,q3,q4,q5,q6,q7⟩=>⟨left.length,lt,v6,v7,left,done,e,q1,q2,q3,q4,rfl,q5,q6,q7⟩,?_⟩;have x5:=s5 _ _ x4;have d5:=s5 _ _ d4;have f5:=s5 _ _ f4;have W5:=W.same (s4.trans s5);refine⟨_,rfl,lx,_,_,_,rfl,rfl,.of x5,L2.bs' (xs:=(a::l).map V.str) (j:=0) (v:=.str a) rfl,?_⟩;refine setG ?_;dsimp only;refine seqG (fun σ H'=>∃v7:Option V,σ=[some (.ref wa),some (.ref sd),some (.str h),some (.ref dd),some (.ref lx),some (.ref lf),some (.str (lowF hs ps f a (a::l))),v7]/\H'=H5) ?m2 ?m1
    case m1=>
     intro N1 hN;refine⟨_,rfl,lx,rfl,⟨_,.of x5⟩,as_ (K:=K) (a:=lx) (xs:=(a::l).map V.str) (fun i σ H'=>∃v7:Option V,σ=[some (.ref wa),some (.ref sd),some (.str h),some (.ref dd),some (.ref lx),some (.ref lf),some (.str (lowF hs ps f a ((a::l).take i))),v7]/\H'=H5) ⟨v7,rfl,rfl⟩ (fun i σ H' _ ⟨_,_,z⟩=>z▸.of x5) ?_ ?_⟩
     ·rintro i x σ H' hx ⟨v7,rfl,rfl⟩;obtain⟨n,hn,rfl⟩:=aj_ hx
      have st:lowF hs ps f a ((a::l).take (i+1))=if 0<bw' hs ps f (lowF hs ps f a ((a::l).take i)) n then n else lowF hs ps f a ((a::l).take i):=by
       unfold lowF;rw[aq_ hn,List.foldl_append];rfl
      have lm:lowF hs ps f a ((a::l).take i)∈hs.map (·.1):=by
       rcases ex_ (hs:=hs) (ps:=ps) (f:=f) (l:=(a::l).take i) (a:=a) with z|z
       ·rw[z];exact in4 a af'
       ·exact in4 _ (List.mem_of_mem_take z)
      rw[st];generalize lowF hs ps f a ((a::l).take i)=lo at lm ⊢;refine setG ?_;dsimp only;refine⟨_,rfl,_,rfl,_,rfl,_,rfl,wa,dd,lo,n,hs,ts,ps,f,rfl,⟨ds,dn,lt,dh,dy,ad,gy,W5⟩,Pp,d5,lm,in4 n (ae' hn),_,_,rfl,rfl,_,rfl,?_⟩;refine ite2 (fun c=>?_) (fun c=>?_)
      ·have c:0<bw' hs ps f lo n:=by simpa using c
       rw[if_pos c];exact⟨_,rfl,_,rfl,rfl⟩
      ·have c:¬0<bw' hs ps f lo n:=by simpa using c
       rw[if_neg c];exact⟨_,rfl,rfl⟩
     ·rintro σ H' ⟨v7,rfl,rfl⟩;rw[aa',ar'];exact hN _ _ ⟨_,rfl,rfl⟩
    rintro σ H6 ⟨v7,rfl,rfl⟩;have lm:=el_ (hs:=hs) (ps:=ps) (f:=f) (a:=a) (l:=l);generalize elo:lowF hs ps f a (a::l)=lo at lm ⊢;rw[az'] at l4;refine⟨_,rfl,.inl ⟨rfl,_,.of f5⟩,_,rfl,lf,_,_,rfl,rfl,f5,by rw[aa'];omega,?_⟩;have x6:upd H6 lf (.lst (done.map V.str++[.str lo])) lx=some (.lst ((a::l).map V.str)):=by rw[a4_ xf];exact x5
    obtain⟨j,j1,j2,j3⟩:=fa_ lm;have le1:((a::l).erase lo).length=l.length:=by rw[List.length_erase_of_mem lm];rfl
    refine⟨_,rfl,.inl ⟨rfl,_,.of x6⟩,_,rfl,lx,_,_,j,rfl,rfl,x6,rfl,?_,⟨.str lo,by rw[ao',j1];rfl,by rw[gX_];simp⟩,fun i y hi e=>?_,?_⟩
    ·rw[List.all_eq_true];intro v hv;obtain⟨_,_,rfl⟩:=ac'.mp hv;rfl
    ·rw[ao',aZ'] at e;obtain⟨x,hx,rfl⟩:=e;rw[gX_];simpa using j2 i x hi hx
    ·refine⟨_,_,(a::l).erase lo,done++[lo],by rw[le1,az'];omega,rfl,fun b u e=>?_,?_,?_,?_,fun x hx=>in4 x (List.mem_of_mem_erase hx),by rw[le1,an',aS'];omega,?_⟩
     ·rw[a4_ (a6_ e nx0),a4_ (a6_ e nf0)];exact s5 _ _ (s4 _ _ e)
     ·rw[a4_ ddx,a4_ ddf];exact d5
     ·rw[a1_,cg_,j3]
     ·rw[a4_ xf.symm,a1_,am'];rfl
     ·rw[le1,<- eq4,List.append_assoc];show done++(lo::risW hs ps f l.length ((a::l).erase lo))=done++(lowF hs ps f a (a::l)::risW hs ps f l.length ((a::l).erase (lowF hs ps f a (a::l))));rw[elo]
  ·have z:left=[]:=by
    cases left with
    |nil=>rfl
    |cons a l=>simp at c
   subst z;refine⟨_,rfl,k lf _ (s4.trans s5) nf0 ?_⟩;rw[<- eq4,s5 _ _ f4];show _=some (HO.lst ((done++[]).map V.str));rw[aA']
end
end Ev
namespace Ev
open PySem L2
theorem c7_{hs:List (Str × Int)}{ts:List (Str × Str)}{ps:List Pc}{f:Str->Str}{gd h o:Str}{l gv:List Str}(e:cn' hs ts ps f gd gv h o=none):bO' hs ts ps f gd h gv (o::l)=bO' hs ts ps f gd h gv l:=by
 rw[bO',e]
theorem d8_{hs:List (Str × Int)}{ts:List (Str × Str)}{ps:List Pc}{f:Str->Str}{gd h o n:Str}{l gv:List Str}(e:cn' hs ts ps f gd gv h o=some n):bO' hs ts ps f gd h gv (o::l)=(n,h,o)::bO' hs ts ps f gd h (gv++[n]) l:=by
 rw[bO',e]
theorem hn_(hs:List (Str × Int))(ts:List (Str × Str))(ps:List Pc)(f:Str->Str)(h:Str):(risN hs ts ps f h).length<=(nbL ts h).length:=by
 have:=eX_ hs ps f (sortS (nbL ts h)).length (sortS (nbL ts h));rw[(ah_ _).length_eq] at this;unfold risN;rw[(ah_ _).length_eq];exact this
theorem g6_{hs:List (Str × Int)}{ts:List (Str × Str)}{ps:List Pc}{f:Str->Str}(G:Good hs ts){h x:Str}(m:x∈risN hs ts ps f h):x∈hs.map (·.1):=gs_ G ((ah_ _).mem_iff.mp (gV_ m))
section
variable{P:Program}{w:World}{K:F__}{mg:Str->Option Value}{base:Heap}
abbrev blN:List Str:=["_law_world_here","_law_stand","_law_hand","_law_words","_law_found","_law_given","_law_some","_law_other","_law_piece"]
theorem bI':a8' blN ["_law_world_here","_law_stand","_law_hand","_law_words"] (a7' sByLow):=f__
def cT'(K:F__):Sp:=fun vs H Q _=>∃(wa sd lw:Addr) (h w0 w1 gd:Str) (hs:List (Str × Int)) (ts:List (Str × Str)) (ps:List Pc) (f:Str->Str),vs=[.ref wa,.ref sd,.str h,.ref lw]/\cj' K H wa hs ts ps/\Pw hs ts ps f/\H sd=some (.dK (stF (ps.map (·.1)) f))/\h∈hs.map (·.1)/\(nbL ts h).length<64/\H lw=some (.lst [.str w0,.str w1,.str gd])/\gd∈(["high","fall","calm"]:List Str) /\
 ∀l ys H',Same H H'->H l=none->H' l=some (.lst ys)->ba' K H' ys ((lowR hs ts ps f w0 gd h).map kM)->Q (.ref l) H'
set_option maxHeartbeats 1600000 in
theorem hJ_{f0:Addr}{fd:FuncData}(F:Fun K "_law_by_low" "_law_by_low" sByLow f0 fd)(cR:Cal P w K mg base 2 "_law_rising" ["_law_world_here","_law_stand","_law_hand"] (cD' K))(cB:Cal P w K mg base 2 "_law_best" ["_law_world_here","_law_stand","_law_pair","_law_guard","_law_given"] (spBest K)):FnOk P w K mg base CX0 3 f0 fd ["_law_world_here","_law_stand","_law_hand","_law_words"] (cT' K):=by
 refine F.ok bI' (fun vs H Q E h=>?_) (fun cdv A outer s H vs Q E hr h=>?_)
 ·obtain⟨wa,sd,lw,h,w0,w1,gd,hs,ts,ps,f,rfl,_⟩:=h;rfl
 ·obtain⟨wa,sd,lw,h,w0,w1,gd,hs,ts,ps,f,rfl,WA,Pp,hsd,hh,n64,hlw,hgd,k⟩:=h;have hu:=b0_ hr;have sz:=sizeLine_eq;refine' ⟨_,?r0,?kk⟩
  case' r0=>refine' a2_ ?s1 ?r1
  case' r1=>refine' a2_ ?s2 ?r2
  case' r2=>refine' a2_ ?s3 ?r3
  case' r3=>refine' a2_ ?s4 (a2_ ?s5 (a5_ ?s6))
  case s1=>exact a9_ (i:=4) bI'.nd rfl (Or.inl rfl) (aE_ a3_)
  case s2=>exact a9_ (i:=5) bI'.nd rfl (Or.inl rfl) (aE_ a3_)
  case s3=>exact a9_ (i:=6) bI'.nd rfl (Or.inl rfl) (ae_ cR hr (a0_ (pv 0) (a0_ (pv 1) (a0_ (pv 2) a3_))))
  case s4=>exact ar_ (ak_ bP_ (ax_ aH_ (pv 3) a7_ (fun _ _=>rfl)) an_ (nomark _)) (a5_ (a9_ (i:=6) bI'.nd rfl (Or.inl rfl) (bE_ dt_ (pv 6) ca_ (c6_ a7_)))) ac_
  case' s5=>refine' aG_ PassesOwn.never rfl (am_ (pv 6)) (a8_ (i:=7) bI'.nd rfl (Or.inl rfl)) (a2_ ?b1 (a5_ (ar_ (ak_ jI_ (pv 8) d9_ (nomark _)) (a2_ ?b2 (a5_ ?b3)) ac_)))
  case b1=>exact a9_ (i:=8) bI'.nd rfl (Or.inl rfl) (ae_ cB hr (a0_ (pv 0) (a0_ (pv 1) (a0_ (aP_ (a0_ (pv 2) (a0_ (pv 7) a3_))) (a0_ (ax_ aH_ (pv 3) a7_ (fun _ _=>rfl)) (a0_ (pv 5) a3_))))))
  case b2=>exact b6_ (bQ_ PySem.F.plainAttrs_list PySem.F.slot_list_append PySem.F.type_list_append aU_ (pv 5) (a0_ (pv 8) a3_))
  case b3=>exact b6_ (bQ_ PySem.F.plainAttrs_list PySem.F.slot_list_append PySem.F.type_list_append aU_ (pv 4) (a0_ (aP_ (a0_ (pv 8) (a0_ (pv 2) (a0_ (pv 7) a3_)))) a3_))
  case s6=>exact ab_ (pv 4)
  case' kk=>skip
  refine⟨by show 0<=sizeLine;decide,fun lf nf=>?_⟩;refine setG ?_;dsimp only;have s1:=Same.new (o:=.lst []) nf;have f1:upd H lf (.lst []) lf=some (.lst []):=a1_;generalize upd H lf (.lst [])=H1 at s1 f1 ⊢;refine⟨by show 0<=sizeLine;decide,fun lg ng=>?_⟩;refine setG ?_;dsimp only;have s2:=Same.new (o:=.lst []) ng;have g2:upd H1 lg (.lst []) lg=some (.lst []):=a1_;generalize upd H1 lg (.lst [])=H2 at s2 g2 ⊢;have f2:=s2 _ _ f1;have fg:lf≠lg:=a6_ f1 ng;have ng0:H lg=none:=s1.free ng;have s02:=s1.trans s2;refine⟨_,rfl,_,rfl,_,rfl,wa,sd,h,hs,ts,ps,f,rfl,WA.nt (NT.of s02),Pp,s02 _ _ hsd,hh,n64,fun lr H3 s3 nr r3=>?_⟩;refine setG ?_;dsimp only;have s03:=s02.trans s3;have rl:=hn_ hs ts ps f h;have ri:∀x∈risN hs ts ps f h,x∈hs.map (·.1):=fun x hx=>g6_ Pp.Gd hx;refine seqG (fun σ H'=>∃(l6:Addr) (L:List Str),σ=[some (.ref wa),some (.ref sd),some (.str h),some (.ref lw),some (.ref lf),some (.ref lg),some (.ref l6),none,none]/\Same H3 H'/\H2 l6=none/\H' l6=some (.lst (L.map V.str))/\L.length<64/\(∀x∈L,x∈hs.map (·.1))/\lowR hs ts ps f w0 gd h=bO' hs ts ps f gd h [] L) ?m2 ?m1
  case m1=>
   intro N1 hN;refine⟨_,rfl,lw,_,_,_,rfl,rfl,.of (s03 _ _ hlw),L2.bs' (xs:=[V.str w0,.str w1,.str gd]) (j:=0) (v:=.str w0) rfl,rfl,_,rfl,?_⟩;refine ite2 (fun c=>?_) (fun c=>?_)
   ·have c:w0="least":=by simpa using c
    refine⟨_,rfl,_,rfl,lr,_,rfl,.of r3,fun lq nq=>?_⟩;rw[show cutV ((risN hs ts ps f h).map V.str) none (some 1)=((risN hs ts ps f h).map V.str).take 1 from cK_ _ 1,<- List.map_take];refine hN _ _ ⟨lq,(risN hs ts ps f h).take 1,rfl,Same.new nq,s3.free nq,a1_,by rw[ak'];omega,fun x hx=>ri x (List.mem_of_mem_take hx),?_⟩;unfold lowR;rw[if_pos c]
   ·have c:¬w0="least":=by simpa using c
    refine hN _ _ ⟨lr,risN hs ts ps f h,rfl,Same.refl _,nr,r3,by omega,ri,?_⟩;unfold lowR;rw[if_neg c]
  rintro σ H4 ⟨l6,L,rfl,s4,n6,e6,l64,li,elow⟩;rw[elow] at k;clear elow;have s04:=s03.trans s4;have f4:=s4 _ _ (s3 _ _ f2);have g4:=s4 _ _ (s3 _ _ g2);have f6:l6≠lf:=(a6_ f2 n6).symm;have g6:l6≠lg:=(a6_ g2 n6).symm;refine⟨_,rfl,l6,rfl,⟨_,.of e6⟩,as_ (K:=K) (a:=l6) (xs:=L.map V.str) (fun i σ H'=>∃(v7 v8:Option V) (gv:List Str) (done:List Mv) (ys:List V),σ=[some (.ref wa),some (.ref sd),some (.str h),some (.ref lw),some (.ref lf),some (.ref lg),some (.ref l6),v7,v8]/\Same H H'/\H' l6=some (.lst (L.map V.str))/\H' lg=some (.lst (gv.map V.str))/\H' lf=some (.lst ys)/\ba' K H' ys (done.map kM)/\gv.length<=i/\done.length<=i/\done++bO' hs ts ps f gd h gv (L.drop i)=bO' hs ts ps f gd h [] L) ⟨none,none,[],[],[],rfl,s04,e6,g4,f4,.nil,ag' _,ag' _,rfl⟩ (fun i σ H' _ ⟨_,_,_,_,_,_,_,z,_⟩=>.of z) ?_ ?_⟩
  ·rintro i x σ H5 hx ⟨v7,v8,gv,done,ys,rfl,s5,e5,g5,f5,t5,lgv,ldn,eq5⟩;obtain⟨o,ho,rfl⟩:=aj_ hx;have hi:i<L.length:=(ab'.mp ho).1
   have dr:L.drop i=o::L.drop (i+1):=by
    obtain⟨h1,h2⟩:=ab'.mp ho;rw[List.drop_eq_getElem_cons h1,h2]
   rw[dr] at eq5;have ly:=Paired.length t5;rw[aa'] at ly;refine setG ?_;dsimp only;refine⟨_,rfl,_,rfl,_,rfl,_,rfl,by show 2<=sizeLine;decide,fun t nt=>?_⟩;have s6:=Same.new (o:=.tup [.str h,.str o]) nt;have e7:upd H5 t (.tup [.str h,.str o]) t=some (.tup [.str h,.str o]):=a1_;generalize upd H5 t (.tup [.str h,.str o])=H6 at s6 e7 ⊢;have s06:=s5.trans s6;refine⟨_,rfl,lw,_,_,_,rfl,rfl,.of (s06 _ _ hlw),L2.bs' (xs:=[V.str w0,.str w1,.str gd]) (j:=2) (v:=.str gd) rfl,?_⟩;refine⟨_,rfl,wa,sd,t,lg,h,o,gd,gv,hs,ts,ps,f,rfl,WA.nt (NT.of s06),Pp,s06 _ _ hsd,e7,hh,li o (ae' ho),hgd,s6 _ _ g5,fun H7 s7=>?_⟩;refine setG ?_;dsimp only;have s57:=s6.trans s7;have s07:=s5.trans s57;refine⟨_,rfl,rfl,_,rfl,?_⟩;cases eb:cn' hs ts ps f gd gv h o with
   |none=>
    rw[c7_ eb] at eq5;refine ite2 (fun c=>by simp[optV] at c) (fun c=>?_);exact⟨_,_,gv,done,ys,rfl,s07,s57 _ _ e5,s57 _ _ g5,s57 _ _ f5,t5.same s57,by omega,by omega,eq5⟩
   |some n=>
    rw[d8_ eb] at eq5;refine ite2 (fun c=>?_) (fun c=>by simp[optV] at c);rw[show optV (some n)=V.str n from rfl];have g7:=s57 _ _ g5;refine⟨_,rfl,.inl ⟨rfl,_,.of g7⟩,_,rfl,lg,_,_,rfl,rfl,g7,by rw[aa'];omega,?_⟩;have f8:upd H7 lg (.lst (gv.map V.str++[.str n])) lf=some (.lst ys):=by rw[a4_ fg];exact s57 _ _ f5
    have g8:upd H7 lg (.lst (gv.map V.str++[.str n])) lg=some (.lst ((gv++[n]).map V.str)):=by rw[a1_,am'];rfl
    have e8:upd H7 lg (.lst (gv.map V.str++[.str n])) l6=some (.lst (L.map V.str)):=by rw[a4_ g6];exact s57 _ _ e5
    have s8:Same H (upd H7 lg (.lst (gv.map V.str++[.str n]))):=aC_ s07 ng0;have t8:ba' K (upd H7 lg (.lst (gv.map V.str++[.str n]))) ys (done.map kM):=b4_ (t5.same s57) g7;generalize upd H7 lg (.lst (gv.map V.str++[.str n]))=H8 at f8 g8 e8 s8 t8 ⊢;refine⟨_,rfl,.inl ⟨rfl,_,.of f8⟩,_,rfl,_,rfl,_,rfl,by show 3<=sizeLine;decide,fun t2 nt2=>?_⟩;have s9:=Same.new (o:=.tup [.str n,.str h,.str o]) nt2;have e9:upd H8 t2 (.tup [.str n,.str h,.str o]) t2=some (.tup ((kM (n,h,o)).map kV)):=a1_;generalize upd H8 t2 (.tup [.str n,.str h,.str o])=H9 at s9 e9 ⊢;have f9:=s9 _ _ f8;refine⟨lf,_,_,rfl,rfl,f9,by omega,?_⟩;refine⟨_,_,gv++[n],done++[(n,h,o)],ys++[.ref t2],rfl,aC_ (s8.trans s9) nf,by rw[a4_ f6];exact s9 _ _ e8,by rw[a4_ fg.symm];exact s9 _ _ g8,a1_,?_,by rw[an',aS'];omega,by rw[an',aS'];omega,?_⟩
    ·rw[am'];exact b4_ (bv_ (t8.same s9) e9) f9
    ·rw[List.append_assoc];exact eq5
  ·rintro σ H5 ⟨v7,v8,gv,done,ys,rfl,s5,e5,g5,f5,t5,_,_,eq5⟩;rw[aa',List.drop_length] at eq5;refine⟨_,rfl,k lf ys H5 s5 nf f5 ?_⟩;rw[<- eq5];show ba' K H5 ys ((done++[]).map kM);rw[aA'];exact t5
end
end Ev
namespace Ev
open PySem L2
theorem cM'{h x:Str}{t:Str × Str}:x∈nbT h t ↔ t=(h,x)∨t=(x,h):=by
 obtain⟨a,b⟩:=t;unfold nbT;rw[av'];constructor
 ·rintro (m|m)
  ·split at m
   ·rename_i z
    have z:a=h:=z;exact .inl (by rw[ay'.mp m,z])
   ·cases m
  ·split at m
   ·rename_i z
    have z:b=h:=z;exact .inr (by rw[ay'.mp m,z])
   ·cases m
 ·rintro (e|e)
  ·obtain⟨rfl,rfl⟩:=Prod.mk.inj e;exact .inl (by rw[if_pos rfl];exact ay'.mpr rfl)
  ·obtain⟨rfl,rfl⟩:=Prod.mk.inj e;exact .inr (by rw[if_pos rfl];exact ay'.mpr rfl)
theorem dl'{ts:List (Str × Str)}{h x:Str}:x∈nbL ts h ↔ (h,x)∈ts∨(x,h)∈ts:=by
 unfold nbL;rw[List.mem_flatMap];constructor
 ·rintro⟨t,ht,m⟩;rcases cM'.mp m with rfl|rfl
  ·exact .inl ht
  ·exact .inr ht
 ·rintro (m|m)
  ·exact⟨_,m,cM'.mpr (.inl rfl)⟩
  ·exact⟨_,m,cM'.mpr (.inr rfl)⟩
theorem is_{h:Str}:∀{ts:List (Str × Str)},(∀t∈ts,t.1≠t.2)->(ts.map kO).Nodup->(nbL ts h).Nodup
 |[],_,_=>List.nodup_nil
 |t::ts,ne,nd=>by
  rw[ap',aM'] at nd;have ih:=is_ (h:=h) (fun u hu=>ne u (ad' _ hu)) nd.2;have nt:=ne t af';show (nbT h t++nbL ts h).Nodup;rw[List.nodup_append];refine⟨?_,ih,fun a ha b hb e=>?_⟩
  ·unfold nbT;by_cases z1:t.1=h
   ·rw[if_pos z1,if_neg (fun z=>nt (z1.trans z.symm)),aA'];simp
   ·rw[if_neg z1,List.nil_append];split
    ·simp
    ·exact List.nodup_nil
  ·subst e;refine nd.1 ?_;rcases cM'.mp ha with rfl|rfl<;>rcases dl'.mp hb with m|m
   ·exact ac'.mpr ⟨_,m,rfl⟩
   ·exact ac'.mpr ⟨_,m,ep_ _ _⟩
   ·exact ac'.mpr ⟨_,m,ep_ _ _⟩
   ·exact ac'.mpr ⟨_,m,rfl⟩
theorem gw_{hs:List (Str × Int)}{ts:List (Str × Str)}(G:Good hs ts){h x:Str}:x∈nb hs ts h ↔ x∈nbL ts h:=by
 show x∈(a9' hs).filter _ ↔ _;rw[aU',decide_eq_true_eq,ca',dl'];constructor
 ·rintro⟨_,⟨a,b⟩,ht,e⟩;rcases g9_ (a:=a) (b:=b) (c:=h) (d:=x) (by show kT (ord2 a b)=kT (ord2 h x);rw[<- e]) with⟨rfl,rfl⟩|⟨rfl,rfl⟩
  ·exact .inl ht
  ·exact .inr ht
 ·rintro (m|m)
  ·exact⟨(au_ hs).mem_iff.mpr (G.tin _ m).2,_,m,rfl⟩
  ·exact⟨(au_ hs).mem_iff.mpr (G.tin _ m).1,_,m,bV_ _ _⟩
theorem h6_{hs:List (Str × Int)}{ts:List (Str × Str)}(G:Good hs ts)(h:Str):sortS (nbL ts h)=nb hs ts h:=by
 refine (cJ_ ?_ ((fV_ hs).filter _) (c0_ _)).symm;refine ((List.perm_ext_iff_of_nodup (G.nnd.filter _) (is_ (fun t ht=>(G.tok t ht).2.2) G.tnd)).mpr fun x=>?_).trans (ah_ _).symm;exact gw_ G
section
variable{hs:List (Str × Int)}{ts:List (Str × Str)}{ps qs:List Pc}{f:Str->Str}
theorem eO_(W:Pw hs ts ps f)(Q:Qs ps qs)(n:Str):hld ps f n=lo qs f n:=(jn_ f (Q.ws W.nd) n).symm
theorem fR_(W:Pw hs ts ps f)(Q:Qs ps qs)(a b:Str):bw' hs ps f a b=b7' hs qs f a b:=by
 unfold bw' b7';rw[eO_ W Q,eO_ W Q]
theorem hN_(G:Good hs ts):0<dA' hs:=dl_ fun n hn=>by
 obtain⟨m,hm,rfl⟩:=ac'.mp hn;have:=str_ok G hm;omega
theorem ih_(G:Good hs ts){n:Str}(h:n∈hs.map (·.1)):dA' hs / strOf hs n * strOf hs n=dA' hs:=by
 refine Int.ediv_mul_cancel (hY_ (fun m hm=>?_) (ac'.mpr ⟨n,(au_ hs).mem_iff.mpr h,rfl⟩));obtain⟨k,hk,rfl⟩:=ac'.mp hm;have:=str_ok G hk;omega
theorem ltge(a b:Int):a<b∨b<=a:=by omega
theorem cross{ha hb sa sb A B M:Int}(hM:0<M)(hA:A * sa=M)(hB:B * sb=M)(sa0:0<sa)(sb0:0<sb):0<ha * sb - hb * sa ↔ hb * B<ha * A:=by
 have A0:0<A:=by
  rcases ltge 0 A with h|h
  ·exact h
  ·have:=Int.mul_nonpos_of_nonpos_of_nonneg h (a6' sa0);omega
 have B0:0<B:=by
  rcases ltge 0 B with h|h
  ·exact h
  ·have:=Int.mul_nonpos_of_nonpos_of_nonneg h (a6' sb0);omega
 have e:(ha * A - hb * B) * M=(ha * sb - hb * sa) * (A * B):=by
  have e1:ha * A * M=ha * sb * (A * B):=by rw[<- hB];simp only[Int.mul_assoc,Int.mul_comm,Int.mul_left_comm]
  have e2:hb * B * M=hb * sa * (A * B):=by rw[<- hA];simp only[Int.mul_assoc,Int.mul_comm,Int.mul_left_comm]
  rw[Int.sub_mul,Int.sub_mul,e1,e2]
 have AB:=Int.mul_pos A0 B0;constructor
 ·intro h;have h1:=Int.mul_pos h AB;rw[<- e] at h1;rcases ltge 0 (ha * A - hb * B) with h2|h2
  ·omega
  ·have:=Int.mul_nonpos_of_nonpos_of_nonneg h2 (a6' hM);omega
 ·intro h;have h1:=Int.mul_pos (show 0<ha * A - hb * B by omega) hM;rw[e] at h1;rcases ltge 0 (ha * sb - hb * sa) with h2|h2
  ·exact h2
  ·have:=Int.mul_nonpos_of_nonpos_of_nonneg h2 (a6' AB);omega
theorem j8_(W:Pw hs ts ps f)(Q:Qs ps qs){a b:Str}(ha:a∈hs.map (·.1))(hb:b∈hs.map (·.1)):0<bw' hs ps f a b ↔ lvF hs qs f b<lvF hs qs f a:=by
 have s1:=W.str_ok ha;have s2:=W.str_ok hb;unfold bw' lvF;rw[eO_ W Q,eO_ W Q];exact cross (hN_ W.Gd) (ih_ W.Gd ha) (ih_ W.Gd hb) (by omega) (by omega)
theorem lex2(x y:Int)(a b:Str):lexK [.inl x,.inr a] [.inl y,.inr b]=if x=y then ltS a b else decide (x<y):=by
 by_cases h:x=y
 ·subst h;rw[if_pos rfl];show (if (Sum.inl x:Key)=Sum.inl x then (if (Sum.inr a:Key)=Sum.inr b then false else ltS a b) else _)=_;rw[if_pos rfl];by_cases z:a=b
  ·subst z;rw[if_pos rfl,dv_]
  ·rw[if_neg fun e=>z (Sum.inr.inj e)]
 ·rw[if_neg h];show (if (Sum.inl x:Key)=Sum.inl y then _ else kLt (Sum.inl x) (Sum.inl y))=_;rw[if_neg fun e=>h (Sum.inl.inj e)];rfl
theorem eC_{x y:Int}{a b:Str}(h:y<x∨(y<=x/\ltS a b=false)):lexK [.inl x,.inr a] [.inl y,.inr b]=false:=by
 rw[lex2];by_cases z:x=y
 ·rw[if_pos z];rcases h with h|h
  ·omega
  ·exact h.2
 ·rw[if_neg z];exact decide_eq_false (by omega)
theorem ed_(W:Pw hs ts ps f)(Q:Qs ps qs):∀{l:List Str} {a:Str},SAsc (a::l)->(∀x∈a::l,x∈hs.map (·.1))->∀x∈a::l,lexK (kR hs qs f x) (kR hs qs f (lowF hs ps f a l))=false
 |[],a,_,_,x,hx=>by
  rw[ay'.mp hx];exact bB_ _
 |y::l,a,as,inn,x,hx=>by
  have e:lowF hs ps f a (y::l)=lowF hs ps f (if 0<bw' hs ps f a y then y else a) l:=rfl;rw[e];have as':(∀z∈y::l,ltS z a=false)/\SAsc (y::l):=aI'.mp as;have as2:(∀z∈l,ltS z y=false)/\SAsc l:=aI'.mp as'.2;have iff:=j8_ W Q (inn a af') (inn y (by simp));by_cases c:0<bw' hs ps f a y
  ·rw[if_pos c];have ih:=ed_ W Q as'.2 fun z hz=>inn z (ad' _ hz);rcases ai'.mp hx with rfl|hx
   ·exact b9_ (ih y af') (eC_ (.inl (iff.mp c)))
   ·exact ih x hx
  ·rw[if_neg c]
   have ih:=ed_ W Q (l:=l) (a:=a) (aI'.mpr ⟨fun z hz=>as'.1 z (ad' _ hz),as2.2⟩) fun z hz=>by
    rcases ai'.mp hz with rfl|hz
    ·exact inn _ af'
    ·exact inn z (by simp[hz])
   rcases ai'.mp hx with rfl|hx
   ·exact ih x af'
   ·rcases ai'.mp hx with rfl|hx
    ·refine b9_ (ih a af') (eC_ (.inr ⟨?_,as'.1 x af'⟩));rcases ltge (lvF hs qs f x) (lvF hs qs f a) with h|h
     ·exact absurd (iff.mpr h) c
     ·exact h
    ·exact ih x (ad' _ hx)
theorem hO_(a:Str)(l:List Str):lowF hs ps f a (a::l)=lowF hs ps f a l:=by
 have e:lowF hs ps f a (a::l)=lowF hs ps f (if 0<bw' hs ps f a a then a else a) l:=rfl;rw[e];split<;>rfl
theorem cZ_(W:Pw hs ts ps f)(Q:Qs ps qs):∀(n:Nat) (l:List Str),l.length=n->SAsc l->(∀x∈l,x∈hs.map (·.1))->(risW hs ps f n l).Perm l/\Asc ((risW hs ps f n l).map (kR hs qs f))
 |0,l,e,_,_=>by
  rw[List.length_eq_zero_iff.mp e];exact⟨.refl _,.nil⟩
 |n+1,[],e,_,_=>by cases e
 |n+1,a::l,e,as,inn=>by
  have lm:=el_ (hs:=hs) (ps:=ps) (f:=f) (a:=a) (l:=l)
  have mn:∀x∈a::l,lexK (kR hs qs f x) (kR hs qs f (lowF hs ps f a (a::l)))=false:=by
   rw[hO_];exact ed_ W Q as inn
  show (lowF hs ps f a (a::l)::risW hs ps f n ((a::l).erase (lowF hs ps f a (a::l)))).Perm (a::l)/\Asc ((lowF hs ps f a (a::l)::risW hs ps f n ((a::l).erase (lowF hs ps f a (a::l)))).map (kR hs qs f));generalize lowF hs ps f a (a::l)=lo at lm mn ⊢;have ih:=cZ_ W Q n ((a::l).erase lo) (by rw[List.length_erase_of_mem lm];exact Nat.succ.inj e) (as.sublist List.erase_sublist) fun x hx=>inn x (List.mem_of_mem_erase hx);refine⟨(ih.1.cons lo).trans (List.perm_cons_erase lm).symm,?_⟩;rw[ap'];refine aI'.mpr ⟨fun k hk=>?_,ih.2⟩;obtain⟨x,hx,rfl⟩:=ac'.mp hk;exact mn x (List.mem_of_mem_erase (ih.1.mem_iff.mp hx))
theorem jS_(W:Pw hs ts ps f)(Q:Qs ps qs)(h:Str):risN hs ts ps f h=risL hs ts qs f h:=by
 have s:=cZ_ W Q (sortS (nbL ts h)).length (sortS (nbL ts h)) rfl (c0_ _) fun x hx=>gs_ W.Gd ((ah_ _).mem_iff.mp hx);have e:=bZ_ ((s.1.map (kR hs qs f)).trans (by rw[h6_ W.Gd])) s.2;unfold risN risL;rw[<- e,al'];exact (List.map_id' _).symm
end
end Ev
namespace Ev
open PySem L2
section
variable{hs:List (Str × Int)}{ts:List (Str × Str)}{ps qs:List Pc}{f:Str->Str}
theorem jO_(Q:Qs ps qs){n:Str}(h:n∈ps.map (·.1)):∃p∈ps,p.1=n/\nrm p∈qs:=by
 have m:n∈qs.map (·.1):=by
  rw[Q.nms];exact (ah_ _).mem_iff.mpr h
 obtain⟨q,hq,rfl⟩:=ac'.mp m;obtain⟨p,hp,e⟩:=Q.mem q hq;exact⟨p,hp,by rw[e];rfl,by rw[<- e];exact hq⟩
theorem wt_q(W:Pw hs ts ps f)(Q:Qs ps qs){n:Str}(h:n∈ps.map (·.1)):wtN qs n=wtN ps n:=by
 obtain⟨p,hp,rfl,hq⟩:=jO_ Q h;rw[ei_ W.nd hp];exact ei_ (q:=nrm p) (Q.nd W.nd) hq
theorem wy_q(W:Pw hs ts ps f)(Q:Qs ps qs){n:Str}(h:n∈ps.map (·.1)):wyN qs n=(wyN ps n).map tsOf:=by
 obtain⟨p,hp,rfl,hq⟩:=jO_ Q h;rw[i6_ W.nd hp];exact i6_ (q:=nrm p) (Q.nd W.nd) hq
theorem way_mem{ws:List (Str × Str)}{a b:Str}:ord2 a b∈tsOf ws ↔ (a,b)∈ws∨(b,a)∈ws:=by
 rw[ca'];constructor
 ·rintro⟨⟨x,y⟩,ht,e⟩;rcases g9_ (a:=x) (b:=y) (c:=a) (d:=b) (by show kT (ord2 x y)=kT (ord2 a b);rw[<- e]) with⟨rfl,rfl⟩|⟨rfl,rfl⟩
  ·exact .inl ht
  ·exact .inr ht
 ·rintro (m|m)
  ·exact⟨_,m,rfl⟩
  ·exact⟨_,m,bV_ _ _⟩
theorem k2_(W:Pw hs ts ps f)(Q:Qs ps qs){n a b:Str}(h:n∈ps.map (·.1))(ha:a∈hs.map (·.1))(hb:b∈hs.map (·.1)):mayL ts ps n a b=mayN hs ts qs n a b:=by
 unfold mayL mayN goB;rw[bC_,decide_eq_true ha,decide_eq_true hb,Bool.true_and,Bool.true_and,wy_q W Q h,decide_eq_decide.mpr (gw_ W.Gd)];congr 1;cases wyN ps n with
 |none=>rfl
 |some ws=>
  show (decide ((a,b)∈ws) || decide ((b,a)∈ws))=decide (ord2 a b∈tsOf ws);rw[Bool.eq_iff_iff,Bool.or_eq_true,decide_eq_true_eq,decide_eq_true_eq,decide_eq_true_eq];exact way_mem.symm
theorem ig_(W:Pw hs ts ps f)(Q:Qs ps qs){gd:Str}{gv:List Str}{n a b:Str}(h:n∈ps.map (·.1))(ha:a∈hs.map (·.1))(hb:b∈hs.map (·.1)):bB' hs ts ps f gd gv a b n=(decide (f n=a)&&hmP hs ts qs f gd gv a b n):=by
 unfold bB' hmP b3';rw[k2_ W Q h ha hb,fR_ W Q,wt_q W Q h,Int.mul_comm,Bool.and_comm (mayN hs ts qs n a b)]
theorem f9_{R:Str->Bool}{k:Str->List Key}{n:Str}:∀{l:List Str},Asc (l.map k)->l.find? R=some n->∀m∈l,R m=true->lexK (k m) (k n)=false
 |x::l,as,e,m,hm,r=>by
  rw[ap'] at as;have as':(∀z∈l.map k,lexK z (k x)=false)/\Asc (l.map k):=aI'.mp as;cases c:R x with
  |true=>
   rw[List.find?_cons_of_pos c] at e;cases e;rcases ai'.mp hm with rfl|hm
   ·exact bB_ _
   ·exact as'.1 _ (ac'.mpr ⟨m,hm,rfl⟩)
  |false=>
   rw[List.find?_cons_of_neg (by rw[c];exact aq')] at e;rcases ai'.mp hm with rfl|hm
   ·rw[c] at r;cases r
   ·exact f9_ as'.2 e m hm r
theorem iL_(qs:List Pc):Asc ((hvL qs).map (kN qs)):=by
 unfold hvL;rw[al']
 have e:∀k∈sortKs ((qs.map (·.1)).map (kN qs)),(kN qs ∘ sndK) k=id k:=fun k hk=>by
  obtain⟨n,_,rfl⟩:=ac'.mp ((ap_ _).mem_iff.mp hk);rfl
 rw[aE' e,List.map_id];exact bw_ _
theorem hfold:∀(l:List Str) (a:Str),SAsc (a::l)->∃m,l.foldl (hstep ps) (some a)=some m/\m∈a::l/\∀x∈a::l,lexK (kN ps x) (kN ps m)=false
 |[],a,_=>⟨a,rfl,af',fun x hx=>by rw[ay'.mp hx];exact bB_ _⟩
 |y::l,a,as=>by
  have as':(∀z∈y::l,ltS z a=false)/\SAsc (y::l):=aI'.mp as;have as2:(∀z∈l,ltS z y=false)/\SAsc l:=aI'.mp as'.2;have e:(y::l).foldl (hstep ps) (some a)=l.foldl (hstep ps) (if wtN ps a<wtN ps y then some y else some a):=rfl;rw[e];by_cases c:wtN ps a<wtN ps y
  ·rw[if_pos c];obtain⟨m,e,hm,mn⟩:=hfold l y as'.2;refine⟨m,e,ad' _ hm,fun x hx=>?_⟩;rcases ai'.mp hx with rfl|hx
   ·exact b9_ (mn y af') (eC_ (.inl (by omega)))
   ·exact mn x hx
  ·rw[if_neg c];obtain⟨m,e,hm,mn⟩:=hfold l a (aI'.mpr ⟨fun z hz=>as'.1 z (ad' _ hz),as2.2⟩);refine⟨m,e,?_,fun x hx=>?_⟩
   ·rcases ai'.mp hm with rfl|hm
    ·exact af'
    ·simp[hm]
   ·rcases ai'.mp hx with rfl|hx
    ·exact mn x af'
    ·rcases ai'.mp hx with rfl|hx
     ·exact b9_ (mn a af') (eC_ (.inr ⟨by omega,as'.1 x af'⟩))
     ·exact mn x (ad' _ hx)
theorem f3_(ps:List Pc)(S:List Str):(S=[]/\hvyL ps S=none)∨∃m,hvyL ps S=some m/\m∈S/\∀x∈S,lexK (kN ps x) (kN ps m)=false:=by
 have p:=ah_ S;have as:=c0_ S;unfold hvyL;generalize sortS S=T at p as;cases T with
 |nil=>exact .inl ⟨List.nil_perm.mp p,rfl⟩
 |cons a l=>
  obtain⟨m,e,hm,mn⟩:=hfold (ps:=ps) l a as;exact .inr ⟨m,e,p.mem_iff.mp hm,fun x hx=>mn x (p.mem_iff.mpr hx)⟩
theorem jq_(W:Pw hs ts ps f)(Q:Qs ps qs){gd:Str}{gv:List Str}{a b:Str}(ha:a∈hs.map (·.1))(hb:b∈hs.map (·.1)):cn' hs ts ps f gd gv a b=(hvAt qs f a).find? (hmP hs ts qs f gd gv a b):=by
 have nm:∀{n:Str},n∈hvL qs ↔ n∈ps.map (·.1):=fun {n}=>by
  rw[(cs_ qs).mem_iff,Q.nms,(ah_ _).mem_iff]
 have kq:∀{n:Str},n∈ps.map (·.1)->kN qs n=kN ps n:=fun {n} h=>by
  unfold kN;rw[wt_q W Q h]
 unfold cn' hvAt;rw[List.find?_filter]
 have sm:∀n,n∈(ps.map (·.1)).filter (bB' hs ts ps f gd gv a b) ↔ n∈hvL qs/\(decide (f n=a)&&hmP hs ts qs f gd gv a b n)=true:=fun n=>by
  rw[aU',nm];constructor
  ·rintro⟨h1,h2⟩;exact⟨h1,by rw[<- ig_ W Q h1 ha hb];exact h2⟩
  ·rintro⟨h1,h2⟩;exact⟨h1,by rw[ig_ W Q h1 ha hb];exact h2⟩
 rcases f3_ ps ((ps.map (·.1)).filter (bB' hs ts ps f gd gv a b)) with⟨e,h⟩|⟨m,h,hm,mn⟩
 ·rw[h];symm;rw[List.find?_eq_none];intro x hx r;have:=(sm x).mpr ⟨hx,by simpa using r⟩;rw[e] at this;cases this
 ·rw[h];obtain⟨m1,m2⟩:=(sm m).mp hm;cases e:(hvL qs).find? fun x=>decide ((decide (f x=a))=true/\hmP hs ts qs f gd gv a b x=true) with
  |none=>
   have:=List.find?_eq_none.mp e m m1;exact absurd (by simpa using m2) this
  |some n=>
   have n1:=List.mem_of_find?_eq_some e;have n2:=List.find?_some e;have nS:=(sm n).mpr ⟨n1,by simpa using n2⟩;have h1:=mn n nS;have h2:=f9_ (iL_ qs) e m m1 (by simpa using m2);rw[kq (nm.mp m1),kq (nm.mp n1)] at h2;have:=cr_ h1 h2;have:sndK (kN ps n)=sndK (kN ps m):=by rw[this]
   exact congrArg some this.symm
end
end Ev
namespace Ev
open PySem L2
def bj':MvR:=fun r hs ts qs f h=>bu' hs ts qs f (r.2.2.2.getD "") h
theorem do_{hs:List (Str × Int)}{ts:List (Str × Str)}{qs:List Pc}{f:Str->Str}{gd h:Str}:∀(l:List Str) (ms:List Mv),(bJ' hs ts qs f gd h ms l).length<=ms.length+l.length
 |[],ms=>ag' _
 |o::l,ms=>by
  rw[bJ',az'];split
  ·have h1:=do_ (hs:=hs) (ts:=ts) (qs:=qs) (f:=f) (gd:=gd) (h:=h) l (ms++hmv hs ts qs f gd (ms.map (·.1)) h o);have h2:=fJ_ hs ts qs f gd (ms.map (·.1)) h o;rw[an'] at h1;omega
  ·have h1:=do_ (hs:=hs) (ts:=ts) (qs:=qs) (f:=f) (gd:=gd) (h:=h) l ms;omega
theorem fP_(r:Rl)(hs:List (Str × Int))(ts:List (Str × Str))(qs:List Pc)(f:Str->Str)(h:Str)(W:Wd hs ts qs f):(bj' r hs ts qs f h).length<=8:=by
 unfold bj' bu';have h1:=do_ (hs:=hs) (ts:=ts) (qs:=qs) (f:=f) (gd:=r.2.2.2.getD "") (h:=h) (risL hs ts qs f h) [];have h2:=(cz_ hs ts qs f h).length_eq;have h3:=f8_ hs ts h;have h4:=W.Gd.nlen;have h5:=W.Gd.h8;rw[aV'] at h1;omega
section
variable{P:Program}{w:World}{K:F__}{mg:Str->Option Value}{base:Heap}
theorem fi_{f0 CS CG CW T:Addr}{fd:FuncData}(F:Fun K "moves_from" "moves_from" c1' f0 fd)(cL:Cal P w K mg base 5 "moves_by_below" ["sight","hand","guard"] (spWay K CS CG CW T bu')):FnOk P w K mg base CX0 6 f0 fd ["sight","hand","words"] (spFrom K CS CG CW T (fun r=>r.2.1="below") bj'):=by
 refine F.ok scMvFrom (fun vs H Q E h=>?_) (fun cdv A outer s H vs Q E hr h=>?_)
 ·obtain⟨v,g,p,aw,h,hs,ts,qs,fp,f,r,hr,rfl,_⟩:=h;rfl
 ·obtain⟨v,g,p,aw,h,hs,ts,qs,fp,f,r,hr',rfl,le,ha,S,W,hh,tab,k⟩:=h;refine' ⟨_,a2_ ?s0 (a2_ ?s1 ag_),?kk⟩
  case s0=>exact ar_ (ak_ bP_ (ax_ aI_ (pv 2) a7_ (fun _ _=>rfl)) an_ (nomark _)) ag_ ac_
  case s1=>exact ar_ (ak_ bP_ (ax_ aI_ (pv 2) a7_ (fun _ _=>rfl)) an_ (nomark _)) (a5_ (ab_ (ae_ cL hr (a0_ (pv 0) (a0_ (pv 1) (a0_ (ax_ aI_ (pv 2) a7_ (fun _ _=>rfl)) a3_)))))) ac_
  case' kk=>skip
  have so:=iU_ r hr' (by rw[le];decide +kernel);obtain⟨gd,eg⟩:=Option.isSome_iff_exists.mp so;have ln:¬r.2.1="least":=by rw[le];decide +kernel
  refine⟨_,rfl,aw,_,_,_,rfl,rfl,ha _,rfl,rfl,_,rfl,?_⟩;rw[bx_,decide_eq_false ln];refine iteF ?_;refine⟨_,rfl,aw,_,_,_,rfl,rfl,ha _,rfl,rfl,_,rfl,?_⟩;rw[bx_,decide_eq_true le];refine iteT ?_;refine⟨_,rfl,_,rfl,_,rfl,aw,_,_,.str gd,rfl,rfl,ha _,?_,v,g,p,h,gd,hs,ts,qs,fp,f,rfl,S,W,hh,tab,fun l ys H' b t n e tu=>k l ys H' b t n e ?_⟩
  ·rw[eg];rfl
  ·unfold bj';rw[eg];exact tu
end
section
variable{hs:List (Str × Int)}{ts:List (Str × Str)}{ps qs:List Pc}{f:Str->Str}
theorem jg_{gd:Str}{a b:Int}(h:fitB gd a b=true)(hb:1<=b):0<a:=by
 unfold fitB at h;split at h
 ·exact of_decide_eq_true h
 ·split at h
  ·have:=of_decide_eq_true h;omega
  ·have:=of_decide_eq_true h;omega
theorem gg_(W:Pw hs ts ps f){gd:Str}{gv:List Str}{a b:Str}(ha:a∈hs.map (·.1))(hb:b∈hs.map (·.1))(h:¬0<bw' hs ps f a b):cn' hs ts ps f gd gv a b=none:=by
 unfold cn'
 have e:(ps.map (·.1)).filter (bB' hs ts ps f gd gv a b)=[]:=by
  rw[List.filter_eq_nil_iff];intro n hn r;unfold bB' at r;simp only[a1'] at r;refine h (jg_ r.2.2.2 ?_);have h1:=W.wt hn;have h2:=W.str_ok ha;have h3:=W.str_ok hb;have:=Int.mul_le_mul (show (1:Int)<=strOf hs a+strOf hs b by omega) h1.1 (by decide) (by omega);omega
 rw[e];rcases f3_ ps [] with⟨_,e⟩|⟨m,_,hm,_⟩
 ·exact e
 ·cases hm
theorem fS_(W:Pw hs ts ps f)(Q:Qs ps qs){gd h:Str}(hh:h∈hs.map (·.1)):∀(l:List Str) (ms:List Mv),(∀x∈l,x∈hs.map (·.1))->bJ' hs ts qs f gd h ms l=ms++bO' hs ts ps f gd h (ms.map (·.1)) l
 |[],ms,_=>by
  rw[bJ',bO',aA']
 |o::l,ms,inn=>by
  have ho:=inn o af';have inn':∀x∈l,x∈hs.map (·.1):=fun x hx=>inn x (ad' _ hx);rw[bJ',<- fR_ W Q];by_cases c:0<bw' hs ps f h o
  ·rw[if_pos c,fS_ W Q hh l _ inn'];unfold hmv;rw[<- jq_ W Q hh ho];cases eb:cn' hs ts ps f gd (ms.map (·.1)) h o with
   |none=>
    rw[c7_ eb];dsimp only;rw[aA']
   |some n=>
    rw[d8_ eb];dsimp only;rw[List.append_assoc,am'];rfl
  ·rw[if_neg c,fS_ W Q hh l ms inn',c7_ (gg_ W hh ho c)]
theorem j2_(W:Pw hs ts ps f)(Q:Qs ps qs){gd h:Str}(hh:h∈hs.map (·.1)):lowR hs ts ps f "below" gd h=bu' hs ts qs f gd h:=by
 unfold lowR bu';rw[if_neg (by decide +kernel),<- jS_ W Q,fS_ W Q hh _ [] fun x hx=>g6_ W.Gd hx];rfl
end
end Ev
namespace Ev
open PySem L2
section
variable{hs:List (Str × Int)}{ts:List (Str × Str)}{qs:List Pc}{f:Str->Str}
theorem gt_{gd a b:Str}{gv:List Str}{m:Mv}(h:m∈hmv hs ts qs f gd gv a b):m.2.1=a:=by
 unfold hmv at h;split at h
 ·rw[ay'.mp h]
 ·cases h
theorem cM_{gd h:Str}:∀(l:List Str) (ms:List Mv),(∀m∈ms,m.2.1=h)->∀m∈bJ' hs ts qs f gd h ms l,m.2.1=h
 |[],ms,hm=>by rw[bJ'];exact hm
 |o::l,ms,hm=>by
  rw[bJ'];split
  ·refine cM_ l _ fun m hx=>?_;rcases av'.mp hx with hx|hx
   ·exact hm m hx
   ·exact gt_ hx
  ·exact cM_ l ms hm
theorem ek_(r:Rl)(h:Str):∀m∈bj' r hs ts qs f h,m.2.1=h:=cM_ _ [] (by simp)
end
theorem cT_{g:Str->List Mv}(hg:∀h,∀m∈g h,m.2.1=h):∀{ns:List Str},ns.Nodup->∀h,(ns.flatMap g).filter (fun m=>decide (m.2.1=h))=if h∈ns then g h else []
 |[],_,h=>by simp
 |n::ns,nd,h=>by
  rw[aM'] at nd;rw[a3',aX',cT_ hg nd.2 h];by_cases z:h=n
  ·subst z;rw[if_neg nd.1,if_pos af',aA',List.filter_eq_self];intro m hm;exact decide_eq_true (hg _ m hm)
  ·have e:(g n).filter (fun m=>decide (m.2.1=h))=[]:=by
    rw[List.filter_eq_nil_iff];intro m hm;rw[hg n m hm];simpa using fun y=>z y.symm
   rw[e,List.nil_append];by_cases y:h∈ns
   ·rw[if_pos y,if_pos (ad' _ y)]
   ·rw[if_neg y,if_neg (by simp[z,y])]
theorem f2_{g:Str->List Mv}(hg:∀h,∀m∈g h,m.2.1=h):∀{ns:List Str},SAsc ns->SAsc ((ns.flatMap g).map (·.2.1))
 |[],_=>.nil
 |n::ns,as=>by
  have as':(∀z∈ns,ltS z n=false)/\SAsc ns:=aI'.mp as;rw[a3',am'];unfold SAsc;rw[List.pairwise_append];refine⟨?_,f2_ hg as'.2,fun a ha b hb=>?_⟩
  ·have e:(g n).map (·.2.1)=List.replicate (g n).length n:=List.eq_replicate_iff.mpr ⟨aa' _,fun b hb=>by
    obtain⟨x,hx,rfl⟩:=ac'.mp hb;exact hg n x hx⟩
   rw[e];exact List.pairwise_replicate.mpr (.inr (dv_ n))
  ·obtain⟨x,hx,rfl⟩:=ac'.mp ha;obtain⟨y,hy,rfl⟩:=ac'.mp hb;obtain⟨k,hk,hy⟩:=List.mem_flatMap.mp hy;rw[hg n x hx,hg k y hy];exact as'.1 k hk
theorem gI_{α β:Type}{g:α->List β}{k:Nat}:∀{l:List α},(∀x∈l,(g x).length<=k)->(l.flatMap g).length<=k * l.length
 |[],_=>aC' _
 |a::l,h=>by
  rw[a3',an',az',Nat.mul_succ];have h1:=h a af';have h2:=gI_ (l:=l) fun x hx=>h x (ad' _ hx);omega
theorem kw_{hs:List (Str × Int)}{ts:List (Str × Str)}(G:Good hs ts){h:Str}(hh:h∈a9' hs):(nb hs ts h).length<(a9' hs).length:=by
 show ((a9' hs).filter _).length<_;refine List.length_filter_lt_length_iff_exists.mpr ⟨h,hh,fun c=>?_⟩;have m:h∈nb hs ts h:=aU'.mpr ⟨hh,c⟩;rcases dl'.mp ((gw_ G).mp m) with m|m
 ·exact (G.tok _ m).2.2 rfl
 ·exact (G.tok _ m).2.2 rfl
theorem iI_(r:Rl){hs:List (Str × Int)}{ts:List (Str × Str)}{qs:List Pc}{f:Str->Str}{h:Str}(W:Wd hs ts qs f)(hh:h∈a9' hs):(bj' r hs ts qs f h).length<=7:=by
 unfold bj' bu';have h1:=do_ (hs:=hs) (ts:=ts) (qs:=qs) (f:=f) (gd:=r.2.2.2.getD "") (h:=h) (risL hs ts qs f h) [];have h2:=(cz_ hs ts qs f h).length_eq;have h3:=kw_ W.Gd hh;have h4:=W.Gd.nlen;have h5:=W.Gd.h8;rw[aV'] at h1;omega
theorem fm_{l:List Str}(h:SAsc l):sortS l=l:=cJ_ (ah_ l) (c0_ l) h
end Ev
namespace L2
open PySem PySem.Spec PyProof.Rows PySem.Builtin PySem.Builtin.Str
section
variable{X:Cx}
theorem vals3{x y z:V}{us:List Value}(r:Vals [x,y,z] us):∃u v w,us=[u,v,w]/\RelV x u/\RelV y v/\RelV z w:=by
 cases r with
 |cons r1 r=>
  obtain⟨v,w,rfl,r2,r3⟩:=vals2 r;exact⟨_,v,w,rfl,r1,r2,r3⟩
theorem cmp3{n:Nat}{D1 D2 D3:Type}[DecidableEq D1][DecidableEq D2][DecidableEq D3]{R1:Rp D1}{R2:Rp D2}{R3:Rp D3}(c1:Cmp X n R1)(c2:Cmp X n R2)(c3:Cmp X n R3):Cmp X (n+1) (r3 X.K R1 R2 R3) where
 one:=fun {pins σ H s x d e} I hx hy=>by
  obtain⟨a,u,v,w,rfl,t,q1,q2,q3⟩:=hx;obtain⟨b,u',v',w',e0,t',q1',q2',q3'⟩:=hy;cases e0;have e1:=I.tuple_inj t t';cases e1;exact Prod.ext (c1.one I q1 q1') (Prod.ext (c2.one I q2 q2') (c3.one I q3 q3'))
 eq:=fun {pins σ H s A x y u v d e} I ru rv hx hy hu=>by
  obtain⟨a,x1,x2,x3,rfl,t,q1,q2,q3⟩:=hx;obtain⟨b,y1,y2,y3,rfl,t',q1',q2',q3'⟩:=hy;cases ru;cases rv;by_cases hab:a=b
  ·subst hab;have e1:=I.tuple_inj t t';cases e1;have:d=e:=Prod.ext (c1.one I q1 q1') (Prod.ext (c2.one I q2 q2') (c3.one I q3 q3'));rw[decide_eq_true this];exact SeqAt.EqAt.same _
  ·obtain⟨its,r,it,_⟩:=I.tuple t;obtain⟨its',r',it',_⟩:=I.tuple t';obtain⟨u1,u2,u3,rfl,r1,r2,r3⟩:=vals3 r;obtain⟨w1,w2,w3,rfl,r1',r2',r3'⟩:=vals3 r'
   have key:=SeqAt.EqAt.of_refs hab (SeqAt.RcAt.tuples (A:=A) (s:=s) (e:=fun j=>if j=0 then decide (d.1=e.1) else if j=1 then decide (d.2.1=e.2.1) else decide (d.2.2=e.2.2)) (by_ it) (by_ it') (by omega) fun j h1 h2=>by
    match j,h1,h2 with
    |0,_,_=>exact c1.eq I r1 r1' q1 q1' (by show A.units+1+n<cLine;omega)
    |1,_,_=>exact c2.eq I r2 r2' q2 q2' (by show A.units+1+n<cLine;omega)
    |2,_,_=>exact c3.eq I r3 r3' q3 q3' (by show A.units+1+n<cLine;omega))
   have e3:((List.range (min [u1,u2,u3].toArray.size [w1,w2,w3].toArray.size)).all (fun j=>if j=0 then decide (d.1=e.1) else if j=1 then decide (d.2.1=e.2.1) else decide (d.2.2=e.2.2))&&[u1,u2,u3].toArray.size == [w1,w2,w3].toArray.size)=decide (d=e):=by
    show (decide (d.1=e.1)&&(decide (d.2.1=e.2.1)&&(decide (d.2.2=e.2.2)&&true))&&true)=_;by_cases h1:d.1=e.1
    ·by_cases h2:d.2.1=e.2.1
     ·by_cases h3:d.2.2=e.2.2
      ·have:d=e:=Prod.ext h1 (Prod.ext h2 h3);simp[this]
      ·have:¬d=e:=fun z=>h3 (by rw[z]);simp[h1,h2,h3,this]
     ·have:¬d=e:=fun z=>h2 (by rw[z]);simp[h1,h2,this]
    ·have:¬d=e:=fun z=>h1 (by rw[z]);simp[h1,this]
   rw[e3] at key;exact key
end
end L2
namespace Ev
open PySem L2
theorem bq'.firm{K:F__}{C:Addr}{H:Hp}{p:Addr}{hs:List (Str × Int)}{ts:List (Str × Str)}{fp:List Addr}(W:bq' K C H p hs ts fp){b:Addr}(hb:b∈fp):∃o,H b=some o/\∀vs,o≠.tbl vs:=by
 obtain⟨dx,d1,l2,d3,zs,as,rfl,h1,h2,h3,h4,h5,h6,h7⟩:=W.ex;simp only[ai'] at hb;rcases hb with rfl|rfl|rfl|rfl|hb
 ·exact⟨_,h1,by intro vs z;cases z⟩
 ·exact⟨_,h2,by intro vs z;cases z⟩
 ·exact⟨_,h3,by intro vs z;cases z⟩
 ·exact⟨_,h5,by intro vs z;cases z⟩
 ·obtain⟨i,hi,e⟩:=aL' hb;exact⟨_,h7 i ((a9' hs)[i]'(by omega)) b (ah' (by omega)) (by rw[<- e];exact ah' hi),by intro vs z;cases z⟩
theorem bc'.firm{K:F__}{CG CW:Addr}{H:Hp}{g p:Addr}{hs:List (Str × Int)}{ts:List (Str × Str)}{qs:List Pc}{fp:List Addr}(G:bc' K CG CW H g p hs ts qs fp):∃fp',bc' K CG CW H g p hs ts qs fp'/\(∀b∈fp',b∈fp)/\∀b∈fp',∃o,H b=some o/\∀vs,o≠.tbl vs:=by
 obtain⟨dx,dw,dy,vs,fpw,h1,h2,h3,h4,h5,m1,m2,m3,m4,m5⟩:=G.ex;refine⟨g::dw::dy::(fpw++vs.filterMap fun v=>match v with | .ref a=>some a|_=>none),⟨dx,dw,dy,vs,fpw,h1,h2,h3,h4,h5,by simp,by simp,by simp,fun b hb=>by simp[hb],fun v hv a z=>?_⟩,fun b hb=>?_,fun b hb=>?_⟩
 ·have:a∈vs.filterMap fun v=>match v with | .ref a=>some a|_=>none:=aN'.mpr ⟨v,hv,by rw[z]⟩;simp only[ai',av'];exact .inr (.inr (.inr (.inr this)))
 ·simp only[ai',av'] at hb;rcases hb with rfl|rfl|rfl|hb|hb
  ·exact m1
  ·exact m2
  ·exact m3
  ·exact m4 b hb
  ·obtain⟨v,hv,e⟩:=aN'.mp hb;cases v with
   |ref a=>cases e;exact m5 _ hv _ rfl
   |_=>cases e
 ·simp only[ai',av'] at hb;rcases hb with rfl|rfl|rfl|hb|hb
  ·exact⟨_,h1,by intro vs z;cases z⟩
  ·exact⟨_,h3,by intro vs z;cases z⟩
  ·exact⟨_,h4,by intro vs z;cases z⟩
  ·exact h2.firm hb
  ·obtain⟨v,hv,e⟩:=aN'.mp hb;obtain⟨i,hi,ev⟩:=aL' hv;have le:=Paired.length h5;have w:=az_ h5 i hi (by omega);rw[ev] at w;cases o:(qs[i]'(by omega)).2.2 with
   |none=>
    rw[o] at w;rw[show v=.non from w] at e;cases e
   |some ws=>
    rw[o] at w;obtain⟨a,ys,ea,ha,_⟩:=w;rw[ea] at e;cases e;exact⟨_,ha,by intro vs z;cases z⟩
theorem jQ_{K:F__}{H H':Hp}{a:Addr}{xs:List V}(s:NT H H')(h:SqL K H a xs):SqL K H' a xs:=by
 rcases h with (h|⟨o,h⟩)|h
 ·exact .inl (.inl (s.lst h))
 ·exact .inl (.inr ⟨o,s _ _ h nofun⟩)
 ·exact .inr h
theorem But.same{l:Addr}{H H1 H2:Hp}(b:But l H1 H2)(n:H l=none)(s:Same H H1):Same H H2:=fun c o e=>b c o (s c o e) (a6_ e n)
theorem Tb.same{H G:Hp}{T1 T2:Addr}(t:Tb H T1 T2)(s:Same H G):Tb G T1 T2:=⟨t.a.same s,t.b.same s,t.ne⟩
theorem reps3{K:F__}{H:Hp}:∀{ms:List Mv} {ys:List V},ba' K H ys (ms.map kM)->Paired (r3 K rS rS rS H) ys ms
 |[],_,h=>by rw[List.map_nil] at h;cases h;exact .nil
 |m::ms,_,h=>by
  rw[ap'] at h;cases h with
  |cons a t=>
   obtain⟨b,e,hb⟩:=a;exact .cons ⟨b,_,_,_,e,.of hb,rfl,rfl,rfl⟩ (reps3 t)
theorem fU_{K:F__}{H G:Hp}{ys:List V}{ks:List (List Key)}(t:ba' K H ys ks)(s:NT H G):ba' K G ys ks:=Paired.mapP t fun y k ⟨b,z,q⟩=>⟨b,z,s.tup q⟩
theorem kA_{hs:List (Str × Int)}{ts:List (Str × Str)}(G:Good hs ts)(h:Str):(nbL ts h).length<=8:=by
 have e:=congrArg List.length (h6_ G h);rw[(ah_ _).length_eq] at e;have:=f8_ hs ts h;have:=G.nlen;have:=G.h8;omega
end Ev
namespace Ev
open PySem L2
theorem h4_:∀gd∈(["high","fall","calm"]:List Str),(∃r∈rl,r.1=("below all ":Str)++gd/\r.2.1="below"/\¬r.2.2.1="one"/\r.2.2.2=some gd)/\∃r∈rl,r.1=("below one ":Str)++gd/\r.2.1="below"/\r.2.2.1="one"/\r.2.2.2=some gd:=by decide +kernel
theorem fk_:∀gd∈(["high","fall","calm"]:List Str),("below all ":Str).length+gd.length<=100/\("below one ":Str).length+gd.length<=100:=by decide +kernel
section
variable{P:Program}{w:World}{K:F__}{mg:Str->Option Value}{base:Heap}{CG CW T1 T2:Addr}
abbrev lwN:List Str:=["_law_script","_law_k","_law_state_here","_law_hands","_law_ties","_law_pieces","_law_stand","_law_guard","_law_world_here","_law_goods_here","_law_found","_law_givers","_law_hand","_law_strength","_law_due","_law_first"]
theorem bG':a8' lwN ["_law_script"] (a7' sLaw):=f__
def spLaw(K:F__)(T1 T2:Addr):Sp:=fun vs H Q _=>∃(a:Addr) (ns:List Int),vs=[.ref a]/\Tb H T1 T2/\SqL K H a (ns.map V.int)/\ns.length<=63/\∀H',Q (.bl true) H'
set_option maxHeartbeats 3200000 in
theorem jR_{f0:Addr}{fd:FuncData}(F:Fun K "law" "law" sLaw f0 fd)(B:Bi mg)(cC:Cal P w K mg base 1 "_law_cell_at" ["_law_script","_law_k"] (spCell K))(cSt:Cal P w K mg base 1 "_law_state" ["_law_cell","_law_k"] dc')(cD:Cal P w K mg base 2 "_law_digit" ["_law_state_here","_law_base"] bF')(cL:Cal P w K mg base 4 "_law_web" ["_law_state_here"] (spLWeb K))(cGo:Cal P w K mg base 4 "_law_goods" ["_law_state_here","_law_hands","_law_ties"] (cC' K))(cWd:Cal P w K mg base 1 "_law_world" ["_law_hands","_law_ties","_law_pieces"] (dg' K))(cBy:Cal P w K mg base 3 "_law_by_low" ["_law_world_here","_law_stand","_law_hand","_law_words"] (cT' K))
  (cMk:CalC P w K mg base CW 5 "Web" ["self","hands","ties"] (spInit K CW)) (cGd:CalC P w K mg base CG 7 "Goods" ["self","web","pieces"] (dm' K CG CW)) (cMv:Cal P w K mg base 9 "moves_of" ["goods","stand","rule","moment"] (ck' K CG CW T1 T2 (fun r=>r.2.1="below") (fun _=>bj'))):FnOk P w K mg base CX0 10 f0 fd ["_law_script"] (spLaw K T1 T2):=by
 refine F.ok bG' (fun vs H Q E h=>?_) (fun cdv A outer s H vs Q E hr h=>?_)
 ·obtain⟨a,ns,rfl,_⟩:=h;rfl
 ·obtain⟨ls,ns,rfl,tb,hls,h63,k⟩:=h;have sz:=sizeLine_eq;have hu:=b0_ hr;have hr1:Room 1 _:=hr.mono (by decide);have hr2:Room 2 _:=hr.mono (by decide);have hr3:Room 3 _:=hr.mono (by decide);have hr4:Room 4 _:=hr.mono (by decide);have hr6:Room 6 _:=hr.mono (by decide);have hr8:Room 8 _:=hr.mono (by decide);refine' ⟨_,a2_ ?s1 (a5_ (ab_ e8_)),?kk⟩
  case' s1=>refine' aG_ PassesOwn.never rfl ?i3 (a8_ (i:=1) bG'.nd rfl (Or.inl rfl)) ?b0
  case i3=>exact bS_ (by rfl) B.range (a0_ (al_ b3_ a7_ (af_ (gf_ rfl) (by rfl) B.min PyProof.Rows.Boot.«min» (a0_ (af_ aL_ (by rfl) B.len PySem.boot_len (a0_ (pv 0) a3_)) (a0_ a7_ a3_)))) a3_)
  case' b0=>refine' a2_ ?b1 ?c1
  case' c1=>refine' a2_ ?b2 ?c2
  case' c2=>refine' a2_ ?b3 ?c3
  case' c3=>refine' a2_ ?b4 ?c4
  case' c4=>refine' a2_ ?b5 ?c5
  case' c5=>refine' a2_ ?b6 ?c6
  case' c6=>refine' a2_ ?b7 ?c7
  case' c7=>refine' a2_ ?b8 ?c8
  case' c8=>refine' a2_ ?b9 ?c9
  case' c9=>refine' a2_ ?b10 ?c10
  case' c10=>refine' a2_ ?b11 ?c11
  case' c11=>refine' a2_ ?b12 (a5_ ?b13)
  case b1=>exact a9_ (i:=2) bG'.nd rfl (Or.inl rfl) (ae_ cSt hr1 (a0_ (ae_ cC hr1 (a0_ (pv 0) (a0_ (pv 1) a3_))) (a0_ (pv 1) a3_)))
  case b2=>exact dT_ (ae_ cL hr4 (a0_ (pv 2) a3_)) (bd_ rfl (ad_ (a8_ (i:=3) bG'.nd rfl (Or.inl rfl)) (ad_ (a8_ (i:=4) bG'.nd rfl (Or.inl rfl)) aT_)))
  case b3=>exact dT_ (ae_ cGo hr4 (a0_ (pv 2) (a0_ (pv 3) (a0_ (pv 4) a3_)))) (bd_ rfl (ad_ (a8_ (i:=5) bG'.nd rfl (Or.inl rfl)) (ad_ (a8_ (i:=6) bG'.nd rfl (Or.inl rfl)) aT_)))
  case b4=>exact a9_ (i:=7) bG'.nd rfl (Or.inl rfl) (ax_ aH_ (aE_ (a0_ an_ (a0_ an_ (a0_ an_ a3_)))) (ae_ cD hr2 (a0_ (pv 2) (a0_ a7_ a3_))) (fun _ _=>rfl))
  case b5=>exact a9_ (i:=8) bG'.nd rfl (Or.inl rfl) (ae_ cWd hr1 (a0_ (pv 3) (a0_ (pv 4) (a0_ (pv 5) a3_))))
  case b6=>exact a9_ (i:=9) bG'.nd rfl (Or.inl rfl) (j6_ cGd hr8 (a0_ (j6_ cMk hr6 (a0_ (pv 3) (a0_ (pv 4) a3_))) (a0_ (pv 5) a3_)))
  case b7=>exact a9_ (i:=10) bG'.nd rfl (Or.inl rfl) (ae_ cMv hr (a0_ (pv 9) (a0_ (ao_ ff_ (by rfl) B.dict PyProof.Rows.Boot.«dict» (a0_ (pv 6) a3_)) (a0_ (al_ bi_ an_ (pv 7)) (a0_ (al_ b3_ a7_ (pv 1)) a3_)))))
  case b8=>exact gZ_ (i:=11) ["_law_move"] 1 [] bG'.nd rfl (Or.inl rfl) (am_ (pv 10)) (fun fp s H=>a8_ (i:=0) (show (["_law_move"]:List Str).Nodup by decide +kernel) rfl (Or.inl rfl)) (fun fp s H=>aY_) (fun fp s H=>ax_ (ixK (K:=K) rIxT aI_) (pv 0) a7_ (fun _ _=>rfl))
  case b9=>exact ar_ (PW.pt (dK_ (aJ_ (aF_ (af_ aM_ (by rfl) B.isi PyProof.Rows.Boot.«isinstance» (a0_ (pv 10) (a0_ (aZ_ (v:=.ty "list") (by rfl) B.list PyProof.Rows.Boot.«list» rfl) a3_))))) (ch_ (ak_ (eA_ cmpS (bZ' hr 0)) (pv 11) (af_ c3_ (by rfl) B.sorted PyProof.Rows.Boot.«sorted» (a0_ (pv 11) a3_)) (nomark _))))) ag_ ac_
  case' b10=>refine' aG_ PassesOwn.never rfl (am_ (pv 3)) (bd_ rfl (ad_ (a8_ (i:=12) bG'.nd rfl (Or.inr rfl)) (ad_ (a8_ (i:=13) bG'.nd rfl (Or.inl rfl)) aT_))) (a2_ ?e1 (a5_ (ar_ ?e2 ag_ ac_)))
  case e1=>exact a9_ (i:=14) bG'.nd rfl (Or.inl rfl) (ae_ cBy hr3 (a0_ (pv 8) (a0_ (pv 6) (a0_ (pv 12) (a0_ (aE_ (a0_ an_ (a0_ an_ (a0_ (pv 7) a3_)))) a3_)))))
  case e2=>exact ak_ (eA_ (cmp3 cmpS cmpS cmpS) (bZ' hr _)) (b2_ ["_law_move","_law_hand"] 1 [12] (am_ (pv 10)) (fun fp s H=>a8_ (i:=0) (show (["_law_move","_law_hand"]:List Str).Nodup by decide +kernel) rfl (Or.inl rfl)) (fun fp s H=>gy_ (ak_ bP_ (ax_ (ixK (K:=K) rIxT aI_) (pv 0) a7_ (fun _ _=>rfl)) (pv 1) (nomark _))) (fun fp s H=>pv 0)) (pv 14) (nomark _)
  case b11=>exact a9_ (i:=15) bG'.nd rfl (Or.inl rfl) (ao_ ck_ (by rfl) B.list PyProof.Rows.Boot.«list» (a0_ (bE_ dt_ (pv 10) ca_ (c6_ a7_)) a3_))
  case b12=>exact b6_ (jY_ PySem.F.plainAttrs_list PySem.F.slot_list_clear PySem.F.type_list_clear hV_ (pv 10))
  case b13=>exact ar_ (ak_ (eA_ (cmp3 cmpS cmpS cmpS) (bZ' hr _)) (ae_ cMv hr (a0_ (pv 9) (a0_ (pv 6) (a0_ (al_ bi_ an_ (pv 7)) (a0_ (al_ b3_ a7_ (pv 1)) a3_))))) (pv 15) (nomark _)) ag_ ac_
  case' kk=>skip
  have hln:(ns.map V.int).length<=63:=by rw[aa'];exact h63
  refine seqG (fun σ H'=>True) (fun σ H' _=>k _) (fun N hN=>?_)
  obtain⟨cnt,c4,ec⟩:∃c:Nat,c<=4/\(1+(if (2:Int)<((ns.map V.int).length:Int) then (2:Int) else ((ns.map V.int).length:Int)))=(c:Int):=by
   by_cases c:(2:Int)<((ns.map V.int).length:Int)
   ·rw[if_pos c];exact⟨3,by decide,rfl⟩
   ·rw[if_neg c];exact⟨1+(ns.map V.int).length,by omega,by omega⟩
  refine⟨_,rfl,ls,_,rfl,.inl hls,_,_,rfl,_,_,rfl,rfl,(cnt:Int),congrArg (fun z=>[V.int z]) ec,by omega,by omega,?_⟩;refine fK_ (fun i σ H'=>NT H H'/\Tb H' T1 T2/\∃v1 v2 v3 v4 v5 v6 v7 v8 v9 v10 v11 v12 v13 v14 v15:Option V,σ=[some (.ref ls),v1,v2,v3,v4,v5,v6,v7,v8,v9,v10,v11,v12,v13,v14,v15]) ⟨NT.refl H,tb,none,none,none,none,none,none,none,none,none,none,none,none,none,none,none,rfl⟩ ?_ (fun σ H' _=>hN _ _ trivial);rintro i σ H0 hi ⟨nt0,tb0,v1,v2,v3,v4,v5,v6,v7,v8,v9,v10,v11,v12,v13,v14,v15,rfl⟩;refine setG ?_;dsimp only;rw[Int.toNat_natCast] at hi;refine seqG (fun σ H'=>∃l,Same H0 H'/\H0 l=none/\stt H' l/\σ=[some (.ref ls),some (.int i),some (.ref l),v3,v4,v5,v6,v7,v8,v9,v10,v11,v12,v13,v14,v15]) ?m2 (fun N1 hN1=>?m1)
  case m1=>
   refine⟨_,rfl,_,rfl,ls,ns,_,rfl,by omega,jQ_ nt0 hls,fun c=>?_⟩;refine⟨_,rfl,c,i,by rw[Int.zero_add];rfl,by omega,fun l H1 s1 nl st=>hN1 _ _ ⟨l,s1,nl,st,?_⟩⟩;show [some (V.ref ls),some (V.int (0+(i:Int))),some (V.ref l),v3,v4,v5,v6,v7,v8,v9,v10,v11,v12,v13,v14,v15]=_;rw[Int.zero_add]
  rintro σ H1 ⟨l,s1,nl,st1,rfl⟩;refine seqG (fun σ H'=>∃(lh lt:Addr) (ys zs:List V) (hs:List (Str × Int)) (ts:List (Str × Str)),Same H0 H'/\stt H' l/\lh≠l/\lt≠l/\H' lh=some (.lst ys)/\ba' K H' ys (hs.map kH)/\H' lt=some (.lst zs)/\ba' K H' zs (ts.map kT)/\Good hs ts/\σ=[some (.ref ls),some (.int i),some (.ref l),some (.ref lh),some (.ref lt),v5,v6,v7,v8,v9,v10,v11,v12,v13,v14,v15]) ?m4 (fun N1 hN1=>?m3)
  case m3=>
   refine⟨_,rfl,l,rfl,st1,fun t lh lt ys zs hs ts H2 b2 st2 ht fh ft nht nhl ntl h1 h2 h3 h4 G=>?_⟩;exact⟨t,_,rfl,.of ht,rfl,_,_,rfl,_,_,rfl,rfl,hN1 _ _ ⟨lh,lt,ys,zs,hs,ts,b2.same nl s1,st2,nhl,ntl,h1,h2,h3,h4,G,rfl⟩⟩
  rintro σ H2 ⟨lh,lt,yh,zt,hs,ts,s2,st2,nhl,ntl,h1,h2,h3,h4,G,rfl⟩;refine seqG (fun σ H'=>∃(lp d:Addr) (yp:List V) (ps:List Pc) (f:Str->Str),Same H0 H'/\stt H' l/\lp≠l/\d≠l/\H' lh=some (.lst yh)/\ba' K H' yh (hs.map kH)/\H' lt=some (.lst zt)/\ba' K H' zt (ts.map kT)/\H' lp=some (.lst yp)/\c6' K H' yp ps/\H' d=some (.dK (stF (ps.map (·.1)) f))/\Pw hs ts ps f/\σ=[some (.ref ls),some (.int i),some (.ref l),some (.ref lh),some (.ref lt),some (.ref lp),some (.ref d),v7,v8,v9,v10,v11,v12,v13,v14,v15]) ?m6 (fun N1 hN1=>?m5)
  case m5=>
   refine⟨_,rfl,_,rfl,_,rfl,l,lh,lt,yh,zt,hs,ts,rfl,st2,h1,nhl,h2,h3,ntl,h4,G,fun t lp d yp ps f H3 b3 st3 ht fp fd npl ndl h5 h6 h7 gp nd p30 at_=>?_⟩;obtain⟨xs0,hl0⟩:=st2.some;exact⟨t,_,rfl,.of ht,rfl,_,_,rfl,_,_,rfl,rfl,hN1 _ _ ⟨lp,d,yp,ps,f,b3.same nl s2,st3,npl,ndl,b3 _ _ h1 nhl,aX_ h2 b3 hl0,b3 _ _ h3 ntl,aX_ h4 b3 hl0,h5,h6,h7,⟨G,gp,nd,p30,at_⟩,rfl⟩⟩
  clear h1 h2 h3 h4 st1 st2 s1 s2;rintro σ H3 ⟨lp,d,yp,ps,f,s3,st3,npl,ndl,h1,h2,h3,h4,h5,h6,h7,Pp,rfl⟩;refine⟨by show 3<=sizeLine;decide,fun lg ng=>?_⟩;have sg:=Same.new (o:=.lst [.str "high",.str "fall",.str "calm"]) ng;have eg:upd H3 lg (.lst [.str "high",.str "fall",.str "calm"]) lg=some (.lst [.str "high",.str "fall",.str "calm"]):=a1_;have lgl:=st3.ne ng;generalize upd H3 lg (.lst [.str "high",.str "fall",.str "calm"])=Hg at sg eg ⊢;refine⟨_,rfl,l,3,rfl,by decide,by decide,st3.same sg,fun a3 Hd p4 p5 bd std=>?_⟩
  obtain⟨v,hv,gd,rfl,hgd⟩:=hitL (p:=fun v:V=>∃gd:Str,v=V.str gd/\gd∈(["high","fall","calm"]:List Str)) (xs:=[V.str "high",.str "fall",.str "calm"]) (n:=3) rfl p4 p5 (fun v hv=>by
   simp only[ai',aP',or_false] at hv;rcases hv with rfl|rfl|rfl
   ·exact⟨_,rfl,by simp⟩
   ·exact⟨_,rfl,by simp⟩
   ·exact⟨_,rfl,by simp⟩)
  refine⟨lg,_,_,_,rfl,rfl,.of (bd _ _ eg lgl),hv,?_⟩;refine setG ?_;dsimp only;obtain⟨xs3,hl3⟩:=(st3.same sg).some;have s3':Same H0 Hd:=bd.same nl (s3.trans sg);replace h1:=bd _ _ (sg _ _ h1) nhl;replace h2:=aX_ (h2.same sg) bd hl3;replace h3:=bd _ _ (sg _ _ h3) ntl;replace h4:=aX_ (h4.same sg) bd hl3;replace h5:=bd _ _ (sg _ _ h5) npl;replace h6:c6' K Hd yp ps:=Paired.mapP h6 fun y q ⟨t,v,e,ht,wy⟩=>⟨t,v,e,bd _ _ (sg _ _ ht) (aN_ (sg _ _ ht) hl3 nofun),(wy.same sg).mv bd (st3.same sg)⟩;replace h7:=bd _ _ (sg _ _ h7) ndl;refine⟨_,rfl,_,rfl,_,rfl,lh,lt,lp,yh,zt,yp,hs,ts,ps,rfl,h1,h2,h3,h4,h5,h6,G,Pp.nd,Pp.p30,fun wa Hw sw nwa WA=>?_⟩;refine setG ?_;dsimp only;replace h1:=sw _ _ h1;replace h2:=h2.same sw;replace h3:=sw _ _ h3;replace h4:=h4.same sw;replace h5:=sw _ _ h5;replace h6:c6' K Hw yp ps:=Paired.mapP h6 fun y q x=>x.same sw;replace h7:=sw _ _ h7;have st3:=std.same sw;have s3:=s3'.trans sw;clear bd sg eg lgl hl3 std ng hv p4 p5 sw s3' nwa;revert WA h1 h2 h3 h4 h5 h6 h7 st3 s3;generalize Hw=H3;intro WA h1 h2 h3 h4 h5 h6 h7 st3 s3;refine seqG (fun σ H'=>∃(g p:Addr) (qs:List Pc) (fp:List Addr),Same H3 H'/\Stn K CG CW H' g p d hs ts qs fp (ps.map (·.1)) f/\Qs ps qs/\l∉fp/\σ=[some (.ref ls),some (.int i),some (.ref l),some (.ref lh),some (.ref lt),some (.ref lp),some (.ref d),some (.str gd),some (.ref wa),some (.ref g),v10,v11,v12,v13,v14,v15]) ?m8 (fun N1 hN1=>?m7)
  case m7=>
   refine⟨_,rfl,_,rfl,fun p dx hp hdx ne=>?_⟩;have s4:Same H3 (upd (upd H3 dx (.own p)) p (.ins CW dx [])):=(Same.new hdx).trans (Same.new (by rw[a4_ ne.symm];exact hp));refine⟨p,dx,lh,lt,yh,zt,hs,ts,rfl,a1_,s4 _ _ h1,h2.same s4,s4 _ _ h3,h4.same s4,G,fun fpw H5 kp W fr=>⟨rfl,?_⟩⟩;have s35:Same H3 H5:=fun b o e=>kp b o (s4 _ _ e) (a6_ e hp)
   have dfw:d∉fpw:=fun m=>by
    rcases fr d m with z|z
    ·rw[z] at h7;rw[h7] at hp;cases hp
    ·rw[s4 _ _ h7] at z;cases z
   refine⟨_,rfl,fun g dx2 hg hdx2 ne2=>?_⟩;have s6:Same H5 (upd (upd H5 dx2 (.own g)) g (.ins CG dx2 [])):=(Same.new hdx2).trans (Same.new (by rw[a4_ ne2.symm];exact hg));have s36:=s35.trans s6;have e6:upd (upd H5 dx2 (.own g)) g (.ins CG dx2 []) g=some (.ins CG dx2 []):=a1_
   have gfw:g∉fpw:=fun m=>by
    obtain⟨o,e,_⟩:=W.firm m;rw[e] at hg;cases hg
   generalize upd (upd H5 dx2 (.own g)) g (.ins CG dx2 [])=H6 at s6 e6 s36 ⊢;refine⟨g,dx2,p,lp,yp,ps,hs,ts,fpw,rfl,e6,W.same s6,gfw,G,s36 _ _ h5,Paired.mapP h6 fun y q x=>x.same s36,Pp.gp,Pp.nd,by have:=Pp.p30;omega,fun qs fp H7 kg GA Qq fg=>⟨rfl,?_⟩⟩;have s37:Same H3 H7:=fun b o e=>kg b o (s36 _ _ e) (fun z=>by rw[z] at e;rw[s35 _ _ e] at hg;cases hg)
   have dfp:d∉fp:=fun m=>by
    rcases fg d m with z|z|z
    ·rw[z] at h7;rw[s35 _ _ h7] at hg;cases hg
    ·exact dfw z
    ·rw[s36 _ _ h7] at z;cases z
   obtain⟨xs3,hl3⟩:=st3.some
   have lfp:l∉fp:=fun m=>by
    rcases fg l m with z|z|z
    ·rw[z] at hl3;rw[s35 _ _ hl3] at hg;cases hg
    ·rcases fr l z with z|z
     ·rw[z] at hl3;rw[hl3] at hp;cases hp
     ·rw[s4 _ _ hl3] at z;cases z
    ·rw[s36 _ _ hl3] at z;cases z
   obtain⟨fp',GA',sub,has⟩:=GA.firm;refine hN1 _ _ ⟨g,p,qs,fp',s37,⟨GA',fun m=>dfp (sub d m),s37 _ _ h7,⟨?_,fun n hn=>Pp.at_ n hn⟩,has⟩,Qq,fun m=>lfp (sub l m),rfl⟩;rw[Qq.nms];exact (ah_ _).symm
  rintro σ H4 ⟨g,p,qs,fp,s34,S,Qq,lfp,rfl⟩
  have wd:Wd hs ts qs f:=⟨G,Qq.nd Pp.nd,by rw[Qq.len];have:=Pp.p30;omega,fun n hn=>Pp.at_ n (by rw[Qq.nms] at hn;exact (ah_ _).mem_iff.mp hn),fun q hq=>by
   obtain⟨p,hp,e⟩:=Qq.mem q hq;have:=Pp.gp p hp;rw[e];exact⟨by have:=this.w1;show 0<=p.2.1;omega,this.w2⟩⟩
  have tb4:=tb0.same (s3.trans s34);have nt04:NT H H4:=nt0.trans (NT.of (s3.trans s34));have WA4:=WA.nt (NT.of s34);obtain⟨⟨ra,ha,a1,a2,a3,a4⟩,ro,ho,o1,o2,o3,o4⟩:=h4_ gd hgd;have rlen:=fk_ gd hgd;replace h1:=s34 _ _ h1;replace h2:=h2.same s34;clear h3 h4 h5 h6 h7 st3 s34 WA;refine⟨_,rfl,_,rfl,d,_,rfl,.of S.hd,fun d2 nd2=>?_⟩;have s5:=Same.new (o:=.dK (stF (ps.map (·.1)) f)) nd2;have e5:upd H4 d2 (.dK (stF (ps.map (·.1)) f)) d2=some (.dK (stF (ps.map (·.1)) f)):=a1_;generalize upd H4 d2 (.dK (stF (ps.map (·.1)) f))=H5 at s5 e5 ⊢
  have S5:Stn K CG CW H5 g p d2 hs ts qs fp (ps.map (·.1)) f:=by
   refine⟨S.G.same s5,fun m=>?_,e5,S.so,fun b hb=>?_⟩
   ·obtain⟨o,e,_⟩:=S.has d2 m;rw[e] at nd2;cases nd2
   ·obtain⟨o,e,q⟩:=S.has b hb;exact⟨o,s5 _ _ e,q⟩
  refine⟨_,rfl,_,_,rfl,rfl,by omega,_,rfl,_,_,rfl,rfl,g,p,d2,7+(i:Int),hs,ts,qs,fp,ps.map (·.1),f,ra,ha,(by rw[a1];rfl),a2,by omega,S5,wd,tb4.same s5,fun lm ym H6 nt6 tb6 nlm elm tm=>?_⟩
  have eM:b4' bj' ra hs ts qs f=(a9' hs).flatMap (bj' ra hs ts qs f):=by
   unfold b4';rw[if_neg a3]
  have eO:b4' bj' ro hs ts qs f=((a9' hs).flatMap (bj' ra hs ts qs f)).take 1:=by
   unfold b4' bj';rw[if_pos o3,o4,a4]
  rw[eM] at tm;have gv:∀h,∀m∈bj' ra hs ts qs f h,m.2.1=h:=ek_ ra;have lM:=gI_ (g:=bj' ra hs ts qs f) (l:=a9' hs) (k:=7) fun x hx=>iI_ ra wd hx;have nl8:=G.nlen;have h8:=G.h8;have asc:=fm_ (f2_ gv (fV_ hs))
  have flt:∀h∈hs.map (·.1),((a9' hs).flatMap (bj' ra hs ts qs f)).filter (fun m=>decide (m.2.1=h))=lowR hs ts ps f "below" gd h:=fun h hh=>by
   rw[cT_ gv G.nnd h,if_pos ((au_ hs).mem_iff.mpr hh),j2_ Pp Qq hh];unfold bj';rw[a4];rfl
  generalize (a9' hs).flatMap (bj' ra hs ts qs f)=M at tm eO lM asc flt;have l6:M.length<=56:=by omega
  have lym:=Paired.length tm;rw[aa'] at lym;refine setG ?_;dsimp only;refine seqG (fun σ H'=>∃D:Addr,σ=[some (.ref ls),some (.int i),some (.ref l),some (.ref lh),some (.ref lt),some (.ref lp),some (.ref d),some (.str gd),some (.ref wa),some (.ref g),some (.ref lm),some (.ref D),v12,v13,v14,v15]/\Same H6 H'/\H' D=some (.lst ((M.map (·.2.1)).map V.str))) ?n2 ?n1
  case n1=>
   intro N1 hN1;refine⟨_,rfl,lm,rfl,⟨_,.of elm⟩,fun D hD=>?_⟩;refine aR_ (own:=1) (fv:=[]) (xs:=ym) rfl gok1 (fun j out H'=>Same H6 H'/\H' D=some (.lst out)/\out=((M.map (·.2.1)).take j).map V.str) ⟨Same.new hD,a1_,rfl⟩ (fun j out H' _ ⟨sm,_⟩=>.of (sm _ _ elm)) (fun out H7 ⟨s7,d7,eo⟩=>?_) (fun j x out H' hx ⟨sm,hd,eo⟩=>?_)
   ·rw[lym,aJ' (by rw[aa'];exact ag' _)] at eo;subst eo;exact hN1 _ _ ⟨D,rfl,s7,d7⟩
   ·obtain⟨q,hq,a,rfl,ha'⟩:=aD_ tm hx;have hj:j<M.length:=(ab'.mp hq).1;refine⟨_,rfl,rfl,fun Nx hN=>yesT ?_⟩;refine⟨_,rfl,a,_,1,.str q.2.1,rfl,rfl,.of (sm _ _ ha'),L2.bs' (j:=1) rfl,out,hd,?_,hN (out++[.str q.2.1]) _ ⟨aC_ sm hD,a1_,?_⟩⟩
    ·rw[eo,aa',ak'];omega
    ·rw[eo,aq_ (show (M.map (·.2.1))[j]? = some q.2.1 by rw[ao',hq];rfl),am'];rfl
  rintro σ H7 ⟨D,rfl,s7,d7⟩;have m7:=s7 _ _ elm;have t7:=tm.same s7;have nt47:NT H4 H7:=((NT.of s5).trans nt6).trans (NT.of s7);have tb7:=tb6.same s7;have S7:=S.nt nt47;have WA7:=WA4.nt nt47;replace h1:=nt47.lst h1;replace h2:=fU_ h2 nt47;refine seqG (fun σ H'=>σ=[some (.ref ls),some (.int i),some (.ref l),some (.ref lh),some (.ref lt),some (.ref lp),some (.ref d),some (.str gd),some (.ref wa),some (.ref g),some (.ref lm),some (.ref D),v12,v13,v14,v15]/\Same H7 H') ?n4 ?n3
  case n3=>
   intro N1 hN1;refine⟨_,rfl,_,_,_,_,rfl,.lst m7,rfl,_,rfl,?_⟩;refine ite2 (fun c=>by simp at c) (fun c=>?_);refine⟨_,rfl,_,rfl,D,M.map (·.2.1),rfl,.of d7,by rw[aa'];omega,fun lq nq=>?_⟩;rw[asc];have s8:=Same.new (o:=.lst ((M.map (·.2.1)).map V.str)) nq;refine⟨_,_,e5_ (s8 _ _ d7),e5_ a1_,_,rfl,?_⟩;exact ite2 (fun c=>by simp at c) (fun c=>hN1 _ _ ⟨rfl,s8⟩)
  rintro σ H8 ⟨rfl,s8⟩;have m8:=s8 _ _ m7;have t8:=t7.same s8;have tb8:=tb7.same s8;have S8:=S7.nt (NT.of s8);have WA8:=WA7.nt (NT.of s8);replace h1:=s8 _ _ h1;replace h2:=h2.same s8;have n64:∀h,(nbL ts h).length<64:=fun h=>by have:=kA_ G h;omega
  refine seqG (fun σ H'=>∃(v12 v13 v14:Option V),σ=[some (.ref ls),some (.int i),some (.ref l),some (.ref lh),some (.ref lt),some (.ref lp),some (.ref d),some (.str gd),some (.ref wa),some (.ref g),some (.ref lm),some (.ref D),v12,v13,v14,v15]/\Same H8 H') ?n6 ?n5
  case n5=>
   intro N1 hN1;refine⟨_,rfl,lh,rfl,⟨_,.of h1⟩,as_ (K:=K) (a:=lh) (xs:=yh) (fun j σ H'=>∃(v12 v13 v14:Option V),σ=[some (.ref ls),some (.int i),some (.ref l),some (.ref lh),some (.ref lt),some (.ref lp),some (.ref d),some (.str gd),some (.ref wa),some (.ref g),some (.ref lm),some (.ref D),v12,v13,v14,v15]/\Same H8 H') ⟨v12,v13,v14,rfl,Same.refl _⟩ (fun j σ H' _ ⟨_,_,_,_,z⟩=>.of (z _ _ h1)) ?_ ?_⟩
   ·rintro j x σ H9 hx ⟨v12,v13,v14,rfl,s9⟩;obtain⟨hd,hhd,a,rfl,ha'⟩:=aD_ h2 hx;have hm:hd.1∈hs.map (·.1):=ac'.mpr ⟨hd,ae' hhd,rfl⟩;refine⟨a,_,rfl,.of (s9 _ _ (hpH ha')),rfl,_,_,rfl,_,_,rfl,rfl,?_⟩;dsimp only;refine⟨_,rfl,_,rfl,_,rfl,_,rfl,by show 3<=sizeLine;decide,fun lw nw=>?_⟩;have s10:=Same.new (o:=.lst [.str "below",.str "all",.str gd]) nw;have e10:upd H9 lw (.lst [.str "below",.str "all",.str gd]) lw=some (.lst [.str "below",.str "all",.str gd]):=a1_;generalize upd H9 lw (.lst [.str "below",.str "all",.str gd])=H10 at s10 e10 ⊢;have s80:=s9.trans s10;refine⟨wa,d,lw,hd.1,"below","all",gd,hs,ts,ps,f,rfl,WA8.nt (NT.of s80),Pp,s80 _ _ S8.hd,hm,n64 hd.1,e10,hgd,fun ld yd H11 s11 nld e11 t11=>?_⟩;refine setG ?_;dsimp only;have s81:=s80.trans s11;have m11:=s81 _ _ m8;have t11':=t8.same s81;refine⟨_,rfl,lm,rfl,⟨_,.of m11⟩,fun E' hE=>?_⟩;refine aR_ (own:=1) (fv:=[some (.str hd.1)]) (xs:=ym) rfl gok1 (fun q out H'=>Same H11 H'/\H' E'=some (.lst out)/\ba' K H' out (((M.take q).filter fun m=>decide (m.2.1=hd.1)).map kM)) ⟨Same.new hE,a1_,.nil⟩ (fun q out H' _ ⟨sm,_⟩=>.of (sm _ _ m11)) (fun out H12 ⟨s12,d12,to⟩=>?_) (fun q x out H' hx ⟨sm,hd',to⟩=>?_)
    ·rw[lym,ar',flt hd.1 hm] at to;refine⟨_,rfl,_,_,⟨E',out,rfl,.of d12,reps3 to⟩,⟨ld,yd,rfl,.of (s12 _ _ e11),reps3 (t11.same s12)⟩,_,rfl,?_⟩;refine ite2 (fun c=>by simp at c) (fun c=>?_);exact⟨_,_,_,rfl,s81.trans s12⟩
    ·obtain⟨m,hm',a',rfl,ha2⟩:=aD_ t11' hx;have hq:q<M.length:=(ab'.mp hm').1;have lo:=Paired.length to;rw[aa'] at lo;have lf:=a0' (fun m:Mv=>decide (m.2.1=hd.1)) (M.take q);rw[ak'] at lf;have st:M.take (q+1)=M.take q++[m]:=by rw[aD',hm',Option.toList_some]
     refine⟨_,rfl,rfl,fun Nx hN=>?_⟩;refine⟨_,rfl,a',_,1,.str m.2.1,rfl,rfl,.of (sm _ _ ha2),L2.bs' (j:=1) rfl,_,rfl,rfl,_,rfl,?_⟩;refine ite2 (fun c=>?_) (fun c=>?_)
     ·have c:m.2.1=hd.1:=by simpa using c
      refine⟨_,rfl,out,hd',by omega,hN (out++[.ref a']) _ ⟨aC_ sm hE,a1_,?_⟩⟩;rw[st,aX',List.filter_cons_of_pos (by exact decide_eq_true c),List.filter_nil,am'];exact b4_ (bv_ to (sm _ _ ha2)) hd'
     ·have c:¬m.2.1=hd.1:=by simpa using c
      refine hN out _ ⟨sm,hd',?_⟩;rw[st,aX',List.filter_cons_of_neg (by simpa using c),List.filter_nil,aA'];exact to
   ·rintro σ H9 ⟨v12,v13,v14,rfl,s9⟩;exact hN1 _ _ ⟨v12,v13,v14,rfl,s9⟩
  rintro σ H9 ⟨v12,v13,v14,rfl,s9⟩;have m9:=s9 _ _ m8;have t9:=t8.same s9;have tb9:=tb8.same s9;have nt49:NT H4 H9:=nt47.trans (NT.of (s8.trans s9));refine⟨_,rfl,_,rfl,lm,_,rfl,.of m9,fun lq nq=>?_⟩;rw[show cutV ym none (some 1)=ym.take 1 from cK_ ym 1];have s10:=Same.new (o:=.lst (ym.take 1)) nq;have e10:upd H9 lq (.lst (ym.take 1)) lq=some (.lst (ym.take 1)):=a1_;generalize upd H9 lq (.lst (ym.take 1))=H10 at s10 e10 ⊢;refine⟨lq,_,rfl,.inl (.of e10),fun lz nz=>?_⟩;have s11:=Same.new (o:=.lst (ym.take 1)) nz;have e11:upd H10 lz (.lst (ym.take 1)) lz=some (.lst (ym.take 1)):=a1_;generalize upd H10 lz (.lst (ym.take 1))=H11 at s11 e11 ⊢;refine setG ?_;dsimp only;have s91:=s10.trans s11;have m11:=s91 _ _ m9;have zm:lz≠lm:=fun z=>by rw[z,s10 _ _ m9] at nz;cases nz
  refine⟨_,rfl,.inl ⟨rfl,_,.of m11⟩,lm,_,rfl,rfl,m11,?_⟩
  have nt4:NT H4 (upd H11 lm (.lst [])):=fun b o e n=>by
   rw[a4_ (fun z=>by rw[z] at e;rw[s5 _ _ e] at nlm;cases nlm)];exact s91 _ _ (nt49 _ _ e n)
  have tb12:Tb (upd H11 lm (.lst [])) T1 T2:=⟨bf'.putL (tb9.a.same s91) m11,bf'.putL (tb9.b.same s91) m11,tb9.ne⟩;have z12:upd H11 lm (.lst []) lz=some (.lst (ym.take 1)):=by rw[a4_ zm];exact e11
  have t12:ba' K (upd H11 lm (.lst [])) (ym.take 1) ((M.take 1).map kM):=by
   rw[List.map_take];exact bI_ 1 (b4_ (t9.same s91) m11)
  generalize upd H11 lm (.lst [])=H12 at nt4 tb12 z12 t12 ⊢;refine⟨_,rfl,_,rfl,_,rfl,_,_,rfl,rfl,by omega,_,rfl,_,_,rfl,rfl,g,p,d,7+(i:Int),hs,ts,qs,fp,ps.map (·.1),f,ro,ho,(by rw[o1];rfl),o2,by omega,S.nt nt4,wd,tb12,fun l13 y13 H13 nt13 tb13 n13 e13 t13=>?_⟩;rw[eO] at t13;refine⟨_,rfl,_,_,⟨l13,y13,rfl,.of e13,reps3 t13⟩,⟨lz,_,rfl,.of (nt13.lst z12),reps3 (fU_ t12 nt13)⟩,_,rfl,?_⟩;refine ite2 (fun c=>by simp at c) (fun c=>?_);exact⟨nt04.trans (nt4.trans nt13),tb13,_,_,_,_,_,_,_,_,_,_,_,_,_,_,_,rfl⟩
end
end Ev
namespace Ev
open PySem L2
structure Fd (K:F__) (mg:Str->Option Value) (x:Str) (st:Stmt):Prop where
 ex:∃f fd,Fun K x x st f fd/\mg x=some (.ref f)/\PySem.W.keepIn K (.ref f)=true
theorem fd_mk{K:F__}{h:Heap}{mg:Str->Option Value}{x:Str}{st:Stmt}(X:K.In h)(G:h.Ns mainGlobals mg){f:Addr}{oc:Value}{od an:Option Addr}{osl:Array (Option Value)}{kV doc pm cdv ct:Value}(a:PySem.W.nsIn K mainGlobals x=some (some (.ref f)))
  (l:K.lookup f=some ⟨oc,od,.func (PySem.W.fnOf x x (bh' st) (bd' st) (a7' st) .none kV doc pm an cdv ct),osl⟩) (c:PySem.W.codeIn K cdv x=true) (k:PySem.W.keepIn K (.ref f)=true):Fd K mg x st:=⟨_,_,gR_ l c k,PySem.W.mg_of X G a,k⟩
structure Md (K:F__) (C:Addr) (m qual:Str) (st:Stmt):Prop where
 ex:∃f fd,Fun K m qual st f fd/\Meth K C m f
theorem md_mk{K:F__}{C:Addr}{m qual:Str}{st:Stmt}{f:Addr}{oc:Value}{od an:Option Addr}{osl:Array (Option Value)}{kV doc pm cdv ct:Value}(a:PySem.W.findIn K (.ref C) m=some (some (.ref f)))(i:PySem.W.isFn K (.ref f)=true)
  (l:K.lookup f=some ⟨oc,od,.func (PySem.W.fnOf m qual (bh' st) (bd' st) (a7' st) .none kV doc pm an cdv ct),osl⟩) (c:PySem.W.codeIn K cdv qual=true) (k:PySem.W.keepIn K (.ref f)=true):Md K C m qual st:=⟨_,_,gR_ l c k,a,i,k⟩
theorem cal{P:Program}{w:World}{K:F__}{mg:Str->Option Value}{base:Heap}{x:Str}{st:Stmt}{k:Nat}{ps:List Str}{sp:Sp}(d:Fd K mg x st)(ok:∀f fd,Fun K x x st f fd->FnOk P w K mg base CX0 k f fd ps sp)
  (h:∀(kV doc pm:Value) (an:Option Addr) (cdv ct:Value) (us:List Value),us.length=ps.length->bindArgs (PySem.W.fnOf x x (bh' st) (bd' st) (a7' st) .none kV doc pm an cdv ct) ⟨us,[]⟩=pure (ps.zip us)):Cal P w K mg base k x ps sp:=by
 obtain⟨f,fd,F,m,kp⟩:=d.ex;exact⟨f,fd,ok f fd F,m,kp,F.binds h⟩
theorem calM{P:Program}{w:World}{K:F__}{mg:Str->Option Value}{base:Heap}{C:Addr}{m qual:Str}{st:Stmt}{k:Nat}{ps:List Str}{sp:Sp}(d:Md K C m qual st)(ok:∀f fd,Fun K m qual st f fd->FnOk P w K mg base CX0 k f fd ps sp)
  (h:∀(kV doc pm:Value) (an:Option Addr) (cdv ct:Value) (us:List Value),us.length=ps.length->bindArgs (PySem.W.fnOf m qual (bh' st) (bd' st) (a7' st) .none kV doc pm an cdv ct) ⟨us,[]⟩=pure (ps.zip us)):CalM P w K mg base C k m ps sp:=by
 obtain⟨f,fd,F,m⟩:=d.ex;exact⟨f,fd,ok f fd F,m,F.binds h⟩
theorem calX{P:Program}{w:World}{K:F__}{mg:Str->Option Value}{base:Heap}{C:Addr}{m qual:Str}{st:Stmt}{k:Nat}{ps:List Str}{sp:Sp}(d:Md K C m qual st)(ok:∀f fd,Fun K m qual st f fd->FnOk P w K mg base (CX1 P w) k f fd ps sp)
  (h:∀(kV doc pm:Value) (an:Option Addr) (cdv ct:Value) (us:List Value),us.length=ps.length->bindArgs (PySem.W.fnOf m qual (bh' st) (bd' st) (a7' st) .none kV doc pm an cdv ct) ⟨us,[]⟩=pure (ps.zip us)):CalX P w K mg base C k m ps sp:=by
 obtain⟨f,fd,F,m⟩:=d.ex;exact⟨f,fd,ok f fd F,m,F.binds h⟩
theorem calC{P:Program}{w:World}{K:F__}{mg:Str->Option Value}{base:Heap}{C:Addr}{x qual:Str}{st:Stmt}{k:Nat}{ps:List Str}{sp:Sp}(d:Md K C "__init__" qual st)(hx:mg x=some (.ref C))(mk:PySem.W.makesIn K C=true)(kc:PySem.W.keepIn K (.ref C)=true)(ok:∀f fd,Fun K "__init__" qual st f fd->FnOk P w K mg base CX0 k f fd ps sp)
  (h:∀(kV doc pm:Value) (an:Option Addr) (cdv ct:Value) (us:List Value),us.length=ps.length->bindArgs (PySem.W.fnOf "__init__" qual (bh' st) (bd' st) (a7' st) .none kV doc pm an cdv ct) ⟨us,[]⟩=pure (ps.zip us)):CalC P w K mg base C k x ps sp:=by
 obtain⟨f,fd,F,m⟩:=d.ex;exact⟨f,fd,ok f fd F,⟨mk,m.1,m.2,kc⟩,hx,F.binds h⟩
theorem tup3{K:F__}{a:Addr}{od:Option Addr}{p q:Str}{x y:Tok}{z:Value}{u:V}{n:Nat}{sl:Array (Option Value)}(h:K.lookup a=some ⟨.type "tuple",od,.seq #[.str p x,.str q y,z] n,sl⟩)(r:RelV u z):∀H,SqT K H a [.str p,.str q,u]:=fun H=>
 .inr ⟨_,_,_,h,rfl,rfl,(show 3<=sizeLine by decide),.cons ⟨x,rfl⟩ (.cons ⟨y,rfl⟩ (.cons r .nil))⟩
theorem rules_at{K:F__}{w:World}{mg:Str->Option Value}{d:Addr}{es:Array DictEntry}{ep:Nat}{t0 t1 t2 t3 t4 t5 t6 t7 t8 t9 t10 t11 t12 t13 t14 t15 t16:Tok}{b0 b1 b2 b3 b4 b5 b6 b7 b8 b9 b10 b11 b12 b13 b14 b15 b16:Addr}
  {od0 od1 od2 od3 od4 od5 od6 od7 od8 od9 od10 od11 od12 od13 od14 od15 od16:Option Addr} {x0 y0 n0 v0 x1 y1 n1 v1 x2 y2 n2 v2 x3 y3 n3 v3 x4 y4 n4 v4 x5 y5 n5 v5 x6 y6 n6 v6 x7 y7 n7 v7 x8 y8 n8 v8 x9 y9 n9 v9 x10 y10 n10 v10 x11 y11 n11 v11 x12 y12 n12 x13 y13 n13 x14 y14 n14 v14 x15 y15 n15 v15 x16 y16 n16 v16:Nat} {sl0 sl1 sl2 sl3 sl4 sl5 sl6 sl7 sl8 sl9 sl10 sl11 sl12 sl13 sl14 sl15 sl16:Array (Option Value)}
  (m:mg "RULES"=some (.ref d)) (hs:(d == sysModules)=false) (hl:K.lookup d=some ⟨.type "dict",none,.dict es ep,#[]⟩) (he:es.toList=dv' w [("least one high",t0,.ref b0),("least one fall",t1,.ref b1),("least one calm",t2,.ref b2),("least all high",t3,.ref b3),("least all fall",t4,.ref b4),("least all calm",t5,.ref b5),("below one high",t6,.ref b6),("below one fall",t7,.ref b7),("below one calm",t8,.ref b8),("below all high",t9,.ref b9),("below all fall",t10,.ref b10),("below all calm",t11,.ref b11),("shares one",t12,.ref b12),("shares all",t13,.ref b13),("turns high",t14,.ref b14),("turns fall",t15,.ref b15),("turns calm",t16,.ref b16)])
  (u0:K.lookup b0=some ⟨.type "tuple",od0,.seq #[.str "least" x0,.str "one" y0,.str "high" v0] n0,sl0⟩)
  (u1:K.lookup b1=some ⟨.type "tuple",od1,.seq #[.str "least" x1,.str "one" y1,.str "fall" v1] n1,sl1⟩)
  (u2:K.lookup b2=some ⟨.type "tuple",od2,.seq #[.str "least" x2,.str "one" y2,.str "calm" v2] n2,sl2⟩)
  (u3:K.lookup b3=some ⟨.type "tuple",od3,.seq #[.str "least" x3,.str "all" y3,.str "high" v3] n3,sl3⟩)
  (u4:K.lookup b4=some ⟨.type "tuple",od4,.seq #[.str "least" x4,.str "all" y4,.str "fall" v4] n4,sl4⟩)
  (u5:K.lookup b5=some ⟨.type "tuple",od5,.seq #[.str "least" x5,.str "all" y5,.str "calm" v5] n5,sl5⟩)
  (u6:K.lookup b6=some ⟨.type "tuple",od6,.seq #[.str "below" x6,.str "one" y6,.str "high" v6] n6,sl6⟩)
  (u7:K.lookup b7=some ⟨.type "tuple",od7,.seq #[.str "below" x7,.str "one" y7,.str "fall" v7] n7,sl7⟩)
  (u8:K.lookup b8=some ⟨.type "tuple",od8,.seq #[.str "below" x8,.str "one" y8,.str "calm" v8] n8,sl8⟩)
  (u9:K.lookup b9=some ⟨.type "tuple",od9,.seq #[.str "below" x9,.str "all" y9,.str "high" v9] n9,sl9⟩)
  (u10:K.lookup b10=some ⟨.type "tuple",od10,.seq #[.str "below" x10,.str "all" y10,.str "fall" v10] n10,sl10⟩)
  (u11:K.lookup b11=some ⟨.type "tuple",od11,.seq #[.str "below" x11,.str "all" y11,.str "calm" v11] n11,sl11⟩)
  (u12:K.lookup b12=some ⟨.type "tuple",od12,.seq #[.str "shares" x12,.str "one" y12,.none] n12,sl12⟩)
  (u13:K.lookup b13=some ⟨.type "tuple",od13,.seq #[.str "shares" x13,.str "all" y13,.none] n13,sl13⟩)
  (u14:K.lookup b14=some ⟨.type "tuple",od14,.seq #[.str "turns" x14,.str "all" y14,.str "high" v14] n14,sl14⟩)
  (u15:K.lookup b15=some ⟨.type "tuple",od15,.seq #[.str "turns" x15,.str "all" y15,.str "fall" v15] n15,sl15⟩)
  (u16:K.lookup b16=some ⟨.type "tuple",od16,.seq #[.str "turns" x16,.str "all" y16,.str "calm" v16] n16,sl16⟩) :
  cH' K w mg d [b0,b1,b2,b3,b4,b5,b6,b7,b8,b9,b10,b11,b12,b13,b14,b15,b16]:=by
 refine⟨m,rfl,⟨hs,?_,[("least one high",t0,.ref b0),("least one fall",t1,.ref b1),("least one calm",t2,.ref b2),("least all high",t3,.ref b3),("least all fall",t4,.ref b4),("least all calm",t5,.ref b5),("below one high",t6,.ref b6),("below one fall",t7,.ref b7),("below one calm",t8,.ref b8),("below all high",t9,.ref b9),("below all fall",t10,.ref b10),("below all calm",t11,.ref b11),("shares one",t12,.ref b12),("shares all",t13,.ref b13),("turns high",t14,.ref b14),("turns fall",t15,.ref b15),("turns calm",t16,.ref b16)],_,es,ep,hl,⟨rfl,rfl,rfl⟩,rfl,he,?_⟩,?_⟩
 ·rw[dA_ rfl];exact h7_
 ·exact .cons ⟨rfl,rfl⟩ (.cons ⟨rfl,rfl⟩ (.cons ⟨rfl,rfl⟩ (.cons ⟨rfl,rfl⟩ (.cons ⟨rfl,rfl⟩ (.cons ⟨rfl,rfl⟩ (.cons ⟨rfl,rfl⟩ (.cons ⟨rfl,rfl⟩ (.cons ⟨rfl,rfl⟩ (.cons ⟨rfl,rfl⟩ (.cons ⟨rfl,rfl⟩ (.cons ⟨rfl,rfl⟩ (.cons ⟨rfl,rfl⟩ (.cons ⟨rfl,rfl⟩ (.cons ⟨rfl,rfl⟩ (.cons ⟨rfl,rfl⟩ (.cons ⟨rfl,rfl⟩ (.nil)))))))))))))))))
 ·exact .cons (tup3 u0 ⟨_,rfl⟩) (.cons (tup3 u1 ⟨_,rfl⟩) (.cons (tup3 u2 ⟨_,rfl⟩) (.cons (tup3 u3 ⟨_,rfl⟩) (.cons (tup3 u4 ⟨_,rfl⟩) (.cons (tup3 u5 ⟨_,rfl⟩) (.cons (tup3 u6 ⟨_,rfl⟩) (.cons (tup3 u7 ⟨_,rfl⟩) (.cons (tup3 u8 ⟨_,rfl⟩) (.cons (tup3 u9 ⟨_,rfl⟩) (.cons (tup3 u10 ⟨_,rfl⟩) (.cons (tup3 u11 ⟨_,rfl⟩) (.cons (tup3 u12 rfl) (.cons (tup3 u13 rfl) (.cons (tup3 u14 ⟨_,rfl⟩) (.cons (tup3 u15 ⟨_,rfl⟩) (.cons (tup3 u16 ⟨_,rfl⟩) (.nil)))))))))))))))))
set_option maxHeartbeats 3200000 in
theorem all_mk{l:PySem.W.OpenLaw}{w:World}{K:F__}{h:Heap}{mg:Str->Option Value}{fa CW CG CS CP d fl fh fr c1 c2 T1 T2:Addr}{as:List Addr}(X:K.In h)(G:h.Ns mainGlobals mg)(hfa:mg "law"=some (.ref fa))
  (f0:Fd K mg "is_whole" sIsW)
  (f1:Fd K mg "is_whole_from" dn')
  (f2:Fd K mg "is_whole_within" sWhole)
  (f3:Fd K mg "is_name" sName)
  (f4:Fd K mg "lesser_first" cU')
  (f5:Fd K mg "is_pair_of_names" sPair)
  (f6:Fd K mg "sorted_ties" de')
  (f7:Fd K mg "greatest_divisor" sGd)
  (f8:Fd K mg "least_multiple" sLM)
  (f9:Fd K mg "is_hand_with_strength" sHand)
  (f10:Fd K mg "checked_strengths" sStr)
  (f11:Fd K mg "checked_ties" sTies)
  (f12:Fd K mg "neighbours_of_all" sNear)
  (f13:Fd K mg "checked_ways" sCWays)
  (f14:Fd K mg "checked_piece" c5')
  (f15:Fd K mg "checked_pieces" cx')
  (f16:Fd K mg "checked_stand" c0')
  (f17:Fd K mg "loads_at" cJ')
  (f18:Fd K mg "multiple_of_strengths" sMult)
  (f19:Fd K mg "levels_at" c4')
  (f20:Fd K mg "is_rule" dj')
  (f21:Fd K mg "checked_words" sWords)
  (f22:Fd K mg "fits" sFits)
  (f23:Fd K mg "heaviest_move" sHvM)
  (f24:Fd K mg "moves_by_below" cw')
  (f25:Fd K mg "moves_from" c1')
  (f26:Fd K mg "moves_seen" sSeen)
  (f27:Fd K mg "checked_start" cY')
  (f28:Fd K mg "checked_moments" cg')
  (f29:Fd K mg "moves_of" cu')
  (f30:Fd K mg "_law_cell_at" sCell)
  (f31:Fd K mg "_law_mixed" sMixed)
  (f32:Fd K mg "_law_state" sState)
  (f33:Fd K mg "_law_digit" sDigit)
  (f34:Fd K mg "_law_named" sNamed)
  (f35:Fd K mg "_law_web" sLWeb)
  (f36:Fd K mg "_law_weight" cv')
  (f37:Fd K mg "_law_ways" sWaysL)
  (f38:Fd K mg "_law_goods" cW')
  (f39:Fd K mg "_law_world" sWorld)
  (f40:Fd K mg "_law_held" sHeld)
  (f41:Fd K mg "_law_drop" sDrop)
  (f42:Fd K mg "_law_may" sMayL)
  (f43:Fd K mg "_law_is_fit" sIsFit)
  (f44:Fd K mg "_law_heaviest" sHvL)
  (f45:Fd K mg "_law_best" sBest)
  (f46:Fd K mg "_law_rising" c3')
  (f47:Fd K mg "_law_by_low" sByLow)
  (m0:Md K CW "__init__" "Web.__init__" sInit)
  (m1:Md K CW "has_hand" "Web.has_hand" sHas)
  (m2:Md K CW "hands" "Web.hands" sHands)
  (m3:Md K CW "strength" "Web.strength" cl')
  (m4:Md K CW "neighbours" "Web.neighbours" sNeigh)
  (m5:Md K CW "are_tied" "Web.are_tied" sTied)
  (m6:Md K CG "__init__" "Goods.__init__" sGInit)
  (m7:Md K CG "has_piece" "Goods.has_piece" sGHas)
  (m8:Md K CG "names" "Goods.names" dk')
  (m9:Md K CG "weight" "Goods.weight" cI')
  (m10:Md K CG "may_go" "Goods.may_go" sGMay)
  (m11:Md K CS "__init__" "Sight.__init__" sSInit)
  (m12:Md K CS "lead" "Sight.lead" sLead)
  (m13:Md K CS "joint_strength" "Sight.joint_strength" sJoint)
  {ocl kVl dcl pml ctl:Value} {odl anl:Option Addr} {sll:Array (Option Value)} {och kVh dch pmh cth:Value} {odh anh:Option Addr} {slh:Array (Option Value)} {ocr kVr dcr pmr ctr:Value} {odr anr:Option Addr} {slr:Array (Option Value)} {cdl:Value} {t8 t9 t10 t11:Tok}
  (al:PySem.W.nsIn K mainGlobals "law"=some (some (.ref fl))) (ll:K.lookup fl=some ⟨ocl,odl,.func (PySem.W.fnOf "law" "law" (bh' sLaw) (bd' sLaw) (a7' sLaw) .none kVl dcl pml anl cdl ctl),sll⟩) (cl:PySem.W.codeIn K cdl "law"=true) (kl:PySem.W.keepIn K (.ref fl)=true) (ah:PySem.W.nsIn K mainGlobals "heaviest_first"=some (some (.ref fh))) (lh:K.lookup fh=some ⟨och,odh,.func (PySem.W.fnOf "heaviest_first" "heaviest_first" (bh' sHvF) (bd' sHvF) (a7' sHvF) .none kVh dch pmh anh (.ref c1) cth),slh⟩) (hcd:PySem.W.codeIn K (.ref c1) "heaviest_first"=true) (kh:PySem.W.keepIn K (.ref fh)=true) (h1:PySem.W.codeHdIn K c1 T1=true) (aW:PySem.W.nsIn K mainGlobals "Web"=some (some (.ref CW))) (aG:PySem.W.nsIn K mainGlobals "Goods"=some (some (.ref CG))) (aS:PySem.W.nsIn K mainGlobals "Sight"=some (some (.ref CS))) (eP:PySem.W.nsIn K mainGlobals "NoPiece"=some (some (.ref CP))) (xP:PySem.W.excIn K CP [.type "ValueError",.type "Exception",.type "BaseException",.type "object"] "ValueError.__new__"=true) (ar:PySem.W.findIn K (.ref CS) "rising_neighbours"=some (some (.ref fr))) (ir:PySem.W.isFn K (.ref fr)=true) (lr:K.lookup fr=some ⟨ocr,odr,.func (PySem.W.fnOf "rising_neighbours" "Sight.rising_neighbours" (bh' co') (bd' co') (a7' co') .none kVr dcr pmr anr (.ref c2) ctr),slr⟩) (rcd:PySem.W.codeIn K (.ref c2) "Sight.rising_neighbours"=true) (kr:PySem.W.keepIn K (.ref fr)=true) (h2:PySem.W.codeHdIn K c2 T2=true) (c8_:PySem.W.nsIn K mainGlobals "MOST_LETTERS"=some (some (.int 8 t8))) (c9_:PySem.W.nsIn K mainGlobals "MOST_HANDS"=some (some (.int 8 t9))) (c10_:PySem.W.nsIn K mainGlobals "MOST_STRENGTH"=some (some (.int 1000 t10))) (c11_:PySem.W.nsIn K mainGlobals "MOST_WEIGHT"=some (some (.int 1000000000 t11))) (wpg:PySem.W.plainGet K CW Str.empty=true) (whd:PySem.W.hasDictIn K CW=true) (wpo:PySem.W.plainOver K CW=true) (wsa:PySem.W.findIn K (.ref CW) "__setattr__"=some (some (.builtin "object.__setattr__"))) (wmk:PySem.W.makesIn K CW=true) (wkc:PySem.W.keepIn K (.ref CW)=true) (wn0:PySem.W.findIn K (.ref CW) "strength_by_hand"=some none) (wn1:PySem.W.findIn K (.ref CW) "sorted_pairs"=some none) (wn2:PySem.W.findIn K (.ref CW) "neighbours_by_hand"=some none) (gpg:PySem.W.plainGet K CG Str.empty=true) (ghd:PySem.W.hasDictIn K CG=true) (gpo:PySem.W.plainOver K CG=true) (gsa:PySem.W.findIn K (.ref CG) "__setattr__"=some (some (.builtin "object.__setattr__"))) (gmk:PySem.W.makesIn K CG=true) (gkc:PySem.W.keepIn K (.ref CG)=true) (gn0:PySem.W.findIn K (.ref CG) "web"=some none) (gn1:PySem.W.findIn K (.ref CG) "weight_by_name"=some none) (gn2:PySem.W.findIn K (.ref CG) "ways_by_name"=some none) (spg:PySem.W.plainGet K CS Str.empty=true) (shd:PySem.W.hasDictIn K CS=true) (spo:PySem.W.plainOver K CS=true) (ssa:PySem.W.findIn K (.ref CS) "__setattr__"=some (some (.builtin "object.__setattr__"))) (smk:PySem.W.makesIn K CS=true) (skc:PySem.W.keepIn K (.ref CS)=true) (sn0:PySem.W.findIn K (.ref CS) "wares"=some none) (sn1:PySem.W.findIn K (.ref CS) "load_by_hand"=some none) (sn2:PySem.W.findIn K (.ref CS) "level_by_hand"=some none) (sn3:PySem.W.findIn K (.ref CS) "pieces_by_hand"=some none) (iha:PySem.W.findIn K (.ref CW) "__class__"=some (some (.builtin "object.__class__"))) (ihn:PySem.W.specialIn K (.builtin "object.__class__") "__get__"=some (some (.builtin "getset_descriptor.__get__"))) (itk:PySem.W.takesIn K (.builtin "object.__class__")=some true) (imo:PySem.W.mroIn K CW (.type "object")=some true) (z0:PySem.W.nsIn K mainGlobals "isinstance"=some none) (z1:PySem.W.nsIn K mainGlobals "int"=some none) (z2:PySem.W.nsIn K mainGlobals "bool"=some none) (z3:PySem.W.nsIn K mainGlobals "str"=some none) (z4:PySem.W.nsIn K mainGlobals "tuple"=some none) (z5:PySem.W.nsIn K mainGlobals "list"=some none) (z6:PySem.W.nsIn K mainGlobals "dict"=some none) (z7:PySem.W.nsIn K mainGlobals "len"=some none) (z8:PySem.W.nsIn K mainGlobals "all"=some none) (z9:PySem.W.nsIn K mainGlobals "sorted"=some none) (z10:PySem.W.nsIn K mainGlobals "max"=some none) (z11:PySem.W.nsIn K mainGlobals "range"=some none) (z12:PySem.W.nsIn K mainGlobals "any"=some none) (z13:PySem.W.nsIn K mainGlobals "enumerate"=some none) (z14:PySem.W.nsIn K mainGlobals "min"=some none) (z15:PySem.W.nsIn K mainGlobals "abs"=some none) (R:cH' K w mg d as) :
  ∃fd:FuncData,(∀(s:Shared) (v:Value),BindsTo s fd ⟨[v],[]⟩ [("_law_script",v)])/\(∀T'∈[T2,T1],isCodeTable h T')/\∀base:Heap,K.In base->base.Ns mainGlobals mg->(∀T'∈[T2,T1],base.BuiltinsAt mg T')->FnOk l.prog w K mg base CX0 10 fa fd ["_law_script"] (spLaw K T1 T2):=by
 have e:=hfa.symm.trans (PySem.W.mg_of X G al);cases e;have B:Bi mg:=⟨PySem.W.mg_none_of X G z0,PySem.W.mg_none_of X G z1,PySem.W.mg_none_of X G z2,PySem.W.mg_none_of X G z3,PySem.W.mg_none_of X G z4,PySem.W.mg_none_of X G z5,PySem.W.mg_none_of X G z6,PySem.W.mg_none_of X G z7,PySem.W.mg_none_of X G z8,PySem.W.mg_none_of X G z9,PySem.W.mg_none_of X G z10,PySem.W.mg_none_of X G z11,PySem.W.mg_none_of X G z12,PySem.W.mg_none_of X G z13,PySem.W.mg_none_of X G z14,PySem.W.mg_none_of X G z15⟩;have TW:Txt K mg CW:=⟨⟨wpg,whd,wpo,wsa⟩,wn0,wn1,wn2⟩;have TG:TxtG K CG:=⟨⟨gpg,ghd,gpo,gsa⟩,gn0,gn1,gn2⟩;have TS:TxtS K CS:=⟨⟨spg,shd,spo,ssa⟩,sn0,sn1,sn2,sn3⟩;have IW:InsK K CW:=⟨iha,ihn,itk,imo⟩;have RP:Ref K mg "NoPiece" CP:=⟨PySem.W.mg_of X G eP,xP⟩;have FL:=gR_ (st:=sLaw) ll cl kl;have FH:FunC K "heaviest_first" "heaviest_first" sHvF fh c1 _:=⟨⟨_,_,_,_,_,_,_,_,rfl,lh,hcd⟩,kh⟩;have FR:FunC K "rising_neighbours" "Sight.rising_neighbours" co' fr c2 _:=⟨⟨_,_,_,_,_,_,_,_,rfl,lr,rcd⟩,kr⟩;refine⟨PySem.W.fnOf "law" "law" (bh' sLaw) (bd' sLaw) (a7' sLaw) .none kVl dcl pml anl cdl ctl,fun s v=>.of_eq rfl,fun T' hT'=>?_,fun base KB _ hbm=>?_⟩
 ·have hT':T'=T2∨T'=T1:=by simpa using hT'
  rcases hT'.symm with rfl|rfl
  ·obtain⟨o,vs',file,tf,flags,tg,inF,text,tt,q1,q2,q3,q4,_⟩:=PySem.W.codeHd_of_K X h1;exact⟨c1,o,vs',q1,q2,q3,q4⟩
  ·obtain⟨o,vs',file,tf,flags,tg,inF,text,tt,q1,q2,q3,q4,_⟩:=PySem.W.codeHd_of_K X h2;exact⟨c2,o,vs',q1,q2,q3,q4⟩
 have cIsW:Cal l.prog w K mg base 1 "is_whole" ["thing"] spIsW:=cal f0 (fun _ _ F=>kp_ F B) (fun _ _ _ _ _ _ us hl=>match us,hl with | [_],_=>rfl);have cWhole:Cal l.prog w K mg base 2 "is_whole_within" ["thing","least","most"] cq':=cal f2 (fun _ _ F=>hQ_ F cIsW) (fun _ _ _ _ _ _ us hl=>match us,hl with | [_,_,_],_=>rfl);have cWhF:Cal l.prog w K mg base 2 "is_whole_from" ["thing","least"] cL':=cal f1 (fun _ _ F=>fN_ F cIsW) (fun _ _ _ _ _ _ us hl=>match us,hl with | [_,_],_=>rfl);have cName:Cal l.prog w K mg base 1 "is_name" ["thing"] cP':=cal f3 (fun _ _ F=>j5_ F B (PySem.W.mg_of X G c8_)) (fun _ _ _ _ _ _ us hl=>match us,hl with | [_],_=>rfl);have cLsr:Cal l.prog w K mg base 1 "lesser_first" ["one","other"] bS':=cal f4 (fun _ _ F=>gm_ F) (fun _ _ _ _ _ _ us hl=>match us,hl with | [_,_],_=>rfl);have cPair:Cal l.prog w K mg base 2 "is_pair_of_names" ["thing"] spPair:=cal f5 (fun _ _ F=>iJ_ F B cName) (fun _ _ _ _ _ _ us hl=>match us,hl with | [_],_=>rfl);have cSort:Cal l.prog w K mg base 3 "sorted_ties" ["ties"] (cc' K):=cal f6 (fun _ _ F=>g0_ F B cPair cLsr) (fun _ _ _ _ _ _ us hl=>match us,hl with | [_],_=>rfl);have cHand:Cal l.prog w K mg base 3 "is_hand_with_strength" ["thing"] spHand:=cal f9 (fun _ _ F=>jt_ F B cName cWhole (PySem.W.mg_of X G c10_)) (fun _ _ _ _ _ _ us hl=>match us,hl with | [_],_=>rfl);have cStr:Cal l.prog w K mg base 4 "checked_strengths" ["hands"] (spStr K):=cal f10 (fun _ _ F=>kl_ F B cHand (PySem.W.mg_of X G c9_)) (fun _ _ _ _ _ _ us hl=>match us,hl with | [_],_=>rfl);have cTies:Cal l.prog w K mg base 4 "checked_ties" ["ties","strengths"] (spTies K):=cal f11 (fun _ _ F=>jb_ F B cSort) (fun _ _ _ _ _ _ us hl=>match us,hl with | [_,_],_=>rfl);have cNear:Cal l.prog w K mg base 2 "neighbours_of_all" ["names","ties"] (spNear K):=cal f12 (fun _ _ F=>iH_ F cLsr) (fun _ _ _ _ _ _ us hl=>match us,hl with | [_,_],_=>rfl);have cWeb:CalC l.prog w K mg base CW 5 "Web" ["self","hands","ties"] (spInit K CW):=calC m0 (PySem.W.mg_of X G aW) wmk wkc (fun _ _ F=>jf_ F TW B cStr cTies cNear) (fun _ _ _ _ _ _ us hl=>match us,hl with | [_,_,_],_=>rfl);have mHas:CalM l.prog w K mg base CW 1 "has_hand" ["self","thing"] (spHas K CW):=calM m1 (fun _ _ F=>kr_ F TW B) (fun _ _ _ _ _ _ us hl=>match us,hl with | [_,_],_=>rfl);have mHasA:CalM l.prog w K mg base CW 1 "has_hand" ["self","thing"] (spHasA K CW):=calM m1 (fun _ _ F=>jh_ F TW B) (fun _ _ _ _ _ _ us hl=>match us,hl with | [_,_],_=>rfl);have mHands:CalM l.prog w K mg base CW 1 "hands" ["self"] (bY' K CW):=calM m2 (fun _ _ F=>hM_ F TW B) (fun _ _ _ _ _ _ us hl=>match us,hl with | [_],_=>rfl);have mStr:CalM l.prog w K mg base CW 2 "strength" ["self","hand"] (br' K CW):=calM m3 (fun _ _ F=>eq_ F TW mHas) (fun _ _ _ _ _ _ us hl=>match us,hl with | [_,_],_=>rfl);have mNei:CalM l.prog w K mg base CW 2 "neighbours" ["self","hand"] (c2' K CW):=calM m4 (fun _ _ F=>hk_ F TW B mHas) (fun _ _ _ _ _ _ us hl=>match us,hl with | [_,_],_=>rfl);have mTied:CalM l.prog w K mg base CW 2 "are_tied" ["self","one","other"] (cN' K CW):=calM m5 (fun _ _ F=>hT_ F TW mHasA) (fun _ _ _ _ _ _ us hl=>match us,hl with | [_,_,_],_=>rfl);have cCWy:Cal l.prog w K mg base 4 "checked_ways" ["web","ways"] (dh' K CW):=cal f13 (fun _ _ F=>hU_ F TW cSort mTied) (fun _ _ _ _ _ _ us hl=>match us,hl with | [_,_],_=>rfl);have cCP:Cal l.prog w K mg base 5 "checked_piece" ["web","piece"] (cG' K CW):=cal f14 (fun _ _ F=>gh_ F B cName cWhole cCWy (PySem.W.mg_of X G c11_)) (fun _ _ _ _ _ _ us hl=>match us,hl with | [_,_],_=>rfl);have cCPs:Cal l.prog w K mg base 6 "checked_pieces" ["web","pieces"] (ch' K CW):=cal f15 (fun _ _ F=>fl_ F B cCP) (fun _ _ _ _ _ _ us hl=>match us,hl with | [_,_],_=>rfl);have cGoods:CalC l.prog w K mg base CG 7 "Goods" ["self","web","pieces"] (dm' K CG CW):=calC m6 (PySem.W.mg_of X G aG) gmk gkc (fun _ _ F=>hp_ F TG TW IW B (PySem.W.mg_of X G aW) cCPs) (fun _ _ _ _ _ _ us hl=>match us,hl with | [_,_,_],_=>rfl);have gHas:CalM l.prog w K mg base CG 1 "has_piece" ["self","thing"] (cQ' K CG CW):=calM m7 (fun _ _ F=>jl_ F TG B) (fun _ _ _ _ _ _ us hl=>match us,hl with | [_,_],_=>rfl);have gNames:CalM l.prog w K mg base CG 1 "names" ["self"] (cs' K CG CW):=calM m8 (fun _ _ F=>gA_ F TG B) (fun _ _ _ _ _ _ us hl=>match us,hl with | [_],_=>rfl);have gWeight:CalX l.prog w K mg base CG 2 "weight" ["self","piece"] (by' K CG CW CP):=calX m9 (fun _ _ F=>fE_ F TG RP gHas) (fun _ _ _ _ _ _ us hl=>match us,hl with | [_,_],_=>rfl);have gMay:CalX l.prog w K mg base CG 3 "may_go" ["self","piece","one","other"] (spGMay K CG CW CP):=calX m10 (fun _ _ F=>jE_ F TG TW RP gHas mTied cLsr) (fun _ _ _ _ _ _ us hl=>match us,hl with | [_,_,_,_],_=>rfl);have cGd:Cal l.prog w K mg base 1 "greatest_divisor" ["one","other"] spGd:=cal f7 (fun _ _ F=>ky_ F) (fun _ _ _ _ _ _ us hl=>match us,hl with | [_,_],_=>rfl);have cLM:Cal l.prog w K mg base 2 "least_multiple" ["numbers"] (spLM K):=cal f8 (fun _ _ F=>kv_ F cGd) (fun _ _ _ _ _ _ us hl=>match us,hl with | [_],_=>rfl);have cCS:Cal l.prog w K mg base 2 "checked_stand" ["goods","stand"] (b9' K CG CW):=cal f16 (fun _ _ F=>fG_ F B TG TW gHas mHas gNames) (fun _ _ _ _ _ _ us hl=>match us,hl with | [_,_],_=>rfl);have cLA:Cal l.prog w K mg base 3 "loads_at" ["goods","placed"] (bN' K CG CW):=cal f17 (fun _ _ F=>fg_ F B TG TW mHands gWeight) (fun _ _ _ _ _ _ us hl=>match us,hl with | [_,_],_=>rfl);have cMu:Cal l.prog w K mg base 3 "multiple_of_strengths" ["web"] (spMult K CW):=cal f18 (fun _ _ F=>jo_ F TW cLM mHands mStr) (fun _ _ _ _ _ _ us hl=>match us,hl with | [_],_=>rfl);have cLv:Cal l.prog w K mg base 4 "levels_at" ["goods","placed"] (cz' K CG CW):=cal f19 (fun _ _ F=>g4_ F TG TW cLA cMu mStr) (fun _ _ _ _ _ _ us hl=>match us,hl with | [_,_],_=>rfl);have cHF:Cal l.prog w K mg base 6 "heaviest_first" ["goods","placed"] (spHvF K CG CW T1):=⟨_,_,jT_ FH B TG TW (PySem.W.codeHd_of_K KB h1) (hbm T1 (by simp)) mHands gWeight,PySem.W.mg_of X G ah,kh,FH.fn.binds (fun _ _ _ _ _ _ us hl=>match us,hl with | [_,_],_=>rfl)⟩;have cSight:CalC l.prog w K mg base CS 7 "Sight" ["self","goods","placed"] (cZ' K CS CG CW T1):=calC m11 (PySem.W.mg_of X G aS) smk skc (fun _ _ F=>ia_ F TS cLA cLv cHF) (fun _ _ _ _ _ _ us hl=>match us,hl with | [_,_,_],_=>rfl);have sLd:CalM l.prog w K mg base CS 3 "lead" ["self","one","other"] (dt' K CS CG CW):=calM m12 (fun _ _ F=>iM_ F TS TG TW mStr) (fun _ _ _ _ _ _ us hl=>match us,hl with | [_,_,_],_=>rfl);have sJn:CalM l.prog w K mg base CS 3 "joint_strength" ["self","one","other"] (c8' K CS CG CW):=calM m13 (fun _ _ F=>ho_ F TS TG TW mStr) (fun _ _ _ _ _ _ us hl=>match us,hl with | [_,_,_],_=>rfl);have sRi:CalM l.prog w K mg base CS 4 "rising_neighbours" ["self","hand"] (spRisN K CS CG CW T2):=⟨_,_,jm_ FR B TS TG TW (PySem.W.codeHd_of_K KB h2) (hbm T2 (by simp)) mNei,⟨ar,ir,kr⟩,FR.fn.binds (fun _ _ _ _ _ _ us hl=>match us,hl with | [_,_],_=>rfl)⟩;have cIR:Cal l.prog w K mg base 1 "is_rule" ["thing"] cy':=cal f20 (fun _ _ F=>gq_ F B R) (fun _ _ _ _ _ _ us hl=>match us,hl with | [_],_=>rfl);have cWs:Cal l.prog w K mg base 2 "checked_words" ["rule"] (cA' K):=cal f21 (fun _ _ F=>hK_ F R cIR) (fun _ _ _ _ _ _ us hl=>match us,hl with | [_],_=>rfl);have cFi:Cal l.prog w K mg base 1 "fits" ["guard","lead","burden"] spFits:=cal f22 (fun _ _ F=>iR_ F) (fun _ _ _ _ _ _ us hl=>match us,hl with | [_,_,_],_=>rfl);have cHM:Cal l.prog w K mg base 4 "heaviest_move" ["sight","one","other","guard","given"] (spHvM K CS CG CW):=cal f23 (fun _ _ F=>k9_ F TS TG sLd sJn cFi gWeight gMay) (fun _ _ _ _ _ _ us hl=>match us,hl with | [_,_,_,_,_],_=>rfl);have cBL:Cal l.prog w K mg base 5 "moves_by_below" ["sight","hand","guard"] (spWay K CS CG CW T2 bu'):=cal f24 (fun _ _ F=>fD_ F TS sRi sLd cHM) (fun _ _ _ _ _ _ us hl=>match us,hl with | [_,_,_],_=>rfl);have cMF:Cal l.prog w K mg base 6 "moves_from" ["sight","hand","words"] (spFrom K CS CG CW T2 (fun r=>r.2.1="below") bj'):=cal f25 (fun _ _ F=>fi_ F cBL) (fun _ _ _ _ _ _ us hl=>match us,hl with | [_,_,_],_=>rfl);have cSe:Cal l.prog w K mg base 7 "moves_seen" ["sight","rule","moment"] (spSeen K CS CG CW T2 (fun r=>r.2.1="below") bj'):=cal f26 (fun _ _ F=>jd_ F TS TG TW (fun r e z=>by rw[e] at z;exact absurd z (by decide +kernel)) (fun r hs ts qs f h W=>aY' (fP_ r hs ts qs f h W) (by decide)) cWs mHands cMF) (fun _ _ _ _ _ _ us hl=>match us,hl with | [_,_,_],_=>rfl);have cSta:Cal l.prog w K mg base 3 "checked_start" ["goods","stand","rule"] (cr' K CG CW):=cal f27 (fun _ _ F=>gr_ F cWs cCS) (fun _ _ _ _ _ _ us hl=>match us,hl with | [_,_,_],_=>rfl);have cMo:Cal l.prog w K mg base 3 "checked_moments" ["thing"] bX':=cal f28 (fun _ _ F=>eu_ F cWhF) (fun _ _ _ _ _ _ us hl=>match us,hl with | [_],_=>rfl);have cMv:Cal l.prog w K mg base 9 "moves_of" ["goods","stand","rule","moment"] (ck' K CG CW T1 T2 (fun r=>r.2.1="below") (fun _=>bj')):=cal f29 (fun _ _ F=>fj_ F cSta cSight cSe cMo) (fun _ _ _ _ _ _ us hl=>match us,hl with | [_,_,_,_],_=>rfl);have cCell:Cal l.prog w K mg base 1 "_law_cell_at" ["_law_script","_law_k"] (spCell K):=cal f30 (fun _ _ F=>ju_ F B) (fun _ _ _ _ _ _ us hl=>match us,hl with | [_,_],_=>rfl);have cMx:Cal l.prog w K mg base 1 "_law_mixed" ["_law_number"] da':=cal f31 (fun _ _ F=>hR_ F) (fun _ _ _ _ _ _ us hl=>match us,hl with | [_],_=>rfl);have cStt:Cal l.prog w K mg base 1 "_law_state" ["_law_cell","_law_k"] dc':=cal f32 (fun _ _ F=>hG_ F) (fun _ _ _ _ _ _ us hl=>match us,hl with | [_,_],_=>rfl);have cDig:Cal l.prog w K mg base 2 "_law_digit" ["_law_state_here","_law_base"] bF':=cal f33 (fun _ _ F=>hi_ F cMx) (fun _ _ _ _ _ _ us hl=>match us,hl with | [_,_],_=>rfl);have cNm:Cal l.prog w K mg base 3 "_law_named" ["_law_state_here","_law_many"] cK':=cal f34 (fun _ _ F=>hh_ F B cDig) (fun _ _ _ _ _ _ us hl=>match us,hl with | [_,_],_=>rfl);have cLW:Cal l.prog w K mg base 4 "_law_web" ["_law_state_here"] (spLWeb K):=cal f35 (fun _ _ F=>iW_ F B cDig cNm) (fun _ _ _ _ _ _ us hl=>match us,hl with | [_],_=>rfl);have cWt:Cal l.prog w K mg base 3 "_law_weight" ["_law_state_here","_law_great"] ce':=cal f36 (fun _ _ F=>fx_ F cDig) (fun _ _ _ _ _ _ us hl=>match us,hl with | [_,_],_=>rfl);have cWy:Cal l.prog w K mg base 3 "_law_ways" ["_law_state_here","_law_ties"] (c7' K):=cal f37 (fun _ _ F=>hq_ F B cDig) (fun _ _ _ _ _ _ us hl=>match us,hl with | [_,_],_=>rfl);have cGo:Cal l.prog w K mg base 4 "_law_goods" ["_law_state_here","_law_hands","_law_ties"] (cC' K):=cal f38 (fun _ _ F=>g3_ F B cDig cNm cWt cWy) (fun _ _ _ _ _ _ us hl=>match us,hl with | [_,_,_],_=>rfl);have cWd:Cal l.prog w K mg base 1 "_law_world" ["_law_hands","_law_ties","_law_pieces"] (dg' K):=cal f39 (fun _ _ F=>i8_ F B) (fun _ _ _ _ _ _ us hl=>match us,hl with | [_,_,_],_=>rfl);have cHe:Cal l.prog w K mg base 1 "_law_held" ["_law_world_here","_law_stand"] (ds' K):=cal f40 (fun _ _ F=>jA_ F B) (fun _ _ _ _ _ _ us hl=>match us,hl with | [_,_],_=>rfl);have cDr:Cal l.prog w K mg base 1 "_law_drop" ["_law_world_here","_law_held_here","_law_one","_law_other"] (du' K):=cal f41 (fun _ _ F=>jk_ F) (fun _ _ _ _ _ _ us hl=>match us,hl with | [_,_,_,_],_=>rfl);have cMa:Cal l.prog w K mg base 1 "_law_may" ["_law_world_here","_law_piece","_law_one","_law_other"] (spMayL K):=cal f42 (fun _ _ F=>iO_ F) (fun _ _ _ _ _ _ us hl=>match us,hl with | [_,_,_,_],_=>rfl);have cIF:Cal l.prog w K mg base 1 "_law_is_fit" ["_law_guard","_law_drop_here","_law_much"] cV':=cal f43 (fun _ _ F=>hF_ F) (fun _ _ _ _ _ _ us hl=>match us,hl with | [_,_,_],_=>rfl);have cHL:Cal l.prog w K mg base 1 "_law_heaviest" ["_law_world_here","_law_pieces"] (spHvL K):=cal f44 (fun _ _ F=>jU_ F B) (fun _ _ _ _ _ _ us hl=>match us,hl with | [_,_],_=>rfl);have cBe:Cal l.prog w K mg base 2 "_law_best" ["_law_world_here","_law_stand","_law_pair","_law_guard","_law_given"] (spBest K):=cal f45 (fun _ _ F=>jJ_ F cDr cHe cMa cIF cHL) (fun _ _ _ _ _ _ us hl=>match us,hl with | [_,_,_,_,_],_=>rfl);have cRi:Cal l.prog w K mg base 2 "_law_rising" ["_law_world_here","_law_stand","_law_hand"] (cD' K):=cal f46 (fun _ _ F=>gW_ F B cDr cHe) (fun _ _ _ _ _ _ us hl=>match us,hl with | [_,_,_],_=>rfl);have cBy:Cal l.prog w K mg base 3 "_law_by_low" ["_law_world_here","_law_stand","_law_hand","_law_words"] (cT' K):=cal f47 (fun _ _ F=>hJ_ F cRi cBe) (fun _ _ _ _ _ _ us hl=>match us,hl with | [_,_,_,_],_=>rfl);exact jR_ FL B cCell cStt cDig cLW cGo cWd cBy cWeb cGoods cMv
theorem gx_{H:Hp}{T:Addr}{q:Str}(h:H T=some (.tbl #[])):bf' H T q:=⟨[],h,fun e he=>by cases he⟩
theorem walk{l:PySem.W.OpenLaw}{q:Program}{loose:List Str}{XP:(Str->Option Value)->Heap->Prop}{d:DefRec}{K:Params->F__}{as:List Addr}{T1 T2:Addr}{eas:∀P:Params,as=(K P).map (·.1)}(hn:l.most=some 63)(hdf:d.params.defaults=[])(hts:([T2,T1].all fun T=>!as.contains T)=true)(ne:T1≠T2)
  (F:∀(w:World) (mg:Str->Option Value) (fa:Addr) (h:Heap),(K w.params).In h->h.Ns mainGlobals mg->mg d.name=some (.ref fa)->
   ∃fd:FuncData,(∀(s:Shared) (u:Value),BindsTo s fd ⟨[u],[]⟩ [("_law_script",u)])/\(∀T'∈[T2,T1],isCodeTable h T')/\∀base:Heap,(K w.params).In base->base.Ns mainGlobals mg->(∀T'∈[T2,T1],base.BuiltinsAt mg T')->FnOk l.prog w (K w.params) mg base CX0 10 fa fd ["_law_script"] (spLaw (K w.params) T1 T2)) :
  PySem.W.WalkO q loose XP (PySem.W.kmHook K as eas [T2,T1]).says l.row.toRowW d [] (fun f vs=>PySem.call f vs):=
 L2.walk_ofT (n:=63) (k:=10) (x:="_law_script") (CX:=fun _=>CX0) (sp:=fun w=>spLaw (K w.params) T1 T2) hn (by decide) hdf ⟨rfl,by decide,by decide⟩ hts F (fun _ _ a ns hl hT hS=>⟨a,ns,rfl,⟨gx_ (hT T1 (by simp)),gx_ (hT T2 (by simp)),ne⟩,hS,hl,fun _=>rfl⟩) fun _ _ _ _ _ z=>z
end Ev
namespace PySem.W.Fast
def tw18100199061135232994:=()
def tw11784995431107858275:=()
def tw7435682777254812742:=()
def tw14136566308391757190:=()
def tw5572701867841305190:=()
def tw8538843306024225927:=()
def tw17178081361932132711:=()
def tw8842323184462676423:=()
def tw2395669870692170503:=()
def tw16689751261133694474:=()
def tw2427736084900075114:=()
def tw7382851551369580811:=()
def tw14378164934976386475:=()
def tw16679897147411620395:=()
def tw13587877258851407436:=()
def tw16263690284898482924:=()
def tw8874429021168848333:=()
def tw4544533430488125616:=()
def tw7355078568722866576:=()
def tw10669076114215444017:=()
def tw1305310869950621842:=()
def tw13382576364884265682:=()
def tw5747938722278005203:=()
def tw17180456416187476435:=()
def tw12023448836577097908:=()
def tw4801271564037506133:=()
def tw968301023575997781:=()
def tw528944374682406870:=()
def tw16936745268298234903:=()
def tw17246402144222305495:=()
def tw1693695666853725175:=()
def tw17546626989099114777:=()
def tw1483607693302965371:=()
def tw10055241377050943516:=()
def tw9683688460039015196:=()
def tw3410185597722654684:=()
def tw12649863522646317052:=()
def tw236482133239885470:=()
def tw14833881363683483390:=()
def tw10625602728237952287:=()
def tw546519597410927455:=()
def tw7061728492365340319:=()
def tw11677298793217521929:=()
def tw6568680439428700019:=()
def tw814121855588947224:=()
def tw716694562067143007:=()
def tw14760227392276504372:=()
def tw8946258154778623508:=()
def tw12095573430278695945:=()
def tw7520948480564680369:=()
def tw10640200037073229569:=()
def tw1133236095919252006:=()
def tw5049057547445261528:=()
def tw13457411562578796119:=()
def tw7416777234576392671:=()
def tw9716669287295037495:=()
def tw3561858696320629845:=()
def tw14366173334897790654:=()
def tw5881774533268977693:=()
def tw15870019348660765427:=()
def tw8477067029801296047:=()
def tw3068362473134677282:=()
def tw8869996240114301220:=()
def tw16329089870658875465:=()
def tw7402649003286216112:=()
def tw11632547258839326242:=()
def tw10945327137834439546:=()
def tw7851770664695027933:=()
def tw6694946650780601660:=()
def tw15296399242850222084:=()
def tw75978624612043720:=()
def tw17468687259531987501:=()
def tw7964374791255580871:=()
def tw4341156562440988276:=()
def tw16069208687076225681:=()
def tw3359093770867361956:=()
def tw388189030140321673:=()
def tw13610474723341951347:=()
def tw14495141505218595840:=()
def tw6205370707218387545:=()
def tw18072551836950153445:=()
def tw12601713931582593267:=()
def tw338978713811186399:=()
def tw14947112417607068499:=()
def tw11899939311943010781:=()
def tw7125747485336213531:=()
def tw16455610539079761880:=()
def tw11678998070985816078:=()
def tw15007453659426015546:=()
def tw14203681444610368630:=()
def tw3166212176642655296:=()
def tw15642482300495831453:=()
def tw17077410740753771491:=()
def tw1640231968635092485:=()
def tw12191755295014793278:=()
def tw9357144461771073187:=()
def tw6712187611637184026:=()
def tw13240394462222049564:=()
def tw9728724655451899135:=()
def tw13181105911621578902:=()
def tw15071853206835715106:=()
def tw13890675995304958957:=()
def tw4960479861046262707:=()
def tw16353027240601552465:=()
def tw7248879984995539831:=()
def tw6527227038669615530:=()
def tw14049426047474500115:=()
def tw11172700931797948210:=()
def tw6009884035913911131:=()
def tw11852077592932861563:=()
def tw9141718018837732858:=()
def tw24115034548418190:=()
def tw925627838916598530:=()
def tw8608604962456021200:=()
def tw12387960157176276510:=()
def tw11831880333151430849:=()
def tw553561486381562339:=()
def tw17225953346806645695:=()
def tw17888187160756888265:=()
def tw7918602523887482180:=()
def tw12377670021577398146:=()
def tw6561009362520999714:=()
def tw3751841342825608383:=()
def tw7800869790115966734:=()
def tw3688821120725447203:=()
def tw13460011906480529427:=()
def tw14372195898583690772:=()
def tw8061840137166149746:=()
def tw12744460844429282025:=()
def tw12472834265176641708:=()
def tw13686624835812676482:=()
def tw3859039846994579696:=()
def tw7910825103124214279:=()
def tw2306206951546304773:=()
def tw17779051098027721645:=()
def tw15761721548372759255:=()
def tw12419654281434543933:=()
def tw17509493368883864059:=()
def tw6011677498371441505:=()
def tw9586466097676271714:=()
def tw17177842729407716663:=()
def tw14440334021216680714:=()
def tw11382403643356784079:=()
def tw485547277076876030:=()
def tw14072840242271444982:=()
def tw3344108579644971224:=()
def tw4610010928232761443:=()
def tw1516057979392528221:=()
def tw17207812774240695384:=()
def tw6065379984188978869:=()
def tw13257671618135431113:=()
def tw14628089779307710001:=()
def tw1421366614942145146:=()
def tw10329114184569379211:=()
def tw15490110326064720239:=()
def tw16249403115754514196:=()
def tw10786357218367008476:=()
def tw12682063753557500072:=()
def tw12002779732069189259:=()
def tw6795478647684446827:=()
def tw11751817720858035782:=()
def tw12772863766953645453:=()
def tw17671377314063358979:=()
def tw9560427171889597427:=()
def tw18353488446428152254:=()
def tw7541338700877080347:=()
def tw4916976983242652423:=()
def tw15683846811850225816:=()
def tw3124730009483597471:=()
def tw4286200748116278212:=()
def tw3320384567224586604:=()
def tw12263795234076872125:=()
def tw189351508303743264:=()
def tw922693594725397794:=()
def tw9594594458768896374:=()
def tw16773708121766979164:=()
def tw1768431513136029249:=()
def tw15698484878822377315:=()
def tw5620897061156821028:=()
def tw8729589042146178410:=()
def tw13639478107808467395:=()
def tw1199104328371387875:=()
def tw15249116011147394099:=()
def tw14850648887957346883:=()
def tw14029504601867084116:=()
def tw8462032617738814791:=()
def tw17166341558803290065:=()
def tw12896744031111948411:=()
def tw16078410000802260922:=()
def tw4263599223164886711:=()
def tw17425440689692191414:=()
def tw18137212808978626738:=()
def tw3965809987855500646:=()
def tw3486289163166229469:=()
def tw4614317931394241725:=()
def tw7111200816409128173:=()
def tw2774159014144582536:=()
def tw1385138344236788873:=()
def tw2580049784101729970:=()
def tw9702153199170237021:=()
def tw6935128278032791724:=()
def tw4104976282794224674:=()
def tw11693584758382648134:=()
def tw3951343178898417387:=()
def tw7855497263126217822:=()
def tw590890248386290152:=()
def tw4724094116349355116:=()
def tw16085474267766060677:=()
def tw11156321367417461160:=()
def tw433801679732668132:=()
def tw5657914811175871162:=()
def tw9785145043377365959:=()
def tw4641953670795797760:=()
def tw6782082515710389718:=()
def tw5283159594287735570:=()
def tw14424294964533811086:=()
def tw3119124063993020190:=()
def tw17146263270632154837:=()
def tw13723057168692894221:=()
def tw3761414805149892552:=()
def tw6943199942229740138:=()
def tw14925236683076699256:=()
def tw8260863501265332755:=()
def tw17664130604086285297:=()
def tw4716736744682717920:=()
def tw9177714681404478277:=()
def tw18216449877522383063:=()
def tw8123501352539041869:=()
def tw281306770906028375:=()
def tw5867411964373683143:=()
def tw9248319254754783901:=()
def tw10567617221646755240:=()
def tw227030809110830834:=()
def tw14820069190824487402:=()
def tw9162592901787455964:=()
def tw11930708897835805296:=()
def tw14661201091258823770:=()
def tw13259282311477536730:=()
def tw9690497728668503602:=()
def tw2354149067094001168:=()
def tw14234692564443957528:=()
def tw2155707988542166389:=()
def tw1129458182442523676:=()
def tw348386998519875405:=()
def tw9613749267804124043:=()
def tw5028677324271874300:=()
def tw17002367139628760824:=()
def tw16225838700551954017:=()
def tw989927562316785827:=()
def tw5524374792568008840:=()
def tw9605194924749163604:=()
def tw4332018730570147618:=()
def tw6251282986765419814:=()
def tw10819540712026932757:=()
def tw6343409386445074884:=()
def tw954459245826475904:=()
def tw3445856853228532439:=()
def tw1349743480968460890:=()
def tw16121166004428554392:=()
def tw4760009003461515520:=()
def tw3897390237673641465:=()
def tw12043672424047470390:=()
def tw18080420936605678785:=()
def tw10989980411098494651:=()
def tw9297834954392139522:=()
def tw14515320293702924553:=()
def tw11496931441144970787:=()
def tw14257513332181582451:=()
def tw12691018681755955178:=()
def tw875356587027968239:=()
def tw10052292475718062917:=()
def tw12230094377889711213:=()
def tw5423921765460697375:=()
def tw14061404182661446932:=()
def tw3849864485120357223:=()
def tw5466879557553018454:=()
def tw17408100151952328743:=()
def tw8083791148738609885:=()
def tw5857346879014872440:=()
def tw14089334230497512435:=()
def tw15748173732134755531:=()
def tw16766307531181925277:=()
def tw3887832833456945328:=()
def tw2724690722328695193:=()
def tw15617193898106331764:=()
def tw10965984746136321261:=()
def tw3087187741382125010:=()
def tw13130065150689606028:=()
def tw622974988279172513:=()
def tw16033854087859539562:=()
def tw10757955642312507717:=()
def tw1369448180509463603:=()
def tw8390764419260866421:=()
def tw11664670253543537956:=()
def tw8073695061836083183:=()
def tw11584041411393848171:=()
def tw4423424380908912511:=()
def tw9164850788119935669:=()
def tw7875546756268722766:=()
def tw9539279051280425938:=()
def tw16819224612394185075:=()
def tw15788954390246290942:=()
def tw3686037960622585580:=()
def tw4478608063523207095:=()
def tw9221117783552299115:=()
def tw17851479621061836934:=()
def tw491354619253782356:=()
def tw5823138538046519147:=()
def tw6191507637706061158:=()
def tw12901732487703830249:=()
def tw10441181603238504426:=()
def tw7837152865122184270:=()
def tw10904279622313374575:=()
def tw17427595508062347863:=()
def tw9628591577844039494:=()
def tw8223672300526180811:=()
def tw14417302001407616101:=()
def tw7671603104440315499:=()
def tw8742680490745180061:=()
def tw3767887078509992741:=()
def tw12083113486447983526:=()
def tw6070132858437418988:=()
def tw15254410624186804173:=()
def tw13591562910865936261:=()
def tw2737546747079444754:=()
def tw4404077081891693481:=()
def tw17475708098193528204:=()
def tw12549809512168954550:=()
def tw7395566926882328897:=()
def tw5046923952433469683:=()
def tw12760075734411163443:=()
def tw13480732926426403092:=()
def tw2738679457044672663:=()
def tw3348201235115329569:=()
def tw5723301221008733067:=()
def tw6867016856512938766:=()
def tw10124700085914000072:=()
def tw10391683601739877853:=()
def tw12321889022000530802:=()
def tw4598716505310570698:=()
def tw8086108297218782306:=()
def tw5693909003268052857:=()
def tw17789964445000956262:=()
def tw3847967641210829588:=()
def tw16561498692247464612:=()
def tw12226367132036138333:=()
def tw14724578045854477000:=()
def tw11368118586190461044:=()
def tw9287484005710629994:=()
def tw10361273203676264758:=()
def tw5434430336052914678:=()
def tw11661821964718273884:=()
def tw13265393133745507958:=()
def tw3465857666408260878:=()
def tw11504288889152505041:=()
def tw9418583390203228102:=()
def tw7686046535591685642:=()
def tw3442374465933008548:=()
def tw7247548811824734280:=()
def tw3175292293497107488:=()
def tw7900090025954539011:=()
def tw112928028731287763:=()
def tw10850094544930091464:=()
def tw7627303799414452566:=()
def tw3114900031017976505:=()
def tw7822423306066931499:=()
def tw3647879509822369514:=()
def tw12697793063697321559:=()
def tw3356994985185288181:=()
def tw5563463767886780989:=()
def tw13913259135178240619:=()
def tw508632965214800085:=()
def tw10560038187914925455:=()
def tw13278322541482434928:=()
def tw339457412466423814:=()
def tw8078961364145530961:=()
def tw3614987080422036584:=()
def tw8763676523519562812:=()
def tw8031973739757836540:=()
def tw5995374963043112175:=()
def tw8836777790477948558:=()
def tw13046979131700515412:=()
def tw6593889643982051977:=()
def tw14964348208625446822:=()
def tw8047465331100073023:=()
def tw17338716198739361936:=()
def tw15376498655700694573:=()
def tw8280556491677145250:=()
def tw2087211222318846320:=()
def tw14313371146160510063:=()
def tw15049092162359676500:=()
def tw4032049139730423386:=()
def tw10292491129261628452:=()
def tw3215788893765284865:=()
def tw4356004126311952646:=()
def tw2856723368551514604:=()
def tw11111147667325603305:=()
def tw5192675496514810281:=()
def tw9353165374306791429:=()
def tw15483373777113313362:=()
def tw5150179524517541265:=()
def tw13913668339369871138:=()
def tw6197769209932706221:=()
def tw15774938909939832065:=()
def tw8287752984241273114:=()
def tw14527057856246285900:=()
def tw16624596226156280334:=()
def tw9334863642808990005:=()
def tw18271783394400697660:=()
def tw6073096966441006432:=()
def tw7208516169379341796:=()
def tw13576574305955620557:=()
def tw3716969469029253306:=()
def tw10814665463876817903:=()
def tw5819756638960065441:=()
def tw3186678934320218785:=()
def tw2415627340693061409:=()
def tw12595030860950836841:=()
def tw14556561444464268982:=()
def tw12670314081877508182:=()
def tw2203448393115227072:=()
def tw7067661624934848612:=()
def tw733310588026161031:=()
def tw10944576724189041581:=()
def tw10263204555463925128:=()
def tw2667840359874125634:=()
def tw4579004719975813748:=()
def tw8487337099755059535:=()
def tw13140036846688918870:=()
def tw15181010754386308958:=()
def tw17561518809861292383:=()
def tw180307963580008894:=()
def tw5792740432475887203:=()
def tw12985916470117551787:=()
def tw15743740107884426100:=()
def tw11067099036202245399:=()
def tw11858077215207301525:=()
def tw331135095216036852:=()
def tw17282734108813123256:=()
def tw14988304400619542173:=()
def tw4214231314155580035:=()
def tw16554438809251074736:=()
def tw1514418605064432821:=()
def tw18153033504926912790:=()
def tw15381958815135146475:=()
def tw2737878352514685542:=()
def tw9457388791593629513:=()
def tw8238692868727454062:=()
def tw9928446082016736611:=()
def tw9982337891456085134:=()
def tw10420823103731856945:=()
def tw17933148341136134867:=()
def tw9395974897908885627:=()
def tw3246414075555312299:=()
def tw2629082768616726530:=()
def tw11378607842279556121:=()
def tw14275640685928966011:=()
def tw16587130140954193878:=()
def tw9035592292039246484:=()
def tw2942847096245763602:=()
def tw8185218835631296807:=()
def tw12447747409473661257:=()
def tw6370836521502197212:=()
def tw10649075312770469919:=()
def tw13860181741317358911:=()
def tw14840366644930909993:=()
def tw345003102262880248:=()
def tw3276056608381917422:=()
def tw16519926829828848613:=()
def tw2000283256907268555:=()
def tw8358298653504837912:=()
def tw1810747631737661393:=()
def tw14775557329774629918:=()
def tw11100255784498076449:=()
def tw1406694131122865465:=()
def tw5858205887913262927:=()
def tw3839884515652779232:=()
def tw5773854698723832717:=()
def tw12755551899074563873:=()
def tw2439402788677864988:=()
def tw5035514380895986574:=()
def tw10128029520233803253:=()
def tw4949370151100396968:=()
def tw12366723131909185564:=()
def tw2389644411366179511:=()
def tw6857997887567502357:=()
def tw11770762641806217052:=()
def tw7933539710788513288:=()
def tw13667426475699481107:=()
def tw3691117693303907106:=()
def tw15306905733874238249:=()
def tw1666865640323086226:=()
def tw7057758467513997338:=()
def tw5764775916471975773:=()
def tw15103938250389502774:=()
def tw15346962849647641317:=()
def tw11269389557353426998:=()
def tw11608403389984661224:=()
def tw16351813349967619257:=()
def tw8166689750763528640:=()
def tw15150843090561061529:=()
def tw16386459203136726746:=()
def tw7943639351784920481:=()
def tw5856378615319446603:=()
def tw2092682165560852611:=()
def tw15107852998335661098:=()
def tw18226312155149804048:=()
def tw18019567852753671865:=()
def tw12534376601809586541:=()
def tw11684295672510225884:=()
def tw13238501415764437204:=()
def tw17655695547344973480:=()
def tw11829708074114852690:=()
def tw15576418298682304860:=()
def tw14399854330319611715:=()
def tw14478928249067754380:=()
def tw6523924520054166634:=()
def tw275930542932554862:=()
def tw11507325670970011138:=()
def tw6353055270766001062:=()
def tw5435475910503602043:=()
def tw3414377246985994779:=()
def tw16110017780555054342:=()
def tw2670142524092940569:=()
def tw12128013671621537336:=()
def tw3185309296651620106:=()
def tw6995286128965840430:=()
def tw10715135054313569719:=()
def tw11364644965682597751:=()
def tw15712633413874842536:=()
def tw16179133739210736626:=()
def tw7748265911236962759:=()
def tw14589214281313250624:=()
def tw12413669640070490374:=()
def tw15635241081987467714:=()
def tw12843014454791544270:=()
def tw8858551994736558680:=()
def tw6832810730001369453:=()
def tw14646582888213964896:=()
def tw11363451860969552304:=()
def tw2318851035889742117:=()
def tw7237841893814086576:=()
def tw16926089435373801758:=()
def tw6418886414322052443:=()
def tw15498032194698904804:=()
def tw5991809144174362122:=()
def tw2058191817812627483:=()
def tw14304004042885294020:=()
def tw9986203217935592539:=()
def tw3653787513102407321:=()
def tw17631403172473788294:=()
def tw7266774351426804087:=()
def tw14244147709764673419:=()
def tw452290635486941860:=()
def tw14826457689992546914:=()
def tw18401868057157477788:=()
def tw10583474134784441577:=()
def tw2134030847707118262:=()
def tw7344257529895146486:=()
def tw17087149410574667388:=()
def tw3090350981502410427:=()
def tw6933776938621702376:=()
def tw12232079166630664662:=()
def tw15031671014486346525:=()
def tw5751300545838945867:=()
def tw17568949741782893898:=()
def tw10449201625833969098:=()
def tw12998636327016444163:=()
def tw15676459312081339812:=()
def tw3155704532868619097:=()
def tw11417045086644096993:=()
def tw12048606112223074620:=()
def tw9140154221563408742:=()
def tw12296952546345416310:=()
def tw9705936305309587378:=()
def tw7565894077309624879:=()
def tw4243108321268177952:=()
def tw8608068627317444039:=()
def tw15151314911665736626:=()
def tw12920475745769866019:=()
def tw2550827321199374813:=()
def tw3430229861259782938:=()
def tw16758681738832886387:=()
def tw3772990516726051898:=()
def tw986280648661854438:=()
def tw9487696834332279977:=()
def tw17660511297451483020:=()
def tw13137699855652395155:=()
def tw707378809630546603:=()
def tw7129800239425928332:=()
def tw10347833923659156742:=()
def tw17098690202751915119:=()
def tw15666984916634032325:=()
def tw2882336496206842635:=()
def tw13828229109619257454:=()
def tw7960895362383640335:=()
def tw8936849026846541828:=()
def tw9020170998332407448:=()
def tw8630458268127248433:=()
def tw14310480512558941480:=()
def tw4402671484804004590:=()
def tw2559610920735236962:=()
def tw2615996687316259285:=()
def tw7361387251036740617:=()
def tw4707394130527757971:=()
def tw620895827887382520:=()
def tw14401376419739956827:=()
def tw50233655496308164:=()
def tw18079284889160455782:=()
def tw16411199336268656189:=()
def tw8411590585452104615:=()
def tw3963363565776124406:=()
def tw16100217132203258010:=()
def tw16867169702075761599:=()
def tw15936783584430343310:=()
def tw5360403597197567115:=()
def tw7764201711097853371:=()
def tw4417394324373330004:=()
def tw10724317199220826777:=()
def tw16312430427145688949:=()
def tw11476213959231973722:=()
def tw12216014615308176195:=()
def tw3110320902109837809:=()
def tw14851716433286169248:=()
def tw11927456928171967280:=()
def tw10355622439476872578:=()
def tw2127474380529434603:=()
def tw9108329475655976065:=()
def tw12672315280729897354:=()
def tw13575699321245211883:=()
def tw11371146784222268092:=()
def tw12273652252789286635:=()
def tw18378026213932032962:=()
def tw14567858583994123269:=()
def tw5871184581221727574:=()
def tw18323811186391075887:=()
def tw16880706540714338104:=()
def tw1336606357044515930:=()
def tw10037967808495512885:=()
def tw16219527609828879583:=()
def tw15901026290201952486:=()
def tw4143357906113577923:=()
def tw16050879468419687668:=()
def tw12671599868329466260:=()
def tw8491630653363936347:=()
def tw1951049549772563469:=()
end PySem.W.Fast
open PySem PySem.W PyProof.Rows
set_option maxRecDepth 100000 in
set_option maxHeartbeats 0 in
theorem PySem.Challenge.cw_evenpieces_k28_what_below_gives_holds : PySem.Challenge.rw_evenpieces_k28_what_below_gives.Holds := by
 w_on;o_law;k_head;(case hw=>w_witness2)
 k_fill
 refine Ev.walk (l:=PySem.Challenge.rw_evenpieces_k28_what_below_gives) rfl rfl (by rfl) (by decide) ?F
 case F=>
  intro w mg fa h KX G hmg;refine' Ev.all_mk KX G hmg (Ev.fd_mk KX G ?f0a ?f0l ?f0c ?f0k) (Ev.fd_mk KX G ?f1a ?f1l ?f1c ?f1k) (Ev.fd_mk KX G ?f2a ?f2l ?f2c ?f2k) (Ev.fd_mk KX G ?f3a ?f3l ?f3c ?f3k) (Ev.fd_mk KX G ?f4a ?f4l ?f4c ?f4k) (Ev.fd_mk KX G ?f5a ?f5l ?f5c ?f5k) (Ev.fd_mk KX G ?f6a ?f6l ?f6c ?f6k) (Ev.fd_mk KX G ?f7a ?f7l ?f7c ?f7k) (Ev.fd_mk KX G ?f8a ?f8l ?f8c ?f8k) (Ev.fd_mk KX G ?f9a ?f9l ?f9c ?f9k) (Ev.fd_mk KX G ?f10a ?f10l ?f10c ?f10k) (Ev.fd_mk KX G ?f11a ?f11l ?f11c ?f11k) (Ev.fd_mk KX G ?f12a ?f12l ?f12c ?f12k) (Ev.fd_mk KX G ?f13a ?f13l ?f13c ?f13k) (Ev.fd_mk KX G ?f14a ?f14l ?f14c ?f14k) (Ev.fd_mk KX G ?f15a ?f15l ?f15c ?f15k) (Ev.fd_mk KX G ?f16a ?f16l ?f16c ?f16k) (Ev.fd_mk KX G ?f17a ?f17l ?f17c ?f17k) (Ev.fd_mk KX G ?f18a ?f18l ?f18c ?f18k) (Ev.fd_mk KX G ?f19a ?f19l ?f19c ?f19k) (Ev.fd_mk KX G ?f20a ?f20l ?f20c ?f20k) (Ev.fd_mk KX G ?f21a ?f21l ?f21c ?f21k) (Ev.fd_mk KX G ?f22a ?f22l ?f22c ?f22k) (Ev.fd_mk KX G ?f23a ?f23l ?f23c ?f23k) (Ev.fd_mk KX G ?f24a ?f24l ?f24c ?f24k) (Ev.fd_mk KX G ?f25a ?f25l ?f25c ?f25k) (Ev.fd_mk KX G ?f26a ?f26l ?f26c ?f26k) (Ev.fd_mk KX G ?f27a ?f27l ?f27c ?f27k) (Ev.fd_mk KX G ?f28a ?f28l ?f28c ?f28k) (Ev.fd_mk KX G ?f29a ?f29l ?f29c ?f29k) (Ev.fd_mk KX G ?f30a ?f30l ?f30c ?f30k) (Ev.fd_mk KX G ?f31a ?f31l ?f31c ?f31k) (Ev.fd_mk KX G ?f32a ?f32l ?f32c ?f32k) (Ev.fd_mk KX G ?f33a ?f33l ?f33c ?f33k) (Ev.fd_mk KX G ?f34a ?f34l ?f34c ?f34k) (Ev.fd_mk KX G ?f35a ?f35l ?f35c ?f35k) (Ev.fd_mk KX G ?f36a ?f36l ?f36c ?f36k) (Ev.fd_mk KX G ?f37a ?f37l ?f37c ?f37k) (Ev.fd_mk KX G ?f38a ?f38l ?f38c ?f38k) (Ev.fd_mk KX G ?f39a ?f39l ?f39c ?f39k) (Ev.fd_mk KX G ?f40a ?f40l ?f40c ?f40k) (Ev.fd_mk KX G ?f41a ?f41l ?f41c ?f41k) (Ev.fd_mk KX G ?f42a ?f42l ?f42c ?f42k) (Ev.fd_mk KX G ?f43a ?f43l ?f43c ?f43k) (Ev.fd_mk KX G ?f44a ?f44l ?f44c ?f44k) (Ev.fd_mk KX G ?f45a ?f45l ?f45c ?f45k) (Ev.fd_mk KX G ?f46a ?f46l ?f46c ?f46k) (Ev.fd_mk KX G ?f47a ?f47l ?f47c ?f47k) (Ev.md_mk ?m0a ?m0i ?m0l ?m0c ?m0k) (Ev.md_mk ?m1a ?m1i ?m1l ?m1c ?m1k) (Ev.md_mk ?m2a ?m2i ?m2l ?m2c ?m2k) (Ev.md_mk ?m3a ?m3i ?m3l ?m3c ?m3k) (Ev.md_mk ?m4a ?m4i ?m4l ?m4c ?m4k) (Ev.md_mk ?m5a ?m5i ?m5l ?m5c ?m5k) (Ev.md_mk ?m6a ?m6i ?m6l ?m6c ?m6k) (Ev.md_mk ?m7a ?m7i ?m7l ?m7c ?m7k) (Ev.md_mk ?m8a ?m8i ?m8l ?m8c ?m8k) (Ev.md_mk ?m9a ?m9i ?m9l ?m9c ?m9k) (Ev.md_mk ?m10a ?m10i ?m10l ?m10c ?m10k) (Ev.md_mk ?m11a ?m11i ?m11l ?m11c ?m11k) (Ev.md_mk ?m12a ?m12i ?m12l ?m12c ?m12k) (Ev.md_mk ?m13a ?m13i ?m13l ?m13c ?m13k) ?al ?ll ?cl ?kl ?ah ?lh ?hcd ?kh ?h1 ?aW ?aG ?aS ?eP ?xP ?ar ?ir ?lr ?rcd ?kr ?h2 ?c8_ ?c9_ ?c10_ ?c11_ ?wpg ?whd ?wpo ?wsa ?wmk ?wkc ?wn0 ?wn1 ?wn2 ?gpg ?ghd ?gpo ?gsa ?gmk ?gkc ?gn0 ?gn1 ?gn2 ?spg ?shd ?spo ?ssa ?smk ?skc ?sn0 ?sn1 ?sn2 ?sn3 ?iha ?ihn ?itk ?imo ?z0 ?z1 ?z2 ?z3 ?z4 ?z5 ?z6 ?z7 ?z8 ?z9 ?z10 ?z11 ?z12 ?z13 ?z14 ?z15 (Ev.rules_at ?rm ?rs ?rl ?re ?u0 ?u1 ?u2 ?u3 ?u4 ?u5 ?u6 ?u7 ?u8 ?u9 ?u10 ?u11 ?u12 ?u13 ?u14 ?u15 ?u16)
  (case aW=>k_is);(case aG=>k_is);(case aS=>k_is);(case eP=>k_is)
  (case f0a=>k_is);(case f0l=>k_is);(case f0c=>k_is);(case f0k=>k_is)
  (case f1a=>k_is);(case f1l=>k_is);(case f1c=>k_is);(case f1k=>k_is)
  (case f2a=>k_is);(case f2l=>k_is);(case f2c=>k_is);(case f2k=>k_is)
  (case f3a=>k_is);(case f3l=>k_is);(case f3c=>k_is);(case f3k=>k_is)
  (case f4a=>k_is);(case f4l=>k_is);(case f4c=>k_is);(case f4k=>k_is)
  (case f5a=>k_is);(case f5l=>k_is);(case f5c=>k_is);(case f5k=>k_is)
  (case f6a=>k_is);(case f6l=>k_is);(case f6c=>k_is);(case f6k=>k_is)
  (case f7a=>k_is);(case f7l=>k_is);(case f7c=>k_is);(case f7k=>k_is)
  (case f8a=>k_is);(case f8l=>k_is);(case f8c=>k_is);(case f8k=>k_is)
  (case f9a=>k_is);(case f9l=>k_is);(case f9c=>k_is);(case f9k=>k_is)
  (case f10a=>k_is);(case f10l=>k_is);(case f10c=>k_is);(case f10k=>k_is)
  (case f11a=>k_is);(case f11l=>k_is);(case f11c=>k_is);(case f11k=>k_is)
  (case f12a=>k_is);(case f12l=>k_is);(case f12c=>k_is);(case f12k=>k_is)
  (case f13a=>k_is);(case f13l=>k_is);(case f13c=>k_is);(case f13k=>k_is)
  (case f14a=>k_is);(case f14l=>k_is);(case f14c=>k_is);(case f14k=>k_is)
  (case f15a=>k_is);(case f15l=>k_is);(case f15c=>k_is);(case f15k=>k_is)
  (case f16a=>k_is);(case f16l=>k_is);(case f16c=>k_is);(case f16k=>k_is)
  (case f17a=>k_is);(case f17l=>k_is);(case f17c=>k_is);(case f17k=>k_is)
  (case f18a=>k_is);(case f18l=>k_is);(case f18c=>k_is);(case f18k=>k_is)
  (case f19a=>k_is);(case f19l=>k_is);(case f19c=>k_is);(case f19k=>k_is)
  (case f20a=>k_is);(case f20l=>k_is);(case f20c=>k_is);(case f20k=>k_is)
  (case f21a=>k_is);(case f21l=>k_is);(case f21c=>k_is);(case f21k=>k_is)
  (case f22a=>k_is);(case f22l=>k_is);(case f22c=>k_is);(case f22k=>k_is)
  (case f23a=>k_is);(case f23l=>k_is);(case f23c=>k_is);(case f23k=>k_is)
  (case f24a=>k_is);(case f24l=>k_is);(case f24c=>k_is);(case f24k=>k_is)
  (case f25a=>k_is);(case f25l=>k_is);(case f25c=>k_is);(case f25k=>k_is)
  (case f26a=>k_is);(case f26l=>k_is);(case f26c=>k_is);(case f26k=>k_is)
  (case f27a=>k_is);(case f27l=>k_is);(case f27c=>k_is);(case f27k=>k_is)
  (case f28a=>k_is);(case f28l=>k_is);(case f28c=>k_is);(case f28k=>k_is)
  (case f29a=>k_is);(case f29l=>k_is);(case f29c=>k_is);(case f29k=>k_is)
  (case f30a=>k_is);(case f30l=>k_is);(case f30c=>k_is);(case f30k=>k_is)
  (case f31a=>k_is);(case f31l=>k_is);(case f31c=>k_is);(case f31k=>k_is)
  (case f32a=>k_is);(case f32l=>k_is);(case f32c=>k_is);(case f32k=>k_is)
  (case f33a=>k_is);(case f33l=>k_is);(case f33c=>k_is);(case f33k=>k_is)
  (case f34a=>k_is);(case f34l=>k_is);(case f34c=>k_is);(case f34k=>k_is)
  (case f35a=>k_is);(case f35l=>k_is);(case f35c=>k_is);(case f35k=>k_is)
  (case f36a=>k_is);(case f36l=>k_is);(case f36c=>k_is);(case f36k=>k_is)
  (case f37a=>k_is);(case f37l=>k_is);(case f37c=>k_is);(case f37k=>k_is)
  (case f38a=>k_is);(case f38l=>k_is);(case f38c=>k_is);(case f38k=>k_is)
  (case f39a=>k_is);(case f39l=>k_is);(case f39c=>k_is);(case f39k=>k_is)
  (case f40a=>k_is);(case f40l=>k_is);(case f40c=>k_is);(case f40k=>k_is)
  (case f41a=>k_is);(case f41l=>k_is);(case f41c=>k_is);(case f41k=>k_is)
  (case f42a=>k_is);(case f42l=>k_is);(case f42c=>k_is);(case f42k=>k_is)
  (case f43a=>k_is);(case f43l=>k_is);(case f43c=>k_is);(case f43k=>k_is)
  (case f44a=>k_is);(case f44l=>k_is);(case f44c=>k_is);(case f44k=>k_is)
  (case f45a=>k_is);(case f45l=>k_is);(case f45c=>k_is);(case f45k=>k_is)
  (case f46a=>k_is);(case f46l=>k_is);(case f46c=>k_is);(case f46k=>k_is)
  (case f47a=>k_is);(case f47l=>k_is);(case f47c=>k_is);(case f47k=>k_is)
  (case m0a=>k_is);(case m0i=>k_is);(case m0l=>k_is);(case m0c=>k_is);(case m0k=>k_is)
  (case m1a=>k_is);(case m1i=>k_is);(case m1l=>k_is);(case m1c=>k_is);(case m1k=>k_is)
  (case m2a=>k_is);(case m2i=>k_is);(case m2l=>k_is);(case m2c=>k_is);(case m2k=>k_is)
  (case m3a=>k_is);(case m3i=>k_is);(case m3l=>k_is);(case m3c=>k_is);(case m3k=>k_is)
  (case m4a=>k_is);(case m4i=>k_is);(case m4l=>k_is);(case m4c=>k_is);(case m4k=>k_is)
  (case m5a=>k_is);(case m5i=>k_is);(case m5l=>k_is);(case m5c=>k_is);(case m5k=>k_is)
  (case m6a=>k_is);(case m6i=>k_is);(case m6l=>k_is);(case m6c=>k_is);(case m6k=>k_is)
  (case m7a=>k_is);(case m7i=>k_is);(case m7l=>k_is);(case m7c=>k_is);(case m7k=>k_is)
  (case m8a=>k_is);(case m8i=>k_is);(case m8l=>k_is);(case m8c=>k_is);(case m8k=>k_is)
  (case m9a=>k_is);(case m9i=>k_is);(case m9l=>k_is);(case m9c=>k_is);(case m9k=>k_is)
  (case m10a=>k_is);(case m10i=>k_is);(case m10l=>k_is);(case m10c=>k_is);(case m10k=>k_is)
  (case m11a=>k_is);(case m11i=>k_is);(case m11l=>k_is);(case m11c=>k_is);(case m11k=>k_is)
  (case m12a=>k_is);(case m12i=>k_is);(case m12l=>k_is);(case m12c=>k_is);(case m12k=>k_is)
  (case m13a=>k_is);(case m13i=>k_is);(case m13l=>k_is);(case m13c=>k_is);(case m13k=>k_is)
  (case al=>k_is);(case ll=>k_is);(case cl=>k_is);(case kl=>k_is);(case ah=>k_is);(case lh=>k_is);(case hcd=>k_is);(case kh=>k_is);(case h1=>kernel_rfl);(case xP=>k_exc);(case ar=>k_is);(case ir=>k_is);(case lr=>k_is);(case rcd=>k_is);(case kr=>k_is);(case h2=>kernel_rfl);(case c8_=>k_is);(case c9_=>k_is);(case c10_=>k_is);(case c11_=>k_is);(case wpg=>k_is);(case whd=>k_is);(case wpo=>k_is);(case wsa=>k_is);(case wmk=>k_is);(case wkc=>k_is);(case wn0=>k_is);(case wn1=>k_is);(case wn2=>k_is);(case gpg=>k_is);(case ghd=>k_is);(case gpo=>k_is);(case gsa=>k_is);(case gmk=>k_is);(case gkc=>k_is);(case gn0=>k_is);(case gn1=>k_is);(case gn2=>k_is);(case spg=>k_is);(case shd=>k_is);(case spo=>k_is);(case ssa=>k_is);(case smk=>k_is);(case skc=>k_is);(case sn0=>k_is);(case sn1=>k_is);(case sn2=>k_is);(case sn3=>k_is);(case iha=>k_is);(case ihn=>k_is);(case itk=>k_is);(case imo=>k_is);(case z0=>k_is);(case z1=>k_is);(case z2=>k_is);(case z3=>k_is);(case z4=>k_is);(case z5=>k_is);(case z6=>k_is);(case z7=>k_is);(case z8=>k_is);(case z9=>k_is);(case z10=>k_is);(case z11=>k_is);(case z12=>k_is);(case z13=>k_is);(case z14=>k_is);(case z15=>k_is)
  case' rm=>refine' PySem.W.mg_of KX G ?rmn
  (first|(case rmn=>k_is)|(case rm=>k_is))
  (case rl=>k_is)
  (case rs=>rfl)
  (case re=>rfl)
  (case u0=>k_is);(case u1=>k_is);(case u2=>k_is);(case u3=>k_is);(case u4=>k_is);(case u5=>k_is);(case u6=>k_is);(case u7=>k_is);(case u8=>k_is);(case u9=>k_is);(case u10=>k_is);(case u11=>k_is);(case u12=>k_is);(case u13=>k_is);(case u14=>k_is);(case u15=>k_is);(case u16=>k_is)

import PyProof.Rows.All
import Wide.All
import OpenK.AllK
import Wide.FinOn
import Lean
import PyProof.EqAt
import PyProof.EqKinds
import PyProof.TupleCall
import PyProof.FitsReplace
import KE.KLam
import KE.KSortTup
import PySem.Challenge.RW_evenpieces_k29_what_shares_give
set_option Elab.async false
set_option linter.all false
set_option maxRecDepth 100000
abbrev F__:=PySem.W.Frag
theorem aa':type_of% @List.length_map:=@List.length_map
theorem ab':type_of% @List.getElem?_eq_some_iff:=@List.getElem?_eq_some_iff
theorem ac':type_of% @List.mem_of_getElem?:=@List.mem_of_getElem?
theorem ad':type_of% @List.mem_map:=@List.mem_map
theorem ae':type_of% @List.getElem?_eq_getElem:=@List.getElem?_eq_getElem
theorem af':type_of% @List.mem_cons_of_mem:=@List.mem_cons_of_mem
theorem ag':type_of% @Nat.le_refl:=@Nat.le_refl
theorem ah':type_of% @List.mem_cons_self:=@List.mem_cons_self
theorem ai':type_of% @List.size_toArray:=@List.size_toArray
theorem aj':type_of% @List.mem_cons:=@List.mem_cons
theorem ak':type_of% @List.length_take:=@List.length_take
theorem al':type_of% @List.map_map:=@List.map_map
theorem am':type_of% @List.map_append:=@List.map_append
theorem an':type_of% @List.getElem?_map:=@List.getElem?_map
theorem ao':type_of% @List.map_cons:=@List.map_cons
theorem ap':type_of% @List.take_length:=@List.take_length
theorem aq':type_of% @List.length_append:=@List.length_append
theorem ar':type_of% @Bool.false_ne_true:=@Bool.false_ne_true
theorem au':type_of% @Nat.ne_of_lt:=@Nat.ne_of_lt
theorem av':type_of% @Nat.lt_of_lt_of_le:=@Nat.lt_of_lt_of_le
theorem aw':type_of% @List.mem_append:=@List.mem_append
theorem ax':type_of% @List.mem_append_right:=@List.mem_append_right
theorem ay':type_of% @List.nodup_iff_pairwise_ne:=@List.nodup_iff_pairwise_ne
theorem az':type_of% @List.map_congr_left:=@List.map_congr_left
theorem aA':type_of% @List.append_nil:=@List.append_nil
theorem aB':type_of% @List.take_add_one:=@List.take_add_one
theorem aC':type_of% @List.length_cons:=@List.length_cons
theorem aD':type_of% @Nat.zero_le:=@Nat.zero_le
theorem aE':type_of% @Int.eq_ofNat_of_zero_le:=@Int.eq_ofNat_of_zero_le
theorem aF':type_of% @List.pairwise_map:=@List.pairwise_map
theorem aG':type_of% @List.mem_singleton:=@List.mem_singleton
theorem aH':type_of% @Array.length_toList:=@Array.length_toList
theorem aI':type_of% @List.nodup_cons:=@List.nodup_cons
theorem aJ':type_of% @List.length_replicate:=@List.length_replicate
theorem aK':type_of% @List.getElem_of_mem:=@List.getElem_of_mem
theorem aL':type_of% @List.take_of_length_le:=@List.take_of_length_le
theorem aM':type_of% @List.mem_filterMap:=@List.mem_filterMap
theorem aN':type_of% @List.mem_filter:=@List.mem_filter
theorem aO':type_of% @List.length_filter_le:=@List.length_filter_le
theorem aP':type_of% @List.lookup_cons:=@List.lookup_cons
theorem aQ':type_of% @List.getElem?_append_right:=@List.getElem?_append_right
theorem aR':type_of% @Bool.false_eq_true:=@Bool.false_eq_true
theorem aS':type_of% @List.getElem?_append_left:=@List.getElem?_append_left
theorem aT':type_of% @List.filter_append:=@List.filter_append
theorem aU':type_of% @Nat.le_trans:=@Nat.le_trans
theorem aV':type_of% @List.not_mem_nil:=@List.not_mem_nil
theorem aW':type_of% @Option.map_eq_some_iff:=@Option.map_eq_some_iff
theorem aX':type_of% @List.filter_sublist:=@List.filter_sublist
theorem aY':type_of% @List.pairwise_cons:=@List.pairwise_cons
theorem aZ':type_of% @Array.append_empty:=@Array.append_empty
theorem a0':type_of% @Bool.false_and:=@Bool.false_and
theorem a1':type_of% @List.map_nil:=@List.map_nil
theorem a2':type_of% @List.length_nil:=@List.length_nil
theorem a3':type_of% @Nat.lt_irrefl:=@Nat.lt_irrefl
theorem a4':type_of% @Nat.ne_of_gt:=@Nat.ne_of_gt
namespace L2
open PySem PySem.Spec PyProof.Rows
abbrev Key:=Sum Int Str
def cl':Key->Value->Bool
 |.inl k,v=>Value.isInt k v
 |.inr x,v=>Value.isStrOf x v
def keyH(w:World):Key->Int
 |.inl k=>hashInt k
 |.inr x=>hashStr w x
theorem ay_:∀{k:Key} {v:Value},cl' k v=true->(∃i t,k=Sum.inl i/\v=Value.int i t)∨(∃x t,k=Sum.inr x/\v=Value.str x t)
 |.inl i,v,h=>by
  obtain⟨t,e⟩:=Value.isInt_shape (k:=i) (v:=v) h;exact .inl ⟨i,t,rfl,e⟩
 |.inr x,v,h=>by
  obtain⟨t,e⟩:=Value.isStrOf_shape (x:=x) (v:=v) h;exact .inr ⟨x,t,rfl,e⟩
theorem hd_(i:Int)(t:Tok):cl' (.inl i) (.int i t)=true:=by simp[cl',Value.isInt]
theorem gB_(x:Str)(t:Tok):cl' (.inr x) (.str x t)=true:=by simp[cl',Value.isStrOf]
theorem k4_(a b:Int):decide ((Sum.inl a:Key)=Sum.inl b)=(a == b):=by
 by_cases e:a=b
 ·subst e;simp
 ·have h:¬(Sum.inl a:Key)=Sum.inl b:=fun q=>e (Sum.inl.inj q);rw[decide_eq_false h];exact (beq_eq_false_iff_ne.mpr e).symm
theorem k3_(a b:Str):decide ((Sum.inr a:Key)=Sum.inr b)=decide (a=b):=by
 by_cases e:a=b
 ·subst e;simp
 ·have h:¬(Sum.inr a:Key)=Sum.inr b:=fun q=>e (Sum.inr.inj q);rw[decide_eq_false h,decide_eq_false e]
theorem kg_(a:Int)(b:Str):decide ((Sum.inl a:Key)=Sum.inr b)=false:=decide_eq_false (fun q=>nomatch q)
theorem kf_(a:Str)(b:Int):decide ((Sum.inr a:Key)=Sum.inl b)=false:=decide_eq_false (fun q=>nomatch q)
def a9'(prog:Program)(w:World):PySem.KeyKind prog w Key where
 is:=cl'
 hash:=keyH w
 inj:=fun v a b ha hb=>by
  rcases ay_ ha with⟨i,t,rfl,rfl⟩|⟨x,t,rfl,rfl⟩
  ·rcases ay_ hb with⟨j,u,rfl,e⟩|⟨y,u,rfl,e⟩
   ·injection e with e1 _;rw[e1]
   ·exact nomatch e
  ·rcases ay_ hb with⟨j,u,rfl,e⟩|⟨y,u,rfl,e⟩
   ·exact nomatch e
   ·injection e with e1 _;rw[e1]
 byValue:=fun k v h=>by
  rcases ay_ h with⟨i,t,rfl,rfl⟩|⟨x,t,rfl,rfl⟩<;>rfl
 pyHash:=fun hv h=>by
  rcases ay_ hv with⟨i,t,rfl,rfl⟩|⟨x,t,rfl,rfl⟩
  ·exact wpAny_pyHash_int h
  ·exact wpAny_pyHash_str h
 eqBool:=fun hu hv h=>by
  rcases ay_ hu with⟨i,t,rfl,rfl⟩|⟨x,t,rfl,rfl⟩
  ·rcases ay_ hv with⟨j,u,rfl,rfl⟩|⟨y,u,rfl,rfl⟩
   ·rw[k4_] at h;exact wpAny_eqBool_int h
   ·rw[kg_] at h;exact SeqAt.EqAt.int_str i t y u _ _ _ _ h
  ·rcases ay_ hv with⟨j,u,rfl,rfl⟩|⟨y,u,rfl,rfl⟩
   ·rw[kf_] at h;exact SeqAt.EqAt.str_int x t j u _ _ _ _ h
   ·rw[k3_] at h;exact wpAny_eqBool_str h
 «strs»:=fun k x t v h=>by
  rcases ay_ h with⟨i,u,rfl,e⟩|⟨y,u,rfl,e⟩
  ·exact nomatch e
  ·injection e with e1 _
   subst e1;cases v<;>rfl
theorem eC_(prog:Program)(w:World)(i:Int)(t:Tok):(a9' prog w).is (.inl i) (.int i t)=true:=hd_ i t
theorem bN_(prog:Program)(w:World)(x:Str)(t:Tok):(a9' prog w).is (.inr x) (.str x t)=true:=gB_ x t
end L2
namespace L2
open PySem PySem.Spec PyProof.Rows
inductive V where
 |non|bl (b:Bool)|int (i:Int)|str (x:Str)|byt (b:Array UInt8)|flt (b:UInt64)|ref (a:Addr)|ty (n:String)
 deriving DecidableEq
def RelV:V->Value->Prop
 |.non,u=>u=Value.none
 |.bl b,u=>u=Value.bool b
 |.int i,u=>∃t,u=Value.int i t
 |.str x,u=>∃t,u=Value.str x t
 |.byt b,u=>∃t,u=Value.bytes b t
 |.flt b,u=>∃t,u=Value.float b t
 |.ref a,u=>u=Value.ref a
 |.ty n,u=>u=Value.type n
abbrev Vals:List V->List Value->Prop:=Paired RelV
theorem Vals.length{xs:List V}{us:List Value}(r:Vals xs us):xs.length=us.length:=Paired.length r
theorem Vals.get:∀{xs:List V} {us:List Value} {i:Nat} {x:V},Vals xs us->xs[i]? = some x->∃u,us[i]? = some u/\RelV x u
 |_,_,_,_,.nil,e=>by simp at e
 |_,_,0,_,.cons r _,e=>by simp at e;subst e;exact⟨_,rfl,r⟩
 |_,_,i+1,x,.cons _ t,e=>by
  obtain⟨u,h1,h2⟩:=Vals.get (i:=i) (x:=x) t (by simpa using e);exact⟨u,by simpa using h1,h2⟩
theorem Vals.set{x:V}{u:Value}(r:RelV x u):∀{xs:List V} {us:List Value} (i:Nat),Vals xs us->Vals (xs.set i x) (us.set i u)
 |_,_,_,.nil=>.nil
 |_,_,0,.cons _ t=>.cons r t
 |_,_,i+1,.cons q t=>.cons q (Vals.set r i t)
theorem Vals.append:∀{xs ys:List V} {us ws:List Value},Vals xs us->Vals ys ws->Vals (xs++ys) (us++ws)
 |_,_,_,_,.nil,s=>s
 |_,_,_,_,.cons r t,s=>.cons r (Vals.append t s)
theorem Vals.take:∀{xs:List V} {us:List Value} (n:Nat),Vals xs us->Vals (xs.take n) (us.take n)
 |_,_,0,_=>.nil
 |_,_,_+1,.nil=>.nil
 |_,_,n+1,.cons r t=>.cons r (Vals.take n t)
theorem Vals.drop:∀{xs:List V} {us:List Value} (n:Nat),Vals xs us->Vals (xs.drop n) (us.drop n)
 |_,_,0,r=>r
 |_,_,_+1,.nil=>.nil
 |_,_,n+1,.cons _ t=>Vals.drop n t
def RelO:Option V->Option Value->Prop
 |some v,some u=>RelV v u
 |none,none=>True
 |_,_=>False
def KV{κ:Type}:List (κ × V)->List (κ × Value)->Prop:=Paired fun(p:κ × V) (q:κ × Value)=>p.1=q.1/\RelV p.2 q.2
def kV:Key->V
 |.inl i=>.int i
 |.inr x=>.str x
inductive HO where
  |lst (xs:List V)
  |tup (xs:List V)
  |dK (kvs:List (Key × V))|dT (kvs:List (List Key × V))
  |set (S:Int->Bool) (n:Nat)
  |ins (C dx:Addr) (fs:List (Str × V))
  |own (x:Addr)
  |xd (fs:List (Str × V))
  |met (f x:Addr)
  |rng (lo hi:Int)
  |frz (o:Obj) (u:HO)
  |tbl (ps:Array Value)
  |ext (φ:Heap->Prop)
abbrev Hp:=Addr->Option HO
def upd(H:Hp)(a:Addr)(o:HO):Hp:=fun b=>if b=a then some o else H b
theorem a1_{H:Hp}{a:Addr}{o:HO}:upd H a o a=some o:=by unfold upd;rw[if_pos rfl]
theorem a4_{H:Hp}{a b:Addr}{o:HO}(h:b≠a):upd H a o b=H b:=by unfold upd;rw[if_neg h]
theorem jq_{H:Hp}{a:Addr}{o u:HO}:upd (upd H a o) a u=upd H a u:=by
 funext b;unfold upd;split<;>rfl
theorem az_{H:Hp}{a b:Addr}{o u:HO}(h:H a=some o)(h':H b=some u)(d:o≠u):a≠b:=by
 intro e;subst e;rw[h] at h';exact d (Option.some.inj h')
theorem a6_{H:Hp}{a b:Addr}{o:HO}(h:H a=some o)(h':H b=none):a≠b:=by
 intro e;subst e;rw[h] at h';cases h'
section
variable(P:Program)(w:World)
def bh'(H:Hp)(h:Heap)(a:Addr):HO->Prop
 |.lst xs=>xs.length<=sizeLine/\∃(its:List Value) (n:Nat),Vals xs its/\h.get? a=some { cls:=.type "list",data:=.seq its.toArray n }
 |.tup xs=>xs.length<=sizeLine/\∃its:List Value,Vals xs its/\IsTup h a its.toArray/\∃o,h.get? a=some o/\o.dict=none
 |.dK kvs=>kvs.length<=sizeLine/\(a == sysModules)=false/\∃vs,KV kvs vs/\h.DictOf (a9' P w) a vs
 |.dT kvs=>kvs.length<=sizeLine/\(a == sysModules)=false/\∃xs:List (List Key × Addr × Value),
   Paired (fun(p:List Key × V) (q:List Key × Addr × Value)=>p.1=q.1/\H q.2.1=some (.tup (p.1.map kV))/\RelV p.2 q.2.2) kvs xs /\
   ∃o es ep,h.get? a=some o/\o.ExactDict/\o.data=.dict es ep/\es.toList=xs.map (entryOfKey (tupleKind (a9' P w)))/\(xs.map (·.1)).Nodup
 |.set S n=>h.SetOf (intKind P w) a S n
 |.ins C dx fs=>H dx=some (.own a)/\fs.length<=1000/\dx≠a/\h.get? a=some (PySem.W.instObj C dx) /\
   ∃mA,h.Ns1 dx mA/\(∀f,RelO (fs.lookup f) (mA f))/\PySem.Within mA (fs.map (·.1))
 |.own _=>∃o,h.get? a=some o
 |.xd fs=>∃mA,h.Ns1 a mA/\∀f,RelO (fs.lookup f) (mA f)
 |.rng lo hi=>∃t u v,h.get? a=some { cls:=.type "range",data:=.fields #[.int lo t,.int hi u,.int 1 v] }
 |.frz o u=>h.get? a=some o/\bh' H h a u
 |.tbl ps=>h.get? a=some { cls:=.none,data:=.fields ps }
 |.met f x=>h.get? a=some (PySem.W.methodObj (.ref f) (.ref x))
 |.ext φ=>φ h/\(∃o,h.get? a=some o)/\∀h1 h2:Heap,φ h1->(∀o,h1.get? a=some o->h2.get? a=some o)->φ h2
def HOk(H:Hp)(h:Heap):Prop:=∀a o,H a=some o->bh' P w H h a o
end
section
variable{P:Program}{w:World}{H H':Hp}{h h':Heap}{a:Addr}{o:HO}
theorem bh'.lt(x:bh' P w H h a o):a<h.objs.size:=by
 cases o with
 |lst xs=>obtain⟨_,_,_,_,e⟩:=x;exact Heap.lt_size e
 |tup xs=>obtain⟨_,_,_,p,_⟩:=x;exact p.lt
 |dK kvs=>obtain⟨_,_,_,_,o,_,_,e,_⟩:=x;exact Heap.lt_size e
 |dT kvs=>obtain⟨_,_,_,_,o,_,_,e,_⟩:=x;exact Heap.lt_size e
 |set S n=>obtain⟨o,_,_,_,e,_⟩:=x;exact Heap.lt_size e
 |ins C dx fs=>obtain⟨_,_,_,e,_⟩:=x;exact Heap.lt_size e
 |own y=>obtain⟨_,e⟩:=x;exact Heap.lt_size e
 |xd fs=>obtain⟨_,⟨_,_,_,e,_⟩,_⟩:=x;exact Heap.lt_size e
 |rng lo hi=>obtain⟨_,_,_,e⟩:=x;exact Heap.lt_size e
 |frz ob u=>obtain⟨e,_⟩:=x;exact Heap.lt_size e
 |tbl ps=>exact Heap.lt_size (show h.get? a=some _ from x)
 |met f y=>exact Heap.lt_size (show h.get? a=some _ from x)
 |ext φ=>obtain⟨_,⟨_,e⟩,_⟩:=x;exact Heap.lt_size e
theorem Paired.mapP{α β:Type}{F G:α->β->Prop}:∀{l₁:List α} {l₂:List β},Paired F l₁ l₂->(∀a b,F a b->G a b)->Paired G l₁ l₂
 |_,_,.nil,_=>.nil
 |_,_,.cons r t,f=>.cons (f _ _ r) (Paired.mapP t f)
theorem bh'.stay(x:bh' P w H h a o)(k:∀b u,(b=a∨H b=some (.own a))->h.get? b=some u->h'.get? b=some u)
  (ho:∀b,H b=some (.own a)->H' b=some (.own a)) (ht:∀b xs,H b=some (.tup xs)->H' b=some (.tup xs)):bh' P w H' h' a o:=by
 induction o with
 |lst xs=>obtain⟨z,its,n,r,e⟩:=x;exact⟨z,its,n,r,k _ _ (.inl rfl) e⟩
 |tup xs=>obtain⟨z,its,r,⟨ob,e,c⟩,o2,e2,c2⟩:=x;exact⟨z,its,r,⟨ob,k _ _ (.inl rfl) e,c⟩,o2,k _ _ (.inl rfl) e2,c2⟩
 |dK kvs=>obtain⟨z,y,vs,r,ob,es,ep,e,c⟩:=x;exact⟨z,y,vs,r,ob,es,ep,k _ _ (.inl rfl) e,c⟩
 |dT kvs=>
  obtain⟨z,y,xs,r,ob,es,ep,e,c⟩:=x;exact⟨z,y,xs,Paired.mapP r fun p q z=>⟨z.1,ht _ _ z.2.1,z.2.2⟩,ob,es,ep,k _ _ (.inl rfl) e,c⟩
 |set S n=>obtain⟨ob,es,ep,t,e,c⟩:=x;exact⟨ob,es,ep,t,k _ _ (.inl rfl) e,c⟩
 |ins C dx fs=>
  obtain⟨d,z,ne,e,mA,⟨od,es,ep,e2,c⟩,r⟩:=x;exact⟨ho _ d,z,ne,k _ _ (.inl rfl) e,mA,⟨od,es,ep,k _ _ (.inr d) e2,c⟩,r⟩
 |own y=>obtain⟨ob,e⟩:=x;exact⟨ob,k _ _ (.inl rfl) e⟩
 |xd fs=>obtain⟨mA,⟨od,es,ep,e,c⟩,r⟩:=x;exact⟨mA,⟨od,es,ep,k _ _ (.inl rfl) e,c⟩,r⟩
 |rng lo hi=>obtain⟨t,u,v,e⟩:=x;exact⟨t,u,v,k _ _ (.inl rfl) e⟩
 |frz ob u ih=>obtain⟨e,q⟩:=x;exact⟨k _ _ (.inl rfl) e,ih q⟩
 |tbl ps=>
  have e:h.get? a=some { cls:=.none,data:=.fields ps }:=x;show h'.get? a=some { cls:=.none,data:=.fields ps };exact k a _ (.inl rfl) e
 |met f y=>
  have e:h.get? a=some (PySem.W.methodObj (.ref f) (.ref y)):=x;show h'.get? a=some (PySem.W.methodObj (.ref f) (.ref y));exact k a _ (.inl rfl) e
 |ext φ=>obtain⟨p,⟨o,e⟩,st⟩:=x;exact⟨st _ _ p fun o q=>k _ _ (.inl rfl) q,⟨o,k _ _ (.inl rfl) e⟩,st⟩
theorem HOk.lt(x:HOk P w H h)(e:H a=some o):a<h.objs.size:=(x a o e).lt
theorem HOk.fresh(x:HOk P w H h)(e:h.objs.size<=a):H a=none:=by
 cases q:H a with
 |none=>rfl
 |some u=>exact absurd (av' (x.lt q) e) (a3' _)
theorem HOk.kept(x:HOk P w H h)(k:∀b u,h.get? b=some u->h'.get? b=some u):HOk P w H h':=fun a o e=>
 (x a o e).stay (fun b u _ q=>k b u q) (fun _ q=>q) fun _ _ q=>q
theorem HOk.laid(x:HOk P w H h)(k:∀b u,h.get? b=some u->h'.get? b=some u)(hp:h.objs.size<=a)(new:bh' P w (upd H a o) h' a o):HOk P w (upd H a o) h':=fun b u e=>by
 have hn:=x.fresh hp;by_cases hb:b=a
 ·subst hb;rw[a1_] at e;cases e;exact new
 ·rw[a4_ hb] at e;exact (x b u e).stay (fun c v _ q=>k c v q) (fun c q=>by rw[a4_ (a6_ q hn)];exact q) fun c xs q=>by rw[a4_ (a6_ q hn)];exact q
end
def Rd(H:Hp)(a:Addr)(u:HO):Prop:=H a=some u∨∃o,H a=some (.frz o u)
theorem Rd.ok{P:Program}{w:World}{H:Hp}{h:Heap}{a:Addr}{u:HO}(r:Rd H a u)(x:HOk P w H h):bh' P w H h a u:=by
 rcases r with r|⟨o,r⟩
 ·exact x a u r
 ·obtain⟨_,q⟩:=x a _ r;exact q
def Mut:Option HO->Prop
 |some (.lst _)=>True
 |some (.dK _)=>True
 |some (.dT _)=>True
 |some (.set _ _)=>True
 |some (.ins _ _ _)=>True
 |some (.ext _)=>True
 |_=>False
section
variable{P:Program}{w:World}{H:Hp}{h h':Heap}{x e:Addr}{o':HO}
theorem HOk.write(ok:HOk P w H h)(mu:Mut (H x))(he:e=x∨H e=some (.own x))(k:∀b u,b≠e->h.get? b=some u->h'.get? b=some u)(heo:∃u,h'.get? e=some u)
  (new:bh' P w (upd H x o') h' x o'):HOk P w (upd H x o') h':=fun b u q=>by
 have nown:∀c y,H c=some (.own y)->c≠x:=fun c y r z=>by subst z;rw[r] at mu;exact mu
 have ntup:∀c xs,H c=some (.tup xs)->c≠x:=fun c xs r z=>by subst z;rw[r] at mu;exact mu
 by_cases hb:b=x
 ·subst hb;rw[a1_] at q;cases q;exact new
 ·rw[a4_ hb] at q;by_cases hbe:b=e
  ·have q':H b=some (.own x):=by
    rcases he with z|z
    ·exact absurd (hbe.trans z) hb
    ·rw[hbe];exact z
   rw[q] at q';cases q';obtain⟨v,hv⟩:=heo;exact⟨v,by rw[hbe];exact hv⟩
  ·refine (ok b u q).stay (fun c v hc r=>k c v ?_ r) (fun c r=>by rw[a4_ (nown c b r)];exact r) fun c xs r=>by rw[a4_ (ntup c xs r)];exact r
   rcases hc with rfl|hc
   ·exact hbe
   ·rintro rfl;rcases he with z|z
    ·exact nown c b hc z
    ·rw[hc] at z;cases z;exact hb rfl
end
structure Un (fs ex:List Addr) (H H':Hp) (h h':Heap):Prop where
 keep:∀b o,h.get? b=some o->H b=none->b∉fs->b∉ex->h'.get? b=some o
 slot:∀b o,h.get? b=some o->H b=none->b∈fs->b∉ex->∃sl,h'.get? b=some { o with slots:=sl }
 free:∀b o,h.get? b=some o->H b=none->b∉ex->H' b=none
 there:∀b o,h.get? b=some o->b∉ex->∃o',h'.get? b=some o'
 tups:∀b xs,H b=some (.tup xs)->H' b=some (.tup xs)
 frzs:∀b o u,H b=some (.frz o u)->H' b=some (.frz o u)
 tbls:∀b ps,H b=some (.tbl ps)->∃more,H' b=some (.tbl (ps++more))
section
variable{fs fs' ex ex':List Addr}{H H1 H2:Hp}{h h1 h2 h':Heap}{a x e:Addr}{o:HO}
theorem Un.any(u:Un fs ex H H1 h h1){b:Addr}{ob:Obj}(q:h.get? b=some ob)(n:H b=none)(hx:b∉ex):∃sl,h1.get? b=some { ob with slots:=sl }:=by
 by_cases hb:b∈fs
 ·exact u.slot b ob q n hb hx
 ·exact⟨ob.slots,u.keep b ob q n hb hx⟩
theorem Un.kept(k:∀b u,h.get? b=some u->h'.get? b=some u):Un fs ex H H h h':=
 ⟨fun b ob q _ _ _=>k b ob q,fun b ob q _ _ _=>⟨ob.slots,k b ob q⟩,fun _ _ _ n _=>n,fun b ob q _=>⟨ob,k b ob q⟩,fun _ _ q=>q,fun _ _ _ q=>q,fun _ ps q=>⟨#[],by rw[q];simp⟩⟩
theorem Un.refl:Un fs ex H H h h:=Un.kept fun _ _ q=>q
theorem Un.laid(k:∀b u,h.get? b=some u->h'.get? b=some u)(hp:h.objs.size<=a)(hn:H a=none):Un fs ex H (upd H a o) h h' where
 keep:=fun b u q _ _ _=>k b u q
 slot:=fun b u q _ _ _=>⟨u.slots,k b u q⟩
 free:=fun b u q n _=>by rw[a4_ (au' (av' (Heap.lt_size q) hp))];exact n
 there:=fun b u q _=>⟨u,k b u q⟩
 tups:=fun b xs q=>by rw[a4_ (a6_ q hn)];exact q
 frzs:=fun b u xs q=>by rw[a4_ (a6_ q hn)];exact q
 tbls:=fun b ps q=>⟨#[],by rw[a4_ (a6_ q hn),q];simp⟩
theorem Un.write(mu:Mut (H x))(he:e=x∨H e=some (.own x))(k:∀b u,b≠e->h.get? b=some u->h'.get? b=some u)(heo:∃u,h'.get? e=some u):Un fs ex H (upd H x o) h h':=by
 have hx:∀b,H b=none->b≠x:=fun b n z=>by subst z;rw[n] at mu;exact mu
 have hb:∀b,H b=none->b≠e:=fun b n z=>by
  subst z;rcases he with r|r
  ·exact hx b n r
  ·rw[n] at r;cases r
 have hm:∀b u,H b=some u->¬Mut (some u)->b≠x:=fun b u q nm z=>by subst z;rw[q] at mu;exact nm mu
 refine⟨fun b u q n _ _=>k b u (hb b n) q,fun b u q n _ _=>⟨u.slots,k b u (hb b n) q⟩,fun b u q n _=>by rw[a4_ (hx b n)];exact n,fun b u q _=>?_,
  fun b xs q=>by rw[a4_ (hm b _ q fun z=>z)];exact q,fun b u xs q=>by rw[a4_ (hm b _ q fun z=>z)];exact q,fun b ps q=>⟨#[],by rw[a4_ (hm b _ q fun z=>z),q];simp⟩⟩
 by_cases hbe:b=e
 ·subst hbe;exact heo
 ·exact⟨u,k b u hbe q⟩
end
def trk(h:Heap)(H:Hp):List Addr:=(List.range h.objs.size).filter fun a=>(H a).isSome
def hidT(h:Heap)(H:Hp):Heap:=PySem.W.hideAll h (trk h H)
theorem ge_(h:Heap)(H:Hp):(hidT h H).objs.size=h.objs.size:=PySem.W.hideAll_size _ _
theorem hG_{h:Heap}{H:Hp}{b:Addr}{o:Obj}(e:h.get? b=some o)(n:H b=none):(hidT h H).get? b=some o:=
 PySem.W.hideAll_get _ e fun hm=>by
  have q:(H b).isSome=true:=(aN'.mp hm).2;rw[n] at q;simp at q
theorem jz_{h:Heap}{H:Hp}{b:Addr}{o:Obj}(e:(hidT h H).get? b=some o):h.get? b=some o/\H b=none:=by
 have e':h.get? b=some o:=PySem.W.of_hideAll (trk h H) e;refine⟨e',?_⟩;cases q:H b with
 |none=>rfl
 |some x=>
  have hm:b∈trk h H:=aN'.mpr ⟨List.mem_range.mpr (Heap.lt_size e'),by simp[q]⟩;have z:(hidT h H).get? b=none:=PySem.W.hideAll_none (trk h H) hm;rw[z] at e;cases e
end L2
namespace L2
open PySem PySem.Spec PyProof.Rows
structure Mod (K:F__) (mg:Str->Option Value) (base:Heap):Prop where
 kin:K.In base
 glob:base.Ns mainGlobals mg
 blt:∃mb,base.Ns builtinsNs mb/\∀x:Str,x≠"__name__"->mb x=bootBuiltins x
 nolimit:base.NoLimit
structure Cx where
 prog:Program
 w:World
 K:F__
 mg:Str->Option Value
 base:Heap
 A:Around
 N:List Str
 s₀:Shared
 H₀:Hp
 env:Env
 outer:List Env
 stack:List Env
 ex:List Addr
 fn:Str->Bool
 calm:Bool
 pn:List (Addr × Obj)
 xe:Value->Shared->Prop
def frs(l:List Env):List Addr:=l.filterMap (·.frame)
abbrev Cx.fs(X:Cx):List Addr:=frs X.outer
def Vis(sc:Scope)(x:Str):Prop:=sc.names.lookup x=some .local∨sc.names.lookup x=some .cell∨sc.names.lookup x=some .free
def Loc(sc:Scope)(x:Str):Prop:=sc.names.lookup x=some .local∨sc.names.lookup x=some .cell
def Look(env:Env)(h:Heap)(m:Str->Option Value)(x:Str)(u:Value):Prop:=
 (env.kindOf x=some .local/\m x=some u)∨((env.kindOf x=some .cell∨env.kindOf x=some .free)/\∃c,env.cells.lookup x=some c/\h.IsCell c (some u))
structure Cx.Ok (X:Cx):Prop where
 mod:Mod X.K X.mg X.base
 kind:X.env.scope.kind=.function
 glob:X.env.globals=mainGlobals
 blt:X.env.builtins=builtinsNs
 above:X.s₀.heap.objs.size<=X.env.locals
 inj:∀x y c,X.env.cells.lookup x=some c->X.env.cells.lookup y=some c->x=y
 has:∀x,(X.env.kindOf x=some .cell∨X.env.kindOf x=some .free)->∃c,X.env.cells.lookup x=some c
 cab:∀x c,X.fn x=true->X.env.cells.lookup x=some c->X.s₀.heap.objs.size<=c
 hd:X.calm=true->X.A.handled=none
 frames:X.A.frames=some X.stack
 stk:X.stack=X.outer∨(X.stack=X.env::X.outer/\X.env.frame=some X.env.locals)
 exf:∀b∈X.ex,b≠X.env.locals/\∀x c,X.env.cells.lookup x=some c->c≠b
 bs:∀b o,X.base.get? b=some o->X.s₀.heap.get? b=some o/\X.H₀ b=none
 bsz:X.base.objs.size<=X.s₀.heap.objs.size
 noex:∀b o,X.base.get? b=some o->b∉X.ex
 exfs:∀b∈X.ex,b∉X.fs
 funs:X.s₀.heap.FunFrames X.base X.outer
 frf:∀b∈X.fs,X.H₀ b=none
structure Inv (X:Cx) (pins:List (Addr × Obj)) (σ:List (Option V)) (H:Hp) (s:Shared):Prop where
 ok:X.Ok
 os:s.os=X.s₀.os
 bare:AllBare s.gens
 base:Un X.fs X.ex X.H₀ H X.s₀.heap s.heap
 loc:∃m,s.heap.Ns X.env.locals m/\∀(i:Nat) (x:Str) (v:V),X.N[i]? = some x->σ[i]? = some (some v)->Vis X.env.scope x->∃u,RelV v u/\Look X.env s.heap m x u
 cell:∀x c,X.env.cells.lookup x=some c->∃v,s.heap.IsCell c v
 free:H X.env.locals=none
 freeC:∀x c,X.env.cells.lookup x=some c->H c=none
 pin:∀p∈X.pn++pins,s.heap.get? p.1=some p.2/\H p.1=none/\p.1≠X.env.locals/\p.1∉X.fs/\∀v,p.2.data≠.cell v
 hok:HOk X.prog X.w H s.heap
 len:σ.length=X.N.length
section
variable{X:Cx}{pins:List (Addr × Obj)}{σ:List (Option V)}{H H':Hp}{s:Shared}{h':Heap}
theorem Cx.Ok.nofr(ok:X.Ok){b:Addr}{o:Obj}(e:X.base.get? b=some o):b∉X.fs:=fun hb=>by
 have:=(ok.funs.mem hb).1;rw[e] at this;cases this
theorem Inv.bs(I:Inv X pins σ H s):∀b o,X.base.get? b=some o->s.heap.get? b=some o/\H b=none:=fun b o e=>
 ⟨I.base.keep b o (I.ok.bs b o e).1 (I.ok.bs b o e).2 (I.ok.nofr e) (I.ok.noex b o e),I.base.free b o (I.ok.bs b o e).1 (I.ok.bs b o e).2 (I.ok.noex b o e)⟩
theorem Inv.bk(I:Inv X pins σ H s):∀b o,X.base.get? b=some o->s.heap.get? b=some o:=fun b o e=>(I.bs b o e).1
theorem Inv.mod(I:Inv X pins σ H s):Mod X.K X.mg X.base:=I.ok.mod
theorem Inv.kIn(I:Inv X pins σ H s):X.K.In s.heap:=I.ok.mod.kin.keeps I.bk
theorem Inv.lt(I:Inv X pins σ H s):X.env.locals<s.heap.objs.size:=let ⟨_,hn,_⟩:=I.loc;hn.lt
theorem Inv.sz(I:Inv X pins σ H s):X.s₀.heap.objs.size<=s.heap.objs.size:=aU' I.ok.above (Nat.le_of_lt I.lt)
theorem Inv.nofs(I:Inv X pins σ H s){a:Addr}(h:s.heap.objs.size<=a):a∉X.fs:=fun hb=>by
 obtain⟨_,o,ho,_⟩:=I.ok.funs.mem hb;exact absurd (av' (Heap.lt_size ho) (aU' I.sz h)) (a3' _)
theorem Inv.cne(I:Inv X pins σ H s):∀x c,X.env.cells.lookup x=some c->c≠X.env.locals:=fun x c e z=>by
 obtain⟨v,o,ho,hd⟩:=I.cell x c e;obtain⟨m,⟨o',es,ep,ho',hd',_⟩,_⟩:=I.loc;rw[z,ho'] at ho;cases ho;rw[hd'] at hd;cases hd
theorem Inv.funs(I:Inv X pins σ H s):s.heap.FunFrames X.base X.outer:=by
 have all:∀(l:List Env),(∀b∈frs l,b∈X.fs)->X.s₀.heap.FunFrames X.base l->s.heap.FunFrames X.base l:=by
  intro l
  induction l with
  |nil=>intro _ _;trivial
  |cons env r ih=>
   intro hs hl;obtain⟨hk,⟨L,o,hf,hn,ho,hd⟩,hr⟩:=hl;have hL:L∈X.fs:=hs L (by unfold frs;rw[List.filterMap_cons,hf];exact ah');obtain⟨sl,e⟩:=I.base.slot L o ho (I.ok.frf L hL) hL fun z=>I.ok.exfs L z hL;exact⟨hk,⟨L,_,hf,hn,e,hd⟩,ih (fun b hb=>hs b (by unfold frs;rw[List.filterMap_cons,hf];exact af' _ hb)) hr⟩
 exact all X.outer (fun _ hb=>hb) I.ok.funs
theorem Inv.stack(I:Inv X pins σ H s):s.heap.FunFrames X.base X.stack:=by
 rcases I.ok.stk with e|⟨e,hf⟩
 ·rw[e];exact I.funs
 ·rw[e];obtain⟨m,hn,_⟩:=I.loc;refine .cons (by rw[I.ok.kind];decide) hf hn ?_ I.funs;exact Heap.get?_none_of_le (aU' I.ok.bsz I.ok.above)
theorem Inv.stkSub(I:Inv X pins σ H s):∀b∈frs X.stack,b∈X.env.locals::X.fs:=fun b hb=>by
 rcases I.ok.stk with e|⟨e,hf⟩
 ·rw[e] at hb;exact af' _ hb
 ·rw[e] at hb;unfold frs at hb;rw[List.filterMap_cons,hf] at hb;exact hb
theorem Inv.stkFree(I:Inv X pins σ H s):∀b∈frs X.stack,H b=none:=fun b hb=>by
 rcases aj'.mp (I.stkSub b hb) with e|hb
 ·rw[e];exact I.free
 ·obtain⟨_,o,ho,_⟩:=I.ok.funs.mem hb;exact I.base.free b o ho (I.ok.frf b hb) fun z=>I.ok.exfs b z hb
theorem Inv.step{g':Array GenState}{t':Nat}{d':Drawn}{ch:List Addr}(I:Inv X pins σ H s)
  (hch:∀b∈ch,(b∈X.ex∨X.s₀.heap.objs.size<=b)/\b≠X.env.locals/\(∀x c,X.env.cells.lookup x=some c->c≠b)/\∀p∈X.pn++pins,p.1≠b)
  (keep:∀b o,b≠X.env.locals->b∉X.fs->b∉ch->s.heap.get? b=some o->H b=none->h'.get? b=some o)
  (slot:∀b o,b≠X.env.locals->b∈X.fs->b∉ch->s.heap.get? b=some o->H b=none->∃sl,h'.get? b=some { o with slots:=sl }) (free:∀b o,b∉ch->s.heap.get? b=some o->H b=none->H' b=none)
  (there:∀b o,b∉ch->s.heap.get? b=some o->∃o',h'.get? b=some o')
  (tups:∀b xs,H b=some (.tup xs)->H' b=some (.tup xs)) (frzs:∀b o u,H b=some (.frz o u)->H' b=some (.frz o u)) (tbls:∀b ps,H b=some (.tbl ps)->∃more,H' b=some (.tbl (ps++more)))
  (ns:∀m,s.heap.Ns X.env.locals m->h'.Ns X.env.locals m) (hok:HOk X.prog X.w H' h') (hg:AllBare g') :
  Inv X pins σ H' { s with heap:=h',gens:=g',drawn:=d',toks:=t' }:=by
 have neL:∀b o,X.s₀.heap.get? b=some o->b≠X.env.locals:=fun b o e=>au' (av' (Heap.lt_size e) I.ok.above)
 have neC:∀b o,X.s₀.heap.get? b=some o->b∉X.ex->b∉ch:=fun b o e hx hb=>by
  rcases (hch b hb).1 with z|z
  ·exact hx z
  ·exact absurd (av' (Heap.lt_size e) z) (a3' _)
 have cellK:∀x c,X.env.cells.lookup x=some c->∀v,s.heap.IsCell c v->h'.IsCell c v:=fun x c e v ⟨o,ho,hd⟩=>by
  have nch:c∉ch:=fun z=>(hch c z).2.2.1 x c e rfl;by_cases hc:c∈X.fs
  ·obtain⟨sl,q⟩:=slot c o (I.cne x c e) hc nch ho (I.freeC x c e);exact⟨_,q,hd⟩
  ·exact⟨o,keep c o (I.cne x c e) hc nch ho (I.freeC x c e),hd⟩
 refine⟨I.ok,I.os,hg,⟨fun b o e n hb hx=>?_,fun b o e n hb hx=>?_,fun b o e n hx=>?_,fun b o e hx=>?_,fun b xs e=>tups b xs (I.base.tups b xs e),fun b o xs e=>frzs b o xs (I.base.frzs b o xs e),fun b ps e=>?_⟩,?_,fun x c e=>?_,?_,fun x c e=>?_,fun p hp=>?_,hok,I.len⟩
 ·exact keep b o (neL b o e) hb (neC b o e hx) (I.base.keep b o e n hb hx) (I.base.free b o e n hx)
 ·obtain⟨sl,e1⟩:=I.base.slot b o e n hb hx;obtain⟨sl',e2⟩:=slot b _ (neL b o e) hb (neC b o e hx) e1 (I.base.free b o e n hx);exact⟨sl',e2⟩
 ·obtain⟨o',e1⟩:=I.base.there b o e hx;exact free b o' (neC b o e hx) e1 (I.base.free b o e n hx)
 ·obtain⟨o',e1⟩:=I.base.there b o e hx;exact there b o' (neC b o e hx) e1
 ·obtain⟨m1,e1⟩:=I.base.tbls b ps e;obtain⟨m2,e2⟩:=tbls b _ e1;exact⟨m1++m2,by rw[e2,Array.append_assoc]⟩
 ·obtain⟨m,hn,hl⟩:=I.loc;refine⟨m,ns m hn,fun i x v e1 e2 e3=>?_⟩;obtain⟨u,r,l⟩:=hl i x v e1 e2 e3;refine⟨u,r,?_⟩;rcases l with l|⟨k,c,e,z⟩
  ·exact .inl l
  ·exact .inr ⟨k,c,e,cellK x c e _ z⟩
 ·obtain⟨v,z⟩:=I.cell x c e;exact⟨v,cellK x c e v z⟩
 ·obtain⟨m,⟨o,_,_,ho,_⟩,_⟩:=I.loc;exact free _ o (fun z=>(hch _ z).2.1 rfl) ho I.free
 ·obtain⟨v,o,ho,hd⟩:=I.cell x c e;exact free c o (fun z=>(hch c z).2.2.1 x c e rfl) ho (I.freeC x c e)
 ·obtain⟨e,n,ne,nf,d⟩:=I.pin p hp;have nch:p.1∉ch:=fun z=>(hch p.1 z).2.2.2 p hp rfl;exact⟨keep p.1 p.2 ne nf nch e n,free p.1 p.2 nch e n,ne,nf,d⟩
theorem Inv.un{t':Nat}(I:Inv X pins σ H s)(u:Un X.fs [] H H' s.heap h')(hok:HOk X.prog X.w H' h'):Inv X pins σ H' { s with heap:=h',toks:=t' }:=by
 obtain⟨m,⟨o,es,ep,ho,r⟩,_⟩:=id I.loc;obtain⟨sl,hL⟩:=u.any ho I.free (by simp)
 exact I.step (g':=s.gens) (d':=s.drawn) (ch:=[]) (fun _ z=>nomatch z) (fun b o _ hb _ e n=>u.keep b o e n hb (by simp)) (fun b o _ hb _ e n=>u.slot b o e n hb (by simp)) (fun b o _ e n=>u.free b o e n (by simp)) (fun b o _ e=>u.there b o e (by simp)) u.tups u.frzs u.tbls (fun m' hm=>by
  obtain⟨o',es',ep',ho',r'⟩:=hm;rw[ho] at ho';cases ho';exact⟨_,es',ep',hL,r'⟩) hok I.bare
theorem Inv.call{g':Array GenState}{t':Nat}{d':Drawn}{ch:List Addr}(I:Inv X pins σ H s)(u:Un (frs X.stack) ch H H' s.heap h')(hok:HOk X.prog X.w H' h')(hg:AllBare g')
  (hch:∀b∈ch,(b∈X.ex∨X.s₀.heap.objs.size<=b)/\b≠X.env.locals/\(∀x c,X.env.cells.lookup x=some c->c≠b)/\∀p∈X.pn++pins,p.1≠b) :
  Inv X pins σ H' { s with heap:=h',gens:=g',drawn:=d',toks:=t' }:=by
 obtain⟨m,⟨o,es,ep,ho,r⟩,_⟩:=id I.loc;obtain⟨sl,hL⟩:=u.any ho I.free fun z=>(hch _ z).2.1 rfl
 exact I.step (ch:=ch) hch (fun b o hL hb hc e n=>u.keep b o e n (fun z=>(aj'.mp (I.stkSub b z)).elim hL hb) hc) (fun b o _ _ hc e n=>u.any e n hc) (fun b o hc e n=>u.free b o e n hc) (fun b o hc e=>u.there b o e hc) u.tups u.frzs u.tbls (fun m' hm=>by
  obtain⟨o',es',ep',ho',r'⟩:=hm;rw[ho] at ho';cases ho';exact⟨_,es',ep',hL,r'⟩) hok hg
theorem Inv.turned{t':Nat}{it:Addr}(I:Inv X pins σ H s)(k:∀b o,b≠it->s.heap.get? b=some o->h'.get? b=some o)(hn:H it=none)(hL:it≠X.env.locals)
  (h1:it∈X.ex∨X.s₀.heap.objs.size<=it) (h2:∀x c,X.env.cells.lookup x=some c->c≠it) (h3:∀p∈X.pn++pins,p.1≠it):Inv X pins σ H { s with heap:=h',toks:=t' }:=by
 have nit:∀b u,H b=some u->b≠it:=fun b u e z=>by rw[z,hn] at e;cases e
 refine I.step (g':=s.gens) (d':=s.drawn) (ch:=[it]) (fun b hb=>?_) (fun b o _ _ hc e _=>k b o (fun z=>hc (by simp[z])) e) (fun b o _ _ hc e _=>⟨o.slots,k b o (fun z=>hc (by simp[z])) e⟩) (fun _ _ _ _ n=>n)
  (fun b o hc e=>⟨o,k b o (fun z=>hc (by simp[z])) e⟩) (fun _ _ e=>e) (fun _ _ _ e=>e) (fun b ps e=>⟨#[],by rw[e];simp⟩) (fun m hm=>?_) (fun b u e=>?_) I.bare
 ·have e:b=it:=by simpa using hb
  subst e;exact⟨h1,hL,h2,h3⟩
 ·obtain⟨o,es,ep,ho,r⟩:=hm;exact⟨o,es,ep,k _ o (Ne.symm hL) ho,r⟩
 ·refine (I.hok b u e).stay (fun c v hc q=>k c v ?_ q) (fun _ q=>q) fun _ _ q=>q;rcases hc with z|z
  ·rw[z];exact nit b u e
  ·exact nit c _ z
theorem Inv.tok(I:Inv X pins σ H s)(t:Nat):Inv X pins σ H { s with toks:=t }:=I.un (h':=s.heap) (t':=t) Un.refl I.hok
theorem Inv.kept{t':Nat}(I:Inv X pins σ H s)(k:∀b u,s.heap.get? b=some u->h'.get? b=some u):Inv X pins σ H { s with heap:=h',toks:=t' }:=I.un (Un.kept k) (I.hok.kept k)
theorem Inv.laid{a:Addr}{o:HO}{t':Nat}(I:Inv X pins σ H s)(k:∀b u,s.heap.get? b=some u->h'.get? b=some u)(hp:s.heap.objs.size<=a)(new:bh' X.prog X.w (upd H a o) h' a o) :
  Inv X pins σ (upd H a o) { s with heap:=h',toks:=t' }:=I.un (Un.laid k hp (I.hok.fresh hp)) (I.hok.laid k hp new)
theorem Inv.write{x e:Addr}{o:HO}{t':Nat}(I:Inv X pins σ H s)(mu:Mut (H x))(he:e=x∨H e=some (.own x))(k:∀b u,b≠e->s.heap.get? b=some u->h'.get? b=some u)(heo:∃u,h'.get? e=some u)
  (new:bh' X.prog X.w (upd H x o) h' x o):Inv X pins σ (upd H x o) { s with heap:=h',toks:=t' }:=I.un (Un.write mu he k heo) (I.hok.write mu he k heo new)
theorem Inv.pins_of{pins':List (Addr × Obj)}(I:Inv X pins σ H s)(h:∀p∈pins',s.heap.get? p.1=some p.2/\H p.1=none/\p.1≠X.env.locals/\p.1∉X.fs/\∀v,p.2.data≠.cell v):Inv X pins' σ H s:=
 ⟨I.ok,I.os,I.bare,I.base,I.loc,I.cell,I.free,I.freeC,fun p hp=>(aw'.mp hp).elim (fun z=>I.pin p (List.mem_append_left _ z)) (h p),I.hok,I.len⟩
theorem eN_{N:List Str}(hN:N.Nodup){i j:Nat}{x:Str}(a:N[i]? = some x)(b:N[j]? = some x):i=j:=by
 obtain⟨h1,e1⟩:=ab'.mp a;obtain⟨h2,e2⟩:=ab'.mp b;exact (List.getElem_inj hN).mp (e1.trans e2.symm)
theorem dW_{M:Model}{A:Around}{E:Value->Shared->Prop}{i:Nat}{x:Str}{v:V}{u:Value}{Q:Unit->Shared->Prop}(I:Inv X pins σ H s)(hN:X.N.Nodup)(hi:X.N[i]? = some x)(hx:Loc X.env.scope x)(r:RelV v u)
  (h:∀s',Inv X pins (σ.set i (some v)) H s'->(∃a,Heap.SameBut a s.heap s'.heap/\(a=X.env.locals∨X.env.cells.lookup x=some a))->Q () s') (hf:X.fn x=true∨X.env.scope.names.lookup x=some .local:=by first|exact .inl rfl|exact .inr rfl|assumption):wpAny M A (storeName X.env x u) Q E s:=by
 obtain⟨m,hn,hl⟩:=id I.loc;have hcls:(X.env.scope.kind == .class || (X.env.scope.kind == .module&&X.env.locals != X.env.globals))=false:=by rw[I.ok.kind];rfl
 have hiσ:i<σ.length:=by rw[I.len];exact (ab'.mp hi).1
 have cne:=I.cne
 have tracked:∀{a:Addr} {h':Heap},(∃o,s.heap.get? a=some o/\H a=none)->Heap.SameBut a s.heap h'->HOk X.prog X.w H h':=fun {a h'} ha hs b ob e=>by
  obtain⟨_,_,hfree⟩:=ha;refine (I.hok b ob e).stay (fun c w' hc q=>(hs.2 c ?_).trans q) (fun _ q=>q) fun _ _ q=>q;rintro rfl;rcases hc with rfl|hc
  ·rw[hfree] at e;cases e
  ·rw[hfree] at hc;cases hc
 rcases hx with hk|hk
 ·refine wpAny_storeName_local hk hn (fun h' hn' hs=>?_) hcls;obtain⟨oL,_,_,hoL,_⟩:=id hn;refine h _ ⟨I.ok,I.os,I.bare,⟨fun b o e n hb hx=>?_,fun b o e n hb hx=>?_,I.base.free,fun b o e hx=>?_,I.base.tups,I.base.frzs,I.base.tbls⟩,⟨_,hn',fun j y v' e1 e2 e3=>?_⟩,fun y c e=>?_,I.free,I.freeC,fun p hp=>?_,tracked ⟨oL,hoL,I.free⟩ hs,by simpa using I.len⟩ ⟨_,hs,.inl rfl⟩
  ·exact (hs.2 b (au' (av' (Heap.lt_size e) I.ok.above))).trans (I.base.keep b o e n hb hx)
  ·obtain⟨sl,e1⟩:=I.base.slot b o e n hb hx;exact⟨sl,(hs.2 b (au' (av' (Heap.lt_size e) I.ok.above))).trans e1⟩
  ·obtain⟨o',e1⟩:=I.base.there b o e hx;exact⟨o',(hs.2 b (au' (av' (Heap.lt_size e) I.ok.above))).trans e1⟩
  ·by_cases hj:j=i
   ·subst hj;rw[hi] at e1;cases e1;rw[List.getElem?_set_self hiσ] at e2;cases e2;exact⟨u,r,.inl ⟨hk,by simp⟩⟩
   ·rw[List.getElem?_set_ne (Ne.symm hj)] at e2;obtain⟨u',r',q⟩:=hl j y v' e1 e2 e3;refine⟨u',r',?_⟩;rcases q with⟨k,e⟩|⟨k,c,e,z⟩
    ·refine .inl ⟨k,?_⟩;have:y≠x:=fun e=>hj (eN_ hN e1 (e▸hi));simp[this,e]
    ·exact .inr ⟨k,c,e,z.sameBut hs (cne y c e)⟩
  ·obtain⟨w',z⟩:=I.cell y c e;exact⟨w',z.sameBut hs (cne y c e)⟩
  ·obtain⟨e,n,ne,nf,d⟩:=I.pin p hp;exact⟨(hs.2 p.1 ne).trans e,n,ne,nf,d⟩
 ·have hfn:X.fn x=true:=by
   rcases hf with z|z
   ·exact z
   ·rw[z] at hk;cases hk
  obtain⟨c,hc⟩:=I.ok.has x (.inl hk);obtain⟨w',z⟩:=I.cell x c hc;refine wpAny_storeName_cell I.ok.kind hk hc z (fun h' hc' hs=>?_);obtain⟨oc,hoc,hocd⟩:=id z;refine h { s with heap:=h' } ⟨I.ok,I.os,I.bare,⟨fun b o e n hb hx=>?_,fun b o e n hb hx=>?_,I.base.free,fun b o e hx=>?_,I.base.tups,I.base.frzs,I.base.tbls⟩,⟨m,hn.sameBut hs (Ne.symm (cne x c hc)),fun j y v' e1 e2 e3=>?_⟩,fun y c' e=>?_,I.free,I.freeC,fun p hp=>?_,tracked ⟨oc,hoc,I.freeC x c hc⟩ hs,by simpa using I.len⟩ ⟨c,hs,.inr hc⟩
  ·exact (hs.2 b (au' (av' (Heap.lt_size e) (I.ok.cab x c hfn hc)))).trans (I.base.keep b o e n hb hx)
  ·obtain⟨sl,e1⟩:=I.base.slot b o e n hb hx;exact⟨sl,(hs.2 b (au' (av' (Heap.lt_size e) (I.ok.cab x c hfn hc)))).trans e1⟩
  ·obtain⟨o',e1⟩:=I.base.there b o e hx;exact⟨o',(hs.2 b (au' (av' (Heap.lt_size e) (I.ok.cab x c hfn hc)))).trans e1⟩
  ·by_cases hj:j=i
   ·subst hj;rw[hi] at e1;cases e1;rw[List.getElem?_set_self hiσ] at e2;cases e2;exact⟨u,r,.inr ⟨.inl hk,c,hc,hc'⟩⟩
   ·rw[List.getElem?_set_ne (Ne.symm hj)] at e2;obtain⟨u',r',q⟩:=hl j y v' e1 e2 e3;refine⟨u',r',?_⟩;rcases q with q|⟨k,c',e,z'⟩
    ·exact .inl q
    ·refine .inr ⟨k,c',e,z'.sameBut hs ?_⟩;rintro rfl;exact hj (eN_ hN e1 (I.ok.inj _ _ _ e hc▸hi))
  ·by_cases hcc:c'=c
   ·subst hcc;exact⟨_,hc'⟩
   ·obtain⟨w2,z2⟩:=I.cell y c' e;exact⟨w2,z2.sameBut hs hcc⟩
  ·obtain⟨e,n,ne,nf,d⟩:=I.pin p hp;refine⟨(hs.2 p.1 ?_).trans e,n,ne,nf,d⟩;intro q;rw[q,hoc] at e;have q':oc=p.2:=Option.some.inj e;exact d w' (by rw[<- q'];exact hocd)
theorem eQ_{M:Model}{A:Around}{E:Value->Shared->Prop}{i:Nat}{x:Str}{v:V}{u:Value}{Q:Unit->Shared->Prop}(I:Inv X pins σ H s)(hN:X.N.Nodup)(hi:X.N[i]? = some x)(hx:Loc X.env.scope x)(r:RelV v u)
  (h:∀s',Inv X pins (σ.set i (some v)) H s'->Q () s') (hf:X.fn x=true∨X.env.scope.names.lookup x=some .local:=by first|exact .inl rfl|exact .inr rfl|assumption):wpAny M A (storeName X.env x u) Q E s:=
 dW_ I hN hi hx r (fun s' I' _=>h s' I') hf
theorem Inv.call'{s':Shared}{ch:List Addr}(I:Inv X pins σ H s)(ho:s'.os=s.os)(u:Un (frs X.stack) ch H H' s.heap s'.heap)(hok:HOk X.prog X.w H' s'.heap)(hg:AllBare s'.gens)
  (hch:∀b∈ch,(b∈X.ex∨X.s₀.heap.objs.size<=b)/\b≠X.env.locals/\(∀x c,X.env.cells.lookup x=some c->c≠b)/\∀p∈X.pn++pins,p.1≠b):Inv X pins σ H' s':=by
 obtain⟨h',g',d',t',o'⟩:=s';have e:o'=s.os:=ho;subst e;exact I.call (g':=g') (t':=t') (d':=d') u hok hg hch
end
abbrev XK:=Value->Option Addr->Hp->Prop
abbrev St:=List (Option V)
abbrev VK:=V->Hp->Prop
abbrev TE:=St->Hp->VK->Prop
abbrev TT:=St->Hp->(Bool->Hp->Prop)->Prop
abbrev TA:=St->Hp->(List V->Hp->Prop)->Prop
structure Ends where
 nx:St->Hp->Prop
 rt:VK
 bk:St->Hp->Prop:=fun _ _=>False
 ct:St->Hp->Prop:=fun _ _=>False
abbrev TS:=Ends->St->Hp->Prop
def EP(X:Cx)(pins:List (Addr × Obj))(σ:St)(Q:VK)(u:Value)(s':Shared):Prop:=∃v H',Inv X pins σ H' s'/\RelV v u/\Q v H'
def TP(X:Cx)(pins:List (Addr × Obj))(σ:St)(Q:Bool->Hp->Prop)(b:Bool)(s':Shared):Prop:=∃H',Inv X pins σ H' s'/\Q b H'
def AP(X:Cx)(pins:List (Addr × Obj))(σ:St)(Q:List V->Hp->Prop)(us:List Value)(s':Shared):Prop:=∃vs H',Inv X pins σ H' s'/\Vals vs us/\Q vs H'
def SP(X:Cx)(pins:List (Addr × Obj))(D:Ends)(f:Flow)(s':Shared):Prop:=
 match f with
 |.next=>∃σ' H',Inv X pins σ' H' s'/\D.nx σ' H'
 |.brk=>∃σ' H',Inv X pins σ' H' s'/\D.bk σ' H'
 |.cont=>∃σ' H',Inv X pins σ' H' s'/\D.ct σ' H'
 |.ret u=>∃v σ' H',Inv X pins σ' H' s'/\RelV v u/\D.rt v H'
def PE(X:Cx)(e:Expr)(t:TE):Prop:=
 ∀(pins:List (Addr × Obj)) (s:Shared) (σ:St) (H:Hp) (Q:VK),Inv X pins σ H s->t σ H Q->wpAny (model X.prog X.w) X.A (eval e X.env) (EP X pins σ Q) X.xe s
def PT(X:Cx)(e:Expr)(t:TT):Prop:=
 ∀(pins:List (Addr × Obj)) (s:Shared) (σ:St) (H:Hp) (Q:Bool->Hp->Prop),Inv X pins σ H s->t σ H Q->wpAny (model X.prog X.w) X.A (isTrue e X.env (eval e X.env)) (TP X pins σ Q) X.xe s
def PW(X:Cx)(e:Expr)(t:TT):Prop:=
 ∀(whole:Sem Value) (pins:List (Addr × Obj)) (s:Shared) (σ:St) (H:Hp) (Q:Bool->Hp->Prop),Inv X pins σ H s->t σ H Q->wpAny (model X.prog X.w) X.A (isTrue e X.env whole) (TP X pins σ Q) X.xe s
theorem PW.pt{X:Cx}{e:Expr}{t:TT}(h:PW X e t):PT X e t:=h _
def PA(X:Cx)(es:List Expr)(t:TA):Prop:=
 ∀(pos:Pos) (pins:List (Addr × Obj)) (s:Shared) (σ:St) (H:Hp) (Q:List V->Hp->Prop),Inv X pins σ H s->t σ H Q->wpAny (model X.prog X.w) X.A (spliced (backTo pos (starEach es X.env))) (AP X pins σ Q) X.xe s
def PS(X:Cx)(st:Stmt)(t:TS):Prop:=
 ∀(pins:List (Addr × Obj)) (s:Shared) (σ:St) (H:Hp) (D:Ends),Inv X pins σ H s->t D σ H->wpAny (model X.prog X.w) X.A (exec st X.env) (SP X pins D) X.xe s
def PSs(X:Cx)(st:List Stmt)(t:TS):Prop:=
 ∀(pins:List (Addr × Obj)) (s:Shared) (σ:St) (H:Hp) (D:Ends),Inv X pins σ H s->t D σ H->wpAny (model X.prog X.w) X.A (execs st X.env) (SP X pins D) X.xe s
theorem thn{α:Type}{t:Sem α}{Q Q':α->Shared->Prop}{M:Model}{A:Around}{E:Value->Shared->Prop}{s:Shared}(h:wpAny M A t Q E s)(hQ:∀a s,Q a s->Q' a s):wpAny M A t Q' E s:=wpAny_mono h hQ fun _ _ x=>x
end L2
namespace L2
open PySem PySem.Spec PyProof.Rows
section
variable{X:Cx}
def tVar(i:Nat):TE:=fun σ H Q=>∃v,σ[i]? = some (some v)/\Q v H
def tC(v:V):TE:=fun _ H Q=>Q v H
theorem kq_{i:Nat}{x:Str}{pos:Pos}(hN:X.N[i]? = some x)(hv:Vis X.env.scope x)(hd:(x == ("__debug__":Str))=false:=by decide)(hcd:(x == ("__classdict__":Str))=false:=by decide):PE X (.Name x pos) (tVar i):=by
 intro pins s σ H Q I h;obtain⟨v,e,h⟩:=h;obtain⟨m,hn,hl⟩:=I.loc;obtain⟨u,r,l⟩:=hl i x v hN e hv;have fin:EP X pins σ Q u s:=⟨v,H,I,r,h⟩;rcases l with⟨hk,hm⟩|⟨hk,c,hc,hcell⟩
 ·exact wpAny_Name (wpAny_loadName_local I.ok.kind hk hn hm fin) hd
 ·rcases hk with hk|hk
  ·exact wpAny_Name (wpAny_loadName_cell I.ok.kind hk hc hcell fin) hd
  ·exact wpAny_Name (wpAny_loadName_free I.ok.kind hk hc hcell fin hcd) hd
theorem a7_{i j pos}:PE X (.Constant (.int i) j pos) (tC (.int i)):=fun _ _ _ H _ I h=>wpAny_Constant_int ⟨.int i,H,I.tok _,⟨_,rfl⟩,h⟩
theorem dJ_{b j pos}:PE X (.Constant (.bool b) j pos) (tC (.bl b)):=fun _ _ _ H _ I h=>Constant_bool ⟨.bl b,H,I,rfl,h⟩
theorem dZ_{j pos}:PE X (.Constant .none j pos) (tC .non):=fun _ _ _ H _ I h=>Constant_none ⟨.non,H,I,rfl,h⟩
theorem au_{x j pos}:PE X (.Constant (.str x) j pos) (tC (.str x)):=fun _ _ _ H _ I h=>Calls.Constant_str ⟨.str x,H,I.tok _,⟨_,rfl⟩,h⟩
def Gl(X:Cx)(x:Str):Prop:=X.env.kindOf x=some .globalImplicit
theorem di_{E:Value->Shared->Prop}{pins:List (Addr × Obj)}{s:Shared}{σ:St}{H:Hp}{x:Str}{u:Value}{pos:Pos}{Q:Value->Shared->Prop}(I:Inv X pins σ H s)(hg:Gl X x)(hm:X.mg x=some u)(h:Q u s)
  (hd:(x == ("__debug__":Str))=false:=by decide):wpAny (model X.prog X.w) X.A (eval (.Name x pos) X.env) Q E s:=
 Calls.Name_function_global I.ok.kind hg (Calls.loadGlobal_global (by rw[I.ok.glob];exact I.mod.glob.keeps I.bk) hm h) hd
theorem d5_{E:Value->Shared->Prop}{pins:List (Addr × Obj)}{s:Shared}{σ:St}{H:Hp}{x:Str}{u:Value}{pos:Pos}{Q:Value->Shared->Prop}(I:Inv X pins σ H s)(hg:Gl X x)(hm:X.mg x=none)(hv:bootBuiltins x=some u)(h:Q u s)
  (hn:x≠"__name__":=by decide) (hd:(x == ("__debug__":Str))=false:=by decide):wpAny (model X.prog X.w) X.A (eval (.Name x pos) X.env) Q E s:=by
 obtain⟨mb,h1,h2⟩:=I.mod.blt;exact Calls.Name_function_global I.ok.kind hg (Calls.loadGlobal_builtin (by rw[I.ok.glob];exact I.mod.glob.keeps I.bk) hm (by rw[I.ok.blt];exact h1.keeps I.bk) ((h2 x hn).trans hv) h) hd
theorem bM_{x:Str}{v:V}{u:Value}{pos:Pos}(hg:Gl X x)(hm:X.mg x=some u)(r:RelV v u)(hd:(x == ("__debug__":Str))=false:=by decide):PE X (.Name x pos) (tC v):=
 fun _ _ _ H _ I h=>di_ I hg hm ⟨v,H,I,r,h⟩ hd
theorem b5_{x:Str}{v:V}{u:Value}{pos:Pos}(hg:Gl X x)(hm:X.mg x=none)(hv:bootBuiltins x=some u)(r:RelV v u)(hn:x≠"__name__":=by decide)(hd:(x == ("__debug__":Str))=false:=by decide):PE X (.Name x pos) (tC v):=
 fun _ _ _ H _ I h=>d5_ I hg hm hv ⟨v,H,I,r,h⟩ hn hd
variable{a b:Expr}{ta tb:TE}{pos:Pos}
def PC(X:Cx)(op:CmpOp)(a b:Expr)(t:TE):Prop:=
 ∀(pins:List (Addr × Obj)) (s:Shared) (σ:St) (H:Hp) (Q:VK),Inv X pins σ H s->t σ H Q->
  wpAny (model X.prog X.w) X.A (eval a X.env) (fun v s₁=>wpAny (model X.prog X.w) X.A (eval b X.env) (fun u s₂=>wpAny (model X.prog X.w) X.A (compareOp op v u) (EP X pins σ Q) X.xe s₂) X.xe s₁) X.xe s
theorem nobehind(b:Expr){op:CmpOp}(h:op≠.In)(h2:op≠.NotIn):behindInMarks op b=false:=by
 have e1:(op == CmpOp.In)=false:=by cases op<;>first|rfl|exact absurd rfl h
 have e2:(op == CmpOp.NotIn)=false:=by cases op<;>first|rfl|exact absurd rfl h2
 cases b<;>simp[behindInMarks,e1,e2]
def tIsN(ta:TE):TE:=fun σ H Q=>ta σ H fun x H1=>Q (.bl (decide (x=.non))) H1
theorem RelV.none_iff{x:V}{v:Value}(r:RelV x v):(v == Value.none)=decide (x=.non):=by
 cases x with
 |non=>cases r;rfl
 |bl _=>cases r;rfl
 |int _=>obtain⟨t,rfl⟩:=r;rfl
 |str _=>obtain⟨t,rfl⟩:=r;rfl
 |byt _=>obtain⟨t,rfl⟩:=r;rfl
 |flt _=>obtain⟨t,rfl⟩:=r;rfl
 |ref _=>cases r;rfl
 |ty _=>cases r;rfl
theorem fh_{j pos'}(ha:PE X a ta):PC X .Is a (.Constant .none j pos') (tIsN ta):=by
 intro pins s σ H Q I h;refine thn (ha pins s σ H _ I h) fun v s1 ⟨x,H1,I1,r1,q1⟩=>?_;exact Constant_none (is_none_gen ⟨.bl _,H1,I1,by rw[r1.none_iff];rfl,q1⟩)
def tB(t:TE):TT:=fun σ H Q=>t σ H fun x H1=>∃c,x=.bl c/\Q c H1
theorem dM_{op:CmpOp}{t:TE}(h:PC X op a b t)(h1:behindInMarks op b=false:=by first|exact nobehind _ (by decide) (by decide)|rfl):PE X (.Compare a [op] [b] pos) t:=fun pins s σ H Q I hw=>wpAny_Compare1 (h pins s σ H Q I hw) h1
theorem ce_{op:CmpOp}{t:TE}(h:PC X op a b t)(h1:behindInMarks op b=false:=by first|exact nobehind _ (by decide) (by decide)|rfl):PT X (.Compare a [op] [b] pos) (tB t):=by
 intro pins s σ H Q I hw;refine wpAny_isTrue_Compare1 (thn (h pins s σ H _ I hw) fun v s1 h1=>thn h1 fun u s2 h2=>thn h2 fun c s3 ⟨x,H1,I1,r1,q1⟩=>?_) h1;obtain⟨d,rfl,q⟩:=q1;cases r1;exact wpAny_truthy_bool ⟨H1,I1,q⟩
theorem aK_{e:Expr}{t:TE}(h:PE X e t)(he:∀whole,isTrue e X.env whole=(do let v <- whole;standAt e.pos;holding [v] (truthy v)):=by intro _;rfl):PT X e (tB t):=by
 intro pins s σ H Q I hw;refine isTrue_plain (thn (h pins s σ H _ I hw) fun v s1 ⟨x,H1,I1,r1,q1⟩=>?_) (he _);obtain⟨d,rfl,q⟩:=q1;cases r1;exact wpAny_truthy_bool ⟨H1,I1,q⟩
variable{tA tB':TT}{rest:List Expr}
def tAnd(t u:TT):TT:=fun σ H Q=>t σ H fun c H1=>if c=true then u σ H1 Q else Q false H1
def tOr(t u:TT):TT:=fun σ H Q=>t σ H fun c H1=>if c=true then Q true H1 else u σ H1 Q
def tNot(t:TT):TT:=fun σ H Q=>t σ H fun c H1=>Q (!c) H1
theorem du_(ha:PT X a tA):PW X (.BoolOp .And [a] pos) tA:=by
 intro wh pins s σ H Q I h;refine isTrue_and (thn (ha pins s σ H Q I h) fun c s1 e=>?_);cases c with
 |true=>exact isTrue_and_nil e
 |false=>exact e
theorem cd_(ha:PT X a tA):PW X (.BoolOp .Or [a] pos) tA:=by
 intro wh pins s σ H Q I h;refine isTrue_or (thn (ha pins s σ H Q I h) fun c s1 e=>?_);cases c with
 |false=>exact isTrue_or_nil e
 |true=>exact e
theorem dV_(ha:PT X a tA)(hb:PW X (.BoolOp .And (b::rest) pos) tB'):PW X (.BoolOp .And (a::b::rest) pos) (tAnd tA tB'):=by
 intro wh pins s σ H Q I h;refine isTrue_and (thn (ha pins s σ H _ I h) fun c s1 ⟨H1,I1,q1⟩=>?_);cases c with
 |true=>exact hb wh pins s1 σ H1 Q I1 q1
 |false=>exact⟨H1,I1,q1⟩
theorem e1_(ha:PT X a tA)(hb:PW X (.BoolOp .Or (b::rest) pos) tB'):PW X (.BoolOp .Or (a::b::rest) pos) (tOr tA tB'):=by
 intro wh pins s σ H Q I h;refine isTrue_or (thn (ha pins s σ H _ I h) fun c s1 ⟨H1,I1,q1⟩=>?_);cases c with
 |true=>exact⟨H1,I1,q1⟩
 |false=>exact hb wh pins s1 σ H1 Q I1 q1
theorem aI_(ha:PT X a tA):PT X (.UnaryOp .Not a pos) (tNot tA):=by
 intro pins s σ H Q I h;exact isTrue_not (ha pins s σ H (fun c H1=>Q (!c) H1) I h)
def tAndV(ta tb:TE):TE:=fun σ H Q=>ta σ H fun x H1=>∃c,x=.bl c/\if c=true then tb σ H1 Q else Q (.bl false) H1
def tOrV(ta tb:TE):TE:=fun σ H Q=>ta σ H fun x H1=>∃c,x=.bl c/\if c=true then Q (.bl true) H1 else tb σ H1 Q
def tNotV(ta:TE):TE:=fun σ H Q=>ta σ H fun x H1=>∃c,x=.bl c/\Q (.bl (!c)) H1
theorem bj_{op}{t:TE}(h:PE X a t):PE X (.BoolOp op [a] pos) t:=fun pins s σ H Q I hw=>BoolOp_one (h pins s σ H Q I hw)
theorem bu_(ha:PE X a ta)(hb:PE X (.BoolOp .And (b::rest) pos) tb):PE X (.BoolOp .And (a::b::rest) pos) (tAndV ta tb):=by
 intro pins s σ H Q I h;refine BoolOp_and (thn (ha pins s σ H _ I h) fun v s1 ⟨x,H1,I1,r1,q1⟩=>?_);obtain⟨c,rfl,q1⟩:=q1;cases r1;refine wpAny_truthy_bool ?_;cases c with
 |true=>exact hb pins s1 σ H1 Q I1 q1
 |false=>exact⟨.bl false,H1,I1,rfl,q1⟩
theorem i8_(ha:PE X a ta)(hb:PE X (.BoolOp .Or (b::rest) pos) tb):PE X (.BoolOp .Or (a::b::rest) pos) (tOrV ta tb):=by
 intro pins s σ H Q I h;refine BoolOp_or (thn (ha pins s σ H _ I h) fun v s1 ⟨x,H1,I1,r1,q1⟩=>?_);obtain⟨c,rfl,q1⟩:=q1;cases r1;refine wpAny_truthy_bool ?_;cases c with
 |false=>exact hb pins s1 σ H1 Q I1 q1
 |true=>exact⟨.bl true,H1,I1,rfl,q1⟩
theorem jY_(ha:PE X a ta):PE X (.UnaryOp .Not a pos) (tNotV ta):=by
 intro pins s σ H Q I h;refine UnaryOp_ (thn (ha pins s σ H _ I h) fun v s1 ⟨x,H1,I1,r1,q1⟩=>?_);obtain⟨c,rfl,q1⟩:=q1;cases r1;exact not_of (wpAny_truthy_bool ⟨.bl (!c),H1,I1,rfl,q1⟩)
def tIf(t:TT)(ta tb:TE):TE:=fun σ H Q=>t σ H fun c H1=>if c=true then ta σ H1 Q else tb σ H1 Q
theorem hN_{c:Expr}(hc:PT X c tA)(ha:PE X a ta)(hb:PE X b tb):PE X (.IfExp c a b pos) (tIf tA ta tb):=by
 intro pins s σ H Q I h;refine wpAny_IfExp (thn (hc pins s σ H _ I h) fun d s1 ⟨H1,I1,q1⟩=>?_);cases d with
 |true=>exact ha pins s1 σ H1 Q I1 q1
 |false=>exact hb pins s1 σ H1 Q I1 q1
end
end L2
namespace L2
open PySem PySem.Spec PyProof.Rows
def SqL(K:F__)(H:Hp)(a:Addr)(xs:List V):Prop:=
 Rd H a (.lst xs) ∨
  ∃(o:Obj) (its:Array Value) (n:Nat),K.lookup a=some o/\o.cls=.type "list"/\o.dict=none/\o.data=.seq its n/\its.size<=sizeLine/\Vals xs its.toList
def SqT(K:F__)(H:Hp)(a:Addr)(xs:List V):Prop:=
 Rd H a (.tup xs) ∨
  ∃(o:Obj) (its:Array Value) (n:Nat),K.lookup a=some o/\o.cls=.type "tuple"/\o.data=.seq its n/\its.size<=sizeLine/\Vals xs its.toList
def absV:Value->Option V
 |.none=>some .non
 |.bool b=>some (.bl b)
 |.int i _=>some (.int i)
 |.str x _=>some (.str x)
 |.bytes b _=>some (.byt b)
 |.float b _=>some (.flt b)
 |.ref a=>some (.ref a)
 |.type n=>some (.ty n)
 |_=>none
theorem RelV.abs{x:V}{u:Value}(r:RelV x u):absV u=some x:=by
 cases x with
 |non=>cases r;rfl
 |bl _=>cases r;rfl
 |int _=>obtain⟨t,rfl⟩:=r;rfl
 |str _=>obtain⟨t,rfl⟩:=r;rfl
 |byt _=>obtain⟨t,rfl⟩:=r;rfl
 |flt _=>obtain⟨t,rfl⟩:=r;rfl
 |ref _=>cases r;rfl
 |ty _=>cases r;rfl
theorem RelV.inj{x y:V}{u:Value}(r:RelV x u)(q:RelV y u):x=y:=Option.some.inj (r.abs.symm.trans q.abs)
theorem Vals.inj:∀{xs ys:List V} {us:List Value},Vals xs us->Vals ys us->xs=ys
 |_,_,_,.nil,.nil=>rfl
 |_,_,_,.cons r t,.cons r' t'=>by rw[r.inj r',Vals.inj t t']
section
variable{X:Cx}{pins:List (Addr × Obj)}{σ:St}{H:Hp}{s:Shared}{a:Addr}{xs ys:List V}
theorem SqL.of{K:F__}(h:H a=some (.lst xs)):SqL K H a xs:=.inl (.inl h)
theorem SqT.of{K:F__}(h:H a=some (.tup xs)):SqT K H a xs:=.inl (.inl h)
theorem Inv.list(I:Inv X pins σ H s)(h:SqL X.K H a xs):∃its:List Value,Vals xs its/\PlainL s.heap a its.toArray/\xs.length<=sizeLine:=by
 rcases h with h|⟨o,its,n,hk,hc,hd,hs,hz,r⟩
 ·obtain⟨z,its,n,r,e⟩:=h.ok I.hok;exact⟨its,r,⟨_,n,e,rfl,rfl,rfl⟩,z⟩
 ·refine⟨its.toList,r,⟨o,n,I.kIn a o hk,hc,hd,by simpa using hs⟩,?_⟩;have e:=r.length;simp only[aH'] at e;omega
theorem Inv.tuple(I:Inv X pins σ H s)(h:SqT X.K H a xs):∃its:List Value,Vals xs its/\IsTup s.heap a its.toArray/\xs.length<=sizeLine:=by
 rcases h with h|⟨o,its,n,hk,hc,hs,hz,r⟩
 ·obtain⟨z,its,r,p,_⟩:=h.ok I.hok;exact⟨its,r,p,z⟩
 ·refine⟨its.toList,r,⟨o,I.kIn a o hk,hc,n,by simpa using hs⟩,?_⟩;have e:=r.length;simp only[aH'] at e;omega
theorem Inv.list_inj(I:Inv X pins σ H s)(h:SqL X.K H a xs)(h':SqL X.K H a ys):xs=ys:=by
 obtain⟨its,r,⟨o,n,e,_,_,d⟩,_⟩:=I.list h;obtain⟨its',r',⟨o',n',e',_,_,d'⟩,_⟩:=I.list h';rw[e] at e';cases e';rw[d] at d'
 injection d' with d1 _
 have:its=its':=by simpa using congrArg Array.toList d1
 subst this;exact r.inj r'
theorem Inv.tuple_inj(I:Inv X pins σ H s)(h:SqT X.K H a xs)(h':SqT X.K H a ys):xs=ys:=by
 obtain⟨its,r,⟨o,e,_,n,d⟩,_⟩:=I.tuple h;obtain⟨its',r',⟨o',e',_,n',d'⟩,_⟩:=I.tuple h';rw[e] at e';cases e';rw[d] at d'
 injection d' with d1 _
 have:its=its':=by simpa using congrArg Array.toList d1
 subst this;exact r.inj r'
end
abbrev Cx.wish(X:Cx)(E:Value->Shared->Prop):Cx:={ X with xe:=E }
abbrev Cx.nox(X:Cx):Cx:=X.wish fun _ _=>False
theorem Cx.Ok.wish{X:Cx}(ok:X.Ok)(E:Value->Shared->Prop):(X.wish E).Ok:=
 ⟨ok.mod,ok.kind,ok.glob,ok.blt,ok.above,ok.inj,ok.has,ok.cab,ok.hd,ok.frames,ok.stk,ok.exf,ok.bs,ok.bsz,ok.noex,ok.exfs,ok.funs,ok.frf⟩
theorem Cx.Ok.unwish{X:Cx}{E:Value->Shared->Prop}(ok:(X.wish E).Ok):X.Ok:=
 ⟨ok.mod,ok.kind,ok.glob,ok.blt,ok.above,ok.inj,ok.has,ok.cab,ok.hd,ok.frames,ok.stk,ok.exf,ok.bs,ok.bsz,ok.noex,ok.exfs,ok.funs,ok.frf⟩
section
variable{X:Cx}{pins:List (Addr × Obj)}{σ:St}{H:Hp}{s:Shared}{E:Value->Shared->Prop}
theorem Inv.wish(I:Inv X pins σ H s)(E:Value->Shared->Prop):Inv (X.wish E) pins σ H s:=⟨I.ok.wish E,I.os,I.bare,I.base,I.loc,I.cell,I.free,I.freeC,I.pin,I.hok,I.len⟩
theorem Inv.unwish(I:Inv (X.wish E) pins σ H s):Inv X pins σ H s:=⟨I.ok.unwish,I.os,I.bare,I.base,I.loc,I.cell,I.free,I.freeC,I.pin,I.hok,I.len⟩
theorem SP.unwish{D:Ends}{f:Flow}{s':Shared}(h:SP (X.wish E) pins D f s'):SP X pins D f s':=by
 cases f with
 |next=>obtain⟨σ',H',I,q⟩:=h;exact⟨σ',H',I.unwish,q⟩
 |brk=>obtain⟨σ',H',I,q⟩:=h;exact⟨σ',H',I.unwish,q⟩
 |cont=>obtain⟨σ',H',I,q⟩:=h;exact⟨σ',H',I.unwish,q⟩
 |ret u=>obtain⟨v,σ',H',I,r,q⟩:=h;exact⟨v,σ',H',I.unwish,r,q⟩
theorem PSs.nox{st:List Stmt}{t:TS}(h:PSs X.nox st t):PSs X st t:=fun pins s σ H D I hw=>
 wpAny_mono (h pins s σ H D (I.wish _) hw) (fun _ _ q=>q.unwish) fun _ _ z=>False.elim z
end
section
variable{X:Cx}{st:Stmt}{rest:List Stmt}{t u:TS}{e:Expr}{te:TE}{pos:Pos}
def tNext:TS:=fun D σ H=>D.nx σ H
def tSeq(t u:TS):TS:=fun D σ H=>t { D with nx:=u D } σ H
theorem ae_:PSs X [] tNext:=fun _ _ σ H _ I h=>wpAny_execs_nil ⟨σ,H,I,h⟩
theorem a2_(h1:PS X st t)(h2:PSs X rest u):PSs X (st::rest) (tSeq t u):=by
 intro pins s σ H D I h;refine wpAny_execs_cons (thn (h1 pins s σ H { D with nx:=u D } I h) fun f s1 q=>?_);cases f with
 |next=>
  obtain⟨σ',H',I',q⟩:=q;exact h2 pins s1 σ' H' D I' q
 |ret v=>exact q
 |brk=>exact q
 |cont=>exact q
theorem a5_(h1:PS X st t):PSs X [st] t:=by
 intro pins s σ H D I h;refine wpAny_execs_cons (thn (h1 pins s σ H D I h) fun f s1 q=>?_);cases f with
 |next=>exact wpAny_execs_nil q
 |ret v=>exact q
 |brk=>exact q
 |cont=>exact q
theorem Inv.quiet{pins:List (Addr × Obj)}{σ:St}{H:Hp}{s:Shared}(I:Inv X pins σ H s):interactive X.env=false:=by simp[interactive,I.ok.kind]
def tDrop(te:TE):TS:=fun D σ H=>te σ H fun _ H1=>D.nx σ H1
theorem b7_(he:PE X e te)(hs:swapsWith e none pos.line X.env=pure false:=by rfl):PS X (.Expr e pos) (tDrop te):=by
 intro pins s σ H D I h;exact wpAny_Expr_any (thn (he pins s σ H _ I h) fun v s1 ⟨x,H1,I1,r1,q1⟩=>⟨σ,H1,I1,q1⟩) I.quiet hs
def tRet(te:TE):TS:=fun D σ H=>te σ H D.rt
theorem ab_(he:PE X e te):PS X (.Return (some e) pos) (tRet te):=by
 intro pins s σ H D I h;exact wpAny_Return_some (thn (he pins s σ H _ I h) fun v s1 ⟨x,H1,I1,r1,q1⟩=>⟨x,σ,H1,I1,r1,q1⟩)
def tIfS(c:TT)(t u:TS):TS:=fun D σ H=>c σ H fun b H1=>if b=true then t D σ H1 else u D σ H1
theorem aC_{c:Expr}{a b:List Stmt}{tc:TT}(hc:PT X c tc)(ha:PSs X a t)(hb:PSs X b u):PS X (.If c a b pos) (tIfS tc t u):=by
 intro pins s σ H D I h;refine wpAny_If (thn (hc pins s σ H _ I h) fun d s1 ⟨H1,I1,q1⟩=>?_);cases d with
 |true=>exact ha pins s1 σ H1 D I1 q1
 |false=>exact hb pins s1 σ H1 D I1 q1
def tNever:TS:=fun _ _ _=>False
theorem hZ_:PS X st tNever:=fun _ _ _ _ _ _ h=>h.elim
theorem ag_{sts:List Stmt}:PSs X sts tNever:=fun _ _ _ _ _ _ h=>h.elim
end
abbrev TG:=V->St->Hp->(St->Hp->Prop)->Prop
abbrev TGs:=List V->St->Hp->(St->Hp->Prop)->Prop
def PG(X:Cx)(target:Expr)(t:TG):Prop:=
 ∀(pins:List (Addr × Obj)) (s:Shared) (σ:St) (H:Hp) (v:V) (u:Value) (Q:St->Hp->Prop),Inv X pins σ H s->RelV v u->t v σ H Q->
  wpAny (model X.prog X.w) X.A (assign target X.env u) (fun _ s'=>∃σ' H',Inv X pins σ' H' s'/\Q σ' H') X.xe s
def PGs(X:Cx)(ts:List Expr)(t:TGs):Prop:=
 ∀(pins:List (Addr × Obj)) (s:Shared) (σ:St) (H:Hp) (vs:List V) (us:List Value) (Q:St->Hp->Prop),Inv X pins σ H s->Vals vs us->t vs σ H Q->
  wpAny (model X.prog X.w) X.A (assignInOrder ((assignEach ts X.env).map (·.2)) us) (fun _ s'=>∃σ' H',Inv X pins σ' H' s'/\Q σ' H') X.xe s
abbrev TSet:=V->V->V->Hp->(Hp->Prop)->Prop
def PSet(X:Cx)(t:TSet):Prop:=
 ∀(pins:List (Addr × Obj)) (s:Shared) (σ:St) (H:Hp) (o i v:V) (ov iv u:Value) (Q:Hp->Prop),Inv X pins σ H s->RelV o ov->RelV i iv->RelV v u->t o i v H Q->
  wpAny (model X.prog X.w) X.A (setItem ov iv u) (fun _ s'=>∃H',Inv X pins σ H' s'/\Q H') X.xe s
section
variable{X:Cx}{pos:Pos}
def b1'(i:Nat):TG:=fun v σ H Q=>Q (σ.set i (some v)) H
theorem a8_{i:Nat}{x:Str}(hN:X.N.Nodup)(hi:X.N[i]? = some x)(hx:Loc X.env.scope x)(hf:X.fn x=true∨X.env.scope.names.lookup x=some .local:=by first|exact .inl rfl|exact .inr rfl|assumption):PG X (.Name x pos) (b1' i):=by
 intro pins s σ H v u Q I r h;exact wpAny_assign_Name (eQ_ I hN hi hx r (fun s' I'=>⟨_,H,I',h⟩) hf)
def gNil:TGs:=fun vs σ H Q=>vs=[]/\Q σ H
def cu'(t:TG)(u:TGs):TGs:=fun vs σ H Q=>∃v r,vs=v::r/\t v σ H fun σ' H'=>u r σ' H' Q
theorem aY_:PGs X [] gNil:=by
 intro pins s σ H vs us Q I r h;obtain⟨e,h⟩:=h;subst e;cases r;exact assignInOrder_nil ⟨σ,H,I,h⟩
theorem af_{e:Expr}{es:List Expr}{t:TG}{u:TGs}(h1:PG X e t)(h2:PGs X es u)
  (hs:(assignEach (e::es) X.env).map (·.2)=assign e X.env::(assignEach es X.env).map (·.2):=by rfl):PGs X (e::es) (cu' t u):=by
 intro pins s σ H vs us Q I r h;obtain⟨v,vr,e1,h⟩:=h;subst e1;cases r with
 |cons r rr=>
  rw[hs];refine assignInOrder_cons (thn (h1 pins s σ H _ _ _ I r h) fun _ s1 ⟨σ1,H1,I1,q1⟩=>?_);exact h2 pins s1 σ1 H1 _ _ Q I1 rr q1
def gTup(K:F__)(n:Nat)(t:TGs):TG:=fun v σ H Q=>∃a xs,v=.ref a/\SqT K H a xs/\xs.length=n/\t xs σ H Q
theorem bf_{es:List Expr}{k:Nat}{t:TGs}{n:Nat}(hc:X.calm=true)(h:PGs X es t)
  (hn:(assignEach es X.env).length=n:=by rfl) (hst:(assignEach es X.env).findIdx? (·.1)=none:=by rfl):PG X (.Tuple es k pos) (gTup X.K n t):=by
 intro pins s σ H v u Q I r hw;obtain⟨a,xs,e1,hq,hl,hw⟩:=hw;subst e1;cases r;obtain⟨its,rv,ht,hz⟩:=I.tuple hq;refine assign_Tuple_tuple (I.ok.hd hc) ht (by simp[hn,<- hl,rv.length]) hst fun h' hx=>?_;have I1:Inv X pins σ H { s with heap:=h' }:=I.kept (t':=s.toks) fun b o e=>hx b o (au' (Heap.lt_size e)) e;exact h pins _ σ H xs _ Q I1 (by simpa using rv) hw
def gSub(to ti:TE)(t:TSet):TG:=fun v σ H Q=>to σ H fun o H1=>ti σ H1 fun i H2=>t o i v H2 fun H3=>Q σ H3
theorem iM_{o i:Expr}{to ti:TE}{t:TSet}(ho:PE X o to)(hi:PE X i ti)(hs:PSet X t)
  (ha:∀v,assign (.Subscript o i pos) X.env v=(do
   let ov <- holding [v] (eval o X.env)
   let iv <- holding [v,ov] (eval i X.env)
   standAt pos
   holding [v,ov,iv] (setItem ov iv v)
   release [v,ov,iv] []):=by intro _;rfl):PG X (.Subscript o i pos) (gSub to ti t):=by
 intro pins s σ H v u Q I r h;rw[ha];refine wpAny_bind (wpAny_holding (thn (ho pins s σ H _ I h) fun ov s1 ⟨x,H1,I1,r1,q1⟩=>?_));refine wpAny_bind (wpAny_holding (thn (hi pins s1 σ H1 _ I1 q1) fun iv s2 ⟨y,H2,I2,r2,q2⟩=>?_));refine wpAny_bind (wpAny_standAt (wpAny_bind (wpAny_holding (thn (hs pins s2 σ H2 x y v ov iv u _ I2 r1 r2 r q2) fun _ s3 ⟨H3,I3,q3⟩=>?_))));exact wpAny_release ⟨σ,H3,I3,q3⟩
def tAsg(te:TE)(g:TG):TS:=fun D σ H=>te σ H fun x H1=>g x σ H1 D.nx
theorem f7_{tg e:Expr}{te:TE}{g:TG}(he:PE X e te)(hg:PG X tg g)(hs:swapsWithSole [tg] e pos.line X.env=pure false:=by rfl)(hw:swappedStores [tg] e X.env=pure none:=by rfl)
  (h1:(assignEach [tg] X.env).map (·.2)=[assign tg X.env]:=by rfl):PS X (.Assign [tg] e pos) (tAsg te g):=by
 intro pins s σ H D I h;refine wpAny_Assign_stores (thn (he pins s σ H _ I h) fun v s1 ⟨x,H1,I1,r1,q1⟩=>?_) hs hw;rw[h1];exact thn (hg pins s1 σ H1 x v _ I1 r1 q1) fun _ s2 q=>q
theorem aa_{i:Nat}{x:Str}{e:Expr}{te:TE}{pos':Pos}(hN:X.N.Nodup)(hi:X.N[i]? = some x)(hx:Loc X.env.scope x)(he:PE X e te)(hs:swapsWith e (some (.Name x pos')) pos.line X.env=pure false:=by rfl)(hf:X.fn x=true∨X.env.scope.names.lookup x=some .local:=by first|exact .inl rfl|exact .inr rfl|assumption) :
  PS X (.Assign [.Name x pos'] e pos) (tAsg te (b1' i)):=by
 intro pins s σ H D I h;refine wpAny_Assign_Name (thn (he pins s σ H _ I h) fun v s1 ⟨y,H1,I1,r1,q1⟩=>?_) hs;exact eQ_ I1 hN hi hx r1 (fun s2 I2=>⟨_,H1,I2,q1⟩) hf
end
section
variable{X:Cx}{pos:Pos}
def tWhile(c:TT)(tb:TS):TS:=fun D σ H=>∃W:Nat->St->Hp->Prop,(∃m,W m σ H)/\∀m σ H,W m σ H->
 c σ H fun b H1=>if b=true then ∃N:St->Hp->Prop,(∀σ' H',N σ' H'->∃m',m'<m/\W m' σ' H')/\tb { D with nx:=N,ct:=N,bk:=D.nx } σ H1 else D.nx σ H1
theorem f9_{c:Expr}{body:List Stmt}{tc:TT}{tb:TS}(hp:PassesOwn (model X.prog X.w) X.A X.env X.xe)(hc:PT X c tc)(hb:PSs X body tb):PS X (.While c body [] pos) (tWhile tc tb):=by
 intro pins s σ H D I h;obtain⟨W,⟨m0,w0⟩,turn⟩:=h;refine wpAny_While (codeAny_whileLoop (fun n s'=>∃σ' H',Inv X pins σ' H' s'/\W n σ' H') ?_ m0 ⟨σ,H,I,w0⟩);rintro n s1 ⟨σ1,H1,I1,w1⟩;refine wpAny_passesOwn hp (thn (hc pins s1 σ1 H1 _ I1 (turn n σ1 H1 w1)) fun b s2 ⟨H2,I2,q2⟩=>?_);cases b with
 |true=>
  obtain⟨N,hN,q2⟩:=q2;rw[if_pos rfl];refine wpAny_passesOwn hp (thn (hb pins s2 σ1 H2 _ I2 q2) fun f s3 q3=>?_);cases f with
  |next=>
   obtain⟨σ3,H3,I3,n3⟩:=q3;obtain⟨m',hm,w3⟩:=hN σ3 H3 n3;exact⟨m',hm,σ3,H3,I3,w3⟩
  |cont=>
   obtain⟨σ3,H3,I3,n3⟩:=q3;obtain⟨m',hm,w3⟩:=hN σ3 H3 n3;exact⟨m',hm,σ3,H3,I3,w3⟩
  |brk=>exact q3
  |ret v=>exact q3
 |false=>
  rw[if_neg ar'];exact wpAny_execs_nil ⟨σ1,H2,I2,q2⟩
end
structure It where
 go:Nat->Hp->Prop
 yld:Nat->Hp->V->Hp->Prop
 stop:Nat->Hp->Prop
def FpOk(X:Cx)(pins:List (Addr × Obj))(H:Hp)(b:Addr):Prop:=
 H b=none/\b≠X.env.locals/\b∉X.fs/\(b∈X.ex∨X.s₀.heap.objs.size<=b)/\(∀x c,X.env.cells.lookup x=some c->c≠b)/\∀p∈X.pn++pins,p.1≠b
theorem Inv.fpOk{X:Cx}{pins:List (Addr × Obj)}{σ:St}{H H':Hp}{s:Shared}{b:Addr}(I:Inv X pins σ H s)(hb:s.heap.objs.size<=b)(hn:H' b=none):FpOk X pins H' b:=by
 refine⟨hn,a4' (av' I.lt hb),I.nofs hb,.inr (aU' I.sz hb),fun x c e z=>?_,fun p hp z=>?_⟩
 ·obtain⟨v,q⟩:=I.cell x c e;exact absurd (av' q.lt (by rw[z];exact hb)) (a3' _)
 ·exact absurd (av' (Heap.lt_size (I.pin p hp).1) (by rw[z];exact hb)) (a3' _)
structure Turn (P:Program) (w:World) (K:F__) (tg:Expr) (J:It) (fp:List Addr) (it:Addr) (tn:Nat->Heap->Prop):Prop where
 mem:it∈fp
 obj:∀i h,tn i h->∀b∈fp,∃o,h.get? b=some o/\∀v,o.data≠.cell v
 keep:∀i h h',tn i h->(∀b∈fp,∀o,h.get? b=some o->h'.get? b=some o)->tn i h'
 item:∀(X:Cx),X.prog=P->X.w=w->X.K=K->X.calm=true->∀(i:Nat) (pins:List (Addr × Obj)) (s:Shared) (σ:St) (H:Hp) (E:Value->Shared->Prop),Inv X pins σ H s->(∀b∈fp,FpOk X pins H b)->tn i s.heap->J.go i H->
  wpAny (model P w) X.A (pyNext (.ref it)) (fun r s1=>∃u,r=some u /\
   wpAny (model P w) X.A (letOwnedTupleGo tg (.ref it) u) (fun _ s2=>∃x H',Inv X pins σ H' s2/\RelV x u/\J.yld i H x H'/\tn (i+1) s2.heap/\∀b∈fp,H' b=none) E s1) E s
 done:∀(X:Cx),X.prog=P->X.w=w->X.K=K->X.calm=true->∀(i:Nat) (pins:List (Addr × Obj)) (s:Shared) (σ:St) (H:Hp) (E:Value->Shared->Prop),Inv X pins σ H s->(∀b∈fp,FpOk X pins H b)->tn i s.heap->J.stop i H->
  wpAny (model P w) X.A (pyNext (.ref it)) (fun r s1=>r=none/\Inv X pins σ H s1) E s
 self:∀(A:Around) (i:Nat) (s:Shared) (Q:Value->Shared->Prop) (E:Value->Shared->Prop),tn i s.heap->Q (.ref it) s->wpAny (model P w) A (pyIter (.ref it)) Q E s
abbrev TI:=St->Hp->(It->Hp->Prop)->Prop
def PIE(X:Cx)(pins:List (Addr × Obj))(σ:St)(tg:Expr)(R:It->Hp->Prop)(itv:Value)(s2:Shared):Prop:=
 ∃(it:Addr) (fp:List Addr) (tn:Nat->Heap->Prop) (J:It) (H':Hp),itv=.ref it/\Inv X pins σ H' s2/\Turn X.prog X.w X.K tg J fp it tn/\tn 0 s2.heap/\(∀b∈fp,FpOk X pins H' b)/\R J H'
def PI(X:Cx)(tg iter:Expr)(wi:TI):Prop:=
 ∀(pins:List (Addr × Obj)) (s:Shared) (σ:St) (H:Hp) (R:It->Hp->Prop),Inv X pins σ H s->wi σ H R->
  wpAny (model X.prog X.w) X.A (eval iter X.env) (fun v s1=>wpAny (model X.prog X.w) X.A (pyIter v) (PIE X pins σ tg R) X.xe s1) X.xe s
theorem ep_{M:Model}{A:Around}{E:Value->Shared->Prop}{s:Shared}{tg:Expr}{it:Addr}{u:Value}{o:Obj}{n:String}{vs:Array Value}{Q:Unit->Shared->Prop}(ho:s.heap.get? it=some o)(hc:o.cls=.type n)(hd:o.data=.fields vs)
  (hn:["enumerate","zip","dict_itemiterator","dict_reverseitemiterator","odict_iterator","itertools.zip_longest","itertools.pairwise"].contains n=false) (hQ:Q () s):wpAny M A (letOwnedTupleGo tg (.ref it) u) Q E s:=by
 unfold letOwnedTupleGo
 cases tg<;>first
  |exact wpAny_pure hQ
  |(cases u<;>first
    |exact wpAny_pure hQ
    |(refine wpAny_bind (wpAny_load ho ?_)
      rw[hc,hd];show wpAny M A (if (["enumerate","zip","dict_itemiterator","dict_reverseitemiterator","odict_iterator","itertools.zip_longest","itertools.pairwise"].contains n&&vs[0]? == some (rawInt _))=true then _ else _) Q E s;rw[if_neg (by intro h;rw[hn,a0'] at h;cases h)];exact wpAny_pure hQ))
def Itl(K:F__)(a:Addr):It:=
 ⟨fun i H=>∃xs x,SqL K H a xs/\xs[i]? = some x,fun i H x H'=>H'=H/\∀xs,SqL K H a xs->xs[i]? = some x,fun i H=>∃xs,SqL K H a xs/\xs.length<=i⟩
def Itr(lo:Int)(n:Nat):It:=⟨fun i _=>i<n,fun i H x H'=>H'=H/\x=.int (lo+i),fun i _=>n<=i⟩
theorem hn_{P:Program}{w:World}{K:F__}{tg:Expr}(a it:Addr):Turn P w K tg (Itl K a) [it] it (fun i h=>h.IsListIter it a i) where
 mem:=by simp
 obj:=fun i h st b hb=>by
  have e:b=it:=by simpa using hb
  subst e;obtain⟨o,e,c,d⟩:=st;exact⟨o,e,fun v z=>by rw[d] at z;cases z⟩
 keep:=fun i h h' st k=>st.at fun o e=>k it (by simp) o e
 item:=by
  intro X hP hw hK hc i pins s σ H E I hf st hg;subst hP hw hK;obtain⟨xs,x,hq,hx⟩:=hg;obtain⟨its,rv,p,hz⟩:=I.list hq;obtain⟨u,hu,ru⟩:=rv.get hx;obtain⟨f0,f1,f2,f3,f4,f5⟩:=hf it (by simp);refine wpAny_pyNext_list_item st p.isList (x:=u) (by simpa using hu) fun h' st' sb=>?_;have I1:Inv X pins σ H { s with heap:=h' }:=I.turned (t':=s.toks) (fun b o hb e=>(sb.2 b hb).trans e) f0 f1 f3 f4 f5;obtain⟨o,e,c,d⟩:=id st';exact⟨u,rfl,ep_ (s:={ s with heap:=h' }) e c d (by decide) ⟨x,H,I1,ru,⟨rfl,fun ys hy=>by rw[I.list_inj hy hq];exact hx⟩,st',fun b hb=>(hf b hb).1⟩⟩
 done:=by
  intro X hP hw hK hc i pins s σ H E I hf st hg;subst hP hw hK;obtain⟨xs,hq,hx⟩:=hg;obtain⟨its,rv,p,hz⟩:=I.list hq;obtain⟨f0,f1,f2,f3,f4,f5⟩:=hf it (by simp);have hl:=rv.length;exact wpAny_pyNext_list_end (I.ok.hd hc) st p.isList (by simp;omega) fun h' eb=>⟨rfl,I.turned (t':=s.toks) (fun b o hb e=>eb b o hb e) f0 f1 f3 f4 f5⟩
 self:=fun _ _ _ _ _ st h=>wpAny_pyIter_listiter st h
theorem fR_{P:Program}{w:World}{K:F__}{tg:Expr}(it:Addr)(lo:Int)(n:Nat):Turn P w K tg (Itr lo n) [it] it (fun i h=>IsRangeIter h it (lo+(i:Nat) * 1) ((n:Int) - (i:Nat)) 1) where
 mem:=by simp
 obj:=fun i h st b hb=>by
  have e:b=it:=by simpa using hb
  subst e
  exact⟨_,st,fun v z=>by
   have z':Data.fields _=Data.cell v:=z;cases z'⟩
 keep:=fun i h h' st k=>k it (by simp) _ st
 item:=by
  intro X hP hw hK hc i pins s σ H E I hf st hg;subst hP hw hK;obtain⟨f0,f1,f2,f3,f4,f5⟩:=hf it (by simp);have W:=Walks.range (prog:=X.prog) (w:=X.w) (I.ok.hd hc) it lo 1 n;refine W.item i s _ _ hg st fun v h' tk hv st' kk=>?_;obtain⟨t,rfl⟩:=hv;have I1:Inv X pins σ H { s with heap:=h',toks:=tk }:=I.turned (fun b o hb e=>kk b o (by simpa using hb) e) f0 f1 f3 f4 f5;refine⟨_,rfl,ep_ (s:={ s with heap:=h',toks:=tk }) (n:="range_iterator") st' rfl rfl (by decide) ⟨.int (lo+i),H,I1,⟨t,?_⟩,⟨rfl,rfl⟩,st',fun b hb=>(hf b hb).1⟩⟩;rw[Int.mul_one]
 done:=by
  intro X hP hw hK hc i pins s σ H E I hf st hg;subst hP hw hK;obtain⟨f0,f1,f2,f3,f4,f5⟩:=hf it (by simp);exact wpAny_pyNext_range_end (I.ok.hd hc) st (by have:n<=i:=hg;omega) fun h' eb=>⟨rfl,I.turned (t':=s.toks) (fun b o hb e=>eb b o hb e) f0 f1 f3 f4 f5⟩
 self:=fun _ _ _ _ _ st h=>wpAny_pyIter_rangeiter st h
end L2
namespace L2
open PySem PySem.Spec PyProof.Rows
section
variable{X:Cx}{tg:Expr}
def iList(K:F__)(tl:TE):TI:=fun σ H R=>tl σ H fun x H1=>∃a,x=.ref a/\(∃xs,SqL K H1 a xs)/\R (Itl K a) H1
theorem an_{l:Expr}{tl:TE}(hl:PE X l tl):PI X tg l (iList X.K tl):=by
 intro pins s σ H R I h;refine thn (hl pins s σ H _ I h) fun v s1 ⟨x,H1,I1,r1,q1⟩=>?_;obtain⟨a,e,⟨xs,hq⟩,q⟩:=q1;subst e;cases r1;obtain⟨its,rv,p,hz⟩:=I1.list hq;refine wpAny_pyIter_list p.isList ?_;refine⟨s1.heap.objs.size,[s1.heap.objs.size],_,_,H1,rfl,I1.kept (t':=s1.toks) fun b o e=>Heap.get?_push_of_some _ e,hn_ a _,⟨_,Heap.get?_push_size _ rfl,rfl,rfl⟩,fun b hb=>?_,q⟩;have e:b=s1.heap.objs.size:=by simpa using hb
 subst e;exact I1.fpOk (ag' _) (I1.hok.fresh (ag' _))
theorem hL_{pins:List (Addr × Obj)}{σ:St}{H:Hp}{s:Shared}{R:It->Hp->Prop}{E:Value->Shared->Prop}{lo hi:Int}{t u v:Tok}{tk:Nat}(I:Inv X pins σ H s)(h1:-(2 ^ 62)<=lo)(h2:lo<2 ^ 62)(h3:-(2 ^ 62)<=hi)(h4:hi<2 ^ 62)
  (q:R (Itr lo (hi - lo).toNat) H):wpAny (model X.prog X.w) X.A (pyIter (.ref s.heap.objs.size)) (PIE X pins σ tg R) E { s with heap:=s.heap.push { cls:=.type "range",data:=.fields #[.int lo t,.int hi u,.int 1 v] },toks:=tk }:=by
 refine wpAny_pyIter_range (IsRange.new ..) (small_one h1 h2 h3 h4) ?_;have I1:Inv X pins σ H { s with heap:=s.heap.push { cls:=.type "range",data:=.fields #[.int lo t,.int hi u,.int 1 v] },toks:=tk }:=I.kept fun b o e=>Heap.get?_push_of_some _ e
 refine⟨(s.heap.push { cls:=.type "range",data:=.fields #[.int lo t,.int hi u,.int 1 v] }).objs.size,[(s.heap.push { cls:=.type "range",data:=.fields #[.int lo t,.int hi u,.int 1 v] }).objs.size],_,_,H,rfl,
  I1.kept (t':=tk) fun b o e=>Heap.get?_push_of_some _ e,fR_ _ lo (hi - lo).toNat,?_,fun b hb=>?_,q⟩
 ·have e1:lo+((0:Nat):Int) * 1=lo:=by simp
  have e2:(((hi - lo).toNat:Nat):Int) - ((0:Nat):Int)=Builtin.Range.rangeSize lo hi 1:=by rw[rangeSize_one];split<;>omega
  show IsRangeIter _ _ (lo+((0:Nat):Int) * 1) ((((hi - lo).toNat:Nat):Int) - ((0:Nat):Int)) 1;rw[e1,e2];exact Heap.get?_push_size _ rfl
 ·have e:b=(s.heap.push { cls:=.type "range",data:=.fields #[.int lo t,.int hi u,.int 1 v] }).objs.size:=by simpa using hb
  subst e;exact I1.fpOk (ag' _) (I1.hok.fresh (ag' _))
def iRng1(ta:TA):TI:=fun σ H R=>ta σ H fun vs H1=>∃j:Int,vs=[.int j]/\-(2 ^ 62)<=j/\j<2 ^ 62/\R (Itr 0 j.toNat) H1
theorem bO_{a:Expr}{ta:TA}{p pos:Pos}(hg:Gl X "range")(hm:X.mg "range"=none)(ha:PA X [a] ta)(hs:starEach [a] X.env=[(false,eval a X.env)]:=by rfl):PI X tg (.Call (.Name "range" p) [a] [] pos) (iRng1 ta):=by
 intro pins s σ H R I h;refine Call_ (d5_ I hg hm boot_range (PyProof.Rows.callWith_type1 (thn (ha pos pins s σ H _ I h) fun us s1 ⟨vs,H1,I1,r1,q1⟩=>?_) hs rfl));obtain⟨j,e,q1,q2,q⟩:=q1;subst e;cases r1 with
 |cons r rr=>
  cases rr;obtain⟨t,rfl⟩:=r;exact call_range_1 (hL_ I1 (by omega) (by omega) q1 q2 (by simpa using q))
def tFor(wi:TI)(g:TG)(tb:TS):TS:=fun D σ H=>wi σ H fun J H1=>∃W:Nat->Nat->St->Hp->Prop,(∃m,W 0 m σ H1)/\∀i m σ H,W i m σ H->
 (J.stop i H/\D.nx σ H)∨(J.go i H/\∃N:St->Hp->Prop,(∀σ' H',N σ' H'->∃m',m'<m/\W (i+1) m' σ' H')/\∀x H',J.yld i H x H'->g x σ H' fun σ2 H2=>tb { D with nx:=N,ct:=N,bk:=D.nx } σ2 H2)
def bO'(fp:List Addr)(h:Heap):List (Addr × Obj):=fp.filterMap fun b=>(h.get? b).map fun o=>(b,o)
theorem bG_{fp:List Addr}{h:Heap}{b:Addr}{o:Obj}(hb:b∈fp)(e:h.get? b=some o):(b,o)∈bO' fp h:=aM'.mpr ⟨b,hb,by rw[e];rfl⟩
theorem gA_{fp:List Addr}{h:Heap}{p:Addr × Obj}(hp:p∈bO' fp h):p.1∈fp/\h.get? p.1=some p.2:=by
 obtain⟨b,hb,e⟩:=aM'.mp hp;cases q:h.get? b with
 |none=>rw[q] at e;cases e
 |some o=>
  rw[q] at e;have e':(b,o)=p:=Option.some.inj e;subst e';exact⟨hb,q⟩
theorem Inv.pinned{pins:List (Addr × Obj)}{σ:St}{H:Hp}{s:Shared}{fp:List Addr}(I:Inv X pins σ H s)(hf:∀b∈fp,FpOk X pins H b)(ho:∀b∈fp,∃o,s.heap.get? b=some o/\∀v,o.data≠.cell v):Inv X (pins++bO' fp s.heap) σ H s:=
 I.pins_of fun p hp=>(aw'.mp hp).elim (fun z=>I.pin p (ax' _ z)) fun z=>by
  obtain⟨hb,e⟩:=gA_ z;obtain⟨f0,f1,f2,_⟩:=hf p.1 hb;obtain⟨o,e',d⟩:=ho p.1 hb;rw[e] at e';cases e';exact⟨e,f0,f1,f2,d⟩
theorem Inv.unpinned{pins pl:List (Addr × Obj)}{σ:St}{H:Hp}{s:Shared}(I:Inv X (pins++pl) σ H s):Inv X pins σ H s:=I.pins_of fun p hp=>I.pin p (ax' _ (List.mem_append_left _ hp))
theorem aG_{iter:Expr}{body:List Stmt}{wi:TI}{g:TG}{tb:TS}{pos:Pos}(hp:PassesOwn (model X.prog X.w) X.A X.env X.xe)(hc:X.calm=true)(hi:PI X tg iter wi)(hg:PG X tg g)(hb:PSs X body tb)
  (hs:∀x,foldedSetIterable iter X.env x=pure x:=by intro _;rfl):PS X (.For tg iter body [] pos) (tFor wi g tb):=by
 intro pins s σ H D I h;refine wpAny_For (thn (hi pins s σ H _ I h) fun v s1 h1=>thn h1 fun itv s2 h2=>?_) hs;obtain⟨it,fp,tn,J,H2,e,I2,T,st2,f2,W,⟨m0,w0⟩,turn⟩:=h2;subst e;have stat:∀{H':Hp},(∀b∈fp,H' b=none)->∀b∈fp,FpOk X pins H' b:=fun hn b hb=>⟨hn b hb,(f2 b hb).2⟩;refine codeAny_forLoop_any (fun n s'=>∃i σ' H',Inv X pins σ' H' s'/\tn i s'.heap/\(∀b∈fp,H' b=none)/\W i n σ' H') ?_ m0 ⟨0,σ,H2,I2,st2,fun b hb=>(f2 b hb).1,w0⟩;rintro n s3 ⟨i,σ3,H3,I3,st3,fr3,w3⟩;rcases turn i n σ3 H3 w3 with⟨stop,qn⟩|⟨go,N,hN,step⟩
 ·refine wpAny_passesOwn hp (thn (T.done X rfl rfl rfl hc i pins s3 σ3 H3 X.xe I3 (stat fr3) st3 stop) fun r s4 ⟨hr,I4⟩=>?_);subst hr;exact wpAny_execs_nil ⟨σ3,H3,I4,qn⟩
 ·refine wpAny_passesOwn hp (thn (T.item X rfl rfl rfl hc i pins s3 σ3 H3 X.xe I3 (stat fr3) st3 go) fun r s4 ⟨u,hr,h4⟩=>?_);subst hr;refine wpAny_passesOwn hp (thn h4 fun _ s5 ⟨x,H5,I5,r5,y5,st5,fr5⟩=>?_);have I5':=I5.pinned (stat fr5) (T.obj _ _ st5);refine wpAny_passesOwn hp (thn (hg _ s5 σ3 H5 x u _ I5' r5 (step x H5 y5)) fun _ s6 ⟨σ6,H6,I6,q6⟩=>?_);refine wpAny_passesOwn hp (thn (hb _ s6 σ6 H6 _ I6 q6) fun f s7 q7=>?_)
  have again:∀{σ7:St} {H7:Hp},Inv X (pins++bO' fp s5.heap) σ7 H7 s7->N σ7 H7->∃m,m<n/\∃i σ' H',Inv X pins σ' H' s7/\tn i s7.heap/\(∀b∈fp,H' b=none)/\W i m σ' H':=fun {σ7 H7} I7 n7=>by
   obtain⟨m',hm,w7⟩:=hN σ7 H7 n7;refine⟨m',hm,i+1,σ7,H7,I7.unpinned,T.keep _ _ _ st5 fun b hb o e=>(I7.pin (b,o) (ax' _ (ax' _ (bG_ hb e)))).1,fun b hb=>?_,w7⟩;obtain⟨o,e,d⟩:=T.obj _ _ st5 b hb;exact (I7.pin (b,o) (ax' _ (ax' _ (bG_ hb e)))).2.1
  cases f with
  |next=>obtain⟨σ7,H7,I7,n7⟩:=q7;exact again I7 n7
  |cont=>obtain⟨σ7,H7,I7,n7⟩:=q7;exact again I7 n7
  |brk=>obtain⟨σ7,H7,I7,q7⟩:=q7;exact⟨σ7,H7,I7.unpinned,q7⟩
  |ret v=>obtain⟨x7,σ7,H7,I7,r7,q7⟩:=q7;exact⟨x7,σ7,H7,I7.unpinned,r7,q7⟩
end
theorem aw_{K:F__}{a:Addr}{xs:List V}{g:TG}{tb:TS}{D:Ends}{σ:St}{H:Hp}(Pv:Nat->St->Hp->Prop)(h0:Pv 0 σ H)(hl:∀i σ H,i<=xs.length->Pv i σ H->SqL K H a xs)
  (hs:∀i x σ H,xs[i]? = some x->Pv i σ H->g x σ H fun σ2 H2=>tb { D with nx:=Pv (i+1),ct:=Pv (i+1),bk:=D.nx } σ2 H2) (hd:∀σ H,Pv xs.length σ H->D.nx σ H) :
  ∃W:Nat->Nat->St->Hp->Prop,(∃m,W 0 m σ H)/\∀i m σ H,W i m σ H->
   ((Itl K a).stop i H/\D.nx σ H)∨((Itl K a).go i H/\∃N:St->Hp->Prop,(∀σ' H',N σ' H'->∃m',m'<m/\W (i+1) m' σ' H')/\∀x H',(Itl K a).yld i H x H'->g x σ H' fun σ2 H2=>tb { D with nx:=N,ct:=N,bk:=D.nx } σ2 H2):=by
 refine⟨fun i m σ H=>m=xs.length - i/\i<=xs.length/\Pv i σ H,⟨xs.length,by simp,aD' _,h0⟩,?_⟩;rintro i m σ H ⟨rfl,hi,p⟩;have q:=hl i σ H hi p;by_cases hlt:i<xs.length
 ·refine .inr ⟨⟨xs,xs[i],q,by simp[hlt]⟩,Pv (i+1),fun σ' H' p'=>⟨xs.length - (i+1),by omega,rfl,hlt,p'⟩,fun x H' y=>?_⟩;obtain⟨e,y⟩:=y;subst e;exact hs i x σ _ (y xs q) p
 ·have e:i=xs.length:=by omega
  subst e;exact .inl ⟨⟨xs,q,ag' _⟩,hd σ H p⟩
theorem gs_{lo:Int}{n:Nat}{g:TG}{tb:TS}{D:Ends}{σ:St}{H:Hp}(Pv:Nat->St->Hp->Prop)(h0:Pv 0 σ H)
  (hs:∀i σ H,i<n->Pv i σ H->g (.int (lo+i)) σ H fun σ2 H2=>tb { D with nx:=Pv (i+1),ct:=Pv (i+1),bk:=D.nx } σ2 H2) (hd:∀σ H,Pv n σ H->D.nx σ H) :
  ∃W:Nat->Nat->St->Hp->Prop,(∃m,W 0 m σ H)/\∀i m σ H,W i m σ H->
   ((Itr lo n).stop i H/\D.nx σ H)∨((Itr lo n).go i H/\∃N:St->Hp->Prop,(∀σ' H',N σ' H'->∃m',m'<m/\W (i+1) m' σ' H')/\∀x H',(Itr lo n).yld i H x H'->g x σ H' fun σ2 H2=>tb { D with nx:=N,ct:=N,bk:=D.nx } σ2 H2):=by
 refine⟨fun i m σ H=>m=n - i/\i<=n/\Pv i σ H,⟨n,by simp,aD' _,h0⟩,?_⟩;rintro i m σ H ⟨rfl,hi,p⟩;by_cases hlt:i<n
 ·refine .inr ⟨hlt,Pv (i+1),fun σ' H' p'=>⟨n - (i+1),by omega,rfl,hlt,p'⟩,fun x H' y=>?_⟩;obtain⟨e,y⟩:=y;subst e y;exact hs i σ _ hlt p
 ·have e:i=n:=by omega
  subst e;exact .inl ⟨ag' _,hd σ H p⟩
theorem ht_{c:TT}{tb:TS}{D:Ends}{σ:St}{H:Hp}(Pv:St->Hp->Prop)(μ:St->Hp->Nat)(h0:Pv σ H)
  (hs:∀σ H,Pv σ H->c σ H fun b H1=>if b=true then tb { D with nx:=fun σ' H'=>Pv σ' H'/\μ σ' H'<μ σ H,ct:=fun σ' H'=>Pv σ' H'/\μ σ' H'<μ σ H,bk:=D.nx } σ H1 else D.nx σ H1)
  (mono:∀σ H Q Q',(∀b H1,Q b H1->Q' b H1)->c σ H Q->c σ H Q'):tWhile c tb D σ H:=by
 refine⟨fun m σ H=>m=μ σ H/\Pv σ H,⟨_,rfl,h0⟩,?_⟩;rintro m σ H ⟨rfl,p⟩;refine mono σ H _ _ (fun b H1 q=>?_) (hs σ H p);cases b with
 |true=>exact⟨_,fun σ' H' ⟨p',l⟩=>⟨_,l,rfl,p'⟩,q⟩
 |false=>exact q
end L2
namespace L2
open PySem PySem.Spec PyProof.Rows
abbrev R2:=V->V->Hp->VK->Prop
def OpR(X:Cx)(f:Value->Value->Sem Value)(r:R2):Prop:=
 ∀(pins:List (Addr × Obj)) (s:Shared) (σ:St) (H:Hp) (x y:V) (v u:Value) (Q:VK),Inv X pins σ H s->RelV x v->RelV y u->r x y H Q->
  wpAny (model X.prog X.w) X.A (f v u) (EP X pins σ Q) X.xe s
def UnR(X:Cx)(f:Value->Sem Value)(r:V->Hp->VK->Prop):Prop:=
 ∀(pins:List (Addr × Obj)) (s:Shared) (σ:St) (H:Hp) (x:V) (v:Value) (Q:VK),Inv X pins σ H s->RelV x v->r x H Q->
  wpAny (model X.prog X.w) X.A (f v) (EP X pins σ Q) X.xe s
def bu'(X:Cx)(f:Value)(r:List V->Hp->VK->Prop):Prop:=
 ∀(pins:List (Addr × Obj)) (s:Shared) (σ:St) (H:Hp) (xs:List V) (us:List Value) (Q:VK),Inv X pins σ H s->Vals xs us->r xs H Q->
  wpAny (model X.prog X.w) X.A (call f us) (EP X pins σ Q) X.xe s
def tOp(r:R2)(ta tb:TE):TE:=fun σ H Q=>ta σ H fun x H1=>tb σ H1 fun y H2=>r x y H2 Q
def tUn(r:V->Hp->VK->Prop)(ta:TE):TE:=fun σ H Q=>ta σ H fun x H1=>r x H1 Q
def rI(C:Int->Int->Prop)(g:Int->Int->V):R2:=fun x y H Q=>∃i j,x=.int i/\y=.int j/\C i j/\Q (g i j) H
def rI0(g:Int->Int->V):R2:=fun x y H Q=>∃i j,x=.int i/\y=.int j/\Q (g i j) H
def rU(g:Int->V):V->Hp->VK->Prop:=fun x H Q=>∃i,x=.int i/\Q (g i) H
section
variable{X:Cx}{a b c:Expr}{ta tb tc:TE}{pos:Pos}
theorem binT(ha:PE X a ta)(hb:PE X b tb){pins:List (Addr × Obj)}{s:Shared}{σ:St}{H:Hp}{R:V->V->Hp->Prop}(I:Inv X pins σ H s)
  (h:ta σ H fun x H1=>tb σ H1 fun y H2=>R x y H2) {Q:Value->Shared->Prop} {f:Value->Value->Sem Value}
  (hf:∀v u s2 x y H2,Inv X pins σ H2 s2->RelV x v->RelV y u->R x y H2->wpAny (model X.prog X.w) X.A (f v u) Q X.xe s2) :
  wpAny (model X.prog X.w) X.A (eval a X.env) (fun v s₁=>wpAny (model X.prog X.w) X.A (eval b X.env) (fun u s₂=>wpAny (model X.prog X.w) X.A (f v u) Q X.xe s₂) X.xe s₁) X.xe s:=by
 refine thn (ha pins s σ H _ I h) fun v s1 ⟨x,H1,I1,r1,q1⟩=>?_;refine thn (hb pins s1 σ H1 _ I1 q1) fun u s2 ⟨y,H2,I2,r2,q2⟩=>?_;exact hf v u s2 x y H2 I2 r1 r2 q2
theorem aj_{op:Operator}{r:R2}(ho:OpR X (binaryOp op) r)(ha:PE X a ta)(hb:PE X b tb):PE X (.BinOp a op b pos) (tOp r ta tb):=by
 intro pins s σ H Q I h;exact wpAny_BinOp (binT ha hb I h fun v u s2 x y H2 I2 rx ry q=>ho pins s2 σ H2 x y v u Q I2 rx ry q)
theorem kv_{op:UnaryOp}{r:V->Hp->VK->Prop}(ho:UnR X (unaryOp op) r)(ha:PE X a ta):PE X (.UnaryOp op a pos) (tUn r ta):=by
 intro pins s σ H Q I h;exact UnaryOp_ (thn (ha pins s σ H _ I h) fun v s1 ⟨x,H1,I1,r1,q1⟩=>ho pins s1 σ H1 x v Q I1 r1 q1)
theorem opI{f:Value->Value->Sem Value}{C:Int->Int->Prop}{g:Int->Int->Int}
  (rule:∀(i j:Int) (t u:Tok) (s:Shared) (Q:Value->Shared->Prop) (E:Value->Shared->Prop),C i j->Q (.int (g i j) s.toks) { s with toks:=s.toks+1 }->wpAny (model X.prog X.w) X.A (f (.int i t) (.int j u)) Q E s) :
  OpR X f (rI C fun i j=>.int (g i j)):=by
 intro pins s σ H x y v u Q I rx ry h;obtain⟨i,j,rfl,rfl,hc,q⟩:=h;obtain⟨t,rfl⟩:=rx;obtain⟨t',rfl⟩:=ry;exact rule i j t t' s _ _ hc ⟨.int (g i j),H,I.tok _,⟨_,rfl⟩,q⟩
theorem opI0{f:Value->Value->Sem Value}{g:Int->Int->Int}
  (rule:∀(i j:Int) (t u:Tok) (s:Shared) (Q:Value->Shared->Prop) (E:Value->Shared->Prop),Q (.int (g i j) s.toks) { s with toks:=s.toks+1 }->wpAny (model X.prog X.w) X.A (f (.int i t) (.int j u)) Q E s) :
  OpR X f (rI0 fun i j=>.int (g i j)):=by
 intro pins s σ H x y v u Q I rx ry h;obtain⟨i,j,rfl,rfl,q⟩:=h;obtain⟨t,rfl⟩:=rx;obtain⟨t',rfl⟩:=ry;exact rule i j t t' s _ _ ⟨.int (g i j),H,I.tok _,⟨_,rfl⟩,q⟩
theorem opB0{f:Value->Value->Sem Value}{g:Int->Int->Bool}
  (rule:∀(i j:Int) (t u:Tok) (s:Shared) (Q:Value->Shared->Prop) (E:Value->Shared->Prop),Q (.bool (g i j)) s->wpAny (model X.prog X.w) X.A (f (.int i t) (.int j u)) Q E s) :
  OpR X f (rI0 fun i j=>.bl (g i j)):=by
 intro pins s σ H x y v u Q I rx ry h;obtain⟨i,j,rfl,rfl,q⟩:=h;obtain⟨t,rfl⟩:=rx;obtain⟨t',rfl⟩:=ry;exact rule i j t t' s _ _ ⟨.bl (g i j),H,I,rfl,q⟩
def CDiv(i j:Int):Prop:=0<j/\j<1073741824
def CPow(i j:Int):Prop:=0<=j/\j<=1000000/\i.natAbs<2 ^ 64
def CMul(i j:Int):Prop:=(-(2 ^ 64)<i/\i<2 ^ 64)∨(-(2 ^ 64)<j/\j<2 ^ 64)
theorem CMul.ok{i j:Int}(h:CMul i j):IntMulOk i j:=by
 rcases h with⟨h1,h2⟩|⟨h1,h2⟩
 ·exact .of_left (intBits_le_64 h1 h2)
 ·exact .of_right (intBits_le_64 h1 h2)
theorem aR_:OpR X (binaryOp .Add) (rI0 fun i j=>.int (i+j)):=opI0 fun _ _ _ _ _ _ _ q=>add_int q
theorem fr_:OpR X (binaryOp .Sub) (rI0 fun i j=>.int (i - j)):=opI0 fun _ _ _ _ _ _ _ q=>sub_int q
theorem ba_:OpR X (binaryOp .Mult) (rI CMul fun i j=>.int (i * j)):=opI fun _ _ _ _ _ _ _ hc q=>mul_int q hc.ok
theorem bi_:OpR X (binaryOp .FloorDiv) (rI CDiv fun i j=>.int (i / j)):=opI fun i j _ _ _ _ _ hc q=>by
 have h1:(0:Int)<j:=hc.1;have h2:j<1073741824:=hc.2;exact floordiv_int (by omega) (by rw[Int.fdiv_eq_ediv_of_nonneg i (by omega)];exact q) (.inl (PyProof.noPylong_small (by omega)))
theorem bX_:OpR X (binaryOp .Mod) (rI (fun _ j=>0<j) fun i j=>.int (i % j)):=opI fun i j _ _ _ _ _ hc q=>by
 have h1:(0:Int)<j:=hc;exact mod_int' (by omega) (by rw[Int.fmod_eq_emod_of_nonneg i (by omega)];exact q)
theorem iN_:OpR X (binaryOp .Pow) (rI CPow fun i j=>.int (i ^ j.toNat)):=opI fun _ _ _ _ _ _ _ hc q=>pow_int_small hc.1 hc.2.1 hc.2.2 q
theorem unI{f:Value->Sem Value}{g:Int->Int}
  (rule:∀(i:Int) (t:Tok) (s:Shared) (Q:Value->Shared->Prop) (E:Value->Shared->Prop),Q (.int (g i) s.toks) { s with toks:=s.toks+1 }->wpAny (model X.prog X.w) X.A (f (.int i t)) Q E s) :
  UnR X f (rU fun i=>.int (g i)):=by
 intro pins s σ H x v Q I rx h;obtain⟨i,rfl,q⟩:=h;obtain⟨t,rfl⟩:=rx;exact rule i t s _ _ ⟨.int (g i),H,I.tok _,⟨_,rfl⟩,q⟩
theorem kr_:UnR X (unaryOp .USub) (rU fun i=>.int (-i)):=unI fun _ _ _ _ _ q=>neg_int q
end
def scal:V->V->Bool
 |.non,.non=>true | .non,.int _=>true | .int _,.non=>true | .non,.bl _=>true | .bl _,.non=>true | .non,.str _=>true | .str _,.non=>true
 |.int _,.int _=>true | .bl _,.bl _=>true | .str _,.str _=>true | .byt _,.byt _=>true
 |.int _,.str _=>true | .str _,.int _=>true | .bl _,.str _=>true | .str _,.bl _=>true
 |_,_=>false
def rEq:R2:=fun x y H Q=>scal x y=true/\Q (.bl (decide (x=y))) H
def rNe:R2:=fun x y H Q=>scal x y=true/\Q (.bl (!decide (x=y))) H
theorem gd_{i j:Int}:decide (V.int i=V.int j)=(i == j):=by
 rw[Bool.eq_iff_iff];simp
theorem it_{i j:Bool}:decide (V.bl i=V.bl j)=(i == j):=by
 rw[Bool.eq_iff_iff];simp
theorem hf_{i j:Str}:decide (V.str i=V.str j)=(i == j):=by
 rw[Bool.eq_iff_iff];simp
theorem hc_{i j:Array UInt8}:decide (V.byt i=V.byt j)=(i.toList == j.toList):=by
 rw[Bool.eq_iff_iff];cases i;cases j;simp
section
variable{X:Cx}{a b c:Expr}{ta tb tc:TE}{pos:Pos}
theorem aA_{pins:List (Addr × Obj)}{σ:St}{H:Hp}{s:Shared}{Q:VK}{k k':Bool}(I:Inv X pins σ H s)(q:Q (.bl k) H)(e:k=k'):EP X pins σ Q (.bool k') s:=by
 subst e;exact⟨.bl k,H,I,rfl,q⟩
theorem cX_:OpR X (compareOp .Eq) rEq:=by
 intro pins s σ H x y v u Q I rx ry h;obtain⟨hs,q⟩:=h;cases x with
 |non=>
  cases rx;cases y with
  |non=>cases ry;exact PySem.EqNone.eq_none_none (aA_ I q (by simp))
  |bl j=>cases ry;exact PySem.EqNone.eq_none_bool (aA_ I q (by simp))
  |int j=>obtain⟨t',rfl⟩:=ry;exact PySem.EqNone.eq_none_int (aA_ I q (by simp))
  |str j=>obtain⟨t',rfl⟩:=ry;exact PySem.EqNone.eq_none_str (aA_ I q (by simp))
  |_=>exact absurd (show false=true from hs) ar'
 |bl i=>
  cases rx;cases y with
  |non=>cases ry;exact PySem.EqNone.eq_bool_none (aA_ I q (by simp))
  |bl j=>cases ry;exact eq_bool (aA_ I q it_)
  |str j=>obtain⟨t',rfl⟩:=ry;exact PySem.EqMixed.eq_bool_str (aA_ I q (by simp))
  |_=>exact absurd (show false=true from hs) ar'
 |int i=>
  obtain⟨t,rfl⟩:=rx;cases y with
  |non=>cases ry;exact PySem.EqNone.eq_int_none (aA_ I q (by simp))
  |int j=>obtain⟨t',rfl⟩:=ry;exact eq_int (aA_ I q gd_)
  |str j=>obtain⟨t',rfl⟩:=ry;exact PySem.EqMixed.eq_int_str (aA_ I q (by simp))
  |_=>exact absurd (show false=true from hs) ar'
 |str i=>
  obtain⟨t,rfl⟩:=rx;cases y with
  |non=>cases ry;exact PySem.EqNone.eq_str_none (aA_ I q (by simp))
  |bl j=>cases ry;exact PySem.EqMixed.eq_str_bool (aA_ I q (by simp))
  |int j=>obtain⟨t',rfl⟩:=ry;exact PySem.EqMixed.eq_str_int (aA_ I q (by simp))
  |str j=>obtain⟨t',rfl⟩:=ry;exact eq_str (aA_ I q hf_)
  |_=>exact absurd (show false=true from hs) ar'
 |byt i=>
  obtain⟨t,rfl⟩:=rx;cases y with
  |byt j=>obtain⟨t',rfl⟩:=ry;exact PySem.W.eq_bytes (aA_ I q hc_)
  |_=>exact absurd (show false=true from hs) ar'
 |_=>cases y<;>exact absurd (show false=true from hs) ar'
theorem fB_:OpR X (compareOp .NotEq) rNe:=by
 intro pins s σ H x y v u Q I rx ry h;obtain⟨hs,q⟩:=h;cases x with
 |non=>
  cases rx;cases y with
  |non=>cases ry;exact PySem.EqNone.ne_none_none (aA_ I q (by simp))
  |bl j=>cases ry;exact PySem.EqNone.ne_none_bool (aA_ I q (by simp))
  |int j=>obtain⟨t',rfl⟩:=ry;exact PySem.EqNone.ne_none_int (aA_ I q (by simp))
  |str j=>obtain⟨t',rfl⟩:=ry;exact PySem.EqNone.ne_none_str (aA_ I q (by simp))
  |_=>exact absurd (show false=true from hs) ar'
 |bl i=>
  cases rx;cases y with
  |non=>cases ry;exact PySem.EqNone.ne_bool_none (aA_ I q (by simp))
  |bl j=>cases ry;exact ne_bool (aA_ I q (congrArg not it_))
  |str j=>obtain⟨t',rfl⟩:=ry;exact PySem.EqMixed.ne_bool_str (aA_ I q (by simp))
  |_=>exact absurd (show false=true from hs) ar'
 |int i=>
  obtain⟨t,rfl⟩:=rx;cases y with
  |non=>cases ry;exact PySem.EqNone.ne_int_none (aA_ I q (by simp))
  |int j=>obtain⟨t',rfl⟩:=ry;exact ne_int (aA_ I q (congrArg not gd_))
  |str j=>obtain⟨t',rfl⟩:=ry;exact PySem.EqMixed.ne_int_str (aA_ I q (by simp))
  |_=>exact absurd (show false=true from hs) ar'
 |str i=>
  obtain⟨t,rfl⟩:=rx;cases y with
  |non=>cases ry;exact PySem.EqNone.ne_str_none (aA_ I q (by simp))
  |bl j=>cases ry;exact PySem.EqMixed.ne_str_bool (aA_ I q (by simp))
  |int j=>obtain⟨t',rfl⟩:=ry;exact PySem.EqMixed.ne_str_int (aA_ I q (by simp))
  |str j=>obtain⟨t',rfl⟩:=ry;exact ne_str (aA_ I q (congrArg not hf_))
  |_=>exact absurd (show false=true from hs) ar'
 |byt i=>
  obtain⟨t,rfl⟩:=rx;cases y with
  |byt j=>obtain⟨t',rfl⟩:=ry;exact PySem.W.ne_bytes (aA_ I q (congrArg not hc_))
  |_=>exact absurd (show false=true from hs) ar'
 |_=>cases y<;>exact absurd (show false=true from hs) ar'
theorem kd_:OpR X (compareOp .Lt) (rI0 fun i j=>.bl (decide (i<j))):=opB0 fun _ _ _ _ _ _ _ q=>lt_int q
theorem da_:OpR X (compareOp .LtE) (rI0 fun i j=>.bl (decide (i<=j))):=opB0 fun _ _ _ _ _ _ _ q=>le_int q
theorem es_:OpR X (compareOp .Gt) (rI0 fun i j=>.bl (decide (j<i))):=opB0 fun _ _ _ _ _ _ _ q=>gt_int q
theorem g3_:OpR X (compareOp .Lt) (fun x y H Q=>∃i j,x=.str i/\y=.str j/\Q (.bl (decide (i.cps.toList<j.cps.toList))) H):=by
 intro pins s σ H x y v u Q I rx ry h;obtain⟨i,j,rfl,rfl,q⟩:=h;obtain⟨t,rfl⟩:=rx;obtain⟨t',rfl⟩:=ry;exact lt_str (aA_ I q rfl)
theorem iy_:OpR X (compareOp .Is) (fun x y H Q=>y=.non/\Q (.bl (decide (x=.non))) H):=by
 intro pins s σ H x y v u Q I rx ry h;obtain⟨rfl,q⟩:=h;cases ry;refine is_none_gen (aA_ I q ?_)
 cases x<;>first
  |(cases rx;rfl)
  |(obtain⟨t,rfl⟩:=rx;rfl)
theorem nomark(b:Expr){op:CmpOp}(h:op≠.In:=by decide)(h2:op≠.NotIn:=by decide):behindInMarks op b=false:=by
 have e1:(op == CmpOp.In)=false:=by cases op<;>first|rfl|exact absurd rfl h
 have e2:(op == CmpOp.NotIn)=false:=by cases op<;>first|rfl|exact absurd rfl h2
 cases b<;>simp[behindInMarks,e1,e2]
theorem bd_{op:CmpOp}{r:R2}(ho:OpR X (compareOp op) r)(ha:PE X a ta)(hb:PE X b tb)(hm:behindInMarks op b=false):PE X (.Compare a [op] [b] pos) (tOp r ta tb):=by
 intro pins s σ H Q I h;exact wpAny_Compare1 (binT ha hb I h fun v u s2 x y H2 I2 rx ry q=>ho pins s2 σ H2 x y v u Q I2 rx ry q) hm
def tTest(t:TE):TT:=fun σ H Q=>t σ H fun x H'=>∃k,x=.bl k/\Q k H'
theorem ao_{op:CmpOp}{r:R2}(ho:OpR X (compareOp op) r)(ha:PE X a ta)(hb:PE X b tb)(hm:behindInMarks op b=false):PT X (.Compare a [op] [b] pos) (tTest (tOp r ta tb)):=by
 intro pins s σ H Q I h
 refine wpAny_isTrue_Compare1 (thn (ha pins s σ H _ I h) fun v s1 ⟨x,H1,I1,r1,q1⟩=>thn (hb pins s1 σ H1 _ I1 q1) fun u s2 ⟨y,H2,I2,r2,q2⟩=>
  thn (ho pins s2 σ H2 x y v u _ I2 r1 r2 q2) fun c s3 ⟨z,H3,I3,r3,k,e,q3⟩=>?_) hm
 subst e;cases r3;exact wpAny_truthy_bool ⟨H3,I3,q3⟩
def tChain(r r':R2)(ta tb tc:TE):TE:=fun σ H Q=>ta σ H fun x H1=>tb σ H1 fun y H2=>r x y H2 fun z H3=>∃k,z=.bl k /\
 (if k=true then tc σ H3 fun w' H4=>r' y w' H4 Q else Q (.bl false) H3)
theorem f3_{op op':CmpOp}{r r':R2}(ho:OpR X (compareOp op) r)(ho':OpR X (compareOp op') r')(ha:PE X a ta)(hb:PE X b tb)(hc:PE X c tc)
  (hm:lastMarks [op,op'] [b,c]=false:=by with_unfolding_all rfl):PE X (.Compare a [op,op'] [b,c] pos) (tChain r r' ta tb tc):=by
 intro pins s σ H Q I h
 refine Compare_chain (thn (ha pins s σ H _ I h) fun v s1 ⟨x,H1,I1,r1,q1⟩=>chain_link (thn (hb pins s1 σ H1 _ I1 q1) fun u s2 ⟨y,H2,I2,r2,q2⟩=>
  thn (ho pins s2 σ H2 x y v u _ I2 r1 r2 q2) fun d s3 ⟨z,H3,I3,r3,k,e,q3⟩=>?_)) hm
 subst e;cases r3;refine wpAny_truthy_bool ?_;cases k with
 |false=>exact ite_ff ⟨.bl false,H3,I3,rfl,q3⟩
 |true=>exact ite_tt (chain_last (thn (hc pins s3 σ H3 _ I3 q3) fun w' s4 ⟨z',H4,I4,r4,q4⟩=>ho' pins s4 σ H4 y z' u w' Q I4 r2 r4 q4))
theorem fi_{op op':CmpOp}{r r':R2}(ho:OpR X (compareOp op) r)(ho':OpR X (compareOp op') r')(ha:PE X a ta)(hb:PE X b tb)(hc:PE X c tc)
  (hm:lastMarks [op,op'] [b,c]=false:=by with_unfolding_all rfl):PT X (.Compare a [op,op'] [b,c] pos) (tTest (tChain r r' ta tb tc)):=by
 intro pins s σ H Q I h
 refine isTrue_chain (thn (ha pins s σ H _ I h) fun v s1 ⟨x,H1,I1,r1,q1⟩=>test_link (thn (hb pins s1 σ H1 _ I1 q1) fun u s2 ⟨y,H2,I2,r2,q2⟩=>
  thn (ho pins s2 σ H2 x y v u _ I2 r1 r2 q2) fun d s3 ⟨z,H3,I3,r3,k,e,q3⟩=>?_)) hm
 subst e;cases r3;refine wpAny_truthy_bool ?_;cases k with
 |false=>
  obtain⟨k',e',q'⟩:=q3;cases e';exact ite_ff ⟨H3,I3,q'⟩
 |true=>
  refine ite_tt (test_last (thn (hc pins s3 σ H3 _ I3 q3) fun w' s4 ⟨z',H4,I4,r4,q4⟩=>thn (ho' pins s4 σ H4 y z' u w' _ I4 r2 r4 q4) fun d' s5 ⟨z2,H5,I5,r5,k2,e2,q5⟩=>?_));subst e2;cases r5;exact wpAny_truthy_bool ⟨H5,I5,q5⟩
theorem line63:(sizeLine:Nat)<2 ^ 63:=by rw[sizeLine_eq];decide
theorem c1_:OpR X (binaryOp .Add) (fun x y H Q=>∃i j,x=.str i/\y=.str j/\i.length+j.length<=sizeLine/\Q (.str (i++j)) H):=by
 intro pins s σ H x y v u Q I rx ry h;obtain⟨i,j,rfl,rfl,hz,q⟩:=h;obtain⟨t,rfl⟩:=rx;obtain⟨t',rfl⟩:=ry;exact add_str (fun t' tk=>⟨.str (i++j),H,I.tok _,⟨_,rfl⟩,q⟩) hz
theorem vals1{x:V}{us:List Value}(r:Vals [x] us):∃u,us=[u]/\RelV x u:=by
 cases r with
 |cons r1 r2=>cases r2;exact⟨_,rfl,r1⟩
theorem vals2{x y:V}{us:List Value}(r:Vals [x,y] us):∃u w',us=[u,w']/\RelV x u/\RelV y w':=by
 cases r with
 |cons r1 r2=>
  cases r2 with
  |cons r3 r4=>cases r4;exact⟨_,_,rfl,r1,r3⟩
theorem gF_(hc:X.calm=true):bu' X (.builtin "max") (fun xs H Q=>∃i j,xs=[.int i,.int j]/\Q (.int (if j > i then j else i)) H):=by
 intro pins s σ H xs us Q I r h;obtain⟨i,j,rfl,q⟩:=h;obtain⟨u,w',rfl,⟨t,rfl⟩,⟨t',rfl⟩⟩:=vals2 r;refine max_two_ints (I.ok.hd hc) fun h' tk k=>⟨_,H,I.kept k,?_,q⟩;by_cases hj:j > i
 ·rw[if_pos hj,if_pos hj];exact⟨_,rfl⟩
 ·rw[if_neg hj,if_neg hj];exact⟨_,rfl⟩
theorem g9_(hc:X.calm=true):bu' X (.builtin "min") (fun xs H Q=>∃i j,xs=[.int i,.int j]/\Q (.int (if j<i then j else i)) H):=by
 intro pins s σ H xs us Q I r h;obtain⟨i,j,rfl,q⟩:=h;obtain⟨u,w',rfl,⟨t,rfl⟩,⟨t',rfl⟩⟩:=vals2 r;refine min_two_ints (I.ok.hd hc) fun h' tk k=>⟨_,H,I.kept k,?_,q⟩;by_cases hj:j<i
 ·rw[if_pos hj,if_pos hj];exact⟨_,rfl⟩
 ·rw[if_neg hj,if_neg hj];exact⟨_,rfl⟩
theorem bS_:bu' X (.type "int") (fun xs H Q=>(∃i,xs=[.int i]/\Q (.int i) H)∨∃k,xs=[.bl k]/\Q (.int (if k then 1 else 0)) H):=by
 intro pins s σ H xs us Q I r h;rcases h with⟨i,rfl,q⟩|⟨k,rfl,q⟩
 ·obtain⟨u,rfl,t,rfl⟩:=vals1 r;exact call_int_int ⟨.int i,H,I,⟨_,rfl⟩,q⟩
 ·obtain⟨u,rfl,r1⟩:=vals1 r;cases r1;exact call_int_bool ⟨.int (if k then 1 else 0),H,I.tok _,⟨_,rfl⟩,q⟩
end
end L2
namespace L2
open PySem PySem.Spec PyProof.Rows
structure ObjM (h:Heap) (x dx C:Addr) (mA:Str->Option Value):Prop where
 obj:h.get? x=some (PySem.W.instObj C dx)
 ns:h.Ns1 dx mA
 ne:dx≠x
theorem h3_{h:Heap}{dx:Addr}{mA:Str->Option Value}(n:h.Ns1 dx mA):∃od,h.get? dx=some od/\∀name,PySem.W.lookIn name od=some (mA name):=by
 obtain⟨o,es,ep,ho,hd,hk,_,hm⟩:=n;refine⟨o,ho,fun name=>?_⟩;have e:=hm name;unfold nsFind findBy at e;rw[<- Array.find?_toList] at e;unfold PySem.W.lookIn;rw[hd];dsimp only;split
 ·rename_i y q
  rw[q] at e;exact congrArg some e
 ·rename_i q
  rw[q] at e
  have a:es.toList.any (·.refKey)=false:=by
   rw[List.any_eq_false];intro y hy;obtain⟨z,t,hkey⟩:=hk y (Array.mem_toList_iff.mp hy);simp[DictEntry.refKey,hkey]
  have a':¬es.toList.any (·.refKey)=true:=by rw[a];exact ar'
  rw[if_neg a'];exact congrArg some e
theorem ObjM.look{h:Heap}{x dx C:Addr}{mA:Str->Option Value}(I:ObjM h x dx C mA):∃od,PySem.W.InstAt h x (PySem.W.instObj C dx) C (some od)/\∀name,PySem.W.lookIn name od=some (mA name):=
 let ⟨od,ho,hl⟩:=h3_ I.ns
 ⟨od,⟨I.obj,rfl,rfl,ho⟩,hl⟩
section
variable{prog:Program}{w:World}{A:Around}{E:Value->Shared->Prop}{s:Shared}{K:F__}{x dx C f:Addr}{mA:Str->Option Value}{name:Str}{v:Value}
theorem jv_{expr:Bool}{Q:Value->Shared->Prop}(X:K.In s.heap)(I:ObjM s.heap x dx C mA)(hg:PySem.W.plainGet K C name=true)(hh:PySem.W.hasDictIn K C=true)
  (ha:PySem.W.findIn K (.ref C) name=some none) (hv:mA name=some v) (hv':PySem.W.handedIn v=true) (h:Q v { s with toks:=s.toks+1 }) :
  wpAny (model prog w) A (getAttr (.ref x) name expr) Q E s:=by
 obtain⟨od,J,hl⟩:=I.look;exact PySem.W.get_value X J (PySem.W.plainGet_of hg).1 (PySem.W.findObj_own hh ha rfl (by rw[hl,hv])) hv' h
theorem im_{pl:Sem Bool}{Q:Value × List Value->Shared->Prop}(X:K.In s.heap)(I:ObjM s.heap x dx C mA)(hg:PySem.W.plainGet K C name=true)
  (hf:PySem.W.findIn K (.ref C) name=some (some (.ref f))) (ht:PySem.W.isFn K (.ref f)=true) (hv:mA name=none) (h:Q (.ref f,[.ref x]) s) :
  wpAny (model prog w) A (getMethod (.ref x) name pl) Q E s:=by
 obtain⟨od,J,hl⟩:=I.look;exact PySem.W.method_fn X J (PySem.W.plainGet_of hg).1 (PySem.W.plainGet_of hg).2 hf (beq_iff_eq.mp ht) (by show (PySem.W.lookIn name od).map (·.isSome)=some false;rw[hl,hv];rfl) h
theorem jM_{ns:List Str}{Q:Unit->Shared->Prop}(X:K.In s.heap)(I:ObjM s.heap x dx C mA)
  (hs:PySem.W.findIn K (.ref C) "__setattr__"=some (some (.builtin "object.__setattr__"))) (hp:PySem.W.plainOver K C=true) (ht:PySem.W.takerIn K C name=some none) (hh:PySem.W.hasDictIn K C=true)
  (hw:PySem.Within mA ns) (hsz:ns.length<=sizeLine)
  (h:∀h',ObjM h' x dx C (fun y=>if y=name then some v else mA y)->Heap.SameBut dx s.heap h'->Q () { s with heap:=h',toks:=s.toks+2 }) :
  wpAny (model prog w) A (setAttr (.ref x) name v) Q E s:=by
 obtain⟨od,J,hl⟩:=I.look;refine PySem.W.set_plain X J hs (PySem.W.osa_open (s:={ s with toks:=s.toks+1 }) (r:=none) X J hp ht fun b=>?_);obtain⟨cd,hc,hd'⟩:=PySem.W.any_some hh;have hx:s.heap.get? x=some ⟨.ref C,some dx,.plain,#[]⟩:=I.obj;refine wpAny_bind (wpAny_pure (wpAny_bind (wpAny_bind (wpAny_loadPart hx (wpAny_bind (PySem.W.Looks.here (s:={ s with toks:=s.toks+1 }) (PySem.W.looks_clsIn X hc) ?_))))));rw[hd'];refine wpAny_pure (a:=some dx) (wpAny_bind (wpAny_pure (wpAny_bind ?_)));refine wpAny_nsSet1 (s:={ s with toks:=s.toks+1 }) I.ns fun h' hn2 hs2=>?_;obtain⟨oD,esD,epD,hoD,hdD,hcD⟩:=hn2.count (PySem.Within.cons name v hw);refine wpAny_bind (wpAny_lookBehind hoD (by rw[hdD];exact pastItsLine_dict (aU' hcD (by rw[aC'];omega))) ?_);exact wpAny_pure (h _ ⟨(hs2.2 _ (Ne.symm I.ne)).trans I.obj,hn2,I.ne⟩ hs2)
theorem ij_{R:Result->Shared->Prop}{vs:List Value}{kw:List (Str × Value)}(X:K.In s.heap)(hm:PySem.W.makesIn K C=true)
  (hi:PySem.W.findIn K (.ref C) "__init__"=some (some (.ref f))) (hf:PySem.W.typeIn K (.ref f)=some (.type "function"))
  (h:codeAny (model prog w) (A.under (.builtin "type.__call__" ⟨.ref C::vs,kw⟩)) (.call (.ref f) ⟨.ref (s.heap.objs.size+1)::vs,kw⟩) (PySem.W.InitBack (s.heap.objs.size+1) R)
   { s with heap:=(s.heap.push PySem.W.emptyDict).push (PySem.W.instObj C s.heap.objs.size) }) :
  codeAny (model prog w) A (.call (.ref C) ⟨vs,kw⟩) R s:=by
 obtain⟨hh,g,d,t,os⟩:=s;exact PySem.W.make_core (PySem.W.makes_of X hm) (PySem.W.looks_findIn X hi) (fun self=>PySem.W.bind_fn X self hf) (.inl rfl) h
end
def putF(f:Str)(v:V):List (Str × V)->List (Str × V)
 |[]=>[(f,v)]
 |(g,x)::r=>if g=f then (g,v)::r else (g,x)::putF f v r
theorem a9_(f g:Str)(v:V):∀fs:List (Str × V),(putF f v fs).lookup g=if g=f then some v else fs.lookup g
 |[]=>by
  show List.lookup g [(f,v)]=_;by_cases h:g=f
  ·have hb:(g == f)=true:=beq_iff_eq.mpr h;simp only[List.lookup,hb,if_pos h]
  ·have hb:(g == f)=false:=beq_eq_false_iff_ne.mpr h;simp only[List.lookup,hb,if_neg h]
 |(k,x)::r=>by
  have ih:=a9_ f g v r;rw[show putF f v ((k,x)::r)=(if k=f then (k,v)::r else (k,x)::putF f v r) from rfl];by_cases hk:k=f
  ·rw[if_pos hk];by_cases h:g=k
   ·have hb:(g == k)=true:=beq_iff_eq.mpr h;simp only[List.lookup,hb,if_pos (h.trans hk)]
   ·have hb:(g == k)=false:=beq_eq_false_iff_ne.mpr h;simp only[List.lookup,hb,if_neg (fun e:g=f=>h (e.trans hk.symm))]
  ·rw[if_neg hk];by_cases h:g=k
   ·have hb:(g == k)=true:=beq_iff_eq.mpr h;simp only[List.lookup,hb,if_neg (fun e:g=f=>hk (h.symm.trans e))]
   ·have hb:(g == k)=false:=beq_eq_false_iff_ne.mpr h;simp only[List.lookup,hb];exact ih
theorem cE_(f:Str)(v:V):∀fs:List (Str × V),f∈(putF f v fs).map (·.1)/\∀g,g∈fs.map (·.1)->g∈(putF f v fs).map (·.1)
 |[]=>⟨by simp[putF],fun g h=>by simp at h⟩
 |(k,x)::r=>by
  obtain⟨i1,i2⟩:=cE_ f v r;rw[show putF f v ((k,x)::r)=(if k=f then (k,v)::r else (k,x)::putF f v r) from rfl];by_cases hk:k=f
  ·rw[if_pos hk];subst hk;exact⟨by simp,fun g h=>by simpa using h⟩
  ·rw[if_neg hk];refine⟨?_,fun g h=>?_⟩
   ·rw[ao'];exact af' _ i1
   ·rw[ao'] at h ⊢;rcases aj'.mp h with e|e
    ·exact aj'.mpr (.inl e)
    ·exact af' _ (i2 g e)
theorem cr_(f:Str)(v:V):∀fs:List (Str × V),(putF f v fs).length<=fs.length+1
 |[]=>by simp[putF]
 |(k,x)::r=>by
  have ih:=cr_ f v r;rw[show putF f v ((k,x)::r)=(if k=f then (k,v)::r else (k,x)::putF f v r) from rfl];by_cases hk:k=f
  ·rw[if_pos hk,aC',aC'];omega
  ·rw[if_neg hk,aC',aC'];omega
theorem RelO.some_of{v:V}{o:Option Value}(r:RelO (some v) o):∃u,o=some u/\RelV v u:=by
 cases o with
 |none=>exact (show False from r).elim
 |some u=>exact⟨u,rfl,r⟩
theorem RelO.none_of{o:Option Value}(r:RelO none o):o=none:=by
 cases o with
 |none=>rfl
 |some u=>exact (show False from r).elim
theorem gu_{v:V}{u:Value}(r:RelV v u):PySem.W.handedIn u=true:=by
 cases v with
 |non=>cases (show u=Value.none from r);rfl
 |bl b=>cases (show u=Value.bool b from r);rfl
 |int i=>obtain⟨t,e⟩:=(show ∃t,u=Value.int i t from r);cases e;rfl
 |str x=>obtain⟨t,e⟩:=(show ∃t,u=Value.str x t from r);cases e;rfl
 |byt b=>obtain⟨t,e⟩:=(show ∃t,u=Value.bytes b t from r);cases e;rfl
 |flt b=>obtain⟨t,e⟩:=(show ∃t,u=Value.float b t from r);cases e;rfl
 |ref a=>cases (show u=Value.ref a from r);rfl
 |ty n=>cases (show u=Value.type n from r);rfl
section
variable{P:Program}{w:World}{H H':Hp}{h h':Heap}{a C dx:Addr}{fs fs':List (Str × V)}
theorem de_(hok:HOk P w H h)(e:H a=some (.ins C dx fs)):∃mA,ObjM h a dx C mA/\(∀f,RelO (fs.lookup f) (mA f))/\PySem.Within mA (fs.map (·.1))/\fs.length<=1000/\H dx=some (.own a):=by
 obtain⟨d,z,ne,ob,mA,n,r,q⟩:=(show bh' P w H h a (.ins C dx fs) from hok a _ e);exact⟨mA,⟨ob,n,ne⟩,r,q,z,d⟩
end
structure Cls (K:F__) (C:Addr):Prop where
 pg:PySem.W.plainGet K C Str.empty=true
 hd:PySem.W.hasDictIn K C=true
 po:PySem.W.plainOver K C=true
 sa:PySem.W.findIn K (.ref C) "__setattr__"=some (some (.builtin "object.__setattr__"))
theorem Cls.get{K:F__}{C:Addr}(c:Cls K C)(f:Str):PySem.W.plainGet K C f=true:=c.pg
def bt'(K:F__)(C:Addr)(f:Str):Prop:=PySem.W.findIn K (.ref C) f=some none
theorem bt'.taker{K:F__}{C:Addr}{f:Str}(n:bt' K C f):PySem.W.takerIn K C f=some none:=by
 unfold PySem.W.takerIn;rw[show PySem.W.findIn K (.ref C) f=some none from n];rfl
structure Con (K:F__) (C:Addr) (f:Str) (v:V) (u:Value):Prop where
 at_:PySem.W.findIn K (.ref C) f=some (some u)
 rel:RelV v u
 get:PySem.W.specialIn K u "__get__"=some none
 cp:PySem.W.copiedNames.contains f=false
structure Meth (K:F__) (C:Addr) (m:Str) (f:Addr):Prop where
 at_:PySem.W.findIn K (.ref C) m=some (some (.ref f))
 fn:PySem.W.isFn K (.ref f)=true
 kp:PySem.W.keepIn K (.ref f)=true
section
variable{X:Cx}{pins:List (Addr × Obj)}{σ:St}{H:Hp}{s:Shared}{a C dx:Addr}{fs:List (Str × V)}{f:Str}{v:V}{A:Around}{E:Value->Shared->Prop}
theorem fG_{b:Bool}{Q:Value->Shared->Prop}(I:Inv X pins σ H s)(e:H a=some (.ins C dx fs))(c:Cls X.K C)(n:bt' X.K C f)(l:fs.lookup f=some v)
  (h:∀u s',Inv X pins σ H s'->RelV v u->Q u s'):wpAny (model X.prog X.w) A (getAttr (.ref a) f b) Q E s:=by
 obtain⟨mA,O,r,_,_,_⟩:=de_ I.hok e;obtain⟨u,hu,ru⟩:=RelO.some_of (v:=v) (o:=mA f) (by rw[<- l];exact r f);exact jv_ I.kIn O (c.get f) c.hd n hu (gu_ ru) (h u _ (I.tok _) ru)
theorem d7_{m:Str}{g:Addr}{pl:Sem Bool}{Q:Value × List Value->Shared->Prop}(I:Inv X pins σ H s)(e:H a=some (.ins C dx fs))(c:Cls X.K C)(k:Meth X.K C m g)(l:fs.lookup m=none)
  (h:Q (.ref g,[.ref a]) s):wpAny (model X.prog X.w) A (getMethod (.ref a) m pl) Q E s:=by
 obtain⟨mA,O,r,_,_,_⟩:=de_ I.hok e;have hn:mA m=none:=RelO.none_of (by rw[<- l];exact r m);exact im_ I.kIn O (c.get m) k.at_ k.fn hn h
theorem fI_{y:V}{u:Value}{Q:Unit->Shared->Prop}(I:Inv X pins σ H s)(e:H a=some (.ins C dx fs))(c:Cls X.K C)(n:bt' X.K C f)(hl:fs.length<1000)(ry:RelV y u)
  (h:∀s',Inv X pins σ (upd H a (.ins C dx (putF f y fs))) s'->Q () s'):wpAny (model X.prog X.w) A (setAttr (.ref a) f u) Q E s:=by
 obtain⟨mA,O,r,wi,_,ho⟩:=de_ I.hok e;have hz:(fs.map (·.1)).length<=sizeLine:=by rw[aa',sizeLine_eq];omega
 refine jM_ I.kIn O c.sa c.po n.taker c.hd wi hz fun h' O' sb=>h _ ?_;have hd:∃o,h'.get? dx=some o:=let ⟨o,_,_,e',_⟩:=O'.ns;⟨o,e'⟩;refine I.write (x:=a) (e:=dx) (by rw[e];exact True.intro) (.inr ho) (fun b q hb z=>(sb.2 b hb).trans z) hd ?_;refine⟨by rw[a4_ O.ne];exact ho,?_,O.ne,O'.obj,_,O'.ns,fun g=>?_,fun g hg=>?_⟩
 ·have:=cr_ f y fs;omega
 ·show RelO ((putF f y fs).lookup g) (if g=f then some u else mA g);rw[a9_];by_cases q:g=f
  ·rw[if_pos q,if_pos q];exact ry
  ·rw[if_neg q,if_neg q];exact r g
 ·by_cases q:g=f
  ·rw[q];exact (cE_ f y fs).1
  ·refine (cE_ f y fs).2 g (wi g fun z=>hg ?_);show (if g=f then some u else mA g)=none;rw[if_neg q];exact z
theorem Inv.made(I:Inv X pins σ H s):Inv X pins σ (upd (upd H s.heap.objs.size (.own (s.heap.objs.size+1))) (s.heap.objs.size+1) (.ins C s.heap.objs.size []))
  { s with heap:=(s.heap.push PySem.W.emptyDict).push (PySem.W.instObj C s.heap.objs.size) }:=by
 have e1:(s.heap.push PySem.W.emptyDict).get? s.heap.objs.size=some PySem.W.emptyDict:=Heap.get?_push_size s.heap rfl
 have e2:((s.heap.push PySem.W.emptyDict).push (PySem.W.instObj C s.heap.objs.size)).get? (s.heap.objs.size+1)=some (PySem.W.instObj C s.heap.objs.size):=by
  have:=Heap.get?_push_size (s.heap.push PySem.W.emptyDict) (o:=PySem.W.instObj C s.heap.objs.size) rfl;rwa [Heap.size_push] at this
 have e3:(s.heap.push PySem.W.emptyDict).Ns s.heap.objs.size (fun _=>none):=⟨PySem.W.emptyDict,#[],_,e1,rfl,(fun e he=>absurd he (by simp)),fun _=>rfl⟩;have I1:=I.laid (a:=s.heap.objs.size) (o:=.own (s.heap.objs.size+1)) (h':=s.heap.push PySem.W.emptyDict) (t':=s.toks) (fun b u q=>Heap.get?_push_of_some _ q) (ag' _) ⟨_,e1⟩;refine I1.laid (a:=s.heap.objs.size+1) (o:=.ins C s.heap.objs.size []) (t':=s.toks) (fun b u q=>Heap.get?_push_of_some _ q) (Nat.le_of_eq (Heap.size_push _ _)) ?_;have ne:s.heap.objs.size≠s.heap.objs.size+1:=au' (Nat.lt_succ_self _);refine⟨by rw[a4_ ne,a1_],aD' _,ne,e2,fun _=>none,(Heap.Ns1.of_empty e3).at fun o q=>Heap.get?_push_of_some _ q,fun _=>True.intro,fun y hy=>absurd rfl hy⟩
theorem iT_{prog:Program}{w:World}{env:Env}{e:Expr}{f:Str}{pos:Pos}{s:Shared}{Q:Value->Shared->Prop}(hb:attributeBase e f env (eval e env)=eval e env)
  (h:wpAny (model prog w) A (eval e env) (fun o s₁=>wpAny (model prog w) A (getAttr o f true) Q E s₁) E s):wpAny (model prog w) A (eval (.Attribute e f pos) env) Q E s:=
 Attribute_any_ h (by rw[arm_eval_Attribute,hb])
end
def tFld(K:F__)(ta:TE)(f:Str):TE:=fun σ H Q=>ta σ H fun x H1=>∃a C dx fs v,x=.ref a/\H1 a=some (.ins C dx fs)/\Cls K C/\bt' K C f/\fs.lookup f=some v/\Q v H1
def sFld(K:F__)(ta tv:TE)(f:Str):TS:=fun D σ H=>tv σ H fun y H1=>ta σ H1 fun x H2=>∃a C dx fs,x=.ref a/\H2 a=some (.ins C dx fs)/\Cls K C/\bt' K C f/\fs.length<1000 /\
 D.nx σ (upd H2 a (.ins C dx (putF f y fs)))
def InOp(X:Cx)(op:Operator)(rd:V->V->Hp->VK->Prop):Prop:=
 ∀(pins:List (Addr × Obj)) (s:Shared) (σ:St) (H:Hp) (x y:V) (u v:Value) (Q:VK),Inv X pins σ H s->RelV x u->RelV y v->rd x y H Q->wpAny (model X.prog X.w) X.A (inplaceOp op u v) (EP X pins σ Q) X.xe s
section
variable{X:Cx}{o e value:Expr}{f:Str}{pos pos' tpos:Pos}{ta tv:TE}
theorem ar_(he:PE X e ta)(hb:attributeBase e f X.env (eval e X.env)=eval e X.env):PE X (.Attribute e f pos) (tFld X.K ta f):=by
 intro pins s σ H Q I h;refine iT_ hb (thn (he pins s σ H _ I h) fun u s1 ⟨x,H1,I1,rx,a,C,dx,fs,v,ex,ea,c,n,l,q⟩=>?_);subst ex;obtain rfl:u=Value.ref a:=rx;exact fG_ I1 ea c n l fun u' s2 I2 ru=>⟨v,H1,I2,ru,q⟩
theorem bJ_(ha:PE X o ta)(hv:PE X value tv)(hs:swapsWith value (some (.Attribute o f pos')) pos.line X.env=pure false):PS X (.Assign [.Attribute o f pos'] value pos) (sFld X.K ta tv f):=by
 intro pins s σ H D I h;refine plainObj_wpAny_Assign_Attribute (thn (hv pins s σ H _ I h) fun u s1 ⟨y,H1,I1,ry,q⟩=>thn (ha pins s1 σ H1 _ I1 q) fun ov s2 ⟨x,H2,I2,rx,a,C,dx,fs,ex,ea,c,n,l,q2⟩=>?_) hs;subst ex;obtain rfl:ov=Value.ref a:=rx;exact fI_ I2 ea c n l ry fun s3 I3=>⟨σ,_,I3,q2⟩
def rAdd:V->V->Hp->VK->Prop:=fun x y H Q=>∃i j,x=.int i/\y=.int j/\Q (.int (i+j)) H
theorem k8_:InOp X .Add rAdd:=by
 rintro pins s σ H x y u v Q I rx ry ⟨i,j,rfl,rfl,q⟩;obtain⟨t,rfl⟩:=(show ∃t,u=Value.int i t from rx);obtain⟨t',rfl⟩:=(show ∃t',v=Value.int j t' from ry);exact PyProof.Rows.iadd_int ⟨.int (i+j),H,I.tok _,⟨_,rfl⟩,q⟩
end
section
variable{X:Cx}{pins:List (Addr × Obj)}{σ:St}{H:Hp}{s:Shared}{A:Around}{E:Value->Shared->Prop}{Q:Value->Shared->Prop}{c:Value}{b:Bool}
inductive TyOf (K:F__) (H:Hp):V->Value->Prop where
 |non:TyOf K H .non (.type "NoneType")
 |bl (x:Bool):TyOf K H (.bl x) (.type "bool")
 |int (i:Int):TyOf K H (.int i) (.type "int")
 |str (x:Str):TyOf K H (.str x) (.type "str")
 |flt (x:UInt64):TyOf K H (.flt x) (.type "float")
 |lst {a:Addr} {xs:List V} (e:H a=some (.lst xs)):TyOf K H (.ref a) (.type "list")
 |frz {a:Addr} {o:Obj} {xs:List V} (e:H a=some (.frz o (.lst xs))):TyOf K H (.ref a) (.type "list")
 |tup {a:Addr} {xs:List V} (e:H a=some (.tup xs)):TyOf K H (.ref a) (.type "tuple")
 |dK {a:Addr} {kvs:List (Key × V)} (e:H a=some (.dK kvs)):TyOf K H (.ref a) (.type "dict")
 |dT {a:Addr} {kvs:List (List Key × V)} (e:H a=some (.dT kvs)):TyOf K H (.ref a) (.type "dict")
 |ins {a C dx:Addr} {fs:List (Str × V)} (e:H a=some (.ins C dx fs)) (cl:Cls K C) (ha:PySem.W.findIn K (.ref C) "__class__"=some (some (.builtin "object.__class__")))
   (hn:PySem.W.specialIn K (.builtin "object.__class__") "__get__"=some (some (.builtin "getset_descriptor.__get__"))) (htk:PySem.W.takesIn K (.builtin "object.__class__")=some true)
   (hm:PySem.W.mroIn K C (.type "object")=some true):TyOf K H (.ref a) (.ref C)
theorem e9_{x:V}{u t:Value}(I:Inv X pins σ H s)(rx:RelV x u)(ty:TyOf X.K H x t)(e:PySem.W.kitOne X.K t c=some b)(h:∀tk,Q (.bool b) { s with toks:=tk }) :
  wpAny (model X.prog X.w) A (call (.builtin "isinstance") [u,c]) Q E s:=by
 cases ty with
 |non=>cases (show u=Value.none from rx);exact PySem.W.kia_one PySem.W.kitx_none I.kIn True.intro e nofun h
 |bl y=>cases (show u=Value.bool y from rx);exact PySem.W.kia_one PySem.W.kitx_bool I.kIn True.intro e nofun h
 |int i=>obtain⟨t,q⟩:=(show ∃t,u=Value.int i t from rx);cases q;exact PySem.W.kia_one PySem.W.kitx_int I.kIn True.intro e nofun h
 |str y=>obtain⟨t,q⟩:=(show ∃t,u=Value.str y t from rx);cases q;exact PySem.W.kia_one PySem.W.kitx_str I.kIn True.intro e nofun h
 |flt y=>obtain⟨t,q⟩:=(show ∃t,u=Value.float y t from rx);cases q;exact PySem.W.kia_one PySem.W.kitx_float I.kIn True.intro e nofun h
 |@lst a xs ea=>
  cases (show u=Value.ref a from rx);obtain⟨_,_,n,_,h1⟩:=(show bh' X.prog X.w H s.heap a (.lst xs) from I.hok a _ ea);exact PySem.W.kia_one PySem.W.kitx_list I.kIn ⟨_,h1,rfl⟩ e nofun h
 |@frz a ob xs ea=>
  cases (show u=Value.ref a from rx);obtain⟨_,_,_,n,_,h1⟩:=(show bh' X.prog X.w H s.heap a (.frz ob (.lst xs)) from I.hok a _ ea);exact PySem.W.kia_one PySem.W.kitx_list I.kIn ⟨_,h1,rfl⟩ e nofun h
 |@tup a xs ea=>
  cases (show u=Value.ref a from rx);obtain⟨_,_,_,p,_⟩:=(show bh' X.prog X.w H s.heap a (.tup xs) from I.hok a _ ea);obtain⟨o,h1,h2,_⟩:=p;exact PySem.W.kia_one PySem.W.kitx_tuple I.kIn ⟨o,h1,h2⟩ e nofun h
 |@dK a kvs ea=>
  cases (show u=Value.ref a from rx);obtain⟨_,_,vs,_,p⟩:=(show bh' X.prog X.w H s.heap a (.dK kvs) from I.hok a _ ea);obtain⟨o,es,ep,h1,h2,_⟩:=p;exact PySem.W.kia_one PySem.W.kitx_dict I.kIn ⟨o,h1,h2.1⟩ e nofun h
 |@dT a kvs ea=>
  cases (show u=Value.ref a from rx);obtain⟨_,_,xs,_,o,es,ep,h1,h2,_⟩:=(show bh' X.prog X.w H s.heap a (.dT kvs) from I.hok a _ ea);exact PySem.W.kia_one PySem.W.kitx_dict I.kIn ⟨o,h1,h2.1⟩ e nofun h
 |@ins a C dx fs ea cl ha hn htk hm=>
  cases (show u=Value.ref a from rx);obtain⟨mA,O,_⟩:=de_ I.hok ea;obtain⟨od,J,_⟩:=O.look;exact PySem.W.kia_one (PySem.W.kitx_own (cl.get _) cl.hd ha hn htk hm) I.kIn J e nofun h
end
end L2
namespace L2
open PySem PySem.Spec PyProof.Rows
structure Room (k:Nat) (A:Around):Prop where
 hd:A.handled=none
 dp:A.depth+3 * k+5<recursionLimit
 un:A.units+16 * k+200<cLine
theorem Room.mono{j k:Nat}{A:Around}(r:Room k A)(h:j<=k):Room j A:=⟨r.hd,by have:=r.dp;omega,by have:=r.un;omega⟩
theorem Room.deeper{k:Nat}{A:Around}(r:Room (k+1) A)(env:Env):Room k (A.deeper env):=
 ⟨r.hd,by have:=r.dp;show A.depth+1+3 * k+5<_;omega,by have:=r.un;show A.units+3+16 * k+200<_;omega⟩
theorem Room.in1{k:Nat}{A:Around}(r:Room (k+1) A):Room k A.in1:=
 ⟨r.hd,by have:=r.dp;show A.depth+3 * k+5<_;omega,by have:=r.un;show A.units+1+16 * k+200<_;omega⟩
theorem fw_{A:Around}{C:Addr}{us:List Value}{kw:List (Str × Value)}:(A.under (.builtin "type.__call__" ⟨.ref C::us,kw⟩)).depth=A.depth+1:=by
 first|rfl|simp[Around.under,Code.weight,Code.isCreation,Code.isGuard,Code.isCaller,Code.frames,Code.isFrame,guardIds]
theorem ft_{A:Around}{C:Addr}{us:List Value}{kw:List (Str × Value)}:(A.under (.builtin "type.__call__" ⟨.ref C::us,kw⟩)).units=A.units+1:=by
 first|rfl|simp[Around.under,Code.cUnits,Code.frames,Code.isFrame]
theorem Room.make{k:Nat}{A:Around}(r:Room (k+1) A)(C:Addr)(us:List Value)(kw:List (Str × Value)):Room k (A.under (.builtin "type.__call__" ⟨.ref C::us,kw⟩)):=
 ⟨r.hd,by have:=r.dp;rw[fw_];omega,by have:=r.un;rw[ft_];omega⟩
theorem Room.depth{k:Nat}{A:Around}(r:Room k A):A.depth<recursionLimit:=by have:=r.dp;omega
theorem Room.units{k:Nat}{A:Around}(r:Room k A):A.units+64<cLine:=by have:=r.un;omega
def tNil:TA:=fun _ H Q=>Q [] H
def tCons(ta:TE)(tr:TA):TA:=fun σ H Q=>ta σ H fun x H1=>tr σ H1 fun xs H2=>Q (x::xs) H2
section
variable{X:Cx}{e:Expr}{es:List Expr}{te:TE}{t:TA}{pos:Pos}
theorem a3_:PA X [] tNil:=fun _ _ _ _ H Q I h=>Calls.spliced_nil ⟨[],H,I,.nil,h⟩
theorem a0_(ha:PE X e te)(hr:PA X es t)(hs:starEach (e::es) X.env=(false,eval e X.env)::starEach es X.env:=by rfl):PA X (e::es) (tCons te t):=by
 intro pos pins s σ H Q I h;rw[hs];show wpAny _ _ (spliced ((false,eval e X.env)::backTo pos (starEach es X.env))) _ _ s;refine Calls.spliced_cons (thn (ha pins s σ H _ I h) fun u s1 ⟨x,H1,I1,r1,q1⟩=>?_);exact thn (hr pos pins s1 σ H1 _ I1 q1) fun us s2 ⟨xs,H2,I2,r2,q2⟩=>⟨x::xs,H2,I2,.cons r1 r2,q2⟩
def tTup(t:TA):TE:=fun σ H Q=>t σ H fun xs H1=>xs.length<=sizeLine/\∀p,H1 p=none->Q (.ref p) (upd H1 p (.tup xs))
def tLst(t:TA):TE:=fun σ H Q=>t σ H fun xs H1=>xs.length<=sizeLine/\∀p,H1 p=none->Q (.ref p) (upd H1 p (.lst xs))
theorem aH_{x1}(h:PA X es t):PE X (.Tuple es x1 pos) (tTup t):=by
 intro pins s σ H Q I hq;refine wpAny_Tuple_spliced (thn (h pos pins s σ H _ I hq) fun us s1 ⟨xs,H1,I1,r,z,q⟩=>⟨by rw[<- r.length];exact z,?_⟩);have hf:H1 s1.heap.objs.size=none:=I1.hok.fresh (ag' _);refine⟨.ref s1.heap.objs.size,upd H1 s1.heap.objs.size (.tup xs),I1.laid (t':=s1.toks) (fun b u e=>Heap.get?_push_of_some _ e) (ag' _) ?_,rfl,q _ hf⟩;exact⟨z,us,r,⟨_,Heap.get?_push_size _ rfl,rfl,_,rfl⟩,_,Heap.get?_push_size _ rfl,rfl⟩
theorem aX_(h:PA X es t):PE X (.List es pos) (tLst t):=by
 intro pins s σ H Q I hq;refine wpAny_List_spliced (thn (h pos pins s σ H _ I hq) fun us s1 ⟨xs,H1,I1,r,z,q⟩=>⟨by rw[<- r.length];exact z,?_⟩);have hf:H1 s1.heap.objs.size=none:=I1.hok.fresh (ag' _);refine⟨.ref s1.heap.objs.size,upd H1 s1.heap.objs.size (.lst xs),I1.laid (t':=s1.toks) (fun b u e=>Heap.get?_push_of_some _ e) (ag' _) ?_,rfl,q _ hf⟩;exact⟨z,us,0,r,Heap.get?_push_size _ rfl⟩
end
abbrev Sp:=List V->Hp->VK->XK->Prop
abbrev CXT:=List Env->Hp->Shared->XK->Value->Shared->Prop
structure Env0 (P:Program) (w:World) (K:F__) (mg:Str->Option Value) (base:Heap) (A:Around) (outer:List Env) (s:Shared) (H:Hp):Prop where
 frames:A.frames=some outer
 mod:Mod K mg base
 bs:∀b o,base.get? b=some o->s.heap.get? b=some o/\H b=none
 bsz:base.objs.size<=s.heap.objs.size
 funs:s.heap.FunFrames base outer
 frf:∀b∈frs outer,H b=none
 hok:HOk P w H s.heap
 bare:AllBare s.gens
def CE(outer:List Env)(P:Program)(w:World)(H:Hp)(s:Shared)(Q:VK)(u:Value)(s':Shared):Prop:=
 ∃v H',s'.os=s.os/\AllBare s'.gens/\Un (frs outer) [] H H' s.heap s'.heap/\HOk P w H' s'.heap/\RelV v u/\Q v H'
def CR(CX:CXT)(outer:List Env)(P:Program)(w:World)(H:Hp)(s:Shared)(Q:VK)(E:XK)(r:Result)(s':Shared):Prop:=
 match r with
 |.ok (.ret u)=>CE outer P w H s Q u s'
 |.ok _=>False
 |.error e=>CX outer H s E e s'
structure FnOk (P:Program) (w:World) (K:F__) (mg:Str->Option Value) (base:Heap) (CX:CXT) (k:Nat) (f:Addr) (fd:FuncData) (ps:List Str) (sp:Sp):Prop where
 len:∀vs H Q E,sp vs H Q E->vs.length=ps.length
 run:∀(A:Around) (outer:List Env) (s:Shared) (H:Hp) (args:Args) (us:List Value) (vs:List V) (Q:VK) (E:XK),Room k A->Env0 P w K mg base A outer s H->BindsTo s fd args (ps.zip us)->Vals vs us->sp vs H Q E->
  codeAny (model P w) A (.call (.ref f) args) (CR CX outer P w H s Q E) s
theorem Env0.make{P:Program}{w:World}{K:F__}{mg:Str->Option Value}{base:Heap}{A:Around}{outer:List Env}{s:Shared}{H:Hp}(e:Env0 P w K mg base A outer s H)(C:Addr)(us:List Value)(kw:List (Str × Value)) :
  Env0 P w K mg base (A.under (.builtin "type.__call__" ⟨.ref C::us,kw⟩)) outer s H:=⟨by first|exact e.frames|(simpa [Around.under,Code.envs,Code.isFrame,pushEnvs] using e.frames),e.mod,e.bs,e.bsz,e.funs,e.frf,e.hok,e.bare⟩
section
variable{X:Cx}{pins:List (Addr × Obj)}{σ:St}{H:Hp}{s s':Shared}
theorem Inv.env0(I:Inv X pins σ H s):Env0 X.prog X.w X.K X.mg X.base X.A X.stack s H:=
 ⟨I.ok.frames,I.ok.mod,I.bs,aU' I.ok.bsz I.sz,I.stack,I.stkFree,I.hok,I.bare⟩
theorem Inv.after{Q:VK}{u:Value}(I:Inv X pins σ H s)(h:CE X.stack X.prog X.w H s Q u s'):EP X pins σ Q u s':=by
 obtain⟨v,H',os,bare,un,hok,r,q⟩:=h;obtain⟨hh,g,d,t,os'⟩:=s';obtain rfl:os'=s.os:=os;exact⟨v,H',I.call (h':=hh) (g':=g) (d':=d) (t':=t) (ch:=[]) un hok bare (fun b z=>absurd z (by simp)),r,q⟩
end
def tCall(sp:Sp)(dvs:List V)(E:XK)(t:TA):TE:=fun σ H Q=>t σ H fun vs H1=>sp (vs++dvs) H1 Q E
def tMeth(C:Addr)(m:Str)(sp:Sp)(dvs:List V)(E:XK)(ta:TE)(t:TA):TE:=fun σ H Q=>ta σ H fun x H1=>∃a dx fs,x=.ref a/\H1 a=some (.ins C dx fs)/\fs.lookup m=none /\
 t σ H1 fun vs H2=>sp (x::(vs++dvs)) H2 Q E
def tMake(C:Addr)(sp:Sp)(dvs:List V)(E:XK)(t:TA):TE:=fun σ H Q=>t σ H fun vs H1=>∀x dx,H1 x=none->H1 dx=none->dx≠x->
 sp (.ref x::(vs++dvs)) (upd (upd H1 dx (.own x)) x (.ins C dx [])) (fun v H2=>v=.non/\Q (.ref x) H2) E
def bV'(K:F__)(fd:FuncData)(ps:List Str)(ds:List Value):Prop:=
 ∀(s:Shared) (us:List Value),K.In s.heap->(us++ds).length=ps.length->BindsTo s fd ⟨us,[]⟩ (ps.zip (us++ds))
theorem bV'.all{K:F__}{fd:FuncData}{ps:List Str}(h:∀us:List Value,us.length=ps.length->bindArgs fd ⟨us,[]⟩=pure (ps.zip us)):bV' K fd ps []:=fun s us _ hl=>by
 rw[aA'] at hl ⊢;exact .of_eq (h us hl)
def bG'(CX:CXT)(X:Cx)(E:XK):Prop:=∀(pins:List (Addr × Obj)) (σ:St) (H:Hp) (s:Shared) (e:Value) (s':Shared),Inv X pins σ H s->CX X.stack H s E e s'->X.xe e s'
section
variable{X:Cx}{CX:CXT}{k:Nat}{f C:Addr}{fd:FuncData}{ps:List Str}{sp:Sp}{dvs:List V}{ds:List Value}{E:XK}{x m:Str}{p pos apos:Pos}{e o:Expr}{es:List Expr}{ta:TE}{t:TA}
theorem fZ_{pins:List (Addr × Obj)}{σ:St}{H:Hp}{s:Shared}{Q:VK}{us:List Value}{vs:List V}(F:FnOk X.prog X.w X.K X.mg X.base CX k f fd ps sp)(hr:Room k X.A)(hb:bV' X.K fd ps ds)(hd:Vals dvs ds)(hx:bG' CX X E)
  (I:Inv X pins σ H s) (r:Vals vs us) (h:sp (vs++dvs) H Q E):wpAny (model X.prog X.w) X.A (call (.ref f) us) (EP X pins σ Q) X.xe s:=by
 have r2:Vals (vs++dvs) (us++ds):=r.append hd;have hl:(us++ds).length=ps.length:=by rw[<- r2.length];exact F.len _ _ _ _ h
 refine wpAny_call (codeAny_mono (F.run X.A X.stack s H ⟨us,[]⟩ (us++ds) (vs++dvs) Q E hr I.env0 (hb s us I.kIn hl) r2 h) fun r s' hq=>?_);cases r with
 |error e=>exact hx pins σ H s e s' I hq
 |ok fl=>
  cases fl with
  |ret u=>exact I.after hq
  |next=>exact False.elim hq
  |brk=>exact False.elim hq
  |cont=>exact False.elim hq
theorem jN_(F:FnOk X.prog X.w X.K X.mg X.base CX k f fd ps sp)(hr:Room k X.A)(hg:Gl X x)(hm:X.mg x=some (.ref f))(hk:PySem.W.keepIn X.K (.ref f)=true)(hb:bV' X.K fd ps ds)(hd:Vals dvs ds)(hx:bG' CX X E)
  (ha:PA X (e::es) t) (hdb:(x == ("__debug__":Str))=false:=by decide) (he:starEach (e::es) X.env=(false,eval e X.env)::starEach es X.env:=by rfl) (hpl:(backTo pos (starEach es X.env)).any (·.1)=false:=by rfl) :
  PE X (.Call (.Name x p) (e::es) [] pos) (tCall sp dvs E t):=by
 intro pins s σ H Q I h;refine wpAny_Call_Name_kw (di_ I hg hm ?_ hdb);refine PySem.W.callWith_K (h₀:=X.base) I.ok.mod.kin hk (thn (ha pos pins s σ H _ I h) fun us s1 ⟨vs,H1,I1,r,q⟩=>⟨I1.kIn,?_⟩) he hpl;exact fZ_ F hr hb hd hx I1 r q
theorem hp_{pl:Sem Bool}(he:PE X o ta)(c:Cls X.K C)(hm:Meth X.K C m f)(F:FnOk X.prog X.w X.K X.mg X.base CX k f fd ps sp)(hr:Room k X.A)(hb:bV' X.K fd ps ds)(hd:Vals dvs ds)(hx:bG' CX X E)(ha:PA X (e::es) t)
  (hst:starEach (e::es) X.env=(false,eval e X.env)::starEach es X.env:=by rfl) (hpl:(backTo pos (starEach es X.env)).any (·.1)=false:=by rfl)
  (ht:eval (.Call (.Attribute o m apos) (e::es) [] pos) X.env=(do
   let ov <- eval o X.env
   standAt apos.atName
   let (f,first) <- holding [ov] (getMethod ov m pl)
   callWith pos f first (backTo pos (starEach (e::es) X.env)) (backToKw pos (keywordEach [] X.env))):=by rfl) :
  PE X (.Call (.Attribute o m apos) (e::es) [] pos) (tMeth C m sp dvs E ta t):=by
 intro pins s σ H Q I h;refine PySem.W.methodCall_KW (pl:=pl) (thn (he pins s σ H _ I h) fun u s1 ⟨x,H1,I1,rx,a,dx,fs,ex,ea,l,q⟩=>?_) ht;subst ex;obtain rfl:u=Value.ref a:=rx;refine d7_ I1 ea c hm l ?_;refine PySem.W.callWith_K (first:=[.ref a]) (h₀:=X.base) I.ok.mod.kin hm.kp (thn (ha pos pins s1 σ H1 _ I1 q) fun us s2 ⟨vs,H2,I2,r,q2⟩=>⟨I2.kIn,?_⟩) hst hpl;exact fZ_ (us:=.ref a::us) (vs:=.ref a::vs) F hr hb hd hx I2 (.cons rfl r) q2
theorem hU_{pl:Sem Bool}(he:PE X o ta)(c:Cls X.K C)(hm:Meth X.K C m f)(F:FnOk X.prog X.w X.K X.mg X.base CX k f fd ps sp)(hr:Room k X.A)(hb:bV' X.K fd ps ds)(hd:Vals dvs ds)(hx:bG' CX X E)
  (ht:eval (.Call (.Attribute o m apos) [] [] pos) X.env=(do
   let ov <- eval o X.env
   standAt apos.atName
   let (f,first) <- holding [ov] (getMethod ov m pl)
   callWith pos f first (backTo pos (starEach [] X.env)) (backToKw pos (keywordEach [] X.env))):=by rfl) :
  PE X (.Call (.Attribute o m apos) [] [] pos) (tMeth C m sp dvs E ta tNil):=by
 intro pins s σ H Q I h;refine PySem.W.methodCall_KW (pl:=pl) (thn (he pins s σ H _ I h) fun u s1 ⟨x,H1,I1,rx,a,dx,fs,ex,ea,l,q⟩=>?_) ht;subst ex;obtain rfl:u=Value.ref a:=rx;refine d7_ I1 ea c hm l ?_;exact PySem.W.callWith_K0 (first:=[.ref a]) I1.kIn hm.kp (fZ_ (us:=[.ref a]) (vs:=[.ref a]) F hr hb hd hx I1 (.cons rfl .nil) q)
structure Mk (K:F__) (C f:Addr):Prop where
 makes:PySem.W.makesIn K C=true
 init:PySem.W.findIn K (.ref C) "__init__"=some (some (.ref f))
 fn:PySem.W.isFn K (.ref f)=true
 kp:PySem.W.keepIn K (.ref C)=true
theorem hF_{pins:List (Addr × Obj)}{σ:St}{H:Hp}{s:Shared}{Q:VK}{us:List Value}{vs:List V}(M:Mk X.K C f)(F:FnOk X.prog X.w X.K X.mg X.base CX k f fd ps sp)(hr:Room (k+1) X.A)(hb:bV' X.K fd ps ds)(hd:Vals dvs ds)
  (hx:bG' CX X E) (I:Inv X pins σ H s) (r:Vals vs us)
  (h:∀x dx,H x=none->H dx=none->dx≠x->sp (.ref x::(vs++dvs)) (upd (upd H dx (.own x)) x (.ins C dx [])) (fun v H2=>v=.non/\Q (.ref x) H2) E) :
  wpAny (model X.prog X.w) X.A (call (.ref C) us) (EP X pins σ Q) X.xe s:=by
 have hq:=h (s.heap.objs.size+1) s.heap.objs.size (I.hok.fresh (Nat.le_succ _)) (I.hok.fresh (ag' _)) (au' (Nat.lt_succ_self _));have I2:=Inv.made (C:=C) I;have r2:Vals (V.ref (s.heap.objs.size+1)::(vs++dvs)) (Value.ref (s.heap.objs.size+1)::(us++ds)):=.cons rfl (r.append hd)
 have hl:(Value.ref (s.heap.objs.size+1)::us++ds).length=ps.length:=by
  have e:=r2.length;rw[F.len _ _ _ _ hq] at e;exact e.symm
 refine wpAny_call (ij_ (f:=f) I.kIn M.makes M.init (beq_iff_eq.mp M.fn) (codeAny_mono (F.run _ X.stack _ _ ⟨Value.ref (s.heap.objs.size+1)::us,[]⟩ (Value.ref (s.heap.objs.size+1)::(us++ds)) _ _ E (hr.make C us [])
  (I2.env0.make C us []) (hb _ (Value.ref (s.heap.objs.size+1)::us) I2.kIn hl) r2 hq) fun r s' hq'=>?_))
 cases r with
 |error e=>exact hx pins σ _ _ e s' I2 hq'
 |ok fl=>
  cases fl with
  |ret u=>
   obtain⟨v,H',I3,rv,ev,q3⟩:=I2.after hq';subst ev;exact⟨rv,⟨V.ref (s.heap.objs.size+1),H',I3,rfl,q3⟩⟩
  |next=>exact False.elim hq'
  |brk=>exact False.elim hq'
  |cont=>exact False.elim hq'
theorem jg_(M:Mk X.K C f)(F:FnOk X.prog X.w X.K X.mg X.base CX k f fd ps sp)(hr:Room (k+1) X.A)(hg:Gl X x)(hm:X.mg x=some (.ref C))(hb:bV' X.K fd ps ds)(hd:Vals dvs ds)(hx:bG' CX X E)
  (ha:PA X (e::es) t) (hdb:(x == ("__debug__":Str))=false:=by decide) (he:starEach (e::es) X.env=(false,eval e X.env)::starEach es X.env:=by rfl) (hpl:(backTo pos (starEach es X.env)).any (·.1)=false:=by rfl) :
  PE X (.Call (.Name x p) (e::es) [] pos) (tMake C sp dvs E t):=by
 intro pins s σ H Q I h;refine wpAny_Call_Name_kw (di_ I hg hm ?_ hdb);refine PySem.W.callWith_K (h₀:=X.base) I.ok.mod.kin M.kp (thn (ha pos pins s σ H _ I h) fun us s1 ⟨vs,H1,I1,r,q⟩=>⟨I1.kIn,?_⟩) he hpl;exact hF_ M F hr hb hd hx I1 r q
end
def PK(X:Cx)(kws:List Keyword)(t:TA):Prop:=
 ∀(pos:Pos) (pins:List (Addr × Obj)) (s:Shared) (σ:St) (H:Hp) (Q:List V->Hp->Prop),Inv X pins σ H s->t σ H Q->wpAny (model X.prog X.w) X.A (evalAll ((backToKw pos (keywordEach kws X.env)).map (·.2))) (AP X pins σ Q) X.xe s
section
variable{X:Cx}{CX:CXT}{k:Nat}{f C:Addr}{fd:FuncData}{ps ks:List Str}{sp:Sp}{E:XK}{x m:Str}{p pos apos kpos:Pos}{e o:Expr}{es:List Expr}{kws:List Keyword}{te ta:TE}{t tk:TA}{nm:Option Str}
theorem iv_:PK X [] tNil:=fun _ _ _ _ H Q I h=>wpAny_evalAll_nil ⟨[],H,I,.nil,h⟩
theorem h7_(ha:PE X e te)(hr:PK X kws t):PK X (⟨nm,e,kpos⟩::kws) (tCons te t):=by
 intro pos pins s σ H Q I h;show wpAny _ _ (evalAll ((do let v <- eval e X.env;standAt pos;pure v)::(backToKw pos (keywordEach kws X.env)).map (·.2))) _ _ s;refine wpAny_evalAll_cons (wpAny_bind (thn (ha pins s σ H _ I h) fun u s1 ⟨x,H1,I1,r1,q1⟩=>wpAny_bind (wpAny_standAt (wpAny_pure ?_))));exact thn (hr pos pins s1 σ H1 _ I1 q1) fun us s2 ⟨xs,H2,I2,r2,q2⟩=>⟨x::xs,H2,I2,.cons r1 r2,q2⟩
structure KBinds (K:F__) (fd:FuncData) (ps ks:List Str) (g:List Value->List Value->List Value) (gV:List V->List V->List V):Prop where
 to:∀(s:Shared) (us ws:List Value),K.In s.heap->(g us ws).length=ps.length->BindsTo s fd ⟨us,ks.zip ws⟩ (ps.zip (g us ws))
 rel:∀{vs:List V} {us:List Value} {zs:List V} {ws:List Value},Vals vs us->Vals zs ws->Vals (gV vs zs) (g us ws)
variable{g:List Value->List Value->List Value}{gV:List V->List V->List V}
end
structure a7' (N P:List Str) (sc:Scope):Prop where
 kind:sc.kind=.function
 co:sc.isCoroutine=false
 gen:sc.isGenerator=false
 nd:N.Nodup
 pre:N.take P.length=P
 par:∀x∈P,sc.names.lookup x=some .local∨sc.names.lookup x=some .cell
 nofree:∀y∈sc.names,y.2≠.free
theorem dR_{kindOf:Str->Option NameKind}{x:Str}:∀{binds:List (Str × Value)} {m:Str->Option Value},(∀v,(x,v)∉binds)->bindL kindOf binds m x=m x
 |[],_,_=>rfl
 |(n,v)::r,m,h=>by
  unfold bindL;rw[dR_ fun w hw=>h w (af' _ hw)];split
  ·have:x≠n:=by rintro rfl;exact h v ah'
   simp[this]
  ·rfl
theorem dz_{kindOf:Str->Option NameKind}{x:Str}:∀{binds:List (Str × Value)} {m:Str->Option Value},(∀v,(x,v)∉binds)->bindC kindOf binds m x=m x
 |[],_,_=>rfl
 |(n,v)::r,m,h=>by
  unfold bindC;rw[dz_ fun w hw=>h w (af' _ hw)];split
  ·rfl
  ·have:x≠n:=by rintro rfl;exact h v ah'
   simp[this]
theorem e5_{kindOf:Str->Option NameKind}{x:Str}{v:Value}:∀{P:List Str} {vs:List Value} {i:Nat} {m:Str->Option Value},P.Nodup->P[i]? = some x->vs[i]? = some v->kindOf x=some .local->
  bindL kindOf (P.zip vs) m x=some v
 |[],_,_,_,_,h,_,_=>by simp at h
 |_::_,[],_,_,_,_,h,_=>by simp at h
 |p::P,w::vs,0,m,nd,h1,h2,hk=>by
  simp at h1 h2;subst h1;subst h2;show bindL kindOf ((p,w)::P.zip vs) m p=_;unfold bindL;rw[dR_ fun v hv=>(aI'.mp nd).1 (List.of_mem_zip hv).1,if_pos hk];simp
 |p::P,w::vs,i+1,m,nd,h1,h2,hk=>by
  show bindL kindOf ((p,w)::P.zip vs) m x=_;unfold bindL;exact e5_ (i:=i) (aI'.mp nd).2 (by simpa using h1) (by simpa using h2) hk
theorem e4_{kindOf:Str->Option NameKind}{x:Str}{v:Value}:∀{P:List Str} {vs:List Value} {i:Nat} {m:Str->Option Value},P.Nodup->P[i]? = some x->vs[i]? = some v->kindOf x≠some .local->
  bindC kindOf (P.zip vs) m x=some v
 |[],_,_,_,_,h,_,_=>by simp at h
 |_::_,[],_,_,_,_,h,_=>by simp at h
 |p::P,w::vs,0,m,nd,h1,h2,hk=>by
  simp at h1 h2;subst h1;subst h2;show bindC kindOf ((p,w)::P.zip vs) m p=_;unfold bindC;rw[dz_ fun v hv=>(aI'.mp nd).1 (List.of_mem_zip hv).1,if_neg hk];simp
 |p::P,w::vs,i+1,m,nd,h1,h2,hk=>by
  show bindC kindOf ((p,w)::P.zip vs) m x=_;unfold bindC;exact e4_ (i:=i) (aI'.mp nd).2 (by simpa using h1) (by simpa using h2) hk
def start(N:List Str)(vs:List V):St:=vs.map some++List.replicate (N.length - vs.length) none
def cxOf(CX:CXT)(P:Program)(w:World)(K:F__)(mg:Str->Option Value)(base:Heap)(N:List Str)(qual:Str)(scope:Scope)(f:Addr)(cd:Value)(A:Around)(outer:List Env)(s:Shared)(H:Hp)(E:XK):Cx where
 prog:=P
 w:=w
 K:=K
 mg:=mg
 base:=base
 A:=A.deeper (envOfC qual scope s.heap.objs.size f cd)
 N:=N
 s₀:=s
 H₀:=H
 env:=envOfC qual scope s.heap.objs.size f cd
 outer:=outer
 stack:=envOfC qual scope s.heap.objs.size f cd::outer
 ex:=[]
 calm:=true
 fn:=fun _=>true
 pn:=[]
 xe:=fun e s'=>wpAny (model P w) (A.deeper (envOfC qual scope s.heap.objs.size f cd)) (leaving (envOfC qual scope s.heap.objs.size f cd) e) (fun _ s''=>CX outer H s E e s'') (fun e' s''=>CX outer H s E e' s'') s'
theorem f0_{sc:Scope}{n:Nat}{x:Str}(h:sc.names.lookup x=some .cell):∃c,(cellsFrom n sc.names []).lookup x=some c:=by
 have q:=PySem.W.cellsFrom_some sc.names n [] (.inl h);exact Option.isSome_iff_exists.mp q
theorem fW_{CX:CXT}{P:Program}{w:World}{K:F__}{mg:Str->Option Value}{base:Heap}{N ps:List Str}{qual:Str}{scope:Scope}{f:Addr}{cd:Value}{A:Around}{outer:List Env}{s s1:Shared}{H:Hp}{E:XK}{us:List Value}{vs:List V}
  (S:a7' N ps scope) (hd:A.handled=none) (e0:Env0 P w K mg base A outer s H) (hl:vs.length=ps.length) (r:Vals vs us)
  (x:InCallC s s.heap.objs.size (bindL (envOfC qual scope s.heap.objs.size f cd).kindOf (ps.zip us) fun _=>none) (cellsFrom (s.heap.objs.size+1) scope.names []) (bindC (envOfC qual scope s.heap.objs.size f cd).kindOf (ps.zip us) fun _=>none) s1) :
  Inv (cxOf CX P w K mg base N qual scope f cd A outer s H E) [] (start N vs) H s1:=by
 have hpl:ps.length<=N.length:=by have:=congrArg List.length S.pre;rw[ak'] at this;omega
 obtain⟨h1,tk,rfl,hk⟩:=x.done;have noA:∀b:Addr,b∉(cxOf CX P w K mg base N qual scope f cd A outer s H E).ex:=fun b z=>absurd (show b∈([]:List Addr) from z) (by simp)
 refine⟨⟨e0.mod,S.kind,rfl,rfl,ag' _,fun y z c h1 h2=>?_,fun y hy=>?_,fun y c _ h=>?_,fun _=>hd,Around.frames_deeper e0.frames,.inr ⟨rfl,rfl⟩,fun b z=>absurd z (noA b),e0.bs,e0.bsz,fun b _ _=>noA b,fun b z=>absurd z (noA b),e0.funs,e0.frf⟩,
  rfl,e0.bare,Un.kept hk,⟨_,x.toInCall.ns,fun i y v h1 h2 h3=>?_⟩,fun y c h=>⟨_,x.cell y c h⟩,e0.hok.fresh (ag' _),fun y c h=>?_,fun p hp=>absurd (show p∈([]:List (Addr × Obj)) from hp) (by simp),e0.hok.kept hk,?_⟩
 ·exact name_of_addr x.apart (PySem.mem_of_lookup h1) (PySem.mem_of_lookup h2)
 ·have hy:scope.names.lookup y=some .cell∨scope.names.lookup y=some .free:=hy;rcases hy with hy|hy
  ·exact f0_ hy
  ·exact absurd rfl (S.nofree _ (PySem.mem_of_lookup hy))
 ·exact Nat.le_of_lt (x.above y c (PySem.mem_of_lookup h))
 ·have hi:i<vs.length:=by
   unfold start at h2;by_cases hi:i<vs.length
   ·exact hi
   ·rw[aQ' (by simpa using hi)] at h2;rw[List.getElem?_replicate] at h2;split at h2<;>cases h2
  have ha:vs[i]? = some v:=by
   unfold start at h2;rw[aS' (by simpa using hi),an'] at h2;cases e:vs[i]? with
   |none=>rw[e] at h2;cases h2
   |some a=>rw[e] at h2;cases h2;rfl
  obtain⟨u,hu,rv⟩:=r.get ha
  have hp:ps[i]? = some y:=by
   rw[<- S.pre,List.getElem?_take_of_lt (by omega)];exact h1
  have ndP:ps.Nodup:=by rw[<- S.pre];exact S.nd.sublist (List.take_sublist _ _)
  refine⟨u,rv,?_⟩;rcases S.par y (ac' hp) with k|k
  ·exact .inl ⟨k,e5_ ndP hp hu k⟩
  ·obtain⟨c,e⟩:=f0_ (n:=s.heap.objs.size+1) k;refine .inr ⟨.inl k,c,e,?_⟩;have q:=x.cell y c e;rw[e4_ ndP hp hu (by show scope.names.lookup y≠_;rw[k];decide)] at q;exact q
 ·exact e0.hok.fresh (Nat.le_of_lt (x.above y c (PySem.mem_of_lookup h)))
 ·unfold start;show _=N.length;rw[aq',aa',aJ'];omega
theorem jF_{CX:CXT}{P:Program}{w:World}{K:F__}{mg:Str->Option Value}{base:Heap}{k:Nat}{f:Addr}{name qual:Str}{params:Arguments}{body:List Stmt}{scope:Scope}{dV kV doc pm cdv ct oc:Value}{an od:Option Addr}
  {osl:Array (Option Value)} {N ps:List Str} {sp:Sp} (lk:K.lookup f=some ⟨oc,od,.func (PySem.W.fnOf name qual params body scope dV kV doc pm an cdv ct),osl⟩) (hcd:PySem.W.codeIn K cdv qual=true) (S:a7' N ps scope)
  (len:∀vs H Q E,sp vs H Q E->vs.length=ps.length)
  (hbody:∀(A:Around) (outer:List Env) (s:Shared) (H:Hp) (vs:List V) (Q:VK) (E:XK),Room k (A.deeper (envOfC qual scope s.heap.objs.size f cdv))->sp vs H Q E->
   ∃t,PSs (cxOf CX P w K mg base N qual scope f cdv A outer s H E) body t/\t { nx:=fun _ H'=>Q .non H',rt:=Q } (start N vs) H) :
  FnOk P w K mg base CX (k+1) f (PySem.W.fnOf name qual params body scope dV kV doc pm an cdv ct) ps sp:=by
 refine⟨len,fun A outer s H args us vs Q E hr e0 hb r hsp=>?_⟩;have hl:=len _ _ _ _ hsp;have KX:K.In s.heap:=e0.mod.kin.keeps fun b o e=>(e0.bs b o e).1;have lim:s.heap.NoLimit:=e0.mod.nolimit.keeps fun b o e=>(e0.bs b o e).1
 have hkind:∀y∈ps.zip us,scope.names.lookup y.1=some .local∨(scope.names.lookup y.1=some .cell/\((cellsFrom (s.heap.objs.size+1) scope.names []).lookup y.1).isSome=true):=fun⟨n,v⟩ hy=>by
  rcases S.par n (List.of_mem_zip hy).1 with q|q
  ·exact .inl q
  ·exact .inr ⟨q,PySem.W.cellsFrom_some _ _ _ (.inl q)⟩
 refine codeAny_call_function hr.depth (KX _ _ lk) rfl S.co S.gen rfl (PySem.W.codeRec_of KX hcd) (hb _ _ _ _ ?_);refine wpAny_newFunctionEnv_cells S.kind hkind fun env he s1 x=>?_;subst he;refine⟨lim.keeps x.toInCall.keep,codeAny_func ?_⟩;obtain⟨t,ht,hq⟩:=hbody A outer s H vs Q E (hr.deeper _) hsp;have I:Inv (cxOf CX P w K mg base N qual scope f cdv A outer s H E) [] (start N vs) H s1:=fW_ S hr.hd e0 hl r x;refine wpAny_mono (ht [] s1 (start N vs) H _ I hq) (fun fl s' hs=>?_) fun e s' hs=>hs
 have fin:∀{σ':St} {H':Hp} {v:V} {u:Value},Inv (cxOf CX P w K mg base N qual scope f cdv A outer s H E) [] σ' H' s'->RelV v u->Q v H'->CE outer P w H s Q u s':=
  fun {σ' H' v u} J rv q=>⟨v,H',J.os,J.bare,J.base,J.hok,rv,q⟩
 cases fl with
 |ret u=>
  obtain⟨v,σ',H',J,rv,q⟩:=hs;exact fin J rv q
 |next=>
  obtain⟨σ',H',J,q⟩:=hs;exact fin (v:=V.non) (u:=Value.none) J rfl q
 |brk=>
  obtain⟨_,_,_,q⟩:=hs;exact False.elim q
 |cont=>
  obtain⟨_,_,_,q⟩:=hs;exact False.elim q
end L2
namespace L2
open PySem PySem.Spec PyProof.Rows
section
variable{X:Cx}{x:Str}{p pos:Pos}{e:Expr}{es:List Expr}{t:TA}{id T:String}{r:List V->Hp->VK->Prop}
def tCB(r:List V->Hp->VK->Prop)(t:TA):TE:=fun σ H Q=>t σ H fun vs H1=>r vs H1 Q
theorem ad_(hc:bu' X (.builtin id) r)(hg:Gl X x)(hm:X.mg x=none)(hv:bootBuiltins x=some (.builtin id))(ha:PA X (e::es) t)(hn:x≠"__name__":=by decide)(hdb:(x == ("__debug__":Str))=false:=by decide)
  (he:starEach (e::es) X.env=(false,eval e X.env)::starEach es X.env:=by rfl) (hpl:(backTo pos (starEach es X.env)).any (·.1)=false:=by rfl):PE X (.Call (.Name x p) (e::es) [] pos) (tCB r t):=by
 intro pins s σ H Q I h;refine wpAny_Call_Name_kw (d5_ I hg hm hv ?_ hn hdb);exact PyProof.Rows.callWith_builtin1 (thn (ha pos pins s σ H _ I h) fun us s1 ⟨vs,H1,I1,r1,q1⟩=>hc pins s1 σ H1 vs us Q I1 r1 q1) he hpl
theorem aq_(hc:bu' X (.type T) r)(hg:Gl X x)(hm:X.mg x=none)(hv:bootBuiltins x=some (.type T))(ha:PA X (e::es) t)(hn:x≠"__name__":=by decide)(hdb:(x == ("__debug__":Str))=false:=by decide)
  (he:starEach (e::es) X.env=(false,eval e X.env)::starEach es X.env:=by rfl) (hpl:(backTo pos (starEach es X.env)).any (·.1)=false:=by rfl):PE X (.Call (.Name x p) (e::es) [] pos) (tCB r t):=by
 intro pins s σ H Q I h;refine wpAny_Call_Name_kw (d5_ I hg hm hv ?_ hn hdb);exact PyProof.Rows.callWith_type1 (thn (ha pos pins s σ H _ I h) fun us s1 ⟨vs,H1,I1,r1,q1⟩=>hc pins s1 σ H1 vs us Q I1 r1 q1) he hpl
end
end L2
namespace HT
open PySem PyProof.Rows
section
open PySem.SeqAt
open PySem.AutoSeq1 (wpAny_loadPart')
open PySem.MeetsSeq PySem.MeetsSeq2 PySem.MeetsSeq3
end
section
variable{prog:Program}{w:World}{A:Around}{E:Value->Shared->Prop}{s:Shared}
def sIx(n d:Nat):Option Int->Nat
 |none=>d
 |some v=>if v<0 then (v+(n:Int)).toNat else min v.toNat n
theorem sIx_none(n d:Nat):sIx n d none=d:=rfl
theorem sIx_nat(n d k:Nat):sIx n d (some (k:Int))=min k n:=by
 show (if (k:Int)<0 then ((k:Int)+(n:Int)).toNat else min (k:Int).toNat n)=min k n;rw[if_neg (by omega),Int.toNat_natCast]
end
end HT
namespace L2
open PySem PySem.Spec PyProof.Rows
abbrev TO:=St->Hp->(Option Int->Hp->Prop)->Prop
def PO(X:Cx)(e:Option Expr)(t:TO):Prop:=
 ∀(pins:List (Addr × Obj)) (s:Shared) (σ:St) (H:Hp) (Q:Option Int->Hp->Prop),Inv X pins σ H s->t σ H Q->
  wpAny (model X.prog X.w) X.A (evalPart e X.env) (fun u s'=>∃o H',Inv X pins σ H' s'/\IsPart u o/\Q o H') X.xe s
def tNoPart:TO:=fun _ H Q=>Q none H
def tPart(t:TE):TO:=fun σ H Q=>t σ H fun x H1=>∃i,x=.int i/\Q (some i) H1
section
variable{X:Cx}{e:Expr}{te:TE}{lo hi:Option Expr}{tl th:TO}{pos p2:Pos}
theorem cT_:PO X none tNoPart:=by
 intro pins s σ H Q I h;rw[evalPart_none];exact wpAny_pure ⟨none,H,I,.none,h⟩
theorem cP_(h:PE X e te):PO X (some e) (tPart te):=by
 intro pins s σ H Q I hw;rw[evalPart_some];refine thn (h pins s σ H _ I hw) fun u s1 ⟨x,H1,I1,r1,q1⟩=>?_;obtain⟨i,rfl,q⟩:=q1;obtain⟨t,rfl⟩:=r1;exact⟨some i,H1,I1,.int i t,q⟩
def SlR(X:Cx)(r:V->Option Int->Option Int->Hp->VK->Prop):Prop:=
 ∀(pins:List (Addr × Obj)) (s:Shared) (σ:St) (H:Hp) (x:V) (v vl vu:Value) (lo hi:Option Int) (sl:Addr) (Q:VK),Inv X pins σ H s->RelV x v->s.heap.IsSliceOf sl vl vu .none->IsPart vl lo->IsPart vu hi->r x lo hi H Q->
  ∃T id,typeLookup (.type T) "__getitem__"=pure (some (.builtin id))/\s.TypeIs v T/\wpAny (model X.prog X.w) X.A (getItem v (.ref sl)) (EP X pins σ Q) X.xe s
def tSl(r:V->Option Int->Option Int->Hp->VK->Prop)(te:TE)(tl th:TO):TE:=fun σ H Q=>te σ H fun x H1=>tl σ H1 fun l H2=>th σ H2 fun u H3=>r x l u H3 Q
theorem bR_{r:V->Option Int->Option Int->Hp->VK->Prop}(hr:SlR X r)(he:PE X e te)(hl:PO X lo tl)(hu:PO X hi th):PE X (.Subscript e (.Slice lo hi none p2) pos) (tSl r te tl th):=by
 intro pins s σ H Q I h;refine Subscript_ (thn (he pins s σ H _ I h) fun v s1 ⟨x,H1,I1,r1,q1⟩=>?_);refine wpAny_Slice (thn (hl pins s1 σ H1 _ I1 q1) fun vl s2 ⟨l,H2,I2,pl,q2⟩=>thn (hu pins s2 σ H2 _ I2 q2) fun vu s3 ⟨u,H3,I3,pu,q3⟩=>?_);rw[evalPart_none];refine wpAny_pure ?_;have I4:Inv X pins σ H3 { s3 with heap:=s3.heap.push { cls:=.type "slice",data:=.fields #[vl,vu,.none] } }:=I3.kept (t':=s3.toks) fun b ob q=>Heap.get?_push_of_some _ q;obtain⟨T,id,hT,ht,hg⟩:=hr pins { s3 with heap:=s3.heap.push { cls:=.type "slice",data:=.fields #[vl,vu,.none] } } σ H3 x v vl vu l u s3.heap.objs.size Q I4 r1 (Heap.IsSliceOf.new ..) pl pu q3;show wpAny (model X.prog X.w) X.A (subscriptTail e (.Slice lo hi none p2) v (.ref s3.heap.objs.size)) (EP X pins σ Q) X.xe { s3 with heap:=s3.heap.push { cls:=.type "slice",data:=.fields #[vl,vu,.none] } };exact tail_any (ops:=[.ref s3.heap.objs.size,v]) ht hT hg (by with_unfolding_all rfl)
def cutV(xs:List V)(lo hi:Option Int):List V:=(xs.drop (HT.sIx xs.length 0 lo)).take (HT.sIx xs.length xs.length hi - HT.sIx xs.length 0 lo)
theorem eE_(xs:List V)(lo hi:Option Int):(cutV xs lo hi).length<=xs.length:=by
 unfold cutV;rw[ak',List.length_drop];omega
end
end L2
namespace L2
open PySem PySem.Spec PyProof.Rows
def ixN(n:Nat)(i:Int):Option Nat:=if 0<=i then (if i<n then some i.toNat else none) else if -(n:Int)<=i then some (i+n).toNat else none
def atI{α:Type}(xs:List α)(i:Int):Option α:=(ixN xs.length i).bind fun j=>xs[j]?
theorem gv_{n:Nat}{i:Int}{j:Nat}(h:ixN n i=some j):seqIndex? i n=some j/\j<n/\-(n:Int)<=i/\i<n:=by
 unfold ixN at h;by_cases h0:0<=i
 ·rw[if_pos h0] at h;by_cases h1:i<n
  ·rw[if_pos h1] at h;have e:i.toNat=j:=Option.some.inj h;exact⟨by rw[seqIndex_of h0 h1,e],by omega,by omega,h1⟩
  ·rw[if_neg h1] at h;cases h
 ·rw[if_neg h0] at h;by_cases h1:-(n:Int)<=i
  ·rw[if_pos h1] at h;have e:(i+n).toNat=j:=Option.some.inj h;exact⟨by rw[seqIndex_neg (by omega) h1,e],by omega,h1,by omega⟩
  ·rw[if_neg h1] at h;cases h
theorem eB_{α:Type}{xs:List α}{i:Int}{v:α}(h:atI xs i=some v):∃j,seqIndex? i xs.length=some j/\xs[j]? = some v/\j<xs.length/\-(xs.length:Int)<=i/\i<xs.length:=by
 unfold atI at h;cases e:ixN xs.length i with
 |none=>rw[e] at h;cases h
 |some j=>
  rw[e] at h;obtain⟨h1,h2,h3,h4⟩:=gv_ e;exact⟨j,h1,h,h2,h3,h4⟩
theorem bW'{α:Type}{xs:List α}{j:Nat}{v:α}(h:xs[j]? = some v):atI xs (j:Int)=some v:=by
 have hj:j<xs.length:=(ab'.mp h).1
 have e:ixN xs.length (j:Int)=some j:=by
  unfold ixN;rw[if_pos (by omega),if_pos (by omega)];simp
 unfold atI;rw[e];exact h
def PlainIx(b:Expr):Prop:=∀o i,subscripted b false o i=operate [o,i] (getItem o i)
def IxR(X:Cx)(r:R2):Prop:=
 ∀(value slice:Expr) (pins:List (Addr × Obj)) (s:Shared) (σ:St) (H:Hp) (x y:V) (v u:Value) (Q:VK),Inv X pins σ H s->RelV x v->RelV y u->r x y H Q->
  subscripted slice false v u=operate [v,u] (getItem v u)->wpAny (model X.prog X.w) X.A (subscriptTail value slice v u) (EP X pins σ Q) X.xe s
def MtR(X:Cx)(id:String)(r:V->List V->Hp->VK->Prop):Prop:=
 ∀(pins:List (Addr × Obj)) (s:Shared) (σ:St) (H:Hp) (x:V) (xs:List V) (v:Value) (us:List Value) (Q:VK),Inv X pins σ H s->RelV x v->Vals xs us->r x xs H Q->
  wpAny (model X.prog X.w) X.A (call (.builtin id) (v::us)) (EP X pins σ Q) X.xe s
section
variable{X:Cx}{a b:Expr}{ta tb:TE}{pos:Pos}
theorem aF_{r:R2}(hr:IxR X r)(ha:PE X a ta)(hb:PE X b tb)(hs:PlainIx b):PE X (.Subscript a b pos) (tOp r ta tb):=by
 intro pins s σ H Q I h;exact Subscript_ (binT ha hb I h fun v u s2 x y H2 I2 rx ry q=>hr a b pins s2 σ H2 x y v u Q I2 rx ry q (hs _ _))
def rIxL(K:F__):R2:=fun x y H Q=>∃p xs i v,x=.ref p/\y=.int i/\SqL K H p xs/\atI xs i=some v/\Q v H
def rIxT(K:F__):R2:=fun x y H Q=>∃p xs i v,x=.ref p/\y=.int i/\SqT K H p xs/\atI xs i=some v/\Q v H
def rIxS:R2:=fun x y H Q=>∃z i c,x=.str z/\y=.int i/\z.length<=sizeLine/\atI z.cps.toList i=some c/\Q (.str ⟨#[c]⟩) H
theorem b2_:IxR X (rIxL X.K):=by
 intro value slice pins s σ H x y v u Q I rx ry h hs;obtain⟨p,xs,i,z,rfl,rfl,hq,he,q⟩:=h;cases rx;obtain⟨t,rfl⟩:=ry;obtain⟨its,r,pl,hz⟩:=I.list hq;obtain⟨j,h1,h2,h3,h4,h5⟩:=eB_ he;obtain⟨w,ew,rw'⟩:=r.get h2;have hl:=r.length;have hn:=line63;have fin:EP X pins σ Q w s:=⟨z,H,I,rw',q⟩;by_cases h0:0<=i
 ·have hj:i.toNat=j:=by
   rw[seqIndex_of h0 h5] at h1;exact Option.some.inj h1
  exact item_listR pl.isList h0 (by omega) (by rw[hj];simpa using ew) fin hs
 ·have hj:(i+(its.toArray.size:Int)).toNat=j:=by
   rw[seqIndex_neg (by omega) h4] at h1;rw[ai',<- hl];exact Option.some.inj h1
  exact subscriptTail_builtinR (x:=w) pl.isList.typeIs slot_list_getitem.lookup
   (wpAny_getItem_list_neg (Q:=fun r s'=>r=w/\EP X pins σ Q r s') pl.isList (by omega) (by rw[ai']<;>omega) (by omega) (by rw[hj];simpa using ew) ⟨rfl,fin⟩) hs
theorem aQ_:IxR X (rIxT X.K):=by
 intro value slice pins s σ H x y v u Q I rx ry h hs;obtain⟨p,xs,i,z,rfl,rfl,hq,he,q⟩:=h;cases rx;obtain⟨t,rfl⟩:=ry;obtain⟨its,r,pl,hz⟩:=I.tuple hq;obtain⟨j,h1,h2,h3,h4,h5⟩:=eB_ he;obtain⟨w,ew,rw'⟩:=r.get h2;have hl:=r.length;have hn:=line63;have fin:EP X pins σ Q w s:=⟨z,H,I,rw',q⟩
 exact subscriptTail_builtinR (x:=w) pl.typeIs slot_tuple_getitem.lookup
  (getItem_tuple (j:=j) (Q:=fun r s'=>r=w/\EP X pins σ Q r s') pl (by omega) (by omega) (by rw[ai',<- hl];exact h1) (by simpa using ew) ⟨rfl,fin⟩) hs
theorem iH_:IxR X rIxS:=by
 intro value slice pins s σ H x y v u Q I rx ry h hs;obtain⟨z,i,c,rfl,rfl,hz,he,q⟩:=h;obtain⟨t,rfl⟩:=rx;obtain⟨t',rfl⟩:=ry;obtain⟨j,h1,h2,h3,h4,h5⟩:=eB_ he;have hl:z.cps.toList.length=z.length:=by simp[Str.length]
 rw[hl] at h1 h4 h5;have hn:=line63
 exact tail_any (typeIs_str s z t) slot_str_getitem.lookup (getItem_str (c:=c) (by
  have e1:decide (i < -(2 ^ 63:Int))=false:=decide_eq_false (by omega);have e2:decide (i ≥ 2 ^ 63)=false:=decide_eq_false (by omega);rw[e1,e2,Bool.or_false]) (by rw[h1];simpa using h2) ⟨.str ⟨#[c]⟩,H,I.tok _,⟨_,rfl⟩,q⟩) hs
theorem fT_(its:List Value)(n j:Nat)(u:Value):Obj.mapSeq (·.setIfInBounds j u) { cls:=.type "list",data:=.seq its.toArray n }={ cls:=.type "list",data:=.seq (its.set j u).toArray n }:=by
 simp[Obj.mapSeq]
theorem Inv.lst{pins:List (Addr × Obj)}{σ:St}{H:Hp}{s:Shared}{p:Addr}{xs:List V}(I:Inv X pins σ H s)(h:H p=some (.lst xs)) :
  ∃(its:List Value) (n:Nat),Vals xs its/\s.heap.get? p=some { cls:=.type "list",data:=.seq its.toArray n }/\xs.length<=sizeLine:=by
 obtain⟨z,its,n,r,e⟩:=I.hok p _ h;exact⟨its,n,r,e,z⟩
theorem Inv.lstUpd{pins:List (Addr × Obj)}{σ:St}{H:Hp}{s:Shared}{p:Addr}{xs ys:List V}{its its':List Value}{n n':Nat}{f:Obj->Obj}(I:Inv X pins σ H s)(h:H p=some (.lst xs))
  (ho:s.heap.get? p=some { cls:=.type "list",data:=.seq its.toArray n }) (hf:f { cls:=.type "list",data:=.seq its.toArray n }={ cls:=.type "list",data:=.seq its'.toArray n' }) (r:Vals ys its') (hz:ys.length<=sizeLine) (t:Nat) :
  Inv X pins σ (upd H p (.lst ys)) { s with heap:=s.heap.update p f,toks:=t }:=by
 have e:(s.heap.update p f).get? p=some { cls:=.type "list",data:=.seq its'.toArray n' }:=by
  rw[Heap.get?_update_self f ho (by rw[hf]<;>rfl),hf]
 refine I.write (x:=p) (e:=p) (by rw[h];trivial) (.inl rfl) (fun b u hb q=>(Heap.get?_update_other _ _ (Ne.symm hb)).trans q) ⟨_,e⟩ ?_;exact⟨hz,its',n',r,e⟩
def rSetL:V->V->V->Hp->(Hp->Prop)->Prop:=fun o i v H Q=>∃p xs k j,o=.ref p/\i=.int k/\H p=some (.lst xs)/\ixN xs.length k=some j/\Q (upd H p (.lst (xs.set j v)))
theorem fj_:PSet X rSetL:=by
 intro pins s σ H o i v ov iv u Q I ro ri rv h;obtain⟨p,xs,k,j,rfl,rfl,hp,hj,q⟩:=h;cases ro;obtain⟨t,rfl⟩:=ri;obtain⟨its,n,r,ho,hz⟩:=I.lst hp;obtain⟨h1,h2,h3,h4⟩:=gv_ hj;have hl:=r.length;have hn:=line63
 have I':Inv X pins σ (upd H p (.lst (xs.set j v))) { s with heap:=s.heap.update p (Obj.mapSeq (·.setIfInBounds j u)) }:=
  I.lstUpd hp ho (fT_ its n j u) (r.set rv j) (by rw[List.length_set];exact hz) s.toks
 by_cases h0:0<=k
 ·have hk:k.toNat=j:=by
   rw[seqIndex_of h0 h4] at h1;exact Option.some.inj h1
  exact PySem.W.ki_setAt ho h0 (by omega) (by rw[ai',<- hl];exact h4) (by rw[hk];exact⟨_,I',q⟩)
 ·have hk:(k+(its.toArray.size:Int)).toNat=j:=by
   rw[seqIndex_neg (by omega) h3] at h1;rw[ai',<- hl];exact Option.some.inj h1
  exact PySem.W.ki_setBack ho (by omega) (by rw[ai',<- hl];exact h3) (by omega) (by rw[hk];exact⟨_,I',q⟩)
theorem dT_(lo hi:Option Int)(n:Nat):(sliceBounds lo hi none n).1=((HT.sIx n 0 lo:Nat):Int)/\(sliceBounds lo hi none n).2.1=((HT.sIx n n hi:Nat):Int)/\(sliceBounds lo hi none n).2.2=1:=by
 refine⟨?_,?_,rfl⟩
 ·cases lo with
  |none=>simp[sliceBounds,HT.sIx]
  |some i=>
   simp only[sliceBounds,HT.sIx,Option.getD_none,show (1:Int) > 0 by decide,if_true];by_cases h:i<0
   ·simp only[h,if_true]<;>omega
   ·simp only[h,if_false]<;>omega
 ·cases hi with
  |none=>simp[sliceBounds,HT.sIx]
  |some i=>
   simp only[sliceBounds,HT.sIx,Option.getD_none,show (1:Int) > 0 by decide,if_true];by_cases h:i<0
   ·simp only[h,if_true]<;>omega
   ·simp only[h,if_false]<;>omega
theorem do_(its:List Value)(lo hi:Option Int):slicePick its.toArray lo hi none=((its.drop (HT.sIx its.length 0 lo)).take (HT.sIx its.length its.length hi - HT.sIx its.length 0 lo)).toArray:=by
 obtain⟨h1,h2,h3⟩:=dT_ lo hi its.toArray.size;unfold slicePick;rw[h1,h2,h3];simp only[sliceRange_one,pick_run,ai']<;>rfl
def rSlL(K:F__):V->Option Int->Option Int->Hp->VK->Prop:=fun x lo hi H Q=>∃a xs,x=.ref a/\SqL K H a xs/\∀p,H p=none->Q (.ref p) (upd H p (.lst (cutV xs lo hi)))
theorem eH_:SlR X (rSlL X.K):=by
 intro pins s σ H x v vl vu lo hi sl Q I rx hs pl pu h;obtain⟨a,xs,rfl,hx,q⟩:=h;cases rx;obtain⟨its,r,ht,hz⟩:=I.list hx;have hlen:=r.length;refine⟨"list",_,slot_list_getitem.lookup,ht.isList.typeIs,?_⟩;refine wpAny_getItem_list_slice ht.isList hs pl pu .none (by simp) ?_ (by rw[ai']<;>omega)
 rw[do_,<- hlen];refine⟨.ref s.heap.objs.size,_,I.laid (t':=s.toks) (o:=.lst (cutV xs lo hi)) (fun b ob q=>Heap.get?_push_of_some _ q) (ag' _) ?_,rfl,q _ (I.hok.fresh (ag' _))⟩;exact⟨aU' (eE_ xs lo hi) hz,_,0,(r.drop (HT.sIx xs.length 0 lo)).take (HT.sIx xs.length xs.length hi - HT.sIx xs.length 0 lo),Heap.get?_push_size _ rfl⟩
def cj':V->Bool
 |.non=>true
 |.bl _=>true
 |.int _=>true
 |.str _=>true
 |_=>false
def eqV:V->V->Bool
 |.non,.non=>true
 |.bl a,.bl b=>a == b
 |.bl a,.int b=>(if a then 1 else 0) == b
 |.int a,.bl b=>a == (if b then 1 else 0)
 |.int a,.int b=>a == b
 |.str a,.str b=>a == b
 |_,_=>false
theorem g0_{A:Around}{s:Shared}{y x:V}{u v:Value}(ry:RelV y u)(rx:RelV x v)(fy:cj' y=true)(fx:cj' x=true):SeqAt.EqAt A s u v (eqV y x):=by
 cases y with
 |non=>
  cases ry;cases x with
  |non=>cases rx;exact SeqAt.EqAt.same _
  |bl b=>cases rx;exact SeqAt.EqAt.none_bool b
  |int b=>obtain⟨t,rfl⟩:=rx;exact SeqAt.EqAt.none_int b t
  |str b=>obtain⟨t,rfl⟩:=rx;exact SeqAt.EqAt.none_str b t
  |_=>exact absurd (show false=true from fx) ar'
 |bl a=>
  cases ry;cases x with
  |non=>cases rx;exact SeqAt.EqAt.bool_none a
  |bl b=>cases rx;exact SeqAt.EqAt.bool_bool a b
  |int b=>obtain⟨t,rfl⟩:=rx;exact SeqAt.EqAt.bool_int a b t
  |str b=>obtain⟨t,rfl⟩:=rx;exact SeqAt.EqAt.bool_str a b t
  |_=>exact absurd (show false=true from fx) ar'
 |int a=>
  obtain⟨t',rfl⟩:=ry;cases x with
  |non=>cases rx;exact SeqAt.EqAt.int_none a t'
  |bl b=>cases rx;exact SeqAt.EqAt.int_bool a t' b
  |int b=>obtain⟨t,rfl⟩:=rx;exact SeqAt.EqAt.int_int a t' b t
  |str b=>obtain⟨t,rfl⟩:=rx;exact SeqAt.EqAt.int_str a t' b t
  |_=>exact absurd (show false=true from fx) ar'
 |str a=>
  obtain⟨t',rfl⟩:=ry;cases x with
  |non=>cases rx;exact SeqAt.EqAt.str_none a t'
  |bl b=>cases rx;exact SeqAt.EqAt.str_bool a t' b
  |int b=>obtain⟨t,rfl⟩:=rx;exact SeqAt.EqAt.str_int a t' b t
  |str b=>obtain⟨t,rfl⟩:=rx;exact SeqAt.EqAt.str_str a t' b t
  |_=>exact absurd (show false=true from fx) ar'
 |_=>exact absurd (show false=true from fy) ar'
def eqU(x:V)(u:Value):Bool:=match u with
 |.none=>eqV .non x
 |.bool b=>eqV (.bl b) x
 |.int i _=>eqV (.int i) x
 |.str z _=>eqV (.str z) x
 |_=>false
theorem iC_{x y:V}{u:Value}(r:RelV y u)(f:cj' y=true):eqU x u=eqV y x:=by
 cases y with
 |non=>cases r;rfl
 |bl b=>cases r;rfl
 |int i=>obtain⟨t,rfl⟩:=r;rfl
 |str z=>obtain⟨t,rfl⟩:=r;rfl
 |_=>exact absurd (show false=true from f) ar'
theorem fl_{A:Around}{s:Shared}{x:V}{v:Value}(rx:RelV x v)(fx:cj' x=true):∀{xs:List V} {us:List Value},Vals xs us->xs.all cj'=true->∀u∈us,SeqAt.EqAt A s u v (eqU x u)
 |_,_,.nil,_=>fun u hu=>by cases hu
 |y::xs,u::us,.cons r t,f=>fun u' hu=>by
  rw[List.all_cons,Bool.and_eq_true] at f;rcases aj'.mp hu with rfl|hu
  ·rw[iC_ r f.1];exact g0_ r rx f.1 fx
  ·exact fl_ rx fx t f.2 u' hu
theorem aD_:bu' X (.builtin "len") (fun xs H Q=>∃p ys,xs=[.ref p]/\(SqL X.K H p ys∨SqT X.K H p ys)/\Q (.int ys.length) H):=by
 intro pins s σ H xs us Q I r h;obtain⟨p,ys,rfl,hq,q⟩:=h;obtain⟨u,rfl,rx⟩:=vals1 r;cases rx;have hn:=line63;rcases hq with hq|hq
 ·obtain⟨its,r',pl,hz⟩:=I.list hq;have hlen:=r'.length;exact Calls.call_len_list pl.isList (by simp only[ai']<;>omega) ⟨.int ys.length,H,I.tok _,⟨s.toks+1,by rw[ai',hlen]⟩,q⟩
 ·obtain⟨its,r',pl,hz⟩:=I.tuple hq;have hlen:=r'.length;exact len_tuple pl (by simp only[ai']<;>omega) ⟨.int ys.length,H,I.tok _,⟨s.toks+1,by rw[ai',hlen]⟩,q⟩
theorem cf_:bu' X (.builtin "len") (fun xs H Q=>∃z,xs=[.str z]/\z.length<=sizeLine/\Q (.int z.length) H):=by
 intro pins s σ H xs us Q I r h;obtain⟨z,rfl,hz,q⟩:=h;obtain⟨u,rfl,t,rfl⟩:=vals1 r;have hn:=line63;exact len_str (by omega) ⟨.int z.length,H,I.tok _,⟨_,rfl⟩,q⟩
theorem dL_:bu' X (.type "list") (fun xs H Q=>∃p ys,xs=[.ref p]/\(SqL X.K H p ys∨SqT X.K H p ys)/\∀l,H l=none->Q (.ref l) (upd H l (.lst ys))):=by
 intro pins s σ H xs us Q I r h;obtain⟨p,ys,rfl,hq,q⟩:=h;obtain⟨u,rfl,rx⟩:=vals1 r;cases rx
 have fin:∀(its:List Value),Vals ys its->ys.length<=sizeLine->∀(h':Heap) (c':Nat),(∀b o',s.heap.get? b=some o'->h'.get? b=some o')->
   h'.get? s.heap.objs.size=some { cls:=.type "list",dict:=none,data:=.seq its.toArray c',slots:=#[] }->EP X pins σ Q (.ref s.heap.objs.size) { s with heap:=h' }:=fun its r' hz h' c' kp e=>
  ⟨.ref s.heap.objs.size,_,I.laid (t':=s.toks) kp (ag' _) (show bh' X.prog X.w _ h' _ (.lst ys) from ⟨hz,its,c',r',e⟩),rfl,q _ (I.hok.fresh (ag' _))⟩
 rcases hq with hq|hq
 ·obtain⟨its,r',pl,hz⟩:=I.list hq;have hlen:=r'.length;obtain⟨o,ho,hc,n,hd⟩:=pl.isList;exact call_list_seq p (.inl rfl) ho hc hd (fun h' c' kp e=>fin its r' hz h' c' kp e) (by simp only[ai']<;>omega)
 ·obtain⟨its,r',pl,hz⟩:=I.tuple hq;have hlen:=r'.length;obtain⟨o,ho,hc,n,hd⟩:=pl;exact call_list_seq p (.inr rfl) ho hc hd (fun h' c' kp e=>fin its r' hz h' c' kp e) (by simp only[ai']<;>omega)
def tyV(K:F__)(T:String)(x:V)(H:Hp):Prop:=match x with
 |.str _=>T="str"
 |.int _=>T="int"
 |.ref p=>(T="list"/\∃xs,SqL K H p xs)∨(T="tuple"/\∃o,K.lookup p=some o/\o.cls=.type "tuple"/\o.dict=none) ∨
   (T="dict"/\((∃kvs,H p=some (.dK kvs))∨∃kvs,H p=some (.dT kvs)))∨(T="set"/\∃S n,H p=some (.set S n))
 |_=>False
theorem kj_{pins:List (Addr × Obj)}{σ:St}{H:Hp}{s:Shared}{T:String}{x:V}{v:Value}(I:Inv X pins σ H s)(r:RelV x v)(ty:tyV X.K T x H) :
  s.TypeIs v T/\∀a,v=.ref a->∃ob,s.heap.get? a=some ob/\ob.dict=none:=by
 cases x with
 |str z=>
  obtain⟨t,rfl⟩:=r;cases (show T="str" from ty);exact⟨typeIs_str s z t,fun _ e=>nomatch e⟩
 |int i=>
  obtain⟨t,rfl⟩:=r;cases (show T="int" from ty);exact⟨typeIs_int s i t,fun _ e=>nomatch e⟩
 |ref p=>
  cases r;rcases ty with⟨rfl,xs,hq⟩|⟨rfl,o,hk,hc,hd⟩|⟨rfl,hk⟩|⟨rfl,S,n,hk⟩
  ·obtain⟨its,_,pl,_⟩:=I.list hq;refine⟨pl.isList.typeIs,fun a e=>?_⟩;cases e;obtain⟨o,n,e,c,hd,_⟩:=pl;exact⟨o,e,hd⟩
  ·refine⟨⟨o,I.kIn p o hk,hc⟩,fun a e=>?_⟩;cases e;exact⟨o,I.kIn _ o hk,hd⟩
  ·have z:∃o,s.heap.get? p=some o/\o.ExactDict:=by
    rcases hk with⟨kvs,hk⟩|⟨kvs,hk⟩
    ·obtain⟨_,_,_,_,o,_,_,e,ex,_⟩:=I.hok p _ hk;exact⟨o,e,ex⟩
    ·obtain⟨_,_,_,_,o,_,_,e,ex,_⟩:=I.hok p _ hk;exact⟨o,e,ex⟩
   obtain⟨o,e,ex⟩:=z;refine⟨⟨o,e,ex.1⟩,fun a e2=>?_⟩;cases e2;exact⟨o,e,ex.2.1⟩
  ·obtain⟨o,_,_,_,e,ex,_⟩:=I.hok p _ hk;refine⟨⟨o,e,ex.1⟩,fun a e2=>?_⟩;cases e2;exact⟨o,e,ex.2.1⟩
 |_=>exact False.elim ty
def tBM(K:F__)(T:String)(r:V->List V->Hp->VK->Prop)(to:TE)(t:TA):TE:=fun σ H Q=>to σ H fun x H1=>tyV K T x H1/\t σ H1 fun xs H2=>r x xs H2 Q
variable{o e:Expr}{es:List Expr}{to:TE}{t:TA}{name:Str}{apos cpos:Pos}{T id:String}{r:V->List V->Hp->VK->Prop}
theorem ca_(pa:PlainAttrs T)(slot:Slot T name id)(hty:typeOf (.builtin id)=pure (.type "method_descriptor"))(hm:MtR X id r)(ho:PE X o to)(ha:PA X (e::es) t)
  (hbase:attributeBase o name X.env (eval o X.env)=eval o X.env:=by rfl)
  (hfew:((backTo cpos (starEach (e::es) X.env)).all (fun x=>!x.1)&&(backToKw cpos (keywordEach [] X.env)).all (fun x=>x.1.isSome)
   && decide ((e::es).length+([]:List Keyword).length+(if ([]:List Keyword).isEmpty then 0 else 1)<30))=true:=by rfl)
  (hline:(apos.endLine == cpos.line)=true:=by rfl) (hs:starEach (e::es) X.env=(false,eval e X.env)::starEach es X.env:=by rfl) (hplain:(backTo cpos (starEach es X.env)).any (·.1)=false:=by rfl) :
  PE X (.Call (.Attribute o name apos) (e::es) [] cpos) (tBM X.K T r to t):=by
 intro pins s σ H Q I h;refine wpAny_Call_method_late hbase hfew hline rfl (thn (ho pins s σ H _ I h) fun v s1 ⟨x,H1,I1,r1,ty,q1⟩=>?_);obtain⟨h1,h2⟩:=kj_ I1 r1 ty;refine⟨T,id,pa,slot,hty,h1,h2,?_⟩;have hA:=ha cpos pins s1 σ H1 _ I1 q1;rw[hs] at hA ⊢;refine Calls.callWith_builtin (by show (false || (backTo cpos (starEach es X.env)).any (·.1))=false;rw[hplain]<;>rfl) (Calls.evalArgs_plain ?_)
 exact thn hA fun us s2 ⟨vs,H2,I2,r2,q2⟩=>hm pins s2 σ H2 x vs v us Q I2 r1 r2 q2
end
end L2
namespace L2
open PySem PySem.Spec PyProof.Rows
def MtM(X:Cx)(id:String)(r:V->List V->Hp->VK->Prop):Prop:=
 ∀(pins:List (Addr × Obj)) (s:Shared) (σ:St) (H:Hp) (x:V) (xs:List V) (v:Value) (us:List Value) (Q:VK),Inv X pins σ H s->RelV x v->Vals xs us->r x xs H Q->
  wpAny (model X.prog X.w) X.A (call (.builtin id) (v::us)) (EP X pins σ Q) X.xe s
theorem Vals.one:∀{x:V} {us:List Value},Vals [x] us->∃u,us=[u]/\RelV x u
 |_,_,.cons r .nil=>⟨_,rfl,r⟩
theorem Vals.eraseIdx:∀{xs:List V} {us:List Value} (i:Nat),Vals xs us->Vals (xs.eraseIdx i) (us.eraseIdx i)
 |_,_,_,.nil=>.nil
 |_,_,0,.cons _ t=>t
 |_,_,i+1,.cons r t=>.cons r (Vals.eraseIdx i t)
theorem Vals.rep{xs:List V}{us:List Value}(h:Vals xs us):∀k:Nat,Vals (List.replicate k xs).flatten (List.replicate k us).flatten
 |0=>.nil
 |k+1=>by
  rw[List.replicate_succ,List.replicate_succ,List.flatten_cons,List.flatten_cons];exact Vals.append h (Vals.rep h k)
theorem ec_{α:Type}:∀(l:List α) (i:Nat),(l.eraseIdx i).length<=l.length
 |[],_=>ag' _
 |_::_,0=>Nat.le_succ _
 |_::r,i+1=>Nat.succ_le_succ (ec_ r i)
theorem ed_(its:List Value):∀(k:Nat) (acc:List Value),
  List.foldl (fun x1 x2=>x1++x2) acc.toArray (List.replicate k its.toArray)=(acc++(List.replicate k its).flatten).toArray
 |0,acc=>by simp
 |k+1,acc=>by
  have e:acc.toArray++its.toArray=(acc++its).toArray:=by simp
  have e2:(acc++its)++(List.replicate k its).flatten=acc++(List.replicate (k+1) its).flatten:=by
   rw[List.replicate_succ,List.flatten_cons,List.append_assoc]
  rw[<- e2,<- ed_ its k (acc++its),<- e,List.replicate_succ,List.foldl_cons]
section
variable{X:Cx}{pins:List (Addr × Obj)}{σ:St}{H:Hp}{s:Shared}{l b:Addr}{xs ys zs:List V}
theorem Inv.lset{its its':List Value}{n:Nat}{f:Array Value->Array Value}{t':Nat}(I:Inv X pins σ H s)(hH:H l=some (.lst xs))
  (e:s.heap.get? l=some { cls:=.type "list",data:=.seq its.toArray n }) (hf:f its.toArray=its'.toArray) (hv:Vals ys its') (hz:ys.length<=sizeLine) :
  Inv X pins σ (upd H l (.lst ys)) { s with heap:=s.heap.update l (Obj.mapSeq f),toks:=t' }:=by
 have q:=PySem.IsL.update e f;rw[hf] at q;refine I.write (x:=l) (e:=l) (by rw[hH];exact trivial) (.inl rfl) (fun b' u hb hu=>(Heap.get?_update_other s.heap (Obj.mapSeq f) (Ne.symm hb)).trans hu) ⟨_,q⟩ ?_;exact⟨hz,its',_,hv,q⟩
theorem Inv.lnew{its:List Value}{t':Nat}(I:Inv X pins σ H s)(hv:Vals ys its)(hz:ys.length<=sizeLine) :
  Inv X pins σ (upd H s.heap.objs.size (.lst ys)) { s with heap:=s.heap.push { cls:=.type "list",data:=.seq its.toArray },toks:=t' }:=
 I.laid (fun _ _ q=>Heap.get?_push_of_some _ q) (ag' _) ⟨hz,its,0,hv,Heap.get?_push_size _ rfl⟩
theorem Inv.fresh(I:Inv X pins σ H s):H s.heap.objs.size=none:=I.hok.fresh (ag' _)
theorem Inv.lstM(I:Inv X pins σ H s)(hH:H l=some (.lst xs)):xs.length<=sizeLine/\∃(its:List Value) (n:Nat),Vals xs its/\xs.length=its.length/\s.heap.get? l=some { cls:=.type "list",data:=.seq its.toArray n }:=by
 obtain⟨z,its,n,r,e⟩:=I.hok l _ hH;exact⟨z,its,n,r,r.length,e⟩
theorem di'{n:Nat}(h:n<=sizeLine):Builtin.List.listTooLong n=false:=by
 unfold Builtin.List.listTooLong;exact decide_eq_false (by omega)
end
section
variable{X:Cx}
def rAppend:V->List V->Hp->VK->Prop:=fun x vs H Q=>∃l xs y,x=.ref l/\vs=[y]/\H l=some (.lst xs)/\xs.length<sizeLine/\Q .non (upd H l (.lst (xs++[y])))
theorem b9_:MtM X "list.append" rAppend:=by
 intro pins s σ H x vs v us Q I rx rv h;obtain⟨l,xs,y,rfl,rfl,hH,hz,q⟩:=h;cases rx;obtain⟨u,rfl,ru⟩:=rv.one;obtain⟨z,its,n,r,hl,e⟩:=I.lstM hH;refine call_meets F.slot_list_append ⟨_,e,rfl⟩ F.entry_list_append (F.args_list_append_2 _ _) (PySem.list_append l its.toArray n u (by rw[ai'];omega)) ⟨e,?_⟩;refine⟨.non,_,I.lset (its':=its++[u]) hH e (by simp) (r.append (.cons ru .nil)) ?_,rfl,q⟩;rw[aq',List.length_singleton];omega
def rExtend:V->List V->Hp->VK->Prop:=fun x vs H Q=>∃l b xs zs,x=.ref l/\vs=[.ref b]/\H l=some (.lst xs)/\H b=some (.lst zs)/\xs.length+zs.length<=sizeLine/\Q .non (upd H l (.lst (xs++zs)))
theorem cL_:MtM X "list.extend" rExtend:=by
 intro pins s σ H x vs v us Q I rx rv h;obtain⟨l,b,xs,zs,rfl,rfl,hH,hB,hz,q⟩:=h;cases rx;obtain⟨u,rfl,ru⟩:=rv.one;cases ru;obtain⟨z,its,n,r,hl,e⟩:=I.lstM hH;obtain⟨z2,its2,n2,r2,hl2,e2⟩:=I.lstM hB;have hsz:its.toArray.size+its2.toArray.size<=sizeLine:=by rw[ai',ai'];omega
 have hlong:¬(!its.toArray.isEmpty&&Builtin.List.listTooLong (its.toArray.size+its2.toArray.size))=true:=by
  rw[di' hsz,Bool.and_false];exact ar'
 refine call_meets F.slot_list_extend ⟨_,e,rfl⟩ F.entry_list_extend (F.args_list_extend_2 _ _)
  (AutoSeq1.list_extend_list_list_0 l its.toArray n b its2.toArray n2 hlong (by rw[ai'];omega) (by omega)) ⟨e,e2,?_⟩
 refine⟨.non,_,I.lset (its':=its++its2) hH e (by simp) (r.append r2) ?_,rfl,q⟩;rw[aq'];omega
def rCat:R2:=fun x y H Q=>∃l b xs zs,x=.ref l/\y=.ref b/\H l=some (.lst xs)/\H b=some (.lst zs)/\xs.length+zs.length<=sizeLine/\∀p,H p=none->Q (.ref p) (upd H p (.lst (xs++zs)))
theorem is_:OpR X (binaryOp .Add) rCat:=by
 intro pins s σ H x y v u Q I rx ry h;obtain⟨l,b,xs,zs,rfl,rfl,hH,hB,hz,q⟩:=h;cases rx;cases ry;obtain⟨z,its,n,r,hl,e⟩:=I.lstM hH;obtain⟨z2,its2,n2,r2,hl2,e2⟩:=I.lstM hB;refine PySem.P.add_list e e2 ?_ (by rw[ai',ai'];omega);have ea:its.toArray++its2.toArray=(its++its2).toArray:=by simp
 rw[ea];exact⟨.ref _,_,I.lnew (t':=s.toks) (r.append r2) (by rw[aq'];omega),rfl,q _ I.fresh⟩
def rRep:R2:=fun x y H Q=>∃l k xs,x=.ref l/\y=.int k/\H l=some (.lst xs)/\-(2 ^ 63)<=k/\k<2 ^ 63/\xs.length * k.toNat<=sizeLine /\
 ∀p,H p=none->Q (.ref p) (upd H p (.lst (List.replicate k.toNat xs).flatten))
theorem jk_{α:Type}(xs:List α)(k:Nat):(List.replicate k xs).flatten.length=k * xs.length:=by
 induction k with
 |zero=>simp
 |succ k ih=>rw[List.replicate_succ,List.flatten_cons,aq',ih,Nat.succ_mul,Nat.add_comm]
theorem ir_:OpR X (binaryOp .Mult) rRep:=by
 intro pins s σ H x y v u Q I rx ry h;obtain⟨l,k,xs,rfl,rfl,hH,h1,h2,hz,q⟩:=h;cases rx;obtain⟨t,rfl⟩:=ry;obtain⟨z,its,n,r,hl,e⟩:=I.lstM hH;have hlen:its.toArray.size * k.toNat<=sizeLine:=by rw[ai',<- hl];exact hz
 have hcap:¬its.toArray.size * k.toNat > (2 ^ 63 - 1) / 8:=by
  have:(sizeLine:Nat)<=(2 ^ 63 - 1) / 8:=by decide
  omega
 have hfit:¬(!Builtin.List.listFitsIndex k)=true:=by
  rw[fitsIndex_both h1 h2];exact ar'
 have hlong:¬Builtin.List.listTooLong (its.toArray.size * k.toNat)=true:=by
  rw[di' hlen];exact ar'
 have hnew:List.foldl (fun x1 x2=>x1++x2) #[] (List.replicate (if its.toArray.isEmpty=true then 0 else k.toNat) its.toArray)=(List.replicate k.toNat its).flatten.toArray:=by
  have f0:∀m:Nat,List.foldl (fun x1 x2=>x1++x2) #[] (List.replicate m its.toArray)=(List.replicate m its).flatten.toArray:=fun m=>by
   have:=ed_ its m [];rw[List.nil_append] at this;exact this
  rw[f0];cases its with
  |nil=>simp
  |cons a r'=>rw[if_neg (by simp)]
 refine wpAny_binaryOp_repeat_ref (T:="list") (U:="int") (by decide) ⟨_,e,rfl⟩ (fun s'=>typeIs_int s' k t) noFill_list_mul F.fills_int_mul F.slot_int_rmul repeat_list F.slot_int_index.lookup
  (call_meets F.slot_int_rmul (typeIs_int s k t) F.entry_int_rmul (F.args_int_rmul_2 _ _) (int___rmul___int_list k t l its.toArray n)
   ⟨e,rfl,⟨_,e,rfl⟩,call_meets F.slot_list_mul ⟨_,e,rfl⟩ F.entry_list_mul (F.args_list_mul_2 _ _) (AutoListH.list___mul___list_int_3 l its.toArray n k t hfit hcap hlong) ⟨e,?_⟩⟩)
 rw[hnew];exact⟨.ref _,_,I.lnew (t':=s.toks) (r.rep k.toNat) (by rw[jk_,Nat.mul_comm];exact hz),rfl,q _ I.fresh⟩
end
section
variable{prog:Program}{w:World}{A:Around}{E:Value->Shared->Prop}{s:Shared}
end
section
variable{X:Cx}
end
end L2
namespace L2
open PySem PySem.Spec PyProof.Rows
section
variable{κ:Type}[DecidableEq κ]
def valV(kvs:List (κ × V))(k:κ):Option V:=(kvs.find? fun kv=>decide (kv.1=k)).map (·.2)
def putK(kvs:List (κ × V))(k:κ)(v:V):List (κ × V):=
 if (kvs.any fun kv=>decide (kv.1=k))=true then kvs.map (fun kv=>if kv.1=k then (kv.1,v) else kv) else kvs++[(k,v)]
theorem aM_{p:κ × V}{r:List (κ × V)}{k:κ}(e:p.1=k):valV (p::r) k=some p.2:=by simp[valV,List.find?_cons,e]
theorem aL_{p:κ × V}{r:List (κ × V)}{k:κ}(e:¬p.1=k):valV (p::r) k=valV r k:=by simp[valV,List.find?_cons,e]
theorem bn_(k:κ):∀kvs:List (κ × V),(kvs.any fun kv=>decide (kv.1=k))=(valV kvs k).isSome
 |[]=>rfl
 |p::r=>by
  rw[List.any_cons];by_cases e:p.1=k
  ·simp only[aM_ e,decide_eq_true e,Bool.true_or,Option.isSome_some]
  ·rw[aL_ e,decide_eq_false e,Bool.false_or];exact bn_ k r
theorem fm_(k j:κ)(y:V):∀kvs:List (κ × V),valV (kvs.map fun kv=>if kv.1=k then (kv.1,y) else kv) j=(valV kvs j).map fun x=>if j=k then y else x
 |[]=>rfl
 |p::r=>by
  have ih:=fm_ k j y r;rw[ao'];by_cases h:p.1=k
  ·rw[if_pos h];by_cases e:p.1=j
   ·rw[aM_ (p:=(p.1,y)) e,aM_ e,Option.map_some,if_pos (e.symm.trans h)]
   ·rw[aL_ (p:=(p.1,y)) e,aL_ e,ih]
  ·rw[if_neg h];by_cases e:p.1=j
   ·rw[aM_ (p:=p) e,aM_ e,Option.map_some,if_neg (fun z=>h (e.trans z))]
   ·rw[aL_ (p:=p) e,aL_ e,ih]
theorem dw_(k j:κ)(y:V):∀kvs:List (κ × V),valV kvs k=none->valV (kvs++[(k,y)]) j=if j=k then some y else valV kvs j
 |[],_=>by
  by_cases e:k=j
  ·rw[if_pos e.symm];exact aM_ (p:=(k,y)) e
  ·rw[if_neg (fun z=>e z.symm)];exact aL_ (p:=(k,y)) e
 |p::r,hn=>by
  rw[List.cons_append];have hk:¬p.1=k:=fun z=>by rw[aM_ z] at hn;cases hn
  rw[aL_ hk] at hn;have ih:=dw_ k j y r hn;by_cases e:p.1=j
  ·rw[aM_ e,aM_ e,if_neg (fun z=>hk (e.trans z))]
  ·rw[aL_ e,aL_ e,ih]
theorem hD_(kvs:List (κ × V))(k j:κ)(y:V):valV (putK kvs k y) j=if j=k then some y else valV kvs j:=by
 unfold putK;by_cases a:(kvs.any fun kv=>decide (kv.1=k))=true
 ·rw[if_pos a,fm_];rw[bn_] at a;by_cases e:j=k
  ·obtain⟨x,hx⟩:=Option.isSome_iff_exists.mp a;rw[if_pos e,e,hx,Option.map_some,if_pos rfl]
  ·rw[if_neg e];cases valV kvs j with
   |none=>rfl
   |some x=>rw[Option.map_some,if_neg e]
 ·rw[if_neg a];refine dw_ k j y kvs ?_;rw[bn_] at a;cases q:valV kvs k with
  |none=>rfl
  |some x=>rw[q] at a;exact (a rfl).elim
theorem bq_(kvs:List (κ × V))(k:κ)(v:V):(putK kvs k v).length<=kvs.length+1:=by
 unfold putK;split
 ·rw[aa'];omega
 ·rw[aq',aC',a2'];omega
theorem bI_{kvs:List (κ × V)}{k:κ}(v:V)(h:valV kvs k=none):putK kvs k v=kvs++[(k,v)]:=by
 unfold putK;rw[bn_,h];exact if_neg (by decide)
theorem RelO.isSome_eq{o:Option V}{u:Option Value}(r:RelO o u):o.isSome=u.isSome:=by
 cases o with
 |none=>cases u with
  |none=>rfl
  |some _=>exact (show False from r).elim
 |some _=>cases u with
  |none=>exact (show False from r).elim
  |some _=>rfl
theorem RelO.getD{o:Option V}{u:Option Value}{d:V}{d':Value}(r:RelO o u)(rd:RelV d d'):RelV (o.getD d) (u.getD d'):=by
 cases o with
 |none=>cases u with
  |none=>exact rd
  |some _=>exact (show False from r).elim
 |some _=>cases u with
  |none=>exact (show False from r).elim
  |some _=>exact r
theorem KV.val{kvs:List (κ × V)}{vs:List (κ × Value)}(r:KV kvs vs)(k:κ):RelO (valV kvs k) (valueAt vs k):=by
 unfold KV at r
 induction r with
 |nil=>exact True.intro
 |@cons p q ps qs h t ih=>
  obtain⟨h1,h2⟩:=h;by_cases e:p.1=k
  ·have e':q.1=k:=h1.symm.trans e;have b:valueAt (q::qs) k=some q.2:=by simp[valueAt,List.find?_cons,e']
   rw[aM_ e,b];exact h2
  ·have e':¬q.1=k:=fun z=>e (h1.trans z);have b:valueAt (q::qs) k=valueAt qs k:=by simp[valueAt,List.find?_cons,e']
   rw[aL_ e,b];exact ih
theorem KV.any{kvs:List (κ × V)}{vs:List (κ × Value)}(r:KV kvs vs)(k:κ):(kvs.any fun kv=>decide (kv.1=k))=vs.any fun kv=>decide (kv.1=k):=by
 unfold KV at r
 induction r with
 |nil=>rfl
 |cons h t ih=>rw[List.any_cons,List.any_cons,ih,h.1]
theorem KV.repl{kvs:List (κ × V)}{vs:List (κ × Value)}(r:KV kvs vs)(k:κ){y:V}{u:Value}(ry:RelV y u) :
  KV (kvs.map fun kv=>if kv.1=k then (kv.1,y) else kv) (vs.map fun kv=>if kv.1=k then (kv.1,u) else kv):=by
 unfold KV at r ⊢
 induction r with
 |nil=>exact .nil
 |@cons p q ps qs h t ih=>
  rw[ao',ao'];refine .cons ?_ ih;obtain⟨h1,h2⟩:=h;by_cases e:p.1=k
  ·rw[if_pos e,if_pos (h1.symm.trans e)];exact⟨h1,ry⟩
  ·rw[if_neg e,if_neg (fun z=>e (h1.trans z))];exact⟨h1,h2⟩
theorem KV.put{kvs:List (κ × V)}{vs:List (κ × Value)}(r:KV kvs vs)(k:κ){y:V}{u:Value}(ry:RelV y u):KV (putK kvs k y) (stored vs k u):=by
 unfold putK stored;rw[r.any k];by_cases e:(vs.any fun kv=>decide (kv.1=k))=true
 ·rw[if_pos e,if_pos e];exact r.repl k ry
 ·rw[if_neg e,if_neg e];exact Paired.snoc r ⟨rfl,ry⟩
theorem KV.keys{kvs:List (κ × V)}{vs:List (κ × Value)}(r:KV kvs vs):kvs.map (·.1)=vs.map (·.1):=by
 unfold KV at r
 induction r with
 |nil=>rfl
 |cons h t ih=>rw[ao',ao',ih,h.1]
theorem KV.length{kvs:List (κ × V)}{vs:List (κ × Value)}(r:KV kvs vs):kvs.length=vs.length:=Paired.length r
end
theorem cW_{P:Program}{w:World}{k:Key}{u:Value}(r:RelV (kV k) u):(a9' P w).is k u=true:=by
 cases k with
 |inl i=>obtain⟨t,e⟩:=(show ∃t,u=Value.int i t from r);subst e;exact eC_ P w i t
 |inr x=>obtain⟨t,e⟩:=(show ∃t,u=Value.str x t from r);subst e;exact bN_ P w x t
theorem dA_{P:Program}{w:World}:∀{ks:List Key} {us:List Value},Vals (ks.map kV) us->ItemsAre (a9' P w) ks us
 |[],_,r=>by rw[a1'] at r;cases r;exact .nil
 |k::ks,_,r=>by
  rw[ao'] at r;cases r with
  |cons h t=>exact .cons (cW_ h) (dA_ t)
abbrev KT(H:Hp):List (List Key × V)->List (List Key × Addr × Value)->Prop:=Paired fun p q=>p.1=q.1/\H q.2.1=some (.tup (p.1.map kV))/\RelV p.2 q.2.2
theorem KT.val{H:Hp}{kvs:List (List Key × V)}{xs:List (List Key × Addr × Value)}(r:KT H kvs xs)(k:List Key):RelO (valV kvs k) ((atKey xs k).map (·.2)):=by
 induction r with
 |nil=>exact True.intro
 |@cons p q ps qs h t ih=>
  obtain⟨h1,_,h2⟩:=h;by_cases e:p.1=k
  ·have e':q.1=k:=h1.symm.trans e;have b:atKey (q::qs) k=some q.2:=by simp[atKey,List.find?_cons,e']
   rw[aM_ e,b];exact h2
  ·have e':¬q.1=k:=fun z=>e (h1.trans z);have b:atKey (q::qs) k=atKey qs k:=by simp[atKey,List.find?_cons,e']
   rw[aL_ e,b];exact ih
theorem KT.repl{H:Hp}{kvs:List (List Key × V)}{xs:List (List Key × Addr × Value)}(r:KT H kvs xs)(k:List Key){y:V}{u:Value}(ry:RelV y u) :
  KT H (kvs.map fun kv=>if kv.1=k then (kv.1,y) else kv) (xs.map (putAt k u)):=by
 induction r with
 |nil=>exact .nil
 |@cons p q ps qs h t ih=>
  rw[ao',ao'];refine .cons ?_ ih;obtain⟨h1,h2,h3⟩:=h;unfold putAt;by_cases e:p.1=k
  ·rw[if_pos e,if_pos (h1.symm.trans e)];exact⟨h1,h2,ry⟩
  ·rw[if_neg e,if_neg (fun z=>e (h1.trans z))];exact⟨h1,h2,h3⟩
theorem KT.put{H:Hp}{kvs:List (List Key × V)}{xs:List (List Key × Addr × Value)}(r:KT H kvs xs)(k:List Key){b:Addr}{y:V}{u:Value}(hb:H b=some (.tup (k.map kV)))(ry:RelV y u) :
  KT H (putK kvs k y) (storedH xs k b u):=by
 have e:(kvs.any fun kv=>decide (kv.1=k))=(atKey xs k).isSome:=by
  rw[bn_,(r.val k).isSome_eq,Option.isSome_map]
 unfold putK storedH;rw[e];by_cases q:(atKey xs k).isSome=true
 ·rw[if_pos q,if_pos q];exact r.repl k ry
 ·rw[if_neg q,if_neg q];exact Paired.snoc r ⟨rfl,hb,ry⟩
theorem KT.keeps{H H':Hp}{kvs:List (List Key × V)}{xs:List (List Key × Addr × Value)}(r:KT H kvs xs)(ht:∀b ys,H b=some (.tup ys)->H' b=some (.tup ys)):KT H' kvs xs:=
 Paired.mapP r fun _ _ z=>⟨z.1,ht _ _ z.2.1,z.2.2⟩
section
variable{P:Program}{w:World}{H:Hp}{h:Heap}{a:Addr}
theorem jT_{u:HO}(ok:HOk P w H h)(e:Rd H a u):bh' P w H h a u:=e.ok ok
theorem ck_{kvs:List (Key × V)}(ok:HOk P w H h)(e:Rd H a (.dK kvs)):kvs.length<=sizeLine/\(a == sysModules)=false/\∃vs,KV kvs vs/\h.DictOf (a9' P w) a vs:=
 show bh' P w H h a (.dK kvs) from jT_ ok e
theorem e3_{kvs:List (Key × V)}(ok:HOk P w H h)(e:H a=some (.dK kvs)):kvs.length<=sizeLine/\(a == sysModules)=false/\∃vs,KV kvs vs/\h.DictOf (a9' P w) a vs:=ck_ ok (.inl e)
theorem cY_{ks:List Key}(ok:HOk P w H h)(e:H a=some (.tup (ks.map kV))):(tupleKind (a9' P w)).is h ks a:=by
 obtain⟨_,its,r,⟨o,h1,h2,n,h3⟩,_⟩:=(show bh' P w H h a (.tup (ks.map kV)) from ok a _ e);exact⟨o,its.toArray,n,h1,h2,h3,by simpa using dA_ r⟩
theorem ef_{kvs:List (List Key × V)}(ok:HOk P w H h)(e:Rd H a (.dT kvs)):kvs.length<=sizeLine/\(a == sysModules)=false /\
  ∃xs,KT H kvs xs/\h.DictOfH (tupleKind (a9' P w)) a xs:=by
 obtain⟨z,y,xs,r,o,es,ep,h1,h2,h3,h4,h5⟩:=(show bh' P w H h a (.dT kvs) from jT_ ok e);refine⟨z,y,xs,r,o,es,ep,h1,h2,h3,h4,fun x hx=>?_,h5⟩
 have all:∀{l:List (List Key × V)} {m:List (List Key × Addr × Value)},KT H l m->∀x∈m,(tupleKind (a9' P w)).is h x.1 x.2.1:=by
  intro l m q
  induction q with
  |nil=>intro x hx;exact nomatch hx
  |@cons p q ps qs hq t ih=>
   intro x hx;rcases aj'.mp hx with e|hx
   ·subst e;exact cY_ ok (by rw[<- hq.1];exact hq.2.1)
   ·exact ih x hx
 exact all r x hx
theorem kB_{kvs:List (List Key × V)}(ok:HOk P w H h)(e:H a=some (.dT kvs)):kvs.length<=sizeLine/\(a == sysModules)=false /\
  ∃xs,KT H kvs xs/\h.DictOfH (tupleKind (a9' P w)) a xs:=ef_ ok (.inl e)
end
def DGet(H:Hp)(a:Addr)(y:V)(r:Option V):Prop:=
 (∃kvs k,Rd H a (.dK kvs)/\y=kV k/\r=valV kvs k)∨∃kvs k b,Rd H a (.dT kvs)/\y=.ref b/\H b=some (.tup (k.map kV))/\r=valV kvs k
def DPut(H:Hp)(a:Addr)(y v:V)(H':Hp):Prop:=
 (∃kvs k,H a=some (.dK kvs)/\y=kV k/\kvs.length<sizeLine/\H'=upd H a (.dK (putK kvs k v))) ∨
 ∃kvs k b,H a=some (.dT kvs)/\y=.ref b/\H b=some (.tup (k.map kV))/\kvs.length<sizeLine/\H'=upd H a (.dT (putK kvs k v))
theorem DGet.k{H:Hp}{a:Addr}{kvs:List (Key × V)}{k:Key}(e:H a=some (.dK kvs)):DGet H a (kV k) (valV kvs k):=.inl ⟨kvs,k,.inl e,rfl,rfl⟩
theorem DGet.t{H:Hp}{a b:Addr}{kvs:List (List Key × V)}{k:List Key}(e:H a=some (.dT kvs))(eb:H b=some (.tup (k.map kV))):DGet H a (.ref b) (valV kvs k):=.inr ⟨kvs,k,b,.inl e,rfl,eb,rfl⟩
theorem DPut.k{H:Hp}{a:Addr}{kvs:List (Key × V)}{k:Key}{v:V}(e:H a=some (.dK kvs))(hl:kvs.length<sizeLine):DPut H a (kV k) v (upd H a (.dK (putK kvs k v))):=.inl ⟨kvs,k,e,rfl,hl,rfl⟩
theorem DPut.t{H:Hp}{a b:Addr}{kvs:List (List Key × V)}{k:List Key}{v:V}(e:H a=some (.dT kvs))(eb:H b=some (.tup (k.map kV)))(hl:kvs.length<sizeLine) :
  DPut H a (.ref b) v (upd H a (.dT (putK kvs k v))):=.inr ⟨kvs,k,b,e,rfl,eb,hl,rfl⟩
section
variable{X:Cx}{pins:List (Addr × Obj)}{σ:St}{H:Hp}{s:Shared}{a:Addr}{y v:V}{u r:Value}{o:Option V}{A:Around}{E:Value->Shared->Prop}
theorem Inv.big(I:Inv X pins σ H s):sysModules<s.heap.objs.size:=by
 have h:mainGlobals<s.heap.objs.size:=(I.mod.glob.keeps I.bk).lt;exact Nat.lt_trans (by decide) h
theorem dE_{Q:Value->Shared->Prop}(hu:A.units+1<cLine)(I:Inv X pins σ H s)(g:DGet H a y (some v))(ry:RelV y u)(h:∀w' s',Inv X pins σ H s'->RelV v w'->Q w' s') :
  wpAny (model X.prog X.w) A (getItem (.ref a) u) Q E s:=by
 rcases g with⟨kvs,k,e,ey,l⟩|⟨kvs,k,b,e,ey,eb,l⟩
 ·subst ey;obtain⟨z,hd,vs,rel,dd⟩:=ck_ I.hok e;obtain⟨w',hw,rw'⟩:=RelO.some_of (v:=v) (o:=valueAt vs k) (by rw[l];exact rel.val k);exact wpAny_getItem_of (cW_ ry) dd.mapOf hw (h w' _ (I.tok _) rw')
 ·subst ey;cases (show u=Value.ref b from ry);obtain⟨z,hd,xs,rel,dd⟩:=ef_ I.hok e;obtain⟨w',hw,rw'⟩:=RelO.some_of (v:=v) (o:=(atKey xs k).map (·.2)) (by rw[l];exact rel.val k);obtain⟨p,hp,hp2⟩:=aW'.mp hw;refine wpAny_getItem_heap (tupleKind_room_in1 hu) (cY_ I.hok eb) dd hp ?_;rw[hp2];exact h w' _ (I.tok _) rw'
theorem d_in{Q:Value->Shared->Prop}(hu:A.units+1<cLine)(I:Inv X pins σ H s)(g:DGet H a y o)(ry:RelV y u)(h:∀s',Inv X pins σ H s'->Q (.bool o.isSome) s') :
  wpAny (model X.prog X.w) A (compareOp .In u (.ref a)) Q E s:=by
 rcases g with⟨kvs,k,e,ey,l⟩|⟨kvs,k,b,e,ey,eb,l⟩
 ·subst ey;obtain⟨z,hd,vs,rel,dd⟩:=ck_ I.hok e;refine wpAny_in_of (cW_ ry) hd dd.mapOf ?_;rw[<- (rel.val k).isSome_eq,<- l];exact h _ (I.tok _)
 ·subst ey;cases (show u=Value.ref b from ry);obtain⟨z,hd,xs,rel,dd⟩:=ef_ I.hok e;refine wpAny_in_heap (tupleKind_room_in1 hu) (cY_ I.hok eb) hd dd ?_;have q:=(rel.val k).isSome_eq;rw[Option.isSome_map] at q;rw[<- q,<- l];exact h _ (I.tok _)
theorem jf_{Q:Value->Shared->Prop}(hu:A.units+1<cLine)(I:Inv X pins σ H s)(g:DGet H a y o)(ry:RelV y u)(h:∀s',Inv X pins σ H s'->Q (.bool (!o.isSome)) s') :
  wpAny (model X.prog X.w) A (compareOp .NotIn u (.ref a)) Q E s:=by
 rcases g with⟨kvs,k,e,ey,l⟩|⟨kvs,k,b,e,ey,eb,l⟩
 ·subst ey;obtain⟨z,hd,vs,rel,dd⟩:=ck_ I.hok e;refine wpAny_notIn_of (cW_ ry) hd dd.mapOf ?_;rw[<- (rel.val k).isSome_eq,<- l];exact h _ (I.tok _)
 ·subst ey;cases (show u=Value.ref b from ry);obtain⟨z,hd,xs,rel,dd⟩:=ef_ I.hok e;refine wpAny_notIn_heap (tupleKind_room_in1 hu) (cY_ I.hok eb) hd dd ?_;have q:=(rel.val k).isSome_eq;rw[Option.isSome_map] at q;rw[<- q,<- l];exact h _ (I.tok _)
theorem eJ_{h':Heap}{t':Nat}{ob:HO}(I:Inv X pins σ H s)(mu:Mut (H a))(hs:Heap.SameBut a s.heap h')(he:∃q,h'.get? a=some q)(new:bh' X.prog X.w (upd H a ob) h' a ob) :
  Inv X pins σ (upd H a ob) { s with heap:=h',toks:=t' }:=
 I.write (x:=a) (e:=a) mu (.inl rfl) (fun b q hb z=>(hs.2 b hb).trans z) he new
theorem gS_{P:Program}{w:World}{H':Hp}{h':Heap}{kvs:List (Key × V)}{vs:List (Key × Value)}(z:kvs.length<=sizeLine)(hd:(a == sysModules)=false)(rel:KV kvs vs)(dd:h'.DictOf (a9' P w) a vs) :
  bh' P w H' h' a (.dK kvs):=⟨z,hd,vs,rel,dd⟩
theorem dS_{H':Hp}{Q:Unit->Shared->Prop}(hu:A.units+1<cLine)(I:Inv X pins σ H s)(g:DPut H a y v H')(ry:RelV y u)(rv:RelV v r)(h:∀s',Inv X pins σ H' s'->Q () s') :
  wpAny (model X.prog X.w) A (setItem (.ref a) u r) Q E s:=by
 rcases g with⟨kvs,k,e,ey,l,eH⟩|⟨kvs,k,b,e,ey,eb,l,eH⟩
 ·subst ey eH;obtain⟨z,hd,vs,rel,dd⟩:=e3_ I.hok e;have hz:vs.length<=sizeLine:=by rw[<- rel.length];exact z
  have hl:(putK kvs k v).length<=sizeLine:=by have:=bq_ kvs k v;omega
  refine wpAny_setItem_pairs (hsz:=hz) (cW_ ry) dd fun h' dd' hs=>h _ ?_;have he:∃q,h'.get? a=some q:=let ⟨q,_,_,hq,_⟩:=dd';⟨q,hq⟩;exact eJ_ I (by rw[e];exact True.intro) hs he (gS_ hl hd (rel.put k rv) dd')
 ·subst ey eH;cases (show u=Value.ref b from ry);obtain⟨z,hd,xs,rel,dd⟩:=kB_ I.hok e;have hz:xs.length<=sizeLine:=by rw[<- Paired.length rel];exact z
  have hl:(putK kvs k v).length<=sizeLine:=by have:=bq_ kvs k v;omega
  refine wpAny_setItem_heap (hsz:=hz) (tupleKind_room_in1 hu) (cY_ I.hok eb) dd fun h' dd' hs=>h _ ?_;obtain⟨q,es,ep,hq,h2,h3,h4,_,h5⟩:=dd';refine eJ_ I (by rw[e];exact True.intro) hs ⟨q,hq⟩ ⟨hl,hd,_,(rel.put k eb rv).keeps fun c ys ec=>?_,q,es,ep,hq,h2,h3,h4,h5⟩;rw[a4_ (az_ ec e nofun)];exact ec
end
section
variable{X:Cx}{pins:List (Addr × Obj)}{σ:St}{H:Hp}{s:Shared}{a:Addr}{kvs:List (Key × V)}{k:Key}{u:Value}{A:Around}{E:Value->Shared->Prop}
theorem kA_{Q:Value->Shared->Prop}(I:Inv X pins σ H s)(e:Rd H a (.dK kvs))(h:∀t s',Inv X pins σ H s'->Q (.int kvs.length t) s'):wpAny (model X.prog X.w) A (call (.builtin "len") [.ref a]) Q E s:=by
 obtain⟨z,hd,vs,rel,dd⟩:=ck_ I.hok e;refine call_len_dict hd dd (by rw[<- rel.length];rw[sizeLine_eq] at z;omega) ?_;rw[<- rel.length];exact h _ _ (I.tok _)
end
def NoSl(i:Expr):Prop:=∀ov iv,subscripted i false ov iv=operate [ov,iv] (getItem ov iv)
theorem gT_{prog:Program}{w:World}{A:Around}{E:Value->Shared->Prop}{s:Shared}{env:Env}{value slice:Expr}{pos:Pos}{T id:String}{Q:Value->Shared->Prop}
  (hl:typeLookup (.type T) "__getitem__"=pure (some (.builtin id))) (hs:NoSl slice)
  (h:wpAny (model prog w) A (eval value env) (fun o s₁=>wpAny (model prog w) A (eval slice env) (fun i s₂=>s₂.TypeIs o T/\wpAny (model prog w) A (getItem o i) Q E s₂) E s₁) E s) :
  wpAny (model prog w) A (eval (.Subscript value slice pos) env) Q E s:=by
 refine Subscript_ (wpAny_mono h (fun o s₁ h₁=>wpAny_mono h₁ (fun i s₂ h₂=>?_) fun _ _ x=>x) fun _ _ x=>x);obtain⟨hT,h₂⟩:=h₂;unfold subscriptTail;refine wpAny_bind ?_;rw[getitemInPython_of_ne hT.not_modules];refine wpAny_bind (wpAny_specialOf hT hl ?_)
 have fin:wpAny (model prog w) A (subscripted slice false o i) (fun r s₃=>wpAny (model prog w) A (letTemporaryGo value o r >>= fun _=>pure r) Q E s₃) E s₂:=by
  rw[hs o i];exact wpAny_operating (wpAny_mono h₂ (fun r s₃ h₃=>wpAny_bind (wpAny_letTemporaryGo (wpAny_pure h₃))) fun _ _ x=>x)
 first
  |exact wpAny_pure (wpAny_bind fin)
  |exact wpAny_bind (wpAny_pure (wpAny_bind fin))
  |exact wpAny_bind fin
theorem en_{X:Cx}{pins:List (Addr × Obj)}{σ:St}{H:Hp}{s:Shared}{a:Addr}{y:V}{o:Option V}(I:Inv X pins σ H s)(g:DGet H a y o):s.TypeIs (.ref a) "dict":=by
 rcases g with⟨kvs,k,e,_,_⟩|⟨kvs,k,b,e,_,_,_⟩
 ·obtain⟨_,_,vs,_,dd⟩:=ck_ I.hok e;exact dd.typeIs
 ·obtain⟨_,_,xs,_,dd⟩:=ef_ I.hok e;exact dd.typeIs
def tDGet(td ty:TE):TE:=fun σ H Q=>td σ H fun x H1=>ty σ H1 fun y H2=>∃a v,x=.ref a/\DGet H2 a y (some v)/\Q v H2
def tDIn(ty td:TE):TE:=fun σ H Q=>ty σ H fun y H1=>td σ H1 fun x H2=>∃a o,x=.ref a/\DGet H2 a y o/\Q (.bl o.isSome) H2
def tDNotIn(ty td:TE):TE:=fun σ H Q=>ty σ H fun y H1=>td σ H1 fun x H2=>∃a o,x=.ref a/\DGet H2 a y o/\Q (.bl (!o.isSome)) H2
def sDPut(td ty tv:TE):TS:=fun D σ H=>tv σ H fun v H1=>td σ H1 fun x H2=>ty σ H2 fun y H3=>∃a H4,x=.ref a/\DPut H3 a y v H4/\D.nx σ H4
def sDAug(td ty tv:TE)(rd:V->V->Hp->VK->Prop):TS:=fun D σ H=>td σ H fun x H1=>ty σ H1 fun y H2=>∃a v,x=.ref a/\DGet H2 a y (some v) /\
 tv σ H2 fun y2 H3=>rd v y2 H3 fun z H4=>∃H5,DPut H4 a y z H5/\D.nx σ H5
section
variable{X:Cx}{o i e value:Expr}{pos pos' tpos:Pos}{td ty tv:TE}
theorem ac_(hu:X.A.units+1<cLine)(ho:PE X o td)(hi:PE X i ty)(hs:NoSl i):PE X (.Subscript o i pos) (tDGet td ty):=by
 intro pins s σ H Q I h;refine gT_ PySem.F.slot_dict_getitem.lookup hs (thn (ho pins s σ H _ I h) fun u s1 ⟨x,H1,I1,rx,q1⟩=>thn (hi pins s1 σ H1 _ I1 q1) fun iv s2 ⟨y,H2,I2,ry,a,v,ex,g,q2⟩=>?_);subst ex;obtain rfl:u=Value.ref a:=rx;exact⟨en_ I2 g,dE_ hu I2 g ry fun w' s3 I3 rw'=>⟨v,H2,I3,rw',q2⟩⟩
theorem d2_(hu:X.A.units+1<cLine)(hi:PE X i ty)(ho:PE X o td):PC X .In i o (tDIn ty td):=by
 intro pins s σ H Q I h;refine thn (hi pins s σ H _ I h) fun iv s1 ⟨y,H1,I1,ry,q1⟩=>thn (ho pins s1 σ H1 _ I1 q1) fun u s2 ⟨x,H2,I2,rx,a,ov,ex,g,q2⟩=>?_;subst ex;obtain rfl:u=Value.ref a:=rx;exact d_in hu I2 g ry fun s3 I3=>⟨.bl ov.isSome,H2,I3,rfl,q2⟩
theorem dO_(hu:X.A.units+1<cLine)(hi:PE X i ty)(ho:PE X o td):PC X .NotIn i o (tDNotIn ty td):=by
 intro pins s σ H Q I h;refine thn (hi pins s σ H _ I h) fun iv s1 ⟨y,H1,I1,ry,q1⟩=>thn (ho pins s1 σ H1 _ I1 q1) fun u s2 ⟨x,H2,I2,rx,a,ov,ex,g,q2⟩=>?_;subst ex;obtain rfl:u=Value.ref a:=rx;exact jf_ hu I2 g ry fun s3 I3=>⟨.bl (!ov.isSome),H2,I3,rfl,q2⟩
theorem bc_(hu:X.A.units+1<cLine)(ho:PE X o td)(hi:PE X i ty)(hv:PE X value tv)(hs:swapsWith value (some (.Subscript o i pos')) pos.line X.env=pure false) :
  PS X (.Assign [.Subscript o i pos'] value pos) (sDPut td ty tv):=by
 intro pins s σ H D I h;refine wpAny_Assign_Subscript (thn (hv pins s σ H _ I h) fun r s1 ⟨v,H1,I1,rv,q1⟩=>thn (ho pins s1 σ H1 _ I1 q1) fun u s2 ⟨x,H2,I2,rx,q2⟩=>thn (hi pins s2 σ H2 _ I2 q2) fun iv s3 ⟨y,H3,I3,ry,a,H4,ex,g,q3⟩=>?_) hs;subst ex;obtain rfl:u=Value.ref a:=rx;exact dS_ hu I3 g ry rv fun s4 I4=>⟨σ,H4,I4,q3⟩
theorem iZ_{op:Operator}{rd:V->V->Hp->VK->Prop}(hu:X.A.units+1<cLine)(ho:PE X o td)(hi:PE X i ty)(hv:PE X value tv)(hop:InOp X op rd)
  (ha:∀ov iv new,augStore i ov iv new=(do holding [new,ov,iv] (setItem ov iv new);release [new,ov,iv] [];pure .next)):PS X (.AugAssign (.Subscript o i tpos) op value pos) (sDAug td ty tv rd):=by
 intro pins s σ H D I h;refine wpAny_AugAssign_SubscriptAny (thn (ho pins s σ H _ I h) fun u s1 ⟨x,H1,I1,rx,q1⟩=>thn (hi pins s1 σ H1 _ I1 q1) fun iv s2 ⟨y,H2,I2,ry,a,v,ex,g,q2⟩=>?_) ha;subst ex;obtain rfl:u=Value.ref a:=rx;refine dE_ hu I2 g ry fun w' s3 I3 rw'=>thn (hv pins s3 σ H2 _ I3 q2) fun w2 s4 ⟨y2,H3,I4,ry2,q3⟩=>thn (hop pins s4 σ H3 v y2 w' w2 _ I4 rw' ry2 q3) fun w3 s5 ⟨z,H4,I5,rz,H5,g5,q4⟩=>?_;exact dS_ hu I5 g5 ry rz fun s6 I6=>⟨σ,H5,I6,q4⟩
end
theorem f4_{P:Program}{w:World}{H:Hp}(h:Heap)(hb:sysModules<h.objs.size):bh' P w H (h.push { cls:=.type "dict",data:=.dict #[] }) h.objs.size (.dK []):=
 ⟨aD' _,beq_eq_false_iff_ne.mpr (Ne.symm (au' hb)),[],.nil,Heap.DictOf.new h⟩
theorem hM_{P:Program}{w:World}{H:Hp}(h:Heap)(hb:sysModules<h.objs.size):bh' P w H (h.push { cls:=.type "dict",data:=.dict #[] }) h.objs.size (.dT []):=
 ⟨aD' _,beq_eq_false_iff_ne.mpr (Ne.symm (au' hb)),[],.nil,_,#[],0,Heap.get?_push_size _ rfl,⟨rfl,rfl,rfl⟩,rfl,rfl,List.nodup_nil⟩
def tDNewK:TE:=fun _ H Q=>∀p,H p=none->Q (.ref p) (upd H p (.dK []))
def tDNewT:TE:=fun _ H Q=>∀p,H p=none->Q (.ref p) (upd H p (.dT []))
section
variable{X:Cx}{pos:Pos}
theorem bl_:PE X (.Dict [] [] pos) tDNewK:=fun pins s σ H Q I h=>
 wpAny_Dict_empty ⟨.ref s.heap.objs.size,_,I.laid (a:=s.heap.objs.size) (o:=.dK []) (t':=s.toks) (fun _ _ q=>Heap.get?_push_of_some _ q) (ag' _) (f4_ s.heap I.big),rfl,h _ (I.hok.fresh (ag' _))⟩
theorem eO_:PE X (.Dict [] [] pos) tDNewT:=fun pins s σ H Q I h=>
 wpAny_Dict_empty ⟨.ref s.heap.objs.size,_,I.laid (a:=s.heap.objs.size) (o:=.dT []) (t':=s.toks) (fun _ _ q=>Heap.get?_push_of_some _ q) (ag' _) (hM_ s.heap I.big),rfl,h _ (I.hok.fresh (ag' _))⟩
end
def tPairs:List (TE × TE)->St->Hp->(List (V × V)->Hp->Prop)->Prop
 |[],_,H,Q=>Q [] H
 |(tk,tv)::r,σ,H,Q=>tk σ H fun x H1=>tv σ H1 fun y H2=>tPairs r σ H2 fun ps H3=>Q ((x,y)::ps) H3
abbrev VV:List (V × V)->List (Value × Value)->Prop:=Paired fun p q=>RelV p.1 q.1/\RelV p.2 q.2
def PPs(X:Cx)(pos:Pos)(keys:List (Option Expr))(values:List Expr)(trs:List (TE × TE)):Prop:=
 ∀(pins:List (Addr × Obj)) (s:Shared) (σ:St) (H:Hp) (Q:List (V × V)->Hp->Prop),Inv X pins σ H s->tPairs trs σ H Q->
  wpAny (model X.prog X.w) X.A (evalPairs (pairTrees keys values X.env pos)) (fun vs s'=>∃ps H',Inv X pins σ H' s'/\VV ps vs/\Q ps H') X.xe s
theorem jj_{X:Cx}{pos:Pos}:PPs X pos [] [] []:=fun pins s σ H Q I h=>pairTrees_nil_walk ⟨[],H,I,.nil,h⟩
theorem dm_{X:Cx}{pos:Pos}{k v:Expr}{ks:List (Option Expr)}{vs:List Expr}{tk tv:TE}{trs:List (TE × TE)}(hk:PE X k tk)(hv:PE X v tv)(hr:PPs X pos ks vs trs) :
  PPs X pos (some k::ks) (v::vs) ((tk,tv)::trs):=fun pins s σ H Q I h=>
 pairTrees_cons_walk (thn (hk pins s σ H _ I h) fun u s1 ⟨x,H1,I1,rx,q1⟩=>thn (hv pins s1 σ H1 _ I1 q1) fun w2 s2 ⟨y,H2,I2,ry,q2⟩=>
  thn (hr pins s2 σ H2 _ I2 q2) fun ws s3 ⟨ps,H3,I3,rel,q3⟩=>⟨(x,y)::ps,H3,I3,.cons ⟨rx,ry⟩ rel,q3⟩)
def bw'(kvs more:List (Key × V)):List (Key × V):=more.foldl (fun acc kv=>putK acc kv.1 kv.2) kvs
theorem KV.merge:∀{more:List (Key × V)} {rs:List (Key × Value)} {kvs:List (Key × V)} {vs:List (Key × Value)},KV more rs->KV kvs vs->KV (bw' kvs more) (merged vs rs):=by
 intro more rs kvs vs r;unfold KV at r
 induction r generalizing kvs vs with
 |nil=>intro q;exact q
 |@cons p q ps qs h t ih=>
  intro r0
  have e:KV (putK kvs p.1 p.2) (stored vs q.1 q.2):=by
   have:=r0.put p.1 h.2;rw[<- h.1];exact this
  exact ih e
theorem br_:∀(more kvs:List (Key × V)),(bw' kvs more).length<=kvs.length+more.length
 |[],kvs=>by show kvs.length<=kvs.length+0;omega
 |p::r,kvs=>by
  have h1:=br_ r (putK kvs p.1 p.2);have h2:=bq_ kvs p.1 p.2;show (bw' (putK kvs p.1 p.2) r).length<=_;rw[aC'];omega
theorem d4_{P:Program}{w:World}:∀{kvs:List (Key × V)} {ws:List (Value × Value)},VV (kvs.map fun kv=>(kV kv.1,kv.2)) ws->∃rs,Carries (a9' P w) ws rs/\KV kvs rs
 |[],_,r=>by rw[a1'] at r;cases r;exact⟨[],True.intro,.nil⟩
 |p::kvs,_,r=>by
  rw[ao'] at r;cases r with
  |@cons a b as bs h t=>
   obtain⟨rs,c,q⟩:=d4_ (P:=P) (w:=w) t;obtain⟨b1,b2⟩:=b;exact⟨(p.1,b2)::rs,⟨cW_ h.1,rfl,c⟩,.cons ⟨rfl,h.2⟩ q⟩
def tDisp(trs:List (TE × TE)):TE:=fun σ H Q=>∀p,H p=none->tPairs trs σ (upd H p (.dK [])) fun ps H2=>H2 p=some (.dK [])/\∃kvs:List (Key × V),ps=kvs.map (fun kv=>(kV kv.1,kv.2))/\kvs.length<=15/\Q (.ref p) (upd H2 p (.dK (bw' [] kvs)))
theorem jo_{X:Cx}{pos:Pos}{keys:List (Option Expr)}{values:List Expr}{trs:List (TE × TE)}(h:PPs X pos keys values trs)(hall:keys.all (·.isSome)=true)(hl:keys.length=values.length)(h0:keys≠[])
  (h15:keys.length<=15):PE X (.Dict keys values pos) (tDisp trs):=by
 intro pins s σ H Q I q;have hn:=I.hok.fresh (ag' s.heap.objs.size);have I1:=I.laid (a:=s.heap.objs.size) (o:=.dK []) (h':=s.heap.push { cls:=.type "dict",data:=.dict #[] }) (t':=s.toks) (fun _ _ q=>Heap.get?_push_of_some _ q) (ag' _) (f4_ s.heap I.big);refine wpAny_Dict_walk (knd:=a9' X.prog X.w) hall hl h0 h15 (thn (h pins _ σ _ _ I1 (q _ hn)) fun ws s2 ⟨ps,H2,I2,rel,e,kvs,ep,lk,q2⟩=>?_);subst ep;obtain⟨rs,c,rk⟩:=d4_ (P:=X.prog) (w:=X.w) rel;obtain⟨z,hd,vs0,r0,dd⟩:=e3_ I2.hok e;cases r0;refine⟨rs,c,dd,fun h' dd' hs=>⟨.ref s.heap.objs.size,_,?_,rfl,q2⟩⟩
 have hz:(bw' [] kvs).length<=sizeLine:=by
  have h1:=br_ kvs [];rw[a2'] at h1;rw[sizeLine_eq];omega
 have he:∃q,h'.get? s.heap.objs.size=some q:=let ⟨q,_,_,hq,_⟩:=dd';⟨q,hq⟩;exact eJ_ I2 (by rw[e];exact True.intro) hs he (gS_ hz hd (rk.merge .nil) dd')
structure M1 (X:Cx) (o:Expr) (m:Str) (apos:Pos) (e:Expr) (cpos:Pos):Prop where
 base:attributeBase o m X.env (eval o X.env)=eval o X.env
 few:((backTo cpos (starEach [e] X.env)).all (fun x=>!x.1)&&(backToKw cpos (keywordEach [] X.env)).all (fun x=>x.1.isSome)
  && decide (([e]:List Expr).length+([]:List Keyword).length+(if ([]:List Keyword).isEmpty then 0 else 1)<30))=true
 line:(apos.endLine == cpos.line)=true
 trees:backTo cpos (starEach [e] X.env)=[(false,eval e X.env)]
structure M2 (X:Cx) (o:Expr) (m:Str) (apos:Pos) (e f:Expr) (cpos:Pos):Prop where
 base:attributeBase o m X.env (eval o X.env)=eval o X.env
 few:((backTo cpos (starEach [e,f] X.env)).all (fun x=>!x.1)&&(backToKw cpos (keywordEach [] X.env)).all (fun x=>x.1.isSome)
  && decide (([e,f]:List Expr).length+([]:List Keyword).length+(if ([]:List Keyword).isEmpty then 0 else 1)<30))=true
 line:(apos.endLine == cpos.line)=true
 trees:backTo cpos (starEach [e,f] X.env)=[(false,eval e X.env),(false,eval f X.env)]
def IsD(H:Hp)(a:Addr):Prop:=(∃kvs,Rd H a (.dK kvs))∨∃kvs,Rd H a (.dT kvs)
theorem he_{X:Cx}{pins:List (Addr × Obj)}{σ:St}{H:Hp}{s:Shared}{a:Addr}(I:Inv X pins σ H s)(d:IsD H a) :
  s.TypeIs (.ref a) "dict"/\(∀b,Value.ref a=.ref b->∃ob,s.heap.get? b=some ob/\ob.dict=none)/\(a == sysModules)=false:=by
 rcases d with⟨kvs,e⟩|⟨kvs,e⟩
 ·obtain⟨_,hd,vs,_,dd⟩:=ck_ I.hok e;refine⟨dd.typeIs,fun b q=>?_,hd⟩;cases q;obtain⟨ob,_,_,h1,h2,_⟩:=dd;exact⟨ob,h1,h2.2.1⟩
 ·obtain⟨_,hd,xs,_,dd⟩:=ef_ I.hok e;refine⟨dd.typeIs,fun b q=>?_,hd⟩;cases q;obtain⟨ob,_,_,h1,h2,_⟩:=dd;exact⟨ob,h1,h2.2.1⟩
section
variable{X:Cx}{pins:List (Addr × Obj)}{σ:St}{H:Hp}{s:Shared}{a:Addr}{y d:V}{u r:Value}{o:Option V}{A:Around}{E:Value->Shared->Prop}
theorem k6_{Q:Value->Shared->Prop}(hu:A.units+1<cLine)(I:Inv X pins σ H s)(g:DGet H a y o)(ry:RelV y u)(rd:RelV d r)(h:∀w' s',Inv X pins σ H s'->RelV (o.getD d) w'->Q w' s') :
  wpAny (model X.prog X.w) A (call (.builtin "dict.get") [.ref a,u,r]) Q E s:=by
 rcases g with⟨kvs,k,e,ey,l⟩|⟨kvs,k,b,e,ey,eb,l⟩
 ·subst ey;obtain⟨z,hd,vs,rel,dd⟩:=ck_ I.hok e;refine call_meetsIn PySem.F.slot_dict_get dd.typeIs PySem.F.entry_dict_get (PySem.F.args_dict_get_3 _ _ _) (meets_dict_get_default (a9' X.prog X.w) a (cW_ ry) hd r) ⟨_,dd.mapOf,h _ _ (I.tok _) ?_⟩;rw[l];exact (rel.val k).getD rd
 ·subst ey;cases (show u=Value.ref b from ry);obtain⟨z,hd,xs,rel,dd⟩:=ef_ I.hok e;refine call_meetsIn PySem.F.slot_dict_get dd.typeIs PySem.F.entry_dict_get (PySem.F.args_dict_get_3 _ _ _) (meetsH_dict_get_default (tupleKind (a9' X.prog X.w)) a b hd r) ⟨tupleKind_room_in1 hu,k,xs,cY_ I.hok eb,dd,h _ _ (I.tok _) ?_⟩;rw[l];exact (rel.val k).getD rd
end
def tDGet2(td ty tx:TE):TE:=fun σ H Q=>td σ H fun x H1=>∃a,x=.ref a/\IsD H1 a/\ty σ H1 fun y H2=>tx σ H2 fun z H3=>∃o,DGet H3 a y o/\Q (o.getD z) H3
section
variable{X:Cx}{o e f:Expr}{apos cpos:Pos}{td ty tx:TE}
theorem i9_(hu:X.A.units+1<cLine)(ho:PE X o td)(he:PE X e ty)(hf:PE X f tx)(m:M2 X o "get" apos e f cpos):PE X (.Call (.Attribute o "get" apos) [e,f] [] cpos) (tDGet2 td ty tx):=by
 intro pins s σ H Q I h;refine wpAny_Call_method m.base m.few m.line PySem.F.plainAttrs_dict PySem.F.slot_dict_get PySem.F.type_dict_get (thn (ho pins s σ H _ I h) fun u s1 ⟨x,H1,I1,rx,a,ex,d,q1⟩=>?_);subst ex;obtain rfl:u=Value.ref a:=rx;obtain⟨t1,t2,_⟩:=he_ I1 d;refine⟨t1,t2,?_⟩;rw[m.trees]
 refine Calls.callWith_builtin rfl (Calls.evalArgs_plain (Calls.spliced_cons (thn (he pins s1 σ H1 _ I1 q1) fun iv s2 ⟨y,H2,I2,ry,q2⟩=>
  Calls.spliced_cons (thn (hf pins s2 σ H2 _ I2 q2) fun fv s3 ⟨z,H3,I3,rz,ov,g,q3⟩=>Calls.spliced_nil ?_))))
 exact k6_ hu I3 g ry rz fun w' s4 I4 rw'=>⟨_,H3,I4,rw',q3⟩
end
section
variable{X:Cx}{pins:List (Addr × Obj)}{σ:St}{H:Hp}{s:Shared}{a:Addr}{kvs:List (Key × V)}{A:Around}{E:Value->Shared->Prop}
end
section
variable{X:Cx}{pins:List (Addr × Obj)}{σ:St}{H:Hp}{s:Shared}{a:Addr}{y:V}{u:Value}{A:Around}{E:Value->Shared->Prop}
end
end L2
namespace Att
open PySem PySem.W PySem.Calls PyProof.Rows
theorem cv_{P:Params}{h:Heap}:∀(ns:List Int) (vs:List Value),WellAll P h vs (ns.map WData.int)->IntsAre vs ns:=by
 intro ns
 induction ns with
 |nil=>
  intro vs w;rw[a1'] at w;cases w;exact .nil
 |cons n ns ih=>
  intro vs w;rw[ao'] at w;cases w with
  |cons a b=>
   cases a;exact .cons _ _ (ih _ b)
theorem fV_{l:OpenLaw}{n:Nat}(hn:l.most=some n){P:Params}{h:Heap}{args:List WData}{vals:List Value}
  (hpre:l.row.toRowW.claim.pre args=true) (hwl:WellAll P h vals args) :
  ∃a vs ns,vals=[Value.ref a]/\args=[WData.list (ns.map WData.int)]/\h.get? a=some { cls:=.type "list",data:=.seq vs.toArray }/\IntsAre vs ns/\ns.length<=n:=by
 have hsh:WShape.hasAll [] args [.list .int]=true:=(pre_splitW hpre).1;have hc:l.pre.holds [] { args:=args }=true:=(pre_splitW hpre).2;obtain⟨d,r,rfl,h1,h2⟩:=hasAllW_cons hsh;obtain rfl:=hasAllW_nil h2;obtain⟨xs,rfl,h3⟩:=hasW_list h1;obtain⟨ns,rfl⟩:=items_int h3
 have hlen:ns.length<=n:=by
  unfold OpenLaw.pre at hc
  have h4:(WTm.not (.lt (.lit (.int (n:Int))) (.len (.arg 0)))).holds [] { args:=[.list (ns.map .int)] }=true:=by
   have h4:=(holds_andW hc).1;rw[hn] at h4;exact h4
  have h5:=condW_of h4 (w_not (w_lt w_lit (w_len_list (w_arg rfl))));rw[aa'] at h5;refine Nat.le_of_not_lt fun q=>?_;have q':(n:Int)<((ns.length:Nat):Int):=by omega
  first
   |(rw[decide_eq_true q'] at h5;exact absurd h5 (by decide))
   |(simp at h5;omega)
 cases hwl with
 |cons w1 w2=>
  cases w2;cases w1 with
  |list ho hall=>exact⟨_,_,ns,rfl,rfl,ho,cv_ ns _ hall,hlen⟩
theorem gL_(l:OpenLaw)(args:List WData):l.row.toRowW.claim.post args (.bool true) args=true:=
 postW_of (r:=l.row.toRowW) (X:=(true == true))
  (show WShape.has [] (.bool true) .bool=true by first|rfl|decide|simp[WShape.has,WShape.arms,WShape.armsAll])
  (show (WTm.eq .res (.lit (.bool true))).value [] { args:=args,res:=some (.bool true),after:=args }=some (.bool (true == true)) from w_eq_bool (w_res rfl) w_lit) rfl
theorem attach_call{l:OpenLaw}{n:Nat}{q:Program}{loose:List Str}{XP:(Str->Option Value)->Heap->Prop}{YP:World->Heap->Prop}{d:DefRec}
  (hn:l.most=some n) (hdf:d.params.defaults=[])
  (call:∀(w:World) (s₀ s₁:Shared) (mg mb:Str->Option Value) (fa:Addr) (o:Obj) (pm cd doc:Value) (a:Addr) (vs:List Value) (ns:List Int),
   Ground q loose [] XP w s₀ mg mb s₁.heap->YP w s₁.heap->
   s₁.heap.get? fa=some o->o.data=.func (docDef d.name d.params d.body d.scope pm cd doc)->s₁.heap.CodeRec cd d.name->mg d.name=some (.ref fa)->
   s₁.heap.get? a=some { cls:=.type "list",data:=.seq vs.toArray }->IntsAre vs ns->ns.length<=n->s₁.gens=#[]->
   codeAny (model l.prog w) callerA (.call (.ref fa) ⟨[.ref a],[]⟩) (fun r s'=>r=.ok (.ret (.bool true))/\OldK s₁.heap s'.heap/\s'.os=s₁.os/\AllBare s'.gens) s₁) :
  WalkO q loose XP YP l.row.toRowW d [] (fun f vs=>PySem.call f vs):=by
 intro w s₀ s₁ mg mb G Y fa o pm cd doc dV kV ho hd hcd hD hmg hg args vals as hpre hlay hrd hwl hlo;obtain rfl:dV=.none:=Dflts.none hD hdf;obtain rfl:kV=.none:=Dflts.noKw hD;obtain⟨a,vs,ns,rfl,rfl,hobj,hints,hlen⟩:=fV_ hn hpre hwl;refine enter_call (codeAny_mono (call w s₀ s₁ mg mb fa o pm cd doc a vs ns G Y ho (fd_plain hd) hcd hmg hobj hints hlen hg) fun r s' hq=>?_);obtain⟨rfl,h2,h3,h4⟩:=hq;exact⟨.inl ⟨.bool true,.bool true,[],rfl,fun _=>rfl,.bool true,gL_ l _,fun _=>⟨List.Pairwise.nil,fun _ hm=>(nomatch hm)⟩⟩,h2,h3,h4⟩
section
variable{prog:Program}{w:World}{A:Around}{E:Value->Shared->Prop}{s:Shared}{K:Frag}
end
end Att
namespace L2
open PySem PySem.Spec PyProof.Rows
theorem e0_:∀{vs:List Value} {ns:List Int},IntsAre vs ns->Vals (ns.map V.int) vs
 |_,_,.nil=>.nil
 |_,_,.cons n t h=>.cons ⟨t,rfl⟩ (e0_ h)
end L2
namespace L2
open PySem PySem.Spec PyProof.Rows
end L2
namespace L2
open PySem PySem.Spec PyProof.Rows
def bj'(s:Stmt)(j:Nat):Stmt:=match s with
 |.ClassDef _ _ _ body _ _ _ _ _ _ _=>body.getD j (.Pass ⟨0,0,0,0⟩)
 |_=>.Pass ⟨0,0,0,0⟩
def bc'(s:Stmt):Arguments:=match s with
 |.FunctionDef _ a _ _ _ _ _ _ _ _=>a
 |_=>{ posonlyargs:=[],args:=[],vararg:=none,kwonlyargs:=[],kw_defaults:=[],kwarg:=none,defaults:=[] }
def bb'(s:Stmt):List Stmt:=match s with
 |.FunctionDef _ _ b _ _ _ _ _ _ _=>b
 |_=>[]
def a5'(s:Stmt):Scope:=match s with
 |.FunctionDef _ _ _ _ _ _ sc _ _ _=>sc
 |_=>{ kind:=.function,names:=[],isGenerator:=false,isCoroutine:=false }
abbrev CX0:CXT:=fun _ _ _ _ _ _=>False
abbrev E0:XK:=fun _ _ _=>False
theorem pass0{X:Cx}:bG' CX0 X E0:=fun _ _ _ _ _ _ _ h=>h.elim
structure Fun (K:F__) (x qual:Str) (st:Stmt) (f:Addr) (fd:FuncData):Prop where
 ex:∃(oc:Value) (od:Option Addr) (kV doc pm:Value) (an:Option Addr) (cdv ct:Value) (osl:Array (Option Value)),
  fd=PySem.W.fnOf x qual (bc' st) (bb' st) (a5' st) .none kV doc pm an cdv ct/\K.lookup f=some ⟨oc,od,.func fd,osl⟩/\PySem.W.codeIn K cdv qual=true
 kp:PySem.W.keepIn K (.ref f)=true
section
variable{P:Program}{w:World}{K:F__}{mg:Str->Option Value}{base:Heap}
theorem Fun.ok{x qual:Str}{st:Stmt}{f:Addr}{fd:FuncData}{N ps:List Str}{k:Nat}{sp:Sp}(F:Fun K x qual st f fd)(S:a7' N ps (a5' st))(len:∀vs H Q E,sp vs H Q E->vs.length=ps.length)
  (hbody:∀(cdv:Value) (A:Around) (outer:List Env) (s:Shared) (H:Hp) (vs:List V) (Q:VK) (E:XK),Room k (A.deeper (envOfC qual (a5' st) s.heap.objs.size f cdv))->sp vs H Q E->
   ∃t,PSs (cxOf CX0 P w K mg base N qual (a5' st) f cdv A outer s H E).nox (bb' st) t/\t { nx:=fun _ H'=>Q .non H',rt:=Q } (start N vs) H):FnOk P w K mg base CX0 (k+1) f fd ps sp:=by
 obtain⟨oc,od,kV,doc,pm,an,cdv,ct,osl,rfl,lk,hcd⟩:=F.ex;refine jF_ lk hcd S len fun A outer s H vs Q E hr hsp=>?_;obtain⟨t,h,q⟩:=hbody cdv A outer s H vs Q E hr hsp;exact⟨t,h.nox,q⟩
theorem Fun.binds{x qual:Str}{st:Stmt}{f:Addr}{fd:FuncData}{ps:List Str}(F:Fun K x qual st f fd)
  (h:∀(kV doc pm:Value) (an:Option Addr) (cdv ct:Value) (us:List Value),us.length=ps.length->bindArgs (PySem.W.fnOf x qual (bc' st) (bb' st) (a5' st) .none kV doc pm an cdv ct) ⟨us,[]⟩=pure (ps.zip us)):bV' K fd ps []:=by
 obtain⟨oc,od,kV,doc,pm,an,cdv,ct,osl,rfl,lk,hcd⟩:=F.ex;exact .all (h kV doc pm an cdv ct)
theorem go_{x qual:Str}{st:Stmt}{f:Addr}{oc:Value}{od an:Option Addr}{osl:Array (Option Value)}{kV doc pm cdv ct:Value}(l:K.lookup f=some ⟨oc,od,.func (PySem.W.fnOf x qual (bc' st) (bb' st) (a5' st) .none kV doc pm an cdv ct),osl⟩)
  (c:PySem.W.codeIn K cdv qual=true) (k:PySem.W.keepIn K (.ref f)=true):Fun K x qual st f (PySem.W.fnOf x qual (bc' st) (bb' st) (a5' st) .none kV doc pm an cdv ct):=⟨⟨oc,od,kV,doc,pm,an,cdv,ct,osl,rfl,l,c⟩,k⟩
end
theorem b3_{A:Around}{k:Nat}(hr:Room k A):A.units+1<cLine:=Nat.lt_of_le_of_lt (Nat.add_le_add_left (by decide:1<=64) _) hr.units
section
variable{X:Cx}
theorem pv(i:Nat){x:Str}{pos:Pos}(hN:X.N[i]? = some x:=by rfl)(hv:Vis X.env.scope x:=by first|exact Or.inl rfl|exact Or.inr (Or.inl rfl)|exact Or.inr (Or.inr rfl))(hd:(x == ("__debug__":Str))=false:=by decide)
  (hcd:(x == ("__classdict__":Str))=false:=by decide):PE X (.Name x pos) (tVar i):=kq_ hN hv hd hcd
theorem gt_:bu' X (.builtin "len") (fun xs H Q=>∃a kvs,xs=[V.ref a]/\H a=some (.dK kvs)/\Q (.int kvs.length) H):=by
 intro pins s σ H xs us Q I r h;obtain⟨a,kvs,rfl,ha,q⟩:=h;obtain⟨u,rfl,ru⟩:=vals1 r;cases ru;exact kA_ I (.inl ha) fun t s' I'=>⟨.int kvs.length,H,I',⟨t,rfl⟩,q⟩
end
theorem iteF{A B:Prop}(h:B):if false=true then A else B:=by
 rw[if_neg ar'];exact h
theorem iteT{A B:Prop}(h:A):if true=true then A else B:=by
 rw[if_pos rfl];exact h
theorem ite2{c A B:Prop}[Decidable c](h1:c->A)(h2:¬c->B):if c then A else B:=by
 by_cases h:c
 ·rw[if_pos h];exact h1 h
 ·rw[if_neg h];exact h2 h
theorem iteNS{c A B:Prop}[Decidable c](hc:c)(h:B):if (!decide c)=true then A else B:=by
 rw[decide_eq_true hc];exact iteF h
def Same(H H':Hp):Prop:=∀b o,H b=some o->H' b=some o
theorem Same.refl(H:Hp):Same H H:=fun _ _ h=>h
theorem Same.trans{H H1 H2:Hp}(a:Same H H1)(b:Same H1 H2):Same H H2:=fun c o h=>b c o (a c o h)
theorem Same.free{H H':Hp}(e:Same H H'){l:Addr}(h:H' l=Option.none):H l=Option.none:=by
 cases q:H l with
 |none=>rfl
 |some o=>
  rw[e l o q] at h;cases h
section
variable{κ:Type}[DecidableEq κ]
theorem je_{kvs:List (κ × V)}{k:κ}{v:V}(h:valV kvs k=some v):k∈kvs.map (·.1):=by
 have q:(kvs.any fun kv=>decide (kv.1=k))=true:=by
  rw[bn_,h]
  all_goals rfl
 obtain⟨p,hp,e⟩:=List.any_eq_true.mp q;exact ad'.mpr ⟨p,hp,of_decide_eq_true e⟩
end
end L2
namespace L2
open PySem PySem.Spec PyProof.Rows
def bo'(env:Env):List (Str × NameKind)->List (Str × Addr)->List (Str × Addr)
 |[],cs=>cs
 |(n,k)::r,cs=>bo' env r (if k == .free then (n,(env.cells.lookup n).getD 0)::cs else cs)
theorem bm_{env:Env}(f:Str × NameKind->List (Str × Addr)->Sem (ForInStep (List (Str × Addr))))
  (hf:∀n k cs,f (n,k) cs=if (k == .free)=true then (do let a <- cellOf env n;pure (.yield ((n,a)::cs))) else pure (.yield cs)) :
  ∀(names:List (Str × NameKind)) (cs:List (Str × Addr)),(∀x∈names,x.2=.free->∃c,env.cells.lookup x.1=some c)->forIn names cs f=(pure (bo' env names cs):Sem _)
 |[],cs,_=>by rw[List.forIn_nil];rfl
 |(n,k)::r,cs,h=>by
  rw[List.forIn_cons,hf];have hr:∀x∈r,x.2=.free->∃c,env.cells.lookup x.1=some c:=fun x hx=>h x (af' _ hx);unfold bo';by_cases hk:(k == NameKind.free)=true
  ·obtain⟨c,hc⟩:=h (n,k) ah' (by simpa using hk);have hc:env.cells.lookup n=some c:=hc;rw[if_pos hk,if_pos hk];have e:cellOf env n=pure c:=by unfold cellOf;rw[hc]
   rw[e];simp only[pure_bind];rw[bm_ f hf r _ hr,hc];rfl
  ·rw[if_neg hk,if_neg hk];simp only[pure_bind];exact bm_ f hf r _ hr
theorem bT_{scope:Scope}{env:Env}(h:∀x∈scope.names,x.2=.free->∃c,env.cells.lookup x.1=some c):closureFor scope env=pure (bo' env scope.names []):=by
 simp only[closureFor];rw[bm_ (env:=env) _ (fun n k cs=>by by_cases hk:(k == NameKind.free)=true<;>simp[hk]) scope.names [] h]
 simp only[pure_bind]
theorem d9_{env:Env}:∀{names:List (Str × NameKind)} {cs:List (Str × Addr)} {x:Str} {c:Addr},(x,c)∈bo' env names cs->(x,c)∈cs∨((x,NameKind.free)∈names/\c=(env.cells.lookup x).getD 0)
 |[],cs,x,c,h=>.inl h
 |(n,k)::r,cs,x,c,h=>by
  unfold bo' at h;rcases d9_ h with h|⟨h,e⟩
  ·by_cases hk:(k == NameKind.free)=true
   ·rw[if_pos hk] at h;rcases aj'.mp h with q|q
    ·cases q;have:k=.free:=by simpa using hk
     subst this;exact .inr ⟨ah',rfl⟩
    ·exact .inl q
   ·rw[if_neg hk] at h;exact .inl h
  ·exact .inr ⟨af' _ h,e⟩
theorem c7_{env:Env}:∀{names:List (Str × NameKind)} {cs:List (Str × Addr)} {x:Str},(x,NameKind.free)∈names∨(∃c,(x,c)∈cs)->∃c,(x,c)∈bo' env names cs
 |[],cs,x,h=>by
  rcases h with h|h
  ·cases h
  ·exact h
 |(n,k)::r,cs,x,h=>by
  unfold bo';refine c7_ ?_;rcases h with h|⟨c,h⟩
  ·rcases aj'.mp h with e|h
   ·cases e;exact .inr ⟨(env.cells.lookup n).getD 0,by rw[if_pos (by decide)];exact ah'⟩
   ·exact .inl h
  ·refine .inr ⟨c,?_⟩;split
   ·exact af' _ h
   ·exact h
theorem bo_:∀(names:List (Str × NameKind)) (n:Nat) (acc cl:List (Str × Addr)),cellsFrom n names (acc++cl)=cellsFrom n names acc++cl
 |[],_,_,_=>rfl
 |(x,k)::r,n,acc,cl=>by
  unfold cellsFrom;split
  ·exact bo_ r (n+1) ((x,n)::acc) cl
  ·exact bo_ r n acc cl
theorem bs_:∀{names:List (Str × NameKind)} {n:Nat} {acc:List (Str × Addr)} {x:Str} {c:Addr},(x,c)∈cellsFrom n names acc->(x,c)∈acc∨(x,NameKind.cell)∈names
 |[],_,_,_,_,h=>.inl h
 |(y,k)::r,n,acc,x,c,h=>by
  unfold cellsFrom at h;by_cases hk:(k == NameKind.cell)=true
  ·rw[if_pos hk] at h;rcases bs_ h with h|h
   ·rcases aj'.mp h with e|h
    ·cases e;have:k=.cell:=by simpa using hk
     subst this;exact .inr ah'
    ·exact .inl h
   ·exact .inr (af' _ h)
  ·rw[if_neg hk] at h;rcases bs_ h with h|h
   ·exact .inl h
   ·exact .inr (af' _ h)
theorem bp_{α:Type}:∀{l:List (Str × α)} {x:Str} {c:α},(x,c)∈l->∃c',l.lookup x=some c'
 |(k,v)::r,x,c,h=>by
  rw[aP'];cases hb:x == k with
  |true=>exact⟨v,rfl⟩
  |false=>
   rcases aj'.mp h with e|h
   ·cases e;simp at hb
   ·exact bp_ h
def cpEnv(scope:Scope)(C:Addr)(env:Env):Env:=
 { scope:=relabel scope env,locals:=C,globals:=env.globals,cells:=cellsFrom (C+1) scope.names (bo' env scope.names []),qual:=env.qual,func:=none,code:=env.code,frame:=env.frame,builtins:=env.builtins }
theorem cO_{M:Model}{A:Around}{E:Value->Shared->Prop}{s:Shared}{scope:Scope}{cl:List (Str × Addr)}{env:Env}{Q:Env->Shared->Prop}
  (h:Q { scope:=scope,locals:=s.heap.objs.size,globals:=env.globals,cells:=cellsFrom (s.heap.objs.size+1) scope.names cl,qual:=env.qual,func:=none,code:=env.code,frame:=env.frame,builtins:=env.builtins }
   { s with heap:=pushCells (s.heap.push { cls:=.type "dict",data:=.dict #[] }) scope.names }) :
  wpAny M A (newFunctionEnv scope env.globals cl [] env.qual none .none (some env)) Q E s:=by
 simp only[newFunctionEnv,Option.isSome_some,if_true];refine wpAny_bind (wpAny_alloc ?_);refine wpAny_bind (wpAny_layCells _ (fun name kind cells=>by cases hkc:kind == NameKind.cell<;>simp[hkc]) _ _ _ _ ?_)
 rw[show ({ s with heap:=s.heap.push { cls:=.type "dict",data:=.dict #[] } }:Shared).heap.objs.size=s.heap.objs.size+1 from Heap.size_push ..];rw[List.forIn_nil];exact wpAny_bind (wpAny_pure (wpAny_pure h))
def ct'(PN:List Str)(ps:Scope)(N:List Str)(own:Nat)(fr:List Nat)(scope:Scope):Bool:=
 decide (scope.kind=.function)&&decide N.Nodup&&decide (own+fr.length=N.length)
 && (scope.names.all fun y=>decide (scope.names.lookup y.1=some y.2))
 && (scope.names.all fun y=>if y.2=.free then decide (ps.names.lookup y.1=some .cell) || decide (ps.names.lookup y.1=some .free) else true)
 && ((fr.map fun j=>PN[j]?) == (N.drop own).map some)
 && ((N.drop own).all fun x=>decide (scope.names.lookup x=some .free))
structure CpOk (PN:List Str) (ps:Scope) (N:List Str) (own:Nat) (fr:List Nat) (scope:Scope):Prop where
 kind:scope.kind=.function
 nd:N.Nodup
 len:own+fr.length=N.length
 look:∀y∈scope.names,scope.names.lookup y.1=some y.2
 par:∀y∈scope.names,y.2=.free->ps.names.lookup y.1=some .cell∨ps.names.lookup y.1=some .free
 frs:(fr.map fun j=>PN[j]?)=(N.drop own).map some
 frk:∀x∈N.drop own,scope.names.lookup x=some .free
theorem CpOk.of{PN:List Str}{ps:Scope}{N:List Str}{own:Nat}{fr:List Nat}{scope:Scope}(h:ct' PN ps N own fr scope=true):CpOk PN ps N own fr scope:=by
 unfold ct' at h;simp only[Bool.and_eq_true,decide_eq_true_eq,List.all_eq_true,beq_iff_eq] at h;obtain⟨⟨⟨⟨⟨⟨h1,h2⟩,h3⟩,h4⟩,h5⟩,h6⟩,h7⟩:=h;refine⟨h1,h2,h3,h4,fun y hy e=>?_,h6,h7⟩;have q:=h5 y hy;rw[if_pos e] at q;simpa using q
def bI'(own:Nat)(fr:List Nat)(σ:St):St:=List.replicate own none++fr.map fun j=>(σ[j]?).join
def bi'(X:Cx)(N:List Str)(scope:Scope)(fp:List Addr)(s:Shared)(H:Hp):Cx where
 prog:=X.prog
 w:=X.w
 K:=X.K
 mg:=X.mg
 base:=X.base
 A:=X.A
 N:=N
 s₀:=s
 H₀:=H
 env:=cpEnv scope s.heap.objs.size X.env
 outer:=X.stack
 stack:=X.stack
 ex:=fp
 fn:=fun x=>decide (scope.names.lookup x=some .local) || decide (scope.names.lookup x=some .cell)
 calm:=X.calm
 pn:=[]
 xe:=fun _ _=>False
theorem ci_{ps:Scope}{env:Env}(he:env.scope=ps){x:Str}:∀{names:List (Str × NameKind)} {k:NameKind},names.lookup x=some k->
  (names.map fun(n,k)=>if (k == NameKind.free&&env.scope.kind == .function&&env.kindOf n == some .cell) then (n,NameKind.cell) else (n,k)).lookup x =
   some (if (k == NameKind.free&&env.scope.kind == .function&&env.kindOf x == some .cell) then .cell else k)
 |(n,k')::r,k,h=>by
  rw[aP'] at h;rw[ao'];cases hb:x == n with
  |true=>
   rw[hb] at h;cases h;have e:x=n:=by simpa using hb
   subst e;dsimp only;split<;>simp[aP']
  |false=>
   rw[hb] at h;have ih:=ci_ he (env:=env) h;dsimp only;split<;>(rw[aP',hb];exact ih)
theorem c2_{env:Env}{x:Str}:∀{names:List (Str × NameKind)} {k:NameKind},(names.map fun(n,k)=>if (k == NameKind.free&&env.scope.kind == .function&&env.kindOf n == some .cell) then (n,NameKind.cell) else (n,k)).lookup x=some k->∃k',names.lookup x=some k'/\(k'=k∨(k'=.free/\k=.cell))
 |(n,k')::r,k,h=>by
  rw[ao'] at h;rw[aP'];dsimp only at h;cases hb:x == n with
  |true=>
   refine⟨k',rfl,?_⟩;by_cases hc:(k' == NameKind.free&&env.scope.kind == .function&&env.kindOf n == some .cell)=true
   ·rw[if_pos hc,aP',hb] at h;cases h;simp only[Bool.and_eq_true,beq_iff_eq] at hc;exact .inr ⟨hc.1.1,rfl⟩
   ·rw[if_neg hc,aP',hb] at h;cases h;exact .inl rfl
  |false=>
   have h':(r.map fun(n,k)=>if (k == NameKind.free&&env.scope.kind == .function&&env.kindOf n == some .cell) then (n,NameKind.cell) else (n,k)).lookup x=some k:=by
    split at h<;>(rw[aP',hb] at h;exact h)
   exact c2_ h'
theorem dj_{α:Type}{x:Str}{c:α}:∀{l r:List (Str × α)},(l++r).lookup x=some c->(x,c)∈l∨(x,c)∈r:=fun h=>aw'.mp (PySem.mem_of_lookup h)
section
variable{X:Cx}{pins:List (Addr × Obj)}{σ:St}{H:Hp}{s:Shared}{N:List Str}{own:Nat}{fr:List Nat}{scope:Scope}{fp:List Addr}
theorem de'(I:Inv X pins σ H s)(S:CpOk X.N X.env.scope N own fr scope){x:Str}{c:Addr}(h:(x,c)∈bo' X.env scope.names []):X.env.cells.lookup x=some c/\(x,NameKind.free)∈scope.names:=by
 rcases d9_ h with h|⟨h,e⟩
 ·cases h
 ·obtain⟨c',hc⟩:=I.ok.has x (S.par _ h rfl);refine⟨?_,h⟩;rw[e,hc];rfl
theorem Inv.block(I:Inv X pins σ H s)(S:CpOk X.N X.env.scope N own fr scope)(hfp:∀b∈fp,FpOk X pins H b)(hfo:∀b∈fp,∃o,s.heap.get? b=some o) :
  Inv (bi' X N scope fp s H) [] (bI' own fr σ) H { s with heap:=pushCells (s.heap.push { cls:=.type "dict",data:=.dict #[] }) scope.names }:=by
 have kept:∀b o,s.heap.get? b=some o->(pushCells (s.heap.push { cls:=.type "dict",data:=.dict #[] }) scope.names).get? b=some o:=fun b o e=>pushCells_keeps _ _ b o (Heap.get?_push_of_some _ e);have cok:=cellsFrom_ok scope.names (s.heap.push { cls:=.type "dict",data:=.dict #[] }) (s.heap.objs.size+1) [] ⟨fun _ _ hm=>(nomatch hm),List.Pairwise.nil⟩ (by rw[Heap.size_push];exact ag' _);rw[Heap.size_push] at cok;have ecs:cellsFrom (s.heap.objs.size+1) scope.names (bo' X.env scope.names [])=cellsFrom (s.heap.objs.size+1) scope.names []++bo' X.env scope.names []:=bo_ _ _ [] _
 have lookC:∀{x c},(cellsFrom (s.heap.objs.size+1) scope.names (bo' X.env scope.names [])).lookup x=some c->((x,c)∈cellsFrom (s.heap.objs.size+1) scope.names []/\(x,NameKind.cell)∈scope.names/\s.heap.objs.size+1<=c)∨(X.env.cells.lookup x=some c/\(x,NameKind.free)∈scope.names):=fun {x c} h=>by
  rw[ecs] at h;rcases dj_ h with h|h
  ·refine .inl ⟨h,?_,(cok.empty _ _ h).2⟩;rcases bs_ h with q|q
   ·cases q
   ·exact q
  ·exact .inr (de' I S h)
 have oldC:∀{x c},X.env.cells.lookup x=some c->c<s.heap.objs.size:=fun {x c} h=>by
  obtain⟨v,hv⟩:=I.cell x c h;exact hv.lt
 have hb:∀b∈fp,b<s.heap.objs.size:=fun b hb=>let ⟨o,e⟩:=hfo b hb;Heap.lt_size e
 refine⟨⟨I.ok.mod,S.kind,I.ok.glob,I.ok.blt,ag' _,fun x y c h1 h2=>?_,fun x hx=>?_,fun x c hf h=>?_,I.ok.hd,I.ok.frames,.inl rfl,fun b hb'=>⟨au' (hb b hb'),fun x c h=>?_⟩,I.bs,?_,fun b o e hb'=>?_,fun b hb' hs=>?_,I.stack,I.stkFree⟩,
  rfl,I.bare,Un.kept kept,⟨_,(Heap.Ns.new s.heap (.type "dict")).keeps (pushCells_keeps _ _),fun i x v h1 h2 h3=>?_⟩,fun x c h=>?_,I.hok.fresh (ag' _),fun x c h=>?_,fun p hp=>absurd (show p∈([]:List (Addr × Obj)) from hp) (by simp),I.hok.kept kept,?_⟩
 ·-- inj
  rcases lookC h1 with⟨m1,k1,l1⟩|⟨m1,k1⟩<;>rcases lookC h2 with⟨m2,k2,l2⟩|⟨m2,k2⟩
  ·exact name_of_addr cok.apart m1 m2
  ·exact absurd (oldC m2) (Nat.not_lt.mpr (Nat.le_of_succ_le l1))
  ·exact absurd (oldC m1) (Nat.not_lt.mpr (Nat.le_of_succ_le l2))
  ·exact I.ok.inj x y c m1 m2
 ·-- has
  have key:(x,NameKind.cell)∈scope.names∨(x,NameKind.free)∈scope.names:=by
   rcases hx with hx|hx
   ·obtain⟨k',e,q⟩:=c2_ (env:=X.env) (show _=some NameKind.cell from hx);have m:=PySem.mem_of_lookup e;rcases q with q|⟨q,_⟩
    ·exact .inl (q▸m)
    ·exact .inr (q▸m)
   ·obtain⟨k',e,q⟩:=c2_ (env:=X.env) (show _=some NameKind.free from hx);have m:=PySem.mem_of_lookup e;rcases q with q|⟨_,q⟩
    ·exact .inr (q▸m)
    ·cases q
  show ∃c,(cellsFrom (s.heap.objs.size+1) scope.names (bo' X.env scope.names [])).lookup x=some c
  have:((cellsFrom (s.heap.objs.size+1) scope.names (bo' X.env scope.names [])).lookup x).isSome=true:=by
   refine PySem.W.cellsFrom_some _ _ _ ?_;rcases key with q|q
   ·exact .inl (S.look _ q)
   ·obtain⟨c,m⟩:=c7_ (env:=X.env) (names:=scope.names) (cs:=[]) (x:=x) (.inl q);obtain⟨c',e⟩:=bp_ m;exact .inr (by rw[e];rfl)
  exact Option.isSome_iff_exists.mp this
 ·-- cab
  rcases lookC h with⟨_,_,l⟩|⟨_,k⟩
  ·exact Nat.le_of_succ_le l
  ·have e:=S.look _ k;have hf:(decide (scope.names.lookup x=some .local) || decide (scope.names.lookup x=some .cell))=true:=hf;rw[show scope.names.lookup x=some .free from e] at hf;exact absurd hf (by decide)
 ·rcases lookC h with⟨_,_,l⟩|⟨q,_⟩
  ·exact a4' (av' (hb b hb') (Nat.le_of_succ_le l))
  ·exact (hfp b hb').2.2.2.2.1 x c q
 ·exact aU' I.ok.bsz I.sz
 ·rcases (hfp b hb').2.2.2.1 with q|q
  ·exact I.ok.noex b o e q
  ·exact absurd (av' (Heap.lt_size e) I.ok.bsz) (by omega)
 ·rcases aj'.mp (I.stkSub b hs) with q|q
  ·exact (hfp b hb').2.1 q
  ·exact (hfp b hb').2.2.1 q
 ·-- names
  have hi:own<=i:=by
   refine Nat.le_of_not_lt fun hlt=>?_;unfold bI' at h2;rw[aS' (by rw[aJ'];exact hlt),List.getElem?_replicate,if_pos hlt] at h2;cases h2
  have h2':(fr.map fun j=>(σ[j]?).join)[i - own]? = some (some v):=by
   unfold bI' at h2;rw[aQ' (by rw[aJ'];exact hi),aJ'] at h2;exact h2
  have h1:N[i]? = some x:=h1;have hx:(N.drop own)[i - own]? = some x:=by rw[List.getElem?_drop,show own+(i - own)=i by omega];exact h1
  rw[an'] at h2';cases ej:fr[i - own]? with
  |none=>rw[ej] at h2';cases h2'
  |some j=>
   rw[ej] at h2';have h2':(σ[j]?).join=some v:=Option.some.inj h2'
   have hσ:σ[j]? = some (some v):=by
    cases q:σ[j]? with
    |none=>rw[q] at h2';cases h2'
    |some o=>rw[q] at h2';exact congrArg some h2'
   have hN:X.N[j]? = some x:=by
    have q:=congrArg (fun l=>l[i - own]?) S.frs;simp only[an',ej,hx,Option.map_some] at q;exact Option.some.inj q
   have kf:=S.frk x (ac' hx);have mf:=PySem.mem_of_lookup kf;obtain⟨m,hm,hv⟩:=I.loc;have pk:=S.par _ mf rfl;obtain⟨u,ru,lk⟩:=hv j x v hN hσ (pk.elim (fun q=>.inr (.inl q)) fun q=>.inr (.inr q));refine⟨u,ru,?_⟩;have pk':X.env.kindOf x=some .cell∨X.env.kindOf x=some .free:=pk;rcases lk with⟨k,_⟩|⟨_,c,hc,hcell⟩
   ·rw[k] at pk';rcases pk' with q|q<;>cases q
   ·obtain⟨c',m1⟩:=c7_ (env:=X.env) (names:=scope.names) (cs:=[]) (x:=x) (.inl mf);have e1:=(de' I S m1).1;rw[hc] at e1;cases e1;refine .inr ⟨?_,c,?_,hcell.keeps kept⟩
    ·have q:=ci_ (env:=X.env) rfl kf;show (relabel scope X.env).names.lookup x=some .cell∨(relabel scope X.env).names.lookup x=some .free;unfold relabel;rw[q];split
     ·exact .inl rfl
     ·exact .inr rfl
    ·obtain⟨c2,e2⟩:=Option.isSome_iff_exists.mp (PySem.W.cellsFrom_some (x:=x) scope.names (s.heap.objs.size+1) (bo' X.env scope.names []) (.inr (by obtain⟨c',e⟩:=bp_ m1;rw[e];rfl)));show (cellsFrom (s.heap.objs.size+1) scope.names (bo' X.env scope.names [])).lookup x=some c;rcases lookC e2 with⟨_,q,_⟩|⟨q,_⟩
     ·have:=S.look _ q;rw[show scope.names.lookup x=some .free from kf] at this;cases this
     ·rw[hc] at q;cases q;exact e2
 ·-- cells
  rcases lookC h with⟨q,_,_⟩|⟨q,_⟩
  ·exact⟨_,(cok.empty _ _ q).1⟩
  ·obtain⟨v,hv⟩:=I.cell x c q;exact⟨v,hv.keeps kept⟩
 ·rcases lookC h with⟨q,_,l⟩|⟨q,_⟩
  ·exact I.hok.fresh (by omega)
  ·exact I.freeC x c q
 ·show (bI' own fr σ).length=N.length;unfold bI';rw[aq',aJ',aa'];exact S.len
end
def PTs(X:Cx)(ifs:List Expr)(t:TT):Prop:=
 ∀(pins:List (Addr × Obj)) (s:Shared) (σ:St) (H:Hp) (Q:Bool->Hp->Prop),Inv X pins σ H s->t σ H Q->
  wpAny (model X.prog X.w) X.A (forIn ifs true fun c r=>if r=true then do let ok <- isTrue c X.env (eval c X.env);pure (ForInStep.yield ok) else pure (ForInStep.yield r)) (TP X pins σ Q) X.xe s
def tYes:TT:=fun _ H Q=>Q true H
theorem yesT{σ:St}{H:Hp}{A B:Hp->Prop}(h:A H):tYes σ H fun b H4=>if b=true then A H4 else B H4:=by
 unfold tYes;exact iteT h
theorem aU_{X:Cx}:PTs X [] tYes:=fun _ _ _ H _ I h=>wpAny_tests_nil ⟨H,I,h⟩
theorem eF_{X:Cx}{c:Expr}{t:TT}(h:PT X c t):PTs X [c] t:=fun pins s σ H Q I q=>wpAny_tests_one (h pins s σ H Q I q)
def dn'(J:It)(g:TG)(tc:TT)(te:TE)(σ0:St)(D:Addr)(H1:Hp)(Q:VK):Prop:=∃W:Nat->Nat->St->Hp->Prop,
 (∃m,W 0 m σ0 (upd H1 D (.lst [])))/\∀i m σ' H',W i m σ' H'->(J.stop i H'/\Q (.ref D) H') ∨
  (J.go i H'/\∃Nx:St->Hp->Prop,(∀σ2 H2,Nx σ2 H2->∃m',m'<m/\W (i+1) m' σ2 H2) /\
   ∀x H2,J.yld i H' x H2->g x σ' H2 fun σ3 H3=>tc σ3 H3 fun b H4=>if b=true then te σ3 H4 fun y H5=>∃out,H5 D=some (.lst out)/\out.length<sizeLine/\Nx σ3 (upd H5 D (.lst (out++[y]))) else Nx σ3 H4)
def tComp(wi:TI)(own:Nat)(fr:List Nat)(g:TG)(tc:TT)(te:TE):TE:=fun σ H Q=>wi σ H fun J H1=>∀D,H1 D=none->dn' J g tc te (bI' own fr σ) D H1 Q
section
variable{X:Cx}{tg iter elt:Expr}{ifs:List Expr}{scope:Scope}{pos:Pos}{wi:TI}{g:TG}{tc:TT}{te:TE}{N:List Str}
theorem ga_{R:Result->Shared->Prop}{own:Nat}{fr:List Nat}{pins:List (Addr × Obj)}{σ:St}{H1:Hp}{s2:Shared}{it:Addr}{fp:List Addr}{tn:Nat->Heap->Prop}{J:It}{D:Addr}{Q:VK}
  (S:CpOk X.N X.env.scope N own fr scope) (hc:X.calm=true) (hg:∀fp s H,PG (bi' X N scope fp s H) tg g) (ht:∀fp s H,PTs (bi' X N scope fp s H) ifs tc) (he:∀fp s H,PE (bi' X N scope fp s H) elt te)
  (I3:Inv X pins σ (upd H1 D (.lst [])) s2) (T:Turn X.prog X.w X.K tg J fp it tn) (st:tn 0 s2.heap) (f2:∀b∈fp,FpOk X pins (upd H1 D (.lst [])) b)
  (k:dn' J g tc te (bI' own fr σ) D H1 Q)
  (hR:∀H' s',Inv X pins σ H' s'->(∃m,s'.heap.Ns s2.heap.objs.size m)->H' s2.heap.objs.size=none->Q (.ref D) H'->R (.ok .next) s') :
  codeAny (model X.prog X.w) X.A (.compStart (.ListComp elt [⟨tg,iter,ifs,0⟩] scope pos) 0 (.ref it) (.ref D) (cpEnv scope s2.heap.objs.size X.env)) R
   { s2 with heap:=pushCells (s2.heap.push { cls:=.type "dict",data:=.dict #[] }) scope.names }:=by
 obtain⟨W,⟨m0,w0⟩,turn⟩:=k;have I4:=I3.block (N:=N) S f2 (fun b hb=>let ⟨o,e,_⟩:=T.obj _ _ st b hb;⟨o,e⟩);have kept:∀b o,s2.heap.get? b=some o->(pushCells (s2.heap.push { cls:=.type "dict",data:=.dict #[] }) scope.names).get? b=some o:=fun b o e=>pushCells_keeps _ _ b o (Heap.get?_push_of_some _ e);have st4:tn 0 (pushCells (s2.heap.push { cls:=.type "dict",data:=.dict #[] }) scope.names):=T.keep _ _ _ st fun b hb o e=>kept b o e
 have fx:∀{H':Hp},(∀b∈fp,H' b=none)->∀b∈fp,FpOk (bi' X N scope fp s2 (upd H1 D (.lst []))) [] H' b:=fun hn b hb=>
  ⟨hn b hb,(I4.ok.exf b hb).1,I4.ok.exfs b hb,.inl hb,(I4.ok.exf b hb).2,fun p hp=>absurd (show p∈([]:List (Addr × Obj)) from hp) (by simp)⟩
 have loop:codeAny (model X.prog X.w) X.A (.compLoop (.ListComp elt [⟨tg,iter,ifs,0⟩] scope pos) 0 (.ref it) (.ref D) (cpEnv scope s2.heap.objs.size X.env)) R
   { s2 with heap:=pushCells (s2.heap.push { cls:=.type "dict",data:=.dict #[] }) scope.names }:=by
  refine codeAny_loop rfl (fun n s'=>∃i σ' H',Inv (bi' X N scope fp s2 (upd H1 D (.lst []))) [] σ' H' s'/\tn i s'.heap/\(∀b∈fp,H' b=none)/\W i n σ' H') (fun n s' hI=>?_) m0 ⟨0,_,_,I4,st4,fun b hb=>(f2 b hb).1,w0⟩;obtain⟨i,σ',H',I5,st5,fr5,w5⟩:=hI;show wpAny _ X.A ((compTurn (.ListComp elt [⟨tg,iter,ifs,0⟩] scope pos) 0 (.ref it) (.ref D) (cpEnv scope s2.heap.objs.size X.env)).onRaise (fun x=>do noteFrame x (cpEnv scope s2.heap.objs.size X.env);theTreesLotGoes x)) _ _ s';refine wpAny_noted (wpAny_mono (E:=fun _ _=>False) ?_ (fun _ _ q=>q) fun _ _ q=>q.elim);rw[compTurn_list];refine wpAny_bind (wpAny_standAt (wpAny_bind ?_));rcases turn i n σ' H' w5 with⟨stop,q⟩|⟨go,Nx,hN,step⟩
  ·refine thn (T.done (bi' X N scope fp s2 (upd H1 D (.lst []))) rfl rfl rfl hc i [] s' σ' H' _ I5 (fx fr5) st5 stop) fun r s6 ⟨hr,I6⟩=>?_;subst hr;refine wpAny_pure (hR H' s6 (I3.call' I6.os I6.base I6.hok I6.bare fun b hb=>?_) ?_ I6.free q)
   ·exact⟨(f2 b hb).2.2.2.1,(f2 b hb).2.1,(f2 b hb).2.2.2.2.1,(f2 b hb).2.2.2.2.2⟩
   ·obtain⟨m,hm,_⟩:=I6.loc;exact⟨m,hm⟩
  ·refine thn (T.item (bi' X N scope fp s2 (upd H1 D (.lst []))) rfl rfl rfl hc i [] s' σ' H' _ I5 (fx fr5) st5 go) fun r s6 ⟨u,hr,h6⟩=>?_;subst hr;refine wpAny_bind (thn h6 fun _ s7 ⟨x,H7,I7,r7,y7,st7,fr7⟩=>?_);have I7':=I7.pinned (fx fr7) (T.obj _ _ st7)
   have back:∀{σ8:St} {H8:Hp} {s8:Shared},Inv (bi' X N scope fp s2 (upd H1 D (.lst []))) ([]++bO' fp s7.heap) σ8 H8 s8->Nx σ8 H8->∃m,m<n/\∃i σ' H',Inv (bi' X N scope fp s2 (upd H1 D (.lst []))) [] σ' H' s8/\tn i s8.heap/\(∀b∈fp,H' b=none)/\W i m σ' H':=fun {σ8 H8 s8} I8 n8=>by
    obtain⟨m',hm,w8⟩:=hN σ8 H8 n8;refine⟨m',hm,i+1,σ8,H8,I8.unpinned,T.keep _ _ _ st7 fun b hb o e=>(I8.pin (b,o) (ax' _ (ax' _ (bG_ hb e)))).1,fun b hb=>?_,w8⟩;obtain⟨o,e,d⟩:=T.obj _ _ st7 b hb;exact (I8.pin (b,o) (ax' _ (ax' _ (bG_ hb e)))).2.1
   refine wpAny_bind (thn (hg fp s2 (upd H1 D (.lst [])) _ s7 σ' H7 x u _ I7' r7 (step x H7 y7)) fun _ s8 ⟨σ8,H8,I8,q8⟩=>?_);refine wpAny_bind (thn (ht fp s2 (upd H1 D (.lst [])) _ s8 σ8 H8 _ I8 q8) fun b s9 ⟨H9,I9,q9⟩=>?_);cases b with
   |false=>
    simp only[aR',if_false] at q9 ⊢;exact wpAny_pure ⟨rfl,back I9 q9⟩
   |true=>
    simp only[if_true] at q9 ⊢;refine wpAny_bind (wpAny_bind (thn (he fp s2 (upd H1 D (.lst [])) _ s9 σ8 H9 _ I9 q9) fun y s10 ⟨yv,H10,I10,r10,out,hD,hz,q10⟩=>?_));refine wpAny_bind (thn (b9_ (X:=bi' X N scope fp s2 (upd H1 D (.lst []))) _ s10 σ8 H10 (.ref D) [yv] (.ref D) [y] (fun _ H'=>Nx σ8 H') I10 rfl (.cons r10 .nil) ⟨D,out,yv,rfl,rfl,hD,hz,q10⟩) fun _ s11 ⟨_,H11,I11,_,q11⟩=>?_);exact wpAny_pure (wpAny_pure ⟨rfl,back I11 q11⟩)
 exact codeAny_compStart_list loop (T.self _ 0 _ _ _ st4 loop)
theorem aS_(N:List Str)(own:Nat)(fr:List Nat)(hi:PI X tg iter wi)(hg:∀fp s H,PG (bi' X N scope fp s H) tg g)(ht:∀fp s H,PTs (bi' X N scope fp s H) ifs tc)(he:∀fp s H,PE (bi' X N scope fp s H) elt te)
  (S:ct' X.N X.env.scope N own fr scope=true:=by kernel_rfl) (hc:X.calm=true:=by rfl) (hs:∀x,foldedSetIterable iter X.env x=pure x:=by intro _;rfl) :
  PE X (.ListComp elt [⟨tg,iter,ifs,0⟩] scope pos) (tComp wi own fr g tc te):=by
 intro pins s σ H Q I h;have S':=CpOk.of S;rw[eval_ListComp];have hclos:closureFor scope X.env=pure (bo' X.env scope.names []):=bT_ fun x hx e=>I.ok.has x.1 (S'.par x hx e);refine wpAny_comprehension_free (use:=none) rfl hs hclos S'.kind (fun x hx e=>by rw[S'.look x hx,e]) (thn (hi pins s σ H _ I h) fun v s1 h1=>thn h1 fun itv s2 h2=>?_);obtain⟨it,fp,tn,J,H1,rfl,I2,T,st2,f2,k⟩:=h2;refine wpAny_newObj_type (cO_ ?_);have hD:H1 s2.heap.objs.size=none:=I2.fresh;have I3:=I2.lnew (ys:=[]) (its:=[]) (t':=s2.toks) .nil (aD' _);have kept:∀b o,s2.heap.get? b=some o->(s2.heap.push { cls:=.type "list",data:=.seq ([]:List Value).toArray }).get? b=some o:=fun b o e=>Heap.get?_push_of_some _ e;refine ga_ (own:=own) (fr:=fr) (Q:=Q) S' hc hg ht he I3 T (T.keep _ _ _ st2 fun b hb o e=>kept b o e) (fun b hb=>?_) (k _ hD) ?_
 ·refine⟨?_,(f2 b hb).2⟩;obtain⟨o,e,_⟩:=T.obj _ _ st2 b hb;rw[a4_ (au' (Heap.lt_size e))];exact (f2 b hb).1
 ·rintro H' s' I' ⟨m,hm⟩ hn q;refine⟨m,hm,fun h' hs'=>⟨.ref s2.heap.objs.size,H',?_,rfl,q⟩⟩
  exact I'.turned (t':=s'.toks) (fun b o hb e=>hs'.extBut b o hb e) hn (a4' I3.lt) (.inr I3.sz) (fun x c hcx e=>by
   obtain⟨v,hv⟩:=I3.cell x c hcx
   exact absurd hv.lt (by rw[e];exact a3' _)) fun p hp e=>by
    have:=(I3.pin p hp).1;rw[e] at this;exact absurd (Heap.lt_size this) (a3' _)
def tAsgC(i:Nat)(te:TE):TS:=fun D σ H=>te σ H fun x H1=>D.nx (σ.set i (some x)) H1
theorem ek_{i:Nat}{x:Str}{px:Pos}(N:List Str)(own:Nat)(fr:List Nat)(hN:X.N.Nodup)(hi':X.N[i]? = some x)(hx:Loc X.env.scope x)
  (hi:PI X tg iter wi) (hg:∀fp s H,PG (bi' X N scope fp s H) tg g) (ht:∀fp s H,PTs (bi' X N scope fp s H) ifs tc) (he:∀fp s H,PE (bi' X N scope fp s H) elt te) {pos':Pos}
  (S:ct' X.N X.env.scope N own fr scope=true:=by kernel_rfl) (hc:X.calm=true:=by rfl) (hs:∀x,foldedSetIterable iter X.env x=pure x:=by intro _;rfl)
  (hf:X.fn x=true∨X.env.scope.names.lookup x=some .local:=by first|exact .inl rfl|exact .inr rfl|assumption)
  (hsw:swapsWith (.ListComp elt [⟨tg,iter,ifs,0⟩] scope pos) (some (.Name x px)) pos'.line X.env=pure true:=by rfl) :
  PS X (.Assign [.Name x px] (.ListComp elt [⟨tg,iter,ifs,0⟩] scope pos) pos') (tAsgC i (tComp wi own fr g tc te)):=by
 intro pins s σ H E I h;have S':=CpOk.of S;rw[exec_Assign_Name_used _ _ _ _ hsw];refine wpAny_bind (wpAny_standAt (wpAny_bind ?_));show wpAny _ X.A (do let _ <- comprehension (.ListComp elt [⟨tg,iter,ifs,0⟩] scope pos) scope X.env _ (newList []) false (eval iter X.env) (some (assign (.Name x px) X.env))) _ _ s;have hclos:closureFor scope X.env=pure (bo' X.env scope.names []):=bT_ fun x hx e=>I.ok.has x.1 (S'.par x hx e)
 refine wpAny_bind (wpAny_mono (wpAny_comprehension_free (use:=some (assign (.Name x px) X.env)) (Q:=fun _ s'=>SP X pins E .next s') rfl hs hclos S'.kind (fun x hx e=>by rw[S'.look x hx,e]) (thn (hi pins s σ H _ I h) fun v s1 h1=>thn h1 fun itv s2 h2=>?_))
  (fun _ s' hq=>wpAny_pure (wpAny_pure hq)) fun _ _ e=>e)
 obtain⟨it,fp,tn,J,H1,rfl,I2,T,st2,f2,k⟩:=h2;refine wpAny_newObj_type (cO_ ?_);have hD:H1 s2.heap.objs.size=none:=I2.fresh;have I3:=I2.lnew (ys:=[]) (its:=[]) (t':=s2.toks) .nil (aD' _);have kept:∀b o,s2.heap.get? b=some o->(s2.heap.push { cls:=.type "list",data:=.seq ([]:List Value).toArray }).get? b=some o:=fun b o e=>Heap.get?_push_of_some _ e;refine ga_ (own:=own) (fr:=fr) (Q:=fun x H1=>E.nx (σ.set i (some x)) H1) S' hc hg ht he I3 T (T.keep _ _ _ st2 fun b hb o e=>kept b o e) (fun b hb=>?_) (k _ hD) ?_
 ·refine⟨?_,(f2 b hb).2⟩;obtain⟨o,e,_⟩:=T.obj _ _ st2 b hb;rw[a4_ (au' (Heap.lt_size e))];exact (f2 b hb).1
 ·rintro H' s' I' ⟨m,hm⟩ hn q
  have cne:∀y c,X.env.cells.lookup y=some c->c≠(s2.heap.push { cls:=.type "list",data:=.seq ([]:List Value).toArray }).objs.size:=fun y c hcx e=>by
   obtain⟨v,hv⟩:=I3.cell y c hcx;exact absurd hv.lt (by rw[e];exact a3' _)
  show wpAny _ X.A (assign (.Name x px) X.env (.ref s2.heap.objs.size)) _ _ s';refine wpAny_assign_Name (dW_ (v:=V.ref s2.heap.objs.size) I' hN hi' hx rfl (fun s'' I'' ⟨a,hs2,ha⟩=>?_) hf)
  have hCa:(s2.heap.push { cls:=.type "list",data:=.seq ([]:List Value).toArray }).objs.size≠a:=by
   rcases ha with e|e
   ·rw[e];exact a4' I3.lt
   ·exact (cne x a e).symm
  refine⟨m,hm.sameBut hs2 hCa,fun h' hs'=>⟨_,H',?_,q⟩⟩
  exact I''.turned (t':=s''.toks) (fun b o hb e=>hs'.extBut b o hb e) hn (a4' I3.lt) (.inr I3.sz) cne fun p hp e=>by
    have:=(I3.pin p hp).1;rw[e] at this;exact absurd (Heap.lt_size this) (a3' _)
end
def GOk(g:TG)(own:Nat)(fv:List (Option V))(dec:V->Hp->List (Option V)->Prop):Prop:=
 ∀(x:V) (o:List (Option V)) (H:Hp) (k:St->Hp->Prop) (o3:List (Option V)),o.length=own->dec x H o3->k (o3++fv) H->g x (o++fv) H k
theorem gok1{fv:List (Option V)}:GOk (b1' 0) 1 fv (fun x _ o3=>o3=[some x]):=fun x o H k o3 hl e h=>by
 subst e
 match o,hl with
 |[a],_=>exact h
def dec2(K:F__):V->Hp->List (Option V)->Prop:=fun x H o3=>∃p u v,x=.ref p/\SqT K H p [u,v]/\o3=[some u,some v]
def dec3(K:F__):V->Hp->List (Option V)->Prop:=fun x H o3=>∃p u v w,x=.ref p/\SqT K H p [u,v,w]/\o3=[some u,some v,some w]
theorem gok2{K:F__}{fv:List (Option V)}:GOk (gTup K 2 (cu' (b1' 0) (cu' (b1' 1) gNil))) 2 fv (dec2 K):=fun x o H k o3 hl e h=>by
 obtain⟨p,u,v,rfl,hp,rfl⟩:=e
 match o,hl with
 |[a,b],_=>exact⟨p,[u,v],rfl,hp,rfl,u,[v],rfl,v,[],rfl,rfl,h⟩
theorem gok3{K:F__}{fv:List (Option V)}:GOk (gTup K 3 (cu' (b1' 0) (cu' (b1' 1) (cu' (b1' 2) gNil)))) 3 fv (dec3 K):=fun x o H k o3 hl e h=>by
 obtain⟨p,u,v,w,rfl,hp,rfl⟩:=e
 match o,hl with
 |[a,b,c],_=>exact⟨p,[u,v,w],rfl,hp,rfl,u,[v,w],rfl,v,[w],rfl,w,[],rfl,rfl,h⟩
theorem bt_{J:It}{g:TG}{tc:TT}{te:TE}{own:Nat}{fv:List (Option V)}{dec:V->Hp->List (Option V)->Prop}{D:Addr}{H:Hp}{Q:VK}{σ0:St}(hσ:σ0=List.replicate own none++fv)(G:GOk g own fv dec)(n:Nat)(Pv:Nat->List V->Hp->Prop)
  (h0:Pv 0 [] (upd H D (.lst []))) (hstop:∀out H',Pv n out H'->J.stop n H'/\Q (.ref D) H')
  (hgo:∀i out H',i<n->Pv i out H'->J.go i H'/\∀x H2,J.yld i H' x H2->∃o3,dec x H2 o3/\o3.length=own/\∀Nx:Hp->Prop,(∀out' H2,Pv (i+1) out' H2->Nx H2)->
   tc (o3++fv) H2 fun b H4=>if b=true then te (o3++fv) H4 fun y H5=>∃out2,H5 D=some (.lst out2)/\out2.length<sizeLine/\Nx (upd H5 D (.lst (out2++[y]))) else Nx H4) :
  dn' J g tc te σ0 D H Q:=by
 subst hσ;refine⟨fun i m σ' H'=>m=n - i/\i<=n/\(∃o:List (Option V),σ'=o++fv/\o.length=own)/\∃out,Pv i out H',⟨n,by simp,aD' _,⟨_,rfl,aJ'⟩,_,h0⟩,?_⟩;rintro i m σ' H' ⟨rfl,hi,⟨o,rfl,ho⟩,out,p⟩;by_cases hlt:i<n
 ·obtain⟨go,k⟩:=hgo i out H' hlt p;refine .inr ⟨go,fun σ2 H2=>(∃o:List (Option V),σ2=o++fv/\o.length=own)/\∃out,Pv (i+1) out H2,fun σ2 H2 q=>⟨n - (i+1),by omega,rfl,hlt,q⟩,fun x H2 y=>?_⟩;obtain⟨o3,d,l3,q⟩:=k x H2 y;exact G x o H2 _ o3 ho d (q (fun H2=>(∃o:List (Option V),o3++fv=o++fv/\o.length=own)/\∃out,Pv (i+1) out H2) fun out' H2 z=>⟨⟨o3,rfl,l3⟩,out',z⟩)
 ·have e:i=n:=by omega
  subst e;exact .inl (hstop out H' p)
theorem aZ_{K:F__}{a:Addr}{xs:List V}{g:TG}{tc:TT}{te:TE}{own:Nat}{fv:List (Option V)}{dec:V->Hp->List (Option V)->Prop}{D:Addr}{H:Hp}{Q:VK}{σ0:St}(hσ:σ0=List.replicate own none++fv)(G:GOk g own fv dec)(Pv:Nat->List V->Hp->Prop)
  (h0:Pv 0 [] (upd H D (.lst []))) (hl:∀i out H',i<=xs.length->Pv i out H'->SqL K H' a xs) (hd:∀out H',Pv xs.length out H'->Q (.ref D) H')
  (hgo:∀i x out H',xs[i]? = some x->Pv i out H'->∃o3,dec x H' o3/\o3.length=own/\∀Nx:Hp->Prop,(∀out' H2,Pv (i+1) out' H2->Nx H2)->
   tc (o3++fv) H' fun b H4=>if b=true then te (o3++fv) H4 fun y H5=>∃out2,H5 D=some (.lst out2)/\out2.length<sizeLine/\Nx (upd H5 D (.lst (out2++[y]))) else Nx H4) :
  dn' (Itl K a) g tc te σ0 D H Q:=by
 refine bt_ hσ G xs.length Pv h0 (fun out H' p=>⟨⟨xs,hl _ _ _ (ag' _) p,ag' _⟩,hd out H' p⟩) fun i out H' hi p=>?_;have q:=hl i out H' (Nat.le_of_lt hi) p;refine⟨⟨xs,xs[i],q,by simp[hi]⟩,fun x H2 y=>?_⟩;obtain⟨e,y⟩:=y;subst e;exact hgo i x out _ (y xs q) p
end L2
namespace EvS
open PySem PySem.W PyProof.Rows
def Ok{α:Type}(f:Nat->Nat->Bool)(n:Nat):KasT α->(α->Prop)->Prop
 |.ret a,Q=>Q a
 |.ask i j k,Q=>i<n/\j<n/\Ok f n (k (f i j)) Q
theorem Ok.bind{α β:Type}{f:Nat->Nat->Bool}{n:Nat}{g:α->KasT β}{Q:β->Prop}:∀{t:KasT α} {R:α->Prop},Ok f n t R->(∀a,R a->Ok f n (g a) Q)->Ok f n (t.bind g) Q
 |.ret a,R,h,k=>k a h
 |.ask i j t,R,h,k=>⟨h.1,h.2.1,Ok.bind h.2.2 k⟩
theorem Ok.imp{α:Type}{f:Nat->Nat->Bool}{n:Nat}{Q R:α->Prop}(k:∀a,Q a->R a):∀{t:KasT α},Ok f n t Q->Ok f n t R
 |.ret a,h=>k a h
 |.ask i j t,h=>⟨h.1,h.2.1,Ok.imp k h.2.2⟩
theorem Ok.wp{α:Type}{f:Nat->Nat->Bool}{n:Nat}{cmp:Nat->Nat->(Bool->Shared->Prop)->Shared->Prop}{s:Shared}(hc:∀i j C,i<n->j<n->C (f i j) s->cmp i j C s){Q:α->Prop}{G:α->Shared->Prop}(k:∀a,Q a->G a s) :
  ∀{t:KasT α},Ok f n t Q->t.kasWp cmp G s
 |.ret a,h=>k a h
 |.ask i j t,h=>hc i j _ h.1 h.2.1 (Ok.wp hc k h.2.2)
structure Ord (f:Nat->Nat->Bool):Prop where
 rfl':∀i,f i i=false
 trans:∀{i j k},f j i=false->f k j=false->f k i=false
 tot:∀{i j},f i j=true->f j i=false
section
variable{f:Nat->Nat->Bool}(O:Ord f){N:Nat}
abbrev at'(p:Array Nat)(i:Nat):Nat:=p.getD i 0
def Up(f:Nat->Nat->Bool)(p:Array Nat)(k:Nat):Prop:=∀i j,i<=j->j<k->f (at' p j) (at' p i)=false
def Down(f:Nat->Nat->Bool)(p:Array Nat)(k:Nat):Prop:=∀i j,i<=j->j<k->f (at' p i) (at' p j)=false
def Like(f:Nat->Nat->Bool)(p:Array Nat)(lo k:Nat):Prop:=∀i,lo<=i->i<k->f (at' p i) (at' p (k - 1))=false/\f (at' p (k - 1)) (at' p i)=false
def Good(N:Nat)(p:Array Nat):Prop:=p.Perm (List.range N).toArray
theorem Good.size{p:Array Nat}(h:Good N p):p.size=N:=by
 have:=h.size_eq;simpa using this
theorem Good.lt{p:Array Nat}(h:Good N p)(hN:0<N)(i:Nat):at' p i<N:=by
 unfold at';by_cases hi:i<p.size
 ·have e:p.getD i 0=p[i]:=by simp[Array.getD,hi]
  rw[e];have m:p[i]∈(List.range N).toArray:=h.mem_iff.mp (Array.getElem_mem hi);simpa using m
 ·have e:p.getD i 0=0:=by simp[Array.getD,hi]
  rw[e];exact hN
theorem Good.rev{p:Array Nat}(h:Good N p)(i j:Nat):Good N (kas_rev p i j):=(mirror_perm _ _ _ _).trans h
theorem Good.bub{p:Array Nat}(h:Good N p)(i j:Nat):Good N (bubble p i j):=(bubble_perm _ _ _).trans h
theorem cu_{p q:Array Nat}{i j:Nat}(h:p[i]? = q[j]?):at' p i=at' q j:=by
 unfold at';rw[Array.getD_eq_getD_getElem?,Array.getD_eq_getD_getElem?,h]
theorem cN_{p:Array Nat}{i j:Nat}(hj:j<=p.size)(k:Nat):at' (kas_rev p i j) k=if i<=k/\k<j then at' p (i+j - 1 - k) else at' p k:=by
 have e:=getElem?_mirror_all (i:=i) hj k;unfold kas_rev;split
 ·rename_i c
  rw[if_pos c] at e;exact cu_ e
 ·rename_i c
  rw[if_neg c] at e;exact cu_ e
theorem iO_{p:Array Nat}{k l:Nat}(hk:k<p.size)(hl:l<=k)(i:Nat):at' (bubble p k (k - l)) i=if i=l then at' p k else if l<i/\i<=k then at' p (i - 1) else at' p i:=by
 have e:=getElem?_bubble hk (k - l) (by omega) i;rw[show k - (k - l)=l by omega] at e;by_cases c:i=l
 ·rw[if_pos c] at e ⊢;exact cu_ e
 ·rw[if_neg c] at e ⊢;split
  ·rename_i d
   rw[if_pos d] at e;exact cu_ e
  ·rename_i d
   rw[if_neg d] at e;exact cu_ e
include O
theorem Up.more{p:Array Nat}{n:Nat}(h:Up f p n)(h1:1<=n)(c:f (at' p n) (at' p (n - 1))=false):Up f p (n+1):=fun i j hij hj=>by
 by_cases e:j<n
 ·exact h i j hij e
 ·have e:j=n:=by omega
  subst e;by_cases e2:i=j
  ·subst e2;exact O.rfl' _
  ·exact O.trans (h i (j - 1) (by omega) (by omega)) c
theorem Down.more{p:Array Nat}{n:Nat}(h:Down f p n)(h1:1<=n)(c:f (at' p (n - 1)) (at' p n)=false):Down f p (n+1):=fun i j hij hj=>by
 by_cases e:j<n
 ·exact h i j hij e
 ·have e:j=n:=by omega
  subst e;by_cases e2:i=j
  ·subst e2;exact O.rfl' _
  ·exact O.trans c (h i (j - 1) (by omega) (by omega))
theorem gW_{p:Array Nat}(g:Good N p)(hN:0<N):∀(m n:Nat),1<=n->Up f p n->Ok f N (kas_asc p m n) fun r=>n<=r/\r<=n+m/\Up f p r/\(r<n+m->f (at' p r) (at' p (r - 1))=true)
 |0,n,_,h=>⟨ag' _,ag' _,h,fun q=>absurd q (by omega)⟩
 |m+1,n,h1,h=>by
  refine⟨g.lt hN _,g.lt hN _,?_⟩;dsimp only;by_cases c:f (at' p n) (at' p (n - 1))=true
  ·rw[if_pos c];exact⟨ag' _,by omega,h,fun _=>c⟩
  ·rw[if_neg c];refine (gW_ g hN m (n+1) (by omega) (h.more O h1 (by simpa using c))).imp fun r ⟨a,b,u,z⟩=>⟨by omega,by omega,u,fun q=>z (by omega)⟩
theorem Like.rev{p:Array Nat}{lo k:Nat}(h:Like f p lo k)(hk:k<=p.size)(i:Nat):f (at' (kas_rev p lo k) i) (at' p i)=false/\f (at' p i) (at' (kas_rev p lo k) i)=false:=by
 rw[cN_ hk];split
 ·rename_i c
  obtain⟨a1,a2⟩:=h i c.1 c.2;obtain⟨b1,b2⟩:=h (lo+k - 1 - i) (by omega) (by omega);exact⟨O.trans a2 b1,O.trans b2 a1⟩
 ·exact⟨O.rfl' _,O.rfl' _⟩
theorem Down.rev{p:Array Nat}{lo k n:Nat}(h:Down f p n)(l:Like f p lo k)(hk:k<=p.size):Down f (kas_rev p lo k) n:=fun i j hij hj=>by
 obtain⟨a1,_⟩:=l.rev O hk i;obtain⟨_,b2⟩:=l.rev O hk j;exact O.trans (O.trans b2 (h i j hij hj)) a1
theorem db_(hN:0<N):∀(m:Nat) (p:Array Nat) (n q:Nat),Good N p->1<=n->q+1<=n->n+m<=N->Down f p n->Like f p (n - (q+1)) n->
  Ok f N (kas_desc m p n q) fun r=>Good N r.1/\n<=r.2.1/\r.2.1<=n+m/\Down f r.1 r.2.1/\r.2.2+1<=r.2.1/\Like f r.1 (r.2.1 - (r.2.2+1)) r.2.1
 |0,p,n,q,g,h1,hq,hn,d,l=>⟨g,ag' _,ag' _,d,hq,l⟩
 |m+1,p,n,q,g,h1,hq,hn,d,l=>by
  refine⟨g.lt hN _,g.lt hN _,?_⟩;dsimp only;by_cases c:f (at' p n) (at' p (n - 1))=true
  ·rw[if_pos c];have d2:Down f p (n+1):=d.more O h1 (O.tot c)
   have one:∀p':Array Nat,Like f p' (n+1 - (0+1)) (n+1):=fun p' i h2 h3=>by
    have e:i=n+1 - 1:=by omega
    subst e;exact⟨O.rfl' _,O.rfl' _⟩
   by_cases hq0:q > 0
   ·rw[if_pos hq0];have hk:n<=p.size:=by rw[g.size];omega
    exact (db_ hN m _ (n+1) 0 (g.rev _ _) (by omega) (by omega) (by omega) (d2.rev O l hk) (one _)).imp fun r ⟨a,b,b2,z⟩=>⟨a,by omega,by omega,z⟩
   ·rw[if_neg hq0];exact (db_ hN m _ (n+1) 0 g (by omega) (by omega) (by omega) d2 (one _)).imp fun r ⟨a,b,b2,z⟩=>⟨a,by omega,by omega,z⟩
  ·rw[if_neg c];refine⟨g.lt hN _,g.lt hN _,?_⟩;dsimp only;have c:f (at' p n) (at' p (n - 1))=false:=by simpa using c
   by_cases e:f (at' p (n - 1)) (at' p n)=true
   ·rw[if_pos e];exact⟨g,ag' _,by show n<=n+(m+1);omega,d,hq,l⟩
   ·rw[if_neg e];have e:f (at' p (n - 1)) (at' p n)=false:=by simpa using e
    refine (db_ hN m p (n+1) (q+1) g (by omega) (by omega) (by omega) (d.more O h1 e) fun i h2 h3=>?_).imp fun r ⟨a,b,b2,z⟩=>⟨a,by omega,by omega,z⟩;show f (at' p i) (at' p n)=false/\f (at' p n) (at' p i)=false;by_cases ei:i=n
    ·subst ei;exact⟨O.rfl' _,O.rfl' _⟩
    ·obtain⟨a1,a2⟩:=l i (by omega) (by omega);exact⟨O.trans e a1,O.trans a2 c⟩
def cO'(f:Nat->Nat->Bool)(N nrem:Nat)(r:Nat × Array Nat):Prop:=Good N r.2/\1<=r.1/\r.1<=nrem/\Up f r.2 r.1
theorem fY_(hN:0<N){p:Array Nat}{n nrem:Nat}(g:Good N p)(h1:1<=n)(hn:n<=nrem)(hr:nrem<=N)(d:Down f p n):Ok f N (kas_tail3 n nrem p) (cO' f N nrem):=by
 unfold kas_tail3
 have u:Up f (kas_rev p 0 n) n:=fun i j hij hj=>by
  rw[cN_ (by rw[g.size];omega),cN_ (by rw[g.size];omega),if_pos (by omega),if_pos (by omega)];exact d _ _ (by omega) (by omega)
 exact (gW_ O (g.rev _ _) hN (nrem - n) n h1 u).bind fun m ⟨a,b,u,_⟩=>⟨g.rev _ _,by show 1<=m;omega,by show m<=nrem;omega,u⟩
theorem cI_(hN:0<N){p:Array Nat}{n nrem:Nat}(g:Good N p)(hn:n+1<=nrem)(hr:nrem<=N)(d:Down f p (n+1)):Ok f N (kas_descPart n nrem p) (cO' f N nrem):=by
 unfold kas_descPart;refine (db_ O hN (nrem - (n+1)) p (n+1) 0 g (by omega) (by omega) (by omega) d fun i h2 h3=>?_).bind fun r ⟨g',a,b,d',hq,l⟩=>?_
 ·have e:i=n+1 - 1:=by omega
  subst e;exact⟨O.rfl' _,O.rfl' _⟩
 ·split
  ·exact fY_ O hN (g'.rev _ _) (by omega) (by omega) hr (d'.rev O l (by rw[g'.size];omega))
  ·exact fY_ O hN g' (by omega) (by omega) hr d'
theorem hQ_(hN:0<N){p:Array Nat}{nrem:Nat}(g:Good N p)(h1:1<=nrem)(hr:nrem<=N):Ok f N (kas_count nrem p) (cO' f N nrem):=by
 unfold kas_count;refine (gW_ O g hN (nrem - 1) 1 (ag' _) fun i j hij hj=>?_).bind fun n ⟨a,b,u,st⟩=>?_
 ·have e:i=j:=by omega
  subst e;exact O.rfl' _
 ·by_cases e:(n == nrem)=true
  ·rw[if_pos e];exact⟨g,a,by show n<=nrem;omega,u⟩
  ·rw[if_neg e];have e:n≠nrem:=by simpa using e
   have c:=st (by omega);by_cases h2:n > 1
   ·rw[if_pos h2];refine⟨g.lt hN _,g.lt hN _,?_⟩;dsimp only;by_cases c2:f (at' p 0) (at' p (n - 1))=true
    ·rw[if_pos c2];exact⟨g,a,by show n<=nrem;omega,u⟩
    ·rw[if_neg c2];have c2:f (at' p 0) (at' p (n - 1))=false:=by simpa using c2
     refine cI_ O hN (g.rev _ _) (by omega) hr fun i j hij hj=>?_;by_cases ej:j<n
     ·rw[cN_ (by rw[g.size];omega),cN_ (by rw[g.size];omega),if_pos (by omega),if_pos (by omega)];exact u _ _ (by omega) (by omega)
     ·have ej:j=n:=by omega
      subst ej;by_cases ei:i=j
      ·subst ei;exact O.rfl' _
      ·rw[cN_ (by rw[g.size];omega),cN_ (by rw[g.size];omega),if_pos (by omega),if_neg (by omega)];exact O.trans (O.trans (O.tot c) c2) (u 0 _ (by omega) (by omega))
   ·rw[if_neg h2];have e1:n=1:=by omega
    subst e1;refine cI_ O hN g (by omega) hr fun i j hij hj=>?_;by_cases ei:i=j
    ·subst ei;exact O.rfl' _
    ·have q1:i=0:=by omega
     have q2:j=1:=by omega
     subst q1;subst q2;exact O.tot c
theorem dn_(hN:0<N){p:Array Nat}{k:Nat}(g:Good N p)(u:Up f p k):∀(m l r:Nat),r - l<=m->l<=r->r<=k->(∀i,i<l->f (at' p k) (at' p i)=false)->(∀i,r<=i->i<k->f (at' p k) (at' p i)=true)->
  Ok f N (kas_place p k m l r) fun x=>x<=k/\(∀i,i<x->f (at' p k) (at' p i)=false)/\∀i,x<=i->i<k->f (at' p k) (at' p i)=true
 |0,l,r,hm,hl,hr,h1,h2=>by
  have e:l=r:=by omega
  subst e;exact⟨hr,h1,h2⟩
 |m+1,l,r,hm,hl,hr,h1,h2=>by
  unfold kas_place;by_cases e:l ≥ r
  ·rw[if_pos e];have e:l=r:=by omega
   subst e;exact⟨hr,h1,h2⟩
  ·rw[if_neg e];refine⟨g.lt hN _,g.lt hN _,?_⟩;dsimp only;by_cases c:f (at' p k) (at' p ((l+r) / 2))=true
   ·rw[if_pos c];refine dn_ hN g u m l _ (by omega) (by omega) (by omega) h1 fun i h3 h4=>?_;by_cases ei:f (at' p k) (at' p i)=true
    ·exact ei
    ·have ei:f (at' p k) (at' p i)=false:=by simpa using ei
     have:=O.trans (u _ i h3 h4) ei;rw[c] at this;cases this
   ·rw[if_neg c];have c:f (at' p k) (at' p ((l+r) / 2))=false:=by simpa using c
    exact dn_ hN g u m _ r (by omega) (by omega) hr (fun i h3=>O.trans (u i _ (by omega) (by omega)) c) h2
theorem iA_(hN:0<N):∀(m:Nat) (p:Array Nat) (k:Nat),Good N p->k+m=N->Up f p k->Ok f N (kas_bin m p k) fun r=>Good N r/\Up f r N
 |0,p,k,g,e,u=>by
  have e:k=N:=by omega
  subst e;exact⟨g,u⟩
 |m+1,p,k,g,e,u=>by
  unfold kas_bin;refine (dn_ O hN g u k 0 k (by omega) (by omega) (ag' _) (fun i h=>absurd h (by omega)) fun i h1 h2=>absurd h2 (by omega)).bind fun l ⟨hl,h1,h2⟩=>?_;have hk:k<p.size:=by rw[g.size];omega
  refine iA_ hN m _ (k+1) (g.bub _ _) (by omega) fun i j hij hj=>?_;rw[iO_ hk hl,iO_ hk hl];by_cases ej:j=l
  ·rw[if_pos ej];by_cases ei:i=l
   ·rw[if_pos ei];exact O.rfl' _
   ·rw[if_neg ei,if_neg (by omega)];exact h1 i (by omega)
  ·rw[if_neg ej];by_cases ej2:l<j/\j<=k
   ·rw[if_pos ej2];by_cases ei:i=l
    ·rw[if_pos ei];exact O.tot (h2 (j - 1) (by omega) (by omega))
    ·rw[if_neg ei];by_cases ei2:l<i/\i<=k
     ·rw[if_pos ei2];exact u _ _ (by omega) (by omega)
     ·rw[if_neg ei2];exact u _ _ (by omega) (by omega)
   ·rw[if_neg ej2];rw[if_neg (show ¬i=l by omega),if_neg (show ¬(l<i/\i<=k) by omega)];exact u _ _ (by omega) (by omega)
theorem gw_(hN:0<N):Ok f N (kas_sort N) fun p=>Good N p/\Up f p N:=by
 unfold kas_sort;refine (hQ_ O hN (p:=(List.range N).toArray) (Array.Perm.refl _) hN (ag' _)).bind fun r ⟨g,h1,h2,u⟩=>?_;split
 ·rename_i c
  rw[show max r.1 1=r.1 by omega];exact iA_ O hN _ _ _ g (by omega) u
 ·rename_i c
  have e:r.1=N:=by omega
  exact⟨g,e▸u⟩
end
end EvS
namespace EvS
open PySem PySem.W PyProof.Rows
section
variable{prog:Program}{w:World}{A:Around}{E:Value->Shared->Prop}{s:Shared}
def Asks(prog:Program)(w:World)(A:Around)(f:Nat->Nat->Bool)(vs:List Value)(s:Shared):Prop:=
 ∃κ,(∀Q:SortKind->Shared->Prop,Q κ s->wpAny (model prog w) A (keyKind' vs.toArray) Q (fun _ _=>False) s)/\∀i j C,i<vs.length->j<vs.length->C (f i j) s->kas_ask prog w A κ vs i j C s
def b9'(a:Addr)(h h':Heap):Prop:=∀b o,b≠a->h.get? b=some o->h'.get? b=some o
def bK'(p:Array Nat)(vs:List Value):List Value:=p.toList.map fun i=>vs.getD i Value.none
theorem cM_(vs:List Value):bK' (List.range vs.length).toArray vs=vs:=by
 unfold bK';apply List.ext_getElem?;intro i;simp only[an'];by_cases h:i<vs.length
 ·simp[h]
 ·simp[Nat.le_of_not_lt h]
theorem iq_{a:Addr}{vs:List Value}{n:Nat}{f:Nat->Nat->Bool}{P:Fin->Shared->Prop}(O:Ord f)(ho:s.heap.get? a=some (seqObj "list" vs.toArray n))(h64:vs.length<64)
  (hask:2<=vs.length->∀h',b9' a s.heap h'->Asks prog w A f vs { s with heap:=h' })
  (h:∀(p:Array Nat) (h':Heap) (e:Nat),Good vs.length p->Up f p vs.length->h'.get? a=some (seqObj "list" (bK' p vs).toArray e)->b9' a s.heap h'->P (.done (.ret .none)) { s with heap:=h' }) :
  wpAny (model prog w) A (Builtin.«list.sort» ⟨[.ref a],[]⟩) P E s:=by
 have haz:a<s.heap.objs.size:=Heap.lt_size ho;obtain⟨e1,ho1⟩:∃e1,(s.heap.update a (Obj.mapSeq fun _=>(#[]:Array Value))).get? a=some (seqObj "list" #[] e1):=⟨_,get?_update_seq ho (fun _=>#[])⟩
 have l64:vs.length<=sizeLine:=by
  have:=sizeLine_eq;omega
 rw[list_sort_plain];refine wpAny_bind (listItems_at ho rfl (wpAny_bind (listUpdate_at ho rfl (wpAny_bind (seqEpoch_at ho1 rfl (wpAny_bind (wpAny_newTuple (wpAny_bind (wpAny_newList (wpAny_holding ?_) (aD' _))) l64)))) (by simpa using l64) (aD' _))))
 have keep:∀g:Array Value->Array Value,b9' a s.heap ((((s.heap.update a (Obj.mapSeq fun _=>(#[]:Array Value))).push (seqObj "tuple" vs.toArray 0)).push (seqObj "list" #[] 0)).update a (Obj.mapSeq g)):=fun g b o hb e=>by
  refine (Heap.get?_update_other _ _ (Ne.symm hb)).trans (Heap.get?_push_of_some _ (Heap.get?_push_of_some _ ?_));exact (Heap.get?_update_other _ _ (Ne.symm hb)).trans e
 have keep0:b9' a s.heap (((s.heap.update a (Obj.mapSeq fun _=>(#[]:Array Value))).push (seqObj "tuple" vs.toArray 0)).push (seqObj "list" #[] 0)):=fun b o hb e=>
  Heap.get?_push_of_some _ (Heap.get?_push_of_some _ ((Heap.get?_update_other _ _ (Ne.symm hb)).trans e))
 have hoB:(((s.heap.update a (Obj.mapSeq fun _=>(#[]:Array Value))).push (seqObj "tuple" vs.toArray 0)).push (seqObj "list" #[] 0)).get? a=some (seqObj "list" #[] e1):=Heap.get?_push_of_some _ (Heap.get?_push_of_some _ ho1);show wpAny (model prog w) A _ P E { s with heap:=((s.heap.update a (Obj.mapSeq fun _=>(#[]:Array Value))).push (seqObj "tuple" vs.toArray 0)).push (seqObj "list" #[] 0) };dsimp only;by_cases h2:vs.toArray.size<2
 ·rw[if_pos h2,if_pos h2];refine wpAny_bind (wpAny_pure ?_);rw[StateT.run_pure]
  have eout:((vs.toArray.zip vs.toArray).map fun x:Keyed=>x.2)=(bK' (List.range vs.length).toArray vs).toArray:=by
   rw[cM_];apply Array.ext';simp[List.map_snd_zip]
  refine wpAny_bind (wpAny_pure (wpAny_bind (seqEpoch_at hoB rfl (wpAny_bind (listUpdate_at hoB rfl ?_ (aD' _) ?_)))))
  ·simp only[bne_self_eq_false,aR',if_false];refine wpAny_pure (h (List.range vs.length).toArray _ _ (Array.Perm.refl _) (fun i j hij hj=>?_) ((get?_update_seq hoB _).trans (congrArg (fun z=>some (seqObj "list" z _)) eout)) (keep _))
   ·have e:i=j:=by
     simp only[ai'] at h2;omega
    subst e;exact O.rfl' _
  ·have e:((vs.toArray.zip vs.toArray).map fun x:Keyed=>x.2).size<=sizeLine+1:=by
    simp only[Array.size_map,Array.size_zip,ai'];omega
   exact e
 ·rw[if_neg h2,if_neg h2]
  have h2':2<=vs.length:=by
   simp only[ai'] at h2;omega
  obtain⟨κ,hk,hc⟩:=hask h2' _ keep0;refine wpAny_bind (wpAny_mono (hk (fun k s'=>k=κ/\s'=_) ⟨rfl,rfl⟩) (fun k s' hks=>?_) fun _ _ x=>x.elim);obtain⟨rfl,rfl⟩:=hks
  refine wpAny_bind (wpAny_mono (kat_run (ks:=vs) (vs:=vs) (G:=fun p s'=>s'={ s with heap:=((s.heap.update a (Obj.mapSeq fun _=>(#[]:Array Value))).push (seqObj "tuple" vs.toArray 0)).push (seqObj "list" #[] 0) }/\Good vs.length p/\Up f p vs.length)
   (Q:=fun st' s'=>∃p:Array Nat,arrOf st'=p.map (kas_item (vs.toArray.zip vs.toArray))/\failedOf st'=none/\s'={ s with heap:=((s.heap.update a (Obj.mapSeq fun _=>(#[]:Array Value))).push (seqObj "tuple" vs.toArray 0)).push (seqObj "list" #[] 0) }/\Good vs.length p/\Up f p vs.length)
   rfl h2' h64 (fun p st' s' _ q1 q2 q3=>⟨p,q1,q2,q3⟩) (Ok.wp hc (fun p q=>⟨rfl,q⟩) (gw_ O (by omega)))) ?_ fun _ _ x=>x)
  rintro⟨⟨⟩,st'⟩ s' ⟨p,har,hf,hs',g,u⟩;have hs':s'={ s with heap:=((s.heap.update a (Obj.mapSeq fun _=>(#[]:Array Value))).push (seqObj "tuple" vs.toArray 0)).push (seqObj "list" #[] 0) }:=hs';subst hs'
  have eout:((arrOf st').map fun x:Keyed=>x.2)=(bK' p vs).toArray:=by
   rw[har];apply Array.ext';unfold bK';simp only[Array.map_map,Array.toList_map,List.toList_toArray];refine az' fun i _=>?_;show (kas_item (vs.toArray.zip vs.toArray) i).2=_;unfold kas_item;by_cases hi:i<vs.length
   ·simp[Array.getD,hi]
   ·simp[Array.getD,hi,Nat.le_of_not_lt hi]
  have esz:((arrOf st').map fun x:Keyed=>x.2).size=vs.length:=by
   rw[eout];unfold bK';simp only[ai',aa',aH'];exact g.size
  refine wpAny_bind (seqEpoch_at hoB rfl (wpAny_bind (listUpdate_at hoB rfl ?_ (aD' _) (by rw[esz];omega))));rw[hf];simp only[bne_self_eq_false,aR',if_false];exact wpAny_pure (h p _ _ g u ((get?_update_seq hoB _).trans (congrArg (fun z=>some (seqObj "list" z _)) eout)) (keep _))
theorem d1_{x:Value}{f:Nat->Nat->Bool}{Q:Value->Shared->Prop}(O:Ord f)
  (hcol:wpAny (model prog w) A.in1 (collect x) (fun vs s1=>vs.length<64/\(2<=vs.length->∀h':Heap,(∀b o,s1.heap.get? b=some o->h'.get? b=some o)->Asks prog w A.in1.in1 f vs { s1 with heap:=h' }) /\
   ∀(p:Array Nat) (h':Heap) (e:Nat),Good vs.length p->Up f p vs.length->h'.get? s1.heap.objs.size=some (seqObj "list" (bK' p vs).toArray e)->(∀b o,s1.heap.get? b=some o->h'.get? b=some o)->Q (.ref s1.heap.objs.size) { s1 with heap:=h' }) E s) :
  wpAny (model prog w) A (call (.builtin "sorted") [x]) Q E s:=by
 refine Calls.call_function_entry kind_sorted plain_sorted entry_sorted (args_sorted1 _) ?_;unfold Builtin.«sorted»;refine wpAny_bind (m:=checkCount "sorted" 1 1 _) (wpAny_pure (wpAny_bind (wpAny_mono hcol (fun vs s1 q=>?_) fun _ _ z=>z)));obtain⟨h64,hask,hQ⟩:=q;refine wpAny_bind (wpAny_newList ?_ (by have:=sizeLine_eq;omega));have hn:(s1.heap.push (seqObj "list" vs.toArray 0)).get? s1.heap.objs.size=some (seqObj "list" vs.toArray 0):=Heap.get?_push_size _ rfl
 have old:∀h',b9' s1.heap.objs.size (s1.heap.push (seqObj "list" vs.toArray 0)) h'->∀b o,s1.heap.get? b=some o->h'.get? b=some o:=fun h' k b o e=>
  k b o (au' (Heap.lt_size e)) (Heap.get?_push_of_some _ e)
 refine wpAny_bind (wpAny_holding (wpAny_call_entry slot_list_sort ⟨_,hn,rfl⟩ entry_list_sort (iq_ O hn h64 (fun h2 h' k=>hask h2 h' (old h' k)) fun p h' e g u q k=>⟨_,rfl,?_⟩) (args_list_sort _)));exact wpAny_pure ⟨_,rfl,hQ p h' e g u q (old h' k)⟩
end
end EvS
namespace L2
open PySem PySem.Spec PyProof.Rows PySem.W EvS
def kLt:Key->Key->Bool
 |.inl i,.inl j=>decide (i<j)
 |.inl _,.inr _=>true
 |.inr _,.inl _=>false
 |.inr x,.inr y=>decide (x.cps.toList<y.cps.toList)
def lexK:List Key->List Key->Bool
 |[],[]=>false
 |[],_::_=>true
 |_::_,[]=>false
 |a::r,b::q=>if a=b then lexK r q else kLt a b
theorem gr_:∀a:Key,kLt a a=false
 |.inl i=>by simp[kLt]
 |.inr x=>by simp[kLt,List.lt_irrefl]
theorem dK_:∀{a b:Key},kLt a b=true->kLt b a=false
 |.inl i,.inl j,h=>by
  simp only[kLt,decide_eq_true_eq,decide_eq_false_iff_not] at *;omega
 |.inl _,.inr _,_=>rfl
 |.inr _,.inl _,h=>by cases h
 |.inr x,.inr y,h=>by
  simp only[kLt,decide_eq_true_eq,decide_eq_false_iff_not] at *;exact fun q=>List.lt_irrefl _ (List.lt_trans h q)
theorem fX_:∀{a b:Key},kLt a b=false->kLt b a=false->a=b
 |.inl i,.inl j,h,h2=>by
  simp only[kLt,decide_eq_false_iff_not] at *;rw[show i=j by omega]
 |.inl _,.inr _,h,_=>by cases h
 |.inr _,.inl _,_,h=>by cases h
 |.inr x,.inr y,h,h2=>by
  simp only[kLt,decide_eq_false_iff_not] at *;rw[ext_toList (List.le_antisymm (List.not_lt.mp h2) (List.not_lt.mp h))]
theorem g1_:∀{a b c:Key},kLt a b=true->kLt b c=true->kLt a c=true
 |.inl i,.inl j,.inl k,h,h2=>by
  simp only[kLt,decide_eq_true_eq] at *;omega
 |.inl _,.inl _,.inr _,_,_=>rfl
 |.inl _,.inr _,.inr _,_,_=>rfl
 |.inl _,.inr _,.inl _,_,h=>by cases h
 |.inr _,.inl _,_,h,_=>by cases h
 |.inr _,.inr _,.inl _,_,h=>by cases h
 |.inr x,.inr y,.inr z,h,h2=>by
  simp only[kLt,decide_eq_true_eq] at *;exact List.lt_trans h h2
theorem bW_:∀a:List Key,lexK a a=false
 |[]=>rfl
 |a::r=>by
  unfold lexK;rw[if_pos rfl];exact bW_ r
theorem c3_:∀{a b:List Key},lexK a b=true->lexK b a=false
 |[],[],h=>by cases h
 |[],_::_,_=>rfl
 |_::_,[],h=>by cases h
 |a::r,b::q,h=>by
  unfold lexK at h ⊢;by_cases e:a=b
  ·rw[if_pos e] at h;rw[if_pos e.symm];exact c3_ h
  ·rw[if_neg e] at h;rw[if_neg (Ne.symm e)];exact dK_ h
theorem cm_:∀{a b:List Key},lexK a b=false->lexK b a=false->a=b
 |[],[],_,_=>rfl
 |[],_::_,h,_=>by cases h
 |_::_,[],_,h=>by cases h
 |a::r,b::q,h,h2=>by
  unfold lexK at h h2;by_cases e:a=b
  ·rw[if_pos e] at h;rw[if_pos e.symm] at h2;rw[e,cm_ h h2]
  ·rw[if_neg e] at h;rw[if_neg (Ne.symm e)] at h2;exact absurd (fX_ h h2) e
theorem cj_:∀{a b c:List Key},lexK a b=true->lexK b c=true->lexK a c=true
 |[],_,[],h,h2=>by
  rename_i b
  cases b with
  |nil=>cases h
  |cons _ _=>cases h2
 |[],_,_::_,_,_=>rfl
 |_::_,[],_,h,_=>by cases h
 |_::_,_::_,[],_,h=>by cases h
 |a::r,b::q,c::t,h,h2=>by
  unfold lexK at h h2 ⊢;by_cases e:a=b
  ·subst e;rw[if_pos rfl] at h;by_cases e2:a=c
   ·rw[if_pos e2] at h2 ⊢;exact cj_ h h2
   ·rw[if_neg e2] at h2 ⊢;exact h2
  ·rw[if_neg e] at h;by_cases e2:b=c
   ·subst e2;rw[if_neg e];exact h
   ·rw[if_neg e2] at h2;have h3:=g1_ h h2;rw[if_neg (fun q=>by rw[q,gr_] at h3;cases h3)];exact h3
theorem bD_{a b c:List Key}(h:lexK b a=false)(h2:lexK c b=false):lexK c a=false:=by
 cases e:lexK c a with
 |false=>rfl
 |true=>
  by_cases e1:lexK a b=true
  ·have:=cj_ e e1;rw[h2] at this;cases this
  ·have e1:lexK a b=false:=by simpa using e1
   have:=cm_ e1 h;subst this;rw[h2] at e;cases e
def Asc(ks:List (List Key)):Prop:=ks.Pairwise fun a b=>lexK b a=false
theorem c0_:∀{a b:List (List Key)},a.Perm b->Asc a->Asc b->a=b
 |[],b,p,_,_=>by
  have:=p.length_eq;cases b with
  |nil=>rfl
  |cons _ _=>cases this
 |x::r,[],p,_,_=>by
  have:=p.length_eq;cases this
 |x::r,y::q,p,h1,h2=>by
  obtain⟨a1,a2⟩:=aY'.mp h1;obtain⟨b1,b2⟩:=aY'.mp h2
  have e:x=y:=by
   rcases aj'.mp (p.mem_iff.mp ah') with m|m
   ·exact m
   ·rcases aj'.mp (p.mem_iff.mpr ah') with m2|m2
    ·exact m2.symm
    ·exact cm_ (b1 _ m) (a1 _ m2)
  subst e;rw[c0_ ((List.perm_cons _).mp p) a2 b2]
def sortKs(ks:List (List Key)):List (List Key):=ks.mergeSort fun a b=>!lexK b a
theorem as_(ks:List (List Key)):(sortKs ks).Perm ks:=List.mergeSort_perm _ _
theorem bB_(ks:List (List Key)):Asc (sortKs ks):=by
 have:=List.pairwise_mergeSort (le:=fun a b=>!lexK b a) (fun a b c h1 h2=>by
  simp only[Bool.not_eq_true'] at *;exact bD_ h1 h2) (fun a b=>by
  simp only[Bool.or_eq_true,Bool.not_eq_true'];by_cases e:lexK b a=true
  ·exact .inr (c3_ e)
  ·exact .inl (by simpa using e)) ks
 exact this.imp fun h=>by simpa using h
theorem cG_{ks ks':List (List Key)}(p:ks'.Perm ks)(h:Asc ks'):ks'=sortKs ks:=c0_ (p.trans (as_ ks).symm) h (bB_ ks)
theorem bb_{α:Type}{p:Array Nat}{n:Nat}(g:Good n p)(F:Nat->α):(p.toList.map F).Perm ((List.range n).map F):=by
 have e:p.toList.Perm (List.range n):=by
  have:=Array.perm_iff_toList_perm.mp g;simpa using this
 exact e.map F
theorem el_{p:Array Nat}{ks:List (List Key)}{f:Nat->Nat->Bool}(hf:∀i j,i<ks.length->j<ks.length->f i j=lexK (ks.getD i []) (ks.getD j []))(g:Good ks.length p)(u:Up f p ks.length):Asc (p.toList.map fun i=>ks.getD i []):=by
 unfold Asc;rw[aF',List.pairwise_iff_getElem];intro i j hi hj hij;have hs:=g.size;rw[aH'] at hi hj;have hj':j<ks.length:=by omega
 have q:=u i j (Nat.le_of_lt hij) hj';have hN:0<ks.length:=by omega
 rw[hf _ _ (g.lt hN _) (g.lt hN _)] at q;have e1:at' p i=p.toList[i]:=by simp[at',Array.getD,hi]
 have e2:at' p j=p.toList[j]:=by simp[at',Array.getD,hj]
 rw[e1,e2] at q;exact q
theorem dv_(ks:List (List Key)):Ord fun i j=>lexK (ks.getD i []) (ks.getD j []):=⟨fun _=>bW_ _,fun h h2=>bD_ h h2,fun h=>c3_ h⟩
theorem b0_{α:Type}(d:α)(l:List α):((List.range l.length).map fun i=>l.getD i d)=l:=by
 apply List.ext_getElem?;intro i;simp only[an'];by_cases h:i<l.length
 ·simp[h]
 ·simp[Nat.le_of_not_lt h]
theorem dg_{ys:List V}{vs:List Value}(r:Vals ys vs){p:Array Nat}(g:Good vs.length p):Vals (p.toList.map fun i=>ys.getD i .non) (bK' p vs):=by
 unfold bK'
 have key:∀l:List Nat,(∀i∈l,i<vs.length)->Vals (l.map fun i=>ys.getD i .non) (l.map fun i=>vs.getD i Value.none):=fun l=>by
  induction l with
  |nil=>exact fun _=>.nil
  |cons i l ih=>
   intro h;refine .cons ?_ (ih fun j hj=>h j (af' _ hj));have hi:=h i ah';have hy:i<ys.length:=by rw[r.length];exact hi
   obtain⟨u,hu,ru⟩:=r.get (ae' hy);have e1:ys.getD i .non=ys[i]:=by simp[hy]
   have e2:vs.getD i Value.none=u:=by simp[hu]
   show RelV (ys.getD i .non) (vs.getD i Value.none);rw[e1,e2];exact ru
 refine key p.toList fun i hi=>?_;have m:i∈(List.range vs.length).toArray:=g.mem_iff.mp (by simpa using hi);simpa using m
theorem gz_:∀{ss:List Str} {vs:List Value},Vals (ss.map V.str) vs->StrsAre vs ss
 |[],_,.nil=>.nil
 |x::r,_,.cons h t=>by
  obtain⟨tk,rfl⟩:=h;exact .cons x tk (gz_ t)
def sortS(ss:List Str):List Str:=(sortKs (ss.map fun x=>[Sum.inr x])).map fun k=>match k with
 |[.inr x]=>x
 |_=>⟨#[]⟩
def keyS(x:Str):List Key:=[Sum.inr x]
theorem gp_{prog:Program}{w:World}{A:Around}{s:Shared}{ss:List Str}{vs:List Value}(r:StrsAre vs ss)(h2:2<=vs.length):Asks prog w A (fun i j=>lexK ((ss.map keyS).getD i []) ((ss.map keyS).getD j [])) vs s:=by
 refine⟨oneType',fun Q q=>?_,fun i j C hi hj hC=>?_⟩
 ·match vs,h2 with
  |v₁::v₂::t,_=>
   rw[keyKind_strs r];exact wpAny_pure q
 ·unfold kas_ask;rw[keyLt'_oneType]
  have look:∀k,k<vs.length->∃x t,vs.getD k Value.none=.str x t/\(ss.map keyS).getD k []=[Sum.inr x]:=fun k hk=>by
   have e:=r.strs;obtain⟨x,t,q⟩:=r.all vs[k] (List.getElem_mem hk);refine⟨x,t,by simp[hk,q],?_⟩
   have hk':k<ss.length:=by
    rw[<- e,aa'];exact hk
   have e2:ss[k]=x:=by
    have e3:(vs.map strOf)[k]? = ss[k]?:=by rw[e]
    rw[an',ae' hk,ae' hk',q] at e3;exact (Option.some.inj e3).symm
   simp[hk',e2,keyS]
  obtain⟨x,t,e1,e2⟩:=look i hi;obtain⟨y,u,e3,e4⟩:=look j hj;rw[e1,e3];dsimp only at hC;rw[e2,e4] at hC;refine oneLt_str ?_;unfold lexK at hC;by_cases e:x=y
  ·subst e;rw[if_pos rfl] at hC;have:decide (x.cps.toList<x.cps.toList)=false:=by simp[List.lt_irrefl]
   rw[this];exact hC
  ·rw[if_neg (fun q=>e (Sum.inr.inj q))] at hC;exact hC
def isS:Key->Bool
 |.inl _=>false
 |.inr _=>true
theorem gh_{prog:Program}{w:World}{A:Around}{E:Value->Shared->Prop}{s:Shared}{c:Bool}{a b:Key}{p q:Value}{Q:Bool->Shared->Prop}(ra:RelV (kV a) p)(rb:RelV (kV b) q)(hk:isS a=isS b)(h:Q (kLt a b) s) :
  wpAny (model prog w) A (oneLt' c p q) Q E s:=by
 cases a with
 |inl i=>
  cases b with
  |inr y=>cases hk
  |inl j=>
   obtain⟨t,rfl⟩:=ra;obtain⟨u,rfl⟩:=rb;cases c with
   |true=>exact oneLt_int h
   |false=>exact kat_one _ _ (lt_int (show PySem.W.BoolBack Q (.bool _) s from h))
 |inr x=>
  cases b with
  |inl j=>cases hk
  |inr y=>
   obtain⟨t,rfl⟩:=ra;obtain⟨u,rfl⟩:=rb;cases c with
   |true=>exact oneLt_str h
   |false=>exact kat_one _ _ (PyProof.Rows.lt_str (show PySem.W.BoolBack Q (.bool _) s from h))
theorem iU_{a b:Key}(hk:isS a=isS b):eqV (kV a) (kV b)=decide (a=b):=by
 cases a with
 |inl i=>
  cases b with
  |inr y=>cases hk
  |inl j=>
   show (i == j)=_;by_cases e:i=j
   ·subst e;simp
   ·rw[decide_eq_false (fun q=>e (Sum.inl.inj q))];simpa using e
 |inr x=>
  cases b with
  |inl j=>cases hk
  |inr y=>
   show (x == y)=_;by_cases e:x=y
   ·subst e;simp
   ·rw[decide_eq_false (fun q=>e (Sum.inr.inj q))];simpa using e
theorem fb_(a:Key):cj' (kV a)=true:=by cases a<;>rfl
theorem cH_{prog:Program}{w:World}{A:Around}{s:Shared}{Q:Bool->Shared->Prop}:∀{k1 k2:List Key} {us vs:List Value} (i:Nat),Vals (k1.map kV) us->Vals (k2.map kV) vs->k1.map isS=k2.map isS->Q (lexK k1 k2) s->KatLex prog w A true false Q (us.zip vs) i s
 |[],[],_,_,i,.nil,.nil,_,h=>h
 |[],_::_,_,_,_,_,_,h,_=>by cases h
 |_::_,[],_,_,_,_,_,h,_=>by cases h
 |a::k1,b::k2,u::us,v::vs,i,.cons ra r1,.cons rb r2,hk,h=>by
  obtain⟨e1,e2⟩:=List.cons.inj hk;refine kat_cons ?_;refine g0_ ra rb (fb_ a) (fb_ b) prog w _ _ ?_;rw[iU_ e1];unfold lexK at h;by_cases e:a=b
  ·rw[if_pos e] at h;rw[decide_eq_true e];exact kat_yes (cH_ (i+1) r1 r2 e2 h)
  ·rw[if_neg e] at h;rw[decide_eq_false e];exact kat_no (gh_ ra rb e1 h)
def a8'(K:F__)(H:Hp):List V->List (List Key)->Prop:=Paired fun y k=>∃a,y=V.ref a/\H a=some (.tup (k.map kV))
def cR'(ks:List (List Key))(sh:List Bool):Prop:=sh≠[]/\∀k∈ks,k.map isS=sh
theorem dD_{X:Cx}{pins:List (Addr × Obj)}{σ:St}{H:Hp}{s s':Shared}{A:Around}{ys:List V}{ks:List (List Key)}{sh:List Bool}{vs:List Value}(I:Inv X pins σ H s)(r:Vals ys vs)(t:a8' X.K H ys ks)(al:cR' ks sh)(h2:2<=vs.length)
  (kp:∀b o,s.heap.get? b=some o->s'.heap.get? b=some o):Asks X.prog X.w A (fun i j=>lexK (ks.getD i []) (ks.getD j [])) vs s':=by
 have look:∀k,k<vs.length->∃a its,vs.getD k Value.none=.ref a/\Vals ((ks.getD k []).map kV) its/\IsTup s'.heap a its.toArray/\ks.getD k []∈ks:=fun k hk=>by
  have hy:k<ys.length:=by rw[r.length];exact hk
  have hk2:k<ks.length:=by rw[<- Paired.length t];exact hy
  obtain⟨u,hu,ru⟩:=r.get (ae' hy)
  have gen:∀{ys:List V} {ks:List (List Key)} (k:Nat) (hy:k<ys.length) (hk2:k<ks.length),a8' X.K H ys ks->∃a,ys[k]=V.ref a/\H a=some (.tup (ks[k].map kV)):=fun {ys ks} k hy hk2 t=>by
   induction t generalizing k with
   |nil=>exact absurd hy (by simp)
   |cons h t ih=>
    cases k with
    |zero=>exact h
    |succ k=>exact ih k (by simpa using hy) (by simpa using hk2)
  obtain⟨a,e,sq⟩:=gen k hy hk2 t;obtain⟨its,ri,ti,_⟩:=I.tuple (SqT.of sq);rw[e] at ru;cases ru;have e2:ks.getD k []=ks[k]:=by simp[hk2]
  refine⟨a,its,by simp[hu],by rw[e2];exact ri,ti.keeps kp,?_⟩;rw[e2];exact List.getElem_mem hk2
 obtain⟨hne,hal⟩:=al
 obtain⟨c,sh',rfl⟩:∃c sh',sh=c::sh':=by
  cases sh with
  |nil=>exact absurd rfl hne
  |cons c sh'=>exact⟨c,sh',rfl⟩
 refine⟨tuples' true,fun Q q=>?_,fun i j C hi hj hC=>?_⟩
 ·have firsts:∀l:List Value,(∀v∈l,∃(a:Addr) (its:List Value) (k:List Key),v=.ref a/\Vals (k.map kV) its/\IsTup s'.heap a its.toArray/\k.map isS=c::sh')->∃fs,KatTups s'.heap l fs/\fs.length=l.length/\∀v∈fs,Looks (model X.prog X.w) s'.heap (typeOf v) (.type (if c then "str" else "int")):=fun l=>by
   induction l with
   |nil=>exact fun _=>⟨[],.nil,rfl,fun _ h=>nomatch h⟩
   |cons v l ih=>
    intro h;obtain⟨fs,h1,h2,h3⟩:=ih fun v hv=>h v (af' _ hv);obtain⟨a,its,k,rfl,rv,⟨o,ho,hc,n,hd⟩,hk⟩:=h v ah'
    match k,its,rv,hk with
    |k0::k,u::its,.cons r0 _,hk=>
     refine⟨u::fs,.cons ho hc hd (by simp) h1,by simp[h2],fun v hv=>?_⟩;rcases aj'.mp hv with e|hv
     ·subst e;have e0:=(List.cons.inj hk).1;cases k0 with
      |inl i=>
       obtain⟨t,rfl⟩:=r0;rw[<- e0];exact .now
      |inr x=>
       obtain⟨t,rfl⟩:=r0;rw[<- e0];exact .now
     ·exact h3 v hv
  obtain⟨fs,h1,h3,h4⟩:=firsts vs fun v hv=>by
   obtain⟨k,hk,rfl⟩:=aK' hv;obtain⟨a,its,e,rv,ti,m⟩:=look k hk;refine⟨a,its,_,?_,rv,ti,hal _ m⟩;rw[<- e];simp[hk]
  refine kat_kind h1 (by omega) h4 (by cases c<;>decide) ?_
  have e:((Value.type (if c then "str" else "int")) != Value.type "tuple")=true:=by cases c<;>decide
  rw[e];exact q
 ·unfold kas_ask;obtain⟨a,its,e1,r1,⟨o,ho,_,n,hd⟩,m1⟩:=look i hi;obtain⟨b,its2,e2,r2,⟨o2,ho2,_,n2,hd2⟩,m2⟩:=look j hj;rw[e1,e2];refine kat_lt ho hd ho2 hd2 ?_;have l1:=r1.length;have l2:=r2.length;have l3:=congrArg List.length ((hal _ m1).trans (hal _ m2).symm);simp only[aa'] at l1 l2 l3;rw[show decide (its.toArray.size<its2.toArray.size)=false by simp;omega];exact cH_ 0 r1 r2 ((hal _ m1).trans (hal _ m2).symm) hC
end L2
namespace EvD
open PySem PySem.W PyProof.Rows
section
variable{prog:Program}{w:World}{A:Around}{E:Value->Shared->Prop}{s:Shared}
def Raw(h:Heap)(d:Addr)(es:Array DictEntry)(ep:Nat):Prop:=∃o,h.get? d=some o/\o.ExactDict/\o.data=.dict es ep
theorem Raw.stay{h h':Heap}{d:Addr}{es:Array DictEntry}{ep:Nat}(x:Raw h d es ep)(k:∀o,h.get? d=some o->h'.get? d=some o):Raw h' d es ep:=let ⟨o,e,r⟩:=x;⟨o,k o e,r⟩
theorem Raw.ty{d:Addr}{es:Array DictEntry}{ep:Nat}(x:Raw s.heap d es ep):s.TypeIs (.ref d) "dict":=let ⟨o,e,c,_⟩:=x;⟨o,e,c.1⟩
theorem raw_iter{d:Addr}{es:Array DictEntry}{ep:Nat}{Q:Value->Shared->Prop}(hd:(d == sysModules)=false)(x:Raw s.heap d es ep)
  (q:Q (.ref s.heap.objs.size) { s with heap:=s.heap.push { cls:=.type "dict_keyiterator",data:=.fields #[.ref d,.int 0 0,.int es.size 0,.int ep 0] } }) :
  wpAny (model prog w) A (pyIter (.ref d)) Q E s:=by
 obtain⟨o,ho,hc,hdat⟩:=id x;refine wpAny_pyIter_slot x.ty F.slot_dict_iter (wpAny_call_entry F.slot_dict_iter x.ty F.entry_dict_iter ?_ (F.args_dict_iter_1 _));unfold Builtin.«dict.__iter__» Builtin.Dict.dictSlotNone;refine wpAny_bind (wpAny_bind (wpAny_notOrdered_dict x.ty (show wpAny _ _ (pure (Value.ref d)) _ _ s from wpAny_pure (show wpAny _ _ (Builtin.Dict.showsAll d >>= _) _ _ s from ?_))));unfold Builtin.Dict.showsAll;rw[if_neg (by rw[hd];decide)];refine wpAny_bind (wpAny_pure (wpAny_bind (wpAny_dictEntries ho hdat (wpAny_bind (wpAny_dictEpoch ho hdat (wpAny_bind (wpAny_newObj_type (wpAny_pure ⟨_,rfl,"dict_keyiterator",_,⟨_,Heap.get?_push_size _ rfl,rfl⟩,F.slot_dict_keyiterator_next.lookup,?_⟩))))))));exact q
theorem raw_next{it d:Addr}{i ep:Nat}{es:Array DictEntry}{Q:Option Value->Shared->Prop}(hit:s.heap.IsKeyIter it d i es.size ep)(x:Raw s.heap d es ep)(hi:i<es.size)
  (q:∀h',h'.IsKeyIter it d (i+1) es.size ep->Heap.SameBut it s.heap h'->Q (some es[i].key) { s with heap:=h' }):wpAny (model prog w) A (pyNext (.ref it)) Q E s:=by
 obtain⟨o,ho,hc,hd⟩:=id hit;obtain⟨od,hod,hcd,hdd⟩:=id x;unfold pyNext;refine wpAny_bind (wpAny_attempt (wpAny_callSpecial?_slot (name:=Str.ofString "__next__") hit.typeIs F.slot_dict_keyiterator_next (wpAny_call_entry F.slot_dict_keyiterator_next hit.typeIs F.entry_dict_keyiterator_next ?_ (F.args_dict_keyiterator_next_1 _))));refine wpAny_bind (wpAny_pure (wpAny_bind (wpAny_bind ?_)))
 first|refine wpAny_bind (wpAny_typeNameOfWhole_keyiter hit.typeIs (wpAny_pure (wpAny_bind (wpAny_fieldsOf ho hd ?_))))|refine wpAny_bind (wpAny_typeNameOf_keyiter hit.typeIs (wpAny_pure (wpAny_bind (wpAny_fieldsOf ho hd ?_))))
 simp only[show Builtin.Dict_items.ownsTuple "dict_keyiterator"=false by decide,aR',if_false];refine (show wpAny _ _ (if (Value.ref d == Value.none)=true then _ else _) _ _ s from ?_);rw[if_neg (fun z=>by cases z)];refine wpAny_bind (wpAny_pure (wpAny_bind (wpAny_dictEntries hod hdd ?_)));rw[if_neg (by simp)];refine wpAny_bind (wpAny_pure (wpAny_bind (wpAny_dictEpoch hod hdd ?_)));rw[if_neg (by simp)];refine wpAny_pure ?_;simp only[show ¬((i:Int)<0) from by omega,if_false,Int.toNat_natCast,Array.getElem?_eq_getElem hi];refine wpAny_bind ?_
 first|refine wpAny_bind (wpAny_typeNameOfWhole_keyiter hit.typeIs (wpAny_pure (wpAny_bind (wpAny_isOneOf_keyiter hit.typeIs ?_))))|refine wpAny_bind (wpAny_typeNameOf_keyiter hit.typeIs (wpAny_pure (wpAny_bind (wpAny_isOneOf_keyiter hit.typeIs ?_))))
 refine (show wpAny _ _ (setField (.ref it) 1 (rawInt ((i:Int)+1)) >>= _) _ _ s from wpAny_bind (wpAny_setField ho hd (by simp) ?_))
 have turned:(s.heap.update it (Obj.mapFields (·.setIfInBounds 1 (rawInt ((i:Int)+1))))).IsKeyIter it d (i+1) es.size ep:=
  ⟨_,Heap.get?_update_self _ ho (Obj.isFreed_of_fields (Obj.data_mapFields hd _)),(Obj.cls_mapFields ..).trans hc,by rw[Obj.data_mapFields hd];simp[rawInt]⟩
 refine wpAny_bind (wpAny_holding (wpAny_bind (wpAny_isOneOf_keyiter (s:={ s with heap:=s.heap.update it (Obj.mapFields (·.setIfInBounds 1 (rawInt ((i:Int)+1)))) }) turned.typeIs ?_)));exact (show wpAny _ _ (pure es[i].key) _ _ _ from wpAny_pure (wpAny_pure ⟨_,rfl,wpAny_pure (q _ turned (Heap.SameBut.update ..))⟩))
theorem raw_stop{it d:Addr}{ep:Nat}{es:Array DictEntry}{Q:Option Value->Shared->Prop}(hh:A.handled=none)(hit:s.heap.IsKeyIter it d es.size es.size ep)(x:Raw s.heap d es ep)
  (q:∀h',Heap.ExtBut it s.heap h'->Q none { s with heap:=h' }):wpAny (model prog w) A (pyNext (.ref it)) Q E s:=by
 obtain⟨o,ho,hc,hd⟩:=id hit;obtain⟨od,hod,hcd,hdd⟩:=id x;unfold pyNext;refine wpAny_bind (wpAny_attempt (wpAny_callSpecial?_slot (name:=Str.ofString "__next__") hit.typeIs F.slot_dict_keyiterator_next (wpAny_call_entry F.slot_dict_keyiterator_next hit.typeIs F.entry_dict_keyiterator_next ?_ (F.args_dict_keyiterator_next_1 _))));refine wpAny_bind (wpAny_pure (wpAny_bind (wpAny_bind ?_)))
 first|refine wpAny_bind (wpAny_typeNameOfWhole_keyiter hit.typeIs (wpAny_pure (wpAny_bind (wpAny_fieldsOf ho hd ?_))))|refine wpAny_bind (wpAny_typeNameOf_keyiter hit.typeIs (wpAny_pure (wpAny_bind (wpAny_fieldsOf ho hd ?_))))
 simp only[show Builtin.Dict_items.ownsTuple "dict_keyiterator"=false by decide,aR',if_false];refine (show wpAny _ _ (if (Value.ref d == Value.none)=true then _ else _) _ _ s from ?_);rw[if_neg (fun z=>by cases z)];refine wpAny_bind (wpAny_pure (wpAny_bind (wpAny_dictEntries hod hdd ?_)));rw[if_neg (by simp)];refine wpAny_bind (wpAny_pure (wpAny_bind (wpAny_dictEpoch hod hdd ?_)));rw[if_neg (by simp)];refine wpAny_pure ?_;simp only[show ¬((es.size:Int)<0) from by omega,if_false,Int.toNat_natCast,Array.getElem?_eq_none (ag' _)];refine wpAny_bind ?_
 first|refine wpAny_bind (wpAny_typeNameOfWhole_keyiter hit.typeIs (wpAny_pure ?g))|refine wpAny_bind (wpAny_typeNameOf_keyiter hit.typeIs (wpAny_pure ?g))
 refine (show wpAny _ _ (setField (.ref it) 0 .none >>= _) _ _ s from wpAny_bind (wpAny_setField ho hd (by simp) (show wpAny _ _ (newExc (.type "StopIteration") [] >>= _) _ _ _ from wpAny_bind ?_)));simp only[newExc,newTuple];refine wpAny_bind (wpAny_newObj_type (wpAny_bind (m:=firstArgMember _ _) (wpAny_of_eq (a:=Value.none) (by first|rfl|(simp only[firstArgMember];rfl)) (wpAny_newObj_type ?_ (by size_fits)))) (by size_fits));simp only[raiseNew];refine wpAny_bind (wpAny_handled ?_);rw[show A.in1.handled=none from hh];refine wpAny_bind (wpAny_pure (wpAny_throw ?_));exact wpAny_bind (wpAny_isInstance (T:="StopIteration") (b:=true) ⟨_,Heap.get?_push_size _ rfl,rfl⟩ isSubtype_stop (wpAny_pure (q _ (((Heap.SameBut.update ..).extBut.push _).push _))))
theorem h4_(hh:A.handled=none)(I d:Addr)(hne:d≠I)(es:Array DictEntry)(ep:Nat) :
  Walks prog w A I [I,d] [I] es.size (fun i v=>∃h:i<es.size,v=es[i].key) (fun i h=>h.IsKeyIter I d i es.size ep/\Raw h d es ep) where
 sub:=fun b hb=>by simp only[aG'] at hb;simp[hb]
 frame:=fun _ _ _ st k=>⟨st.1.at fun o e=>k I (by simp) o e,st.2.stay fun o e=>k d (by simp) o e⟩
 item:=fun i s Q E hi st hQ=>raw_next st.1 st.2 hi fun h' hit' hs'=>hQ _ h' s.toks ⟨hi,rfl⟩ ⟨hit',st.2.stay fun o e=>hs'.extBut d o hne e⟩ fun b o hb e=>hs'.extBut b o (fun h=>hb (by simp[h])) e
 done:=fun s Q E st hQ=>raw_stop hh st.1 st.2 fun h' he'=>hQ h' s.toks fun b o hb e=>he' b o (fun h=>hb (by simp[h])) e
 self:=fun _ _ _ _ st hQ=>wpAny_pyIter_keyiter st.1 hQ
theorem jH_{d:Addr}{es:Array DictEntry}{ep:Nat}(lo:(d == sysModules)=false):KdlSrc prog w "dict" d d es.size (fun i v=>∃h:i<es.size,v=es[i].key) (fun h=>Raw h d es ep) where
 type:=fun s x=>x.ty
 there:=fun h x=>let ⟨o,e,_⟩:=x;⟨Heap.lt_size e,Heap.lt_size e⟩
 keep:=fun h h' x k=>x.stay fun o e=>k d (.inl rfl) o e
 notList:=by decide
 notTuple:=by decide
 hint:=fun _ _ s _ x q=>kdl_hint_dict x.ty q
 iter:=fun A s hh x=>⟨_,_,fun E Q q=>raw_iter lo x q,h4_ hh _ d (let ⟨o,e,_⟩:=x;au' (Heap.lt_size e)) es ep,⟨⟨_,Heap.get?_push_size _ rfl,rfl,rfl⟩,x.stay fun o e=>Heap.get?_push_of_some _ e⟩⟩
end
end EvD
namespace EvD
open PySem PySem.W PyProof.Rows
theorem cU_:typeLookup (.type "list") "keys"=pure none:=by rw[typeLookup_type,builtinLookup_eq_fast];kernel_rfl
theorem h2_{prog:Program}{w:World}{A:Around}{s:Shared}{a:Addr}{xs:Array Value}{k:Nat}{tk:Tok}{R:Result->Shared->Prop}(hx:s.heap.get? a=some (seqObj "list" xs k))(h:raisesAttr (.ref a) "keys" A R s) :
  codeAny (model prog w) A (.call (.builtin "list.__getattribute__") ⟨[.ref a,.str "keys" tk],[]⟩) R s:=by
 refine codeAny_call_builtin F.slot_list_getattribute.plain am_entry_list_getattribute (F.slot_list_getattribute.check _ _ _ _ _ _ _ _ ⟨_,hx,rfl⟩ (F.args_list_getattribute_2 _ _) ?_);exact meets_getattribute_miss_list a xs k #[] "keys" tk cU_ (by decide) (by size_fits) prog w A R s ⟨hx,h⟩
theorem noKeys{prog:Program}{w:World}{A:Around}{E:Value->Shared->Prop}{s:Shared}{a:Addr}{xs:Array Value}{k:Nat}{Q:Option Value->Shared->Prop}(hx:s.heap.get? a=some (seqObj "list" xs k))(hA:A.handled=none)
  (h:∀h' tk,(∀b o,s.heap.get? b=some o->h'.get? b=some o)->Q none { s with heap:=h',toks:=tk }):wpAny (model prog w) A (getAttr? (.ref a) "keys") Q E s:=by
 obtain⟨hp,g,d,tk,os⟩:=s;have ty:∀tk',(⟨hp,g,d,tk',os⟩:Shared).TypeIs (.ref a) "list":=fun _=>⟨_,hx,rfl⟩;have f1:=sub_AttributeError;have f2:=F.slot_list_getattribute.lookup;have f3:=F.slot_list_getattribute.bind (.ref a);have f4:=am_list_getattr_none;unfold getAttr? getAttrBy? getAttrBy
 repeat (any_goals (first|assumption|exact ty _|wp_step))
 refine h2_ hx ⟨hA,fun h' tk' e hx'=>?_⟩;obtain⟨t',u',he⟩:=hx'.there;show wpAny _ _ (getattributeRaised _ _ _ _ _ _ _) _ _ _;unfold getattributeRaised
 repeat (any_goals (first|assumption|wp_step))
 exact h _ _ hx'.keeps
end EvD
namespace EvD
open PySem PySem.W PyProof.Rows
theorem dH_:entryFor table "dict.update.loop"=some Builtin.«dict.update.loop»:=entryFor_of_tree (by kernel_rfl)
theorem bU_:plainId "dict.update.loop"=true:=by decide +kernel
theorem iI_(d it:Addr)(i:Int)(tk:Tok):Builtin.«dict.update.loop» ⟨[.ref d,.ref it,.int i tk,.none],[]⟩=(do
  let r <- pyNext (.ref it)
  match r with
  |none=>do Builtin.Dict.addKeywords d [];ret .none
  |some item=>do
   holding [item] (do
    let pair <- (Builtin.Dict.pairItems item).tryCatch fun e=>do
     if !(<- isInstance e (.type "TypeError")) then throw e
     rule "dict.update.element-no-sequence"
     raiseError "TypeError" s!"cannot convert dictionary update sequence element #{i} to a sequence"
    match pair with
    |[k,v]=>holding [k,v] (dictSet d k v)
    |l=>do
     rule "dict.update.element-length"
     raiseError "ValueError" s!"dictionary update sequence element #{i} has length {l.length}; 2 is required")
   again (.builtin "dict.update.loop" ⟨[.ref d,.ref it,rawInt (i+1),.none],[]⟩)):=by
 unfold Builtin.«dict.update.loop»;refine congrArg (fun f=>pyNext (.ref it) >>= f) (funext fun r=>?_);cases r<;>rfl
section
variable{prog:Program}{w:World}{K:Type}[DecidableEq K]{knd:PySem.KeyKind prog w K}{A:Around}
def cV'(knd:PySem.KeyKind prog w K)(h:Heap):List Value->List (K × Value)->Prop:=Paired fun v p=>∃a key,v=.ref a/\IsTup h a #[key,p.2]/\knd.is p.1 key=true
def mergeP(kvs:List (K × Value))(ps:List (K × Value)):List (K × Value):=ps.foldl (fun acc p=>stored acc p.1 p.2) kvs
theorem fy_(kvs:List (K × Value))(k:K)(v:Value):(stored kvs k v).length<=kvs.length+1:=by
 unfold stored;split
 ·simp
 ·simp
theorem cs_{h:Heap}{b it l:Addr}{i:Nat}{ys:Array Value}(t:IsTup h b ys)(q:h.IsListIter it l i):b≠it:=fun z=>by
 obtain⟨o,ho,hc,_⟩:=t;obtain⟨o2,ho2,hc2,_⟩:=q;subst z;rw[ho] at ho2;cases ho2;rw[hc] at hc2;exact absurd hc2 (by decide)
theorem eD_{h:Heap}{b d:Addr}{ys:Array Value}{kvs:List (K × Value)}(t:IsTup h b ys)(q:h.DictOf knd d kvs):b≠d:=fun z=>by
 obtain⟨o,ho,hc,_⟩:=t;obtain⟨o2,es,ep,ho2,hc2,_⟩:=q;subst z;rw[ho] at ho2;cases ho2;have hc3:=hc2.1;rw[hc] at hc3;exact absurd hc3 (by decide)
theorem dF_{h h':Heap}{d:Addr}{kvs:List (K × Value)}(q:h.DictOf knd d kvs)(k:∀o,h.get? d=some o->h'.get? d=some o):h'.DictOf knd d kvs:=by
 obtain⟨o,es,ep,ho,r⟩:=q;exact⟨o,es,ep,k _ ho,r⟩
theorem hy_{it l d a:Addr}{i:Nat}{its:List Value}{key x:Value}{k:K}{kvs:List (K × Value)}{s:Shared}{R:Result->Shared->Prop}{tk:Tok}(hdi:d≠it)(hi:its.toArray[i]? = some (.ref a))(ht:IsTup s.heap a #[key,x])(hk:knd.is k key=true)
  (hit:s.heap.IsListIter it l i) (hl:s.heap.IsList l its.toArray) (hd:s.heap.DictOf knd d kvs) (hz:kvs.length<=1000)
  (hR:∀h2,h2.DictOf knd d (stored kvs k x)->(∀b o,b≠d->b≠it->s.heap.get? b=some o->h2.get? b=some o)->h2.IsListIter it l (i+1)->codeAny (model prog w) A (.builtin "dict.update.loop" ⟨[.ref d,.ref it,rawInt ((i:Int)+1),.none],[]⟩) R { s with heap:=h2,toks:=s.toks+1 }) :
  codeAny (model prog w) A (.builtin "dict.update.loop" ⟨[.ref d,.ref it,.int i tk,.none],[]⟩) R s:=by
 refine codeAny_builtin dH_ ?_;rw[Around.under_plainId bU_ _,iI_];refine wpAny_bind (wpAny_pyNext_list_item hit hl hi fun h1 hit1 hs1=>?_);obtain⟨ot,hot,hct,nt,hdt⟩:=id ht;have hot1:h1.get? a=some ot:=hs1.extBut _ _ (cs_ ht hit) hot;refine wpAny_bind (wpAny_holding (wpAny_bind (wpAny_tryCatch ?_)));unfold Builtin.Dict.pairItems;refine wpAny_bind (wpAny_typeOf (T:="tuple") ⟨ot,hot1,hct⟩ ?_);rw[if_pos (by decide)];unfold seqItems?;refine wpAny_bind (wpAny_bind (wpAny_load hot1 ?_));rw[hdt];refine wpAny_pure (wpAny_pure ?_);refine (show wpAny _ _ (holding [key,x] (dictSet d key x)) _ _ _ from wpAny_holding (wpAny_dictSet_pairs hk (dF_ hd fun o q=>hs1.extBut _ _ hdi q) (fun h2 hd2 hs2=>?_) (by have:=sizeLine_eq;omega)));exact wpAny_pure ⟨plainId_quiet bU_ _,hR h2 hd2 (fun b o h3 h4 q=>hs2.extBut _ _ h3 (hs1.extBut _ _ h4 q)) (hit1.extBut hs2.extBut (Ne.symm hdi))⟩
theorem iV_{it l d:Addr}{i:Nat}{its:List Value}{kvs:List (K × Value)}{s:Shared}{R:Result->Shared->Prop}{tk:Tok}(hdi:d≠it)(hh:A.handled=none)(hi:its.toArray[i]? = none)
  (hit:s.heap.IsListIter it l i) (hl:s.heap.IsList l its.toArray) (hd:s.heap.DictOf knd d kvs)
  (hR:∀h',h'.DictOf knd d kvs->(∀b o,b≠it->s.heap.get? b=some o->h'.get? b=some o)->R (.ok (.ret .none)) { s with heap:=h' }) :
  codeAny (model prog w) A (.builtin "dict.update.loop" ⟨[.ref d,.ref it,.int i tk,.none],[]⟩) R s:=by
 refine codeAny_builtin dH_ ?_;rw[Around.under_plainId bU_ _,iI_];refine wpAny_bind (wpAny_pyNext_list_end hh hit hl hi fun h' he=>?_);exact wpAny_bind (m:=Builtin.Dict.addKeywords d []) (wpAny_pure (wpAny_pure (hR h' (dF_ hd fun o q=>he _ _ hdi q) fun b o hb q=>he b o hb q)))
theorem k1_{it l d:Addr}(hil:l≠it)(hdi:d≠it)(hdl:d≠l)(hh:A.handled=none){its:List Value}(rest:List Value):∀(ps:List (K × Value)) (i:Nat) (kvs:List (K × Value)) (s:Shared) (R:Result->Shared->Prop) (tk:Tok),its.drop i=rest->cV' knd s.heap rest ps->
  s.heap.IsListIter it l i->s.heap.IsList l its.toArray->s.heap.DictOf knd d kvs->kvs.length+ps.length<=1000->
  (∀h' tk',h'.DictOf knd d (mergeP kvs ps)->(∀b o,b≠d->b≠it->s.heap.get? b=some o->h'.get? b=some o)->R (.ok (.ret .none)) { s with heap:=h',toks:=tk' })->
  codeAny (model prog w) A (.builtin "dict.update.loop" ⟨[.ref d,.ref it,.int i tk,.none],[]⟩) R s:=by
 induction rest with
 |nil=>
  intro ps i kvs s R tk e hp hit hl hd hz hR;cases hp
  have hi:its.toArray[i]? = none:=by
   have:=congrArg List.length e;simp only[List.length_drop,a2'] at this;simp;omega
  exact iV_ hdi hh hi hit hl hd fun h' hd' kp=>hR h' s.toks hd' fun b o _ hb q=>kp b o hb q
 |cons v rest ih=>
  intro ps i kvs s R tk e hp hit hl hd hz hR;cases hp with
  |@cons _ p _ ps h0 hr=>
  obtain⟨a,key,hv,ht,hk⟩:=h0;obtain⟨k,x⟩:=p;subst hv
  have hi:its.toArray[i]? = some (.ref a):=by
   have q:(its.drop i)[0]? = some (.ref a):=by rw[e];rfl
   rw[List.getElem?_drop] at q;simpa using q
  have e':its.drop (i+1)=rest:=by
   rw[<- List.drop_drop,e];rfl
  simp only[aC'] at hz;refine hy_ hdi hi ht hk hit hl hd (by omega) fun h2 hd2 kp hit2=>?_;have c1:((i:Int)+1)=((i+1:Nat):Int):=by omega
  rw[c1];refine ih ps (i+1) (stored kvs k x) _ R 0 e' (L2.Paired.mapP hr fun v p ⟨b,ky,e1,t1,k1⟩=>⟨b,ky,e1,?_,k1⟩) hit2 (hl.at fun o q=>kp _ _ (Ne.symm hdl) hil q) hd2 (by have:=fy_ kvs k x;omega) fun h' tk' hd' kp'=>hR h' tk' hd' fun b o h3 h4 q=>kp' b o h3 h4 (kp b o h3 h4 q);obtain⟨o,ho,r⟩:=id t1;exact⟨o,kp _ _ (eD_ t1 hd) (cs_ t1 hit) ho,r⟩
theorem e6_{E:Value->Shared->Prop}{s:Shared}{l:Addr}{its:List Value}{n:Nat}{ps:List (K × Value)}{Q:Value->Shared->Prop}(hh:A.handled=none)(ho:s.heap.get? l=some (seqObj "list" its.toArray n))(hp:cV' knd s.heap its ps)(hz:ps.length<=1000)
  (h:∀h' tk',h'.DictOf knd s.heap.objs.size (mergeP [] ps)->(∀b o,s.heap.get? b=some o->h'.get? b=some o)->Q (.ref s.heap.objs.size) { s with heap:=h',toks:=tk' }) :
  wpAny (model prog w) A (call (.type "dict") [.ref l]) Q E s:=by
 refine callType_codes (Q₁:=fun obj s₁=>obj=.ref s.heap.objs.size/\s₁={ s with heap:=s.heap.push { cls:=.type "dict",data:=.dict #[] } }) F.kt_called_dict (F.kt_typeCall_dict_1 _) F.entry_dict_init (kt_code_dict_new _ ⟨rfl,rfl⟩) ?_;rintro obj s₁ ⟨rfl,rfl⟩;have hnew:(s.heap.push { cls:=.type "dict",data:=.dict #[] }).DictOf knd s.heap.objs.size []:=Heap.DictOf.new s.heap;have hl1:(s.heap.push { cls:=.type "dict",data:=.dict #[] }).get? l=some (seqObj "list" its.toArray n):=Heap.get?_push_of_some _ ho;refine⟨hnew.typeIs,F.args_dict_init_2 _ _,?_⟩;unfold Builtin.«dict.__init__» Builtin.Dict.selfAndRest;refine wpAny_bind (wpAny_bind (wpAny_notOrdered_dict hnew.typeIs ?_));refine (show wpAny _ _ (pure (s.heap.objs.size,[Value.ref l])) _ _ _ from wpAny_pure ?_);refine (show wpAny _ _ (Builtin.Dict.updateFrom "dict.__init__" s.heap.objs.size (.ref l) [] .none) _ _ _ from ?_);unfold Builtin.Dict.updateFrom;refine wpAny_bind (wpAny_typeOf (T:="list") ⟨_,hl1,rfl⟩ ?_);rw[if_pos (by decide)];refine wpAny_bind (noKeys hl1 hh fun h2 tk2 k2=>?_);simp only[Option.isNone_none,if_true];have hl2:h2.get? l=some (seqObj "list" its.toArray n):=k2 _ _ hl1;refine wpAny_bind (wpAny_rule (wpAny_bind (wpAny_pyIter_list ⟨_,hl2,rfl,_,rfl⟩ ?_)));refine wpAny_pure ⟨plainId_quiet bU_ _,?_⟩;have all:∀{b o},s.heap.get? b=some o->(h2.push { cls:=.type "list_iterator",data:=.fields #[.ref l,.int 0 0] }).get? b=some o:=fun q=>Heap.get?_push_of_some _ (k2 _ _ (Heap.get?_push_of_some _ q))
 have hd2:h2.DictOf knd s.heap.objs.size []:=by
  obtain⟨o,es,ep,ho,r⟩:=hnew;exact⟨o,es,ep,k2 _ _ ho,r⟩
 have sz2:s.heap.objs.size<h2.objs.size:=by
  obtain⟨o,es,ep,ho,r⟩:=hd2;exact Heap.lt_size ho
 have lz:l<s.heap.objs.size:=Heap.lt_size ho
 refine k1_ (A:=A.in1) (knd:=knd) (its:=its) (it:=h2.objs.size) (l:=l) (d:=s.heap.objs.size) (au' (Nat.lt_trans lz sz2)) (au' sz2) (a4' lz) hh its ps 0 [] _ _ 0 rfl (L2.Paired.mapP hp fun v p ⟨b,ky,e1,t1,k1⟩=>⟨b,ky,e1,t1.keeps fun b o q=>all q,k1⟩)
  ⟨_,Heap.get?_push_size _ rfl,rfl,rfl⟩ ⟨_,Heap.get?_push_of_some _ hl2,rfl,_,rfl⟩ (by
   obtain⟨o,es,ep,ho,r⟩:=hd2;exact⟨o,es,ep,Heap.get?_push_of_some _ ho,r⟩) (by simpa using hz) fun h' tk' hd' kp=>⟨rfl,h h' tk' hd' fun b o q=>?_⟩
 have bl:b<s.heap.objs.size:=Heap.lt_size q;exact kp b o (au' bl) (au' (Nat.lt_trans bl sz2)) (all q)
end
end EvD
namespace L2
open PySem PySem.Spec PyProof.Rows PySem.W EvS EvD
theorem a8'.same{K:F__}{H H':Hp}{ys:List V}{ks:List (List Key)}(t:a8' K H ys ks)(e:Same H H'):a8' K H' ys ks:=Paired.mapP t fun y k ⟨a,z,q⟩=>⟨a,z,e _ _ q⟩
theorem Same.new{H:Hp}{l:Addr}{o:HO}(h:H l=none):Same H (upd H l o):=fun b u e=>by rw[a4_ (a6_ e h)];exact e
section
variable{X:Cx}{pins:List (Addr × Obj)}{σ:St}{H H':Hp}{s:Shared}{h':Heap}{t':Nat}
theorem Inv.many(I:Inv X pins σ H s)(k:∀b o,s.heap.get? b=some o->h'.get? b=some o)(hold:Same H H')(hnew:∀b,H b=none->b<s.heap.objs.size->H' b=none)
  (hob:∀b o,H' b=some o->H b=none->∃xs its,o=.tup xs/\xs.length<=sizeLine/\Vals xs its/\IsTup h' b its.toArray/\∃o,h'.get? b=some o/\o.dict=none):Inv X pins σ H' { s with heap:=h',toks:=t' }:=by
 refine I.un ⟨fun b o q _ _ _=>k b o q,fun b o q _ _ _=>⟨o.slots,k b o q⟩,fun b o q n _=>hnew b n (Heap.lt_size q),fun b o q _=>⟨o,k b o q⟩,fun b xs q=>hold b _ q,fun b o u q=>hold b _ q,fun b ps q=>⟨#[],by rw[aZ'];exact hold b _ q⟩⟩ fun b o q=>?_;cases e:H b with
 |some u=>
  have e2:=hold b u e;rw[q] at e2;cases e2;exact (I.hok b o e).stay (fun c v _ z=>k c v z) (fun c z=>hold c _ z) fun c xs z=>hold c _ z
 |none=>
  obtain⟨xs,its,rfl,z,r,t⟩:=hob b o q e;exact⟨z,its,r,t⟩
end
section
variable{X:Cx}{pins:List (Addr × Obj)}{σ:St}{H:Hp}{s:Shared}{A:Around}{E:Value->Shared->Prop}
theorem ff_{p:Addr}{ys:List V}{R:List Value->Shared->Prop}(I:Inv X pins σ H s)(h:SqL X.K H p ys)(hz:ys.length<=100000)(q:∀vs s1,Inv X pins σ H s1->Vals ys vs->R vs s1):wpAny (model X.prog X.w) A (collect (.ref p)) R E s:=by
 obtain⟨its,r,pl,_⟩:=I.list h;have hl:=r.length;refine collect_list pl.isList (q its _ ?_ r) (by have:=sizeLine_eq;omega);refine I.kept (t':=s.toks) fun b u e=>?_;have lt:b<s.heap.objs.size:=Heap.lt_size e;rw[Heap.get?_update_ne _ _ _ _ (au' lt)];exact Heap.get?_push_of_some _ e
theorem bZ_{P:Nat->Value->Prop}{acc:Array Value}{ys:List V}(h:ItemsOf P acc ys.length)(hp:∀(j:Nat) v,P j v->∀y,ys[j]? = some y->RelV y v):Vals ys acc.toList:=by
 have gen:∀(ys:List V) (vs:List Value),ys.length=vs.length->(∀(j:Nat) y v,ys[j]? = some y->vs[j]? = some v->RelV y v)->Vals ys vs:=fun ys=>by
  induction ys with
  |nil=>
   intro vs hl _;cases vs with
   |nil=>exact .nil
   |cons _ _=>cases hl
  |cons y ys ih=>
   intro vs hl h;cases vs with
   |nil=>cases hl
   |cons v vs=>exact .cons (h 0 y v rfl rfl) (ih vs (by simpa using hl) fun j y v a b=>h (j+1) y v (by simpa using a) (by simpa using b))
 refine gen ys acc.toList (by rw[aH'];exact h.1.symm) fun j y v a b=>hp j v (h.2 j v ?_) y a;rw[<- Array.getElem?_toList];exact b
theorem iL_{d:Addr}{kvs:List (Key × V)}(I:Inv X pins σ H s)(h:Rd H d (.dK kvs)):∃(P:Nat->Value->Prop) (OK:Heap->Prop),KdlSrc X.prog X.w "dict" d d (kvs.map fun kv=>kV kv.1).length P OK/\OK s.heap/\∀(j:Nat) v,P j v->∀y,(kvs.map fun kv=>kV kv.1)[j]? = some y->RelV y v:=by
 obtain⟨z,hd,vs,rel,dd⟩:=ck_ I.hok h;obtain⟨ep,dat⟩:=dd.dictAt;have hl:=rel.length;refine⟨fun i v=>∃k x,vs[i]? = some (k,x)/\(a9' X.prog X.w).is k v=true,fun h=>h.DictAt (a9' X.prog X.w) d vs ep,(by rw[aa',hl];exact kdl_dict (knd:=a9' X.prog X.w) (kvs:=vs) (ep:=ep) hd),dat,fun j v ⟨k,x,e,hk⟩ y hy=>?_⟩;rw[an'] at hy;have ek:kvs.map (·.1)=vs.map (·.1):=rel.keys;have e2:(kvs.map (·.1))[j]? = (vs.map (·.1))[j]?:=by rw[ek]
 rw[an',an',e] at e2;cases e3:kvs[j]? with
 |none=>rw[e3] at e2;cases e2
 |some kv=>
  rw[e3] at e2 hy;have e4:kv.1=k:=Option.some.inj e2;have e5:kV kv.1=y:=Option.some.inj hy;rw[<- e5,e4];have hk:cl' k v=true:=hk;rcases ay_ hk with⟨i,t,rfl,rfl⟩|⟨x,t,rfl,rfl⟩
  ·exact⟨t,rfl⟩
  ·exact⟨t,rfl⟩
theorem iE_{d:Addr}{kvs:List (Key × V)}{R:List Value->Shared->Prop}(hh:A.handled=none)(I:Inv X pins σ H s)(h:Rd H d (.dK kvs))(q:∀vs s1,Inv X pins σ H s1->Vals (kvs.map fun kv=>kV kv.1) vs->R vs s1):wpAny (model X.prog X.w) A (collect (.ref d)) R E s:=by
 obtain⟨P,OK,S,ok,hp⟩:=iL_ I h;refine kdu_collect S hh ok ?_ fun h' tk acc k a=>q _ _ (I.kept k) (bZ_ a hp);rw[aa'];exact (ck_ I.hok h).1
theorem kt_{d:Addr}{kvs:List (List Key × V)}(I:Inv X pins σ H s)(h:Rd H d (.dT kvs)):∃(ys:List V) (P:Nat->Value->Prop) (OK:Heap->Prop),a8' X.K H ys (kvs.map (·.1))/\ys.length<=sizeLine/\KdlSrc X.prog X.w "dict" d d ys.length P OK/\OK s.heap/\∀(j:Nat) v,P j v->∀y,ys[j]? = some y->RelV y v:=by
 obtain⟨z,hd,xs,rel,o,es,ep,ho,hc,hdat,hes,nd⟩:=h.ok I.hok
 have l1:es.size=xs.length:=by
  have:=congrArg List.length hes;simpa using this
 have l2:=Paired.length rel;refine⟨xs.map fun x=>V.ref x.2.1,fun i v=>∃h:i<es.size,v=es[i].key,fun h=>Raw h d es ep,?_,by rw[aa'];omega,(by rw[aa',<- l1];exact jH_ (es:=es) (ep:=ep) hd),⟨o,ho,hc,hdat⟩,fun j v ⟨hj,e⟩ y hy=>?_⟩
 ·have gen:∀{kvs:List (List Key × V)} {xs:List (List Key × Addr × Value)},KT H kvs xs->a8' X.K H (xs.map fun x=>V.ref x.2.1) (kvs.map (·.1)):=fun {kvs xs} r=>by
   induction r with
   |nil=>exact .nil
   |cons h _ ih=>exact .cons ⟨_,rfl,h.2.1⟩ ih
  exact gen rel
 ·rw[an'] at hy;have hx:j<xs.length:=by omega
  rw[ae' hx] at hy;have e1:V.ref xs[j].2.1=y:=Option.some.inj hy
  have e2:es[j]=entryOfKey (tupleKind (a9' X.prog X.w)) xs[j]:=by
   have e3:es.toList[j]? = (xs.map (entryOfKey (tupleKind (a9' X.prog X.w))))[j]?:=by rw[hes]
   rw[an',ae' hx,Array.getElem?_toList,Array.getElem?_eq_getElem hj] at e3;exact Option.some.inj e3
  rw[<- e1,e,e2];rfl
theorem k9_{d:Addr}{kvs:List (List Key × V)}{R:List Value->Shared->Prop}(hh:A.handled=none)(I:Inv X pins σ H s)(h:Rd H d (.dT kvs))(q:∀ys vs s1,Inv X pins σ H s1->Vals ys vs->a8' X.K H ys (kvs.map (·.1))->R vs s1):wpAny (model X.prog X.w) A (collect (.ref d)) R E s:=by
 obtain⟨ys,P,OK,t,z,S,ok,hp⟩:=kt_ I h;exact kdu_collect S hh ok z fun h' tk acc k a=>q ys _ _ (I.kept k) (bZ_ a hp) t
def br'(v d:Addr):HO:=.ext fun h=>h.IsItemsView v d
def bm'(v d:Addr):HO:=.ext fun h=>h.IsValuesView v d
def bd'(K:F__)(H:Hp):List V->List (Key × V)->Prop:=Paired fun y p=>∃a,y=V.ref a/\H a=some (.tup [kV p.1,p.2])
theorem gb_{v d:Addr}{kvs:List (Key × V)}{R:List Value->Shared->Prop}(hh:A.handled=none)(I:Inv X pins σ H s)(hv:H v=some (br' v d))(h:Rd H d (.dK kvs))(q:∀H1 ys vs s1,Inv X pins σ H1 s1->Same H H1->Vals ys vs->bd' X.K H1 ys kvs->R vs s1) :
  wpAny (model X.prog X.w) A (collect (.ref v)) R E s:=by
 obtain⟨z,hd,vs,rel,dd⟩:=ck_ I.hok h;obtain⟨ep,dat⟩:=dd.dictAt;obtain⟨iv,_,_⟩:=I.hok v _ hv;have hl:=rel.length;refine kdx_collect (knd:=a9' X.prog X.w) (kvs:=vs) (ep:=ep) hh iv dat (by omega) fun h' tk as k la G=>?_;have up:∀b,b∈as->s.heap.objs.size<b:=G.above
 have at1:∀(j:Nat) b p,as[j]? = some b->kvs[j]? = some p->∃its,Vals [kV p.1,p.2] its/\IsTup h' b its.toArray/\∃o,h'.get? b=some o/\o.dict=none:=fun j b p hj hp=>by
  obtain⟨key,kk,x,e1,e2,e3⟩:=G.pairs j b hj
  have gen:∀{kvs:List (Key × V)} {vs:List (Key × Value)},KV kvs vs->∀(j:Nat),vs[j]? = some (kk,x)->kvs[j]? = some p->p.1=kk/\RelV p.2 x:=fun {kvs vs} r=>by
   induction r with
   |nil=>intro j e;simp at e
   |@cons p' q _ _ h _ ih=>
    intro j e e';cases j with
    |zero=>
     have e:q=(kk,x):=by simpa using e
     have e':p'=p:=by simpa using e'
     subst e';rw[e] at h;exact h
    |succ j=>exact ih j (by simpa using e) (by simpa using e')
  obtain⟨g1,g2⟩:=gen rel j e1 hp;refine⟨[key,x],.cons ?_ (.cons g2 .nil),⟨_,e3,rfl,_,rfl⟩,_,e3,rfl⟩;rw[g1];have e2:cl' kk key=true:=e2;rcases ay_ e2 with⟨i,t,rfl,rfl⟩|⟨x,t,rfl,rfl⟩
  ·exact⟨t,rfl⟩
  ·exact⟨t,rfl⟩
 have look:∀{as:List Addr} {kvs:List (Key × V)},as.Pairwise (· < ·)->∀(j:Nat) b p,as[j]? = some b->kvs[j]? = some p->(as.zip kvs).lookup b=some p:=fun {as}=>by
  induction as with
  |nil=>intro kvs _ j b p e;simp at e
  |cons a as ih=>
   intro kvs pw j b p e e';cases kvs with
   |nil=>simp at e'
   |cons q kvs=>
    obtain⟨p1,p2⟩:=aY'.mp pw;show ((a,q)::as.zip kvs).lookup b=some p;cases j with
    |zero=>
     have e:a=b:=by simpa using e
     have e':q=p:=by simpa using e'
     subst e;subst e';rw[List.lookup_cons_self]
    |succ j=>
     have e:as[j]? = some b:=by simpa using e
     have e':kvs[j]? = some p:=by simpa using e'
     have lt:=p1 b (ac' e);rw[aP',show (b == a)=false by simp only[beq_eq_false_iff_ne];exact a4' lt];exact ih p2 j b p e e'
 have lk:as.length=kvs.length:=by omega
 let H1:Hp:=fun b=>if b∈as then ((as.zip kvs).lookup b).map fun p=>HO.tup [kV p.1,p.2] else H b
 have h1in:∀(j:Nat) b p,as[j]? = some b->kvs[j]? = some p->H1 b=some (.tup [kV p.1,p.2]):=fun j b p e e'=>by
  show (if b∈as then _ else _)=_;rw[if_pos (ac' e),look G.rise j b p e e'];rfl
 have h1out:∀b,b∉as->H1 b=H b:=fun b hb=>if_neg hb;have old:∀b,b<s.heap.objs.size->b∉as:=fun b hb m=>absurd (up b m) (by omega);refine q H1 (as.map V.ref) _ _ (I.many (t':=tk) k (fun b o e=>by rw[h1out b (old b (I.hok.lt e))];exact e) (fun b e hb=>by rw[h1out b (old b hb)];exact e) fun b o e e0=>?_) (fun b o e=>by rw[h1out b (old b (I.hok.lt e))];exact e) ?_ ?_
 ·by_cases m:b∈as
  ·obtain⟨j,hj⟩:=List.mem_iff_getElem?.mp m
   have jl:j<kvs.length:=by
    have:=(ab'.mp hj).1;omega
   have e':=h1in j b kvs[j] hj (ae' jl);rw[e] at e';cases e';obtain⟨its,r,t⟩:=at1 j b _ hj (ae' jl);exact⟨_,its,rfl,by show 2<=sizeLine;decide,r,t⟩
  ·rw[h1out b m,e0] at e;cases e
 ·have gen:∀as:List Addr,Vals (as.map V.ref) (as.map Value.ref):=fun as=>by
   induction as with
   |nil=>exact .nil
   |cons a as ih=>exact .cons rfl ih
  exact gen as
 ·have gen:∀(as':List Addr) (kvs':List (Key × V)),as'.length=kvs'.length->(∀(j:Nat) b p,as'[j]? = some b->kvs'[j]? = some p->H1 b=some (.tup [kV p.1,p.2]))->bd' X.K H1 (as'.map V.ref) kvs':=fun as'=>by
   induction as' with
   |nil=>
    intro kvs' hl _;cases kvs' with
    |nil=>exact .nil
    |cons _ _=>cases hl
   |cons a as' ih=>
    intro kvs' hl h;cases kvs' with
    |nil=>cases hl
    |cons p kvs'=>exact .cons ⟨a,rfl,h 0 a p rfl rfl⟩ (ih kvs' (by simpa using hl) fun j b p e e'=>h (j+1) b p (by simpa using e) (by simpa using e'))
  exact gen as kvs lk h1in
end
end L2
namespace L2
open PySem PySem.Spec PyProof.Rows PySem.W EvS EvD
theorem f5_{a b:List Str}(h:a.map keyS=b.map keyS):a=b:=by
 induction a generalizing b with
 |nil=>
  cases b with
  |nil=>rfl
  |cons _ _=>cases h
 |cons x a ih=>
  cases b with
  |nil=>cases h
  |cons y b=>
   obtain⟨h1,h2⟩:=List.cons.inj h;have h1:[(Sum.inr x:Key)]=[Sum.inr y]:=h1;cases h1;rw[ih h2]
theorem c5_(ss:List Str):(sortS ss).map keyS=sortKs (ss.map keyS):=by
 have all:∀k∈sortKs (ss.map keyS),∃x,k=keyS x:=fun k hk=>by
  obtain⟨x,_,e⟩:=ad'.mp ((as_ _).mem_iff.mp hk);exact⟨x,e.symm⟩
 have gen:∀l:List (List Key),(∀k∈l,∃x,k=keyS x)->(l.map fun k=>match k with | [.inr x]=>x|_=>(⟨#[]⟩:Str)).map keyS=l:=fun l=>by
  induction l with
  |nil=>exact fun _=>rfl
  |cons k l ih=>
   intro h;obtain⟨x,rfl⟩:=h k ah';rw[ao',ao',ih fun k hk=>h k (af' _ hk)];rfl
 exact gen _ all
theorem ak_(ss:List Str):(sortS ss).Perm ss:=by
 have p:((sortS ss).map keyS).Perm (ss.map keyS):=by rw[c5_];exact as_ _
 have back:∀l:List Str,(l.map keyS).map (fun k=>match k with | [.inr x]=>x|_=>(⟨#[]⟩:Str))=l:=fun l=>by
  rw[al']
  induction l with
  |nil=>rfl
  |cons x l ih=>rw[ao',ih];rfl
 have q:=p.map (fun k=>match k with | [.inr x]=>x|_=>(⟨#[]⟩:Str));rwa [back,back] at q
section
variable{X:Cx}{pins:List (Addr × Obj)}{σ:St}{H:Hp}{s:Shared}
theorem cb_{u:Value}{ss:List Str}{Q:VK}(h64:ss.length<64)(hcol:wpAny (model X.prog X.w) X.A.in1 (collect u) (fun vs s1=>∃H1,Inv X pins σ H1 s1/\Vals (ss.map V.str) vs/\∀l,H1 l=none->Q (.ref l) (upd H1 l (.lst ((sortS ss).map V.str)))) X.xe s) :
  wpAny (model X.prog X.w) X.A (call (.builtin "sorted") [u]) (EP X pins σ Q) X.xe s:=by
 refine d1_ (dv_ (ss.map keyS)) (thn hcol fun vs s1 ⟨H1,I1,r,q⟩=>?_);have hl:vs.length=ss.length:=by rw[<- r.length,aa']
 refine⟨by omega,fun h2 h' _=>gp_ (gz_ r) h2,fun p h' e g up hD kp=>?_⟩;have g':Good (ss.map keyS).length p:=by rw[aa',<- hl];exact g
 have asc:=el_ (ks:=ss.map keyS) (fun i j _ _=>rfl) g' (by rw[aa',<- hl];exact up)
 have perm:(p.toList.map fun i=>(ss.map keyS).getD i []).Perm (ss.map keyS):=by
  have:=bb_ g' fun i=>(ss.map keyS).getD i [];rwa [b0_] at this
 have es:=cG_ perm asc
 have inr:∀i∈p.toList,i<ss.length:=fun i hi=>by
  have m:i∈(List.range vs.length).toArray:=g.mem_iff.mp (by simpa using hi);rw[hl] at m;simpa using m
 have e1:(p.toList.map fun i=>ss.getD i ⟨#[]⟩)=sortS ss:=by
  refine f5_ ?_;rw[c5_,<- es,al'];refine az' fun i hi=>?_;have:=inr i hi;simp[this]
 have rv:=dg_ r g
 have e2:(p.toList.map fun i=>(ss.map V.str).getD i .non)=(sortS ss).map V.str:=by
  rw[<- e1,al'];refine az' fun i hi=>?_;have:=inr i hi;simp[this]
 rw[e2] at rv;refine⟨.ref s1.heap.objs.size,_,I1.laid (t':=s1.toks) kp (ag' _) (show bh' X.prog X.w _ h' _ (.lst ((sortS ss).map V.str)) from ⟨?_,bK' p vs,e,rv,hD⟩),rfl,q _ (I1.hok.fresh (ag' _))⟩;rw[aa',(ak_ ss).length_eq];have:=sizeLine_eq;omega
theorem hT_{K:F__}{H:Hp}{ys:List V}{ks:List (List Key)}(t:a8' K H ys ks):∀l:List Nat,(∀i∈l,i<ys.length)->a8' K H (l.map fun i=>ys.getD i .non) (l.map fun i=>ks.getD i []):=fun l=>by
 induction l with
 |nil=>exact fun _=>.nil
 |cons i l ih=>
  intro h;refine .cons ?_ (ih fun j hj=>h j (af' _ hj));have hi:=h i ah'
  have gen:∀{ys:List V} {ks:List (List Key)} (i:Nat),i<ys.length->a8' K H ys ks->∃a,ys.getD i .non=V.ref a/\H a=some (.tup ((ks.getD i []).map kV)):=fun {ys ks} i hy t=>by
   induction t generalizing i with
   |nil=>exact absurd hy (by simp)
   |cons h t ih=>
    cases i with
    |zero=>exact h
    |succ i=>exact ih i (by simpa using hy)
  exact gen i hi t
theorem cg_{u:Value}{ks:List (List Key)}{sh:List Bool}{Q:VK}(h64:ks.length<64)(al:cR' ks sh)
  (hcol:wpAny (model X.prog X.w) X.A.in1 (collect u) (fun vs s1=>∃H1 ys,Inv X pins σ H1 s1/\Vals ys vs/\a8' X.K H1 ys ks/\∀l zs,H1 l=none->a8' X.K H1 zs (sortKs ks)->zs.Perm ys->Q (.ref l) (upd H1 l (.lst zs))) X.xe s) :
  wpAny (model X.prog X.w) X.A (call (.builtin "sorted") [u]) (EP X pins σ Q) X.xe s:=by
 refine d1_ (dv_ ks) (thn hcol fun vs s1 ⟨H1,ys,I1,r,t,q⟩=>?_);have l1:=r.length;have l2:=Paired.length t;have hl:vs.length=ks.length:=by omega
 refine⟨by omega,fun h2 h' k=>dD_ I1 r t al h2 k,fun p h' e g up hD kp=>?_⟩;have g':Good ks.length p:=by rw[<- hl];exact g
 have asc:=el_ (ks:=ks) (fun i j _ _=>rfl) g' (by rw[<- hl];exact up)
 have perm:(p.toList.map fun i=>ks.getD i []).Perm ks:=by
  have:=bb_ g' fun i=>ks.getD i [];rwa [b0_] at this
 have es:=cG_ perm asc
 have inr:∀i∈p.toList,i<ys.length:=fun i hi=>by
  have m:i∈(List.range vs.length).toArray:=g.mem_iff.mp (by simpa using hi);rw[<- l1] at m;simpa using m
 have tz:=hT_ t p.toList inr;rw[es] at tz;have rv:=dg_ r g
 have pz:(p.toList.map fun i=>ys.getD i .non).Perm ys:=by
  have:=bb_ (n:=ys.length) (by rw[l1];exact g) fun i=>ys.getD i .non;rwa [b0_] at this
 refine⟨.ref s1.heap.objs.size,_,I1.laid (t':=s1.toks) kp (ag' _) (show bh' X.prog X.w _ h' _ (.lst (p.toList.map fun i=>ys.getD i .non)) from ⟨?_,bK' p vs,e,rv,hD⟩),rfl,q _ _ (I1.hok.fresh (ag' _)) tz pz⟩;rw[pz.length_eq];have:=sizeLine_eq;omega
end
section
variable{X:Cx}
def rSortS(K:F__):List V->Hp->VK->Prop:=fun xs H Q=>∃p ss,xs=[.ref p]/\SqL K H p (ss.map V.str)/\ss.length<64/\∀l,H l=none->Q (.ref l) (upd H l (.lst ((sortS ss).map V.str)))
theorem d0_:bu' X (.builtin "sorted") (rSortS X.K):=by
 intro pins s σ H xs us Q I r h;obtain⟨p,ss,rfl,hp,h64,q⟩:=h;obtain⟨u,rfl,ru⟩:=vals1 r;cases ru;exact cb_ h64 (ff_ I hp (by rw[aa'];omega) fun vs s1 I1 r1=>⟨H,I1,r1,q⟩)
def rSortDT(K:F__):List V->Hp->VK->Prop:=fun xs H Q=>∃d kvs sh,xs=[.ref d]/\H d=some (.dT kvs)/\cR' (kvs.map (·.1)) sh/\kvs.length<64/\∀l zs,H l=none->a8' K H zs (sortKs (kvs.map (·.1)))->Q (.ref l) (upd H l (.lst zs))
theorem eI_(hc:X.calm=true):bu' X (.builtin "sorted") (rSortDT X.K):=by
 intro pins s σ H xs us Q I r h;obtain⟨d,kvs,sh,rfl,hd,al,h64,q⟩:=h;obtain⟨u,rfl,ru⟩:=vals1 r;cases ru;exact cg_ (by rw[aa'];exact h64) al (k9_ (I.ok.hd hc) I (.inl hd) fun ys vs s1 I1 r1 t=>⟨H,ys,I1,r1,t,fun l zs n t' _=>q l zs n t'⟩)
def rSortDS:List V->Hp->VK->Prop:=fun xs H Q=>∃d kvs ss,xs=[.ref d]/\H d=some (.dK kvs)/\kvs.map (·.1)=ss.map Sum.inr/\ss.length<64/\∀l,H l=none->Q (.ref l) (upd H l (.lst ((sortS ss).map V.str)))
theorem cK_(hc:X.calm=true):bu' X (.builtin "sorted") rSortDS:=by
 intro pins s σ H xs us Q I r h;obtain⟨d,kvs,ss,rfl,hd,ek,h64,q⟩:=h;obtain⟨u,rfl,ru⟩:=vals1 r;cases ru;refine cb_ h64 (iE_ (I.ok.hd hc) I (.inl hd) fun vs s1 I1 r1=>⟨H,I1,?_,q⟩)
 have e:(kvs.map fun kv=>kV kv.1)=ss.map V.str:=by
  rw[show (kvs.map fun kv=>kV kv.1)=(kvs.map (·.1)).map kV by rw[al'];rfl,ek,al'];rfl
 rwa [e] at r1
def rSortI(K:F__):List V->Hp->VK->Prop:=fun xs H Q=>∃(v d:Addr) (kvs:List (Key × V)) (ks:List (Key × Key)) (sh:List Bool),xs=[.ref v]/\H v=some (br' v d)/\H d=some (.dK kvs)/\kvs=ks.map (fun k:Key × Key=>(k.1,kV k.2))/\cR' (ks.map fun k=>[k.1,k.2]) sh/\ks.length<64 /\
 ∀l H1 zs,Same H H1->H1 l=none->a8' K H1 zs (sortKs (ks.map fun k=>[k.1,k.2]))->Q (.ref l) (upd H1 l (.lst zs))
theorem fQ_(hc:X.calm=true):bu' X (.builtin "sorted") (rSortI X.K):=by
 intro pins s σ H xs us Q I r h;obtain⟨v,d,kvs,ks,sh,rfl,hv,hd,ek,al,h64,q⟩:=h;obtain⟨u,rfl,ru⟩:=vals1 r;cases ru;refine cg_ (by rw[aa'];exact h64) al (gb_ (I.ok.hd hc) I hv (.inl hd) fun H1 ys vs s1 I1 sm r1 t=>⟨H1,ys,I1,r1,?_,fun l zs n t' _=>q l H1 zs sm n t'⟩);subst ek
 have gen:∀(ks:List (Key × Key)) (ys:List V),bd' X.K H1 ys (ks.map (fun k:Key × Key=>(k.1,kV k.2)))->a8' X.K H1 ys (ks.map fun k=>[k.1,k.2]):=fun ks=>by
  induction ks with
  |nil=>
   intro ys t;cases t;exact .nil
  |cons k ks ih=>
   intro ys t;cases t with
   |cons h t=>exact .cons h (ih _ t)
 exact gen ks ys t
def rListD:List V->Hp->VK->Prop:=fun xs H Q=>∃d kvs,xs=[.ref d]/\Rd H d (.dK kvs)/\∀l,H l=none->Q (.ref l) (upd H l (.lst (kvs.map fun kv=>kV kv.1)))
theorem c6_(hc:X.calm=true):bu' X (.type "list") rListD:=by
 intro pins s σ H xs us Q I r h;obtain⟨d,kvs,rfl,hd,q⟩:=h;obtain⟨u,rfl,ru⟩:=vals1 r;cases ru;obtain⟨P,OK,S,ok,hp⟩:=iL_ I hd;have z:=(ck_ I.hok hd).1;refine kdl_call S (I.ok.hd hc) ok (by rw[aa'];exact z) fun h' tk acc c k hD a=>?_;refine⟨.ref s.heap.objs.size,_,I.laid (t':=tk) k (ag' _) (show bh' X.prog X.w _ h' _ (.lst (kvs.map fun kv=>kV kv.1)) from ⟨by rw[aa'];exact z,acc.toList,c,bZ_ a hp,by rw[Array.toArray_toList];exact hD⟩),rfl,q _ I.fresh⟩
theorem KV.mergeP{κ:Type}[DecidableEq κ]:∀{more:List (κ × V)} {rs:List (κ × Value)} {kvs:List (κ × V)} {vs:List (κ × Value)},KV more rs->KV kvs vs->KV (more.foldl (fun acc kv=>putK acc kv.1 kv.2) kvs) (EvD.mergeP vs rs):=fun {more rs kvs vs} h=>by
 induction h generalizing kvs vs with
 |nil=>exact fun h=>h
 |@cons p q _ _ h _ ih=>
  intro h2;obtain⟨k,y⟩:=p;obtain⟨k',u⟩:=q;obtain⟨h1,h3⟩:=h;have h1:k=k':=h1;subst h1;exact ih (h2.put k h3)
def rDictOf(K:F__):List V->Hp->VK->Prop:=fun xs H Q=>∃p ys kvs,xs=[.ref p]/\H p=some (.lst ys)/\bd' K H ys kvs/\kvs.length<=1000/\∀l,H l=none->Q (.ref l) (upd H l (.dK (bw' [] kvs)))
theorem aE_(hc:X.calm=true):bu' X (.type "dict") (rDictOf X.K):=by
 intro pins s σ H xs us Q I r h;obtain⟨p,ys,kvs,rfl,hp,t,hz,q⟩:=h;obtain⟨u,rfl,ru⟩:=vals1 r;cases ru;obtain⟨z,its,n,rv,hl,ho⟩:=I.lstM hp
 have gen:∀{ys:List V} {its:List Value} {kvs:List (Key × V)},Vals ys its->bd' X.K H ys kvs->∃ps,KV kvs ps/\cV' (a9' X.prog X.w) s.heap its ps:=fun {ys its kvs} rv t=>by
  induction t generalizing its with
  |nil=>
   cases rv;exact⟨[],.nil,.nil⟩
  |@cons y p ys kvs h t ih=>
   cases rv with
   |cons r0 rv=>
    obtain⟨ps,h1,h2⟩:=ih rv;obtain⟨a,e,sq⟩:=h;subst e;cases r0;obtain⟨tv,rt,it,_⟩:=I.tuple (SqT.of sq);obtain⟨key,x,e2,rk,rx⟩:=vals2 rt;subst e2;refine⟨(p.1,x)::ps,Paired.cons (show p.1=p.1/\RelV p.2 x from ⟨rfl,rx⟩) h1,Paired.cons (show ∃a' key',Value.ref a=.ref a'/\IsTup s.heap a' #[key',x]/\(a9' X.prog X.w).is p.1 key'=true from ⟨a,key,rfl,it,cW_ rk⟩) h2⟩
 obtain⟨ps,h1,h2⟩:=gen rv t;have lp:=KV.length h1;refine e6_ (knd:=a9' X.prog X.w) (I.ok.hd hc) ho h2 (by omega) fun h' tk hd kp=>?_;refine⟨.ref s.heap.objs.size,_,I.laid (t':=tk) kp (ag' _) (gS_ ?_ (beq_eq_false_iff_ne.mpr (Ne.symm (au' I.big))) (KV.mergeP h1 .nil) hd),rfl,q _ I.fresh⟩;have:=br_ kvs [];have:=sizeLine_eq;simp only[a2'] at *;show (bw' [] kvs).length<=sizeLine;omega
theorem fp_:∀{bs:List Bool} {vs:List Value},Vals (bs.map V.bl) vs->vs=bs.map Value.bool
 |[],_,.nil=>rfl
 |b::bs,_,.cons h t=>by
  cases h;rw[fp_ t];rfl
def rAll(K:F__)(g:List Bool->Bool):List V->Hp->VK->Prop:=fun xs H Q=>∃p bs,xs=[.ref p]/\SqL K H p (bs.map V.bl)/\Q (.bl (g bs)) H
theorem i0_(hc:X.calm=true):bu' X (.builtin "all") (rAll X.K fun bs=>bs.all id):=by
 intro pins s σ H xs us Q I r h;obtain⟨p,bs,rfl,hp,q⟩:=h;obtain⟨u,rfl,ru⟩:=vals1 r;cases ru;obtain⟨its,rv,pl,z⟩:=I.list hp;obtain rfl:=fp_ rv;have hl:=pl.isList;have lt:p<s.heap.objs.size:=by obtain⟨_,e,_⟩:=hl;exact Heap.lt_size e
 refine call_all_walk (wpAny_pyIter_list hl ⟨s.heap.objs.size,[s.heap.objs.size,p],[s.heap.objs.size],(bs.map Value.bool).toArray.size,_,_,fun i=>(bs[i]?).getD true,rfl,Walks.list (A:=X.A.in1) (I.ok.hd hc) _ p (au' lt) _,⟨⟨_,Heap.get?_push_size _ rfl,rfl,rfl⟩,hl.push _⟩,fun i v s' Q' E' hP hQ=>?_,fun h' tk hk=>?_⟩)
 ·have hP:(bs.map Value.bool).toArray[i]? = some v:=hP;simp only[List.getElem?_toArray,an'] at hP;cases e:bs[i]? with
  |none=>rw[e] at hP;cases hP
  |some b=>
   have hQ:Q' ((bs[i]?).getD true) s':=hQ;rw[e] at hP hQ;cases hP;exact wpAny_truthy_bool hQ
 ·have e:((List.range (bs.map Value.bool).toArray.size).all fun i=>(bs[i]?).getD true)=bs.all id:=by
   rw[ai',aa'];exact LSm.range_all bs
  rw[e];exact⟨.bl _,H,I.kept (LSm.kept_iter hk),rfl,q⟩
theorem gG_:∀{ns:List Int} {vs:List Value},Vals (ns.map V.int) vs->IntsAre vs ns
 |[],_,.nil=>.nil
 |n::ns,_,.cons h t=>by
  obtain⟨tk,rfl⟩:=h;exact .cons _ _ (gG_ t)
def rMax(K:F__):List V->Hp->VK->Prop:=fun xs H Q=>∃(p:Addr) (ns:List Int),xs=[.ref p]/\SqL K H p (ns.map V.int)/\0<ns.length/\∀m,m∈ns->(∀a∈ns,a<=m)->Q (.int m) H
theorem dk_(hc:X.calm=true):bu' X (.builtin "max") (rMax X.K):=by
 intro pins s σ H xs us Q I r h;obtain⟨p,ns,rfl,hp,hn,q⟩:=h;obtain⟨u,rfl,ru⟩:=vals1 r;cases ru;obtain⟨its,rv,pl,z⟩:=I.list hp;have hi:=gG_ rv;obtain⟨xs,e⟩:=hi.allInts.items;have hl:=pl.isList;have hns:ns=xs.toList.map (·.1):=by rw[<- hi.numsOf,<- nums_intItems,<- e]
 have hsz:0<xs.size:=by
  have h3:=hn;rw[hns] at h3;simpa using h3
 rw[e] at hl;refine max_intList (I.ok.hd hc) hl hsz fun v h' tk hv hk=>?_;obtain⟨t,rfl⟩:=intItems_at hv;obtain⟨h1,h2⟩:=argBest_gt (numAt xs) (xs.size - 1);refine⟨.int _,H,I.kept hk,⟨t,rfl⟩,q _ ?_ fun a ha=>?_⟩
 ·rw[hns,numAt_eq];exact getD_mem (by rw[aa',aH'];omega)
 ·rw[hns] at ha;obtain⟨j,hj,rfl⟩:=mem_getD ha;rw[aa',aH'] at hj;rw[<- numAt_eq];exact h2 j (by omega)
end
end L2
namespace EvN
open PySem PySem.SeqAt PyProof.Rows
open AutoSeq1 (wpAny_loadPart')
open MeetsSeq MeetsSeq2 MeetsSeq3 SeqRoads2
theorem ky_(l b:Addr)(xs ys:Array Value)(n m:Nat)(dl db:Option Addr)(sl sb:Array (Option Value))(hs:xs.size=ys.size)(e:Nat->Bool)(k:Nat) :
  ∀i:Nat,xs.size - i=k->Meets (Builtin.«list.__eq__.loop» ⟨[.ref l,.ref b,rawInt i,rawInt 3],[]⟩)
   (fun A R s=>(s.heap.get? l=some { cls:=.type "list",dict:=dl,data:=.seq xs n,slots:=sl }/\s.heap.get? b=some { cls:=.type "list",dict:=db,data:=.seq ys m,slots:=sb }) /\
    (∀j (h1:j<xs.size) (h2:j<ys.size),EqAt A.in1 s xs[j] ys[j] (e j))/\R (.ok (.ret (.bool (!((List.range xs.size).drop i).all e)))) s):=by
 induction k with
 |zero=>
  intro i hk prog w A R s ⟨⟨gl,gb⟩,he,h⟩;obtain⟨hp,g,d,tk,os⟩:=s
  wp_walk using wpAny_loadPart' gl,wpAny_loadPart' gb
  rw[show xs[((i:Nat):Int).toNat]? = none by simp;omega,show ys[((i:Nat):Int).toNat]? = none by simp;omega];rw[show (List.range xs.size).drop i=[] by simp;omega] at h
  wp_walk using wpAny_loadPart' gl,wpAny_loadPart' gb
  refine (show R (.ok (.ret (.bool (xs.size != ys.size)))) _ from ?_);rw[show (xs.size != ys.size)=false by simp[hs]];exact h
 |succ k ih=>
  intro i hk prog w A R s ⟨⟨gl,gb⟩,he,h⟩;obtain⟨hp,g,d,tk,os⟩:=s
  wp_walk using wpAny_loadPart' gl,wpAny_loadPart' gb
  have z1:i<xs.size:=by omega
  have z2:i<ys.size:=by omega
  have q1:xs[((i:Nat):Int).toNat]? = some xs[i]:=by simp[z1]
  have q2:ys[((i:Nat):Int).toNat]? = some ys[i]:=by simp[z2]
  rw[show (List.range xs.size).drop i=i::(List.range xs.size).drop (i+1) by simp[List.drop_eq_getElem_cons,z1],List.all_cons] at h;rw[q1,q2];refine wpAny_bind (he i z1 z2 prog w _ _ ?_);cases c:e i with
  |true=>
   rw[c] at h
   wp_walk
   rw[show ((i:Int)+1)=((i+1:Nat):Int) by omega];refine⟨plainId_quiet plain_eq_loop _,codeAny_builtin entry_eq_loop ?_⟩;rw[Around.under_plainId plain_eq_loop _];exact ih (i+1) (by omega) prog w A R _ ⟨⟨gl,gb⟩,he,by simpa using h⟩
  |false=>
   rw[c] at h
   wp_walk using wpAny_loadPart' gl,wpAny_loadPart' gb
   rw[q1,q2]
   wp_walk
   simpa using h
theorem hY_(l b:Addr)(xs ys:Array Value)(n m:Nat)(dl db:Option Addr)(sl sb:Array (Option Value))(hs:xs.size=ys.size)(e:Nat->Bool) :
  Meets (Builtin.«list.__ne__» ⟨[.ref l,.ref b],[]⟩)
   (fun A R s=>(s.heap.get? l=some { cls:=.type "list",dict:=dl,data:=.seq xs n,slots:=sl }/\s.heap.get? b=some { cls:=.type "list",dict:=db,data:=.seq ys m,slots:=sb }) /\
    (∀j (h1:j<xs.size) (h2:j<ys.size),EqAt A.in1 s xs[j] ys[j] (e j))/\R (.ok (.ret (.bool (!(List.range xs.size).all e)))) s):=by
 intro prog w A R s ⟨⟨gl,gb⟩,he,h⟩;obtain⟨hp,g,d,tk,os⟩:=s;have f3:=AutoSeq1.sub_list_list;have no:¬(xs.size != ys.size)=true:=by simp[hs]
 wp_walk using wpAny_loadPart' gl,wpAny_loadPart' gb
 refine⟨plainId_quiet plain_eq_loop _,codeAny_builtin entry_eq_loop ?_⟩;rw[Around.under_plainId plain_eq_loop _];exact ky_ l b xs ys n m dl db sl sb hs e _ 0 rfl prog w A R _ ⟨⟨gl,gb⟩,he,by simpa using h⟩
theorem hB_(l b:Addr)(xs ys:Array Value)(n m:Nat)(dl db:Option Addr)(sl sb:Array (Option Value))(hs:(xs.size != ys.size)=true) :
  Meets (Builtin.«list.__ne__» ⟨[.ref l,.ref b],[]⟩)
   (fun A R s=>(s.heap.get? l=some { cls:=.type "list",dict:=dl,data:=.seq xs n,slots:=sl }/\s.heap.get? b=some { cls:=.type "list",dict:=db,data:=.seq ys m,slots:=sb })/\R (.ok (.ret (.bool true))) s):=
 .of_wp fun prog w A R s ⟨⟨gl,gb⟩,h⟩=>by
  obtain⟨hp,g,d,tk,os⟩:=s;have f3:=AutoSeq1.sub_list_list
  wp_walk using wpAny_loadPart' gl,wpAny_loadPart' gb
  exact⟨_,rfl,h⟩
section
variable{prog:Program}{w:World}{A:Around}{E:Value->Shared->Prop}{s:Shared}
theorem ne_listAt{l b:Addr}{xs ys:Array Value}{e:Nat->Bool}{Q:Value->Shared->Prop}(hl:s.heap.IsList l xs)(hb:s.heap.IsList b ys)(hs:xs.size=ys.size)(hu:A.units<cLine)
  (he:∀j (h1:j<xs.size) (h2:j<ys.size),EqAt A.in1 s xs[j] ys[j] (e j)) (h:Q (.bool (!(List.range xs.size).all e)) s):wpAny (model prog w) A (compareOp .NotEq (.ref l) (.ref b)) Q E s:=by
 obtain⟨⟨c1,d1,t1,l1⟩,o1,k1,n1,z1⟩:=id hl;obtain⟨⟨c2,d2,t2,l2⟩,o2,k2,n2,z2⟩:=id hb;simp only at k1 z1 k2 z2;subst k1 z1 k2 z2;exact richCompare_meets_room (op:=.NotEq) ⟨_,o1,rfl⟩ ⟨_,o2,rfl⟩ F.slot_list_ne F.entry_list_ne (F.args_list_ne_2 _ _) (hY_ l b xs ys n1 n2 d1 d2 l1 l2 hs e) ⟨⟨o1,o2⟩,he,show Value.bool (!(List.range xs.size).all e)≠Value.notImplemented/\Q (.bool (!(List.range xs.size).all e)) s from ⟨(fun x=>nomatch x),h⟩⟩ hu
theorem ne_sizesAt{l b:Addr}{xs ys:Array Value}{Q:Value->Shared->Prop}(hl:s.heap.IsList l xs)(hb:s.heap.IsList b ys)(hs:(xs.size != ys.size)=true)(hu:A.units<cLine)(h:Q (.bool true) s):wpAny (model prog w) A (compareOp .NotEq (.ref l) (.ref b)) Q E s:=by
 obtain⟨⟨c1,d1,t1,l1⟩,o1,k1,n1,z1⟩:=id hl;obtain⟨⟨c2,d2,t2,l2⟩,o2,k2,n2,z2⟩:=id hb;simp only at k1 z1 k2 z2;subst k1 z1 k2 z2;exact richCompare_meets_room (op:=.NotEq) ⟨_,o1,rfl⟩ ⟨_,o2,rfl⟩ F.slot_list_ne F.entry_list_ne (F.args_list_ne_2 _ _) (hB_ l b xs ys n1 n2 d1 d2 l1 l2 hs) ⟨⟨o1,o2⟩,show Value.bool true≠Value.notImplemented/\Q (.bool true) s from ⟨(fun x=>nomatch x),h⟩⟩ hu
end
end EvN
namespace L2
open PySem PySem.Spec PyProof.Rows PySem.W EvS EvD
abbrev Rp(D:Type):=Hp->V->D->Prop
structure Cmp (X:Cx) (n:Nat) {D:Type} [DecidableEq D] (R:Rp D):Prop where
 eq:∀{pins:List (Addr × Obj)} {σ:St} {H:Hp} {s:Shared} {A:Around} {x y:V} {u v:Value} {d e:D},Inv X pins σ H s->RelV x u->RelV y v->R H x d->R H y e->A.units+n<cLine->SeqAt.EqAt A s u v (decide (d=e))
 one:∀{pins:List (Addr × Obj)} {σ:St} {H:Hp} {s:Shared} {x:V} {d e:D},Inv X pins σ H s->R H x d->R H x e->d=e
def rS:Rp Str:=fun _ x d=>x=.str d
def r2(K:F__){D1 D2:Type}(R1:Rp D1)(R2:Rp D2):Rp (D1 × D2):=fun H x d=>∃a u v,x=.ref a/\SqT K H a [u,v]/\R1 H u d.1/\R2 H v d.2
def r3(K:F__){D1 D2 D3:Type}(R1:Rp D1)(R2:Rp D2)(R3:Rp D3):Rp (D1 × D2 × D3):=fun H x d=>∃a u v w,x=.ref a/\SqT K H a [u,v,w]/\R1 H u d.1/\R2 H v d.2.1/\R3 H w d.2.2
def rL(K:F__){D:Type}(R:Rp D):Rp (List D):=fun H x ds=>∃a xs,x=.ref a/\SqL K H a xs/\Paired (R H) xs ds
section
variable{X:Cx}
theorem cmpS:Cmp X 0 rS where
 eq:=fun {pins σ H s A x y u v d e} I ru rv hx hy hu=>by
  have hx:x=.str d:=hx;have hy:y=.str e:=hy;subst hx;subst hy;have q:=g0_ (A:=A) (s:=s) ru rv rfl rfl
  have e2:eqV (.str d) (.str e)=decide (d=e):=by
   show (d == e)=_;by_cases h:d=e
   ·subst h;simp
   ·simp[h]
  rwa [e2] at q
 one:=fun {pins σ H s x d e} I hx hy=>by
  have hx:x=.str d:=hx;have hy:x=.str e:=hy;rw[hx] at hy;exact V.str.inj hy
theorem bA_{h:Heap}{a:Addr}{its:Array Value}(t:IsTup h a its):h.IsTuple a its:=t
theorem cmp2{n m:Nat}{D1 D2:Type}[DecidableEq D1][DecidableEq D2]{R1:Rp D1}{R2:Rp D2}(c1:Cmp X n R1)(c2:Cmp X m R2):Cmp X (max n m+1) (r2 X.K R1 R2) where
 one:=fun {pins σ H s x d e} I hx hy=>by
  obtain⟨a,u,v,rfl,t,q1,q2⟩:=hx;obtain⟨b,u',v',e0,t',q1',q2'⟩:=hy;cases e0;have e1:=I.tuple_inj t t';cases e1;exact Prod.ext (c1.one I q1 q1') (c2.one I q2 q2')
 eq:=fun {pins σ H s A x y u v d e} I ru rv hx hy hu=>by
  have hx':=hx;have hy':=hy;obtain⟨a,x1,x2,rfl,t,q1,q2⟩:=hx;obtain⟨b,y1,y2,rfl,t',q1',q2'⟩:=hy;cases ru;cases rv;by_cases hab:a=b
  ·subst hab;have e1:=I.tuple_inj t t';cases e1;have:d=e:=Prod.ext (c1.one I q1 q1') (c2.one I q2 q2');rw[decide_eq_true this];exact SeqAt.EqAt.same _
  ·obtain⟨its,r,it,_⟩:=I.tuple t;obtain⟨its',r',it',_⟩:=I.tuple t';obtain⟨u1,u2,rfl,r1,r2⟩:=vals2 r;obtain⟨w1,w2,rfl,r1',r2'⟩:=vals2 r'
   have key:=SeqAt.EqAt.of_refs hab (SeqAt.RcAt.tuples (A:=A) (s:=s) (e:=fun j=>if j=0 then decide (d.1=e.1) else decide (d.2=e.2)) (bA_ it) (bA_ it') (by omega) fun j h1 h2=>by
    match j,h1,h2 with
    |0,_,_=>exact c1.eq I r1 r1' q1 q1' (by show A.units+1+n<cLine;omega)
    |1,_,_=>exact c2.eq I r2 r2' q2 q2' (by show A.units+1+m<cLine;omega))
   have e3:((List.range (min [u1,u2].toArray.size [w1,w2].toArray.size)).all (fun j=>if j=0 then decide (d.1=e.1) else decide (d.2=e.2))&&[u1,u2].toArray.size == [w1,w2].toArray.size)=decide (d=e):=by
    show (decide (d.1=e.1)&&(decide (d.2=e.2)&&true)&&true)=_;by_cases h1:d.1=e.1
    ·by_cases h2:d.2=e.2
     ·have:d=e:=Prod.ext h1 h2;simp[this]
     ·have:¬d=e:=fun z=>h2 (by rw[z]);simp[h1,h2,this]
    ·have:¬d=e:=fun z=>h1 (by rw[z]);simp[h1,this]
   rw[e3] at key;exact key
theorem aB_{α β:Type}{F:α->β->Prop}:∀{l:List α} {m:List β},Paired F l m->∀(i:Nat) (h1:i<l.length) (h2:i<m.length),F l[i] m[i]
 |_,_,.cons h t,0,_,_=>h
 |_,_,.cons h t,i+1,h1,h2=>aB_ t i (by simpa using h1) (by simpa using h2)
theorem dU_{D:Type}[DecidableEq D]:∀{ds es:List D},ds.length=es.length->((List.range ds.length).all fun j=>decide (ds[j]? = es[j]?))=decide (ds=es):=fun {ds es} hl=>by
 by_cases h:ds=es
 ·subst h;simp
 ·rw[decide_eq_false h]
  have:∃i,i<ds.length/\ds[i]?≠es[i]?:=by
   refine Classical.byContradiction fun hn=>h ?_;apply List.ext_getElem?;intro i;by_cases hi:i<ds.length
   ·exact Classical.byContradiction fun q=>hn ⟨i,hi,q⟩
   ·rw[List.getElem?_eq_none (by omega),List.getElem?_eq_none (by omega)]
  obtain⟨i,hi,q⟩:=this;rw[List.all_eq_false];exact⟨i,by simpa using hi,by simpa using q⟩
theorem hE_{D:Type}[DecidableEq D]{n:Nat}{R:Rp D}(c:Cmp X n R){pins:List (Addr × Obj)}{σ:St}{H:Hp}{s:Shared}{A:Around}(I:Inv X pins σ H s){xs ys:List V}{us vs:List Value}{ds es:List D}(ru:Vals xs us)(rv:Vals ys vs)(hx:Paired (R H) xs ds)(hy:Paired (R H) ys es)(hu:A.units+n<cLine) :
  ∀j (h1:j<us.toArray.size) (h2:j<vs.toArray.size),SeqAt.EqAt A s us.toArray[j] vs.toArray[j] (decide (ds[j]? = es[j]?)):=fun j h1 h2=>by
 have l1:=ru.length;have l2:=rv.length;have l3:=Paired.length hx;have l4:=Paired.length hy;simp only[ai'] at h1 h2;have q:=c.eq (A:=A) I (aB_ ru j (by omega) h1) (aB_ rv j (by omega) h2) (aB_ hx j (by omega) (by omega)) (aB_ hy j (by omega) (by omega)) hu
 have e:decide (ds[j]? = es[j]?)=decide (ds[j]'(by omega)=es[j]'(by omega)):=by
  rw[ae' (by omega),ae' (by omega)];by_cases z:ds[j]'(by omega)=es[j]'(by omega)
  ·simp[z]
  ·simp[z]
 rw[e];exact q
def rEqD{D:Type}[DecidableEq D](R:Rp D)(neg:Bool):V->V->Hp->VK->Prop:=fun x y H Q=>∃d e,R H x d/\R H y e/\Q (.bl (if neg then !decide (d=e) else decide (d=e))) H
theorem g8_{n:Nat}{D:Type}[DecidableEq D]{R:Rp D}(c:Cmp X n R)(hu:X.A.units+n+1<cLine):OpR X (compareOp .NotEq) (rEqD (rL X.K R) true):=by
 intro pins s σ H x y v u Q I rx ry h;obtain⟨d,e,⟨a,xs,rfl,t,q⟩,⟨b,ys,rfl,t',q'⟩,hq⟩:=h;cases rx;cases ry;obtain⟨us,r,pl,_⟩:=I.list t;obtain⟨vs,r',pl',_⟩:=I.list t';have l1:=r.length;have l2:=r'.length;have l3:=Paired.length q;have l4:=Paired.length q';have hq:Q (.bl (!decide (d=e))) H:=hq;by_cases hl:d.length=e.length
 ·refine EvN.ne_listAt pl.isList pl'.isList (by simp only[ai'];omega) (by omega) (hE_ c I r r' q q' (A:=X.A.in1) (by show X.A.units+1+n<cLine;omega)) ⟨.bl _,H,I,rfl,?_⟩;rw[show us.toArray.size=d.length by simp only[ai'];omega,dU_ hl];exact hq
 ·refine EvN.ne_sizesAt pl.isList pl'.isList (by simp only[ai',bne_iff_ne];omega) (by omega) ⟨.bl _,H,I,rfl,?_⟩;rwa [decide_eq_false (fun z=>hl (by rw[z]))] at hq
def rInD(K:F__){D:Type}[DecidableEq D](R:Rp D)(neg:Bool):V->V->Hp->VK->Prop:=fun x y H Q=>∃d es,R H x d/\rL K R H y es/\Q (.bl (if neg then !decide (d∈es) else decide (d∈es))) H
theorem iw_{D:Type}[DecidableEq D]{n:Nat}{R:Rp D}(c:Cmp X n R){pins:List (Addr × Obj)}{σ:St}{H:Hp}{s:Shared}{A:Around}(I:Inv X pins σ H s){x:V}{u:Value}{d:D}(ru:RelV x u)(hx:R H x d)(hu:A.units+n<cLine):∀{ys:List V} {vs:List Value} {es:List D},Vals ys vs->Paired (R H) ys es->
  ∃f:Value->Bool,(∀w∈vs,SeqAt.EqAt A s w u (f w))/\vs.any f=decide (d∈es):=fun {ys vs es} rv hy=>by
 let f:Value->Bool:=fun w=>@decide (∃y e,RelV y w/\R H y e/\e=d) (Classical.propDecidable _)
 have sound:∀y w e,RelV y w->R H y e->f w=decide (e=d):=fun y w e h1 h2=>by
  by_cases z:e=d
  ·rw[decide_eq_true z];exact @decide_eq_true _ (Classical.propDecidable _) ⟨y,e,h1,h2,z⟩
  ·rw[decide_eq_false z];refine @decide_eq_false _ (Classical.propDecidable _) fun⟨y',e',g1,g2,g3⟩=>z ?_;have:y'=y:=RelV.inj g1 h1;subst this;rw[<- g3];exact c.one I h2 g2
 refine⟨f,?_,?_⟩
 ·induction rv generalizing es with
  |nil=>exact fun w hw=>nomatch hw
  |cons h t ih=>
   cases hy with
   |cons g t'=>
    intro w hw;rcases aj'.mp hw with rfl|hw
    ·rw[sound _ _ _ h g];exact c.eq I h ru g hx hu
    ·exact ih t' w hw
 ·induction rv generalizing es with
  |nil=>
   cases hy;simp
  |cons h t ih=>
   cases hy with
   |@cons _ e _ es g t'=>
    rw[List.any_cons,ih t',sound _ _ _ h g];by_cases z:e=d
    ·subst z;simp
    ·by_cases z2:d∈es
     ·simp[z2]
     ·have:¬d∈e::es:=fun q=>by
       rcases aj'.mp q with q|q
       ·exact z q.symm
       ·exact z2 q
      rw[decide_eq_false z,decide_eq_false z2,decide_eq_false this];rfl
theorem dB_{n:Nat}{D:Type}[DecidableEq D]{R:Rp D}(c:Cmp X n R)(hu:X.A.units+n+1<cLine):OpR X (compareOp .In) (rInD X.K R false):=by
 intro pins s σ H x y v u Q I rx ry h;obtain⟨d,es,hx,⟨a,ys,rfl,t,q⟩,hq⟩:=h;cases ry;obtain⟨us,r,pl,_⟩:=I.list t;obtain⟨f,h1,h2⟩:=iw_ c I (A:=X.A.in1) rx hx (by show X.A.units+1+n<cLine;omega) r q;refine SeqAt.in_listAt f pl.isList (fun w hw=>h1 w (by simpa using hw)) ⟨.bl _,H,I,rfl,?_⟩;rw[show us.toArray.any f=us.any f by simp,h2];exact hq
theorem dX_{n:Nat}{D:Type}[DecidableEq D]{R:Rp D}(c:Cmp X n R)(hu:X.A.units+n+1<cLine):OpR X (compareOp .NotIn) (rInD X.K R true):=by
 intro pins s σ H x y v u Q I rx ry h;obtain⟨d,es,hx,⟨a,ys,rfl,t,q⟩,hq⟩:=h;cases ry;obtain⟨us,r,pl,_⟩:=I.list t;obtain⟨f,h1,h2⟩:=iw_ c I (A:=X.A.in1) rx hx (by show X.A.units+1+n<cLine;omega) r q;refine SeqAt.notIn_listAt f pl.isList (fun w hw=>h1 w (by simpa using hw)) ⟨.bl _,H,I,rfl,?_⟩;rw[show us.toArray.any f=us.any f by simp,h2];exact hq
end
end L2
namespace L2
open PySem PySem.Spec PyProof.Rows PySem.W EvS EvD
section
variable{X:Cx}
def rIsi(K:F__):List V->Hp->VK->Prop:=fun xs H Q=>∃x T t b,xs=[x,.ty T]/\TyOf K H x t/\PySem.W.kitOne K t (.type T)=some b/\Q (.bl b) H
theorem aP_:bu' X (.builtin "isinstance") (rIsi X.K):=by
 intro pins s σ H xs us Q I r h;obtain⟨x,T,t,b,rfl,ty,e,q⟩:=h;obtain⟨u,w',rfl,ru,rw'⟩:=vals2 r;cases (show w'=Value.type T from rw');exact e9_ I ru ty e fun tk=>⟨.bl b,H,I.tok tk,rfl,q⟩
theorem dy_:OpR X (compareOp .LtE) (fun x y H Q=>∃i j,x=.str i/\y=.str j/\Q (.bl (!decide (j.cps.toList<i.cps.toList))) H):=by
 intro pins s σ H x y v u Q I rx ry h;obtain⟨i,j,rfl,rfl,q⟩:=h;obtain⟨t,rfl⟩:=rx;obtain⟨t',rfl⟩:=ry;exact PySem.P.le_str ⟨.bl _,H,I,rfl,q⟩
def tView(mk:Addr->Addr->HO)(td:TE):TE:=fun σ H Q=>td σ H fun x H1=>∃d kvs,x=.ref d/\H1 d=some (.dK kvs)/\∀v,H1 v=none->Q (.ref v) (upd H1 v (mk v d))
theorem gP_{pins:List (Addr × Obj)}{σ:St}{H:Hp}{s:Shared}{d:Addr}{cls:String}(I:Inv X pins σ H s)(φ:Heap->Prop)(hφ:φ (s.heap.push { cls:=.type cls,data:=.fields #[.ref d] }))(hs:∀h1 h2:Heap,φ h1->(∀o,h1.get? s.heap.objs.size=some o->h2.get? s.heap.objs.size=some o)->φ h2) :
  Inv X pins σ (upd H s.heap.objs.size (.ext φ)) { s with heap:=s.heap.push { cls:=.type cls,data:=.fields #[.ref d] } }:=
 I.laid (t':=s.toks) (fun _ _ q=>Heap.get?_push_of_some _ q) (ag' _) ⟨hφ,⟨_,Heap.get?_push_size _ rfl⟩,hs⟩
theorem cq_{o:Expr}{td:TE}{apos cpos:Pos}(ho:PE X o td)(hbase:attributeBase o "items" X.env (eval o X.env)=eval o X.env:=by rfl)(hline:(apos.endLine == cpos.line)=true:=by rfl):PE X (.Call (.Attribute o "items" apos) [] [] cpos) (tView br' td):=by
 intro pins s σ H Q I h;refine wpAny_Call_method0_late hbase hline (thn (ho pins s σ H _ I h) fun v s1 ⟨x,H1,I1,r1,d,kvs,e,hd,q⟩=>?_);subst e;cases r1;obtain⟨t1,t2,t3⟩:=he_ I1 (.inl ⟨kvs,.inl hd⟩);obtain⟨_,_,vs,rel,dd⟩:=e3_ I1.hok hd;refine⟨"dict","dict.items",PySem.F.plainAttrs_dict,PySem.F.slot_dict_items,PySem.F.type_dict_items,t1,t2,Calls.callWith_builtin rfl (PySem.evalArgs_none ?_)⟩;refine call_meetsIn PySem.F.slot_dict_items t1 PySem.F.entry_dict_items (PySem.F.args_dict_items_1 _) (meets_dict_items (a9' X.prog X.w) d t3) ⟨⟨vs,dd⟩,?_⟩;exact⟨.ref _,_,gP_ I1 _ ⟨_,Heap.get?_push_size _ rfl,rfl,rfl⟩ fun h1 h2 ⟨o,e,r⟩ k=>⟨o,k o e,r⟩,rfl,q _ I1.fresh⟩
theorem ct_{o:Expr}{td:TE}{apos cpos:Pos}(ho:PE X o td)(hbase:attributeBase o "values" X.env (eval o X.env)=eval o X.env:=by rfl)(hline:(apos.endLine == cpos.line)=true:=by rfl):PE X (.Call (.Attribute o "values" apos) [] [] cpos) (tView bm' td):=by
 intro pins s σ H Q I h;refine wpAny_Call_method0_late hbase hline (thn (ho pins s σ H _ I h) fun v s1 ⟨x,H1,I1,r1,d,kvs,e,hd,q⟩=>?_);subst e;cases r1;obtain⟨t1,t2,t3⟩:=he_ I1 (.inl ⟨kvs,.inl hd⟩);obtain⟨_,_,vs,rel,dd⟩:=e3_ I1.hok hd;refine⟨"dict","dict.values",PySem.F.plainAttrs_dict,PySem.F.slot_dict_values,PySem.F.type_dict_values,t1,t2,Calls.callWith_builtin rfl (PySem.evalArgs_none ?_)⟩;refine call_meetsIn PySem.F.slot_dict_values t1 PySem.F.entry_dict_values (PySem.F.args_dict_values_1 _) (meets_dict_values (a9' X.prog X.w) d t3) ⟨⟨vs,dd⟩,?_⟩;exact⟨.ref _,_,gP_ I1 _ ⟨_,Heap.get?_push_size _ rfl,rfl,rfl⟩ fun h1 h2 ⟨o,e,r⟩ k=>⟨o,k o e,r⟩,rfl,q _ I1.fresh⟩
end
section
variable{X:Cx}{pins:List (Addr × Obj)}{σ:St}{H:Hp}{s:Shared}{d:Addr}{kvs:List (Key × V)}
theorem Inv.freeze(I:Inv X pins σ H s)(h:H d=some (.dK kvs)):∃o,s.heap.get? d=some o/\Inv X pins σ (upd H d (.frz o (.dK kvs))) s:=by
 obtain⟨z,hd,vs,rel,dd⟩:=e3_ I.hok h;obtain⟨o,es,ep,ho,r⟩:=id dd;have other:∀{b u},H b=some u->u≠.dK kvs->upd H d (.frz o (.dK kvs)) b=some u:=fun {b u} e ne=>by rw[a4_ (az_ e h ne)];exact e
 refine⟨o,ho,I.un (h':=s.heap) (t':=s.toks) ⟨fun b u q _ _ _=>q,fun b u q _ _ _=>⟨u.slots,q⟩,fun b u q n _=>?_,fun b u q _=>⟨u,q⟩,fun b xs q=>other q (by simp),fun b u v q=>other q (by simp),fun b ps q=>⟨#[],by rw[aZ'];exact other q (by simp)⟩⟩ fun b u q=>?_⟩
 ·by_cases e:b=d
  ·subst e;rw[h] at n;cases n
  ·rw[a4_ e];exact n
 ·by_cases e:b=d
  ·subst e;rw[a1_] at q;cases q;exact⟨ho,z,hd,vs,rel,dd⟩
  ·rw[a4_ e] at q;exact (I.hok b u q).stay (fun c v _ z=>z) (fun c z=>other z (by simp)) fun c xs z=>other z (by simp)
theorem Inv.thaw{o:Obj}(I:Inv X pins σ H s)(h:H d=some (.frz o (.dK kvs)))(h0:∀o u,X.H₀ d≠some (.frz o u)):Inv X pins σ (upd H d (.dK kvs)) s:=by
 have other:∀{b u},H b=some u->(∀o v,u≠.frz o v)->upd H d (.dK kvs) b=some u:=fun {b u} e ne=>by rw[a4_ (az_ e h (ne _ _))];exact e
 have none':∀{b},H b=none->upd H d (.dK kvs) b=none:=fun {b} e=>by
  rw[a4_ (fun z=>by subst z;rw[h] at e;cases e)];exact e
 refine⟨I.ok,I.os,I.bare,⟨I.base.keep,I.base.slot,fun b u q n hx=>none' (I.base.free b u q n hx),I.base.there,fun b xs q=>other (I.base.tups b xs q) (by simp),fun b u v q=>?_,fun b ps q=>?_⟩,I.loc,I.cell,none' I.free,fun x c e=>none' (I.freeC x c e),fun p hp=>?_,fun b u q=>?_,I.len⟩
 ·have:=I.base.frzs b u v q;rw[a4_ (fun z=>by subst z;exact h0 _ _ q)];exact this
 ·obtain⟨more,e⟩:=I.base.tbls b ps q;exact⟨more,other e (by simp)⟩
 ·obtain⟨a1,a2,a3⟩:=I.pin p hp;exact⟨a1,none' a2,a3⟩
 ·by_cases e:b=d
  ·subst e;rw[a1_] at q;cases q;obtain⟨ho,z,hd,vs,rel,dd⟩:=I.hok b _ h;exact⟨z,hd,vs,rel,dd⟩
  ·rw[a4_ e] at q;exact (I.hok b u q).stay (fun c v _ z=>z) (fun c z=>other z (by simp)) fun c xs z=>other z (by simp)
end
def tThaw(t:TE):TE:=fun σ H Q=>∃d kvs,H d=some (.dK kvs)/\t σ H fun v H1=>∃o,H1 d=some (.frz o (.dK kvs))/\Q v (upd H1 d (.dK kvs))
theorem eh_{X:Cx}{e:Expr}{t:TE}(h:PE X e t):PE X e (tThaw t):=by
 intro pins s σ H Q I q;obtain⟨d,kvs,hd,q⟩:=q;refine thn (h pins s σ H _ I q) fun u s' ⟨v,H1,I1,r,o,hf,q1⟩=>⟨v,_,I1.thaw hf (fun o u z=>?_),r,q1⟩;have:=I.base.frzs _ _ _ z;rw[hd] at this;cases this
def Itv(d:Addr)(o:Obj)(kvs:List (Key × V)):It:=⟨fun i H=>H d=some (.frz o (.dK kvs))/\i<kvs.length,fun i H x H'=>H'=H/\∃k,kvs[i]? = some (k,x),fun i H=>H d=some (.frz o (.dK kvs))/\kvs.length<=i⟩
theorem be_{X:Cx}{pins:List (Addr × Obj)}{σ:St}{H:Hp}{s:Shared}{d:Addr}{kvs:List (Key × V)}{o:Obj}{es:Array DictEntry}{ep:Nat}(I:Inv X pins σ H s)(h:H d=some (.frz o (.dK kvs)))(ho:o.data=.dict es ep):∃vs,KV kvs vs/\s.heap.DictAt (a9' X.prog X.w) d vs ep:=by
 obtain⟨e,z,hd,vs,rel,o',es',ep',e',c',d',r⟩:=I.hok d _ h;rw[e] at e';cases e';rw[ho] at d';cases d';exact⟨vs,rel,o,es,e,c',ho,r⟩
theorem gH_{κ:Type}{kvs:List (κ × V)}{vs:List (κ × Value)}(r:KV kvs vs):∀(i:Nat) {k:κ} {x:V},kvs[i]? = some (k,x)->∃u,vs[i]? = some (k,u)/\RelV x u:=by
 induction r with
 |nil=>intro i k x e;simp at e
 |@cons p q _ _ h _ ih=>
  intro i k x e;cases i with
  |zero=>
   have e:p=(k,x):=by simpa using e
   subst e;refine⟨q.2,?_,h.2⟩;rw[List.getElem?_cons_zero];have h1:k=q.1:=h.1;rw[h1]
  |succ i=>exact ih i (by simpa using e)
theorem ho_{P:Program}{w:World}{K:F__}{tg:Expr}(d it:Addr)(o:Obj)(kvs:List (Key × V)){es:Array DictEntry}{ep:Nat}(ho:o.data=.dict es ep):Turn P w K tg (Itv d o kvs) [it] it (fun i h=>h.IsValIter it d i kvs.length ep) where
 mem:=by simp
 obj:=fun i h st b hb=>by
  obtain rfl:b=it:=by simpa using hb
  obtain⟨o,e,c,d⟩:=st;exact⟨o,e,fun v z=>by rw[d] at z;cases z⟩
 keep:=fun i h h' st k=>st.at fun o e=>k it (by simp) o e
 item:=by
  intro X hP hw hK hc i pins s σ H E I hf st hg;subst hP hw hK;obtain⟨hd,hi⟩:=hg;obtain⟨vs,rel,dat⟩:=be_ I hd ho;obtain⟨⟨k,x⟩,hx⟩:∃p,kvs[i]? = some p:=⟨kvs[i],by simp[hi]⟩;obtain⟨u,hu,ru⟩:=gH_ rel i hx;obtain⟨f0,f1,f2,f3,f4,f5⟩:=hf it (by simp);rw[rel.length] at st;refine wpAny_pyNext_values_item st dat hu fun h' st' sb=>?_;have I1:Inv X pins σ H { s with heap:=h' }:=I.turned (t':=s.toks) (fun b o hb e=>(sb.2 b hb).trans e) f0 f1 f3 f4 f5;obtain⟨o',e,c,dd⟩:=id st';refine⟨u,rfl,ep_ (s:={ s with heap:=h' }) e c dd (by decide) ⟨x,H,I1,ru,⟨rfl,k,hx⟩,?_,fun b hb=>(hf b hb).1⟩⟩;show h'.IsValIter it d (i+1) kvs.length ep;rw[rel.length];exact st'
 done:=by
  intro X hP hw hK hc i pins s σ H E I hf st hg;subst hP hw hK;obtain⟨hd,hi⟩:=hg;obtain⟨vs,rel,dat⟩:=be_ I hd ho;obtain⟨f0,f1,f2,f3,f4,f5⟩:=hf it (by simp);rw[rel.length] at st hi;exact wpAny_pyNext_values_end (I.ok.hd hc) st dat (by simp;omega) fun h' eb=>⟨rfl,I.turned (t':=s.toks) (fun b o hb e=>eb b o hb e) f0 f1 f3 f4 f5⟩
 self:=fun _ _ _ _ _ st h=>wpAny_pyIter_valiter st h
def iVals(tv:TE):TI:=fun σ H R=>tv σ H fun x H1=>∃v d kvs,x=.ref v/\H1 v=some (bm' v d)/\H1 d=some (.dK kvs)/\∀o,R (Itv d o kvs) (upd H1 d (.frz o (.dK kvs)))
theorem ee_{X:Cx}{tg e:Expr}{tv:TE}(he:PE X e tv):PI X tg e (iVals tv):=by
 intro pins s σ H R I h;refine thn (he pins s σ H _ I h) fun u s1 ⟨x,H1,I1,r1,v,d,kvs,ex,hv,hd,q⟩=>?_;subst ex;cases r1;obtain⟨iv,_,_⟩:=I1.hok v _ hv;obtain⟨o,ho,I2⟩:=I1.freeze hd;obtain⟨z,_,vs,rel,o',es,ep,ho',c',dt,r⟩:=e3_ I1.hok hd;rw[ho] at ho';cases ho';have hne:v≠d:=az_ hv hd nofun;refine wpAny_pyIter_values (knd:=a9' X.prog X.w) (kvs:=vs) (ep:=ep) iv ⟨o,es,ho,c',dt,r⟩ ?_;refine⟨s1.heap.objs.size,[s1.heap.objs.size],_,_,_,rfl,I2.kept (t':=s1.toks) fun b o e=>Heap.get?_push_of_some _ e,ho_ d _ o kvs dt,?_,fun b hb=>?_,q o⟩
 ·rw[rel.length];exact⟨_,Heap.get?_push_size _ rfl,rfl,rfl⟩
 ·obtain rfl:b=s1.heap.objs.size:=by simpa using hb
  exact I2.fpOk (ag' _) (I2.hok.fresh (ag' _))
def Its(x:Str):It:=⟨fun i _=>i<x.cps.size,fun i H v H'=>H'=H/\∃c,x.cps[i]? = some c/\v=.str ⟨#[c]⟩,fun i _=>x.cps.size<=i⟩
theorem fu_{P:Program}{w:World}{K:F__}{tg:Expr}(it:Addr)(x:Str)(t:Tok):Turn P w K tg (Its x) [it] it (fun i h=>i<=x.cps.size/\h.IsStrIter it "str_ascii_iterator" x t i) where
 mem:=by simp
 obj:=fun i h st b hb=>by
  obtain rfl:b=it:=by simpa using hb
  obtain⟨o,e,c,d⟩:=st.2;exact⟨o,e,fun v z=>by rw[d] at z;cases z⟩
 keep:=fun i h h' st k=>⟨st.1,let ⟨o,ho,r⟩:=st.2;⟨o,k it (by simp) o ho,r⟩⟩
 item:=by
  intro X hP hw hK hc i pins s σ H E I hf st hg;subst hP hw hK;have hg:i<x.cps.size:=hg;obtain⟨f0,f1,f2,f3,f4,f5⟩:=hf it (by simp);refine wpAny_pyNext_ascii_item st.2 (c:=x.cps[i]) (by simp[hg]) fun h' st' sb=>?_;have I1:Inv X pins σ H { s with heap:=h',toks:=s.toks+1 }:=I.turned (t':=s.toks+1) (fun b o hb e=>(sb.2 b hb).trans e) f0 f1 f3 f4 f5;obtain⟨o',e,c,dd⟩:=id st';exact⟨_,rfl,ep_ (s:={ s with heap:=h',toks:=s.toks+1 }) e c dd (by decide) ⟨.str ⟨#[x.cps[i]]⟩,H,I1,⟨_,rfl⟩,⟨rfl,_,by simp[hg],rfl⟩,⟨hg,st'⟩,fun b hb=>(hf b hb).1⟩⟩
 done:=by
  intro X hP hw hK hc i pins s σ H E I hf st hg;subst hP hw hK;have hg:x.cps.size<=i:=hg;obtain⟨f0,f1,f2,f3,f4,f5⟩:=hf it (by simp);exact wpAny_pyNext_ascii_end (I.ok.hd hc) st.2 (by simp[hg]) fun h' eb=>⟨rfl,I.turned (t':=s.toks) (fun b o hb e=>eb b o hb e) f0 f1 f3 f4 f5⟩
 self:=fun _ _ _ _ _ st h=>wpAny_pyIter_striter_ascii st.2 h
theorem gX_{P:Program}{w:World}{K:F__}{tg:Expr}(it:Addr)(x:Str)(t:Tok):Turn P w K tg (Its x) [it] it (fun i h=>i<=x.cps.size/\h.IsStrIter it "str_iterator" x t i) where
 mem:=by simp
 obj:=fun i h st b hb=>by
  obtain rfl:b=it:=by simpa using hb
  obtain⟨o,e,c,d⟩:=st.2;exact⟨o,e,fun v z=>by rw[d] at z;cases z⟩
 keep:=fun i h h' st k=>⟨st.1,let ⟨o,ho,r⟩:=st.2;⟨o,k it (by simp) o ho,r⟩⟩
 item:=by
  intro X hP hw hK hc i pins s σ H E I hf st hg;subst hP hw hK;have hg:i<x.cps.size:=hg;obtain⟨f0,f1,f2,f3,f4,f5⟩:=hf it (by simp);refine wpAny_pyNext_wide_item st.2 (c:=x.cps[i]) (by simp[hg]) fun h' st' sb=>?_;have I1:Inv X pins σ H { s with heap:=h',toks:=s.toks+1 }:=I.turned (t':=s.toks+1) (fun b o hb e=>(sb.2 b hb).trans e) f0 f1 f3 f4 f5;obtain⟨o',e,c,dd⟩:=id st';exact⟨_,rfl,ep_ (s:={ s with heap:=h',toks:=s.toks+1 }) e c dd (by decide) ⟨.str ⟨#[x.cps[i]]⟩,H,I1,⟨_,rfl⟩,⟨rfl,_,by simp[hg],rfl⟩,⟨hg,st'⟩,fun b hb=>(hf b hb).1⟩⟩
 done:=by
  intro X hP hw hK hc i pins s σ H E I hf st hg;subst hP hw hK;have hg:x.cps.size<=i:=hg;obtain⟨f0,f1,f2,f3,f4,f5⟩:=hf it (by simp);exact wpAny_pyNext_wide_end (I.ok.hd hc) st.2 (by simp[hg]) fun h' eb=>⟨rfl,I.turned (t':=s.toks) (fun b o hb e=>eb b o hb e) f0 f1 f3 f4 f5⟩
 self:=fun _ _ _ _ _ st h=>wpAny_pyIter_striter_wide st.2 h
def iStr(tl:TE):TI:=fun σ H R=>tl σ H fun v H1=>∃x,v=.str x/\R (Its x) H1
theorem jZ_{X:Cx}{tg l:Expr}{tl:TE}(hl:PE X l tl):PI X tg l (iStr tl):=by
 intro pins s σ H R I h;refine thn (hl pins s σ H _ I h) fun v s1 ⟨y,H1,I1,r1,x,e,q⟩=>?_;subst e;obtain⟨t,rfl⟩:=r1
 have fp:∀b∈[s1.heap.objs.size],FpOk X pins H1 b:=fun b hb=>by
  obtain rfl:b=s1.heap.objs.size:=by simpa using hb
  exact I1.fpOk (ag' _) (I1.hok.fresh (ag' _))
 cases ha:x.cps.all (· < 128)
 ·refine wpAny_pyIter_wide ha ?_;exact⟨s1.heap.objs.size,[s1.heap.objs.size],_,_,H1,rfl,I1.kept (t':=s1.toks) fun b o e=>Heap.get?_push_of_some _ e,gX_ _ x t,⟨aD' _,_,Heap.get?_push_size _ rfl,rfl,rfl⟩,fp,q⟩
 ·refine wpAny_pyIter_ascii ha ?_;exact⟨s1.heap.objs.size,[s1.heap.objs.size],_,_,H1,rfl,I1.kept (t':=s1.toks) fun b o e=>Heap.get?_push_of_some _ e,fu_ _ x t,⟨aD' _,_,Heap.get?_push_size _ rfl,rfl,rfl⟩,fp,q⟩
end L2
namespace L2
open PySem PySem.Spec PyProof.Rows PySem.W EvS EvD
theorem opK{X:Cx}{f:Value->Value->Sem Value}{K:F__}(r:F__->R2)(h:OpR X f (r X.K))(hK:X.K=K:=by rfl):OpR X f (r K):=by
 subst hK;exact h
theorem callK{X:Cx}{f:Value}{K:F__}(r:F__->List V->Hp->VK->Prop)(h:bu' X f (r X.K))(hK:X.K=K:=by rfl):bu' X f (r K):=by
 subst hK;exact h
theorem ixK{X:Cx}{K:F__}(r:F__->R2)(h:IxR X (r X.K))(hK:X.K=K:=by rfl):IxR X (r K):=by
 subst hK;exact h
def rLen(K:F__):List V->Hp->VK->Prop:=fun xs H Q=>∃p ys,xs=[.ref p]/\(SqL K H p ys∨SqT K H p ys)/\Q (.int ys.length) H
theorem cLen{X:Cx}{K:F__}(hK:X.K=K:=by rfl):bu' X (.builtin "len") (rLen K):=callK rLen aD_ hK
theorem eq_{X:Cx}{N:List Str}{scope:Scope}{fp:List Addr}{s:Shared}{H:Hp}{es:List Expr}{k:Nat}{pos:Pos}{t:TGs}{n:Nat}(h:PGs (bi' X N scope fp s H) es t)(hc:X.calm=true:=by rfl)
  (hn:(assignEach es (bi' X N scope fp s H).env).length=n:=by rfl) (hst:(assignEach es (bi' X N scope fp s H).env).findIdx? (·.1)=none:=by rfl):PG (bi' X N scope fp s H) (.Tuple es k pos) (gTup X.K n t):=bf_ (X:=bi' X N scope fp s H) hc h hn hst
end L2
namespace Ev
open PySem L2
def top(i:Nat):Stmt:=PySem.Challenge.pw_evenpieces_k29_what_shares_give.main.body.getD i (.Pass ⟨0,0,0,0⟩)
abbrev sIsW:Stmt:=top 12
abbrev sWhole:Stmt:=top 14
abbrev sName:Stmt:=top 15
abbrev cW':Stmt:=top 16
abbrev sPair:Stmt:=top 17
abbrev cI':Stmt:=top 18
abbrev sHand:Stmt:=top 48
abbrev sStr:Stmt:=top 49
abbrev sTies:Stmt:=top 50
abbrev sNear:Stmt:=top 51
abbrev sWeb:Stmt:=top 53
def ltS(a b:Str):Bool:=decide (a.cps.toList<b.cps.toList)
def ord2(a b:Str):Str × Str:=if ltS a b=true then (a,b) else (b,a)
section
variable{P:Program}{w:World}{K:F__}{mg:Str->Option Value}{base:Heap}
theorem f__{N p:List Str}{c:Scope}(h:a7' N p c:=by exact⟨rfl,rfl,rfl,by decide +kernel,rfl,by decide +kernel,by decide +kernel⟩):a7' N p c:=h
theorem scLesser:a7' ["one","other"] ["one","other"] (a5' cW'):=f__
def b2':Sp:=fun vs H Q _=>∃a b,vs=[.str a,.str b]/\∀t,H t=none->Q (.ref t) (upd H t (.tup [.str (ord2 a b).1,.str (ord2 a b).2]))
theorem hl_{f:Addr}{fd:FuncData}(F:Fun K "lesser_first" "lesser_first" cW' f fd):FnOk P w K mg base CX0 1 f fd ["one","other"] b2':=by
 refine F.ok scLesser (fun vs H Q E h=>?_) (fun cdv A outer s H vs Q E hr h=>?_)
 ·obtain⟨a,b,rfl,_⟩:=h;rfl
 ·obtain⟨a,b,rfl,k⟩:=h;refine⟨_,a5_ (ab_ (hN_ (ao_ g3_ (pv 0) (pv 1) (nomark _)) (aH_ (a0_ (pv 0) (a0_ (pv 1) a3_))) (aH_ (a0_ (pv 1) (a0_ (pv 0) a3_))))),?_⟩;refine⟨_,rfl,_,rfl,a,b,rfl,rfl,_,rfl,?_⟩;refine ite2 (fun c=>?_) (fun c=>?_)
  ·refine⟨_,rfl,_,rfl,by show 2<=sizeLine;decide,fun t ht=>?_⟩;have:=k t ht;rwa [show ord2 a b=(a,b) from if_pos c] at this
  ·refine⟨_,rfl,_,rfl,by show 2<=sizeLine;decide,fun t ht=>?_⟩;have:=k t ht;rwa [show ord2 a b=(b,a) from if_neg c] at this
theorem scWhole:a7' ["thing","least","most"] ["thing","least","most"] (a5' sWhole):=f__
def cU':Sp:=fun vs H Q _=>∃i a b:Int,vs=[.int i,.int a,.int b]/\Q (.bl (decide (a<=i)&&decide (i<=b))) H
structure Bi (mg:Str->Option Value):Prop where
 isi:mg "isinstance"=none
 int:mg "int"=none
 bool:mg "bool"=none
 str:mg "str"=none
 tuple:mg "tuple"=none
 list:mg "list"=none
 dict:mg "dict"=none
 len:mg "len"=none
 all:mg "all"=none
 sorted:mg "sorted"=none
 max:mg "max"=none
 range:mg "range"=none
 any:mg "any"=none
 enum:mg "enumerate"=none
 min:mg "min"=none
 abs:mg "abs"=none
structure Cal (P:Program) (w:World) (K:F__) (mg:Str->Option Value) (base:Heap) (k:Nat) (x:Str) (ps:List Str) (sp:Sp):Prop where
 ex:∃f fd,FnOk P w K mg base CX0 k f fd ps sp/\mg x=some (.ref f)/\PySem.W.keepIn K (.ref f)=true/\bV' K fd ps []
theorem ah_{X:Cx}{k:Nat}{x:Str}{ps:List Str}{sp:Sp}{p pos:Pos}{e:Expr}{es:List Expr}{t:TA}(c:Cal X.prog X.w X.K X.mg X.base k x ps sp)(hr:Room k X.A)(ha:PA X (e::es) t)(hg:Gl X x:=by rfl)(hdb:(x == ("__debug__":Str))=false:=by decide)
  (he:starEach (e::es) X.env=(false,eval e X.env)::starEach es X.env:=by rfl) (hpl:(backTo pos (starEach es X.env)).any (·.1)=false:=by rfl):PE X (.Call (.Name x p) (e::es) [] pos) (tCall sp [] E0 t):=by
 obtain⟨f,fd,F,m,kp,b⟩:=c.ex;exact jN_ F hr hg m kp b .nil pass0 ha hdb he hpl
theorem scIsW:a7' ["thing"] ["thing"] (a5' sIsW):=f__
def spIsW:Sp:=fun vs H Q _=>∃i:Int,vs=[.int i]/\Q (.bl true) H
theorem jQ_{f:Addr}{fd:FuncData}(F:Fun K "is_whole" "is_whole" sIsW f fd)(B:Bi mg):FnOk P w K mg base CX0 1 f fd ["thing"] spIsW:=by
 refine F.ok scIsW (fun vs H Q E h=>?_) (fun cdv A outer s H vs Q E hr h=>?_)
 ·obtain⟨i,rfl,_⟩:=h;rfl
 ·obtain⟨i,rfl,k⟩:=h;refine⟨_,a5_ (ab_ (bu_ (ad_ aP_ (by rfl) B.isi PyProof.Rows.Boot.«isinstance» (a0_ (pv 0) (a0_ (b5_ (v:=.ty "int") (by rfl) B.int PyProof.Rows.Boot.«int» rfl) a3_))) (bj_ (jY_ (ad_ aP_ (by rfl) B.isi PyProof.Rows.Boot.«isinstance» (a0_ (pv 0) (a0_ (b5_ (v:=.ty "bool") (by rfl) B.bool PyProof.Rows.Boot.«bool» rfl) a3_))))))),?_⟩;exact⟨_,rfl,_,_,_,_,rfl,.int i,rfl,_,rfl,iteT ⟨_,rfl,_,_,_,_,rfl,.int i,rfl,_,rfl,k⟩⟩
theorem hA_{f:Addr}{fd:FuncData}(F:Fun K "is_whole_within" "is_whole_within" sWhole f fd)(cI:Cal P w K mg base 1 "is_whole" ["thing"] spIsW):FnOk P w K mg base CX0 2 f fd ["thing","least","most"] cU':=by
 refine F.ok scWhole (fun vs H Q E h=>?_) (fun cdv A outer s H vs Q E hr h=>?_)
 ·obtain⟨i,a,b,rfl,_⟩:=h;rfl
 ·obtain⟨i,a,b,rfl,k⟩:=h;refine⟨_,a5_ (ab_ (bu_ (ah_ cI hr (a0_ (pv 0) a3_)) (bj_ (f3_ da_ da_ (pv 1) (pv 0) (pv 2))))),?_⟩;refine⟨_,rfl,i,rfl,_,rfl,iteT ?_⟩;refine⟨_,rfl,_,rfl,_,_,rfl,rfl,_,rfl,?_⟩;refine ite2 (fun c=>?_) (fun c=>?_)
  ·refine⟨_,rfl,_,_,rfl,rfl,?_⟩;rw[c] at k;exact k
  ·rw[show decide (a<=i)=false by simpa using c] at k;exact k
def okc(c:Nat):Bool:=decide (97<=c)&&decide (c<=122)
def bz'(x:Str):Bool:=decide (1<=x.length)&&decide (x.length<=8)&&x.cps.toList.all okc
theorem scName:a7' ["thing"] ["thing"] (a5' sName):=f__
def c8':Sp:=fun vs H Q _=>∃x:Str,vs=[.str x]/\x.length<=100000/\∀H',Same H H'->Q (.bl (bz' x)) H'
theorem jB_{c:Nat}:(!decide ((⟨#[c]⟩:Str).cps.toList<("a":Str).cps.toList))=decide (97<=c):=by
 have e:("a":Str).cps.toList=[97]:=by decide +kernel
 rw[e];show (!decide ([c] < [97]))=decide (97<=c);by_cases h:97<=c
 ·have:¬[c] < [97]:=by simp[List.cons_lt_cons_iff];omega
  simp[this,h]
 ·have:[c] < [97]:=by simp[List.cons_lt_cons_iff];omega
  simp[this,h]
theorem iS_{c:Nat}:(!decide (("z":Str).cps.toList<(⟨#[c]⟩:Str).cps.toList))=decide (c<=122):=by
 have e:("z":Str).cps.toList=[122]:=by decide +kernel
 rw[e];show (!decide ([122] < [c]))=decide (c<=122);by_cases h:c<=122
 ·have:¬[122] < [c]:=by simp[List.cons_lt_cons_iff];omega
  simp[this,h]
 ·have:[122] < [c]:=by simp[List.cons_lt_cons_iff];omega
  simp[this,h]
theorem iY_{f:Addr}{fd:FuncData}(F:Fun K "is_name" "is_name" sName f fd)(B:Bi mg){t8:Tok}(m8:mg "MOST_LETTERS"=some (.int 8 t8)):FnOk P w K mg base CX0 1 f fd ["thing"] c8':=by
 refine F.ok scName (fun vs H Q E h=>?_) (fun cdv A outer s H vs Q E hr h=>?_)
 ·obtain⟨x,rfl,_⟩:=h;rfl
 ·obtain⟨x,rfl,hz,k⟩:=h;have sz:=sizeLine_eq
  refine⟨_,a2_ (aC_ (e1_ (aI_ (aK_ (ad_ aP_ (by rfl) B.isi PyProof.Rows.Boot.«isinstance» (a0_ (pv 0) (a0_ (b5_ (v:=.ty "str") (by rfl) B.str PyProof.Rows.Boot.«str» rfl) a3_)))))
    (cd_ (aI_ (fi_ da_ da_ a7_ (ad_ cf_ (by rfl) B.len PySem.boot_len (a0_ (pv 0) a3_)) (bM_ (v:=.int 8) (by rfl) m8 ⟨t8,rfl⟩))))).pt (a5_ (ab_ dJ_)) ae_)
   (a5_ (ab_ (ad_ (i0_ rfl) (by rfl) B.all PyProof.Rows.Boot.«all» (a0_
    (aS_ ["letter"] 1 [] (jZ_ (pv 0)) (fun fp s H=>a8_ (i:=0) (show (["letter"]:List Str).Nodup by decide +kernel) rfl (Or.inl rfl)) (fun fp s H=>aU_) (fun fp s H=>f3_ dy_ dy_ au_ (pv 0) au_)) a3_)))),?_⟩
  refine⟨_,rfl,_,_,_,_,rfl,.str x,rfl,_,rfl,?_⟩;refine iteF ?_;refine⟨_,rfl,x,rfl,by omega,_,_,rfl,rfl,_,rfl,?_⟩
  have fin:(decide (1<=x.length)&&decide (x.length<=8))=false->∀H',Same H H'->Q (.bl false) H':=fun e H' sm=>by
   have:=k H' sm;rwa [show bz' x=false by unfold bz';rw[e];rfl] at this
  refine ite2 (fun c=>?_) (fun c=>?_)
  ·have c1:1<=x.length:=by
    have:(1:Int)<=(x.length:Int):=by simpa using c
    omega
   refine⟨_,_,rfl,rfl,_,rfl,?_⟩;refine ite2 (fun c2=>?_) (fun c2=>?_)
   ·-- too long
    have c3:¬x.length<=8:=by
     have:¬((x.length:Int)<=8):=by simpa using c2
     omega
    exact fin (by rw[decide_eq_false c3,Bool.and_false]) H (Same.refl H)
   ·have c3:x.length<=8:=by
     have:(x.length:Int)<=8:=by simpa using c2
     omega
    refine⟨_,rfl,x,rfl,fun D hD=>?_⟩;refine bt_ (own:=1) (fv:=[]) rfl gok1 x.cps.size (fun i out H'=>H'=upd H D (.lst out)/\out=((x.cps.toList.take i).map okc).map V.bl) ⟨rfl,by simp⟩ (fun out H' ⟨e1,e2⟩=>?_) (fun i out H' hi ⟨e1,e2⟩=>?_)
    ·refine⟨ag' _,D,x.cps.toList.map okc,rfl,.of ?_,?_⟩
     ·rw[e1,a1_,e2,aL' (by simp)]
     ·have:=k H' (by rw[e1];exact Same.new hD);rwa [show bz' x=(x.cps.toList.map okc).all id by unfold bz';rw[decide_eq_true c1,decide_eq_true c3,List.all_map];rfl] at this
    ·refine⟨hi,fun v H2 y=>?_⟩;obtain⟨eH,c,hc,rfl⟩:=y;subst eH;refine⟨_,rfl,rfl,fun Nx hN=>yesT ?_⟩
     have lo:out.length<sizeLine:=by
      rw[e2];have hs:x.length=x.cps.size:=rfl;simp only[aa',ak',aH'];omega
     have nx:Nx (upd H2 D (.lst (out++[V.bl (okc c)]))):=hN (out++[V.bl (okc c)]) _ ⟨by rw[e1,jq_],by
      rw[e2,aB'];simp[hc]⟩
     have atD:H2 D=some (.lst out):=by rw[e1,a1_]
     refine⟨_,rfl,_,_,rfl,rfl,_,rfl,?_⟩;rw[jB_];refine ite2 (fun c2=>?_) (fun c2=>?_)
     ·refine⟨_,_,rfl,rfl,out,atD,lo,?_⟩;rw[iS_];rwa [show okc c=decide (c<=122) by unfold okc;rw[c2];rfl] at nx
     ·refine⟨out,atD,lo,?_⟩;rwa [show okc c=false by unfold okc;rw[show decide (97<=c)=false by simpa using c2];rfl] at nx
  ·have c1:¬1<=x.length:=by
    have:¬((1:Int)<=(x.length:Int)):=by simpa using c
    omega
   exact⟨_,rfl,iteT (fin (by rw[decide_eq_false c1];rfl) H (Same.refl H))⟩
end
end Ev
namespace Ev
open PySem L2
def kT(t:Str × Str):List Key:=[.inr t.1,.inr t.2]
def c0'(t:Str × Str):Prop:=bz' t.1=true/\bz' t.2=true/\t.1≠t.2
theorem bY_{x:Str}(h:bz' x=true):x.length<=8:=by
 unfold bz' at h;simp only[Bool.and_eq_true,decide_eq_true_eq] at h;exact h.1.2
theorem hpT{H:Hp}{p:Addr}{t:Str × Str}(h:H p=some (.tup ((kT t).map kV))):H p=some (.tup [.str t.1,.str t.2]):=h
section
variable{P:Program}{w:World}{K:F__}{mg:Str->Option Value}{base:Heap}
theorem scPair:a7' ["thing"] ["thing"] (a5' sPair):=f__
def spPair:Sp:=fun vs H Q _=>∃(p:Addr) (a b:Str),vs=[.ref p]/\H p=some (.tup [.str a,.str b])/\a.length<=100000/\b.length<=100000/\∀H',Same H H'->Q (.bl (bz' a&&bz' b&&!decide (a=b))) H'
theorem jE_{f:Addr}{fd:FuncData}(F:Fun K "is_pair_of_names" "is_pair_of_names" sPair f fd)(B:Bi mg)(cN:Cal P w K mg base 1 "is_name" ["thing"] c8'):FnOk P w K mg base CX0 2 f fd ["thing"] spPair:=by
 refine F.ok scPair (fun vs H Q E h=>?_) (fun cdv A outer s H vs Q E hr h=>?_)
 ·obtain⟨p,a,b,rfl,_⟩:=h;rfl
 ·obtain⟨p,a,b,rfl,hp,la,lb,k⟩:=h
  refine⟨_,a2_ (aC_ (e1_ (aI_ (aK_ (ad_ aP_ (by rfl) B.isi PyProof.Rows.Boot.«isinstance» (a0_ (pv 0) (a0_ (b5_ (v:=.ty "tuple") (by rfl) B.tuple PyProof.Rows.Boot.«tuple» rfl) a3_)))))
    (cd_ (ao_ fB_ (ad_ aD_ (by rfl) B.len PySem.boot_len (a0_ (pv 0) a3_)) a7_ (nomark _)))).pt (a5_ (ab_ dJ_)) ae_)
   (a5_ (ab_ (bu_ (ah_ cN hr (a0_ (aF_ aQ_ (pv 0) a7_ (fun _ _=>rfl)) a3_)) (bu_ (ah_ cN hr (a0_ (aF_ aQ_ (pv 0) a7_ (fun _ _=>rfl)) a3_))
    (bj_ (bd_ fB_ (aF_ aQ_ (pv 0) a7_ (fun _ _=>rfl)) (aF_ aQ_ (pv 0) a7_ (fun _ _=>rfl)) (nomark _))))))),?_⟩
  refine⟨_,rfl,_,_,_,_,rfl,.tup hp,rfl,_,rfl,iteF ?_⟩;refine⟨_,rfl,p,_,rfl,.inr (.of hp),rfl,_,rfl,?_⟩;refine iteNS (show V.int ((2:Nat):Int)=V.int 2 from rfl) ?_;refine⟨_,rfl,p,_,_,_,rfl,rfl,.of hp,rfl,a,rfl,la,fun H1 s1=>⟨_,rfl,?_⟩⟩;have hp1:=s1 _ _ hp;refine ite2 (fun c=>?_) (fun c=>?_)
  ·refine⟨_,rfl,p,_,_,_,rfl,rfl,.of hp1,rfl,b,rfl,lb,fun H2 s2=>⟨_,rfl,?_⟩⟩;have hp2:=s2 _ _ hp1;have kk:=k H2 (s1.trans s2);refine ite2 (fun c2=>?_) (fun c2=>?_)
   ·refine⟨_,rfl,p,_,_,_,rfl,rfl,.of hp2,rfl,_,rfl,p,_,_,_,rfl,rfl,.of hp2,rfl,rfl,?_⟩;rw[c,c2] at kk
    have e:decide (V.str a=V.str b)=decide (a=b):=by
     by_cases z:a=b
     ·simp[z]
     ·simp[z]
    show Q (.bl (!decide (V.str a=V.str b))) H2;rw[e];exact kk
   ·rw[c,show bz' b=false by simpa using c2] at kk;exact kk
  ·have kk:=k H1 s1;rw[show bz' a=false by simpa using c] at kk;exact kk
theorem b5':a7' ["ties","found","pair","tie"] ["ties"] (a5' cI'):=f__
def ch'(K:F__):Sp:=fun vs H Q _=>∃(l:Addr) (ys:List V) (ts:List (Str × Str)),vs=[.ref l]/\H l=some (.lst ys)/\a8' K H ys (ts.map kT)/\(∀t∈ts,c0' t)/\(ts.map fun t=>kT (ord2 t.1 t.2)).Nodup/\ts.length<64 /\
 ∀l' zs H',Same H H'->H l'=none->H' l'=some (.lst zs)->a8' K H' zs (sortKs (ts.map fun t=>kT (ord2 t.1 t.2)))->Q (.ref l') H'
theorem aN_{α β γ:Type}{F:α->γ->Prop}{g:β->γ}{ys:List α}{ts:List β}(t:Paired F ys (ts.map g)){i:Nat}{y:α}(h:ys[i]? = some y):∃x,ts[i]? = some x/\F y (g x):=by
 have hi:i<ys.length:=(ab'.mp h).1;have hl:=Paired.length t;rw[aa'] at hl;have:=aB_ t i hi (by rw[aa'];omega);rw[List.getElem_map] at this;refine⟨ts[i],ae' (by omega),?_⟩;rw[(ab'.mp h).2] at this;exact this
theorem aJ_{κ:Type}[DecidableEq κ]{kvs:List (κ × V)}{k:κ}(h:k∉kvs.map (·.1)):valV kvs k=none:=by
 cases e:valV kvs k with
 |none=>rfl
 |some v=>exact absurd (je_ e) h
theorem aW_{α β:Type}(g:α->β){ts:List α}{i:Nat}{x:α}(h:ts[i]? = some x):(ts.take (i+1)).map g=(ts.take i).map g++[g x]:=by
 rw[aB',h,am'];rfl
theorem bk_{α β:Type}{g:α->β}{ts:List α}{i:Nat}{x:α}(h:(ts.map g).Nodup)(hx:ts[i]? = some x):g x∉(ts.take i).map g:=by
 intro m;have hi:i<ts.length:=(ab'.mp hx).1;obtain⟨y,hy,e⟩:=ad'.mp m;obtain⟨j,hj,e2⟩:=aK' hy;rw[ak'] at hj;rw[List.getElem_take] at e2;rw[ay',aF',List.pairwise_iff_getElem] at h;refine h j i (by omega) hi (by omega) ?_;rw[e2,e,(ab'.mp hx).2]
theorem gq_{f:Addr}{fd:FuncData}(F:Fun K "sorted_ties" "sorted_ties" cI' f fd)(B:Bi mg)(cP:Cal P w K mg base 2 "is_pair_of_names" ["thing"] spPair)(cL:Cal P w K mg base 1 "lesser_first" ["one","other"] b2'):FnOk P w K mg base CX0 3 f fd ["ties"] (ch' K):=by
 refine F.ok b5' (fun vs H Q E h=>?_) (fun cdv A outer s H vs Q E hr h=>?_)
 ·obtain⟨l,ys,ts,rfl,_⟩:=h;rfl
 ·obtain⟨l,ys,ts,rfl,hl,tu,good,nd,h64,k⟩:=h;have hu:=b3_ hr;have hr1:Room 1 _:=hr.mono (by decide);have sz:=sizeLine_eq
  refine⟨_,a2_ (aC_ (aI_ (aK_ (ad_ aP_ (by rfl) B.isi PyProof.Rows.Boot.«isinstance» (a0_ (pv 0) (a0_ (b5_ (v:=.ty "list") (by rfl) B.list PyProof.Rows.Boot.«list» rfl) a3_))))) ag_ ae_)
   (a2_ (aa_ (i:=1) b5'.nd rfl (Or.inl rfl) eO_)
   (a2_ (aG_ PassesOwn.never rfl (an_ (pv 0)) (a8_ (i:=2) b5'.nd rfl (Or.inl rfl))
    (a2_ (aC_ (aI_ (aK_ (ah_ cP hr (a0_ (pv 2) a3_)))) ag_ ae_)
    (a2_ (aa_ (i:=3) b5'.nd rfl (Or.inl rfl) (ah_ cL hr1 (a0_ (aF_ aQ_ (pv 2) a7_ (fun _ _=>rfl)) (a0_ (aF_ aQ_ (pv 2) a7_ (fun _ _=>rfl)) a3_))))
    (a2_ (aC_ (ce_ (d2_ hu (pv 3) (pv 1))) ag_ ae_)
    (a5_ (bc_ hu (pv 1) (pv 3) dJ_ rfl))))))
   (a5_ (ab_ (ad_ (eI_ rfl) (by rfl) B.sorted PyProof.Rows.Boot.«sorted» (a0_ (pv 1) a3_)))))),?_⟩
  refine⟨_,rfl,_,_,_,_,rfl,.lst hl,rfl,_,rfl,iteF ?_⟩;intro d hd;have s0:Same H (upd H d (.dT [])):=Same.new hd;refine⟨_,rfl,l,rfl,⟨_,.of (s0 _ _ hl)⟩,aw_ (K:=K) (a:=l) (xs:=ys) (fun i σ H2=>∃(v3 v4:Option V),σ=[some (.ref l),some (.ref d),v3,v4]/\Same H H2/\H2 d=some (.dT ((ts.take i).map fun t=>(kT (ord2 t.1 t.2),V.bl true)))) ⟨none,none,rfl,s0,a1_⟩ (fun i σ H2 _ ⟨_,_,_,s2,_⟩=>.of (s2 _ _ hl)) ?_ ?_⟩
  ·rintro i y σ H2 hy ⟨v3,v4,rfl,s2,hd2⟩;obtain⟨t,ht,a,rfl,ha⟩:=aN_ tu hy;obtain⟨g1,g2,g3⟩:=good t (ac' ht);have ha2:=s2 _ _ (hpT ha);refine⟨_,rfl,a,t.1,t.2,rfl,ha2,by have:=bY_ g1;omega,by have:=bY_ g2;omega,fun H3 s3=>⟨_,rfl,?_⟩⟩;have ha3:=s3 _ _ ha2;have hd3:=s3 _ _ hd2;rw[g1,g2,decide_eq_false g3];refine iteF ?_;refine⟨_,rfl,a,_,_,_,rfl,rfl,.of ha3,rfl,_,rfl,a,_,_,_,rfl,rfl,.of ha3,rfl,t.1,t.2,rfl,fun b hb=>?_⟩;have s4:Same H3 (upd H3 b (.tup [.str (ord2 t.1 t.2).1,.str (ord2 t.1 t.2).2])):=Same.new hb;have hd4:=s4 _ _ hd3;have hb4:upd H3 b (.tup [.str (ord2 t.1 t.2).1,.str (ord2 t.1 t.2).2]) b=some (.tup ((kT (ord2 t.1 t.2)).map kV)):=a1_
   have nov:valV ((ts.take i).map fun t=>(kT (ord2 t.1 t.2),V.bl true)) (kT (ord2 t.1 t.2))=none:=aJ_ (by
    rw[al'];exact bk_ (g:=fun t=>kT (ord2 t.1 t.2)) nd ht)
   refine⟨_,rfl,_,rfl,d,_,rfl,.t (k:=kT (ord2 t.1 t.2)) hd4 hb4,_,rfl,?_⟩;rw[nov];refine iteF ?_;refine⟨_,rfl,_,rfl,d,_,rfl,.t (k:=kT (ord2 t.1 t.2)) hd4 hb4 (by rw[aa',ak'];omega),?_⟩;refine⟨_,_,rfl,fun c o e=>?_,?_⟩
   ·rw[a4_ (a6_ e hd)];exact s4 _ _ (s3 _ _ (s2 _ _ e))
   ·rw[a1_,bI_ _ nov,aW_ _ ht]
  ·rintro σ H2 ⟨v3,v4,rfl,s2,hd2⟩;have le:=Paired.length tu;rw[aa'] at le;rw[le,ap'] at hd2;refine⟨_,rfl,d,_,[true,true],rfl,hd2,⟨by decide,fun k hk=>?_⟩,by rw[aa'];exact h64,fun l' zs hn tz=>?_⟩
   ·rw[al'] at hk;obtain⟨t,_,rfl⟩:=ad'.mp hk;rfl
   ·rw[al'] at tz;exact k l' zs _ (s2.trans (Same.new hn)) (s2.free hn) a1_ (tz.same (Same.new hn))
theorem bv_{K:F__}{H:Hp}{ys:List V}{ks:List (List Key)}{a:Addr}{k:List Key}(t:a8' K H ys ks)(h:H a=some (.tup (k.map kV))):a8' K H (ys++[.ref a]) (ks++[k]):=Paired.snoc t ⟨a,rfl,h⟩
theorem am_{H H1:Hp}{D:Addr}{o:HO}(h:Same H H1)(hD:H D=none):Same H (upd H1 D o):=fun b u e=>by rw[a4_ (a6_ e hD)];exact h b u e
theorem aV_{K:F__}{H:Hp}{ys:List V}{ks:List (List Key)}{D:Addr}{o:HO}{xs:List V}(t:a8' K H ys ks)(hD:H D=some (.lst xs)):a8' K (upd H D o) ys ks:=Paired.mapP t fun y k ⟨a,z,q⟩=>⟨a,z,by rw[a4_ (az_ q hD nofun)];exact q⟩
end
end Ev
namespace Ev
open PySem L2
def kH(h:Str × Int):List Key:=[.inr h.1,.inl h.2]
def goodH(h:Str × Int):Prop:=bz' h.1=true/\1<=h.2/\h.2<=1000
def kvOf:List Key->Key × V
 |[k,v]=>(k,kV v)
 |_=>(.inl 0,.non)
def sortH(hs:List (Str × Int)):List (Key × V):=(sortKs (hs.map kH)).map kvOf
theorem hpH{H:Hp}{p:Addr}{t:Str × Int}(h:H p=some (.tup ((kH t).map kV))):H p=some (.tup [.str t.1,.int t.2]):=h
theorem cZ_:∀(more kvs:List (Key × V)),(kvs.map (·.1)++more.map (·.1)).Nodup->bw' kvs more=kvs++more
 |[],kvs,_=>by
  show kvs=kvs++[];rw[aA']
 |p::more,kvs,h=>by
  show bw' (putK kvs p.1 p.2) more=kvs++p::more
  have hn:valV kvs p.1=none:=aJ_ fun m=>by
   rw[ao',List.nodup_append] at h;exact h.2.2 p.1 m p.1 ah' rfl
  rw[bI_ _ hn,cZ_ more (kvs++[(p.1,p.2)])]
  ·simp
  ·simpa using h
theorem aO_{more:List (Key × V)}(h:(more.map (·.1)).Nodup):bw' [] more=more:=by
 rw[cZ_ more [] (by simpa using h)];rfl
theorem d3_(hs:List (Str × Int)):((sortH hs).map (·.1)).Perm (hs.map fun h=>Sum.inr h.1):=by
 unfold sortH;rw[al'];have p:=(as_ (hs.map kH)).map fun k=>(kvOf k).1;rw[al'] at p;exact p
theorem cS_{hs:List (Str × Int)}(h:(hs.map (·.1)).Nodup):((sortH hs).map (·.1)).Nodup:=by
 refine (d3_ hs).nodup_iff.mpr ?_;have:(hs.map fun h=>(Sum.inr h.1:Key))=(hs.map (·.1)).map Sum.inr:=by rw[al'];rfl
 rw[this,ay',aF'];exact h.imp fun n e=>n (Sum.inr.inj e)
theorem cb'{k:Nat}{A:Around}(hr:Room k A)(n:Nat)(h:n+1<=64:=by decide):A.units+n+1<cLine:=by
 have:=hr.units;omega
section
variable{P:Program}{w:World}{K:F__}{mg:Str->Option Value}{base:Heap}
theorem scHand:a7' ["thing"] ["thing"] (a5' sHand):=f__
def spHand:Sp:=fun vs H Q _=>∃(p:Addr) (a:Str) (n:Int),vs=[.ref p]/\H p=some (.tup [.str a,.int n])/\a.length<=100000/\∀H',Same H H'->Q (.bl (bz' a&&(decide (1<=n)&&decide (n<=1000)))) H'
theorem jJ_{f:Addr}{fd:FuncData}(F:Fun K "is_hand_with_strength" "is_hand_with_strength" sHand f fd)(B:Bi mg)(cN:Cal P w K mg base 1 "is_name" ["thing"] c8')(cW:Cal P w K mg base 2 "is_whole_within" ["thing","least","most"] cU'){tk:Tok}(mS:mg "MOST_STRENGTH"=some (.int 1000 tk)) :
  FnOk P w K mg base CX0 3 f fd ["thing"] spHand:=by
 refine F.ok scHand (fun vs H Q E h=>?_) (fun cdv A outer s H vs Q E hr h=>?_)
 ·obtain⟨p,a,b,rfl,_⟩:=h;rfl
 ·obtain⟨p,a,n,rfl,hp,la,k⟩:=h;have hr1:Room 1 _:=hr.mono (by decide)
  refine⟨_,a2_ (aC_ (e1_ (aI_ (aK_ (ad_ aP_ (by rfl) B.isi PyProof.Rows.Boot.«isinstance» (a0_ (pv 0) (a0_ (b5_ (v:=.ty "tuple") (by rfl) B.tuple PyProof.Rows.Boot.«tuple» rfl) a3_)))))
    (cd_ (ao_ fB_ (ad_ aD_ (by rfl) B.len PySem.boot_len (a0_ (pv 0) a3_)) a7_ (nomark _)))).pt (a5_ (ab_ dJ_)) ae_)
   (a5_ (ab_ (bu_ (ah_ cN hr1 (a0_ (aF_ aQ_ (pv 0) a7_ (fun _ _=>rfl)) a3_)) (bj_ (ah_ cW hr (a0_ (aF_ aQ_ (pv 0) a7_ (fun _ _=>rfl)) (a0_ a7_ (a0_ (bM_ (v:=.int 1000) (by rfl) mS ⟨tk,rfl⟩) a3_)))))))),?_⟩
  refine⟨_,rfl,_,_,_,_,rfl,.tup hp,rfl,_,rfl,iteF ?_⟩;refine⟨_,rfl,p,_,rfl,.inr (.of hp),rfl,_,rfl,?_⟩;refine iteNS (show V.int ((2:Nat):Int)=V.int 2 from rfl) ?_;refine⟨_,rfl,p,_,_,_,rfl,rfl,.of hp,rfl,a,rfl,la,fun H1 s1=>⟨_,rfl,?_⟩⟩;have hp1:=s1 _ _ hp;have kk:=k H1 s1;refine ite2 (fun c=>?_) (fun c=>?_)
  ·refine⟨_,rfl,p,_,_,_,rfl,rfl,.of hp1,rfl,n,1,1000,rfl,?_⟩;rw[c] at kk;exact kk
  ·rw[show bz' a=false by simpa using c] at kk;exact kk
theorem scStr:a7' ["hands","found","hand"] ["hands"] (a5' sStr):=f__
def spStr(K:F__):Sp:=fun vs H Q _=>∃(l:Addr) (ys:List V) (hs:List (Str × Int)),vs=[.ref l]/\H l=some (.lst ys)/\a8' K H ys (hs.map kH)/\(∀h∈hs,goodH h)/\(hs.map (·.1)).Nodup/\1<=hs.length/\hs.length<=8 /\
 ∀d H',Same H H'->H d=none->H' d=some (.dK (sortH hs))->Q (.ref d) H'
theorem jV_{f:Addr}{fd:FuncData}(F:Fun K "checked_strengths" "checked_strengths" sStr f fd)(B:Bi mg)(cH:Cal P w K mg base 3 "is_hand_with_strength" ["thing"] spHand){tk:Tok}(mH:mg "MOST_HANDS"=some (.int 8 tk)):FnOk P w K mg base CX0 4 f fd ["hands"] (spStr K):=by
 refine F.ok scStr (fun vs H Q E h=>?_) (fun cdv A outer s H vs Q E hr h=>?_)
 ·obtain⟨l,ys,hs,rfl,_⟩:=h;rfl
 ·obtain⟨l,ys,hs,rfl,hl,tu,good,nd,h1,h8,k⟩:=h;have hu:=b3_ hr;have sz:=sizeLine_eq;have le:=Paired.length tu;rw[aa'] at le
  refine⟨_,a2_ (aC_ (e1_ (aI_ (aK_ (ad_ aP_ (by rfl) B.isi PyProof.Rows.Boot.«isinstance» (a0_ (pv 0) (a0_ (b5_ (v:=.ty "list") (by rfl) B.list PyProof.Rows.Boot.«list» rfl) a3_)))))
    (cd_ (aI_ (fi_ da_ da_ a7_ (ad_ aD_ (by rfl) B.len PySem.boot_len (a0_ (pv 0) a3_)) (bM_ (v:=.int 8) (by rfl) mH ⟨tk,rfl⟩))))).pt ag_ ae_)
   (a2_ (aa_ (i:=1) scStr.nd rfl (Or.inl rfl) bl_)
   (a2_ (aG_ PassesOwn.never rfl (an_ (pv 0)) (a8_ (i:=2) scStr.nd rfl (Or.inl rfl))
    (a2_ (aC_ (aI_ (aK_ (ah_ cH hr (a0_ (pv 2) a3_)))) ag_ ae_)
    (a2_ (aC_ (ce_ (d2_ hu (aF_ aQ_ (pv 2) a7_ (fun _ _=>rfl)) (pv 1))) ag_ ae_)
    (a5_ (bc_ hu (pv 1) (aF_ aQ_ (pv 2) a7_ (fun _ _=>rfl)) (aF_ aQ_ (pv 2) a7_ (fun _ _=>rfl)) rfl)))))
   (a5_ (ab_ (aq_ (aE_ rfl) (by rfl) B.dict PyProof.Rows.Boot.«dict» (a0_ (ad_ (fQ_ rfl) (by rfl) B.sorted PyProof.Rows.Boot.«sorted» (a0_ (cq_ (pv 1)) a3_)) a3_)))))),?_⟩
  refine⟨_,rfl,_,_,_,_,rfl,.lst hl,rfl,_,rfl,iteF ?_⟩;refine⟨_,rfl,l,_,rfl,.inl (.of hl),_,_,rfl,rfl,_,rfl,?_⟩;rw[decide_eq_true (show (1:Int)<=(ys.length:Int) by omega)];refine iteT ⟨_,_,rfl,rfl,_,rfl,?_⟩;rw[decide_eq_true (show (ys.length:Int)<=8 by omega)];refine iteF ?_;intro d hd;have s0:Same H (upd H d (.dK [])):=Same.new hd;refine⟨_,rfl,l,rfl,⟨_,.of (s0 _ _ hl)⟩,aw_ (K:=K) (a:=l) (xs:=ys) (fun i σ H2=>∃(v2:Option V),σ=[some (.ref l),some (.ref d),v2]/\Same H H2/\H2 d=some (.dK ((hs.take i).map fun h=>(Sum.inr h.1,V.int h.2)))) ⟨none,rfl,s0,a1_⟩ (fun i σ H2 _ ⟨_,_,s2,_⟩=>.of (s2 _ _ hl)) ?_ ?_⟩
  ·rintro i y σ H2 hy ⟨v2,rfl,s2,hd2⟩;obtain⟨t,ht,a,rfl,ha⟩:=aN_ tu hy;obtain⟨g1,g2,g3⟩:=good t (ac' ht);have ha2:=s2 _ _ (hpH ha);refine⟨_,rfl,a,t.1,t.2,rfl,ha2,by have:=bY_ g1;omega,fun H3 s3=>⟨_,rfl,?_⟩⟩;have ha3:=s3 _ _ ha2;have hd3:=s3 _ _ hd2;rw[g1,decide_eq_true g2,decide_eq_true g3];refine iteF ?_
   have nov:valV ((hs.take i).map fun h=>((Sum.inr h.1:Key),V.int h.2)) (Sum.inr t.1)=none:=aJ_ (by
    rw[al'];have q:=bk_ (g:=fun h:Str × Int=>h.1) nd ht;intro m;obtain⟨h,hh,e⟩:=ad'.mp m;exact q (ad'.mpr ⟨h,hh,Sum.inr.inj e⟩))
   refine⟨_,rfl,a,_,_,_,rfl,rfl,.of ha3,rfl,_,rfl,d,_,rfl,.k (k:=Sum.inr t.1) hd3,_,rfl,?_⟩;rw[nov];refine iteF ?_;refine⟨_,rfl,a,_,_,_,rfl,rfl,.of ha3,rfl,_,rfl,_,rfl,a,_,_,_,rfl,rfl,.of ha3,rfl,d,_,rfl,.k (k:=Sum.inr t.1) hd3 (by rw[aa',ak'];omega),?_⟩;refine⟨_,rfl,fun c o e=>?_,?_⟩
   ·rw[a4_ (a6_ e hd)];exact s3 _ _ (s2 _ _ e)
   ·rw[a1_,bI_ _ nov,aW_ _ ht]
  ·rintro σ H2 ⟨v2,rfl,s2,hd2⟩;rw[le,ap'] at hd2;refine⟨_,rfl,d,_,rfl,hd2,fun v hv=>?_⟩;have s3:Same H2 (upd H2 v (br' v d)):=Same.new hv;refine⟨v,d,_,hs.map fun h=>(Sum.inr h.1,Sum.inl h.2),[true,false],rfl,a1_,s3 _ _ hd2,by rw[al'];rfl,⟨by decide,fun q hq=>?_⟩,by rw[aa'];omega,fun l' H4 zs s4 hn tz=>?_⟩
   ·rw[al'] at hq;obtain⟨h,_,rfl⟩:=ad'.mp hq;rfl
   ·have ez:((hs.map fun h=>((Sum.inr h.1:Key),(Sum.inl h.2:Key))).map fun k=>[k.1,k.2])=hs.map kH:=by rw[al'];rfl
    rw[ez] at tz
    have pz:bd' K (upd H4 l' (.lst zs)) zs (sortH hs):=by
     have shape:∀k∈sortKs (hs.map kH),∃a b,k=[a,b]:=fun k hk=>by
      obtain⟨h,_,e⟩:=ad'.mp ((as_ _).mem_iff.mp hk);exact⟨_,_,e.symm⟩
     have gen:∀(ks:List (List Key)) (zs:List V),(∀k∈ks,∃a b,k=[a,b])->a8' K (upd H4 l' (.lst zs)) zs ks->bd' K (upd H4 l' (.lst zs)) zs (ks.map kvOf):=fun ks=>by
      intro zs;generalize upd H4 l' (.lst zs)=HH;intro sh t
      induction t with
      |nil=>exact .nil
      |cons h t ih=>
       obtain⟨a,b,rfl⟩:=sh _ ah';exact .cons h (ih fun k hk=>sh k (af' _ hk))
     exact gen _ _ shape (tz.same (Same.new hn))
    refine⟨l',zs,_,rfl,a1_,pz,?_,fun d' hd'=>?_⟩
    ·have:=(d3_ hs).length_eq;simp only[aa'] at this;omega
    ·rw[aO_ (cS_ nd)];have sAll:Same H (upd H4 l' (.lst zs)):=(s2.trans (s3.trans s4)).trans (Same.new hn);exact k d' _ (sAll.trans (Same.new hd')) (sAll.free hd') a1_
theorem c5':a7' ["ties","strengths","found","one","other"] ["ties","strengths"] (a5' sTies):=f__
def spTies(K:F__):Sp:=fun vs H Q _=>∃(l d:Addr) (ys:List V) (ts:List (Str × Str)) (kvs:List (Key × V)),vs=[.ref l,.ref d]/\H l=some (.lst ys)/\a8' K H ys (ts.map kT)/\(∀t∈ts,c0' t)/\(ts.map fun t=>kT (ord2 t.1 t.2)).Nodup/\ts.length<64 /\
 H d=some (.dK kvs)/\(∀t∈ts,(valV kvs (Sum.inr t.1)).isSome=true/\(valV kvs (Sum.inr t.2)).isSome=true) /\
 ∀l' zs H',Same H H'->H l'=none->H' l'=some (.lst zs)->a8' K H' zs (sortKs (ts.map fun t=>kT (ord2 t.1 t.2)))->Q (.ref l') H'
theorem df_(a b:Str):ord2 a b=(a,b)∨ord2 a b=(b,a):=by
 unfold ord2;split
 ·exact .inl rfl
 ·exact .inr rfl
theorem jc_{f:Addr}{fd:FuncData}(F:Fun K "checked_ties" "checked_ties" sTies f fd)(B:Bi mg)(cS:Cal P w K mg base 3 "sorted_ties" ["ties"] (ch' K)):FnOk P w K mg base CX0 4 f fd ["ties","strengths"] (spTies K):=by
 refine F.ok c5' (fun vs H Q E h=>?_) (fun cdv A outer s H vs Q E hr h=>?_)
 ·obtain⟨l,d,ys,ts,kvs,rfl,_⟩:=h;rfl
 ·obtain⟨l,d,ys,ts,kvs,rfl,hl,tu,good,nd,h64,hd,there,k⟩:=h;have hu:=b3_ hr
  refine⟨_,a2_ (aa_ (i:=2) c5'.nd rfl (Or.inl rfl) (ah_ cS hr (a0_ (pv 0) a3_)))
   (a2_ (aC_ (ce_ (fh_ (pv 2))) ag_ ae_)
   (a2_ (aG_ PassesOwn.never rfl (an_ (pv 2)) (bf_ rfl (af_ (a8_ (i:=3) c5'.nd rfl (Or.inl rfl)) (af_ (a8_ (i:=4) c5'.nd rfl (Or.inl rfl)) aY_)))
    (a5_ (aC_ (e1_ (ce_ (dO_ hu (pv 3) (pv 1))) (cd_ (ce_ (dO_ hu (pv 4) (pv 1))))).pt ag_ ae_)))
   (a5_ (ab_ (pv 2))))),?_⟩
  refine⟨_,rfl,l,ys,ts,rfl,hl,tu,good,nd,h64,fun l' zs H1 s1 hf hl1 tz=>?_⟩;refine⟨_,rfl,_,rfl,iteF ?_⟩;refine⟨_,rfl,l',rfl,⟨_,.of hl1⟩,aw_ (K:=K) (a:=l') (xs:=zs) (fun i σ H2=>∃(v3 v4:Option V),σ=[some (.ref l),some (.ref d),some (.ref l'),v3,v4]/\H2=H1) ⟨none,none,rfl,rfl⟩ (fun i σ H2 _ ⟨_,_,_,e⟩=>by subst e;exact .of hl1) ?_ ?_⟩
  ·rintro i y σ H2 hy ⟨v3,v4,rfl,rfl⟩;have ez:=Paired.length tz;have hi:i<zs.length:=(ab'.mp hy).1;obtain⟨a,e,ha⟩:=aB_ tz i hi (by omega);rw[(ab'.mp hy).2] at e;subst e;obtain⟨t,ht,e⟩:=ad'.mp ((as_ _).mem_iff.mp (List.getElem_mem (show i<(sortKs (ts.map fun t=>kT (ord2 t.1 t.2))).length by omega)));rw[<- e] at ha;obtain⟨t1,t2⟩:=there t ht
   have both:(valV kvs (Sum.inr (ord2 t.1 t.2).1)).isSome=true/\(valV kvs (Sum.inr (ord2 t.1 t.2).2)).isSome=true:=by
    rcases df_ t.1 t.2 with q|q
    ·rw[q];exact⟨t1,t2⟩
    ·rw[q];exact⟨t2,t1⟩
   have hd1:=s1 _ _ hd;refine⟨a,_,rfl,.of (hpT ha),rfl,_,_,rfl,_,_,rfl,rfl,?_⟩;refine⟨_,rfl,_,rfl,d,_,rfl,.k (k:=Sum.inr (ord2 t.1 t.2).1) hd1,_,rfl,?_⟩;rw[both.1];refine iteF ?_;refine⟨_,rfl,_,rfl,d,_,rfl,.k (k:=Sum.inr (ord2 t.1 t.2).2) hd1,_,rfl,?_⟩;rw[both.2];refine iteF ?_;exact⟨_,_,rfl,rfl⟩
  ·rintro σ H2 ⟨v3,v4,rfl,rfl⟩;exact⟨_,rfl,k l' zs _ s1 hf hl1 tz⟩
def near(ns:List Str)(ts:List (Str × Str))(n:Str):List Str:=ns.filter fun o=>decide (ord2 n o∈ts)
theorem scNear:a7' ["names","ties","found","hand"] ["names","ties"] (a5' sNear):=f__
def bn'(ns:List Str)(as:List Addr):List (Key × V):=(ns.zip as).map fun p=>(Sum.inr p.1,V.ref p.2)
def spNear(K:F__):Sp:=fun vs H Q _=>∃(l1 l2:Addr) (ns:List Str) (zs:List V) (ts:List (Str × Str)),vs=[.ref l1,.ref l2]/\H l1=some (.lst (ns.map V.str))/\H l2=some (.lst zs)/\a8' K H zs (ts.map kT)/\ns.Nodup/\ns.length<=1000/\l1≠l2 /\
 ∀d as H',Same H H'->H d=none->as.length=ns.length->H' d=some (.dK (bn' ns as))->(∀(i:Nat) n a,ns[i]? = some n->as[i]? = some a->H a=none/\H' a=some (.lst ((near ns ts n).map V.str)))->Q (.ref d) H'
theorem cw_{K:F__}{H:Hp}:∀{ts:List (Str × Str)} {zs:List V},a8' K H zs (ts.map kT)->Paired (r2 K rS rS H) zs ts
 |[],_,.nil=>.nil
 |t::ts,_,.cons ⟨a,e,h⟩ r=>.cons ⟨a,_,_,e,.of (hpT h),rfl,rfl⟩ (cw_ r)
theorem ai_{ns:List Str}{i:Nat}{x:V}(h:(ns.map V.str)[i]? = some x):∃n,ns[i]? = some n/\x=.str n:=by
 rw[an'] at h;cases e:ns[i]? with
 |none=>rw[e] at h;cases h
 |some n=>rw[e] at h;exact⟨n,rfl,(Option.some.inj h).symm⟩
theorem cA_{α:Type}(p:α->Bool){l:List α}{i:Nat}{x:α}(h:l[i]? = some x):(l.take (i+1)).filter p=(l.take i).filter p++(if p x then [x] else []):=PySem.take_succ_filter p l i x h
theorem jO_{f:Addr}{fd:FuncData}(F:Fun K "neighbours_of_all" "neighbours_of_all" sNear f fd)(cL:Cal P w K mg base 1 "lesser_first" ["one","other"] b2'):FnOk P w K mg base CX0 2 f fd ["names","ties"] (spNear K):=by
 refine F.ok scNear (fun vs H Q E h=>?_) (fun cdv A outer s H vs Q E hr h=>?_)
 ·obtain⟨l1,l2,ns,zs,ts,rfl,_⟩:=h;rfl
 ·obtain⟨l1,l2,ns,zs,ts,rfl,hl1,hl2,tz,nd,h8,hne,k⟩:=h;have hu:=b3_ hr;have hu3:=hr.units;have sz:=sizeLine_eq
  refine⟨_,a2_ (aa_ (i:=2) scNear.nd rfl (Or.inl rfl) bl_)
   (a2_ (aG_ PassesOwn.never rfl (an_ (pv 0)) (a8_ (i:=3) scNear.nd rfl (Or.inr rfl))
    (a5_ (bc_ hu (pv 2) (pv 3) (aS_ ["other","hand","ties"] 1 [3,1] (an_ (pv 0)) (fun fp s H=>a8_ (i:=0) (show (["other","hand","ties"]:List Str).Nodup by decide +kernel) rfl (Or.inl rfl))
     (fun fp s H=>eF_ (ao_ (opK (K:=K) (fun K=>rInD K (r2 K rS rS) false) (dB_ (cmp2 cmpS cmpS) (cb' hr _))) (ah_ cL hr (a0_ (pv 1) (a0_ (pv 0) a3_))) (pv 2) (by with_unfolding_all rfl))) (fun fp s H=>pv 0)) rfl)))
   (a5_ (ab_ (pv 2)))),?_⟩
  intro d hd;have s0:Same H (upd H d (.dK [])):=Same.new hd
  refine⟨_,rfl,l1,rfl,⟨_,.of (s0 _ _ hl1)⟩,aw_ (K:=K) (a:=l1) (xs:=ns.map V.str) (fun i σ H2=>∃(v3:Option V) (as:List Addr),σ=[some (.ref l1),some (.ref l2),some (.ref d),v3]/\Same H H2/\as.length=i/\H2 d=some (.dK (bn' (ns.take i) as)) /\
   ∀(j:Nat) n a,ns[j]? = some n->as[j]? = some a->H a=none/\a≠d/\H2 a=some (.lst ((near ns ts n).map V.str))) ⟨none,[],rfl,s0,rfl,a1_,fun j n a _ e=>by simp at e⟩ (fun i σ H2 _ ⟨_,_,_,s2,_⟩=>.of (s2 _ _ hl1)) ?_ ?_⟩
  ·rintro i y σ H2 hy ⟨v3,as,rfl,s2,la,hd2,lists⟩;obtain⟨n,hn,rfl⟩:=ai_ hy;have hi:i<ns.length:=(ab'.mp hn).1
   have lk:(bn' (ns.take i) as).length=i:=by
    unfold bn';rw[aa',List.length_zip,ak'];omega
   refine⟨_,rfl,l1,rfl,⟨_,.of (s2 _ _ hl1)⟩,fun D hD=>?_⟩;refine aZ_ (own:=1) (fv:=[some (.str n),some (.ref l2)]) (xs:=ns.map V.str) rfl gok1 (fun j out H'=>Same H2 H'/\H' D=some (.lst out)/\out=((ns.take j).filter fun o=>decide (ord2 n o∈ts)).map V.str) ⟨Same.new hD,a1_,rfl⟩ (fun j out H' _ ⟨sm,_,_⟩=>.of (sm _ _ (s2 _ _ hl1))) (fun out H' ⟨sm,hD',eo⟩=>?_) (fun j x out H' hx ⟨sm,hD',eo⟩=>?_)
   ·rw[aa',ap'] at eo
    have nov:valV (bn' (ns.take i) as) (Sum.inr n)=none:=aJ_ fun m=>by
     unfold bn' at m;rw[al'] at m;obtain⟨p,hp,e⟩:=ad'.mp m;have e:p.1=n:=Sum.inr.inj e;have q:=bk_ (g:=id) (by rw[List.map_id];exact nd) hn;rw[List.map_id] at q;exact q (e▸(List.of_mem_zip hp).1)
    have neD:D≠d:=fun z=>by subst z;rw[hD] at hd2;cases hd2
    refine⟨_,rfl,_,rfl,d,_,rfl,.k (k:=Sum.inr n) (sm _ _ hd2) (by omega),?_⟩;refine⟨_,as++[D],rfl,fun c o e=>?_,by rw[aq',la];rfl,?_,fun j n' a hn' ha=>?_⟩
    ·rw[a4_ (a6_ e hd)];exact sm _ _ (s2 _ _ e)
    ·rw[a1_,bI_ _ nov];congr 2;unfold bn';rw[aB',hn,List.zip_append (by rw[ak'];omega),am'];rfl
    ·by_cases hj:j<as.length
     ·rw[aS' hj] at ha;obtain⟨q1,q2,q3⟩:=lists j n' a hn' ha;refine⟨q1,q2,?_⟩;rw[a4_ q2];exact sm _ _ q3
     ·have hj2:j=i:=by
       have:=(ab'.mp ha).1;rw[aq'] at this;simp only[List.length_singleton] at this;omega
      subst hj2;rw[aQ' (by omega),la,Nat.sub_self] at ha;have ha:D=a:=by simpa using ha
      subst ha;rw[hn] at hn';cases hn';refine⟨s2.free hD,neD,?_⟩;rw[a4_ neD,hD',eo];rfl
   ·obtain⟨o,ho,rfl⟩:=ai_ hx;refine⟨_,rfl,rfl,fun Nx hN=>?_⟩;refine⟨_,rfl,_,rfl,n,o,rfl,fun t ht=>?_⟩;have s3:Same H' (upd H' t (.tup [.str (ord2 n o).1,.str (ord2 n o).2])):=Same.new ht;have tz':=((tz.same s2).same sm).same s3
    have lo:out.length<sizeLine:=by
     rw[eo,aa'];have:=aO' (fun o=>decide (ord2 n o∈ts)) (ns.take j);rw[ak'] at this;omega
    refine⟨_,rfl,ord2 n o,ts,⟨t,_,_,rfl,.of a1_,rfl,rfl⟩,⟨l2,zs,rfl,.of (s3 _ _ (sm _ _ (s2 _ _ hl2))),cw_ tz'⟩,_,rfl,?_⟩;refine ite2 (fun c=>?_) (fun c=>?_)
    ·refine⟨_,rfl,out,s3 _ _ hD',lo,hN _ _ ⟨am_ (sm.trans s3) hD,a1_,?_⟩⟩;have c:decide (ord2 n o∈ts)=true:=by simpa using c
     rw[cA_ _ ho,if_pos c,am',eo];rfl
    ·refine hN _ _ ⟨sm.trans s3,s3 _ _ hD',?_⟩;have c:¬decide (ord2 n o∈ts)=true:=by simpa using c
     rw[cA_ _ ho,if_neg c,aA',eo]
  ·rintro σ H2 ⟨v3,as,rfl,s2,la,hd2,lists⟩;rw[aa'] at la hd2;rw[ap'] at hd2;exact⟨_,rfl,k d as _ s2 hd la hd2 fun j n a h1 h2=>⟨(lists j n a h1 h2).1,(lists j n a h1 h2).2.2⟩⟩
end
end Ev
namespace Ev
open PySem L2
abbrev sInit:Stmt:=bj' sWeb 0
abbrev sHas:Stmt:=bj' sWeb 1
abbrev sHands:Stmt:=bj' sWeb 2
abbrev ca':Stmt:=bj' sWeb 3
abbrev sNeigh:Stmt:=bj' sWeb 4
abbrev sTied:Stmt:=bj' sWeb 5
abbrev sMost:Stmt:=bj' sWeb 7
def fstK:List Key->Str
 |.inr a::_=>a
 |_=>⟨#[]⟩
def twoK:List Key->Str × Str
 |[.inr a,.inr b]=>(a,b)
 |_=>(⟨#[]⟩,⟨#[]⟩)
def a6'(hs:List (Str × Int)):List Str:=(sortKs (hs.map kH)).map fstK
def tsOf(ts:List (Str × Str)):List (Str × Str):=(sortKs (ts.map fun t=>kT (ord2 t.1 t.2))).map twoK
theorem cx_(ts:List (Str × Str)):(tsOf ts).map kT=sortKs (ts.map fun t=>kT (ord2 t.1 t.2)):=by
 unfold tsOf;rw[al']
 have all:∀k∈sortKs (ts.map fun t=>kT (ord2 t.1 t.2)),∃t:Str × Str,k=kT t:=fun k hk=>by
  obtain⟨t,_,e⟩:=ad'.mp ((as_ _).mem_iff.mp hk);exact⟨_,e.symm⟩
 generalize sortKs (ts.map fun t=>kT (ord2 t.1 t.2))=l at all
 induction l with
 |nil=>rfl
 |cons k l ih=>
  obtain⟨t,rfl⟩:=all k ah';rw[ao',ih fun k hk=>all k (af' _ hk)];rfl
theorem by_(hs:List (Str × Int)):∀k∈sortKs (hs.map kH),∃h:Str × Int,h∈hs/\k=kH h:=fun k hk=>by
 obtain⟨t,ht,e⟩:=ad'.mp ((as_ _).mem_iff.mp hk);exact⟨t,ht,e.symm⟩
theorem fs_(hs:List (Str × Int)):((sortH hs).map fun kv=>kV kv.1)=(a6' hs).map V.str:=by
 unfold sortH a6';rw[al',al'];refine az' fun k hk=>?_;obtain⟨h,_,rfl⟩:=by_ hs k hk;rfl
theorem eS_(hs:List (Str × Int)):(sortH hs).map (·.1)=(a6' hs).map Sum.inr:=by
 unfold sortH a6';rw[al',al'];refine az' fun k hk=>?_;obtain⟨h,_,rfl⟩:=by_ hs k hk;rfl
theorem al_(hs:List (Str × Int)):(a6' hs).Perm (hs.map (·.1)):=by
 unfold a6';have p:=(as_ (hs.map kH)).map fstK;rw[al'] at p;exact p
theorem e2_{κ:Type}[DecidableEq κ]{kvs:List (κ × V)}{k:κ}(h:k∈kvs.map (·.1)):(valV kvs k).isSome=true:=by
 rw[<- bn_];obtain⟨p,hp,e⟩:=ad'.mp h;exact List.any_eq_true.mpr ⟨p,hp,decide_eq_true e⟩
theorem dt_{hs:List (Str × Int)}{n:Str}:(valV (sortH hs) (Sum.inr n)).isSome=decide (n∈hs.map (·.1)):=by
 by_cases h:n∈hs.map (·.1)
 ·rw[decide_eq_true h];refine e2_ ?_;rw[eS_];exact ad'.mpr ⟨n,(al_ hs).mem_iff.mpr h,rfl⟩
 ·rw[decide_eq_false h,aJ_]
  ·rfl
  ·rw[eS_];intro m;obtain⟨x,hx,e⟩:=ad'.mp m;cases e;exact h ((al_ hs).mem_iff.mp hx)
theorem n12:¬(("strength_by_hand":Str)="sorted_pairs"):=by decide +kernel
theorem n13:¬(("strength_by_hand":Str)="neighbours_by_hand"):=by decide +kernel
def flds(d1 l2 d3:Addr):List (Str × V):=putF "neighbours_by_hand" (.ref d3) (putF "sorted_pairs" (.ref l2) (putF "strength_by_hand" (.ref d1) []))
theorem fa_(d1 l2 d3:Addr):(flds d1 l2 d3).lookup ("strength_by_hand":Str)=some (.ref d1):=by
 unfold flds;rw[a9_,if_neg n13,a9_,if_neg n12,a9_,if_pos rfl]
theorem h5_(d1 l2 d3:Addr):(flds d1 l2 d3).lookup ("neighbours_by_hand":Str)=some (.ref d3):=by
 unfold flds;rw[a9_,if_pos rfl]
theorem aT_(d1 l2 d3:Addr){m:Str}(h1:¬m="strength_by_hand")(h2:¬m="sorted_pairs")(h3:¬m="neighbours_by_hand"):(flds d1 l2 d3).lookup m=none:=by
 unfold flds;rw[a9_,if_neg h3,a9_,if_neg h2,a9_,if_neg h1]
 all_goals rfl
structure bs' (K:F__) (C:Addr) (H:Hp) (p:Addr) (hs:List (Str × Int)) (ts:List (Str × Str)) (fp:List Addr):Prop where
 ex:∃(dx d1 l2 d3:Addr) (zs:List V) (as:List Addr),fp=p::d1::l2::d3::as/\H p=some (.ins C dx (flds d1 l2 d3))/\H d1=some (.dK (sortH hs))/\H l2=some (.lst zs)/\a8' K H zs ((tsOf ts).map kT)/\H d3=some (.dK (bn' (a6' hs) as))/\as.length=(a6' hs).length /\
  ∀(i:Nat) n a,(a6' hs)[i]? = some n->as[i]? = some a->H a=some (.lst ((near (a6' hs) (tsOf ts) n).map V.str))
theorem bs'.keep{K:F__}{C:Addr}{H H':Hp}{p:Addr}{hs:List (Str × Int)}{ts:List (Str × Str)}{fp:List Addr}(W:bs' K C H p hs ts fp)(k:∀b∈fp,∀o,H b=some o->H' b=some o)(kt:∀b xs,H b=some (.tup xs)->H' b=some (.tup xs)):bs' K C H' p hs ts fp:=by
 obtain⟨dx,d1,l2,d3,zs,as,rfl,h1,h2,h3,h4,h5,h6,h7⟩:=W.ex;refine⟨dx,d1,l2,d3,zs,as,rfl,k _ (by simp) _ h1,k _ (by simp) _ h2,k _ (by simp) _ h3,Paired.mapP h4 fun y q ⟨a,e,z⟩=>⟨a,e,kt _ _ z⟩,k _ (by simp) _ h5,h6,fun i n a e1 e2=>k _ ?_ _ (h7 i n a e1 e2)⟩;have:=ac' e2;simp[this]
theorem bs'.same{K:F__}{C:Addr}{H H':Hp}{p:Addr}{hs:List (Str × Int)}{ts:List (Str × Str)}{fp:List Addr}(W:bs' K C H p hs ts fp)(s:Same H H'):bs' K C H' p hs ts fp:=W.keep (fun b _ o e=>s b o e) fun b xs e=>s b _ e
structure Good (hs:List (Str × Int)) (ts:List (Str × Str)):Prop where
 hok:∀h∈hs,goodH h
 hnd:(hs.map (·.1)).Nodup
 h1:1<=hs.length
 h8:hs.length<=8
 tok:∀t∈ts,c0' t
 tnd:(ts.map fun t=>kT (ord2 t.1 t.2)).Nodup
 t64:ts.length<64
 tin:∀t∈ts,t.1∈hs.map (·.1)/\t.2∈hs.map (·.1)
theorem Good.nnd{hs:List (Str × Int)}{ts:List (Str × Str)}(G:Good hs ts):(a6' hs).Nodup:=(al_ hs).nodup_iff.mpr G.hnd
theorem Good.nlen{hs:List (Str × Int)}{ts:List (Str × Str)}(G:Good hs ts):(a6' hs).length=hs.length:=by
 rw[(al_ hs).length_eq,aa']
structure Txt (K:F__) (mg:Str->Option Value) (C:Addr):Prop where
 cl:Cls K C
 nS:bt' K C "strength_by_hand"
 nP:bt' K C "sorted_pairs"
 nN:bt' K C "neighbours_by_hand"
section
variable{P:Program}{w:World}{K:F__}{mg:Str->Option Value}{base:Heap}
theorem scInit:a7' ["self","hands","ties","strengths","checked"] ["self","hands","ties"] (a5' sInit):=f__
def spInit(K:F__)(C:Addr):Sp:=fun vs H Q _=>∃(p dx lh lt:Addr) (ys zs:List V) (hs:List (Str × Int)) (ts:List (Str × Str)),vs=[.ref p,.ref lh,.ref lt]/\H p=some (.ins C dx [])/\H lh=some (.lst ys)/\a8' K H ys (hs.map kH)/\H lt=some (.lst zs)/\a8' K H zs (ts.map kT)/\Good hs ts /\
 ∀fp H',(∀b o,H b=some o->b≠p->H' b=some o)->bs' K C H' p hs ts fp->(∀b∈fp,b=p∨H b=none)->Q .non H'
theorem jt_{f C:Addr}{fd:FuncData}(F:Fun K "__init__" "Web.__init__" sInit f fd)(T:Txt K mg C)(B:Bi mg)(cS:Cal P w K mg base 4 "checked_strengths" ["hands"] (spStr K))(cT:Cal P w K mg base 4 "checked_ties" ["ties","strengths"] (spTies K))(cN:Cal P w K mg base 2 "neighbours_of_all" ["names","ties"] (spNear K)) :
  FnOk P w K mg base CX0 5 f fd ["self","hands","ties"] (spInit K C):=by
 refine F.ok scInit (fun vs H Q E h=>?_) (fun cdv A outer s H vs Q E hr h=>?_)
 ·obtain⟨p,dx,lh,lt,ys,zs,hs,ts,rfl,_⟩:=h;rfl
 ·obtain⟨p,dx,lh,lt,ys,zs,hs,ts,rfl,hp,hlh,th,hlt,tt,G,k⟩:=h;have hr3:Room 3 _:=hr.mono (by decide);have hr2:Room 2 _:=hr.mono (by decide)
  refine⟨_,a2_ (aa_ (i:=3) scInit.nd rfl (Or.inl rfl) (ah_ cS hr (a0_ (pv 1) a3_)))
   (a2_ (aa_ (i:=4) scInit.nd rfl (Or.inl rfl) (ah_ cT hr (a0_ (pv 2) (a0_ (pv 3) a3_))))
   (a2_ (bJ_ (pv 0) (pv 3) rfl) (a2_ (bJ_ (pv 0) (pv 4) rfl)
   (a5_ (bJ_ (pv 0) (ah_ cN hr2 (a0_ (aq_ (c6_ rfl) (by rfl) B.list PyProof.Rows.Boot.«list» (a0_ (pv 3) a3_)) (a0_ (pv 4) a3_))) rfl))))),?_⟩
  refine⟨_,rfl,lh,ys,hs,rfl,hlh,th,G.hok,G.hnd,G.h1,G.h8,fun d1 H1 s1 f1 hd1=>?_⟩;refine⟨_,rfl,_,rfl,lt,d1,zs,ts,_,rfl,s1 _ _ hlt,tt.same s1,G.tok,G.tnd,G.t64,hd1,fun t ht=>?_,fun l2 zs2 H2 s2 f2 hl2 tz=>?_⟩
  ·rw[dt_,dt_];exact⟨decide_eq_true (G.tin t ht).1,decide_eq_true (G.tin t ht).2⟩
  have hd12:=s2 _ _ hd1;have hp2:=s2 _ _ (s1 _ _ hp);have p1:p≠d1:=az_ hp2 hd12 nofun;have p2:p≠l2:=az_ hp2 hl2 nofun;refine⟨_,rfl,_,rfl,p,C,dx,[],rfl,hp2,T.cl,T.nS,by show 0<1000;decide,?_⟩;refine⟨_,rfl,_,rfl,p,C,dx,_,rfl,a1_,T.cl,T.nP,by show 1<1000;decide,?_⟩
  let H3:Hp:=upd (upd H2 p (.ins C dx (putF "strength_by_hand" (.ref d1) []))) p (.ins C dx (putF "sorted_pairs" (.ref l2) (putF "strength_by_hand" (.ref d1) [])))
  have h3:∀{b o},H2 b=some o->b≠p->H3 b=some o:=fun e ne=>by
   show upd (upd H2 p _) p _ _=_;rw[a4_ ne,a4_ ne];exact e
  have h3p:H3 p=some (.ins C dx (putF "sorted_pairs" (.ref l2) (putF "strength_by_hand" (.ref d1) []))):=a1_
  have none3:∀{b},H3 b=none->H2 b=none:=fun {b} e=>by
   by_cases z:b=p
   ·subst z;rw[h3p] at e;cases e
   ·have e:upd (upd H2 p _) p _ b=none:=e;rw[a4_ z,a4_ z] at e;exact e
  have tz3:a8' K H3 zs2 ((tsOf ts).map kT):=by
   rw[cx_];exact Paired.mapP tz fun y q ⟨a,e,z⟩=>⟨a,e,h3 z (az_ z hp2 nofun)⟩
  refine⟨_,rfl,d1,_,rfl,.inl (h3 hd12 p1.symm),fun l1 hl1=>?_⟩;rw[fs_];have s4:Same H3 (upd H3 l1 (.lst ((a6' hs).map V.str))):=Same.new hl1;have ne12:l1≠l2:=(a6_ (H:=H3) (h3 hl2 p2.symm) hl1).symm;refine⟨_,rfl,l1,l2,a6' hs,zs2,tsOf ts,rfl,a1_,s4 _ _ (h3 hl2 p2.symm),tz3.same s4,G.nnd,by rw[G.nlen];have:=G.h8;omega,ne12,fun d3 as H5 s5 f5 la hd3 lists=>?_⟩;have hp5:=s5 _ _ (s4 _ _ h3p);refine⟨_,rfl,p,C,dx,_,rfl,hp5,T.cl,T.nN,by show 2<1000;decide,?_⟩
  have up:∀{b o},H2 b=some o->b≠p->upd H5 p (.ins C dx (flds d1 l2 d3)) b=some o:=fun e ne=>by
   rw[a4_ ne];exact s5 _ _ (s4 _ _ (h3 e ne))
  have fr5:∀{b},upd H3 l1 (.lst ((a6' hs).map V.str)) b=none->H b=none:=fun e=>s1.free (s2.free (none3 (s4.free e)));have hd3p:d3≠p:=(a6_ (s4 _ _ h3p) f5).symm;refine k (p::d1::l2::d3::as) _ (fun b o e ne=>up (s2 _ _ (s1 _ _ e)) ne) ⟨dx,d1,l2,d3,zs2,as,rfl,a1_,up hd12 p1.symm,up hl2 p2.symm,?_,?_,la,fun i n a e1 e2=>?_⟩ fun b hb=>?_
  ·exact Paired.mapP (tz3.same (s4.trans s5)) fun y q ⟨a,e,z⟩=>⟨a,e,by rw[a4_ (az_ z hp5 nofun)];exact z⟩
  ·rw[a4_ hd3p];exact hd3
  ·obtain⟨q1,q2⟩:=lists i n a e1 e2;rw[a4_ (az_ q2 hp5 nofun)];exact q2
  ·simp only[aj'] at hb;rcases hb with rfl|rfl|rfl|rfl|hb
   ·exact .inl rfl
   ·exact .inr f1
   ·exact .inr (s1.free f2)
   ·exact .inr (fr5 f5)
   ·obtain⟨i,hi,e⟩:=aK' hb;have e1:as[i]? = some b:=by rw[ae' hi,e]
    have hn:i<(a6' hs).length:=by omega
    exact .inr (fr5 (lists i _ b (ae' hn) e1).1)
end
end Ev
namespace Ev
open PySem L2
structure CalM (P:Program) (w:World) (K:F__) (mg:Str->Option Value) (base:Heap) (C:Addr) (k:Nat) (m:Str) (ps:List Str) (sp:Sp):Prop where
 ex:∃f fd,FnOk P w K mg base CX0 k f fd ps sp/\Meth K C m f/\bV' K fd ps []
theorem bh_{X:Cx}{C:Addr}{k:Nat}{m:Str}{ps:List Str}{sp:Sp}{pos apos:Pos}{o e:Expr}{es:List Expr}{ta:TE}{t:TA}{pl:Sem Bool}(c:CalM X.prog X.w X.K X.mg X.base C k m ps sp)(cl:Cls X.K C)(hr:Room k X.A)(he:PE X o ta)(ha:PA X (e::es) t)
  (hst:starEach (e::es) X.env=(false,eval e X.env)::starEach es X.env:=by rfl) (hpl:(backTo pos (starEach es X.env)).any (·.1)=false:=by rfl)
  (ht:eval (.Call (.Attribute o m apos) (e::es) [] pos) X.env=(do
   let ov <- eval o X.env
   standAt apos.atName
   let (f,first) <- holding [ov] (getMethod ov m pl)
   callWith pos f first (backTo pos (starEach (e::es) X.env)) (backToKw pos (keywordEach [] X.env))):=by rfl) :
  PE X (.Call (.Attribute o m apos) (e::es) [] pos) (tMeth C m sp [] E0 ta t):=by
 obtain⟨f,fd,F,hm,b⟩:=c.ex;exact hp_ he cl hm F hr b .nil pass0 ha hst hpl ht
theorem d8_{X:Cx}{C:Addr}{k:Nat}{m:Str}{ps:List Str}{sp:Sp}{pos apos:Pos}{o:Expr}{ta:TE}{pl:Sem Bool}(c:CalM X.prog X.w X.K X.mg X.base C k m ps sp)(cl:Cls X.K C)(hr:Room k X.A)(he:PE X o ta)
  (ht:eval (.Call (.Attribute o m apos) [] [] pos) X.env=(do
   let ov <- eval o X.env
   standAt apos.atName
   let (f,first) <- holding [ov] (getMethod ov m pl)
   callWith pos f first (backTo pos (starEach [] X.env)) (backToKw pos (keywordEach [] X.env))):=by rfl) :
  PE X (.Call (.Attribute o m apos) [] [] pos) (tMeth C m sp [] E0 ta tNil):=by
 obtain⟨f,fd,F,hm,b⟩:=c.ex;exact hU_ he cl hm F hr b .nil pass0 ht
theorem fA_{hs:List (Str × Int)}(nd:(hs.map (·.1)).Nodup){x:Str}{n:Int}(h:(x,n)∈hs):valV (sortH hs) (Sum.inr x)=some (.int n):=by
 have m:((Sum.inr x:Key),V.int n)∈sortH hs:=by
  unfold sortH;refine ad'.mpr ⟨kH (x,n),(as_ _).mem_iff.mpr (ad'.mpr ⟨_,h,rfl⟩),rfl⟩
 have nk:=cS_ nd;generalize sortH hs=kvs at m nk
 induction kvs with
 |nil=>cases m
 |cons p r ih=>
  obtain⟨n1,n2⟩:=aI'.mp nk;rcases aj'.mp m with e|m
  ·rw[<- e];exact aM_ rfl
  ·rw[aL_ (fun e:p.1=Sum.inr x=>n1 (ad'.mpr ⟨_,m,e.symm⟩))];exact ih m n2
theorem hh_{ns:List Str}{as:List Addr}(nd:ns.Nodup)(la:as.length=ns.length){i:Nat}{n:Str}(hn:ns[i]? = some n):∃a,as[i]? = some a/\valV (bn' ns as) (Sum.inr n)=some (.ref a):=by
 induction ns generalizing as i with
 |nil=>simp at hn
 |cons x ns ih=>
  cases as with
  |nil=>cases la
  |cons b as=>
   obtain⟨n1,n2⟩:=aI'.mp nd;cases i with
   |zero=>
    have e:x=n:=by simpa using hn
    subst e;exact⟨b,rfl,aM_ rfl⟩
   |succ i=>
    have hn:ns[i]? = some n:=by simpa using hn
    obtain⟨a,h1,h2⟩:=ih n2 (by simpa using la) hn;refine⟨a,by simpa using h1,?_⟩;show valV ((Sum.inr x,V.ref b)::bn' ns as) (Sum.inr n)=_;rw[aL_ fun e=>n1 (by rw[show x=n from Sum.inr.inj e];exact ac' hn)];exact h2
section
variable{P:Program}{w:World}{K:F__}{mg:Str->Option Value}{base:Heap}
theorem scHas:a7' ["self","thing"] ["self","thing"] (a5' sHas):=f__
def spHas(K:F__)(C:Addr):Sp:=fun vs H Q _=>∃(p:Addr) (x:Str) (hs:List (Str × Int)) (ts:List (Str × Str)) (fp:List Addr),vs=[.ref p,.str x]/\bs' K C H p hs ts fp/\Q (.bl (decide (x∈hs.map (·.1)))) H
theorem kk_{f C:Addr}{fd:FuncData}(F:Fun K "has_hand" "Web.has_hand" sHas f fd)(T:Txt K mg C)(B:Bi mg):FnOk P w K mg base CX0 1 f fd ["self","thing"] (spHas K C):=by
 refine F.ok scHas (fun vs H Q E h=>?_) (fun cdv A outer s H vs Q E hr h=>?_)
 ·obtain⟨p,x,hs,ts,fp,rfl,_⟩:=h;rfl
 ·obtain⟨p,x,hs,ts,fp,rfl,W,k⟩:=h;have hu:=b3_ hr;obtain⟨dx,d1,l2,d3,zs,as,rfl,h1,h2,h3,h4,h5,h6,h7⟩:=W.ex;refine⟨_,a5_ (ab_ (bu_ (ad_ aP_ (by rfl) B.isi PyProof.Rows.Boot.«isinstance» (a0_ (pv 1) (a0_ (b5_ (v:=.ty "str") (by rfl) B.str PyProof.Rows.Boot.«str» rfl) a3_))) (bj_ (dM_ (d2_ hu (pv 1) (ar_ (pv 0) rfl)))))),?_⟩;refine⟨_,rfl,_,_,_,_,rfl,.str x,rfl,_,rfl,iteT ?_⟩;refine⟨_,rfl,_,rfl,p,C,dx,_,_,rfl,h1,T.cl,T.nS,fa_ _ _ _,d1,_,rfl,.k (k:=Sum.inr x) h2,?_⟩;rw[dt_];exact k
theorem scHands:a7' ["self"] ["self"] (a5' sHands):=f__
def b8'(K:F__)(C:Addr):Sp:=fun vs H Q _=>∃(p:Addr) (hs:List (Str × Int)) (ts:List (Str × Str)) (fp:List Addr),vs=[.ref p]/\bs' K C H p hs ts fp/\∀l,H l=none->Q (.ref l) (upd H l (.lst ((a6' hs).map V.str)))
theorem hW_{f C:Addr}{fd:FuncData}(F:Fun K "hands" "Web.hands" sHands f fd)(T:Txt K mg C)(B:Bi mg):FnOk P w K mg base CX0 1 f fd ["self"] (b8' K C):=by
 refine F.ok scHands (fun vs H Q E h=>?_) (fun cdv A outer s H vs Q E hr h=>?_)
 ·obtain⟨p,hs,ts,fp,rfl,_⟩:=h;rfl
 ·obtain⟨p,hs,ts,fp,rfl,W,k⟩:=h;obtain⟨dx,d1,l2,d3,zs,as,rfl,h1,h2,h3,h4,h5,h6,h7⟩:=W.ex;refine⟨_,a5_ (ab_ (aq_ (c6_ rfl) (by rfl) B.list PyProof.Rows.Boot.«list» (a0_ (ar_ (pv 0) rfl) a3_))),?_⟩;refine⟨_,rfl,p,C,dx,_,_,rfl,h1,T.cl,T.nS,fa_ _ _ _,d1,_,rfl,.inl h2,fun l hl=>?_⟩;rw[fs_];exact k l hl
theorem dq':a7' ["self","hand"] ["self","hand"] (a5' ca'):=f__
def by'(K:F__)(C:Addr):Sp:=fun vs H Q _=>∃(p:Addr) (x:Str) (n:Int) (hs:List (Str × Int)) (ts:List (Str × Str)) (fp:List Addr),vs=[.ref p,.str x]/\bs' K C H p hs ts fp/\(hs.map (·.1)).Nodup/\(x,n)∈hs/\Q (.int n) H
theorem eg_{f C:Addr}{fd:FuncData}(F:Fun K "strength" "Web.strength" ca' f fd)(T:Txt K mg C)(cH:CalM P w K mg base C 1 "has_hand" ["self","thing"] (spHas K C)):FnOk P w K mg base CX0 2 f fd ["self","hand"] (by' K C):=by
 refine F.ok dq' (fun vs H Q E h=>?_) (fun cdv A outer s H vs Q E hr h=>?_)
 ·obtain⟨p,x,n,hs,ts,fp,rfl,_⟩:=h;rfl
 ·obtain⟨p,x,n,hs,ts,fp,rfl,W,nd,hx,k⟩:=h;have hu:=b3_ hr;obtain⟨dx,d1,l2,d3,zs,as,rfl,h1,h2,h3,h4,h5,h6,h7⟩:=id W.ex;refine⟨_,a2_ (aC_ (aI_ (aK_ (bh_ cH T.cl hr (pv 0) (a0_ (pv 1) a3_)))) ag_ ae_) (a5_ (ab_ (ac_ hu (ar_ (pv 0) rfl) (pv 1) (fun _ _=>rfl)))),?_⟩;refine⟨_,rfl,p,dx,_,rfl,h1,aT_ _ _ _ (by decide +kernel) (by decide +kernel) (by decide +kernel),_,rfl,p,x,hs,ts,_,rfl,W,_,rfl,?_⟩;rw[decide_eq_true (ad'.mpr ⟨_,hx,rfl⟩)];refine iteF ?_;refine⟨_,rfl,p,C,dx,_,_,rfl,h1,T.cl,T.nS,fa_ _ _ _,_,rfl,d1,_,rfl,?_,k⟩;rw[<- fA_ nd hx];exact .k (k:=Sum.inr x) h2
theorem scNeigh:a7' ["self","hand"] ["self","hand"] (a5' sNeigh):=f__
def cM'(K:F__)(C:Addr):Sp:=fun vs H Q _=>∃(p:Addr) (x:Str) (hs:List (Str × Int)) (ts:List (Str × Str)) (fp:List Addr),vs=[.ref p,.str x]/\bs' K C H p hs ts fp/\(a6' hs).Nodup/\x∈hs.map (·.1)/\∀l,H l=none->Q (.ref l) (upd H l (.lst ((near (a6' hs) (tsOf ts) x).map V.str)))
theorem iJ_{H:Hp}{hs:List (Str × Int)}{ts:List (Str × Str)}{as:List Addr}{x:Str}(nd:(a6' hs).Nodup)(hx:x∈hs.map (·.1))(la:as.length=(a6' hs).length)
  (h7:∀(i:Nat) n a,(a6' hs)[i]? = some n->as[i]? = some a->H a=some (.lst ((near (a6' hs) (tsOf ts) n).map V.str))):∃a,valV (bn' (a6' hs) as) (Sum.inr x)=some (.ref a)/\H a=some (.lst ((near (a6' hs) (tsOf ts) x).map V.str)):=by
 obtain⟨i,hi,e⟩:=aK' ((al_ hs).mem_iff.mpr hx);have hn:(a6' hs)[i]? = some x:=by rw[ae' hi,e]
 obtain⟨a,h1,h2⟩:=hh_ nd la hn;exact⟨a,h2,h7 i x a hn h1⟩
theorem hr_{f C:Addr}{fd:FuncData}(F:Fun K "neighbours" "Web.neighbours" sNeigh f fd)(T:Txt K mg C)(B:Bi mg)(cH:CalM P w K mg base C 1 "has_hand" ["self","thing"] (spHas K C)):FnOk P w K mg base CX0 2 f fd ["self","hand"] (cM' K C):=by
 refine F.ok scNeigh (fun vs H Q E h=>?_) (fun cdv A outer s H vs Q E hr h=>?_)
 ·obtain⟨p,x,hs,ts,fp,rfl,_⟩:=h;rfl
 ·obtain⟨p,x,hs,ts,fp,rfl,W,nd,hx,k⟩:=h;have hu:=b3_ hr;obtain⟨dx,d1,l2,d3,zs,as,rfl,h1,h2,h3,h4,h5,h6,h7⟩:=id W.ex;obtain⟨a,e1,ha⟩:=iJ_ nd hx h6 h7;refine⟨_,a2_ (aC_ (aI_ (aK_ (bh_ cH T.cl hr (pv 0) (a0_ (pv 1) a3_)))) ag_ ae_) (a5_ (ab_ (aq_ dL_ (by rfl) B.list PyProof.Rows.Boot.«list» (a0_ (ac_ hu (ar_ (pv 0) rfl) (pv 1) (fun _ _=>rfl)) a3_)))),?_⟩;refine⟨_,rfl,p,dx,_,rfl,h1,aT_ _ _ _ (by decide +kernel) (by decide +kernel) (by decide +kernel),_,rfl,p,x,hs,ts,_,rfl,W,_,rfl,?_⟩;rw[decide_eq_true hx];refine iteF ?_;refine⟨_,rfl,p,C,dx,_,_,rfl,h1,T.cl,T.nN,h5_ _ _ _,_,rfl,d3,.ref a,rfl,?_,a,_,rfl,.inl (.of ha),k⟩;rw[<- e1];exact .k (k:=Sum.inr x) h5
theorem scTied:a7' ["self","one","other"] ["self","one","other"] (a5' sTied):=f__
theorem cn_{H:Hp}:∀ns:List Str,Paired (rS H) (ns.map V.str) ns
 |[]=>.nil
 |_::ns=>.cons rfl (cn_ ns)
theorem scMost:a7' ["self"] ["self"] (a5' sMost):=f__
def lens(hs:List (Str × Int))(ts:List (Str × Str)):List Int:=(a6' hs).map fun n=>((near (a6' hs) (tsOf ts) n).length:Int)
def spMost(K:F__)(C:Addr):Sp:=fun vs H Q _=>∃(p:Addr) (hs:List (Str × Int)) (ts:List (Str × Str)) (fp:List Addr),vs=[.ref p]/\bs' K C H p hs ts fp/\0<(a6' hs).length/\(a6' hs).length<=1000/\∀m H',Same H H'->m∈lens hs ts->(∀a∈lens hs ts,a<=m)->Q (.int m) H'
theorem iW_{f C:Addr}{fd:FuncData}(F:Fun K "most_neighbours" "Web.most_neighbours" sMost f fd)(T:Txt K mg C)(B:Bi mg):FnOk P w K mg base CX0 1 f fd ["self"] (spMost K C):=by
 refine F.ok scMost (fun vs H Q E h=>?_) (fun cdv A outer s H vs Q E hr h=>?_)
 ·obtain⟨p,hs,ts,fp,rfl,_⟩:=h;rfl
 ·obtain⟨p,hs,ts,fp,rfl,W,h0,h8,k⟩:=h;have sz:=sizeLine_eq;obtain⟨dx,d1,l2,d3,zs,as,rfl,h1,h2,h3,h4,h5,h6,h7⟩:=W.ex
  refine⟨_,a5_ (ab_ (ad_ (dk_ rfl) (by rfl) B.max PyProof.Rows.Boot.«max» (a0_ (eh_ (aS_ ["row"] 1 [] (ee_ (ct_ (ar_ (pv 0) rfl))) (fun fp s H=>a8_ (i:=0) (show (["row"]:List Str).Nodup by decide +kernel) rfl (Or.inl rfl)) (fun fp s H=>aU_)
   (fun fp s H=>ad_ (cLen (K:=K)) (by rfl) B.len PySem.boot_len (a0_ (pv 0) a3_)))) a3_))),?_⟩
  refine⟨d3,_,h5,_,rfl,p,C,dx,_,_,rfl,h1,T.cl,T.nN,h5_ _ _ _,d3,_,rfl,h5,fun v hv=>?_⟩;have s1:Same H (upd H v (bm' v d3)):=Same.new hv;refine⟨v,d3,_,rfl,a1_,s1 _ _ h5,fun o D hD=>?_⟩
  have lk:(bn' (a6' hs) as).length=(a6' hs).length:=by
   unfold bn';rw[aa',List.length_zip];omega
  have base':∀{b u},H b=some u->u≠.dK (bn' (a6' hs) as)->upd (upd H v (bm' v d3)) d3 (.frz o (.dK (bn' (a6' hs) as))) b=some u:=fun e ne=>by
   rw[a4_ (az_ e h5 ne)];exact s1 _ _ e
  refine bt_ (own:=1) (fv:=[]) rfl gok1 (a6' hs).length (fun i out H'=>Same (upd (upd H v (bm' v d3)) d3 (.frz o (.dK (bn' (a6' hs) as)))) H'/\H' D=some (.lst out)/\out=((lens hs ts).take i).map V.int) ⟨Same.new hD,a1_,rfl⟩ (fun out H' ⟨sm,hD',eo⟩=>?_) (fun i out H' hi ⟨sm,hD',eo⟩=>?_)
  ·have hf:=sm _ _ (show upd (upd H v (bm' v d3)) d3 (.frz o (.dK (bn' (a6' hs) as))) d3=some _ from a1_);have Dd:D≠d3:=az_ hD' hf nofun;have ll:(lens hs ts).length=(a6' hs).length:=by unfold lens;rw[aa']
   rw[<- ll,ap'] at eo;refine⟨⟨hf,by omega⟩,o,hf,D,lens hs ts,rfl,.of ?_,by omega,fun m hm hle=>k m _ (fun b u e=>?_) hm hle⟩
   ·rw[a4_ Dd,hD',eo]
   ·by_cases z:b=d3
    ·subst z;rw[a1_,<- h5];exact e
    ·rw[a4_ z];exact sm _ _ (by rw[a4_ z];exact s1 _ _ e)
  ·have hf:=sm _ _ (show upd (upd H v (bm' v d3)) d3 (.frz o (.dK (bn' (a6' hs) as))) d3=some _ from a1_);refine⟨⟨hf,by omega⟩,fun x H2 y=>?_⟩;obtain⟨eH,kk,hk⟩:=y;subst eH;have hn:(a6' hs)[i]? = some (a6' hs)[i]:=ae' hi;have ha:as[i]? = some (as[i]'(by omega)):=ae' (by omega)
   have ex:x=.ref (as[i]'(by omega)):=by
    unfold bn' at hk;rw[an',ae' (by rw[List.length_zip];omega),List.getElem_zip] at hk;exact (Prod.mk.inj (Option.some.inj hk)).2.symm
   subst ex;have hrow:=h7 i _ _ hn ha;refine⟨_,rfl,rfl,fun Nx hN=>yesT ?_⟩;refine⟨_,rfl,_,_,rfl,.inl (.of (sm _ _ (base' hrow nofun))),out,hD',?_,hN _ _ ⟨am_ sm hD,a1_,?_⟩⟩
   ·rw[eo,aa',ak'];unfold lens;rw[aa'];omega
   ·rw[aW_ _ (show (lens hs ts)[i]? = some (((near (a6' hs) (tsOf ts) (a6' hs)[i]).length:Nat):Int) by unfold lens;rw[an',hn];rfl),eo,aa']
end
end Ev
namespace L2
open PySem PySem.Spec PyProof.Rows PySem.W
def Ite(K:F__)(a:Addr):It:=
 ⟨fun i H=>∃xs x,SqL K H a xs/\xs[i]? = some x,fun i H y H'=>∃t x,y=.ref t/\H t=none/\(∀xs,SqL K H a xs->xs[i]? = some x)/\H'=upd H t (.tup [.int i,x]),fun i H=>∃xs,SqL K H a xs/\xs.length=i⟩
theorem Inv.turnedN{X:Cx}{pins:List (Addr × Obj)}{σ:St}{H:Hp}{s:Shared}{h':Heap}{t':Nat}{fp:List Addr}{T:Addr}{xs:List V}{its:List Value}(I:Inv X pins σ H s)(k:∀b o,b∉fp->s.heap.get? b=some o->h'.get? b=some o)(hf:∀b∈fp,FpOk X pins H b)
  (hT:s.heap.objs.size<=T) (hz:xs.length<=sizeLine) (r:Vals xs its) (ht:IsTup h' T its.toArray/\∃o,h'.get? T=some o/\o.dict=none):Inv X pins σ (upd H T (.tup xs)) { s with heap:=h',toks:=t' }:=by
 have fT:H T=none:=I.hok.fresh hT;have nf:∀b u,H b=some u->b∉fp:=fun b u e hb=>by rw[(hf b hb).1] at e;cases e
 have old:∀{b u},H b=some u->upd H T (.tup xs) b=some u:=fun e=>by rw[a4_ (a6_ e fT)];exact e
 refine I.step (g':=s.gens) (d':=s.drawn) (ch:=fp) (fun b hb=>?_) (fun b o _ _ hc e _=>k b o hc e) (fun b o _ _ hc e _=>⟨o.slots,k b o hc e⟩) (fun b o _ e n=>?_)
  (fun b o hc e=>⟨o,k b o hc e⟩) (fun b ys e=>old e) (fun b o u e=>old e) (fun b ps e=>⟨#[],by rw[aZ'];exact old e⟩) (fun m hm=>?_) (fun b u e=>?_) I.bare
 ·obtain⟨f0,f1,f2,f3,f4,f5⟩:=hf b hb;exact⟨f3,f1,f4,f5⟩
 ·rw[a4_ (fun z=>by subst z;exact absurd (Heap.lt_size e) (Nat.not_lt.mpr hT))];exact n
 ·obtain⟨o,es,ep,ho,r⟩:=hm;exact⟨o,es,ep,k _ o (fun hb=>(hf _ hb).2.1 rfl) ho,r⟩
 ·by_cases z:b=T
  ·subst z;rw[a1_] at e;cases e;exact⟨hz,its,r,ht⟩
  ·rw[a4_ z] at e;refine (I.hok b u e).stay (fun c v hc q=>k c v ?_ q) (fun _ q=>old q) fun _ _ q=>old q;rcases hc with z|z
   ·rw[z];exact nf b u e
   ·exact nf c _ z
theorem Inv.turnedF{X:Cx}{pins:List (Addr × Obj)}{σ:St}{H:Hp}{s:Shared}{h':Heap}{t':Nat}{fp:List Addr}(I:Inv X pins σ H s)(k:∀b o,b∉fp->s.heap.get? b=some o->h'.get? b=some o)(hf:∀b∈fp,FpOk X pins H b):Inv X pins σ H { s with heap:=h',toks:=t' }:=by
 have nf:∀b u,H b=some u->b∉fp:=fun b u e hb=>by rw[(hf b hb).1] at e;cases e
 refine I.step (g':=s.gens) (d':=s.drawn) (ch:=fp) (fun b hb=>?_) (fun b o _ _ hc e _=>k b o hc e) (fun b o _ _ hc e _=>⟨o.slots,k b o hc e⟩) (fun b o _ e n=>n)
  (fun b o hc e=>⟨o,k b o hc e⟩) (fun b ys e=>e) (fun b o u e=>e) (fun b ps e=>⟨#[],by rw[aZ'];exact e⟩) (fun m hm=>?_) (fun b u e=>?_) I.bare
 ·obtain⟨f0,f1,f2,f3,f4,f5⟩:=hf b hb;exact⟨f3,f1,f4,f5⟩
 ·obtain⟨o,es,ep,ho,r⟩:=hm;exact⟨o,es,ep,k _ o (fun hb=>(hf _ hb).2.1 rfl) ho,r⟩
 ·refine (I.hok b u e).stay (fun c v hc q=>k c v ?_ q) (fun _ q=>q) fun _ _ q=>q;rcases hc with z|z
  ·rw[z];exact nf b u e
  ·exact nf c _ z
theorem g5_{P:Program}{w:World}{K:F__}{elts:List Expr}{k:Nat}{pos:Pos}(a e it:Addr)(h1:e≠it)(h2:a≠e)(h3:a≠it):Turn P w K (.Tuple elts k pos) (Ite K a) [e,it] e (fun i h=>(∃old,IsEnum h e it i old)/\h.IsListIter it a i) where
 mem:=by simp
 obj:=fun i h st b hb=>by
  obtain⟨⟨old,q⟩,o,e2,c,d⟩:=st;rcases aj'.mp hb with rfl|hb
  ·exact⟨_,q,fun v z=>by cases z⟩
  ·obtain rfl:b=it:=by simpa using hb
   exact⟨o,e2,fun v z=>by rw[d] at z;cases z⟩
 keep:=fun i h h' st kk=>by
  obtain⟨⟨old,q⟩,st2⟩:=st;exact⟨⟨old,kk e (by simp) _ q⟩,st2.at fun o q2=>kk it (by simp) o q2⟩
 item:=by
  intro X hP hw hK hc i pins s σ H E I hf st hg;subst hP hw hK;obtain⟨xs,x,hq,hx⟩:=hg;obtain⟨its,rv,p,hz⟩:=I.list hq;obtain⟨u,hu,ru⟩:=rv.get hx;have W:=WalksT.enumerate (prog:=X.prog) (w:=X.w) (A:=X.A) (I.ok.hd hc) e it a h1 h2 h3 its.toArray
  have hi:i<its.toArray.size:=by
   simp only[ai'];exact (ab'.mp hu).1
  obtain⟨old,he⟩:=st.1;have hit:=st.2;refine wpAny_pyNext_enum_item he hit p.isList (x:=u) (by rw[List.getElem?_toArray];exact hu) h1 fun h' ho hit' hTo hsz hk=>?_;have helt:e<s.heap.objs.size:=Heap.lt_size he;have hilt:it<s.heap.objs.size:=by obtain⟨_,x,_⟩:=hit;exact Heap.lt_size x
  have mid:(∃x,IsEnumOut h' e it ((i:Int)+1) x s.heap.objs.size)/\h'.IsListIter it a (i+1)/\h'.IsList a its.toArray/\s.heap.objs.size≠e/\s.heap.objs.size≠it:=⟨⟨_,ho⟩,hit',p.isList.at fun o x=>hk a o h2 h3 x,a4' helt,a4' hilt⟩;have kk:∀b o,b∉[e,it]->s.heap.get? b=some o->h'.get? b=some o:=fun b o hb x=>hk b o (fun e'=>hb (by simp[e'])) (fun e'=>hb (by simp[e'])) x;have isT:h'.IsTuple s.heap.objs.size #[.int i s.toks,u]:=⟨_,hTo,rfl,_,rfl⟩;obtain⟨T,eT⟩:∃T,T=s.heap.objs.size:=⟨_,rfl⟩;obtain⟨t,et⟩:∃t,t=s.toks:=⟨_,rfl⟩;obtain⟨tk,htk⟩:∃tk,tk=s.toks+1:=⟨_,rfl⟩;rw[<- eT] at isT mid hTo ⊢;have hT:s.heap.objs.size<=T:=Nat.le_of_eq eT.symm;rw[<- et] at isT hTo;rw[<- htk];refine⟨_,rfl,W.go elts k pos i T { s with heap:=h',toks:=tk } _ _ mid fun h2' st' kk2=>?_⟩;have nT:T∉[e,it]:=W.apart i T h' mid
  have isT2:h2'.IsTuple T #[.int i t,u]:=by
   obtain⟨o,q,r⟩:=isT;exact⟨o,kk2 T o nT q,r⟩
  have I1:Inv X pins σ (upd H T (.tup [.int i,x])) { s with heap:=h2',toks:=tk }:=I.turnedN (t':=tk) (fp:=[e,it]) (its:=[.int i t,u]) (fun b o hb q=>kk2 b o hb (kk b o hb q)) hf hT (by show 2<=sizeLine;decide) (.cons ⟨t,rfl⟩ (.cons ru .nil)) ⟨isT2,_,kk2 T _ nT hTo,rfl⟩;refine⟨.ref T,_,I1,rfl,⟨T,x,rfl,I.hok.fresh hT,fun ys hy=>by rw[I.list_inj hy hq];exact hx,rfl⟩,⟨?_,st'.2.1⟩,fun b hb=>?_⟩
  ·obtain⟨old,q⟩:=st'.1;exact⟨old,by simpa using q⟩
  ·rw[a4_ (fun z:b=T=>nT (by rw[<- z];exact hb))];exact (hf b hb).1
 done:=by
  intro X hP hw hK hc i pins s σ H E I hf st hg;subst hP hw hK;obtain⟨xs,hq,hx⟩:=hg;obtain⟨its,rv,p,hz⟩:=I.list hq;have W:=WalksT.enumerate (prog:=X.prog) (w:=X.w) (A:=X.A) (I.ok.hd hc) e it a h1 h2 h3 its.toArray
  have hn:its.toArray.size=i:=by
   have:=rv.length;simp only[ai'];omega
  refine W.done s _ _ (by rw[hn];exact⟨st.1,st.2,p.isList⟩) fun h' tk kk=>⟨rfl,I.turnedF (t':=tk) (fp:=[e,it]) kk hf⟩
 self:=fun A i s Q E st h=>by
  obtain⟨old,q⟩:=st.1;exact wpAny_pyIter_enum q h
def iEnum(K:F__)(ta:TA):TI:=fun σ H R=>ta σ H fun vs H1=>∃a,vs=[.ref a]/\(∃xs,SqL K H1 a xs)/\R (Ite K a) H1
theorem jb_{X:Cx}{elts:List Expr}{kk:Nat}{p2:Pos}{a:Expr}{ta:TA}{p pos:Pos}(hg:Gl X "enumerate")(hm:X.mg "enumerate"=none)(ha:PA X [a] ta)(hs:starEach [a] X.env=[(false,eval a X.env)]:=by rfl):PI X (.Tuple elts kk p2) (.Call (.Name "enumerate" p) [a] [] pos) (iEnum X.K ta):=by
 intro pins s σ H R I h;refine Call_ (d5_ I hg hm boot_enumerate (PyProof.Rows.callWith_type1 (thn (ha pos pins s σ H _ I h) fun us s1 ⟨vs,H1,I1,r1,q1⟩=>?_) hs rfl));obtain⟨l,e,⟨xs,hq⟩,q⟩:=q1;subst e;cases r1 with
 |cons r rr=>
  cases rr;cases r;obtain⟨its,rv,pl,hz⟩:=I1.list hq;have ll:l<s1.heap.objs.size:=by obtain⟨_,e,_⟩:=pl.isList;exact Heap.lt_size e
  refine call_enumerate_list pl.isList fun h' he hi hn kp=>?_;refine wpAny_pyIter_enum he ?_;refine⟨s1.heap.objs.size+1,[s1.heap.objs.size+1,s1.heap.objs.size],_,_,H1,rfl,I1.kept (t':=s1.toks) kp,g5_ l _ _ (Nat.succ_ne_self _) (au' (Nat.lt_succ_of_lt ll)) (au' ll),⟨⟨_,he⟩,hi⟩,fun b hb=>?_,q⟩
  have e:s1.heap.objs.size<=b:=by
   rcases aj'.mp hb with rfl|hb
   ·exact Nat.le_succ _
   ·obtain rfl:b=s1.heap.objs.size:=by simpa using hb
    exact ag' _
  exact I1.fpOk e (I1.hok.fresh e)
theorem hK_{K:F__}{a:Addr}{xs:List V}{g:TG}{tb:TS}{D:Ends}{σ:St}{H:Hp}(Pv:Nat->St->Hp->Prop)(h0:Pv 0 σ H)(hl:∀i σ H,i<=xs.length->Pv i σ H->SqL K H a xs)
  (hs:∀i x σ H,xs[i]? = some x->Pv i σ H->∀t,H t=none->g (.ref t) σ (upd H t (.tup [.int i,x])) fun σ2 H2=>tb { D with nx:=Pv (i+1),ct:=Pv (i+1),bk:=D.nx } σ2 H2) (hd:∀σ H,Pv xs.length σ H->D.nx σ H) :
  ∃W:Nat->Nat->St->Hp->Prop,(∃m,W 0 m σ H)/\∀i m σ H,W i m σ H->
   ((Ite K a).stop i H/\D.nx σ H)∨((Ite K a).go i H/\∃N:St->Hp->Prop,(∀σ' H',N σ' H'->∃m',m'<m/\W (i+1) m' σ' H')/\∀x H',(Ite K a).yld i H x H'->g x σ H' fun σ2 H2=>tb { D with nx:=N,ct:=N,bk:=D.nx } σ2 H2):=by
 refine⟨fun i m σ H=>m=xs.length - i/\i<=xs.length/\Pv i σ H,⟨xs.length,by simp,aD' _,h0⟩,?_⟩;rintro i m σ H ⟨rfl,hi,p⟩;have q:=hl i σ H hi p;by_cases hlt:i<xs.length
 ·refine .inr ⟨⟨xs,xs[i],q,by simp[hlt]⟩,Pv (i+1),fun σ' H' p'=>⟨xs.length - (i+1),by omega,rfl,hlt,p'⟩,fun x H' y=>?_⟩;obtain⟨t,x,rfl,ht,y,rfl⟩:=y;exact hs i x σ H (y xs q) p t ht
 ·have e:i=xs.length:=by omega
  subst e;exact .inl ⟨⟨xs,q,rfl⟩,hd σ H p⟩
end L2
namespace L2
open PySem PySem.Spec PyProof.Rows
theorem bh'.here{P:Program}{w:World}{H:Hp}{h:Heap}{a:Addr}{o:HO}(x:bh' P w H h a o):∃u,h.get? a=some u:=by
 cases o with
 |lst xs=>obtain⟨_,_,_,_,e⟩:=x;exact⟨_,e⟩
 |tup xs=>obtain⟨_,_,_,⟨o,e,_⟩,_⟩:=x;exact⟨_,e⟩
 |dK kvs=>obtain⟨_,_,_,_,o,_,_,e,_⟩:=x;exact⟨_,e⟩
 |dT kvs=>obtain⟨_,_,_,_,o,_,_,e,_⟩:=x;exact⟨_,e⟩
 |set S n=>obtain⟨o,_,_,_,e,_⟩:=x;exact⟨_,e⟩
 |ins C dx fs=>obtain⟨_,_,_,e,_⟩:=x;exact⟨_,e⟩
 |own y=>exact x
 |xd fs=>obtain⟨_,⟨_,_,_,e,_⟩,_⟩:=x;exact⟨_,e⟩
 |rng lo hi=>obtain⟨_,_,_,e⟩:=x;exact⟨_,e⟩
 |frz ob u=>obtain⟨e,_⟩:=x;exact⟨_,e⟩
 |tbl ps=>exact⟨_,show h.get? a=some _ from x⟩
 |met f y=>exact⟨_,show h.get? a=some _ from x⟩
 |ext φ=>obtain⟨_,e,_⟩:=x;exact e
def InB(B:Heap)(l:List Env)(H:Hp)(h0 h:Heap):Prop:=
 ∀b o,h.get? b=some o->b∉frs l->((H b).isSome=true∨∃o0,h0.get? b=some o0)->B.get? b=some o
section
variable{P:Program}{w:World}{H H':Hp}{B h0 h h1:Heap}{l:List Env}
theorem dx_(hok:HOk P w H' h)(fr:∀b∈frs l,H' b=none)(i:InB B l H' h0 h)(st:B.StaysIn h1):HOk P w H' h1:=fun b o e=>
 (hok b o e).stay (fun c u hc q=>by
  have hs:∃x,H' c=some x:=by
   rcases hc with z|z
   ·exact⟨o,z▸e⟩
   ·exact⟨_,z⟩
  obtain⟨x,hx⟩:=hs;exact st c u (i c u q (fun m=>by rw[fr c m] at hx;cases hx) (.inl (by rw[hx];rfl)))) (fun _ q=>q) (fun _ _ q=>q)
theorem eV_(un:Un (frs l) [] H H' h0 h)(ff:h.FunFrames B l)(i:InB B l H' h0 h)(st:B.StaysIn h1)(up:h.UpToSlots h1):Un (frs l) [] H H' h0 h1 where
 keep:=fun b o q n hb hx=>st b o (i b o (un.keep b o q n hb hx) hb (.inr ⟨o,q⟩))
 slot:=fun b o q n hb hx=>by
  obtain⟨sl,e⟩:=un.slot b o q n hb hx;obtain⟨_,o',e',d⟩:=ff.mem hb;rw[e] at e';cases e';obtain⟨sl2,e2⟩:=up b _ e d;exact⟨sl2,e2⟩
 free:=un.free
 there:=fun b o q hx=>by
  obtain⟨o',e⟩:=un.there b o q hx;by_cases hb:b∈frs l
  ·obtain⟨_,o2,e',d⟩:=ff.mem hb;rw[e] at e';cases e';obtain⟨sl2,e2⟩:=up b _ e d;exact⟨_,e2⟩
  ·exact⟨o',st b o' (i b o' e hb (.inr ⟨o,q⟩))⟩
 tups:=un.tups
 frzs:=un.frzs
 tbls:=un.tbls
theorem fo_(hok:HOk P w H' h)(un:Un (frs l) [] H H' h0 h)(i:InB B l H' h0 h)(st:B.StaysIn h1):InB B l H' h0 h1:=fun b o e hb c=>by
 have:∃u,h.get? b=some u:=by
  rcases c with z|⟨o0,z⟩
  ·obtain⟨x,hx⟩:=Option.isSome_iff_exists.mp z;exact (hok b x hx).here
  ·exact un.there b o0 z (by simp)
 obtain⟨u,hu⟩:=this;have q:=i b u hu hb c;have:=st b u q;rw[e] at this;cases this;exact q
end
def CX1(P:Program)(w:World):CXT:=fun l H s E e s'=>
 ∃a cls H' B a0,e=Value.ref a/\s'.os=s.os/\AllBare s'.gens/\Un (frs l) [] H H' s.heap s'.heap/\HOk P w H' s'.heap/\Heap.FlyingW B l a cls a0 s'.heap/\InB B l H' s.heap s'.heap/\E cls none H'
section
variable{X:Cx}{pins:List (Addr × Obj)}{σ:St}{H H':Hp}{s s1:Shared}{B h:Heap}{a:Addr}{cls a0:Value}{E:XK}
theorem eY_(I:Inv X pins σ H s)(un:Un (frs X.stack) [] H H' s.heap h):∀b∈frs X.stack,H' b=none:=fun b hb=>by
 obtain⟨_,o,ho,_⟩:=I.stack.mem hb;exact un.free b o ho (I.stkFree b hb) (by simp)
theorem gg_(I:Inv X pins σ H s)(hex:X.ex=[])(os:s1.os=s.os)(bare:AllBare s1.gens)(un:Un (frs X.stack) [] H H' s.heap h)(hok:HOk X.prog X.w H' h)(i:InB B X.stack H' s.heap h)(ff:h.FunFrames B X.stack)(up:h.UpToSlots s1.heap)
  (fl:Heap.FlyingW B X.outer a cls a0 s1.heap) (hE:E cls none H'):CX1 X.prog X.w X.outer X.H₀ X.s₀ E (.ref a) s1:=by
 have un1:=eV_ un ff i fl.1 up;have hok1:=dx_ hok (eY_ I un) i fl.1;have I1:Inv X pins σ H' s1:=I.call' os un1 hok1 bare (fun b z=>absurd z (by simp));have bs:=I1.base;rw[hex] at bs;refine⟨a,cls,H',B,a0,rfl,I1.os,I1.bare,bs,I1.hok,fl,fun b o e hb c=>?_,hE⟩
 have nL:b≠X.env.locals:=by
  rcases c with z|⟨o0,z⟩
  ·intro q;rw[q,I1.free] at z;cases z
  ·exact au' (av' (Heap.lt_size z) I.ok.above)
 refine fo_ hok un i fl.1 b o e (fun hm=>?_) (c.imp id fun⟨o0,z⟩=>I.base.there b o0 z (by rw[hex];simp));rcases aj'.mp (I.stkSub b hm) with z|z
 ·exact nL z
 ·exact hb z
end
section
variable{P:Program}{w:World}{K:F__}{mg:Str->Option Value}{base:Heap}{N:List Str}{qual:Str}{scope:Scope}{f:Addr}{cd:Value}{A:Around}{outer:List Env}{s:Shared}{H:Hp}{E:XK}
def Raises(X:Cx)(E:XK):Prop:=∀(pins:List (Addr × Obj)) (σ:St) (H:Hp) (s:Shared) (h':Heap) (e:Addr) (cls:Value) (vs:List Value),Inv X pins σ H s->Heap.MadeExcOf s.heap h' e cls vs->E cls none H->X.xe (.ref e) { s with heap:=h' }
theorem raises1:Raises (cxOf (CX1 P w) P w K mg base N qual scope f cd A outer s H E) E:=by
 intro pins σ H1 s1 h' e cls vs I hx hE;have ff:=PySem.W.funFrames_hide (as:=frs (cxOf (CX1 P w) P w K mg base N qual scope f cd A outer s H E).stack) I.stack (fun env he b hb=>aM'.mpr ⟨env,he,hb⟩);refine wpAny_leaves_madeW (base:=PySem.W.hideAll s1.heap (frs (cxOf (CX1 P w) P w K mg base N qual scope f cd A outer s H E).stack)) (h:=s1.heap) I.ok.frames rfl (fun b o q=>PySem.W.of_hideAll _ q) ff hx fun h1 t fl tup nt up=>?_;exact gg_ (s1:={ s1 with heap:=h1 }) I rfl rfl I.bare Un.refl I.hok (fun b o q hb _=>PySem.W.hideAll_get _ q hb) ff ((Heap.UpToSlots.of_keeps hx.keeps).trans up) fl hE
end
section
variable{X:Cx}{x:Str}{C:Addr}{bm:List Value}{B newId initId:String}{np cpos pos:Pos}{e₀:Expr}{t:TA}{E:XK}
theorem ka_{K:F__}{h:Heap}{mg:Str->Option Value}{bmB:List Value}(X:K.In h)(hm:mg x=some (.ref C))(q:PySem.W.excIn K C bmB newId=true):OwnCls x C bmB newId mg h:=by
 refine⟨hm,?_⟩;unfold PySem.W.excIn at q;split at q
 ·rename_i dd cd sl ho
  split at q
  ·rename_i C' bm k0 k1 k2 k3 n k5 hm' hs
   simp only[Bool.and_eq_true,beq_iff_eq,Bool.not_eq_true'] at q;obtain⟨⟨⟨⟨⟨rfl,rfl⟩,hdel⟩,ht⟩,hok⟩,hni⟩:=q;obtain⟨nm,bs,mro,ns,qn,hd,sn,sub,ab,col,del⟩:=cd;dsimp only at hm' hdel hok hni;subst hm' hdel
   have hsl:sl=#[k0,k1,k2,k3,some (.builtin n),k5]:=by
    obtain⟨l⟩:=sl;simp only at hs;rw[hs]
   subst hsl;exact⟨bm,ns,nm,qn,bs,hd,sn,sub,ab,col,dd,k0,k1,k2,k3,k5,_,X _ _ ho,.of_isNs (PySem.W.isNs_of_in X hok),PySem.W.nsMap_none_of_in X hok hni,PySem.W.tail_of_in X ht⟩
  ·cases q
 ·cases q
def tRaise(cls:Value)(E:XK)(t:TA):TS:=fun _ σ H=>t σ H fun vs H1=>vs.length<=sizeLine/\E cls none H1
theorem f8_(hh:X.calm=true)(R:Raises X E)(hm:X.mg x=some (.ref C))(qx:PySem.W.excIn X.K C bm newId=true)(FB:ExcBaseFacts B newId initId bm)(hg:Gl X x)(ha:PA X [e₀] t)
  (he:starEach [e₀] X.env=(false,eval e₀ X.env)::starEach [] X.env:=by rfl) (hpl:(backTo cpos (starEach [e₀] X.env)).any (·.1)=false:=by rfl) (hd:(x == ("__debug__":Str))=false:=by decide) :
  PS X (.Raise (some (.Call (.Name x np) [e₀] [] cpos)) none pos) (tRaise (.ref C) E t):=by
 intro pins s σ H D I h;have O:=ka_ I.ok.mod.kin hm qx;obtain⟨tl,N,nm,q,bs,hdct,sn,sub,ab,col,dd,k0,k1,k2,k3,k5,mN,hC,hN,hni,T⟩:=O.obj
 refine wpAny_Raise_call_subT (C:=C) (nm:=nm) (q:=q) (N:=N) (bs:=bs) (bm:=tl) (hdct:=hdct) (sn:=sn) (sub:=sub) (ab:=ab) (col:=col) (dd:=dd) (k0:=k0) (k1:=k1) (k2:=k2) (k3:=k3) (k5:=k5)
  FB (mN:=mN) (T.hasType FB.hasBase) (I.ok.hd hh) hpl hni (di_ I hg O.bound ⟨rfl,?_⟩ hd)
 have ha':=ha cpos pins s σ H _ I h;rw[he] at ha' ⊢;refine Calls.evalArgs_plain (wpAny_mono ha' (fun us s₂ ⟨vs,H1,I1,r,z,q⟩=>⟨rfl,by rw[<- r.length];exact z,I1.bk _ _ hC,hN.keeps I1.bk,T.keeps I1.bk,fun h' e hm=>R pins σ H1 s₂ h' e _ _ I1 hm q⟩) fun _ _ y=>y)
end
section
variable{P:Program}{w:World}{K:F__}{mg:Str->Option Value}{base:Heap}
theorem Fun.okX{x qual:Str}{st:Stmt}{f:Addr}{fd:FuncData}{N ps:List Str}{k:Nat}{sp:Sp}(F:Fun K x qual st f fd)(S:a7' N ps (a5' st))(len:∀vs H Q E,sp vs H Q E->vs.length=ps.length)
  (hbody:∀(cdv:Value) (A:Around) (outer:List Env) (s:Shared) (H:Hp) (vs:List V) (Q:VK) (E:XK),Room k (A.deeper (envOfC qual (a5' st) s.heap.objs.size f cdv))->sp vs H Q E->
   ∃t,PSs (cxOf (CX1 P w) P w K mg base N qual (a5' st) f cdv A outer s H E) (bb' st) t/\t { nx:=fun _ H'=>Q .non H',rt:=Q } (start N vs) H):FnOk P w K mg base (CX1 P w) (k+1) f fd ps sp:=by
 obtain⟨oc,od,kV,doc,pm,an,cdv,ct,osl,rfl,lk,hcd⟩:=F.ex;refine jF_ lk hcd S len fun A outer s H vs Q E hr hsp=>?_;obtain⟨t,h,q⟩:=hbody cdv A outer s H vs Q E hr hsp;exact⟨t,h,q⟩
end
end L2
namespace L2
open PySem PySem.Spec PySem.Calls PyProof.Rows PySem.W Builtin Builtin.ObjectAttr Builtin.Getset_descriptor
structure ExcK (K:F__) (C:Addr):Prop where
 cl:(clsIn K C).isSome=true
 ga:findIn K (.ref C) "__getattribute__"=some (some (.builtin "BaseException.__getattribute__"))
 ha:findIn K (.ref C) "__getattr__"=some none
 ca:findIn K (.ref C) "__class__"=some (some (.builtin "object.__class__"))
 gt:specialIn K (.builtin "object.__class__") "__get__"=some (some (.builtin "getset_descriptor.__get__"))
 tk:takesIn K (.builtin "object.__class__")=some true
 mo:mroIn K C (.type "object")=some true
 mb:mroIn K C (.type "BaseException")=some true
section
variable{prog:Program}{w:World}{A:Around}{E:Value->Shared->Prop}{s:Shared}{K:F__}{x C:Addr}
end
section
variable{X:Cx}
def rIsiC(K:F__):List V->Hp->VK->Prop:=fun xs H Q=>∃x C t b,xs=[x,.ref C]/\TyOf K H x t/\PySem.W.kitOne K t (.ref C)=some b/\Q (.bl b) H
theorem gx_:bu' X (.builtin "isinstance") (rIsiC X.K):=by
 intro pins s σ H xs us Q I r h;obtain⟨x,C,t,b,rfl,ty,e,q⟩:=h;obtain⟨u,w',rfl,ru,rw'⟩:=vals2 r;cases (show w'=Value.ref C from rw');exact e9_ I ru ty e fun tk=>⟨.bl b,H,I.tok tk,rfl,q⟩
end
end L2
namespace L2
open PySem PySem.Spec PyProof.Rows
section
variable{X:Cx}{pins:List (Addr × Obj)}{σ:St}{H:Hp}{s:Shared}{a:Addr}
end
section
variable{X:Cx}{st:Stmt}{e c:Expr}{te:XS->TE}{t u:XS->TS}{pos:Pos}{a b:List Stmt}{tc:TT}
end
section
variable{X:Cx}{k:Nat}{f C:Addr}{fd:FuncData}{ps:List Str}{sp:Sp}{dvs:List V}{ds:List Value}{ES:XS}{x m:Str}{p pos apos:Pos}{e o:Expr}{es:List Expr}{ta:TE}{t:TA}
end
section
variable{X:Cx}{i:Nat}{x n:Str}{D C:Addr}{np hpos pos:Pos}{b₀:Stmt}{suite body:List Stmt}{tb:XS->TS}{ts:TS}
end
end L2
namespace Ev
open PySem L2
abbrev sCell:Stmt:=top 61
abbrev sDigit:Stmt:=top 64
abbrev sLWeb:Stmt:=top 66
abbrev sGd:Stmt:=top 20
abbrev cG':Stmt:=top 29
abbrev sWords:Stmt:=top 30
abbrev sMixed:Stmt:=top 62
abbrev sState:Stmt:=top 63
abbrev sNamed:Stmt:=top 65
abbrev sCWays:Stmt:=top 56
abbrev cH':Stmt:=top 57
abbrev cq':Stmt:=top 58
abbrev cC':Stmt:=top 59
abbrev cT':Stmt:=top 23
abbrev ci':Stmt:=top 24
abbrev sLM:Stmt:=top 21
abbrev sMult:Stmt:=top 25
abbrev c3':Stmt:=top 26
abbrev cX':Stmt:=top 13
abbrev sHvF:Stmt:=top 31
abbrev dg':Stmt:=top 32
abbrev sShM:Stmt:=top 35
abbrev cc':Stmt:=top 38
abbrev cK':Stmt:=top 39
abbrev sSeen:Stmt:=top 41
abbrev cP':Stmt:=top 42
abbrev cd':Stmt:=top 43
abbrev cm':Stmt:=top 44
abbrev cv':Stmt:=top 67
abbrev sWaysL:Stmt:=top 68
abbrev cJ':Stmt:=top 69
abbrev sWorld:Stmt:=top 70
abbrev sHeld:Stmt:=top 71
abbrev sDrop:Stmt:=top 72
abbrev sMayL:Stmt:=top 73
abbrev sHvL:Stmt:=top 75
abbrev cn':Stmt:=top 77
abbrev sLaw:Stmt:=top 79
def But(l:Addr)(H H':Hp):Prop:=∀b o,H b=some o->b≠l->H' b=some o
theorem But.trans{l:Addr}{H H1 H2:Hp}(h:But l H H1)(h2:But l H1 H2):But l H H2:=fun b o e n=>h2 b o (h b o e n) n
theorem But.of{l:Addr}{H H1:Hp}(h:Same H H1):But l H H1:=fun b o e _=>h b o e
theorem But.upd{l:Addr}{H:Hp}{o:HO}:But l H (upd H l o):=fun b u e n=>by rw[a4_ n];exact e
def stt(H:Hp)(l:Addr):Prop:=∃a b c:Int,H l=some (.lst [.int a,.int b,.int c])
theorem stt.some{H:Hp}{l:Addr}(h:stt H l):∃xs,H l=some (.lst xs):=by
 obtain⟨a,b,c,e⟩:=h;exact⟨_,e⟩
theorem stt.same{H H':Hp}{l:Addr}(h:stt H l)(s:Same H H'):stt H' l:=by
 obtain⟨a,b,c,e⟩:=h;exact⟨a,b,c,s _ _ e⟩
theorem stt.ne{H:Hp}{l a:Addr}(h:stt H l)(e:H a=none):a≠l:=by
 rintro rfl;obtain⟨x,y,z,h⟩:=h;rw[e] at h;cases h
theorem But.free{l b:Addr}{H H':Hp}(h:But l H H')(s:stt H' l)(e:H' b=none):H b=none:=by
 cases z:H b with
 |none=>rfl
 |some o=>
  by_cases q:b=l
  ·subst q;obtain⟨x,y,u,s⟩:=s;rw[e] at s;cases s
  ·rw[h b o z q] at e;cases e
theorem bW'{α:Type}{xs:List α}{i:Int}(h0:0<=i)(h1:i<xs.length):atI xs i=xs[i.toNat]?:=by
 unfold atI ixN;rw[if_pos h0,if_pos h1];rfl
section
variable{P:Program}{w:World}{K:F__}{mg:Str->Option Value}{base:Heap}
end
end Ev
namespace Ev
open PySem L2
theorem hw_:("abcdefghijklmnopqrstuvwxyz":Str).cps.toList=[97,98,99,100,101,102,103,104,105,106,107,108,109,110,111,112,113,114,115,116,117,118,119,120,121,122]:=by decide +kernel
end Ev
namespace Ev
open PySem L2
def dm'{α:Type}(l:List α)(k:Nat)(x:α):List α:=l.take k++x::l.drop k
theorem c4_{α:Type}(l:List α)(k:Nat)(x:α):(dm' l k x).Perm (x::l):=by
 unfold dm';refine List.perm_middle.trans ?_;rw[List.take_append_drop]
theorem g7_{α:Type}(l:List α)(k:Nat)(x:α):(dm' l k x).length=l.length+1:=(c4_ l k x).length_eq
theorem hit2{α:Type}{a b:α}{r:Int}(h0:0<=r)(h1:r<2):atI [a,b] r=some a∨atI [a,b] r=some b:=by
 have:r=0∨r=1:=by omega
 rcases this with rfl|rfl
 ·exact .inl rfl
 ·exact .inr rfl
section
theorem b4_{K:F__}{H H':Hp}{l:Addr}{ys:List V}{ks:List (List Key)}(t:a8' K H ys ks)(b:But l H H'){xs:List V}(hl:H l=some (.lst xs)):a8' K H' ys ks:=Paired.mapP t fun y k ⟨a,z,q⟩=>⟨a,z,b _ _ q (az_ q hl nofun)⟩
end
end Ev
namespace Ev
open PySem L2
def kO(t:Str × Str):List Key:=kT (ord2 t.1 t.2)
structure TI (ns:List Str) (k j:Nat) (ts:List (Str × Str)):Prop where
 at':∀t∈ts,∃(a b:Nat) (x y:Str),b<a/\(a<k∨(a=k/\b<j))/\ns[a]? = some x/\ns[b]? = some y/\(t=(x,y)∨t=(y,x))
 nd:(ts.map kO).Nodup
 len:ts.length<=7 * k+j
theorem TI.skip{ns:List Str}{k j:Nat}{ts:List (Str × Str)}(h:TI ns k j ts):TI ns k (j+1) ts:=
 ⟨fun t ht=>let ⟨a,b,x,y,h1,h2,h3,h4,h5⟩:=h.at' t ht;⟨a,b,x,y,h1,by omega,h3,h4,h5⟩,h.nd,by have:=h.len;omega⟩
theorem TI.next{ns:List Str}{k:Nat}{ts:List (Str × Str)}(h:TI ns k k ts)(h7:k<=7):TI ns (k+1) 0 ts:=
 ⟨fun t ht=>let ⟨a,b,x,y,h1,h2,h3,h4,h5⟩:=h.at' t ht;⟨a,b,x,y,h1,by omega,h3,h4,h5⟩,h.nd,by have:=h.len;omega⟩
theorem dC_{a b:Str × Str}(h:kT a=kT b):a=b:=by
 unfold kT at h;obtain⟨h1,h2⟩:=List.cons.inj h;obtain⟨h2,_⟩:=List.cons.inj h2;exact Prod.ext (Sum.inr.inj h1) (Sum.inr.inj h2)
theorem cJ_{ns:List Str}(nd:ns.Nodup){i j:Nat}{x:Str}(h:ns[i]? = some x)(h2:ns[j]? = some x):i=j:=by
 obtain⟨hi,e1⟩:=ab'.mp h;obtain⟨hj,e2⟩:=ab'.mp h2;exact (List.getElem_inj nd).mp (e1.trans e2.symm)
theorem fU_{a b c d:Str}(h:kO (a,b)=kO (c,d)):(a=c/\b=d)∨(a=d/\b=c):=by
 have h:=dC_ h;dsimp only at h;rcases df_ a b with e|e<;>rcases df_ c d with e2|e2<;>rw[e,e2] at h<;>have h1:=(Prod.mk.inj h).1<;>have h2:=(Prod.mk.inj h).2
 ·exact .inl ⟨h1,h2⟩
 ·exact .inr ⟨h1,h2⟩
 ·exact .inr ⟨h2,h1⟩
 ·exact .inl ⟨h2,h1⟩
theorem TI.add{ns:List Str}{k j:Nat}{ts:List (Str × Str)}(h:TI ns k j ts)(nd:ns.Nodup){x y:Str}{t:Str × Str}(hj:j<k)(hx:ns[k]? = some x)(hy:ns[j]? = some y)(ht:t=(x,y)∨t=(y,x))(q:Nat):TI ns k (j+1) (dm' ts q t):=by
 refine⟨fun u hu=>?_,?_,by have:=h.len;rw[g7_];omega⟩
 ·rcases aj'.mp ((c4_ _ _ _).mem_iff.mp hu) with rfl|hu
  ·exact⟨k,j,x,y,hj,.inr ⟨rfl,by omega⟩,hx,hy,ht⟩
  ·exact h.skip.at' u hu
 ·refine ((c4_ ts q t).map kO).nodup_iff.mpr ?_;rw[ao'];refine aI'.mpr ⟨fun m=>?_,h.nd⟩;obtain⟨u,hu,e⟩:=ad'.mp m;obtain⟨a,b,c,d,h1,h2,h3,h4,h5⟩:=h.at' u hu
  have key:(c=x/\d=y)∨(c=y/\d=x):=by
   rcases h5 with rfl|rfl<;>rcases ht with rfl|rfl<;>rcases fU_ e with⟨q1,q2⟩|⟨q1,q2⟩<;>simp_all
  rcases key with⟨rfl,rfl⟩|⟨rfl,rfl⟩
  ·have:=cJ_ nd h3 hx;have:=cJ_ nd h4 hy;omega
  ·have:=cJ_ nd h3 hy;have:=cJ_ nd h4 hx;omega
theorem TI.good{ns:List Str}{k j:Nat}{ts:List (Str × Str)}(h:TI ns k j ts)(nd:ns.Nodup)(ok:∀n∈ns,bz' n=true):∀t∈ts,c0' t/\t.1∈ns/\t.2∈ns:=fun t ht=>by
 obtain⟨a,b,x,y,h1,h2,h3,h4,h5⟩:=h.at' t ht;have mx:=ac' h3;have my:=ac' h4
 have ne:x≠y:=fun e=>by
  subst e;have:=cJ_ nd h3 h4;omega
 rcases h5 with rfl|rfl
 ·exact⟨⟨ok _ mx,ok _ my,ne⟩,mx,my⟩
 ·exact⟨⟨ok _ my,ok _ mx,ne.symm⟩,my,mx⟩
theorem hI_(ns:List Str)(k:Nat):cutV (ns.map V.str) none (some (k:Int))=(ns.take k).map V.str:=by
 unfold cutV;rw[HT.sIx_none,HT.sIx_nat,List.drop_zero,Nat.sub_zero,List.map_take,aa'];by_cases h:k<=ns.length
 ·rw[Nat.min_eq_left h]
 ·rw[Nat.min_eq_right (by omega),aL' (by rw[aa'];omega),aL' (by rw[aa'];omega)]
end Ev
namespace Ev
open PySem L2
theorem ex_(a:Str):ltS a a=false:=gr_ (Sum.inr a)
theorem hj_{a b:Str}(h:ltS a b=true):ltS b a=false:=dK_ (a:=Sum.inr a) (b:=Sum.inr b) h
theorem iR_{a b:Str}(h:ltS a b=false)(h2:ltS b a=false):a=b:=Sum.inr.inj (fX_ (a:=Sum.inr a) (b:=Sum.inr b) h h2)
theorem lexS(a b:Str):lexK (keyS a) (keyS b)=ltS a b:=by
 show (if (Sum.inr a:Key)=Sum.inr b then false else ltS a b)=ltS a b;by_cases h:a=b
 ·subst h;rw[if_pos rfl,ex_]
 ·rw[if_neg fun e=>h (Sum.inr.inj e)]
def SAsc(ns:List Str):Prop:=ns.Pairwise fun a b=>ltS b a=false
theorem SAsc.keys{ns:List Str}(h:SAsc ns):Asc (ns.map keyS):=by
 unfold Asc;rw[aF'];exact h.imp fun q=>by rw[lexS];exact q
theorem cB_{a b:List Str}(p:a.Perm b)(h1:SAsc a)(h2:SAsc b):a=b:=f5_ (c0_ (p.map keyS) h1.keys h2.keys)
theorem cC_(ss:List Str):SAsc (sortS ss):=by
 have h:=bB_ (ss.map keyS);rw[<- c5_] at h;unfold Asc at h;rw[aF'] at h;exact h.imp fun q=>by rw[lexS] at q;exact q
theorem gQ_(hs:List (Str × Int)):SAsc (a6' hs):=by
 unfold a6' SAsc;rw[aF'];refine (bB_ (hs.map kH)).imp_of_mem fun {a b} ha hb q=>?_;obtain⟨x,_,rfl⟩:=by_ hs a ha;obtain⟨y,_,rfl⟩:=by_ hs b hb;show ltS y.1 x.1=false;by_cases h:y.1=x.1
 ·rw[h,ex_]
 ·have q:(if (Sum.inr y.1:Key)=Sum.inr x.1 then lexK [Sum.inl y.2] [Sum.inl x.2] else ltS y.1 x.1)=false:=q;rwa [if_neg fun e=>h (Sum.inr.inj e)] at q
theorem fP_(hs:List (Str × Int)):a6' hs=sortS (hs.map (·.1)):=cB_ ((al_ hs).trans (ak_ _).symm) (gQ_ hs) (cC_ _)
theorem bV_(a b:Str):ord2 a b=ord2 b a:=by
 unfold ord2;by_cases h:ltS a b=true
 ·rw[if_pos h,if_neg (by rw[hj_ h];decide)]
 ·by_cases h2:ltS b a=true
  ·rw[if_neg h,if_pos h2]
  ·have:=iR_ (by simpa using h) (by simpa using h2);subst this;rw[if_neg h]
theorem b3'{ts:List (Str × Str)}{x:Str × Str}:x∈tsOf ts ↔ ∃t∈ts,ord2 t.1 t.2=x:=by
 have e:kT x∈(tsOf ts).map kT ↔ x∈tsOf ts:=⟨fun h=>by
  obtain⟨y,hy,e⟩:=ad'.mp h;rw[<- dC_ e];exact hy,fun h=>ad'.mpr ⟨x,h,rfl⟩⟩
 rw[<- e,cx_,(as_ _).mem_iff,ad'];exact⟨fun⟨t,ht,q⟩=>⟨t,ht,dC_ q⟩,fun⟨t,ht,q⟩=>⟨t,ht,by rw[q]⟩⟩
theorem eA_(a b:Str):kO (a,b)=kO (b,a):=by
 show kT (ord2 a b)=kT (ord2 b a);rw[bV_]
end Ev
namespace L2
open PySem PySem.Spec PyProof.Rows
section
variable{X:Cx}
def rSlS:V->Option Int->Option Int->Hp->VK->Prop:=fun x lo hi H Q=>∃z,x=.str z/\z.length<=sizeLine/\Q (.str (Txt.slice z lo hi)) H
theorem iD_:SlR X rSlS:=by
 intro pins s σ H x v vl vu lo hi sl Q I rx hs pl pu h;obtain⟨z,rfl,hz,q⟩:=h;obtain⟨t,rfl⟩:=rx;refine⟨"str",_,PySem.F.slot_str_getitem.lookup,typeIs_str _ _ _,?_⟩
 have fin:∀lo hi,Q (.str (Txt.slice z lo hi)) H->(Txt.slice z lo hi).length<=sizeLine/\∀t' k,EP X pins σ Q (.str (Txt.slice z lo hi) t') { s with toks:=k }:=fun lo hi q=>
  ⟨aU' (Txt.slice_le z _ _) hz,fun t' k=>⟨.str _,H,I.kept (h':=s.heap) (t':=k) fun _ _ e=>e,⟨t',rfl⟩,q⟩⟩
 cases pl with
 |none=>
  cases pu with
  |none=>exact wpAny_getItem_str_slice (l:=none) (u:=none) (st:=none) hs rfl (post_val_or_str (fin _ _ q))
  |int j u=>exact wpAny_getItem_str_slice (l:=none) (u:=some (j,u)) (st:=none) hs rfl (post_val_or_str (fin _ _ q))
 |int i u=>
  cases pu with
  |none=>exact wpAny_getItem_str_slice (l:=some (i,u)) (u:=none) (st:=none) hs rfl (post_val_or_str (fin _ _ q))
  |int j u'=>exact wpAny_getItem_str_slice (l:=some (i,u)) (u:=some (j,u')) (st:=none) hs rfl (post_val_or_str (fin _ _ q))
theorem ki_{x:Str}{j:Nat}(h:j<=x.length):(Txt.slice x none (some (j:Int))).cps.toList=x.cps.toList.take j:=by
 have:=eq_of_beq (slice_closes_toL (x:=x) (j:=(j:Int)) (by omega) (by omega));rw[this];simp
theorem hS_{x:Str}{i:Nat}(h:i<=x.length):(Txt.slice x (some (i:Int)) none).cps.toList=x.cps.toList.drop i:=by
 rw[slice_from_eq (x:=x) (i:=(i:Int)) (b:=(x.length:Int)) (by omega) (by omega) rfl]
 have:((x.length:Int) - (i:Int)).toNat=x.cps.toList.length - i:=by
  have:x.length=x.cps.toList.length:=by rw[aH'];rfl
  omega
 rw[this];simp;rw[aL'];simp
end
end L2
namespace L2
open PySem PySem.Spec PyProof.Rows PySem.Builtin PySem.Builtin.Str
theorem eP_:∀{ss:List Str} {us:List Value},Vals (ss.map V.str) us->StrsAre us ss
 |[],_,.nil=>.nil
 |x::ss,_,.cons r rs=>by
  obtain⟨t,rfl⟩:=r;exact .cons x t (eP_ rs)
section
variable{X:Cx}
def rJoin(K:F__):V->List V->Hp->VK->Prop:=fun x vs H Q=>∃(sep:Str) (p:Addr) (ss:List Str),x=.str sep/\vs=[.ref p]/\SqL K H p (ss.map V.str)/\(ss.map (·.length)).sum+ss.length * sep.length<=16777216/\Q (.str (Txt.join sep ss)) H
theorem ji_:MtM X "str.join" (rJoin X.K):=by
 intro pins s σ H x vs v us Q I rx rv h;obtain⟨sep,p,ss,rfl,rfl,hp,hz,q⟩:=h;obtain⟨t,rfl⟩:=rx;obtain⟨u,rfl,ru⟩:=rv.one;cases (show u=Value.ref p from ru);obtain⟨its,r,ht,_⟩:=I.list hp;exact join_list ht.isList (eP_ r) hz fun t' k=>⟨.str _,H,I.tok k,⟨t',rfl⟩,q⟩
end
end L2
namespace L2
open PySem PySem.Spec PyProof.Rows PySem.W
section
variable{X:Cx}
def rMulS:R2:=fun x y H Q=>∃z n,x=.str z/\y=.int n/\PySem.MulOk z n/\Q (.str (Txt.mul z n)) H
theorem j0_:OpR X (binaryOp .Mult) rMulS:=by
 intro pins s σ H x y v u Q I rx ry h;obtain⟨z,n,rfl,rfl,ok,q⟩:=h;obtain⟨t,rfl⟩:=rx;obtain⟨t2,rfl⟩:=ry;exact SB.mul ok fun t' k=>⟨.str _,H,I.tok _,⟨_,rfl⟩,q⟩
end
end L2
namespace Ev
open PySem L2
theorem hitL{α:Type}{p:α->Prop}{xs:List α}{r:Int}{n:Nat}(hn:xs.length=n)(h0:0<=r)(h1:r<(n:Int))(h:∀v∈xs,p v):∃v,atI xs r=some v/\p v:=by
 have hl:r.toNat<xs.length:=by omega
 refine⟨xs[r.toNat],?_,h _ (List.getElem_mem hl)⟩;rw[bW' h0 (by omega),ae' hl]
section
variable{P:Program}{w:World}{K:F__}{mg:Str->Option Value}{base:Heap}
theorem scCell:a7' ["_law_script","_law_k"] ["_law_script","_law_k"] (a5' sCell):=f__
def spCell(K:F__):Sp:=fun vs H Q _=>∃(l:Addr) (ns:List Int) (k:Int),vs=[.ref l,.int k]/\0<=k/\SqL K H l (ns.map V.int)/\∀n,Q (.int n) H
theorem jL_{f:Addr}{fd:FuncData}(F:Fun K "_law_cell_at" "_law_cell_at" sCell f fd)(B:Bi mg):FnOk P w K mg base CX0 1 f fd ["_law_script","_law_k"] (spCell K):=by
 refine F.ok scCell (fun vs H Q E h=>?_) (fun cdv A outer s H vs Q E hr h=>?_)
 ·obtain⟨l,ns,k,rfl,_⟩:=h;rfl
 ·obtain⟨l,ns,i,rfl,h0,hl,k⟩:=h;refine⟨_,a2_ (aC_ (ao_ kd_ (pv 1) (ad_ aD_ (by rfl) B.len PySem.boot_len (a0_ (pv 0) a3_)) (nomark _)) (a5_ (ab_ (aF_ b2_ (pv 0) (pv 1) (fun _ _=>rfl)))) ae_) (a5_ (ab_ a7_)),?_⟩;refine⟨_,rfl,_,rfl,l,_,rfl,.inl hl,_,_,rfl,rfl,_,rfl,?_⟩;refine ite2 (fun c=>?_) (fun c=>?_)
  ·have c:i<(ns.map V.int).length:=by simpa using c
   have e:atI (ns.map V.int) i=some (.int (ns[i.toNat]'(by rw[aa'] at c;omega))):=by
    rw[bW' h0 c,an',ae' (by rw[aa'] at c;omega)];rfl
   exact⟨_,rfl,_,rfl,l,_,_,_,rfl,rfl,hl,e,k _⟩
  ·exact k 0
theorem c1':a7' ["_law_number"] ["_law_number"] (a5' sMixed):=f__
def spMixed:Sp:=fun vs H Q _=>∃n:Int,vs=[.int n]/\∀r:Int,Q (.int r) H
theorem small(x:Int):-(2 ^ 64)<x % 2147483647/\x % 2147483647<2 ^ 64:=by
 have a:=Int.emod_nonneg x (show (2147483647:Int)≠0 by decide);have b:=Int.emod_lt_of_pos x (show (0:Int)<2147483647 by decide);omega
theorem small1(x:Int):-(2 ^ 64)<x % 2147483647+1/\x % 2147483647+1<2 ^ 64:=by
 have a:=Int.emod_nonneg x (show (2147483647:Int)≠0 by decide);have b:=Int.emod_lt_of_pos x (show (0:Int)<2147483647 by decide);omega
theorem i2_{f:Addr}{fd:FuncData}(F:Fun K "_law_mixed" "_law_mixed" sMixed f fd):FnOk P w K mg base CX0 1 f fd ["_law_number"] spMixed:=by
 refine F.ok c1' (fun vs H Q E h=>?_) (fun cdv A outer s H vs Q E hr h=>?_)
 ·obtain⟨n,rfl,_⟩:=h;rfl
 ·obtain⟨n,rfl,k⟩:=h;refine' ⟨_,a2_ ?s1 (a2_ ?s2 ?s3),?kk⟩
  case s1=>exact aa_ (i:=0) c1'.nd rfl (Or.inl rfl) (aj_ bX_ (aj_ ba_ (aj_ aR_ (aj_ bX_ (pv 0) a7_) a7_) a7_) a7_)
  case s2=>exact aa_ (i:=0) c1'.nd rfl (Or.inl rfl) (aj_ bX_ (aj_ ba_ (pv 0) (aj_ aR_ (aj_ bi_ (pv 0) a7_) a7_)) a7_)
  case s3=>exact a5_ (ab_ (aj_ bX_ (aj_ ba_ (aj_ aR_ (pv 0) a7_) (aj_ aR_ (aj_ bi_ (pv 0) a7_) a7_)) a7_))
  case' kk=>skip
  refine⟨_,rfl,_,_,rfl,rfl,by show (0:Int)<2147483647;decide,_,_,rfl,rfl,_,_,rfl,rfl,.inl (small1 n),_,_,rfl,rfl,by show (0:Int)<2147483647;decide,?_⟩;refine⟨_,rfl,_,rfl,_,_,rfl,rfl,⟨by decide,by decide⟩,_,_,rfl,rfl,_,_,rfl,rfl,.inl (small _),_,_,rfl,rfl,by show (0:Int)<2147483647;decide,?_⟩;exact⟨_,rfl,_,_,rfl,rfl,_,rfl,_,_,rfl,rfl,⟨by decide,by decide⟩,_,_,rfl,rfl,_,_,rfl,rfl,.inl (small1 _),_,_,rfl,rfl,by show (0:Int)<2147483629;decide,k _⟩
theorem scState:a7' ["_law_cell","_law_k"] ["_law_cell","_law_k"] (a5' sState):=f__
def spState:Sp:=fun vs H Q _=>∃(c:Int) (i:Nat),vs=[.int c,.int i]/\i<100/\∀l H',Same H H'->H l=none->stt H' l->Q (.ref l) H'
theorem hP_{f:Addr}{fd:FuncData}(F:Fun K "_law_state" "_law_state" sState f fd):FnOk P w K mg base CX0 1 f fd ["_law_cell","_law_k"] spState:=by
 refine F.ok scState (fun vs H Q E h=>?_) (fun cdv A outer s H vs Q E hr h=>?_)
 ·obtain⟨c,i,rfl,_⟩:=h;rfl
 ·obtain⟨c,i,rfl,hi,k⟩:=h;refine⟨_,a5_ (ab_ (aX_ (a0_ (aj_ bi_ (pv 0) a7_) (a0_ (aj_ bX_ (pv 0) a7_) (a0_ (aj_ aR_ (pv 0) (aj_ ba_ a7_ (pv 1))) a3_))))),?_⟩;refine⟨_,rfl,_,_,rfl,rfl,⟨by decide,by decide⟩,_,rfl,_,_,rfl,rfl,by show (0:Int)<2;decide,_,rfl,_,rfl,_,_,rfl,rfl,.inl ⟨by decide,by decide⟩,_,_,rfl,rfl,by show 3<=sizeLine;decide,fun l hl=>?_⟩;exact k l _ (Same.new hl) hl ⟨_,_,_,a1_⟩
theorem scDigit:a7' ["_law_state_here","_law_base","_law_found"] ["_law_state_here","_law_base"] (a5' sDigit):=f__
def bH':Sp:=fun vs H Q _=>∃(l:Addr) (b:Int),vs=[.ref l,.int b]/\0<b/\b<1073741824/\stt H l/\∀r H',0<=r->r<b->But l H H'->stt H' l->Q (.int r) H'
theorem hH_{f:Addr}{fd:FuncData}(F:Fun K "_law_digit" "_law_digit" sDigit f fd)(cM:Cal P w K mg base 1 "_law_mixed" ["_law_number"] spMixed):FnOk P w K mg base CX0 2 f fd ["_law_state_here","_law_base"] bH':=by
 refine F.ok scDigit (fun vs H Q E h=>?_) (fun cdv A outer s H vs Q E hr h=>?_)
 ·obtain⟨l,b,rfl,_⟩:=h;rfl
 ·obtain⟨l,b,rfl,h0,h1,⟨x,y,z,hl⟩,k⟩:=h;refine' ⟨_,a2_ ?s1 (a2_ ?s2 ?s3),?kk⟩
  case s1=>exact aC_ (dV_ (ao_ cX_ (aF_ b2_ (pv 0) a7_ (fun _ _=>rfl)) a7_ (nomark _)) (du_ (ao_ es_ (aF_ b2_ (pv 0) a7_ (fun _ _=>rfl)) a7_ (nomark _)))).pt (a2_ (aa_ (i:=2) scDigit.nd rfl (Or.inl rfl) (aj_ bX_ (aF_ b2_ (pv 0) a7_ (fun _ _=>rfl)) (pv 1))) (a2_ (f7_ (aj_ bi_ (aF_ b2_ (pv 0) a7_ (fun _ _=>rfl)) (pv 1)) (iM_ (pv 0) a7_ fj_)) (a5_ (ab_ (pv 2))))) ae_
  case s2=>exact f7_ (ah_ cM hr (a0_ (aj_ aR_ (aF_ b2_ (pv 0) a7_ (fun _ _=>rfl)) a7_) a3_)) (iM_ (pv 0) a7_ fj_)
  case s3=>exact a5_ (ab_ (aj_ bX_ (aj_ bi_ (aF_ b2_ (pv 0) a7_ (fun _ _=>rfl)) a7_) (pv 1)))
  case' kk=>skip
  have other:∀{R:Prop},R->R:=fun h=>h;refine⟨_,rfl,l,_,_,_,rfl,rfl,.of hl,rfl,rfl,_,rfl,?_⟩;refine ite2 (fun c=>?_) (fun c=>?_)
  ·refine⟨_,rfl,l,_,_,_,rfl,rfl,.of hl,rfl,_,_,rfl,rfl,_,rfl,?_⟩;refine ite2 (fun c2=>?_) (fun c2=>?_)
   ·refine⟨_,rfl,l,_,_,_,rfl,rfl,.of hl,rfl,_,rfl,_,_,rfl,rfl,h0,?_⟩;refine⟨_,rfl,l,_,_,_,rfl,rfl,.of hl,rfl,_,rfl,_,_,rfl,rfl,⟨h0,h1⟩,_,rfl,l,_,_,0,rfl,rfl,hl,rfl,?_⟩;exact⟨_,rfl,k _ _ (Int.emod_nonneg _ (by omega)) (Int.emod_lt_of_pos _ h0) But.upd ⟨_,_,_,a1_⟩⟩
   ·refine⟨_,rfl,l,_,_,_,rfl,rfl,.of hl,rfl,_,_,rfl,rfl,_,rfl,fun r=>⟨_,rfl,l,_,_,2,rfl,rfl,hl,rfl,?_⟩⟩;refine⟨_,rfl,l,_,_,_,rfl,rfl,.of a1_,rfl,_,_,rfl,rfl,⟨by decide,by decide⟩,_,rfl,_,_,rfl,rfl,h0,?_⟩;exact k _ _ (Int.emod_nonneg _ (by omega)) (Int.emod_lt_of_pos _ h0) But.upd ⟨_,_,_,a1_⟩
  ·refine⟨_,rfl,l,_,_,_,rfl,rfl,.of hl,rfl,_,_,rfl,rfl,_,rfl,fun r=>⟨_,rfl,l,_,_,2,rfl,rfl,hl,rfl,?_⟩⟩;refine⟨_,rfl,l,_,_,_,rfl,rfl,.of a1_,rfl,_,_,rfl,rfl,⟨by decide,by decide⟩,_,rfl,_,_,rfl,rfl,h0,?_⟩;exact k _ _ (Int.emod_nonneg _ (by omega)) (Int.emod_lt_of_pos _ h0) But.upd ⟨_,_,_,a1_⟩
end
end Ev
namespace Ev
open PySem L2
theorem seqG{t u:TS}{D:Ends}{σ:St}{H:Hp}(R:St->Hp->Prop)(later:∀σ H,R σ H->u D σ H)(now:∀N:St->Hp->Prop,(∀σ H,R σ H->N σ H)->t { D with nx:=N } σ H):tSeq t u D σ H:=now (u D) later
theorem setG{i:Nat}{v:V}{σ:St}{H:Hp}{N:St->Hp->Prop}(h:N (σ.set i (some v)) H):b1' i v σ H N:=h
theorem stt.upd{H:Hp}{l a:Addr}{o:HO}(h:stt H l)(n:a≠l):stt (L2.upd H a o) l:=by
 obtain⟨x,y,z,e⟩:=h;exact⟨x,y,z,by rw[a4_ n.symm];exact e⟩
theorem But.snd{l a:Addr}{H H':Hp}{o:HO}(h:But l H H')(e:H a=none):But l H (L2.upd H' a o):=fun b u q n=>by
 rw[a4_ (a6_ q e)];exact h b u q n
theorem hv_(sep:Str)(ss:List Str):(Txt.join sep ss).length<=(ss.map (·.length)).sum+ss.length * sep.length:=by
 show (Builtin.Str.glued sep ss).length<=_;rw[size_glued];have:(ss.length - 1) * sep.length<=ss.length * sep.length:=Nat.mul_le_mul_right _ (by omega);omega
theorem k7_{ss:List Str}{m:Nat}(h:∀x∈ss,x.length<=m):(ss.map (·.length)).sum<=m * ss.length:=by
 induction ss with
 |nil=>simp
 |cons x ss ih=>
  have a:=h x ah';have b:=ih fun y hy=>h y (af' _ hy);rw[ao',List.sum_cons,aC',Nat.mul_add,Nat.mul_one];omega
theorem ia_{ss:List Str}(h:∀x∈ss,∀c∈x.cps.toList,okc c=true):∀c∈(Txt.join "" ss).cps.toList,okc c=true:=by
 rw[show Txt.join "" ss=Str.join "" ss from StrLaws.glued_eq_join "" ss];intro c hc;rcases (PyProof.Rows.mem_join (sep:="") (ts:=ss) c).mp hc with⟨t,ht,m⟩|⟨_,m⟩
 ·exact h t ht c m
 ·rw[show ("":Str)=⟨#[]⟩ by decide +kernel] at m;simp at m
theorem b1_(x:Str):x.length=x.cps.toList.length:=by rw[aH'];rfl
theorem gy_(a b:Str):(a++b).cps.toList=a.cps.toList++b.cps.toList:=by rw[PySem.Str.cps_append,Array.toList_append]
theorem abc_len:("abcdefghijklmnopqrstuvwxyz":Str).length=26/\("abcdefghijklmnopqrstuvwxyz":Str).cps.toList.length=26:=by decide +kernel
theorem gR_{q:Nat}(h:q<26):atI ("abcdefghijklmnopqrstuvwxyz":Str).cps.toList (q:Int)=some (97+q):=by
 rw[bW' (by omega) (by rw[abc_len.2];omega),hw_];have:∀q:Fin 26,([97,98,99,100,101,102,103,104,105,106,107,108,109,110,111,112,113,114,115,116,117,118,119,120,121,122]:List Nat)[(q.val:Int).toNat]? = some (97+q.val):=by decide +kernel
 exact this ⟨q,h⟩
theorem gK_{q:Nat}(h:q<26):okc (97+q)=true:=by
 unfold okc;simp;omega
structure Nm (m:Nat) (ns:List Str):Prop where
 len:ns.length=m
 nd:ns.Nodup
 ok:∀n∈ns,bz' n=true
theorem ju_{m f:Nat}{ns:List Str}{a b:List Nat}(hm:m<=30)(hl:ns.length=m)(oa:∀c∈a,okc c=true)(ob:∀c∈b,okc c=true)(l7:a.length+b.length<=6)
  (h:∀k n,ns[k]? = some n->n.cps.toList=a++(97+(f+7 * k) % 26)::(b++List.replicate (k / 26) 122)):Nm m ns:=by
 refine⟨hl,?_,?_⟩
 ·refine ay'.mpr (List.pairwise_iff_getElem.mpr fun i j hi hj hij e=>?_);have e1:=h i _ (ae' hi);have e2:=h j _ (ae' hj);rw[e,e2] at e1;obtain⟨c1,c2⟩:=List.cons.inj (List.append_cancel_left e1);have c3:=congrArg List.length c2;rw[aq',aq',aJ',aJ'] at c3;omega
 ·intro n hn;obtain⟨k,hk⟩:=List.mem_iff_getElem?.mp hn;have e:=h k n hk;unfold bz';rw[b1_,e]
  have hk30:k<30:=by
   have:=(ab'.mp hk).1;omega
  simp only[aq',aC',aJ',List.all_append,List.all_cons,Bool.and_eq_true,decide_eq_true_eq,List.all_eq_true];exact⟨⟨by omega,by omega⟩,oa,gK_ (Nat.mod_lt _ (by decide)),ob,fun c hc=>by rw[(List.mem_replicate.mp hc).2];rfl⟩
abbrev nW1:List Str:=["_law_k","_law_letters","_law_state_here"]
abbrev nW2:List Str:=["_law_k","_law_first","_law_letters"]
abbrev nW3:List Str:=["_law_k","_law_place","_law_signs","_law_stem"]
theorem mulZ{q:Nat}(h:q<=1):PySem.MulOk "z" (q:Int)/\(Txt.mul "z" (q:Int)).cps.toList=List.replicate q 122:=by
 have:q=0∨q=1:=by omega
 rcases this with rfl|rfl
 ·exact⟨by unfold PySem.MulOk;decide +kernel,by decide +kernel⟩
 ·exact⟨by unfold PySem.MulOk;decide +kernel,by decide +kernel⟩
section
variable{P:Program}{w:World}{K:F__}{mg:Str->Option Value}{base:Heap}
theorem bT':a7' ["_law_state_here","_law_many","_law_letters","_law_stem","_law_place","_law_first","_law_signs"] ["_law_state_here","_law_many"] (a5' sNamed):=f__
def cF':Sp:=fun vs H Q _=>∃(l:Addr) (m:Nat),vs=[.ref l,.int m]/\m<=30/\stt H l/\∀(a:Addr) (ns:List Str) (H':Hp),But l H H'->stt H' l->H a=none->H' a=some (.lst (ns.map V.str))->Nm m ns->Q (.ref a) H'
set_option maxHeartbeats 1600000 in
theorem ig_{f:Addr}{fd:FuncData}(F:Fun K "_law_named" "_law_named" sNamed f fd)(B:Bi mg)(cD:Cal P w K mg base 2 "_law_digit" ["_law_state_here","_law_base"] bH'):FnOk P w K mg base CX0 3 f fd ["_law_state_here","_law_many"] cF':=by
 refine F.ok bT' (fun vs H Q E h=>?_) (fun cdv A outer s H vs Q E hr h=>?_)
 ·obtain⟨l,m,rfl,_⟩:=h;rfl
 ·obtain⟨l,m,rfl,m8,st,k⟩:=h;have sz:=sizeLine_eq;refine' ⟨_,?r0,?kk⟩
  case' r0=>refine' a2_ ?s1 ?r1
  case' r1=>refine' a2_ ?s2 ?r2
  case' r2=>refine' a2_ ?s3 ?r3
  case' r3=>refine' a2_ ?s4 ?r4
  case' r4=>refine' a2_ ?s5 ?r5
  case' r5=>refine' a5_ ?s6
  case s1=>exact aa_ (i:=2) bT'.nd rfl (Or.inr rfl) au_
  case' s2=>refine' aa_ (i:=3) bT'.nd rfl (Or.inr rfl) ?a1
  case' a1=>refine' ca_ PySem.F.plainAttrs_str PySem.F.slot_str_join PySem.F.type_str_join ji_ ?a2 ?a3
  case a2=>exact au_
  case' a3=>refine' a0_ ?a4 a3_
  case' a4=>refine' aS_ nW1 1 [2,0] ?d1 ?d2 ?d3 ?d4
  case d1=>exact bO_ (by rfl) B.range (a0_ (ah_ cD hr (a0_ (pv 0) (a0_ a7_ a3_))) a3_)
  case d2=>exact fun fp s H=>a8_ (i:=0) (show nW1.Nodup by decide +kernel) rfl (Or.inl rfl)
  case d3=>exact fun fp s H=>aU_
  case d4=>exact fun fp s H=>aF_ iH_ (pv 1) (ah_ cD hr (a0_ (pv 2) (a0_ a7_ a3_))) (fun _ _=>rfl)
  case s3=>exact aa_ (i:=4) bT'.nd rfl (Or.inr rfl) (ah_ cD hr (a0_ (pv 0) (a0_ (aj_ aR_ (ad_ cf_ (by rfl) B.len PySem.boot_len (a0_ (pv 3) a3_)) a7_) a3_)))
  case s4=>exact aa_ (i:=5) bT'.nd rfl (Or.inr rfl) (ah_ cD hr (a0_ (pv 0) (a0_ a7_ a3_)))
  case' s5=>refine' aa_ (i:=6) bT'.nd rfl (Or.inr rfl) ?e0
  case' e0=>refine' aS_ nW2 1 [5,2] ?e1 ?e2 ?e3 ?e4
  case e1=>exact bO_ (by rfl) B.range (a0_ (pv 1) a3_)
  case e2=>exact fun fp s H=>a8_ (i:=0) (show nW2.Nodup by decide +kernel) rfl (Or.inl rfl)
  case e3=>exact fun fp s H=>aU_
  case e4=>exact fun fp s H=>aF_ iH_ (pv 2) (aj_ bX_ (aj_ aR_ (pv 1) (aj_ ba_ a7_ (pv 0))) a7_) (fun _ _=>rfl)
  case' s6=>refine' ab_ ?f0
  case' f0=>refine' aS_ nW3 1 [4,6,3] ?f1 ?f2 ?f3 ?f4
  case f1=>exact bO_ (by rfl) B.range (a0_ (pv 1) a3_)
  case f2=>exact fun fp s H=>a8_ (i:=0) (show nW3.Nodup by decide +kernel) rfl (Or.inl rfl)
  case f3=>exact fun fp s H=>aU_
  case' f4=>intro fp s H
  case' f4=>refine' aj_ c1_ ?g1 ?g2
  case' g1=>refine' aj_ c1_ ?g3 ?g4
  case' g3=>refine' aj_ c1_ ?g5 ?g6
  case g5=>exact bR_ iD_ (pv 3) cT_ (cP_ (pv 1))
  case g6=>exact aF_ (ixK (K:=K) rIxL b2_) (pv 2) (pv 0) (fun _ _=>rfl)
  case g4=>exact bR_ iD_ (pv 3) (cP_ (pv 1)) cT_
  case g2=>exact aj_ j0_ au_ (aj_ bi_ (pv 0) a7_)
  case' kk=>skip
  refine⟨rfl,_,rfl,l,7,rfl,by decide,by decide,st,fun r H1 r0 r7 b1 st1=>⟨r,rfl,by omega,by omega,fun D hD=>?_⟩⟩;have Dl:=st1.ne hD;refine bt_ (own:=1) (fv:=[some (.str "abcdefghijklmnopqrstuvwxyz"),some (.ref l)]) rfl gok1 r.toNat (fun i out H'=>∃ss:List Str,But l H1 H'/\stt H' l/\out=ss.map V.str/\H' D=some (.lst out)/\ss.length=i/\∀x∈ss,x.length<=1/\∀c∈x.cps.toList,okc c=true) ⟨[],But.of (Same.new hD),st1.same (Same.new hD),rfl,a1_,rfl,by simp⟩ (fun out H2 ⟨ss,b2,st2,eo,hD2,le,h1⟩=>⟨ag' _,?_⟩) (fun i out H2 hi ⟨ss,b2,st2,eo,hD2,le,h1⟩=>⟨hi,fun x H3 ⟨e3,ex⟩=>?_⟩);rotate_left 1
  ·subst e3;refine⟨_,rfl,rfl,fun Nx hN=>yesT ?_⟩;refine⟨_,rfl,_,rfl,l,26,rfl,by decide,by decide,st2,fun q H4 q0 q26 b4 st4=>?_⟩;obtain⟨q,rfl⟩:=aE' q0;have q26':q<26:=by omega
   refine⟨_,_,97+q,rfl,rfl,by rw[abc_len.1];decide,gR_ q26',out,b4 _ _ hD2 Dl,?_,hN (out++[.str ⟨#[97+q]⟩]) _ ⟨ss++[⟨#[97+q]⟩],?_,st4.upd Dl,?_,a1_,?_,?_⟩⟩
   ·rw[eo,aa'];omega
   ·exact (b2.trans b4).snd hD
   ·rw[eo,am'];rfl
   ·rw[aq',le];rfl
   ·intro x hx;rcases aw'.mp hx with hx|hx
    ·exact h1 x hx
    ·obtain rfl:x=⟨#[97+q]⟩:=by simpa using hx
     refine⟨ag' 1,fun c hc=>?_⟩;obtain rfl:c=97+q:=by simpa using hc
     exact gK_ q26'
  subst eo;have sl:=k7_ fun x hx=>(h1 x hx).1;have l8:ss.length<=6:=by omega
  have b02:=b1.trans b2;have fD:=b1.free st1 hD;refine⟨"",D,ss,rfl,rfl,.of hD2,by show (ss.map (·.length)).sum+ss.length * 0<=16777216;omega,?_⟩
  have jl:(Txt.join "" ss).length<=6:=by
   have:=hv_ "" ss;have e0:("":Str).length=0:=by decide +kernel
   rw[e0] at this;omega
  have jo:=ia_ fun x hx=>(h1 x hx).2;generalize Txt.join "" ss=jn at jl jo ⊢;clear hD2 h1 sl;refine⟨_,rfl,_,rfl,jn,rfl,by omega,_,_,rfl,rfl,l,_,rfl,by omega,by omega,st2,fun pl H4 p0 p1 b4 st4=>?_⟩;obtain⟨pl,rfl⟩:=aE' p0;have p1':pl<=jn.length:=by omega
  refine⟨_,rfl,l,26,rfl,by decide,by decide,st4,fun fi H5 f0 f1 b5 st5=>?_⟩;obtain⟨fi,rfl⟩:=aE' f0;have b05:=b02.trans (b4.trans b5);clear b02 b4 b5 b1 b2;refine⟨_,rfl,(m:Int),rfl,by omega,by omega,fun D2 hD2=>?_⟩;have D2l:=st5.ne hD2;have fD2:=b05.free st5 hD2;refine bt_ (own:=1) (fv:=[some (.int fi),some (.str "abcdefghijklmnopqrstuvwxyz")]) rfl gok1 m (fun i out H'=>Same H5 H'/\out=((List.range i).map fun k=>V.str ⟨#[97+(fi+7 * k) % 26]⟩)/\H' D2=some (.lst out)) ⟨Same.new hD2,rfl,a1_⟩ (fun out H6 ⟨s6,eo,h6⟩=>⟨ag' _,?_⟩) (fun i out H6 hi ⟨s6,eo,h6⟩=>⟨hi,fun x H7 ⟨e7,ex⟩=>?_⟩);rotate_left 1
  ·subst e7;subst ex;have q26:(fi+7 * i) % 26<26:=Nat.mod_lt _ (by decide);refine⟨_,rfl,rfl,fun Nx hN=>yesT ?_⟩;refine⟨_,rfl,_,rfl,_,rfl,_,_,rfl,rfl,.inl ⟨by decide,by decide⟩,_,_,rfl,rfl,_,_,rfl,rfl,by show (0:Int)<26;decide,?_⟩;have e:((fi:Int)+7 * (0+(i:Int))) % 26=(((fi+7 * i) % 26:Nat):Int):=by omega
   refine⟨_,_,97+(fi+7 * i) % 26,rfl,rfl,by rw[abc_len.1];decide,?_,out,h6,?_,hN (out++[.str ⟨#[97+(fi+7 * i) % 26]⟩]) _ ⟨am_ s6 hD2,?_,a1_⟩⟩
   ·rw[e];exact gR_ q26
   ·rw[eo,aa',List.length_range];omega
   ·rw[eo,List.range_succ,am'];rfl
  subst eo;have b06:But l H H6:=b05.trans (But.of s6);have st6:=st5.same s6;have hl6:jn.length=jn.cps.toList.length:=b1_ jn;refine⟨_,rfl,(m:Int),rfl,by omega,by omega,fun D3 hD3=>?_⟩;have D3l:=st6.ne hD3;have fD3:=b06.free st6 hD3;refine bt_ (own:=1) (fv:=[some (.int pl),some (.ref D2),some (.str jn)]) rfl gok1 m (fun i out H'=>∃ns:List Str,Same H6 H'/\out=ns.map V.str/\H' D3=some (.lst out)/\ns.length=i/\∀k n,ns[k]? = some n->n.cps.toList=jn.cps.toList.take pl++(97+(fi+7 * k) % 26)::(jn.cps.toList.drop pl++List.replicate (k / 26) 122)) ⟨[],Same.new hD3,rfl,a1_,rfl,by simp⟩ (fun out H7 ⟨ns,s7,eo,h7,le,hn⟩=>⟨ag' _,?_⟩) (fun i out H7 hi ⟨ns,s7,eo,h7,le,hn⟩=>⟨hi,fun x H8 ⟨e8,ex⟩=>?_⟩)
  ·subst eo;refine k D3 ns H7 (b06.trans (But.of s7)) (st6.same s7) fD3 h7 (ju_ m8 le (fun c hc=>jo c (List.mem_of_mem_take hc)) (fun c hc=>jo c (List.mem_of_mem_drop hc)) ?_ hn);rw[ak',List.length_drop];omega
  ·subst e8;subst ex;refine⟨_,rfl,rfl,fun Nx hN=>yesT ?_⟩;have ct:=ki_ (x:=jn) p1';have cf:=hS_ (x:=jn) p1'
   have lt:(Txt.slice jn none (some (pl:Int))).length<=6:=by
    rw[b1_,ct,ak'];omega
   have lf:(Txt.slice jn (some (pl:Int)) none).length<=6:=by
    rw[b1_,cf,List.length_drop];omega
   have ha:((List.range m).map fun k=>V.str ⟨#[97+(fi+7 * k) % 26]⟩)[i]? = some (V.str ⟨#[97+(fi+7 * i) % 26]⟩):=by
    rw[an',List.getElem?_range hi];rfl
   refine⟨_,rfl,_,rfl,_,rfl,jn,rfl,by omega,_,rfl,_,rfl,D2,_,_,V.str ⟨#[97+(fi+7 * i) % 26]⟩,rfl,rfl,.of (s7 _ _ h6),?_,_,_,rfl,rfl,?_,?_⟩
   ·rw[bW' (by omega) (by rw[aa',List.length_range];omega),Int.zero_add];exact ha
   ·show (Txt.slice jn none (some (pl:Int))).length+1<=sizeLine;omega
   have l1:(Txt.slice jn none (some (pl:Int))++(⟨#[97+(fi+7 * i) % 26]⟩:Str)).length<=7:=by
    rw[b1_,gy_,aq',<- b1_];show _+1<=7;omega
   refine⟨_,rfl,_,rfl,_,rfl,jn,rfl,by omega,_,_,rfl,rfl,by omega,?_⟩
   have l2:(Txt.slice jn none (some (pl:Int))++(⟨#[97+(fi+7 * i) % 26]⟩:Str)++Txt.slice jn (some (pl:Int)) none).length<=13:=by
    rw[b1_,gy_,aq',<- b1_,<- b1_];omega
   have z0:((0:Int)+(i:Int)) / 26=((i / 26:Nat):Int):=by omega
   have q1:i / 26<=1:=by omega
   have lz:(Txt.mul "z" ((i / 26:Nat):Int)).length<=1:=by
    rw[b1_,(mulZ q1).2,aJ'];exact q1
   refine⟨_,rfl,_,_,rfl,rfl,⟨by decide,by decide⟩,"z",((i / 26:Nat):Int),rfl,by show V.int ((0+(i:Int)) / 26)=_;rw[z0],(mulZ q1).1,_,_,rfl,rfl,?_,out,h7,?_,hN _ _ ⟨ns++[Txt.slice jn none (some (pl:Int))++(⟨#[97+(fi+7 * i) % 26]⟩:Str)++Txt.slice jn (some (pl:Int)) none++Txt.mul "z" ((i / 26:Nat):Int)],am_ s7 hD3,?_,a1_,?_,?_⟩⟩
   ·omega
   ·rw[eo,aa'];omega
   ·rw[eo,am'];rfl
   ·rw[aq',le];rfl
   ·intro k n hk;by_cases z:k<ns.length
    ·rw[aS' z] at hk;exact hn k n hk
    ·rw[aQ' (by omega)] at hk
     have hk0:k - ns.length=0:=by
      have:=(ab'.mp hk).1;simp at this;omega
     rw[hk0] at hk;have:k=i:=by omega
     subst this;obtain rfl:=(Option.some.inj hk);rw[gy_,gy_,gy_,ct,cf,(mulZ q1).2];simp
end
end Ev
namespace Ev
open PySem L2
theorem e8_(ys:List V)(k:Nat):cutV ys none (some (k:Int))=ys.take k:=by
 unfold cutV;rw[HT.sIx_none,HT.sIx_nat,List.drop_zero,Nat.sub_zero];by_cases h:k<=ys.length
 ·rw[Nat.min_eq_left h]
 ·rw[Nat.min_eq_right (by omega),aL' (ag' _),aL' (by omega)]
structure WI (K:F__) (H0 H:Hp) (l ln lh lt:Addr) (ns:List Str) (nh k j:Nat):Prop where
 but:But l H0 H
 st:stt H l
 hn:H ln=some (.lst (ns.map V.str))
 hands:∃(ys:List V) (hs:List (Str × Int)),H lh=some (.lst ys)/\a8' K H ys (hs.map kH)/\hs.map (·.1)=ns.take nh/\∀h∈hs,1<=h.2/\h.2<=1000
 ties:∃(zs:List V) (ts:List (Str × Str)),H lt=some (.lst zs)/\a8' K H zs (ts.map kT)/\TI ns k j ts
 nl:ln≠l
 hl:lh≠l
 tl:lt≠l
 th:lt≠lh
 nh':ln≠lh
 nt:ln≠lt
 fh:H0 lh=none
 ft:H0 lt=none
section
variable{K:F__}{H0 H H':Hp}{l ln lh lt:Addr}{ns:List Str}{nh k j:Nat}
theorem WI.mv(W:WI K H0 H l ln lh lt ns nh k j)(b:But l H H')(s:stt H' l):WI K H0 H' l ln lh lt ns nh k j:=by
 obtain⟨xs,hx⟩:=W.st.some;obtain⟨ys,hs,h1,h2,h3,h4⟩:=W.hands;obtain⟨zs,ts,t1,t2,t3⟩:=W.ties;exact⟨W.but.trans b,s,b _ _ W.hn W.nl,⟨ys,hs,b _ _ h1 W.hl,b4_ h2 b hx,h3,h4⟩,⟨zs,ts,b _ _ t1 W.tl,b4_ t2 b hx,t3⟩,W.nl,W.hl,W.tl,W.th,W.nh',W.nt,W.fh,W.ft⟩
theorem WI.same(W:WI K H0 H l ln lh lt ns nh k j)(s:Same H H'):WI K H0 H' l ln lh lt ns nh k j:=W.mv (But.of s) (W.st.same s)
theorem WI.hand(W:WI K H0 H l ln lh lt ns nh k j){t:Addr}{n:Str}{x:Int}{ys:List V}(hx:1<=x/\x<=1000)(hn:ns[nh]? = some n)(hy:H lh=some (.lst ys))(ht:H t=some (.tup [.str n,.int x])):WI K H0 (upd H lh (.lst (ys++[.ref t]))) l ln lh lt ns (nh+1) k j:=by
 obtain⟨ys',hs,h1,h2,h3,h4⟩:=W.hands;rw[hy] at h1;cases h1;obtain⟨zs,ts,t1,t2,t3⟩:=W.ties;have tt:H t=some (.tup ((kH (n,x)).map kV)):=ht;refine⟨W.but.snd W.fh,W.st.upd W.hl,by rw[a4_ W.nh'];exact W.hn,⟨_,hs++[(n,x)],a1_,?_,?_,fun h hh=>?_⟩,⟨zs,ts,by rw[a4_ W.th];exact t1,aV_ t2 hy,t3⟩,W.nl,W.hl,W.tl,W.th,W.nh',W.nt,W.fh,W.ft⟩
 ·rw[am'];exact aV_ (bv_ h2 tt) hy
 ·rw[am',h3,aB',hn];rfl
 ·rcases aw'.mp hh with hh|hh
  ·exact h4 h hh
  ·obtain rfl:h=(n,x):=by simpa using hh
   exact hx
theorem h1_{α:Type}(l:List α)(x:α):dm' l l.length x=l++[x]:=by
 unfold dm';rw[ap',List.drop_length]
end
section
variable{P:Program}{w:World}{K:F__}{mg:Str->Option Value}{base:Heap}
theorem bB':a7' ["_law_state_here","_law_names","_law_plain","_law_dense","_law_hands","_law_ties","_law_k","_law_name","_law_some","_law_other","_law_pair"] ["_law_state_here"] (a5' sLWeb):=f__
def spLWeb(K:F__):Sp:=fun vs H Q _=>∃(l:Addr),vs=[.ref l]/\stt H l/\∀(t lh lt:Addr) (ys zs:List V) (hs:List (Str × Int)) (ts:List (Str × Str)) (H':Hp),But l H H'->stt H' l->H' t=some (.tup [.ref lh,.ref lt])->H lh=none->H lt=none->lh≠lt->lh≠l->lt≠l->
 H' lh=some (.lst ys)->a8' K H' ys (hs.map kH)->H' lt=some (.lst zs)->a8' K H' zs (ts.map kT)->Good hs ts->Q (.ref t) H'
theorem nw__{H:Hp}{a:Addr}{o:HO}(n:H a=none):Same H (upd H a o)/\upd H a o a=some o:=⟨Same.new n,a1_⟩
set_option maxHeartbeats 1600000 in
theorem j2_{f:Addr}{fd:FuncData}(F:Fun K "_law_web" "_law_web" sLWeb f fd)(B:Bi mg)(cD:Cal P w K mg base 2 "_law_digit" ["_law_state_here","_law_base"] bH')(cN:Cal P w K mg base 3 "_law_named" ["_law_state_here","_law_many"] cF'):FnOk P w K mg base CX0 4 f fd ["_law_state_here"] (spLWeb K):=by
 refine F.ok bB' (fun vs H Q E h=>?_) (fun cdv A outer s H vs Q E hr h=>?_)
 ·obtain⟨l,rfl,_⟩:=h;rfl
 ·obtain⟨l,rfl,st,k⟩:=h;have sz:=sizeLine_eq;have hr2:Room 2 _:=hr.mono (by decide);refine' ⟨_,?r0,?kk⟩
  case' r0=>refine' a2_ ?s1 ?r1
  case' r1=>refine' a2_ ?s2 ?r2
  case' r2=>refine' a2_ ?s3 ?r3
  case' r3=>refine' a2_ ?s4 ?r4
  case' r4=>refine' a2_ ?s5 ?r5
  case' r5=>refine' a2_ ?s6 ?r6
  case' r6=>refine' a5_ ?s7
  case s1=>exact aa_ (i:=1) bB'.nd rfl (Or.inl rfl) (ah_ cN hr (a0_ (pv 0) (a0_ (aj_ aR_ a7_ (ah_ cD hr2 (a0_ (pv 0) (a0_ a7_ a3_)))) a3_)))
  case s2=>exact aa_ (i:=2) bB'.nd rfl (Or.inl rfl) (ah_ cD hr2 (a0_ (pv 0) (a0_ a7_ a3_)))
  case s3=>exact aa_ (i:=3) bB'.nd rfl (Or.inl rfl) (aj_ aR_ a7_ (ah_ cD hr2 (a0_ (pv 0) (a0_ a7_ a3_))))
  case s4=>exact aa_ (i:=4) bB'.nd rfl (Or.inl rfl) (aX_ a3_)
  case s5=>exact aa_ (i:=5) bB'.nd rfl (Or.inl rfl) (aX_ a3_)
  case' s6=>refine' aG_ PassesOwn.never rfl (jb_ (by rfl) B.enum (a0_ (pv 1) a3_)) (bf_ rfl (af_ (a8_ (i:=6) bB'.nd rfl (Or.inl rfl)) (af_ (a8_ (i:=7) bB'.nd rfl (Or.inl rfl)) aY_))) ?b0
  case' b0=>refine' a2_ ?b1 ?c1
  case' c1=>refine' a2_ ?b2 ?c2
  case' c2=>refine' a5_ ?b3
  case' b1=>refine' aa_ (i:=8) bB'.nd rfl (Or.inl rfl) (aX_ ?l0)
  case' l0=>refine' a0_ a7_ ?l1
  case' l1=>refine' a0_ (aj_ aR_ a7_ (ah_ cD hr2 (a0_ (pv 0) (a0_ a7_ a3_)))) ?l2
  case' l2=>refine' a0_ (aj_ aR_ a7_ (ah_ cD hr2 (a0_ (pv 0) (a0_ a7_ a3_)))) ?l3
  case l3=>exact a0_ a7_ a3_
  case' b2=>refine' b7_ (ca_ PySem.F.plainAttrs_list PySem.F.slot_list_append PySem.F.type_list_append b9_ (pv 4) (a0_ (aH_ (a0_ (pv 7) (a0_ ?d1 a3_))) a3_))
  case d1=>exact aF_ b2_ (pv 8) (aj_ ba_ (ah_ cD hr2 (a0_ (pv 0) (a0_ a7_ a3_))) (aq_ bS_ (by rfl) B.int PyProof.Rows.Boot.«int» (a0_ (bd_ es_ (pv 2) a7_ (nomark _)) a3_))) (fun _ _=>rfl)
  case' b3=>refine' aG_ PassesOwn.never rfl (an_ (bR_ eH_ (pv 1) cT_ (cP_ (pv 6)))) (a8_ (i:=9) bB'.nd rfl (Or.inl rfl)) ?e0
  case' e0=>refine' a2_ ?e1 ?e2
  case e1=>exact aa_ (i:=10) bB'.nd rfl (Or.inl rfl) (aF_ b2_ (aX_ (a0_ (aH_ (a0_ (pv 7) (a0_ (pv 9) a3_))) (a0_ (aH_ (a0_ (pv 9) (a0_ (pv 7) a3_))) a3_))) (ah_ cD hr2 (a0_ (pv 0) (a0_ a7_ a3_))) (fun _ _=>rfl))
  case' e2=>refine' a5_ (aa_ (i:=5) bB'.nd rfl (Or.inl rfl) (aj_ is_ (pv 5) (aj_ ir_ (aX_ (a0_ (pv 10) a3_)) ?g1)))
  case g1=>exact aq_ bS_ (by rfl) B.int PyProof.Rows.Boot.«int» (a0_ (bd_ kd_ (ah_ cD hr2 (a0_ (pv 0) (a0_ a7_ a3_))) (pv 3) (nomark _)) a3_)
  case s7=>exact ab_ (aH_ (a0_ (pv 4) (a0_ (pv 5) a3_)))
  case' kk=>skip
  refine⟨_,rfl,_,rfl,l,8,rfl,by decide,by decide,st,fun r H1 r0 r8 b1 st1=>⟨_,_,rfl,rfl,?_⟩⟩;obtain⟨r,rfl⟩:=aE' r0;refine⟨l,1+r,by show [V.ref l,V.int (1+(r:Int))]=[V.ref l,V.int ((1+r:Nat):Int)];rw[Int.natCast_add];rfl,by omega,st1,fun ln ns H2 b2 st2 fn hn2 N=>?_⟩;have n8:ns.length<=8:=by rw[N.len];omega
  have n1:1<=ns.length:=by rw[N.len];omega
  have lnl:ln≠l:=st1.ne fn;refine⟨_,rfl,l,3,rfl,by decide,by decide,st2,fun pln H3 p0 p1 b3 st3=>?_⟩;refine⟨_,rfl,l,3,rfl,by decide,by decide,st3,fun dn H4 d0 d1 b4 st4=>⟨_,_,rfl,rfl,?_⟩⟩;have hn4:=b4 _ _ (b3 _ _ hn2 lnl) lnl;have B4:But l H H4:=b1.trans (b2.trans (b3.trans b4));refine⟨by show 0<=sizeLine;decide,fun lh hlh=>?_⟩;obtain⟨s5,hlh5⟩:=nw__ (o:=.lst []) hlh;have lhl:=st4.ne hlh;have fh:H lh=none:=B4.free st4 hlh;have nlh:ln≠lh:=a6_ hn4 hlh;generalize upd H4 lh (.lst [])=H5 at s5 hlh5 ⊢;refine⟨by show 0<=sizeLine;decide,fun lt hlt=>?_⟩;have s6:=Same.new (o:=.lst []) hlt;have st5:=st4.same s5;have ltl:=st5.ne hlt;have B5:=B4.trans (But.of s5);have ft:H lt=none:=B5.free st5 hlt;have W0:WI K H (upd H5 lt (.lst [])) l ln lh lt ns 0 0 0:=⟨B5.trans (But.of s6),st5.same s6,s6 _ _ (s5 _ _ hn4),⟨[],[],s6 _ _ hlh5,.nil,rfl,by simp⟩,⟨[],[],a1_,.nil,⟨by simp,.nil,aD' _⟩⟩,lnl,lhl,ltl,(a6_ hlh5 hlt).symm,nlh,a6_ (s5 _ _ hn4) hlt,fh,ft⟩;clear B4 B5 b1 b2 b3 b4 st1 st2 st3 st4 st5 s5 s6 fn hn2 hn4;generalize upd H5 lt (.lst [])=H6 at W0 ⊢;refine setG ?_;dsimp only;refine seqG (fun σ H'=>∃(lt:Addr) (v6 v7 v8 v9 v10:Option V),σ=[some (.ref l),some (.ref ln),some (.int pln),some (.int (1+dn)),some (.ref lh),some (.ref lt),v6,v7,v8,v9,v10]/\WI K H H' l ln lh lt ns ns.length ns.length 0) ?last ?loop
  case last=>
   rintro σ H7 ⟨lt,v6,v7,v8,v9,v10,rfl,W⟩;obtain⟨ys,hs,h1,h2,h3,h4⟩:=W.hands;obtain⟨zs,ts,t1,t2,t3⟩:=W.ties;rw[ap'] at h3;refine⟨_,rfl,_,rfl,by show 2<=sizeLine;decide,fun t ht=>?_⟩;have s8:=Same.new (o:=.tup [.ref lh,.ref lt]) ht;refine k t lh lt ys zs hs ts _ (W.but.trans (But.of s8)) (W.st.same s8) a1_ W.fh W.ft W.th.symm W.hl W.tl (s8 _ _ h1) (h2.same s8) (s8 _ _ t1) (t2.same s8) ?_;have tg:=t3.good N.nd N.ok
   have hlen:hs.length=ns.length:=by
    have:=congrArg List.length h3;rwa [aa'] at this
   refine⟨fun h hh=>⟨N.ok _ ?_,h4 h hh⟩,by rw[h3];exact N.nd,by omega,by omega,fun t ht=>(tg t ht).1,t3.nd,by have:=t3.len;omega,fun t ht=>by rw[h3];exact (tg t ht).2⟩;rw[<- h3];exact ad'.mpr ⟨h,hh,rfl⟩
  case loop=>
   intro N0 hN
   refine⟨_,rfl,ln,rfl,⟨_,.of W0.hn⟩,hK_ (K:=K) (a:=ln) (xs:=ns.map V.str) (fun i σ H'=>∃(lt:Addr) (v6 v7 v8 v9 v10:Option V),σ=[some (.ref l),some (.ref ln),some (.int pln),some (.int (1+dn)),some (.ref lh),some (.ref lt),v6,v7,v8,v9,v10]/\WI K H H' l ln lh lt ns i i 0)
    ⟨lt,none,none,none,none,none,rfl,W0⟩ (fun i σ H' _ ⟨_,_,_,_,_,_,_,W⟩=>.of W.hn) ?_ ?_⟩
   rotate_left 1
   ·rintro σ H' ⟨lt,v6,v7,v8,v9,v10,rfl,W⟩;rw[aa'] at W;exact hN _ _ ⟨lt,v6,v7,v8,v9,v10,rfl,W⟩
   rintro i x σ H7 hx ⟨lt,v6,v7,v8,v9,v10,rfl,W⟩ u hu;obtain⟨one,hone,rfl⟩:=ai_ hx;have hi:i<ns.length:=(ab'.mp hone).1;have s7:Same H7 (upd H7 u (.tup [.int i,.str one])):=Same.new hu;have hu7:upd H7 u (.tup [.int i,.str one]) u=some (.tup [.int i,.str one]):=a1_;refine⟨u,_,rfl,.of hu7,rfl,_,_,rfl,_,_,rfl,rfl,?_⟩;have W8:=W.same s7;clear W hu7;generalize upd H7 u (.tup [.int i,.str one])=H8 at W8 ⊢;clear s7 hu;dsimp only;refine seqG (fun σ H'=>∃(lt ls:Addr) (v9 v10:Option V) (a b:Int),σ=[some (.ref l),some (.ref ln),some (.int pln),some (.int (1+dn)),some (.ref lh),some (.ref lt),some (.int i),some (.str one),some (.ref ls),v9,v10]/\WI K H H' l ln lh lt ns i i 0/\H' ls=some (.lst [.int 1,.int a,.int b,.int 1000])/\ls≠l/\1<=a/\a<=1000/\1<=b/\b<=1000) ?m2 ?m1
   case m1=>
    intro N2 hN2;refine⟨_,rfl,l,4,rfl,by decide,by decide,W8.st,fun r1 H9 q0 q1 b9 st9=>⟨_,_,rfl,rfl,?_⟩⟩;have W9:=W8.mv b9 st9;refine⟨_,rfl,l,1000,rfl,by decide,by decide,W9.st,fun r2 H10 q2 q3 b10 st10=>⟨_,_,rfl,rfl,?_⟩⟩;have W10:=W9.mv b10 st10;refine⟨by show 4<=sizeLine;decide,fun ls hls=>?_⟩;exact hN2 _ _ ⟨lt,ls,_,_,1+r1,1+r2,rfl,W10.same (Same.new hls),a1_,W10.st.ne hls,by omega,by omega,by omega,by omega⟩
   rintro σ H9 ⟨lt,ls,v9,v10,a,b,rfl,W9,hls,lsl,a1,a2,b1,b2⟩;refine seqG (fun σ H'=>∃(lt ls:Addr) (v9 v10:Option V),σ=[some (.ref l),some (.ref ln),some (.int pln),some (.int (1+dn)),some (.ref lh),some (.ref lt),some (.int i),some (.str one),some (.ref ls),v9,v10]/\WI K H H' l ln lh lt ns (i+1) i 0) ?m4 ?m3
   case m3=>
    intro N3 hN3;obtain⟨ys,hs,h1,h2,h3,h4⟩:=W9.hands;refine⟨_,rfl,.inl ⟨rfl,_,.of h1⟩,_,rfl,_,rfl,_,rfl,l,4,rfl,by decide,by decide,W9.st,fun r1 H10 q0 q1 b10 st10=>?_⟩;have W10:=W9.mv b10 st10
    obtain⟨ix,e0,e4,eix⟩:∃ix:Int,0<=ix/\ix<4/\r1 * (if decide (0<pln)=true then 1 else 0)=ix:=by
     refine⟨_,?_,?_,rfl⟩
     ·by_cases c:decide (0<pln)=true
      ·rw[if_pos c];omega
      ·rw[if_neg c];omega
     ·by_cases c:decide (0<pln)=true
      ·rw[if_pos c];omega
      ·rw[if_neg c];omega
    obtain⟨v,hv,x,rfl,x1,x2⟩:=hitL (p:=fun v:V=>∃x:Int,v=V.int x/\1<=x/\x<=1000) (xs:=[V.int 1,.int a,.int b,.int 1000]) (n:=4) rfl e0 e4 (fun v hv=>by
     simp only[aj',aV',or_false] at hv;rcases hv with rfl|rfl|rfl|rfl
     ·exact⟨_,rfl,by decide,by decide⟩
     ·exact⟨_,rfl,a1,a2⟩
     ·exact⟨_,rfl,b1,b2⟩
     ·exact⟨_,rfl,by decide,by decide⟩)
    have hls10:=b10 _ _ hls lsl;refine⟨_,rfl,_,_,rfl,rfl,.inr ⟨_,rfl,_,_,rfl,rfl,.inl ⟨by omega,by omega⟩,ls,_,_,_,rfl,congrArg V.int eix,.of hls10,hv,by show 2<=sizeLine;decide,fun t ht=>?_⟩⟩;have W11:=W10.same (Same.new (o:=.tup [.str one,.int x]) ht);have h10:=b10 _ _ h1 W9.hl;refine⟨lh,_,_,rfl,rfl,Same.new (o:=.tup [.str one,.int x]) ht _ _ h10,?_,hN3 _ _ ⟨lt,ls,v9,v10,rfl,W11.hand ⟨x1,x2⟩ hone (Same.new (o:=.tup [.str one,.int x]) ht _ _ h10) a1_⟩⟩;have:=congrArg List.length h3;have:=Paired.length h2;rw[aa'] at this;rw[aa',ak'] at *;omega
   rintro σ H10 ⟨lt,ls,v9,v10,rfl,W10⟩;refine⟨_,rfl,_,rfl,_,rfl,ln,_,rfl,.of W10.hn,fun p hp=>?_⟩;rw[hI_];have W11:=W10.same (Same.new (o:=.lst ((ns.take i).map V.str)) hp);have hp11:upd H10 p (.lst ((ns.take i).map V.str)) p=some (.lst ((ns.take i).map V.str)):=a1_;have lp:=W10.st.ne hp;generalize upd H10 p (.lst ((ns.take i).map V.str))=H11 at W11 hp11 ⊢
   refine⟨p,rfl,⟨_,.of hp11⟩,aw_ (K:=K) (a:=p) (xs:=(ns.take i).map V.str) (fun j σ H'=>∃(lt ls:Addr) (v9 v10:Option V),σ=[some (.ref l),some (.ref ln),some (.int pln),some (.int (1+dn)),some (.ref lh),some (.ref lt),some (.int i),some (.str one),some (.ref ls),v9,v10]/\H' p=some (.lst ((ns.take i).map V.str))/\WI K H H' l ln lh lt ns (i+1) i j)
    ⟨lt,ls,v9,v10,rfl,hp11,W11⟩ (fun j σ H' _ ⟨_,_,_,_,_,q,_⟩=>.of q) ?_ ?_⟩
   rotate_left 1
   ·rintro σ H' ⟨lt,ls,v9,v10,rfl,_,W⟩;refine⟨lt,_,_,_,_,_,rfl,?_⟩;obtain⟨zs,ts,t1,t2,t3⟩:=W.ties;rw[aa',ak',Nat.min_eq_left (by omega)] at t3;exact⟨W.but,W.st,W.hn,W.hands,⟨zs,ts,t1,t2,t3.next (by omega)⟩,W.nl,W.hl,W.tl,W.th,W.nh',W.nt,W.fh,W.ft⟩
   rintro j y σ H12 hy ⟨lt,ls,v9,v10,rfl,hp12,W12⟩;obtain⟨o,ho,rfl⟩:=ai_ hy
   have hj:j<i:=by
    have:=(ab'.mp ho).1;rw[ak'] at this;omega
   rw[List.getElem?_take,if_pos hj] at ho;refine setG ?_;dsimp only;refine seqG (fun σ H'=>∃(lt ls t:Addr) (v9:Option V) (tt:Str × Str),σ=[some (.ref l),some (.ref ln),some (.int pln),some (.int (1+dn)),some (.ref lh),some (.ref lt),some (.int i),some (.str one),some (.ref ls),v9,some (.ref t)]/\H' p=some (.lst ((ns.take i).map V.str))/\WI K H H' l ln lh lt ns (i+1) i j/\H' t=some (.tup ((kT tt).map kV))/\(tt=(one,o)∨tt=(o,one))) ?m6 ?m5
   case m5=>
    intro N5 hN5;refine⟨_,rfl,_,rfl,by show 2<=sizeLine;decide,fun t1 ht1=>?_⟩;have s11:=Same.new (o:=.tup [.str one,.str o]) ht1;refine⟨_,rfl,_,rfl,by show 2<=sizeLine;decide,fun t2 ht2=>?_⟩;have s12:=Same.new (o:=.tup [.str o,.str one]) ht2;refine⟨by show 2<=sizeLine;decide,fun lx hlx=>?_⟩;have s13:=Same.new (o:=.lst [.ref t1,.ref t2]) hlx;have W13:=W12.same ((s11.trans s12).trans s13);have hp13:=s13 _ _ (s12 _ _ (s11 _ _ hp12));refine⟨_,rfl,l,2,rfl,by decide,by decide,W13.st,fun r5 H14 q4 q5 b14 st14=>?_⟩;have lxl:lx≠l:=(W12.same (s11.trans s12)).st.ne hlx;have hlx14:=b14 _ _ (show upd (upd (upd H12 t1 (.tup [.str one,.str o])) t2 (.tup [.str o,.str one])) lx (.lst [.ref t1,.ref t2]) lx=_ from a1_) lxl;obtain⟨xs13,hl13⟩:=W13.st.some;have ht1':=s13 _ _ (s12 _ _ (show upd H12 t1 (.tup [.str one,.str o]) t1=_ from a1_));have ht2':=s13 _ _ (show upd (upd H12 t1 (.tup [.str one,.str o])) t2 (.tup [.str o,.str one]) t2=_ from a1_);have ht1'':=b14 _ _ ht1' (az_ ht1' hl13 nofun);have ht2'':=b14 _ _ ht2' (az_ ht2' hl13 nofun)
    have pick:∃(t:Addr) (tt:Str × Str),atI [V.ref t1,V.ref t2] r5=some (.ref t)/\H14 t=some (.tup ((kT tt).map kV))/\(tt=(one,o)∨tt=(o,one)):=by
     rcases hit2 (a:=V.ref t1) (b:=V.ref t2) q4 q5 with e|e
     ·exact⟨t1,(one,o),e,ht1'',.inl rfl⟩
     ·exact⟨t2,(o,one),e,ht2'',.inr rfl⟩
    obtain⟨t,tt,et,htt,hor⟩:=pick;exact⟨lx,_,_,_,rfl,rfl,.of hlx14,et,hN5 _ _ ⟨lt,ls,t,_,tt,rfl,b14 _ _ hp13 lp,W13.mv b14 st14,htt,hor⟩⟩
   rintro σ H13 ⟨lt,ls,t,v9,tt,rfl,hp13,W13,htt,hor⟩;obtain⟨zs,ts,t1,t2,t3⟩:=W13.ties;refine⟨_,rfl,_,rfl,by show 1<=sizeLine;decide,fun lx hlx=>?_⟩;have s14:=Same.new (o:=.lst [.ref t]) hlx;have W14:=W13.same s14;have hlx14:upd H13 lx (.lst [.ref t]) lx=some (.lst [.ref t]):=a1_;have lxl:=W13.st.ne hlx;have lxh:lx≠p:=(a6_ hp13 hlx).symm;have hp14:=s14 _ _ hp13;have htt14:=s14 _ _ htt;generalize upd H13 lx (.lst [.ref t])=H14 at s14 W14 hlx14 hp14 htt14 ⊢;refine⟨_,rfl,l,3,rfl,by decide,by decide,W14.st,fun r6 H15 q6 q7 b15 st15=>⟨_,rfl,_,_,rfl,rfl,.inr ⟨_,rfl,?_⟩⟩⟩;have W15:=W14.mv b15 st15;have hlx15:=b15 _ _ hlx14 lxl;have hp15:=b15 _ _ hp14 lp;obtain⟨xs14,hl14⟩:=W14.st.some;have htt15:=b15 _ _ htt14 (az_ htt14 hl14 nofun);obtain⟨zs5,ts5,u1,u2,u3⟩:=W15.ties
   have u7:zs5.length<=100:=by
    have a1:=Paired.length u2;have a2:=u3.len;rw[aa'] at a1;omega
   have fin:∀(b:Bool) (q:Addr) (H16:Hp),Same H15 H16->∀u,H16 u=none->WI K H (upd H16 u (.lst (zs5++(List.replicate (if b=true then (1:Int) else 0).toNat [V.ref t]).flatten))) l ln lh u ns (i+1) i (j+1):=by
    intro b q H16 s16 u hu;have W16:=W15.same s16;have W17:=W16.same (Same.new (o:=.lst (zs5++(List.replicate (if b=true then (1:Int) else 0).toNat [V.ref t]).flatten)) hu);refine⟨W17.but,W17.st,W17.hn,W17.hands,⟨_,if b=true then ts5++[tt] else ts5,a1_,?_,?_⟩,W17.nl,W17.hl,W16.st.ne hu,?_,W17.nh',?_,W17.fh,W16.but.free W16.st hu⟩
    ·have u2':=(u2.same s16).same (Same.new (o:=.lst (zs5++(List.replicate (if b=true then (1:Int) else 0).toNat [V.ref t]).flatten)) hu);cases b with
     |true=>
      show a8' K _ (zs5++[V.ref t]) ((ts5++[tt]).map kT);rw[am'];exact bv_ u2' (Same.new hu _ _ (s16 _ _ htt15))
     |false=>
      show a8' K _ (zs5++[]) (ts5.map kT);rw[aA'];exact u2'
    ·cases b with
     |true=>
      have:=u3.add N.nd hj hone ho hor ts5.length;rw[h1_] at this;exact this
     |false=>exact u3.skip
    ·obtain⟨ys,hs,h1,_⟩:=W16.hands;exact (a6_ h1 hu).symm
    ·exact a6_ W16.hn hu
   refine⟨lx,_,_,rfl,rfl,hlx15,?_,?_,?_,fun q hq=>?_⟩
   ·by_cases c:decide (r6<1+dn)=true
    ·rw[if_pos c];decide
    ·rw[if_neg c];decide
   ·by_cases c:decide (r6<1+dn)=true
    ·rw[if_pos c];decide
    ·rw[if_neg c];decide
   ·by_cases c:decide (r6<1+dn)=true
    ·rw[if_pos c];show 1 * 1<=sizeLine;decide
    ·rw[if_neg c];show 1 * 0<=sizeLine;decide
   have s16:=Same.new (o:=.lst (List.replicate (if decide (r6<1+dn)=true then (1:Int) else 0).toNat [V.ref t]).flatten) hq;refine⟨lt,q,_,_,rfl,rfl,s16 _ _ u1,a1_,?_,fun u hu=>⟨u,ls,_,_,rfl,Same.new hu _ _ (s16 _ _ hp15),fin _ q _ s16 u hu⟩⟩;by_cases c:decide (r6<1+dn)=true
   ·rw[if_pos c];show zs5.length+1<=sizeLine;omega
   ·rw[if_neg c];show zs5.length+0<=sizeLine;omega
end
end Ev
namespace Ev
open PySem L2
theorem cQ_{α:Type}{ps:List (Str × α)}(nd:(ps.map (·.1)).Nodup){a b:Str × α}(ha:a∈ps)(hb:b∈ps)(e:a.1=b.1):a=b:=by
 induction ps with
 |nil=>cases ha
 |cons p ps ih=>
  rw[ao',aI'] at nd;rcases aj'.mp ha with za|ha
  ·rcases aj'.mp hb with zb|hb
   ·rw[za,zb]
   ·rw[za] at e;exact absurd (show p.1∈ps.map (·.1) from ad'.mpr ⟨b,hb,e.symm⟩) nd.1
  ·rcases aj'.mp hb with zb|hb
   ·rw[zb] at e;exact absurd (show p.1∈ps.map (·.1) from ad'.mpr ⟨a,ha,e⟩) nd.1
   ·exact ih nd.2 ha hb
def strOf(hs:List (Str × Int))(n:Str):Int:=((hs.find? fun h=>decide (h.1=n)).map (·.2)).getD 0
theorem b6_{hs:List (Str × Int)}{n:Str}(h:n∈hs.map (·.1)):(n,strOf hs n)∈hs:=by
 unfold strOf;obtain⟨x,hx,e⟩:=ad'.mp h;cases q:hs.find? fun h=>decide (h.1=n) with
 |none=>
  have:=List.find?_eq_none.mp q x hx;simp[e] at this
 |some y=>
  have m:=List.mem_of_find?_eq_some q;have:=List.find?_some q;have e2:y.1=n:=by simpa using this
  show (n,y.2)∈hs;rw[<- e2];exact m
theorem fk_{hs:List (Str × Int)}(nd:(hs.map (·.1)).Nodup){n:Str}{s:Int}(h:(n,s)∈hs):strOf hs n=s:=by
 have m:=b6_ (ad'.mpr ⟨_,h,rfl⟩:n∈hs.map (·.1));exact congrArg Prod.snd (cQ_ nd m h rfl)
theorem hR_{a b:Int}(ha:0<=a)(h:0<b):Int.gcd b (a % b)=Int.gcd a b:=by
 obtain⟨m,rfl⟩:=aE' ha;obtain⟨n,rfl⟩:=aE' (Int.le_of_lt h);rw[<- Int.natCast_emod];show Nat.gcd n (m % n)=Nat.gcd m n;rw[Nat.gcd_comm n,<- Nat.gcd_rec,Nat.gcd_comm]
theorem kD_{a b:Int}(hb:0<b)(hb2:b<=2000000):0<(Int.gcd a b:Int)/\(Int.gcd a b:Int)<1073741824:=by
 have h1:0<Int.gcd a b:=Int.gcd_pos_of_ne_zero_right a (by omega);have h2:(Int.gcd a b:Int) ∣ b:=Int.gcd_dvd_right a b;have h3:=Int.le_of_dvd hb h2;omega
section
variable{P:Program}{w:World}{K:F__}{mg:Str->Option Value}{base:Heap}
theorem scGd:a7' ["one","other","rest","divisor","left"] ["one","other"] (a5' sGd):=f__
def spGd:Sp:=fun vs H Q _=>∃a b:Int,vs=[.int a,.int b]/\0<=a/\0<b/\Q (.int (Int.gcd a b)) H
theorem kz_{f:Addr}{fd:FuncData}(F:Fun K "greatest_divisor" "greatest_divisor" sGd f fd):FnOk P w K mg base CX0 1 f fd ["one","other"] spGd:=by
 refine F.ok scGd (fun vs H Q E h=>?_) (fun cdv A outer s H vs Q E hr h=>?_)
 ·obtain⟨a,b,rfl,_⟩:=h;rfl
 ·obtain⟨a,b,rfl,ha,hb,k⟩:=h;refine' ⟨_,a2_ ?s1 (a2_ ?s2 (a2_ ?s3 ?s4)),?kk⟩
  case s1=>exact aa_ (i:=2) scGd.nd rfl (Or.inl rfl) (pv 0)
  case s2=>exact aa_ (i:=3) scGd.nd rfl (Or.inl rfl) (pv 1)
  case s3=>exact f9_ PassesOwn.never (ao_ fB_ (pv 2) a7_ (nomark _)) (a2_ (aa_ (i:=4) scGd.nd rfl (Or.inl rfl) (aj_ bX_ (pv 3) (pv 2))) (a2_ (aa_ (i:=3) scGd.nd rfl (Or.inl rfl) (pv 2)) (a5_ (aa_ (i:=2) scGd.nd rfl (Or.inl rfl) (pv 4)))))
  case s4=>exact a5_ (ab_ (pv 3))
  case' kk=>skip
  refine⟨_,rfl,_,rfl,?_⟩;refine ht_ (fun σ H'=>H'=H/\∃(r d:Int) (v4:Option V),σ=[some (.int a),some (.int b),some (.int r),some (.int d),v4]/\0<=r/\0<d/\Int.gcd r d=Int.gcd a b) (fun σ _=>match σ with | [_,_,some (.int r),_,_]=>r.toNat|_=>0) ⟨rfl,a,b,none,rfl,ha,hb,rfl⟩ ?_ ?_
  ·rintro σ H' ⟨rfl,r,d,v4,rfl,hr0,hd,e⟩;refine⟨_,rfl,rfl,_,rfl,?_⟩;refine ite2 (fun c=>?_) (fun c=>?_)
   ·have hr1:0<r:=by
     have:r≠0:=by
      intro z;subst z;simp at c
     omega
    refine⟨_,rfl,_,rfl,_,_,rfl,rfl,hr1,_,rfl,_,rfl,?_⟩;have h1:=Int.emod_nonneg d (Int.ne_of_gt hr1);have h2:=Int.emod_lt_of_pos d hr1;refine⟨⟨rfl,_,_,_,rfl,h1,hr1,?_⟩,?_⟩
    ·rw[<- e,Int.gcd_comm (d % r) r,hR_ (Int.le_of_lt hd) hr1,Int.gcd_comm]
    ·show (d % r).toNat<r.toNat;omega
   ·have hr1:r=0:=by simpa using c
    subst hr1;refine⟨_,rfl,?_⟩
    have e2:(Int.gcd a b:Int)=d:=by
     rw[<- e,Int.gcd_zero_left];omega
    rw[<- e2];exact k
  ·intro σ H' Q1 Q2 hq h;obtain⟨x,e,h⟩:=h;exact⟨x,e,h.1,h.2.choose,h.2.choose_spec.1,hq _ _ h.2.choose_spec.2⟩
end
end Ev
namespace L2
open PySem PySem.Spec PyProof.Rows
def c7'(w:World)(l:List (Str × Tok × Value)):List DictEntry:=l.map fun x=>⟨hashStr w x.1,.str x.1 x.2.1,x.2.2⟩
def KDict(K:F__)(w:World)(d:Addr)(kvs:List (Str × V)):Prop:=
 (d == sysModules)=false/\(kvs.map (·.1)).Nodup/\∃(l:List (Str × Tok × Value)) (o:Obj) (es:Array DictEntry) (ep:Nat),K.lookup d=some o/\o.ExactDict/\o.data=.dict es ep/\es.toList=c7' w l/\Paired (fun(p:Str × V) (x:Str × Tok × Value)=>p.1=x.1/\RelV p.2 x.2.2) kvs l
theorem ea_{P:Program}{w:World}:∀{l:List (Str × Tok × Value)},Pairs (a9' P w) (c7' w l) (l.map fun x=>((Sum.inr x.1:Key),x.2.2))
 |[]=>.nil
 |x::l=>.cons (bN_ P w x.1 x.2.1) rfl (ea_ (l:=l))
theorem f2_{kvs:List (Str × V)}{l:List (Str × Tok × Value)}(h:Paired (fun(p:Str × V) (x:Str × Tok × Value)=>p.1=x.1/\RelV p.2 x.2.2) kvs l):kvs.map (·.1)=l.map (·.1):=by
 induction h with
 |nil=>rfl
 |cons a _ ih=>rw[ao',ao',ih,a.1]
theorem KDict.of{P:Program}{K:F__}{w:World}{d:Addr}{kvs:List (Str × V)}{h:Heap}(k:KDict K w d kvs)(X:K.In h):∃l:List (Str × Tok × Value),Paired (fun(p:Str × V) (x:Str × Tok × Value)=>p.1=x.1/\RelV p.2 x.2.2) kvs l/\h.DictOf (a9' P w) d (l.map fun x=>((Sum.inr x.1:Key),x.2.2)):=by
 obtain⟨_,nd,l,o,es,ep,ho,hx,hd,he,hp⟩:=k;refine⟨l,hp,o,es,ep,X _ _ ho,hx,hd,fun e m=>?_,?_,?_⟩
 ·have m:e∈c7' w l:=by
   rw[<- he];simpa using m
  obtain⟨x,_,rfl⟩:=ad'.mp m;exact⟨Sum.inr x.1,bN_ P w x.1 x.2.1,rfl⟩
 ·rw[he];exact ea_
 ·rw[f2_ hp] at nd;rw[al',ay',aF'];rw[ay',aF'] at nd;exact nd.imp fun n e=>n (Sum.inr.inj e)
theorem jI_{kvs:List (Str × V)}{l:List (Str × Tok × Value)}(h:Paired (fun(p:Str × V) (x:Str × Tok × Value)=>p.1=x.1/\RelV p.2 x.2.2) kvs l)(nd:(kvs.map (·.1)).Nodup){z:Str}{v:V}(m:(z,v)∈kvs):∃u,valueAt (l.map fun x=>((Sum.inr x.1:Key),x.2.2)) (Sum.inr z)=some u/\RelV v u:=by
 unfold valueAt
 induction h with
 |nil=>cases m
 |@cons p x kvs l a _ ih=>
  rw[ao'] at nd ⊢;rw[List.find?_cons];obtain⟨n1,n2⟩:=aI'.mp nd;by_cases e:x.1=z
  ·rcases aj'.mp m with m|m
   ·subst m;refine⟨x.2.2,?_,a.2⟩;simp[e]
   ·exact absurd (by rw[a.1,e];exact ad'.mpr ⟨_,m,rfl⟩) n1
  ·rcases aj'.mp m with m|m
   ·subst m;exact absurd a.1.symm e
   ·have:=ih n2 m;simp[e];simpa using this
theorem gn_{kvs:List (Str × V)}{l:List (Str × Tok × Value)}(h:Paired (fun(p:Str × V) (x:Str × Tok × Value)=>p.1=x.1/\RelV p.2 x.2.2) kvs l)(z:Str):(valueAt (l.map fun x=>((Sum.inr x.1:Key),x.2.2)) (Sum.inr z)).isSome=decide (z∈kvs.map (·.1)):=by
 rw[f2_ h];unfold valueAt;rw[Option.isSome_map,List.isSome_find?];rw[Bool.eq_iff_iff,List.any_eq_true,decide_eq_true_iff];constructor
 ·rintro⟨kv,hm,e⟩;obtain⟨x,hx,rfl⟩:=ad'.mp hm;have e:(Sum.inr x.1:Key)=Sum.inr z:=by simpa using e
  exact ad'.mpr ⟨x,hx,Sum.inr.inj e⟩
 ·intro m;obtain⟨x,hx,e⟩:=ad'.mp m;exact⟨_,ad'.mpr ⟨x,hx,rfl⟩,by simp[e]⟩
section
variable{X:Cx}{o i:Expr}{pos:Pos}{td ty:TE}
def tKIn(K:F__)(w:World)(ty td:TE):TE:=fun σ H Q=>ty σ H fun y H1=>td σ H1 fun x H2=>∃d kvs z,x=.ref d/\KDict K w d kvs/\y=.str z/\Q (.bl (decide (z∈kvs.map (·.1)))) H2
theorem k5_(hi:PE X i ty)(ho:PE X o td):PC X .In i o (tKIn X.K X.w ty td):=by
 intro pins s σ H Q I h;refine thn (hi pins s σ H _ I h) fun iv s1 ⟨y,H1,I1,ry,q1⟩=>thn (ho pins s1 σ H1 _ I1 q1) fun u s2 ⟨x,H2,I2,rx,d,kvs,z,ex,kd,ey,q2⟩=>?_;subst ex;subst ey;obtain rfl:u=Value.ref d:=rx;obtain⟨l,hp,dd⟩:=kd.of (P:=X.prog) I2.kIn;refine wpAny_in_of (cW_ (k:=Sum.inr z) ry) kd.1 dd.mapOf ?_;rw[gn_ hp];exact⟨.bl _,H2,I2.tok _,rfl,q2⟩
def tKGet(K:F__)(w:World)(td ty:TE):TE:=fun σ H Q=>td σ H fun x H1=>ty σ H1 fun y H2=>∃d kvs z v,x=.ref d/\KDict K w d kvs/\y=.str z/\(z,v)∈kvs/\Q v H2
theorem jw_(ho:PE X o td)(hi:PE X i ty)(hs:NoSl i):PE X (.Subscript o i pos) (tKGet X.K X.w td ty):=by
 intro pins s σ H Q I h;refine gT_ PySem.F.slot_dict_getitem.lookup hs (thn (ho pins s σ H _ I h) fun u s1 ⟨x,H1,I1,rx,q1⟩=>thn (hi pins s1 σ H1 _ I1 q1) fun iv s2 ⟨y,H2,I2,ry,d,kvs,z,v,ex,kd,ey,hm,q2⟩=>?_);subst ex;subst ey;obtain rfl:u=Value.ref d:=rx;obtain⟨l,hp,dd⟩:=kd.of (P:=X.prog) I2.kIn;obtain⟨w',hw,rw'⟩:=jI_ hp kd.2.1 hm;exact⟨dd.mapOf.typeIs,wpAny_getItem_of (cW_ (k:=Sum.inr z) ry) dd.mapOf hw ⟨v,H2,I2.tok _,rw',q2⟩⟩
end
end L2
namespace Ev
open PySem L2
abbrev Rl:=Str × Str × Str × Option Str
def rl:List Rl:=[("least one high","least","one",some "high"),("least one fall","least","one",some "fall"),("least one calm","least","one",some "calm"),("least all high","least","all",some "high"),("least all fall","least","all",some "fall"),("least all calm","least","all",some "calm"),("below one high","below","one",some "high"),("below one fall","below","one",some "fall"),("below one calm","below","one",some "calm"),("below all high","below","all",some "high"),("below all fall","below","all",some "fall"),("below all calm","below","all",some "calm"),("shares one","shares","one",none),("shares all","shares","all",none),("turns high","turns","all",some "high"),("turns fall","turns","all",some "fall"),("turns calm","turns","all",some "calm")]
def optV:Option Str->V
 |some x=>.str x
 |none=>.non
def rnames:List Str:=rl.map (·.1)
theorem gI_:rnames.Nodup:=by decide +kernel
def rkv(as:List Addr):List (Str × V):=List.zipWith (fun(r:Rl) a=>(r.1,V.ref a)) rl as
structure cs' (K:F__) (w:World) (mg:Str->Option Value) (d:Addr) (as:List Addr):Prop where
 mg:mg "RULES"=some (.ref d)
 len:as.length=17
 kd:KDict K w d (rkv as)
 tup:Paired (fun a (r:Rl)=>∀H,SqT K H a [.str r.2.1,.str r.2.2.1,optV r.2.2.2]) as rl
theorem dP_{as:List Addr}(h:as.length=17):(rkv as).map (·.1)=rnames:=by
 have:∀(rs:List Rl) (as:List Addr),as.length=rs.length->(List.zipWith (fun(r:Rl) a=>(r.1,V.ref a)) rs as).map (·.1)=rs.map (·.1):=by
  intro rs
  induction rs with
  |nil=>intro as _;rfl
  |cons r rs ih=>
   intro as e;cases as with
   |nil=>cases e
   |cons a as=>
    rw[List.zipWith_cons_cons,ao',ao',ih as (by simpa using e)]
 exact this rl as h
theorem iG_{K:F__}:∀{rs:List Rl} {as:List Addr},Paired (fun a (r:Rl)=>∀H,SqT K H a [.str r.2.1,.str r.2.2.1,optV r.2.2.2]) as rs->∀r∈rs,∃a,(r.1,V.ref a)∈List.zipWith (fun(r:Rl) a=>(r.1,V.ref a)) rs as/\∀H,SqT K H a [.str r.2.1,.str r.2.2.1,optV r.2.2.2]
 |_,_,.nil,r,h=>by cases h
 |r0::rs,a::as,.cons h t,r,m=>by
  rw[List.zipWith_cons_cons];rcases aj'.mp m with rfl|m
  ·exact⟨a,ah',h⟩
  ·obtain⟨b,hb,hs⟩:=iG_ t r m;exact⟨b,af' _ hb,hs⟩
def inB(ns:List Str):Option Str->Bool
 |some x=>decide (x∈ns)
 |none=>false
section
variable{P:Program}{w:World}{K:F__}{mg:Str->Option Value}{base:Heap}
theorem scIsRule:a7' ["thing"] ["thing"] (a5' cG'):=f__
def dc':Sp:=fun vs H Q _=>∃r∈rl,vs=[.str r.1]/\Q (.bl true) H
theorem gZ_{f d:Addr}{as:List Addr}{fd:FuncData}(F:Fun K "is_rule" "is_rule" cG' f fd)(B:Bi mg)(R:cs' K w mg d as):FnOk P w K mg base CX0 1 f fd ["thing"] dc':=by
 refine F.ok scIsRule (fun vs H Q E h=>?_) (fun cdv A outer s H vs Q E hr h=>?_)
 ·obtain⟨r,hr,rfl,_⟩:=h;rfl
 ·obtain⟨r,hr',rfl,k⟩:=h;refine⟨_,a5_ (ab_ (bu_ (ad_ aP_ (by rfl) B.isi PyProof.Rows.Boot.«isinstance» (a0_ (pv 0) (a0_ (b5_ (v:=.ty "str") (by rfl) B.str PyProof.Rows.Boot.«str» rfl) a3_))) (bj_ (dM_ (k5_ (pv 0) (bM_ (v:=.ref d) (by rfl) R.mg rfl)))))),?_⟩;refine⟨_,rfl,_,_,_,_,rfl,.str r.1,rfl,_,rfl,iteT ⟨_,rfl,d,_,r.1,rfl,R.kd,rfl,?_⟩⟩;rw[dP_ R.len,show decide (r.1∈rnames)=true from decide_eq_true (ad'.mpr ⟨r,hr',rfl⟩)];exact k
theorem scWords:a7' ["rule"] ["rule"] (a5' sWords):=f__
def c2'(K:F__):Sp:=fun vs H Q _=>∃r∈rl,vs=[.str r.1]/\∀a,(∀H',SqT K H' a [.str r.2.1,.str r.2.2.1,optV r.2.2.2])->Q (.ref a) H
theorem ip_{f d:Addr}{as:List Addr}{fd:FuncData}(F:Fun K "checked_words" "checked_words" sWords f fd)(R:cs' K w mg d as)(cI:Cal P w K mg base 1 "is_rule" ["thing"] dc'):FnOk P w K mg base CX0 2 f fd ["rule"] (c2' K):=by
 refine F.ok scWords (fun vs H Q E h=>?_) (fun cdv A outer s H vs Q E hr h=>?_)
 ·obtain⟨r,hr,rfl,_⟩:=h;rfl
 ·obtain⟨r,hr',rfl,k⟩:=h;refine⟨_,a2_ (aC_ (aI_ (aK_ (ah_ cI hr (a0_ (pv 0) a3_)))) (a5_ hZ_) ae_) (a5_ (ab_ (jw_ (bM_ (v:=.ref d) (by rfl) R.mg rfl) (pv 0) (fun _ _=>rfl)))),?_⟩;obtain⟨a,ha,hs⟩:=iG_ R.tup r hr';exact⟨_,rfl,r,hr',rfl,_,rfl,iteF ⟨_,rfl,d,_,r.1,.ref a,rfl,R.kd,rfl,ha,k a hs⟩⟩
end
end Ev
namespace HT
open PySem PySem.Spec PyProof.Rows
section
variable{prog:Program}{w:World}{A:Around}{E:Value->Shared->Prop}{s:Shared}
end
end HT
namespace L2
open PySem PySem.Spec PyProof.Rows
section
variable{X:Cx}{e st:Expr}{te ts:TE}{pos p2:Pos}
end
end L2
namespace Ev
open PySem L2
structure cf' (ts ws:List (Str × Str)):Prop where
 good:∀w∈ws,c0' w
 nd:(ws.map kO).Nodup
 inn:∀w∈ws,kO w∈ts.map kO
 len:ws.length<=ts.length
theorem j7_{ts us ws:List (Str × Str)}(good:∀t∈ts,c0' t)(nd:(ts.map kO).Nodup)(sub:us.Sublist ts)(p:Paired (fun w u=>w=u∨w=(u.2,u.1)) ws us):cf' ts ws:=by
 have e:ws.map kO=us.map kO:=by
  clear sub
  induction p with
  |nil=>rfl
  |cons h _ ih=>
   rw[ao',ao',ih];rcases h with rfl|rfl
   ·rfl
   ·exact congrArg (·::_) (eA_ _ _)
 refine⟨fun w hw=>?_,?_,fun w hw=>?_,?_⟩
 ·obtain⟨i,hi,ew⟩:=aK' hw;have hl:=Paired.length p;have q:=aB_ p i hi (by omega);rw[ew] at q;have g:=good _ (sub.subset (List.getElem_mem (show i<us.length by omega)));rcases q with q|q
  ·rw[q];exact g
  ·rw[q];exact⟨g.2.1,g.1,g.2.2.symm⟩
 ·rw[e];exact (sub.map kO).nodup nd
 ·have:kO w∈ws.map kO:=ad'.mpr ⟨w,hw,rfl⟩;rw[e] at this;exact (sub.map kO).subset this
 ·rw[Paired.length p];exact sub.length_le
def WyAt(K:F__)(H:Hp)(v:V):Option (List (Str × Str))->Prop
 |none=>v=.non
 |some ws=>∃a ys,v=.ref a/\H a=some (.lst ys)/\a8' K H ys (ws.map kT)
theorem WyAt.same{K:F__}{H H':Hp}{v:V}{o:Option (List (Str × Str))}(h:WyAt K H v o)(s:Same H H'):WyAt K H' v o:=by
 cases o with
 |none=>exact h
 |some ws=>
  obtain⟨a,ys,e,ha,t⟩:=h;exact⟨a,ys,e,s _ _ ha,t.same s⟩
abbrev Pc:=Str × Int × Option (List (Str × Str))
def PcAt(K:F__)(H:Hp)(y:V)(p:Pc):Prop:=∃t v,y=.ref t/\H t=some (.tup [.str p.1,.int p.2.1,v])/\WyAt K H v p.2.2
abbrev PcsAt(K:F__)(H:Hp)(ys:List V)(ps:List Pc):Prop:=Paired (PcAt K H) ys ps
structure cS' (ts:List (Str × Str)) (p:Pc):Prop where
 nm:bz' p.1=true
 w1:1<=p.2.1
 w2:p.2.1<=1000000000
 ws:∀ws,p.2.2=some ws->cf' ts ws
theorem PcAt.same{K:F__}{H H':Hp}{y:V}{p:Pc}(h:PcAt K H y p)(s:Same H H'):PcAt K H' y p:=by
 obtain⟨t,v,e,ht,hv⟩:=h;exact⟨t,v,e,s _ _ ht,hv.same s⟩
theorem WyAt.put{K:F__}{H:Hp}{D:Addr}{xs:List V}{v:V}{o:Option (List (Str × Str))}{u:HO}(h:WyAt K H v o)(hD:H D=some (.lst xs))(ne:v≠.ref D):WyAt K (upd H D u) v o:=by
 cases o with
 |none=>exact h
 |some ws=>
  obtain⟨a,ys,e,ha,t⟩:=h;subst e;exact⟨a,ys,rfl,by rw[a4_ fun z=>ne (by rw[z])];exact ha,aV_ t hD⟩
end Ev
namespace Ev
open PySem L2
theorem av_{α β:Type}{F:α->β->Prop}:∀{ys ys':List α} {ks ks':List β},Paired F ys ks->Paired F ys' ks'->Paired F (ys++ys') (ks++ks')
 |_,_,_,_,.nil,h=>h
 |_,_,_,_,.cons a t,h=>.cons a (av_ t h)
def StrV(K:F__)(H:Hp)(v:V):Option Str->Prop
 |some x=>v=.str x
 |none=>∃t,TyOf K H v t/\PySem.W.kitOne K t (.type "str")=some false
def tiedB(hs:List (Str × Int))(ts:List (Str × Str)):Option Str->Option Str->Bool
 |some x,some y=>decide (x∈hs.map (·.1))&&(decide (y∈hs.map (·.1))&&decide (y∈near (a6' hs) (tsOf ts) x))
 |_,_=>false
theorem bE_(hs:List (Str × Int))(ts:List (Str × Str))(x y:Str):tiedB hs ts (some x) (some y)=(decide (x∈hs.map (·.1))&&(decide (y∈hs.map (·.1))&&decide (y∈near (a6' hs) (tsOf ts) x))):=rfl
section
variable{P:Program}{w:World}{K:F__}{mg:Str->Option Value}{base:Heap}
def spHasA(K:F__)(C:Addr):Sp:=fun vs H Q _=>∃(p:Addr) (v:V) (x:Option Str) (hs:List (Str × Int)) (ts:List (Str × Str)) (fp:List Addr),vs=[.ref p,v]/\bs' K C H p hs ts fp/\StrV K H v x/\Q (.bl (inB (hs.map (·.1)) x)) H
theorem jh_{f C:Addr}{fd:FuncData}(F:Fun K "has_hand" "Web.has_hand" sHas f fd)(T:Txt K mg C)(B:Bi mg):FnOk P w K mg base CX0 1 f fd ["self","thing"] (spHasA K C):=by
 refine F.ok scHas (fun vs H Q E h=>?_) (fun cdv A outer s H vs Q E hr h=>?_)
 ·obtain⟨p,v,x,hs,ts,fp,rfl,_⟩:=h;rfl
 ·obtain⟨p,v,x,hs,ts,fp,rfl,W,sv,k⟩:=h;have hu:=b3_ hr;obtain⟨dx,d1,l2,d3,zs,as,rfl,h1,h2,h3,h4,h5,h6,h7⟩:=W.ex;refine⟨_,a5_ (ab_ (bu_ (ad_ aP_ (by rfl) B.isi PyProof.Rows.Boot.«isinstance» (a0_ (pv 1) (a0_ (b5_ (v:=.ty "str") (by rfl) B.str PyProof.Rows.Boot.«str» rfl) a3_))) (bj_ (dM_ (d2_ hu (pv 1) (ar_ (pv 0) rfl)))))),?_⟩;cases x with
  |some x=>
   cases (show v=.str x from sv);refine⟨_,rfl,_,_,_,_,rfl,.str x,rfl,_,rfl,iteT ?_⟩;refine⟨_,rfl,_,rfl,p,C,dx,_,_,rfl,h1,T.cl,T.nS,fa_ _ _ _,d1,_,rfl,.k (k:=Sum.inr x) h2,?_⟩;rw[dt_];exact k
  |none=>
   obtain⟨t,ty,e⟩:=sv;exact⟨_,rfl,_,_,_,_,rfl,ty,e,_,rfl,iteF k⟩
def cL'(K:F__)(C:Addr):Sp:=fun vs H Q _=>∃(p:Addr) (v u:V) (x y:Option Str) (hs:List (Str × Int)) (ts:List (Str × Str)) (fp:List Addr),vs=[.ref p,v,u]/\bs' K C H p hs ts fp/\(a6' hs).Nodup/\StrV K H v x/\StrV K H u y/\Q (.bl (tiedB hs ts x y)) H
theorem i3_{f C:Addr}{fd:FuncData}(F:Fun K "are_tied" "Web.are_tied" sTied f fd)(T:Txt K mg C)(cH:CalM P w K mg base C 1 "has_hand" ["self","thing"] (spHasA K C)):FnOk P w K mg base CX0 2 f fd ["self","one","other"] (cL' K C):=by
 refine F.ok scTied (fun vs H Q E h=>?_) (fun cdv A outer s H vs Q E hr h=>?_)
 ·obtain⟨p,v,u,x,y,hs,ts,fp,rfl,_⟩:=h;rfl
 ·obtain⟨p,v,u,x,y,hs,ts,fp,rfl,W,nd,sv,su,k⟩:=h;have hu:=b3_ hr;obtain⟨dx,d1,l2,d3,zs,as,rfl,h1,h2,h3,h4,h5,h6,h7⟩:=id W.ex;have hno:(flds d1 l2 d3).lookup ("has_hand":Str)=none:=aT_ _ _ _ (by decide +kernel) (by decide +kernel) (by decide +kernel);refine⟨_,a5_ (ab_ (bu_ (bh_ cH T.cl hr (pv 0) (a0_ (pv 1) a3_)) (bu_ (bh_ cH T.cl hr (pv 0) (a0_ (pv 2) a3_)) (bj_ (bd_ (dB_ cmpS (cb' hr 0)) (pv 2) (ac_ hu (ar_ (pv 0) rfl) (pv 1) (fun _ _=>rfl)) (by with_unfolding_all rfl)))))),?_⟩;refine⟨_,rfl,p,dx,_,rfl,h1,hno,_,rfl,p,v,x,hs,ts,_,rfl,W,sv,_,rfl,?_⟩;cases x with
  |none=>exact iteF k
  |some x=>
   cases (show v=.str x from sv);refine ite2 (fun c=>?_) (fun c=>?_)
   ·have hx:x∈hs.map (·.1):=of_decide_eq_true c;obtain⟨a,e1,ha⟩:=iJ_ nd hx h6 h7;refine⟨_,rfl,p,dx,_,rfl,h1,hno,_,rfl,p,u,y,hs,ts,_,rfl,W,su,_,rfl,?_⟩;cases y with
    |none=>exact iteF k
    |some y=>
     cases (show u=.str y from su);rw[bE_,decide_eq_true hx,Bool.true_and] at k;refine ite2 (fun c2=>?_) (fun c2=>?_)
     ·have hy:y∈hs.map (·.1):=of_decide_eq_true c2;rw[decide_eq_true hy,Bool.true_and] at k;refine⟨_,rfl,_,rfl,p,C,dx,_,_,rfl,h1,T.cl,T.nN,h5_ _ _ _,_,rfl,d3,.ref a,rfl,?_,y,_,rfl,⟨a,_,rfl,.of ha,cn_ _⟩,k⟩;rw[<- e1];exact .k (k:=Sum.inr x) h5
     ·have hy:¬y∈hs.map (·.1):=fun z=>c2 (decide_eq_true z);rw[decide_eq_false hy,a0'] at k;exact k
   ·have hx:¬x∈hs.map (·.1):=fun z=>c (decide_eq_true z);cases y with
    |none=>exact k
    |some y=>
     rw[bE_,decide_eq_false hx,a0'] at k;exact k
theorem ib_{hs:List (Str × Int)}{ts ws:List (Str × Str)}(G:Good hs ts)(W:cf' ts ws){t:Str × Str}(ht:t∈tsOf ws):tiedB hs ts (some t.1) (some t.2)=true:=by
 obtain⟨x,hx,ex⟩:=b3'.mp ht;obtain⟨u,hu,eu⟩:=ad'.mp (W.inn x hx);have eo:ord2 u.1 u.2=t:=(dC_ eu).trans ex
 have both:t.1∈hs.map (·.1)/\t.2∈hs.map (·.1)/\ord2 t.1 t.2=t:=by
  obtain⟨g1,g2⟩:=G.tin u hu;rcases df_ u.1 u.2 with e|e
  ·rw[<- eo,e];exact⟨g1,g2,e⟩
  ·rw[<- eo,e];exact⟨g2,g1,(bV_ _ _).trans e⟩
 obtain⟨m1,m2,m3⟩:=both;have m4:t.2∈near (a6' hs) (tsOf ts) t.1:=aN'.mpr ⟨(al_ hs).mem_iff.mpr m2,decide_eq_true (by rw[m3];exact b3'.mpr ⟨u,hu,eo⟩)⟩;rw[bE_,decide_eq_true m1,decide_eq_true m2,decide_eq_true m4];rfl
theorem co':a7' ["web","ways","found","one","other"] ["web","ways"] (a5' sCWays):=f__
def spCWays(K:F__)(C:Addr):Sp:=fun vs H Q _=>∃(p:Addr) (v:V) (o:Option (List (Str × Str))) (hs:List (Str × Int)) (ts:List (Str × Str)) (fp:List Addr),vs=[.ref p,v]/\bs' K C H p hs ts fp/\Good hs ts/\WyAt K H v o/\(∀ws,o=some ws->cf' ts ws) /\
 ∀v' H',Same H H'->WyAt K H' v' (o.map tsOf)->(∀a,v'=.ref a->H a=none)->Q v' H'
theorem hu_{f C:Addr}{fd:FuncData}(F:Fun K "checked_ways" "checked_ways" sCWays f fd)(T:Txt K mg C)(cS:Cal P w K mg base 3 "sorted_ties" ["ties"] (ch' K))(cT:CalM P w K mg base C 2 "are_tied" ["self","one","other"] (cL' K C)):FnOk P w K mg base CX0 4 f fd ["web","ways"] (spCWays K C):=by
 refine F.ok co' (fun vs H Q E h=>?_) (fun cdv A outer s H vs Q E hr h=>?_)
 ·obtain⟨p,v,o,hs,ts,fp,rfl,_⟩:=h;rfl
 ·obtain⟨p,v,o,hs,ts,fp,rfl,W,G,wy,gw,k⟩:=h;have hu:=b3_ hr;have hr2:Room 2 _:=hr.mono (by decide)
  refine⟨_,a2_ (aC_ (ce_ (fh_ (pv 1))) (a5_ (ab_ dZ_)) ae_)
   (a2_ (aa_ (i:=2) co'.nd rfl (Or.inl rfl) (ah_ cS hr (a0_ (pv 1) a3_)))
   (a2_ (aC_ (ce_ (fh_ (pv 2))) ag_ ae_)
   (a2_ (aG_ PassesOwn.never rfl (an_ (pv 2)) (bf_ rfl (af_ (a8_ (i:=3) co'.nd rfl (Or.inl rfl)) (af_ (a8_ (i:=4) co'.nd rfl (Or.inl rfl)) aY_)))
    (a5_ (aC_ (aI_ (aK_ (bh_ cT T.cl hr2 (pv 0) (a0_ (pv 3) (a0_ (pv 4) a3_))))) ag_ ae_)))
   (a5_ (ab_ (pv 2)))))),?_⟩
  cases o with
  |none=>
   cases (show v=.non from wy);exact⟨_,rfl,_,rfl,iteT (k .non H (Same.refl H) rfl (fun a z=>by cases z))⟩
  |some ws=>
   obtain⟨a,ys,rfl,ha,tu⟩:=wy;have Wo:=gw ws rfl;refine⟨_,rfl,_,rfl,iteF ?_⟩;refine⟨_,rfl,a,ys,ws,rfl,ha,tu,Wo.good,Wo.nd,by have:=Wo.len;have:=G.t64;omega,fun l' zs H1 s1 hf hl1 tz=>?_⟩;refine⟨_,rfl,_,rfl,iteF ?_⟩;have W1:=W.same s1;obtain⟨dx,d1,l2,d3,zs0,as,rfl,h1,h2,h3,h4,h5,h6,h7⟩:=id W1.ex;have hno:(flds d1 l2 d3).lookup ("are_tied":Str)=none:=aT_ _ _ _ (by decide +kernel) (by decide +kernel) (by decide +kernel);rw[<- cx_] at tz;refine⟨_,rfl,l',rfl,⟨_,.of hl1⟩,aw_ (K:=K) (a:=l') (xs:=zs) (fun i σ H2=>∃(v3 v4:Option V),σ=[some (.ref p),some (.ref a),some (.ref l'),v3,v4]/\H2=H1) ⟨none,none,rfl,rfl⟩ (fun i σ H2 _ ⟨_,_,_,e⟩=>by subst e;exact .of hl1) ?_ ?_⟩
   ·rintro i y σ H2 hy ⟨v3,v4,rfl,rfl⟩;obtain⟨t,ht,q,rfl,hq⟩:=aN_ tz hy;refine⟨q,_,rfl,.of (hpT hq),rfl,_,_,rfl,_,_,rfl,rfl,?_⟩;refine⟨_,rfl,p,dx,_,rfl,h1,hno,_,rfl,_,rfl,p,_,_,some t.1,some t.2,hs,ts,_,rfl,W1,G.nnd,rfl,rfl,_,rfl,?_⟩;rw[ib_ G Wo (ac' ht)];refine iteF ?_;exact⟨_,_,rfl,rfl⟩
   ·rintro σ H2 ⟨v3,v4,rfl,rfl⟩;exact⟨_,rfl,k (.ref l') _ s1 ⟨l',zs,rfl,hl1,tz⟩ (fun c z=>by cases z;exact hf)⟩
def nrm(p:Pc):Pc:=(p.1,p.2.1,p.2.2.map tsOf)
def b0'(K:F__)(H0 H:Hp)(y:V)(p:Pc):Prop:=∃t v,y=.ref t/\H t=some (.tup [.str p.1,.int p.2.1,v])/\WyAt K H v p.2.2/\∀a,v=.ref a->H0 a=none
theorem b0'.same{K:F__}{H0 H H':Hp}{y:V}{p:Pc}(h:b0' K H0 H y p)(s:Same H H'):b0' K H0 H' y p:=by
 obtain⟨t,v,e,ht,hv,hn⟩:=h;exact⟨t,v,e,s _ _ ht,hv.same s,hn⟩
theorem WyAt.up{K:F__}{H:Hp}{D:Addr}{u:HO}{v:V}{o:Option (List (Str × Str))}(h:WyAt K H v o)(n1:∀xs,H D≠some (.lst xs))(n2:∀xs,H D≠some (.tup xs)):WyAt K (upd H D u) v o:=by
 cases o with
 |none=>exact h
 |some ws=>
  obtain⟨a,ys,e,ha,t⟩:=h;exact⟨a,ys,e,by rw[a4_ (fun z:a=D=>n1 ys (z▸ha))];exact ha,Paired.mapP t fun y k ⟨b,z,q⟩=>⟨b,z,by rw[a4_ (fun z:b=D=>n2 _ (z▸q))];exact q⟩⟩
theorem b0'.up{K:F__}{H0 H:Hp}{D:Addr}{u:HO}{y:V}{p:Pc}(h:b0' K H0 H y p)(n1:∀xs,H D≠some (.lst xs))(n2:∀xs,H D≠some (.tup xs)):b0' K H0 (upd H D u) y p:=by
 obtain⟨t,v,e,ht,hv,hn⟩:=h;exact⟨t,v,e,by rw[a4_ (fun z:t=D=>n2 _ (z▸ht))];exact ht,hv.up n1 n2,hn⟩
theorem dc_{ps:List Pc}{cs:List V}(nd:(ps.map (·.1)).Nodup)(hl:cs.length=ps.length):∀{j:Nat} {q:Pc} {c:V},ps[j]? = some q->cs[j]? = some c->valV ((ps.zip cs).map fun q=>((Sum.inr q.1.1:Key),q.2)) (Sum.inr q.1)=some c:=by
 induction ps generalizing cs with
 |nil=>
  intro j q c h;simp at h
 |cons p ps ih=>
  intro j q c h1 h2;cases cs with
  |nil=>cases hl
  |cons b cs=>
   rw[ao'] at nd;obtain⟨n1,n2⟩:=aI'.mp nd;cases j with
   |zero=>
    have e1:p=q:=by simpa using h1
    have e2:b=c:=by simpa using h2
    subst e1 e2;exact aM_ rfl
   |succ j=>
    have h1:ps[j]? = some q:=by simpa using h1
    have h2:cs[j]? = some c:=by simpa using h2
    show valV ((Sum.inr p.1,b)::((ps.zip cs).map fun q=>((Sum.inr q.1.1:Key),q.2))) (Sum.inr q.1)=_;rw[aL_ fun e=>n1 (by rw[show p.1=q.1 from Sum.inr.inj e];exact ad'.mpr ⟨q,ac' h1,rfl⟩)];exact ih n2 (by simpa using hl) h1 h2
theorem scCPiece:a7' ["web","piece"] ["web","piece"] (a5' cH'):=f__
def df'(K:F__)(C:Addr):Sp:=fun vs H Q _=>∃(p:Addr) (y:V) (q:Pc) (hs:List (Str × Int)) (ts:List (Str × Str)) (fp:List Addr),vs=[.ref p,y]/\bs' K C H p hs ts fp/\Good hs ts/\PcAt K H y q/\cS' ts q /\
 ∀y' H',Same H H'->b0' K H H' y' (nrm q)->Q y' H'
theorem h0_{f C:Addr}{fd:FuncData}(F:Fun K "checked_piece" "checked_piece" cH' f fd)(B:Bi mg)(cN:Cal P w K mg base 1 "is_name" ["thing"] c8')(cW:Cal P w K mg base 2 "is_whole_within" ["thing","least","most"] cU')(cC:Cal P w K mg base 4 "checked_ways" ["web","ways"] (spCWays K C)){tk:Tok}(mW:mg "MOST_WEIGHT"=some (.int 1000000000 tk)) :
  FnOk P w K mg base CX0 5 f fd ["web","piece"] (df' K C):=by
 refine F.ok scCPiece (fun vs H Q E h=>?_) (fun cdv A outer s H vs Q E hr h=>?_)
 ·obtain⟨p,y,q,hs,ts,fp,rfl,_⟩:=h;rfl
 ·obtain⟨p,y,q,hs,ts,fp,rfl,W,G,⟨t,v,rfl,ht,wy⟩,gp,k⟩:=h;have hr1:Room 1 _:=hr.mono (by decide);have hr2:Room 2 _:=hr.mono (by decide)
  refine⟨_,a2_ (aC_ (e1_ (aI_ (aK_ (ad_ aP_ (by rfl) B.isi PyProof.Rows.Boot.«isinstance» (a0_ (pv 1) (a0_ (b5_ (v:=.ty "tuple") (by rfl) B.tuple PyProof.Rows.Boot.«tuple» rfl) a3_)))))
    (cd_ (ao_ fB_ (ad_ aD_ (by rfl) B.len PySem.boot_len (a0_ (pv 1) a3_)) a7_ (nomark _)))).pt ag_ ae_)
   (a2_ (aC_ (aI_ (aK_ (ah_ cN hr1 (a0_ (aF_ aQ_ (pv 1) a7_ (fun _ _=>rfl)) a3_)))) ag_ ae_)
   (a2_ (aC_ (aI_ (aK_ (ah_ cW hr2 (a0_ (aF_ aQ_ (pv 1) a7_ (fun _ _=>rfl)) (a0_ a7_ (a0_ (bM_ (v:=.int 1000000000) (by rfl) mW ⟨tk,rfl⟩) a3_)))))) ag_ ae_)
   (a5_ (ab_ (aH_ (a0_ (aF_ aQ_ (pv 1) a7_ (fun _ _=>rfl)) (a0_ (aF_ aQ_ (pv 1) a7_ (fun _ _=>rfl)) (a0_ (ah_ cC hr (a0_ (pv 0) (a0_ (aF_ aQ_ (pv 1) a7_ (fun _ _=>rfl)) a3_))) a3_)))))))),?_⟩
  refine⟨_,rfl,_,_,_,_,rfl,.tup ht,rfl,_,rfl,iteF ?_⟩;refine⟨_,rfl,t,_,rfl,.inr (.of ht),rfl,_,rfl,?_⟩;refine iteNS (show V.int ((3:Nat):Int)=V.int 3 from rfl) ?_;refine⟨_,rfl,t,_,_,_,rfl,rfl,.of ht,rfl,q.1,rfl,by have:=bY_ gp.nm;omega,fun H1 s1=>⟨_,rfl,?_⟩⟩;rw[gp.nm];refine iteF ?_;have ht1:=s1 _ _ ht;refine⟨_,rfl,t,_,_,_,rfl,rfl,.of ht1,rfl,q.2.1,1,1000000000,rfl,_,rfl,?_⟩;rw[decide_eq_true gp.w1,decide_eq_true gp.w2];refine iteF ?_;refine⟨_,rfl,t,_,_,_,rfl,rfl,.of ht1,rfl,_,rfl,t,_,_,_,rfl,rfl,.of ht1,rfl,_,rfl,_,rfl,t,_,_,_,rfl,rfl,.of ht1,rfl,p,v,q.2.2,hs,ts,fp,rfl,W.same s1,G,wy.same s1,gp.ws,fun v' H2 s2 wy2 hf=>?_⟩;refine⟨by show 3<=sizeLine;decide,fun t' ht'=>?_⟩;exact k (.ref t') _ (s1.trans (s2.trans (Same.new ht'))) ⟨t',v',rfl,a1_,wy2.same (Same.new ht'),fun a z=>s1.free (hf a z)⟩
theorem bP':a7' ["web","pieces","found","piece","checked"] ["web","pieces"] (a5' cq'):=f__
structure Qs (ps qs:List Pc):Prop where
 nms:qs.map (·.1)=sortS (ps.map (·.1))
 mem:∀q∈qs,∃p∈ps,q=nrm p
def cx'(K:F__)(C:Addr):Sp:=fun vs H Q _=>∃(p l:Addr) (ys:List V) (ps:List Pc) (hs:List (Str × Int)) (ts:List (Str × Str)) (fp:List Addr),vs=[.ref p,.ref l]/\bs' K C H p hs ts fp/\Good hs ts/\H l=some (.lst ys)/\PcsAt K H ys ps/\(∀q∈ps,cS' ts q)/\(ps.map (·.1)).Nodup/\ps.length<64 /\
 ∀l' zs qs H',Same H H'->H' l'=some (.lst zs)->Paired (b0' K H H') zs qs->Qs ps qs->Q (.ref l') H'
theorem fH_{f C:Addr}{fd:FuncData}(F:Fun K "checked_pieces" "checked_pieces" cq' f fd)(B:Bi mg)(cP:Cal P w K mg base 5 "checked_piece" ["web","piece"] (df' K C)):FnOk P w K mg base CX0 6 f fd ["web","pieces"] (cx' K C):=by
 refine F.ok bP' (fun vs H Q E h=>?_) (fun cdv A outer s H vs Q E hr h=>?_)
 ·obtain⟨p,l,ys,ps,hs,ts,fp,rfl,_⟩:=h;rfl
 ·obtain⟨p,l,ys,ps,hs,ts,fp,rfl,W,G,hl,pc,gp,nd,h64,k⟩:=h;have hu:=b3_ hr;have sz:=sizeLine_eq;have le:=Paired.length pc
  refine⟨_,a2_ (aC_ (aI_ (aK_ (ad_ aP_ (by rfl) B.isi PyProof.Rows.Boot.«isinstance» (a0_ (pv 1) (a0_ (b5_ (v:=.ty "list") (by rfl) B.list PyProof.Rows.Boot.«list» rfl) a3_))))) ag_ ae_)
   (a2_ (aa_ (i:=2) bP'.nd rfl (Or.inr rfl) bl_)
   (a2_ (aG_ PassesOwn.never rfl (an_ (pv 1)) (a8_ (i:=3) bP'.nd rfl (Or.inl rfl))
    (a2_ (aa_ (i:=4) bP'.nd rfl (Or.inl rfl) (ah_ cP hr (a0_ (pv 0) (a0_ (pv 3) a3_))))
    (a2_ (aC_ (ce_ (d2_ hu (aF_ aQ_ (pv 4) a7_ (fun _ _=>rfl)) (pv 2))) ag_ ae_)
    (a5_ (bc_ hu (pv 2) (aF_ aQ_ (pv 4) a7_ (fun _ _=>rfl)) (pv 4) rfl)))))
   (a5_ (ab_ (aS_ ["name","found"] 1 [2] (an_ (ad_ (cK_ rfl) (by rfl) B.sorted PyProof.Rows.Boot.«sorted» (a0_ (pv 2) a3_))) (fun fp s H=>a8_ (i:=0) (show (["name","found"]:List Str).Nodup by decide +kernel) rfl (Or.inl rfl)) (fun fp s H=>aU_)
    (fun fp s H=>ac_ hu (pv 1) (pv 0) (fun _ _=>rfl))))))),?_⟩
  refine⟨_,rfl,_,_,_,_,rfl,.lst hl,rfl,_,rfl,iteF ?_⟩;intro d hd;have s0:Same H (upd H d (.dK [])):=Same.new hd;refine⟨_,rfl,l,rfl,⟨_,.of (s0 _ _ hl)⟩,aw_ (K:=K) (a:=l) (xs:=ys) (fun i σ H2=>∃(v3 v4:Option V) (cs:List V),σ=[some (.ref p),some (.ref l),some (.ref d),v3,v4]/\Same H H2/\Paired (b0' K H H2) cs ((ps.take i).map nrm)/\H2 d=some (.dK (((ps.take i).zip cs).map fun q=>(Sum.inr q.1.1,q.2)))) ⟨none,none,[],rfl,s0,.nil,a1_⟩ (fun i σ H2 _ ⟨_,_,_,_,s2,_⟩=>.of (s2 _ _ hl)) ?_ ?_⟩
  ·rintro i y σ H2 hy ⟨v3,v4,cs,rfl,s2,pn,hd2⟩;have hi:i<ys.length:=(ab'.mp hy).1;have hq:ps[i]? = some (ps[i]'(by omega)):=ae' (by omega);have py:=aB_ pc i hi (by omega);rw[(ab'.mp hy).2] at py;generalize ps[i]'(by omega)=q at hq py;refine⟨_,rfl,_,rfl,p,y,q,hs,ts,fp,rfl,W.same s2,G,py.same s2,gp q (ac' hq),fun y' H3 s3 pw=>?_⟩;obtain⟨t,v,rfl,ht,wy,hf⟩:=pw;have hd3:=s3 _ _ hd2;have lc:=Paired.length pn;rw[aa',ak'] at lc
   have keys:((((ps.take i).zip cs).map fun q=>((Sum.inr q.1.1:Key),q.2)).map (·.1))=((ps.take i).map (·.1)).map Sum.inr:=by
    rw[al'];have:((fun x:Key × V=>x.1) ∘ fun q:Pc × V=>((Sum.inr q.1.1:Key),q.2))=(fun p:Pc=>(Sum.inr p.1:Key)) ∘ Prod.fst:=rfl;rw[this,<- al',List.map_fst_zip (by rw[ak'];omega),al'];rfl
   have nov:valV (((ps.take i).zip cs).map fun q=>((Sum.inr q.1.1:Key),q.2)) (Sum.inr q.1)=none:=aJ_ (by
    rw[keys];intro m;obtain⟨x,hx,e⟩:=ad'.mp m;cases e;exact bk_ (g:=fun p:Pc=>p.1) nd hq hx)
   refine⟨_,rfl,t,_,_,_,rfl,rfl,.of ht,rfl,_,rfl,d,_,rfl,.k (k:=Sum.inr q.1) hd3,_,rfl,?_⟩;rw[nov];refine iteF ?_;refine⟨_,rfl,_,rfl,_,rfl,t,_,_,_,rfl,rfl,.of ht,rfl,d,_,rfl,.k (k:=Sum.inr q.1) hd3 (by rw[aa',List.length_zip,ak'];omega),?_⟩;have s23:=s2.trans s3;have n1:∀xs,H3 d≠some (.lst xs):=fun xs z=>by rw[hd3] at z;cases z
   have n2:∀xs,H3 d≠some (.tup xs):=fun xs z=>by rw[hd3] at z;cases z
   refine⟨_,_,cs++[.ref t],rfl,fun c o e=>?_,?_,?_⟩
   ·rw[a4_ (a6_ e hd)];exact s23 _ _ e
   ·rw[aB',hq,am'];exact av_ (Paired.mapP pn fun y q h=>(h.same s3).up n1 n2) (.cons (b0'.up ⟨t,v,rfl,ht,wy,fun a z=>s2.free (hf a z)⟩ n1 n2) .nil)
   ·rw[a1_,bI_ _ nov,aB',hq,List.zip_append (by rw[ak'];omega),am'];rfl
  ·rintro σ H2 ⟨v3,v4,cs,rfl,s2,pn,hd2⟩;rw[le,ap'] at pn hd2;have lc:=Paired.length pn;rw[aa'] at lc
   have keys:(((ps.zip cs).map fun q=>((Sum.inr q.1.1:Key),q.2)).map (·.1))=(ps.map (·.1)).map Sum.inr:=by
    rw[al'];have:((fun x:Key × V=>x.1) ∘ fun q:Pc × V=>((Sum.inr q.1.1:Key),q.2))=(fun p:Pc=>(Sum.inr p.1:Key)) ∘ Prod.fst:=rfl;rw[this,<- al',List.map_fst_zip (by omega),al'];rfl
   refine⟨_,rfl,d,_,ps.map (·.1),rfl,hd2,keys,by rw[aa'];exact h64,fun ls hls=>?_⟩;obtain⟨s3,hl3⟩:=nw__ (o:=.lst ((sortS (ps.map (·.1))).map V.str)) hls;refine⟨ls,rfl,⟨_,.of hl3⟩,fun D hD=>?_⟩;generalize upd H2 ls (.lst ((sortS (ps.map (·.1))).map V.str))=H3 at s3 hl3 hD ⊢;have lss:(sortS (ps.map (·.1))).length=ps.length:=by rw[(ak_ _).length_eq,aa']
   refine aZ_ (own:=1) (fv:=[some (.ref d)]) (xs:=(sortS (ps.map (·.1))).map V.str) rfl gok1 (fun i out H'=>∃qs:List Pc,Same H3 H'/\H' D=some (.lst out)/\Paired (b0' K H H2) out qs/\qs.map (·.1)=(sortS (ps.map (·.1))).take i/\∀q∈qs,∃p∈ps,q=nrm p) ⟨[],Same.new hD,a1_,.nil,rfl,by simp⟩ (fun i out H' _ ⟨_,sm,_⟩=>.of (sm _ _ hl3)) (fun zs H4 ⟨qs,s4,hD4,pq,en,mem⟩=>?_) (fun i x out H' hx ⟨qs,sm,hD',pq,en,mem⟩=>?_)
   ·rw[aa',ap'] at en;exact k D zs qs H4 (s2.trans (s3.trans s4)) hD4 (Paired.mapP pq fun y q h=>h.same (s3.trans s4)) ⟨en,mem⟩
   ·obtain⟨n,hn,rfl⟩:=ai_ hx;have hm:n∈ps.map (·.1):=(ak_ _).mem_iff.mp (ac' hn);obtain⟨q,hq,eq⟩:=ad'.mp hm;obtain⟨j,hj,ej⟩:=aK' hq;have hqj:ps[j]? = some q:=by rw[ae' hj,ej]
    have hcj:cs[j]? = some (cs[j]'(by omega)):=ae' (by omega);have hv:=dc_ nd lc hqj hcj;have pj:=aB_ pn j (by omega) (by rw[aa'];omega);rw[List.getElem_map,ej] at pj;generalize cs[j]'(by omega)=c at hcj hv pj;rw[eq] at hv;have lo:=Paired.length pq;have lq:=congrArg List.length en;rw[aa',ak'] at lq;have hi:i<(sortS (ps.map (·.1))).length:=(ab'.mp hn).1;refine⟨_,rfl,rfl,fun Nx hN=>yesT ?_⟩;refine⟨_,rfl,_,rfl,d,c,rfl,?_,out,hD',by omega,hN _ _ ⟨qs++[nrm q],am_ sm hD,a1_,?_,?_,?_⟩⟩
    ·rw[<- hv];exact .k (k:=Sum.inr n) (sm _ _ (s3 _ _ hd2))
    ·exact av_ pq (.cons pj .nil)
    ·rw[am',en,aB',hn,<- eq];rfl
    ·intro q' hq';rcases aw'.mp hq' with hq'|hq'
     ·exact mem q' hq'
     ·obtain rfl:q'=nrm q:=by simpa using hq'
      exact⟨q,hq,rfl⟩
end
end Ev
namespace Ev
open PySem L2
abbrev sGInit:Stmt:=bj' cC' 0
abbrev sGHas:Stmt:=bj' cC' 1
abbrev cZ':Stmt:=bj' cC' 2
abbrev cw':Stmt:=bj' cC' 3
abbrev sGMay:Stmt:=bj' cC' 5
def gflds(p dw dy:Addr):List (Str × V):=putF "ways_by_name" (.ref dy) (putF "weight_by_name" (.ref dw) (putF "web" (.ref p) []))
theorem g12:¬(("web":Str)="weight_by_name"):=by decide +kernel
theorem g13:¬(("web":Str)="ways_by_name"):=by decide +kernel
theorem g23:¬(("weight_by_name":Str)="ways_by_name"):=by decide +kernel
theorem b8_(p dw dy:Addr):(gflds p dw dy).lookup ("web":Str)=some (.ref p):=by
 unfold gflds;rw[a9_,if_neg g13,a9_,if_neg g12,a9_,if_pos rfl]
theorem et_(p dw dy:Addr):(gflds p dw dy).lookup ("weight_by_name":Str)=some (.ref dw):=by
 unfold gflds;rw[a9_,if_neg g23,a9_,if_pos rfl]
theorem jn_(p dw dy:Addr):(gflds p dw dy).lookup ("ways_by_name":Str)=some (.ref dy):=by
 unfold gflds;rw[a9_,if_pos rfl]
theorem bg_(p dw dy:Addr){m:Str}(h1:¬m="web")(h2:¬m="weight_by_name")(h3:¬m="ways_by_name"):(gflds p dw dy).lookup m=none:=by
 unfold gflds;rw[a9_,if_neg h3,a9_,if_neg h2,a9_,if_neg h1]
 all_goals rfl
def wKV(qs:List Pc):List (Key × V):=qs.map fun q=>(Sum.inr q.1,V.int q.2.1)
def yKV(qs:List Pc)(vs:List V):List (Key × V):=(qs.zip vs).map fun x=>(Sum.inr x.1.1,x.2)
theorem eT_(qs:List Pc):(wKV qs).map (·.1)=(qs.map (·.1)).map Sum.inr:=by
 unfold wKV;rw[al',al'];rfl
theorem hO_{qs:List Pc}{vs:List V}(h:vs.length=qs.length):(yKV qs vs).map (·.1)=(qs.map (·.1)).map Sum.inr:=by
 unfold yKV;rw[al'];have:((fun x:Key × V=>x.1) ∘ fun q:Pc × V=>((Sum.inr q.1.1:Key),q.2))=(fun p:Pc=>(Sum.inr p.1:Key)) ∘ Prod.fst:=rfl;rw[this,<- al',List.map_fst_zip (by omega),al'];rfl
structure ba' (K:F__) (CG CW:Addr) (H:Hp) (g p:Addr) (hs:List (Str × Int)) (ts:List (Str × Str)) (qs:List Pc) (fp:List Addr):Prop where
 ex:∃(dx dw dy:Addr) (vs:List V) (fpw:List Addr),H g=some (.ins CG dx (gflds p dw dy))/\bs' K CW H p hs ts fpw/\H dw=some (.dK (wKV qs))/\H dy=some (.dK (yKV qs vs))/\Paired (fun v (q:Pc)=>WyAt K H v q.2.2) vs qs /\
  g∈fp/\dw∈fp/\dy∈fp/\(∀b∈fpw,b∈fp)/\∀v∈vs,∀a,v=.ref a->a∈fp
theorem bK_{α β:Type}{F G:α->β->Prop}:∀{l:List α} {m:List β},Paired F l m->(∀a∈l,∀b,F a b->G a b)->Paired G l m
 |_,_,.nil,_=>.nil
 |_,_,.cons h t,f=>.cons (f _ ah' _ h) (bK_ t fun a ha=>f a (af' _ ha))
theorem WyAt.keep{K:F__}{H H':Hp}{v:V}{o:Option (List (Str × Str))}(h:WyAt K H v o)(k:∀a,v=.ref a->∀u,H a=some u->H' a=some u)(kt:∀b xs,H b=some (.tup xs)->H' b=some (.tup xs)):WyAt K H' v o:=by
 cases o with
 |none=>exact h
 |some ws=>
  obtain⟨a,ys,e,ha,t⟩:=h;exact⟨a,ys,e,k a e _ ha,Paired.mapP t fun y q ⟨b,z,hb⟩=>⟨b,z,kt _ _ hb⟩⟩
theorem ba'.keep{K:F__}{CG CW:Addr}{H H':Hp}{g p:Addr}{hs:List (Str × Int)}{ts:List (Str × Str)}{qs:List Pc}{fp:List Addr}(G:ba' K CG CW H g p hs ts qs fp)(k:∀b∈fp,∀o,H b=some o->H' b=some o)(kt:∀b xs,H b=some (.tup xs)->H' b=some (.tup xs)):ba' K CG CW H' g p hs ts qs fp:=by
 obtain⟨dx,dw,dy,vs,fpw,h1,h2,h3,h4,h5,m1,m2,m3,m4,m5⟩:=G.ex;exact⟨dx,dw,dy,vs,fpw,k _ m1 _ h1,h2.keep (fun b hb o e=>k b (m4 b hb) o e) kt,k _ m2 _ h3,k _ m3 _ h4,bK_ h5 fun v hv q h=>h.keep (fun a z u e=>k a (m5 v hv a z) u e) kt,m1,m2,m3,m4,m5⟩
theorem ba'.same{K:F__}{CG CW:Addr}{H H':Hp}{g p:Addr}{hs:List (Str × Int)}{ts:List (Str × Str)}{qs:List Pc}{fp:List Addr}(G:ba' K CG CW H g p hs ts qs fp)(s:Same H H'):ba' K CG CW H' g p hs ts qs fp:=G.keep (fun b _ o e=>s b o e) fun b xs e=>s b _ e
structure TxtG (K:F__) (CG:Addr):Prop where
 cl:Cls K CG
 nW:bt' K CG "web"
 nG:bt' K CG "weight_by_name"
 nY:bt' K CG "ways_by_name"
structure InsK (K:F__) (C:Addr):Prop where
 ha:PySem.W.findIn K (.ref C) "__class__"=some (some (.builtin "object.__class__"))
 hn:PySem.W.specialIn K (.builtin "object.__class__") "__get__"=some (some (.builtin "getset_descriptor.__get__"))
 tk:PySem.W.takesIn K (.builtin "object.__class__")=some true
 mo:PySem.W.mroIn K C (.type "object")=some true
theorem ie_(K:F__)(c:Value):PySem.W.kitOne K c c=some true:=by
 unfold PySem.W.kitOne;rw[if_pos (beq_self_eq_true c)]
theorem fq_{K:F__}{H0 H:Hp}:∀{zs:List V} {qs:List Pc},Paired (b0' K H0 H) zs qs->∃vs:List V,vs.length=qs.length/\Paired (fun z (x:Pc × V)=>∃t,z=.ref t/\H t=some (.tup [.str x.1.1,.int x.1.2.1,x.2])) zs (qs.zip vs)/\Paired (fun v (q:Pc)=>WyAt K H v q.2.2) vs qs/\∀v∈vs,∀a,v=.ref a->H0 a=none
 |_,_,.nil=>⟨[],rfl,.nil,.nil,by simp⟩
 |_,_,.cons ⟨t,v,e,ht,wy,hn⟩ r=>by
  obtain⟨vs,h1,h2,h3,h4⟩:=fq_ r;refine⟨v::vs,by simp[h1],.cons ⟨t,e,ht⟩ h2,.cons wy h3,fun u hu=>?_⟩;rcases aj'.mp hu with rfl|hu
  ·exact hn
  ·exact h4 u hu
theorem eU_{K:F__}{l D:Addr}{zs:List V}{xs:List (Pc × V)}{H:Hp}{Q:VK}{σ0:St}{j:Nat}(sel:Pc × V->V)(hj:∀x:Pc × V,[some (V.str x.1.1),some (V.int x.1.2.1),some x.2][j]? = some (some (sel x)))(hσ:σ0=[none,none,none])(hl:H l=some (.lst zs))
  (pz:Paired (fun z (x:Pc × V)=>∃t,z=.ref t/\H t=some (.tup [.str x.1.1,.int x.1.2.1,x.2])) zs xs) (h1000:xs.length<=1000) (hD:H D=none)
  (q:∀H' out,Same H H'->H' D=some (.lst out)->bd' K H' out (xs.map fun x=>(Sum.inr x.1.1,sel x))->Q (.ref D) H') :
  dn' (Itl K l) (gTup K 3 (cu' (b1' 0) (cu' (b1' 1) (cu' (b1' 2) gNil)))) tYes (tTup (tCons (tVar 0) (tCons (tVar j) tNil))) σ0 D H Q:=by
 have sz:=sizeLine_eq;have le:=Paired.length pz;refine aZ_ (own:=3) (fv:=[]) (xs:=zs) hσ gok3 (fun i out H'=>Same H H'/\H' D=some (.lst out)/\bd' K H' out ((xs.take i).map fun x=>(Sum.inr x.1.1,sel x))) ⟨Same.new hD,a1_,.nil⟩ (fun i out H' _ ⟨sm,_,_⟩=>.of (sm _ _ hl)) (fun out H4 ⟨sm,hD4,eo⟩=>?_) (fun i y out H' hy ⟨sm,hD',eo⟩=>?_)
 ·rw[le,ap'] at eo;exact q _ _ sm hD4 eo
 ·have hi:i<zs.length:=(ab'.mp hy).1;have hx:xs[i]? = some (xs[i]'(by omega)):=ae' (by omega);obtain⟨t,et,ht⟩:=aB_ pz i hi (by omega);rw[(ab'.mp hy).2] at et;subst et;generalize xs[i]'(by omega)=x at hx ht;have lo:=Paired.length eo;rw[aa',ak'] at lo;refine⟨_,⟨t,_,_,_,rfl,.of (sm _ _ ht),rfl⟩,rfl,fun Nx hN=>yesT ?_⟩;refine⟨_,rfl,_,hj x,by show 2<=sizeLine;decide,fun p hp=>?_⟩;have s2:=Same.new (o:=.tup [.str x.1.1,sel x]) hp;refine⟨out,s2 _ _ hD',by omega,hN _ _ ⟨am_ (sm.trans s2) hD,a1_,?_⟩⟩;rw[aW_ _ hx];have pD:∀{b:Addr} {ys:List V},upd H' p (.tup [.str x.1.1,sel x]) b=some (.tup ys)->b≠D:=fun hb=>az_ hb (s2 _ _ hD') nofun;refine av_ (Paired.mapP eo fun y kv ⟨b,z,hb⟩=>⟨b,z,by rw[a4_ (pD (s2 _ _ hb))];exact s2 _ _ hb⟩) (.cons ⟨p,rfl,?_⟩ .nil);have hp2:upd H' p (.tup [.str x.1.1,sel x]) p=some (.tup [.str x.1.1,sel x]):=a1_;rw[a4_ (pD hp2)];exact hp2
section
variable{P:Program}{w:World}{K:F__}{mg:Str->Option Value}{base:Heap}
theorem scGInit:a7' ["self","web","pieces","checked"] ["self","web","pieces"] (a5' sGInit):=f__
def spGInit(K:F__)(CG CW:Addr):Sp:=fun vs H Q _=>∃(g dx p l:Addr) (ys:List V) (ps:List Pc) (hs:List (Str × Int)) (ts:List (Str × Str)) (fpw:List Addr),vs=[.ref g,.ref p,.ref l]/\H g=some (.ins CG dx [])/\bs' K CW H p hs ts fpw/\g∉fpw/\Good hs ts/\H l=some (.lst ys)/\PcsAt K H ys ps/\(∀q∈ps,cS' ts q)/\(ps.map (·.1)).Nodup/\ps.length<64 /\
 ∀qs fp H',(∀b o,H b=some o->b≠g->H' b=some o)->ba' K CG CW H' g p hs ts qs fp->Qs ps qs->(∀b∈fp,b=g∨b∈fpw∨H b=none)->Q .non H'
theorem il_{f CG CW:Addr}{fd:FuncData}(F:Fun K "__init__" "Goods.__init__" sGInit f fd)(T:TxtG K CG)(TW:Txt K mg CW)(IW:InsK K CW)(B:Bi mg)(mWeb:mg "Web"=some (.ref CW))(cP:Cal P w K mg base 6 "checked_pieces" ["web","pieces"] (cx' K CW)):FnOk P w K mg base CX0 7 f fd ["self","web","pieces"] (spGInit K CG CW):=by
 refine F.ok scGInit (fun vs H Q E h=>?_) (fun cdv A outer s H vs Q E hr h=>?_)
 ·obtain⟨g,dx,p,l,ys,ps,hs,ts,fpw,rfl,_⟩:=h;rfl
 ·obtain⟨g,dx,p,l,ys,ps,hs,ts,fpw,rfl,hg,W,gw,G,hl,pc,gp,nd,h64,k⟩:=h
  refine⟨_,a2_ (aC_ (aI_ (aK_ (ad_ gx_ (by rfl) B.isi PyProof.Rows.Boot.«isinstance» (a0_ (pv 1) (a0_ (bM_ (v:=.ref CW) (by rfl) mWeb rfl) a3_))))) ag_ ae_)
   (a2_ (aa_ (i:=3) scGInit.nd rfl (Or.inl rfl) (ah_ cP hr (a0_ (pv 1) (a0_ (pv 2) a3_))))
   (a2_ (bJ_ (pv 0) (pv 1) rfl)
   (a2_ (bJ_ (pv 0) (aq_ (aE_ rfl) (by rfl) B.dict PyProof.Rows.Boot.«dict» (a0_ (aS_ ["name","weight","ways"] 3 [] (an_ (pv 3)) (fun fp s H=>eq_ (n:=3) (af_ (a8_ (i:=0) (show (["name","weight","ways"]:List Str).Nodup by decide +kernel) rfl (Or.inl rfl)) (af_ (a8_ (i:=1) (show (["name","weight","ways"]:List Str).Nodup by decide +kernel) rfl (Or.inl rfl)) (af_ (a8_ (i:=2) (show (["name","weight","ways"]:List Str).Nodup by decide +kernel) rfl (Or.inl rfl)) aY_)))) (fun fp s H=>aU_) (fun fp s H=>aH_ (a0_ (pv 0) (a0_ (pv 1) a3_)))) a3_)) rfl)
   (a5_ (bJ_ (pv 0) (aq_ (aE_ rfl) (by rfl) B.dict PyProof.Rows.Boot.«dict» (a0_ (aS_ ["name","weight","ways"] 3 [] (an_ (pv 3)) (fun fp s H=>eq_ (n:=3) (af_ (a8_ (i:=0) (show (["name","weight","ways"]:List Str).Nodup by decide +kernel) rfl (Or.inl rfl)) (af_ (a8_ (i:=1) (show (["name","weight","ways"]:List Str).Nodup by decide +kernel) rfl (Or.inl rfl)) (af_ (a8_ (i:=2) (show (["name","weight","ways"]:List Str).Nodup by decide +kernel) rfl (Or.inl rfl)) aY_)))) (fun fp s H=>aU_) (fun fp s H=>aH_ (a0_ (pv 0) (a0_ (pv 2) a3_)))) a3_)) rfl))))),?_⟩
  obtain⟨dxw,d1,l2,d3,zs0,as,ef,w1,_⟩:=id W.ex;refine⟨_,rfl,_,_,_,_,rfl,.ins w1 TW.cl IW.ha IW.hn IW.tk IW.mo,ie_ _ _,_,rfl,iteF ?_⟩;refine⟨_,rfl,_,rfl,p,l,ys,ps,hs,ts,fpw,rfl,W,G,hl,pc,gp,nd,h64,fun lc zs qs H1 s1 hlc pn Qq=>?_⟩;obtain⟨vs,lv,pz,wys,vnew⟩:=fq_ pn;have hg1:=s1 _ _ hg
  have lq:qs.length=ps.length:=by
   have:=congrArg List.length Qq.nms;rw[aa',(ak_ _).length_eq,aa'] at this;exact this
  have qnd:(qs.map (·.1)).Nodup:=by
   rw[Qq.nms];exact (ak_ _).nodup_iff.mpr nd
  refine⟨_,rfl,_,rfl,g,CG,dx,[],rfl,hg1,T.cl,T.nW,by show 0<1000;decide,?_⟩;have up1:∀{b o},H1 b=some o->b≠g->upd H1 g (.ins CG dx (putF "web" (.ref p) [])) b=some o:=fun e ne=>by rw[a4_ ne];exact e
  have hg2:upd H1 g (.ins CG dx (putF "web" (.ref p) [])) g=some (.ins CG dx (putF "web" (.ref p) [])):=a1_
  have fr1:∀{b},upd H1 g (.ins CG dx (putF "web" (.ref p) [])) b=none->H1 b=none:=fun {b} e=>by
   by_cases z:b=g
   ·rw[z,a1_] at e;cases e
   ·rw[a4_ z] at e;exact e
  generalize upd H1 g (.ins CG dx (putF "web" (.ref p) []))=H2 at up1 hg2 fr1 ⊢;have lcg:lc≠g:=az_ hlc hg1 nofun;have pz2:Paired (fun z (x:Pc × V)=>∃t,z=.ref t/\H2 t=some (.tup [.str x.1.1,.int x.1.2.1,x.2])) zs (qs.zip vs):=Paired.mapP pz fun z x ⟨t,e,ht⟩=>⟨t,e,up1 ht (az_ ht hg1 nofun)⟩;have z1000:(qs.zip vs).length<=1000:=by rw[List.length_zip];omega
  refine⟨_,rfl,lc,rfl,⟨_,.of (up1 hlc lcg)⟩,fun D hD=>?_⟩;refine eU_ (fun x=>.int x.1.2.1) (fun x=>rfl) rfl (up1 hlc lcg) pz2 z1000 hD fun H3 out s3 hD3 pa3=>?_;refine⟨D,out,_,rfl,hD3,pa3,by rw[aa'];exact z1000,fun dw hdw=>?_⟩
  have ekv:((qs.zip vs).map fun x:Pc × V=>((Sum.inr x.1.1:Key),V.int x.1.2.1))=wKV qs:=by
   unfold wKV;have:(fun x:Pc × V=>((Sum.inr x.1.1:Key),V.int x.1.2.1))=(fun q:Pc=>((Sum.inr q.1:Key),V.int q.2.1)) ∘ Prod.fst:=rfl;rw[this,<- al',List.map_fst_zip (by omega)]
  have ndk:(qs.map (·.1)).map (Sum.inr:Str->Key) |>.Nodup:=by
   rw[ay',aF'];exact qnd.imp fun n e=>n (Sum.inr.inj e)
  rw[ekv,aO_ (by rw[eT_];exact ndk)];have s4:=Same.new (o:=.dK (wKV qs)) hdw;have hg4:=s4 _ _ (s3 _ _ hg2);refine⟨_,rfl,g,CG,dx,_,rfl,hg4,T.cl,T.nG,by show 1<1000;decide,?_⟩;have s24:=s3.trans s4;have hdw4:upd H3 dw (.dK (wKV qs)) dw=some (.dK (wKV qs)):=a1_;have dwg:dw≠g:=(a6_ (s3 _ _ hg2) hdw).symm;have fr4:∀{b},upd H3 dw (.dK (wKV qs)) b=none->H2 b=none:=fun e=>s24.free e;have dwn:H2 dw=none:=s3.free hdw;generalize upd H3 dw (.dK (wKV qs))=H4 at s4 hg4 s24 hdw4 fr4 ⊢;have up5:∀{b o},H4 b=some o->b≠g->upd H4 g (.ins CG dx (putF "weight_by_name" (.ref dw) (putF "web" (.ref p) []))) b=some o:=fun e ne=>by rw[a4_ ne];exact e
  have hg5:upd H4 g (.ins CG dx (putF "weight_by_name" (.ref dw) (putF "web" (.ref p) []))) g=some (.ins CG dx (putF "weight_by_name" (.ref dw) (putF "web" (.ref p) []))):=a1_
  have fr5:∀{b},upd H4 g (.ins CG dx (putF "weight_by_name" (.ref dw) (putF "web" (.ref p) []))) b=none->H4 b=none:=fun {b} e=>by
   by_cases z:b=g
   ·rw[z,a1_] at e;cases e
   ·rw[a4_ z] at e;exact e
  generalize upd H4 g (.ins CG dx (putF "weight_by_name" (.ref dw) (putF "web" (.ref p) [])))=H5 at up5 hg5 fr5 ⊢;have up15:∀{b o},H1 b=some o->b≠g->H5 b=some o:=fun e ne=>up5 (s24 _ _ (up1 e ne)) ne;have pz5:Paired (fun z (x:Pc × V)=>∃t,z=.ref t/\H5 t=some (.tup [.str x.1.1,.int x.1.2.1,x.2])) zs (qs.zip vs):=Paired.mapP pz fun z x ⟨t,e,ht⟩=>⟨t,e,up15 ht (az_ ht hg1 nofun)⟩;refine⟨_,rfl,lc,rfl,⟨_,.of (up15 hlc lcg)⟩,fun D2 hD2=>?_⟩;refine eU_ (fun x=>x.2) (fun x=>rfl) rfl (up15 hlc lcg) pz5 z1000 hD2 fun H6 out2 s6 hD6 pa6=>?_;refine⟨D2,out2,_,rfl,hD6,pa6,by rw[aa'];exact z1000,fun dy hdy=>?_⟩;rw[show ((qs.zip vs).map fun x:Pc × V=>((Sum.inr x.1.1:Key),x.2))=yKV qs vs from rfl,aO_ (by rw[hO_ lv];exact ndk)];have s7:=Same.new (o:=.dK (yKV qs vs)) hdy;have s57:=s6.trans s7;have hg7:=s57 _ _ hg5;refine⟨_,rfl,g,CG,dx,_,rfl,hg7,T.cl,T.nY,by show 2<1000;decide,?_⟩;have hdy7:upd H6 dy (.dK (yKV qs vs)) dy=some (.dK (yKV qs vs)):=a1_;have dyg:dy≠g:=(a6_ (s6 _ _ hg5) hdy).symm;have dyn:H5 dy=none:=s6.free hdy;generalize upd H6 dy (.dK (yKV qs vs))=H7 at s7 s57 hg7 hdy7 ⊢
  have fin:∀{b o},H1 b=some o->b≠g->upd H7 g (.ins CG dx (gflds p dw dy)) b=some o:=fun e ne=>by
   rw[a4_ ne];exact s57 _ _ (up15 e ne)
  have tupf:∀b xs,H1 b=some (.tup xs)->upd H7 g (.ins CG dx (gflds p dw dy)) b=some (.tup xs):=fun b xs e=>fin e (az_ e hg1 nofun);have nH:∀{b},H1 b=none->H b=none:=fun e=>s1.free e;refine k qs (g::dw::dy::(fpw++vs.filterMap fun v=>match v with | .ref a=>some a|_=>none)) _ (fun b o e ne=>fin (s1 _ _ e) ne) ⟨dx,dw,dy,vs,fpw,a1_,?_,?_,?_,?_,by simp,by simp,by simp,fun b hb=>by simp[hb],fun v hv a z=>?_⟩ Qq fun b hb=>?_
  ·exact W.keep (fun b hb o e=>fin (s1 _ _ e) (fun z=>gw (z▸hb))) fun b xs e=>tupf b xs (s1 _ _ e)
  ·rw[a4_ dwg];exact s57 _ _ (up5 hdw4 dwg)
  ·rw[a4_ dyg];exact hdy7
  ·exact bK_ wys fun v hv q h=>h.keep (fun a z u e=>fin e (fun zz=>by
    subst zz;have:=vnew v hv _ z;rw[hg] at this;cases this)) fun b xs e=>tupf b xs e
  ·refine af' _ (af' _ (af' _ (ax' _ (aM'.mpr ⟨v,hv,?_⟩))));rw[z]
  ·simp only[aj',aw',aM'] at hb;rcases hb with rfl|rfl|rfl|hb|⟨v,hv,e⟩
   ·exact .inl rfl
   ·exact .inr (.inr (nH (fr1 dwn)))
   ·exact .inr (.inr (nH (fr1 (s24.free (fr5 dyn)))))
   ·exact .inr (.inl hb)
   ·cases v with
    |ref a=>
     cases e;exact .inr (.inr (vnew _ hv _ rfl))
    |_=>cases e
end
end Ev
namespace L2
open PySem
theorem pass1{P:Program}{w:World}{X:Cx}:bG' (CX1 P w) X E0:=fun _ _ _ _ _ _ _ h=>by
 obtain⟨_,_,_,_,_,_,_,_,_,_,_,_,z⟩:=h;exact z.elim
end L2
namespace Ev
open PySem L2
structure CalX (P:Program) (w:World) (K:F__) (mg:Str->Option Value) (base:Heap) (C:Addr) (k:Nat) (m:Str) (ps:List Str) (sp:Sp):Prop where
 ex:∃f fd,FnOk P w K mg base (CX1 P w) k f fd ps sp/\Meth K C m f/\bV' K fd ps []
theorem i7_{X:Cx}{C:Addr}{k:Nat}{m:Str}{ps:List Str}{sp:Sp}{pos apos:Pos}{o e:Expr}{es:List Expr}{ta:TE}{t:TA}{pl:Sem Bool}(c:CalX X.prog X.w X.K X.mg X.base C k m ps sp)(cl:Cls X.K C)(hr:Room k X.A)(he:PE X o ta)(ha:PA X (e::es) t)
  (hst:starEach (e::es) X.env=(false,eval e X.env)::starEach es X.env:=by rfl) (hpl:(backTo pos (starEach es X.env)).any (·.1)=false:=by rfl)
  (ht:eval (.Call (.Attribute o m apos) (e::es) [] pos) X.env=(do
   let ov <- eval o X.env
   standAt apos.atName
   let (f,first) <- holding [ov] (getMethod ov m pl)
   callWith pos f first (backTo pos (starEach (e::es) X.env)) (backToKw pos (keywordEach [] X.env))):=by rfl) :
  PE X (.Call (.Attribute o m apos) (e::es) [] pos) (tMeth C m sp [] E0 ta t):=by
 obtain⟨f,fd,F,hm,b⟩:=c.ex;exact hp_ he cl hm F hr b .nil pass1 ha hst hpl ht
theorem er_{kvs:List (Key × V)}{ns:List Str}(h:kvs.map (·.1)=ns.map Sum.inr)(x:Str):(valV kvs (Sum.inr x)).isSome=decide (x∈ns):=by
 by_cases hx:x∈ns
 ·rw[decide_eq_true hx];refine e2_ ?_;rw[h];exact ad'.mpr ⟨x,hx,rfl⟩
 ·rw[decide_eq_false hx,aJ_]
  ·rfl
  ·rw[h];intro m;obtain⟨y,hy,e⟩:=ad'.mp m;cases e;exact hx hy
theorem km_{qs:List Pc}(nd:(qs.map (·.1)).Nodup){q:Pc}(hq:q∈qs):valV (wKV qs) (Sum.inr q.1)=some (.int q.2.1):=by
 obtain⟨j,hj,e⟩:=aK' hq;have:=dc_ (ps:=qs) (cs:=qs.map fun q=>V.int q.2.1) nd (by rw[aa']) (j:=j) (q:=q) (c:=.int q.2.1) (by rw[ae' hj,e]) (by rw[an',ae' hj,e];rfl)
 have e2:((qs.zip (qs.map fun q=>V.int q.2.1)).map fun q=>((Sum.inr q.1.1:Key),q.2))=wKV qs:=by
  unfold wKV;rw[List.zip_map_right,al']
  have:qs.zip qs=qs.map fun q=>(q,q):=by
   clear nd hq this hj e j
   induction qs with
   |nil=>rfl
   |cons a l ih=>rw[List.zip_cons_cons,ih,ao']
  rw[this,al'];rfl
 rwa [e2] at this
theorem jX_{qs:List Pc}{vs:List V}(nd:(qs.map (·.1)).Nodup){K:F__}{H:Hp}(h:Paired (fun v (q:Pc)=>WyAt K H v q.2.2) vs qs){q:Pc}(hq:q∈qs):∃v∈vs,valV (yKV qs vs) (Sum.inr q.1)=some v/\WyAt K H v q.2.2:=by
 obtain⟨j,hj,e⟩:=aK' hq;have hl:=Paired.length h;have hv:j<vs.length:=by omega
 have p:=aB_ h j hv hj;rw[e] at p;exact⟨vs[j],List.getElem_mem hv,dc_ nd (by omega) (by rw[ae' hj,e]) (ae' hv),p⟩
def goB(hs:List (Str × Int))(ts:List (Str × Str))(o:Option (List (Str × Str)))(x y:Option Str):Bool:=
 tiedB hs ts x y&&match o,x,y with
  |none,_,_=>true
  |some ws,some a,some b=>decide (ord2 a b∈ws)
  |_,_,_=>false
section
variable{P:Program}{w:World}{K:F__}{mg:Str->Option Value}{base:Heap}
theorem scGHas:a7' ["self","thing"] ["self","thing"] (a5' sGHas):=f__
def c4'(K:F__)(CG CW:Addr):Sp:=fun vs H Q _=>∃(g p:Addr) (v:V) (x:Option Str) (hs:List (Str × Int)) (ts:List (Str × Str)) (qs:List Pc) (fp:List Addr),vs=[.ref g,v]/\ba' K CG CW H g p hs ts qs fp/\StrV K H v x/\Q (.bl (inB (qs.map (·.1)) x)) H
theorem jx_{f CG CW:Addr}{fd:FuncData}(F:Fun K "has_piece" "Goods.has_piece" sGHas f fd)(T:TxtG K CG)(B:Bi mg):FnOk P w K mg base CX0 1 f fd ["self","thing"] (c4' K CG CW):=by
 refine F.ok scGHas (fun vs H Q E h=>?_) (fun cdv A outer s H vs Q E hr h=>?_)
 ·obtain⟨g,p,v,x,hs,ts,qs,fp,rfl,_⟩:=h;rfl
 ·obtain⟨g,p,v,x,hs,ts,qs,fp,rfl,G,sv,k⟩:=h;have hu:=b3_ hr;obtain⟨dx,dw,dy,vs,fpw,h1,h2,h3,h4,h5,m1,m2,m3,m4,m5⟩:=G.ex;refine⟨_,a5_ (ab_ (bu_ (ad_ aP_ (by rfl) B.isi PyProof.Rows.Boot.«isinstance» (a0_ (pv 1) (a0_ (b5_ (v:=.ty "str") (by rfl) B.str PyProof.Rows.Boot.«str» rfl) a3_))) (bj_ (dM_ (d2_ hu (pv 1) (ar_ (pv 0) rfl)))))),?_⟩;cases x with
  |some x=>
   cases (show v=.str x from sv);refine⟨_,rfl,_,_,_,_,rfl,.str x,rfl,_,rfl,iteT ?_⟩;refine⟨_,rfl,_,rfl,g,CG,dx,_,_,rfl,h1,T.cl,T.nG,et_ _ _ _,dw,_,rfl,.k (k:=Sum.inr x) h3,?_⟩;rw[er_ (eT_ qs)];exact k
  |none=>
   obtain⟨t,ty,e⟩:=sv;exact⟨_,rfl,_,_,_,_,rfl,ty,e,_,rfl,iteF k⟩
theorem scGNames:a7' ["self"] ["self"] (a5' cZ'):=f__
def c9'(K:F__)(CG CW:Addr):Sp:=fun vs H Q _=>∃(g p:Addr) (hs:List (Str × Int)) (ts:List (Str × Str)) (qs:List Pc) (fp:List Addr),vs=[.ref g]/\ba' K CG CW H g p hs ts qs fp/\∀l,H l=none->Q (.ref l) (upd H l (.lst ((qs.map (·.1)).map V.str)))
theorem gl_{f CG CW:Addr}{fd:FuncData}(F:Fun K "names" "Goods.names" cZ' f fd)(T:TxtG K CG)(B:Bi mg):FnOk P w K mg base CX0 1 f fd ["self"] (c9' K CG CW):=by
 refine F.ok scGNames (fun vs H Q E h=>?_) (fun cdv A outer s H vs Q E hr h=>?_)
 ·obtain⟨g,p,hs,ts,qs,fp,rfl,_⟩:=h;rfl
 ·obtain⟨g,p,hs,ts,qs,fp,rfl,G,k⟩:=h;obtain⟨dx,dw,dy,vs,fpw,h1,h2,h3,h4,h5,m1,m2,m3,m4,m5⟩:=G.ex;refine⟨_,a5_ (ab_ (aq_ (c6_ rfl) (by rfl) B.list PyProof.Rows.Boot.«list» (a0_ (ar_ (pv 0) rfl) a3_))),?_⟩;refine⟨_,rfl,g,CG,dx,_,_,rfl,h1,T.cl,T.nG,et_ _ _ _,dw,_,rfl,.inl h3,fun l hl=>?_⟩
  have e:((wKV qs).map fun kv=>kV kv.1)=(qs.map (·.1)).map V.str:=by
   unfold wKV;rw[al',al'];rfl
  rw[e];exact k l hl
structure Ref (K:F__) (mg:Str->Option Value) (x:Str) (C:Addr):Prop where
 mg:mg x=some (.ref C)
 ex:PySem.W.excIn K C [.type "ValueError",.type "Exception",.type "BaseException",.type "object"] "ValueError.__new__"=true
theorem scGWeight:a7' ["self","piece"] ["self","piece"] (a5' cw'):=f__
def bE'(K:F__)(CG CW CP:Addr):Sp:=fun vs H Q E=>∃(g p:Addr) (v:V) (x:Option Str) (hs:List (Str × Int)) (ts:List (Str × Str)) (qs:List Pc) (fp:List Addr),vs=[.ref g,v]/\ba' K CG CW H g p hs ts qs fp/\(qs.map (·.1)).Nodup/\StrV K H v x /\
 ((∃q∈qs,x=some q.1/\Q (.int q.2.1) H)∨(inB (qs.map (·.1)) x=false/\E (.ref CP) none H))
theorem fK_{f CG CW CP:Addr}{fd:FuncData}(F:Fun K "weight" "Goods.weight" cw' f fd)(T:TxtG K CG)(R:Ref K mg "NoPiece" CP)(cH:CalM P w K mg base CG 1 "has_piece" ["self","thing"] (c4' K CG CW)):FnOk P w K mg base (CX1 P w) 2 f fd ["self","piece"] (bE' K CG CW CP):=by
 refine F.okX scGWeight (fun vs H Q E h=>?_) (fun cdv A outer s H vs Q E hr h=>?_)
 ·obtain⟨g,p,v,x,hs,ts,qs,fp,rfl,_⟩:=h;rfl
 ·obtain⟨g,p,v,x,hs,ts,qs,fp,rfl,G,nd,sv,k⟩:=h;have hu:=b3_ hr;obtain⟨dx,dw,dy,vs,fpw,h1,h2,h3,h4,h5,m1,m2,m3,m4,m5⟩:=id G.ex;have hno:(gflds p dw dy).lookup ("has_piece":Str)=none:=bg_ _ _ _ (by decide +kernel) (by decide +kernel) (by decide +kernel);refine⟨_,a2_ (aC_ (aI_ (aK_ (bh_ cH T.cl hr (pv 0) (a0_ (pv 1) a3_)))) (a5_ (f8_ rfl raises1 R.mg R.ex PySem.F.excBase_ValueError (by rfl) (a0_ au_ a3_))) ae_) (a5_ (ab_ (ac_ hu (ar_ (pv 0) rfl) (pv 1) (fun _ _=>rfl)))),?_⟩;refine⟨_,rfl,g,dx,_,rfl,h1,hno,_,rfl,g,p,v,x,hs,ts,qs,fp,rfl,G,sv,_,rfl,?_⟩;rcases k with⟨q,hq,rfl,k⟩|⟨hb,k⟩
  ·cases (show v=.str q.1 from sv);rw[show inB (qs.map (·.1)) (some q.1)=true from decide_eq_true (ad'.mpr ⟨q,hq,rfl⟩)];refine iteF ?_;refine⟨_,rfl,g,CG,dx,_,_,rfl,h1,T.cl,T.nG,et_ _ _ _,_,rfl,dw,_,rfl,?_,k⟩;rw[<- km_ nd hq];exact .k (k:=Sum.inr q.1) h3
  ·rw[hb];exact iteT ⟨by show 1<=sizeLine;decide,k⟩
theorem scGMay:a7' ["self","piece","one","other","ties"] ["self","piece","one","other"] (a5' sGMay):=f__
def spGMay(K:F__)(CG CW CP:Addr):Sp:=fun vs H Q E=>∃(g p:Addr) (v u1 u2:V) (x y1 y2:Option Str) (hs:List (Str × Int)) (ts:List (Str × Str)) (qs:List Pc) (fp:List Addr),vs=[.ref g,v,u1,u2]/\ba' K CG CW H g p hs ts qs fp/\(qs.map (·.1)).Nodup/\(a6' hs).Nodup/\StrV K H v x /\
 ((∃q∈qs,x=some q.1/\StrV K H u1 y1/\StrV K H u2 y2/\∀H',Same H H'->Q (.bl (goB hs ts q.2.2 y1 y2)) H')∨(inB (qs.map (·.1)) x=false/\E (.ref CP) none H))
theorem j6_{f CG CW CP:Addr}{fd:FuncData}(F:Fun K "may_go" "Goods.may_go" sGMay f fd)(T:TxtG K CG)(TW:Txt K mg CW)(R:Ref K mg "NoPiece" CP)(cH:CalM P w K mg base CG 1 "has_piece" ["self","thing"] (c4' K CG CW))(cT:CalM P w K mg base CW 2 "are_tied" ["self","one","other"] (cL' K CW))(cL:Cal P w K mg base 1 "lesser_first" ["one","other"] b2') :
  FnOk P w K mg base (CX1 P w) 3 f fd ["self","piece","one","other"] (spGMay K CG CW CP):=by
 refine F.okX scGMay (fun vs H Q E h=>?_) (fun cdv A outer s H vs Q E hr h=>?_)
 ·obtain⟨g,p,v,u1,u2,x,y1,y2,hs,ts,qs,fp,rfl,_⟩:=h;rfl
 ·obtain⟨g,p,v,u1,u2,x,y1,y2,hs,ts,qs,fp,rfl,G,nd,nnd,sv,k⟩:=h;have hu:=b3_ hr;have hr1:Room 1 _:=hr.mono (by decide);obtain⟨dx,dw,dy,vs,fpw,h1,h2,h3,h4,h5,m1,m2,m3,m4,m5⟩:=id G.ex;have hno:(gflds p dw dy).lookup ("has_piece":Str)=none:=bg_ _ _ _ (by decide +kernel) (by decide +kernel) (by decide +kernel);obtain⟨dxw,d1,l2,d3,zs0,as,ef,w1,_⟩:=id h2.ex;have hnw:(flds d1 l2 d3).lookup ("are_tied":Str)=none:=aT_ _ _ _ (by decide +kernel) (by decide +kernel) (by decide +kernel)
  refine⟨_,a2_ (aC_ (aI_ (aK_ (bh_ cH T.cl hr1 (pv 0) (a0_ (pv 1) a3_)))) (a5_ (f8_ rfl raises1 R.mg R.ex PySem.F.excBase_ValueError (by rfl) (a0_ au_ a3_))) ae_)
   (a2_ (aC_ (aI_ (aK_ (bh_ cT TW.cl hr (ar_ (pv 0) rfl) (a0_ (pv 2) (a0_ (pv 3) a3_))))) (a5_ (ab_ dJ_)) ae_)
   (a2_ (aa_ (i:=4) scGMay.nd rfl (Or.inl rfl) (ac_ hu (ar_ (pv 0) rfl) (pv 1) (fun _ _=>rfl)))
   (a5_ (ab_ (i8_ (dM_ (fh_ (pv 4))) (bj_ (bd_ (dB_ (cmp2 cmpS cmpS) (cb' hr _)) (ah_ cL hr1 (a0_ (pv 2) (a0_ (pv 3) a3_))) (pv 4) (by with_unfolding_all rfl)))))))),?_⟩
  refine⟨_,rfl,g,dx,_,rfl,h1,hno,_,rfl,g,p,v,x,hs,ts,qs,fp,rfl,G,sv,_,rfl,?_⟩;rcases k with⟨q,hq,rfl,s1,s2,k⟩|⟨hb,k⟩
  ·cases (show v=.str q.1 from sv);rw[show inB (qs.map (·.1)) (some q.1)=true from decide_eq_true (ad'.mpr ⟨q,hq,rfl⟩)];refine iteF ?_;refine⟨_,rfl,g,CG,dx,_,_,rfl,h1,T.cl,T.nW,b8_ _ _ _,p,dxw,_,rfl,w1,hnw,_,rfl,_,rfl,p,u1,u2,y1,y2,hs,ts,fpw,rfl,h2,nnd,s1,s2,_,rfl,?_⟩;cases tb:tiedB hs ts y1 y2 with
   |false=>
    refine iteT ?_;have:=k H (Same.refl H);unfold goB at this;rw[tb,a0'] at this;exact this
   |true=>
    refine iteF ?_;obtain⟨u,hu',eu,wy⟩:=jX_ nd h5 hq;refine⟨_,rfl,g,CG,dx,_,_,rfl,h1,T.cl,T.nY,jn_ _ _ _,_,rfl,dy,u,rfl,?_,?_⟩
    ·rw[<- eu];exact .k (k:=Sum.inr q.1) h4
    ·refine⟨_,rfl,_,rfl,?_⟩;unfold goB at k;rw[tb] at k;cases e:q.2.2 with
     |none=>
      rw[e] at wy k;cases (show u=.non from wy);exact iteT (k H (Same.refl H))
     |some ws=>
      rw[e] at wy k;obtain⟨a,ys,rfl,ha,tu⟩:=wy;cases y1 with
      |none=>cases tb
      |some a1=>
       cases y2 with
       |none=>cases tb
       |some a2=>
        cases (show u1=.str a1 from s1);cases (show u2=.str a2 from s2);refine iteF ⟨_,rfl,_,rfl,a1,a2,rfl,fun t ht=>?_⟩;have s3:Same H (upd H t (.tup [.str (ord2 a1 a2).1,.str (ord2 a1 a2).2])):=Same.new ht;refine⟨_,rfl,ord2 a1 a2,ws,⟨t,_,_,rfl,.of a1_,rfl,rfl⟩,⟨a,ys,rfl,.of (s3 _ _ ha),cw_ (tu.same s3)⟩,?_⟩;have z:=k _ s3;rw[Bool.true_and] at z;rw[if_neg ar'];show Q (.bl _) _;have z:Q (.bl (decide (ord2 a1 a2∈ws))) (upd H t (.tup [.str (ord2 a1 a2).1,.str (ord2 a1 a2).2])):=z;generalize upd H t (.tup [.str (ord2 a1 a2).1,.str (ord2 a1 a2).2])=Hz at z ⊢;by_cases hm:ord2 a1 a2∈ws
        ·simpa [hm] using z
        ·simpa [hm] using z
  ·rw[hb];exact iteT ⟨by show 1<=sizeLine;decide,k⟩
end
end Ev
namespace L2
open PySem PySem.Spec PyProof.Rows PySem.W
theorem gD_{P:Program}{w:World}{k:Key}{key:Value}(h:(a9' P w).is k key=true):RelV (kV k) key:=by
 have e2:cl' k key=true:=h;rcases ay_ e2 with⟨i,t,rfl,rfl⟩|⟨x,t,rfl,rfl⟩
 ·exact⟨t,rfl⟩
 ·exact⟨t,rfl⟩
def Itm(d:Addr)(o:Obj)(kvs:List (Key × V)):It:=⟨fun i H=>H d=some (.frz o (.dK kvs))/\i<kvs.length,fun i H y H'=>∃t k x,y=.ref t/\H t=none/\kvs[i]? = some (k,x)/\H'=upd H t (.tup [kV k,x]),fun i H=>H d=some (.frz o (.dK kvs))/\kvs.length<=i⟩
theorem fz_{P:Program}{w:World}{K:F__}{elts:List Expr}{kk:Nat}{pos:Pos}(d it:Addr)(o:Obj)(kvs:List (Key × V)){es:Array DictEntry}{ep:Nat}(ho:o.data=.dict es ep):Turn P w K (.Tuple elts kk pos) (Itm d o kvs) [it] it (fun i h=>∃ok ov,IsItemIter h it d i kvs.length ep ok ov) where
 mem:=by simp
 obj:=fun i h st b hb=>by
  obtain rfl:b=it:=by simpa using hb
  obtain⟨ok,ov,q⟩:=st;exact⟨_,q,fun v z=>by cases z⟩
 keep:=fun i h h' st k=>by
  obtain⟨ok,ov,q⟩:=st;exact⟨ok,ov,k it (by simp) _ q⟩
 item:=by
  intro X hP hw hK hc i pins s σ H E I hf st hg;subst hP hw hK;obtain⟨hd,hi⟩:=hg;obtain⟨vs,rel,dat⟩:=be_ I hd ho;obtain⟨⟨k,x⟩,hx⟩:∃p,kvs[i]? = some p:=⟨kvs[i],by simp[hi]⟩;obtain⟨u,hu,ru⟩:=gH_ rel i hx;obtain⟨ok,ov,st⟩:=st;have itl:it<s.heap.objs.size:=Heap.lt_size st;rw[rel.length] at st;refine wpAny_pyNext_items_item st dat hu fun key h' hk out ht sz kp=>?_;refine⟨_,rfl,wpAny_letOwnedTupleGo_items (s:={ s with heap:=h' }) out fun h2 st2 sb=>?_⟩;have nT:s.heap.objs.size≠it:=a4' itl;have I1:Inv X pins σ (upd H s.heap.objs.size (.tup [kV k,x])) { s with heap:=h2 }:=I.turnedN (t':=s.toks) (fp:=[it]) (its:=[key,u]) (fun b o hb q=>(sb.2 b (by simpa using hb)).trans (kp b o (by simpa using hb) q)) hf (ag' _) (by show 2<=sizeLine;decide) (.cons (gD_ hk) (.cons ru .nil)) ⟨⟨_,(sb.2 _ nT).trans ht,rfl,_,rfl⟩,_,(sb.2 _ nT).trans ht,rfl⟩;refine⟨.ref _,_,I1,rfl,⟨_,k,x,rfl,I.hok.fresh (ag' _),hx,rfl⟩,⟨_,_,by rw[rel.length];exact st2⟩,fun b hb=>?_⟩;have e:b=it:=by simpa using hb
  rw[a4_ (fun z=>nT (z.symm.trans e))];exact (hf b hb).1
 done:=by
  intro X hP hw hK hc i pins s σ H E I hf st hg;subst hP hw hK;obtain⟨hd,hi⟩:=hg;obtain⟨vs,rel,dat⟩:=be_ I hd ho;obtain⟨f0,f1,f2,f3,f4,f5⟩:=hf it (by simp);obtain⟨ok,ov,st⟩:=st;rw[rel.length] at st hi;exact wpAny_pyNext_items_end (I.ok.hd hc) st dat (by simp;omega) fun h' eb=>⟨rfl,I.turned (t':=s.toks) (fun b o hb e=>eb b o hb e) f0 f1 f3 f4 f5⟩
 self:=fun A i s Q E st h=>by
  obtain⟨ok,ov,q⟩:=st;exact kcp_self q h
def iItems(tv:TE):TI:=fun σ H R=>tv σ H fun x H1=>∃v d kvs,x=.ref v/\H1 v=some (br' v d)/\H1 d=some (.dK kvs)/\∀o,R (Itm d o kvs) (upd H1 d (.frz o (.dK kvs)))
theorem ds_{X:Cx}{elts:List Expr}{kk:Nat}{p2:Pos}{e:Expr}{tv:TE}(he:PE X e tv):PI X (.Tuple elts kk p2) e (iItems tv):=by
 intro pins s σ H R I h;refine thn (he pins s σ H _ I h) fun u s1 ⟨x,H1,I1,r1,v,d,kvs,ex,hv,hd,q⟩=>?_;subst ex;cases r1;obtain⟨iv,_,_⟩:=I1.hok v _ hv;obtain⟨o,ho,I2⟩:=I1.freeze hd;obtain⟨z,_,vs,rel,o',es,ep,ho',c',dt,r⟩:=e3_ I1.hok hd;rw[ho] at ho';cases ho';refine wpAny_pyIter_items (knd:=a9' X.prog X.w) (kvs:=vs) (ep:=ep) iv ⟨o,es,ho,c',dt,r⟩ ?_;refine⟨s1.heap.objs.size,[s1.heap.objs.size],_,_,_,rfl,I2.kept (t':=s1.toks) fun b o e=>Heap.get?_push_of_some _ e,fz_ d _ o kvs dt,?_,fun b hb=>?_,q o⟩
 ·rw[rel.length];exact⟨.none,.none,Heap.get?_push_size _ rfl⟩
 ·obtain rfl:b=s1.heap.objs.size:=by simpa using hb
  exact I2.fpOk (ag' _) (I2.hok.fresh (ag' _))
theorem cR_{d:Addr}{o:Obj}{kvs:List (Key × V)}{g:TG}{tb:TS}{D:Ends}{σ:St}{H:Hp}(Pv:Nat->St->Hp->Prop)(h0:Pv 0 σ H)(hl:∀i σ H,i<=kvs.length->Pv i σ H->H d=some (.frz o (.dK kvs)))
  (hs:∀i k x σ H,kvs[i]? = some (k,x)->Pv i σ H->∀t,H t=none->g (.ref t) σ (upd H t (.tup [kV k,x])) fun σ2 H2=>tb { D with nx:=Pv (i+1),ct:=Pv (i+1),bk:=D.nx } σ2 H2) (hd:∀σ H,Pv kvs.length σ H->D.nx σ H) :
  ∃W:Nat->Nat->St->Hp->Prop,(∃m,W 0 m σ H)/\∀i m σ H,W i m σ H->
   ((Itm d o kvs).stop i H/\D.nx σ H)∨((Itm d o kvs).go i H/\∃N:St->Hp->Prop,(∀σ' H',N σ' H'->∃m',m'<m/\W (i+1) m' σ' H')/\∀x H',(Itm d o kvs).yld i H x H'->g x σ H' fun σ2 H2=>tb { D with nx:=N,ct:=N,bk:=D.nx } σ2 H2):=by
 refine⟨fun i m σ H=>m=kvs.length - i/\i<=kvs.length/\Pv i σ H,⟨kvs.length,by simp,aD' _,h0⟩,?_⟩;rintro i m σ H ⟨rfl,hi,p⟩;have q:=hl i σ H hi p;by_cases hlt:i<kvs.length
 ·refine .inr ⟨⟨q,hlt⟩,Pv (i+1),fun σ' H' p'=>⟨kvs.length - (i+1),by omega,rfl,hlt,p'⟩,fun x H' y=>?_⟩;obtain⟨t,k,x,rfl,ht,hx,rfl⟩:=y;exact hs i k x σ H hx p t ht
 ·have e:i=kvs.length:=by omega
  subst e;exact .inl ⟨⟨q,ag' _⟩,hd σ H p⟩
def Itk(d:Addr)(o:Obj)(kvs:List (Key × V)):It:=⟨fun i H=>H d=some (.frz o (.dK kvs))/\i<kvs.length,fun i H y H'=>H'=H/\∃k x,kvs[i]? = some (k,x)/\y=kV k,fun i H=>H d=some (.frz o (.dK kvs))/\kvs.length<=i⟩
theorem hk_{P:Program}{w:World}{K:F__}{tg:Expr}(d it:Addr)(o:Obj)(kvs:List (Key × V)){es:Array DictEntry}{ep:Nat}(ho:o.data=.dict es ep):Turn P w K tg (Itk d o kvs) [it] it (fun i h=>h.IsKeyIter it d i kvs.length ep) where
 mem:=by simp
 obj:=fun i h st b hb=>by
  obtain rfl:b=it:=by simpa using hb
  obtain⟨o,e,c,d⟩:=st;exact⟨o,e,fun v z=>by rw[d] at z;cases z⟩
 keep:=fun i h h' st k=>st.at fun o e=>k it (by simp) o e
 item:=by
  intro X hP hw hK hc i pins s σ H E I hf st hg;subst hP hw hK;obtain⟨hd,hi⟩:=hg;obtain⟨vs,rel,dat⟩:=be_ I hd ho;obtain⟨⟨k,x⟩,hx⟩:∃p,kvs[i]? = some p:=⟨kvs[i],by simp[hi]⟩;obtain⟨u,hu,ru⟩:=gH_ rel i hx;obtain⟨f0,f1,f2,f3,f4,f5⟩:=hf it (by simp);rw[rel.length] at st;refine wpAny_pyNext_dict_item st dat hu fun key h' hk st' sb=>?_;have I1:Inv X pins σ H { s with heap:=h' }:=I.turned (t':=s.toks) (fun b o hb e=>(sb.2 b hb).trans e) f0 f1 f3 f4 f5;obtain⟨o',e,c,dd⟩:=id st';refine⟨key,rfl,ep_ (s:={ s with heap:=h' }) e c dd (by decide) ⟨kV k,H,I1,gD_ hk,⟨rfl,k,x,hx,rfl⟩,?_,fun b hb=>(hf b hb).1⟩⟩;show h'.IsKeyIter it d (i+1) kvs.length ep;rw[rel.length];exact st'
 done:=by
  intro X hP hw hK hc i pins s σ H E I hf st hg;subst hP hw hK;obtain⟨hd,hi⟩:=hg;obtain⟨vs,rel,dat⟩:=be_ I hd ho;obtain⟨f0,f1,f2,f3,f4,f5⟩:=hf it (by simp);rw[rel.length] at st hi;exact wpAny_pyNext_dict_end (I.ok.hd hc) st dat (by simp;omega) fun h' eb=>⟨rfl,I.turned (t':=s.toks) (fun b o hb e=>eb b o hb e) f0 f1 f3 f4 f5⟩
 self:=fun _ _ _ _ _ st h=>wpAny_pyIter_keyiter st h
def iKeys(tv:TE):TI:=fun σ H R=>tv σ H fun x H1=>∃d kvs,x=.ref d/\H1 d=some (.dK kvs)/\∀o,R (Itk d o kvs) (upd H1 d (.frz o (.dK kvs)))
theorem ez_{X:Cx}{tg e:Expr}{tv:TE}(he:PE X e tv):PI X tg e (iKeys tv):=by
 intro pins s σ H R I h;refine thn (he pins s σ H _ I h) fun u s1 ⟨x,H1,I1,r1,d,kvs,ex,hd,q⟩=>?_;subst ex;cases r1;obtain⟨o,ho,I2⟩:=I1.freeze hd;obtain⟨z,hne,vs,rel,o',es,ep,ho',c',dt,r⟩:=e3_ I1.hok hd;rw[ho] at ho';cases ho';refine wpAny_pyIter_dict (knd:=a9' X.prog X.w) (kvs:=vs) (ep:=ep) hne ⟨o,es,ho,c',dt,r⟩ ?_;refine⟨s1.heap.objs.size,[s1.heap.objs.size],_,_,_,rfl,I2.kept (t':=s1.toks) fun b o e=>Heap.get?_push_of_some _ e,hk_ d _ o kvs dt,?_,fun b hb=>?_,q o⟩
 ·rw[rel.length];exact⟨_,Heap.get?_push_size _ rfl,rfl,rfl⟩
 ·obtain rfl:b=s1.heap.objs.size:=by simpa using hb
  exact I2.fpOk (ag' _) (I2.hok.fresh (ag' _))
theorem e7_{d:Addr}{o:Obj}{kvs:List (Key × V)}{g:TG}{tc:TT}{te:TE}{own:Nat}{fv:List (Option V)}{dec:V->Hp->List (Option V)->Prop}{D:Addr}{H:Hp}{Q:VK}{σ0:St}(hσ:σ0=List.replicate own none++fv)(G:GOk g own fv dec)(Pv:Nat->List V->Hp->Prop)
  (h0:Pv 0 [] (upd H D (.lst []))) (hl:∀i out H',i<=kvs.length->Pv i out H'->H' d=some (.frz o (.dK kvs))) (hd:∀out H',Pv kvs.length out H'->Q (.ref D) H')
  (hgo:∀i k x out H',kvs[i]? = some (k,x)->Pv i out H'->∃o3,dec (kV k) H' o3/\o3.length=own/\∀Nx:Hp->Prop,(∀out' H2,Pv (i+1) out' H2->Nx H2)->
   tc (o3++fv) H' fun b H4=>if b=true then te (o3++fv) H4 fun y H5=>∃out2,H5 D=some (.lst out2)/\out2.length<sizeLine/\Nx (upd H5 D (.lst (out2++[y]))) else Nx H4) :
  dn' (Itk d o kvs) g tc te σ0 D H Q:=by
 refine bt_ hσ G kvs.length Pv h0 (fun out H' p=>⟨⟨hl _ _ _ (ag' _) p,ag' _⟩,hd out H' p⟩) fun i out H' hi p=>?_;have q:=hl i out H' (Nat.le_of_lt hi) p;refine⟨⟨q,hi⟩,fun x H2 y=>?_⟩;obtain⟨e,k,v,hx,rfl⟩:=y;subst e;exact hgo i k v out _ hx p
def tThawS(t:TS):TS:=fun D σ H=>∃d kvs,H d=some (.dK kvs)/\t { nx:=fun σ1 H1=>∃o,H1 d=some (.frz o (.dK kvs))/\D.nx σ1 (upd H1 d (.dK kvs)),rt:=fun v H1=>∃o,H1 d=some (.frz o (.dK kvs))/\D.rt v (upd H1 d (.dK kvs)) } σ H
theorem cF_{X:Cx}{st:Stmt}{t:TS}(h:PS X st t):PS X st (tThawS t):=by
 intro pins s σ H D I q;obtain⟨d,kvs,hd,q⟩:=q
 have nf:∀o u,X.H₀ d≠some (.frz o u):=fun o u z=>by
  have:=I.base.frzs _ _ _ z;rw[hd] at this;cases this
 refine thn (h pins s σ H _ I q) fun f s' p=>?_;cases f with
 |next=>
  obtain⟨σ1,H1,I1,o,hf,q1⟩:=p;exact⟨σ1,_,I1.thaw hf nf,q1⟩
 |brk=>
  obtain⟨σ1,H1,I1,q1⟩:=p;exact False.elim q1
 |cont=>
  obtain⟨σ1,H1,I1,q1⟩:=p;exact False.elim q1
 |ret u=>
  obtain⟨v,σ1,H1,I1,r,o,hf,q1⟩:=p;exact⟨v,σ1,_,I1.thaw hf nf,r,q1⟩
end L2
namespace Ev
open PySem L2
structure Fz (d:Addr) (o:Obj) (kvs:List (Key × V)) (H H':Hp):Prop where
 at_:H' d=some (.frz o (.dK kvs))
 sm:∀b u,b≠d->H b=some u->H' b=some u
section
variable{d:Addr}{o:Obj}{kvs:List (Key × V)}{H H' H2:Hp}
theorem Fz.start:Fz d o kvs H (upd H d (.frz o (.dK kvs))):=⟨a1_,fun b u ne e=>by rw[a4_ ne];exact e⟩
theorem Fz.step(f:Fz d o kvs H H')(s:Same H' H2):Fz d o kvs H H2:=⟨s _ _ f.at_,fun b u ne e=>s _ _ (f.sm b u ne e)⟩
theorem Fz.thaw(f:Fz d o kvs H H')(hd:H d=some (.dK kvs)):Same H (upd H' d (.dK kvs)):=fun b u e=>by
 by_cases z:b=d
 ·subst z;rw[hd] at e;cases e;exact a1_
 ·rw[a4_ z];exact f.sm b u z e
theorem Fz.goods{K:F__}{CG CW g p:Addr}{hs:List (Str × Int)}{ts:List (Str × Str)}{qs:List Pc}{fp:List Addr}(f:Fz d o kvs H H')(hd:H d=some (.dK kvs))(G:ba' K CG CW H g p hs ts qs fp)(nd:d∉fp):ba' K CG CW H' g p hs ts qs fp:=
 G.keep (fun b hb u e=>f.sm b u (fun z=>nd (z▸hb)) e) fun b xs e=>f.sm b _ (az_ e hd nofun) e
end
def mKV(ns:List Str)(g:Str->V):List (Key × V):=ns.map fun n=>(Sum.inr n,g n)
theorem bH_(ns:List Str)(g:Str->V):(mKV ns g).map (·.1)=ns.map Sum.inr:=by
 unfold mKV;rw[al'];rfl
theorem ax_(ns:List Str)(g:Str->V):(mKV ns g).length=ns.length:=aa' _
theorem dr_{ns:List Str}{g:Str->V}{n:Str}(h:n∈ns):valV (mKV ns g) (Sum.inr n)=some (g n):=by
 induction ns with
 |nil=>cases h
 |cons m ns ih=>
  by_cases e:m=n
  ·subst e;exact aM_ rfl
  ·have:valV (mKV (m::ns) g) (Sum.inr n)=valV (mKV ns g) (Sum.inr n):=aL_ fun z=>e (Sum.inr.inj z);rw[this];rcases aj'.mp h with z|z
   ·exact absurd z.symm e
   ·exact ih z
theorem bw_{ns:List Str}{g k:Str->V}(h:∀n∈ns,g n=k n):mKV ns g=mKV ns k:=az' fun n hn=>by rw[h n hn]
theorem gC_{ns:List Str}{g:Str->V}{n:Str}{v:V}(h:n∈ns):putK (mKV ns g) (Sum.inr n) v=mKV ns fun m=>if m=n then v else g m:=by
 unfold putK;rw[if_pos]
 ·unfold mKV;rw[al'];refine az' fun m _=>?_;by_cases e:m=n
  ·subst e;simp
  ·have:¬((Sum.inr m:Key)=Sum.inr n):=fun z=>e (Sum.inr.inj z);simp[e]
 ·refine List.any_eq_true.mpr ⟨(Sum.inr n,g n),ad'.mpr ⟨n,h,rfl⟩,by simp⟩
theorem dl_{ns:List Str}{g:Str->V}{n:Str}{v:V}(h:n∉ns):putK (mKV ns g) (Sum.inr n) v=mKV (ns++[n]) fun m=>if m=n then v else g m:=by
 rw[bI_ _ (aJ_ (by
  rw[bH_];intro m;obtain⟨x,hx,e⟩:=ad'.mp m;exact h (Sum.inr.inj e▸hx)))]
 unfold mKV;rw[am'];congr 1
 ·refine az' fun m hm=>?_;have e:¬m=n:=fun z=>h (z▸hm);simp[e]
 ·simp
theorem cc_{ns:List Str}{g:Str->V}{i:Nat}{k:Key}{x:V}(h:(mKV ns g)[i]? = some (k,x)):∃n,ns[i]? = some n/\k=Sum.inr n/\x=g n:=by
 unfold mKV at h;rw[an'] at h;cases e:ns[i]? with
 |none=>rw[e] at h;cases h
 |some n=>
  rw[e] at h;have h:=Option.some.inj h;exact⟨n,rfl,(congrArg Prod.fst h).symm,(congrArg Prod.snd h).symm⟩
theorem bP_{ns:List Str}(nd:ns.Nodup){i:Nat}{n:Str}(h:ns[i]? = some n):n∉ns.take i:=by
 have q:=bk_ (g:=id) (ts:=ns) (by rw[List.map_id];exact nd) h;rwa [List.map_id] at q
theorem ap_{ns:List Str}{i:Nat}{n:Str}(h:ns[i]? = some n):ns.take (i+1)=ns.take i++[n]:=by
 rw[aB',h];rfl
abbrev stF(ns:List Str)(f:Str->Str):List (Key × V):=mKV ns fun n=>.str (f n)
def wOf(q:Pc):Str × Int:=(q.1,q.2.1)
def ld(f:Str->Str)(ws:List (Str × Int))(h:Str):Int:=((ws.filter fun x=>decide (f x.1=h)).map (·.2)).sum
theorem gf_(f:Str->Str)(ws:List (Str × Int))(x:Str × Int)(h:Str):ld f (ws++[x]) h=if h=f x.1 then ld f ws h+x.2 else ld f ws h:=by
 unfold ld;rw[aT'];by_cases e:f x.1=h
 ·rw[if_pos e.symm,am',List.sum_append];simp[e]
 ·rw[if_neg fun z=>e z.symm];simp[e]
theorem ih_{a b:List Int}(p:a.Perm b):a.sum=b.sum:=by
 induction p with
 |nil=>rfl
 |cons x _ ih=>simp[ih]
 |swap x y l=>simp only[List.sum_cons];omega
 |trans _ _ h1 h2=>exact h1.trans h2
theorem iX_(f:Str->Str){a b:List (Str × Int)}(p:a.Perm b)(h:Str):ld f a h=ld f b h:=ih_ ((p.filter _).map _)
theorem ha_:∀{l:List Int},(∀x∈l,0<=x)->0<=l.sum
 |[],_=>by simp
 |x::l,h=>by
  rw[List.sum_cons];have:=h x ah';have:=ha_ (l:=l) fun y hy=>h y (af' _ hy);omega
theorem kc_{f:Str->Str}{ws:List (Str × Int)}{h:Str}(p:∀x∈ws,0<=x.2):0<=ld f ws h:=ha_ fun x hx=>by
 obtain⟨y,hy,rfl⟩:=ad'.mp hx;exact p y (aN'.mp hy).1
theorem Qs.nd{ps qs:List Pc}(Q:Qs ps qs)(nd:(ps.map (·.1)).Nodup):(qs.map (·.1)).Nodup:=by
 rw[Q.nms];exact (ak_ _).nodup_iff.mpr nd
theorem Qs.len{ps qs:List Pc}(Q:Qs ps qs):qs.length=ps.length:=by
 have:=congrArg List.length Q.nms;rw[aa',(ak_ _).length_eq,aa'] at this;exact this
theorem Qs.ws{ps qs:List Pc}(Q:Qs ps qs)(nd:(ps.map (·.1)).Nodup):(qs.map wOf).Perm (ps.map wOf):=by
 have nw:∀{l:List Pc},(l.map (·.1)).Nodup->(l.map wOf).Nodup:=fun {l} h=>by
  have e:(l.map (·.1))=(l.map wOf).map (·.1):=by rw[al'];rfl
  rw[e] at h;exact (aF'.mp h).imp fun n z=>n (by rw[z])
 refine (List.perm_ext_iff_of_nodup (nw (Q.nd nd)) (nw nd)).mpr fun a=>⟨fun h=>?_,fun h=>?_⟩
 ·obtain⟨q,hq,rfl⟩:=ad'.mp h;obtain⟨p,hp,rfl⟩:=Q.mem q hq;exact ad'.mpr ⟨p,hp,rfl⟩
 ·obtain⟨p,hp,rfl⟩:=ad'.mp h
  have m:p.1∈qs.map (·.1):=by
   rw[Q.nms];exact (ak_ _).mem_iff.mpr (ad'.mpr ⟨p,hp,rfl⟩)
  obtain⟨q,hq,e⟩:=ad'.mp m;obtain⟨p',hp',e'⟩:=Q.mem q hq;have:p'=p:=cQ_ nd hp' hp (by rw[e'] at e;exact e);refine ad'.mpr ⟨q,hq,?_⟩;rw[e',this];rfl
end Ev
namespace Ev
open PySem L2
section
variable{P:Program}{w:World}{K:F__}{mg:Str->Option Value}{base:Heap}
structure StandOk (hs:List (Str × Int)) (qs:List Pc) (ns:List Str) (f:Str->Str):Prop where
 perm:ns.Perm (qs.map (·.1))
 at_:∀n∈ns,f n∈hs.map (·.1)
theorem b4':a7' ["goods","stand","piece","hand","names"] ["goods","stand"] (a5' cT'):=f__
def cp'(K:F__)(CG CW:Addr):Sp:=fun vs H Q _=>∃(g p d:Addr) (hs:List (Str × Int)) (ts:List (Str × Str)) (qs:List Pc) (fp:List Addr) (ns:List Str) (f:Str->Str),vs=[.ref g,.ref d]/\ba' K CG CW H g p hs ts qs fp/\d∉fp/\H d=some (.dK (stF ns f))/\StandOk hs qs ns f/\(qs.map (·.1)).Nodup/\qs.length<64 /\
 ∀d' H',Same H H'->H d'=none->H' d'=some (.dK (stF (qs.map (·.1)) f))->Q (.ref d') H'
theorem gO_{f CG CW:Addr}{fd:FuncData}(F:Fun K "checked_stand" "checked_stand" cT' f fd)(B:Bi mg)(T:TxtG K CG)(TW:Txt K mg CW)(cH:CalM P w K mg base CG 1 "has_piece" ["self","thing"] (c4' K CG CW))(cW:CalM P w K mg base CW 1 "has_hand" ["self","thing"] (spHas K CW))(cN:CalM P w K mg base CG 1 "names" ["self"] (c9' K CG CW)) :
  FnOk P w K mg base CX0 2 f fd ["goods","stand"] (cp' K CG CW):=by
 refine F.ok b4' (fun vs H Q E h=>?_) (fun cdv A outer s H vs Q E hr h=>?_)
 ·obtain⟨g,p,d,hs,ts,qs,fp,ns,f,rfl,_⟩:=h;rfl
 ·obtain⟨g,p,d,hs,ts,qs,fp,ns,f,rfl,G,dfp,hd,so,nd,h64,k⟩:=h;have hu:=b3_ hr;have sz:=sizeLine_eq;refine' ⟨_,?r0,?kk⟩
  case' r0=>refine' a2_ ?s1 ?r1
  case s1=>exact aC_ (aI_ (aK_ (ad_ aP_ (by rfl) B.isi PyProof.Rows.Boot.«isinstance» (a0_ (pv 1) (a0_ (b5_ (v:=.ty "dict") (by rfl) B.dict PyProof.Rows.Boot.«dict» rfl) a3_))))) ag_ ae_
  case' r1=>refine' a2_ ?s2 ?r2
  case' s2=>refine' cF_ (aG_ PassesOwn.never rfl ?i2 ?g2 ?b2)
  case i2=>exact ds_ (cq_ (pv 1))
  case g2=>exact bf_ rfl (af_ (a8_ (i:=2) b4'.nd rfl (Or.inl rfl)) (af_ (a8_ (i:=3) b4'.nd rfl (Or.inl rfl)) aY_))
  case b2=>exact a2_ (aC_ (aI_ (aK_ (bh_ cH T.cl hr (pv 0) (a0_ (pv 2) a3_)))) ag_ ae_) (a5_ (aC_ (aI_ (aK_ (bh_ cW TW.cl hr (ar_ (pv 0) rfl) (a0_ (pv 3) a3_)))) ag_ ae_))
  case' r2=>refine' a2_ ?s3 ?r3
  case s3=>exact aa_ (i:=4) b4'.nd rfl (Or.inl rfl) (d8_ cN T.cl hr (pv 0))
  case' r3=>refine' a2_ ?s4 (a5_ ?s5)
  case s4=>exact aC_ (ao_ fB_ (ad_ gt_ (by rfl) B.len PySem.boot_len (a0_ (pv 1) a3_)) (ad_ aD_ (by rfl) B.len PySem.boot_len (a0_ (pv 4) a3_)) (nomark _)) ag_ ae_
  case s5=>exact ab_ (aq_ (aE_ rfl) (by rfl) B.dict PyProof.Rows.Boot.«dict» (a0_ (aS_ ["piece","stand"] 1 [1] (an_ (pv 4)) (fun fp s H=>a8_ (i:=0) (show (["piece","stand"]:List Str).Nodup by decide +kernel) rfl (Or.inl rfl)) (fun fp s H=>aU_) (fun fp s H=>aH_ (a0_ (pv 0) (a0_ (ac_ hu (pv 1) (pv 0) (fun _ _=>rfl)) a3_)))) a3_))
  case' kk=>skip
  have lns:ns.length=qs.length:=by rw[so.perm.length_eq,aa']
  refine⟨_,rfl,_,_,_,_,rfl,.dK hd,rfl,_,rfl,iteF ?_⟩;refine⟨d,_,hd,?_⟩;refine⟨_,rfl,d,_,rfl,hd,fun v hv=>?_⟩;obtain⟨s1,hv1⟩:=nw__ (o:=br' v d) hv;have G1:=G.same s1;have hd1:=s1 _ _ hd;generalize upd H v (br' v d)=H1 at s1 hv1 G1 hd1 ⊢;refine⟨v,d,_,rfl,hv1,hd1,fun o=>?_⟩;refine cR_ (fun i σ H'=>∃(v2 v3:Option V),σ=[some (.ref g),some (.ref d),v2,v3,none]/\Fz d o (stF ns f) H1 H') ⟨none,none,rfl,Fz.start⟩ (fun i σ H' _ ⟨_,_,_,z⟩=>z.at_) ?_ ?_
  ·rintro i ky x σ H2 hx ⟨v2,v3,rfl,fz⟩ t ht;obtain⟨n,hn,rfl,rfl⟩:=cc_ hx;have nm:=ac' hn;have s2:=Same.new (o:=.tup [.str n,.str (f n)]) ht;have fz2:=fz.step s2;have e2:upd H2 t (.tup [.str n,.str (f n)]) t=some (.tup [.str n,.str (f n)]):=a1_;show gTup _ _ _ _ _ (upd H2 t (.tup [.str n,.str (f n)])) _;generalize upd H2 t (.tup [.str n,.str (f n)])=H3 at s2 fz2 e2 ⊢;refine⟨t,_,rfl,.of e2,rfl,_,_,rfl,_,_,rfl,rfl,?_⟩;have G3:=fz2.goods hd1 G1 dfp;obtain⟨dx,dw,dy,vs,fpw,h1,h2,h3,h4,h5,m1,m2,m3,m4,m5⟩:=id G3.ex;obtain⟨dxw,d1,l2,d3,zs0,as,ef,w1,_⟩:=id h2.ex;have hno:(gflds p dw dy).lookup ("has_piece":Str)=none:=bg_ _ _ _ (by decide +kernel) (by decide +kernel) (by decide +kernel);have hnw:(flds d1 l2 d3).lookup ("has_hand":Str)=none:=aT_ _ _ _ (by decide +kernel) (by decide +kernel) (by decide +kernel);refine⟨_,rfl,g,dx,_,rfl,h1,hno,_,rfl,g,p,.str n,some n,hs,ts,qs,fp,rfl,G3,rfl,_,rfl,?_⟩;rw[show inB (qs.map (·.1)) (some n)=true from decide_eq_true (so.perm.mem_iff.mp nm)];refine iteF ?_;refine⟨_,rfl,g,CG,dx,_,_,rfl,h1,T.cl,T.nW,b8_ _ _ _,p,dxw,_,rfl,w1,hnw,_,rfl,p,f n,hs,ts,fpw,rfl,h2,_,rfl,?_⟩;rw[decide_eq_true (so.at_ n nm)];exact iteF ⟨_,_,rfl,fz2⟩
  rintro σ H2 ⟨v2,v3,rfl,fz⟩;refine⟨o,fz.at_,?_⟩;have s2:=s1.trans (fz.thaw hd1);have hd2:upd H2 d (.dK (stF ns f)) d=some (.dK (stF ns f)):=a1_;generalize upd H2 d (.dK (stF ns f))=H3 at s2 hd2 ⊢;have G3:=G.same s2;obtain⟨dx,dw,dy,vs,fpw,h1,h2,h3,h4,h5,m1,m2,m3,m4,m5⟩:=id G3.ex;refine⟨_,rfl,g,dx,_,rfl,h1,bg_ _ _ _ (by decide +kernel) (by decide +kernel) (by decide +kernel),g,p,hs,ts,qs,fp,rfl,G3,fun ln hln=>?_⟩;obtain⟨s3,e3⟩:=nw__ (o:=.lst ((qs.map (·.1)).map V.str)) hln;have hd3:=s3 _ _ hd2;generalize upd H3 ln (.lst ((qs.map (·.1)).map V.str))=H4 at s3 e3 hd3 ⊢;refine⟨_,rfl,d,_,rfl,hd3,_,rfl,ln,_,rfl,.inl (.of e3),rfl,_,rfl,?_⟩;rw[ax_,aa',aa',lns];simp only[bne_self_eq_false,decide_true,Bool.not_true];refine iteF ?_;have s04:=s2.trans s3;refine⟨_,rfl,ln,rfl,⟨_,.of e3⟩,fun D hD=>?_⟩;refine aZ_ (own:=1) (fv:=[some (.ref d)]) (xs:=(qs.map (·.1)).map V.str) rfl gok1 (fun i out H'=>Same H4 H'/\H' D=some (.lst out)/\bd' K H' out (stF ((qs.map (·.1)).take i) f)) ⟨Same.new hD,a1_,.nil⟩ (fun i out H' _ ⟨sm,_,_⟩=>.of (sm _ _ e3)) (fun out H5 ⟨sm,hD5,pa⟩=>?_) (fun i y out H' hy ⟨sm,hD',pa⟩=>?_)
  ·rw[aa',ap'] at pa;refine⟨D,out,_,rfl,hD5,pa,by rw[ax_,aa'];omega,fun d' hd'=>?_⟩
   have ndk:((stF (qs.map (·.1)) f).map (·.1)).Nodup:=by
    rw[bH_,ay',aF'];exact nd.imp fun n e=>n (Sum.inr.inj e)
   rw[aO_ ndk];exact k d' _ ((s04.trans sm).trans (Same.new hd')) (s04.free (sm.free hd')) a1_
  ·obtain⟨n,hn,rfl⟩:=ai_ hy;have hi:i<(qs.map (·.1)).length:=(ab'.mp hn).1;rw[aa'] at hi;have nm:n∈ns:=so.perm.mem_iff.mpr (ac' hn);refine⟨_,rfl,rfl,fun Nx hN=>yesT ?_⟩;refine⟨_,rfl,_,rfl,_,rfl,d,.str (f n),rfl,?_,by show 2<=sizeLine;decide,fun t ht=>?_⟩
   ·rw[<- dr_ (g:=fun n=>V.str (f n)) nm];exact .k (k:=Sum.inr n) (sm _ _ hd3)
   have s5:=Same.new (o:=.tup [.str n,.str (f n)]) ht;have lo:=Paired.length pa;rw[ax_,ak',aa'] at lo;refine⟨out,s5 _ _ hD',by omega,hN _ _ ⟨am_ (sm.trans s5) hD,a1_,?_⟩⟩;have ht5:upd H' t (.tup [.str n,.str (f n)]) t=some (.tup [.str n,.str (f n)]):=a1_;have pD:∀{b:Addr} {ys:List V},upd H' t (.tup [.str n,.str (f n)]) b=some (.tup ys)->b≠D:=fun hb=>az_ hb (s5 _ _ hD') nofun;rw[ap_ hn];show bd' K _ _ (((qs.map (·.1)).take i++[n]).map _);rw[am'];exact av_ (Paired.mapP pa fun y kv ⟨b,z,hb⟩=>⟨b,z,by rw[a4_ (pD (s5 _ _ hb))];exact s5 _ _ hb⟩) (.cons ⟨t,rfl,by rw[a4_ (pD ht5)];exact ht5⟩ .nil)
end
end Ev
namespace Ev
open PySem L2
section
variable{d d2:Addr}{o:Obj}{kvs:List (Key × V)}{H H' H1:Hp}{u:HO}
theorem Fz.start'(s:Same H H1):Fz d o kvs H (upd H1 d (.frz o (.dK kvs))):=⟨a1_,fun b u ne e=>by rw[a4_ ne];exact s _ _ e⟩
theorem Fz.put(f:Fz d o kvs H H')(hn:H d2=none)(ne:d2≠d):Fz d o kvs H (upd H' d2 u):=⟨by rw[a4_ ne.symm];exact f.at_,fun b u nb e=>by rw[a4_ (a6_ e hn)];exact f.sm b u nb e⟩
end
section
variable{P:Program}{w:World}{K:F__}{mg:Str->Option Value}{base:Heap}
theorem bN':a7' ["goods","placed","hand","found","piece"] ["goods","placed"] (a5' ci'):=f__
structure bX' (K:F__) (CG CW:Addr) (H:Hp) (g p d:Addr) (hs:List (Str × Int)) (ts:List (Str × Str)) (qs:List Pc) (fp:List Addr) (f:Str->Str):Prop where
 G:ba' K CG CW H g p hs ts qs fp
 Gd:Good hs ts
 dfp:d∉fp
 hd:H d=some (.dK (stF (qs.map (·.1)) f))
 at_:∀n∈qs.map (·.1),f n∈hs.map (·.1)
 nd:(qs.map (·.1)).Nodup
 h64:qs.length<64
abbrev ldV(hs:List (Str × Int))(qs:List Pc)(f:Str->Str):List (Key × V):=mKV (a6' hs) fun h=>.int (ld f (qs.map wOf) h)
def b7'(K:F__)(CG CW:Addr):Sp:=fun vs H Q _=>∃(g p d:Addr) (hs:List (Str × Int)) (ts:List (Str × Str)) (qs:List Pc) (fp:List Addr) (f:Str->Str),vs=[.ref g,.ref d]/\bX' K CG CW H g p d hs ts qs fp f /\
 ∀d' H',Same H H'->H d'=none->H' d'=some (.dK (ldV hs qs f))->Q (.ref d') H'
theorem fE_{f CG CW CP:Addr}{fd:FuncData}(F:Fun K "loads_at" "loads_at" ci' f fd)(B:Bi mg)(T:TxtG K CG)(TW:Txt K mg CW)(cH:CalM P w K mg base CW 1 "hands" ["self"] (b8' K CW))(cW:CalX P w K mg base CG 2 "weight" ["self","piece"] (bE' K CG CW CP)) :
  FnOk P w K mg base CX0 3 f fd ["goods","placed"] (b7' K CG CW):=by
 refine F.ok bN' (fun vs H Q E h=>?_) (fun cdv A outer s H vs Q E hr h=>?_)
 ·obtain⟨g,p,d,hs,ts,qs,fp,f,rfl,_⟩:=h;rfl
 ·obtain⟨g,p,d,hs,ts,qs,fp,f,rfl,Pl,k⟩:=h;have hu:=b3_ hr;have sz:=sizeLine_eq;have hr1:Room 1 _:=hr.mono (by decide);refine' ⟨_,?r0,?kk⟩
  case' r0=>refine' a2_ ?s1 ?r1
  case s1=>exact aa_ (i:=3) bN'.nd rfl (Or.inl rfl) (aq_ (aE_ rfl) (by rfl) B.dict PyProof.Rows.Boot.«dict» (a0_ (aS_ ["hand"] 1 [] (an_ (d8_ cH TW.cl hr1 (ar_ (pv 0) rfl))) (fun fp s H=>a8_ (i:=0) (show (["hand"]:List Str).Nodup by decide +kernel) rfl (Or.inl rfl)) (fun fp s H=>aU_) (fun fp s H=>aH_ (a0_ (pv 0) (a0_ a7_ a3_)))) a3_))
  case' r1=>refine' a2_ ?s2 ?r2
  case' s2=>refine' cF_ (aG_ PassesOwn.never rfl ?i2 ?g2 (a5_ ?b2))
  case i2=>exact ds_ (cq_ (pv 1))
  case g2=>exact bf_ rfl (af_ (a8_ (i:=4) bN'.nd rfl (Or.inl rfl)) (af_ (a8_ (i:=2) bN'.nd rfl (Or.inl rfl)) aY_))
  case b2=>exact bc_ hu (pv 3) (pv 2) (aj_ aR_ (ac_ hu (pv 3) (pv 2) (fun _ _=>rfl)) (i7_ cW T.cl hr (pv 0) (a0_ (pv 4) a3_))) rfl
  case r2=>exact a5_ (ab_ (pv 3))
  case' kk=>skip
  have nl:=Pl.Gd.nlen;have h8:=Pl.Gd.h8;obtain⟨dx,dw,dy,vs,fpw,h1,h2,h3,h4,h5,m1,m2,m3,m4,m5⟩:=id Pl.G.ex;obtain⟨dxw,d1,l2,d3,zs0,as,ef,w1,_⟩:=id h2.ex;have hnw:(flds d1 l2 d3).lookup ("hands":Str)=none:=aT_ _ _ _ (by decide +kernel) (by decide +kernel) (by decide +kernel);refine⟨_,rfl,g,CG,dx,_,_,rfl,h1,T.cl,T.nW,b8_ _ _ _,p,dxw,_,rfl,w1,hnw,p,hs,ts,fpw,rfl,h2,fun lh hlh=>?_⟩;obtain⟨s1,e1⟩:=nw__ (o:=.lst ((a6' hs).map V.str)) hlh;generalize upd H lh (.lst ((a6' hs).map V.str))=H1 at s1 e1 ⊢;refine⟨lh,rfl,⟨_,.of e1⟩,fun D hD=>?_⟩;refine aZ_ (own:=1) (fv:=[]) (xs:=(a6' hs).map V.str) rfl gok1 (fun i out H'=>Same H1 H'/\H' D=some (.lst out)/\bd' K H' out (mKV ((a6' hs).take i) fun _=>.int 0)) ⟨Same.new hD,a1_,.nil⟩ (fun i out H' _ ⟨sm,_,_⟩=>.of (sm _ _ e1)) (fun out H5 ⟨sm,hD5,pa⟩=>?_) (fun i y out H' hy ⟨sm,hD',pa⟩=>?_);rotate_left 1
  ·obtain⟨n,hn,rfl⟩:=ai_ hy;have hi:i<(a6' hs).length:=(ab'.mp hn).1;refine⟨_,rfl,rfl,fun Nx hN=>yesT ?_⟩;refine⟨_,rfl,by show 2<=sizeLine;decide,fun t ht=>?_⟩;have s5:=Same.new (o:=.tup [.str n,.int 0]) ht;have lo:=Paired.length pa;rw[ax_,ak'] at lo;refine⟨out,s5 _ _ hD',by omega,hN _ _ ⟨am_ (sm.trans s5) hD,a1_,?_⟩⟩;have ht5:upd H' t (.tup [.str n,.int 0]) t=some (.tup [.str n,.int 0]):=a1_;have pD:∀{b:Addr} {ys:List V},upd H' t (.tup [.str n,.int 0]) b=some (.tup ys)->b≠D:=fun hb=>az_ hb (s5 _ _ hD') nofun;rw[ap_ hn];show bd' K _ _ (((a6' hs).take i++[n]).map _);rw[am'];exact av_ (Paired.mapP pa fun y kv ⟨b,z,hb⟩=>⟨b,z,by rw[a4_ (pD (s5 _ _ hb))];exact s5 _ _ hb⟩) (.cons ⟨t,rfl,by rw[a4_ (pD ht5)];exact ht5⟩ .nil)
  rw[aa',ap'] at pa;refine⟨D,out,_,rfl,hD5,pa,by rw[ax_];omega,fun d2 hd2=>?_⟩
  have ndk:((mKV (a6' hs) fun _=>V.int 0).map (·.1)).Nodup:=by
   rw[bH_,ay',aF'];exact Pl.Gd.nnd.imp fun n e=>n (Sum.inr.inj e)
  rw[aO_ ndk];have s2:=(s1.trans sm).trans (Same.new (o:=.dK (mKV (a6' hs) fun _=>V.int 0)) hd2);have e2:upd H5 d2 (.dK (mKV (a6' hs) fun _=>V.int 0)) d2=some (.dK (mKV (a6' hs) fun _=>V.int 0)):=a1_;have n2:H d2=none:=s1.free (sm.free hd2);show tSeq _ _ _ _ (upd H5 d2 (.dK (mKV (a6' hs) fun _=>V.int 0)));generalize upd H5 d2 (.dK (mKV (a6' hs) fun _=>V.int 0))=H6 at s2 e2 ⊢;have d2d:d2≠d:=(a6_ Pl.hd n2).symm;refine⟨d,_,s2 _ _ Pl.hd,?_⟩;refine⟨_,rfl,d,_,rfl,s2 _ _ Pl.hd,fun v hv=>?_⟩;obtain⟨s3,hv1⟩:=nw__ (o:=br' v d) hv;have e3:=s3 _ _ e2;have s03:=s2.trans s3;generalize upd H6 v (br' v d)=H7 at s3 hv1 e3 s03 ⊢;refine⟨v,d,_,rfl,hv1,s03 _ _ Pl.hd,fun o=>?_⟩;refine cR_ (fun i σ H'=>∃(v2 v4:Option V),σ=[some (.ref g),some (.ref d),v2,some (.ref d2),v4]/\Fz d o (stF (qs.map (·.1)) f) H H'/\H' d2=some (.dK (mKV (a6' hs) fun h=>.int (ld f ((qs.take i).map wOf) h)))) ⟨none,none,rfl,Fz.start' s03,by rw[a4_ d2d];exact e3⟩ (fun i σ H' _ ⟨_,_,_,z,_⟩=>z.at_) ?_ ?_
  ·rintro i ky x σ H8 hx ⟨v2,v4,rfl,fz,e8⟩ t ht;obtain⟨n,hn,rfl,rfl⟩:=cc_ hx
   have hi:i<qs.length:=by
    have:=(ab'.mp hn).1;rwa [aa'] at this
   have hq:qs[i]? = some (qs[i]'hi):=ae' hi
   have en:n=(qs[i]'hi).1:=by
    rw[an',hq] at hn;exact (Option.some.inj hn).symm
   have fm:f n∈a6' hs:=(al_ hs).mem_iff.mpr (Pl.at_ n (ac' hn));generalize qs[i]'hi=q at hq en;have s8:=Same.new (o:=.tup [.str n,.str (f n)]) ht;have fz2:=fz.step s8;have e9:=s8 _ _ e8;have et:upd H8 t (.tup [.str n,.str (f n)]) t=some (.tup [.str n,.str (f n)]):=a1_;show gTup _ _ _ _ _ (upd H8 t (.tup [.str n,.str (f n)])) _;generalize upd H8 t (.tup [.str n,.str (f n)])=H9 at s8 fz2 e9 et ⊢;refine⟨t,_,rfl,.of et,rfl,_,_,rfl,_,_,rfl,rfl,?_⟩;have G9:=fz2.goods Pl.hd Pl.G Pl.dfp;obtain⟨dx,dw,dy,vs,fpw,h1,h2,h3,h4,h5,m1,m2,m3,m4,m5⟩:=id G9.ex;have hno:(gflds p dw dy).lookup ("weight":Str)=none:=bg_ _ _ _ (by decide +kernel) (by decide +kernel) (by decide +kernel);refine⟨_,rfl,_,rfl,d2,.int (ld f ((qs.take i).map wOf) (f n)),rfl,?_,_,rfl,g,dx,_,rfl,h1,hno,_,rfl,g,p,.str n,some n,hs,ts,qs,fp,rfl,G9,Pl.nd,rfl,.inl ⟨q,ac' hq,congrArg some en,?_⟩⟩
   ·rw[<- dr_ (g:=fun h=>V.int (ld f ((qs.take i).map wOf) h)) fm];exact .k (k:=Sum.inr (f n)) e9
   refine⟨_,_,rfl,rfl,_,rfl,_,rfl,d2,_,rfl,.k (k:=Sum.inr (f n)) e9 (by rw[ax_];omega),?_⟩;refine⟨_,_,rfl,fz2.put n2 d2d,?_⟩;rw[a1_,gC_ fm];congr 2;refine bw_ fun m _=>?_
   have e5:(qs.take (i+1)).map wOf=(qs.take i).map wOf++[wOf q]:=by
    rw[aB',hq,am'];rfl
   rw[e5,gf_];show (if m=f n then V.int (ld f ((qs.take i).map wOf) (f n)+q.2.1) else V.int (ld f ((qs.take i).map wOf) m))=V.int (if m=f q.1 then _ else _);rw[<- en];by_cases z:m=f n
   ·rw[if_pos z,if_pos z,z];rfl
   ·rw[if_neg z,if_neg z]
  rintro σ H8 ⟨v2,v4,rfl,fz,e8⟩;refine⟨o,fz.at_,?_⟩;rw[ax_,aa',ap'] at e8;exact⟨_,rfl,k d2 _ (fz.thaw Pl.hd) n2 (by rw[a4_ d2d];exact e8)⟩
end
end Ev
namespace L2
open PySem PySem.Spec PyProof.Rows PySem.W
section
variable{X:Cx}
def rNeNil(K:F__):V->V->Hp->VK->Prop:=fun x y H Q=>∃a b xs,x=.ref a/\y=.ref b/\SqL K H a xs/\SqL K H b []/\Q (.bl (!xs.isEmpty)) H
theorem eX_(hu:X.A.units+0+1<cLine):OpR X (compareOp .NotEq) (rNeNil X.K):=by
 intro pins s σ H x y v u Q I rx ry h;obtain⟨a,b,xs,rfl,rfl,t,t',hq⟩:=h;cases xs with
 |nil=>exact g8_ cmpS hu pins s σ H (.ref a) (.ref b) v u Q I rx ry ⟨[],[],⟨a,[],rfl,t,.nil⟩,⟨b,[],rfl,t',.nil⟩,hq⟩
 |cons z zs=>
  cases rx;cases ry;obtain⟨us,r,pl,_⟩:=I.list t;obtain⟨vs,r',pl',_⟩:=I.list t';have l1:=r.length;have l2:=r'.length;exact EvN.ne_sizesAt pl.isList pl'.isList (by simp only[ai',bne_iff_ne];simp at l1 l2;omega) (by omega) ⟨.bl true,H,I,rfl,hq⟩
end
end L2
namespace Ev
open PySem L2
def lcmI(a n:Int):Int:=a / (Int.gcd a n:Int) * n
theorem jD_{a n:Int}(ha:0<a)(hn:0<n):lcmI a n=(Int.lcm a n:Int):=by
 obtain⟨p,rfl⟩:=aE' (Int.le_of_lt ha);obtain⟨q,rfl⟩:=aE' (Int.le_of_lt hn);show ((p:Int) / ((Nat.gcd p q:Nat):Int)) * (q:Int)=((Nat.lcm p q:Nat):Int);rw[<- Int.natCast_ediv,<- Int.natCast_mul,Nat.div_mul_right_comm (Nat.gcd_dvd_left p q)];rfl
def lcmL(ns:List Int):Int:=ns.foldl lcmI 1
theorem eZ_:∀(ns:List Int) (a:Int),0<a->(∀n∈ns,0<n)->0<ns.foldl lcmI a/\∀x:Int,0<=x->(ns.foldl lcmI a ∣ x ↔ a ∣ x/\∀n∈ns,n ∣ x)
 |[],a,ha,_=>⟨ha,fun x _=>by simp⟩
 |n::ns,a,ha,h=>by
  have hn:=h n ah';have e:=jD_ ha hn
  have p:0<lcmI a n:=by
   rw[e];have:=Nat.lcm_pos (m:=a.natAbs) (n:=n.natAbs) (by omega) (by omega);have:0<Int.lcm a n:=this;omega
  obtain⟨h1,h2⟩:=eZ_ ns (lcmI a n) p fun m hm=>h m (af' _ hm);refine⟨h1,fun x hx=>(h2 x hx).trans ?_⟩;obtain⟨z,rfl⟩:=aE' hx;rw[e,Int.natCast_dvd_natCast,Int.lcm_dvd_iff];constructor
  ·rintro⟨⟨q1,q2⟩,q3⟩
   exact⟨q1,fun m hm=>by
    rcases aj'.mp hm with rfl|hm
    ·exact q2
    ·exact q3 m hm⟩
  ·rintro⟨q1,q2⟩;exact⟨⟨q1,q2 n ah'⟩,fun m hm=>q2 m (af' _ hm)⟩
theorem i6_{ns:List Int}(h:∀n∈ns,0<n):0<lcmL ns:=(eZ_ ns 1 (by decide) h).1
theorem j3_(f:Str->Str)(x:Str × Int)(ws:List (Str × Int))(h:Str):ld f (x::ws) h=(if f x.1=h then x.2 else 0)+ld f ws h:=by
 unfold ld;by_cases e:f x.1=h
 ·simp[e]
 ·simp[e]
end Ev
namespace Ev
open PySem L2
theorem kp_{f:Str->Str}{h:Str}:∀{ws:List (Str × Int)},(∀x∈ws,0<=x.2/\x.2<=1000000000)->ld f ws h<=1000000000 * ws.length
 |[],_=>by
  unfold ld;simp
 |x::ws,p=>by
  have h1:=p x ah';have h2:=kp_ (f:=f) (h:=h) (ws:=ws) fun y hy=>p y (af' _ hy);rw[j3_,aC'];by_cases z:f x.1=h
  ·rw[if_pos z];omega
  ·rw[if_neg z];omega
def mulOf(hs:List (Str × Int)):Int:=lcmL ((a6' hs).map (strOf hs))
theorem str_ok{hs:List (Str × Int)}{ts:List (Str × Str)}(G:Good hs ts){n:Str}(h:n∈a6' hs):1<=strOf hs n/\strOf hs n<=1000:=(G.hok _ (b6_ ((al_ hs).mem_iff.mp h))).2
section
variable{P:Program}{w:World}{K:F__}{mg:Str->Option Value}{base:Heap}
theorem scLM:a7' ["numbers","found","number"] ["numbers"] (a5' sLM):=f__
def spLM(K:F__):Sp:=fun vs H Q _=>∃(l:Addr) (ns:List Int),vs=[.ref l]/\SqL K H l (ns.map V.int)/\(∀n∈ns,1<=n/\n<=1000)/\Q (.int (lcmL ns)) H
theorem hX_{ns:List Int}{i:Nat}{n:Int}(h:ns[i]? = some n):lcmL (ns.take (i+1))=lcmI (lcmL (ns.take i)) n:=by
 unfold lcmL;rw[aB',h,List.foldl_append];rfl
theorem eo_{ns:List Int}{i:Nat}{y:V}(h:(ns.map V.int)[i]? = some y):∃n,ns[i]? = some n/\y=.int n:=by
 rw[an'] at h;cases e:ns[i]? with
 |none=>rw[e] at h;cases h
 |some n=>rw[e] at h;exact⟨n,rfl,(Option.some.inj h).symm⟩
theorem kx_{f:Addr}{fd:FuncData}(F:Fun K "least_multiple" "least_multiple" sLM f fd)(cG:Cal P w K mg base 1 "greatest_divisor" ["one","other"] spGd):FnOk P w K mg base CX0 2 f fd ["numbers"] (spLM K):=by
 refine F.ok scLM (fun vs H Q E h=>?_) (fun cdv A outer s H vs Q E hr h=>?_)
 ·obtain⟨l,ns,rfl,_⟩:=h;rfl
 ·obtain⟨l,ns,rfl,hl,b,k⟩:=h;refine' ⟨_,a2_ ?s1 (a2_ ?s2 (a5_ ?s3)),?kk⟩
  case s1=>exact aa_ (i:=1) scLM.nd rfl (Or.inl rfl) a7_
  case s2=>exact aG_ PassesOwn.never rfl (an_ (pv 0)) (a8_ (i:=2) scLM.nd rfl (Or.inl rfl)) (a5_ (aa_ (i:=1) scLM.nd rfl (Or.inl rfl) (aj_ ba_ (aj_ bi_ (pv 1) (ah_ cG hr (a0_ (pv 1) (a0_ (pv 2) a3_)))) (pv 2))))
  case s3=>exact ab_ (pv 1)
  case' kk=>skip
  refine⟨_,rfl,l,rfl,⟨_,hl⟩,aw_ (K:=K) (a:=l) (xs:=ns.map V.int) (fun i σ H'=>H'=H/\∃(v2:Option V),σ=[some (.ref l),some (.int (lcmL (ns.take i))),v2]) ⟨rfl,none,rfl⟩ (fun i σ H' _ ⟨e,_⟩=>by rw[e];exact hl) ?_ ?_⟩
  ·rintro i y σ H' hy ⟨rfl,v2,rfl⟩;obtain⟨n,hn,rfl⟩:=eo_ hy;have bn:=b n (ac' hn)
   have p:=i6_ (ns:=ns.take i) fun m hm=>by
    have:=b m (List.take_subset _ _ hm);omega
   refine⟨_,rfl,_,rfl,_,rfl,_,_,rfl,Int.le_of_lt p,by omega,_,_,rfl,rfl,kD_ (by omega) (Int.le_trans bn.2 (by decide)),_,rfl,_,_,rfl,rfl,.inr ⟨by omega,by omega⟩,rfl,some (.int n),?_⟩;rw[hX_ hn];rfl
  ·rintro σ H' ⟨rfl,v2,rfl⟩;refine⟨_,rfl,?_⟩;rw[aa',ap'];exact k
theorem scMult:a7' ["web"] ["web"] (a5' sMult):=f__
def spMult(K:F__)(C:Addr):Sp:=fun vs H Q _=>∃(p:Addr) (hs:List (Str × Int)) (ts:List (Str × Str)) (fp:List Addr),vs=[.ref p]/\bs' K C H p hs ts fp/\Good hs ts/\∀H',Same H H'->Q (.int (mulOf hs)) H'
theorem jm_{f CW:Addr}{fd:FuncData}(F:Fun K "multiple_of_strengths" "multiple_of_strengths" sMult f fd)(TW:Txt K mg CW)(cL:Cal P w K mg base 2 "least_multiple" ["numbers"] (spLM K))(cH:CalM P w K mg base CW 1 "hands" ["self"] (b8' K CW))(cS:CalM P w K mg base CW 2 "strength" ["self","hand"] (by' K CW)):FnOk P w K mg base CX0 3 f fd ["web"] (spMult K CW):=by
 refine F.ok scMult (fun vs H Q E h=>?_) (fun cdv A outer s H vs Q E hr h=>?_)
 ·obtain⟨p,hs,ts,fp,rfl,_⟩:=h;rfl
 ·obtain⟨p,hs,ts,fp,rfl,W,G,k⟩:=h;have sz:=sizeLine_eq;have nl:=G.nlen;have h8:=G.h8;refine' ⟨_,a5_ (ab_ (ah_ cL hr (a0_ (aS_ ["hand","web"] 1 [0] (an_ (d8_ cH TW.cl (hr.mono (by decide)) (pv 0))) (fun fp s H=>a8_ (i:=0) (show (["hand","web"]:List Str).Nodup by decide +kernel) rfl (Or.inl rfl)) (fun fp s H=>aU_) (fun fp s H=>?e1)) a3_))),?kk⟩
  case e1=>exact bh_ cS TW.cl hr (pv 1) (a0_ (pv 0) a3_)
  case' kk=>skip
  obtain⟨dxw,d1,l2,d3,zs0,as,ef,w1,_⟩:=id W.ex;refine⟨_,rfl,p,dxw,_,rfl,w1,aT_ _ _ _ (by decide +kernel) (by decide +kernel) (by decide +kernel),p,hs,ts,fp,rfl,W,fun lh hlh=>?_⟩;obtain⟨s1,e1⟩:=nw__ (o:=.lst ((a6' hs).map V.str)) hlh;generalize upd H lh (.lst ((a6' hs).map V.str))=H1 at s1 e1 ⊢;refine⟨lh,rfl,⟨_,.of e1⟩,fun D hD=>?_⟩;refine aZ_ (own:=1) (fv:=[some (.ref p)]) (xs:=(a6' hs).map V.str) rfl gok1 (fun i out H'=>Same H1 H'/\H' D=some (.lst out)/\out=(((a6' hs).take i).map (strOf hs)).map V.int) ⟨Same.new hD,a1_,rfl⟩ (fun i out H' _ ⟨sm,_,_⟩=>.of (sm _ _ e1)) (fun out H5 ⟨sm,hD5,eo⟩=>?_) (fun i y out H' hy ⟨sm,hD',eo⟩=>?_)
  ·rw[aa',ap'] at eo;rw[eo] at hD5;refine⟨D,_,rfl,.of hD5,fun n hn=>?_,k H5 (s1.trans sm)⟩;obtain⟨m,hm,rfl⟩:=ad'.mp hn;exact str_ok G hm
  ·obtain⟨n,hn,rfl⟩:=ai_ hy;have hi:i<(a6' hs).length:=(ab'.mp hn).1;refine⟨_,rfl,rfl,fun Nx hN=>yesT ?_⟩;have W':=(W.same s1).same sm;obtain⟨dxw,d1,l2,d3,zs0,as,ef,w1,_⟩:=id W'.ex;refine⟨_,rfl,p,dxw,_,rfl,w1,aT_ _ _ _ (by decide +kernel) (by decide +kernel) (by decide +kernel),_,rfl,p,n,strOf hs n,hs,ts,fp,rfl,W',G.hnd,b6_ ((al_ hs).mem_iff.mp (ac' hn)),?_⟩;refine⟨out,hD',by rw[eo,aa',aa',ak'];omega,hN _ _ ⟨am_ sm hD,a1_,?_⟩⟩;rw[ap_ hn,am',am',eo];rfl
theorem bQ':a7' ["goods","placed","multiple","found","hand","load"] ["goods","placed"] (a5' c3'):=f__
def lvF(hs:List (Str × Int))(qs:List Pc)(f:Str->Str)(h:Str):Int:=ld f (qs.map wOf) h * (mulOf hs / strOf hs h)
def dk'(K:F__)(CG CW:Addr):Sp:=fun vs H Q _=>∃(g p d:Addr) (hs:List (Str × Int)) (ts:List (Str × Str)) (qs:List Pc) (fp:List Addr) (f:Str->Str),vs=[.ref g,.ref d]/\bX' K CG CW H g p d hs ts qs fp f/\(∀q∈qs,0<=q.2.1/\q.2.1<=1000000000) /\
 ∀d' H',Same H H'->H d'=none->H' d'=some (.dK (mKV (a6' hs) fun h=>.int (lvF hs qs f h)))->Q (.ref d') H'
theorem i4_{qs:List Pc}(wp:∀q∈qs,0<=q.2.1/\q.2.1<=1000000000)(h64:qs.length<64)(f:Str->Str)(h:Str):0<=ld f (qs.map wOf) h/\ld f (qs.map wOf) h<=64000000000:=by
 have p:∀x∈qs.map wOf,0<=x.2/\x.2<=1000000000:=fun x hx=>by
  obtain⟨q,hq,rfl⟩:=ad'.mp hx;exact wp q hq
 have h1:=kp_ (f:=f) (h:=h) p;rw[aa'] at h1;exact⟨kc_ fun x hx=>(p x hx).1,by omega⟩
theorem gY_{f CG CW:Addr}{fd:FuncData}(F:Fun K "levels_at" "levels_at" c3' f fd)(T:TxtG K CG)(TW:Txt K mg CW)(cL:Cal P w K mg base 3 "loads_at" ["goods","placed"] (b7' K CG CW))(cM:Cal P w K mg base 3 "multiple_of_strengths" ["web"] (spMult K CW))(cS:CalM P w K mg base CW 2 "strength" ["self","hand"] (by' K CW)) :
  FnOk P w K mg base CX0 4 f fd ["goods","placed"] (dk' K CG CW):=by
 refine F.ok bQ' (fun vs H Q E h=>?_) (fun cdv A outer s H vs Q E hr h=>?_)
 ·obtain⟨g,p,d,hs,ts,qs,fp,f,rfl,_⟩:=h;rfl
 ·obtain⟨g,p,d,hs,ts,qs,fp,f,rfl,Pl,wp,k⟩:=h;have hu:=b3_ hr;have sz:=sizeLine_eq;have hr2:Room 2 _:=hr.mono (by decide);refine' ⟨_,?r0,?kk⟩
  case' r0=>refine' a2_ ?s0 (a2_ ?s1 (a2_ ?s2 ?r2))
  case s0=>exact aa_ (i:=2) bQ'.nd rfl (Or.inl rfl) (ah_ cM hr (a0_ (ar_ (pv 0) rfl) a3_))
  case s1=>exact aa_ (i:=3) bQ'.nd rfl (Or.inl rfl) bl_
  case' s2=>refine' aG_ PassesOwn.never rfl ?i2 ?g2 (a5_ ?b2)
  case i2=>exact ds_ (cq_ (ah_ cL hr (a0_ (pv 0) (a0_ (pv 1) a3_))))
  case g2=>exact bf_ rfl (af_ (a8_ (i:=4) bQ'.nd rfl (Or.inl rfl)) (af_ (a8_ (i:=5) bQ'.nd rfl (Or.inl rfl)) aY_))
  case b2=>exact bc_ hu (pv 3) (pv 4) (aj_ ba_ (pv 5) (aj_ bi_ (pv 2) (bh_ cS TW.cl hr2 (ar_ (pv 0) rfl) (a0_ (pv 4) a3_)))) rfl
  case r2=>exact a5_ (ab_ (pv 3))
  case' kk=>skip
  have nl:=Pl.Gd.nlen;have h8:=Pl.Gd.h8;obtain⟨dx,dw,dy,vs,fpw,h1,h2,_⟩:=id Pl.G.ex;refine⟨_,rfl,g,CG,dx,_,_,rfl,h1,T.cl,T.nW,b8_ _ _ _,p,hs,ts,fpw,rfl,h2,Pl.Gd,fun H0 s0=>?_⟩;intro d2 hd2;have s1:=s0.trans (Same.new (o:=.dK []) hd2);have e1:upd H0 d2 (.dK []) d2=some (.dK []):=a1_;have n2:H d2=none:=s0.free hd2;show tSeq _ _ _ _ (upd H0 d2 (.dK []));generalize upd H0 d2 (.dK [])=H1 at s1 e1 ⊢;have Pl1:bX' K CG CW H1 g p d hs ts qs fp f:=⟨Pl.G.same s1,Pl.Gd,Pl.dfp,s1 _ _ Pl.hd,Pl.at_,Pl.nd,Pl.h64⟩;refine⟨_,rfl,_,rfl,g,p,d,hs,ts,qs,fp,f,rfl,Pl1,fun dl H2 s2 hdl e2=>?_⟩;refine⟨dl,_,rfl,e2,fun v hv=>?_⟩;obtain⟨s3,hv1⟩:=nw__ (o:=br' v dl) hv;have e3:=s3 _ _ e2;have s13:=s2.trans s3;generalize upd H2 v (br' v dl)=H3 at s3 hv1 e3 s13 ⊢;have ndl:H dl=none:=s1.free hdl;have d2l:d2≠dl:=a6_ e1 hdl;refine⟨v,dl,_,rfl,hv1,e3,fun o=>?_⟩;refine cR_ (fun i σ H'=>∃(v4 v5:Option V),σ=[some (.ref g),some (.ref d),some (.int (mulOf hs)),some (.ref d2),v4,v5]/\Same H H'/\H' dl=some (.frz o (.dK (ldV hs qs f)))/\H' d2=some (.dK (mKV ((a6' hs).take i) fun h=>.int (lvF hs qs f h)))) ⟨none,none,rfl,am_ (s1.trans s13) ndl,a1_,by rw[a4_ d2l];exact s13 _ _ e1⟩ (fun i σ H' _ ⟨_,_,_,_,z,_⟩=>z) ?_ ?_
  ·rintro i ky x σ H8 hx ⟨v4,v5,rfl,s8,f8,e8⟩ t ht;obtain⟨n,hn,rfl,rfl⟩:=cc_ hx;have hi:i<(a6' hs).length:=(ab'.mp hn).1;have nm:n∈hs.map (·.1):=(al_ hs).mem_iff.mp (ac' hn);have sm:=b6_ nm;have sg:=str_ok Pl.Gd (ac' hn);have lo:=i4_ wp Pl.h64 f n;have ss:=Same.new (o:=.tup [.str n,.int (ld f (qs.map wOf) n)]) ht;have s9:=s8.trans ss;have e9:=ss _ _ e8;have f9:=ss _ _ f8;have et:upd H8 t (.tup [.str n,.int (ld f (qs.map wOf) n)]) t=some (.tup [.str n,.int (ld f (qs.map wOf) n)]):=a1_;show gTup _ _ _ _ _ (upd H8 t (.tup [.str n,.int (ld f (qs.map wOf) n)])) _;generalize upd H8 t (.tup [.str n,.int (ld f (qs.map wOf) n)])=H9 at ss s9 e9 f9 et ⊢;refine⟨t,_,rfl,.of et,rfl,_,_,rfl,_,_,rfl,rfl,?_⟩;have G9:=Pl.G.same s9;obtain⟨dx,dw,dy,vs,fpw,h1,h2,h3,h4,h5,m1,m2,m3,m4,m5⟩:=id G9.ex;obtain⟨dxw,d1,l2,d3,zs0,as,ef,w1,_⟩:=id h2.ex;have hnw:(flds d1 l2 d3).lookup ("strength":Str)=none:=aT_ _ _ _ (by decide +kernel) (by decide +kernel) (by decide +kernel);refine⟨_,rfl,_,rfl,_,rfl,g,CG,dx,_,_,rfl,h1,T.cl,T.nW,b8_ _ _ _,p,dxw,_,rfl,w1,hnw,_,rfl,p,n,strOf hs n,hs,ts,fpw,rfl,h2,Pl.Gd.hnd,sm,?_⟩;refine⟨_,_,rfl,rfl,⟨by omega,by omega⟩,_,_,rfl,rfl,.inl ⟨by omega,by omega⟩,_,rfl,_,rfl,d2,_,rfl,.k (k:=Sum.inr n) e9 (by rw[ax_,ak'];omega),?_⟩;refine⟨_,_,rfl,am_ s9 n2,by rw[a4_ d2l.symm];exact f9,?_⟩;rw[a1_,ap_ hn,dl_ (bP_ Pl.Gd.nnd hn)];congr 2;refine bw_ fun m _=>?_;by_cases z:m=n
   ·subst z;simp[lvF]
   ·simp[z]
  rintro σ H8 ⟨v4,v5,rfl,s8,f8,e8⟩;rw[ax_,ap'] at e8;exact⟨_,rfl,k d2 H8 s8 n2 e8⟩
end
end Ev
namespace L2
open PySem PySem.Spec PyProof.Rows
section
variable{M:Model}{A:Around}{E:Value->Shared->Prop}{s:Shared}
end
section
variable{X:Cx}{E:XK}
end
section
variable{P:Program}{w:World}{K:F__}{mg:Str->Option Value}{base:Heap}
section
variable{N:List Str}{qual:Str}{scope:Scope}{f:Addr}{cd:Value}{A:Around}{outer:List Env}{s:Shared}{H:Hp}{E:XK}
end
end
end L2
namespace L2
open PySem PySem.Spec PySem.Calls PyProof.Rows PySem.W
section
variable{M:Model}{A:Around}{E:Value->Shared->Prop}{s:Shared}{base:Heap}{env:Env}{outer:List Env}{L e:Addr}{cls a0:Value}{Q:Unit->Shared->Prop}
def TracedD(h base:Heap)(e:Addr)(cls a0:Value)(dd:Option Addr):Prop:=∃oe vs T oT ts,h.get? e=some oe/\(oe.cls=cls/\vs[0]? = some a0)/\oe.data=Data.fields vs/\vs[1]? = some (Value.ref T)/\base.get? T=none/\T≠e/\h.get? T=some oT/\oT.data=Data.fields ts/\ts[3]? = some Value.none/\oe.dict=dd
def bA'(base:Heap)(l:List Env)(e:Addr)(cls a0:Value)(dd:Option Addr)(h:Heap):Prop:=base.StaysIn h/\base.get? e=none/\h.FunFrames base l/\TracedD h base e cls a0 dd
theorem newEntryD{oe:Obj}{vs:Array Value}{head:Value}{hadNext:Bool}(hfr:A.frames=some (env::outer))(hl:s.heap.FunFrames base (env::outer))(hf:env.frame=some L)(he:s.heap.get? e=some oe)(hkb:base.StaysIn s.heap)(hen:base.get? e=none)(hd:oe.data=Data.fields vs)(hsz:1<vs.size)(h0:vs[0]? = some a0)
  (h:∀h',base.StaysIn h'->h'.FunFrames base (env::outer)->TracedD h' base e oe.cls a0 oe.dict->s.heap.UpToSlots h'->Q () { s with heap:=h' }) :
  wpAny M A (do
   let a <- PySem.frameOf env
   let pl <- entryPlaceOf L hadNext
   let b <- EntryCells.newEntry head a Value.none (rawInt L) Value.none pl
   setField (Value.ref e) 1 b) (fun _ s'=>wpAny M A (setFlight (Value.ref e) none) Q E s') E s:=by
 have hene:e∉List.filterMap (fun x=>x.frame) (env::outer):=fun hm=>by
  obtain⟨_,o,ho,hnf⟩:=Heap.FunFrames.mem hl hm;rw[he] at ho;cases ho;exact hnf vs hd
 refine wpAny_bind (wpAny_frameOf_fun hfr hl hf fun h₁ hs₁=>wpAny_bind (wpAny_entryPlaceOf fun pl hpl=>?_));unfold EntryCells.newEntry newFields;have hsz1:h₁.objs.size=s.heap.objs.size:=hs₁.1;have he₁:=(hs₁.right.left e hene).trans he;have hlt:∀b o,s.heap.get? b=some o->b≠h₁.objs.size:=fun b o q=>au' (by rw[hsz1];exact Heap.lt_size q)
 have hbn:base.get? h₁.objs.size=none:=by
  cases q:base.get? h₁.objs.size with
  |none=>rfl
  |some o=>exact absurd rfl (hlt _ o (hkb _ o q))
 have hbase:∀b o,base.get? b=some o->h₁.get? b=some o:=fun b o q=>(hs₁.right.left b (fun hm=>by
  have:=(Heap.FunFrames.mem hl hm).1;rw[q] at this;cases this)).trans (hkb b o q)
 obtain⟨tbs,htb,ht3⟩:∃tbs:Array Value,([head,Value.ref L,Value.none,rawInt ↑L,Value.none]++if pl.isEmpty=true then List.replicate 6 Value.none else pl).toArray=tbs/\3<tbs.size:=⟨_,rfl,by simp⟩
 have hts:tbs.size<=sizeLine+2:=by
  rw[<- htb];rcases hpl with rfl|⟨a,b,c,d,c9,b10,_,rfl⟩
  ·show 11<=sizeLine+2;decide
  ·show 11<=sizeLine+2;decide
 refine wpAny_bind (wpAny_newObj_type ?_ (by rw[htb];exact hts));rw[htb];have he₂:(h₁.push { cls:=Value.type "traceback",data:=Data.fields tbs }).get? e=some oe:=Heap.get?_push_of_some _ he₁;have hn₂:(h₁.push { cls:=Value.type "traceback",data:=Data.fields tbs }).get? h₁.objs.size=some { cls:=Value.type "traceback",data:=Data.fields tbs }:=Heap.get?_push_size h₁ rfl;have hTe:h₁.objs.size≠e:=(hlt e oe he).symm;refine wpAny_setField he₂ hd hsz ?_;have hd₃:=Obj.data_mapFields hd fun x=>x.setIfInBounds 1 (Value.ref h₁.objs.size);have he₃:=Heap.get?_update_self (Obj.mapFields fun x=>x.setIfInBounds 1 (Value.ref h₁.objs.size)) he₂ (Obj.isFreed_of_fields hd₃);have hn₃:=(Heap.get?_update_other (h₁.push { cls:=Value.type "traceback",data:=Data.fields tbs }) (Obj.mapFields fun x=>x.setIfInBounds 1 (Value.ref h₁.objs.size)) hTe.symm).trans hn₂;unfold setFlight;refine wpAny_bind (wpAny_field (x:=.ref h₁.objs.size) he₃ hd₃ (by simp[hsz]) ?_);rw[if_pos (by simp)];refine wpAny_setField hn₃ rfl ht3 ?_;have hd₄:=Obj.data_mapFields (o:={ cls:=Value.type "traceback",data:=Data.fields tbs }) rfl fun x=>x.setIfInBounds 3 Value.none;have hn₄:=Heap.get?_update_self (Obj.mapFields fun x=>x.setIfInBounds 3 Value.none) hn₃ (Obj.isFreed_of_fields hd₄);have he₄:=(Heap.get?_update_other ((h₁.push { cls:=Value.type "traceback",data:=Data.fields tbs }).update e (Obj.mapFields fun x=>x.setIfInBounds 1 (Value.ref h₁.objs.size))) (Obj.mapFields fun x=>x.setIfInBounds 3 Value.none) hTe).trans he₃
 have oth:∀b o,b≠e->b≠h₁.objs.size->h₁.get? b=some o->(((h₁.push { cls:=Value.type "traceback",data:=Data.fields tbs }).update e (Obj.mapFields fun x=>x.setIfInBounds 1 (Value.ref h₁.objs.size))).update h₁.objs.size (Obj.mapFields fun x=>x.setIfInBounds 3 Value.none)).get? b=some o:=fun b o n1 n2 q=>
  (Heap.get?_update_other _ _ n2.symm).trans ((Heap.get?_update_other _ _ n1.symm).trans (Heap.get?_push_of_some _ q))
 have hec:((Obj.mapFields fun x=>x.setIfInBounds 1 (Value.ref h₁.objs.size)) oe).cls=oe.cls/\((Obj.mapFields fun x=>x.setIfInBounds 1 (Value.ref h₁.objs.size)) oe).dict=oe.dict:=by
  obtain⟨c,dt,da,sl⟩:=oe;have:da=Data.fields vs:=hd;subst this;exact⟨rfl,rfl⟩
 have ups:∀b o,s.heap.get? b=some o->(∀vs,o.data≠Data.fields vs)->∃sl,(((h₁.push { cls:=Value.type "traceback",data:=Data.fields tbs }).update e (Obj.mapFields fun x=>x.setIfInBounds 1 (Value.ref h₁.objs.size))).update h₁.objs.size (Obj.mapFields fun x=>x.setIfInBounds 3 Value.none)).get? b=some { cls:=o.cls,dict:=o.dict,data:=o.data,slots:=sl }:=fun b o q nf=>by
  obtain⟨sl,q1⟩:=hs₁.right.right b o q;refine⟨sl,oth b _ (fun z=>?_) (hlt b o q) q1⟩;subst z;rw[he] at q;cases q;exact nf vs hd
 refine h _ (fun b o q=>oth b o (fun z=>?_) (fun z=>?_) (hbase b o q)) (Heap.FunFrames.of_keeps (fun b o q nf=>?_) hl) ⟨_,_,h₁.objs.size,_,_,he₄,⟨hec.1,?_⟩,hd₃,?_,hbn,hTe,hn₄,hd₄,?_,hec.2⟩ ups
 ·subst z;rw[hen] at q;cases q
 ·subst z;rw[hbn] at q;cases q
 ·obtain⟨sl,q1⟩:=ups b o q nf;exact⟨_,q1,rfl⟩
 ·rw[Array.getElem?_setIfInBounds];simpa using h0
 ·simp[hsz]
 ·simp[ht3]
theorem bA'.less{dd:Option Addr}{h:Heap}(f:bA' base (env::outer) e cls a0 dd h):bA' base outer e cls a0 dd h:=⟨f.1,f.2.1,f.2.2.1.2.2,f.2.2.2⟩
theorem dY_{dd:Option Addr}(hfr:A.frames=some (env::outer))(hf:env.frame=some L)(hfl:bA' base (env::outer) e cls a0 dd s.heap)
  (hQ:∀h',bA' base (env::outer) e cls a0 dd h'->s.heap.UpToSlots h'->Q () { s with heap:=h' }):wpAny M A (noteFrame (Value.ref e) env) (fun _ s₂=>wpAny M A (setFlight (Value.ref e) none) Q E s₂) E s:=by
 obtain⟨f1,f2,f3,oe,vs,T,oT,ts,he,⟨hc,h0⟩,hd,h1,hnT,hTe,hT,hdT,h3,hdd⟩:=hfl;unfold noteFrame;rw[hf];dsimp only;refine wpAny_bind (wpAny_field he hd h1 ?_);rw[if_pos (by simp)];refine wpAny_bind (wpAny_field hT hdT h3 ?_);rw[if_neg (by simp[rawInt])];refine wpAny_bind (wpAny_setField hT hdT (Array.getElem?_eq_some_iff.mp h3).1 ?_);have other:∀b,b≠T->(s.heap.update T (Obj.mapFields fun x=>x.setIfInBounds 3 Value.none)).get? b=s.heap.get? b:=fun b hb=>Heap.get?_update_other _ _ hb.symm
 have nrec:∀b o,s.heap.get? b=some o->(∀vs,o.data≠Data.fields vs)->b≠T:=fun b o q nf z=>by
  subst z;rw[hT] at q;cases q;exact nf ts hdT
 refine newEntryD (base:=base) (s:={ s with heap:=s.heap.update T (Obj.mapFields fun x=>x.setIfInBounds 3 Value.none) }) hfr (Heap.FunFrames.of_keeps (fun b o q nf=>⟨o,(other b (nrec b o q nf)).trans q,rfl⟩) f3) hf ((other e hTe.symm).trans he) (fun b o q=>(other b (fun z=>?_)).trans (f1 b o q)) f2 hd (Array.getElem?_eq_some_iff.mp h1).1 h0 fun h' g1 g2 g3 g4=>?_
 ·subst z;rw[hnT] at q;cases q
 ·refine hQ h' ⟨g1,f2,g2,?_⟩ fun b o q nf=>g4 b o ((other b (nrec b o q nf)).trans q) nf;rw[hc,hdd] at g3;exact g3
theorem fC_{dd:Option Addr}(hfr:A.frames=some (env::outer))(hf:env.frame=some L)(hfl:bA' base (env::outer) e cls a0 dd s.heap)
  (hQ:∀h',bA' base outer e cls a0 dd h'->s.heap.UpToSlots h'->Q () { s with heap:=h' }):wpAny M A (leaving env (Value.ref e)) Q E s:=by
 unfold leaving;exact wpAny_bind (dY_ hfr hf hfl fun h' f u=>hQ h' f.less u)
end
end L2
namespace L2
open PySem PySem.Spec PySem.Calls PyProof.Rows PySem.W
section
variable{prog:Program}{w:World}{A:Around}{E:Value->Shared->Prop}{h:Heap}{g:Array GenState}{d:Drawn}{t:Nat}{os:OsState}{nm q:Str}{C N f:Addr}{bs bm bmB:List Value}{hdct:Bool}{sn:List Str}{sub:List Value}{ab:Bool}{col:Option Bool}{dd:Option Addr}{k0 k1 k2 k3 k5:Option Value}{B newId initId:String}{K:F__}{rest:List Value}
end
end L2
namespace L2
open PySem PySem.Spec PySem.Calls PyProof.Rows PySem.W Builtin Builtin.ObjectAttr
def excMro(C CE:Addr):List Value:=[.ref C,.ref CE,.type "ValueError",.type "Exception",.type "BaseException",.type "object"]
section
variable{prog:Program}{w:World}{A:Around}{E:Value->Shared->Prop}{s:Shared}{K:F__}{x C CE:Addr}{ox:Obj}{od:Option Obj}{name:Str}{tk:Tok}{v:Value}{cd:ClassData}
end
end L2
namespace L2
open PySem PySem.Spec PySem.Calls PyProof.Rows PySem.W
section
variable{M:Model}{A:Around}{E:Value->Shared->Prop}{s:Shared}{env:Env}{nm q:Str}{C N:Addr}{bs bm:List Value}{hdct:Bool}{sn:List Str}{sub:List Value}{ab:Bool}{col:Option Bool}{dd:Option Addr}{k0 k1 k2 k3 k5:Option Value}{newId:String}
end
end L2
namespace L2
open PySem PySem.Spec PySem.Calls PyProof.Rows PySem.W
def excInO(K:F__)(C:Addr)(bmB:List Value)(newId:String):Bool:=
 match K.lookup C with
 |some ⟨.type "type",_,.cls cd,sl⟩=>
  match cd.mro,sl.toList with
  |.ref C'::bm,[_,_,_,_,some (.builtin n),_]=>C' == C&&n == newId&&!cd.hasDel&&tailIn K bmB bm&&nsOkIn K cd.ns
  |_,_=>false
 |_=>false
def clsO(K:F__)(C CE:Addr):Bool:=
 match clsIn K C with
 |some cd=>cd.mro == excMro C CE&&cd.hasDict
 |none=>false
structure ExO (K:F__) (C CE:Addr):Prop where
 kx:ExcK K C
 ex:excInO K C bmV "ValueError.__new__"=true
 es:findIn K (.ref C) "__setattr__"=some (some (.builtin "object.__setattr__"))
 cl:clsO K C CE=true
structure ExF (K:F__) (C:Addr) (f:Str):Prop where
 tk:takerIn K C f=some none
 fd:findIn K (.ref C) f=some none
structure ExB (K:F__) (CE:Addr):Prop where
 sp:specialIn K (.ref CE) "__getattribute__"=some (some (.builtin "type.__getattribute__"))
 rd:readsIn K CE (.type "type")=true
 fc:findCls K (.ref CE) (.type "type") "__init__"=some (.val (.builtin "ValueError.__init__"))
section
variable{P:Program}{w:World}{H:Hp}{h:Heap}{e C a0 d:Addr}{dd:Option Addr}{fs:List (Str × V)}
end
section
variable{X:Cx}{C CE:Addr}{x f:Str}{p apos pos pos':Pos}{o e value:Expr}{es:List Expr}{ta tv:TE}{t:TA}
end
end L2
namespace L2
open PySem PySem.Spec PySem.Calls PyProof.Rows PySem.W
def CX2(P:Program)(w:World):CXT:=fun l H s E e s'=>
 ∃a cls H' B a0 dd,e=Value.ref a/\s'.os=s.os/\AllBare s'.gens/\Un (frs l) [] H H' s.heap s'.heap/\HOk P w H' s'.heap/\bA' B l a cls a0 dd s'.heap/\InB B l H' s.heap s'.heap/\E cls dd H'
section
variable{X:Cx}{pins:List (Addr × Obj)}{σ:St}{H H':Hp}{s s1:Shared}{B h:Heap}{a:Addr}{cls a0:Value}{dd:Option Addr}{E:XK}
theorem fL_(I:Inv X pins σ H s)(hex:X.ex=[])(os:s1.os=s.os)(bare:AllBare s1.gens)(un:Un (frs X.stack) [] H H' s.heap h)(hok:HOk X.prog X.w H' h)(i:InB B X.stack H' s.heap h)(ff:h.FunFrames B X.stack)(up:h.UpToSlots s1.heap)
  (fl:bA' B X.outer a cls a0 dd s1.heap) (hE:E cls dd H'):CX2 X.prog X.w X.outer X.H₀ X.s₀ E (.ref a) s1:=by
 have un1:=eV_ un ff i fl.1 up;have hok1:=dx_ hok (eY_ I un) i fl.1;have I1:Inv X pins σ H' s1:=I.call' os un1 hok1 bare (fun b z=>absurd z (by simp));have bs:=I1.base;rw[hex] at bs;refine⟨a,cls,H',B,a0,dd,rfl,I1.os,I1.bare,bs,I1.hok,fl,fun b o e hb c=>?_,hE⟩
 have nL:b≠X.env.locals:=by
  rcases c with z|⟨o0,z⟩
  ·intro q;rw[q,I1.free] at z;cases z
  ·exact au' (av' (Heap.lt_size z) I.ok.above)
 refine fo_ hok un i fl.1 b o e (fun hm=>?_) (c.imp id fun⟨o0,z⟩=>I.base.there b o0 z (by rw[hex];simp));rcases aj'.mp (I.stkSub b hm) with z|z
 ·exact nL z
 ·exact hb z
end
section
variable{P:Program}{w:World}{K:F__}{mg:Str->Option Value}{base:Heap}{N:List Str}{qual:Str}{scope:Scope}{f:Addr}{cd:Value}{A:Around}{outer:List Env}{s:Shared}{H:Hp}{E:XK}
end
section
variable{X:Cx}{x:Str}{C f:Addr}{fd:FuncData}{ps:List Str}{sp:Sp}{k:Nat}{np cpos pos:Pos}{e:Expr}{es:List Expr}{t:TA}{E:XK}
end
end L2
namespace L2
open PySem PySem.Spec PySem.Calls PyProof.Rows PySem.W
section
variable{X:Cx}{i:Nat}{x n:Str}{D C:Addr}{np hpos pos:Pos}{b₀:Stmt}{suite body:List Stmt}{tb:XK->TS}{ts:TS}{rest:List ExceptHandler}
end
end L2
namespace L2
open PySem PySem.Spec PySem.Calls PyProof.Rows PySem.W
section
variable{P:Program}{w:World}{K:F__}{mg:Str->Option Value}{base:Heap}{N:List Str}{qual:Str}{scope:Scope}{f:Addr}{cd:Value}{A:Around}{outer:List Env}{s:Shared}{H:Hp}{E:XK}
end
section
variable{X:Cx}{i:Nat}{x x2 n:Str}{D C D2 C2:Addr}{np hpos np2 hpos2 pos:Pos}{b₀ c₀:Stmt}{suite suite2 body:List Stmt}{tb:XK->TS}{ts ts2:TS}
end
section
variable{X:Cx}
end
end L2
namespace L2
open PySem PySem.Spec PySem.Calls PyProof.Rows PySem.W
section
variable{X:Cx}{i:Nat}{x n:Str}{D:Addr}{ok:Addr->Prop}{np hpos pos:Pos}{b₀:Stmt}{suite body:List Stmt}{tb:XK->TS}{ts:TS}
end
end L2
namespace L2
open PySem PySem.Spec PySem.Calls PyProof.Rows PySem.W
end L2
namespace L2
open PySem PySem.Spec PyProof.Rows
section
variable{X:Cx}
end
section
variable{X:Cx}{k:Nat}{ps:List Str}{x:Str}{p pos:Pos}{e:Expr}{es:List Expr}{tn:TE}{t:TA}
end
end L2
namespace L2
open PySem PySem.Spec PyProof.Rows PySem.W
structure bM' (ps fvs:List Str) (scope:Scope):Prop where
 nd:(ps++fvs).Nodup
 kind:scope.kind=.function
 co:scope.isCoroutine=false
 gen:scope.isGenerator=false
 par:∀p∈ps,scope.names.lookup p=some .local
 fv:∀x∈fvs,scope.names.lookup x=some .free
 all:∀x,scope.names.lookup x=some .free->x∈fvs
 nocell:∀x∈scope.names,x.2≠.cell
def dp'(CX:CXT)(P:Program)(w:World)(K:F__)(mg:Str->Option Value)(base:Heap)(N:List Str)(qual:Str)(scope:Scope)(f:Addr)(cd:Value)(cl:List (Str × Addr))(A:Around)(outer:List Env)(s:Shared)(H:Hp)(E:XK):Cx where
 prog:=P
 w:=w
 K:=K
 mg:=mg
 base:=base
 A:=A.deeper (envX qual scope s.heap.objs.size f cd cl)
 N:=N
 s₀:=s
 H₀:=H
 env:=envX qual scope s.heap.objs.size f cd cl
 outer:=outer
 stack:=envX qual scope s.heap.objs.size f cd cl::outer
 ex:=[]
 calm:=true
 fn:=fun _=>false
 pn:=[]
 xe:=fun e s'=>wpAny (model P w) (A.deeper (envX qual scope s.heap.objs.size f cd cl)) (leaving (envX qual scope s.heap.objs.size f cd cl) e) (fun _ s''=>CX outer H s E e s'') (fun e' s''=>CX outer H s E e' s'') s'
theorem dG_{x:Str}{u:Value}:∀{l:List (Str × Value)},(l.map (·.1)).Nodup->(x,u)∈l->l.lookup x=some u
 |(y,v)::l,nd,h=>by
  have n:=aI'.mp nd;rcases aj'.mp h with e|h
  ·cases e;simp[List.lookup]
  ·have ne:x≠y:=fun z=>n.1 (by rw[<- z];exact ad'.mpr ⟨_,h,rfl⟩);have:(x == y)=false:=by simpa using ne
   rw[aP',this];exact dG_ n.2 h
theorem gc_:∀(ps:List Str) (us:List Value),((ps.zip us).map (·.1)).Sublist ps
 |[],_=>by simp
 |_::_,[]=>by simp
 |p::ps,u::us=>by
  simp only[List.zip_cons_cons,ao'];exact (gc_ ps us).cons₂ p
theorem cV_{ps:List Str}{us:List Value}{i:Nat}{x:Str}{u:Value}(nd:ps.Nodup)(h1:ps[i]? = some x)(h2:us[i]? = some u):(ps.zip us).reverse.lookup x=some u:=by
 refine dG_ ?_ (List.mem_reverse.mpr (ac' (i:=i) ?_))
 ·rw[List.map_reverse];refine (List.reverse_perm _).nodup_iff.mpr (nd.sublist ?_);exact gc_ ps us
 ·rw[List.getElem?_zip_eq_some];exact⟨h1,h2⟩
structure b6' (fvs:List Str) (cl:List (Str × Addr)) (gs:List V) (h:Heap):Prop where
 inj:∀x y c,cl.lookup x=some c->cl.lookup y=some c->x=y
 has:∀x∈fvs,∃c,cl.lookup x=some c
 all:∀x c,cl.lookup x=some c->∃v,h.IsCell c v
 is:∀(i:Nat) x v,fvs[i]? = some x->gs[i]? = some v->∃c u,cl.lookup x=some c/\RelV v u/\h.IsCell c (some u)
theorem IsCell.keeps{h h':Heap}{c:Addr}{v:Option Value}(x:h.IsCell c v)(k:∀o,h.get? c=some o->h'.get? c=some o):h'.IsCell c v:=let ⟨o,e,d⟩:=x;⟨o,k o e,d⟩
theorem jp_{CX:CXT}{P:Program}{w:World}{K:F__}{mg:Str->Option Value}{base:Heap}{ps fvs:List Str}{qual:Str}{scope:Scope}{f:Addr}{cd:Value}{cl:List (Str × Addr)}{A:Around}{outer:List Env}{s:Shared}{H:Hp}{E:XK}{us:List Value}{vs gs:List V}{h1:Heap}{tk:Nat}
  (S:bM' ps fvs scope) (hd:A.handled=none) (e0:Env0 P w K mg base A outer s H) (hl:vs.length=ps.length) (hg:gs.length=fvs.length) (r:Vals vs us) (C:b6' fvs cl gs s.heap) (fc:∀x c,cl.lookup x=some c->H c=none)
  (ns:h1.Ns s.heap.objs.size fun x=>(ps.zip us).reverse.lookup x) (k:∀b o,s.heap.get? b=some o->h1.get? b=some o) :
  Inv (dp' CX P w K mg base (ps++fvs) qual scope f cd cl A outer s H E) [] (vs.map some++gs.map some) H { s with heap:=h1,toks:=tk }:=by
 have noA:∀b:Addr,b∉(dp' CX P w K mg base (ps++fvs) qual scope f cd cl A outer s H E).ex:=fun b z=>absurd (show b∈([]:List Addr) from z) (by simp)
 refine⟨⟨e0.mod,S.kind,rfl,rfl,ag' _,C.inj,fun y hy=>?_,fun y c h=>(by cases h),fun _=>hd,Around.frames_deeper e0.frames,.inr ⟨rfl,rfl⟩,fun b z=>absurd z (noA b),e0.bs,e0.bsz,fun b _ _=>noA b,fun b z=>absurd z (noA b),e0.funs,e0.frf⟩,
  rfl,e0.bare,Un.kept k,⟨_,ns,fun i y v h1' h2 h3=>?_⟩,fun y c h=>?_,e0.hok.fresh (ag' _),fc,fun p hp=>absurd (show p∈([]:List (Addr × Obj)) from hp) (by simp),e0.hok.kept k,?_⟩
 ·have hy:scope.names.lookup y=some .cell∨scope.names.lookup y=some .free:=hy;rcases hy with hy|hy
  ·exact absurd rfl (S.nocell _ (PySem.mem_of_lookup hy))
  ·exact C.has y (S.all y hy)
 ·have h1':(ps++fvs)[i]? = some y:=h1';by_cases hi:i<ps.length
  ·rw[aS' hi] at h1';rw[aS' (by simpa [hl] using hi),an'] at h2;obtain⟨v',hv,e⟩:=aW'.mp h2;cases e;obtain⟨u,hu,rv⟩:=r.get hv;refine⟨u,rv,.inl ⟨S.par y (ac' h1'),?_⟩⟩;have ndP:ps.Nodup:=(List.nodup_append.mp S.nd).1;show (ps.zip us).reverse.lookup y=some u;exact cV_ ndP h1' hu
  ·rw[aQ' (by omega)] at h1';rw[aQ' (by simp[hl];omega),an',aa',hl] at h2;obtain⟨v',hv,e⟩:=aW'.mp h2;cases e;obtain⟨c,u,e1,rv,ce⟩:=C.is _ _ _ h1' hv;exact⟨u,rv,.inr ⟨.inr (S.fv y (ac' h1')),c,e1,IsCell.keeps ce fun o e=>k _ _ e⟩⟩
 ·obtain⟨v,ce⟩:=C.all y c h;exact⟨v,IsCell.keeps ce fun o e=>k _ _ e⟩
 ·show _=(ps++fvs).length;rw[aq',aq',aa',aa',hl,hg]
theorem ja_{CX:CXT}{P:Program}{w:World}{K:F__}{mg:Str->Option Value}{base:Heap}{k:Nat}{ps fvs:List Str}{qual:Str}{params:Arguments}{body:PySem.Expr}{scope:Scope}{f c':Addr}{pm ctv:Value}{cl:List (Str × Addr)}{A:Around}{outer:List Env}{s:Shared}{H:Hp}{Q:VK}{E:XK}{us:List Value}{vs gs:List V}{t:TE}
  (S:bM' ps fvs scope) (hr:Room (k+1) A) (e0:Env0 P w K mg base A outer s H) (hf:s.heap.get? f=some (kla_obj "<lambda>" qual params body scope cl pm c' ctv)) (hcd:s.heap.CodeRec (.ref c') qual)
  (hb:bindArgs (kla_fn "<lambda>" qual params body scope cl pm (.ref c') ctv) ⟨us,[]⟩=pure (ps.zip us)) (hl:vs.length=ps.length) (hg:gs.length=fvs.length) (r:Vals vs us) (C:b6' fvs cl gs s.heap) (fc:∀x c,cl.lookup x=some c->H c=none)
  (ht:Room k (A.deeper (envX qual scope s.heap.objs.size f (.ref c') cl))->PE (dp' CX P w K mg base (ps++fvs) qual scope f (.ref c') cl A outer s H E) body t) (hq:t (vs.map some++gs.map some) H Q) :
  codeAny (model P w) A (.call (.ref f) ⟨us,[]⟩) (CR CX outer P w H s Q E) s:=by
 have lim:s.heap.NoLimit:=e0.mod.nolimit.keeps fun b o e=>(e0.bs b o e).1;refine kla_callFunE hr.depth hf rfl S.co S.gen rfl hcd ?_;rw[hb];refine wpAny_pure (wpAny_newFunctionEnv S.nocell (fun x hx=>?_) (fun h1 ns sb=>?_) S.kind)
 ·exact S.par x.1 (List.of_mem_zip hx).1
 have k1:∀b o,s.heap.get? b=some o->h1.get? b=some o:=fun b o e=>sb.extBut b o (au' (Heap.lt_size e)) (Heap.get?_push_of_some _ e);refine⟨lim.keeps k1,?_⟩;show codeAny _ _ (.expr body (envX qual scope s.heap.objs.size f (.ref c') cl)) _ _;have I:=jp_ (CX:=CX) (qual:=qual) (f:=f) (cd:=.ref c') (E:=E) (tk:=s.toks+(ps.zip us).length) S hr.hd e0 hl hg r C fc ns k1;refine kla_codeExpr (wpAny_mono (ht (hr.deeper _) [] _ _ H _ I hq) (fun v s' hs=>?_) fun e s' hs=>hs);obtain⟨x,H',J,rv,q⟩:=hs;exact⟨x,H',J.os,J.bare,J.base,J.hok,rv,q⟩
end L2
namespace L2
open PySem PySem.Spec PyProof.Rows PySem.W
def lamH(f:Addr)(qual:Str)(params:Arguments)(body:PySem.Expr)(scope:Scope)(cl:List (Str × Addr))(c':Addr):HO:=.ext fun h=>∃pm ctv,h.get? f=some (kla_obj "<lambda>" qual params body scope cl pm c' ctv)
def cQ'(c':Addr)(qual:Str):HO:=.ext fun h=>∃o vs t,h.get? c'=some o/\o.data=.fields vs/\vs[1]? = some (.str qual t)
def tLam(P:Addr)(qual:Str)(params:Arguments)(body:PySem.Expr)(scope:Scope)(pos:Pos)(cl:List (Str × Addr)):TE:=fun _ H Q=>∃ps,H P=some (.tbl ps)/\TriplesOk ps.toList /\
 ((codeAmong pos ps.toList=none/\∀c' f,H c'=none->H f=none->c'≠f->Q (.ref f) (upd (upd (upd H P (.tbl (ps++#[rawInt pos.line,rawInt pos.col,.ref c']))) c' (cQ' c' qual)) f (lamH f qual params body scope cl c'))) ∨
  ∃c',codeAmong pos ps.toList=some (.ref c')/\∀f,H f=none->Q (.ref f) (upd H f (lamH f qual params body scope cl c')))
theorem iB_{X:Cx}{params:Arguments}{body:PySem.Expr}{scope:Scope}{pos:Pos}{cl:List (Str × Addr)}{c P:Addr}(hdef:defaultsOf params X.env=([],[]))(hcl:closureFor scope X.env=pure cl)(hcode:X.env.code=.ref c)(C:CodeHd X.base c P)(hbm:X.base.BuiltinsAt X.mg P) :
  PE X (.Lambda params body scope pos) (tLam P (X.env.qual++"<lambda>") params body scope pos cl):=by
 intro pins s σ H Q I h;obtain⟨ps,hP,ht,h⟩:=h;have hPh:s.heap.get? P=some (tabObj ps):=I.hok P _ hP
 have hgl:H mainGlobals=none:=by
  obtain⟨o,_,_,e,_⟩:=I.mod.glob;exact (I.bs _ _ e).2
 refine kla_eval hdef ?_;rcases h with⟨hn,q⟩|⟨c',hf,q⟩
 ·refine kla_makeFunction hcl I.ok.glob (I.mod.glob.keeps I.bk) hcode (C.keeps I.bk) hPh ht hn (fun z=>by rw[z,hP] at hgl;cases hgl) (hbm.keeps I.bk) fun c' ctv h' tk hx hge hlt hrec htb=>?_;have fz:s.heap.objs.size<=h'.objs.size:=aU' hge (Nat.le_of_lt hlt);have nc:H c'=none:=I.hok.fresh hge;have nf:H h'.objs.size=none:=I.hok.fresh fz;have cf:c'≠h'.objs.size:=au' hlt;have Pc:P≠c':=a6_ hP nc;have Pf:P≠h'.objs.size:=a6_ hP nf
  have old:∀{b u},H b=some u->b≠P->upd (upd (upd H P (.tbl (ps++#[rawInt pos.line,rawInt pos.col,.ref c']))) c' (cQ' c' (X.env.qual++"<lambda>"))) h'.objs.size (lamH h'.objs.size (X.env.qual++"<lambda>") params body scope cl c') b=some u:=fun {b u} e n=>by
   rw[a4_ (a6_ e nf),a4_ (a6_ e nc),a4_ n];exact e
  have notT:∀{b u},H b=some u->(∀ps,u≠.tbl ps)->b≠P:=fun {b u} e n z=>by
   rw[z,hP] at e;cases e;exact n _ rfl
  have kp:∀b o,b≠P->s.heap.get? b=some o->(h'.push (kla_obj "<lambda>" (X.env.qual++"<lambda>") params body scope cl ((X.mg "__name__").getD .none) c' ctv)).get? b=some o:=fun b o n e=>Heap.get?_push_of_some _ (hx b o n e);refine⟨.ref h'.objs.size,_,I.un (t':=tk) ⟨fun b o e n _ _=>kp b o (fun z=>by rw[z,hP] at n;cases n) e,fun b o e n _ _=>⟨o.slots,kp b o (fun z=>by rw[z,hP] at n;cases n) e⟩,fun b o e n _=>?_,fun b o e _=>?_,fun b xs e=>old e (notT e (by simp)),fun b o u e=>old e (notT e (by simp)),fun b qs e=>?_⟩ (fun b u e=>?_),rfl,q c' h'.objs.size nc nf cf⟩
  ·have lt:=Heap.lt_size e;rw[a4_ (au' (av' lt fz)),a4_ (au' (av' lt hge)),a4_ (fun z=>by rw[z,hP] at n;cases n)];exact n
  ·by_cases z:b=P
   ·subst z;exact⟨_,Heap.get?_push_of_some _ htb⟩
   ·exact⟨o,kp b o z e⟩
  ·by_cases z:b=P
   ·subst z;rw[hP] at e;cases e;exact⟨_,by rw[a4_ Pf,a4_ Pc,a1_]⟩
   ·exact⟨#[],by rw[aZ'];exact old e z⟩
  ·by_cases z1:b=h'.objs.size
   ·subst z1;rw[a1_] at e;cases e;exact⟨⟨_,_,Heap.get?_push_size _ rfl⟩,⟨_,Heap.get?_push_size _ rfl⟩,fun h1 h2 ⟨pm,cv,e1⟩ k=>⟨pm,cv,k _ e1⟩⟩
   ·rw[a4_ z1] at e;by_cases z2:b=c'
    ·subst z2;rw[a1_] at e;cases e;obtain⟨c2,oc,vs,t,ec,hoc,hd,hv⟩:=hrec;cases ec;exact⟨⟨oc,vs,t,Heap.get?_push_of_some _ hoc,hd,hv⟩,⟨_,Heap.get?_push_of_some _ hoc⟩,fun h1 h2 ⟨o,vs,t,e1,r⟩ k=>⟨o,vs,t,k _ e1,r⟩⟩
    ·rw[a4_ z2] at e;by_cases z3:b=P
     ·subst z3;rw[a1_] at e;cases e;exact Heap.get?_push_of_some _ htb
     ·rw[a4_ z3] at e;refine (I.hok b u e).stay (fun d v hd e1=>kp d v ?_ e1) (fun d e1=>old e1 (notT e1 (by simp))) fun d xs e1=>old e1 (notT e1 (by simp));rcases hd with rfl|hd
      ·exact z3
      ·exact notT hd (by simp)
 ·refine kla_makeFunctionHit hcl I.ok.glob (I.mod.glob.keeps I.bk) hcode (C.keeps I.bk) hPh ht hf (hbm.keeps I.bk) fun ctv h' tk hk hsz=>?_;have nf:H h'.objs.size=none:=I.hok.fresh hsz;refine⟨.ref h'.objs.size,_,I.laid (t':=tk) (fun b o e=>Heap.get?_push_of_some _ (hk b o e)) hsz ?_,rfl,q _ nf⟩;exact⟨⟨_,_,Heap.get?_push_size _ rfl⟩,⟨_,Heap.get?_push_size _ rfl⟩,fun h1 h2 ⟨pm,cv,e1⟩ k=>⟨pm,cv,k _ e1⟩⟩
end L2
namespace L2
open PySem PySem.Spec PyProof.Rows PySem.W
theorem passesL{P:Program}{w:World}{K:F__}{mg:Str->Option Value}{base:Heap}{N:List Str}{qual:Str}{scope:Scope}{f:Addr}{cd:Value}{cl:List (Str × Addr)}{A:Around}{outer:List Env}{s:Shared}{H:Hp}{E:XK}:bG' (CX2 P w) (dp' (CX2 P w) P w K mg base N qual scope f cd cl A outer s H E) E:=by
 intro pins σ H1 s1 e s' I hc;obtain⟨a,cls,H',B,a0,dd,rfl,os,bare,un,hok,fl,i,hE⟩:=hc;refine fC_ (base:=B) I.ok.frames rfl fl fun h1 fl1 up=>?_;exact fL_ (s1:={ s' with heap:=h1 }) I rfl os bare un hok i fl.2.2.1 up fl1 hE
section
variable{cs:List (Addr × Obj)}{H H':Hp}{b:Addr}{o:Obj}{u:HO}
variable{P:Program}{w:World}{h:Heap}
end
section
variable{X:Cx}{pins:List (Addr × Obj)}{σ:St}{H:Hp}{s s':Shared}{cs:List (Addr × Obj)}
def LamOk(P:Program)(w:World)(K:F__)(mg:Str->Option Value)(base:Heap)(k:Nat)(qual:Str)(params:Arguments)(body:PySem.Expr)(scope:Scope)(ps fvs:List Str)(sp:List V->List V->Hp->VK->XK->Prop):Prop:=
 ∀(A:Around) (outer:List Env) (s:Shared) (H:Hp) (f c':Addr) (pm ctv:Value) (cl:List (Str × Addr)) (us:List Value) (vs gs:List V) (Q:VK) (E:XK),Room k A->Env0 P w K mg base A outer s H->s.heap.get? f=some (kla_obj "<lambda>" qual params body scope cl pm c' ctv)->s.heap.CodeRec (.ref c') qual->
  vs.length=ps.length->gs.length=fvs.length->Vals vs us->b6' fvs cl gs s.heap->(∀x c,cl.lookup x=some c->H c=none)->sp vs gs H Q E->codeAny (model P w) A (.call (.ref f) ⟨us,[]⟩) (CR (CX2 P w) outer P w H s Q E) s
theorem lamOk{P:Program}{w:World}{K:F__}{mg:Str->Option Value}{base:Heap}{k:Nat}{qual:Str}{params:Arguments}{body:PySem.Expr}{scope:Scope}{ps fvs:List Str}{sp:List V->List V->Hp->VK->XK->Prop}(S:bM' ps fvs scope)
  (hb:∀pm c' ctv cl us,us.length=ps.length->bindArgs (kla_fn "<lambda>" qual params body scope cl pm (.ref c') ctv) ⟨us,[]⟩=pure (ps.zip us))
  (hbody:∀(A:Around) (outer:List Env) (s:Shared) (H:Hp) (f:Addr) (cd:Value) (cl:List (Str × Addr)) (vs gs:List V) (Q:VK) (E:XK),Room k (A.deeper (envX qual scope s.heap.objs.size f cd cl))->sp vs gs H Q E->bG' (CX2 P w) (dp' (CX2 P w) P w K mg base (ps++fvs) qual scope f cd cl A outer s H E) E->
   ∃t,PE (dp' (CX2 P w) P w K mg base (ps++fvs) qual scope f cd cl A outer s H E) body t/\t (vs.map some++gs.map some) H Q):LamOk P w K mg base (k+1) qual params body scope ps fvs sp:=by
 intro A outer s H f c' pm ctv cl us vs gs Q E hr e0 hf hcd hl hg r C fc hsp;obtain⟨t,ht,hq⟩:=hbody A outer s H f (.ref c') cl vs gs Q E (hr.deeper _) hsp passesL;exact ja_ S hr e0 hf hcd (hb pm c' ctv cl us (by rw[<- r.length];exact hl)) hl hg r C fc (fun _=>ht) hq
end
end L2
namespace L2
open PySem PySem.Spec PyProof.Rows PySem.W
structure CellsOf (fvs:List Str) (cl:List (Str × Addr)) (cs:List (Addr × Obj)) (gs:List V):Prop where
 len:gs.length=fvs.length
 inj:∀x y c,cl.lookup x=some c->cl.lookup y=some c->x=y
 has:∀x∈fvs,∃c,cl.lookup x=some c
 all:∀x c,cl.lookup x=some c->∃o v,cs.lookup c=some o/\o.data=.cell v
 is:∀(i:Nat) x v,fvs[i]? = some x->gs[i]? = some v->∃c o u,cl.lookup x=some c/\cs.lookup c=some o/\o.data=.cell (some u)/\RelV v u
section
variable{X:Cx}{k:Nat}{x:Str}{p pos:Pos}{tn:TE}{qual:Str}{params:Arguments}{body:PySem.Expr}{scope:Scope}{fvs ps:List Str}{sp':List V->List V->Hp->VK->XK->Prop}{E:XK}
end
section
variable{X:Cx}{k:Nat}{x:Str}{p pos:Pos}{e:PySem.Expr}{es:List PySem.Expr}{ta:TA}{fvs ps:List Str}{sp:Sp}{f:Addr}{fd:FuncData}{cl:List (Str × Addr)}{is:List Nat}
end
end L2
namespace L2
open PySem PySem.Spec PyProof.Rows PySem.W
theorem gE_{P:Program}{w:World}{K:F__}{mg mb:Str->Option Value}{CX:CXT}{k:Nat}{fa a:Addr}{ts:List Addr}{fd:FuncData}{x:Str}{sp:Sp}{s₁:Shared}{vs:List Value}{ns:List Int}
  (hT:∀T∈ts,K.lookup T=none) (eT:∀T∈ts,s₁.heap.get? T=some (tabObj #[])) (hct:∀T∈ts,isCodeTable s₁.heap T)
  (KX:K.In s₁.heap) (hns:s₁.heap.Ns mainGlobals mg) (hb:s₁.heap.Ns builtinsNs mb) (hbb:∀x:Str,x≠"__name__"->mb x=bootBuiltins x) (hlim:s₁.heap.NoLimit) (hg:s₁.gens=#[])
  (ha:s₁.heap.get? a=some { cls:=.type "list",data:=.seq vs.toArray }) (hi:IntsAre vs ns) (hl:ns.length<=sizeLine) (hr:Room k callerA)
  (hbm:∃bm ob,mg "__builtins__"=some (.ref bm)/\bm≠builtinsNs/\s₁.heap.get? bm=some ob/\ob.cls=.type "module"/\ob.dict=some builtinsNs/\ob.data=.plain)
  (F:∀base:Heap,K.In base->base.Ns mainGlobals mg->(∀T∈ts,base.BuiltinsAt mg T)->FnOk P w K mg base CX k fa fd [x] sp) (hbind:∀(s:Shared) (u:Value),BindsTo s fd ⟨[u],[]⟩ [(x,u)])
  (hsp:∀H:Hp,(∀T∈ts,H T=some (.tbl #[]))->SqL K H a (ns.map V.int)->sp [.ref a] H (fun v _=>v=.bl true) fun _ _ _=>False)
  (hCX:∀H e s',CX [] H s₁ (fun _ _ _=>False) e s'->False) :
  codeAny (model P w) callerA (.call (.ref fa) ⟨[.ref a],[]⟩) (fun r s'=>r=.ok (.ret (.bool true))/\OldK s₁.heap s'.heap/\s'.os=s₁.os/\AllBare s'.gens) s₁:=by
 have rv:=e0_ hi;have lenV:=hi.length
 have aT:∀{b},b∈ts->b≠a:=fun {b} hb z=>by
  have:=eT b hb;rw[z,ha] at this;cases this
 have core:∀H:Hp,(∀b,H b=none∨(b∈ts/\H b=some (.tbl #[]))∨(b∉ts/\∃o xs,H b=some (.frz o (.lst xs))))->(∀T∈ts,H T=some (.tbl #[]))->SqL K H a (ns.map V.int)->HOk P w H s₁.heap->(∀b,H b≠none->b=a∨b∈ts)->(H a≠none->K.lookup a=none)->
   codeAny (model P w) callerA (.call (.ref fa) ⟨[.ref a],[]⟩) (fun r s'=>r=.ok (.ret (.bool true))/\OldK s₁.heap s'.heap/\s'.os=s₁.os/\AllBare s'.gens) s₁:=by
  intro H hO hHT hS hok hA hK;have base_of:∀{b:Addr} {o:Obj},s₁.heap.get? b=some o->H b=none->(hidT s₁.heap H).get? b=some o:=fun e n=>hG_ e n
  have noA:∀{b:Addr} {o:Obj} {es:Array DictEntry} {ep:Nat},s₁.heap.get? b=some o->o.data=.dict es ep->H b=none:=fun {b o es ep} e d=>by
   cases q:H b with
   |none=>rfl
   |some u=>
    rcases hA b (by rw[q];simp) with e'|e'
    ·subst e';rw[ha] at e;cases e;have d':Data.seq vs.toArray _=Data.dict es ep:=d;cases d'
    ·rw[eT b e'] at e;cases e;cases d
  have nsK:∀{b:Addr} {m:Str->Option Value},s₁.heap.Ns b m->(hidT s₁.heap H).Ns b m:=fun {b m} ⟨o,es,ep,e,d,r⟩=>⟨o,es,ep,base_of e (noA e d),d,r⟩
  have hKb:K.In (hidT s₁.heap H):=fun b o e=>base_of (KX b o e) (by
   cases q:H b with
   |none=>rfl
   |some u=>
    rcases hA b (by rw[q];simp) with e'|e'
    ·subst e';rw[hK (by rw[q];simp)] at e;cases e
    ·rw[hT b e'] at e;cases e)
  have hB:∀T∈ts,(hidT s₁.heap H).BuiltinsAt mg T:=fun T hTs=>by
   obtain⟨bm,ob,h1,h2,h3,h4,h5,h6⟩:=hbm
   have n1:bm≠mainGlobals:=fun z=>by
    obtain⟨o,es,ep,e,d,_⟩:=hns;rw[z,e] at h3;cases h3;rw[d] at h6;cases h6
   have n2:∀{b},b∈ts->bm≠b:=fun {b} hb z=>by
    rw[z,eT b hb] at h3;cases h3;cases h6
   refine⟨bm,ob,h1,h2,n1,n2 hTs,base_of h3 ?_,h4,h5,h6⟩;cases q:H bm with
   |none=>rfl
   |some u=>
    rcases hA bm (by rw[q];simp) with e'|e'
    ·subst e';rw[ha] at h3;cases h3;cases h6
    ·exact absurd rfl (n2 e')
  have hM:Mod K mg (hidT s₁.heap H):=⟨hKb,nsK hns,⟨mb,nsK hb,hbb⟩,let ⟨mc,h1,h2⟩:=hlim;⟨mc,nsK h1,h2⟩⟩;have e0:Env0 P w K mg (hidT s₁.heap H) callerA [] s₁ H:=⟨rfl,hM,fun b o e=>jz_ e,Nat.le_of_eq (ge_ _ _),trivial,fun b hb=>absurd (show b∈([]:List Addr) from hb) (by simp),hok,.of_eq hg⟩;refine codeAny_mono ((F _ hKb (nsK hns) hB).run callerA [] s₁ H ⟨[.ref a],[]⟩ [.ref a] [.ref a] _ _ hr e0 (hbind s₁ (.ref a)) (.cons rfl .nil) (hsp H hHT hS)) fun r s' h=>?_;cases r with
  |error e=>exact (hCX H e s' h).elim
  |ok fl=>
   cases fl with
   |next=>exact False.elim h
   |brk=>exact False.elim h
   |cont=>exact False.elim h
   |ret u=>
    obtain⟨v,H',os,bare,un,hok',r',q⟩:=h;have q':v=.bl true:=q;subst q';obtain rfl:u=Value.bool true:=r'
    have main:∀b o,s₁.heap.get? b=some o->s'.heap.get? b=some o∨(b∈ts/\o=tabObj #[]/\∃more,s'.heap.get? b=some (tabObj (#[]++more))):=fun b o e=>by
     cases q:H b with
     |none=>exact .inl (un.keep b o e q (by intro z;exact absurd (show b∈([]:List Addr) from z) (by simp)) (by simp))
     |some u=>
      rcases hO b with z|⟨zT,z⟩|⟨_,ob,xs,z⟩
      ·rw[q] at z;cases z
      ·rw[eT b zT] at e;cases e;obtain⟨more,z⟩:=un.tbls b _ z;exact .inr ⟨zT,rfl,more,hok' b _ z⟩
      ·have z2:=un.frzs b ob _ z;obtain⟨e1,_⟩:=hok b _ z;obtain⟨e2,_⟩:=hok' b _ z2;rw[e] at e1;cases e1;exact .inl e2
    refine⟨rfl,⟨fun b o e=>?_,fun b o e=>?_⟩,os,bare⟩
    ·rcases main b o e with z|⟨zT,rfl,more,z⟩
     ·exact .inl z
     ·exact .inr (.inl ⟨hct b zT,rfl,_,_,rfl,z⟩)
    ·rcases main b o e with z|⟨_,_,more,z⟩
     ·exact⟨_,z⟩
     ·exact⟨_,z⟩
 cases hk:K.lookup a with
 |some o=>
  have e:=KX a o hk;rw[ha] at e;cases e;refine core (fun b=>if b∈ts then some (.tbl #[]) else none) (fun b=>?_) (fun T h=>if_pos h) (.inr ⟨_,vs.toArray,_,hk,rfl,rfl,rfl,by rw[ai',lenV];exact hl,by simpa using rv⟩) (fun b u z=>?_) (fun b z=>?_) fun z=>absurd (if_neg fun q=>aT q rfl) z
  ·by_cases hb:b∈ts
   ·exact .inr (.inl ⟨hb,if_pos hb⟩)
   ·exact .inl (if_neg hb)
  ·by_cases hb:b∈ts
   ·have z':=(if_pos hb).symm.trans z;cases z';exact eT b hb
   ·have z':=(if_neg hb).symm.trans z;cases z'
  ·by_cases hb:b∈ts
   ·exact .inr hb
   ·exact absurd (if_neg hb) z
 |none=>
  have T2:∀{b:Addr},b∈ts->(fun b=>if b∈ts then some (.tbl #[]) else if b=a then some (HO.frz { cls:=.type "list",data:=.seq vs.toArray } (.lst (ns.map V.int))) else none) b=some (.tbl #[]):=fun {b} hb=>if_pos hb;refine core (fun b=>if b∈ts then some (.tbl #[]) else if b=a then some (.frz { cls:=.type "list",data:=.seq vs.toArray } (.lst (ns.map V.int))) else none) (fun b=>?_) (fun T h=>if_pos h) (.inl (.inr ⟨{ cls:=.type "list",data:=.seq vs.toArray },(if_neg fun q=>aT q rfl).trans (if_pos rfl)⟩)) (fun b u z=>?_) (fun b z=>?_) fun _=>hk
  ·by_cases hb2:b∈ts
   ·exact .inr (.inl ⟨hb2,if_pos hb2⟩)
   ·by_cases hb:b=a
    ·exact .inr (.inr ⟨hb2,_,_,(if_neg hb2).trans (if_pos hb)⟩)
    ·exact .inl ((if_neg hb2).trans (if_neg hb))
  ·by_cases hb2:b∈ts
   ·have z':=(if_pos hb2).symm.trans z;cases z';exact eT b hb2
   ·by_cases hb:b=a
    ·have z':=((if_neg hb2).trans (if_pos hb)).symm.trans z;cases z';subst hb;exact⟨ha,by rw[aa'];exact hl,vs,_,rv,ha⟩
    ·have z':=((if_neg hb2).trans (if_neg hb)).symm.trans z;cases z'
  ·by_cases hb2:b∈ts
   ·exact .inr hb2
   ·by_cases hb:b=a
    ·exact .inl hb
    ·exact absurd ((if_neg hb2).trans (if_neg hb)) z
theorem fJ_{K:F__}{T:Addr}(h:T∉K.map (·.1)):K.lookup T=none:=by
 induction K with
 |nil=>rfl
 |cons p K ih=>
  obtain⟨b,o⟩:=p;simp only[ao',aj',not_or] at h;rw[aP',show (T == b)=false by simpa using h.1];exact ih h.2
theorem walk_ofT{l:PySem.W.OpenLaw}{n k:Nat}{q:Program}{loose:List Str}{XP:(Str->Option Value)->Heap->Prop}{d:DefRec}{K:Params->F__}{as ts:List Addr}{eas:∀P:Params,as=(K P).map (·.1)}{CX:World->CXT}{sp:World->Sp}{x:Str}
  (hn:l.most=some n) (hn2:n<=sizeLine) (hdf:d.params.defaults=[]) (hr:Room k callerA)
  (hts:(ts.all fun T=>!as.contains T)=true)
  (F:∀(w:World) (mg:Str->Option Value) (fa:Addr) (h:Heap),(K w.params).In h->h.Ns mainGlobals mg->mg d.name=some (.ref fa)->
   ∃fd:FuncData,(∀(s:Shared) (u:Value),BindsTo s fd ⟨[u],[]⟩ [(x,u)])/\(∀T∈ts,isCodeTable h T) /\
    ∀base:Heap,(K w.params).In base->base.Ns mainGlobals mg->(∀T∈ts,base.BuiltinsAt mg T)->FnOk l.prog w (K w.params) mg base (CX w) k fa fd [x] (sp w))
  (hsp:∀(w:World) (H:Hp) (a:Addr) (ns:List Int),ns.length<=n->(∀T∈ts,H T=some (.tbl #[]))->SqL (K w.params) H a (ns.map V.int)->sp w [.ref a] H (fun v _=>v=.bl true) fun _ _ _=>False)
  (hCX:∀(w:World) (H:Hp) (s:Shared) (e:Value) (s':Shared),CX w [] H s (fun _ _ _=>False) e s'->False) :
  PySem.W.WalkO q loose XP (kmHook K as eas ts).says l.row.toRowW d [] (fun f vs=>PySem.call f vs):=by
 refine Att.attach_call hn hdf fun w s₀ s₁ mg mb fa o pm cd doc a vs ns G Y ho hd hcd hmg hobj hints hlen hg=>?_;have KX:(K w.params).In s₁.heap:=km_in_of Y;have eT:∀T∈ts,s₁.heap.get? T=some (tabObj #[]):=Y.2;obtain⟨fd,hb,hct,hF⟩:=F w mg fa _ KX G.T.g hmg;refine gE_ (fun T h=>fJ_ ?_) eT hct KX G.T.g G.T.b G.T.builtins G.T.nolimit hg hobj hints (aU' hlen hn2) hr G.T.bmain hF hb (fun H hO hS=>hsp w H a ns hlen hO hS) fun H e s'=>hCX w H s₁ e s';have:=List.all_eq_true.mp hts T h;rw[<- eas w.params];simpa using this
end L2
namespace L2
open PySem PySem.Spec PyProof.Rows
section
variable{X:Cx}
end
open PySem.W in
def bJ':List (Pos × Addr)->List Value
 |[]=>[]
 |(p,c)::es=>rawInt p.line::rawInt p.col::.ref c::bJ' es
def bp'(H:Hp)(T:Addr)(qual:Str):Prop:=∃es:List (Pos × Addr),H T=some (.tbl (bJ' es).toArray)/\∀e∈es,H e.2=some (cQ' e.2 qual)
theorem bp'.same{H H':Hp}{T:Addr}{qual:Str}(s:Same H H')(h:bp' H T qual):bp' H' T qual:=by
 obtain⟨es,a,b⟩:=h;exact⟨es,s _ _ a,fun e he=>s _ _ (b e he)⟩
theorem f6_:∀es:List (Pos × Addr),TriplesOk (bJ' es)
 |[]=>trivial
 |(p,c)::es=>by
  have:=f6_ es;simp[bJ',TriplesOk,rawInt,this]
theorem dQ_:∀(es:List (Pos × Addr)) (p:Pos) (c:Addr),bJ' (es++[(p,c)])=bJ' es++[rawInt p.line,rawInt p.col,.ref c]
 |[],p,c=>rfl
 |(p',c')::es,p,c=>by
  show rawInt p'.line::rawInt p'.col::.ref c'::bJ' (es++[(p,c)])=_;rw[dQ_ es p c];rfl
theorem cD_(pos:Pos):∀es:List (Pos × Addr),codeAmong pos (bJ' es)=none∨∃e∈es,codeAmong pos (bJ' es)=some (.ref e.2)
 |[]=>.inl rfl
 |(p,c)::es=>by
  by_cases h:codeAmong pos (bJ' ((p,c)::es))=some (.ref c)
  ·exact .inr ⟨(p,c),ah',h⟩
  ·have e:codeAmong pos (bJ' ((p,c)::es))=codeAmong pos (bJ' es):=by
    show codeAmong pos (rawInt p.line::rawInt p.col::.ref c::bJ' es)=_;have h:¬codeAmong pos (rawInt p.line::rawInt p.col::.ref c::bJ' es)=some (.ref c):=h;simp only[codeAmong,rawInt] at h ⊢;split at h
    ·exact absurd rfl h
    ·rename_i q
     rw[if_neg q]
   rcases cD_ pos es with q|⟨x,hx,q⟩
   ·exact .inl (e.trans q)
   ·exact .inr ⟨x,af' _ hx,e.trans q⟩
end L2
namespace L2
open PySem PySem.Spec PyProof.Rows PySem.W EvS
section
variable{X:Cx}{pins:List (Addr × Obj)}{σ:St}{H:Hp}{s:Shared}
theorem Inv.trackL{h':Heap}{t':Nat}{fp:List Addr}{T:Addr}{ys:List V}{its:List Value}{n:Nat}(I:Inv X pins σ H s)(k:∀b o,b∉fp->s.heap.get? b=some o->h'.get? b=some o)(hf:∀b∈fp,FpOk X pins H b)
  (hT:T∈fp) (hz:ys.length<=sizeLine) (r:Vals ys its) (ht:h'.get? T=some { cls:=.type "list",data:=.seq its.toArray n }):Inv X pins σ (upd H T (.lst ys)) { s with heap:=h',toks:=t' }:=by
 have fT:H T=none:=(hf T hT).1;have nf:∀b u,H b=some u->b∉fp:=fun b u e hb=>by rw[(hf b hb).1] at e;cases e
 have old:∀{b u},H b=some u->upd H T (.lst ys) b=some u:=fun e=>by rw[a4_ (a6_ e fT)];exact e
 refine I.step (g':=s.gens) (d':=s.drawn) (ch:=fp) (fun b hb=>?_) (fun b o _ _ hc e _=>k b o hc e) (fun b o _ _ hc e _=>⟨o.slots,k b o hc e⟩) (fun b o hc e n=>?_)
  (fun b o hc e=>⟨o,k b o hc e⟩) (fun b ys e=>old e) (fun b o u e=>old e) (fun b ps e=>⟨#[],by rw[aZ'];exact old e⟩) (fun m hm=>?_) (fun b u e=>?_) I.bare
 ·obtain⟨f0,f1,f2,f3,f4,f5⟩:=hf b hb;exact⟨f3,f1,f4,f5⟩
 ·rw[a4_ (fun z=>hc (by rw[z];exact hT))];exact n
 ·obtain⟨o,es,ep,ho,r⟩:=hm;exact⟨o,es,ep,k _ o (fun hb=>(hf _ hb).2.1 rfl) ho,r⟩
 ·by_cases z:b=T
  ·subst z;rw[a1_] at e;cases e;exact⟨hz,its,n,r,ht⟩
  ·rw[a4_ z] at e;refine (I.hok b u e).stay (fun c v hc q=>k c v ?_ q) (fun _ q=>old q) fun _ _ q=>old q;rcases hc with z|z
   ·rw[z];exact nf b u e
   ·exact nf c _ z
theorem FpOk.at{H':Hp}{b:Addr}(f:FpOk X pins H b)(n:H' b=none):FpOk X pins H' b:=⟨n,f.2⟩
def KeyOf(X:Cx)(σ:St)(B:Around)(fv:Value)(H0:Hp)(kf:V->List Key)(xs:List V):Prop:=
 ∀(pins:List (Addr × Obj)) (H:Hp) (s:Shared) (x:V) (u:Value),Inv X pins σ H s->Same H0 H->x∈xs->RelV x u->
  wpAny (model X.prog X.w) B (call fv [u]) (EP X pins σ fun v H'=>Same H H'/\∃t,v=.ref t/\H' t=some (.tup ((kf x).map kV))) (fun _ _=>False) s
theorem j9_{B:Around}{fv:Value}{a kS:Addr}{e1:Nat}{H0:Hp}{kf:V->List Key}{all:List V}{Q:PUnit->Shared->Prop}{E:Value->Shared->Prop}{body:Value->PUnit->Sem (ForInStep PUnit)}(hne:a≠kS)(call1:KeyOf X σ B fv H0 kf all)
  (hb:∀(u:Value) (s:Shared) (Qb:ForInStep PUnit->Shared->Prop),wpAny (model X.prog X.w) B (call fv [u]) (fun k s'=>wpAny (model X.prog X.w) B (Builtin.List.listUpdate (.ref kS) (·.push k)) (fun _ s''=>Qb (.yield ⟨⟩) s'') E s') (fun _ _=>False) s->wpAny (model X.prog X.w) B (body u ⟨⟩) Qb E s) :
  ∀(xs:List V) (us:List Value) (ks:List V) (kvs:List Value) (kk:List (List Key)) (H:Hp) (s:Shared) (c:Nat),Vals xs us->(∀x∈xs,x∈all)->Inv X pins σ H s->Same H0 H->FpOk X pins H a->FpOk X pins H kS->s.heap.get? a=some (seqObj "list" #[] e1)->s.heap.get? kS=some (seqObj "list" kvs.toArray c)->
   Vals ks kvs->a8' X.K H ks kk->kvs.length+us.length<64->
   (∀H' s' kvs' c',Inv X pins σ H' s'->Same H0 H'->FpOk X pins H' a->FpOk X pins H' kS->s'.heap.get? a=some (seqObj "list" #[] e1)->s'.heap.get? kS=some (seqObj "list" kvs'.toArray c')->kvs'.length=kvs.length+us.length->(∃ks',Vals ks' kvs'/\a8' X.K H' ks' (kk++xs.map kf))->Q ⟨⟩ s')->
   wpAny (model X.prog X.w) B (forIn us PUnit.unit body) Q E s:=by
 intro xs
 induction xs with
 |nil=>
  intro us ks kvs kk H s c rv _ I sm fa fk ha hk r t _ q;cases rv;rw[List.forIn_nil];exact wpAny_pure (q H s kvs c I sm fa fk ha hk (by simp) ⟨ks,r,by simpa using t⟩)
 |cons x xs ih=>
  intro us ks kvs kk H s c rv hx I sm fa fk ha hk r t hz q
  obtain⟨u,us,rfl,ru,rr⟩:∃u us',us=u::us'/\RelV x u/\Vals xs us':=by
   cases rv with
   |cons h t=>exact⟨_,_,rfl,h,t⟩
  rw[List.forIn_cons];rw[aC'] at hz;refine wpAny_bind (hb u s _ ?_)
  have hf:∀b∈[a,kS],FpOk X pins H b:=fun b hb=>by
   rcases aj'.mp hb with rfl|hb
   ·exact fa
   ·obtain rfl:b=kS:=by simpa using hb
    exact fk
  have I1:=I.pinned (fp:=[a,kS]) hf (fun b hb=>by
   rcases aj'.mp hb with rfl|hb
   ·exact⟨_,ha,fun v z=>by cases z⟩
   ·obtain rfl:b=kS:=by simpa using hb
    exact⟨_,hk,fun v z=>by cases z⟩)
  refine wpAny_mono (call1 _ H s x u I1 sm (hx x ah') ru) (fun k s1 ⟨v,H1,J,rv,s01,tk,ev,etk⟩=>?_) fun _ _ z=>z
  have pa:(a,seqObj "list" #[] e1)∈bO' [a,kS] s.heap:=by
   unfold bO';exact aM'.mpr ⟨a,by simp,by rw[ha];rfl⟩
  have pk:(kS,seqObj "list" kvs.toArray c)∈bO' [a,kS] s.heap:=by
   unfold bO';exact aM'.mpr ⟨kS,by simp,by rw[hk];rfl⟩
  obtain⟨ha1,na1,_⟩:=J.pin _ (ax' _ (ax' _ pa));obtain⟨hk1,nk1,_⟩:=J.pin _ (ax' _ (ax' _ pk));have ha1:s1.heap.get? a=some (seqObj "list" #[] e1):=ha1;have hk1:s1.heap.get? kS=some (seqObj "list" kvs.toArray c):=hk1;have J0:=J.unpinned;have fa1:=fa.at (H':=H1) na1;have fk1:=fk.at (H':=H1) nk1;have l64:kvs.length<64:=by omega
  refine listUpdate_at hk1 rfl ?_ (by rw[ai',sizeLine_eq];omega) (aU' (Nat.le_of_eq (Array.size_push ..)) (by rw[ai',sizeLine_eq];omega));have oth:∀b o,b∉[kS]->s1.heap.get? b=some o->(s1.heap.update kS (Obj.mapSeq (·.push k))).get? b=some o:=fun b o hb e=>(Heap.get?_update_other _ _ (fun z=>hb (by simp[z]))).trans e;have ea:kvs.toArray.push k=(kvs++[k]).toArray:=by simp
  obtain⟨c2,hc2⟩:∃c2,(s1.heap.update kS (Obj.mapSeq (·.push k))).get? kS=some (seqObj "list" (kvs++[k]).toArray c2):=⟨_,by rw[<- ea];exact get?_update_seq hk1 (·.push k)⟩
  have I2:Inv X pins σ H1 { s1 with heap:=s1.heap.update kS (Obj.mapSeq (·.push k)) }:=J0.turnedF (t':=s1.toks) (fp:=[kS]) oth (fun b hb=>by
   obtain rfl:b=kS:=by simpa using hb
   exact fk1)
  subst ev;refine ih us (ks++[.ref tk]) (kvs++[k]) (kk++[kf x]) H1 _ c2 rr (fun y hy=>hx y (af' _ hy)) I2 (sm.trans s01) fa1 fk1 ?_ hc2 (r.append (.cons rv .nil)) ?_ (by rw[aq',List.length_singleton];omega) fun H' s' kvs' c' a1 a2 a3 a4 a5 a6 a7 a8=>?_
  ·exact oth a _ (by simpa using hne) ha1
  ·exact Paired.snoc (t.same s01) ⟨tk,rfl,etk⟩
  ·refine q H' s' kvs' c' a1 a2 a3 a4 a5 a6 (by rw[a7,aq',List.length_singleton,aC'];omega) ?_;obtain⟨ks',b1,b2⟩:=a8;exact⟨ks',b1,by simpa using b2⟩
end
section
variable{X:Cx}{pins:List (Addr × Obj)}{σ:St}{H:Hp}{s:Shared}{B:Around}
theorem iP_{xs zs:List V}{kf:V->List Key}{p:Array Nat}(g:Good xs.length p)(up:Up (fun i j=>lexK ((xs.map kf).getD i []) ((xs.map kf).getD j [])) p xs.length)(ez:zs=p.toList.map fun i=>xs.getD i .non):zs.Perm xs/\zs.map kf=sortKs (xs.map kf):=by
 have gk:Good (xs.map kf).length p:=by rw[aa'];exact g
 have asc:=el_ (ks:=xs.map kf) (fun i j _ _=>rfl) gk (by rw[aa'];exact up)
 have perm:(p.toList.map fun i=>(xs.map kf).getD i []).Perm (xs.map kf):=by
  have:=bb_ gk fun i=>(xs.map kf).getD i [];rwa [b0_] at this
 have es:=cG_ perm asc;refine⟨?_,?_⟩
 ·have:=bb_ (n:=xs.length) g fun i=>xs.getD i .non;rw[b0_] at this;rw[ez];exact this
 ·rw[<- es,ez,al'];refine az' fun i hi=>?_;have m:i∈(List.range xs.length).toArray:=g.mem_iff.mp (by simpa using hi);have m:i<xs.length:=by simpa using m
  show kf (xs.getD i .non)=(xs.map kf).getD i [];simp[List.getD,m]
theorem gM_{f a:Addr}{xs:List V}{us:List Value}{n:Nat}{P:PySem.Fin->Shared->Prop}{E:Value->Shared->Prop}{kf:V->List Key}{sh:List Bool}(I:Inv X pins σ H s)(fa:FpOk X pins H a)(ho:s.heap.get? a=some (seqObj "list" us.toArray n))(r:Vals xs us)(h64:us.length<64)(al:cR' (xs.map kf) sh)(call1:KeyOf X σ B (.ref f) H kf xs)
  (h:∀zs H' s',Inv X pins σ (upd H' a (.lst zs)) s'->Same H H'->H' a=none->zs.Perm xs->zs.map kf=sortKs (xs.map kf)->P (.done (.ret .none)) s'):wpAny (model X.prog X.w) B (ksk_tree a (.ref f) false) P E s:=by
 have lx:=r.length;obtain⟨e1,ho1⟩:∃e1,(s.heap.update a (Obj.mapSeq fun _=>(#[]:Array Value))).get? a=some (seqObj "list" #[] e1):=⟨_,get?_update_seq ho fun _=>#[]⟩;have oth:∀b o,b∉[a]->s.heap.get? b=some o->(s.heap.update a (Obj.mapSeq fun _=>(#[]:Array Value))).get? b=some o:=fun b o hb e=>(Heap.get?_update_other _ _ (fun z=>hb (by simp[z]))).trans e
 have I1:Inv X pins σ H { s with heap:=s.heap.update a (Obj.mapSeq fun _=>(#[]:Array Value)) }:=I.turnedF (t':=s.toks) (fp:=[a]) oth (fun b hb=>by
  obtain rfl:b=a:=by simpa using hb
  exact fa)
 unfold ksk_tree;refine wpAny_bind (listItems_at ho rfl ?_);refine wpAny_bind (listUpdate_at ho rfl ?_ (by rw[ai',sizeLine_eq];omega) (aD' _));refine wpAny_bind (seqEpoch_at ho1 rfl ?_);refine wpAny_bind (wpAny_newTuple ?_ (by show us.length<=_;rw[sizeLine_eq];omega));refine wpAny_bind (wpAny_newList ?_ (aD' _));refine wpAny_holding ?_;have I2:Inv X pins σ H { s with heap:=(s.heap.update a (Obj.mapSeq fun _=>(#[]:Array Value))).push (seqObj "tuple" us.toArray 0) }:=I1.kept (t':=s.toks) fun b u e=>Heap.get?_push_of_some _ e;have I3:Inv X pins σ H { s with heap:=((s.heap.update a (Obj.mapSeq fun _=>(#[]:Array Value))).push (seqObj "tuple" us.toArray 0)).push (seqObj "list" #[] 0) }:=I2.kept (t':=s.toks) fun b u e=>Heap.get?_push_of_some _ e;have fk:FpOk X pins H ((s.heap.update a (Obj.mapSeq fun _=>(#[]:Array Value))).push (seqObj "tuple" us.toArray 0)).objs.size:=I2.fpOk (ag' _) (I2.hok.fresh (ag' _));have ha3:(((s.heap.update a (Obj.mapSeq fun _=>(#[]:Array Value))).push (seqObj "tuple" us.toArray 0)).push (seqObj "list" #[] 0)).get? a=some (seqObj "list" #[] e1):=Heap.get?_push_of_some _ (Heap.get?_push_of_some _ ho1);have hk3:(((s.heap.update a (Obj.mapSeq fun _=>(#[]:Array Value))).push (seqObj "tuple" us.toArray 0)).push (seqObj "list" #[] 0)).get? ((s.heap.update a (Obj.mapSeq fun _=>(#[]:Array Value))).push (seqObj "tuple" us.toArray 0)).objs.size=some (seqObj "list" #[] 0):=Heap.get?_push_size _ rfl;have hne:a≠((s.heap.update a (Obj.mapSeq fun _=>(#[]:Array Value))).push (seqObj "tuple" us.toArray 0)).objs.size:=au' (Heap.lt_size (Heap.get?_push_of_some (seqObj "tuple" us.toArray 0) ho1));show wpAny (model X.prog X.w) B (ksk_rest a (.ref f) false us.toArray e1 (.ref ((s.heap.update a (Obj.mapSeq fun _=>(#[]:Array Value))).push (seqObj "tuple" us.toArray 0)).objs.size)) P E { s with heap:=((s.heap.update a (Obj.mapSeq fun _=>(#[]:Array Value))).push (seqObj "tuple" us.toArray 0)).push (seqObj "list" #[] 0) };generalize ((s.heap.update a (Obj.mapSeq fun _=>(#[]:Array Value))).push (seqObj "tuple" us.toArray 0)).objs.size=kS at fk hk3 hne ⊢;generalize ((s.heap.update a (Obj.mapSeq fun _=>(#[]:Array Value))).push (seqObj "tuple" us.toArray 0)).push (seqObj "list" #[] 0)=h3 at I3 ha3 hk3 ⊢;clear I2 I1 oth;unfold ksk_rest;refine wpAny_bind (wpAny_rule ?_);rw[List.forIn_toArray];refine wpAny_bind (j9_ (pins:=pins) (E:=E) (e1:=e1) hne call1 (fun u s4 Qb hq=>?_) xs us [] [] [] H _ 0 r (fun x hx=>hx) I3 (Same.refl H) fa fk ha3 hk3 .nil .nil (by simpa using h64) fun H5 s5 kvs c5 I5 sm5 fa5 fk5 ha5 hk5 lk ⟨ks,rk,tk⟩=>?_)
 ·refine wpAny_bind (wpAny_attempt (wpAny_mono hq (fun k s'' hk=>?_) fun _ _ hF=>hF.elim));exact wpAny_bind (wpAny_mono hk (fun _ s6 h6=>wpAny_pure h6) fun _ _ z=>z)
 rw[List.nil_append] at tk;rw[a2',Nat.zero_add] at lk;refine wpAny_bind (listItems_at hk5 rfl ?_)
 have tail:∀(p:Array Nat) (st:SortSt),Good xs.length p->Up (fun i j=>lexK ((xs.map kf).getD i []) ((xs.map kf).getD j [])) p xs.length->(arrOf st).map (·.2)=(bK' p us).toArray->failedOf st=none->wpAny (model X.prog X.w) B (ksk_tail a false e1 (.ref kS) st) P E s5:=fun p st g up hout hfl=>by
  have gu:Good us.length p:=by rw[<- lx];exact g
  have hz:(bK' p us).length=us.length:=by
   unfold bK';rw[aa',aH'];exact gu.size
  have s1:=Heap.SameBut.update s5.heap kS (Obj.mapSeq fun _=>(#[]:Array Value));have ha6:(s5.heap.update kS (Obj.mapSeq fun _=>(#[]:Array Value))).get? a=some (seqObj "list" #[] e1):=(Heap.get?_update_other _ _ (Ne.symm hne)).trans ha5;unfold ksk_tail;dsimp only;rw[hout];refine wpAny_bind (listUpdate_at hk5 rfl ?_ (by rw[ai',sizeLine_eq];omega) (aD' _));refine wpAny_bind (wpAny_letGo ?_);refine wpAny_bind (seqEpoch_at ha6 rfl ?_);simp only[aR',if_false];refine wpAny_bind (listUpdate_at ha6 rfl ?_ (aD' _) (by rw[ai',hz,sizeLine_eq];omega));rw[hfl];simp only[bne_self_eq_false,aR',if_false]
  have zl:(p.toList.map fun i=>xs.getD i .non).length<=sizeLine:=by
   rw[aa',aH',g.size,sizeLine_eq];omega
  obtain⟨pz,ek⟩:=iP_ (zs:=p.toList.map fun i=>xs.getD i .non) g up rfl;refine wpAny_pure (h _ H5 _ (I5.trackL (t':=s5.toks) (fp:=[a,kS]) (T:=a) (fun b o hb e=>?_) (fun b hb=>?_) (by simp) zl (dg_ r gu) (get?_update_seq ha6 _)) sm5 fa5.1 pz ek)
  ·have n1:b≠a:=fun z=>hb (by simp[z]);have n2:b≠kS:=fun z=>hb (by simp[z]);exact (Heap.get?_update_other _ _ (Ne.symm n1)).trans ((Heap.get?_update_other _ _ (Ne.symm n2)).trans e)
  ·rcases aj'.mp hb with rfl|hb
   ·exact fa5
   ·obtain rfl:b=kS:=by simpa using hb
    exact fk5
 unfold ksk_end;dsimp only;simp only[aR',if_false];by_cases h2:us.toArray.size<2
 ·rw[if_pos h2,if_pos h2];refine wpAny_bind (wpAny_pure ?_);rw[StateT.run_pure];refine wpAny_bind (wpAny_pure (tail (List.range xs.length).toArray _ (Array.Perm.refl _) (fun i j hij hj=>?_) ?_ rfl))
  ·have e:i=j:=by
    simp only[ai'] at h2;omega
   subst e;exact bW_ _
  ·show ((kvs.toArray.zip us.toArray).map fun x:Keyed=>x.2)=_;rw[show xs.length=us.length from lx,cM_];apply Array.ext';simp[List.map_snd_zip,lk]
 ·rw[if_neg h2,if_neg h2]
  have h2':2<=us.length:=by
   simp only[ai'] at h2;omega
  obtain⟨κ,hk,hc⟩:=dD_ (A:=B) (s':=s5) I5 rk tk al (by omega) (fun _ _ e=>e);refine wpAny_bind (wpAny_mono (hk (fun k s'=>k=κ/\s'=s5) ⟨rfl,rfl⟩) (fun k s7 hks=>?_) fun _ _ x=>x.elim);obtain⟨rfl,rfl⟩:=hks;have O:Ord (fun i j=>lexK ((xs.map kf).getD i []) ((xs.map kf).getD j [])):=dv_ _
  refine wpAny_bind (wpAny_mono (kat_run (ks:=kvs) (vs:=us) (G:=fun p s'=>s'=s7/\Good us.length p/\Up (fun i j=>lexK ((xs.map kf).getD i []) ((xs.map kf).getD j [])) p us.length)
   (Q:=fun st' s'=>∃p:Array Nat,arrOf st'=p.map (kas_item (kvs.toArray.zip us.toArray))/\failedOf st'=none/\s'=s7/\Good us.length p/\Up (fun i j=>lexK ((xs.map kf).getD i []) ((xs.map kf).getD j [])) p us.length)
   lk h2' h64 (fun p st' s' _ q1 q2 q3=>⟨p,q1,q2,q3⟩) (Ok.wp (n:=us.length) (fun i j C hi hj=>hc i j C (by omega) (by omega)) (fun p q=>⟨rfl,q⟩) (gw_ O (by omega)))) ?_ fun _ _ x=>x)
  rintro⟨⟨⟩,st'⟩ s' ⟨p,har,hf,hs',g,u⟩;subst hs';rw[<- lx] at g u;exact tail p st' g u (kat_snds lk har) hf
end
end L2
namespace L2
open PySem PySem.Spec PyProof.Rows PySem.W EvS
section
variable{X:Cx}{pins:List (Addr × Obj)}{σ:St}{H:Hp}{s:Shared}
theorem Inv.cellsAre{fvs:List Str}{cl:List (Str × Addr)}{is:List Nat}{gs:List V}(I:Inv X pins σ H s)(hin:∀q∈cl,X.env.cells.lookup q.1=some q.2)(hcl:∀x∈fvs,∃c,cl.lookup x=some c)(hkd:∀x∈fvs,X.env.scope.names.lookup x=some .cell)(hN:is.map (fun i=>X.N[i]?)=fvs.map some)
  (hgs:is.map (fun i=>σ[i]?)=gs.map (fun v=>some (some v))):gs.length=fvs.length/\b6' fvs cl gs s.heap/\∀x c,cl.lookup x=some c->H c=none:=by
 have lk:∀{x c},cl.lookup x=some c->(x,c)∈cl:=fun e=>PySem.mem_of_lookup e;refine⟨?_,⟨fun a b c h1 h2=>I.ok.inj a b c (hin _ (lk h1)) (hin _ (lk h2)),hcl,fun a c h1=>I.cell a c (hin _ (lk h1)),fun j a v h1 h2=>?_⟩,fun x c e=>I.freeC x c (hin _ (lk e))⟩
 ·have a:=congrArg List.length hgs;have b:=congrArg List.length hN;simp only[aa'] at a b;omega
 ·obtain⟨c,hc⟩:=hcl a (ac' h1);have e1:(is.map fun i=>X.N[i]?)[j]? = some (some a):=by rw[hN,an',h1];rfl
  have e2:(is.map fun i=>σ[i]?)[j]? = some (some (some v)):=by rw[hgs,an',h2];rfl
  rw[an'] at e1 e2;obtain⟨i,hi,e1⟩:=aW'.mp e1;rw[hi] at e2;have e2:σ[i]? = some (some v):=Option.some.inj e2;obtain⟨m,_,hl⟩:=I.loc;have kd:=hkd a (ac' h1);obtain⟨u,ru,lo⟩:=hl i a v e1 e2 (.inr (.inl kd));rcases lo with⟨z,_⟩|⟨_,c2,e3,o,e4,e5⟩
  ·have z:X.env.scope.names.lookup a=some .local:=z;rw[kd] at z;cases z
  ·rw[hin _ (lk hc)] at e3;cases e3;exact⟨c,u,hc,ru,o,e4,e5⟩
theorem jP_{B:Around}{k:Nat}{qual:Str}{params:Arguments}{body:PySem.Expr}{scope:Scope}{p:Str}{fvs:List Str}{sp:List V->List V->Hp->VK->XK->Prop}{f c':Addr}{cl:List (Str × Addr)}{is:List Nat}{gs xs:List V}{kf:V->List Key}{H0:Hp}(F:LamOk X.prog X.w X.K X.mg X.base k qual params body scope [p] fvs sp)(hr:Room k B)(hB:B.frames=X.A.frames)
  (hf:H0 f=some (lamH f qual params body scope cl c')) (hc:H0 c'=some (cQ' c' qual)) (hin:∀q∈cl,X.env.cells.lookup q.1=some q.2) (hcl:∀x∈fvs,∃c,cl.lookup x=some c) (hkd:∀x∈fvs,X.env.scope.names.lookup x=some .cell) (hN:is.map (fun i=>X.N[i]?)=fvs.map some) (hgs:is.map (fun i=>σ[i]?)=gs.map (fun v=>some (some v)))
  (hsp:∀H x,Same H0 H->x∈xs->sp [x] gs H (fun v H'=>Same H H'/\∃t,v=.ref t/\H' t=some (.tup ((kf x).map kV))) (fun _ _ _=>False)):KeyOf X σ B (.ref f) H0 kf xs:=by
 intro pins H s x u I sm hx ru;obtain⟨⟨pm,ctv,ef⟩,_⟩:=I.hok f _ (sm _ _ hf);obtain⟨⟨oc,vs',t,ec,d1,d2⟩,_⟩:=I.hok c' _ (sm _ _ hc);obtain⟨hg,C,fc⟩:=I.cellsAre hin hcl hkd hN hgs;have e0:=I.env0;refine wpAny_call (codeAny_mono (F B X.stack s H f c' pm ctv cl [u] [x] gs _ _ hr ⟨hB.trans e0.frames,e0.mod,e0.bs,e0.bsz,e0.funs,e0.frf,e0.hok,e0.bare⟩ ef ⟨c',oc,vs',t,rfl,ec,d1,d2⟩ rfl hg (.cons ru .nil) C fc (hsp H x sm hx)) fun r s' hq=>?_);cases r with
 |error e=>
  obtain⟨a,cls,H',B,a0,dd,rfl,os,bare,un,hok,fl,i,hE⟩:=hq;exact hE.elim
 |ok fl=>
  cases fl with
  |ret u=>exact I.after hq
  |next=>exact False.elim hq
  |brk=>exact False.elim hq
  |cont=>exact False.elim hq
theorem sortedK{f:Addr}{x:Value}{xs:List V}{kf:V->List Key}{sh:List Bool}{Q:VK}{E:Value->Shared->Prop}(I:Inv X pins σ H s)(h64:xs.length<64)(al:cR' (xs.map kf) sh)(call1:KeyOf X σ X.A.in1.in1 (.ref f) H kf xs)
  (hcol:∀R:List Value->Shared->Prop,(∀vs s1,Inv X pins σ H s1->Vals xs vs->R vs s1)->wpAny (model X.prog X.w) X.A.in1 (collect x) R E s)
  (q:∀l zs H',Same H H'->H' l=none->H l=none->zs.Perm xs->zs.map kf=sortKs (xs.map kf)->Q (.ref l) (upd H' l (.lst zs))):wpAny (model X.prog X.w) X.A (call (.builtin "sorted") [x] [(Str.ofString "key",.ref f)]) (EP X pins σ Q) E s:=by
 refine call_function_entry_kw kind_sorted plain_sorted entry_sorted (ksk_s1 _ _) ?_;unfold Builtin.«sorted»;refine wpAny_bind (m:=checkCount "sorted" 1 1 _) (wpAny_pure ?_);refine wpAny_bind (hcol _ fun vs s1 I1 r=>?_);have lv:=r.length;refine wpAny_bind (wpAny_newList ?_ (by rw[sizeLine_eq];omega));have hoL:(s1.heap.push (seqObj "list" vs.toArray 0)).get? s1.heap.objs.size=some (seqObj "list" vs.toArray 0):=Heap.get?_push_size _ rfl;have I2:Inv X pins σ H { s1 with heap:=s1.heap.push (seqObj "list" vs.toArray 0) }:=I1.kept (t':=s1.toks) fun b u e=>Heap.get?_push_of_some _ e;have fa:FpOk X pins H s1.heap.objs.size:=I1.fpOk (ag' _) (I1.hok.fresh (ag' _));have nl:H s1.heap.objs.size=none:=I1.hok.fresh (ag' _);refine wpAny_bind (wpAny_holding (wpAny_call_entry_kw slot_list_sort ⟨_,hoL,rfl⟩ entry_list_sort ?body (ksk_l1 _ _)))
 case body=>
  show wpAny (model X.prog X.w) X.A.in1.in1 (Builtin.«list.sort» ⟨[.ref s1.heap.objs.size],[(Str.ofString "key",.ref f)]⟩) _ _ _;rw[ksk_t1];refine gM_ (s:={ s1 with heap:=s1.heap.push (seqObj "list" vs.toArray 0) }) I2 fa hoL r (by omega) al call1 fun zs H' s' I' sm na pz ek=>?_;exact⟨_,rfl,wpAny_pure ⟨_,rfl,.ref _,_,I',rfl,q _ zs H' sm na nl pz ek⟩⟩
end
def SrcK(K:F__)(H:Hp)(x:V)(xs:List V):Prop:=(∃l,x=.ref l/\SqL K H l xs)∨∃d kvs,x=.ref d/\H d=some (.dK kvs)/\xs=kvs.map fun kv=>kV kv.1
def tSortK(K:F__)(qual:Str)(params:Arguments)(body:PySem.Expr)(scope:Scope)(cl:List (Str × Addr))(is:List Nat)(sp:List V->List V->Hp->VK->XK->Prop)(t tk:TA):TE:=fun σ H Q=>t σ H fun vs H1=>tk σ H1 fun ws H2=>∃x f c' xs kf sh gs,vs=[x]/\ws=[.ref f]/\H2 f=some (lamH f qual params body scope cl c')/\H2 c'=some (cQ' c' qual)/\SrcK K H2 x xs/\xs.length<64/\cR' (xs.map kf) sh /\
 is.map (fun i=>σ[i]?)=gs.map (fun v=>some (some v))/\(∀H x,Same H2 H->x∈xs->sp [x] gs H (fun v H'=>Same H H'/\∃t,v=.ref t/\H' t=some (.tup ((kf x).map kV))) (fun _ _ _=>False)) /\
 ∀l zs H',Same H2 H'->H' l=none->H2 l=none->zs.Perm xs->zs.map kf=sortKs (xs.map kf)->Q (.ref l) (upd H' l (.lst zs))
theorem fg_{X:Cx}{e:PySem.Expr}{t tk:TA}{p pos kp lpos:Pos}{k:Nat}{params:Arguments}{body:PySem.Expr}{scope:Scope}{px:Str}{fvs:List Str}{qual:Str}{sp:List V->List V->Hp->VK->XK->Prop}{cl:List (Str × Addr)}{is:List Nat}(hc:X.calm=true)(hg:Gl X "sorted")(hm:X.mg "sorted"=none)(ha:PA X [e] t)(hkw:PK X [⟨some "key",.Lambda params body scope lpos,kp⟩] tk)
  (F:LamOk X.prog X.w X.K X.mg X.base k qual params body scope [px] fvs sp) (hr:Room (k+2) X.A) (hin:∀q∈cl,X.env.cells.lookup q.1=some q.2) (hcl:∀x∈fvs,∃c,cl.lookup x=some c) (hkd:∀x∈fvs,X.env.scope.names.lookup x=some .cell) (hN:is.map (fun i=>X.N[i]?)=fvs.map some)
  (he:starEach [e] X.env=[(false,eval e X.env)]:=by rfl) (hall:(backToKw pos (keywordEach [⟨some "key",.Lambda params body scope lpos,kp⟩] X.env)).all (·.1.isSome)=true:=by rfl) (hks:(backToKw pos (keywordEach [⟨some "key",.Lambda params body scope lpos,kp⟩] X.env)).filterMap (·.1)=[Str.ofString "key"]:=by rfl)
  (hkn:(backToKw pos (keywordEach [⟨some "key",.Lambda params body scope lpos,kp⟩] X.env)).any (·.1.isNone)=false:=by rfl):PE X (.Call (.Name "sorted" p) [e] [⟨some "key",.Lambda params body scope lpos,kp⟩] pos) (tSortK X.K qual params body scope cl is sp t tk):=by
 intro pins s σ H Q I h;refine wpAny_Call_Name_kw (d5_ I hg hm PyProof.Rows.Boot.«sorted» ?_);have hA:=ha pos pins s σ H _ I h;rw[he] at hA ⊢;refine callWith_builtin_kwB (first:=[]) rfl hkn (evalArgs_kwB hall (thn hA fun us s1 ⟨vs,H1,I1,r1,q1⟩=>?_));refine thn (hkw pos pins s1 σ H1 _ I1 q1) fun ws s2 ⟨zs,H2,I2,rz,x,f,c',xs,kf,sh,gs,ev,ez,hf,hcd,src,h64,al,hgs,hsp,q⟩=>?_;subst ev ez;obtain⟨u,rfl,ru⟩:=Vals.one r1;obtain⟨fv,rfl,rf⟩:=Vals.one rz;cases rf;rw[hks];have hd:X.A.in1.handled=none:=I.ok.hd hc;refine sortedK I2 h64 al (jP_ F hr.in1.in1 rfl hf hcd hin hcl hkd hN hgs hsp) (fun R hR=>?_) q;rcases src with⟨l,rfl,hl⟩|⟨d,kvs,rfl,hd2,rfl⟩
 ·cases ru;exact ff_ I2 hl (by omega) hR
 ·cases ru;exact iE_ hd I2 (.inl hd2) hR
end L2
namespace L2
open PySem PySem.Spec PyProof.Rows
structure FunC (K:F__) (x qual:Str) (st:Stmt) (f c:Addr) (fd:FuncData):Prop where
 ex:∃(oc:Value) (od:Option Addr) (kV doc pm:Value) (an:Option Addr) (ct:Value) (osl:Array (Option Value)),
  fd=PySem.W.fnOf x qual (bc' st) (bb' st) (a5' st) .none kV doc pm an (.ref c) ct/\K.lookup f=some ⟨oc,od,.func fd,osl⟩/\PySem.W.codeIn K (.ref c) qual=true
 kp:PySem.W.keepIn K (.ref f)=true
theorem FunC.fn{K:F__}{x qual:Str}{st:Stmt}{f c:Addr}{fd:FuncData}(F:FunC K x qual st f c fd):Fun K x qual st f fd:=by
 obtain⟨oc,od,kV,doc,pm,an,ct,osl,e,l,h⟩:=F.ex;exact⟨⟨oc,od,kV,doc,pm,an,.ref c,ct,osl,e,l,h⟩,F.kp⟩
theorem FunC.ok{P:Program}{w:World}{K:F__}{mg:Str->Option Value}{base:Heap}{x qual:Str}{st:Stmt}{f c:Addr}{fd:FuncData}{N ps:List Str}{k:Nat}{sp:Sp}(F:FunC K x qual st f c fd)(S:a7' N ps (a5' st))(len:∀vs H Q E,sp vs H Q E->vs.length=ps.length)
  (hbody:∀(A:Around) (outer:List Env) (s:Shared) (H:Hp) (vs:List V) (Q:VK) (E:XK),Room k (A.deeper (envOfC qual (a5' st) s.heap.objs.size f (.ref c)))->sp vs H Q E->
   ∃t,PSs (cxOf CX0 P w K mg base N qual (a5' st) f (.ref c) A outer s H E).nox (bb' st) t/\t { nx:=fun _ H'=>Q .non H',rt:=Q } (start N vs) H):FnOk P w K mg base CX0 (k+1) f fd ps sp:=by
 obtain⟨oc,od,kV,doc,pm,an,ct,osl,rfl,lk,hcd⟩:=F.ex;refine jF_ lk hcd S len fun A outer s H vs Q E hr hsp=>?_;obtain⟨t,h,q⟩:=hbody A outer s H vs Q E hr hsp;exact⟨t,h.nox,q⟩
end L2
namespace Ev
open PySem L2
def NT(H G:Hp):Prop:=∀b o,H b=some o->(∀vs,o≠.tbl vs)->G b=some o
theorem NT.of{H G:Hp}(s:Same H G):NT H G:=fun b o e _=>s b o e
theorem NT.refl(H:Hp):NT H H:=NT.of (Same.refl H)
theorem NT.trans{H G J:Hp}(s:NT H G)(t:NT G J):NT H J:=fun b o e n=>t b o (s b o e n) n
theorem But.nt{T:Addr}{H G:Hp}{vs:Array Value}(b:But T H G)(hT:H T=some (.tbl vs)):NT H G:=fun c o e n=>b c o e (fun z=>by
 rw[z,hT] at e;exact n _ (Option.some.inj e).symm)
theorem NT.tup{H G:Hp}(s:NT H G){a:Addr}{xs:List V}(h:H a=some (.tup xs)):G a=some (.tup xs):=s _ _ h nofun
theorem NT.lst{H G:Hp}(s:NT H G){a:Addr}{xs:List V}(h:H a=some (.lst xs)):G a=some (.lst xs):=s _ _ h nofun
theorem NT.dK{H G:Hp}(s:NT H G){a:Addr}{xs:List (Key × V)}(h:H a=some (.dK xs)):G a=some (.dK xs):=s _ _ h nofun
theorem NT.ins{H G:Hp}(s:NT H G){a C dx:Addr}{fs:List (Str × V)}(h:H a=some (.ins C dx fs)):G a=some (.ins C dx fs):=s _ _ h nofun
section
variable{K:F__}{H G:Hp}{v:V}
theorem a8'.nt{ys:List V}{ks:List (List Key)}(h:a8' K H ys ks)(s:NT H G):a8' K G ys ks:=Paired.mapP h fun y k ⟨a,z,q⟩=>⟨a,z,s.tup q⟩
theorem bs'.nt{C p:Addr}{hs:List (Str × Int)}{ts:List (Str × Str)}{fp:List Addr}(W:bs' K C H p hs ts fp)(s:NT H G):bs' K C G p hs ts fp:=by
 obtain⟨dx,d1,l2,d3,zs,as,rfl,h1,h2,h3,h4,h5,h6,h7⟩:=W.ex;exact⟨dx,d1,l2,d3,zs,as,rfl,s _ _ h1 nofun,s.dK h2,s.lst h3,a8'.nt h4 s,s.dK h5,h6,fun i n a e1 e2=>s.lst (h7 i n a e1 e2)⟩
theorem WyAt.nt{o:Option (List (Str × Str))}(h:WyAt K H v o)(s:NT H G):WyAt K G v o:=by
 cases o with
 |none=>exact h
 |some ws=>
  obtain⟨a,ys,e,ha,t⟩:=h;exact⟨a,ys,e,s.lst ha,a8'.nt t s⟩
theorem ba'.nt{CG CW g p:Addr}{hs:List (Str × Int)}{ts:List (Str × Str)}{qs:List Pc}{fp:List Addr}(h:ba' K CG CW H g p hs ts qs fp)(s:NT H G):ba' K CG CW G g p hs ts qs fp:=by
 obtain⟨dx,dw,dy,vs,fpw,h1,h2,h3,h4,h5,r⟩:=h.ex;exact⟨dx,dw,dy,vs,fpw,s _ _ h1 nofun,h2.nt s,s.dK h3,s.dK h4,Paired.mapP h5 fun v q h=>h.nt s,r⟩
end
theorem iu_{H:Hp}{T:Addr}{qual q':Str}{a a':Arguments}{b b':Expr}{sc sc':Scope}{ps:Pos}{cl:List (Str × Addr)}{σ:St}{Q:VK}(h:bp' H T qual)(e1:q'=qual)(e2:a'=a)(e3:b'=b)(e4:sc'=sc)(q:∀f c' H1,But T H H1->bp' H1 T qual->H1 f=some (lamH f qual a b sc cl c')->H1 c'=some (cQ' c' qual)->Q (.ref f) H1):tLam T q' a' b' sc' ps cl σ H Q:=by
 subst e1 e2 e3 e4;obtain⟨es,h,hes⟩:=h;refine⟨_,h,f6_ es,?_⟩;rcases cD_ ps es with e|⟨e,he,q1⟩
 ·refine .inl ⟨e,fun c' f n1 n2 n3=>?_⟩;have nT1:T≠c':=a6_ h n1;have nT2:T≠f:=a6_ h n2
  have B:But T H (upd (upd (upd H T (.tbl ((bJ' es).toArray++#[rawInt ps.line,rawInt ps.col,.ref c']))) c' (cQ' c' q')) f (lamH f q' a' b' sc' cl c')):=fun b o e n=>by
   rw[a4_ (a6_ e n2),a4_ (a6_ e n1),a4_ n];exact e
  refine q f c' _ B ⟨es++[(ps,c')],?_,fun x hx=>?_⟩ a1_ ?_
  ·rw[a4_ nT2,a4_ nT1,a1_,dQ_];simp
  ·rcases aw'.mp hx with hx|hx
   ·exact B _ _ (hes x hx) (fun z=>by have:=hes x hx;rw[z,h] at this;cases this)
   ·rw[aG'.mp hx];show upd _ f _ c'=_;rw[a4_ n3,a1_]
  ·rw[a4_ n3,a1_]
 ·refine .inr ⟨e.2,q1,fun f hf=>?_⟩;have s:=Same.new (o:=lamH f q' a' b' sc' cl e.2) hf;exact q f e.2 _ (But.of s) ⟨es,s _ _ h,fun x hx=>s _ _ (hes x hx)⟩ a1_ (s _ _ (hes e he))
theorem bx_{H:Hp}{T:Addr}{qual:Str}(h:bp' H T qual):∃vs,H T=some (.tbl vs):=by
 obtain⟨es,e,_⟩:=h;exact⟨_,e⟩
def lamS:Expr->Scope
 |.Lambda _ _ s _=>s
 |_=>a5' sLaw
def lamB:Expr->Expr
 |.Lambda _ b _ _=>b
 |e=>e
def lamA:Expr->Arguments
 |.Lambda a _ _ _=>a
 |_=>bc' sLaw
def kwE:Expr->Expr
 |.Call _ _ (k::_) _=>k.value
 |e=>e
def nthS(l:List Stmt)(i:Nat):Stmt:=l.getD i (.Pass ⟨0,0,0,0⟩)
def forI:Stmt->Expr
 |.For _ i _ _ _=>i
 |_=>.Constant .none 0 ⟨0,0,0,0⟩
def retE:Stmt->Expr
 |.Return (some e) _=>e
 |_=>.Constant .none 0 ⟨0,0,0,0⟩
end Ev
namespace Ev
open PySem L2
theorem nilG{σ:St}{H:Hp}{k:List V->Hp->Prop}(h:k [] H):tNil σ H k:=h
theorem consG{te:TE}{t:TA}{σ:St}{H:Hp}{k:List V->Hp->Prop}(h:te σ H fun x H1=>t σ H1 fun xs H2=>k (x::xs) H2):tCons te t σ H k:=h
abbrev wtN(qs:List Pc)(n:Str):Int:=strOf (qs.map wOf) n
def kN(qs:List Pc)(n:Str):List Key:=[.inl (-(wtN qs n)),.inr n]
def sndK:List Key->Str
 |[_,.inr n]=>n
 |_=>⟨#[]⟩
def hvL(qs:List Pc):List Str:=(sortKs ((qs.map (·.1)).map (kN qs))).map sndK
def kfW(qs:List Pc):V->List Key
 |.str n=>kN qs n
 |_=>[]
theorem dI_{zs:List V}{ns:List Str}(p:zs.Perm (ns.map V.str)):∃ms:List Str,zs=ms.map V.str/\ms.Perm ns:=by
 have all:∀z∈zs,∃n,z=V.str n:=fun z hz=>by
  obtain⟨n,_,e⟩:=ad'.mp (p.mem_iff.mp hz);exact⟨n,e.symm⟩
 have mk:∀l:List V,(∀z∈l,∃n,z=V.str n)->∃ms:List Str,l=ms.map V.str:=fun l=>by
  induction l with
  |nil=>intro _;exact⟨[],rfl⟩
  |cons a r ih=>
   intro h;obtain⟨n,rfl⟩:=h a ah';obtain⟨ms,rfl⟩:=ih fun z hz=>h z (af' _ hz);exact⟨n::ms,rfl⟩
 obtain⟨ms,rfl⟩:=mk zs all;refine⟨ms,rfl,?_⟩;have:=p.map (fun v:V=>match v with | .str n=>n|_=>(⟨#[]⟩:Str));rw[al',al'] at this;simpa [Function.comp_def] using this
theorem kC_{qs:List Pc}{zs:List V}(p:zs.Perm ((qs.map (·.1)).map V.str))(e:zs.map (kfW qs)=sortKs (((qs.map (·.1)).map V.str).map (kfW qs))):zs=(hvL qs).map V.str:=by
 obtain⟨ms,rfl,_⟩:=dI_ p;have e1:(ms.map V.str).map (kfW qs)=ms.map (kN qs):=by rw[al'];rfl
 have e2:((qs.map (·.1)).map V.str).map (kfW qs)=(qs.map (·.1)).map (kN qs):=by
  rw[al'];rfl
 rw[e1,e2] at e
 have em:(ms.map (kN qs)).map sndK=ms:=by
  rw[al'];exact List.map_id' ms
 unfold hvL;rw[<- e,em]
theorem bF_(qs:List Pc):(hvL qs).Perm (qs.map (·.1)):=by
 unfold hvL;have p:=(as_ ((qs.map (·.1)).map (kN qs))).map sndK
 have e:((qs.map (·.1)).map (kN qs)).map sndK=qs.map (·.1):=by
  generalize qs.map (·.1)=ns;rw[al'];exact List.map_id' _
 rw[e] at p;exact p
def hvAt(qs:List Pc)(f:Str->Str)(h:Str):List Str:=(hvL qs).filter fun n=>decide (f n=h)
abbrev qHF:Str:="heaviest_first.<locals>.<lambda>"
def lamW:Expr:=kwE (forI (nthS (bb' sHvF) 1))
abbrev fvW:List Str:=["goods"]
theorem freeW:∀y∈(lamS lamW).names,y.2=.free->y.1∈fvW:=by decide +kernel
theorem scLamW:bM' ["name"] fvW (lamS lamW):=⟨by decide +kernel,rfl,rfl,rfl,by decide +kernel,by decide +kernel,fun x h=>freeW (x,.free) (PySem.mem_of_lookup h) rfl,by decide +kernel⟩
section
variable{P:Program}{w:World}{K:F__}{mg:Str->Option Value}{base:Heap}
def spLamW(K:F__)(CG CW:Addr):List V->List V->Hp->VK->XK->Prop:=fun vs gs H Q _=>∃(g p:Addr) (q:Pc) (hs:List (Str × Int)) (ts:List (Str × Str)) (qs:List Pc) (fp:List Addr),vs=[.str q.1]/\gs=[.ref g]/\ba' K CG CW H g p hs ts qs fp/\(qs.map (·.1)).Nodup/\q∈qs/\0<=q.2.1/\q.2.1<=1000000000/\∀t,H t=none->Q (.ref t) (upd H t (.tup [.int (-q.2.1),.str q.1]))
theorem jA_{CG CW CP:Addr}(T:TxtG K CG)(cW:CalX P w K mg base CG 2 "weight" ["self","piece"] (bE' K CG CW CP)):LamOk P w K mg base 3 qHF (lamA lamW) (lamB lamW) (lamS lamW) ["name"] fvW (spLamW K CG CW):=by
 refine lamOk scLamW (fun pm c' ctv cl us hl=>?_) (fun A outer s H f cd cl vs gs Q E hr h hp=>?_)
 ·match us,hl with
  |[_],_=>rfl
 ·obtain⟨g,p,q,hs,ts,qs,fp,rfl,rfl,G,nd,hq,w0,w1,k⟩:=h;obtain⟨dx,dw,dy,vs,fpw,h1,h2,_⟩:=id G.ex;refine⟨_,aH_ (a0_ (kv_ kr_ (i7_ cW T.cl hr (pv 1) (a0_ (pv 0) a3_))) (a0_ (pv 0) a3_)),?_⟩;have hno:(gflds p dw dy).lookup ("weight":Str)=none:=bg_ _ _ _ (by decide +kernel) (by decide +kernel) (by decide +kernel);refine⟨_,rfl,g,dx,_,rfl,h1,hno,_,rfl,g,p,.str q.1,some q.1,hs,ts,qs,fp,rfl,G,nd,rfl,.inl ⟨q,hq,rfl,?_⟩⟩;exact⟨_,rfl,_,rfl,by show 2<=sizeLine;decide,fun t ht=>k t ht⟩
def clW(L:Addr):List (Str × Addr):=[("goods",L+1)]
theorem cloW{L f:Addr}{cd:Value}:closureFor (lamS lamW) (PyProof.Rows.envOfC "heaviest_first" (a5' sHvF) L f cd)=pure (clW L):=by rfl
theorem celW{L f:Addr}{cd:Value}:∀q∈clW L,(PyProof.Rows.envOfC "heaviest_first" (a5' sHvF) L f cd).cells.lookup q.1=some q.2:=by
 intro q hq;simp only[clW,aj',aV',or_false] at hq;rcases hq with rfl;rfl
theorem lclW{L:Addr}:∀x∈fvW,∃c,(clW L).lookup x=some c:=by
 intro x hx;simp only[fvW,aj',aV',or_false] at hx;rcases hx with rfl;exact⟨_,rfl⟩
theorem lkdW:∀x∈fvW,(a5' sHvF).names.lookup x=some .cell:=by decide +kernel
theorem scHvF:a7' ["goods","placed","found","piece"] ["goods","placed"] (a5' sHvF):=f__
def LsAt(H:Hp)(ns:List Str)(ad:Str->Addr)(g:Str->List Str):Prop:=(∀h∈ns,H (ad h)=some (.lst ((g h).map V.str)))/\∀h∈ns,∀h'∈ns,ad h=ad h'->h=h'
def spHvF(K:F__)(CG CW T:Addr):Sp:=fun vs H Q _=>∃(g p d:Addr) (hs:List (Str × Int)) (ts:List (Str × Str)) (qs:List Pc) (fp:List Addr) (f:Str->Str),vs=[.ref g,.ref d]/\bX' K CG CW H g p d hs ts qs fp f/\(∀q∈qs,0<=q.2.1/\q.2.1<=1000000000)/\bp' H T qHF /\
 ∀d' ad H',But T H H'->bp' H' T qHF->H d'=none->H' d'=some (.dK (mKV (a6' hs) fun h=>.ref (ad h)))->LsAt H' (a6' hs) ad (hvAt qs f)->(∀h∈a6' hs,H (ad h)=none)->Q (.ref d') H'
theorem bp'.putL{H:Hp}{T a:Addr}{q:Str}{xs:List V}{o:HO}(h:bp' H T q)(ha:H a=some (.lst xs)):bp' (upd H a o) T q:=by
 obtain⟨es,e,c⟩:=h;refine⟨es,by rw[a4_ (az_ e ha nofun)];exact e,fun x hx=>?_⟩;rw[a4_ (fun z=>by have:=c x hx;rw[z,ha] at this;cases this)];exact c x hx
theorem dgR{H:Hp}{d:Addr}{ns:List Str}{g:Str->V}{n:Str}(h:H d=some (.dK (mKV ns g)))(m:n∈ns):DGet H d (.str n) (some (g n)):=by
 have:=DGet.k (k:=Sum.inr n) h;rw[dr_ m] at this;exact this
theorem ej_{qs:List Pc}(nd:(qs.map (·.1)).Nodup){q:Pc}(h:q∈qs):wtN qs q.1=q.2.1:=by
 refine fk_ ?_ (ad'.mpr ⟨q,h,rfl⟩);rw[al'];exact nd
set_option maxHeartbeats 3200000 in
theorem ku_{f0 c0 CG CW CP T:Addr}{fd:FuncData}(F:FunC K "heaviest_first" "heaviest_first" sHvF f0 c0 fd)(B:Bi mg)(TG:TxtG K CG)(TW:Txt K mg CW)(hC:PySem.W.CodeHd base c0 T)(hbm:base.BuiltinsAt mg T)(cH:CalM P w K mg base CW 1 "hands" ["self"] (b8' K CW))(cW:CalX P w K mg base CG 2 "weight" ["self","piece"] (bE' K CG CW CP)) :
  FnOk P w K mg base CX0 6 f0 fd ["goods","placed"] (spHvF K CG CW T):=by
 refine F.ok scHvF (fun vs H Q E h=>?_) (fun A outer s H vs Q E hr h=>?_)
 ·obtain⟨g,p,d,hs,ts,qs,fp,f,rfl,_⟩:=h;rfl
 ·obtain⟨g,p,d,hs,ts,qs,fp,f,rfl,Pl,wq,tab,k⟩:=h;have hu:=b3_ hr;have sz:=sizeLine_eq;have hr1:Room 1 _:=hr.mono (by decide);refine' ⟨_,a2_ ?s1 (a2_ ?s2 (a5_ ?s3)),?kk⟩
  case' s1=>refine' aa_ (i:=2) scHvF.nd rfl (Or.inl rfl) (aq_ (aE_ rfl) (by rfl) B.dict PyProof.Rows.Boot.«dict» (a0_ (aS_ ["hand"] 1 [] (an_ (d8_ cH TW.cl hr1 (ar_ (pv 0) rfl))) (fun fp s H=>a8_ (i:=0) (show (["hand"]:List Str).Nodup by decide +kernel) rfl (Or.inl rfl)) (fun fp s H=>aU_) (fun fp s H=>?e1)) a3_))
  case e1=>exact aH_ (a0_ (pv 0) (a0_ (aX_ a3_) a3_))
  case' s2=>refine' aG_ PassesOwn.never rfl (an_ ?l2) (a8_ (i:=3) scHvF.nd rfl (Or.inl rfl)) (a5_ ?b2)
  case l2=>exact fg_ (px:="name") (fvs:=fvW) (cl:=clW s.heap.objs.size) (is:=[0]) (k:=3) rfl (by rfl) B.sorted (a0_ (pv 1) a3_) (h7_ (iB_ (P:=T) (c:=c0) rfl cloW rfl hC hbm) iv_) (jA_ TG cW) hr celW lclW lkdW rfl
  case b2=>exact b7_ (ca_ PySem.F.plainAttrs_list PySem.F.slot_list_append PySem.F.type_list_append b9_ (ac_ hu (pv 2) (ac_ hu (pv 1) (pv 3) (fun _ _=>rfl)) (fun _ _=>rfl)) (a0_ (pv 3) a3_))
  case s3=>exact ab_ (pv 2)
  case' kk=>skip
  have nd:=Pl.Gd.nnd;have n8:(a6' hs).length<=8:=by have:=Pl.Gd.nlen;have:=Pl.Gd.h8;omega
  obtain⟨dx,dw,dy,vs,fpw,h1,h2,h3,h4,h5,m1,m2,m3,m4,m5⟩:=id Pl.G.ex;obtain⟨dxw,d1,l2,d3,zs0,as,ef,w1,_⟩:=id h2.ex;have hnw:(flds d1 l2 d3).lookup ("hands":Str)=none:=aT_ _ _ _ (by decide +kernel) (by decide +kernel) (by decide +kernel);refine⟨_,rfl,g,CG,dx,_,_,rfl,h1,TG.cl,TG.nW,b8_ _ _ _,p,dxw,_,rfl,w1,hnw,p,hs,ts,fpw,rfl,h2,fun lh nh=>?_⟩;obtain⟨s1,e1⟩:=nw__ (o:=.lst ((a6' hs).map V.str)) nh;generalize upd H lh (.lst ((a6' hs).map V.str))=H1 at s1 e1 ⊢;refine⟨lh,rfl,⟨_,.of e1⟩,fun D hD=>?_⟩;refine aZ_ (own:=1) (fv:=[]) (xs:=(a6' hs).map V.str) rfl gok1 (fun i out H'=>∃ad:Str->Addr,Same H1 H'/\H' D=some (.lst out)/\bd' K H' out (mKV ((a6' hs).take i) fun h=>.ref (ad h))/\LsAt H' ((a6' hs).take i) ad (fun _=>[])/\∀h∈(a6' hs).take i,H1 (ad h)=none/\ad h≠D) ⟨fun _=>D,Same.new hD,a1_,.nil,⟨by simp,by simp⟩,by simp⟩ (fun i out H' _ ⟨_,sm,_⟩=>.of (sm _ _ e1)) (fun out H2 ⟨ad,s2,hD2,pa,ls,fr⟩=>?_) (fun i x out H' hx ⟨ad,sm,hd,pa,ls,fr⟩=>?_);rotate_left
  ·obtain⟨n,hn,rfl⟩:=ai_ hx;have nn:n∉(a6' hs).take i:=bP_ nd hn;refine⟨_,rfl,rfl,fun Nx hN=>yesT ?_⟩;refine⟨_,rfl,by show 0<=sizeLine;decide,fun l nl=>?_⟩;obtain⟨s3,e3⟩:=nw__ (o:=.lst []) nl;generalize upd H' l (.lst [])=H3 at s3 e3 ⊢;refine⟨by show 2<=sizeLine;decide,fun t nt=>?_⟩;obtain⟨s4,e4⟩:=nw__ (o:=.tup [.str n,.ref l]) nt;generalize upd H3 t (.tup [.str n,.ref l])=H4 at s4 e4 ⊢;have s34:=s3.trans s4;have hD4:=s34 _ _ hd;have lD:l≠D:=fun z=>by rw[z,hd] at nl;cases nl
   have adl:∀h∈(a6' hs).take i,ad h≠l:=fun h hh z=>by
    have:=ls.1 h hh;rw[z,nl] at this;cases this
   have lo:=Paired.length pa;rw[ax_,ak'] at lo
   have pD:∀{b:Addr} {zs:List V},H4 b=some (.tup zs)->b≠D:=fun hb z=>by
    rw[z,hD4] at hb;cases hb
   have ne:∀h∈(a6' hs).take i,h≠n:=fun h hh z=>nn (z▸hh);refine⟨out,hD4,by omega,hN (out++[.ref t]) _ ⟨fun m=>if m=n then l else ad m,am_ (sm.trans s34) hD,a1_,?_,⟨fun h hh=>?_,fun h hh h' hh' z=>?_⟩,fun h hh=>?_⟩⟩
   ·have e:mKV ((a6' hs).take (i+1)) (fun h=>.ref (if h=n then l else ad h))=mKV ((a6' hs).take i) (fun h=>.ref (ad h))++[(Sum.inr n,.ref l)]:=by
     rw[ap_ hn];unfold mKV;rw[am',ao',a1'];dsimp only;rw[if_pos rfl];congr 1;exact az' fun m hm=>by rw[if_neg (ne m hm)]
    rw[e];exact av_ (Paired.mapP pa fun y kv ⟨b,z,hb⟩=>⟨b,z,by rw[a4_ (pD (s34 _ _ hb))];exact s34 _ _ hb⟩) (.cons ⟨t,rfl,by rw[a4_ (pD e4)];exact e4⟩ .nil)
   ·rw[ap_ hn] at hh;rcases aw'.mp hh with hh|hh
    ·dsimp only;rw[if_neg (ne h hh),a4_ (fr h hh).2];exact s34 _ _ (ls.1 h hh)
    ·obtain rfl:h=n:=by simpa using hh
     dsimp only;rw[if_pos rfl,a4_ lD];exact s4 _ _ e3
   ·rw[ap_ hn] at hh hh';dsimp only at z;rcases aw'.mp hh with a1|a1<;>rcases aw'.mp hh' with a2|a2
    ·rw[if_neg (ne h a1),if_neg (ne h' a2)] at z;exact ls.2 h a1 h' a2 z
    ·have a2:h'=n:=by simpa using a2
     rw[if_neg (ne h a1),if_pos a2] at z;exact absurd z (adl h a1)
    ·have a1:h=n:=by simpa using a1
     rw[if_neg (ne h' a2),if_pos a1] at z;exact absurd z.symm (adl h' a2)
    ·rw[show h=n by simpa using a1,show h'=n by simpa using a2]
   ·rw[ap_ hn] at hh;dsimp only;rcases aw'.mp hh with hh|hh
    ·rw[if_neg (ne h hh)];exact fr h hh
    ·obtain rfl:h=n:=by simpa using hh
     rw[if_pos rfl];exact⟨sm.free nl,lD⟩
  rw[aa',ap'] at pa ls fr;refine⟨D,out,_,rfl,hD2,pa,by rw[ax_];omega,fun df ndf=>?_⟩
  have ndk:((mKV (a6' hs) fun h=>V.ref (ad h)).map (·.1)).Nodup:=by
   rw[bH_,ay',aF'];exact nd.imp fun n e=>n (Sum.inr.inj e)
  rw[aO_ ndk];obtain⟨s3,e3⟩:=nw__ (o:=.dK (mKV (a6' hs) fun h=>V.ref (ad h))) ndf;refine setG ?_;dsimp only;generalize upd H2 df (.dK (mKV (a6' hs) fun h=>V.ref (ad h)))=H3 at s3 e3 ⊢;have s03:=(s1.trans s2).trans s3;have ndf0:H df=none:=(s1.trans s2).free ndf;have fr0:∀h∈a6' hs,H (ad h)=none:=fun h hh=>s1.free (fr h hh).1;have ls3:∀h∈a6' hs,H3 (ad h)=some (.lst []):=fun h hh=>s3 _ _ (ls.1 h hh);have inj:=ls.2;clear s1 s2 s3 e1 pa ls fr hD2 nh hD ndf;refine⟨_,rfl,nilG (consG ?_)⟩;refine iu_ (tab.same s03) rfl rfl rfl rfl fun fl c' H4 b4 tab4 hfl hc'=>?_;obtain⟨tv,hT⟩:=bx_ tab
  have neT:∀{b:Addr} {o:HO},H3 b=some o->(∀vs,o≠.tbl vs)->b≠T:=fun {b o} e n z=>by
   rw[z,s03 _ _ hT] at e;exact n _ (Option.some.inj e).symm
  have nt4:NT H H4:=fun b o e n=>b4 _ _ (s03 _ _ e) (neT (s03 _ _ e) n);have ls4:∀h∈a6' hs,H4 (ad h)=some (.lst []):=fun h hh=>b4 _ _ (ls3 h hh) (neT (ls3 h hh) nofun);have e4:=b4 _ _ e3 (neT e3 nofun);have b04:But T H H4:=fun b o e n=>b4 _ _ (s03 _ _ e) n;refine⟨.ref d,fl,c',(qs.map (·.1)).map V.str,kfW qs,[false,true],[.ref g],rfl,rfl,hfl,hc',.inr ⟨d,_,rfl,nt4.dK Pl.hd,?_⟩,by rw[aa',aa'];exact Pl.h64,⟨by decide,fun k hk=>?_⟩,rfl,fun H' x sm hx=>?_,fun l zs H5 s5 nl nl4 pz ek=>?_⟩
  ·show _=((qs.map (·.1)).map _).map _;generalize qs.map (·.1)=ns';rw[al'];rfl
  ·obtain⟨v,hv,rfl⟩:=ad'.mp hk;obtain⟨n,_,rfl⟩:=ad'.mp hv;rfl
  ·obtain⟨n,hn,rfl⟩:=ad'.mp hx;obtain⟨q,hq,rfl⟩:=ad'.mp hn;refine⟨g,p,q,hs,ts,qs,fp,rfl,rfl,(Pl.G.nt nt4).same sm,Pl.nd,hq,(wq q hq).1,(wq q hq).2,fun t nt=>⟨Same.new nt,t,rfl,?_⟩⟩;rw[a1_];show _=some (HO.tup [.int (-(wtN qs q.1)),.str q.1]);rw[ej_ Pl.nd hq]
  rw[kC_ pz ek];have hl:upd H5 l (.lst ((hvL qs).map V.str)) l=some (.lst ((hvL qs).map V.str)):=a1_;have s6:Same H4 (upd H5 l (.lst ((hvL qs).map V.str))):=s5.trans (Same.new nl)
  have lne:∀h∈a6' hs,ad h≠l:=fun h hh z=>by
   have:=ls4 h hh;rw[z,nl4] at this;cases this
  generalize upd H5 l (.lst ((hvL qs).map V.str))=H6 at hl s6 ⊢
  have len64:(hvL qs).length<64:=by
   rw[(bF_ qs).length_eq,aa'];exact Pl.h64
  have dT:d≠T:=fun z=>by
   have:=Pl.hd;rw[z,hT] at this;cases this
  refine⟨l,rfl,⟨_,.of hl⟩,aw_ (K:=K) (a:=l) (xs:=(hvL qs).map V.str) (fun i σ H'=>∃v3:Option V,σ=[some (.ref g),some (.ref d),some (.ref df),v3]/\But T H H'/\bp' H' T qHF/\H' df=some (.dK (mKV (a6' hs) fun h=>V.ref (ad h)))/\H' l=some (.lst ((hvL qs).map V.str))/\LsAt H' (a6' hs) ad (fun h=>((hvL qs).take i).filter fun n=>decide (f n=h))) ⟨none,rfl,fun b o e n=>s6 _ _ (b04 b o e n),tab4.same s6,s6 _ _ e4,hl,fun h hh=>s6 _ _ (ls4 h hh),inj⟩ (fun i σ H' _ ⟨_,_,_,_,_,z,_⟩=>.of z) ?_ ?_⟩
  ·rintro i x σ H' hx ⟨v3,rfl,bT,tab',hdf,hl',ls⟩;obtain⟨n,hn,rfl⟩:=ai_ hx;have nm:n∈qs.map (·.1):=(bF_ qs).mem_iff.mp (ac' hn);have fm:f n∈a6' hs:=(al_ hs).mem_iff.mpr (Pl.at_ n nm);have hd':=bT _ _ Pl.hd dT;have la:=ls.1 (f n) fm;refine setG ?_;dsimp only;refine⟨_,rfl,_,rfl,_,rfl,d,_,rfl,dgR hd' nm,df,_,rfl,dgR hdf fm,.inl ⟨rfl,_,.of la⟩,_,rfl,ad (f n),_,_,rfl,rfl,la,?_,?_⟩
   ·rw[aa'];have:=aO' (fun n'=>decide (f n'=f n)) ((hvL qs).take i);rw[ak'] at this;dsimp only;omega
   refine⟨_,rfl,fun b o e ne=>?_,bp'.putL tab' la,?_,?_,fun h hh=>?_,inj⟩
   ·rw[a4_ (a6_ e (fr0 _ fm))];exact bT b o e ne
   ·rw[a4_ (az_ hdf la nofun)];exact hdf
   ·rw[a4_ (lne _ fm).symm];exact hl'
   ·by_cases z:h=f n
    ·subst z;dsimp only;rw[a1_,ap_ hn,aT',List.filter_cons_of_pos (by simp),List.filter_nil,am'];rfl
    ·dsimp only;rw[a4_ (fun y=>z (inj h hh _ fm y)),ap_ hn,aT',List.filter_cons_of_neg (by simpa using fun y=>z y.symm),List.filter_nil,aA'];exact ls.1 h hh
  ·rintro σ H' ⟨v3,rfl,bT,tab',hdf,hl',ls⟩;rw[aa',ap'] at ls;exact⟨_,rfl,k df ad H' bT tab' ndf0 hdf ls fr0⟩
end
end Ev
namespace Ev
open PySem L2
abbrev sSInit:Stmt:=bj' dg' 0
abbrev sLead:Stmt:=bj' dg' 1
abbrev sJoint:Stmt:=bj' dg' 2
abbrev ce':Stmt:=bj' dg' 3
def sflds(g dl dv dp:Addr):List (Str × V):=putF "pieces_by_hand" (.ref dp) (putF "level_by_hand" (.ref dv) (putF "load_by_hand" (.ref dl) (putF "wares" (.ref g) [])))
theorem sf_g(g dl dv dp:Addr):(sflds g dl dv dp).lookup ("wares":Str)=some (.ref g):=by
 unfold sflds;rw[a9_,a9_,a9_,a9_,if_neg (by decide +kernel),if_neg (by decide +kernel),if_neg (by decide +kernel),if_pos rfl]
theorem sf_l(g dl dv dp:Addr):(sflds g dl dv dp).lookup ("load_by_hand":Str)=some (.ref dl):=by
 unfold sflds;rw[a9_,a9_,a9_,if_neg (by decide +kernel),if_neg (by decide +kernel),if_pos rfl]
theorem sf_v(g dl dv dp:Addr):(sflds g dl dv dp).lookup ("level_by_hand":Str)=some (.ref dv):=by
 unfold sflds;rw[a9_,a9_,if_neg (by decide +kernel),if_pos rfl]
theorem sf_p(g dl dv dp:Addr):(sflds g dl dv dp).lookup ("pieces_by_hand":Str)=some (.ref dp):=by
 unfold sflds;rw[a9_,if_pos rfl]
theorem ko_(g dl dv dp:Addr){m:Str}(h1:¬m="wares")(h2:¬m="load_by_hand")(h3:¬m="level_by_hand")(h4:¬m="pieces_by_hand"):(sflds g dl dv dp).lookup m=none:=by
 unfold sflds;rw[a9_,a9_,a9_,a9_,if_neg h4,if_neg h3,if_neg h2,if_neg h1];rfl
structure TxtS (K:F__) (CS:Addr):Prop where
 cl:Cls K CS
 nW:bt' K CS "wares"
 nL:bt' K CS "load_by_hand"
 nV:bt' K CS "level_by_hand"
 nP:bt' K CS "pieces_by_hand"
structure Wd (hs:List (Str × Int)) (ts:List (Str × Str)) (qs:List Pc) (f:Str->Str):Prop where
 Gd:Good hs ts
 nd:(qs.map (·.1)).Nodup
 h64:qs.length<64
 at_:∀n∈qs.map (·.1),f n∈hs.map (·.1)
 wq:∀q∈qs,0<=q.2.1/\q.2.1<=1000000000
structure bl' (K:F__) (CS CG CW:Addr) (H:Hp) (v g p:Addr) (hs:List (Str × Int)) (ts:List (Str × Str)) (qs:List Pc) (fp:List Addr) (f:Str->Str):Prop where
 ex:∃(dx dl dv dp:Addr) (ad:Str->Addr),H v=some (.ins CS dx (sflds g dl dv dp))/\ba' K CG CW H g p hs ts qs fp/\H dl=some (.dK (ldV hs qs f))/\H dv=some (.dK (mKV (a6' hs) fun h=>.int (lvF hs qs f h)))/\H dp=some (.dK (mKV (a6' hs) fun h=>.ref (ad h)))/\∀h∈a6' hs,H (ad h)=some (.lst ((hvAt qs f h).map V.str))
theorem bl'.nt{K:F__}{CS CG CW:Addr}{H G:Hp}{v g p:Addr}{hs:List (Str × Int)}{ts:List (Str × Str)}{qs:List Pc}{fp:List Addr}{f:Str->Str}(S:bl' K CS CG CW H v g p hs ts qs fp f)(s:NT H G):bl' K CS CG CW G v g p hs ts qs fp f:=by
 obtain⟨dx,dl,dv,dp,ad,h1,h2,h3,h4,h5,h6⟩:=S.ex;exact⟨dx,dl,dv,dp,ad,s.ins h1,h2.nt s,s.dK h3,s.dK h4,s.dK h5,fun h hh=>s.lst (h6 h hh)⟩
theorem bl'.same{K:F__}{CS CG CW:Addr}{H G:Hp}{v g p:Addr}{hs:List (Str × Int)}{ts:List (Str × Str)}{qs:List Pc}{fp:List Addr}{f:Str->Str}(S:bl' K CS CG CW H v g p hs ts qs fp f)(s:Same H G):bl' K CS CG CW G v g p hs ts qs fp f:=S.nt (NT.of s)
abbrev lo(qs:List Pc)(f:Str->Str)(h:Str):Int:=ld f (qs.map wOf) h
def bC'(hs:List (Str × Int))(qs:List Pc)(f:Str->Str)(a b:Str):Int:=lo qs f a * strOf hs b - lo qs f b * strOf hs a
def bv'(hs:List (Str × Int))(a b:Str):Int:=strOf hs a+strOf hs b
section
variable{P:Program}{w:World}{K:F__}{mg:Str->Option Value}{base:Heap}
theorem scSInit:a7' ["self","goods","placed"] ["self","goods","placed"] (a5' sSInit):=f__
def spSInit(K:F__)(CS CG CW T:Addr):Sp:=fun vs H Q _=>∃(v dx g p d:Addr) (hs:List (Str × Int)) (ts:List (Str × Str)) (qs:List Pc) (fp:List Addr) (f:Str->Str),vs=[.ref v,.ref g,.ref d]/\H v=some (.ins CS dx [])/\v∉fp/\bX' K CG CW H g p d hs ts qs fp f/\Wd hs ts qs f/\bp' H T qHF /\
 ∀H',(∀b o,H b=some o->b≠v->b≠T->H' b=some o)->bp' H' T qHF->bl' K CS CG CW H' v g p hs ts qs fp f->Q .non H'
set_option maxHeartbeats 1600000 in
theorem hJ_{f0 CS CG CW T:Addr}{fd:FuncData}(F:Fun K "__init__" "Sight.__init__" sSInit f0 fd)(TS:TxtS K CS)(cLA:Cal P w K mg base 3 "loads_at" ["goods","placed"] (b7' K CG CW))(cLv:Cal P w K mg base 4 "levels_at" ["goods","placed"] (dk' K CG CW))(cHF:Cal P w K mg base 6 "heaviest_first" ["goods","placed"] (spHvF K CG CW T)) :
  FnOk P w K mg base CX0 7 f0 fd ["self","goods","placed"] (spSInit K CS CG CW T):=by
 refine F.ok scSInit (fun vs H Q E h=>?_) (fun cdv A outer s H vs Q E hr h=>?_)
 ·obtain⟨v,dx,g,p,d,hs,ts,qs,fp,f,rfl,_⟩:=h;rfl
 ·obtain⟨v,dx,g,p,d,hs,ts,qs,fp,f,rfl,hv,vfp,Pl,W,tab,k⟩:=h;have hr3:Room 3 _:=hr.mono (by decide);have hr4:Room 4 _:=hr.mono (by decide);refine' ⟨_,a2_ ?s1 (a2_ ?s2 (a2_ ?s3 (a5_ ?s4))),?kk⟩
  case s1=>exact bJ_ (pv 0) (pv 1) rfl
  case s2=>exact bJ_ (pv 0) (ah_ cLA hr3 (a0_ (pv 1) (a0_ (pv 2) a3_))) rfl
  case s3=>exact bJ_ (pv 0) (ah_ cLv hr4 (a0_ (pv 1) (a0_ (pv 2) a3_))) rfl
  case s4=>exact bJ_ (pv 0) (ah_ cHF hr (a0_ (pv 1) (a0_ (pv 2) a3_))) rfl
  case' kk=>skip
  have dv:d≠v:=az_ Pl.hd hv nofun;have keepP:∀{G:Hp},(∀b o,H b=some o->b≠v->G b=some o)->bX' K CG CW G g p d hs ts qs fp f:=fun {G} up=>⟨Pl.G.keep (fun b hb o e=>up b o e (fun z=>vfp (z▸hb))) (fun b xs e=>up b _ e (az_ e hv nofun)),Pl.Gd,Pl.dfp,up _ _ Pl.hd dv,Pl.at_,Pl.nd,Pl.h64⟩;refine⟨_,rfl,_,rfl,v,CS,dx,_,rfl,hv,TS.cl,TS.nW,by show 0<1000;decide,?_⟩;have up1:∀b o,H b=some o->b≠v->upd H v (.ins CS dx (putF "wares" (.ref g) [])) b=some o:=fun b o e n=>by rw[a4_ n];exact e
  have hv1:upd H v (.ins CS dx (putF "wares" (.ref g) [])) v=some (.ins CS dx (putF "wares" (.ref g) [])):=a1_;have fr1:∀{b},upd H v (.ins CS dx (putF "wares" (.ref g) [])) b=none->b≠v:=fun {b} e z=>by rw[z,a1_] at e;cases e
  generalize upd H v (.ins CS dx (putF "wares" (.ref g) []))=H1 at up1 hv1 fr1 ⊢;refine⟨_,rfl,_,rfl,g,p,d,hs,ts,qs,fp,f,rfl,keepP up1,fun dl H2 s2 nl hl=>?_⟩;have hv2:=s2 _ _ hv1;have lv:dl≠v:=fr1 nl;refine⟨_,rfl,v,CS,dx,_,rfl,hv2,TS.cl,TS.nL,by show 1<1000;decide,?_⟩;have up3:∀b o,H b=some o->b≠v->upd H2 v (.ins CS dx (putF "load_by_hand" (.ref dl) (putF "wares" (.ref g) []))) b=some o:=fun b o e n=>by rw[a4_ n];exact s2 _ _ (up1 b o e n)
  have hv3:upd H2 v (.ins CS dx (putF "load_by_hand" (.ref dl) (putF "wares" (.ref g) []))) v=some (.ins CS dx (putF "load_by_hand" (.ref dl) (putF "wares" (.ref g) []))):=a1_;have fr3:∀{b},upd H2 v (.ins CS dx (putF "load_by_hand" (.ref dl) (putF "wares" (.ref g) []))) b=none->b≠v:=fun {b} e z=>by rw[z,a1_] at e;cases e
  have hl3:upd H2 v (.ins CS dx (putF "load_by_hand" (.ref dl) (putF "wares" (.ref g) []))) dl=some (.dK (ldV hs qs f)):=by rw[a4_ lv];exact hl
  generalize upd H2 v (.ins CS dx (putF "load_by_hand" (.ref dl) (putF "wares" (.ref g) [])))=H3 at up3 hv3 fr3 hl3 ⊢;refine⟨_,rfl,_,rfl,g,p,d,hs,ts,qs,fp,f,rfl,keepP up3,W.wq,fun de H4 s4 ne he=>?_⟩;have hv4:=s4 _ _ hv3;have ev:de≠v:=fr3 ne;refine⟨_,rfl,v,CS,dx,_,rfl,hv4,TS.cl,TS.nV,by show 2<1000;decide,?_⟩;have up5:∀b o,H b=some o->b≠v->upd H4 v (.ins CS dx (putF "level_by_hand" (.ref de) (putF "load_by_hand" (.ref dl) (putF "wares" (.ref g) [])))) b=some o:=fun b o e n=>by rw[a4_ n];exact s4 _ _ (up3 b o e n)
  have hv5:upd H4 v (.ins CS dx (putF "level_by_hand" (.ref de) (putF "load_by_hand" (.ref dl) (putF "wares" (.ref g) [])))) v=some (.ins CS dx (putF "level_by_hand" (.ref de) (putF "load_by_hand" (.ref dl) (putF "wares" (.ref g) [])))):=a1_;have fr5:∀{b},upd H4 v (.ins CS dx (putF "level_by_hand" (.ref de) (putF "load_by_hand" (.ref dl) (putF "wares" (.ref g) [])))) b=none->b≠v:=fun {b} e z=>by rw[z,a1_] at e;cases e
  have hl5:upd H4 v (.ins CS dx (putF "level_by_hand" (.ref de) (putF "load_by_hand" (.ref dl) (putF "wares" (.ref g) [])))) dl=some (.dK (ldV hs qs f)):=by rw[a4_ lv];exact s4 _ _ hl3
  have he5:upd H4 v (.ins CS dx (putF "level_by_hand" (.ref de) (putF "load_by_hand" (.ref dl) (putF "wares" (.ref g) [])))) de=some (.dK (mKV (a6' hs) fun h=>.int (lvF hs qs f h))):=by rw[a4_ ev];exact he
  generalize upd H4 v (.ins CS dx (putF "level_by_hand" (.ref de) (putF "load_by_hand" (.ref dl) (putF "wares" (.ref g) []))))=H5 at up5 hv5 fr5 hl5 he5 ⊢;obtain⟨es,hT,hcs⟩:=id tab;have Tv:T≠v:=az_ hT hv nofun;have tab5:bp' H5 T qHF:=⟨es,up5 _ _ hT Tv,fun e he=>up5 _ _ (hcs e he) (fun z=>by have:=hcs e he;rw[z,hv] at this;cases this)⟩;have Pl5:=keepP up5;refine⟨_,rfl,_,rfl,g,p,d,hs,ts,qs,fp,f,rfl,Pl5,W.wq,tab5,fun dp ad H6 b6 tab6 np hp ls fra=>?_⟩;have nt6:NT H5 H6:=b6.nt (up5 _ _ hT Tv);have hv6:=nt6.ins hv5;have pv':dp≠v:=fr5 np;have av:∀h∈a6' hs,ad h≠v:=fun h hh=>fr5 (fra h hh);refine⟨_,rfl,v,CS,dx,_,rfl,hv6,TS.cl,TS.nP,by show 3<1000;decide,?_⟩;refine k _ (fun b o e n1 n2=>?_) ?_ ⟨dx,dl,de,dp,ad,a1_,(Pl5.G.nt nt6).keep (fun b hb o e=>?_) (fun b xs e=>?_),?_,?_,?_,fun h hh=>?_⟩
  ·rw[a4_ n1];exact b6 _ _ (up5 b o e n1) n2
  ·obtain⟨es,e1,e2⟩:=tab6;exact⟨es,by rw[a4_ (az_ e1 hv6 nofun)];exact e1,fun e he=>by rw[a4_ (fun z=>by have:=e2 e he;rw[z,hv6] at this;cases this)];exact e2 e he⟩
  ·rw[a4_ (fun z:b=v=>vfp (z▸hb))];exact e
  ·rw[a4_ (az_ e hv6 nofun)];exact e
  ·rw[a4_ lv];exact nt6.dK hl5
  ·rw[a4_ ev];exact nt6.dK he5
  ·rw[a4_ pv'];exact hp
  ·rw[a4_ (av h hh)];exact ls.1 h hh
theorem scLead:a7' ["self","one","other","web"] ["self","one","other"] (a5' sLead):=f__
def spLead(K:F__)(CS CG CW:Addr):Sp:=fun vs H Q _=>∃(v g p:Addr) (a b:Str) (hs:List (Str × Int)) (ts:List (Str × Str)) (qs:List Pc) (fp:List Addr) (f:Str->Str),vs=[.ref v,.str a,.str b]/\bl' K CS CG CW H v g p hs ts qs fp f/\Wd hs ts qs f/\a∈a6' hs/\b∈a6' hs/\Q (.int (bC' hs qs f a b)) H
theorem j8_{f0 CS CG CW:Addr}{fd:FuncData}(F:Fun K "lead" "Sight.lead" sLead f0 fd)(TS:TxtS K CS)(TG:TxtG K CG)(TW:Txt K mg CW)(cS:CalM P w K mg base CW 2 "strength" ["self","hand"] (by' K CW)):FnOk P w K mg base CX0 3 f0 fd ["self","one","other"] (spLead K CS CG CW):=by
 refine F.ok scLead (fun vs H Q E h=>?_) (fun cdv A outer s H vs Q E hr h=>?_)
 ·obtain⟨v,g,p,a,b,hs,ts,qs,fp,f,rfl,_⟩:=h;rfl
 ·obtain⟨v,g,p,a,b,hs,ts,qs,fp,f,rfl,S,W,ha,hb,k⟩:=h;have hu:=b3_ hr;refine' ⟨_,a2_ ?s1 (a5_ ?s2),?kk⟩
  case s1=>exact aa_ (i:=3) scLead.nd rfl (Or.inl rfl) (ar_ (ar_ (pv 0) rfl) rfl)
  case s2=>exact ab_ (aj_ fr_ (aj_ ba_ (ac_ hu (ar_ (pv 0) rfl) (pv 1) (fun _ _=>rfl)) (bh_ cS TW.cl hr (pv 3) (a0_ (pv 2) a3_))) (aj_ ba_ (ac_ hu (ar_ (pv 0) rfl) (pv 2) (fun _ _=>rfl)) (bh_ cS TW.cl hr (pv 3) (a0_ (pv 1) a3_))))
  case' kk=>skip
  obtain⟨dx,dl,dv,dp,ad,h1,G,h3,h4,h5,h6⟩:=S.ex;obtain⟨dxg,dw,dy,vs,fpw,g1,g2,_⟩:=id G.ex;obtain⟨dxw,d1,l2,d3,zs0,as,ef,w1,_⟩:=id g2.ex;have hnw:(flds d1 l2 d3).lookup ("strength":Str)=none:=aT_ _ _ _ (by decide +kernel) (by decide +kernel) (by decide +kernel);have la:=i4_ W.wq W.h64 f a;have lb:=i4_ W.wq W.h64 f b;refine⟨_,rfl,v,CS,dx,_,_,rfl,h1,TS.cl,TS.nW,sf_g _ _ _ _,g,CG,dxg,_,_,rfl,g1,TG.cl,TG.nW,b8_ _ _ _,?_⟩;refine setG ?_;dsimp only;refine⟨_,rfl,v,CS,dx,_,_,rfl,h1,TS.cl,TS.nL,sf_l _ _ _ _,_,rfl,dl,_,rfl,dgR h3 ha,_,rfl,p,dxw,_,rfl,w1,hnw,_,rfl,p,b,strOf hs b,hs,ts,fpw,rfl,g2,W.Gd.hnd,b6_ ((al_ hs).mem_iff.mp hb),?_⟩;refine⟨_,_,rfl,rfl,.inl ⟨by omega,by omega⟩,?_⟩;refine⟨_,rfl,v,CS,dx,_,_,rfl,h1,TS.cl,TS.nL,sf_l _ _ _ _,_,rfl,dl,_,rfl,dgR h3 hb,_,rfl,p,dxw,_,rfl,w1,hnw,_,rfl,p,a,strOf hs a,hs,ts,fpw,rfl,g2,W.Gd.hnd,b6_ ((al_ hs).mem_iff.mp ha),?_⟩;exact⟨_,_,rfl,rfl,.inl ⟨by omega,by omega⟩,_,_,rfl,rfl,k⟩
theorem scJoint:a7' ["self","one","other"] ["self","one","other"] (a5' sJoint):=f__
def spJoint(K:F__)(CS CG CW:Addr):Sp:=fun vs H Q _=>∃(v g p:Addr) (a b:Str) (hs:List (Str × Int)) (ts:List (Str × Str)) (qs:List Pc) (fp:List Addr) (f:Str->Str),vs=[.ref v,.str a,.str b]/\bl' K CS CG CW H v g p hs ts qs fp f/\Wd hs ts qs f/\a∈a6' hs/\b∈a6' hs/\Q (.int (bv' hs a b)) H
theorem ik_{f0 CS CG CW:Addr}{fd:FuncData}(F:Fun K "joint_strength" "Sight.joint_strength" sJoint f0 fd)(TS:TxtS K CS)(TG:TxtG K CG)(TW:Txt K mg CW)(cS:CalM P w K mg base CW 2 "strength" ["self","hand"] (by' K CW)):FnOk P w K mg base CX0 3 f0 fd ["self","one","other"] (spJoint K CS CG CW):=by
 refine F.ok scJoint (fun vs H Q E h=>?_) (fun cdv A outer s H vs Q E hr h=>?_)
 ·obtain⟨v,g,p,a,b,hs,ts,qs,fp,f,rfl,_⟩:=h;rfl
 ·obtain⟨v,g,p,a,b,hs,ts,qs,fp,f,rfl,S,W,ha,hb,k⟩:=h;refine' ⟨_,a5_ ?s2,?kk⟩
  case s2=>exact ab_ (aj_ aR_ (bh_ cS TW.cl hr (ar_ (ar_ (pv 0) rfl) rfl) (a0_ (pv 1) a3_)) (bh_ cS TW.cl hr (ar_ (ar_ (pv 0) rfl) rfl) (a0_ (pv 2) a3_)))
  case' kk=>skip
  obtain⟨dx,dl,dv,dp,ad,h1,G,h3,h4,h5,h6⟩:=S.ex;obtain⟨dxg,dw,dy,vs,fpw,g1,g2,_⟩:=id G.ex;obtain⟨dxw,d1,l2,d3,zs0,as,ef,w1,_⟩:=id g2.ex;have hnw:(flds d1 l2 d3).lookup ("strength":Str)=none:=aT_ _ _ _ (by decide +kernel) (by decide +kernel) (by decide +kernel);refine⟨_,rfl,v,CS,dx,_,_,rfl,h1,TS.cl,TS.nW,sf_g _ _ _ _,g,CG,dxg,_,_,rfl,g1,TG.cl,TG.nW,b8_ _ _ _,p,dxw,_,rfl,w1,hnw,_,rfl,p,a,strOf hs a,hs,ts,fpw,rfl,g2,W.Gd.hnd,b6_ ((al_ hs).mem_iff.mp ha),?_⟩;refine⟨_,rfl,v,CS,dx,_,_,rfl,h1,TS.cl,TS.nW,sf_g _ _ _ _,g,CG,dxg,_,_,rfl,g1,TG.cl,TG.nW,b8_ _ _ _,p,dxw,_,rfl,w1,hnw,_,rfl,p,b,strOf hs b,hs,ts,fpw,rfl,g2,W.Gd.hnd,b6_ ((al_ hs).mem_iff.mp hb),?_⟩;exact⟨_,_,rfl,rfl,k⟩
end
end Ev
namespace Ev
open PySem L2
theorem cp_(a b:Str):decide (V.str a=V.str b)=decide (a=b):=by
 by_cases z:a=b
 ·simp[z]
 ·have:¬(V.str a=V.str b):=fun e=>z (V.str.inj e);simp[z,this]
abbrev nb(hs:List (Str × Int))(ts:List (Str × Str))(h:Str):List Str:=near (a6' hs) (tsOf ts) h
def kR(hs:List (Str × Int))(qs:List Pc)(f:Str->Str)(n:Str):List Key:=[.inl (lvF hs qs f n),.inr n]
def risL(hs:List (Str × Int))(ts:List (Str × Str))(qs:List Pc)(f:Str->Str)(h:Str):List Str:=(sortKs ((nb hs ts h).map (kR hs qs f))).map sndK
def kfR(hs:List (Str × Int))(qs:List Pc)(f:Str->Str):V->List Key
 |.str n=>kR hs qs f n
 |_=>[]
theorem jW_{hs:List (Str × Int)}{ts:List (Str × Str)}{qs:List Pc}{f:Str->Str}{h:Str}{zs:List V}(p:zs.Perm ((nb hs ts h).map V.str))(e:zs.map (kfR hs qs f)=sortKs (((nb hs ts h).map V.str).map (kfR hs qs f))):zs=(risL hs ts qs f h).map V.str:=by
 obtain⟨ms,rfl,_⟩:=dI_ p;have e1:(ms.map V.str).map (kfR hs qs f)=ms.map (kR hs qs f):=by rw[al'];rfl
 have e2:((nb hs ts h).map V.str).map (kfR hs qs f)=(nb hs ts h).map (kR hs qs f):=by
  rw[al'];rfl
 rw[e1,e2] at e
 have em:(ms.map (kR hs qs f)).map sndK=ms:=by
  rw[al'];exact List.map_id' ms
 unfold risL;rw[<- e,em]
theorem gj_{hs:List (Str × Int)}{ts:List (Str × Str)}{h n:Str}(m:n∈nb hs ts h):n∈a6' hs:=(aN'.mp m).1
theorem eb_(hs:List (Str × Int))(ts:List (Str × Str))(h:Str):(nb hs ts h).length<=(a6' hs).length:=aO' ..
abbrev qRN:Str:="Sight.rising_neighbours.<locals>.<lambda>"
def lamR:Expr:=kwE (retE (nthS (bb' ce') 0))
abbrev fvR:List Str:=["self"]
theorem freeR:∀y∈(lamS lamR).names,y.2=.free->y.1∈fvR:=by decide +kernel
theorem scLamR:bM' ["other"] fvR (lamS lamR):=⟨by decide +kernel,rfl,rfl,rfl,by decide +kernel,by decide +kernel,fun x h=>freeR (x,.free) (PySem.mem_of_lookup h) rfl,by decide +kernel⟩
section
variable{P:Program}{w:World}{K:F__}{mg:Str->Option Value}{base:Heap}
def spLamR(K:F__)(CS CG CW:Addr):List V->List V->Hp->VK->XK->Prop:=fun vs gs H Q _=>∃(v g p:Addr) (n:Str) (hs:List (Str × Int)) (ts:List (Str × Str)) (qs:List Pc) (fp:List Addr) (f:Str->Str),vs=[.str n]/\gs=[.ref v]/\bl' K CS CG CW H v g p hs ts qs fp f/\n∈a6' hs/\∀t,H t=none->Q (.ref t) (upd H t (.tup [.int (lvF hs qs f n),.str n]))
theorem jr_{CS CG CW:Addr}(TS:TxtS K CS):LamOk P w K mg base 1 qRN (lamA lamR) (lamB lamR) (lamS lamR) ["other"] fvR (spLamR K CS CG CW):=by
 refine lamOk scLamR (fun pm c' ctv cl us hl=>?_) (fun A outer s H f0 cd cl vs gs Q E hr h hp=>?_)
 ·match us,hl with
  |[_],_=>rfl
 ·obtain⟨v,g,p,n,hs,ts,qs,fp,f,rfl,rfl,S,hn,k⟩:=h;have hu:=b3_ hr;obtain⟨dx,dl,dv,dp,ad,h1,G,h3,h4,h5,h6⟩:=S.ex;refine⟨_,aH_ (a0_ (ac_ hu (ar_ (pv 1) rfl) (pv 0) (fun _ _=>rfl)) (a0_ (pv 0) a3_)),?_⟩;exact⟨_,rfl,v,CS,dx,_,_,rfl,h1,TS.cl,TS.nV,sf_v _ _ _ _,_,rfl,dv,_,rfl,dgR h4 hn,_,rfl,by show 2<=sizeLine;decide,fun t ht=>k t ht⟩
def clR(L:Addr):List (Str × Addr):=[("self",L+1)]
theorem cloR{L f:Addr}{cd:Value}:closureFor (lamS lamR) (PyProof.Rows.envOfC "Sight.rising_neighbours" (a5' ce') L f cd)=pure (clR L):=by rfl
theorem celR{L f:Addr}{cd:Value}:∀q∈clR L,(PyProof.Rows.envOfC "Sight.rising_neighbours" (a5' ce') L f cd).cells.lookup q.1=some q.2:=by
 intro q hq;simp only[clR,aj',aV',or_false] at hq;rcases hq with rfl;rfl
theorem lclR{L:Addr}:∀x∈fvR,∃c,(clR L).lookup x=some c:=by
 intro x hx;simp only[fvR,aj',aV',or_false] at hx;rcases hx with rfl;exact⟨_,rfl⟩
theorem lkdR:∀x∈fvR,(a5' ce').names.lookup x=some .cell:=by decide +kernel
theorem scRisN:a7' ["self","hand"] ["self","hand"] (a5' ce'):=f__
def spRisN(K:F__)(CS CG CW T:Addr):Sp:=fun vs H Q _=>∃(v g p:Addr) (h:Str) (hs:List (Str × Int)) (ts:List (Str × Str)) (qs:List Pc) (fp:List Addr) (f:Str->Str),vs=[.ref v,.str h]/\bl' K CS CG CW H v g p hs ts qs fp f/\Wd hs ts qs f/\h∈a6' hs/\bp' H T qRN /\
 ∀l H',But T H H'->bp' H' T qRN->H l=none->H' l=some (.lst ((risL hs ts qs f h).map V.str))->Q (.ref l) H'
set_option maxHeartbeats 1600000 in
theorem jl_{f0 c0 CS CG CW T:Addr}{fd:FuncData}(F:FunC K "rising_neighbours" "Sight.rising_neighbours" ce' f0 c0 fd)(B:Bi mg)(TS:TxtS K CS)(TG:TxtG K CG)(TW:Txt K mg CW)(hC:PySem.W.CodeHd base c0 T)(hbm:base.BuiltinsAt mg T)(cN:CalM P w K mg base CW 2 "neighbours" ["self","hand"] (cM' K CW)) :
  FnOk P w K mg base CX0 4 f0 fd ["self","hand"] (spRisN K CS CG CW T):=by
 refine F.ok scRisN (fun vs H Q E h=>?_) (fun A outer s H vs Q E hr h=>?_)
 ·obtain⟨v,g,p,h,hs,ts,qs,fp,f,rfl,_⟩:=h;rfl
 ·obtain⟨v,g,p,h,hs,ts,qs,fp,f,rfl,S,W,hh,tab,k⟩:=h;have hr2:Room 2 _:=hr.mono (by decide);refine' ⟨_,a5_ (ab_ ?l2),?kk⟩
  case l2=>exact fg_ (px:="other") (fvs:=fvR) (cl:=clR s.heap.objs.size) (is:=[0]) (k:=1) rfl (by rfl) B.sorted (a0_ (bh_ cN TW.cl hr2 (ar_ (ar_ (pv 0) rfl) rfl) (a0_ (pv 1) a3_)) a3_) (h7_ (iB_ (P:=T) (c:=c0) rfl cloR rfl hC hbm) iv_) (jr_ (CG:=CG) (CW:=CW) TS) hr celR lclR lkdR rfl
  case' kk=>skip
  obtain⟨dx,dl,dv,dp,ad,h1,G,h3,h4,h5,h6⟩:=S.ex;obtain⟨dxg,dw,dy,vs,fpw,g1,g2,_⟩:=id G.ex;obtain⟨dxw,d1,l2,d3,zs0,as,ef,w1,_⟩:=id g2.ex;have hnw:(flds d1 l2 d3).lookup ("neighbours":Str)=none:=aT_ _ _ _ (by decide +kernel) (by decide +kernel) (by decide +kernel);refine⟨_,rfl,v,CS,dx,_,_,rfl,h1,TS.cl,TS.nW,sf_g _ _ _ _,g,CG,dxg,_,_,rfl,g1,TG.cl,TG.nW,b8_ _ _ _,p,dxw,_,rfl,w1,hnw,_,rfl,p,h,hs,ts,fpw,rfl,g2,W.Gd.nnd,(al_ hs).mem_iff.mp hh,fun ln nn=>?_⟩;obtain⟨s1,e1⟩:=nw__ (o:=.lst ((nb hs ts h).map V.str)) nn;show tNil _ (upd H ln (.lst ((nb hs ts h).map V.str))) _;generalize upd H ln (.lst ((nb hs ts h).map V.str))=H1 at s1 e1 ⊢;refine nilG (consG ?_);refine iu_ (tab.same s1) rfl rfl rfl rfl fun fl c' H4 b4 tab4 hfl hc'=>?_;obtain⟨tv,hT⟩:=bx_ tab;have nt4:NT H1 H4:=b4.nt (s1 _ _ hT);have S4:=(S.same s1).nt nt4;have n8:(nb hs ts h).length<=8:=by have:=eb_ hs ts h;have:=W.Gd.nlen;have:=W.Gd.h8;omega
  refine⟨.ref ln,fl,c',(nb hs ts h).map V.str,kfR hs qs f,[false,true],[.ref v],rfl,rfl,hfl,hc',.inl ⟨ln,rfl,.of (nt4.lst e1)⟩,by rw[aa'];omega,⟨by decide,fun k hk=>?_⟩,rfl,fun H' x sm hx=>?_,fun l zs H5 s5 nl nl4 pz ek=>?_⟩
  ·obtain⟨v,hv,rfl⟩:=ad'.mp hk;obtain⟨n,_,rfl⟩:=ad'.mp hv;rfl
  ·obtain⟨n,hn,rfl⟩:=ad'.mp hx;refine⟨v,g,p,n,hs,ts,qs,fp,f,rfl,rfl,S4.same sm,gj_ hn,fun t nt=>⟨Same.new nt,t,rfl,?_⟩⟩;rw[a1_];rfl
  rw[jW_ pz ek];have s6:Same H4 (upd H5 l (.lst ((risL hs ts qs f h).map V.str))):=s5.trans (Same.new nl);refine k l _ (fun b o e n=>s6 _ _ (b4 _ _ (s1 _ _ e) n)) (tab4.same s6) ?_ a1_;cases z:H l with
  |none=>rfl
  |some o=>
   by_cases y:l=T
   ·obtain⟨es,e,_⟩:=tab4;rw[y,e] at nl4;cases nl4
   ·rw[b4 _ _ (s1 _ _ z) y] at nl4;cases nl4
end
end Ev
namespace Ev
open PySem L2
abbrev Mv:=Str × Str × Str
def kM(m:Mv):List Key:=[.inr m.1,.inr m.2.1,.inr m.2.2]
def wyN(qs:List Pc)(n:Str):Option (List (Str × Str)):=match qs.find? fun q=>decide (q.1=n) with
 |some q=>q.2.2
 |none=>none
theorem io_{qs:List Pc}(nd:(qs.map (·.1)).Nodup){q:Pc}(h:q∈qs):wyN qs q.1=q.2.2:=by
 unfold wyN;cases e:qs.find? fun p=>decide (p.1=q.1) with
 |none=>
  have:=List.find?_eq_none.mp e q h;simp at this
 |some p=>
  have a:=List.mem_of_find?_eq_some e;have b:=List.find?_some e;have b:p.1=q.1:=of_decide_eq_true b;rw[cQ_ nd a h b]
def mayN(hs:List (Str × Int))(ts:List (Str × Str))(qs:List Pc)(n a b:Str):Bool:=goB hs ts (wyN qs n) (some a) (some b)
theorem j5_{qs:List Pc}{f:Str->Str}{h n:Str}(m:n∈hvAt qs f h):n∈qs.map (·.1)/\f n=h:=by
 obtain⟨a,b⟩:=aN'.mp m;exact⟨(bF_ qs).mem_iff.mp a,of_decide_eq_true b⟩
section
variable{P:Program}{w:World}{K:F__}{mg:Str->Option Value}{base:Heap}
theorem But.new{T l:Addr}{H G:Hp}(b:But T H G)(hT:∃vs,G T=some (.tbl vs))(n:G l=none):H l=none:=by
 cases z:H l with
 |none=>rfl
 |some o=>
  by_cases y:l=T
  ·obtain⟨vs,e⟩:=hT;rw[y,e] at n;cases n
  ·rw[b _ _ z y] at n;cases n
end
end Ev
namespace Ev
open PySem L2
abbrev MvR:=Rl->List (Str × Int)->List (Str × Str)->List Pc->(Str->Str)->Str->List Mv
def bY'(mv:MvR)(r:Rl)(hs:List (Str × Int))(ts:List (Str × Str))(qs:List Pc)(f:Str->Str):List Mv:=if r.2.2.1="one" then ((a6' hs).flatMap (mv r hs ts qs f)).take 1 else (a6' hs).flatMap (mv r hs ts qs f)
theorem bL_{α β:Type}{F:α->β->Prop}:∀{ys:List α} {ks:List β} (n:Nat),Paired F ys ks->Paired F (ys.take n) (ks.take n)
 |_,_,0,_=>.nil
 |_,_,_+1,.nil=>.nil
 |_,_,n+1,.cons h t=>.cons h (bL_ n t)
theorem cl_{α:Type}{g:Str->List α}{n:Nat}(h:∀x,(g x).length<=n):∀l:List Str,(l.flatMap g).length<=n * l.length
 |[]=>by simp
 |a::l=>by
  have:=h a;have ih:=cl_ h l;rw[List.flatMap_cons,aq',aC',Nat.mul_succ];omega
section
variable{P:Program}{w:World}{K:F__}{mg:Str->Option Value}{base:Heap}
theorem scMvFrom:a7' ["sight","hand","words"] ["sight","hand","words"] (a5' cK'):=f__
def spFrom(K:F__)(CS CG CW T:Addr)(pr:Rl->Prop)(mv:MvR):Sp:=fun vs H Q _=>∃(v g p aw:Addr) (h:Str) (hs:List (Str × Int)) (ts:List (Str × Str)) (qs:List Pc) (fp:List Addr) (f:Str->Str),∃r∈rl,vs=[.ref v,.str h,.ref aw]/\pr r/\(∀H',SqT K H' aw [.str r.2.1,.str r.2.2.1,optV r.2.2.2])/\bl' K CS CG CW H v g p hs ts qs fp f/\Wd hs ts qs f/\h∈a6' hs/\bp' H T qRN /\
 ∀l ys H',But T H H'->bp' H' T qRN->H l=none->H' l=some (.lst ys)->a8' K H' ys ((mv r hs ts qs f h).map kM)->Q (.ref l) H'
theorem dj':a7' ["sight","rule","moment","words","moves","hand"] ["sight","rule","moment"] (a5' sSeen):=f__
def spSeen(K:F__)(CS CG CW T:Addr)(pr:Rl->Prop)(mv:MvR):Sp:=fun vs H Q _=>∃(v g p:Addr) (m:Int) (hs:List (Str × Int)) (ts:List (Str × Str)) (qs:List Pc) (fp:List Addr) (f:Str->Str),∃r∈rl,vs=[.ref v,.str r.1,.int m]/\pr r/\bl' K CS CG CW H v g p hs ts qs fp f/\Wd hs ts qs f/\bp' H T qRN /\
 ∀l ys H',But T H H'->bp' H' T qRN->H l=none->H' l=some (.lst ys)->a8' K H' ys ((bY' mv r hs ts qs f).map kM)->Q (.ref l) H'
set_option maxHeartbeats 1600000 in
theorem jy_{f0 CS CG CW T:Addr}{fd:FuncData}{pr:Rl->Prop}{mv:MvR}(F:Fun K "moves_seen" "moves_seen" sSeen f0 fd)(TS:TxtS K CS)(TG:TxtG K CG)(TW:Txt K mg CW)(npr:∀r,pr r->r.2.1≠"turns")(hb:∀r hs ts qs f h,Wd hs ts qs f->(mv r hs ts qs f h).length<=1000)(cWo:Cal P w K mg base 2 "checked_words" ["rule"] (c2' K))(cH:CalM P w K mg base CW 1 "hands" ["self"] (b8' K CW))(cF:Cal P w K mg base 6 "moves_from" ["sight","hand","words"] (spFrom K CS CG CW T pr mv)) :
  FnOk P w K mg base CX0 7 f0 fd ["sight","rule","moment"] (spSeen K CS CG CW T pr mv):=by
 refine F.ok dj' (fun vs H Q E h=>?_) (fun cdv A outer s H vs Q E hr h=>?_)
 ·obtain⟨v,g,p,m,hs,ts,qs,fp,f,r,hr,rfl,_⟩:=h;rfl
 ·obtain⟨v,g,p,m,hs,ts,qs,fp,f,r,hr',rfl,hp,S,W,tab,k⟩:=h;have sz:=sizeLine_eq;have hr1:Room 1 _:=hr.mono (by decide);have hr2:Room 2 _:=hr.mono (by decide);refine' ⟨_,?r0,?kk⟩
  case' r0=>refine' a2_ ?s1 ?r1
  case' r1=>refine' a2_ ?s2 ?r2
  case' r2=>refine' a2_ ?s3 ?r3
  case' r3=>refine' a2_ ?s4 (a5_ ?s5)
  case s1=>exact aa_ (i:=3) dj'.nd rfl (Or.inl rfl) (ah_ cWo hr2 (a0_ (pv 1) a3_))
  case s2=>exact aC_ (ao_ cX_ (aF_ aQ_ (pv 3) a7_ (fun _ _=>rfl)) au_ (nomark _)) ag_ ae_
  case s3=>exact aa_ (i:=4) dj'.nd rfl (Or.inl rfl) (aX_ a3_)
  case' s4=>refine' aG_ PassesOwn.never rfl (an_ (d8_ cH TW.cl hr1 (ar_ (ar_ (pv 0) rfl) rfl))) (a8_ (i:=5) dj'.nd rfl (Or.inl rfl)) (a2_ ?b1 (a5_ ?b2))
  case b1=>exact b7_ (ca_ PySem.F.plainAttrs_list PySem.F.slot_list_extend PySem.F.type_list_extend cL_ (pv 4) (a0_ (ah_ cF hr (a0_ (pv 0) (a0_ (pv 5) (a0_ (pv 3) a3_)))) a3_))
  case b2=>exact aC_ (PW.pt (dV_ (ao_ cX_ (aF_ aQ_ (pv 3) a7_ (fun _ _=>rfl)) au_ (nomark _)) (du_ (ao_ (eX_ (cb' hr 0)) (pv 4) (aX_ a3_) (nomark _))))) (a5_ (ab_ (bR_ eH_ (pv 4) cT_ (cP_ a7_)))) ae_
  case s5=>exact ab_ (pv 4)
  case' kk=>skip
  refine⟨_,rfl,r,hr',rfl,fun aw ha=>?_⟩;refine setG ?_;dsimp only;refine⟨_,rfl,aw,_,_,_,rfl,rfl,ha _,rfl,rfl,_,rfl,?_⟩;rw[cp_,decide_eq_false (npr r hp)];refine iteF ?_;refine⟨by show 0<=sizeLine;decide,fun lm nm=>?_⟩;refine setG ?_;dsimp only;obtain⟨s1,e1⟩:=nw__ (o:=.lst []) nm;generalize upd H lm (.lst [])=H1 at s1 e1 ⊢;obtain⟨dx,dl,dv,dp,ad,h1,G,h3,h4,h5,h6⟩:=(S.same s1).ex;obtain⟨dxg,dw,dy,vs,fpw,g1,g2,_⟩:=id G.ex;obtain⟨dxw,d1,l2,d3,zs0,as,ef,w1,_⟩:=id g2.ex;have hnw:(flds d1 l2 d3).lookup ("hands":Str)=none:=aT_ _ _ _ (by decide +kernel) (by decide +kernel) (by decide +kernel);refine⟨_,rfl,v,CS,dx,_,_,rfl,h1,TS.cl,TS.nW,sf_g _ _ _ _,g,CG,dxg,_,_,rfl,g1,TG.cl,TG.nW,b8_ _ _ _,p,dxw,_,rfl,w1,hnw,p,hs,ts,fpw,rfl,g2,fun lh nh=>?_⟩;obtain⟨s2,e2⟩:=nw__ (o:=.lst ((a6' hs).map V.str)) nh;generalize upd H1 lh (.lst ((a6' hs).map V.str))=H2 at s2 e2 ⊢;have lmh:lm≠lh:=a6_ e1 nh;have s02:=s1.trans s2;obtain⟨tv,hT⟩:=bx_ tab;have neT:∀{b:Addr} {xs:List V},H2 b=some (.lst xs)->b≠T:=fun e z=>by rw[z,s02 _ _ hT] at e;cases e
  have n8:(a6' hs).length<=8:=by have:=W.Gd.nlen;have:=W.Gd.h8;omega
  have bound:∀i,(((a6' hs).take i).flatMap (mv r hs ts qs f)).length<=8000:=fun i=>by
   have:=cl_ (g:=mv r hs ts qs f) (n:=1000) (fun x=>hb r hs ts qs f x W) ((a6' hs).take i);rw[ak'] at this;omega
  refine⟨lh,rfl,⟨_,.of e2⟩,aw_ (K:=K) (a:=lh) (xs:=(a6' hs).map V.str) (fun i σ H'=>∃(v5:Option V) (ys:List V),σ=[some (.ref v),some (.str r.1),some (.int m),some (.ref aw),some (.ref lm),v5]/\But T H H'/\bp' H' T qRN/\H' lh=some (.lst ((a6' hs).map V.str))/\H' lm=some (.lst ys)/\a8' K H' ys ((((a6' hs).take i).flatMap (mv r hs ts qs f)).map kM)/\(r.2.2.1="one"->((a6' hs).take i).flatMap (mv r hs ts qs f)=[])) ⟨none,[],rfl,fun b o e n=>s02 _ _ e,tab.same s02,e2,s2 _ _ e1,.nil,fun _=>rfl⟩ (fun i σ H' _ ⟨_,_,_,_,_,z,_⟩=>.of z) ?_ ?_⟩
  ·rintro i x σ H' hx ⟨v5,ys,rfl,bT,tab',hlh,hlm,tu,one⟩;obtain⟨n,hn,rfl⟩:=ai_ hx;have nm':=ac' hn;refine setG ?_;dsimp only;have S':=S.nt (bT.nt hT);refine⟨_,rfl,.inl ⟨rfl,_,.of hlm⟩,_,rfl,_,rfl,_,rfl,v,g,p,aw,n,hs,ts,qs,fp,f,r,hr',rfl,hp,ha,S',W,nm',tab',fun l zs H3 b3 tab3 nl hl tz=>?_⟩;obtain⟨tv',hT'⟩:=bx_ tab';have nt3:=b3.nt hT';have hlm3:=nt3.lst hlm;have tu3:=a8'.nt tu nt3;have lT:l≠T:=fun z=>by rw[z,hT'] at nl;cases nl
   have lml:lm≠l:=a6_ hlm nl;have b03:=bound i;have ly:=Paired.length tu;have lz:=Paired.length tz;rw[aa'] at ly lz;have bz:=hb r hs ts qs f n W;refine⟨lm,l,ys,zs,rfl,rfl,hlm3,hl,by omega,?_⟩;have e4:upd H3 lm (.lst (ys++zs)) lm=some (.lst (ys++zs)):=a1_
   have b4:But T H (upd H3 lm (.lst (ys++zs))):=fun b o e ne=>by
    rw[a4_ (a6_ e nm)];exact b3 _ _ (bT _ _ e ne) ne
   have tab4:bp' (upd H3 lm (.lst (ys++zs))) T qRN:=bp'.putL tab3 hlm3
   have hlh4:upd H3 lm (.lst (ys++zs)) lh=some (.lst ((a6' hs).map V.str)):=by
    rw[a4_ lmh.symm];exact nt3.lst hlh
   have fl:((a6' hs).take (i+1)).flatMap (mv r hs ts qs f)=((a6' hs).take i).flatMap (mv r hs ts qs f)++mv r hs ts qs f n:=by
    rw[ap_ hn,List.flatMap_append,List.flatMap_cons,List.flatMap_nil,aA']
   have tu4:a8' K (upd H3 lm (.lst (ys++zs))) (ys++zs) ((((a6' hs).take (i+1)).flatMap (mv r hs ts qs f)).map kM):=by
    rw[fl,am'];exact av_ (aV_ tu3 hlm3) (aV_ tz hlm3)
   generalize upd H3 lm (.lst (ys++zs))=H4 at e4 b4 tab4 hlh4 tu4 ⊢;dsimp only;refine⟨_,rfl,aw,_,_,_,rfl,rfl,ha _,rfl,rfl,_,rfl,?_⟩;rw[cp_];refine ite2 (fun c=>?_) (fun c=>?_)
   ·have c:r.2.2.1="one":=of_decide_eq_true c;refine⟨_,rfl,by show 0<=sizeLine;decide,fun le ne=>?_⟩;obtain⟨s5,e5⟩:=nw__ (o:=.lst []) ne;generalize upd H4 le (.lst [])=H5 at s5 e5 ⊢;refine⟨lm,le,ys++zs,rfl,rfl,.of (s5 _ _ e4),.of e5,_,rfl,?_⟩;have ll:=Paired.length tu4;rw[aa'] at ll;refine ite2 (fun c2=>?_) (fun c2=>?_)
    ·refine⟨_,rfl,_,rfl,lm,_,rfl,.of (s5 _ _ e4),fun lq nq=>?_⟩;rw[show cutV (ys++zs) none (some 1)=(ys++zs).take 1 from e8_ (ys++zs) 1];have s6:=Same.new (o:=.lst ((ys++zs).take 1)) nq;have s56:=s5.trans s6;have b6:But T H (upd H5 lq (.lst ((ys++zs).take 1))):=fun b o e n=>s56 _ _ (b4 _ _ e n);refine k lq _ _ b6 (tab4.same s56) (But.new (T:=T) (G:=H5) (fun b o e n=>s5 _ _ (b4 _ _ e n)) (bx_ (tab4.same s5)) nq) a1_ ?_;unfold bY';rw[if_pos c]
     have nz:((a6' hs).take (i+1)).flatMap (mv r hs ts qs f)≠[]:=fun z=>by
      rw[z,a2'] at ll;have y:ys++zs=[]:=List.length_eq_zero_iff.mp ll;rw[y] at c2;simp at c2
     have e7:((a6' hs).flatMap (mv r hs ts qs f)).take 1=(((a6' hs).take (i+1)).flatMap (mv r hs ts qs f)).take 1:=by
      conv=>lhs;rw[<- List.take_append_drop (i+1) (a6' hs),List.flatMap_append]
      cases z:((a6' hs).take (i+1)).flatMap (mv r hs ts qs f) with
      |nil=>exact absurd z nz
      |cons a b=>rfl
     rw[e7,List.map_take];exact bL_ 1 (tu4.same s56)
    ·have z:ys++zs=[]:=by simpa using c2
     refine⟨_,_,rfl,fun b o e n=>s5 _ _ (b4 _ _ e n),tab4.same s5,s5 _ _ hlh4,s5 _ _ e4,tu4.same s5,fun _=>?_⟩;rw[z,a2'] at ll;exact List.length_eq_zero_iff.mp ll.symm
   ·refine⟨_,_,rfl,b4,tab4,hlh4,e4,tu4,fun z=>absurd (decide_eq_true z) c⟩
  ·rintro σ H' ⟨v5,ys,rfl,bT,tab',hlh,hlm,tu,one⟩;rw[aa',ap'] at tu one;refine⟨_,rfl,k lm ys H' bT tab' nm hlm ?_⟩;unfold bY';by_cases c:r.2.2.1="one"
   ·rw[if_pos c];have:=one c;rw[this] at tu ⊢;exact tu
   ·rw[if_neg c];exact tu
end
end Ev
namespace Ev
open PySem L2
structure CalC (P:Program) (w:World) (K:F__) (mg:Str->Option Value) (base:Heap) (C:Addr) (k:Nat) (x:Str) (ps:List Str) (sp:Sp):Prop where
 ex:∃f fd,FnOk P w K mg base CX0 k f fd ps sp/\Mk K C f/\mg x=some (.ref C)/\bV' K fd ps []
theorem jG_{X:Cx}{C:Addr}{k:Nat}{x:Str}{ps:List Str}{sp:Sp}{p pos:Pos}{e:Expr}{es:List Expr}{t:TA}(c:CalC X.prog X.w X.K X.mg X.base C k x ps sp)(hr:Room (k+1) X.A)(ha:PA X (e::es) t)(hg:Gl X x:=by rfl)(hdb:(x == ("__debug__":Str))=false:=by decide)
  (he:starEach (e::es) X.env=(false,eval e X.env)::starEach es X.env:=by rfl) (hpl:(backTo pos (starEach es X.env)).any (·.1)=false:=by rfl):PE X (.Call (.Name x p) (e::es) [] pos) (tMake C sp [] E0 t):=by
 obtain⟨f,fd,F,M,m,b⟩:=c.ex;exact jg_ M F hr hg m b .nil pass0 ha hdb he hpl
section
variable{P:Program}{w:World}{K:F__}{mg:Str->Option Value}{base:Heap}
theorem scWholeF:a7' ["thing","least"] ["thing","least"] (a5' cX'):=f__
def dh':Sp:=fun vs H Q _=>∃i a:Int,vs=[.int i,.int a]/\Q (.bl (decide (a<=i))) H
theorem g2_{f0:Addr}{fd:FuncData}(F:Fun K "is_whole_from" "is_whole_from" cX' f0 fd)(cI:Cal P w K mg base 1 "is_whole" ["thing"] spIsW):FnOk P w K mg base CX0 2 f0 fd ["thing","least"] dh':=by
 refine F.ok scWholeF (fun vs H Q E h=>?_) (fun cdv A outer s H vs Q E hr h=>?_)
 ·obtain⟨i,a,rfl,_⟩:=h;rfl
 ·obtain⟨i,a,rfl,k⟩:=h;refine⟨_,a5_ (ab_ (bu_ (ah_ cI hr (a0_ (pv 0) a3_)) (bj_ (bd_ da_ (pv 1) (pv 0) (nomark _))))),?_⟩;exact⟨_,rfl,i,rfl,_,rfl,iteT ⟨_,rfl,_,rfl,_,_,rfl,rfl,k⟩⟩
theorem do':a7' ["thing"] ["thing"] (a5' cd'):=f__
def cg':Sp:=fun vs H Q _=>∃i:Int,vs=[.int i]/\0<=i/\Q (.int i) H
theorem eu_{f0:Addr}{fd:FuncData}(F:Fun K "checked_moments" "checked_moments" cd' f0 fd)(cI:Cal P w K mg base 2 "is_whole_from" ["thing","least"] dh'):FnOk P w K mg base CX0 3 f0 fd ["thing"] cg':=by
 refine F.ok do' (fun vs H Q E h=>?_) (fun cdv A outer s H vs Q E hr h=>?_)
 ·obtain⟨i,rfl,_⟩:=h;rfl
 ·obtain⟨i,rfl,h0,k⟩:=h;refine⟨_,a2_ (aC_ (aI_ (aK_ (ah_ cI hr (a0_ (pv 0) (a0_ a7_ a3_))))) ag_ ae_) (a5_ (ab_ (pv 0))),?_⟩;refine⟨_,rfl,i,0,rfl,_,rfl,?_⟩;rw[decide_eq_true h0];exact iteF ⟨_,rfl,k⟩
theorem scCStart:a7' ["goods","stand","rule"] ["goods","stand","rule"] (a5' cP'):=f__
def db'(K:F__)(CG CW:Addr):Sp:=fun vs H Q E=>∃(g d:V),∃r∈rl,vs=[g,d,.str r.1]/\cp' K CG CW [g,d] H Q E
theorem h8_{f0 CG CW:Addr}{fd:FuncData}(F:Fun K "checked_start" "checked_start" cP' f0 fd)(cWo:Cal P w K mg base 2 "checked_words" ["rule"] (c2' K))(cS:Cal P w K mg base 2 "checked_stand" ["goods","stand"] (cp' K CG CW)):FnOk P w K mg base CX0 3 f0 fd ["goods","stand","rule"] (db' K CG CW):=by
 refine F.ok scCStart (fun vs H Q E h=>?_) (fun cdv A outer s H vs Q E hr h=>?_)
 ·obtain⟨g,d,r,hr,rfl,_⟩:=h;rfl
 ·obtain⟨g,d,r,hr',rfl,h⟩:=h;refine⟨_,a2_ (b7_ (ah_ cWo hr (a0_ (pv 2) a3_))) (a5_ (ab_ (ah_ cS hr (a0_ (pv 0) (a0_ (pv 1) a3_))))),?_⟩;exact⟨_,rfl,r,hr',rfl,fun a _=>⟨_,rfl,_,rfl,h⟩⟩
structure Stn (K:F__) (CG CW:Addr) (H:Hp) (g p d:Addr) (hs:List (Str × Int)) (ts:List (Str × Str)) (qs:List Pc) (fp:List Addr) (ns:List Str) (f:Str->Str):Prop where
 G:ba' K CG CW H g p hs ts qs fp
 dfp:d∉fp
 hd:H d=some (.dK (stF ns f))
 so:StandOk hs qs ns f
 has:∀b∈fp,∃o,H b=some o/\∀vs,o≠.tbl vs
theorem Stn.nt{CG CW g p d:Addr}{H G:Hp}{hs:List (Str × Int)}{ts:List (Str × Str)}{qs:List Pc}{fp:List Addr}{ns:List Str}{f:Str->Str}(S:Stn K CG CW H g p d hs ts qs fp ns f)(s:NT H G):Stn K CG CW G g p d hs ts qs fp ns f:=⟨S.G.nt s,S.dfp,s.dK S.hd,S.so,fun b hb=>by
 obtain⟨o,e,n⟩:=S.has b hb;exact⟨o,s _ _ e n,n⟩⟩
structure Tb (H:Hp) (T1 T2:Addr):Prop where
 a:bp' H T1 qHF
 b:bp' H T2 qRN
 ne:T1≠T2
theorem cA':a7' ["goods","stand","rule","moment","placed"] ["goods","stand","rule","moment"] (a5' cm'):=f__
def cD'(K:F__)(CG CW T1 T2:Addr)(pr:Rl->Prop)(mv:Int->MvR):Sp:=fun vs H Q _=>∃(g p d:Addr) (m:Int) (hs:List (Str × Int)) (ts:List (Str × Str)) (qs:List Pc) (fp:List Addr) (ns:List Str) (f:Str->Str),∃r∈rl,vs=[.ref g,.ref d,.str r.1,.int m]/\pr r/\0<=m/\Stn K CG CW H g p d hs ts qs fp ns f/\Wd hs ts qs f/\Tb H T1 T2 /\
 ∀l ys H',NT H H'->Tb H' T1 T2->H l=none->H' l=some (.lst ys)->a8' K H' ys ((bY' (mv m) r hs ts qs f).map kM)->Q (.ref l) H'
set_option maxHeartbeats 1600000 in
theorem fF_{f0 CS CG CW T1 T2:Addr}{fd:FuncData}{pr:Rl->Prop}{mv:MvR}(F:Fun K "moves_of" "moves_of" cm' f0 fd)(cSt:Cal P w K mg base 3 "checked_start" ["goods","stand","rule"] (db' K CG CW))(cMk:CalC P w K mg base CS 7 "Sight" ["self","goods","placed"] (spSInit K CS CG CW T1))(cSe:Cal P w K mg base 7 "moves_seen" ["sight","rule","moment"] (spSeen K CS CG CW T2 pr mv))(cMo:Cal P w K mg base 3 "checked_moments" ["thing"] cg') :
  FnOk P w K mg base CX0 9 f0 fd ["goods","stand","rule","moment"] (cD' K CG CW T1 T2 pr (fun _=>mv)):=by
 refine F.ok cA' (fun vs H Q E h=>?_) (fun cdv A outer s H vs Q E hr h=>?_)
 ·obtain⟨g,p,d,m,hs,ts,qs,fp,ns,f,r,hr,rfl,_⟩:=h;rfl
 ·obtain⟨g,p,d,m,hs,ts,qs,fp,ns,f,r,hr',rfl,hp,m0,S,W,tb,k⟩:=h;have hr3:Room 3 _:=hr.mono (by decide);have hr7:Room 7 _:=hr.mono (by decide);refine' ⟨_,a2_ ?s1 (a5_ ?s2),?kk⟩
  case s1=>exact aa_ (i:=4) cA'.nd rfl (Or.inl rfl) (ah_ cSt hr3 (a0_ (pv 0) (a0_ (pv 1) (a0_ (pv 2) a3_))))
  case s2=>exact ab_ (ah_ cSe hr7 (a0_ (jG_ cMk hr (a0_ (pv 0) (a0_ (pv 4) a3_))) (a0_ (pv 2) (a0_ (ah_ cMo hr3 (a0_ (pv 3) a3_)) a3_))))
  case' kk=>skip
  refine⟨_,rfl,_,rfl,_,rfl,_,_,r,hr',rfl,g,p,d,hs,ts,qs,fp,ns,f,rfl,S.G,S.dfp,S.hd,S.so,W.nd,W.h64,fun dp H1 s1 n1 e1=>?_⟩;refine setG ?_;dsimp only
  have d1fp:dp∉fp:=fun hm=>by
   obtain⟨o,e,_⟩:=S.has dp hm;rw[e] at n1;cases n1
  have Pl:bX' K CG CW H1 g p dp hs ts qs fp f:=⟨S.G.same s1,W.Gd,d1fp,e1,W.at_,W.nd,W.h64⟩;refine⟨_,rfl,_,rfl,fun v dx hv hdx ne=>?_⟩;have s2:Same H1 (upd (upd H1 dx (.own v)) v (.ins CS dx [])):=(Same.new hdx).trans (Same.new (by rw[a4_ ne.symm];exact hv));have e2:upd (upd H1 dx (.own v)) v (.ins CS dx []) v=some (.ins CS dx []):=a1_;generalize upd (upd H1 dx (.own v)) v (.ins CS dx [])=H2 at s2 e2 ⊢
  have vfp:v∉fp:=fun hm=>by
   obtain⟨o,e,_⟩:=S.has v hm;rw[s1 _ _ e] at hv;cases hv
  have s02:=s1.trans s2;have Pl2:bX' K CG CW H2 g p dp hs ts qs fp f:=⟨Pl.G.same s2,W.Gd,d1fp,s2 _ _ e1,W.at_,W.nd,W.h64⟩;refine⟨v,dx,g,p,dp,hs,ts,qs,fp,f,rfl,e2,vfp,Pl2,W,tb.a.same s02,fun H3 k3 tab3 S3=>⟨rfl,?_⟩⟩;obtain⟨tv1,hT1⟩:=bx_ tb.a;obtain⟨tv2,hT2⟩:=bx_ tb.b
  have nv:∀{b:Addr} {o:HO},H b=some o->b≠v:=fun e z=>by
   rw[z] at e;rw[s1 _ _ e] at hv;cases hv
  have k03:∀b o,H b=some o->b≠T1->H3 b=some o:=fun b o e n=>k3 b o (s02 _ _ e) (nv e) n;have nt3:NT H H3:=fun b o e n=>k03 b o e (fun z=>by rw[z,hT1] at e;exact n _ (Option.some.inj e).symm)
  have tb2:bp' H3 T2 qRN:=by
   obtain⟨es,a1,a2⟩:=tb.b;exact⟨es,k03 _ _ a1 tb.ne.symm,fun x hx=>nt3 _ _ (a2 x hx) nofun⟩
  refine⟨_,rfl,_,rfl,m,rfl,m0,?_⟩;refine⟨v,g,p,m,hs,ts,qs,fp,f,r,hr',rfl,hp,S3,W,tb2,fun l ys H4 b4 tab4 nl hl tu=>?_⟩;obtain⟨tv3,hT3⟩:=bx_ tb2;have nt4:=b4.nt hT3;refine k l ys H4 (nt3.trans nt4) ⟨?_,tab4,tb.ne⟩ ?_ hl tu
  ·obtain⟨es,a1,a2⟩:=tab3;exact⟨es,b4 _ _ a1 tb.ne,fun x hx=>nt4 _ _ (a2 x hx) nofun⟩
  ·cases z:H l with
   |none=>rfl
   |some o=>
    by_cases y:l=T1
    ·obtain⟨es,a1,_⟩:=tab3;rw[y,a1] at nl;cases nl
    ·rw[k03 _ _ z y] at nl;cases nl
end
end Ev
namespace Ev
open PySem L2
def bf'(hs:List (Str × Int))(ts:List (Str × Str)):Int:=((lens hs ts).max?).getD 0
theorem g6_{hs:List (Str × Int)}{ts:List (Str × Str)}{m:Int}(h1:m∈lens hs ts)(h2:∀a∈lens hs ts,a<=m):m=bf' hs ts:=by
 unfold bf';rw[List.max?_eq_some_iff.mpr ⟨h1,h2⟩];rfl
theorem gN_{hs:List (Str × Int)}{ts:List (Str × Str)}(G:Good hs ts){m:Int}(h:m∈lens hs ts):0<=m/\m<=8:=by
 obtain⟨n,_,rfl⟩:=ad'.mp h;have h1:=eb_ hs ts n;have h2:=G.nlen;have h3:=G.h8;show 0<=((nb hs ts n).length:Int)/\((nb hs ts n).length:Int)<=8;omega
theorem dp_{hs:List (Str × Int)}{ts:List (Str × Str)}(G:Good hs ts){a b:Str}(ha:a∈a6' hs)(hb:b∈a6' hs):2<=bv' hs a b/\bv' hs a b<=2000:=by
 have h1:=str_ok G ha;have h2:=str_ok G hb;unfold bv';omega
def shL(wt:Str->Int)(ok:Str->Bool):Int->List Str->List Str
 |_,[]=>[]
 |l,n::ns=>if (ok n&&decide (wt n<=l))=true then n::shL wt ok (l - wt n) ns else shL wt ok l ns
theorem cz_(wt:Str->Int)(ok:Str->Bool):∀(l:Int) (ns:List Str),(shL wt ok l ns).Sublist ns
 |_,[]=>.slnil
 |l,n::ns=>by
  unfold shL;split
  ·exact (cz_ wt ok _ ns).cons_cons n
  ·exact (cz_ wt ok _ ns).cons n
def shOk(hs:List (Str × Int))(ts:List (Str × Str))(qs:List Pc)(gv:List Str)(a b n:Str):Bool:=!decide (n∈gv)&&mayN hs ts qs n a b
def bR'(hs:List (Str × Int))(ts:List (Str × Str))(qs:List Pc)(f:Str->Str)(a b:Str):Int:=bC' hs qs f a b / (bv' hs a b * (bf' hs ts+1))
def shN(hs:List (Str × Int))(ts:List (Str × Str))(qs:List Pc)(f:Str->Str)(gv:List Str)(a b:Str):List Str:=shL (wtN qs) (shOk hs ts qs gv a b) (bR' hs ts qs f a b) (hvAt qs f a)
abbrev to3(a b:Str)(n:Str):Mv:=(n,a,b)
def shM(hs:List (Str × Int))(ts:List (Str × Str))(qs:List Pc)(f:Str->Str)(gv:List Str)(a b:Str):List Mv:=(shN hs ts qs f gv a b).map (to3 a b)
theorem dh_{hs:List (Str × Int)}{ts:List (Str × Str)}{qs:List Pc}{f:Str->Str}(W:Wd hs ts qs f)(a:Str):(hvAt qs f a).length<=63:=by
 have h1:(hvAt qs f a).length<=(hvL qs).length:=aO' ..;have h2:=(bF_ qs).length_eq;rw[aa'] at h2;have:=W.h64;omega
theorem hg_{hs:List (Str × Int)}{ts:List (Str × Str)}{qs:List Pc}{f:Str->Str}(W:Wd hs ts qs f)(gv:List Str)(a b:Str):(shM hs ts qs f gv a b).length<=63:=by
 unfold shM;rw[aa'];have:=(cz_ (wtN qs) (shOk hs ts qs gv a b) (bR' hs ts qs f a b) (hvAt qs f a)).length_le;have h2:=dh_ W a;unfold shN;omega
theorem ei_{α:Type}{l:List α}{i:Nat}{x:α}(h:l[i]? = some x):l.drop i=x::l.drop (i+1):=by
 obtain⟨h1,h2⟩:=ab'.mp h;rw[List.drop_eq_getElem_cons h1,h2]
section
variable{P:Program}{w:World}{K:F__}{mg:Str->Option Value}{base:Heap}
abbrev shNs:List Str:=["sight","one","other","given","parts","left","moves","piece","weight"]
theorem cY':a7' shNs ["sight","one","other","given"] (a5' sShM):=f__
def spShM(K:F__)(CS CG CW:Addr):Sp:=fun vs H Q _=>∃(v g p lg:Addr) (a b:Str) (gv:List Str) (hs:List (Str × Int)) (ts:List (Str × Str)) (qs:List Pc) (fp:List Addr) (f:Str->Str),vs=[.ref v,.str a,.str b,.ref lg]/\bl' K CS CG CW H v g p hs ts qs fp f/\Wd hs ts qs f/\a∈a6' hs/\b∈a6' hs/\H lg=some (.lst (gv.map V.str)) /\
 ∀l ys H',Same H H'->H l=none->H' l=some (.lst ys)->a8' K H' ys ((shM hs ts qs f gv a b).map kM)->Q (.ref l) H'
set_option maxHeartbeats 1600000 in
theorem ks_{f0 CS CG CW CP:Addr}{fd:FuncData}(F:Fun K "share_moves" "share_moves" sShM f0 fd)(TS:TxtS K CS)(TG:TxtG K CG)(TW:Txt K mg CW)(cL:CalM P w K mg base CS 3 "lead" ["self","one","other"] (spLead K CS CG CW))(cJ:CalM P w K mg base CS 3 "joint_strength" ["self","one","other"] (spJoint K CS CG CW))(cN:CalM P w K mg base CW 1 "most_neighbours" ["self"] (spMost K CW))(cW:CalX P w K mg base CG 2 "weight" ["self","piece"] (bE' K CG CW CP))(cM:CalX P w K mg base CG 3 "may_go" ["self","piece","one","other"] (spGMay K CG CW CP)) :
  FnOk P w K mg base CX0 4 f0 fd ["sight","one","other","given"] (spShM K CS CG CW):=by
 refine F.ok cY' (fun vs H Q E h=>?_) (fun cdv A outer s H vs Q E hr h=>?_)
 ·obtain⟨v,g,p,lg,a,b,gv,hs,ts,qs,fp,f,rfl,_⟩:=h;rfl
 ·obtain⟨v,g,p,lg,a,b,gv,hs,ts,qs,fp,f,rfl,S,W,ha,hb,hg,k⟩:=h;have hu:=b3_ hr;have sz:=sizeLine_eq;have hr1:Room 1 _:=hr.mono (by decide);have hr2:Room 2 _:=hr.mono (by decide);refine' ⟨_,?r0,?kk⟩
  case' r0=>refine' a2_ ?s1 ?r1
  case' r1=>refine' a2_ ?s2 ?r2
  case' r2=>refine' a2_ ?s3 ?r3
  case' r3=>refine' a2_ ?s4 (a5_ ?s5)
  case s1=>exact aa_ (i:=4) cY'.nd rfl (Or.inl rfl) (aj_ ba_ (bh_ cJ TS.cl hr (pv 0) (a0_ (pv 1) (a0_ (pv 2) a3_))) (aj_ aR_ (d8_ cN TW.cl hr1 (ar_ (ar_ (pv 0) rfl) rfl)) a7_))
  case s2=>exact aa_ (i:=5) cY'.nd rfl (Or.inl rfl) (aj_ bi_ (bh_ cL TS.cl hr (pv 0) (a0_ (pv 1) (a0_ (pv 2) a3_))) (pv 4))
  case s3=>exact aa_ (i:=6) cY'.nd rfl (Or.inl rfl) (aX_ a3_)
  case' s4=>refine' aG_ PassesOwn.never rfl (an_ (ac_ hu (ar_ (pv 0) rfl) (pv 1) (fun _ _=>rfl))) (a8_ (i:=7) cY'.nd rfl (Or.inl rfl)) (a2_ ?b1 (a5_ ?b2))
  case b1=>exact aa_ (i:=8) cY'.nd rfl (Or.inl rfl) (i7_ cW TG.cl hr2 (ar_ (pv 0) rfl) (a0_ (pv 7) a3_))
  case' b2=>refine' aC_ (PW.pt (dV_ ?c1 (dV_ ?c2 (du_ ?c3)))) (a2_ ?b3 (a5_ ?b4)) ae_
  case c1=>exact ao_ (dX_ cmpS (cb' hr 0)) (pv 7) (pv 3) (by with_unfolding_all rfl)
  case c2=>exact ao_ da_ (pv 8) (pv 5) (nomark _)
  case c3=>exact aK_ (i7_ cM TG.cl hr (ar_ (pv 0) rfl) (a0_ (pv 7) (a0_ (pv 1) (a0_ (pv 2) a3_))))
  case b3=>exact b7_ (ca_ PySem.F.plainAttrs_list PySem.F.slot_list_append PySem.F.type_list_append b9_ (pv 6) (a0_ (aH_ (a0_ (pv 7) (a0_ (pv 1) (a0_ (pv 2) a3_)))) a3_))
  case b4=>exact aa_ (i:=5) cY'.nd rfl (Or.inl rfl) (aj_ fr_ (pv 5) (pv 8))
  case s5=>exact ab_ (pv 6)
  case' kk=>skip
  obtain⟨dx,dl,dv,dp,ad,h1,G,h3,h4,h5,h6⟩:=S.ex;obtain⟨dxg,dw,dy,vs,fpw,g1,g2,_⟩:=id G.ex;obtain⟨dxw,d1,l2,d3,zs0,as,ef,w1,_⟩:=id g2.ex;have hnm:(flds d1 l2 d3).lookup ("most_neighbours":Str)=none:=aT_ _ _ _ (by decide +kernel) (by decide +kernel) (by decide +kernel);have no:∀{m:Str},¬m="wares"->¬m="load_by_hand"->¬m="level_by_hand"->¬m="pieces_by_hand"->(sflds g dl dv dp).lookup m=none:=fun a b c d=>ko_ _ _ _ _ a b c d;have jo:=dp_ W.Gd ha hb;have nl:=W.Gd.nlen;have n1:=W.Gd.h1;have n8:=W.Gd.h8;refine⟨_,rfl,v,dx,_,rfl,h1,no (by decide +kernel) (by decide +kernel) (by decide +kernel) (by decide +kernel),_,rfl,_,rfl,v,g,p,a,b,hs,ts,qs,fp,f,rfl,S,W,ha,hb,?_⟩;refine⟨_,rfl,v,CS,dx,_,_,rfl,h1,TS.cl,TS.nW,sf_g _ _ _ _,g,CG,dxg,_,_,rfl,g1,TG.cl,TG.nW,b8_ _ _ _,p,dxw,_,rfl,w1,hnm,p,hs,ts,fpw,rfl,g2,by omega,by omega,fun m H1 s1 m1 m2=>?_⟩;have mo:=gN_ W.Gd m1;obtain rfl:=g6_ m1 m2;have pp:0<bv' hs a b * (bf' hs ts+1):=Int.mul_pos (by omega) (by omega)
  have pl:bv' hs a b * (bf' hs ts+1)<1073741824:=by
   have:=Int.mul_le_mul jo.2 (show bf' hs ts+1<=9 by omega) (by omega) (by decide);omega
  refine⟨_,_,rfl,rfl,_,_,rfl,rfl,.inl ⟨by omega,by omega⟩,?_⟩;refine setG ?_;dsimp only;refine⟨_,rfl,v,dx,_,rfl,s1 _ _ h1,no (by decide +kernel) (by decide +kernel) (by decide +kernel) (by decide +kernel),_,rfl,_,rfl,v,g,p,a,b,hs,ts,qs,fp,f,rfl,S.same s1,W,ha,hb,_,rfl,_,_,rfl,rfl,⟨pp,pl⟩,?_⟩;refine setG ?_;dsimp only;refine⟨by show 0<=sizeLine;decide,fun lm nm=>?_⟩;refine setG ?_;dsimp only;obtain⟨s2,e2⟩:=nw__ (o:=.lst []) nm;have nm0:=s1.free nm;generalize upd H1 lm (.lst [])=H2 at s2 e2 ⊢;have s02:=s1.trans s2;have hl:=h6 a ha;have l63:=dh_ W a;refine⟨_,rfl,v,CS,dx,_,_,rfl,s02 _ _ h1,TS.cl,TS.nP,sf_p _ _ _ _,_,rfl,dp,_,rfl,dgR (s02 _ _ h5) ha,ad a,rfl,⟨_,.of (s02 _ _ hl)⟩,aw_ (K:=K) (a:=ad a) (xs:=(hvAt qs f a).map V.str) (fun i σ H'=>∃(v7 v8:Option V) (left:Int) (ys:List V) (ns:List Str),σ=[some (.ref v),some (.str a),some (.str b),some (.ref lg),some (.int (bv' hs a b * (bf' hs ts+1))),some (.int left),some (.ref lm),v7,v8]/\Same H H'/\H' lm=some (.lst ys)/\a8' K H' ys ((ns.map (to3 a b)).map kM)/\ns.length<=i/\ns++shL (wtN qs) (shOk hs ts qs gv a b) left ((hvAt qs f a).drop i)=shN hs ts qs f gv a b) ⟨none,none,_,[],[],rfl,s02,e2,.nil,ag' _,rfl⟩ (fun i σ H' _ ⟨_,_,_,_,_,_,sm,_⟩=>.of (sm _ _ hl)) ?_ ?_⟩
  ·rintro i x σ H' hx ⟨v7,v8,left,ys,ns,rfl,sm,hlm,tu,ln,eq⟩;obtain⟨n,hn,rfl⟩:=ai_ hx;have hi:i<(hvAt qs f a).length:=(ab'.mp hn).1;obtain⟨nm',fn⟩:=j5_ (ac' hn);obtain⟨q,hq,rfl⟩:=ad'.mp nm';have G':=G.same sm;have h1':=sm _ _ h1;obtain⟨dxg',dw',dy',vs',fpw',g1',g2',_⟩:=id G'.ex;have hwt:(gflds p dw' dy').lookup ("weight":Str)=none:=bg_ _ _ _ (by decide +kernel) (by decide +kernel) (by decide +kernel);have hmy:(gflds p dw' dy').lookup ("may_go":Str)=none:=bg_ _ _ _ (by decide +kernel) (by decide +kernel) (by decide +kernel);have ew:=ej_ W.nd hq;have ey:=io_ W.nd hq;rw[ei_ hn,shL] at eq;have ly:=Paired.length tu;rw[aa',aa'] at ly
   have go:∀{H2:Hp} {v8:Option V},Same H' H2->(shOk hs ts qs gv a b q.1&&decide (wtN qs q.1<=left))=false->∃(v7 v8':Option V) (left':Int) (ys:List V) (ns:List Str),[some (V.ref v),some (.str a),some (.str b),some (.ref lg),some (.int (bv' hs a b * (bf' hs ts+1))),some (.int left),some (.ref lm),some (.str q.1),v8]=[some (V.ref v),some (.str a),some (.str b),some (.ref lg),some (.int (bv' hs a b * (bf' hs ts+1))),some (.int left'),some (.ref lm),v7,v8']/\Same H H2/\H2 lm=some (.lst ys)/\a8' K H2 ys ((ns.map (to3 a b)).map kM)/\ns.length<=i+1/\ns++shL (wtN qs) (shOk hs ts qs gv a b) left' ((hvAt qs f a).drop (i+1))=shN hs ts qs f gv a b:=fun {H2 v8} s2 e=>by
    rw[e,if_neg (by decide)] at eq;exact⟨_,_,_,ys,ns,rfl,sm.trans s2,s2 _ _ hlm,tu.same s2,by omega,eq⟩
   refine setG ?_;dsimp only;refine⟨_,rfl,v,CS,dx,_,_,rfl,h1',TS.cl,TS.nW,sf_g _ _ _ _,g,dxg',_,rfl,g1',hwt,_,rfl,g,p,.str q.1,some q.1,hs,ts,qs,fp,rfl,G',W.nd,rfl,.inl ⟨q,hq,rfl,?_⟩⟩;refine setG ?_;dsimp only;refine⟨_,rfl,_,rfl,q.1,gv,rfl,⟨lg,_,rfl,.of (sm _ _ hg),cn_ gv⟩,_,rfl,?_⟩;refine ite2 (fun c=>?_) (fun c=>?_)
   ·have c:¬q.1∈gv:=by simpa using c
    refine⟨_,rfl,_,rfl,_,_,rfl,rfl,_,rfl,?_⟩;refine ite2 (fun c2=>?_) (fun c2=>?_)
    ·have c2:q.2.1<=left:=by simpa using c2
     refine⟨_,rfl,v,CS,dx,_,_,rfl,h1',TS.cl,TS.nW,sf_g _ _ _ _,g,dxg',_,rfl,g1',hmy,_,rfl,_,rfl,_,rfl,g,p,.str q.1,.str a,.str b,some q.1,some a,some b,hs,ts,qs,fp,rfl,G',W.nd,W.Gd.nnd,rfl,.inl ⟨q,hq,rfl,rfl,rfl,fun H3 s3=>⟨_,rfl,?_⟩⟩⟩;refine ite2 (fun c3=>?_) (fun c3=>?_)
     ·have pt:(shOk hs ts qs gv a b q.1&&decide (wtN qs q.1<=left))=true:=by
       unfold shOk mayN;rw[ew,ey,decide_eq_true c2,decide_eq_false c];simpa using c3
      rw[if_pos pt,ew] at eq;refine⟨_,rfl,.inl ⟨rfl,_,.of (s3 _ _ hlm)⟩,_,rfl,_,rfl,_,rfl,by show 3<=sizeLine;decide,fun t nt=>?_⟩;obtain⟨s4,e4⟩:=nw__ (o:=.tup [.str q.1,.str a,.str b]) nt;generalize upd H3 t (.tup [.str q.1,.str a,.str b])=H4 at s4 e4 ⊢;have s34:=s3.trans s4;have hlm4:=s34 _ _ hlm;refine⟨lm,_,_,rfl,rfl,hlm4,by omega,?_⟩;dsimp only;refine⟨_,rfl,_,rfl,_,_,rfl,rfl,?_⟩;refine setG ?_;dsimp only;refine⟨_,_,_,ys++[.ref t],ns++[q.1],rfl,fun b' o e=>?_,a1_,?_,?_,?_⟩
      ·rw[a4_ (a6_ e nm0)];exact s34 _ _ (sm _ _ e)
      ·rw[am',am'];exact aV_ (bv_ (tu.same s34) e4) hlm4
      ·rw[aq'];show ns.length+1<=i+1;omega
      ·rw[List.append_assoc];exact eq
     ·refine go s3 ?_;unfold shOk mayN;have c3:goB hs ts q.2.2 (some a) (some b)=false:=by simpa using c3
      rw[ey,c3,Bool.and_false,a0']
    ·refine go (Same.refl H') ?_;have c2:¬q.2.1<=left:=by simpa using c2
     rw[ew,decide_eq_false c2,Bool.and_false]
   ·have c:q.1∈gv:=by simpa using c
    refine go (Same.refl H') ?_;unfold shOk;rw[decide_eq_true c];rfl
  ·rintro σ H' ⟨v7,v8,left,ys,ns,rfl,sm,hlm,tu,ln,eq⟩;rw[aa',List.drop_length,shL,aA'] at eq;refine⟨_,rfl,k lm ys H' sm nm0 hlm ?_⟩;unfold shM;rw[<- eq];exact tu
end
end Ev
namespace Ev
open PySem L2
def bD'(hs:List (Str × Int))(ts:List (Str × Str))(qs:List Pc)(f:Str->Str)(h:Str):List Mv->List Str->List Mv
 |ms,[]=>ms
 |ms,o::l=>if 0<bC' hs qs f h o then bD' hs ts qs f h (ms++shM hs ts qs f (ms.map (·.1)) h o) l else bD' hs ts qs f h ms l
def be'(hs:List (Str × Int))(ts:List (Str × Str))(qs:List Pc)(f:Str->Str)(h:Str):List Mv:=bD' hs ts qs f h [] (nb hs ts h)
def bL':MvR:=fun _ hs ts qs f h=>be' hs ts qs f h
theorem eG_{hs:List (Str × Int)}{ts:List (Str × Str)}{qs:List Pc}{f:Str->Str}(W:Wd hs ts qs f){h:Str}:∀(l:List Str) (ms:List Mv),(bD' hs ts qs f h ms l).length<=ms.length+63 * l.length
 |[],ms=>ag' _
 |o::l,ms=>by
  rw[bD',aC'];split
  ·have h1:=eG_ W (h:=h) l (ms++shM hs ts qs f (ms.map (·.1)) h o);have h2:=hg_ W (ms.map (·.1)) h o;rw[aq'] at h1;omega
  ·have h1:=eG_ W (h:=h) l ms;omega
theorem bz_(r:Rl)(hs:List (Str × Int))(ts:List (Str × Str))(qs:List Pc)(f:Str->Str)(h:Str)(W:Wd hs ts qs f):(bL' r hs ts qs f h).length<=1000:=by
 unfold bL' be';have h1:=eG_ W (h:=h) (nb hs ts h) [];have h3:=eb_ hs ts h;have h4:=W.Gd.nlen;have h5:=W.Gd.h8;rw[a2'] at h1;omega
section
variable{P:Program}{w:World}{K:F__}{mg:Str->Option Value}{base:Heap}
theorem bF':a7' ["sight","hand","moves","other","given"] ["sight","hand"] (a5' cc'):=f__
def dl'(K:F__)(CS CG CW:Addr):Sp:=fun vs H Q _=>∃(v g p:Addr) (h:Str) (hs:List (Str × Int)) (ts:List (Str × Str)) (qs:List Pc) (fp:List Addr) (f:Str->Str),vs=[.ref v,.str h]/\bl' K CS CG CW H v g p hs ts qs fp f/\Wd hs ts qs f/\h∈a6' hs /\
 ∀l ys H',Same H H'->H l=none->H' l=some (.lst ys)->a8' K H' ys ((be' hs ts qs f h).map kM)->Q (.ref l) H'
set_option maxHeartbeats 1600000 in
theorem eL_{f0 CS CG CW:Addr}{fd:FuncData}(F:Fun K "moves_by_shares" "moves_by_shares" cc' f0 fd)(TS:TxtS K CS)(TG:TxtG K CG)(TW:Txt K mg CW)(cN:CalM P w K mg base CW 2 "neighbours" ["self","hand"] (cM' K CW))(cL:CalM P w K mg base CS 3 "lead" ["self","one","other"] (spLead K CS CG CW))(cH:Cal P w K mg base 4 "share_moves" ["sight","one","other","given"] (spShM K CS CG CW)):FnOk P w K mg base CX0 5 f0 fd ["sight","hand"] (dl' K CS CG CW):=by
 refine F.ok bF' (fun vs H Q E h=>?_) (fun cdv A outer s H vs Q E hr h=>?_)
 ·obtain⟨v,g,p,h,hs,ts,qs,fp,f,rfl,_⟩:=h;rfl
 ·obtain⟨v,g,p,h,hs,ts,qs,fp,f,rfl,S,W,hh,k⟩:=h;have sz:=sizeLine_eq;have hr2:Room 2 _:=hr.mono (by decide);have hr3:Room 3 _:=hr.mono (by decide);refine' ⟨_,a2_ ?s1 (a2_ ?s2 (a5_ ?s3)),?kk⟩
  case s1=>exact aa_ (i:=2) bF'.nd rfl (Or.inl rfl) (aX_ a3_)
  case' s2=>refine' aG_ PassesOwn.never rfl (an_ (bh_ cN TW.cl hr2 (ar_ (ar_ (pv 0) rfl) rfl) (a0_ (pv 1) a3_))) (a8_ (i:=3) bF'.nd rfl (Or.inl rfl)) (a5_ (aC_ ?t1 (a2_ ?b1 (a5_ ?b2)) ae_))
  case t1=>exact ao_ es_ (bh_ cL TS.cl hr3 (pv 0) (a0_ (pv 1) (a0_ (pv 3) a3_))) a7_ (nomark _)
  case b1=>exact ek_ (i:=4) ["move"] 1 [] bF'.nd rfl (Or.inl rfl) (an_ (pv 2)) (fun fp s H=>a8_ (i:=0) (show (["move"]:List Str).Nodup by decide +kernel) rfl (Or.inl rfl)) (fun fp s H=>aU_) (fun fp s H=>aF_ (ixK (K:=K) rIxT aQ_) (pv 0) a7_ (fun _ _=>rfl))
  case b2=>exact b7_ (ca_ PySem.F.plainAttrs_list PySem.F.slot_list_extend PySem.F.type_list_extend cL_ (pv 2) (a0_ (ah_ cH hr (a0_ (pv 0) (a0_ (pv 1) (a0_ (pv 3) (a0_ (pv 4) a3_))))) a3_))
  case s3=>exact ab_ (pv 2)
  case' kk=>skip
  have n8:(a6' hs).length<=8:=by have:=W.Gd.nlen;have:=W.Gd.h8;omega
  refine⟨by show 0<=sizeLine;decide,fun lm nm=>?_⟩;refine setG ?_;dsimp only;obtain⟨s1,e1⟩:=nw__ (o:=.lst []) nm;generalize upd H lm (.lst [])=H1 at s1 e1 ⊢;obtain⟨dx,dl,dv,dp,ad,h1,G,h3,h4,h5,h6⟩:=(S.same s1).ex;obtain⟨dxg,dw,dy,vs,fpw,g1,g2,_⟩:=id G.ex;obtain⟨dxw,d1,l2,d3,zs0,as,ef,w1,_⟩:=id g2.ex;have hnw:(flds d1 l2 d3).lookup ("neighbours":Str)=none:=aT_ _ _ _ (by decide +kernel) (by decide +kernel) (by decide +kernel);refine⟨_,rfl,v,CS,dx,_,_,rfl,h1,TS.cl,TS.nW,sf_g _ _ _ _,g,CG,dxg,_,_,rfl,g1,TG.cl,TG.nW,b8_ _ _ _,p,dxw,_,rfl,w1,hnw,_,rfl,p,h,hs,ts,fpw,rfl,g2,W.Gd.nnd,(al_ hs).mem_iff.mp hh,fun l1 n1=>?_⟩;obtain⟨s2,e2⟩:=nw__ (o:=.lst ((nb hs ts h).map V.str)) n1;have lml:lm≠l1:=a6_ e1 n1;have s02:=s1.trans s2;generalize upd H1 l1 (.lst ((nb hs ts h).map V.str))=H2 at s2 e2 s02 ⊢;have inn:∀x∈nb hs ts h,x∈a6' hs:=fun x hx=>gj_ hx
  have ll:(nb hs ts h).length<=8:=by
   have:=eb_ hs ts h;omega
  refine⟨l1,rfl,⟨_,.of e2⟩,aw_ (K:=K) (a:=l1) (xs:=(nb hs ts h).map V.str) (fun i σ H'=>∃(v3 v4:Option V) (ys:List V) (ms:List Mv),σ=[some (.ref v),some (.str h),some (.ref lm),v3,v4]/\Same H H'/\H' l1=some (.lst ((nb hs ts h).map V.str))/\H' lm=some (.lst ys)/\a8' K H' ys (ms.map kM)/\ms.length<=63 * i/\bD' hs ts qs f h ms ((nb hs ts h).drop i)=be' hs ts qs f h) ⟨none,none,[],[],rfl,s02,e2,s2 _ _ e1,.nil,ag' _,rfl⟩ (fun i σ H' _ ⟨_,_,_,_,_,_,z,_⟩=>.of z) ?_ ?_⟩
  ·rintro i x σ H3 hx ⟨v3,v4,ys,ms,rfl,sm3,l3,m3,t3,lms,eq3⟩;obtain⟨o,ho,rfl⟩:=ai_ hx;have hi:i<(nb hs ts h).length:=(ab'.mp ho).1;have om:=inn o (ac' ho);rw[ei_ ho] at eq3;have S3:=S.same sm3;obtain⟨dx3,_,_,_,_,k1,_⟩:=S3.ex;have ly:=Paired.length t3;rw[aa'] at ly;refine setG ?_;dsimp only;refine⟨_,rfl,v,dx3,_,rfl,k1,ko_ _ _ _ _ (by decide +kernel) (by decide +kernel) (by decide +kernel) (by decide +kernel),_,rfl,_,rfl,v,g,p,h,o,hs,ts,qs,fp,f,rfl,S3,W,hh,om,_,_,rfl,rfl,_,rfl,?_⟩;refine ite2 (fun c=>?_) (fun c=>?_)
   ·have c:0<bC' hs qs f h o:=by simpa using c
    have eq3:bD' hs ts qs f h (ms++shM hs ts qs f (ms.map (·.1)) h o) ((nb hs ts h).drop (i+1))=be' hs ts qs f h:=by
     rw[bD',if_pos c] at eq3;exact eq3
    refine⟨_,rfl,lm,rfl,⟨_,.of m3⟩,fun D hD=>?_⟩;refine aZ_ (own:=1) (fv:=[]) (xs:=ys) rfl gok1 (fun j out H'=>Same H3 H'/\H' D=some (.lst out)/\out=((ms.map (·.1)).take j).map V.str) ⟨Same.new hD,a1_,rfl⟩ (fun j out H' _ ⟨sm,_⟩=>.of (sm _ _ m3)) (fun out H4 ⟨s4,d4,eo⟩=>?_) (fun j x out H' hx ⟨sm,hd,eo⟩=>?_);rotate_left
    ·obtain⟨q,hq,a,rfl,ha⟩:=aN_ t3 hx;have hj:j<ms.length:=(ab'.mp hq).1;refine⟨_,rfl,rfl,fun Nx hN=>yesT ?_⟩;refine⟨_,rfl,a,_,0,.str q.1,rfl,rfl,.of (sm _ _ ha),L2.bW' (j:=0) rfl,out,hd,?_,hN (out++[.str q.1]) _ ⟨am_ sm hD,a1_,?_⟩⟩
     ·rw[eo,aa',ak'];omega
     ·rw[eo,ap_ (show (ms.map (·.1))[j]? = some q.1 by rw[an',hq];rfl),am'];rfl
    rw[ly,aL' (by rw[aa'];exact ag' _)] at eo;subst eo;refine setG ?_;dsimp only;have m4:=s4 _ _ m3;refine⟨_,rfl,.inl ⟨rfl,_,.of m4⟩,?_⟩;refine⟨_,rfl,_,rfl,_,rfl,_,rfl,v,g,p,D,h,o,ms.map (·.1),hs,ts,qs,fp,f,rfl,S3.same s4,W,hh,om,d4,fun l5 zs H5 s5 n5 e5 t5=>?_⟩;have s35:=s4.trans s5;have m5:=s35 _ _ m3;have lz:=Paired.length t5;have hl:=hg_ W (ms.map (·.1)) h o;rw[aa'] at lz;refine⟨lm,l5,ys,zs,rfl,rfl,m5,e5,by omega,?_⟩;refine⟨_,_,ys++zs,ms++shM hs ts qs f (ms.map (·.1)) h o,rfl,fun b u e=>?_,?_,a1_,?_,?_,eq3⟩
    ·rw[a4_ (a6_ e nm)];exact s35 _ _ (sm3 _ _ e)
    ·rw[a4_ lml.symm];exact s35 _ _ l3
    ·rw[am'];exact av_ (aV_ (t3.same s35) m5) (aV_ t5 m5)
    ·rw[aq'];omega
   ·have c:¬0<bC' hs qs f h o:=by simpa using c
    refine⟨_,_,ys,ms,rfl,sm3,l3,m3,t3,by omega,?_⟩;rw[bD',if_neg c] at eq3;exact eq3
  ·rintro σ H3 ⟨v3,v4,ys,ms,rfl,sm3,l3,m3,t3,lms,eq3⟩;rw[aa',List.drop_length] at eq3;refine⟨_,rfl,k lm ys H3 sm3 nm m3 ?_⟩;rw[<- eq3];exact t3
theorem fS_{f0 CS CG CW T:Addr}{fd:FuncData}(F:Fun K "moves_from" "moves_from" cK' f0 fd)(cL:Cal P w K mg base 5 "moves_by_shares" ["sight","hand"] (dl' K CS CG CW)):FnOk P w K mg base CX0 6 f0 fd ["sight","hand","words"] (spFrom K CS CG CW T (fun r=>r.2.1="shares") bL'):=by
 refine F.ok scMvFrom (fun vs H Q E h=>?_) (fun cdv A outer s H vs Q E hr h=>?_)
 ·obtain⟨v,g,p,aw,h,hs,ts,qs,fp,f,r,hr,rfl,_⟩:=h;rfl
 ·obtain⟨v,g,p,aw,h,hs,ts,qs,fp,f,r,hr',rfl,le,ha,S,W,hh,tab,k⟩:=h;refine' ⟨_,a2_ ?s0 (a2_ ?s1 (a5_ ?s2)),?kk⟩
  case s0=>exact aC_ (ao_ cX_ (aF_ aQ_ (pv 2) a7_ (fun _ _=>rfl)) au_ (nomark _)) ag_ ae_
  case s1=>exact aC_ (ao_ cX_ (aF_ aQ_ (pv 2) a7_ (fun _ _=>rfl)) au_ (nomark _)) ag_ ae_
  case s2=>exact ab_ (ah_ cL hr (a0_ (pv 0) (a0_ (pv 1) a3_)))
  case' kk=>skip
  have ln:¬r.2.1="least":=by rw[le];decide +kernel
  have lb:¬r.2.1="below":=by rw[le];decide +kernel
  refine⟨_,rfl,aw,_,_,_,rfl,rfl,ha _,rfl,rfl,_,rfl,?_⟩;rw[cp_,decide_eq_false ln];refine iteF ?_;refine⟨_,rfl,aw,_,_,_,rfl,rfl,ha _,rfl,rfl,_,rfl,?_⟩;rw[cp_,decide_eq_false lb];refine iteF ?_;exact⟨_,rfl,_,rfl,v,g,p,h,hs,ts,qs,fp,f,rfl,S,W,hh,fun l ys H' b n e tu=>k l ys H' (But.of b) (tab.same b) n e tu⟩
end
end Ev
namespace Ev
open PySem L2
section
variable{P:Program}{w:World}{K:F__}{mg:Str->Option Value}{base:Heap}
theorem scWeightL:a7' ["_law_state_here","_law_great"] ["_law_state_here","_law_great"] (a5' cv'):=f__
def cB':Sp:=fun vs H Q _=>∃(l:Addr) (g:Int),vs=[.ref l,.int g]/\0<=g/\g<4/\stt H l/\∀r H',1<=r->r<=1000000000->But l H H'->stt H' l->Q (.int r) H'
theorem fO_{f:Addr}{fd:FuncData}(F:Fun K "_law_weight" "_law_weight" cv' f fd)(cD:Cal P w K mg base 2 "_law_digit" ["_law_state_here","_law_base"] bH'):FnOk P w K mg base CX0 3 f fd ["_law_state_here","_law_great"] cB':=by
 refine F.ok scWeightL (fun vs H Q E h=>?_) (fun cdv A outer s H vs Q E hr h=>?_)
 ·obtain⟨l,g,rfl,_⟩:=h;rfl
 ·obtain⟨l,g,rfl,g0,g4,st,k⟩:=h;refine' ⟨_,a2_ ?s1 (a5_ ?s2),?kk⟩
  case s1=>exact aC_ (ao_ cX_ (pv 1) a7_ (nomark _)) (a5_ (ab_ (aF_ b2_ (aX_ (a0_ (aj_ iN_ a7_ a7_) (a0_ (aj_ aR_ a7_ (ah_ cD hr (a0_ (pv 0) (a0_ (aj_ iN_ a7_ a7_) a3_)))) a3_))) (ah_ cD hr (a0_ (pv 0) (a0_ a7_ a3_))) (fun _ _=>rfl)))) ae_
  case s2=>exact ab_ (aj_ aR_ a7_ (ah_ cD hr (a0_ (pv 0) (a0_ (aF_ b2_ (aX_ (a0_ a7_ (a0_ a7_ (a0_ a7_ a3_)))) (pv 1) (fun _ _=>rfl)) a3_))))
  case' kk=>skip
  refine⟨_,rfl,rfl,_,rfl,?_⟩;refine ite2 (fun c=>?_) (fun c=>?_)
  ·refine⟨_,_,rfl,rfl,⟨by decide,by decide,by decide⟩,_,rfl,_,_,rfl,rfl,⟨by decide,by decide,by decide⟩,l,(10:Int) ^ (9:Int).toNat,rfl,by decide,by decide,st,fun r1 H1 q0 q1 b1 st1=>⟨_,_,rfl,rfl,?_⟩⟩;have q1:r1<1000000000:=q1;refine⟨by show 2<=sizeLine;decide,fun lx nx=>?_⟩;obtain⟨s2,e2⟩:=nw__ (o:=.lst [.int ((10:Int) ^ (9:Int).toNat),.int (1+r1)]) nx;have xl:=st1.ne nx;generalize upd H1 lx (.lst [.int ((10:Int) ^ (9:Int).toNat),.int (1+r1)])=H2 at s2 e2 ⊢;refine⟨_,rfl,l,2,rfl,by decide,by decide,st1.same s2,fun r2 H3 u0 u1 b3 st3=>?_⟩
   obtain⟨v,hv,x,rfl,x1,x2⟩:=hitL (p:=fun v:V=>∃x:Int,v=V.int x/\1<=x/\x<=1000000000) (xs:=[V.int ((10:Int) ^ (9:Int).toNat),.int (1+r1)]) (n:=2) rfl u0 u1 (fun v hv=>by
    simp only[aj',aV',or_false] at hv;rcases hv with rfl|rfl
    ·exact⟨_,rfl,by decide,by decide⟩
    ·exact⟨_,rfl,by omega,by omega⟩)
   exact⟨lx,_,_,_,rfl,rfl,.of (b3 _ _ e2 xl),hv,k x H3 x1 x2 ((b1.trans (But.of s2)).trans b3) st3⟩
  ·have g3:g<3:=by
    have:¬g=3:=fun z=>c (by rw[z];rfl);omega
   refine⟨_,rfl,by show 3<=sizeLine;decide,fun lx nx=>?_⟩;obtain⟨s2,e2⟩:=nw__ (o:=.lst [.int 3,.int 12,.int 1000]) nx;generalize upd H lx (.lst [.int 3,.int 12,.int 1000])=H2 at s2 e2 ⊢
   obtain⟨v,hv,x,rfl,x1,x2⟩:=hitL (p:=fun v:V=>∃x:Int,v=V.int x/\1<=x/\x<=1000) (xs:=[V.int 3,.int 12,.int 1000]) (n:=3) rfl g0 g3 (fun v hv=>by
    simp only[aj',aV',or_false] at hv;rcases hv with rfl|rfl|rfl
    ·exact⟨_,rfl,by decide,by decide⟩
    ·exact⟨_,rfl,by decide,by decide⟩
    ·exact⟨_,rfl,by decide,by decide⟩)
   refine⟨_,rfl,lx,_,_,_,rfl,rfl,.of e2,hv,l,x,rfl,by omega,by omega,st.same s2,fun r1 H3 q0 q1 b3 st3=>⟨_,_,rfl,rfl,?_⟩⟩;exact k (1+r1) H3 (by omega) (by omega) ((But.of s2).trans b3) st3
theorem bU':a7' ["_law_state_here","_law_ties","_law_found","_law_one","_law_other","_law_pair"] ["_law_state_here","_law_ties"] (a5' sWaysL):=f__
def spWaysL(K:F__):Sp:=fun vs H Q _=>∃(l lt:Addr) (zs:List V) (ts:List (Str × Str)),vs=[.ref l,.ref lt]/\stt H l/\H lt=some (.lst zs)/\lt≠l/\a8' K H zs (ts.map kT)/\ts.length<64/\(∀t∈ts,c0' t)/\(ts.map kO).Nodup /\
 ∀lw ys ws H',But l H H'->stt H' l->H lw=none->H' lw=some (.lst ys)->a8' K H' ys (ws.map kT)->cf' ts ws->Q (.ref lw) H'
set_option maxHeartbeats 1600000 in
theorem i5_{f:Addr}{fd:FuncData}(F:Fun K "_law_ways" "_law_ways" sWaysL f fd)(B:Bi mg)(cD:Cal P w K mg base 2 "_law_digit" ["_law_state_here","_law_base"] bH'):FnOk P w K mg base CX0 3 f fd ["_law_state_here","_law_ties"] (spWaysL K):=by
 refine F.ok bU' (fun vs H Q E h=>?_) (fun cdv A outer s H vs Q E hr h=>?_)
 ·obtain⟨l,lt,zs,ts,rfl,_⟩:=h;rfl
 ·obtain⟨l,lt,zs,ts,rfl,st,hlt,ltl,tt,h64,good,nd,k⟩:=h;have sz:=sizeLine_eq;refine' ⟨_,a2_ ?s1 (a2_ ?s2 (a5_ ?s3)),?kk⟩
  case s1=>exact aa_ (i:=2) bU'.nd rfl (Or.inl rfl) (aX_ a3_)
  case' s2=>refine' aG_ PassesOwn.never rfl (an_ (pv 1)) (bf_ rfl (af_ (a8_ (i:=3) bU'.nd rfl (Or.inl rfl)) (af_ (a8_ (i:=4) bU'.nd rfl (Or.inl rfl)) aY_))) (a2_ ?b1 (a5_ ?b2))
  case b1=>exact aa_ (i:=5) bU'.nd rfl (Or.inl rfl) (aF_ b2_ (aX_ (a0_ (aH_ (a0_ (pv 3) (a0_ (pv 4) a3_))) (a0_ (aH_ (a0_ (pv 4) (a0_ (pv 3) a3_))) a3_))) (ah_ cD hr (a0_ (pv 0) (a0_ a7_ a3_))) (fun _ _=>rfl))
  case b2=>exact aa_ (i:=2) bU'.nd rfl (Or.inl rfl) (aj_ is_ (pv 2) (aj_ ir_ (aX_ (a0_ (pv 5) a3_)) (aq_ bS_ (by rfl) B.int PyProof.Rows.Boot.«int» (a0_ (bd_ es_ (ah_ cD hr (a0_ (pv 0) (a0_ a7_ a3_))) a7_ (nomark _)) a3_))))
  case s3=>exact ab_ (pv 2)
  case' kk=>skip
  have lz:=Paired.length tt;rw[aa'] at lz;refine⟨by show 0<=sizeLine;decide,fun lw0 nw0=>?_⟩;obtain⟨s1,e1⟩:=nw__ (o:=.lst []) nw0;have w0l:=st.ne nw0;refine setG ?_;dsimp only;generalize upd H lw0 (.lst [])=H1 at s1 e1 ⊢;refine⟨_,rfl,lt,rfl,⟨_,.of (s1 _ _ hlt)⟩,aw_ (K:=K) (a:=lt) (xs:=zs) (fun i σ H'=>∃(lw:Addr) (v3 v4 v5:Option V) (ys:List V) (ws us:List (Str × Str)),σ=[some (.ref l),some (.ref lt),some (.ref lw),v3,v4,v5]/\But l H H'/\stt H' l/\H lw=none/\lw≠l/\H' lw=some (.lst ys)/\a8' K H' ys (ws.map kT)/\us.Sublist (ts.take i)/\Paired (fun w u=>w=u∨w=(u.2,u.1)) ws us) ⟨lw0,none,none,none,[],[],[],rfl,But.of s1,st.same s1,nw0,w0l,e1,.nil,List.Sublist.refl _,.nil⟩ (fun i σ H' _ ⟨_,_,_,_,_,_,_,_,b,_⟩=>.of (b _ _ hlt ltl)) ?_ ?_⟩
  ·rintro i x σ H2 hx ⟨lw,v3,v4,v5,ys,ws,us,rfl,b2,st2,nw,wl,hw,tw,sub,pr⟩;obtain⟨t,ht,a,rfl,ha⟩:=aN_ tt hx;obtain⟨xs0,hl0⟩:=st.some;have ha2:=b2 _ _ (hpT ha) (az_ (hpT ha) hl0 nofun);refine⟨a,_,rfl,.of ha2,rfl,_,_,rfl,_,_,rfl,rfl,?_⟩;dsimp only
   have lu:us.length<=i:=by
    have:=sub.length_le;rw[ak'] at this;omega
   have lws:=Paired.length pr;have ly:=Paired.length tw;rw[aa'] at ly
   have hi:i<ts.length:=by
    have:=(ab'.mp ht).1;omega
   refine seqG (fun σ H'=>∃(q:Addr) (qq:Str × Str),σ=[some (.ref l),some (.ref lt),some (.ref lw),some (.str t.1),some (.str t.2),some (.ref q)]/\But l H H'/\stt H' l/\H' lw=some (.lst ys)/\a8' K H' ys (ws.map kT)/\H' q=some (.tup ((kT qq).map kV))/\(qq=t∨qq=(t.2,t.1))) ?m2 ?m1
   case m1=>
    intro N hN;refine⟨_,rfl,_,rfl,by show 2<=sizeLine;decide,fun t1 ht1=>?_⟩;obtain⟨s11,e11⟩:=nw__ (o:=.tup [.str t.1,.str t.2]) ht1;generalize upd H2 t1 (.tup [.str t.1,.str t.2])=H3 at s11 e11 ⊢;refine⟨_,rfl,_,rfl,by show 2<=sizeLine;decide,fun t2 ht2=>?_⟩;obtain⟨s12,e12⟩:=nw__ (o:=.tup [.str t.2,.str t.1]) ht2;generalize upd H3 t2 (.tup [.str t.2,.str t.1])=H4 at s12 e12 ⊢;refine⟨by show 2<=sizeLine;decide,fun lx hlx=>?_⟩;obtain⟨s13,e13⟩:=nw__ (o:=.lst [.ref t1,.ref t2]) hlx;have xl:=((st2.same s11).same s12).ne hlx;generalize upd H4 lx (.lst [.ref t1,.ref t2])=H5 at s13 e13 ⊢;have s25:=(s11.trans s12).trans s13;have st5:=st2.same s25;obtain⟨xs5,hl5⟩:=st5.some;refine⟨_,rfl,l,2,rfl,by decide,by decide,st5,fun r5 H6 q4 q5 b6 st6=>?_⟩;have tup6:∀{b:Addr} {zs:List V},H5 b=some (.tup zs)->H6 b=some (.tup zs):=fun e=>b6 _ _ e (az_ e hl5 nofun)
    have pick:∃(q:Addr) (qq:Str × Str),atI [V.ref t1,V.ref t2] r5=some (.ref q)/\H6 q=some (.tup ((kT qq).map kV))/\(qq=t∨qq=(t.2,t.1)):=by
     rcases hit2 (a:=V.ref t1) (b:=V.ref t2) q4 q5 with e|e
     ·exact⟨t1,t,e,tup6 (s13 _ _ (s12 _ _ e11)),.inl rfl⟩
     ·exact⟨t2,(t.2,t.1),e,tup6 (s13 _ _ e12),.inr rfl⟩
    obtain⟨q,qq,et,hqq,hor⟩:=pick;have b26:But l H2 H6:=(But.of s25).trans b6;exact⟨lx,_,_,_,rfl,rfl,.of (b6 _ _ e13 xl),et,hN _ _ ⟨q,qq,rfl,b2.trans b26,st6,b26 _ _ hw wl,b4_ (tw.same s25) b6 hl5,hqq,hor⟩⟩
   rintro σ H6 ⟨q,qq,rfl,b6,st6,hw6,tw6,hqq,hor⟩;refine⟨_,rfl,_,rfl,by show 1<=sizeLine;decide,fun lx hlx=>?_⟩;obtain⟨s7,e7⟩:=nw__ (o:=.lst [.ref q]) hlx;have xl:=st6.ne hlx;generalize upd H6 lx (.lst [.ref q])=H7 at s7 e7 ⊢;have st7:=st6.same s7;obtain⟨xs7,hl7⟩:=st7.some;refine⟨_,rfl,l,3,rfl,by decide,by decide,st7,fun r6 H8 q6 q7 b8 st8=>⟨_,_,rfl,rfl,.inr ⟨_,rfl,?_⟩⟩⟩;have hw8:=b8 _ _ (s7 _ _ hw6) wl;have e8:=b8 _ _ e7 xl;have tw8:=b4_ (tw6.same s7) b8 hl7;have hq8:=b8 _ _ (s7 _ _ hqq) (az_ (s7 _ _ hqq) hl7 nofun);have b08:But l H H8:=b6.trans ((But.of s7).trans b8);refine⟨lx,_,_,rfl,rfl,e8,?_,?_,?_,fun p hp=>?_⟩
   ·by_cases c:decide (0<r6)=true
    ·rw[if_pos c];decide
    ·rw[if_neg c];decide
   ·by_cases c:decide (0<r6)=true
    ·rw[if_pos c];decide
    ·rw[if_neg c];decide
   ·by_cases c:decide (0<r6)=true
    ·rw[if_pos c];show 1 * 1<=sizeLine;decide
    ·rw[if_neg c];show 1 * 0<=sizeLine;decide
   obtain⟨s9,e9⟩:=nw__ (o:=.lst (List.replicate (if decide (0<r6)=true then (1:Int) else 0).toNat [V.ref q]).flatten) hp;generalize upd H8 p (.lst (List.replicate (if decide (0<r6)=true then (1:Int) else 0).toNat [V.ref q]).flatten)=H9 at s9 e9 ⊢;refine⟨lw,p,_,_,rfl,rfl,s9 _ _ hw8,e9,?_,fun u hu=>?_⟩
   ·by_cases c:decide (0<r6)=true
    ·rw[if_pos c];show ys.length+1<=sizeLine;omega
    ·rw[if_neg c];show ys.length+0<=sizeLine;omega
   have s10:=Same.new (o:=.lst (ys++(List.replicate (if decide (0<r6)=true then (1:Int) else 0).toNat [V.ref q]).flatten)) hu;have s90:=s9.trans s10;have b0u:But l H (upd H9 u (.lst (ys++(List.replicate (if decide (0<r6)=true then (1:Int) else 0).toNat [V.ref q]).flatten))):=b08.trans (But.of s90);have st9:=st8.same s9;refine⟨u,_,_,_,_,if decide (0<r6)=true then ws++[qq] else ws,if decide (0<r6)=true then us++[t] else us,rfl,b0u,st8.same s90,(b08.trans (But.of s9)).free st9 hu,st9.ne hu,a1_,?_,?_,?_⟩
   ·by_cases c:decide (0<r6)=true
    ·rw[if_pos c,if_pos c];show a8' K _ (ys++[V.ref q]) ((ws++[qq]).map kT);rw[am'];rw[if_pos c] at s90;exact bv_ (tw8.same s90) (s90 _ _ hq8)
    ·rw[if_neg c,if_neg c];show a8' K _ (ys++[]) (ws.map kT);rw[aA'];rw[if_neg c] at s90;have:=tw8.same s90;simpa using this
   ·have e:ts.take (i+1)=ts.take i++[t]:=by rw[aB',ht];rfl
    rw[e];by_cases c:decide (0<r6)=true
    ·rw[if_pos c];exact sub.append (List.Sublist.refl _)
    ·rw[if_neg c];exact sub.trans (List.sublist_append_left _ _)
   ·by_cases c:decide (0<r6)=true
    ·rw[if_pos c,if_pos c];exact av_ pr (.cons hor .nil)
    ·rw[if_neg c,if_neg c];exact pr
  ·rintro σ H2 ⟨lw,v3,v4,v5,ys,ws,us,rfl,b2,st2,nw,wl,hw,tw,sub,pr⟩;rw[lz,ap'] at sub;exact⟨_,rfl,k lw ys ws H2 b2 st2 nw hw tw (j7_ good nd sub pr)⟩
end
end Ev
namespace Ev
open PySem L2
theorem in_{K:F__}{H:Hp}{a l:Addr}{ys:List V}{ks:List (List Key)}(t:a8' K H ys ks)(ha:H a=some (.lst ys))(st:stt H l):a≠l:=fun e=>by
 subst e;obtain⟨x,y,z,e⟩:=st;rw[ha] at e;have e:ys=_:=HO.lst.inj (Option.some.inj e);subst e;cases t with
 |cons h _=>
  obtain⟨b,z,_⟩:=h;cases z
theorem WyAt.mv{K:F__}{H H':Hp}{l:Addr}{v:V}{o:Option (List (Str × Str))}(h:WyAt K H v o)(b:But l H H')(st:stt H l):WyAt K H' v o:=by
 cases o with
 |none=>exact h
 |some ws=>
  obtain⟨a,ys,e,ha,t⟩:=h;obtain⟨xs,hl⟩:=st.some;exact⟨a,ys,e,b _ _ ha (in_ t ha st),b4_ t b hl⟩
def PcI(K:F__)(H:Hp)(lp:Addr)(y:V)(p:Pc):Prop:=∃t v,y=.ref t/\H t=some (.tup [.str p.1,.int p.2.1,v])/\WyAt K H v p.2.2/\v≠.ref lp
structure GI (K:F__) (H0 H:Hp) (l ln lp d:Addr) (ns:List Str) (hs:List (Str × Int)) (ts:List (Str × Str)) (i j:Nat):Prop where
 but:But l H0 H
 st:stt H l
 hn:H ln=some (.lst (ns.map V.str))
 pcs:∃yp ps,H lp=some (.lst yp)/\Paired (PcI K H lp) yp ps/\ps.map (·.1)=ns.take i/\∀q∈ps,cS' ts q
 std:∃f:Str->Str,H d=some (.dK (stF (ns.take j) f))/\∀n∈ns.take j,f n∈hs.map (·.1)
 nl:ln≠l
 pl:lp≠l
 dl:d≠l
 np:ln≠lp
 fp:H0 lp=none
 fd:H0 d=none
section
variable{K:F__}{H0 H G:Hp}{l ln lp d:Addr}{ns:List Str}{hs:List (Str × Int)}{ts:List (Str × Str)}{i j:Nat}
theorem GI.mv(W:GI K H0 H l ln lp d ns hs ts i j)(b:But l H G)(st:stt G l):GI K H0 G l ln lp d ns hs ts i j:=by
 obtain⟨yp,ps,h1,h2,h3,h4⟩:=W.pcs;obtain⟨f,d1,d2⟩:=W.std;obtain⟨xs,hl⟩:=W.st.some;exact⟨W.but.trans b,st,b _ _ W.hn W.nl,⟨yp,ps,b _ _ h1 W.pl,Paired.mapP h2 fun y p ⟨t,v,e,ht,wy,n⟩=>⟨t,v,e,b _ _ ht (az_ ht hl nofun),wy.mv b W.st,n⟩,h3,h4⟩,⟨f,b _ _ d1 W.dl,d2⟩,W.nl,W.pl,W.dl,W.np,W.fp,W.fd⟩
theorem GI.same(W:GI K H0 H l ln lp d ns hs ts i j)(s:Same H G):GI K H0 G l ln lp d ns hs ts i j:=W.mv (But.of s) (W.st.same s)
theorem GI.piece(W:GI K H0 H l ln lp d ns hs ts i j){n:Str}{x:Int}{v:V}{o:Option (List (Str × Str))}{t:Addr}{yp:List V}(hn:ns[i]? = some n)(hp:H lp=some (.lst yp))(ht:H t=some (.tup [.str n,.int x,v]))(wy:WyAt K H v o)(nv:v≠.ref lp)(g:cS' ts (n,x,o)):GI K H0 (upd H lp (.lst (yp++[.ref t]))) l ln lp d ns hs ts (i+1) j:=by
 obtain⟨yp',ps,h1,h2,h3,h4⟩:=W.pcs;obtain⟨f,d1,d2⟩:=W.std;rw[hp] at h1;cases h1;refine⟨fun b o e ne=>by rw[a4_ (a6_ e W.fp)];exact W.but b o e ne,?_,by rw[a4_ W.np];exact W.hn,⟨_,ps++[(n,x,o)],a1_,av_ (Paired.mapP h2 fun y p ⟨t,v,e,ht,wy,n⟩=>⟨t,v,e,by rw[a4_ (az_ ht hp nofun)];exact ht,wy.put hp n,n⟩) (.cons ⟨t,v,rfl,by rw[a4_ (az_ ht hp nofun)];exact ht,wy.put hp nv,nv⟩ .nil),?_,fun q hq=>?_⟩,⟨f,by rw[a4_ (az_ d1 hp nofun)];exact d1,d2⟩,W.nl,W.pl,W.dl,W.np,W.fp,W.fd⟩
 ·exact W.st.upd W.pl
 ·rw[am',h3,ap_ hn];rfl
 ·rcases aw'.mp hq with hq|hq
  ·exact h4 q hq
  ·rw[aG'.mp hq];exact g
theorem GI.put(W:GI K H0 H l ln lp d ns hs ts i j)(nd:ns.Nodup){n h:Str}{f:Str->Str}(hn:ns[j]? = some n)(hd:H d=some (.dK (stF (ns.take j) f)))(fm:∀n∈ns.take j,f n∈hs.map (·.1))(hh:h∈hs.map (·.1)):GI K H0 (upd H d (.dK (putK (stF (ns.take j) f) (Sum.inr n) (.str h)))) l ln lp d ns hs ts i (j+1):=by
 obtain⟨yp,ps,h1,h2,h3,h4⟩:=W.pcs;have nn:=bP_ nd hn;have pd:∀{b:Addr} {zs:List V},H b=some (.tup zs)->b≠d:=fun e z=>by rw[z,hd] at e;cases e
 have ld:∀{b:Addr} {zs:List V},H b=some (.lst zs)->b≠d:=fun e z=>by rw[z,hd] at e;cases e
 refine⟨fun b o e ne=>by rw[a4_ (a6_ e W.fd)];exact W.but b o e ne,W.st.upd W.dl,by rw[a4_ (ld W.hn)];exact W.hn,⟨yp,ps,by rw[a4_ (ld h1)];exact h1,Paired.mapP h2 fun y p ⟨t,v,e,ht,wy,n⟩=>⟨t,v,e,by rw[a4_ (pd ht)];exact ht,?_,n⟩,h3,h4⟩,⟨fun m=>if m=n then h else f m,?_,fun m hm=>?_⟩,W.nl,W.pl,W.dl,W.np,W.fp,W.fd⟩
 ·cases o:p.2.2 with
  |none=>rw[o] at wy;exact wy
  |some ws=>
   rw[o] at wy;obtain⟨a,ys,e,ha,tu⟩:=wy;exact⟨a,ys,e,by rw[a4_ (ld ha)];exact ha,Paired.mapP tu fun y k ⟨b,z,q⟩=>⟨b,z,by rw[a4_ (pd q)];exact q⟩⟩
 ·rw[a1_,dl_ nn,ap_ hn];refine congrArg (fun x=>some (HO.dK x)) (bw_ fun m hm=>?_);dsimp only;by_cases z:m=n
  ·simp only[if_pos z]
  ·simp only[if_neg z]
 ·dsimp only;rw[ap_ hn] at hm;by_cases z:m=n
  ·rw[if_pos z];exact hh
  ·rw[if_neg z];rcases aw'.mp hm with hm|hm
   ·exact fm m hm
   ·exact absurd (aG'.mp hm) z
end
section
variable{P:Program}{w:World}{K:F__}{mg:Str->Option Value}{base:Heap}
abbrev gN:List Str:=["_law_state_here","_law_hands","_law_ties","_law_many","_law_great","_law_free","_law_heap","_law_pieces","_law_stand","_law_name","_law_ways_here","_law_at"]
theorem bq':a7' gN ["_law_state_here","_law_hands","_law_ties"] (a5' cJ'):=f__
def c6'(K:F__):Sp:=fun vs H Q _=>∃(l lh lt:Addr) (yh zs:List V) (hs:List (Str × Int)) (ts:List (Str × Str)),vs=[.ref l,.ref lh,.ref lt]/\stt H l/\H lh=some (.lst yh)/\lh≠l/\a8' K H yh (hs.map kH)/\H lt=some (.lst zs)/\lt≠l/\a8' K H zs (ts.map kT)/\Good hs ts /\
 ∀(t lp d:Addr) (yp:List V) (ps:List Pc) (f:Str->Str) (H':Hp),But l H H'->stt H' l->H' t=some (.tup [.ref lp,.ref d])->H lp=none->H d=none->lp≠l->d≠l->H' lp=some (.lst yp)->PcsAt K H' yp ps->H' d=some (.dK (stF (ps.map (·.1)) f))->(∀q∈ps,cS' ts q)->(ps.map (·.1)).Nodup->ps.length<=30->(∀n∈ps.map (·.1),f n∈hs.map (·.1))->Q (.ref t) H'
set_option maxHeartbeats 3200000 in
theorem g4_{f0:Addr}{fd:FuncData}(F:Fun K "_law_goods" "_law_goods" cJ' f0 fd)(B:Bi mg)(cD:Cal P w K mg base 2 "_law_digit" ["_law_state_here","_law_base"] bH')(cN:Cal P w K mg base 3 "_law_named" ["_law_state_here","_law_many"] cF')(cW:Cal P w K mg base 3 "_law_weight" ["_law_state_here","_law_great"] cB')(cY:Cal P w K mg base 3 "_law_ways" ["_law_state_here","_law_ties"] (spWaysL K)):FnOk P w K mg base CX0 4 f0 fd ["_law_state_here","_law_hands","_law_ties"] (c6' K):=by
 refine F.ok bq' (fun vs H Q E h=>?_) (fun cdv A outer s H vs Q E hr h=>?_)
 ·obtain⟨l,lh,lt,yh,zs,hs,ts,rfl,_⟩:=h;rfl
 ·obtain⟨l,lh,lt,yh,zs,hs,ts,rfl,st,hlh,lhl,th,hlt,ltl,tt,Gd,k⟩:=h;have sz:=sizeLine_eq;have hu:=b3_ hr;have hr2:Room 2 _:=hr.mono (by decide);refine' ⟨_,?r0,?kk⟩
  case' r0=>refine' a2_ ?s1 ?r1
  case' r1=>refine' a2_ ?s2 ?r2
  case' r2=>refine' a2_ ?s3 ?r3
  case' r3=>refine' a2_ ?s4 ?r4
  case' r4=>refine' a2_ ?s5 ?r5
  case' r5=>refine' a2_ ?s6 ?r6
  case' r6=>refine' a2_ ?s7 (a5_ ?s8)
  case s1=>exact aa_ (i:=3) bq'.nd rfl (Or.inl rfl) (aF_ b2_ (aX_ (a0_ (ah_ cD hr2 (a0_ (pv 0) (a0_ a7_ a3_))) (a0_ (ah_ cD hr2 (a0_ (pv 0) (a0_ a7_ a3_))) a3_))) (ah_ cD hr2 (a0_ (pv 0) (a0_ a7_ a3_))) (fun _ _=>rfl))
  case s2=>exact aa_ (i:=4) bq'.nd rfl (Or.inl rfl) (ah_ cD hr2 (a0_ (pv 0) (a0_ a7_ a3_)))
  case s3=>exact aa_ (i:=5) bq'.nd rfl (Or.inl rfl) (ah_ cD hr2 (a0_ (pv 0) (a0_ a7_ a3_)))
  case s4=>exact aa_ (i:=6) bq'.nd rfl (Or.inl rfl) (ah_ cD hr2 (a0_ (pv 0) (a0_ a7_ a3_)))
  case s5=>exact aa_ (i:=7) bq'.nd rfl (Or.inl rfl) (aX_ a3_)
  case s6=>exact aa_ (i:=8) bq'.nd rfl (Or.inl rfl) bl_
  case' s7=>refine' aG_ PassesOwn.never rfl (an_ (ah_ cN hr (a0_ (pv 0) (a0_ (pv 3) a3_)))) (a8_ (i:=9) bq'.nd rfl (Or.inl rfl)) ?b0
  case' b0=>refine' a2_ ?b1 ?c1
  case' c1=>refine' a2_ ?b2 ?c2
  case' c2=>refine' a2_ ?b3 ?c3
  case' c3=>refine' a2_ ?b4 (a5_ ?b5)
  case b1=>exact aa_ (i:=10) bq'.nd rfl (Or.inl rfl) dZ_
  case b2=>exact aC_ (PW.pt (dV_ (ao_ cX_ (pv 5) a7_ (nomark _)) (du_ (ao_ es_ (ah_ cD hr2 (a0_ (pv 0) (a0_ a7_ a3_))) a7_ (nomark _))))) (a5_ (aa_ (i:=10) bq'.nd rfl (Or.inl rfl) (ah_ cY hr (a0_ (pv 0) (a0_ (pv 2) a3_))))) ae_
  case b3=>exact b7_ (ca_ PySem.F.plainAttrs_list PySem.F.slot_list_append PySem.F.type_list_append b9_ (pv 7) (a0_ (aH_ (a0_ (pv 9) (a0_ (ah_ cW hr (a0_ (pv 0) (a0_ (pv 4) a3_))) (a0_ (pv 10) a3_)))) a3_))
  case b4=>exact aa_ (i:=11) bq'.nd rfl (Or.inl rfl) (ah_ cD hr2 (a0_ (pv 0) (a0_ (ad_ aD_ (by rfl) B.len PySem.boot_len (a0_ (pv 1) a3_)) a3_)))
  case' b5=>refine' bc_ hu (pv 8) (pv 9) (aF_ aQ_ (aF_ b2_ (pv 1) ?ix (fun _ _=>rfl)) a7_ (fun _ _=>rfl)) rfl
  case ix=>exact aj_ ba_ (pv 11) (aq_ bS_ (by rfl) B.int PyProof.Rows.Boot.«int» (a0_ (i8_ (bd_ cX_ (pv 6) a7_ (nomark _)) (bj_ (bd_ cX_ (ah_ cD hr2 (a0_ (pv 0) (a0_ a7_ a3_))) a7_ (nomark _)))) a3_))
  case s8=>exact ab_ (aH_ (a0_ (pv 7) (a0_ (pv 8) a3_)))
  case' kk=>skip
  have lyh:=Paired.length th;rw[aa'] at lyh;have h1':=Gd.h1;have h8':=Gd.h8;refine⟨_,rfl,l,9,rfl,by decide,by decide,st,fun a1 H1 p0 p1 b1 st1=>?_⟩;refine⟨_,rfl,l,31,rfl,by decide,by decide,st1,fun a2 H2 p2 p3 b2 st2=>?_⟩;refine⟨by show 2<=sizeLine;decide,fun lx nx=>?_⟩;obtain⟨s3,e3⟩:=nw__ (o:=.lst [.int a1,.int a2]) nx;have xl:=st2.ne nx;generalize upd H2 lx (.lst [.int a1,.int a2])=H3 at s3 e3 ⊢;refine⟨_,rfl,l,2,rfl,by decide,by decide,st2.same s3,fun a3 H4 p4 p5 b4 st4=>?_⟩
  obtain⟨v,hv,m,rfl,m0,m30⟩:=hitL (p:=fun v:V=>∃x:Int,v=V.int x/\0<=x/\x<=30) (xs:=[V.int a1,.int a2]) (n:=2) rfl p4 p5 (fun v hv=>by
   simp only[aj',aV',or_false] at hv;rcases hv with rfl|rfl
   ·exact⟨_,rfl,by omega,by omega⟩
   ·exact⟨_,rfl,by omega,by omega⟩)
  obtain⟨m,rfl⟩:=aE' m0;refine⟨lx,_,_,_,rfl,rfl,.of (b4 _ _ e3 xl),hv,?_⟩;have b04:But l H H4:=(b1.trans b2).trans ((But.of s3).trans b4);refine setG ?_;dsimp only;clear b1 b2 b4 s3 e3 hv nx st1 st2;refine⟨_,rfl,l,4,rfl,by decide,by decide,st4,fun gr H5 g0 g4 b5 st5=>?_⟩;refine setG ?_;dsimp only;refine⟨_,rfl,l,2,rfl,by decide,by decide,st5,fun fr H6 f0 f2 b6 st6=>?_⟩;refine setG ?_;dsimp only;refine⟨_,rfl,l,2,rfl,by decide,by decide,st6,fun hp H7 q0 q2 b7 st7=>?_⟩;refine setG ?_;dsimp only;have b07:But l H H7:=b04.trans (b5.trans (b6.trans b7));clear b04 b5 b6 b7 st4 st5 st6;refine⟨by show 0<=sizeLine;decide,fun lp np=>?_⟩;refine setG ?_;dsimp only;obtain⟨s8,e8⟩:=nw__ (o:=.lst []) np;have lpl:=st7.ne np;have fp0:H lp=none:=b07.free st7 np;generalize upd H7 lp (.lst [])=H8 at s8 e8 ⊢;have st8:=st7.same s8;have b08:=b07.trans (But.of s8);refine fun d nd=>?_;refine setG ?_;dsimp only;obtain⟨s9,e9⟩:=nw__ (o:=.dK []) nd;have dl:=st8.ne nd;have fd0:H d=none:=b08.free st8 nd;generalize upd H8 d (.dK [])=H9 at s9 e9 ⊢;have st9:=st8.same s9;have b09:=b08.trans (But.of s9);refine⟨_,rfl,_,rfl,l,m,rfl,by omega,st9,fun ln ns H10 b10 st10 nn hn N=>?_⟩;have lnl:ln≠l:=st9.ne nn;have W0:GI K H H10 l ln lp d ns hs ts 0 0:=⟨b09.trans b10,st10,hn,⟨[],[],b10 _ _ (s9 _ _ e8) lpl,.nil,rfl,by simp⟩,⟨fun _=>"",b10 _ _ e9 dl,by simp⟩,lnl,lpl,dl,(a6_ (s9 _ _ e8) nn).symm,fp0,fd0⟩;clear b07 b08 b09 b10 st7 st8 st9 st10 s8 s9 e8 e9 np nd nn hn;have n30:ns.length<=30:=by rw[N.len];omega
  refine⟨ln,rfl,⟨_,.of W0.hn⟩,aw_ (K:=K) (a:=ln) (xs:=ns.map V.str) (fun i σ H'=>∃(v9 v10 v11:Option V),σ=[some (.ref l),some (.ref lh),some (.ref lt),some (.int m),some (.int gr),some (.int fr),some (.int hp),some (.ref lp),some (.ref d),v9,v10,v11]/\GI K H H' l ln lp d ns hs ts i i) ⟨none,none,none,rfl,W0⟩ (fun i σ H' _ ⟨_,_,_,_,W⟩=>.of W.hn) ?_ ?_⟩
  ·rintro i x σ H2 hx ⟨v9,v10,v11,rfl,W⟩;obtain⟨n,hn,rfl⟩:=ai_ hx;have hi:i<ns.length:=(ab'.mp hn).1;refine setG ?_;dsimp only;refine setG (i:=10) (v:=.non) ?_;dsimp only;refine seqG (fun σ H'=>∃(wv:V) (o:Option (List (Str × Str))),σ=[some (.ref l),some (.ref lh),some (.ref lt),some (.int m),some (.int gr),some (.int fr),some (.int hp),some (.ref lp),some (.ref d),some (.str n),some wv,v11]/\GI K H H' l ln lp d ns hs ts i i/\WyAt K H' wv o/\wv≠.ref lp/\∀ws,o=some ws->cf' ts ws) ?m2 ?m1
   case m1=>
    intro N1 hN;have none':∀{H3:Hp},GI K H H3 l ln lp d ns hs ts i i->N1 [some (.ref l),some (.ref lh),some (.ref lt),some (.int m),some (.int gr),some (.int fr),some (.int hp),some (.ref lp),some (.ref d),some (.str n),some .non,v11] H3:=fun W3=>hN _ _ ⟨.non,none,rfl,W3,rfl,(fun z=>by cases z),fun ws e=>by cases e⟩;refine⟨_,rfl,rfl,_,rfl,?_⟩;refine ite2 (fun c=>?_) (fun c=>?_)
    ·refine⟨_,rfl,l,3,rfl,by decide,by decide,W.st,fun r1 H3 u0 u1 b3 st3=>⟨_,_,rfl,rfl,_,rfl,?_⟩⟩;have W3:=W.mv b3 st3;refine ite2 (fun c2=>?_) (fun c2=>?_)
     ·refine⟨_,rfl,_,rfl,l,lt,zs,ts,rfl,st3,W3.but _ _ hlt ltl,ltl,?_,Gd.t64,Gd.tok,Gd.tnd,fun lw ys ws H4 b4 st4 nw hw tw wo=>?_⟩
      ·obtain⟨xs0,hl0⟩:=st.some;exact b4_ tt W3.but hl0
      have W4:=W3.mv b4 st4;refine hN _ _ ⟨.ref lw,some ws,rfl,W4,⟨lw,ys,rfl,hw,tw⟩,fun z=>?_,fun ws' e=>by cases e;exact wo⟩;obtain⟨yp,ps,h1,_⟩:=W3.pcs;cases z;rw[h1] at nw;cases nw
     ·exact none' W3
    ·exact none' W
   rintro σ H3 ⟨wv,o,rfl,W3,wy,nv,gw⟩;refine seqG (fun σ H'=>σ=[some (.ref l),some (.ref lh),some (.ref lt),some (.int m),some (.int gr),some (.int fr),some (.int hp),some (.ref lp),some (.ref d),some (.str n),some wv,v11]/\GI K H H' l ln lp d ns hs ts (i+1) i) ?m4 ?m3
   case m3=>
    intro N1 hN;obtain⟨yp,ps,h1,h2,h3,h4⟩:=W3.pcs;refine⟨_,rfl,.inl ⟨rfl,_,.of h1⟩,_,rfl,_,rfl,_,rfl,l,gr,rfl,g0,g4,W3.st,fun x H4 x1 x2 b4 st4=>?_⟩;have W4:=W3.mv b4 st4;have wy4:=wy.mv b4 W3.st;refine⟨_,rfl,by show 3<=sizeLine;decide,fun t nt=>?_⟩;obtain⟨s5,e5⟩:=nw__ (o:=.tup [.str n,.int x,wv]) nt;generalize upd H4 t (.tup [.str n,.int x,wv])=H5 at s5 e5 ⊢;have hp5:=s5 _ _ (b4 _ _ h1 W3.pl);have ly:=Paired.length h2;have lps:=congrArg List.length h3;rw[aa',ak'] at lps;refine⟨lp,_,_,rfl,rfl,hp5,by omega,hN _ _ ⟨rfl,(W4.same s5).piece hn hp5 e5 (wy4.same s5) nv ⟨N.ok n (ac' hn),x1,x2,gw⟩⟩⟩
   rintro σ H4 ⟨rfl,W4⟩;refine⟨_,rfl,_,rfl,lh,_,rfl,.inl (.of (W4.but _ _ hlh lhl)),l,_,rfl,by omega,by omega,W4.st,fun at' H5 a0 a1 b5 st5=>?_⟩;have W5:=W4.mv b5 st5;refine setG ?_;dsimp only
   have fin:∀{H6:Hp} {b:Bool},GI K H H6 l ln lp d ns hs ts (i+1) i->∃v,atI yh (at' * (if b=true then 1 else 0))=some v/\∃h∈hs,∃a,v=.ref a/\H6 a=some (.tup [.str h.1,.int h.2]):=fun {H6 b} W6=>by
    have:0<=at' * (if b=true then 1 else 0)/\at' * (if b=true then 1 else 0)<(yh.length:Int):=by
     cases b
     ·simp;omega
     ·simp;omega
    refine hitL (n:=yh.length) (p:=fun v:V=>∃h∈hs,∃a,v=.ref a/\H6 a=some (.tup [.str h.1,.int h.2])) rfl this.1 this.2 fun v hv=>?_;obtain⟨jj,hj⟩:=List.mem_iff_getElem?.mp hv;obtain⟨h,hh,a,e,ha⟩:=aN_ th hj;obtain⟨xs0,hl0⟩:=st.some;have ha:H a=some (.tup [.str h.1,.int h.2]):=ha;exact⟨h,ac' hh,a,e,W6.but _ _ ha (az_ ha hl0 nofun)⟩
   refine⟨_,rfl,_,rfl,_,rfl,rfl,_,rfl,?_⟩;refine ite2 (fun c=>?_) (fun c=>?_)
   ·refine .inr ⟨_,rfl,_,_,rfl,rfl,.inl ⟨by omega,by omega⟩,?_⟩;obtain⟨v,ev,h,hh,a,ea,ha⟩:=fin (b:=true) W5;subst ea;obtain⟨f,d1,d2⟩:=W5.std;refine⟨lh,_,_,_,rfl,rfl,.of (W5.but _ _ hlh lhl),ev,a,_,_,_,rfl,rfl,.of ha,rfl,_,rfl,_,rfl,d,_,rfl,.k (k:=Sum.inr n) d1 (by rw[ax_,ak'];omega),?_⟩;exact⟨_,_,_,rfl,W5.put N.nd hn d1 d2 (ad'.mpr ⟨h,hh,rfl⟩)⟩
   ·refine⟨_,rfl,l,4,rfl,by decide,by decide,W5.st,fun r1 H6 u0 u1 b6 st6=>⟨rfl,?_⟩⟩;have W6:=W5.mv b6 st6;refine .inr ⟨_,rfl,_,_,rfl,rfl,.inl ⟨by omega,by omega⟩,?_⟩;obtain⟨v,ev,h,hh,a,ea,ha⟩:=fin (b:=decide (V.int r1=V.int 0)) W6;subst ea;obtain⟨f,d1,d2⟩:=W6.std;refine⟨lh,_,_,_,rfl,rfl,.of (W6.but _ _ hlh lhl),ev,a,_,_,_,rfl,rfl,.of ha,rfl,_,rfl,_,rfl,d,_,rfl,.k (k:=Sum.inr n) d1 (by rw[ax_,ak'];omega),?_⟩;exact⟨_,_,_,rfl,W6.put N.nd hn d1 d2 (ad'.mpr ⟨h,hh,rfl⟩)⟩
  ·rintro σ H2 ⟨v9,v10,v11,rfl,W⟩;rw[aa'] at W;obtain⟨yp,ps,h1,h2,h3,h4⟩:=W.pcs;obtain⟨f,d1,d2⟩:=W.std;rw[ap'] at h3 d1 d2;refine⟨_,rfl,_,rfl,by show 2<=sizeLine;decide,fun t nt=>?_⟩;have s3:=Same.new (o:=.tup [.ref lp,.ref d]) nt;have W3:=W.same s3;refine k t lp d yp ps f _ W3.but W3.st a1_ W.fp W.fd W.pl W.dl (s3 _ _ h1) (Paired.mapP h2 fun y p ⟨t,v,e,ht,wy,_⟩=>⟨t,v,e,s3 _ _ ht,wy.same s3⟩) ?_ h4 ?_ ?_ ?_
   ·rw[h3];exact s3 _ _ d1
   ·rw[h3];exact N.nd
   ·have:=congrArg List.length h3;rw[aa'] at this;omega
   ·rw[h3];exact d2
end
end Ev
namespace Ev
open PySem L2
def nbT(h:Str)(t:Str × Str):List Str:=(if t.1=h then [t.2] else [])++if t.2=h then [t.1] else []
def nbL(ts:List (Str × Str))(h:Str):List Str:=ts.flatMap (nbT h)
def wldK(ds dn lt dh dy:Addr):List (Key × V):=[(.inr "strength",.ref ds),(.inr "near",.ref dn),(.inr "ties",.ref lt),(.inr "heavy",.ref dh),(.inr "ways",.ref dy)]
structure WldE (K:F__) (H:Hp) (w ds dn lt dh dy:Addr) (ad:Str->Addr) (gy:Str->V) (hs:List (Str × Int)) (ts:List (Str × Str)) (ps:List Pc):Prop where
 top:H w=some (.dK (wldK ds dn lt dh dy))
 sg:H ds=some (.dK (mKV (hs.map (·.1)) fun n=>.int (strOf hs n)))
 nr:H dn=some (.dK (mKV (hs.map (·.1)) fun n=>.ref (ad n)))
 ls:∀h∈hs.map (·.1),H (ad h)=some (.lst ((nbL ts h).map V.str))
 hv:H dh=some (.dK (mKV (ps.map (·.1)) fun n=>.int (wtN ps n)))
 wy:H dy=some (.dK (mKV (ps.map (·.1)) gy))
 wv:∀q∈ps,WyAt K H (gy q.1) q.2.2
def bS'(K:F__)(H:Hp)(w:Addr)(hs:List (Str × Int))(ts:List (Str × Str))(ps:List Pc):Prop:=∃(ds dn lt dh dy:Addr) (ad:Str->Addr) (gy:Str->V),WldE K H w ds dn lt dh dy ad gy hs ts ps
theorem WldE.nt{K:F__}{H G:Hp}{w ds dn lt dh dy:Addr}{ad:Str->Addr}{gy:Str->V}{hs:List (Str × Int)}{ts:List (Str × Str)}{ps:List Pc}(W:WldE K H w ds dn lt dh dy ad gy hs ts ps)(s:NT H G):WldE K G w ds dn lt dh dy ad gy hs ts ps:=
 ⟨s _ _ W.top nofun,s _ _ W.sg nofun,s _ _ W.nr nofun,fun h hh=>s _ _ (W.ls h hh) nofun,s _ _ W.hv nofun,s _ _ W.wy nofun,fun q hq=>(W.wv q hq).nt s⟩
theorem WldE.same{K:F__}{H G:Hp}{w ds dn lt dh dy:Addr}{ad:Str->Addr}{gy:Str->V}{hs:List (Str × Int)}{ts:List (Str × Str)}{ps:List Pc}(W:WldE K H w ds dn lt dh dy ad gy hs ts ps)(s:Same H G):WldE K G w ds dn lt dh dy ad gy hs ts ps:=W.nt (NT.of s)
theorem bS'.nt{K:F__}{H G:Hp}{w:Addr}{hs:List (Str × Int)}{ts:List (Str × Str)}{ps:List Pc}(W:bS' K H w hs ts ps)(s:NT H G):bS' K G w hs ts ps:=by
 obtain⟨ds,dn,lt,dh,dy,ad,gy,W⟩:=W;exact⟨ds,dn,lt,dh,dy,ad,gy,W.nt s⟩
section
variable{H:Hp}{w ds dn lt dh dy:Addr}{K:F__}{ad:Str->Addr}{gy:Str->V}{hs:List (Str × Int)}{ts:List (Str × Str)}{ps:List Pc}
theorem WldE.gS(W:WldE K H w ds dn lt dh dy ad gy hs ts ps):DGet H w (.str "strength") (some (.ref ds)):=DGet.k (k:=Sum.inr "strength") W.top
theorem WldE.gN(W:WldE K H w ds dn lt dh dy ad gy hs ts ps):DGet H w (.str "near") (some (.ref dn)):=DGet.k (k:=Sum.inr "near") W.top
theorem WldE.gH(W:WldE K H w ds dn lt dh dy ad gy hs ts ps):DGet H w (.str "heavy") (some (.ref dh)):=DGet.k (k:=Sum.inr "heavy") W.top
theorem WldE.gW(W:WldE K H w ds dn lt dh dy ad gy hs ts ps):DGet H w (.str "ways") (some (.ref dy)):=DGet.k (k:=Sum.inr "ways") W.top
theorem hx_:putK (putK (bw' [] [((.inr "strength":Key),V.ref ds),(.inr "near",.ref dn),(.inr "ties",.ref lt)]) (.inr "heavy") (.ref dh)) (.inr "ways") (.ref dy)=wldK ds dn lt dh dy:=rfl
end
structure NrI (H0 H:Hp) (dn:Addr) (ad:Str->Addr) (ns:List Str) (g:Str->List Str):Prop where
 sm:Same H0 H
 nr:H dn=some (.dK (mKV ns fun n=>.ref (ad n)))
 ls:LsAt H ns ad g
 fn:H0 dn=none
 fr:∀h∈ns,H0 (ad h)=none
theorem NrI.same{H0 H G:Hp}{dn:Addr}{ad:Str->Addr}{ns:List Str}{g:Str->List Str}(N:NrI H0 H dn ad ns g)(s:Same H G):NrI H0 G dn ad ns g:=⟨N.sm.trans s,s _ _ N.nr,⟨fun h hh=>s _ _ (N.ls.1 h hh),N.ls.2⟩,N.fn,N.fr⟩
theorem NrI.app{H0 H:Hp}{dn:Addr}{ad:Str->Addr}{ns:List Str}{g:Str->List Str}(N:NrI H0 H dn ad ns g){n m:Str}(hn:n∈ns):NrI H0 (upd H (ad n) (.lst ((g n).map V.str++[.str m]))) dn ad ns (fun h=>if h=n then g h++[m] else g h):=by
 have la:=N.ls.1 n hn;refine⟨am_ N.sm (N.fr n hn),by rw[a4_ (az_ N.nr la nofun)];exact N.nr,⟨fun h hh=>?_,N.ls.2⟩,N.fn,N.fr⟩;dsimp only;by_cases z:h=n
 ·subst z;rw[if_pos rfl,a1_,am'];rfl
 ·rw[if_neg z,a4_ fun y=>z (N.ls.2 h hh n hn y)];exact N.ls.1 h hh
theorem NrI.to{H0 H:Hp}{dn:Addr}{ad:Str->Addr}{ns:List Str}{g g':Str->List Str}(N:NrI H0 H dn ad ns g)(e:∀h,g h=g' h):NrI H0 H dn ad ns g':=by
 obtain rfl:g=g':=funext e;exact N
theorem hi_(ts:List (Str × Str))(h:Str):(nbL ts h).length<=2 * ts.length:=by
 induction ts with
 |nil=>exact aD' _
 |cons t ts ih=>
  have:(nbT h t).length<=2:=by
   unfold nbT;rw[aq'];have h1:(if t.1=h then [t.2] else []).length<=1:=by split<;>simp
   have h2:(if t.2=h then [t.1] else []).length<=1:=by split<;>simp
   omega
  unfold nbL at ih ⊢;rw[List.flatMap_cons,aq',aC'];omega
theorem ic_{ts:List (Str × Str)}{i:Nat}{t:Str × Str}(ht:ts[i]? = some t)(h:Str):nbL (ts.take (i+1)) h=(nbL (ts.take i) h++if h=t.1 then [t.2] else [])++if h=t.2 then [t.1] else []:=by
 unfold nbL;rw[aB',ht,Option.toList_some,List.flatMap_append,List.flatMap_cons,List.flatMap_nil,aA',List.append_assoc];unfold nbT;congr 1;congr 1
 ·by_cases z:h=t.1
  ·rw[if_pos z,if_pos z.symm]
  ·rw[if_neg z,if_neg fun y=>z y.symm]
 ·by_cases z:h=t.2
  ·rw[if_pos z,if_pos z.symm]
  ·rw[if_neg z,if_neg fun y=>z y.symm]
theorem cy_{α β γ δ:Type}{F:α->γ->Prop}{G:α->δ->Prop}{g:β->γ}{k:β->δ}:∀{ys:List α} {ts:List β},Paired F ys (ts.map g)->(∀y t,F y (g t)->G y (k t))->Paired G ys (ts.map k)
 |_,[],t,_=>by rw[a1'] at t;cases t;exact .nil
 |_,b::ts,t,f=>by
  rw[ao'] at t;cases t with
  |cons h r=>rw[ao'];exact .cons (f _ _ h) (cy_ r f)
theorem hsK{hs:List (Str × Int)}(nd:(hs.map (·.1)).Nodup):(hs.map fun h=>((Sum.inr h.1:Key),V.int h.2))=mKV (hs.map (·.1)) fun n=>.int (strOf hs n):=by
 unfold mKV;rw[al']
 exact az' fun h hh=>by
  show _=((Sum.inr h.1:Key),V.int (strOf hs h.1));rw[fk_ nd (show (h.1,h.2)∈hs from hh)]
theorem fn_{ns:List Str}(nd:ns.Nodup)(g:Str->V):((mKV ns g).map (·.1)).Nodup:=by
 rw[bH_,ay',aF'];exact nd.imp fun n e=>n (Sum.inr.inj e)
section
variable{P:Program}{w:World}{K:F__}{mg:Str->Option Value}{base:Heap}
abbrev wN:List Str:=["_law_hands","_law_ties","_law_pieces","_law_near","_law_one","_law_other","_law_ways_here","_law_heavy","_law_name","_law_weight_here","_law_told","_law_found"]
theorem bx':a7' wN ["_law_hands","_law_ties","_law_pieces"] (a5' sWorld):=f__
def spWorld(K:F__):Sp:=fun vs H Q _=>∃(lh lt lp:Addr) (yh zs yp:List V) (hs:List (Str × Int)) (ts:List (Str × Str)) (ps:List Pc),vs=[.ref lh,.ref lt,.ref lp]/\H lh=some (.lst yh)/\a8' K H yh (hs.map kH)/\H lt=some (.lst zs)/\a8' K H zs (ts.map kT)/\H lp=some (.lst yp)/\PcsAt K H yp ps/\Good hs ts/\(ps.map (·.1)).Nodup/\ps.length<=30 /\
 ∀w H',Same H H'->H w=none->bS' K H' w hs ts ps->Q (.ref w) H'
set_option maxHeartbeats 3200000 in
theorem id_{f0:Addr}{fd:FuncData}(F:Fun K "_law_world" "_law_world" sWorld f0 fd)(B:Bi mg):FnOk P w K mg base CX0 1 f0 fd ["_law_hands","_law_ties","_law_pieces"] (spWorld K):=by
 refine F.ok bx' (fun vs H Q E h=>?_) (fun cdv A outer s H vs Q E hr h=>?_)
 ·obtain⟨lh,lt,lp,yh,zs,yp,hs,ts,ps,rfl,_⟩:=h;rfl
 ·obtain⟨lh,lt,lp,yh,zs,yp,hs,ts,ps,rfl,hlh,th,hlt,tt,hlp,pc,Gd,pnd,p30,k⟩:=h;have sz:=sizeLine_eq;have hu:=b3_ hr;refine' ⟨_,?r0,?kk⟩
  case' r0=>refine' a2_ ?s1 ?r1
  case' r1=>refine' a2_ ?s2 ?r2
  case' r2=>refine' a2_ ?s3 ?r3
  case' r3=>refine' a2_ ?s4 ?r4
  case' r4=>refine' a2_ ?s5 ?r5
  case' r5=>refine' a2_ ?s6 ?r6
  case' r6=>refine' a2_ ?s7 (a2_ ?s8 (a5_ ?s9))
  case s1=>exact aa_ (i:=3) bx'.nd rfl (Or.inl rfl) (aq_ (aE_ rfl) (by rfl) B.dict PyProof.Rows.Boot.«dict» (a0_ (aS_ ["_law_name","_law_strength"] 2 [] (an_ (pv 0)) (fun fp s H=>eq_ (n:=2) (af_ (a8_ (i:=0) (show (["_law_name","_law_strength"]:List Str).Nodup by decide +kernel) rfl (Or.inl rfl)) (af_ (a8_ (i:=1) (show (["_law_name","_law_strength"]:List Str).Nodup by decide +kernel) rfl (Or.inl rfl)) aY_))) (fun fp s H=>aU_) (fun fp s H=>aH_ (a0_ (pv 0) (a0_ (aX_ a3_) a3_)))) a3_))
  case' s2=>refine' aG_ PassesOwn.never rfl (an_ (pv 1)) (bf_ rfl (af_ (a8_ (i:=4) bx'.nd rfl (Or.inl rfl)) (af_ (a8_ (i:=5) bx'.nd rfl (Or.inl rfl)) aY_))) (a2_ ?b1 (a5_ ?b2))
  case b1=>exact b7_ (ca_ PySem.F.plainAttrs_list PySem.F.slot_list_append PySem.F.type_list_append b9_ (ac_ hu (pv 3) (pv 4) (fun _ _=>rfl)) (a0_ (pv 5) a3_))
  case b2=>exact b7_ (ca_ PySem.F.plainAttrs_list PySem.F.slot_list_append PySem.F.type_list_append b9_ (ac_ hu (pv 3) (pv 5) (fun _ _=>rfl)) (a0_ (pv 4) a3_))
  case s3=>exact aa_ (i:=6) bx'.nd rfl (Or.inl rfl) bl_
  case s4=>exact aa_ (i:=7) bx'.nd rfl (Or.inl rfl) bl_
  case' s5=>refine' aG_ PassesOwn.never rfl (an_ (pv 2)) (bf_ rfl (af_ (a8_ (i:=8) bx'.nd rfl (Or.inl rfl)) (af_ (a8_ (i:=9) bx'.nd rfl (Or.inl rfl)) (af_ (a8_ (i:=10) bx'.nd rfl (Or.inl rfl)) aY_)))) (a2_ ?c1 (a5_ ?c2))
  case c1=>exact bc_ hu (pv 6) (pv 8) (pv 10) rfl
  case c2=>exact bc_ hu (pv 7) (pv 8) (pv 9) rfl
  case s6=>exact aa_ (i:=11) bx'.nd rfl (Or.inl rfl) (jo_ (dm_ au_ (aq_ (aE_ rfl) (by rfl) B.dict PyProof.Rows.Boot.«dict» (a0_ (pv 0) a3_)) (dm_ au_ (pv 3) (dm_ au_ (pv 1) jj_))) rfl rfl nofun (by decide))
  case s7=>exact bc_ hu (pv 11) au_ (pv 7) rfl
  case s8=>exact bc_ hu (pv 11) au_ (pv 6) rfl
  case s9=>exact ab_ (pv 11)
  case' kk=>skip
  have nd:=Gd.hnd;have h8:=Gd.h8;have lyh:=Paired.length th;rw[aa'] at lyh;refine⟨_,rfl,lh,rfl,⟨_,.of hlh⟩,fun D hD=>?_⟩;refine aZ_ (own:=2) (fv:=[]) (xs:=yh) rfl gok2 (fun i out H'=>∃ad:Str->Addr,Same H H'/\H' D=some (.lst out)/\bd' K H' out (mKV ((hs.map (·.1)).take i) fun h=>.ref (ad h))/\LsAt H' ((hs.map (·.1)).take i) ad (fun _=>[])/\∀h∈(hs.map (·.1)).take i,H (ad h)=none/\ad h≠D) ⟨fun _=>D,Same.new hD,a1_,.nil,⟨by simp,by simp⟩,by simp⟩ (fun i out H' _ ⟨_,sm,_⟩=>.of (sm _ _ hlh)) (fun out H2 ⟨ad,s2,hD2,pa,ls,fr⟩=>?_) (fun i x out H' hx ⟨ad,sm,hd,pa,ls,fr⟩=>?_);rotate_left
  ·obtain⟨h0,hh0,a,rfl,ha⟩:=aN_ th hx;have hn:(hs.map (·.1))[i]? = some h0.1:=by rw[an',hh0];rfl
   have nn:h0.1∉(hs.map (·.1)).take i:=bP_ nd hn;refine⟨_,⟨a,_,_,rfl,.of (sm _ _ (hpH ha)),rfl⟩,rfl,fun Nx hN=>yesT ?_⟩;refine⟨_,rfl,by show 0<=sizeLine;decide,fun l nl=>?_⟩;obtain⟨s3,e3⟩:=nw__ (o:=.lst []) nl;generalize upd H' l (.lst [])=H3 at s3 e3 ⊢;refine⟨by show 2<=sizeLine;decide,fun t nt=>?_⟩;obtain⟨s4,e4⟩:=nw__ (o:=.tup [.str h0.1,.ref l]) nt;generalize upd H3 t (.tup [.str h0.1,.ref l])=H4 at s4 e4 ⊢;have s34:=s3.trans s4;have hD4:=s34 _ _ hd;have lD:l≠D:=fun z=>by rw[z,hd] at nl;cases nl
   have adl:∀h∈(hs.map (·.1)).take i,ad h≠l:=fun h hh z=>by
    have:=ls.1 h hh;rw[z,nl] at this;cases this
   have lo:=Paired.length pa;rw[ax_,ak',aa'] at lo
   have pD:∀{b:Addr} {zs:List V},H4 b=some (.tup zs)->b≠D:=fun hb z=>by
    rw[z,hD4] at hb;cases hb
   have ne:∀h∈(hs.map (·.1)).take i,h≠h0.1:=fun h hh z=>nn (z▸hh);refine⟨out,hD4,by omega,hN (out++[.ref t]) _ ⟨fun m=>if m=h0.1 then l else ad m,am_ (sm.trans s34) hD,a1_,?_,⟨fun h hh=>?_,fun h hh h' hh' z=>?_⟩,fun h hh=>?_⟩⟩
   ·have e:mKV ((hs.map (·.1)).take (i+1)) (fun h=>.ref (if h=h0.1 then l else ad h))=mKV ((hs.map (·.1)).take i) (fun h=>.ref (ad h))++[(Sum.inr h0.1,.ref l)]:=by
     rw[ap_ hn];unfold mKV;rw[am',ao',a1'];dsimp only;rw[if_pos rfl];congr 1;exact az' fun m hm=>by rw[if_neg (ne m hm)]
    rw[e];exact av_ (Paired.mapP pa fun y kv ⟨b,z,hb⟩=>⟨b,z,by rw[a4_ (pD (s34 _ _ hb))];exact s34 _ _ hb⟩) (.cons ⟨t,rfl,by rw[a4_ (pD e4)];exact e4⟩ .nil)
   ·rw[ap_ hn] at hh;rcases aw'.mp hh with hh|hh
    ·dsimp only;rw[if_neg (ne h hh),a4_ (fr h hh).2];exact s34 _ _ (ls.1 h hh)
    ·have z:=aG'.mp hh;dsimp only;rw[if_pos z,a4_ lD];exact s4 _ _ e3
   ·rw[ap_ hn] at hh hh';dsimp only at z;rcases aw'.mp hh with a1|a1<;>rcases aw'.mp hh' with a2|a2
    ·rw[if_neg (ne h a1),if_neg (ne h' a2)] at z;exact ls.2 h a1 h' a2 z
    ·have a2:h'=h0.1:=by simpa using a2
     rw[if_neg (ne h a1),if_pos a2] at z;exact absurd z (adl h a1)
    ·have a1:h=h0.1:=by simpa using a1
     rw[if_neg (ne h' a2),if_pos a1] at z;exact absurd z.symm (adl h' a2)
    ·rw[show h=h0.1 by simpa using a1,show h'=h0.1 by simpa using a2]
   ·rw[ap_ hn] at hh;dsimp only;rcases aw'.mp hh with hh|hh
    ·rw[if_neg (ne h hh)];exact fr h hh
    ·have z:=aG'.mp hh;rw[if_pos z];exact⟨sm.free nl,lD⟩
  rw[show yh.length=(hs.map (·.1)).length by rw[aa',lyh],ap'] at pa ls fr;have n8:(hs.map (·.1)).length<=8:=by rw[aa'];exact h8
  refine⟨D,out,_,rfl,hD2,pa,by rw[ax_];omega,fun dn ndn=>?_⟩;rw[aO_ (fn_ nd _)];refine setG ?_;dsimp only;have s3:=Same.new (o:=.dK (mKV (hs.map (·.1)) fun h=>V.ref (ad h))) ndn;have N0:NrI H (upd H2 dn (.dK (mKV (hs.map (·.1)) fun h=>V.ref (ad h)))) dn ad (hs.map (·.1)) (nbL (ts.take 0)):=⟨s2.trans s3,a1_,⟨fun h hh=>s3 _ _ (ls.1 h hh),ls.2⟩,s2.free ndn,fun h hh=>(fr h hh).1⟩;generalize upd H2 dn (.dK (mKV (hs.map (·.1)) fun h=>V.ref (ad h)))=H3 at N0 ⊢;clear s2 s3 hD2 pa ls fr hD ndn;refine seqG (fun σ H'=>∃(v4 v5:Option V),σ=[some (.ref lh),some (.ref lt),some (.ref lp),some (.ref dn),v4,v5,none,none,none,none,none,none]/\NrI H H' dn ad (hs.map (·.1)) (nbL ts)) ?m2 ?m1
  case m1=>
   intro N1 hN;have lz:=Paired.length tt;rw[aa'] at lz;have t64:=Gd.t64;refine⟨_,rfl,lt,rfl,⟨_,.of (N0.sm _ _ hlt)⟩,aw_ (K:=K) (a:=lt) (xs:=zs) (fun i σ H'=>∃(v4 v5:Option V),σ=[some (.ref lh),some (.ref lt),some (.ref lp),some (.ref dn),v4,v5,none,none,none,none,none,none]/\NrI H H' dn ad (hs.map (·.1)) (nbL (ts.take i))) ⟨none,none,rfl,N0⟩ (fun i σ H' _ ⟨_,_,_,N⟩=>.of (N.sm _ _ hlt)) ?_ ?_⟩
   ·rintro i x σ H4 hx ⟨v4,v5,rfl,N⟩;obtain⟨t,ht,a,rfl,ha⟩:=aN_ tt hx;have m12:=Gd.tin t (ac' ht);have tne:=(Gd.tok t (ac' ht)).2.2;refine⟨a,_,rfl,.of (N.sm _ _ (hpT ha)),rfl,_,_,rfl,_,_,rfl,rfl,?_⟩;dsimp only;have hi:i<ts.length:=(ab'.mp ht).1;have l1:=hi_ (ts.take i) t.1;have l2:=hi_ (ts.take i) t.2;rw[ak'] at l1 l2;have e1:=N.ls.1 _ m12.1;have N2:=N.app (m:=t.2) m12.1;have e2:=N2.ls.1 _ m12.2;refine⟨_,rfl,_,rfl,dn,_,rfl,dgR N.nr m12.1,.inl ⟨rfl,_,.of e1⟩,_,rfl,ad t.1,_,_,rfl,rfl,e1,by rw[aa'];omega,?_⟩;refine⟨_,rfl,_,rfl,dn,_,rfl,dgR N2.nr m12.2,.inl ⟨rfl,_,.of e2⟩,_,rfl,ad t.2,_,_,rfl,rfl,e2,?_,?_⟩
    ·have z:¬t.2=t.1:=fun z=>tne z.symm;rw[aa'];simp only[if_neg z];omega
    refine⟨_,_,rfl,(N2.app (m:=t.1) m12.2).to fun h=>?_⟩;show (if h=t.2 then (if h=t.1 then nbL (ts.take i) h++[t.2] else nbL (ts.take i) h)++[t.1] else if h=t.1 then nbL (ts.take i) h++[t.2] else nbL (ts.take i) h)=_;rw[ic_ ht];by_cases z1:h=t.1
    ·rw[if_neg (c:=h=t.2) (fun z=>tne (z1.symm.trans z)),if_pos z1,if_neg (c:=h=t.2) (fun z=>tne (z1.symm.trans z)),if_pos z1,aA']
    ·by_cases z2:h=t.2
     ·rw[if_pos z2,if_neg z1,if_pos z2,if_neg z1,aA']
     ·rw[if_neg z2,if_neg z1,if_neg z2,if_neg z1,aA',aA']
   ·rintro σ H4 ⟨v4,v5,rfl,N⟩;rw[lz,ap'] at N;exact hN _ _ ⟨_,_,rfl,N⟩
  rintro σ H4 ⟨v4,v5,rfl,N⟩;refine fun dy ny=>?_;refine setG ?_;dsimp only;obtain⟨s5,e5⟩:=nw__ (o:=.dK []) ny;generalize upd H4 dy (.dK [])=H5 at s5 e5 ⊢;refine fun dh nh=>?_;refine setG ?_;dsimp only;obtain⟨s6,e6⟩:=nw__ (o:=.dK []) nh;generalize upd H5 dh (.dK [])=H6 at s6 e6 ⊢;have N6:=(N.same s5).same s6;have hy:dh≠dy:=fun z=>by rw[z,e5] at nh;cases nh
  have fy:H dy=none:=N.sm.free ny;have fh:H dh=none:=(N.sm.trans s5).free nh;have ye:=s6 _ _ e5;have ney:∀{b:Addr} {o:HO},H4 b=some o->b≠dy:=fun e z=>by rw[z,ny] at e;cases e
  have neh:∀{b:Addr} {o:HO},H4 b=some o->b≠dh:=fun e z=>by rw[z] at e;have:=s5 _ _ e;rw[nh] at this;cases this
  refine seqG (fun σ H'=>∃(v4 v5 v8 v9 v10:Option V) (gy:Str->V),σ=[some (.ref lh),some (.ref lt),some (.ref lp),some (.ref dn),v4,v5,some (.ref dy),some (.ref dh),v8,v9,v10,none]/\Same H4 H'/\H' dh=some (.dK (mKV (ps.map (·.1)) fun n=>.int (wtN ps n)))/\H' dy=some (.dK (mKV (ps.map (·.1)) gy))/\∀q∈ps,WyAt K H' (gy q.1) q.2.2) ?m4 ?m3
  case m3=>
   intro N1 hN;have lz:=Paired.length pc;refine⟨_,rfl,lp,rfl,⟨_,.of (N6.sm _ _ hlp)⟩,aw_ (K:=K) (a:=lp) (xs:=yp) (fun i σ H'=>∃(v8 v9 v10:Option V) (gy:Str->V),σ=[some (.ref lh),some (.ref lt),some (.ref lp),some (.ref dn),v4,v5,some (.ref dy),some (.ref dh),v8,v9,v10,none]/\Same H4 H'/\H' dh=some (.dK (mKV ((ps.map (·.1)).take i) fun n=>.int (wtN ps n)))/\H' dy=some (.dK (mKV ((ps.map (·.1)).take i) gy))/\∀q∈ps.take i,WyAt K H (gy q.1) q.2.2) ⟨none,none,none,fun _=>.non,rfl,s5.trans s6,e6,ye,by simp⟩ (fun i σ H' _ ⟨_,_,_,_,_,sm,_⟩=>.of (sm _ _ (N.sm _ _ hlp))) ?_ ?_⟩
   ·rintro i x σ H7 hx ⟨v8,v9,v10,gy,rfl,sm,dh7,dy7,wy⟩;obtain⟨q,hq,a,v,rfl,ha,wv⟩:=aN_ (g:=id) (by rw[List.map_id];exact pc) hx;have hn:(ps.map (·.1))[i]? = some q.1:=by rw[an',hq];rfl
    have hi:i<ps.length:=(ab'.mp hq).1;have nn:=bP_ pnd hn;have ne:∀m∈(ps.map (·.1)).take i,m≠q.1:=fun m hm z=>nn (z▸hm);refine⟨a,_,rfl,.of (sm _ _ (N.sm _ _ ha)),rfl,_,_,rfl,_,_,rfl,_,_,rfl,rfl,?_⟩;dsimp only;refine⟨_,rfl,_,rfl,_,rfl,dy,_,rfl,.k (k:=Sum.inr q.1) dy7 (by rw[ax_,ak',aa'];omega),?_⟩;have dh8:upd H7 dy (.dK (putK (mKV ((ps.map (·.1)).take i) gy) (Sum.inr q.1) v)) dh=some (.dK (mKV ((ps.map (·.1)).take i) fun n=>.int (wtN ps n))):=by rw[a4_ hy];exact dh7
    refine⟨_,rfl,_,rfl,_,rfl,dh,_,rfl,.k (k:=Sum.inr q.1) dh8 (by rw[ax_,ak',aa'];omega),?_⟩;refine⟨_,_,_,fun m=>if m=q.1 then v else gy m,rfl,fun b o e=>?_,?_,?_,fun q' hq'=>?_⟩
    ·rw[a4_ (neh e),a4_ (ney e)];exact sm _ _ e
    ·rw[a1_,dl_ nn,ap_ hn];refine congrArg (fun x=>some (HO.dK x)) (bw_ fun m hm=>?_);by_cases z:m=q.1
     ·rw[if_pos z,z,ej_ pnd (ac' hq)];rfl
     ·rw[if_neg z]
    ·rw[a4_ hy.symm,a1_,dl_ nn,ap_ hn]
    ·dsimp only;rw[aB',hq,Option.toList_some] at hq';rcases aw'.mp hq' with hq'|hq'
     ·rw[if_neg (ne _ (by rw[<- List.map_take];exact ad'.mpr ⟨_,hq',rfl⟩))];exact wy q' hq'
     ·obtain rfl:=aG'.mp hq';rw[if_pos rfl];exact wv
   ·rintro σ H7 ⟨v8,v9,v10,gy,rfl,sm,dh7,dy7,wy⟩;rw[lz] at dh7 dy7 wy;rw[aL' (by rw[aa'];exact ag' _)] at dh7 dy7;rw[ap'] at wy;exact hN _ _ ⟨_,_,_,_,_,gy,rfl,sm,dh7,dy7,fun q hq=>(wy q hq).same (N.sm.trans sm)⟩
  rintro σ H7 ⟨v4,v5,v8,v9,v10,gy,rfl,sm,dh7,dy7,wy⟩;refine fun wa nw=>?_;obtain⟨s8,e8⟩:=nw__ (o:=.dK []) nw;generalize upd H7 wa (.dK [])=H8 at s8 e8 ⊢;have s08:=(N.sm.trans sm).trans s8
  have kvs:bd' K H8 yh (hs.map fun h=>((Sum.inr h.1:Key),V.int h.2)):=by
   exact cy_ th fun y h ⟨b,z,q⟩=>⟨b,z,s08 _ _ (hpH q)⟩
  refine⟨_,rfl,lh,yh,_,rfl,s08 _ _ hlh,kvs,by rw[aa'];omega,fun ds nds=>?_⟩;rw[hsK nd,aO_ (fn_ nd _)];obtain⟨s9,e9⟩:=nw__ (o:=.dK (mKV (hs.map (·.1)) fun n=>V.int (strOf hs n))) nds;generalize upd H8 ds (.dK (mKV (hs.map (·.1)) fun n=>V.int (strOf hs n)))=H9 at s9 e9 ⊢;refine⟨_,rfl,_,rfl,s9 _ _ e8,[((.inr "strength":Key),V.ref ds),(.inr "near",.ref dn),(.inr "ties",.ref lt)],rfl,by show 3<=15;decide,?_⟩;refine setG ?_;dsimp only;refine⟨_,rfl,_,rfl,wa,_,rfl,.k (k:=Sum.inr "heavy") a1_ (by show 3<sizeLine;decide),?_⟩;refine⟨_,rfl,_,rfl,wa,_,rfl,.k (k:=Sum.inr "ways") a1_ (by show 4<sizeLine;decide),?_⟩;have nw0:H wa=none:=(N.sm.trans sm).free nw;have new:∀{b:Addr} {o:HO},H7 b=some o->b≠wa:=fun e z=>by rw[z,nw] at e;cases e
  have dsw:ds≠wa:=fun z=>by rw[z,e8] at nds;cases nds
  have up:∀{b:Addr} {o:HO},H7 b=some o->upd (upd (upd H9 wa (.dK (bw' [] [((.inr "strength":Key),V.ref ds),(.inr "near",.ref dn),(.inr "ties",.ref lt)]))) wa (.dK (putK (bw' [] [((.inr "strength":Key),V.ref ds),(.inr "near",.ref dn),(.inr "ties",.ref lt)]) (Sum.inr "heavy") (.ref dh)))) wa (.dK (putK (putK (bw' [] [((.inr "strength":Key),V.ref ds),(.inr "near",.ref dn),(.inr "ties",.ref lt)]) (Sum.inr "heavy") (.ref dh)) (Sum.inr "ways") (.ref dy))) b=some o:=fun {b o} e=>by
   rw[a4_ (new e),a4_ (new e),a4_ (new e)];exact s9 _ _ (s8 _ _ e)
  refine⟨_,rfl,k wa _ (fun b o e=>up (sm _ _ (N.sm _ _ e))) nw0 ⟨ds,dn,lt,dh,dy,ad,gy,?_,?_,up (sm _ _ N.nr),fun h hh=>up (sm _ _ (N.ls.1 h hh)),up dh7,up dy7,fun q hq=>?_⟩⟩
  ·rw[a1_,hx_]
  ·rw[a4_ dsw,a4_ dsw,a4_ dsw];exact e9
  ·exact (wy q hq).same fun b o e=>up e
end
end Ev
namespace L2
open PySem PySem.Spec PyProof.Rows PySem.W
theorem hC_{d:Addr}{o:Obj}{kvs:List (Key × V)}{g:TG}{tb:TS}{D:Ends}{σ:St}{H:Hp}(Pv:Nat->St->Hp->Prop)(h0:Pv 0 σ H)(hl:∀i σ H,i<=kvs.length->Pv i σ H->H d=some (.frz o (.dK kvs)))
  (hs:∀i k x σ H,kvs[i]? = some (k,x)->Pv i σ H->g (kV k) σ H fun σ2 H2=>tb { D with nx:=Pv (i+1),ct:=Pv (i+1),bk:=D.nx } σ2 H2) (hd:∀σ H,Pv kvs.length σ H->D.nx σ H) :
  ∃W:Nat->Nat->St->Hp->Prop,(∃m,W 0 m σ H)/\∀i m σ H,W i m σ H->
   ((Itk d o kvs).stop i H/\D.nx σ H)∨((Itk d o kvs).go i H/\∃N:St->Hp->Prop,(∀σ' H',N σ' H'->∃m',m'<m/\W (i+1) m' σ' H')/\∀x H',(Itk d o kvs).yld i H x H'->g x σ H' fun σ2 H2=>tb { D with nx:=N,ct:=N,bk:=D.nx } σ2 H2):=by
 refine⟨fun i m σ H=>m=kvs.length - i/\i<=kvs.length/\Pv i σ H,⟨kvs.length,by simp,aD' _,h0⟩,?_⟩;rintro i m σ H ⟨rfl,hi,p⟩;have q:=hl i σ H hi p;by_cases hlt:i<kvs.length
 ·refine .inr ⟨⟨q,hlt⟩,Pv (i+1),fun σ' H' p'=>⟨kvs.length - (i+1),by omega,rfl,hlt,p'⟩,fun x H' y=>?_⟩;obtain⟨rfl,k,v,hx,rfl⟩:=y;exact hs i k v σ _ hx p
 ·have e:i=kvs.length:=by omega
  subst e;exact .inl ⟨⟨q,ag' _⟩,hd σ H p⟩
section
variable{prog:Program}{w:World}{A:Around}
end
end L2
namespace L2
open PySem PySem.Spec PyProof.Rows PySem.W
section
variable{X:Cx}
theorem eK_:∀{xs:List V} {us:List Value},Vals xs us->xs.all cj'=true->∀(k:V) (j:Nat) (h:j<us.length),∃h2:j<xs.length,eqU k us[j]=eqV xs[j] k
 |_,_,.nil,_,k,j,h=>absurd h (Nat.not_lt_zero _)
 |y::xs,u::us,.cons r t,f,k,j,h=>by
  rw[List.all_cons,Bool.and_eq_true] at f;cases j with
  |zero=>exact⟨Nat.zero_lt_succ _,iC_ r f.1⟩
  |succ j=>
   obtain⟨h2,e⟩:=eK_ t f.2 k j (Nat.lt_of_succ_lt_succ h);exact⟨Nat.succ_lt_succ h2,e⟩
end
end L2
namespace Ev
open PySem L2
theorem gV_{H:Hp}{d:Addr}{ns:List Str}{g:Str->V}{n:Str}(r:Rd H d (.dK (mKV ns g)))(h:n∈ns):DGet H d (.str n) (some (g n)):=by
 rw[<- dr_ (g:=g) h];exact .inl ⟨_,Sum.inr n,r,rfl,rfl⟩
theorem kw_{d:Addr}{o:Obj}{kvs:List (Key × V)}{H H':Hp}(f:Fz d o kvs H H'):Rd H' d (.dK kvs):=.inr ⟨o,f.at_⟩
structure Pw (hs:List (Str × Int)) (ts:List (Str × Str)) (ps:List Pc) (f:Str->Str):Prop where
 Gd:Good hs ts
 gp:∀q∈ps,cS' ts q
 nd:(ps.map (·.1)).Nodup
 p30:ps.length<=30
 at_:∀n∈ps.map (·.1),f n∈hs.map (·.1)
abbrev hld(ps:List Pc)(f:Str->Str)(n:Str):Int:=ld f (ps.map wOf) n
theorem Pw.hld_ok{hs:List (Str × Int)}{ts:List (Str × Str)}{ps:List Pc}{f:Str->Str}(W:Pw hs ts ps f)(n:Str):0<=hld ps f n/\hld ps f n<=64000000000:=i4_ (fun q hq=>⟨by have:=(W.gp q hq).w1;omega,(W.gp q hq).w2⟩) (by have:=W.p30;omega) f n
theorem Pw.str_ok{hs:List (Str × Int)}{ts:List (Str × Str)}{ps:List Pc}{f:Str->Str}(W:Pw hs ts ps f){n:Str}(h:n∈hs.map (·.1)):1<=strOf hs n/\strOf hs n<=1000:=(W.Gd.hok _ (b6_ h)).2
theorem kh_{ps:List Pc}{f:Str->Str}{n:Str}{kvs:List (Key × V)}(hn:n∈ps.map (·.1))(h:∀x∈kvs,∃a,x.2=V.ref a)(e:kvs=stF (ps.map (·.1)) f):False:=by
 have m:((Sum.inr n:Key),V.str (f n))∈kvs:=by
  rw[e];exact ad'.mpr ⟨n,hn,rfl⟩
 obtain⟨a,z⟩:=h _ m;cases z
theorem jU_{ns:List Str}{f:Str->Str}{g:Str->Int}{n:Str}(hn:n∈ns)(e:mKV ns (fun n=>.int (g n))=stF ns f):False:=by
 have m:((Sum.inr n:Key),V.str (f n))∈mKV ns (fun n=>.int (g n)):=by
  rw[e];exact ad'.mpr ⟨n,hn,rfl⟩
 obtain⟨k,_,z⟩:=ad'.mp m;cases (Prod.mk.inj z).2
section
variable{P:Program}{w:World}{K:F__}{mg:Str->Option Value}{base:Heap}
abbrev hdN:List Str:=["_law_world_here","_law_stand","_law_found","_law_piece"]
theorem scHeld:a7' hdN ["_law_world_here","_law_stand"] (a5' sHeld):=f__
def spHeld(K:F__):Sp:=fun vs H Q _=>∃(wa sd:Addr) (hs:List (Str × Int)) (ts:List (Str × Str)) (ps:List Pc) (f:Str->Str),vs=[.ref wa,.ref sd]/\bS' K H wa hs ts ps/\Pw hs ts ps f/\H sd=some (.dK (stF (ps.map (·.1)) f)) /\
 ∀d H',Same H H'->H d=none->H' d=some (.dK (mKV (hs.map (·.1)) fun n=>.int (hld ps f n)))->Q (.ref d) H'
set_option maxHeartbeats 1600000 in
theorem jd_{f0:Addr}{fd:FuncData}(F:Fun K "_law_held" "_law_held" sHeld f0 fd)(B:Bi mg):FnOk P w K mg base CX0 1 f0 fd ["_law_world_here","_law_stand"] (spHeld K):=by
 refine F.ok scHeld (fun vs H Q E h=>?_) (fun cdv A outer s H vs Q E hr h=>?_)
 ·obtain⟨wa,sd,hs,ts,ps,f,rfl,_⟩:=h;rfl
 ·obtain⟨wa,sd,hs,ts,ps,f,rfl,⟨ds,dn,lt,dh,dy,ad,gy,W⟩,Pp,hsd,k⟩:=h;have sz:=sizeLine_eq;have hu:=b3_ hr;refine' ⟨_,a2_ ?s1 (a2_ ?s2 (a5_ ?s3)),?kk⟩
  case s1=>exact cF_ (aa_ (i:=2) scHeld.nd rfl (Or.inl rfl) (aq_ (aE_ rfl) (by rfl) B.dict PyProof.Rows.Boot.«dict» (a0_ (aS_ ["_law_name"] 1 [] (ez_ (ac_ hu (pv 0) au_ (fun _ _=>rfl))) (fun fp s H=>a8_ (i:=0) (show (["_law_name"]:List Str).Nodup by decide +kernel) rfl (Or.inl rfl)) (fun fp s H=>aU_) (fun fp s H=>aH_ (a0_ (pv 0) (a0_ a7_ a3_)))) a3_)))
  case s2=>exact cF_ (aG_ PassesOwn.never rfl (ez_ (pv 1)) (a8_ (i:=3) scHeld.nd rfl (Or.inl rfl)) (a5_ (iZ_ hu (pv 2) (ac_ hu (pv 1) (pv 3) (fun _ _=>rfl)) (ac_ hu (ac_ hu (pv 0) au_ (fun _ _=>rfl)) (pv 3) (fun _ _=>rfl)) k8_ (fun _ _ _=>rfl))))
  case s3=>exact ab_ (pv 2)
  case' kk=>skip
  have hnd:=Pp.Gd.hnd;have h8:(hs.map (·.1)).length<=8:=by rw[aa'];exact Pp.Gd.h8
  refine⟨ds,_,W.sg,?_⟩;refine⟨_,rfl,wa,_,rfl,W.gS,ds,_,rfl,W.sg,fun o D hD=>?_⟩
  have Dds:D≠ds:=by
   intro z;rw[z,a1_] at hD;cases hD
  have hD1:H D=none:=by rw[a4_ Dds] at hD;exact hD
  refine e7_ (own:=1) (fv:=[]) rfl gok1 (fun i out H'=>Fz ds o (mKV (hs.map (·.1)) fun n=>.int (strOf hs n)) H H'/\H' D=some (.lst out)/\bd' K H' out (mKV ((hs.map (·.1)).take i) fun _=>.int 0)) ⟨Fz.start.put hD1 Dds,a1_,.nil⟩ (fun i out H' _ ⟨z,_,_⟩=>z.at_) (fun out H2 ⟨fz,hD2,pa⟩=>?_) (fun i ky x out H' hx ⟨fz,hD',pa⟩=>?_);rotate_left 1
  ·obtain⟨n,hn,rfl,rfl⟩:=cc_ hx;have hi:i<(hs.map (·.1)).length:=(ab'.mp hn).1;refine⟨_,rfl,rfl,fun Nx hN=>yesT ?_⟩;refine⟨_,rfl,by show 2<=sizeLine;decide,fun t ht=>?_⟩;have s5:=Same.new (o:=.tup [.str n,.int 0]) ht;have lo:=Paired.length pa;rw[ax_,ak'] at lo;refine⟨out,s5 _ _ hD',by omega,hN _ _ ⟨(fz.step s5).put hD1 Dds,a1_,?_⟩⟩;have ht5:upd H' t (.tup [.str n,.int 0]) t=some (.tup [.str n,.int 0]):=a1_;have pD:∀{b:Addr} {ys:List V},upd H' t (.tup [.str n,.int 0]) b=some (.tup ys)->b≠D:=fun hb=>az_ hb (s5 _ _ hD') nofun;rw[ap_ hn];show bd' K _ _ (((hs.map (·.1)).take i++[n]).map _);rw[am'];exact av_ (Paired.mapP pa fun y kv ⟨b,z,hb⟩=>⟨b,z,by rw[a4_ (pD (s5 _ _ hb))];exact s5 _ _ hb⟩) (.cons ⟨t,rfl,by rw[a4_ (pD ht5)];exact ht5⟩ .nil)
  rw[ax_,ap'] at pa;refine⟨D,out,_,rfl,hD2,pa,by rw[ax_];omega,fun df ndf=>?_⟩;rw[aO_ (fn_ hnd _)];have dfds:df≠ds:=fun z=>by rw[z,fz.at_] at ndf;cases ndf
  have ndf0:H df=none:=by
   cases e:H df with
   |none=>rfl
   |some u=>have:=fz.sm _ _ dfds e;rw[ndf] at this;cases this
  have fz3:Fz ds o (mKV (hs.map (·.1)) fun n=>.int (strOf hs n)) H (upd H2 df (.dK (mKV (hs.map (·.1)) fun _=>.int 0))):=fz.put ndf0 dfds;refine setG ?_;dsimp only;refine⟨o,fz3.at_,?_⟩;have s3:=fz3.thaw W.sg;have e3:upd (upd H2 df (.dK (mKV (hs.map (·.1)) fun _=>.int 0))) ds (.dK (mKV (hs.map (·.1)) fun n=>.int (strOf hs n))) df=some (.dK (mKV (hs.map (·.1)) fun _=>.int 0)):=by rw[a4_ dfds,a1_]
  generalize upd (upd H2 df (.dK (mKV (hs.map (·.1)) fun _=>.int 0))) ds (.dK (mKV (hs.map (·.1)) fun n=>.int (strOf hs n)))=H3 at s3 e3 ⊢;clear fz3 fz pa hD2 hD hD1 ndf dfds Dds;have W3:=W.same s3;have hsd3:=s3 _ _ hsd;have dfsd:df≠sd:=(a6_ hsd ndf0).symm;have dwd:wa≠df:=a6_ W.top ndf0;have dhd:dh≠df:=a6_ W.hv ndf0;refine⟨sd,_,hsd3,?_⟩;refine⟨_,rfl,sd,_,rfl,hsd3,fun o2=>?_⟩;refine hC_ (fun i σ H'=>∃v3:Option V,σ=[some (.ref wa),some (.ref sd),some (.ref df),v3]/\H' sd=some (.frz o2 (.dK (stF (ps.map (·.1)) f)))/\(∀b u,b≠sd->b≠df->H3 b=some u->H' b=some u)/\H' df=some (.dK (mKV (hs.map (·.1)) fun n=>.int (ld f ((ps.take i).map wOf) n)))) ⟨none,rfl,a1_,fun b u n1 n2 e=>by rw[a4_ n1];exact e,by rw[a4_ dfsd];exact e3⟩ (fun i σ H' _ ⟨_,_,z,_⟩=>z) ?_ ?_
  ·rintro i ky x σ H4 hx ⟨v3,rfl,fz,kp,hdf⟩;obtain⟨n,hn,rfl,rfl⟩:=cc_ hx;have nm:=ac' hn;rw[an',aW'] at hn;obtain⟨q,hq,rfl⟩:=hn;have hqm:=ac' hq;have fm:=Pp.at_ _ nm;have top4:H4 wa=some (.dK (wldK ds dn lt dh dy)):=kp _ _ (fun z=>kh_ (ps:=ps) (f:=f) nm (fun x hx=>by simp only[wldK,aj',aV',or_false] at hx;rcases hx with rfl|rfl|rfl|rfl|rfl<;>exact⟨_,rfl⟩) (HO.dK.inj (Option.some.inj ((z▸W3.top).symm.trans hsd3)))) dwd W3.top
   have hv4:H4 dh=some (.dK (mKV (ps.map (·.1)) fun n=>.int (wtN ps n))):=kp _ _ (fun z=>jU_ nm (HO.dK.inj (Option.some.inj ((z▸W3.hv).symm.trans hsd3)))) dhd W3.hv;refine setG ?_;dsimp only;refine⟨_,rfl,_,rfl,_,rfl,sd,_,rfl,gV_ (.inr ⟨o2,fz⟩) nm,df,_,rfl,dgR hdf fm,?_⟩;refine⟨_,rfl,wa,_,rfl,DGet.k (k:=Sum.inr "heavy") top4,_,rfl,dh,_,rfl,dgR hv4 nm,?_⟩;refine⟨_,_,rfl,rfl,_,.k (k:=Sum.inr (f q.1)) hdf (by rw[ax_];omega),?_⟩;refine⟨_,rfl,by rw[a4_ dfsd.symm];exact fz,fun b u n1 n2 e=>by rw[a4_ n2];exact kp b u n1 n2 e,?_⟩;rw[a1_,gC_ fm];refine congrArg (fun x=>some (HO.dK x)) (bw_ fun m hm=>?_);rw[aB',hq,Option.toList_some,am',ao',a1',gf_];by_cases z:m=f q.1
   ·rw[if_pos z,if_pos (show m=f (wOf q).1 from z),z,ej_ Pp.nd hqm];rfl
   ·rw[if_neg z,if_neg (show ¬m=f (wOf q).1 from z)]
  ·rintro σ H4 ⟨v3,rfl,fz,kp,hdf⟩;rw[ax_,aa',ap'] at hdf;refine⟨o2,fz,_,rfl,k df _ (fun b u e=>?_) ndf0 (by rw[a4_ dfsd];exact hdf)⟩;by_cases z:b=sd
   ·rw[z] at e ⊢;rw[hsd] at e;rw[a1_];exact e
   ·rw[a4_ z];exact kp b u z (a6_ e ndf0) (s3 _ _ e)
def cz'(hs:List (Str × Int))(ps:List Pc)(f:Str->Str)(a b:Str):Int:=hld ps f a * strOf hs b - hld ps f b * strOf hs a
theorem scDrop:a7' ["_law_world_here","_law_held_here","_law_one","_law_other","_law_strength"] ["_law_world_here","_law_held_here","_law_one","_law_other"] (a5' sDrop):=f__
def spDrop(K:F__):Sp:=fun vs H Q _=>∃(wa d:Addr) (a b:Str) (hs:List (Str × Int)) (ts:List (Str × Str)) (ps:List Pc) (f:Str->Str),vs=[.ref wa,.ref d,.str a,.str b]/\bS' K H wa hs ts ps/\Pw hs ts ps f/\H d=some (.dK (mKV (hs.map (·.1)) fun n=>.int (hld ps f n)))/\a∈hs.map (·.1)/\b∈hs.map (·.1)/\Q (.int (cz' hs ps f a b)) H
theorem jC_{f0:Addr}{fd:FuncData}(F:Fun K "_law_drop" "_law_drop" sDrop f0 fd):FnOk P w K mg base CX0 1 f0 fd ["_law_world_here","_law_held_here","_law_one","_law_other"] (spDrop K):=by
 refine F.ok scDrop (fun vs H Q E h=>?_) (fun cdv A outer s H vs Q E hr h=>?_)
 ·obtain⟨wa,d,a,b,hs,ts,ps,f,rfl,_⟩:=h;rfl
 ·obtain⟨wa,d,a,b,hs,ts,ps,f,rfl,⟨ds,dn,lt,dh,dy,ad,gy,W⟩,Pp,hd,ha,hb,k⟩:=h;have hu:=b3_ hr;refine' ⟨_,a2_ ?s1 (a5_ ?s2),?kk⟩
  case s1=>exact aa_ (i:=4) scDrop.nd rfl (Or.inl rfl) (ac_ hu (pv 0) au_ (fun _ _=>rfl))
  case s2=>exact ab_ (aj_ fr_ (aj_ ba_ (ac_ hu (pv 1) (pv 2) (fun _ _=>rfl)) (ac_ hu (pv 4) (pv 3) (fun _ _=>rfl))) (aj_ ba_ (ac_ hu (pv 1) (pv 3) (fun _ _=>rfl)) (ac_ hu (pv 4) (pv 2) (fun _ _=>rfl))))
  case' kk=>skip
  have h1:=Pp.hld_ok a;have h2:=Pp.hld_ok b;have e1:=Pp.str_ok ha;have e2:=Pp.str_ok hb;refine⟨_,rfl,wa,_,rfl,W.gS,?_⟩;refine setG ?_;dsimp only;refine⟨_,rfl,_,rfl,d,_,rfl,dgR hd ha,_,rfl,_,rfl,ds,_,rfl,dgR W.sg hb,_,_,rfl,rfl,.inr ⟨by omega,by omega⟩,?_⟩;exact⟨_,rfl,_,rfl,d,_,rfl,dgR hd hb,_,rfl,_,rfl,ds,_,rfl,dgR W.sg ha,_,_,rfl,rfl,.inr ⟨by omega,by omega⟩,_,_,rfl,rfl,k⟩
def mayL(ts:List (Str × Str))(ps:List Pc)(n a b:Str):Bool:=decide (b∈nbL ts a)&&match wyN ps n with
 |none=>true
 |some ws=>decide ((a,b)∈ws) || decide ((b,a)∈ws)
theorem scMayL:a7' ["_law_world_here","_law_piece","_law_one","_law_other","_law_ways_here"] ["_law_world_here","_law_piece","_law_one","_law_other"] (a5' sMayL):=f__
def spMayL(K:F__):Sp:=fun vs H Q _=>∃(wa:Addr) (n a b:Str) (hs:List (Str × Int)) (ts:List (Str × Str)) (ps:List Pc) (f:Str->Str),vs=[.ref wa,.str n,.str a,.str b]/\bS' K H wa hs ts ps/\Pw hs ts ps f/\n∈ps.map (·.1)/\a∈hs.map (·.1)/\∀H',Same H H'->Q (.bl (mayL ts ps n a b)) H'
set_option maxHeartbeats 800000 in
theorem iQ_{f0:Addr}{fd:FuncData}(F:Fun K "_law_may" "_law_may" sMayL f0 fd):FnOk P w K mg base CX0 1 f0 fd ["_law_world_here","_law_piece","_law_one","_law_other"] (spMayL K):=by
 refine F.ok scMayL (fun vs H Q E h=>?_) (fun cdv A outer s H vs Q E hr h=>?_)
 ·obtain⟨wa,n,a,b,hs,ts,ps,f,rfl,_⟩:=h;rfl
 ·obtain⟨wa,n,a,b,hs,ts,ps,f,rfl,⟨ds,dn,lt,dh,dy,ad,gy,W⟩,Pp,hn,ha,k⟩:=h;have hu:=b3_ hr;refine' ⟨_,a2_ ?s1 (a2_ ?s2 (a5_ ?s3)),?kk⟩
  case s1=>exact aa_ (i:=4) scMayL.nd rfl (Or.inl rfl) (ac_ hu (ac_ hu (pv 0) au_ (fun _ _=>rfl)) (pv 1) (fun _ _=>rfl))
  case s2=>exact aC_ (ao_ (dX_ cmpS (cb' hr 0)) (pv 3) (ac_ hu (ac_ hu (pv 0) au_ (fun _ _=>rfl)) (pv 2) (fun _ _=>rfl)) (by with_unfolding_all rfl)) (a5_ (ab_ dJ_)) ae_
  case s3=>exact ab_ (i8_ (bd_ iy_ (pv 4) dZ_ (nomark _)) (i8_ (bd_ (dB_ (cmp2 cmpS cmpS) (cb' hr _)) (aH_ (a0_ (pv 2) (a0_ (pv 3) a3_))) (pv 4) (by with_unfolding_all rfl)) (bj_ (bd_ (dB_ (cmp2 cmpS cmpS) (cb' hr _)) (aH_ (a0_ (pv 3) (a0_ (pv 2) a3_))) (pv 4) (by with_unfolding_all rfl)))))
  case' kk=>skip
  obtain⟨q,hq,rfl⟩:=ad'.mp hn;have wv:=W.wv q hq;have wn:=io_ Pp.nd hq;refine⟨_,rfl,wa,_,rfl,W.gW,_,rfl,dy,_,rfl,dgR W.wy hn,?_⟩;refine setG ?_;dsimp only;refine⟨_,rfl,_,rfl,wa,_,rfl,W.gN,_,rfl,dn,_,rfl,dgR W.nr ha,b,nbL ts a,rfl,⟨ad a,_,rfl,.of (W.ls a ha),cn_ _⟩,_,rfl,?_⟩;have fin:∀{H1:Hp} {r:Bool},Same H H1->mayL ts ps q.1 a b=r->Q (.bl r) H1:=fun s e=>e▸k _ s;refine ite2 (fun c=>?_) (fun c=>?_)
  ·refine fin (Same.refl H) ?_;unfold mayL;have c:¬b∈nbL ts a:=by simpa using c
   rw[decide_eq_false c,a0']
  ·have c:b∈nbL ts a:=by simpa using c
   have ml:mayL ts ps q.1 a b=match q.2.2 with
    |none=>true
    |some ws=>decide ((a,b)∈ws) || decide ((b,a)∈ws):=by
    unfold mayL;rw[decide_eq_true c,Bool.true_and,wn]
   cases o:q.2.2 with
   |none=>
    rw[o] at wv ml;have wv:gy q.1=.non:=wv;refine⟨_,rfl,rfl,_,rfl,?_⟩;rw[wv];exact fin (Same.refl H) ml
   |some ws=>
    rw[o] at wv ml;obtain⟨aw,ys,e,hw,tw⟩:=wv;refine⟨_,rfl,rfl,_,rfl,?_⟩;rw[e];refine⟨_,rfl,_,rfl,by show 2<=sizeLine;decide,fun t1 n1=>?_⟩;obtain⟨s1,e1⟩:=nw__ (o:=.tup [.str a,.str b]) n1;generalize upd H t1 (.tup [.str a,.str b])=H1 at s1 e1 ⊢;refine⟨_,rfl,(a,b),ws,⟨t1,_,_,rfl,.of e1,rfl,rfl⟩,⟨aw,ys,rfl,.of (s1 _ _ hw),cw_ (tw.same s1)⟩,_,rfl,?_⟩;refine ite2 (fun c2=>?_) (fun c2=>?_)
    ·refine fin s1 (ml.trans ?_);have c2:(a,b)∈ws:=by simpa using c2
     simp[c2]
    ·refine⟨_,rfl,_,rfl,by show 2<=sizeLine;decide,fun t2 n2=>?_⟩;obtain⟨s2,e2⟩:=nw__ (o:=.tup [.str b,.str a]) n2;generalize upd H1 t2 (.tup [.str b,.str a])=H2 at s2 e2 ⊢;refine⟨_,rfl,(b,a),ws,⟨t2,_,_,rfl,.of e2,rfl,rfl⟩,⟨aw,ys,rfl,.of (s2 _ _ (s1 _ _ hw)),cw_ (tw.same (s1.trans s2))⟩,fin (s1.trans s2) (ml.trans ?_)⟩;have c2:¬(a,b)∈ws:=by simpa using c2
     simp[c2]
end
end Ev
namespace Ev
open PySem L2
def hstep(ps:List Pc)(o:Option Str)(n:Str):Option Str:=match o with
 |none=>some n
 |some m=>if wtN ps m<wtN ps n then some n else some m
def hvyL(ps:List Pc)(ns:List Str):Option Str:=(sortS ns).foldl (hstep ps) none
theorem fc_{ps:List Pc}:∀{l:List Str} {o:Option Str} {m:Str},l.foldl (hstep ps) o=some m->m∈l∨o=some m
 |[],o,m,h=>.inr h
 |n::l,o,m,h=>by
  rw[List.foldl_cons] at h;rcases fc_ h with h|h
  ·exact .inl (af' _ h)
  ·unfold hstep at h;cases o with
   |none=>cases h;exact .inl ah'
   |some k=>
    dsimp only at h;split at h
    ·cases h;exact .inl ah'
    ·exact .inr h
section
variable{P:Program}{w:World}{K:F__}{mg:Str->Option Value}{base:Heap}
theorem scHvL:a7' ["_law_world_here","_law_pieces","_law_found","_law_piece"] ["_law_world_here","_law_pieces"] (a5' sHvL):=f__
def spHvL(K:F__):Sp:=fun vs H Q _=>∃(wa l:Addr) (ns:List Str) (hs:List (Str × Int)) (ts:List (Str × Str)) (ps:List Pc),vs=[.ref wa,.ref l]/\bS' K H wa hs ts ps/\H l=some (.lst (ns.map V.str))/\(∀n∈ns,n∈ps.map (·.1))/\ns.length<64/\∀H',Same H H'->Q (optV (hvyL ps ns)) H'
set_option maxHeartbeats 800000 in
theorem ke_{f0:Addr}{fd:FuncData}(F:Fun K "_law_heaviest" "_law_heaviest" sHvL f0 fd)(B:Bi mg):FnOk P w K mg base CX0 1 f0 fd ["_law_world_here","_law_pieces"] (spHvL K):=by
 refine F.ok scHvL (fun vs H Q E h=>?_) (fun cdv A outer s H vs Q E hr h=>?_)
 ·obtain⟨wa,l,ns,hs,ts,ps,rfl,_⟩:=h;rfl
 ·obtain⟨wa,l,ns,hs,ts,ps,rfl,⟨ds,dn,lt,dh,dy,ad,gy,W⟩,hl,sub,n64,k⟩:=h;have hu:=b3_ hr;refine' ⟨_,a2_ ?s1 (a2_ ?s2 (a5_ ?s3)),?kk⟩
  case s1=>exact aa_ (i:=2) scHvL.nd rfl (Or.inl rfl) dZ_
  case' s2=>refine' aG_ PassesOwn.never rfl (an_ (ad_ d0_ (by rfl) B.sorted PyProof.Rows.Boot.«sorted» (a0_ (pv 1) a3_))) (a8_ (i:=3) scHvL.nd rfl (Or.inl rfl)) (a5_ ?b1)
  case b1=>exact aC_ (PW.pt (e1_ (ao_ iy_ (pv 2) dZ_ (nomark _)) (cd_ (ao_ es_ (ac_ hu (ac_ hu (pv 0) au_ (fun _ _=>rfl)) (pv 3) (fun _ _=>rfl)) (ac_ hu (ac_ hu (pv 0) au_ (fun _ _=>rfl)) (pv 2) (fun _ _=>rfl)) (nomark _))))) (a5_ (aa_ (i:=2) scHvL.nd rfl (Or.inl rfl) (pv 3))) ae_
  case s3=>exact ab_ (pv 2)
  case' kk=>skip
  refine setG ?_;dsimp only;refine⟨_,rfl,l,ns,rfl,.of hl,n64,fun lx nx=>?_⟩;obtain⟨s1,e1⟩:=nw__ (o:=.lst ((sortS ns).map V.str)) nx;generalize upd H lx (.lst ((sortS ns).map V.str))=H1 at s1 e1 ⊢;have W1:=W.same s1;refine⟨lx,rfl,⟨_,.of e1⟩,aw_ (K:=K) (a:=lx) (xs:=(sortS ns).map V.str) (fun i σ H'=>∃v3:Option V,σ=[some (.ref wa),some (.ref l),some (optV (((sortS ns).take i).foldl (hstep ps) none)),v3]/\H'=H1) ⟨none,rfl,rfl⟩ (fun i σ H' _ ⟨_,_,z⟩=>z▸.of e1) ?_ ?_⟩
  ·rintro i x σ H' hx ⟨v3,rfl,rfl⟩;obtain⟨n,hn,rfl⟩:=ai_ hx;have nm:n∈ps.map (·.1):=sub n ((ak_ ns).mem_iff.mp (ac' hn));have st:((sortS ns).take (i+1)).foldl (hstep ps) none=hstep ps (((sortS ns).take i).foldl (hstep ps) none) n:=by rw[ap_ hn,List.foldl_append];rfl
   have inn:∀m,((sortS ns).take i).foldl (hstep ps) none=some m->m∈ps.map (·.1):=fun m hm=>by
    rcases fc_ hm with h|h
    ·exact sub m ((ak_ ns).mem_iff.mp (List.mem_of_mem_take h))
    ·cases h
   generalize ((sortS ns).take i).foldl (hstep ps) none=o at st inn ⊢;rw[st];refine setG ?_;dsimp only;cases o with
   |none=>
    refine⟨_,rfl,rfl,_,rfl,?_⟩;refine ite2 (fun c=>?_) (fun c=>absurd rfl c);refine ite2 (fun c=>?_) (fun c=>absurd rfl c);exact⟨_,rfl,_,rfl,rfl⟩
   |some m=>
    refine⟨_,rfl,rfl,_,rfl,?_⟩;refine ite2 (fun c=>by simp[optV] at c) (fun c=>?_);refine⟨_,rfl,wa,_,rfl,W1.gH,_,rfl,dh,_,rfl,dgR W1.hv nm,_,rfl,wa,_,rfl,W1.gH,_,rfl,dh,_,rfl,dgR W1.hv (inn m rfl),_,_,rfl,rfl,_,rfl,?_⟩;refine ite2 (fun c=>?_) (fun c=>?_)
    ·refine⟨_,rfl,some (.str n),?_,rfl⟩;have c:wtN ps m<wtN ps n:=by simpa using c
     unfold hstep;dsimp only;rw[if_pos c];rfl
    ·refine⟨some (.str n),?_,rfl⟩;have c:¬wtN ps m<wtN ps n:=by simpa using c
     unfold hstep;dsimp only;rw[if_neg c];rfl
  ·rintro σ H' ⟨v3,rfl,rfl⟩;rw[aa',ap'];exact⟨_,rfl,k _ s1⟩
end
end Ev
namespace L2
open PySem
variable{X:Cx}
def da':V->List V->Hp->VK->Prop:=fun x vs H Q=>∃(l:Addr) (xs:List V) (k:V) (j:Nat),x=.ref l/\vs=[k]/\H l=some (.lst xs)/\cj' k=true/\xs.all cj'=true/\(∃y,xs[j]? = some y/\eqV y k=true)/\(∀i y,i<j->xs[i]? = some y->eqV y k=false)/\Q .non (upd H l (.lst (xs.eraseIdx j)))
theorem d6_:MtM X "list.remove" da':=by
 intro pins s σ H x vs v us Q I rx rv h;obtain⟨l,xs,k,j,rfl,rfl,hH,fk,fx,⟨y,hy,ey⟩,no,q⟩:=h;cases rx;obtain⟨u,rfl,ru⟩:=rv.one;obtain⟨z,its,n,r,hl,e⟩:=I.lstM hH;obtain⟨hjx,ejx⟩:=ab'.mp hy;refine call_meets PySem.F.slot_list_remove ⟨_,e,rfl⟩ PySem.F.entry_list_remove (PySem.F.args_list_remove_2 _ _) (MeetsSeq.list_remove l its.toArray n u (eqU k) (fun y hy prog w A E s Q hq=>fl_ (A:=A) (s:=s) ru fk r fx y (by simpa using hy) prog w E Q hq) j (by show j<its.length;omega) ?_ ?_ (by rw[ai'];omega)) ⟨e,?_⟩
 ·obtain⟨h2,e2⟩:=eK_ r fx k j (by omega);show eqU k its[j]=true;rw[e2,ejx];exact ey
 ·intro m hm lt;obtain⟨h2,e2⟩:=eK_ r fx k m (by simpa using hm);show eqU k its[m]=false;rw[e2];exact no m _ lt (ae' h2)
 ·refine⟨.non,_,I.lset (its':=its.eraseIdx j) hH e ?_ (r.eraseIdx j) ?_,rfl,q⟩
  ·show its.toArray.eraseIdxIfInBounds j=(its.eraseIdx j).toArray;rw[List.eraseIdxIfInBounds_toArray]
  ·have:=ec_ xs j;omega
end L2
namespace Ev
open PySem L2
theorem f1_:∀{l:List Str} {a:Str},a∈l->∃j,l[j]? = some a/\(∀i y,i<j->l[i]? = some y->y≠a)/\l.eraseIdx j=l.erase a
 |b::l,a,h=>by
  by_cases z:b=a
  ·subst z;exact⟨0,rfl,fun i y h=>absurd h (Nat.not_lt_zero _),by simp⟩
  ·obtain⟨j,h1,h2,h3⟩:=f1_ (List.mem_of_ne_of_mem (fun y=>z y.symm) h);refine⟨j+1,h1,fun i y hi e=>?_,?_⟩
   ·cases i with
    |zero=>cases e;exact z
    |succ i=>exact h2 i y (by omega) e
   ·rw[List.eraseIdx_cons_succ,h3,List.erase_cons_tail (by simpa using z)]
theorem ch_{α β:Type}(g:α->β):∀(l:List α) (j:Nat),(l.map g).eraseIdx j=(l.eraseIdx j).map g
 |[],_=>by simp
 |a::l,0=>by simp
 |a::l,j+1=>by simp[ch_ g l j]
theorem gJ_(x y:Str):eqV (.str x) (.str y)=decide (x=y):=by
 show (x == y)=_;by_cases h:x=y
 ·subst h;simp
 ·simp[h]
section
variable{P:Program}{w:World}{K:F__}{mg:Str->Option Value}{base:Heap}
end
end Ev
namespace Ev
open PySem L2
section
variable{P:Program}{w:World}{K:F__}{mg:Str->Option Value}{base:Heap}
end
end Ev
namespace Ev
open PySem L2
theorem ck'{h x:Str}{t:Str × Str}:x∈nbT h t ↔ t=(h,x)∨t=(x,h):=by
 obtain⟨a,b⟩:=t;unfold nbT;rw[aw'];constructor
 ·rintro (m|m)
  ·split at m
   ·rename_i z
    have z:a=h:=z;exact .inl (by rw[aG'.mp m,z])
   ·cases m
  ·split at m
   ·rename_i z
    have z:b=h:=z;exact .inr (by rw[aG'.mp m,z])
   ·cases m
 ·rintro (e|e)
  ·obtain⟨rfl,rfl⟩:=Prod.mk.inj e;exact .inl (by rw[if_pos rfl];exact aG'.mpr rfl)
  ·obtain⟨rfl,rfl⟩:=Prod.mk.inj e;exact .inr (by rw[if_pos rfl];exact aG'.mpr rfl)
theorem nbL_mem{ts:List (Str × Str)}{h x:Str}:x∈nbL ts h ↔ (h,x)∈ts∨(x,h)∈ts:=by
 unfold nbL;rw[List.mem_flatMap];constructor
 ·rintro⟨t,ht,m⟩;rcases ck'.mp m with rfl|rfl
  ·exact .inl ht
  ·exact .inr ht
 ·rintro (m|m)
  ·exact⟨_,m,ck'.mpr (.inl rfl)⟩
  ·exact⟨_,m,ck'.mpr (.inr rfl)⟩
theorem iz_{h:Str}:∀{ts:List (Str × Str)},(∀t∈ts,t.1≠t.2)->(ts.map kO).Nodup->(nbL ts h).Nodup
 |[],_,_=>List.nodup_nil
 |t::ts,ne,nd=>by
  rw[ao',aI'] at nd;have ih:=iz_ (h:=h) (fun u hu=>ne u (af' _ hu)) nd.2;have nt:=ne t ah';show (nbT h t++nbL ts h).Nodup;rw[List.nodup_append];refine⟨?_,ih,fun a ha b hb e=>?_⟩
  ·unfold nbT;by_cases z1:t.1=h
   ·rw[if_pos z1,if_neg (fun z=>nt (z1.trans z.symm)),aA'];simp
   ·rw[if_neg z1,List.nil_append];split
    ·simp
    ·exact List.nodup_nil
  ·subst e;refine nd.1 ?_;rcases ck'.mp ha with rfl|rfl<;>rcases nbL_mem.mp hb with m|m
   ·exact ad'.mpr ⟨_,m,rfl⟩
   ·exact ad'.mpr ⟨_,m,eA_ _ _⟩
   ·exact ad'.mpr ⟨_,m,eA_ _ _⟩
   ·exact ad'.mpr ⟨_,m,rfl⟩
theorem iF_{hs:List (Str × Int)}{ts:List (Str × Str)}(G:Good hs ts){h x:Str}:x∈nb hs ts h ↔ x∈nbL ts h:=by
 show x∈(a6' hs).filter _ ↔ _;rw[aN',decide_eq_true_eq,b3',nbL_mem];constructor
 ·rintro⟨_,⟨a,b⟩,ht,e⟩;rcases fU_ (a:=a) (b:=b) (c:=h) (d:=x) (by show kT (ord2 a b)=kT (ord2 h x);rw[<- e]) with⟨rfl,rfl⟩|⟨rfl,rfl⟩
  ·exact .inl ht
  ·exact .inr ht
 ·rintro (m|m)
  ·exact⟨(al_ hs).mem_iff.mpr (G.tin _ m).2,_,m,rfl⟩
  ·exact⟨(al_ hs).mem_iff.mpr (G.tin _ m).1,_,m,bV_ _ _⟩
theorem hb_{hs:List (Str × Int)}{ts:List (Str × Str)}(G:Good hs ts)(h:Str):sortS (nbL ts h)=nb hs ts h:=by
 refine (cB_ ?_ ((gQ_ hs).filter _) (cC_ _)).symm;refine ((List.perm_ext_iff_of_nodup (G.nnd.filter _) (iz_ (fun t ht=>(G.tok t ht).2.2) G.tnd)).mpr fun x=>?_).trans (ak_ _).symm;exact iF_ G
section
variable{hs:List (Str × Int)}{ts:List (Str × Str)}{ps qs:List Pc}{f:Str->Str}
theorem iK_(W:Pw hs ts ps f)(Q:Qs ps qs)(n:Str):hld ps f n=lo qs f n:=(iX_ f (Q.ws W.nd) n).symm
theorem gi_(W:Pw hs ts ps f)(Q:Qs ps qs)(a b:Str):cz' hs ps f a b=bC' hs qs f a b:=by
 unfold cz' bC';rw[iK_ W Q,iK_ W Q]
theorem lex2(x y:Int)(a b:Str):lexK [.inl x,.inr a] [.inl y,.inr b]=if x=y then ltS a b else decide (x<y):=by
 by_cases h:x=y
 ·subst h;rw[if_pos rfl];show (if (Sum.inl x:Key)=Sum.inl x then (if (Sum.inr a:Key)=Sum.inr b then false else ltS a b) else _)=_;rw[if_pos rfl];by_cases z:a=b
  ·subst z;rw[if_pos rfl,ex_]
  ·rw[if_neg fun e=>z (Sum.inr.inj e)]
 ·rw[if_neg h];show (if (Sum.inl x:Key)=Sum.inl y then _ else kLt (Sum.inl x) (Sum.inl y))=_;rw[if_neg fun e=>h (Sum.inl.inj e)];rfl
theorem ix_{x y:Int}{a b:Str}(h:y<x∨(y<=x/\ltS a b=false)):lexK [.inl x,.inr a] [.inl y,.inr b]=false:=by
 rw[lex2];by_cases z:x=y
 ·rw[if_pos z];rcases h with h|h
  ·omega
  ·exact h.2
 ·rw[if_neg z];exact decide_eq_false (by omega)
end
end Ev
namespace Ev
open PySem L2
section
variable{hs:List (Str × Int)}{ts:List (Str × Str)}{ps qs:List Pc}{f:Str->Str}
theorem jR_(Q:Qs ps qs){n:Str}(h:n∈ps.map (·.1)):∃p∈ps,p.1=n/\nrm p∈qs:=by
 have m:n∈qs.map (·.1):=by
  rw[Q.nms];exact (ak_ _).mem_iff.mpr h
 obtain⟨q,hq,rfl⟩:=ad'.mp m;obtain⟨p,hp,e⟩:=Q.mem q hq;exact⟨p,hp,by rw[e];rfl,by rw[<- e];exact hq⟩
theorem wt_q(W:Pw hs ts ps f)(Q:Qs ps qs){n:Str}(h:n∈ps.map (·.1)):wtN qs n=wtN ps n:=by
 obtain⟨p,hp,rfl,hq⟩:=jR_ Q h;rw[ej_ W.nd hp];exact ej_ (q:=nrm p) (Q.nd W.nd) hq
theorem wy_q(W:Pw hs ts ps f)(Q:Qs ps qs){n:Str}(h:n∈ps.map (·.1)):wyN qs n=(wyN ps n).map tsOf:=by
 obtain⟨p,hp,rfl,hq⟩:=jR_ Q h;rw[io_ W.nd hp];exact io_ (q:=nrm p) (Q.nd W.nd) hq
theorem way_mem{ws:List (Str × Str)}{a b:Str}:ord2 a b∈tsOf ws ↔ (a,b)∈ws∨(b,a)∈ws:=by
 rw[b3'];constructor
 ·rintro⟨⟨x,y⟩,ht,e⟩;rcases fU_ (a:=x) (b:=y) (c:=a) (d:=b) (by show kT (ord2 x y)=kT (ord2 a b);rw[<- e]) with⟨rfl,rfl⟩|⟨rfl,rfl⟩
  ·exact .inl ht
  ·exact .inr ht
 ·rintro (m|m)
  ·exact⟨_,m,rfl⟩
  ·exact⟨_,m,bV_ _ _⟩
theorem kn_(W:Pw hs ts ps f)(Q:Qs ps qs){n a b:Str}(h:n∈ps.map (·.1))(ha:a∈hs.map (·.1))(hb:b∈hs.map (·.1)):mayL ts ps n a b=mayN hs ts qs n a b:=by
 unfold mayL mayN goB;rw[bE_,decide_eq_true ha,decide_eq_true hb,Bool.true_and,Bool.true_and,wy_q W Q h,decide_eq_decide.mpr (iF_ W.Gd)];congr 1;cases wyN ps n with
 |none=>rfl
 |some ws=>
  show (decide ((a,b)∈ws) || decide ((b,a)∈ws))=decide (ord2 a b∈tsOf ws);rw[Bool.eq_iff_iff,Bool.or_eq_true,decide_eq_true_eq,decide_eq_true_eq,decide_eq_true_eq];exact way_mem.symm
theorem eR_{R:Str->Bool}{k:Str->List Key}{n:Str}:∀{l:List Str},Asc (l.map k)->l.find? R=some n->∀m∈l,R m=true->lexK (k m) (k n)=false
 |x::l,as,e,m,hm,r=>by
  rw[ao'] at as;have as':(∀z∈l.map k,lexK z (k x)=false)/\Asc (l.map k):=aY'.mp as;cases c:R x with
  |true=>
   rw[List.find?_cons_of_pos c] at e;cases e;rcases aj'.mp hm with rfl|hm
   ·exact bW_ _
   ·exact as'.1 _ (ad'.mpr ⟨m,hm,rfl⟩)
  |false=>
   rw[List.find?_cons_of_neg (by rw[c];exact ar')] at e;rcases aj'.mp hm with rfl|hm
   ·rw[c] at r;cases r
   ·exact eR_ as'.2 e m hm r
theorem js_(qs:List Pc):Asc ((hvL qs).map (kN qs)):=by
 unfold hvL;rw[al']
 have e:∀k∈sortKs ((qs.map (·.1)).map (kN qs)),(kN qs ∘ sndK) k=id k:=fun k hk=>by
  obtain⟨n,_,rfl⟩:=ad'.mp ((as_ _).mem_iff.mp hk);rfl
 rw[az' e,List.map_id];exact bB_ _
theorem hfold:∀(l:List Str) (a:Str),SAsc (a::l)->∃m,l.foldl (hstep ps) (some a)=some m/\m∈a::l/\∀x∈a::l,lexK (kN ps x) (kN ps m)=false
 |[],a,_=>⟨a,rfl,ah',fun x hx=>by rw[aG'.mp hx];exact bW_ _⟩
 |y::l,a,as=>by
  have as':(∀z∈y::l,ltS z a=false)/\SAsc (y::l):=aY'.mp as;have as2:(∀z∈l,ltS z y=false)/\SAsc l:=aY'.mp as'.2;have e:(y::l).foldl (hstep ps) (some a)=l.foldl (hstep ps) (if wtN ps a<wtN ps y then some y else some a):=rfl;rw[e];by_cases c:wtN ps a<wtN ps y
  ·rw[if_pos c];obtain⟨m,e,hm,mn⟩:=hfold l y as'.2;refine⟨m,e,af' _ hm,fun x hx=>?_⟩;rcases aj'.mp hx with rfl|hx
   ·exact bD_ (mn y ah') (ix_ (.inl (by omega)))
   ·exact mn x hx
  ·rw[if_neg c];obtain⟨m,e,hm,mn⟩:=hfold l a (aY'.mpr ⟨fun z hz=>as'.1 z (af' _ hz),as2.2⟩);refine⟨m,e,?_,fun x hx=>?_⟩
   ·rcases aj'.mp hm with rfl|hm
    ·exact ah'
    ·simp[hm]
   ·rcases aj'.mp hx with rfl|hx
    ·exact mn x ah'
    ·rcases aj'.mp hx with rfl|hx
     ·exact bD_ (mn a ah') (ix_ (.inr ⟨by omega,as'.1 x ah'⟩))
     ·exact mn x (af' _ hx)
theorem hs_(ps:List Pc)(S:List Str):(S=[]/\hvyL ps S=none)∨∃m,hvyL ps S=some m/\m∈S/\∀x∈S,lexK (kN ps x) (kN ps m)=false:=by
 have p:=ak_ S;have as:=cC_ S;unfold hvyL;generalize sortS S=T at p as;cases T with
 |nil=>exact .inl ⟨List.nil_perm.mp p,rfl⟩
 |cons a l=>
  obtain⟨m,e,hm,mn⟩:=hfold (ps:=ps) l a as;exact .inr ⟨m,e,p.mem_iff.mp hm,fun x hx=>mn x (p.mem_iff.mpr hx)⟩
end
end Ev
namespace L2
open PySem PySem.Spec PyProof.Rows PySem.Builtin PySem.Builtin.Str
section
variable{X:Cx}
theorem vals3{x y z:V}{us:List Value}(r:Vals [x,y,z] us):∃u v w,us=[u,v,w]/\RelV x u/\RelV y v/\RelV z w:=by
 cases r with
 |cons r1 r=>
  obtain⟨v,w,rfl,r2,r3⟩:=vals2 r;exact⟨_,v,w,rfl,r1,r2,r3⟩
theorem cmp3{n:Nat}{D1 D2 D3:Type}[DecidableEq D1][DecidableEq D2][DecidableEq D3]{R1:Rp D1}{R2:Rp D2}{R3:Rp D3}(c1:Cmp X n R1)(c2:Cmp X n R2)(c3:Cmp X n R3):Cmp X (n+1) (r3 X.K R1 R2 R3) where
 one:=fun {pins σ H s x d e} I hx hy=>by
  obtain⟨a,u,v,w,rfl,t,q1,q2,q3⟩:=hx;obtain⟨b,u',v',w',e0,t',q1',q2',q3'⟩:=hy;cases e0;have e1:=I.tuple_inj t t';cases e1;exact Prod.ext (c1.one I q1 q1') (Prod.ext (c2.one I q2 q2') (c3.one I q3 q3'))
 eq:=fun {pins σ H s A x y u v d e} I ru rv hx hy hu=>by
  obtain⟨a,x1,x2,x3,rfl,t,q1,q2,q3⟩:=hx;obtain⟨b,y1,y2,y3,rfl,t',q1',q2',q3'⟩:=hy;cases ru;cases rv;by_cases hab:a=b
  ·subst hab;have e1:=I.tuple_inj t t';cases e1;have:d=e:=Prod.ext (c1.one I q1 q1') (Prod.ext (c2.one I q2 q2') (c3.one I q3 q3'));rw[decide_eq_true this];exact SeqAt.EqAt.same _
  ·obtain⟨its,r,it,_⟩:=I.tuple t;obtain⟨its',r',it',_⟩:=I.tuple t';obtain⟨u1,u2,u3,rfl,r1,r2,r3⟩:=vals3 r;obtain⟨w1,w2,w3,rfl,r1',r2',r3'⟩:=vals3 r'
   have key:=SeqAt.EqAt.of_refs hab (SeqAt.RcAt.tuples (A:=A) (s:=s) (e:=fun j=>if j=0 then decide (d.1=e.1) else if j=1 then decide (d.2.1=e.2.1) else decide (d.2.2=e.2.2)) (bA_ it) (bA_ it') (by omega) fun j h1 h2=>by
    match j,h1,h2 with
    |0,_,_=>exact c1.eq I r1 r1' q1 q1' (by show A.units+1+n<cLine;omega)
    |1,_,_=>exact c2.eq I r2 r2' q2 q2' (by show A.units+1+n<cLine;omega)
    |2,_,_=>exact c3.eq I r3 r3' q3 q3' (by show A.units+1+n<cLine;omega))
   have e3:((List.range (min [u1,u2,u3].toArray.size [w1,w2,w3].toArray.size)).all (fun j=>if j=0 then decide (d.1=e.1) else if j=1 then decide (d.2.1=e.2.1) else decide (d.2.2=e.2.2))&&[u1,u2,u3].toArray.size == [w1,w2,w3].toArray.size)=decide (d=e):=by
    show (decide (d.1=e.1)&&(decide (d.2.1=e.2.1)&&(decide (d.2.2=e.2.2)&&true))&&true)=_;by_cases h1:d.1=e.1
    ·by_cases h2:d.2.1=e.2.1
     ·by_cases h3:d.2.2=e.2.2
      ·have:d=e:=Prod.ext h1 (Prod.ext h2 h3);simp[this]
      ·have:¬d=e:=fun z=>h3 (by rw[z]);simp[h1,h2,h3,this]
     ·have:¬d=e:=fun z=>h2 (by rw[z]);simp[h1,h2,this]
    ·have:¬d=e:=fun z=>h1 (by rw[z]);simp[h1,this]
   rw[e3] at key;exact key
end
end L2
namespace Ev
open PySem L2
theorem bs'.firm{K:F__}{C:Addr}{H:Hp}{p:Addr}{hs:List (Str × Int)}{ts:List (Str × Str)}{fp:List Addr}(W:bs' K C H p hs ts fp){b:Addr}(hb:b∈fp):∃o,H b=some o/\∀vs,o≠.tbl vs:=by
 obtain⟨dx,d1,l2,d3,zs,as,rfl,h1,h2,h3,h4,h5,h6,h7⟩:=W.ex;simp only[aj'] at hb;rcases hb with rfl|rfl|rfl|rfl|hb
 ·exact⟨_,h1,by intro vs z;cases z⟩
 ·exact⟨_,h2,by intro vs z;cases z⟩
 ·exact⟨_,h3,by intro vs z;cases z⟩
 ·exact⟨_,h5,by intro vs z;cases z⟩
 ·obtain⟨i,hi,e⟩:=aK' hb;exact⟨_,h7 i ((a6' hs)[i]'(by omega)) b (ae' (by omega)) (by rw[<- e];exact ae' hi),by intro vs z;cases z⟩
theorem ba'.firm{K:F__}{CG CW:Addr}{H:Hp}{g p:Addr}{hs:List (Str × Int)}{ts:List (Str × Str)}{qs:List Pc}{fp:List Addr}(G:ba' K CG CW H g p hs ts qs fp):∃fp',ba' K CG CW H g p hs ts qs fp'/\(∀b∈fp',b∈fp)/\∀b∈fp',∃o,H b=some o/\∀vs,o≠.tbl vs:=by
 obtain⟨dx,dw,dy,vs,fpw,h1,h2,h3,h4,h5,m1,m2,m3,m4,m5⟩:=G.ex;refine⟨g::dw::dy::(fpw++vs.filterMap fun v=>match v with | .ref a=>some a|_=>none),⟨dx,dw,dy,vs,fpw,h1,h2,h3,h4,h5,by simp,by simp,by simp,fun b hb=>by simp[hb],fun v hv a z=>?_⟩,fun b hb=>?_,fun b hb=>?_⟩
 ·have:a∈vs.filterMap fun v=>match v with | .ref a=>some a|_=>none:=aM'.mpr ⟨v,hv,by rw[z]⟩;simp only[aj',aw'];exact .inr (.inr (.inr (.inr this)))
 ·simp only[aj',aw'] at hb;rcases hb with rfl|rfl|rfl|hb|hb
  ·exact m1
  ·exact m2
  ·exact m3
  ·exact m4 b hb
  ·obtain⟨v,hv,e⟩:=aM'.mp hb;cases v with
   |ref a=>cases e;exact m5 _ hv _ rfl
   |_=>cases e
 ·simp only[aj',aw'] at hb;rcases hb with rfl|rfl|rfl|hb|hb
  ·exact⟨_,h1,by intro vs z;cases z⟩
  ·exact⟨_,h3,by intro vs z;cases z⟩
  ·exact⟨_,h4,by intro vs z;cases z⟩
  ·exact h2.firm hb
  ·obtain⟨v,hv,e⟩:=aM'.mp hb;obtain⟨i,hi,ev⟩:=aK' hv;have le:=Paired.length h5;have w:=aB_ h5 i hi (by omega);rw[ev] at w;cases o:(qs[i]'(by omega)).2.2 with
   |none=>
    rw[o] at w;rw[show v=.non from w] at e;cases e
   |some ws=>
    rw[o] at w;obtain⟨a,ys,ea,ha,_⟩:=w;rw[ea] at e;cases e;exact⟨_,ha,by intro vs z;cases z⟩
theorem kb_{K:F__}{H H':Hp}{a:Addr}{xs:List V}(s:NT H H')(h:SqL K H a xs):SqL K H' a xs:=by
 rcases h with (h|⟨o,h⟩)|h
 ·exact .inl (.inl (s.lst h))
 ·exact .inl (.inr ⟨o,s _ _ h nofun⟩)
 ·exact .inr h
theorem But.same{l:Addr}{H H1 H2:Hp}(b:But l H1 H2)(n:H l=none)(s:Same H H1):Same H H2:=fun c o e=>b c o (s c o e) (a6_ e n)
theorem Tb.same{H G:Hp}{T1 T2:Addr}(t:Tb H T1 T2)(s:Same H G):Tb G T1 T2:=⟨t.a.same s,t.b.same s,t.ne⟩
theorem reps3{K:F__}{H:Hp}:∀{ms:List Mv} {ys:List V},a8' K H ys (ms.map kM)->Paired (r3 K rS rS rS H) ys ms
 |[],_,h=>by rw[a1'] at h;cases h;exact .nil
 |m::ms,_,h=>by
  rw[ao'] at h;cases h with
  |cons a t=>
   obtain⟨b,e,hb⟩:=a;exact .cons ⟨b,_,_,_,e,.of hb,rfl,rfl,rfl⟩ (reps3 t)
theorem h6_{K:F__}{H G:Hp}{ys:List V}{ks:List (List Key)}(t:a8' K H ys ks)(s:NT H G):a8' K G ys ks:=Paired.mapP t fun y k ⟨b,z,q⟩=>⟨b,z,s.tup q⟩
theorem bS'.mv{K:F__}{H G:Hp}{wa l:Addr}{hs:List (Str × Int)}{ts:List (Str × Str)}{ps:List Pc}(W:bS' K H wa hs ts ps)(b:But l H G)(st:stt H l):bS' K G wa hs ts ps:=by
 obtain⟨ds,dn,lt,dh,dy,ad,gy,W⟩:=W;obtain⟨xs,hl⟩:=st.some;have kd:∀{c:Addr} {kvs:List (Key × V)},H c=some (.dK kvs)->G c=some (.dK kvs):=fun e=>b _ _ e (az_ e hl nofun);refine⟨ds,dn,lt,dh,dy,ad,gy,kd W.top,kd W.sg,kd W.nr,fun h hh=>b _ _ (W.ls h hh) fun z=>?_,kd W.hv,kd W.wy,fun q hq=>(W.wv q hq).mv b st⟩;obtain⟨x,y,w,e⟩:=st;have e2:=W.ls h hh;rw[z,e] at e2;have e2:=HO.lst.inj (Option.some.inj e2);cases c:nbL ts h with
 |nil=>rw[c] at e2;cases e2
 |cons a t=>
  rw[c] at e2;have:=(List.cons.inj e2).1;cases this
theorem Stn.mv{K:F__}{CG CW g p d l:Addr}{H G:Hp}{hs:List (Str × Int)}{ts:List (Str × Str)}{qs:List Pc}{fp:List Addr}{ns:List Str}{f:Str->Str}(S:Stn K CG CW H g p d hs ts qs fp ns f)(b:But l H G)(st:stt H l)(n:l∉fp)(dl:d≠l):Stn K CG CW G g p d hs ts qs fp ns f:=by
 obtain⟨xs,hl⟩:=st.some;have kb:∀c∈fp,∀o,H c=some o->G c=some o:=fun c hc o e=>b c o e (fun z=>n (z▸hc));refine⟨S.G.keep kb fun c zs e=>b _ _ e (az_ e hl nofun),S.dfp,b _ _ S.hd dl,S.so,fun c hc=>?_⟩;obtain⟨o,e,q⟩:=S.has c hc;exact⟨o,kb c hc o e,q⟩
end Ev
namespace Ev
open PySem L2
theorem bQ_{wt:Str->Int}{p q:Str->Bool}:∀{ns:List Str} {l:Int},(∀n∈ns,p n=q n)->shL wt p l ns=shL wt q l ns
 |[],_,_=>rfl
 |n::ns,l,h=>by
  rw[shL,shL,h n ah',bQ_ fun m hm=>h m (af' _ hm),bQ_ fun m hm=>h m (af' _ hm)]
theorem hq_{wt:Str->Int}{p:Str->Bool}{l:Int}:∀{ns:List Str},(∀n∈ns,l<wt n)->shL wt p l ns=[]
 |[],_=>rfl
 |n::ns,h=>by
  have:=h n ah';rw[shL,decide_eq_false (by omega),Bool.and_false,if_neg (by decide)];exact hq_ fun m hm=>h m (af' _ hm)
theorem fd_{wt:Str->Int}{p:Str->Bool}{l:Int}:∀{ns:List Str},(∀n∈ns,p n=false)->shL wt p l ns=[]
 |[],_=>rfl
 |n::ns,h=>by
  rw[shL,h n ah',a0',if_neg (by decide)];exact fd_ fun m hm=>h m (af' _ hm)
theorem fe_{wt:Str->Int}{tr:List Str}{m:Str}(nt:tr.Nodup):∀{ns:List Str} {l:Int},ns.Nodup->ns.find? (fun n=>decide (n∈tr))=some m->
  shL wt (fun n=>decide (n∈tr)) l ns=if wt m<=l then m::shL wt (fun n=>decide (n∈tr.erase m)) (l - wt m) ns else shL wt (fun n=>decide (n∈tr.erase m)) l ns
 |[],_,_,h=>by cases h
 |n::ns,l,nd,h=>by
  obtain⟨n1,n2⟩:=aI'.mp nd;by_cases c:n∈tr
  ·rw[List.find?_cons_of_pos (by exact decide_eq_true c)] at h;obtain rfl:=Option.some.inj h;have ne:¬n∈tr.erase n:=fun z=>(nt.mem_erase_iff.mp z).1 rfl
   have cg:∀{l:Int},shL wt (fun x=>decide (x∈tr)) l ns=shL wt (fun x=>decide (x∈tr.erase n)) l ns:=bQ_ fun x hx=>by
    have:x≠n:=fun z=>n1 (z▸hx);exact decide_eq_decide.mpr (by rw[nt.mem_erase_iff];simp[this])
   rw[shL,shL,shL];simp only[decide_eq_true c,decide_eq_false ne,Bool.true_and,a0',decide_eq_true_eq,cg];simp
  ·rw[List.find?_cons_of_neg (by simpa using c)] at h;have ne:¬n∈tr.erase m:=fun z=>c (List.mem_of_mem_erase z);rw[shL,shL,shL];simp only[decide_eq_false c,decide_eq_false ne,a0'];simp only[aR',if_false];exact fe_ nt n2 h
section
variable{hs:List (Str × Int)}{ts:List (Str × Str)}{ps qs:List Pc}{f:Str->Str}
theorem bC_(Q:Qs ps qs){h n:Str}:n∈hvAt qs f h ↔ n∈ps.map (·.1)/\f n=h:=by
 unfold hvAt;rw[aN',(bF_ qs).mem_iff,Q.nms,(ak_ _).mem_iff,decide_eq_true_eq]
theorem j1_(W:Pw hs ts ps f)(Q:Qs ps qs)(h:Str):(hvAt qs f h).Nodup:=by
 have e:(hvL qs).Nodup:=(bF_ qs).nodup_iff.mpr (by rw[Q.nms];exact (ak_ _).nodup_iff.mpr W.nd);exact e.sublist aX'
theorem hz_(W:Pw hs ts ps f)(Q:Qs ps qs){h:Str}{tr:List Str}(ht:∀x∈tr,x∈hvAt qs f h):hvyL ps tr=(hvAt qs f h).find? fun n=>decide (n∈tr):=by
 have kq:∀{n:Str},n∈ps.map (·.1)->kN qs n=kN ps n:=fun {n} h=>by
  unfold kN;rw[wt_q W Q h]
 have asc:Asc ((hvAt qs f h).map (kN qs)):=List.Pairwise.sublist (aX'.map _) (js_ qs);rcases hs_ ps tr with⟨e,z⟩|⟨m,z,hm,mn⟩
 ·rw[z,e];symm;rw[List.find?_eq_none];intro x hx r;simp at r
 ·rw[z];have m1:=ht m hm;cases e:(hvAt qs f h).find? fun n=>decide (n∈tr) with
  |none=>
   have:=List.find?_eq_none.mp e m m1;simp[hm] at this
  |some n=>
   have n1:=List.mem_of_find?_eq_some e;have n2:=List.find?_some e;have nS:n∈tr:=of_decide_eq_true n2;have h1:=mn n nS;have h2:=eR_ asc e m m1 (decide_eq_true hm);rw[kq ((bC_ Q).mp m1).1,kq ((bC_ Q).mp n1).1] at h2;have:=cm_ h1 h2;have:sndK (kN ps n)=sndK (kN ps m):=by rw[this]
   exact congrArg some this.symm
def hldL(ps:List Pc)(f:Str->Str)(h:Str)(gv:List Str):List Str:=(ps.map (·.1)).filter fun n=>decide (f n=h)&&!decide (n∈gv)
theorem cN'{h n:Str}{gv:List Str}:n∈hldL ps f h gv ↔ n∈ps.map (·.1)/\f n=h/\n∉gv:=by
 unfold hldL;rw[aN'];simp
theorem fM_(W:Pw hs ts ps f){h m:Str}{gv:List Str}:(hldL ps f h gv).erase m=hldL ps f h (gv++[m]):=by
 have nd:(hldL ps f h gv).Nodup:=W.nd.sublist aX';rw[nd.erase_eq_filter];unfold hldL;rw[List.filter_filter];refine List.filter_congr fun x _=>?_;by_cases c:x=m<;>simp[c]
def tryL(ts:List (Str × Str))(ps:List Pc)(f:Str->Str)(h o:Str)(gv:List Str):List Str:=(hldL ps f h gv).filter fun n=>mayL ts ps n h o
theorem jK_(W:Pw hs ts ps f){h o:Str}{gv:List Str}:(tryL ts ps f h o gv).Nodup:=(W.nd.sublist aX').sublist aX'
def lawShare(hs:List (Str × Int))(ts:List (Str × Str))(ps:List Pc)(f:Str->Str)(a b:Str):Int:=(if cz' hs ps f a b > 0 then cz' hs ps f a b else 0) / ((strOf hs a+strOf hs b) * (1+bf' hs ts))
theorem fv_(W:Pw hs ts ps f)(Q:Qs ps qs){h o:Str}(hh:h∈hs.map (·.1))(ho:o∈hs.map (·.1))(ms:List Mv)(l:List Str) :
  bD' hs ts qs f h ms (o::l)=bD' hs ts qs f h (ms++(shL (wtN qs) (fun n=>decide (n∈tryL ts ps f h o (ms.map (·.1)))) (lawShare hs ts ps f h o) (hvAt qs f h)).map (to3 h o)) l:=by
 have cg:∀{x:Int},shL (wtN qs) (fun n=>decide (n∈tryL ts ps f h o (ms.map (·.1)))) x (hvAt qs f h)=shL (wtN qs) (shOk hs ts qs (ms.map (·.1)) h o) x (hvAt qs f h):=bQ_ fun n hn=>by
  have nm:=(bC_ Q).mp hn;unfold shOk tryL;rw[<- kn_ W Q nm.1 hh ho]
  have:n∈(hldL ps f h (ms.map (·.1))).filter (fun n=>mayL ts ps n h o) ↔ (n∉ms.map (·.1)/\mayL ts ps n h o=true):=by
   rw[aN',cN'];exact⟨fun z=>⟨z.1.2.2,z.2⟩,fun z=>⟨⟨nm.1,nm.2,z.1⟩,z.2⟩⟩
  by_cases c:n∈ms.map (·.1)<;>cases d:mayL ts ps n h o<;>simp[this,c,d]
 rw[bD'];have de:=gi_ W Q h o;by_cases c:0<bC' hs qs f h o
 ·rw[if_pos c,cg];congr 2;unfold shM shN bR' lawShare bv';rw[de,if_pos c,Int.add_comm 1]
 ·rw[if_neg c]
  have z:lawShare hs ts ps f h o=0:=by
   unfold lawShare;rw[de,if_neg c,Int.zero_ediv]
  rw[z,hq_ (fun n hn=>?_),a1',aA'];have nm:=((bC_ Q).mp hn).1;rw[wt_q W Q nm];obtain⟨q,hq,rfl⟩:=ad'.mp nm;rw[ej_ W.nd hq];have:=(W.gp q hq).w1;omega
end
end Ev
namespace Ev
open PySem L2
theorem dq_{hs:List (Str × Int)}{ts:List (Str × Str)}(G:Good hs ts)(n:Str):(nbL ts n).length=(nb hs ts n).length:=by
 rw[<- hb_ G n,(ak_ _).length_eq]
theorem dd_{hs:List (Str × Int)}{ts:List (Str × Str)}(G:Good hs ts):0<=bf' hs ts/\bf' hs ts<=8:=by
 unfold bf';cases e:(lens hs ts).max? with
 |none=>exact⟨by decide,by decide⟩
 |some m=>exact gN_ G (List.max?_eq_some_iff.mp e).1
theorem k0_{hs:List (Str × Int)}{ts:List (Str × Str)}{ps:List Pc}{f:Str->Str}(W:Pw hs ts ps f){h:Str}{gv:List Str}:(hldL ps f h gv).Nodup:=W.nd.sublist aX'
theorem k2_{H:Hp}{l:Addr}{tr:List Str}{m:Str}{Q:VK}(hl:H l=some (.lst (tr.map V.str)))(hm:m∈tr)(q:Q .non (upd H l (.lst ((tr.erase m).map V.str)))):da' (.ref l) [.str m] H Q:=by
 obtain⟨j,j1,j2,j3⟩:=f1_ hm;refine⟨l,_,_,j,rfl,rfl,hl,rfl,?_,⟨.str m,by rw[an',j1];rfl,by rw[gJ_];simp⟩,fun i y hi e=>?_,?_⟩
 ·rw[List.all_eq_true];intro v hv;obtain⟨_,_,rfl⟩:=ad'.mp hv;rfl
 ·rw[an',aW'] at e;obtain⟨x,hx,rfl⟩:=e;rw[gJ_];simpa using j2 i x hi hx
 ·rw[ch_,j3];exact q
section
variable{P:Program}{w:World}{K:F__}{mg:Str->Option Value}{base:Heap}
abbrev bsN:List Str:=["_law_world_here","_law_stand","_law_hand","_law_held_by","_law_many","_law_found","_law_held_here","_law_other","_law_both","_law_left","_law_tried","_law_piece"]
theorem bg':a7' bsN ["_law_world_here","_law_stand","_law_hand"] (a5' cn'):=f__
def cy'(K:F__):Sp:=fun vs H Q _=>∃(wa sd:Addr) (h:Str) (hs:List (Str × Int)) (ts:List (Str × Str)) (ps qs:List Pc) (f:Str->Str),vs=[.ref wa,.ref sd,.str h]/\bS' K H wa hs ts ps/\Pw hs ts ps f/\Qs ps qs/\Wd hs ts qs f/\H sd=some (.dK (stF (ps.map (·.1)) f))/\h∈hs.map (·.1) /\
 ∀l ys H',Same H H'->H l=none->H' l=some (.lst ys)->a8' K H' ys ((be' hs ts qs f h).map kM)->Q (.ref l) H'
theorem eW_{hs:List (Str × Int)}{ts:List (Str × Str)}(G:Good hs ts){m:Int}(h1:m∈(hs.map (·.1)).map fun n=>((nbL ts n).length:Int))(h2:∀a∈(hs.map (·.1)).map fun n=>((nbL ts n).length:Int),a<=m):m=bf' hs ts:=by
 have e:∀a:Int,a∈(hs.map (·.1)).map (fun n=>((nbL ts n).length:Int)) ↔ a∈lens hs ts:=fun a=>by
  unfold lens;rw[ad',ad'];constructor
  ·rintro⟨n,hn,rfl⟩;exact⟨n,(al_ hs).mem_iff.mpr hn,by rw[dq_ G n]⟩
  ·rintro⟨n,hn,rfl⟩;exact⟨n,(al_ hs).mem_iff.mp hn,by rw[dq_ G n]⟩
 exact g6_ ((e m).mp h1) fun a ha=>h2 a ((e a).mpr ha)
structure ShI (K:F__) (H:Hp) (hs:List (Str × Int)) (ts:List (Str × Str)) (ps:List Pc) (f:Str->Str) (h:Str) (dd lx lf lh:Addr) (H':Hp) (ys:List V) (ms:List Mv):Prop where
 sm:Same H H'
 hd:H' dd=some (.dK (mKV (hs.map (·.1)) fun n=>.int (hld ps f n)))
 hx:H' lx=some (.lst ((nb hs ts h).map V.str))
 hf:H' lf=some (.lst ys)
 ht:a8' K H' ys (ms.map kM)
 hg:H' lh=some (.lst ((hldL ps f h (ms.map (·.1))).map V.str))
theorem ShI.same{K:F__}{H:Hp}{hs:List (Str × Int)}{ts:List (Str × Str)}{ps:List Pc}{f:Str->Str}{h:Str}{dd lx lf lh:Addr}{H' G:Hp}{ys:List V}{ms:List Mv}(I:ShI K H hs ts ps f h dd lx lf lh H' ys ms)(s:Same H' G):ShI K H hs ts ps f h dd lx lf lh G ys ms:=⟨I.sm.trans s,s _ _ I.hd,s _ _ I.hx,s _ _ I.hf,I.ht.same s,s _ _ I.hg⟩
theorem ShI.put{K:F__}{H:Hp}{hs:List (Str × Int)}{ts:List (Str × Str)}{ps:List Pc}{f:Str->Str}{h:Str}{dd lx lf lh D:Addr}{H':Hp}{ys:List V}{ms:List Mv}{o:HO}{zs:List V}(I:ShI K H hs ts ps f h dd lx lf lh H' ys ms)(n:H D=none)(hD:H' D=some (.lst zs))(n1:dd≠D)(n2:lx≠D)(n3:lf≠D)(n4:lh≠D):ShI K H hs ts ps f h dd lx lf lh (upd H' D o) ys ms:=⟨am_ I.sm n,(a4_ n1).trans I.hd,(a4_ n2).trans I.hx,(a4_ n3).trans I.hf,aV_ I.ht hD,(a4_ n4).trans I.hg⟩
set_option maxHeartbeats 1600000 in
theorem fN_{f0:Addr}{fd:FuncData}(F:Fun K "_law_by_share" "_law_by_share" cn' f0 fd)(B:Bi mg)(cD:Cal P w K mg base 1 "_law_drop" ["_law_world_here","_law_held_here","_law_one","_law_other"] (spDrop K))(cH:Cal P w K mg base 1 "_law_held" ["_law_world_here","_law_stand"] (spHeld K))(cM:Cal P w K mg base 1 "_law_may" ["_law_world_here","_law_piece","_law_one","_law_other"] (spMayL K))(cV:Cal P w K mg base 1 "_law_heaviest" ["_law_world_here","_law_pieces"] (spHvL K)) :
  FnOk P w K mg base CX0 2 f0 fd ["_law_world_here","_law_stand","_law_hand"] (cy' K):=by
 refine F.ok bg' (fun vs H Q E h=>?_) (fun cdv A outer s H vs Q E hr h=>?_)
 ·obtain⟨wa,sd,h,hs,ts,ps,qs,f,rfl,_⟩:=h;rfl
 ·obtain⟨wa,sd,h,hs,ts,ps,qs,f,rfl,WA,Pp,Qq,Wq,hsd,hh,k⟩:=h;obtain⟨ds,dn,lt,dh,dy,ad,gy,W⟩:=id WA;have hu:=b3_ hr;have sz:=sizeLine_eq;refine' ⟨_,?r0,?kk⟩
  case' r0=>refine' a2_ ?s1 ?r1
  case' r1=>refine' a2_ ?s2 ?r2
  case' r2=>refine' a2_ ?s3 ?r3
  case' r3=>refine' a2_ ?s4 (a2_ ?s5 (a5_ ?s6))
  case s1=>exact aa_ (i:=3) bg'.nd rfl (Or.inl rfl) (ah_ cH hr (a0_ (pv 0) (a0_ (pv 1) a3_)))
  case s2=>exact aa_ (i:=4) bg'.nd rfl (Or.inl rfl) (aj_ aR_ a7_ (ad_ (dk_ rfl) (by rfl) B.max PyProof.Rows.Boot.«max» (a0_ (eh_ (aS_ ["_law_some"] 1 [] (ee_ (ct_ (ac_ hu (pv 0) au_ (fun _ _=>rfl)))) (fun fp s H=>a8_ (i:=0) (show (["_law_some"]:List Str).Nodup by decide +kernel) rfl (Or.inl rfl)) (fun fp s H=>aU_)
   (fun fp s H=>ad_ (cLen (K:=K)) (by rfl) B.len PySem.boot_len (a0_ (pv 0) a3_)))) a3_)))
  case s3=>exact aa_ (i:=5) bg'.nd rfl (Or.inl rfl) (aX_ a3_)
  case' s4=>refine' cF_ (ek_ (i:=6) ["_law_piece","_law_hand","_law_stand"] 1 [2,1] bg'.nd rfl (Or.inl rfl) (ez_ (pv 1)) (fun fp s H=>a8_ (i:=0) (show (["_law_piece","_law_hand","_law_stand"]:List Str).Nodup by decide +kernel) rfl (Or.inl rfl)) ?d3 (fun fp s H=>pv 0))
  case d3=>exact fun fp s H=>eF_ (ao_ cX_ (ac_ hu (pv 2) (pv 0) (fun _ _=>rfl)) (pv 1) (nomark _))
  case' s5=>refine' aG_ PassesOwn.never rfl (an_ (ad_ d0_ (by rfl) B.sorted PyProof.Rows.Boot.«sorted» (a0_ (ac_ hu (ac_ hu (pv 0) au_ (fun _ _=>rfl)) (pv 2) (fun _ _=>rfl)) a3_))) (a8_ (i:=7) bg'.nd rfl (Or.inr rfl)) ?b0
  case' b0=>refine' a2_ ?b1 (a2_ ?b2 (a2_ ?b3 (a5_ ?b4)))
  case b1=>exact aa_ (i:=8) bg'.nd rfl (Or.inl rfl) (aj_ aR_ (ac_ hu (ac_ hu (pv 0) au_ (fun _ _=>rfl)) (pv 2) (fun _ _=>rfl)) (ac_ hu (ac_ hu (pv 0) au_ (fun _ _=>rfl)) (pv 7) (fun _ _=>rfl)))
  case b2=>exact aa_ (i:=9) bg'.nd rfl (Or.inl rfl) (aj_ bi_ (ad_ (gF_ rfl) (by rfl) B.max PyProof.Rows.Boot.«max» (a0_ a7_ (a0_ (ah_ cD hr (a0_ (pv 0) (a0_ (pv 3) (a0_ (pv 2) (a0_ (pv 7) a3_))))) a3_))) (aj_ ba_ (pv 8) (pv 4)))
  case' b3=>refine' ek_ (i:=10) ["_law_piece","_law_hand","_law_other","_law_world_here"] 1 [2,7,0] bg'.nd rfl (Or.inl rfl) (an_ (pv 6)) (fun fp s H=>a8_ (i:=0) (show (["_law_piece","_law_hand","_law_other","_law_world_here"]:List Str).Nodup by decide +kernel) rfl (Or.inl rfl)) ?e3 (fun fp s H=>pv 0)
  case e3=>exact fun fp s H=>eF_ (aK_ (ah_ cM hr (a0_ (pv 3) (a0_ (pv 0) (a0_ (pv 1) (a0_ (pv 2) a3_))))))
  case' b4=>refine' f9_ PassesOwn.never (ao_ (eX_ (cb' hr 0)) (pv 10) (aX_ a3_) (nomark _)) (a2_ ?w1 (a2_ ?w2 (a5_ ?w3)))
  case w1=>exact aa_ (i:=11) bg'.nd rfl (Or.inl rfl) (ah_ cV hr (a0_ (pv 0) (a0_ (pv 10) a3_)))
  case w2=>exact b7_ (ca_ PySem.F.plainAttrs_list PySem.F.slot_list_remove PySem.F.type_list_remove d6_ (pv 10) (a0_ (pv 11) a3_))
  case' w3=>refine' aC_ (ao_ da_ (ac_ hu (ac_ hu (pv 0) au_ (fun _ _=>rfl)) (pv 11) (fun _ _=>rfl)) (pv 9) (nomark _)) (a2_ ?x1 (a2_ ?x2 (a5_ ?x3))) ae_
  case x1=>exact aa_ (i:=9) bg'.nd rfl (Or.inl rfl) (aj_ fr_ (pv 9) (ac_ hu (ac_ hu (pv 0) au_ (fun _ _=>rfl)) (pv 11) (fun _ _=>rfl)))
  case x2=>exact b7_ (ca_ PySem.F.plainAttrs_list PySem.F.slot_list_remove PySem.F.type_list_remove d6_ (pv 6) (a0_ (pv 11) a3_))
  case x3=>exact b7_ (ca_ PySem.F.plainAttrs_list PySem.F.slot_list_append PySem.F.type_list_append b9_ (pv 5) (a0_ (aH_ (a0_ (pv 11) (a0_ (pv 2) (a0_ (pv 7) a3_)))) a3_))
  case s6=>exact ab_ (pv 5)
  case' kk=>skip
  have hnd:=Pp.Gd.hnd;have h8:(hs.map (·.1)).length<=8:=by rw[aa'];exact Pp.Gd.h8
  have h1':1<=(hs.map (·.1)).length:=by rw[aa'];exact Pp.Gd.h1
  have p30:=Pp.p30;refine⟨_,rfl,_,rfl,wa,sd,hs,ts,ps,f,rfl,WA,Pp,hsd,fun dd H1 s1 nd1 e1=>?_⟩;refine setG ?_;dsimp only;refine seqG (fun σ H'=>σ=[some (.ref wa),some (.ref sd),some (.str h),some (.ref dd),some (.int (1+bf' hs ts)),none,none,none,none,none,none,none]/\Same H1 H') ?m2 ?m1
  case m1=>
   intro N1 hN1;have W1:=W.same s1;have nr:=W1.nr
   have at_:∀{i:Nat} {kk:Key} {x:V},(mKV (hs.map (·.1)) fun h=>V.ref (ad h))[i]? = some (kk,x)->∃n,(hs.map (·.1))[i]? = some n/\x=.ref (ad n):=fun hx=>by
    obtain⟨n,hn,_,rfl⟩:=cc_ hx;exact⟨n,hn,rfl⟩
   have lk:(mKV (hs.map (·.1)) fun h=>V.ref (ad h)).length=(hs.map (·.1)).length:=by rw[ax_]
   have gN:=W1.gN;have ls:=W1.ls;generalize (mKV (hs.map (·.1)) fun h=>V.ref (ad h))=KV at nr at_ lk;refine⟨dn,_,nr,_,rfl,wa,_,rfl,gN,dn,_,rfl,nr,fun v hv=>?_⟩;have s1v:Same H1 (upd H1 v (bm' v dn)):=Same.new hv;refine⟨v,dn,_,rfl,a1_,s1v _ _ nr,fun o D hD=>?_⟩
   have base':∀{b:Addr} {xs:List V},H1 b=some (.lst xs)->upd (upd H1 v (bm' v dn)) dn (.frz o (.dK KV)) b=some (.lst xs):=fun e=>by
    rw[a4_ (az_ e nr nofun)];exact s1v _ _ e
   have fz0:upd (upd H1 v (bm' v dn)) dn (.frz o (.dK KV)) dn=some (.frz o (.dK KV)):=a1_;have lL:((hs.map (·.1)).map fun n=>((nbL ts n).length:Int)).length=(hs.map (·.1)).length:=aa' ..;have ml:=fun m h1 h2=>eW_ (m:=m) Pp.Gd h1 h2;have gL:∀{i:Nat} {n:Str},(hs.map (·.1))[i]? = some n->((hs.map (·.1)).map fun n=>((nbL ts n).length:Int))[i]? = some ((nbL ts n).length:Int):=fun hn=>by rw[an',hn];rfl
   generalize ((hs.map (·.1)).map fun n=>((nbL ts n).length:Int))=LL at lL ml gL;refine bt_ (own:=1) (fv:=[]) rfl gok1 (hs.map (·.1)).length (fun i out H'=>Same (upd (upd H1 v (bm' v dn)) dn (.frz o (.dK KV))) H'/\H' D=some (.lst out)/\out=(LL.take i).map V.int) ⟨Same.new hD,a1_,rfl⟩ (fun out H' ⟨sm,hD',eo⟩=>?_) (fun i out H' hi ⟨sm,hD',eo⟩=>?_)
   ·have hf:=sm _ _ fz0;have Dd:D≠dn:=az_ hD' hf nofun;rw[<- lL,ap'] at eo;refine⟨⟨hf,by omega⟩,o,hf,D,LL,rfl,.of (by rw[a4_ Dd,hD',eo]),by omega,fun m hm hle=>⟨_,_,rfl,rfl,?_⟩⟩;rw[ml m hm hle];refine hN1 _ _ ⟨rfl,fun b u e=>?_⟩;by_cases z:b=dn
    ·rw[z] at e ⊢;rw[nr] at e;rw[a1_];exact e
    ·rw[a4_ z];exact sm _ _ (by rw[a4_ z];exact s1v _ _ e)
   ·have hf:=sm _ _ fz0;refine⟨⟨hf,by omega⟩,fun x H2 y=>?_⟩;obtain⟨eH,kk,hk⟩:=y;subst eH;obtain⟨n,hn,rfl⟩:=at_ hk;have hrow:=ls n (ac' hn);refine⟨_,rfl,rfl,fun Nx hN=>yesT ?_⟩;refine⟨_,rfl,_,_,rfl,.inl (.of (sm _ _ (base' hrow))),out,hD',?_,hN _ _ ⟨am_ sm hD,a1_,?_⟩⟩
    ·rw[eo,aa',ak'];omega
    ·rw[aW_ _ (gL hn),eo,aa']
  rintro σ H2 ⟨rfl,s12⟩;have s2:=s1.trans s12;refine⟨by show 0<=sizeLine;decide,fun lf nf=>?_⟩;refine setG ?_;dsimp only;obtain⟨s23,e3⟩:=nw__ (o:=.lst []) nf;generalize upd H2 lf (.lst [])=H3 at s23 e3 ⊢;have s3:=s2.trans s23;refine seqG (fun σ H'=>∃lh:Addr,σ=[some (.ref wa),some (.ref sd),some (.str h),some (.ref dd),some (.int (1+bf' hs ts)),some (.ref lf),some (.ref lh),none,none,none,none,none]/\Same H3 H'/\H3 lh=none/\H' lh=some (.lst ((hldL ps f h []).map V.str))) ?m4 ?m3
  case m3=>
   intro N1 hN1;have hsd3:=s3 _ _ hsd;refine⟨sd,_,hsd3,?_⟩;refine⟨_,rfl,sd,_,rfl,hsd3,fun o D hD=>?_⟩
   have Dds:D≠sd:=by
    intro z;rw[z,a1_] at hD;cases hD
   have hD1:H3 D=none:=by rw[a4_ Dds] at hD;exact hD
   refine e7_ (own:=1) (fv:=[some (.str h),some (.ref sd)]) rfl gok1 (fun i out H'=>Fz sd o (stF (ps.map (·.1)) f) H3 H'/\H' D=some (.lst out)/\out=(((ps.map (·.1)).take i).filter fun n=>decide (f n=h)).map V.str) ⟨Fz.start.put hD1 Dds,a1_,rfl⟩ (fun i out H' _ ⟨z,_,_⟩=>z.at_) (fun out H4 ⟨fz,hD4,eo⟩=>?_) (fun i ky x out H' hx ⟨fz,hD',eo⟩=>?_)
   ·rw[ax_,ap'] at eo;refine setG ?_;dsimp only;refine⟨o,fz.at_,hN1 _ _ ⟨D,rfl,fz.thaw hsd3,hD1,?_⟩⟩;rw[a4_ Dds,hD4,eo];refine congrArg (fun x=>some (HO.lst (List.map V.str x))) (List.filter_congr fun n _=>?_);simp
   ·obtain⟨n,hn,rfl,rfl⟩:=cc_ hx;have nm:=ac' hn;refine⟨_,rfl,rfl,fun Nx hN=>?_⟩;refine⟨_,rfl,_,rfl,sd,.str (f n),rfl,gV_ (kw_ fz) nm,_,rfl,rfl,_,rfl,?_⟩
    have lo:out.length<=64:=by
     rw[eo,aa'];have:=aO' (fun n=>decide (f n=h)) ((ps.map (·.1)).take i);rw[ak',aa'] at this;omega
    refine ite2 (fun c=>?_) (fun c=>?_)
    ·have c:f n=h:=by simpa using c
     refine⟨_,rfl,out,hD',by omega,hN _ _ ⟨fz.put hD1 Dds,a1_,?_⟩⟩;rw[ap_ hn,aT',am',eo];simp[c];rfl
    ·have c:¬f n=h:=by simpa using c
     refine hN out _ ⟨fz,hD',?_⟩;rw[ap_ hn,aT',am',eo];simp[c]
  rintro σ H4 ⟨lh,rfl,s34,nlh,hlh⟩;have s4:=s3.trans s34;have W4:=W.same s4
  have n8:(nb hs ts h).length<=8:=by
   have:=eb_ hs ts h;have:=Pp.Gd.nlen;have:=Pp.Gd.h8;omega
  have n64:(nbL ts h).length<64:=by
   rw[dq_ Pp.Gd];omega
  refine⟨_,rfl,wa,_,rfl,W4.gN,_,rfl,dn,_,rfl,dgR W4.nr hh,ad h,nbL ts h,rfl,.of (W4.ls h hh),n64,fun lx nx=>?_⟩;rw[hb_ Pp.Gd h];obtain⟨s45,e5⟩:=nw__ (o:=.lst ((nb hs ts h).map V.str)) nx;generalize upd H4 lx (.lst ((nb hs ts h).map V.str))=H5 at s45 e5 ⊢;have nf0:H lf=none:=s2.free nf;have nlh0:H lh=none:=s3.free nlh;have nx0:H lx=none:=s4.free nx;have lflh:lf≠lh:=a6_ e3 nlh;have lflx:lf≠lx:=a6_ (s34 _ _ e3) nx;have lhlx:lh≠lx:=a6_ hlh nx;have e1':=s12 _ _ e1;have ddlf:dd≠lf:=a6_ e1' nf;have ddlh:dd≠lh:=a6_ (s23 _ _ e1') nlh;have ddlx:dd≠lx:=a6_ (s34 _ _ (s23 _ _ e1')) nx;have d5:=s45 _ _ (s34 _ _ (s23 _ _ e1'));have f5:=s45 _ _ (s34 _ _ e3);have g5:=s45 _ _ hlh;have s5:=s4.trans s45;clear s45 s34 s12 s23 e1' e1 e3 hlh nf nlh nx s2 s3 s4 W4 s1 nd1;refine⟨lx,rfl,⟨_,.of e5⟩,aw_ (K:=K) (a:=lx) (xs:=(nb hs ts h).map V.str) (fun i σ H'=>∃(v7 v8 v9 v10 v11:Option V) (ys:List V) (ms:List Mv),σ=[some (.ref wa),some (.ref sd),some (.str h),some (.ref dd),some (.int (1+bf' hs ts)),some (.ref lf),some (.ref lh),v7,v8,v9,v10,v11]/\ShI K H hs ts ps f h dd lx lf lh H' ys ms/\ms.length<=63 * i/\bD' hs ts qs f h ms ((nb hs ts h).drop i)=be' hs ts qs f h) ⟨none,none,none,none,none,[],[],rfl,⟨s5,d5,e5,f5,.nil,g5⟩,ag' _,rfl⟩ (fun i σ H' _ ⟨_,_,_,_,_,_,_,_,z,_⟩=>.of z.hx) ?_ ?_⟩
  ·rintro i x σ H6 hx ⟨v7,v8,v9,v10,v11,ys,ms,rfl,I6,lms,eq6⟩;obtain⟨o,ho,rfl⟩:=ai_ hx;have hi:i<(nb hs ts h).length:=(ab'.mp ho).1;have om:o∈hs.map (·.1):=(al_ hs).mem_iff.mp (gj_ (ac' ho));rw[ei_ ho,fv_ Pp Qq hh om] at eq6;have W6:=W.same I6.sm;have WA6:=WA.nt (NT.of I6.sm);have e1:=Pp.str_ok hh;have e2:=Pp.str_ok om;have mo:0<=bf' hs ts/\bf' hs ts<=8:=dd_ Pp.Gd;have pp:0<(strOf hs h+strOf hs o) * (1+bf' hs ts):=Int.mul_pos (by omega) (by omega)
   have pl:(strOf hs h+strOf hs o) * (1+bf' hs ts)<1073741824:=by
    have:=Int.mul_le_mul (show strOf hs h+strOf hs o<=2000 by omega) (show 1+bf' hs ts<=9 by omega) (by omega) (by decide);omega
   refine setG ?_;dsimp only;refine⟨_,rfl,wa,_,rfl,W6.gS,_,rfl,ds,_,rfl,dgR W6.sg hh,_,rfl,wa,_,rfl,W6.gS,_,rfl,ds,_,rfl,dgR W6.sg om,_,_,rfl,rfl,?_⟩;refine setG ?_;dsimp only;refine⟨_,rfl,_,rfl,_,rfl,_,rfl,wa,dd,h,o,hs,ts,ps,f,rfl,WA6,Pp,I6.hd,hh,om,_,_,rfl,_,rfl,_,rfl,_,_,rfl,rfl,.inl ⟨by omega,by omega⟩,_,_,rfl,rfl,⟨pp,pl⟩,?_⟩;refine setG ?_;dsimp only;have hin:∀{gv:List Str} {n:Str},n∈hldL ps f h gv->n∈ps.map (·.1):=fun hn=>(cN'.mp hn).1
   have hlen:∀gv:List Str,(hldL ps f h gv).length<=30:=fun gv=>by
    have:=aO' (fun n=>decide (f n=h)&&!decide (n∈gv)) (ps.map (·.1));rw[aa'] at this;show ((ps.map (·.1)).filter _).length<=30;omega
   refine⟨_,rfl,lh,rfl,⟨_,.of I6.hg⟩,fun D hD=>?_⟩;refine aZ_ (own:=1) (fv:=[some (.str h),some (.str o),some (.ref wa)]) (xs:=(hldL ps f h (ms.map (·.1))).map V.str) rfl gok1 (fun j out H'=>Same H6 H'/\H' D=some (.lst out)/\out=(((hldL ps f h (ms.map (·.1))).take j).filter fun n=>mayL ts ps n h o).map V.str) ⟨Same.new hD,a1_,rfl⟩ (fun j out H' _ ⟨sm,_⟩=>.of (sm _ _ I6.hg)) (fun out H7 ⟨s67,D7,eo⟩=>?_) (fun j x out H' hx ⟨sm,hd,eo⟩=>?_);rotate_left
   ·obtain⟨n,hn,rfl⟩:=ai_ hx;have nm:=hin (ac' hn)
    have lo:out.length<=30:=by
     rw[eo,aa'];have:=aO' (fun n=>mayL ts ps n h o) ((hldL ps f h (ms.map (·.1))).take j);rw[ak'] at this;have:=hlen (ms.map (·.1));omega
    refine⟨_,rfl,rfl,fun Nx hN=>?_⟩;refine⟨_,rfl,_,rfl,_,rfl,_,rfl,wa,n,h,o,hs,ts,ps,f,rfl,WA6.nt (NT.of sm),Pp,nm,hh,fun H7 s7=>⟨_,rfl,?_⟩⟩;refine ite2 (fun c=>?_) (fun c=>?_)
    ·refine⟨_,rfl,out,s7 _ _ hd,by omega,hN _ _ ⟨am_ (sm.trans s7) hD,a1_,?_⟩⟩;rw[ap_ hn,aT',am',eo,List.filter_cons_of_pos (by exact c)];rfl
    ·refine hN out _ ⟨sm.trans s7,s7 _ _ hd,?_⟩;rw[ap_ hn,aT',am',eo,List.filter_cons_of_neg (by exact c),List.filter_nil,a1',aA']
   rw[aa',ap'] at eo;subst eo;refine setG ?_;dsimp only;have I7:=I6.same s67;have hD0:H D=none:=I6.sm.free hD;have Dlf:=a6_ I6.hf hD;have Dlh:=a6_ I6.hg hD;have Dlx:=a6_ I6.hx hD;have Ddd:=a6_ I6.hd hD;clear s67 hD I6;change H7 D=some (.lst ((tryL ts ps f h o (ms.map (·.1))).map V.str)) at D7;have tin:∀x∈tryL ts ps f h o (ms.map (·.1)),x∈hldL ps f h (ms.map (·.1)):=fun x hx=>(aN'.mp hx).1;have tnd:=jK_ (o:=o) (h:=h) (gv:=ms.map (·.1)) Pp
   have t0:∀l:Int,(shL (wtN qs) (fun n=>decide (n∈tryL ts ps f h o (ms.map (·.1)))) l (hvAt qs f h)).length<=63:=fun l=>by
    have h1:=(cz_ (wtN qs) (fun n=>decide (n∈tryL ts ps f h o (ms.map (·.1)))) l (hvAt qs f h)).length_le;have h2:=dh_ Wq h;omega
   have t0:=t0 (lawShare hs ts ps f h o);have l0:lawShare hs ts ps f h o=(if cz' hs ps f h o > 0 then cz' hs ps f h o else 0) / ((strOf hs h+strOf hs o) * (1+bf' hs ts)):=rfl
   have tl:(tryL ts ps f h o (ms.map (·.1))).length<=30:=by
    have h1:=aO' (fun n=>mayL ts ps n h o) (hldL ps f h (ms.map (·.1)));have h2:=hlen (ms.map (·.1));show ((hldL ps f h (ms.map (·.1))).filter _).length<=30;omega
   generalize tryL ts ps f h o (ms.map (·.1))=tr0 at D7 tin tnd t0 eq6 tl;rw[<- l0];generalize lawShare hs ts ps f h o=left0 at t0 eq6;generalize eT:ms++(shL (wtN qs) (fun n=>decide (n∈tr0)) left0 (hvAt qs f h)).map (to3 h o)=tot at eq6
   have lt0:tot.length<=63 * (i+1):=by
    rw[<- eT,aq',aa'];omega
   refine⟨fun m σ H'=>∃(v11:Option V) (left:Int) (tr:List Str) (ms:List Mv) (ys:List V),σ=[some (.ref wa),some (.ref sd),some (.str h),some (.ref dd),some (.int (1+bf' hs ts)),some (.ref lf),some (.ref lh),some (.str o),some (.int (strOf hs h+strOf hs o)),some (.int left),some (.ref D),v11]/\ShI K H hs ts ps f h dd lx lf lh H' ys ms/\H' D=some (.lst (tr.map V.str))/\m=tr.length/\tr.length<=30/\tr.Nodup/\(∀x∈tr,x∈hldL ps f h (ms.map (·.1)))/\ms++(shL (wtN qs) (fun n=>decide (n∈tr)) left (hvAt qs f h)).map (to3 h o)=tot,⟨_,v11,left0,tr0,ms,ys,rfl,I7,D7,rfl,tl,tnd,tin,eT⟩,?_⟩;clear I7 D7 tl tnd tin eT t0;rintro m σ H8 ⟨v11,left,tr,ms,ys,rfl,I8,D8,rfl,l30,nd8,in8,eq8⟩;refine⟨_,rfl,by show 0<=sizeLine;decide,fun le ne=>?_⟩;obtain⟨s89,e9⟩:=nw__ (o:=.lst []) ne;generalize upd H8 le (.lst [])=H9 at s89 e9 ⊢;refine⟨D,le,tr.map V.str,rfl,rfl,.of (s89 _ _ D8),.of e9,_,rfl,?_⟩;have I9:=I8.same s89;have D9:=s89 _ _ D8
   have lns:ms.length<=63 * (i+1):=by
    have:=congrArg List.length eq8;rw[aq'] at this;omega
   clear I8 D8 s89 e9 ne;refine ite2 (fun c=>?_) (fun c=>?_)
   ·refine⟨fun σ H'=>∃(v11:Option V) (left:Int) (tr':List Str) (ms:List Mv) (ys:List V),tr'.length<tr.length/\σ=[some (.ref wa),some (.ref sd),some (.str h),some (.ref dd),some (.int (1+bf' hs ts)),some (.ref lf),some (.ref lh),some (.str o),some (.int (strOf hs h+strOf hs o)),some (.int left),some (.ref D),v11]/\ShI K H hs ts ps f h dd lx lf lh H' ys ms/\H' D=some (.lst (tr'.map V.str))/\tr'.length<=30/\tr'.Nodup/\(∀x∈tr',x∈hldL ps f h (ms.map (·.1)))/\ms++(shL (wtN qs) (fun n=>decide (n∈tr')) left (hvAt qs f h)).map (to3 h o)=tot,fun σ' H' ⟨v11,left,tr',ms,ys,lt,e,q1,q2,q3⟩=>⟨tr'.length,lt,v11,left,tr',ms,ys,e,q1,q2,rfl,q3⟩,?_⟩;refine⟨_,rfl,_,rfl,wa,D,tr,hs,ts,ps,rfl,WA.nt (NT.of I9.sm),D9,fun n hn=>hin (in8 n hn),by omega,fun HA s9A=>?_⟩;refine setG ?_;dsimp only;have inv:∀x∈tr,x∈hvAt qs f h:=fun x hx=>(bC_ Qq).mpr ⟨hin (in8 x hx),(cN'.mp (in8 x hx)).2.1⟩;rw[hz_ Pp Qq inv];have IA:=I9.same s9A;have DA:=s9A _ _ D9;clear I9 D9 s9A;cases em:(hvAt qs f h).find? (fun n=>decide (n∈tr)) with
    |none=>
     cases tr with
     |nil=>simp at c
     |cons a l=>
      have:=List.find?_eq_none.mp em a (inv a ah');simp at this
    |some m=>
     rw[show optV (some m)=V.str m from rfl];have mt:=List.find?_some em;have mt:m∈tr:=of_decide_eq_true mt;have mp:=hin (in8 m mt);rw[fe_ nd8 (j1_ Pp Qq h) em] at eq8;refine⟨_,rfl,.inl ⟨rfl,_,.of DA⟩,_,rfl,nilG ?_⟩;refine k2_ DA mt ?_;have eD:upd HA D (.lst ((tr.erase m).map V.str)) D=some (.lst ((tr.erase m).map V.str)):=a1_;have IB:=IA.put (o:=.lst ((tr.erase m).map V.str)) hD0 DA Ddd Dlx Dlf Dlh;have le1:(tr.erase m).length=tr.length - 1:=List.length_erase_of_mem mt;have lp:0<tr.length:=List.length_pos_of_mem mt;have ndB:=nd8.erase m;generalize upd HA D (.lst ((tr.erase m).map V.str))=HB at eD IB ⊢;dsimp only;have WB:=W.same IB.sm;have wm:=wt_q Pp Qq mp;refine⟨_,rfl,wa,_,rfl,WB.gH,_,rfl,dh,_,rfl,dgR WB.hv mp,_,rfl,_,_,rfl,rfl,_,rfl,?_⟩;refine ite2 (fun c2=>?_) (fun c2=>?_)
     ·have c2:wtN ps m<=left:=by simpa using c2
      rw[if_pos (by rw[wm];exact c2),wm,ao',List.append_cons] at eq8;refine⟨_,rfl,_,rfl,wa,_,rfl,WB.gH,_,rfl,dh,_,rfl,dgR WB.hv mp,_,_,rfl,rfl,?_⟩;refine setG ?_;dsimp only;refine⟨_,rfl,.inl ⟨rfl,_,.of IB.hg⟩,_,rfl,nilG ?_⟩;refine k2_ IB.hg (in8 m mt) ?_;have eg:(hldL ps f h (ms.map (·.1))).erase m=hldL ps f h ((ms++[to3 h o m]).map (·.1)):=by rw[fM_ Pp,am'];rfl
      rw[eg];generalize eh:hldL ps f h ((ms++[to3 h o m]).map (·.1))=hl' at eg ⊢;have eC:upd HB lh (.lst (hl'.map V.str)) lh=some (.lst (hl'.map V.str)):=a1_;have sC:Same H (upd HB lh (.lst (hl'.map V.str))):=am_ IB.sm nlh0;have dC:=(a4_ (o:=.lst (hl'.map V.str)) ddlh).trans IB.hd;have xC:=(a4_ (o:=.lst (hl'.map V.str)) lhlx.symm).trans IB.hx;have fC:=(a4_ (o:=.lst (hl'.map V.str)) lflh).trans IB.hf;have DC:=(a4_ (o:=.lst (hl'.map V.str)) Dlh.symm).trans eD;have tC:=aV_ (o:=.lst (hl'.map V.str)) IB.ht IB.hg;generalize upd HB lh (.lst (hl'.map V.str))=HC at eC sC dC xC fC DC tC ⊢;dsimp only;refine⟨_,rfl,.inl ⟨rfl,_,.of fC⟩,_,rfl,_,rfl,_,rfl,by show 3<=sizeLine;decide,fun t nt=>?_⟩;obtain⟨sCt,et⟩:=nw__ (o:=.tup [.str m,.str h,.str o]) nt;generalize upd HC t (.tup [.str m,.str h,.str o])=HE at sCt et ⊢;have ly:=Paired.length tC;rw[aa'] at ly;have fE:=sCt _ _ fC;refine⟨lf,_,_,rfl,rfl,fE,by omega,?_⟩;refine⟨_,_,tr.erase m,ms++[to3 h o m],ys++[.ref t],by omega,rfl,⟨am_ (sC.trans sCt) nf0,(a4_ ddlf).trans (sCt _ _ dC),(a4_ lflx.symm).trans (sCt _ _ xC),a1_,?_,?_⟩,(a4_ Dlf.symm).trans (sCt _ _ DC),by omega,ndB,fun x hx=>?_,eq8⟩
      ·rw[am'];exact aV_ (bv_ (tC.same sCt) et) fE
      ·rw[a4_ lflh.symm,sCt _ _ eC,eh]
      ·have hx':=nd8.mem_erase_iff.mp hx;rw[eh,<- eg];exact (k0_ Pp).mem_erase_iff.mpr ⟨hx'.1,in8 x hx'.2⟩
     ·have c2:¬wtN ps m<=left:=by simpa using c2
      rw[if_neg (by rw[wm];exact c2)] at eq8;exact⟨_,left,tr.erase m,ms,ys,by omega,rfl,IB,eD,by omega,ndB,fun x hx=>in8 x (List.mem_of_mem_erase hx),eq8⟩
   ·have z:tr=[]:=by
     cases tr with
     |nil=>rfl
     |cons a l=>simp at c
    subst z;rw[fd_ (fun n _=>by simp),a1',aA'] at eq8;subst eq8;exact⟨_,_,_,_,_,ys,_,rfl,I9,lns,eq6⟩
  ·rintro σ H6 ⟨v7,v8,v9,v10,v11,ys,ms,rfl,I6,lms,eq6⟩;rw[aa',List.drop_length] at eq6;refine⟨_,rfl,k lf ys H6 I6.sm nf0 I6.hf ?_⟩;rw[<- eq6];exact I6.ht
end
end Ev
namespace Ev
open PySem L2
def swt(wt:Str->Int)(M:List Mv)(p:Str × Str):Int:=((M.filter fun m=>decide (m.2=p)).map fun m=>wt m.1).sum
theorem j4_(wt:Str->Int)(p:Str × Str):swt wt [] p=0:=rfl
theorem ew_(wt:Str->Int)(M N:List Mv)(p:Str × Str):swt wt (M++N) p=swt wt M p+swt wt N p:=by
 unfold swt;rw[aT',am',List.sum_append]
theorem if_(wt:Str->Int)(M:List Mv)(m:Mv)(p:Str × Str):swt wt (M++[m]) p=swt wt M p+if m.2=p then wt m.1 else 0:=by
 rw[ew_];congr 1;unfold swt;by_cases c:m.2=p<;>simp[c]
theorem co_{wt:Str->Int}{M:List Mv}{p:Str × Str}(h:∀m∈M,m.2≠p):swt wt M p=0:=by
 unfold swt;rw[List.filter_eq_nil_iff.mpr (fun m hm=>by simpa using h m hm)];rfl
theorem gU_{wt wt':Str->Int}{M:List Mv}(p:Str × Str)(h:∀m∈M,wt m.1=wt' m.1):swt wt M p=swt wt' M p:=by
 unfold swt;rw[az' fun m hm=>h m (aN'.mp hm).1]
theorem gk_(wt:Str->Int)(a b:Str)(ns:List Str):swt wt (ns.map (to3 a b)) (a,b)=(ns.map wt).sum:=by
 unfold swt
 rw[List.filter_eq_self.mpr (fun m hm=>by
  obtain⟨n,_,rfl⟩:=ad'.mp hm;exact decide_eq_true rfl),al']
 rfl
theorem ey_{wt:Str->Int}{ok:Str->Bool}:∀{ns:List Str} {l:Int},0<=l->((shL wt ok l ns).map wt).sum<=l
 |[],l,h=>h
 |n::ns,l,h=>by
  rw[shL];split
  ·rename_i c
   have c:wt n<=l:=by
    have:=(Bool.and_eq_true_iff.mp c).2;simpa using this
   have:=ey_ (wt:=wt) (ok:=ok) (ns:=ns) (l:=l - wt n) (by omega);rw[ao',List.sum_cons];omega
  ·exact ey_ h
section
variable{hs:List (Str × Int)}{ts:List (Str × Str)}{ps qs:List Pc}{f:Str->Str}
theorem ev_{h:Str}{m:Mv}:∀{l:List Str} {ms:List Mv},m∈bD' hs ts qs f h ms l->m∈ms∨(m.1∈hvAt qs f h/\m.2.1=h/\m.2.2∈l/\0<bC' hs qs f h m.2.2)
 |[],ms,hm=>.inl hm
 |o::l,ms,hm=>by
  rw[bD'] at hm;split at hm
  ·rename_i c
   rcases ev_ hm with h1|⟨h0,h1,h2,h3⟩
   ·rcases aw'.mp h1 with h1|h1
    ·exact .inl h1
    ·unfold shM at h1;obtain⟨n,hn,rfl⟩:=ad'.mp h1;exact .inr ⟨(cz_ ..).subset hn,rfl,ah',c⟩
   ·exact .inr ⟨h0,h1,af' _ h2,h3⟩
  ·rcases ev_ hm with h1|⟨h0,h1,h2,h3⟩
   ·exact .inl h1
   ·exact .inr ⟨h0,h1,af' _ h2,h3⟩
theorem dN_(W:Wd hs ts qs f){a b:Str}(h:0<bC' hs qs f a b)(ha:a∈a6' hs)(hb:b∈a6' hs):0<=bR' hs ts qs f a b/\bR' hs ts qs f a b * (bv' hs a b * (bf' hs ts+1))<=bC' hs qs f a b:=by
 have jo:=dp_ W.Gd ha hb;have mo:=dd_ W.Gd;have pp:0<bv' hs a b * (bf' hs ts+1):=Int.mul_pos (by omega) (by omega);unfold bR';exact⟨Int.ediv_nonneg (by omega) (by omega),Int.ediv_mul_le _ (by omega)⟩
theorem em_(W:Wd hs ts qs f){h o:Str}(hh:h∈a6' hs):∀{l:List Str} {ms:List Mv},l.Nodup->(∀x∈l,x∈a6' hs)->swt (wtN qs) (bD' hs ts qs f h ms l) (h,o)<=swt (wtN qs) ms (h,o)+if o∈l/\0<bC' hs qs f h o then bR' hs ts qs f h o else 0
 |[],ms,_,_=>by simp[bD']
 |x::l,ms,nd,inn=>by
  obtain⟨n1,n2⟩:=aI'.mp nd;have inn':∀y∈l,y∈a6' hs:=fun y hy=>inn y (af' _ hy);rw[bD'];by_cases c:0<bC' hs qs f h x
  ·rw[if_pos c];have ih:=em_ W hh (o:=o) (ms:=ms++shM hs ts qs f (ms.map (·.1)) h x) n2 inn';rw[ew_] at ih;have sp:=dN_ W c hh (inn x ah');by_cases e:o=x
   ·subst e;rw[if_neg (fun z=>n1 z.1)] at ih;rw[if_pos ⟨ah',c⟩]
    have b1:swt (wtN qs) (shM hs ts qs f (ms.map (·.1)) h o) (h,o)<=bR' hs ts qs f h o:=by
     unfold shM;rw[gk_];exact ey_ sp.1
    omega
   ·have b1:swt (wtN qs) (shM hs ts qs f (ms.map (·.1)) h x) (h,o)=0:=co_ fun m hm z=>by
     unfold shM at hm;obtain⟨n,_,rfl⟩:=ad'.mp hm;exact e (Prod.mk.inj z).2.symm
    have e2:(o∈x::l/\0<bC' hs qs f h o) ↔ (o∈l/\0<bC' hs qs f h o):=by simp[e]
    simp only[e2];omega
  ·rw[if_neg c];have ih:=em_ W hh (o:=o) (ms:=ms) n2 inn';by_cases e:o=x
   ·subst e;rw[if_neg (fun z=>c z.2)] at ih ⊢;exact ih
   ·have e2:(o∈x::l/\0<bC' hs qs f h o) ↔ (o∈l/\0<bC' hs qs f h o):=by simp[e]
    simp only[e2];exact ih
theorem eM_{g:Str->List Mv}{wt:Str->Int}(hg:∀h,∀m∈g h,m.2.1=h){a o:Str}:∀{l:List Str},l.Nodup->a∈l->swt wt (l.flatMap g) (a,o)=swt wt (g a) (a,o)
 |[],_,h=>by cases h
 |x::l,nd,h=>by
  obtain⟨n1,n2⟩:=aI'.mp nd;rw[List.flatMap_cons,ew_];rcases aj'.mp h with e|e
  ·subst e;rw[co_ (M:=l.flatMap g) (fun m hm z=>?_),Int.add_zero];obtain⟨y,hy,hm⟩:=List.mem_flatMap.mp hm;have:=hg y m hm;rw[z] at this;have this:a=y:=this;exact n1 (this▸hy)
  ·rw[co_ (M:=g x) (fun m hm z=>?_),Int.zero_add]
   ·exact eM_ hg n2 e
   ·have:=hg x m hm;rw[z] at this;have this:a=x:=this;exact n1 (this▸e)
def dueL(hs:List (Str × Int))(ts:List (Str × Str))(qs:List Pc)(f:Str->Str):List Mv:=(a6' hs).flatMap fun h=>be' hs ts qs f h
def InSh(hs:List (Str × Int))(ts:List (Str × Str))(ps:List Pc)(f:Str->Str)(M:List Mv):Prop:=∀m∈M,m.1∈ps.map (·.1)/\m.2.1∈hs.map (·.1)/\m.2.2∈hs.map (·.1)/\swt (wtN ps) M m.2 * ((strOf hs m.2.1+strOf hs m.2.2) * (1+bf' hs ts))<=cz' hs ps f m.2.1 m.2.2
theorem jS_(W:Pw hs ts ps f)(Q:Qs ps qs)(Wq:Wd hs ts qs f):InSh hs ts ps f (dueL hs ts qs f):=by
 have gv:∀h,∀m∈be' hs ts qs f h,m.1∈ps.map (·.1)/\m.2.1=h/\m.2.2∈nb hs ts h/\0<bC' hs qs f h m.2.2:=fun h m hm=>by
  rcases ev_ hm with z|⟨h0,h1,h2,h3⟩
  ·cases z
  ·exact⟨((bC_ Q).mp h0).1,h1,h2,h3⟩
 intro m hm;obtain⟨h,hh,hmm⟩:=List.mem_flatMap.mp hm;obtain⟨g0,g1,g2,g3⟩:=gv h m hmm;obtain⟨n,a,o⟩:=m;have g1:a=h:=g1;subst g1;have on:o∈a6' hs:=gj_ g2;refine⟨g0,(al_ hs).mem_iff.mp hh,(al_ hs).mem_iff.mp on,?_⟩;dsimp only
 rw[gU_ (wt':=wtN qs) (a,o) (fun m hm=>by
  obtain⟨h,_,hmm⟩:=List.mem_flatMap.mp hm;exact (wt_q W Q (gv h m hmm).1).symm)]
 unfold dueL;rw[eM_ (fun h m hm=>(gv h m hm).2.1) Wq.Gd.nnd hh,gi_ W Q];have sp:=dN_ Wq g3 hh on;have nd:(nb hs ts a).Nodup:=Wq.Gd.nnd.sublist aX';have sm:=em_ Wq (o:=o) (ms:=[]) hh nd fun x hx=>gj_ hx;rw[j4_,Int.zero_add] at sm
 have sm:swt (wtN qs) (be' hs ts qs f a) (a,o)<=bR' hs ts qs f a o:=by
  refine Int.le_trans sm ?_;split
  ·exact Int.le_refl _
  ·exact sp.1
 have jo:=dp_ Wq.Gd hh on;have mo:=dd_ Wq.Gd;have pp:0<=bv' hs a o * (bf' hs ts+1):=Int.mul_nonneg (by omega) (by omega);have:=Int.mul_le_mul_of_nonneg_right sm pp;rw[Int.add_comm 1];exact Int.le_trans this sp.2
end
end Ev
namespace EvD
open PySem PySem.W PyProof.Rows
section
variable{prog:Program}{w:World}{A:Around}{E:Value->Shared->Prop}{s:Shared}
end
end EvD
namespace L2
open PySem PySem.Spec PyProof.Rows PySem.W
section
variable{X:Cx}{pins:List (Addr × Obj)}{σ:St}{H:Hp}{s:Shared}{d:Addr}{kvs:List (List Key × V)}
theorem Inv.freezeT(I:Inv X pins σ H s)(h:H d=some (.dT kvs)):∃o,s.heap.get? d=some o/\Inv X pins σ (upd H d (.frz o (.dT kvs))) s:=by
 obtain⟨z,hd,xs,rel,o,es,ep,ho,r⟩:=(show bh' X.prog X.w H s.heap d (.dT kvs) from I.hok d _ h);have other:∀{b u},H b=some u->u≠.dT kvs->upd H d (.frz o (.dT kvs)) b=some u:=fun {b u} e ne=>by rw[a4_ (az_ e h ne)];exact e
 refine⟨o,ho,I.un (h':=s.heap) (t':=s.toks) ⟨fun b u q _ _ _=>q,fun b u q _ _ _=>⟨u.slots,q⟩,fun b u q n _=>?_,fun b u q _=>⟨u,q⟩,fun b xs q=>other q (by simp),fun b u v q=>other q (by simp),fun b ps q=>⟨#[],by rw[aZ'];exact other q (by simp)⟩⟩ fun b u q=>?_⟩
 ·by_cases e:b=d
  ·subst e;rw[h] at n;cases n
  ·rw[a4_ e];exact n
 ·by_cases e:b=d
  ·subst e;rw[a1_] at q;cases q;exact⟨ho,(I.hok b _ h).stay (fun c v _ z=>z) (fun c z=>other z (by simp)) fun c xs z=>other z (by simp)⟩
  ·rw[a4_ e] at q;exact (I.hok b u q).stay (fun c v _ z=>z) (fun c z=>other z (by simp)) fun c xs z=>other z (by simp)
theorem Inv.thawT{o:Obj}(I:Inv X pins σ H s)(h:H d=some (.frz o (.dT kvs)))(h0:∀o u,X.H₀ d≠some (.frz o u)):Inv X pins σ (upd H d (.dT kvs)) s:=by
 have other:∀{b u},H b=some u->(∀o v,u≠.frz o v)->upd H d (.dT kvs) b=some u:=fun {b u} e ne=>by rw[a4_ (az_ e h (ne _ _))];exact e
 have none':∀{b},H b=none->upd H d (.dT kvs) b=none:=fun {b} e=>by
  rw[a4_ (fun z=>by subst z;rw[h] at e;cases e)];exact e
 refine⟨I.ok,I.os,I.bare,⟨I.base.keep,I.base.slot,fun b u q n hx=>none' (I.base.free b u q n hx),I.base.there,fun b xs q=>other (I.base.tups b xs q) (by simp),fun b u v q=>?_,fun b ps q=>?_⟩,I.loc,I.cell,none' I.free,fun x c e=>none' (I.freeC x c e),fun p hp=>?_,fun b u q=>?_,I.len⟩
 ·have:=I.base.frzs b u v q;rw[a4_ (fun z=>by subst z;exact h0 _ _ q)];exact this
 ·obtain⟨more,e⟩:=I.base.tbls b ps q;exact⟨more,other e (by simp)⟩
 ·obtain⟨a1,a2,a3⟩:=I.pin p hp;exact⟨a1,none' a2,a3⟩
 ·by_cases e:b=d
  ·subst e;rw[a1_] at q;cases q;obtain⟨ho,r⟩:=I.hok b _ h;exact r.stay (fun c v _ z=>z) (fun c z=>other z (by simp)) fun c xs z=>other z (by simp)
  ·rw[a4_ e] at q;exact (I.hok b u q).stay (fun c v _ z=>z) (fun c z=>other z (by simp)) fun c xs z=>other z (by simp)
theorem hm_{o:Obj}{es:Array DictEntry}{ep:Nat}(I:Inv X pins σ H s)(h:H d=some (.frz o (.dT kvs)))(ho:o.data=.dict es ep):kvs.length=es.size/\(d == sysModules)=false/\EvD.Raw s.heap d es ep/\∀i k x,kvs[i]? = some (k,x)->∃(hi:i<es.size) (b:Addr),es[i].key=.ref b/\H b=some (.tup (k.map kV))/\RelV x es[i].val:=by
 obtain⟨hg,z,hd,xs,rel,o',es',ep',ho',hc,hdat,hes,nd⟩:=(show bh' X.prog X.w H s.heap d (.frz o (.dT kvs)) from I.hok d _ h);rw[hg] at ho';cases ho';rw[ho] at hdat;cases hdat;have l1:=size_of_entries hes;have l2:=Paired.length rel;refine⟨by omega,hd,⟨o,hg,hc,ho⟩,fun i k x hx=>?_⟩;have hi:i<kvs.length:=(ab'.mp hx).1;have hi2:i<xs.length:=by omega
 have hi3:i<es.size:=by omega
 have gen:∀{kvs:List (List Key × V)} {xs:List (List Key × Addr × Value)},KT H kvs xs->∀(i:Nat) {p q},kvs[i]? = some p->xs[i]? = some q->p.1=q.1/\H q.2.1=some (.tup (p.1.map kV))/\RelV p.2 q.2.2:=fun {kvs xs} r=>by
  induction r with
  |nil=>intro i p q h1;cases h1
  |cons h t ih=>
   intro i p q h1 h2;cases i with
   |zero=>cases h1;cases h2;exact h
   |succ i=>exact ih i h1 h2
 obtain⟨g1,g2,g3⟩:=gen rel i hx (ae' hi2);have e:=entry_at hes i;rw[ae' hi2,Array.getElem?_eq_getElem hi3] at e;have e':es[i]=entryOfKey (tupleKind (a9' X.prog X.w)) xs[i]:=Option.some.inj e;exact⟨hi3,xs[i].2.1,by rw[e'];rfl,g2,by rw[e'];exact g3⟩
end
def ItkT(d:Addr)(o:Obj)(kvs:List (List Key × V)):It:=⟨fun i H=>H d=some (.frz o (.dT kvs))/\i<kvs.length,fun i H y H'=>H'=H/\∃b k x,kvs[i]? = some (k,x)/\H b=some (.tup (k.map kV))/\y=.ref b,fun i H=>H d=some (.frz o (.dT kvs))/\kvs.length<=i⟩
theorem fx_{P:Program}{w:World}{K:F__}{tg:Expr}(d it:Addr)(o:Obj)(kvs:List (List Key × V)){es:Array DictEntry}{ep:Nat}(ho:o.data=.dict es ep):Turn P w K tg (ItkT d o kvs) [it] it (fun i h=>i<=es.size/\h.IsKeyIter it d i es.size ep) where
 mem:=by simp
 obj:=fun i h st b hb=>by
  obtain rfl:b=it:=by simpa using hb
  obtain⟨_,o,e,c,d⟩:=st;exact⟨o,e,fun v z=>by rw[d] at z;cases z⟩
 keep:=fun i h h' st k=>⟨st.1,st.2.at fun o e=>k it (by simp) o e⟩
 item:=by
  intro X hP hw hK hc i pins s σ H E I hf st hg;subst hP hw hK;obtain⟨hd,hi⟩:=hg;obtain⟨l1,_,raw,ent⟩:=hm_ I hd ho;obtain⟨⟨k,x⟩,hx⟩:∃p,kvs[i]? = some p:=⟨kvs[i],by simp[hi]⟩;obtain⟨hi3,b0,e1,e2,e3⟩:=ent i k x hx;obtain⟨f0,f1,f2,f3,f4,f5⟩:=hf it (by simp);refine EvD.raw_next st.2 raw hi3 fun h' st' sb=>?_;have I1:Inv X pins σ H { s with heap:=h' }:=I.turned (t':=s.toks) (fun b o hb e=>(sb.2 b hb).trans e) f0 f1 f3 f4 f5;obtain⟨o',e,c,dd⟩:=id st';exact⟨es[i].key,rfl,ep_ (s:={ s with heap:=h' }) e c dd (by decide) ⟨.ref b0,H,I1,e1,⟨rfl,b0,k,x,hx,e2,rfl⟩,⟨hi3,st'⟩,fun b hb=>(hf b hb).1⟩⟩
 done:=by
  intro X hP hw hK hc i pins s σ H E I hf st hg;subst hP hw hK;obtain⟨hd,hi⟩:=hg;obtain⟨l1,_,raw,ent⟩:=hm_ I hd ho;obtain⟨f0,f1,f2,f3,f4,f5⟩:=hf it (by simp);have ei:i=es.size:=by have:=st.1;omega
  subst ei;exact EvD.raw_stop (I.ok.hd hc) st.2 raw fun h' eb=>⟨rfl,I.turned (t':=s.toks) (fun b o hb e=>eb b o hb e) f0 f1 f3 f4 f5⟩
 self:=fun _ _ _ _ _ st h=>wpAny_pyIter_keyiter st.2 h
def iKeysT(tv:TE):TI:=fun σ H R=>tv σ H fun x H1=>∃d kvs,x=.ref d/\H1 d=some (.dT kvs)/\∀o,R (ItkT d o kvs) (upd H1 d (.frz o (.dT kvs)))
theorem i1_{X:Cx}{tg e:Expr}{tv:TE}(he:PE X e tv):PI X tg e (iKeysT tv):=by
 intro pins s σ H R I h;refine thn (he pins s σ H _ I h) fun u s1 ⟨x,H1,I1,r1,d,kvs,ex,hd,q⟩=>?_;subst ex;cases r1;obtain⟨o,ho,I2⟩:=I1.freezeT hd;obtain⟨z,hne,xs,rel,o',es,ep,ho',c',dt,r⟩:=(show bh' X.prog X.w H1 s1.heap d (.dT kvs) from I1.hok d _ hd);rw[ho] at ho';cases ho';refine EvD.raw_iter hne ⟨o,ho,c',dt⟩ ?_;refine⟨s1.heap.objs.size,[s1.heap.objs.size],_,_,_,rfl,I2.kept (t':=s1.toks) fun b o e=>Heap.get?_push_of_some _ e,fx_ d _ o kvs dt,⟨aD' _,_,Heap.get?_push_size _ rfl,rfl,rfl⟩,fun b hb=>?_,q o⟩;obtain rfl:b=s1.heap.objs.size:=by simpa using hb
 exact I2.fpOk (ag' _) (I2.hok.fresh (ag' _))
theorem gm_{d:Addr}{o:Obj}{kvs:List (List Key × V)}{g:TG}{tb:TS}{D:Ends}{σ:St}{H:Hp}(Pv:Nat->St->Hp->Prop)(h0:Pv 0 σ H)(hl:∀i σ H,i<=kvs.length->Pv i σ H->H d=some (.frz o (.dT kvs)))
  (hs:∀i k x σ H,kvs[i]? = some (k,x)->Pv i σ H->∀b,H b=some (.tup (k.map kV))->g (.ref b) σ H fun σ2 H2=>tb { D with nx:=Pv (i+1),ct:=Pv (i+1),bk:=D.nx } σ2 H2) (hd:∀σ H,Pv kvs.length σ H->D.nx σ H) :
  ∃W:Nat->Nat->St->Hp->Prop,(∃m,W 0 m σ H)/\∀i m σ H,W i m σ H->
   ((ItkT d o kvs).stop i H/\D.nx σ H)∨((ItkT d o kvs).go i H/\∃N:St->Hp->Prop,(∀σ' H',N σ' H'->∃m',m'<m/\W (i+1) m' σ' H')/\∀x H',(ItkT d o kvs).yld i H x H'->g x σ H' fun σ2 H2=>tb { D with nx:=N,ct:=N,bk:=D.nx } σ2 H2):=by
 refine⟨fun i m σ H=>m=kvs.length - i/\i<=kvs.length/\Pv i σ H,⟨kvs.length,by simp,aD' _,h0⟩,?_⟩;rintro i m σ H ⟨rfl,hi,p⟩;have q:=hl i σ H hi p;by_cases hlt:i<kvs.length
 ·refine .inr ⟨⟨q,hlt⟩,Pv (i+1),fun σ' H' p'=>⟨kvs.length - (i+1),by omega,rfl,hlt,p'⟩,fun x H' y=>?_⟩;obtain⟨rfl,b,k,v,hx,hb,rfl⟩:=y;exact hs i k v σ _ hx p b hb
 ·have e:i=kvs.length:=by omega
  subst e;exact .inl ⟨⟨q,ag' _⟩,hd σ H p⟩
def tThawST(t:TS):TS:=fun D σ H=>∃d kvs,H d=some (.dT kvs)/\t { nx:=fun σ1 H1=>∃o,H1 d=some (.frz o (.dT kvs))/\D.nx σ1 (upd H1 d (.dT kvs)),rt:=fun v H1=>∃o,H1 d=some (.frz o (.dT kvs))/\D.rt v (upd H1 d (.dT kvs)) } σ H
theorem ii_{X:Cx}{st:Stmt}{t:TS}(h:PS X st t):PS X st (tThawST t):=by
 intro pins s σ H D I q;obtain⟨d,kvs,hd,q⟩:=q
 have nf:∀o u,X.H₀ d≠some (.frz o u):=fun o u z=>by
  have:=I.base.frzs _ _ _ z;rw[hd] at this;cases this
 refine thn (h pins s σ H _ I q) fun f s' p=>?_;cases f with
 |next=>
  obtain⟨σ1,H1,I1,o,hf,q1⟩:=p;exact⟨σ1,_,I1.thawT hf nf,q1⟩
 |brk=>
  obtain⟨σ1,H1,I1,q1⟩:=p;exact False.elim q1
 |cont=>
  obtain⟨σ1,H1,I1,q1⟩:=p;exact False.elim q1
 |ret u=>
  obtain⟨v,σ1,H1,I1,r,o,hf,q1⟩:=p;exact⟨v,σ1,_,I1.thawT hf nf,r,q1⟩
end L2
namespace Ev
open PySem L2
abbrev cr':Stmt:=top 78
structure GvI (wt:Str->Int) (M:List Mv) (i:Nat) (kvs:List (List Key × V)):Prop where
 len:kvs.length<=i
 mem:∀kv∈kvs,∃m∈M,kv.1=kT m.2
 val:∀p:Str × Str,valV kvs (kT p)=if ((M.take i).any fun m=>decide (m.2=p))=true then some (.int (swt wt (M.take i) p)) else none
theorem GvI.get{wt:Str->Int}{M:List Mv}{i:Nat}{kvs:List (List Key × V)}(G:GvI wt M i kvs)(p:Str × Str):(valV kvs (kT p)).getD (.int 0)=.int (swt wt (M.take i) p):=by
 rw[G.val p];by_cases c:((M.take i).any fun m=>decide (m.2=p))=true
 ·rw[if_pos c];rfl
 ·rw[if_neg c,co_ (fun m hm z=>c (List.any_eq_true.mpr ⟨m,hm,decide_eq_true z⟩))];rfl
theorem GvI.step{wt:Str->Int}{M:List Mv}{i:Nat}{kvs:List (List Key × V)}(G:GvI wt M i kvs){m:Mv}(hm:M[i]? = some m):GvI wt M (i+1) (putK kvs (kT m.2) (.int (swt wt (M.take i) m.2+wt m.1))):=by
 have tk:M.take (i+1)=M.take i++[m]:=by rw[aB',hm];rfl
 refine⟨aU' (bq_ ..) (Nat.succ_le_succ G.len),fun kv hkv=>?_,fun p=>?_⟩
 ·by_cases c:kv.1=kT m.2
  ·exact⟨m,ac' hm,c⟩
  ·have:kv∈kvs:=by
    unfold putK at hkv;split at hkv
    ·obtain⟨kv',h1,h2⟩:=ad'.mp hkv;split at h2
     ·rw[<- h2] at c;exact absurd (by assumption) c
     ·rw[<- h2];exact h1
    ·rcases aw'.mp hkv with h1|h1
     ·exact h1
     ·rw[aG'.mp h1] at c;exact absurd rfl c
   exact G.mem kv this
 ·rw[hD_,tk,List.any_append,if_];by_cases c:m.2=p
  ·subst c;rw[if_pos rfl,if_pos rfl,if_pos (by simp)]
  ·rw[if_neg (fun z=>c (dC_ z).symm),if_neg c,Int.add_zero,G.val p];have e:(((M.take i).any fun m=>decide (m.2=p)) || [m].any fun m=>decide (m.2=p))=(M.take i).any fun m=>decide (m.2=p):=by simp[c]
   rw[e]
section
variable{P:Program}{w:World}{K:F__}{mg:Str->Option Value}{base:Heap}
abbrev isN:List Str:=["_law_world_here","_law_stand","_law_moves","_law_held_here","_law_many","_law_given","_law_piece","_law_one","_law_other","_law_both"]
theorem bk':a7' isN ["_law_world_here","_law_stand","_law_moves"] (a5' cr'):=f__
def cE'(K:F__):Sp:=fun vs H Q _=>∃(wa sd lm:Addr) (ym:List V) (M:List Mv) (hs:List (Str × Int)) (ts:List (Str × Str)) (ps:List Pc) (f:Str->Str),vs=[.ref wa,.ref sd,.ref lm]/\bS' K H wa hs ts ps/\Pw hs ts ps f/\H sd=some (.dK (stF (ps.map (·.1)) f))/\H lm=some (.lst ym)/\a8' K H ym (M.map kM)/\M.length<=10000/\InSh hs ts ps f M/\∀H',Same H H'->Q (.bl true) H'
set_option maxHeartbeats 1600000 in
theorem fD_{f0:Addr}{fd:FuncData}(F:Fun K "_law_in_share" "_law_in_share" cr' f0 fd)(B:Bi mg)(cD:Cal P w K mg base 1 "_law_drop" ["_law_world_here","_law_held_here","_law_one","_law_other"] (spDrop K))(cH:Cal P w K mg base 1 "_law_held" ["_law_world_here","_law_stand"] (spHeld K)) :
  FnOk P w K mg base CX0 2 f0 fd ["_law_world_here","_law_stand","_law_moves"] (cE' K):=by
 refine F.ok bk' (fun vs H Q E h=>?_) (fun cdv A outer s H vs Q E hr h=>?_)
 ·obtain⟨wa,sd,lm,ym,M,hs,ts,ps,f,rfl,_⟩:=h;rfl
 ·obtain⟨wa,sd,lm,ym,M,hs,ts,ps,f,rfl,WA,Pp,hsd,hlm,tm,lM,inS,k⟩:=h;obtain⟨ds,dn,lt,dh,dy,ad,gy,W⟩:=id WA;have hu:=b3_ hr;have sz:=sizeLine_eq;refine' ⟨_,?r0,?kk⟩
  case' r0=>refine' a2_ ?s1 ?r1
  case' r1=>refine' a2_ ?s2 ?r2
  case' r2=>refine' a2_ ?s3 ?r3
  case' r3=>refine' a2_ ?s4 (a2_ ?s5 (a5_ ?s6))
  case s1=>exact aa_ (i:=3) bk'.nd rfl (Or.inl rfl) (ah_ cH hr (a0_ (pv 0) (a0_ (pv 1) a3_)))
  case s2=>exact aa_ (i:=4) bk'.nd rfl (Or.inl rfl) (aj_ aR_ a7_ (ad_ (dk_ rfl) (by rfl) B.max PyProof.Rows.Boot.«max» (a0_ (eh_ (aS_ ["_law_some"] 1 [] (ee_ (ct_ (ac_ hu (pv 0) au_ (fun _ _=>rfl)))) (fun fp s H=>a8_ (i:=0) (show (["_law_some"]:List Str).Nodup by decide +kernel) rfl (Or.inl rfl)) (fun fp s H=>aU_)
   (fun fp s H=>ad_ (cLen (K:=K)) (by rfl) B.len PySem.boot_len (a0_ (pv 0) a3_)))) a3_)))
  case s3=>exact aa_ (i:=5) bk'.nd rfl (Or.inl rfl) eO_
  case' s4=>refine' aG_ PassesOwn.never rfl (an_ (pv 2)) (bf_ rfl (af_ (a8_ (i:=6) bk'.nd rfl (Or.inl rfl)) (af_ (a8_ (i:=7) bk'.nd rfl (Or.inl rfl)) (af_ (a8_ (i:=8) bk'.nd rfl (Or.inl rfl)) aY_)))) (a5_ ?b1)
  case b1=>exact bc_ hu (pv 5) (aH_ (a0_ (pv 7) (a0_ (pv 8) a3_))) (aj_ aR_ (i9_ hu (pv 5) (aH_ (a0_ (pv 7) (a0_ (pv 8) a3_))) a7_ ⟨rfl,rfl,rfl,rfl⟩) (ac_ hu (ac_ hu (pv 0) au_ (fun _ _=>rfl)) (pv 6) (fun _ _=>rfl))) rfl
  case' s5=>refine' ii_ (aG_ PassesOwn.never rfl (i1_ (pv 5)) (bf_ rfl (af_ (a8_ (i:=7) bk'.nd rfl (Or.inl rfl)) (af_ (a8_ (i:=8) bk'.nd rfl (Or.inl rfl)) aY_))) (a2_ ?c1 (a5_ ?c2)))
  case c1=>exact aa_ (i:=9) bk'.nd rfl (Or.inl rfl) (aj_ ba_ (aj_ aR_ (ac_ hu (ac_ hu (pv 0) au_ (fun _ _=>rfl)) (pv 7) (fun _ _=>rfl)) (ac_ hu (ac_ hu (pv 0) au_ (fun _ _=>rfl)) (pv 8) (fun _ _=>rfl))) (pv 4))
  case c2=>exact aC_ (ao_ es_ (aj_ ba_ (ac_ hu (pv 5) (aH_ (a0_ (pv 7) (a0_ (pv 8) a3_))) (fun _ _=>rfl)) (pv 9)) (ah_ cD hr (a0_ (pv 0) (a0_ (pv 3) (a0_ (pv 7) (a0_ (pv 8) a3_))))) (nomark _)) ag_ ae_
  case s6=>exact ab_ dJ_
  case' kk=>skip
  have hnd:=Pp.Gd.hnd;have h8:(hs.map (·.1)).length<=8:=by rw[aa'];exact Pp.Gd.h8
  have h1':1<=(hs.map (·.1)).length:=by rw[aa'];exact Pp.Gd.h1
  have mo:=dd_ Pp.Gd;refine⟨_,rfl,_,rfl,wa,sd,hs,ts,ps,f,rfl,WA,Pp,hsd,fun dd H1 s1 nd1 e1=>?_⟩;refine setG ?_;dsimp only;refine seqG (fun σ H'=>σ=[some (.ref wa),some (.ref sd),some (.ref lm),some (.ref dd),some (.int (1+bf' hs ts)),none,none,none,none,none]/\Same H1 H') ?m2 ?m1
  case m1=>
   intro N1 hN1;have W1:=W.same s1;have nr:=W1.nr
   have at_:∀{i:Nat} {kk:Key} {x:V},(mKV (hs.map (·.1)) fun h=>V.ref (ad h))[i]? = some (kk,x)->∃n,(hs.map (·.1))[i]? = some n/\x=.ref (ad n):=fun hx=>by
    obtain⟨n,hn,_,rfl⟩:=cc_ hx;exact⟨n,hn,rfl⟩
   have lk:(mKV (hs.map (·.1)) fun h=>V.ref (ad h)).length=(hs.map (·.1)).length:=by rw[ax_]
   have gN:=W1.gN;have ls:=W1.ls;generalize (mKV (hs.map (·.1)) fun h=>V.ref (ad h))=KV at nr at_ lk;refine⟨dn,_,nr,_,rfl,wa,_,rfl,gN,dn,_,rfl,nr,fun v hv=>?_⟩;have s1v:Same H1 (upd H1 v (bm' v dn)):=Same.new hv;refine⟨v,dn,_,rfl,a1_,s1v _ _ nr,fun o D hD=>?_⟩
   have base':∀{b:Addr} {xs:List V},H1 b=some (.lst xs)->upd (upd H1 v (bm' v dn)) dn (.frz o (.dK KV)) b=some (.lst xs):=fun e=>by
    rw[a4_ (az_ e nr nofun)];exact s1v _ _ e
   have fz0:upd (upd H1 v (bm' v dn)) dn (.frz o (.dK KV)) dn=some (.frz o (.dK KV)):=a1_;have lL:((hs.map (·.1)).map fun n=>((nbL ts n).length:Int)).length=(hs.map (·.1)).length:=aa' ..;have ml:=fun m h1 h2=>eW_ (m:=m) Pp.Gd h1 h2;have gL:∀{i:Nat} {n:Str},(hs.map (·.1))[i]? = some n->((hs.map (·.1)).map fun n=>((nbL ts n).length:Int))[i]? = some ((nbL ts n).length:Int):=fun hn=>by rw[an',hn];rfl
   generalize ((hs.map (·.1)).map fun n=>((nbL ts n).length:Int))=LL at lL ml gL;refine bt_ (own:=1) (fv:=[]) rfl gok1 (hs.map (·.1)).length (fun i out H'=>Same (upd (upd H1 v (bm' v dn)) dn (.frz o (.dK KV))) H'/\H' D=some (.lst out)/\out=(LL.take i).map V.int) ⟨Same.new hD,a1_,rfl⟩ (fun out H' ⟨sm,hD',eo⟩=>?_) (fun i out H' hi ⟨sm,hD',eo⟩=>?_)
   ·have hf:=sm _ _ fz0;have Dd:D≠dn:=az_ hD' hf nofun;rw[<- lL,ap'] at eo;refine⟨⟨hf,by omega⟩,o,hf,D,LL,rfl,.of (by rw[a4_ Dd,hD',eo]),by omega,fun m hm hle=>⟨_,_,rfl,rfl,?_⟩⟩;rw[ml m hm hle];refine hN1 _ _ ⟨rfl,fun b u e=>?_⟩;by_cases z:b=dn
    ·rw[z] at e ⊢;rw[nr] at e;rw[a1_];exact e
    ·rw[a4_ z];exact sm _ _ (by rw[a4_ z];exact s1v _ _ e)
   ·have hf:=sm _ _ fz0;refine⟨⟨hf,by omega⟩,fun x H2 y=>?_⟩;obtain⟨eH,kk,hk⟩:=y;subst eH;obtain⟨n,hn,rfl⟩:=at_ hk;have hrow:=ls n (ac' hn);refine⟨_,rfl,rfl,fun Nx hN=>yesT ?_⟩;refine⟨_,rfl,_,_,rfl,.inl (.of (sm _ _ (base' hrow))),out,hD',?_,hN _ _ ⟨am_ sm hD,a1_,?_⟩⟩
    ·rw[eo,aa',ak'];omega
    ·rw[aW_ _ (gL hn),eo,aa']
  rintro σ H2 ⟨rfl,s12⟩;have s2:=s1.trans s12;intro dg ndg;obtain⟨s23,e3⟩:=nw__ (o:=.dT []) ndg;have d3:=s23 _ _ (s12 _ _ e1);have ndg0:H dg=none:=s2.free ndg;have ddg:dd≠dg:=a6_ (s12 _ _ e1) ndg;refine setG ?_;dsimp only;generalize upd H2 dg (.dT [])=H3 at s23 e3 d3 ⊢;have s3:=s2.trans s23;clear s1 s12 s23 s2 e1 ndg nd1;refine seqG (fun σ H'=>∃(v6 v7 v8:Option V) (kvs:List (List Key × V)),σ=[some (.ref wa),some (.ref sd),some (.ref lm),some (.ref dd),some (.int (1+bf' hs ts)),some (.ref dg),v6,v7,v8,none]/\Same H H'/\H' dd=some (.dK (mKV (hs.map (·.1)) fun n=>.int (hld ps f n)))/\H' dg=some (.dT kvs)/\GvI (wtN ps) M M.length kvs) ?m4 ?m3
  case m3=>
   intro N1 hN1;have ly:=Paired.length tm;rw[aa'] at ly;refine⟨_,rfl,lm,rfl,⟨_,.of (s3 _ _ hlm)⟩,aw_ (K:=K) (a:=lm) (xs:=ym) (fun i σ H'=>∃(v6 v7 v8:Option V) (kvs:List (List Key × V)),σ=[some (.ref wa),some (.ref sd),some (.ref lm),some (.ref dd),some (.int (1+bf' hs ts)),some (.ref dg),v6,v7,v8,none]/\Same H H'/\H' dd=some (.dK (mKV (hs.map (·.1)) fun n=>.int (hld ps f n)))/\H' dg=some (.dT kvs)/\GvI (wtN ps) M i kvs) ⟨none,none,none,[],rfl,s3,d3,e3,ag' _,fun kv h=>(by cases h),fun p=>rfl⟩ (fun i σ H' _ ⟨_,_,_,_,_,sm,_⟩=>.of (sm _ _ hlm)) ?_ ?_⟩
   ·rintro i x σ H4 hx ⟨v6,v7,v8,kvs,rfl,s4,d4,g4,G4⟩;obtain⟨m,hm,a,rfl,ha⟩:=aN_ tm hx;have hi:i<M.length:=(ab'.mp hm).1;have mM:=ac' hm;obtain⟨i0,i1,i2,i3⟩:=inS m mM;have ha4:H4 a=some (.tup [.str m.1,.str m.2.1,.str m.2.2]):=s4 _ _ ha;refine⟨a,_,rfl,.of ha4,rfl,_,_,rfl,_,_,rfl,_,_,rfl,rfl,?_⟩;dsimp only;have W4:=W.same s4;refine⟨_,rfl,dg,rfl,.inr ⟨_,.inl g4⟩,_,rfl,_,rfl,by show 2<=sizeLine;decide,fun t1 n1=>?_⟩;obtain⟨s45,e5⟩:=nw__ (o:=.tup [.str m.2.1,.str m.2.2]) n1;generalize upd H4 t1 (.tup [.str m.2.1,.str m.2.2])=H5 at s45 e5 ⊢;refine⟨_,DGet.t (k:=kT m.2) (s45 _ _ g4) e5,?_⟩;rw[G4.get];have W5:=W4.same s45;refine⟨_,rfl,wa,_,rfl,W5.gH,_,rfl,dh,_,rfl,dgR W5.hv i0,_,_,rfl,rfl,?_⟩;refine⟨_,rfl,_,rfl,_,rfl,by show 2<=sizeLine;decide,fun t2 n2=>?_⟩;obtain⟨s56,e6⟩:=nw__ (o:=.tup [.str m.2.1,.str m.2.2]) n2;generalize upd H5 t2 (.tup [.str m.2.1,.str m.2.2])=H6 at s56 e6 ⊢;have s46:=s45.trans s56;have g6:=s46 _ _ g4;have lk:=G4.len;refine⟨dg,_,rfl,DPut.t (k:=kT m.2) g6 e6 (by omega),?_⟩;exact⟨_,_,_,_,rfl,am_ (s4.trans s46) ndg0,(a4_ ddg).trans (s46 _ _ d4),a1_,G4.step hm⟩
   ·rintro σ H4 ⟨v6,v7,v8,kvs,rfl,s4,d4,g4,G4⟩;rw[ly] at G4;exact hN1 _ _ ⟨_,_,_,kvs,rfl,s4,d4,g4,G4⟩
  rintro σ H4 ⟨v6,v7,v8,kvs,rfl,s4,d4,g4,G4⟩;refine seqG (fun σ H'=>Same H H') ?m6 ?m5
  case m6=>exact fun σ H' s'=>k H' s'
  intro N1 hN1;refine⟨dg,_,g4,?_⟩;refine⟨_,rfl,dg,_,rfl,g4,fun o=>?_⟩;refine gm_ (fun i σ H'=>∃(v7 v8 v9:Option V),σ=[some (.ref wa),some (.ref sd),some (.ref lm),some (.ref dd),some (.int (1+bf' hs ts)),some (.ref dg),v6,v7,v8,v9]/\Same H H'/\H' dd=some (.dK (mKV (hs.map (·.1)) fun n=>.int (hld ps f n)))/\H' dg=some (.frz o (.dT kvs))) ⟨_,_,_,rfl,am_ s4 ndg0,(a4_ ddg).trans d4,a1_⟩ (fun i σ H' _ ⟨_,_,_,_,_,_,z⟩=>z) ?_ ?_
  ·rintro i ky x σ H5 hx ⟨v7,v8,v9,rfl,s5,d5,g5⟩ q hq;have mk:=ac' hx;obtain⟨m,mM,rfl⟩:=G4.mem _ mk;obtain⟨i0,i1,i2,i3⟩:=inS m mM;have hq':H5 q=some (.tup [.str m.2.1,.str m.2.2]):=hq;refine⟨q,_,rfl,.of hq',rfl,_,_,rfl,_,_,rfl,rfl,?_⟩;dsimp only;have W5:=W.same s5;have e1:=Pp.str_ok i1;have e2:=Pp.str_ok i2
   have gv:valV kvs (kT m.2)=some (.int (swt (wtN ps) M m.2)):=by
    rw[G4.val,ap',if_pos (List.any_eq_true.mpr ⟨m,mM,decide_eq_true rfl⟩)]
   have pp:0<(strOf hs m.2.1+strOf hs m.2.2) * (1+bf' hs ts):=Int.mul_pos (by omega) (by omega)
   have pl:(strOf hs m.2.1+strOf hs m.2.2) * (1+bf' hs ts)<1073741824:=by
    have:=Int.mul_le_mul (show strOf hs m.2.1+strOf hs m.2.2<=2000 by omega) (show 1+bf' hs ts<=9 by omega) (by omega) (by decide);omega
   refine⟨_,rfl,wa,_,rfl,W5.gS,_,rfl,ds,_,rfl,dgR W5.sg i1,_,rfl,wa,_,rfl,W5.gS,_,rfl,ds,_,rfl,dgR W5.sg i2,_,_,rfl,rfl,_,rfl,_,_,rfl,rfl,.inl ⟨by omega,by omega⟩,?_⟩;refine setG ?_;dsimp only;refine⟨_,rfl,_,rfl,_,rfl,by show 2<=sizeLine;decide,fun t1 n1=>?_⟩;obtain⟨s56,e6⟩:=nw__ (o:=.tup [.str m.2.1,.str m.2.2]) n1;generalize upd H5 t1 (.tup [.str m.2.1,.str m.2.2])=H6 at s56 e6 ⊢;refine⟨dg,_,rfl,.inr ⟨_,kT m.2,t1,.inr ⟨o,s56 _ _ g5⟩,rfl,e6,gv.symm⟩,_,rfl,_,_,rfl,rfl,.inr ⟨by omega,by omega⟩,?_⟩;refine⟨_,rfl,_,rfl,_,rfl,_,rfl,wa,dd,m.2.1,m.2.2,hs,ts,ps,f,rfl,WA.nt (NT.of (s5.trans s56)),Pp,s56 _ _ d5,i1,i2,_,_,rfl,rfl,_,rfl,?_⟩;rw[decide_eq_false (by omega)];exact iteF ⟨_,_,_,rfl,s5.trans s56,s56 _ _ d5,s56 _ _ g5⟩
  ·rintro σ H5 ⟨v7,v8,v9,rfl,s5,d5,g5⟩;exact⟨o,g5,hN1 _ _ (am_ s5 ndg0)⟩
end
end Ev
namespace Ev
open PySem L2
theorem hV_:(∃r∈rl,r.1=("shares all":Str)/\r.2.1="shares"/\¬r.2.2.1="one")/\∃r∈rl,r.1=("shares one":Str)/\r.2.1="shares"/\r.2.2.1="one":=by decide +kernel
section
variable{P:Program}{w:World}{K:F__}{mg:Str->Option Value}{base:Heap}{CG CW T1 T2:Addr}
abbrev lwN:List Str:=["_law_script","_law_k","_law_state_here","_law_hands","_law_ties","_law_pieces","_law_stand","_law_goods_here","_law_world_here","_law_moment","_law_due","_law_hand"]
theorem bZ':a7' lwN ["_law_script"] (a5' sLaw):=f__
def spLaw(K:F__)(T1 T2:Addr):Sp:=fun vs H Q _=>∃(a:Addr) (ns:List Int),vs=[.ref a]/\Tb H T1 T2/\SqL K H a (ns.map V.int)/\ns.length<=63/\∀H',Q (.bl true) H'
set_option maxHeartbeats 3200000 in
theorem kl_{f0:Addr}{fd:FuncData}(F:Fun K "law" "law" sLaw f0 fd)(B:Bi mg)(cC:Cal P w K mg base 1 "_law_cell_at" ["_law_script","_law_k"] (spCell K))(cSt:Cal P w K mg base 1 "_law_state" ["_law_cell","_law_k"] spState)(cD:Cal P w K mg base 2 "_law_digit" ["_law_state_here","_law_base"] bH')(cL:Cal P w K mg base 4 "_law_web" ["_law_state_here"] (spLWeb K))(cGo:Cal P w K mg base 4 "_law_goods" ["_law_state_here","_law_hands","_law_ties"] (c6' K))(cWd:Cal P w K mg base 1 "_law_world" ["_law_hands","_law_ties","_law_pieces"] (spWorld K))(cSh:Cal P w K mg base 2 "_law_by_share" ["_law_world_here","_law_stand","_law_hand"] (cy' K))(cIn:Cal P w K mg base 2 "_law_in_share" ["_law_world_here","_law_stand","_law_moves"] (cE' K))
  (cMk:CalC P w K mg base CW 5 "Web" ["self","hands","ties"] (spInit K CW)) (cGd:CalC P w K mg base CG 7 "Goods" ["self","web","pieces"] (spGInit K CG CW)) (cMv:Cal P w K mg base 9 "moves_of" ["goods","stand","rule","moment"] (cD' K CG CW T1 T2 (fun r=>r.2.1="shares") (fun _=>bL'))):FnOk P w K mg base CX0 10 f0 fd ["_law_script"] (spLaw K T1 T2):=by
 refine F.ok bZ' (fun vs H Q E h=>?_) (fun cdv A outer s H vs Q E hr h=>?_)
 ·obtain⟨a,ns,rfl,_⟩:=h;rfl
 ·obtain⟨ls,ns,rfl,tb,hls,h63,k⟩:=h;have sz:=sizeLine_eq;have hu:=b3_ hr;have hr1:Room 1 _:=hr.mono (by decide);have hr2:Room 2 _:=hr.mono (by decide);have hr4:Room 4 _:=hr.mono (by decide);have hr6:Room 6 _:=hr.mono (by decide);have hr8:Room 8 _:=hr.mono (by decide);refine' ⟨_,a2_ ?s1 (a5_ (ab_ dJ_)),?kk⟩
  case' s1=>refine' aG_ PassesOwn.never rfl ?i3 (a8_ (i:=1) bZ'.nd rfl (Or.inl rfl)) ?b0
  case i3=>exact bO_ (by rfl) B.range (a0_ (aj_ aR_ a7_ (ad_ (g9_ rfl) (by rfl) B.min PyProof.Rows.Boot.«min» (a0_ (ad_ aD_ (by rfl) B.len PySem.boot_len (a0_ (pv 0) a3_)) (a0_ a7_ a3_)))) a3_)
  case' b0=>refine' a2_ ?b1 ?c1
  case' c1=>refine' a2_ ?b2 ?c2
  case' c2=>refine' a2_ ?b3 ?c3
  case' c3=>refine' a2_ ?b4 ?c4
  case' c4=>refine' a2_ ?b5 ?c5
  case' c5=>refine' a2_ ?b6 ?c6
  case' c6=>refine' a2_ ?b7 ?c7
  case' c7=>refine' a2_ ?b8 (a2_ ?b9 (a5_ ?b10))
  case b1=>exact aa_ (i:=2) bZ'.nd rfl (Or.inl rfl) (ah_ cSt hr1 (a0_ (ah_ cC hr1 (a0_ (pv 0) (a0_ (pv 1) a3_))) (a0_ (pv 1) a3_)))
  case b2=>exact f7_ (ah_ cL hr4 (a0_ (pv 2) a3_)) (bf_ rfl (af_ (a8_ (i:=3) bZ'.nd rfl (Or.inl rfl)) (af_ (a8_ (i:=4) bZ'.nd rfl (Or.inl rfl)) aY_)))
  case b3=>exact f7_ (ah_ cGo hr4 (a0_ (pv 2) (a0_ (pv 3) (a0_ (pv 4) a3_)))) (bf_ rfl (af_ (a8_ (i:=5) bZ'.nd rfl (Or.inl rfl)) (af_ (a8_ (i:=6) bZ'.nd rfl (Or.inl rfl)) aY_)))
  case b4=>exact aa_ (i:=7) bZ'.nd rfl (Or.inl rfl) (jG_ cGd hr8 (a0_ (jG_ cMk hr6 (a0_ (pv 3) (a0_ (pv 4) a3_))) (a0_ (pv 5) a3_)))
  case b5=>exact aa_ (i:=8) bZ'.nd rfl (Or.inl rfl) (ah_ cWd hr1 (a0_ (pv 3) (a0_ (pv 4) (a0_ (pv 5) a3_))))
  case b6=>exact aa_ (i:=9) bZ'.nd rfl (Or.inl rfl) (ah_ cD hr2 (a0_ (pv 2) (a0_ a7_ a3_)))
  case b7=>exact aa_ (i:=10) bZ'.nd rfl (Or.inl rfl) (aX_ a3_)
  case' b8=>refine' aG_ PassesOwn.never rfl (an_ (ad_ (cK_ rfl) (by rfl) B.sorted PyProof.Rows.Boot.«sorted» (a0_ (aq_ (aE_ rfl) (by rfl) B.dict PyProof.Rows.Boot.«dict» (a0_ (pv 3) a3_)) a3_))) (a8_ (i:=11) bZ'.nd rfl (Or.inl rfl)) (a5_ ?d1)
  case d1=>exact b7_ (ca_ PySem.F.plainAttrs_list PySem.F.slot_list_extend PySem.F.type_list_extend cL_ (pv 10) (a0_ (ah_ cSh hr2 (a0_ (pv 8) (a0_ (pv 6) (a0_ (pv 11) a3_)))) a3_))
  case' b9=>refine' aC_ (PW.pt (e1_ ?e1 (cd_ ?e2))) ag_ ae_
  case e1=>exact ao_ (g8_ (cmp3 cmpS cmpS cmpS) (cb' hr _)) (ah_ cMv hr (a0_ (pv 7) (a0_ (pv 6) (a0_ au_ (a0_ (pv 9) a3_))))) (pv 10) (nomark _)
  case e2=>exact aI_ (aK_ (ah_ cIn hr2 (a0_ (pv 8) (a0_ (pv 6) (a0_ (pv 10) a3_)))))
  case b10=>exact aC_ (ao_ (g8_ (cmp3 cmpS cmpS cmpS) (cb' hr _)) (ah_ cMv hr (a0_ (pv 7) (a0_ (pv 6) (a0_ au_ (a0_ (pv 9) a3_))))) (bR_ eH_ (pv 10) cT_ (cP_ a7_)) (nomark _)) ag_ ae_
  case' kk=>skip
  have hln:(ns.map V.int).length<=63:=by rw[aa'];exact h63
  refine seqG (fun σ H'=>True) (fun σ H' _=>k _) (fun N hN=>?_)
  obtain⟨cnt,c4,ec⟩:∃c:Nat,c<=4/\(1+(if (2:Int)<((ns.map V.int).length:Int) then (2:Int) else ((ns.map V.int).length:Int)))=(c:Int):=by
   by_cases c:(2:Int)<((ns.map V.int).length:Int)
   ·rw[if_pos c];exact⟨3,by decide,rfl⟩
   ·rw[if_neg c];exact⟨1+(ns.map V.int).length,by omega,by omega⟩
  refine⟨_,rfl,ls,_,rfl,.inl hls,_,_,rfl,_,_,rfl,rfl,(cnt:Int),congrArg (fun z=>[V.int z]) ec,by omega,by omega,?_⟩;refine gs_ (fun i σ H'=>NT H H'/\Tb H' T1 T2/\∃v1 v2 v3 v4 v5 v6 v7 v8 v9 v10 v11:Option V,σ=[some (.ref ls),v1,v2,v3,v4,v5,v6,v7,v8,v9,v10,v11]) ⟨NT.refl H,tb,none,none,none,none,none,none,none,none,none,none,none,rfl⟩ ?_ (fun σ H' _=>hN _ _ trivial);rintro i σ H0 hi ⟨nt0,tb0,v1,v2,v3,v4,v5,v6,v7,v8,v9,v10,v11,rfl⟩;refine setG ?_;dsimp only;rw[Int.toNat_natCast] at hi;refine seqG (fun σ H'=>∃l,Same H0 H'/\H0 l=none/\stt H' l/\σ=[some (.ref ls),some (.int i),some (.ref l),v3,v4,v5,v6,v7,v8,v9,v10,v11]) ?m2 (fun N1 hN1=>?m1)
  case m1=>
   refine⟨_,rfl,_,rfl,ls,ns,_,rfl,by omega,kb_ nt0 hls,fun c=>?_⟩;refine⟨_,rfl,c,i,by rw[Int.zero_add];rfl,by omega,fun l H1 s1 nl st=>hN1 _ _ ⟨l,s1,nl,st,?_⟩⟩;show [some (V.ref ls),some (V.int (0+(i:Int))),some (V.ref l),v3,v4,v5,v6,v7,v8,v9,v10,v11]=_;rw[Int.zero_add]
  rintro σ H1 ⟨l,s1,nl,st1,rfl⟩;refine seqG (fun σ H'=>∃(lh lt:Addr) (ys zs:List V) (hs:List (Str × Int)) (ts:List (Str × Str)),Same H0 H'/\stt H' l/\lh≠l/\lt≠l/\H' lh=some (.lst ys)/\a8' K H' ys (hs.map kH)/\H' lt=some (.lst zs)/\a8' K H' zs (ts.map kT)/\Good hs ts/\σ=[some (.ref ls),some (.int i),some (.ref l),some (.ref lh),some (.ref lt),v5,v6,v7,v8,v9,v10,v11]) ?m4 (fun N1 hN1=>?m3)
  case m3=>
   refine⟨_,rfl,l,rfl,st1,fun t lh lt ys zs hs ts H2 b2 st2 ht fh ft nht nhl ntl h1 h2 h3 h4 G=>?_⟩;exact⟨t,_,rfl,.of ht,rfl,_,_,rfl,_,_,rfl,rfl,hN1 _ _ ⟨lh,lt,ys,zs,hs,ts,b2.same nl s1,st2,nhl,ntl,h1,h2,h3,h4,G,rfl⟩⟩
  rintro σ H2 ⟨lh,lt,yh,zt,hs,ts,s2,st2,nhl,ntl,h1,h2,h3,h4,G,rfl⟩;refine seqG (fun σ H'=>∃(lp d:Addr) (yp:List V) (ps:List Pc) (f:Str->Str),Same H0 H'/\stt H' l/\lp≠l/\d≠l/\H' lh=some (.lst yh)/\a8' K H' yh (hs.map kH)/\H' lt=some (.lst zt)/\a8' K H' zt (ts.map kT)/\H' lp=some (.lst yp)/\PcsAt K H' yp ps/\H' d=some (.dK (stF (ps.map (·.1)) f))/\Pw hs ts ps f/\σ=[some (.ref ls),some (.int i),some (.ref l),some (.ref lh),some (.ref lt),some (.ref lp),some (.ref d),v7,v8,v9,v10,v11]) ?m6 (fun N1 hN1=>?m5)
  case m5=>
   refine⟨_,rfl,_,rfl,_,rfl,l,lh,lt,yh,zt,hs,ts,rfl,st2,h1,nhl,h2,h3,ntl,h4,G,fun t lp d yp ps f H3 b3 st3 ht fp fd npl ndl h5 h6 h7 gp nd p30 at_=>?_⟩;obtain⟨xs0,hl0⟩:=st2.some;exact⟨t,_,rfl,.of ht,rfl,_,_,rfl,_,_,rfl,rfl,hN1 _ _ ⟨lp,d,yp,ps,f,b3.same nl s2,st3,npl,ndl,b3 _ _ h1 nhl,b4_ h2 b3 hl0,b3 _ _ h3 ntl,b4_ h4 b3 hl0,h5,h6,h7,⟨G,gp,nd,p30,at_⟩,rfl⟩⟩
  clear h1 h2 h3 h4 st1 st2 s1 s2;rintro σ H3 ⟨lp,d,yp,ps,f,s3,st3,npl,ndl,h1,h2,h3,h4,h5,h6,h7,Pp,rfl⟩;refine seqG (fun σ H'=>∃(g p:Addr) (qs:List Pc) (fp:List Addr),Same H3 H'/\Stn K CG CW H' g p d hs ts qs fp (ps.map (·.1)) f/\Qs ps qs/\l∉fp/\σ=[some (.ref ls),some (.int i),some (.ref l),some (.ref lh),some (.ref lt),some (.ref lp),some (.ref d),some (.ref g),v8,v9,v10,v11]) ?m8 (fun N1 hN1=>?m7)
  case m7=>
   refine⟨_,rfl,_,rfl,fun p dx hp hdx ne=>?_⟩;have s4:Same H3 (upd (upd H3 dx (.own p)) p (.ins CW dx [])):=(Same.new hdx).trans (Same.new (by rw[a4_ ne.symm];exact hp));refine⟨p,dx,lh,lt,yh,zt,hs,ts,rfl,a1_,s4 _ _ h1,h2.same s4,s4 _ _ h3,h4.same s4,G,fun fpw H5 kp W fr=>⟨rfl,?_⟩⟩;have s35:Same H3 H5:=fun b o e=>kp b o (s4 _ _ e) (a6_ e hp)
   have dfw:d∉fpw:=fun m=>by
    rcases fr d m with z|z
    ·rw[z] at h7;rw[h7] at hp;cases hp
    ·rw[s4 _ _ h7] at z;cases z
   refine⟨_,rfl,fun g dx2 hg hdx2 ne2=>?_⟩;have s6:Same H5 (upd (upd H5 dx2 (.own g)) g (.ins CG dx2 [])):=(Same.new hdx2).trans (Same.new (by rw[a4_ ne2.symm];exact hg));have s36:=s35.trans s6;have e6:upd (upd H5 dx2 (.own g)) g (.ins CG dx2 []) g=some (.ins CG dx2 []):=a1_
   have gfw:g∉fpw:=fun m=>by
    obtain⟨o,e,_⟩:=W.firm m;rw[e] at hg;cases hg
   generalize upd (upd H5 dx2 (.own g)) g (.ins CG dx2 [])=H6 at s6 e6 s36 ⊢;refine⟨g,dx2,p,lp,yp,ps,hs,ts,fpw,rfl,e6,W.same s6,gfw,G,s36 _ _ h5,Paired.mapP h6 fun y q x=>x.same s36,Pp.gp,Pp.nd,by have:=Pp.p30;omega,fun qs fp H7 kg GA Qq fg=>⟨rfl,?_⟩⟩;have s37:Same H3 H7:=fun b o e=>kg b o (s36 _ _ e) (fun z=>by rw[z] at e;rw[s35 _ _ e] at hg;cases hg)
   have dfp:d∉fp:=fun m=>by
    rcases fg d m with z|z|z
    ·rw[z] at h7;rw[s35 _ _ h7] at hg;cases hg
    ·exact dfw z
    ·rw[s36 _ _ h7] at z;cases z
   obtain⟨xs3,hl3⟩:=st3.some
   have lfp:l∉fp:=fun m=>by
    rcases fg l m with z|z|z
    ·rw[z] at hl3;rw[s35 _ _ hl3] at hg;cases hg
    ·rcases fr l z with z|z
     ·rw[z] at hl3;rw[hl3] at hp;cases hp
     ·rw[s4 _ _ hl3] at z;cases z
    ·rw[s36 _ _ hl3] at z;cases z
   obtain⟨fp',GA',sub,has⟩:=GA.firm;refine hN1 _ _ ⟨g,p,qs,fp',s37,⟨GA',fun m=>dfp (sub d m),s37 _ _ h7,⟨?_,fun n hn=>Pp.at_ n hn⟩,has⟩,Qq,fun m=>lfp (sub l m),rfl⟩;rw[Qq.nms];exact (ak_ _).symm
  rintro σ H4 ⟨g,p,qs,fp,s34,S,Qq,lfp,rfl⟩
  have wd:Wd hs ts qs f:=⟨G,Qq.nd Pp.nd,by rw[Qq.len];have:=Pp.p30;omega,fun n hn=>Pp.at_ n (by rw[Qq.nms] at hn;exact (ak_ _).mem_iff.mp hn),fun q hq=>by
   obtain⟨p,hp,e⟩:=Qq.mem q hq;have:=Pp.gp p hp;rw[e];exact⟨by have:=this.w1;show 0<=p.2.1;omega,this.w2⟩⟩
  refine⟨_,rfl,_,rfl,_,rfl,lh,lt,lp,yh,zt,yp,hs,ts,ps,rfl,s34 _ _ h1,h2.same s34,s34 _ _ h3,h4.same s34,s34 _ _ h5,Paired.mapP h6 fun y q x=>x.same s34,G,Pp.nd,Pp.p30,fun wa H5 s45 nwa WA=>?_⟩;refine setG ?_;dsimp only;have st5:=st3.same (s34.trans s45);refine⟨_,rfl,l,3001,rfl,by decide,by decide,st5,fun mo H6 mo0 mo1 b6 st6=>?_⟩;refine setG ?_;dsimp only;obtain⟨xs5,hl5⟩:=st5.some;have tb6:Tb H6 T1 T2:=tb0.same (b6.same nl ((s3.trans s34).trans s45));have nt06:NT H H6:=nt0.trans (NT.of (b6.same nl ((s3.trans s34).trans s45)));have S6:=(S.nt (NT.of s45)).mv b6 st5 lfp ndl;have WA6:=WA.mv b6 st5;replace h1:=b6 _ _ ((s34.trans s45) _ _ h1) nhl;replace h2:=b4_ ((h2.same s34).same s45) b6 hl5;clear S WA b6 st3 st5 st6 s3 s34 s45 h3 h4 h5 h6 h7 hl5;refine⟨by show 0<=sizeLine;decide,fun ld nld=>?_⟩;obtain⟨s7,e7⟩:=nw__ (o:=.lst []) nld;generalize upd H6 ld (.lst [])=H7 at s7 e7 ⊢;refine setG ?_;dsimp only;have nl8:=G.nlen;have h8:=G.h8;refine seqG (fun σ H'=>∃(v11:Option V) (yd:List V),σ=[some (.ref ls),some (.int i),some (.ref l),some (.ref lh),some (.ref lt),some (.ref lp),some (.ref d),some (.ref g),some (.ref wa),some (.int mo),some (.ref ld),v11]/\Same H6 H'/\H' ld=some (.lst yd)/\a8' K H' yd ((dueL hs ts qs f).map kM)) ?n2 ?n1
  case n1=>
   intro N1 hN1;have kvs:bd' K H7 yh (hs.map fun h=>((Sum.inr h.1:Key),V.int h.2)):=cy_ h2 fun y h ⟨b,z,q⟩=>⟨b,z,s7 _ _ (hpH q)⟩;refine⟨_,rfl,lh,yh,_,rfl,s7 _ _ h1,kvs,by rw[aa'];omega,fun ds nds=>?_⟩;rw[hsK G.hnd,aO_ (fn_ G.hnd _)];obtain⟨s78,e8⟩:=nw__ (o:=.dK (mKV (hs.map (·.1)) fun n=>V.int (strOf hs n))) nds;generalize upd H7 ds (.dK (mKV (hs.map (·.1)) fun n=>V.int (strOf hs n)))=H8 at s78 e8 ⊢;refine⟨ds,_,hs.map (·.1),rfl,e8,bH_ ..,by rw[aa'];omega,fun lx nx=>?_⟩;rw[<- fP_ hs];obtain⟨s89,e9⟩:=nw__ (o:=.lst ((a6' hs).map V.str)) nx;have xld:ld≠lx:=a6_ (s78 _ _ e7) nx;have s69:=(s7.trans s78).trans s89;have e79:=(s78.trans s89) _ _ e7;generalize upd H8 lx (.lst ((a6' hs).map V.str))=H9 at s89 e9 s69 e79 ⊢;have nld6:=nld;refine⟨lx,rfl,⟨_,.of e9⟩,aw_ (K:=K) (a:=lx) (xs:=(a6' hs).map V.str) (fun j σ H'=>∃(v11:Option V) (yd:List V),σ=[some (.ref ls),some (.int i),some (.ref l),some (.ref lh),some (.ref lt),some (.ref lp),some (.ref d),some (.ref g),some (.ref wa),some (.int mo),some (.ref ld),v11]/\Same H6 H'/\H' lx=some (.lst ((a6' hs).map V.str))/\H' ld=some (.lst yd)/\a8' K H' yd ((((a6' hs).take j).flatMap fun h=>be' hs ts qs f h).map kM)) ⟨v11,[],rfl,s69,e9,e79,.nil⟩ (fun j σ H' _ ⟨_,_,_,_,z,_⟩=>.of z) ?_ ?_⟩
   ·rintro j x σ HA hx ⟨v11,yd,rfl,sA,xA,dA,tA⟩;obtain⟨n,hn,rfl⟩:=ai_ hx;have nm:=ac' hn;have ly:=Paired.length tA;rw[aa'] at ly;have bl:=cl_ (g:=fun h=>be' hs ts qs f h) (n:=1000) (fun x=>bz_ ("","","",none) hs ts qs f x wd) ((a6' hs).take j);rw[ak'] at bl;refine setG ?_;dsimp only;refine⟨_,rfl,.inl ⟨rfl,_,.of dA⟩,_,rfl,_,rfl,_,rfl,wa,d,n,hs,ts,ps,qs,f,rfl,WA6.nt (NT.of sA),Pp,Qq,wd,sA _ _ S6.hd,(al_ hs).mem_iff.mp nm,fun lz yz HB sB nz ez tz=>?_⟩;have lz':=Paired.length tz;rw[aa'] at lz';have bz:=bz_ ("","","",none) hs ts qs f n wd;have bz:(be' hs ts qs f n).length<=1000:=bz;have dB:=sB _ _ dA;refine⟨ld,lz,yd,yz,rfl,rfl,dB,ez,by omega,?_⟩;refine⟨_,yd++yz,rfl,am_ (sA.trans sB) nld,(a4_ xld.symm).trans (sB _ _ xA),a1_,?_⟩;rw[ap_ hn,List.flatMap_append,List.flatMap_cons,List.flatMap_nil,aA',am'];exact av_ (aV_ (tA.same sB) dB) (aV_ tz dB)
   ·rintro σ HA ⟨v11,yd,rfl,sA,xA,dA,tA⟩;rw[aa',ap'] at tA;exact hN1 _ _ ⟨_,yd,rfl,sA,dA,tA⟩
  clear h1 h2 s7 e7;rintro σ H8 ⟨v11,yd,rfl,s8,d8,t8⟩;obtain⟨⟨ra,ha,a1,a2,a3⟩,ro,ho,o1,o2,o3⟩:=hV_
  have eA:bY' bL' ra hs ts qs f=dueL hs ts qs f:=by
   unfold bY';rw[if_neg a3];rfl
  have eO:bY' bL' ro hs ts qs f=(dueL hs ts qs f).take 1:=by
   unfold bY';rw[if_pos o3];rfl
  have dl:(dueL hs ts qs f).length<=10000:=by
   have:=cl_ (g:=fun h=>be' hs ts qs f h) (n:=1000) (fun x=>bz_ ("","","",none) hs ts qs f x wd) (a6' hs);show ((a6' hs).flatMap _).length<=_;omega
  have iS:=jS_ Pp Qq wd;generalize dueL hs ts qs f=M at t8 eA eO dl iS;have nt8:=NT.of s8;have S8:=S6.nt nt8;refine⟨_,rfl,_,rfl,_,rfl,g,p,d,mo,hs,ts,qs,fp,ps.map (·.1),f,ra,ha,(by rw[a1];rfl),a2,mo0,S8,wd,tb6.same s8,fun lm ym H9 nt9 tb9 nlm elm tm=>?_⟩;rw[eA] at tm;have d9:=nt9.lst d8;have t9:=h6_ t8 nt9;refine⟨_,rfl,_,_,⟨lm,ym,rfl,.of elm,reps3 tm⟩,⟨ld,yd,rfl,.of d9,reps3 t9⟩,_,rfl,?_⟩;refine ite2 (fun c=>by simp at c) (fun c=>?_);have nt69:=nt8.trans nt9;refine⟨_,rfl,_,rfl,_,rfl,wa,d,ld,yd,M,hs,ts,ps,f,rfl,WA6.nt nt69,Pp,nt69.dK S6.hd,d9,t9,dl,iS,fun H10 s10=>⟨_,rfl,iteF ?_⟩⟩;have nt6A:=nt69.trans (NT.of s10);refine⟨_,rfl,_,rfl,_,rfl,g,p,d,mo,hs,ts,qs,fp,ps.map (·.1),f,ro,ho,(by rw[o1];rfl),o2,mo0,S6.nt nt6A,wd,tb9.same s10,fun lm2 ym2 H13 nt13 tb13 nlm2 elm2 tm2=>?_⟩;rw[eO] at tm2;have d13:=nt13.lst (s10 _ _ d9);have t13:=h6_ (t9.same s10) nt13;refine⟨_,rfl,_,rfl,ld,_,rfl,.of d13,fun lq nq=>?_⟩;rw[show cutV yd none (some 1)=yd.take 1 from e8_ yd 1];obtain⟨s14,e14⟩:=nw__ (o:=.lst (yd.take 1)) nq;generalize upd H13 lq (.lst (yd.take 1))=H14 at s14 e14 ⊢;refine⟨_,_,⟨lm2,ym2,rfl,.of (s14 _ _ elm2),reps3 (tm2.same s14)⟩,⟨lq,_,rfl,.of e14,bL_ 1 (reps3 (t13.same s14))⟩,_,rfl,?_⟩;refine ite2 (fun c=>by simp at c) (fun c=>?_);exact⟨nt06.trans ((nt6A.trans nt13).trans (NT.of s14)),tb13.same s14,_,_,_,_,_,_,_,_,_,_,_,rfl⟩
end
end Ev
namespace Ev
open PySem L2
structure Fd (K:F__) (mg:Str->Option Value) (x:Str) (st:Stmt):Prop where
 ex:∃f fd,Fun K x x st f fd/\mg x=some (.ref f)/\PySem.W.keepIn K (.ref f)=true
theorem fd_mk{K:F__}{h:Heap}{mg:Str->Option Value}{x:Str}{st:Stmt}(X:K.In h)(G:h.Ns mainGlobals mg){f:Addr}{oc:Value}{od an:Option Addr}{osl:Array (Option Value)}{kV doc pm cdv ct:Value}(a:PySem.W.nsIn K mainGlobals x=some (some (.ref f)))
  (l:K.lookup f=some ⟨oc,od,.func (PySem.W.fnOf x x (bc' st) (bb' st) (a5' st) .none kV doc pm an cdv ct),osl⟩) (c:PySem.W.codeIn K cdv x=true) (k:PySem.W.keepIn K (.ref f)=true):Fd K mg x st:=⟨_,_,go_ l c k,PySem.W.mg_of X G a,k⟩
structure Md (K:F__) (C:Addr) (m qual:Str) (st:Stmt):Prop where
 ex:∃f fd,Fun K m qual st f fd/\Meth K C m f
theorem md_mk{K:F__}{C:Addr}{m qual:Str}{st:Stmt}{f:Addr}{oc:Value}{od an:Option Addr}{osl:Array (Option Value)}{kV doc pm cdv ct:Value}(a:PySem.W.findIn K (.ref C) m=some (some (.ref f)))(i:PySem.W.isFn K (.ref f)=true)
  (l:K.lookup f=some ⟨oc,od,.func (PySem.W.fnOf m qual (bc' st) (bb' st) (a5' st) .none kV doc pm an cdv ct),osl⟩) (c:PySem.W.codeIn K cdv qual=true) (k:PySem.W.keepIn K (.ref f)=true):Md K C m qual st:=⟨_,_,go_ l c k,a,i,k⟩
theorem cal{P:Program}{w:World}{K:F__}{mg:Str->Option Value}{base:Heap}{x:Str}{st:Stmt}{k:Nat}{ps:List Str}{sp:Sp}(d:Fd K mg x st)(ok:∀f fd,Fun K x x st f fd->FnOk P w K mg base CX0 k f fd ps sp)
  (h:∀(kV doc pm:Value) (an:Option Addr) (cdv ct:Value) (us:List Value),us.length=ps.length->bindArgs (PySem.W.fnOf x x (bc' st) (bb' st) (a5' st) .none kV doc pm an cdv ct) ⟨us,[]⟩=pure (ps.zip us)):Cal P w K mg base k x ps sp:=by
 obtain⟨f,fd,F,m,kp⟩:=d.ex;exact⟨f,fd,ok f fd F,m,kp,F.binds h⟩
theorem calM{P:Program}{w:World}{K:F__}{mg:Str->Option Value}{base:Heap}{C:Addr}{m qual:Str}{st:Stmt}{k:Nat}{ps:List Str}{sp:Sp}(d:Md K C m qual st)(ok:∀f fd,Fun K m qual st f fd->FnOk P w K mg base CX0 k f fd ps sp)
  (h:∀(kV doc pm:Value) (an:Option Addr) (cdv ct:Value) (us:List Value),us.length=ps.length->bindArgs (PySem.W.fnOf m qual (bc' st) (bb' st) (a5' st) .none kV doc pm an cdv ct) ⟨us,[]⟩=pure (ps.zip us)):CalM P w K mg base C k m ps sp:=by
 obtain⟨f,fd,F,m⟩:=d.ex;exact⟨f,fd,ok f fd F,m,F.binds h⟩
theorem calX{P:Program}{w:World}{K:F__}{mg:Str->Option Value}{base:Heap}{C:Addr}{m qual:Str}{st:Stmt}{k:Nat}{ps:List Str}{sp:Sp}(d:Md K C m qual st)(ok:∀f fd,Fun K m qual st f fd->FnOk P w K mg base (CX1 P w) k f fd ps sp)
  (h:∀(kV doc pm:Value) (an:Option Addr) (cdv ct:Value) (us:List Value),us.length=ps.length->bindArgs (PySem.W.fnOf m qual (bc' st) (bb' st) (a5' st) .none kV doc pm an cdv ct) ⟨us,[]⟩=pure (ps.zip us)):CalX P w K mg base C k m ps sp:=by
 obtain⟨f,fd,F,m⟩:=d.ex;exact⟨f,fd,ok f fd F,m,F.binds h⟩
theorem calC{P:Program}{w:World}{K:F__}{mg:Str->Option Value}{base:Heap}{C:Addr}{x qual:Str}{st:Stmt}{k:Nat}{ps:List Str}{sp:Sp}(d:Md K C "__init__" qual st)(hx:mg x=some (.ref C))(mk:PySem.W.makesIn K C=true)(kc:PySem.W.keepIn K (.ref C)=true)(ok:∀f fd,Fun K "__init__" qual st f fd->FnOk P w K mg base CX0 k f fd ps sp)
  (h:∀(kV doc pm:Value) (an:Option Addr) (cdv ct:Value) (us:List Value),us.length=ps.length->bindArgs (PySem.W.fnOf "__init__" qual (bc' st) (bb' st) (a5' st) .none kV doc pm an cdv ct) ⟨us,[]⟩=pure (ps.zip us)):CalC P w K mg base C k x ps sp:=by
 obtain⟨f,fd,F,m⟩:=d.ex;exact⟨f,fd,ok f fd F,⟨mk,m.1,m.2,kc⟩,hx,F.binds h⟩
theorem tup3{K:F__}{a:Addr}{od:Option Addr}{p q:Str}{x y:Tok}{z:Value}{u:V}{n:Nat}{sl:Array (Option Value)}(h:K.lookup a=some ⟨.type "tuple",od,.seq #[.str p x,.str q y,z] n,sl⟩)(r:RelV u z):∀H,SqT K H a [.str p,.str q,u]:=fun H=>
 .inr ⟨_,_,_,h,rfl,rfl,(show 3<=sizeLine by decide),.cons ⟨x,rfl⟩ (.cons ⟨y,rfl⟩ (.cons r .nil))⟩
theorem rules_at{K:F__}{w:World}{mg:Str->Option Value}{d:Addr}{es:Array DictEntry}{ep:Nat}{t0 t1 t2 t3 t4 t5 t6 t7 t8 t9 t10 t11 t12 t13 t14 t15 t16:Tok}{b0 b1 b2 b3 b4 b5 b6 b7 b8 b9 b10 b11 b12 b13 b14 b15 b16:Addr}
  {od0 od1 od2 od3 od4 od5 od6 od7 od8 od9 od10 od11 od12 od13 od14 od15 od16:Option Addr} {x0 y0 n0 v0 x1 y1 n1 v1 x2 y2 n2 v2 x3 y3 n3 v3 x4 y4 n4 v4 x5 y5 n5 v5 x6 y6 n6 v6 x7 y7 n7 v7 x8 y8 n8 v8 x9 y9 n9 v9 x10 y10 n10 v10 x11 y11 n11 v11 x12 y12 n12 x13 y13 n13 x14 y14 n14 v14 x15 y15 n15 v15 x16 y16 n16 v16:Nat} {sl0 sl1 sl2 sl3 sl4 sl5 sl6 sl7 sl8 sl9 sl10 sl11 sl12 sl13 sl14 sl15 sl16:Array (Option Value)}
  (m:mg "RULES"=some (.ref d)) (hs:(d == sysModules)=false) (hl:K.lookup d=some ⟨.type "dict",none,.dict es ep,#[]⟩) (he:es.toList=c7' w [("least one high",t0,.ref b0),("least one fall",t1,.ref b1),("least one calm",t2,.ref b2),("least all high",t3,.ref b3),("least all fall",t4,.ref b4),("least all calm",t5,.ref b5),("below one high",t6,.ref b6),("below one fall",t7,.ref b7),("below one calm",t8,.ref b8),("below all high",t9,.ref b9),("below all fall",t10,.ref b10),("below all calm",t11,.ref b11),("shares one",t12,.ref b12),("shares all",t13,.ref b13),("turns high",t14,.ref b14),("turns fall",t15,.ref b15),("turns calm",t16,.ref b16)])
  (u0:K.lookup b0=some ⟨.type "tuple",od0,.seq #[.str "least" x0,.str "one" y0,.str "high" v0] n0,sl0⟩)
  (u1:K.lookup b1=some ⟨.type "tuple",od1,.seq #[.str "least" x1,.str "one" y1,.str "fall" v1] n1,sl1⟩)
  (u2:K.lookup b2=some ⟨.type "tuple",od2,.seq #[.str "least" x2,.str "one" y2,.str "calm" v2] n2,sl2⟩)
  (u3:K.lookup b3=some ⟨.type "tuple",od3,.seq #[.str "least" x3,.str "all" y3,.str "high" v3] n3,sl3⟩)
  (u4:K.lookup b4=some ⟨.type "tuple",od4,.seq #[.str "least" x4,.str "all" y4,.str "fall" v4] n4,sl4⟩)
  (u5:K.lookup b5=some ⟨.type "tuple",od5,.seq #[.str "least" x5,.str "all" y5,.str "calm" v5] n5,sl5⟩)
  (u6:K.lookup b6=some ⟨.type "tuple",od6,.seq #[.str "below" x6,.str "one" y6,.str "high" v6] n6,sl6⟩)
  (u7:K.lookup b7=some ⟨.type "tuple",od7,.seq #[.str "below" x7,.str "one" y7,.str "fall" v7] n7,sl7⟩)
  (u8:K.lookup b8=some ⟨.type "tuple",od8,.seq #[.str "below" x8,.str "one" y8,.str "calm" v8] n8,sl8⟩)
  (u9:K.lookup b9=some ⟨.type "tuple",od9,.seq #[.str "below" x9,.str "all" y9,.str "high" v9] n9,sl9⟩)
  (u10:K.lookup b10=some ⟨.type "tuple",od10,.seq #[.str "below" x10,.str "all" y10,.str "fall" v10] n10,sl10⟩)
  (u11:K.lookup b11=some ⟨.type "tuple",od11,.seq #[.str "below" x11,.str "all" y11,.str "calm" v11] n11,sl11⟩)
  (u12:K.lookup b12=some ⟨.type "tuple",od12,.seq #[.str "shares" x12,.str "one" y12,.none] n12,sl12⟩)
  (u13:K.lookup b13=some ⟨.type "tuple",od13,.seq #[.str "shares" x13,.str "all" y13,.none] n13,sl13⟩)
  (u14:K.lookup b14=some ⟨.type "tuple",od14,.seq #[.str "turns" x14,.str "all" y14,.str "high" v14] n14,sl14⟩)
  (u15:K.lookup b15=some ⟨.type "tuple",od15,.seq #[.str "turns" x15,.str "all" y15,.str "fall" v15] n15,sl15⟩)
  (u16:K.lookup b16=some ⟨.type "tuple",od16,.seq #[.str "turns" x16,.str "all" y16,.str "calm" v16] n16,sl16⟩) :
  cs' K w mg d [b0,b1,b2,b3,b4,b5,b6,b7,b8,b9,b10,b11,b12,b13,b14,b15,b16]:=by
 refine⟨m,rfl,⟨hs,?_,[("least one high",t0,.ref b0),("least one fall",t1,.ref b1),("least one calm",t2,.ref b2),("least all high",t3,.ref b3),("least all fall",t4,.ref b4),("least all calm",t5,.ref b5),("below one high",t6,.ref b6),("below one fall",t7,.ref b7),("below one calm",t8,.ref b8),("below all high",t9,.ref b9),("below all fall",t10,.ref b10),("below all calm",t11,.ref b11),("shares one",t12,.ref b12),("shares all",t13,.ref b13),("turns high",t14,.ref b14),("turns fall",t15,.ref b15),("turns calm",t16,.ref b16)],_,es,ep,hl,⟨rfl,rfl,rfl⟩,rfl,he,?_⟩,?_⟩
 ·rw[dP_ rfl];exact gI_
 ·exact .cons ⟨rfl,rfl⟩ (.cons ⟨rfl,rfl⟩ (.cons ⟨rfl,rfl⟩ (.cons ⟨rfl,rfl⟩ (.cons ⟨rfl,rfl⟩ (.cons ⟨rfl,rfl⟩ (.cons ⟨rfl,rfl⟩ (.cons ⟨rfl,rfl⟩ (.cons ⟨rfl,rfl⟩ (.cons ⟨rfl,rfl⟩ (.cons ⟨rfl,rfl⟩ (.cons ⟨rfl,rfl⟩ (.cons ⟨rfl,rfl⟩ (.cons ⟨rfl,rfl⟩ (.cons ⟨rfl,rfl⟩ (.cons ⟨rfl,rfl⟩ (.cons ⟨rfl,rfl⟩ (.nil)))))))))))))))))
 ·exact .cons (tup3 u0 ⟨_,rfl⟩) (.cons (tup3 u1 ⟨_,rfl⟩) (.cons (tup3 u2 ⟨_,rfl⟩) (.cons (tup3 u3 ⟨_,rfl⟩) (.cons (tup3 u4 ⟨_,rfl⟩) (.cons (tup3 u5 ⟨_,rfl⟩) (.cons (tup3 u6 ⟨_,rfl⟩) (.cons (tup3 u7 ⟨_,rfl⟩) (.cons (tup3 u8 ⟨_,rfl⟩) (.cons (tup3 u9 ⟨_,rfl⟩) (.cons (tup3 u10 ⟨_,rfl⟩) (.cons (tup3 u11 ⟨_,rfl⟩) (.cons (tup3 u12 rfl) (.cons (tup3 u13 rfl) (.cons (tup3 u14 ⟨_,rfl⟩) (.cons (tup3 u15 ⟨_,rfl⟩) (.cons (tup3 u16 ⟨_,rfl⟩) (.nil)))))))))))))))))
structure Tg (P:Program) (w:World) (b:Heap):Prop where
theorem caQ{P:Program}{w:World}{K:F__}{mg:Str->Option Value}{base:Heap}{x:Str}{st:Stmt}{k:Nat}{ps:List Str}{sp:Sp}(q:Tg P w base)(d:Fd K mg x st)(ok:∀f fd,Fun K x x st f fd->FnOk P w K mg base CX0 k f fd ps sp)(h:∀(kV doc pm:Value) (an:Option Addr) (cdv ct:Value) (us:List Value),us.length=ps.length->bindArgs (PySem.W.fnOf x x (bc' st) (bb' st) (a5' st) .none kV doc pm an cdv ct) ⟨us,[]⟩=pure (ps.zip us):=by first|(exact fun _ _ _ _ _ _ us (hl:us.length=1)=>match us,hl with | [_],_=>rfl)|(exact fun _ _ _ _ _ _ us (hl:us.length=2)=>match us,hl with | [_,_],_=>rfl)|(exact fun _ _ _ _ _ _ us (hl:us.length=3)=>match us,hl with | [_,_,_],_=>rfl)|(exact fun _ _ _ _ _ _ us (hl:us.length=4)=>match us,hl with | [_,_,_,_],_=>rfl)|(exact fun _ _ _ _ _ _ us (hl:us.length=5)=>match us,hl with | [_,_,_,_,_],_=>rfl)):Cal P w K mg base k x ps sp:=cal d ok h
theorem caM{P:Program}{w:World}{K:F__}{mg:Str->Option Value}{base:Heap}{C:Addr}{m qual:Str}{st:Stmt}{k:Nat}{ps:List Str}{sp:Sp}(q:Tg P w base)(d:Md K C m qual st)(ok:∀f fd,Fun K m qual st f fd->FnOk P w K mg base CX0 k f fd ps sp)(h:∀(kV doc pm:Value) (an:Option Addr) (cdv ct:Value) (us:List Value),us.length=ps.length->bindArgs (PySem.W.fnOf m qual (bc' st) (bb' st) (a5' st) .none kV doc pm an cdv ct) ⟨us,[]⟩=pure (ps.zip us):=by first|(exact fun _ _ _ _ _ _ us (hl:us.length=1)=>match us,hl with | [_],_=>rfl)|(exact fun _ _ _ _ _ _ us (hl:us.length=2)=>match us,hl with | [_,_],_=>rfl)|(exact fun _ _ _ _ _ _ us (hl:us.length=3)=>match us,hl with | [_,_,_],_=>rfl)|(exact fun _ _ _ _ _ _ us (hl:us.length=4)=>match us,hl with | [_,_,_,_],_=>rfl)|(exact fun _ _ _ _ _ _ us (hl:us.length=5)=>match us,hl with | [_,_,_,_,_],_=>rfl)):CalM P w K mg base C k m ps sp:=calM d ok h
theorem caX{P:Program}{w:World}{K:F__}{mg:Str->Option Value}{base:Heap}{C:Addr}{m qual:Str}{st:Stmt}{k:Nat}{ps:List Str}{sp:Sp}(q:Tg P w base)(d:Md K C m qual st)(ok:∀f fd,Fun K m qual st f fd->FnOk P w K mg base (CX1 P w) k f fd ps sp)(h:∀(kV doc pm:Value) (an:Option Addr) (cdv ct:Value) (us:List Value),us.length=ps.length->bindArgs (PySem.W.fnOf m qual (bc' st) (bb' st) (a5' st) .none kV doc pm an cdv ct) ⟨us,[]⟩=pure (ps.zip us):=by first|(exact fun _ _ _ _ _ _ us (hl:us.length=1)=>match us,hl with | [_],_=>rfl)|(exact fun _ _ _ _ _ _ us (hl:us.length=2)=>match us,hl with | [_,_],_=>rfl)|(exact fun _ _ _ _ _ _ us (hl:us.length=3)=>match us,hl with | [_,_,_],_=>rfl)|(exact fun _ _ _ _ _ _ us (hl:us.length=4)=>match us,hl with | [_,_,_,_],_=>rfl)|(exact fun _ _ _ _ _ _ us (hl:us.length=5)=>match us,hl with | [_,_,_,_,_],_=>rfl)):CalX P w K mg base C k m ps sp:=calX d ok h
theorem caC{P:Program}{w:World}{K:F__}{mg:Str->Option Value}{base:Heap}{C:Addr}{x qual:Str}{st:Stmt}{k:Nat}{ps:List Str}{sp:Sp}(q:Tg P w base)(d:Md K C "__init__" qual st)(hx:mg x=some (.ref C))(mk:PySem.W.makesIn K C=true)(kc:PySem.W.keepIn K (.ref C)=true)(ok:∀f fd,Fun K "__init__" qual st f fd->FnOk P w K mg base CX0 k f fd ps sp)(h:∀(kV doc pm:Value) (an:Option Addr) (cdv ct:Value) (us:List Value),us.length=ps.length->bindArgs (PySem.W.fnOf "__init__" qual (bc' st) (bb' st) (a5' st) .none kV doc pm an cdv ct) ⟨us,[]⟩=pure (ps.zip us):=by first|(exact fun _ _ _ _ _ _ us (hl:us.length=1)=>match us,hl with | [_],_=>rfl)|(exact fun _ _ _ _ _ _ us (hl:us.length=2)=>match us,hl with | [_,_],_=>rfl)|(exact fun _ _ _ _ _ _ us (hl:us.length=3)=>match us,hl with | [_,_,_],_=>rfl)|(exact fun _ _ _ _ _ _ us (hl:us.length=4)=>match us,hl with | [_,_,_,_],_=>rfl)|(exact fun _ _ _ _ _ _ us (hl:us.length=5)=>match us,hl with | [_,_,_,_,_],_=>rfl)):CalC P w K mg base C k x ps sp:=calC d hx mk kc ok h
set_option maxHeartbeats 3200000 in
theorem all_mk{l:PySem.W.OpenLaw}{w:World}{K:F__}{h:Heap}{mg:Str->Option Value}{fa CW CG CS CP d fl fh fr c1 c2 T1 T2:Addr}{as:List Addr}(X:K.In h)(G:h.Ns mainGlobals mg)(hfa:mg "law"=some (.ref fa))
  (f0:Fd K mg "is_whole" sIsW)
  (f1:Fd K mg "is_whole_from" cX')
  (f2:Fd K mg "is_whole_within" sWhole)
  (f3:Fd K mg "is_name" sName)
  (f4:Fd K mg "lesser_first" cW')
  (f5:Fd K mg "is_pair_of_names" sPair)
  (f6:Fd K mg "sorted_ties" cI')
  (f7:Fd K mg "greatest_divisor" sGd)
  (f8:Fd K mg "least_multiple" sLM)
  (f9:Fd K mg "is_hand_with_strength" sHand)
  (f10:Fd K mg "checked_strengths" sStr)
  (f11:Fd K mg "checked_ties" sTies)
  (f12:Fd K mg "neighbours_of_all" sNear)
  (f13:Fd K mg "checked_ways" sCWays)
  (f14:Fd K mg "checked_piece" cH')
  (f15:Fd K mg "checked_pieces" cq')
  (f16:Fd K mg "checked_stand" cT')
  (f17:Fd K mg "loads_at" ci')
  (f18:Fd K mg "multiple_of_strengths" sMult)
  (f19:Fd K mg "levels_at" c3')
  (f20:Fd K mg "is_rule" cG')
  (f21:Fd K mg "checked_words" sWords)
  (f22:Fd K mg "share_moves" sShM)
  (f23:Fd K mg "moves_by_shares" cc')
  (f24:Fd K mg "moves_from" cK')
  (f25:Fd K mg "moves_seen" sSeen)
  (f26:Fd K mg "checked_start" cP')
  (f27:Fd K mg "checked_moments" cd')
  (f28:Fd K mg "moves_of" cm')
  (f29:Fd K mg "_law_cell_at" sCell)
  (f30:Fd K mg "_law_mixed" sMixed)
  (f31:Fd K mg "_law_state" sState)
  (f32:Fd K mg "_law_digit" sDigit)
  (f33:Fd K mg "_law_named" sNamed)
  (f34:Fd K mg "_law_web" sLWeb)
  (f35:Fd K mg "_law_weight" cv')
  (f36:Fd K mg "_law_ways" sWaysL)
  (f37:Fd K mg "_law_goods" cJ')
  (f38:Fd K mg "_law_world" sWorld)
  (f39:Fd K mg "_law_held" sHeld)
  (f40:Fd K mg "_law_drop" sDrop)
  (f41:Fd K mg "_law_may" sMayL)
  (f42:Fd K mg "_law_heaviest" sHvL)
  (f43:Fd K mg "_law_by_share" cn')
  (f44:Fd K mg "_law_in_share" cr')
  (m0:Md K CW "__init__" "Web.__init__" sInit)
  (m1:Md K CW "has_hand" "Web.has_hand" sHas)
  (m2:Md K CW "hands" "Web.hands" sHands)
  (m3:Md K CW "strength" "Web.strength" ca')
  (m4:Md K CW "neighbours" "Web.neighbours" sNeigh)
  (m5:Md K CW "are_tied" "Web.are_tied" sTied)
  (m6:Md K CW "most_neighbours" "Web.most_neighbours" sMost)
  (m7:Md K CG "__init__" "Goods.__init__" sGInit)
  (m8:Md K CG "has_piece" "Goods.has_piece" sGHas)
  (m9:Md K CG "names" "Goods.names" cZ')
  (m10:Md K CG "weight" "Goods.weight" cw')
  (m11:Md K CG "may_go" "Goods.may_go" sGMay)
  (m12:Md K CS "__init__" "Sight.__init__" sSInit)
  (m13:Md K CS "lead" "Sight.lead" sLead)
  (m14:Md K CS "joint_strength" "Sight.joint_strength" sJoint)
  {ocl kVl dcl pml ctl:Value} {odl anl:Option Addr} {sll:Array (Option Value)} {och kVh dch pmh cth:Value} {odh anh:Option Addr} {slh:Array (Option Value)} {ocr kVr dcr pmr ctr:Value} {odr anr:Option Addr} {slr:Array (Option Value)} {cdl:Value} {t8 t9 t10 t11:Tok}
  (al:PySem.W.nsIn K mainGlobals "law"=some (some (.ref fl))) (ll:K.lookup fl=some ⟨ocl,odl,.func (PySem.W.fnOf "law" "law" (bc' sLaw) (bb' sLaw) (a5' sLaw) .none kVl dcl pml anl cdl ctl),sll⟩) (cl:PySem.W.codeIn K cdl "law"=true) (kl:PySem.W.keepIn K (.ref fl)=true) (ah:PySem.W.nsIn K mainGlobals "heaviest_first"=some (some (.ref fh))) (lh:K.lookup fh=some ⟨och,odh,.func (PySem.W.fnOf "heaviest_first" "heaviest_first" (bc' sHvF) (bb' sHvF) (a5' sHvF) .none kVh dch pmh anh (.ref c1) cth),slh⟩) (hcd:PySem.W.codeIn K (.ref c1) "heaviest_first"=true) (kh:PySem.W.keepIn K (.ref fh)=true) (h1:PySem.W.codeHdIn K c1 T1=true) (aW:PySem.W.nsIn K mainGlobals "Web"=some (some (.ref CW))) (aG:PySem.W.nsIn K mainGlobals "Goods"=some (some (.ref CG))) (aS:PySem.W.nsIn K mainGlobals "Sight"=some (some (.ref CS))) (eP:PySem.W.nsIn K mainGlobals "NoPiece"=some (some (.ref CP))) (xP:PySem.W.excIn K CP [.type "ValueError",.type "Exception",.type "BaseException",.type "object"] "ValueError.__new__"=true) (ar:PySem.W.findIn K (.ref CS) "rising_neighbours"=some (some (.ref fr))) (ir:PySem.W.isFn K (.ref fr)=true) (lr:K.lookup fr=some ⟨ocr,odr,.func (PySem.W.fnOf "rising_neighbours" "Sight.rising_neighbours" (bc' ce') (bb' ce') (a5' ce') .none kVr dcr pmr anr (.ref c2) ctr),slr⟩) (rcd:PySem.W.codeIn K (.ref c2) "Sight.rising_neighbours"=true) (kr:PySem.W.keepIn K (.ref fr)=true) (h2:PySem.W.codeHdIn K c2 T2=true) (c8_:PySem.W.nsIn K mainGlobals "MOST_LETTERS"=some (some (.int 8 t8))) (c9_:PySem.W.nsIn K mainGlobals "MOST_HANDS"=some (some (.int 8 t9))) (c10_:PySem.W.nsIn K mainGlobals "MOST_STRENGTH"=some (some (.int 1000 t10))) (c11_:PySem.W.nsIn K mainGlobals "MOST_WEIGHT"=some (some (.int 1000000000 t11))) (wpg:PySem.W.plainGet K CW Str.empty=true) (whd:PySem.W.hasDictIn K CW=true) (wpo:PySem.W.plainOver K CW=true) (wsa:PySem.W.findIn K (.ref CW) "__setattr__"=some (some (.builtin "object.__setattr__"))) (wmk:PySem.W.makesIn K CW=true) (wkc:PySem.W.keepIn K (.ref CW)=true) (wn0:PySem.W.findIn K (.ref CW) "strength_by_hand"=some none) (wn1:PySem.W.findIn K (.ref CW) "sorted_pairs"=some none) (wn2:PySem.W.findIn K (.ref CW) "neighbours_by_hand"=some none) (gpg:PySem.W.plainGet K CG Str.empty=true) (ghd:PySem.W.hasDictIn K CG=true) (gpo:PySem.W.plainOver K CG=true) (gsa:PySem.W.findIn K (.ref CG) "__setattr__"=some (some (.builtin "object.__setattr__"))) (gmk:PySem.W.makesIn K CG=true) (gkc:PySem.W.keepIn K (.ref CG)=true) (gn0:PySem.W.findIn K (.ref CG) "web"=some none) (gn1:PySem.W.findIn K (.ref CG) "weight_by_name"=some none) (gn2:PySem.W.findIn K (.ref CG) "ways_by_name"=some none) (spg:PySem.W.plainGet K CS Str.empty=true) (shd:PySem.W.hasDictIn K CS=true) (spo:PySem.W.plainOver K CS=true) (ssa:PySem.W.findIn K (.ref CS) "__setattr__"=some (some (.builtin "object.__setattr__"))) (smk:PySem.W.makesIn K CS=true) (skc:PySem.W.keepIn K (.ref CS)=true) (sn0:PySem.W.findIn K (.ref CS) "wares"=some none) (sn1:PySem.W.findIn K (.ref CS) "load_by_hand"=some none) (sn2:PySem.W.findIn K (.ref CS) "level_by_hand"=some none) (sn3:PySem.W.findIn K (.ref CS) "pieces_by_hand"=some none) (iha:PySem.W.findIn K (.ref CW) "__class__"=some (some (.builtin "object.__class__"))) (ihn:PySem.W.specialIn K (.builtin "object.__class__") "__get__"=some (some (.builtin "getset_descriptor.__get__"))) (itk:PySem.W.takesIn K (.builtin "object.__class__")=some true) (imo:PySem.W.mroIn K CW (.type "object")=some true) (z0:PySem.W.nsIn K mainGlobals "isinstance"=some none) (z1:PySem.W.nsIn K mainGlobals "int"=some none) (z2:PySem.W.nsIn K mainGlobals "bool"=some none) (z3:PySem.W.nsIn K mainGlobals "str"=some none) (z4:PySem.W.nsIn K mainGlobals "tuple"=some none) (z5:PySem.W.nsIn K mainGlobals "list"=some none) (z6:PySem.W.nsIn K mainGlobals "dict"=some none) (z7:PySem.W.nsIn K mainGlobals "len"=some none) (z8:PySem.W.nsIn K mainGlobals "all"=some none) (z9:PySem.W.nsIn K mainGlobals "sorted"=some none) (z10:PySem.W.nsIn K mainGlobals "max"=some none) (z11:PySem.W.nsIn K mainGlobals "range"=some none) (z12:PySem.W.nsIn K mainGlobals "any"=some none) (z13:PySem.W.nsIn K mainGlobals "enumerate"=some none) (z14:PySem.W.nsIn K mainGlobals "min"=some none) (z15:PySem.W.nsIn K mainGlobals "abs"=some none) (R:cs' K w mg d as) :
  ∃fd:FuncData,(∀(s:Shared) (v:Value),BindsTo s fd ⟨[v],[]⟩ [("_law_script",v)])/\(∀T'∈[T2,T1],isCodeTable h T')/\∀base:Heap,K.In base->base.Ns mainGlobals mg->(∀T'∈[T2,T1],base.BuiltinsAt mg T')->FnOk l.prog w K mg base CX0 10 fa fd ["_law_script"] (spLaw K T1 T2):=by
 have e:=hfa.symm.trans (PySem.W.mg_of X G al);cases e;have B:Bi mg:=⟨PySem.W.mg_none_of X G z0,PySem.W.mg_none_of X G z1,PySem.W.mg_none_of X G z2,PySem.W.mg_none_of X G z3,PySem.W.mg_none_of X G z4,PySem.W.mg_none_of X G z5,PySem.W.mg_none_of X G z6,PySem.W.mg_none_of X G z7,PySem.W.mg_none_of X G z8,PySem.W.mg_none_of X G z9,PySem.W.mg_none_of X G z10,PySem.W.mg_none_of X G z11,PySem.W.mg_none_of X G z12,PySem.W.mg_none_of X G z13,PySem.W.mg_none_of X G z14,PySem.W.mg_none_of X G z15⟩;have TW:Txt K mg CW:=⟨⟨wpg,whd,wpo,wsa⟩,wn0,wn1,wn2⟩;have TG:TxtG K CG:=⟨⟨gpg,ghd,gpo,gsa⟩,gn0,gn1,gn2⟩;have TS:TxtS K CS:=⟨⟨spg,shd,spo,ssa⟩,sn0,sn1,sn2,sn3⟩;have IW:InsK K CW:=⟨iha,ihn,itk,imo⟩;have RP:Ref K mg "NoPiece" CP:=⟨PySem.W.mg_of X G eP,xP⟩;have FL:=go_ (st:=sLaw) ll cl kl;have FH:FunC K "heaviest_first" "heaviest_first" sHvF fh c1 _:=⟨⟨_,_,_,_,_,_,_,_,rfl,lh,hcd⟩,kh⟩;have FR:FunC K "rising_neighbours" "Sight.rising_neighbours" ce' fr c2 _:=⟨⟨_,_,_,_,_,_,_,_,rfl,lr,rcd⟩,kr⟩;refine⟨PySem.W.fnOf "law" "law" (bc' sLaw) (bb' sLaw) (a5' sLaw) .none kVl dcl pml anl cdl ctl,fun s v=>.of_eq rfl,fun T' hT'=>?_,fun base KB _ hbm=>?_⟩
 ·have hT':T'=T2∨T'=T1:=by simpa using hT'
  rcases hT'.symm with rfl|rfl
  ·obtain⟨o,vs',file,tf,flags,tg,inF,text,tt,q1,q2,q3,q4,_⟩:=PySem.W.codeHd_of_K X h1;exact⟨c1,o,vs',q1,q2,q3,q4⟩
  ·obtain⟨o,vs',file,tf,flags,tg,inF,text,tt,q1,q2,q3,q4,_⟩:=PySem.W.codeHd_of_K X h2;exact⟨c2,o,vs',q1,q2,q3,q4⟩
 have q:Tg l.prog w base:=⟨⟩;have cIsW:=caQ q f0 fun _ _ F=>jQ_ F B;have cWhole:=caQ q f2 fun _ _ F=>hA_ F cIsW;have cWhF:=caQ q f1 fun _ _ F=>g2_ F cIsW;have cName:=caQ q f3 fun _ _ F=>iY_ F B (PySem.W.mg_of X G c8_);have cLsr:=caQ q f4 fun _ _ F=>hl_ F;have cPair:=caQ q f5 fun _ _ F=>jE_ F B cName;have cSort:=caQ q f6 fun _ _ F=>gq_ F B cPair cLsr;have cHand:=caQ q f9 fun _ _ F=>jJ_ F B cName cWhole (PySem.W.mg_of X G c10_);have cStr:=caQ q f10 fun _ _ F=>jV_ F B cHand (PySem.W.mg_of X G c9_);have cTies:=caQ q f11 fun _ _ F=>jc_ F B cSort;have cNear:=caQ q f12 fun _ _ F=>jO_ F cLsr;have cWeb:=caC q m0 (PySem.W.mg_of X G aW) wmk wkc fun _ _ F=>jt_ F TW B cStr cTies cNear;have mHas:=caM q m1 fun _ _ F=>kk_ F TW B;have mHasA:=caM q m1 fun _ _ F=>jh_ F TW B;have mHands:=caM q m2 fun _ _ F=>hW_ F TW B;have mStr:=caM q m3 fun _ _ F=>eg_ F TW mHas;have mNei:=caM q m4 fun _ _ F=>hr_ F TW B mHas;have mTied:=caM q m5 fun _ _ F=>i3_ F TW mHasA;have cCWy:=caQ q f13 fun _ _ F=>hu_ F TW cSort mTied;have cCP:=caQ q f14 fun _ _ F=>h0_ F B cName cWhole cCWy (PySem.W.mg_of X G c11_);have cCPs:=caQ q f15 fun _ _ F=>fH_ F B cCP;have cGoods:=caC q m7 (PySem.W.mg_of X G aG) gmk gkc fun _ _ F=>il_ F TG TW IW B (PySem.W.mg_of X G aW) cCPs;have gHas:=caM q m8 fun _ _ F=>jx_ (CW:=CW) F TG B;have gNames:=caM q m9 fun _ _ F=>gl_ (CW:=CW) F TG B;have gWeight:=caX q m10 fun _ _ F=>fK_ F TG RP gHas;have gMay:=caX q m11 fun _ _ F=>j6_ F TG TW RP gHas mTied cLsr;have cGd:=caQ q f7 fun _ _ F=>kz_ F;have cLM:=caQ q f8 fun _ _ F=>kx_ F cGd;have cCS:=caQ q f16 fun _ _ F=>gO_ F B TG TW gHas mHas gNames;have cLA:=caQ q f17 fun _ _ F=>fE_ F B TG TW mHands gWeight;have cMu:=caQ q f18 fun _ _ F=>jm_ F TW cLM mHands mStr;have cLv:=caQ q f19 fun _ _ F=>gY_ F TG TW cLA cMu mStr;have cHF:Cal l.prog w K mg base 6 "heaviest_first" ["goods","placed"] (spHvF K CG CW T1):=⟨_,_,ku_ FH B TG TW (PySem.W.codeHd_of_K KB h1) (hbm T1 (by simp)) mHands gWeight,PySem.W.mg_of X G ah,kh,FH.fn.binds (fun _ _ _ _ _ _ us (hl:us.length=2)=>match us,hl with | [_,_],_=>rfl)⟩;have cSight:=caC q m12 (PySem.W.mg_of X G aS) smk skc fun _ _ F=>hJ_ F TS cLA cLv cHF;have sLd:=caM q m13 fun _ _ F=>j8_ F TS TG TW mStr;have sJn:=caM q m14 fun _ _ F=>ik_ F TS TG TW mStr;have sRi:CalM l.prog w K mg base CS 4 "rising_neighbours" ["self","hand"] (spRisN K CS CG CW T2):=⟨_,_,jl_ FR B TS TG TW (PySem.W.codeHd_of_K KB h2) (hbm T2 (by simp)) mNei,⟨ar,ir,kr⟩,FR.fn.binds (fun _ _ _ _ _ _ us (hl:us.length=2)=>match us,hl with | [_,_],_=>rfl)⟩;have cIR:=caQ q f20 fun _ _ F=>gZ_ F B R;have cWs:=caQ q f21 fun _ _ F=>ip_ F R cIR;have mMo:=caM q m6 fun _ _ F=>iW_ F TW B;have cShM:=caQ q f22 fun _ _ F=>ks_ F TS TG TW sLd sJn mMo gWeight gMay;have cBS:=caQ q f23 fun _ _ F=>eL_ F TS TG TW mNei sLd cShM;have cMF:Cal l.prog w K mg base 6 "moves_from" ["sight","hand","words"] (spFrom K CS CG CW T2 (fun r=>r.2.1="shares") bL'):=cal f24 (fun _ _ F=>fS_ F cBS) (fun _ _ _ _ _ _ us (hl:us.length=3)=>match us,hl with | [_,_,_],_=>rfl);have cSe:=caQ q f25 fun _ _ F=>jy_ F TS TG TW (fun r e z=>by rw[e] at z;exact absurd z (by decide +kernel)) (fun r hs ts qs f h W=>bz_ r hs ts qs f h W) cWs mHands cMF;have cSta:=caQ q f26 fun _ _ F=>h8_ F cWs cCS;have cMo:=caQ q f27 fun _ _ F=>eu_ F cWhF;have cMv:=caQ q f28 fun _ _ F=>fF_ F cSta cSight cSe cMo;have cCell:=caQ q f29 fun _ _ F=>jL_ F B;have cMx:=caQ q f30 fun _ _ F=>i2_ F;have cStt:=caQ q f31 fun _ _ F=>hP_ F;have cDig:=caQ q f32 fun _ _ F=>hH_ F cMx;have cNm:=caQ q f33 fun _ _ F=>ig_ F B cDig;have cLW:=caQ q f34 fun _ _ F=>j2_ F B cDig cNm;have cWt:=caQ q f35 fun _ _ F=>fO_ F cDig;have cWy:=caQ q f36 fun _ _ F=>i5_ F B cDig;have cGo:=caQ q f37 fun _ _ F=>g4_ F B cDig cNm cWt cWy;have cWd:=caQ q f38 fun _ _ F=>id_ F B;have cHe:=caQ q f39 fun _ _ F=>jd_ F B;have cDr:=caQ q f40 fun _ _ F=>jC_ F;have cMa:=caQ q f41 fun _ _ F=>iQ_ F;have cHL:=caQ q f42 fun _ _ F=>ke_ F B;have cBSh:=caQ q f43 fun _ _ F=>fN_ F B cDr cHe cMa cHL;have cIS:=caQ q f44 fun _ _ F=>fD_ F B cDr cHe;exact kl_ FL B cCell cStt cDig cLW cGo cWd cBSh cIS cWeb cGoods cMv
theorem h9_{H:Hp}{T:Addr}{q:Str}(h:H T=some (.tbl #[])):bp' H T q:=⟨[],h,fun e he=>by cases he⟩
theorem walk{l:PySem.W.OpenLaw}{q:Program}{loose:List Str}{XP:(Str->Option Value)->Heap->Prop}{d:DefRec}{K:Params->F__}{as:List Addr}{T1 T2:Addr}{eas:∀P:Params,as=(K P).map (·.1)}(hn:l.most=some 63)(hdf:d.params.defaults=[])(hts:([T2,T1].all fun T=>!as.contains T)=true)(ne:T1≠T2)
  (F:∀(w:World) (mg:Str->Option Value) (fa:Addr) (h:Heap),(K w.params).In h->h.Ns mainGlobals mg->mg d.name=some (.ref fa)->
   ∃fd:FuncData,(∀(s:Shared) (u:Value),BindsTo s fd ⟨[u],[]⟩ [("_law_script",u)])/\(∀T'∈[T2,T1],isCodeTable h T')/\∀base:Heap,(K w.params).In base->base.Ns mainGlobals mg->(∀T'∈[T2,T1],base.BuiltinsAt mg T')->FnOk l.prog w (K w.params) mg base CX0 10 fa fd ["_law_script"] (spLaw (K w.params) T1 T2)) :
  PySem.W.WalkO q loose XP (PySem.W.kmHook K as eas [T2,T1]).says l.row.toRowW d [] (fun f vs=>PySem.call f vs):=
 L2.walk_ofT (n:=63) (k:=10) (x:="_law_script") (CX:=fun _=>CX0) (sp:=fun w=>spLaw (K w.params) T1 T2) hn (by decide) hdf ⟨rfl,by decide,by decide⟩ hts F (fun _ _ a ns hl hT hS=>⟨a,ns,rfl,⟨h9_ (hT T1 (by simp)),h9_ (hT T2 (by simp)),ne⟩,hS,hl,fun _=>rfl⟩) fun _ _ _ _ _ z=>z
end Ev
namespace PySem.W.Fast
def tw9396048519138989091:=()
def tw10995235248529834374:=()
def tw15885724966579859846:=()
def tw13796931138764241223:=()
def tw9989265662443443111:=()
def tw15459417798098330632:=()
def tw3003419285311127816:=()
def tw10704885369173747753:=()
def tw10465889458937749609:=()
def tw5100995205598723465:=()
def tw14450521068077719401:=()
def tw6647584069015172138:=()
def tw4785212876978539946:=()
def tw17343199446272680682:=()
def tw13825185594977903562:=()
def tw5213286517237172108:=()
def tw984407414857540717:=()
def tw6639479923270749133:=()
def tw443753846850260686:=()
def tw8944563386063075150:=()
def tw7036657263199892334:=()
def tw14720617918965543279:=()
def tw6823517144162908208:=()
def tw1360629380817723921:=()
def tw2240302135891563089:=()
def tw6009174705543807442:=()
def tw13034063403331499922:=()
def tw11207129632832959635:=()
def tw13222646152100574675:=()
def tw6770663526225038323:=()
def tw14322517382266582868:=()
def tw17965782274528092985:=()
def tw14728146073504516057:=()
def tw14037087957195834682:=()
def tw2906242100422859258:=()
def tw11303709066340597338:=()
def tw2147223801248004155:=()
def tw9582707228916478427:=()
def tw9965982768751916766:=()
def tw10823547219074262111:=()
def tw774266098325333535:=()
def tw4758088925514369015:=()
def tw6030569230388121512:=()
def tw11312412157235299978:=()
def tw7905916408824122070:=()
def tw9888611579307794382:=()
def tw11538217589088840220:=()
def tw14918762630460131946:=()
def tw13004064706317090209:=()
def tw4193289601590920246:=()
def tw2801119887716912946:=()
def tw5178240574386549029:=()
def tw17364656278237429969:=()
def tw17218463623330532398:=()
def tw11424851605393436791:=()
def tw9904974140091484638:=()
def tw10803135696417776371:=()
def tw12857873266910887107:=()
def tw1892525821734838985:=()
def tw17441745754001105032:=()
def tw48877841453149138:=()
def tw3908609832136985064:=()
def tw16778350036793455219:=()
def tw3640152804307326897:=()
def tw16763257669319692659:=()
def tw6600556644289433140:=()
def tw11793312467591372340:=()
def tw13853236837225108197:=()
def tw2574900255880711767:=()
def tw10646505885422492558:=()
def tw11925674208099985231:=()
def tw5038680261188784726:=()
def tw6027302469610337735:=()
def tw16371343572694153199:=()
def tw3770396579153502209:=()
def tw6712945202074937995:=()
def tw6308572095687313666:=()
def tw4538645339081363430:=()
def tw1881486578886422144:=()
def tw13559926356811142094:=()
def tw10262783473819073558:=()
def tw7410558821624315208:=()
def tw7286007334752033853:=()
def tw7454730138813423460:=()
def tw15759354889476879427:=()
def tw12048544533703606779:=()
def tw3576275231709815241:=()
def tw8041477028689865511:=()
def tw12733544096772687468:=()
def tw8874822132848738933:=()
def tw5365730267439493509:=()
def tw13065412284589514627:=()
def tw13005434389144168469:=()
def tw7706659829527190191:=()
def tw11367232038949429837:=()
def tw16256182176440146398:=()
def tw11159106887637861141:=()
def tw16119617801971877521:=()
def tw14509137899337503986:=()
def tw7167644311588685692:=()
def tw16846810651869133323:=()
def tw5864339771599709267:=()
def tw14277895434914277765:=()
def tw18232175638352582861:=()
def tw3485023755171230082:=()
def tw13817814605859599866:=()
def tw1473400042463405050:=()
def tw5007338826419672833:=()
def tw14172371770272485204:=()
def tw2725918487272078574:=()
def tw4464919675322134620:=()
def tw4971379399611745170:=()
def tw18297170260323530219:=()
def tw16542863985807088863:=()
def tw8057307203526132551:=()
def tw9957887241145447189:=()
def tw16549636546582887239:=()
def tw7189294495645191247:=()
def tw4780493954604775587:=()
def tw431023235453658606:=()
def tw14225184051033225515:=()
def tw827715446989887103:=()
def tw13179103778844948598:=()
def tw14376208459182090822:=()
def tw12153041505359010852:=()
def tw14642002021371821751:=()
def tw5315010253368381615:=()
def tw11325662948409682367:=()
def tw17934749685418014719:=()
def tw10876806516411696079:=()
def tw15447797671365583523:=()
def tw14071059088455057800:=()
def tw1637724313014129373:=()
def tw9844507565865651852:=()
def tw14800366498784628907:=()
def tw9956359519233059522:=()
def tw7002461919676046449:=()
def tw1747870100086694849:=()
def tw14473662256962174107:=()
def tw18047527405478640543:=()
def tw15382894534107081136:=()
def tw6150186945903643831:=()
def tw14261931158783103414:=()
def tw18055074691772703745:=()
def tw1791588832961560550:=()
def tw13450319720064567811:=()
def tw1546980478932328436:=()
def tw11732236045152441853:=()
def tw409917299079395313:=()
def tw13724014133131269099:=()
def tw7281269534863443350:=()
def tw5535410811453322061:=()
def tw7518249092297561360:=()
def tw2020951003094415634:=()
def tw2707928079001525118:=()
def tw18297063535244567160:=()
def tw3967140246521044831:=()
def tw1242498175553565404:=()
def tw14022890114160999822:=()
def tw7500600547152944513:=()
def tw3061523440316603031:=()
def tw5141531696418681877:=()
def tw2181131342474078044:=()
def tw12041456693534078979:=()
def tw9261423970721711264:=()
def tw10590869058547579854:=()
def tw16410042016657613929:=()
def tw3551701393548989153:=()
def tw7641197870035987383:=()
def tw13404463311435332621:=()
def tw7590890548729618283:=()
def tw3174709473495944772:=()
def tw4476906823214262564:=()
def tw6849761643990701944:=()
def tw6895924272318183994:=()
def tw12144129243894761549:=()
def tw3483641053063515689:=()
def tw17556888173731682586:=()
def tw9436890996503653234:=()
def tw3676903359727082349:=()
def tw17905697451970504621:=()
def tw14382759347986016757:=()
def tw15787005069150560574:=()
def tw5305053588989850019:=()
def tw17163878614413403606:=()
def tw1930457190721493412:=()
def tw16317026822232112261:=()
def tw1453948785746940346:=()
def tw16381921404032244486:=()
def tw2724314433655155307:=()
def tw1776190902155222748:=()
def tw16037933902454168321:=()
def tw4300964082107923899:=()
def tw2827209370718466322:=()
def tw14578241647588976789:=()
def tw13797757510290796023:=()
def tw13922552296594651633:=()
def tw4823681027647575236:=()
def tw13529999245000331350:=()
def tw17883823029641009574:=()
def tw9626738944779016348:=()
def tw1550254305445148033:=()
def tw2305463228462516281:=()
def tw7555696500318412216:=()
def tw16861167440622850954:=()
def tw15814312204147558464:=()
def tw18073873521832228931:=()
def tw17209223960776341843:=()
def tw10741410875662268693:=()
def tw4375308778733679794:=()
def tw12031806064823833254:=()
def tw8162143756876366583:=()
def tw16753036059095631097:=()
def tw540227529967811174:=()
def tw14122400433534900777:=()
def tw9406449118333439657:=()
def tw15952778988148535616:=()
def tw11942195653266495101:=()
def tw13975929732351387875:=()
def tw3184555309440737721:=()
def tw7441537100146056604:=()
def tw17864624001987288624:=()
def tw8964594709795608546:=()
def tw8425999507654035737:=()
def tw13937703059840605743:=()
def tw10769967137616964799:=()
def tw7111112310761004884:=()
def tw40525299162095892:=()
def tw10301816585643698875:=()
def tw16603851068683022862:=()
def tw64868678241529525:=()
def tw12475130542064327717:=()
def tw4437264893610449744:=()
def tw4452573496987531372:=()
def tw13512546466265663979:=()
def tw14632640104468403062:=()
def tw6401659486679981213:=()
def tw16055233312032769639:=()
def tw15227845308583802325:=()
def tw3125159720591963182:=()
def tw18034255194304006923:=()
def tw8147097006322423209:=()
def tw8690027591503562061:=()
def tw7982769299776685865:=()
def tw2692701812403230003:=()
def tw14746127007075335081:=()
def tw10794161350021581161:=()
def tw6759921396965101820:=()
def tw16774705672676159386:=()
def tw2099338031933560076:=()
def tw15788282863426975228:=()
def tw7934591293819559822:=()
def tw13485675419665889681:=()
def tw4741368222509553395:=()
def tw5975953540530160169:=()
def tw10684595631062357803:=()
def tw4256966108349614519:=()
def tw11526260548025953031:=()
def tw5830428981890401769:=()
def tw17429308405639093959:=()
def tw17399856869600143091:=()
def tw7613944552087199248:=()
def tw5756818589391452397:=()
def tw5049331671931582918:=()
def tw9996685423828813648:=()
def tw3877008620714230650:=()
def tw3846597081283407376:=()
def tw9484899546634137811:=()
def tw4712633549151474083:=()
def tw12441509277308708705:=()
def tw18242149631803928373:=()
def tw8058619506022926475:=()
def tw8962353634638991474:=()
def tw9250242690329478531:=()
def tw17983067410240210188:=()
def tw1360090575268276912:=()
def tw12361242941208581342:=()
def tw19074987924450328:=()
def tw17275736588104088340:=()
def tw17318821638651764878:=()
def tw14251855328154075009:=()
def tw13635325619236252093:=()
def tw14170634305870630385:=()
def tw13162488273762983281:=()
def tw11291003325739095652:=()
def tw14877527935570766362:=()
def tw14954170002071206656:=()
def tw6845297447886610783:=()
def tw16607148989899690400:=()
def tw5498025466177033391:=()
def tw13256252276713796890:=()
def tw4092604334908240489:=()
def tw18295544301147695118:=()
def tw15123211515384758506:=()
def tw11605105233892174856:=()
def tw13564239955006786833:=()
def tw18434134903553876983:=()
def tw456089874559288647:=()
def tw8182188599156092697:=()
def tw11391275101161867811:=()
def tw3411340459396722198:=()
def tw1435787071206593333:=()
def tw41895684459645888:=()
def tw16811839196006709635:=()
def tw10442078966423039432:=()
def tw1916524909180600186:=()
def tw8643896577461982223:=()
def tw4204706804187453162:=()
def tw10442301496681215280:=()
def tw563266063952220428:=()
def tw8718782637257195264:=()
def tw11585377069173987106:=()
def tw2284572148311303194:=()
def tw15135896537965434841:=()
def tw4561570790004740867:=()
def tw13742752727508482860:=()
def tw249486643115638076:=()
def tw16189240850838604435:=()
def tw4393249210095293233:=()
def tw14349887785872402446:=()
def tw5961242977868803084:=()
def tw6526795246478452856:=()
def tw2978404985611479718:=()
def tw3253540456179536335:=()
def tw6571453811681012381:=()
def tw6168039887851183676:=()
def tw9278717101385020451:=()
def tw10551930479912658176:=()
def tw10543300523840786557:=()
def tw16903013073518986953:=()
def tw16786977034810466030:=()
def tw13215735828000709937:=()
def tw2467875360866361769:=()
def tw8218003885730993492:=()
def tw17455787279008129346:=()
def tw1728640905803672347:=()
def tw14063599615881929495:=()
def tw329948994129953506:=()
def tw2893666727871426026:=()
def tw16087977689088751860:=()
def tw4231505865283654995:=()
def tw16878286080046112305:=()
def tw2805096171795137279:=()
def tw9274618517047868258:=()
def tw9570324424565862157:=()
def tw18333994706351782634:=()
def tw497505685657619951:=()
def tw8475359523358147539:=()
def tw10669616901410387612:=()
def tw2077753196537906847:=()
def tw9391613657642730242:=()
def tw8243279144393661681:=()
def tw15878654489906002973:=()
def tw6239090171997509868:=()
def tw9931020381964259137:=()
def tw11485906729010840530:=()
def tw4587046572516236230:=()
def tw12556795802694833689:=()
def tw14062798621448386431:=()
def tw4314613386122100008:=()
def tw11099296364768861984:=()
def tw11705574879684224260:=()
def tw3708511114870790088:=()
def tw2588744547947198131:=()
def tw13200314396809048190:=()
def tw1947841999572275658:=()
def tw13862359833960597743:=()
def tw8339982280927170172:=()
def tw97613235845710847:=()
def tw13849140427257385870:=()
def tw5166070475700075:=()
def tw14548090433767281450:=()
def tw2178162167291401294:=()
def tw16509181088251821221:=()
def tw18380623943962959482:=()
def tw7972511522213320546:=()
def tw10320279022729138514:=()
def tw731202598565814502:=()
def tw7362930944900472163:=()
def tw8988147807322297113:=()
def tw4292424493113861831:=()
def tw8046673454469110696:=()
def tw884466500628983812:=()
def tw6828701533544539961:=()
def tw11905658122698879425:=()
def tw3003566745601226145:=()
def tw10203013572653458417:=()
def tw8603014784465012526:=()
def tw3870918170546225420:=()
def tw1688349952755572940:=()
def tw1516711248215771542:=()
def tw14589069710413515091:=()
def tw5859918276322659239:=()
def tw15378458973973746850:=()
def tw6579216968011154426:=()
def tw5519159752792527497:=()
def tw15146406867557932375:=()
def tw4269755557855179818:=()
def tw18443450336888139039:=()
def tw8837936870035631714:=()
def tw15240888958912784268:=()
def tw7899221150613777085:=()
def tw12487800469219733461:=()
def tw5803607213030289255:=()
def tw15257431920013881504:=()
def tw16705089810711902486:=()
def tw8326062231282118154:=()
def tw11254228696649923209:=()
def tw3207471484681902700:=()
def tw17493531692500140902:=()
def tw14585093081852586179:=()
def tw5587127389309060527:=()
def tw2944782686329082947:=()
def tw622433972113181340:=()
def tw15726510202891412954:=()
def tw15330175886338136310:=()
def tw3816139823058450645:=()
def tw13871861548043958638:=()
def tw16181009363653663172:=()
def tw15026980427011260949:=()
def tw2241555831277993483:=()
def tw3376034590016398464:=()
def tw16354499069534711795:=()
def tw13586018589847547710:=()
def tw18030168609910954372:=()
def tw326979393101269678:=()
def tw853471138390223713:=()
def tw7443408520190576508:=()
def tw4106714759390753909:=()
def tw6141021405240719630:=()
def tw9172757556570814638:=()
def tw7101153826901277503:=()
def tw8887567421378463605:=()
def tw5269301172842591851:=()
def tw771625503787130307:=()
def tw15342760773223748474:=()
def tw13953318522041909648:=()
def tw37544731028479793:=()
def tw9582177256012113811:=()
def tw4143971521695748128:=()
def tw3697808515875214025:=()
def tw3581206359629110820:=()
def tw860792411295230087:=()
def tw1729473850629940606:=()
def tw15761517937747950503:=()
def tw2063639895918497009:=()
def tw17712405719679055230:=()
def tw4771314999384175033:=()
def tw10333585221442333945:=()
def tw9536759980526174281:=()
def tw124110846072648150:=()
def tw15682326793451312409:=()
def tw14523339804537871976:=()
def tw6586831508308721421:=()
def tw9702943020768345532:=()
def tw7352028218629379677:=()
def tw4011573260557926860:=()
def tw15936503536160290339:=()
def tw10265841007625961039:=()
def tw7247790295419230556:=()
def tw11838990797735849211:=()
def tw11314115650502966908:=()
def tw8755489393551183056:=()
def tw10010001779263237313:=()
def tw16994873177314732685:=()
def tw13504880410782739205:=()
def tw10284601369018014001:=()
def tw1797985114569185297:=()
def tw5440918719429166151:=()
def tw31775967135715756:=()
def tw3452982608124564717:=()
def tw13222695234753927543:=()
def tw6561847543726854754:=()
def tw18404320544531407669:=()
def tw3012820268625188390:=()
def tw6460322461557230611:=()
def tw1269220816370296794:=()
def tw15604910531813782656:=()
def tw16208055398260110968:=()
def tw172843336717436190:=()
def tw17663519187551349691:=()
def tw15638497048042729647:=()
def tw5799366425243369799:=()
def tw7949033363827049652:=()
def tw5291210718066915624:=()
def tw7971989248950656000:=()
def tw1058733895751356773:=()
def tw5120870906733338320:=()
def tw16005111321878174516:=()
def tw10699450617395870928:=()
def tw17362344161139458543:=()
def tw16301537647614291891:=()
def tw5932454093046700161:=()
def tw5551537040054657027:=()
def tw7629369474540978072:=()
def tw1519855263821355366:=()
def tw8195693675780414803:=()
def tw4544380621045290752:=()
def tw7179407717049801331:=()
def tw12303311743619108251:=()
def tw2085564802773261321:=()
def tw139337168430552371:=()
def tw17507268706084293523:=()
def tw14878199374688085191:=()
def tw10828970858674479051:=()
def tw4569783587762427662:=()
def tw12006187029444047582:=()
def tw5476261813750970862:=()
def tw8224130045815919851:=()
def tw15533730310103565504:=()
def tw5253628122874719219:=()
def tw11335516316289402897:=()
def tw3736376392822168606:=()
def tw7793759661920656824:=()
def tw9333623383916294197:=()
def tw18280750091071201587:=()
def tw15024291469966498007:=()
def tw10506510125655615492:=()
def tw5252198270333073600:=()
def tw4456808593618687192:=()
def tw9439338234548111144:=()
def tw7594416329074861123:=()
def tw4366200612774083157:=()
def tw12769559848769367478:=()
def tw3957193764923802779:=()
def tw1484999563569548645:=()
def tw7499607010633793170:=()
def tw2590070806642022630:=()
def tw2502711868319403490:=()
def tw2024216468478242155:=()
def tw6630149737259735740:=()
def tw12569971611411675159:=()
def tw6773343358580947129:=()
def tw16873656285319431737:=()
def tw17415907955613561007:=()
def tw11945263549723786224:=()
def tw17690031571012699703:=()
def tw17606825578022654056:=()
def tw9725973529038192895:=()
def tw9235021117337556886:=()
def tw17969190895955723064:=()
def tw9961833821751034594:=()
def tw11863143637618738651:=()
def tw4948526660868513897:=()
def tw2577766489999038693:=()
def tw9120870546740473821:=()
def tw7826108312780722630:=()
def tw16306535277481556038:=()
def tw6364201288433635984:=()
def tw15284395481794069423:=()
def tw5487111107255338496:=()
def tw1815302998977080613:=()
def tw10834176060980111745:=()
def tw18069111745163443943:=()
def tw7314655282390480717:=()
def tw10103528090157631640:=()
def tw7910847475969979574:=()
def tw8384020233061834147:=()
def tw7256914626958357935:=()
def tw5889232124734636095:=()
def tw13794839978111429315:=()
def tw6925888266488989338:=()
def tw13082008937431127016:=()
def tw12485485456911283397:=()
def tw14916126890335377131:=()
def tw4817285169262246981:=()
def tw17568896057107169928:=()
def tw13596268103958630040:=()
def tw960679661556223339:=()
def tw1145767422522320662:=()
def tw1810937771112131234:=()
def tw7692215970296574717:=()
def tw2293007353099992234:=()
def tw13863064837484064696:=()
def tw8492544787902997998:=()
def tw404505348357426108:=()
def tw3527066812112869862:=()
def tw10574096699329587955:=()
def tw16151838416453324279:=()
def tw5483276468344665137:=()
def tw5994786590459890800:=()
def tw6344087351751322766:=()
def tw14563593198429855366:=()
def tw2211902746405000359:=()
def tw6251139870822384120:=()
def tw9164889308804592090:=()
def tw4285278483945654916:=()
def tw431981758011068904:=()
def tw2180383528085983005:=()
def tw6073697894988549429:=()
def tw14983054916039770736:=()
def tw7184821769685623137:=()
def tw4205019557613591909:=()
def tw2240515813992052065:=()
def tw2781998610613046910:=()
def tw2777902775261696630:=()
def tw11275107241668214735:=()
def tw4366745207060426971:=()
def tw11873736830030332945:=()
def tw18372978965972920799:=()
def tw6796999918436858470:=()
def tw15150248458604998309:=()
def tw1405084081762714287:=()
def tw8586117244697831360:=()
def tw1013280410649535156:=()
def tw3369551838624925376:=()
def tw17707607493051593438:=()
def tw12723563398229371799:=()
def tw5876199716496977055:=()
def tw12558498103404571352:=()
def tw17877429904055015742:=()
def tw6717631637036528702:=()
def tw2182204193543676421:=()
def tw17962961913126121347:=()
def tw14574225602766064463:=()
def tw7497001542560034319:=()
def tw10429496367989522877:=()
def tw12676048000742270046:=()
def tw8231836718324093157:=()
def tw12525022117417984989:=()
def tw3407077770384496527:=()
def tw6275869367686595318:=()
def tw15357952655688477568:=()
def tw7363855906867697746:=()
def tw4514838734976933360:=()
def tw14463874292231784855:=()
def tw1062454381610352380:=()
def tw10025746728938458500:=()
def tw10430251173755387067:=()
def tw114816930683852260:=()
def tw3148650764274991974:=()
def tw8117856666541234410:=()
def tw18198162166519021550:=()
def tw11818875521015747014:=()
def tw8740748308822722546:=()
def tw13285791706602361812:=()
def tw9626286879939367568:=()
def tw10591051361564060132:=()
def tw8157623505433443893:=()
def tw13969738616679122168:=()
def tw4111981603077406887:=()
def tw13038062740341757893:=()
def tw12270298517301856390:=()
def tw16898290594755483474:=()
end PySem.W.Fast
open PySem PySem.W PyProof.Rows
set_option maxRecDepth 100000 in
set_option maxHeartbeats 0 in
theorem PySem.Challenge.cw_evenpieces_k29_what_shares_give_holds : PySem.Challenge.rw_evenpieces_k29_what_shares_give.Holds := by
 w_on;o_law;k_head;(case hw=>w_witness2)
 k_fill
 refine Ev.walk (l:=PySem.Challenge.rw_evenpieces_k29_what_shares_give) rfl rfl (by rfl) (by decide) ?F
 case F=>
  intro w mg fa h KX G hmg;refine' Ev.all_mk KX G hmg (Ev.fd_mk KX G ?_ ?_ ?_ ?_) (Ev.fd_mk KX G ?_ ?_ ?_ ?_) (Ev.fd_mk KX G ?_ ?_ ?_ ?_) (Ev.fd_mk KX G ?_ ?_ ?_ ?_) (Ev.fd_mk KX G ?_ ?_ ?_ ?_) (Ev.fd_mk KX G ?_ ?_ ?_ ?_) (Ev.fd_mk KX G ?_ ?_ ?_ ?_) (Ev.fd_mk KX G ?_ ?_ ?_ ?_) (Ev.fd_mk KX G ?_ ?_ ?_ ?_) (Ev.fd_mk KX G ?_ ?_ ?_ ?_) (Ev.fd_mk KX G ?_ ?_ ?_ ?_) (Ev.fd_mk KX G ?_ ?_ ?_ ?_) (Ev.fd_mk KX G ?_ ?_ ?_ ?_) (Ev.fd_mk KX G ?_ ?_ ?_ ?_) (Ev.fd_mk KX G ?_ ?_ ?_ ?_) (Ev.fd_mk KX G ?_ ?_ ?_ ?_) (Ev.fd_mk KX G ?_ ?_ ?_ ?_) (Ev.fd_mk KX G ?_ ?_ ?_ ?_) (Ev.fd_mk KX G ?_ ?_ ?_ ?_) (Ev.fd_mk KX G ?_ ?_ ?_ ?_) (Ev.fd_mk KX G ?_ ?_ ?_ ?_) (Ev.fd_mk KX G ?_ ?_ ?_ ?_) (Ev.fd_mk KX G ?_ ?_ ?_ ?_) (Ev.fd_mk KX G ?_ ?_ ?_ ?_) (Ev.fd_mk KX G ?_ ?_ ?_ ?_) (Ev.fd_mk KX G ?_ ?_ ?_ ?_) (Ev.fd_mk KX G ?_ ?_ ?_ ?_) (Ev.fd_mk KX G ?_ ?_ ?_ ?_) (Ev.fd_mk KX G ?_ ?_ ?_ ?_) (Ev.fd_mk KX G ?_ ?_ ?_ ?_) (Ev.fd_mk KX G ?_ ?_ ?_ ?_) (Ev.fd_mk KX G ?_ ?_ ?_ ?_) (Ev.fd_mk KX G ?_ ?_ ?_ ?_) (Ev.fd_mk KX G ?_ ?_ ?_ ?_) (Ev.fd_mk KX G ?_ ?_ ?_ ?_) (Ev.fd_mk KX G ?_ ?_ ?_ ?_) (Ev.fd_mk KX G ?_ ?_ ?_ ?_) (Ev.fd_mk KX G ?_ ?_ ?_ ?_) (Ev.fd_mk KX G ?_ ?_ ?_ ?_) (Ev.fd_mk KX G ?_ ?_ ?_ ?_) (Ev.fd_mk KX G ?_ ?_ ?_ ?_) (Ev.fd_mk KX G ?_ ?_ ?_ ?_) (Ev.fd_mk KX G ?_ ?_ ?_ ?_) (Ev.fd_mk KX G ?_ ?_ ?_ ?_) (Ev.fd_mk KX G ?_ ?_ ?_ ?_) (Ev.md_mk ?_ ?_ ?_ ?_ ?_) (Ev.md_mk ?_ ?_ ?_ ?_ ?_) (Ev.md_mk ?_ ?_ ?_ ?_ ?_) (Ev.md_mk ?_ ?_ ?_ ?_ ?_) (Ev.md_mk ?_ ?_ ?_ ?_ ?_) (Ev.md_mk ?_ ?_ ?_ ?_ ?_) (Ev.md_mk ?_ ?_ ?_ ?_ ?_) (Ev.md_mk ?_ ?_ ?_ ?_ ?_) (Ev.md_mk ?_ ?_ ?_ ?_ ?_) (Ev.md_mk ?_ ?_ ?_ ?_ ?_) (Ev.md_mk ?_ ?_ ?_ ?_ ?_) (Ev.md_mk ?_ ?_ ?_ ?_ ?_) (Ev.md_mk ?_ ?_ ?_ ?_ ?_) (Ev.md_mk ?_ ?_ ?_ ?_ ?_) (Ev.md_mk ?_ ?_ ?_ ?_ ?_) ?_ ?_ ?_ ?_ ?_ ?_ ?_ ?_ ?h1 ?aW ?aG ?aS ?eP ?xP ?_ ?_ ?_ ?_ ?_ ?h2 ?_ ?_ ?_ ?_ ?_ ?_ ?_ ?_ ?_ ?_ ?_ ?_ ?_ ?_ ?_ ?_ ?_ ?_ ?_ ?_ ?_ ?_ ?_ ?_ ?_ ?_ ?_ ?_ ?_ ?_ ?_ ?_ ?_ ?_ ?_ ?_ ?_ ?_ ?_ ?_ ?_ ?_ ?_ ?_ ?_ ?_ ?_ ?_ ?_ ?_ ?_ ?_ (Ev.rules_at ?rm ?rs ?rl ?re ?_ ?_ ?_ ?_ ?_ ?_ ?_ ?_ ?_ ?_ ?_ ?_ ?_ ?_ ?_ ?_ ?_)
  (case aW=>k_is);(case aG=>k_is);(case aS=>k_is);(case eP=>k_is)
  any_goals k_is
  (case h1=>kernel_rfl);(case xP=>k_exc);(case h2=>kernel_rfl)
  case' rm=>refine' PySem.W.mg_of KX G ?rmn
  (first|(case rmn=>k_is)|(case rm=>k_is))
  (try (case rl=>k_is))
  (case rs=>rfl)
  (case re=>rfl)
  any_goals k_is

import PyProof.Rows.All
import Wide.All
import OpenK.AllK
import Wide.FinOn
import Lean
import PyProof.EqAt
import PyProof.EqKinds
import PyProof.TupleCall
import PyProof.FitsReplace
import KE.KLam
import KE.KSortTup
import PySem.Challenge.RW_evenpieces_k30_what_turns_give
set_option Elab.async false
set_option linter.all false
abbrev Xa:=List (PySem.Str × Int)
abbrev Xb:=List (PySem.Str × PySem.Str)
set_option maxRecDepth 100000
abbrev F__:=PySem.W.Frag
theorem aa':type_of% @List.length_map:=@List.length_map
theorem ab':type_of% @List.getElem?_eq_some_iff:=@List.getElem?_eq_some_iff
theorem ac':type_of% @List.getElem?_eq_getElem:=@List.getElem?_eq_getElem
theorem ad':type_of% @List.mem_map:=@List.mem_map
theorem ae':type_of% @List.mem_of_getElem?:=@List.mem_of_getElem?
theorem af':type_of% @Nat.le_refl:=@Nat.le_refl
theorem ag':type_of% @List.mem_cons_of_mem:=@List.mem_cons_of_mem
theorem ah':type_of% @List.mem_cons:=@List.mem_cons
theorem ai':type_of% @List.size_toArray:=@List.size_toArray
theorem aj':type_of% @List.mem_cons_self:=@List.mem_cons_self
theorem ak':type_of% @List.length_take:=@List.length_take
theorem al':type_of% @List.getElem?_map:=@List.getElem?_map
theorem am':type_of% @List.take_length:=@List.take_length
theorem an':type_of% @List.map_append:=@List.map_append
theorem ao':type_of% @List.map_map:=@List.map_map
theorem ap':type_of% @List.length_append:=@List.length_append
theorem aq':type_of% @Bool.false_ne_true:=@Bool.false_ne_true
theorem ar':type_of% @List.map_cons:=@List.map_cons
theorem au':type_of% @List.mem_append:=@List.mem_append
theorem av':type_of% @Nat.ne_of_lt:=@Nat.ne_of_lt
theorem aw':type_of% @List.take_add_one:=@List.take_add_one
theorem ax':type_of% @Nat.lt_of_lt_of_le:=@Nat.lt_of_lt_of_le
theorem ay':type_of% @List.nodup_iff_pairwise_ne:=@List.nodup_iff_pairwise_ne
theorem az':type_of% @List.getElem_mem:=@List.getElem_mem
theorem aA':type_of% @List.mem_append_right:=@List.mem_append_right
theorem aB':type_of% @List.mem_singleton:=@List.mem_singleton
theorem aC':type_of% @List.length_cons:=@List.length_cons
theorem aD':type_of% @List.getElem_of_mem:=@List.getElem_of_mem
theorem aE':type_of% @Nat.zero_le:=@Nat.zero_le
theorem aF':type_of% @List.map_congr_left:=@List.map_congr_left
theorem aG':type_of% @Int.eq_ofNat_of_zero_le:=@Int.eq_ofNat_of_zero_le
theorem aH':type_of% @List.pairwise_map:=@List.pairwise_map
theorem aI':type_of% @List.getElem?_append_right:=@List.getElem?_append_right
theorem aJ':type_of% @List.append_nil:=@List.append_nil
theorem aK':type_of% @List.length_replicate:=@List.length_replicate
theorem aL':type_of% @Array.length_toList:=@Array.length_toList
theorem aM':type_of% @List.getElem?_append_left:=@List.getElem?_append_left
theorem aN':type_of% @List.mem_filterMap:=@List.mem_filterMap
theorem aO':type_of% @List.pairwise_cons:=@List.pairwise_cons
theorem aP':type_of% @List.lookup_cons:=@List.lookup_cons
theorem aQ':type_of% @List.take_of_length_le:=@List.take_of_length_le
theorem aR':type_of% @List.nodup_cons:=@List.nodup_cons
theorem aS':type_of% @Bool.and_false:=@Bool.and_false
theorem aT':type_of% @Bool.false_eq_true:=@Bool.false_eq_true
theorem aU':type_of% @Int.emod_lt_of_pos:=@Int.emod_lt_of_pos
theorem aV':type_of% @List.not_mem_nil:=@List.not_mem_nil
theorem aW':type_of% @Nat.le_trans:=@Nat.le_trans
theorem aX':type_of% @Int.emod_nonneg:=@Int.emod_nonneg
theorem aY':type_of% @Bool.and_eq_true:=@Bool.and_eq_true
theorem aZ':type_of% @Bool.false_and:=@Bool.false_and
theorem a0':type_of% @List.mem_filter:=@List.mem_filter
theorem a1':type_of% @List.length_nil:=@List.length_nil
theorem a2':type_of% @Nat.lt_irrefl:=@Nat.lt_irrefl
namespace L2
open PySem PySem.Spec PyProof.Rows
abbrev Key:=Sum Int Str
def ch':Key->Value->Bool
 |.inl k,v=>Value.isInt k v
 |.inr x,v=>Value.isStrOf x v
def keyH(w:World):Key->Int
 |.inl k=>hashInt k
 |.inr x=>hashStr w x
theorem ay_:∀{k:Key} {v:Value},ch' k v=true->(∃i t,k=Sum.inl i/\v=Value.int i t)∨(∃x t,k=Sum.inr x/\v=Value.str x t)
 |.inl i,v,h=>by
  obtain⟨t,e⟩:=Value.isInt_shape (k:=i) (v:=v) h;exact .inl ⟨i,t,rfl,e⟩
 |.inr x,v,h=>by
  obtain⟨t,e⟩:=Value.isStrOf_shape (x:=x) (v:=v) h;exact .inr ⟨x,t,rfl,e⟩
theorem fD_(i:Int)(t:Tok):ch' (.inl i) (.int i t)=true:=by simp[ch',Value.isInt]
theorem fE_(x:Str)(t:Tok):ch' (.inr x) (.str x t)=true:=by simp[ch',Value.isStrOf]
theorem jI_(a b:Int):decide ((Sum.inl a:Key)=Sum.inl b)=(a == b):=by
 by_cases e:a=b
 ·subst e;simp
 ·have h:¬(Sum.inl a:Key)=Sum.inl b:=fun q=>e (Sum.inl.inj q);rw[decide_eq_false h];exact (beq_eq_false_iff_ne.mpr e).symm
theorem jJ_(a b:Str):decide ((Sum.inr a:Key)=Sum.inr b)=decide (a=b):=by
 by_cases e:a=b
 ·subst e;simp
 ·have h:¬(Sum.inr a:Key)=Sum.inr b:=fun q=>e (Sum.inr.inj q);rw[decide_eq_false h,decide_eq_false e]
theorem k1_(a:Int)(b:Str):decide ((Sum.inl a:Key)=Sum.inr b)=false:=decide_eq_false (fun q=>nomatch q)
theorem jE_(a:Str)(b:Int):decide ((Sum.inr a:Key)=Sum.inl b)=false:=decide_eq_false (fun q=>nomatch q)
def a7'(prog:Program)(w:World):PySem.KeyKind prog w Key where
 is:=ch'
 hash:=keyH w
 inj:=fun v a b ha hb=>by
  rcases ay_ ha with⟨i,t,rfl,rfl⟩|⟨x,t,rfl,rfl⟩
  ·rcases ay_ hb with⟨j,u,rfl,e⟩|⟨y,u,rfl,e⟩
   ·injection e with e1 _;rw[e1]
   ·exact nomatch e
  ·rcases ay_ hb with⟨j,u,rfl,e⟩|⟨y,u,rfl,e⟩
   ·exact nomatch e
   ·injection e with e1 _;rw[e1]
 byValue:=fun k v h=>by
  rcases ay_ h with⟨i,t,rfl,rfl⟩|⟨x,t,rfl,rfl⟩<;>rfl
 pyHash:=fun hv h=>by
  rcases ay_ hv with⟨i,t,rfl,rfl⟩|⟨x,t,rfl,rfl⟩
  ·exact wpAny_pyHash_int h
  ·exact wpAny_pyHash_str h
 eqBool:=fun hu hv h=>by
  rcases ay_ hu with⟨i,t,rfl,rfl⟩|⟨x,t,rfl,rfl⟩
  ·rcases ay_ hv with⟨j,u,rfl,rfl⟩|⟨y,u,rfl,rfl⟩
   ·rw[jI_] at h;exact wpAny_eqBool_int h
   ·rw[k1_] at h;exact SeqAt.EqAt.int_str i t y u _ _ _ _ h
  ·rcases ay_ hv with⟨j,u,rfl,rfl⟩|⟨y,u,rfl,rfl⟩
   ·rw[jE_] at h;exact SeqAt.EqAt.str_int x t j u _ _ _ _ h
   ·rw[jJ_] at h;exact wpAny_eqBool_str h
 «strs»:=fun k x t v h=>by
  rcases ay_ h with⟨i,u,rfl,e⟩|⟨y,u,rfl,e⟩
  ·exact nomatch e
  ·injection e with e1 _
   subst e1;cases v<;>rfl
theorem ec_(prog:Program)(w:World)(i:Int)(t:Tok):(a7' prog w).is (.inl i) (.int i t)=true:=fD_ i t
theorem bL_(prog:Program)(w:World)(x:Str)(t:Tok):(a7' prog w).is (.inr x) (.str x t)=true:=fE_ x t
end L2
namespace L2
open PySem PySem.Spec PyProof.Rows
inductive V where
 |non|bl (b:Bool)|int (i:Int)|str (x:Str)|byt (b:Array UInt8)|flt (b:UInt64)|ref (a:Addr)|ty (n:String)
 deriving DecidableEq
def RelV:V->Value->Prop
 |.non,u=>u=Value.none
 |.bl b,u=>u=Value.bool b
 |.int i,u=>∃t,u=Value.int i t
 |.str x,u=>∃t,u=Value.str x t
 |.byt b,u=>∃t,u=Value.bytes b t
 |.flt b,u=>∃t,u=Value.float b t
 |.ref a,u=>u=Value.ref a
 |.ty n,u=>u=Value.type n
abbrev Vals:List V->List Value->Prop:=Paired RelV
theorem Vals.length{xs:List V}{us:List Value}(r:Vals xs us):xs.length=us.length:=Paired.length r
theorem Vals.get:∀{xs:List V} {us:List Value} {i:Nat} {x:V},Vals xs us->xs[i]? = some x->∃u,us[i]? = some u/\RelV x u
 |_,_,_,_,.nil,e=>by simp at e
 |_,_,0,_,.cons r _,e=>by simp at e;subst e;exact⟨_,rfl,r⟩
 |_,_,i+1,x,.cons _ t,e=>by
  obtain⟨u,h1,h2⟩:=Vals.get (i:=i) (x:=x) t (by simpa using e);exact⟨u,by simpa using h1,h2⟩
theorem Vals.set{x:V}{u:Value}(r:RelV x u):∀{xs:List V} {us:List Value} (i:Nat),Vals xs us->Vals (xs.set i x) (us.set i u)
 |_,_,_,.nil=>.nil
 |_,_,0,.cons _ t=>.cons r t
 |_,_,i+1,.cons q t=>.cons q (Vals.set r i t)
theorem Vals.append:∀{xs ys:List V} {us ws:List Value},Vals xs us->Vals ys ws->Vals (xs++ys) (us++ws)
 |_,_,_,_,.nil,s=>s
 |_,_,_,_,.cons r t,s=>.cons r (Vals.append t s)
theorem Vals.take:∀{xs:List V} {us:List Value} (n:Nat),Vals xs us->Vals (xs.take n) (us.take n)
 |_,_,0,_=>.nil
 |_,_,_+1,.nil=>.nil
 |_,_,n+1,.cons r t=>.cons r (Vals.take n t)
theorem Vals.drop:∀{xs:List V} {us:List Value} (n:Nat),Vals xs us->Vals (xs.drop n) (us.drop n)
 |_,_,0,r=>r
 |_,_,_+1,.nil=>.nil
 |_,_,n+1,.cons _ t=>Vals.drop n t
def RelO:Option V->Option Value->Prop
 |some v,some u=>RelV v u
 |none,none=>True
 |_,_=>False
def KV{κ:Type}:List (κ × V)->List (κ × Value)->Prop:=Paired fun(p:κ × V) (q:κ × Value)=>p.1=q.1/\RelV p.2 q.2
def kV:Key->V
 |.inl i=>.int i
 |.inr x=>.str x
inductive HO where
  |lst (xs:List V)
  |tup (xs:List V)
  |dK (kvs:List (Key × V))|dT (kvs:List (List Key × V))
  |set (S:Int->Bool) (n:Nat)
  |ins (C dx:Addr) (fs:List (Str × V))
  |own (x:Addr)
  |xd (fs:List (Str × V))
  |met (f x:Addr)
  |rng (lo hi:Int)
  |frz (o:Obj) (u:HO)
  |tbl (ps:Array Value)
  |ext (φ:Heap->Prop)
abbrev Hp:=Addr->Option HO
def upd(H:Hp)(a:Addr)(o:HO):Hp:=fun b=>if b=a then some o else H b
theorem a1_{H:Hp}{a:Addr}{o:HO}:upd H a o a=some o:=by unfold upd;rw[if_pos rfl]
theorem a4_{H:Hp}{a b:Addr}{o:HO}(h:b≠a):upd H a o b=H b:=by unfold upd;rw[if_neg h]
theorem j3_{H:Hp}{a:Addr}{o u:HO}:upd (upd H a o) a u=upd H a u:=by
 funext b;unfold upd;split<;>rfl
theorem ax_{H:Hp}{a b:Addr}{o u:HO}(h:H a=some o)(h':H b=some u)(d:o≠u):a≠b:=by
 intro e;subst e;rw[h] at h';exact d (Option.some.inj h')
theorem a6_{H:Hp}{a b:Addr}{o:HO}(h:H a=some o)(h':H b=none):a≠b:=by
 intro e;subst e;rw[h] at h';cases h'
section
variable(P:Program)(w:World)
def bh'(H:Hp)(h:Heap)(a:Addr):HO->Prop
 |.lst xs=>xs.length<=sizeLine/\∃(its:List Value) (n:Nat),Vals xs its/\h.get? a=some { cls:=.type "list",data:=.seq its.toArray n }
 |.tup xs=>xs.length<=sizeLine/\∃its:List Value,Vals xs its/\IsTup h a its.toArray/\∃o,h.get? a=some o/\o.dict=none
 |.dK kvs=>kvs.length<=sizeLine/\(a == sysModules)=false/\∃vs,KV kvs vs/\h.DictOf (a7' P w) a vs
 |.dT kvs=>kvs.length<=sizeLine/\(a == sysModules)=false/\∃xs:List (List Key × Addr × Value),
   Paired (fun(p:List Key × V) (q:List Key × Addr × Value)=>p.1=q.1/\H q.2.1=some (.tup (p.1.map kV))/\RelV p.2 q.2.2) kvs xs /\
   ∃o es ep,h.get? a=some o/\o.ExactDict/\o.data=.dict es ep/\es.toList=xs.map (entryOfKey (tupleKind (a7' P w)))/\(xs.map (·.1)).Nodup
 |.set S n=>h.SetOf (intKind P w) a S n
 |.ins C dx fs=>H dx=some (.own a)/\fs.length<=1000/\dx≠a/\h.get? a=some (PySem.W.instObj C dx) /\
   ∃mA,h.Ns1 dx mA/\(∀f,RelO (fs.lookup f) (mA f))/\PySem.Within mA (fs.map (·.1))
 |.own _=>∃o,h.get? a=some o
 |.xd fs=>∃mA,h.Ns1 a mA/\∀f,RelO (fs.lookup f) (mA f)
 |.rng lo hi=>∃t u v,h.get? a=some { cls:=.type "range",data:=.fields #[.int lo t,.int hi u,.int 1 v] }
 |.frz o u=>h.get? a=some o/\bh' H h a u
 |.tbl ps=>h.get? a=some { cls:=.none,data:=.fields ps }
 |.met f x=>h.get? a=some (PySem.W.methodObj (.ref f) (.ref x))
 |.ext φ=>φ h/\(∃o,h.get? a=some o)/\∀h1 h2:Heap,φ h1->(∀o,h1.get? a=some o->h2.get? a=some o)->φ h2
def HOk(H:Hp)(h:Heap):Prop:=∀a o,H a=some o->bh' P w H h a o
end
section
variable{P:Program}{w:World}{H H':Hp}{h h':Heap}{a:Addr}{o:HO}
theorem bh'.lt(x:bh' P w H h a o):a<h.objs.size:=by
 cases o with
 |lst xs=>obtain⟨_,_,_,_,e⟩:=x;exact Heap.lt_size e
 |tup xs=>obtain⟨_,_,_,p,_⟩:=x;exact p.lt
 |dK kvs=>obtain⟨_,_,_,_,o,_,_,e,_⟩:=x;exact Heap.lt_size e
 |dT kvs=>obtain⟨_,_,_,_,o,_,_,e,_⟩:=x;exact Heap.lt_size e
 |set S n=>obtain⟨o,_,_,_,e,_⟩:=x;exact Heap.lt_size e
 |ins C dx fs=>obtain⟨_,_,_,e,_⟩:=x;exact Heap.lt_size e
 |own y=>obtain⟨_,e⟩:=x;exact Heap.lt_size e
 |xd fs=>obtain⟨_,⟨_,_,_,e,_⟩,_⟩:=x;exact Heap.lt_size e
 |rng lo hi=>obtain⟨_,_,_,e⟩:=x;exact Heap.lt_size e
 |frz ob u=>obtain⟨e,_⟩:=x;exact Heap.lt_size e
 |tbl ps=>exact Heap.lt_size (show h.get? a=some _ from x)
 |met f y=>exact Heap.lt_size (show h.get? a=some _ from x)
 |ext φ=>obtain⟨_,⟨_,e⟩,_⟩:=x;exact Heap.lt_size e
theorem Paired.mapP{α β:Type}{F G:α->β->Prop}:∀{l₁:List α} {l₂:List β},Paired F l₁ l₂->(∀a b,F a b->G a b)->Paired G l₁ l₂
 |_,_,.nil,_=>.nil
 |_,_,.cons r t,f=>.cons (f _ _ r) (Paired.mapP t f)
theorem bh'.stay(x:bh' P w H h a o)(k:∀b u,(b=a∨H b=some (.own a))->h.get? b=some u->h'.get? b=some u)
  (ho:∀b,H b=some (.own a)->H' b=some (.own a)) (ht:∀b xs,H b=some (.tup xs)->H' b=some (.tup xs)):bh' P w H' h' a o:=by
 induction o with
 |lst xs=>obtain⟨z,its,n,r,e⟩:=x;exact⟨z,its,n,r,k _ _ (.inl rfl) e⟩
 |tup xs=>obtain⟨z,its,r,⟨ob,e,c⟩,o2,e2,c2⟩:=x;exact⟨z,its,r,⟨ob,k _ _ (.inl rfl) e,c⟩,o2,k _ _ (.inl rfl) e2,c2⟩
 |dK kvs=>obtain⟨z,y,vs,r,ob,es,ep,e,c⟩:=x;exact⟨z,y,vs,r,ob,es,ep,k _ _ (.inl rfl) e,c⟩
 |dT kvs=>
  obtain⟨z,y,xs,r,ob,es,ep,e,c⟩:=x;exact⟨z,y,xs,Paired.mapP r fun p q z=>⟨z.1,ht _ _ z.2.1,z.2.2⟩,ob,es,ep,k _ _ (.inl rfl) e,c⟩
 |set S n=>obtain⟨ob,es,ep,t,e,c⟩:=x;exact⟨ob,es,ep,t,k _ _ (.inl rfl) e,c⟩
 |ins C dx fs=>
  obtain⟨d,z,ne,e,mA,⟨od,es,ep,e2,c⟩,r⟩:=x;exact⟨ho _ d,z,ne,k _ _ (.inl rfl) e,mA,⟨od,es,ep,k _ _ (.inr d) e2,c⟩,r⟩
 |own y=>obtain⟨ob,e⟩:=x;exact⟨ob,k _ _ (.inl rfl) e⟩
 |xd fs=>obtain⟨mA,⟨od,es,ep,e,c⟩,r⟩:=x;exact⟨mA,⟨od,es,ep,k _ _ (.inl rfl) e,c⟩,r⟩
 |rng lo hi=>obtain⟨t,u,v,e⟩:=x;exact⟨t,u,v,k _ _ (.inl rfl) e⟩
 |frz ob u ih=>obtain⟨e,q⟩:=x;exact⟨k _ _ (.inl rfl) e,ih q⟩
 |tbl ps=>
  have e:h.get? a=some { cls:=.none,data:=.fields ps }:=x;show h'.get? a=some { cls:=.none,data:=.fields ps };exact k a _ (.inl rfl) e
 |met f y=>
  have e:h.get? a=some (PySem.W.methodObj (.ref f) (.ref y)):=x;show h'.get? a=some (PySem.W.methodObj (.ref f) (.ref y));exact k a _ (.inl rfl) e
 |ext φ=>obtain⟨p,⟨o,e⟩,st⟩:=x;exact⟨st _ _ p fun o q=>k _ _ (.inl rfl) q,⟨o,k _ _ (.inl rfl) e⟩,st⟩
theorem HOk.lt(x:HOk P w H h)(e:H a=some o):a<h.objs.size:=(x a o e).lt
theorem HOk.fresh(x:HOk P w H h)(e:h.objs.size<=a):H a=none:=by
 cases q:H a with
 |none=>rfl
 |some u=>exact absurd (ax' (x.lt q) e) (a2' _)
theorem HOk.kept(x:HOk P w H h)(k:∀b u,h.get? b=some u->h'.get? b=some u):HOk P w H h':=fun a o e=>
 (x a o e).stay (fun b u _ q=>k b u q) (fun _ q=>q) fun _ _ q=>q
theorem HOk.laid(x:HOk P w H h)(k:∀b u,h.get? b=some u->h'.get? b=some u)(hp:h.objs.size<=a)(new:bh' P w (upd H a o) h' a o):HOk P w (upd H a o) h':=fun b u e=>by
 have hn:=x.fresh hp;by_cases hb:b=a
 ·subst hb;rw[a1_] at e;cases e;exact new
 ·rw[a4_ hb] at e;exact (x b u e).stay (fun c v _ q=>k c v q) (fun c q=>by rw[a4_ (a6_ q hn)];exact q) fun c xs q=>by rw[a4_ (a6_ q hn)];exact q
end
def Rd(H:Hp)(a:Addr)(u:HO):Prop:=H a=some u∨∃o,H a=some (.frz o u)
theorem Rd.ok{P:Program}{w:World}{H:Hp}{h:Heap}{a:Addr}{u:HO}(r:Rd H a u)(x:HOk P w H h):bh' P w H h a u:=by
 rcases r with r|⟨o,r⟩
 ·exact x a u r
 ·obtain⟨_,q⟩:=x a _ r;exact q
def Mut:Option HO->Prop
 |some (.lst _)=>True
 |some (.dK _)=>True
 |some (.dT _)=>True
 |some (.set _ _)=>True
 |some (.ins _ _ _)=>True
 |some (.ext _)=>True
 |_=>False
section
variable{P:Program}{w:World}{H:Hp}{h h':Heap}{x e:Addr}{o':HO}
theorem HOk.write(ok:HOk P w H h)(mu:Mut (H x))(he:e=x∨H e=some (.own x))(k:∀b u,b≠e->h.get? b=some u->h'.get? b=some u)(heo:∃u,h'.get? e=some u)
  (new:bh' P w (upd H x o') h' x o'):HOk P w (upd H x o') h':=fun b u q=>by
 have nown:∀c y,H c=some (.own y)->c≠x:=fun c y r z=>by subst z;rw[r] at mu;exact mu
 have ntup:∀c xs,H c=some (.tup xs)->c≠x:=fun c xs r z=>by subst z;rw[r] at mu;exact mu
 by_cases hb:b=x
 ·subst hb;rw[a1_] at q;cases q;exact new
 ·rw[a4_ hb] at q;by_cases hbe:b=e
  ·have q':H b=some (.own x):=by
    rcases he with z|z
    ·exact absurd (hbe.trans z) hb
    ·rw[hbe];exact z
   rw[q] at q';cases q';obtain⟨v,hv⟩:=heo;exact⟨v,by rw[hbe];exact hv⟩
  ·refine (ok b u q).stay (fun c v hc r=>k c v ?_ r) (fun c r=>by rw[a4_ (nown c b r)];exact r) fun c xs r=>by rw[a4_ (ntup c xs r)];exact r
   rcases hc with rfl|hc
   ·exact hbe
   ·rintro rfl;rcases he with z|z
    ·exact nown c b hc z
    ·rw[hc] at z;cases z;exact hb rfl
end
structure Un (fs ex:List Addr) (H H':Hp) (h h':Heap):Prop where
 keep:∀b o,h.get? b=some o->H b=none->b∉fs->b∉ex->h'.get? b=some o
 slot:∀b o,h.get? b=some o->H b=none->b∈fs->b∉ex->∃sl,h'.get? b=some { o with slots:=sl }
 free:∀b o,h.get? b=some o->H b=none->b∉ex->H' b=none
 there:∀b o,h.get? b=some o->b∉ex->∃o',h'.get? b=some o'
 tups:∀b xs,H b=some (.tup xs)->H' b=some (.tup xs)
 frzs:∀b o u,H b=some (.frz o u)->H' b=some (.frz o u)
 tbls:∀b ps,H b=some (.tbl ps)->∃more,H' b=some (.tbl (ps++more))
section
variable{fs fs' ex ex':List Addr}{H H1 H2:Hp}{h h1 h2 h':Heap}{a x e:Addr}{o:HO}
theorem Un.any(u:Un fs ex H H1 h h1){b:Addr}{ob:Obj}(q:h.get? b=some ob)(n:H b=none)(hx:b∉ex):∃sl,h1.get? b=some { ob with slots:=sl }:=by
 by_cases hb:b∈fs
 ·exact u.slot b ob q n hb hx
 ·exact⟨ob.slots,u.keep b ob q n hb hx⟩
theorem Un.kept(k:∀b u,h.get? b=some u->h'.get? b=some u):Un fs ex H H h h':=
 ⟨fun b ob q _ _ _=>k b ob q,fun b ob q _ _ _=>⟨ob.slots,k b ob q⟩,fun _ _ _ n _=>n,fun b ob q _=>⟨ob,k b ob q⟩,fun _ _ q=>q,fun _ _ _ q=>q,fun _ ps q=>⟨#[],by rw[q];simp⟩⟩
theorem Un.refl:Un fs ex H H h h:=Un.kept fun _ _ q=>q
theorem Un.laid(k:∀b u,h.get? b=some u->h'.get? b=some u)(hp:h.objs.size<=a)(hn:H a=none):Un fs ex H (upd H a o) h h' where
 keep:=fun b u q _ _ _=>k b u q
 slot:=fun b u q _ _ _=>⟨u.slots,k b u q⟩
 free:=fun b u q n _=>by rw[a4_ (av' (ax' (Heap.lt_size q) hp))];exact n
 there:=fun b u q _=>⟨u,k b u q⟩
 tups:=fun b xs q=>by rw[a4_ (a6_ q hn)];exact q
 frzs:=fun b u xs q=>by rw[a4_ (a6_ q hn)];exact q
 tbls:=fun b ps q=>⟨#[],by rw[a4_ (a6_ q hn),q];simp⟩
theorem Un.write(mu:Mut (H x))(he:e=x∨H e=some (.own x))(k:∀b u,b≠e->h.get? b=some u->h'.get? b=some u)(heo:∃u,h'.get? e=some u):Un fs ex H (upd H x o) h h':=by
 have hx:∀b,H b=none->b≠x:=fun b n z=>by subst z;rw[n] at mu;exact mu
 have hb:∀b,H b=none->b≠e:=fun b n z=>by
  subst z;rcases he with r|r
  ·exact hx b n r
  ·rw[n] at r;cases r
 have hm:∀b u,H b=some u->¬Mut (some u)->b≠x:=fun b u q nm z=>by subst z;rw[q] at mu;exact nm mu
 refine⟨fun b u q n _ _=>k b u (hb b n) q,fun b u q n _ _=>⟨u.slots,k b u (hb b n) q⟩,fun b u q n _=>by rw[a4_ (hx b n)];exact n,fun b u q _=>?_,
  fun b xs q=>by rw[a4_ (hm b _ q fun z=>z)];exact q,fun b u xs q=>by rw[a4_ (hm b _ q fun z=>z)];exact q,fun b ps q=>⟨#[],by rw[a4_ (hm b _ q fun z=>z),q];simp⟩⟩
 by_cases hbe:b=e
 ·subst hbe;exact heo
 ·exact⟨u,k b u hbe q⟩
end
def trk(h:Heap)(H:Hp):List Addr:=(List.range h.objs.size).filter fun a=>(H a).isSome
def hidT(h:Heap)(H:Hp):Heap:=PySem.W.hideAll h (trk h H)
theorem gB_(h:Heap)(H:Hp):(hidT h H).objs.size=h.objs.size:=PySem.W.hideAll_size _ _
theorem h5_{h:Heap}{H:Hp}{b:Addr}{o:Obj}(e:h.get? b=some o)(n:H b=none):(hidT h H).get? b=some o:=
 PySem.W.hideAll_get _ e fun hm=>by
  have q:(H b).isSome=true:=(a0'.mp hm).2;rw[n] at q;simp at q
theorem iI_{h:Heap}{H:Hp}{b:Addr}{o:Obj}(e:(hidT h H).get? b=some o):h.get? b=some o/\H b=none:=by
 have e':h.get? b=some o:=PySem.W.of_hideAll (trk h H) e;refine⟨e',?_⟩;cases q:H b with
 |none=>rfl
 |some x=>
  have hm:b∈trk h H:=a0'.mpr ⟨List.mem_range.mpr (Heap.lt_size e'),by simp[q]⟩;have z:(hidT h H).get? b=none:=PySem.W.hideAll_none (trk h H) hm;rw[z] at e;cases e
end L2
namespace L2
open PySem PySem.Spec PyProof.Rows
structure Mod (K:F__) (mg:Str->Option Value) (base:Heap):Prop where
 kin:K.In base
 glob:base.Ns mainGlobals mg
 blt:∃mb,base.Ns builtinsNs mb/\∀x:Str,x≠"__name__"->mb x=bootBuiltins x
 nolimit:base.NoLimit
structure Cx where
 prog:Program
 w:World
 K:F__
 mg:Str->Option Value
 base:Heap
 A:Around
 N:List Str
 s₀:Shared
 H₀:Hp
 env:Env
 outer:List Env
 stack:List Env
 ex:List Addr
 fn:Str->Bool
 calm:Bool
 pn:List (Addr × Obj)
 xe:Value->Shared->Prop
def frs(l:List Env):List Addr:=l.filterMap (·.frame)
abbrev Cx.fs(X:Cx):List Addr:=frs X.outer
def Vis(sc:Scope)(x:Str):Prop:=sc.names.lookup x=some .local∨sc.names.lookup x=some .cell∨sc.names.lookup x=some .free
def Loc(sc:Scope)(x:Str):Prop:=sc.names.lookup x=some .local∨sc.names.lookup x=some .cell
def Look(env:Env)(h:Heap)(m:Str->Option Value)(x:Str)(u:Value):Prop:=
 (env.kindOf x=some .local/\m x=some u)∨((env.kindOf x=some .cell∨env.kindOf x=some .free)/\∃c,env.cells.lookup x=some c/\h.IsCell c (some u))
structure Cx.Ok (X:Cx):Prop where
 mod:Mod X.K X.mg X.base
 kind:X.env.scope.kind=.function
 glob:X.env.globals=mainGlobals
 blt:X.env.builtins=builtinsNs
 above:X.s₀.heap.objs.size<=X.env.locals
 inj:∀x y c,X.env.cells.lookup x=some c->X.env.cells.lookup y=some c->x=y
 has:∀x,(X.env.kindOf x=some .cell∨X.env.kindOf x=some .free)->∃c,X.env.cells.lookup x=some c
 cab:∀x c,X.fn x=true->X.env.cells.lookup x=some c->X.s₀.heap.objs.size<=c
 hd:X.calm=true->X.A.handled=none
 frames:X.A.frames=some X.stack
 stk:X.stack=X.outer∨(X.stack=X.env::X.outer/\X.env.frame=some X.env.locals)
 exf:∀b∈X.ex,b≠X.env.locals/\∀x c,X.env.cells.lookup x=some c->c≠b
 bs:∀b o,X.base.get? b=some o->X.s₀.heap.get? b=some o/\X.H₀ b=none
 bsz:X.base.objs.size<=X.s₀.heap.objs.size
 noex:∀b o,X.base.get? b=some o->b∉X.ex
 exfs:∀b∈X.ex,b∉X.fs
 funs:X.s₀.heap.FunFrames X.base X.outer
 frf:∀b∈X.fs,X.H₀ b=none
structure Inv (X:Cx) (pins:List (Addr × Obj)) (σ:List (Option V)) (H:Hp) (s:Shared):Prop where
 ok:X.Ok
 os:s.os=X.s₀.os
 bare:AllBare s.gens
 base:Un X.fs X.ex X.H₀ H X.s₀.heap s.heap
 loc:∃m,s.heap.Ns X.env.locals m/\∀(i:Nat) (x:Str) (v:V),X.N[i]? = some x->σ[i]? = some (some v)->Vis X.env.scope x->∃u,RelV v u/\Look X.env s.heap m x u
 cell:∀x c,X.env.cells.lookup x=some c->∃v,s.heap.IsCell c v
 free:H X.env.locals=none
 freeC:∀x c,X.env.cells.lookup x=some c->H c=none
 pin:∀p∈X.pn++pins,s.heap.get? p.1=some p.2/\H p.1=none/\p.1≠X.env.locals/\p.1∉X.fs/\∀v,p.2.data≠.cell v
 hok:HOk X.prog X.w H s.heap
 len:σ.length=X.N.length
section
variable{X:Cx}{pins:List (Addr × Obj)}{σ:List (Option V)}{H H':Hp}{s:Shared}{h':Heap}
theorem Cx.Ok.nofr(ok:X.Ok){b:Addr}{o:Obj}(e:X.base.get? b=some o):b∉X.fs:=fun hb=>by
 have:=(ok.funs.mem hb).1;rw[e] at this;cases this
theorem Inv.bs(I:Inv X pins σ H s):∀b o,X.base.get? b=some o->s.heap.get? b=some o/\H b=none:=fun b o e=>
 ⟨I.base.keep b o (I.ok.bs b o e).1 (I.ok.bs b o e).2 (I.ok.nofr e) (I.ok.noex b o e),I.base.free b o (I.ok.bs b o e).1 (I.ok.bs b o e).2 (I.ok.noex b o e)⟩
theorem Inv.bk(I:Inv X pins σ H s):∀b o,X.base.get? b=some o->s.heap.get? b=some o:=fun b o e=>(I.bs b o e).1
theorem Inv.mod(I:Inv X pins σ H s):Mod X.K X.mg X.base:=I.ok.mod
theorem Inv.kIn(I:Inv X pins σ H s):X.K.In s.heap:=I.ok.mod.kin.keeps I.bk
theorem Inv.lt(I:Inv X pins σ H s):X.env.locals<s.heap.objs.size:=let ⟨_,hn,_⟩:=I.loc;hn.lt
theorem Inv.sz(I:Inv X pins σ H s):X.s₀.heap.objs.size<=s.heap.objs.size:=aW' I.ok.above (Nat.le_of_lt I.lt)
theorem Inv.nofs(I:Inv X pins σ H s){a:Addr}(h:s.heap.objs.size<=a):a∉X.fs:=fun hb=>by
 obtain⟨_,o,ho,_⟩:=I.ok.funs.mem hb;exact absurd (ax' (Heap.lt_size ho) (aW' I.sz h)) (a2' _)
theorem Inv.cne(I:Inv X pins σ H s):∀x c,X.env.cells.lookup x=some c->c≠X.env.locals:=fun x c e z=>by
 obtain⟨v,o,ho,hd⟩:=I.cell x c e;obtain⟨m,⟨o',es,ep,ho',hd',_⟩,_⟩:=I.loc;rw[z,ho'] at ho;cases ho;rw[hd'] at hd;cases hd
theorem Inv.funs(I:Inv X pins σ H s):s.heap.FunFrames X.base X.outer:=by
 have all:∀(l:List Env),(∀b∈frs l,b∈X.fs)->X.s₀.heap.FunFrames X.base l->s.heap.FunFrames X.base l:=by
  intro l
  induction l with
  |nil=>intro _ _;trivial
  |cons env r ih=>
   intro hs hl;obtain⟨hk,⟨L,o,hf,hn,ho,hd⟩,hr⟩:=hl;have hL:L∈X.fs:=hs L (by unfold frs;rw[List.filterMap_cons,hf];exact aj');obtain⟨sl,e⟩:=I.base.slot L o ho (I.ok.frf L hL) hL fun z=>I.ok.exfs L z hL;exact⟨hk,⟨L,_,hf,hn,e,hd⟩,ih (fun b hb=>hs b (by unfold frs;rw[List.filterMap_cons,hf];exact ag' _ hb)) hr⟩
 exact all X.outer (fun _ hb=>hb) I.ok.funs
theorem Inv.stack(I:Inv X pins σ H s):s.heap.FunFrames X.base X.stack:=by
 rcases I.ok.stk with e|⟨e,hf⟩
 ·rw[e];exact I.funs
 ·rw[e];obtain⟨m,hn,_⟩:=I.loc;refine .cons (by rw[I.ok.kind];decide) hf hn ?_ I.funs;exact Heap.get?_none_of_le (aW' I.ok.bsz I.ok.above)
theorem Inv.stkSub(I:Inv X pins σ H s):∀b∈frs X.stack,b∈X.env.locals::X.fs:=fun b hb=>by
 rcases I.ok.stk with e|⟨e,hf⟩
 ·rw[e] at hb;exact ag' _ hb
 ·rw[e] at hb;unfold frs at hb;rw[List.filterMap_cons,hf] at hb;exact hb
theorem Inv.stkFree(I:Inv X pins σ H s):∀b∈frs X.stack,H b=none:=fun b hb=>by
 rcases ah'.mp (I.stkSub b hb) with e|hb
 ·rw[e];exact I.free
 ·obtain⟨_,o,ho,_⟩:=I.ok.funs.mem hb;exact I.base.free b o ho (I.ok.frf b hb) fun z=>I.ok.exfs b z hb
theorem Inv.step{g':Array GenState}{t':Nat}{d':Drawn}{ch:List Addr}(I:Inv X pins σ H s)
  (hch:∀b∈ch,(b∈X.ex∨X.s₀.heap.objs.size<=b)/\b≠X.env.locals/\(∀x c,X.env.cells.lookup x=some c->c≠b)/\∀p∈X.pn++pins,p.1≠b)
  (keep:∀b o,b≠X.env.locals->b∉X.fs->b∉ch->s.heap.get? b=some o->H b=none->h'.get? b=some o)
  (slot:∀b o,b≠X.env.locals->b∈X.fs->b∉ch->s.heap.get? b=some o->H b=none->∃sl,h'.get? b=some { o with slots:=sl }) (free:∀b o,b∉ch->s.heap.get? b=some o->H b=none->H' b=none)
  (there:∀b o,b∉ch->s.heap.get? b=some o->∃o',h'.get? b=some o')
  (tups:∀b xs,H b=some (.tup xs)->H' b=some (.tup xs)) (frzs:∀b o u,H b=some (.frz o u)->H' b=some (.frz o u)) (tbls:∀b ps,H b=some (.tbl ps)->∃more,H' b=some (.tbl (ps++more)))
  (ns:∀m,s.heap.Ns X.env.locals m->h'.Ns X.env.locals m) (hok:HOk X.prog X.w H' h') (hg:AllBare g') :
  Inv X pins σ H' { s with heap:=h',gens:=g',drawn:=d',toks:=t' }:=by
 have neL:∀b o,X.s₀.heap.get? b=some o->b≠X.env.locals:=fun b o e=>av' (ax' (Heap.lt_size e) I.ok.above)
 have neC:∀b o,X.s₀.heap.get? b=some o->b∉X.ex->b∉ch:=fun b o e hx hb=>by
  rcases (hch b hb).1 with z|z
  ·exact hx z
  ·exact absurd (ax' (Heap.lt_size e) z) (a2' _)
 have cellK:∀x c,X.env.cells.lookup x=some c->∀v,s.heap.IsCell c v->h'.IsCell c v:=fun x c e v ⟨o,ho,hd⟩=>by
  have nch:c∉ch:=fun z=>(hch c z).2.2.1 x c e rfl;by_cases hc:c∈X.fs
  ·obtain⟨sl,q⟩:=slot c o (I.cne x c e) hc nch ho (I.freeC x c e);exact⟨_,q,hd⟩
  ·exact⟨o,keep c o (I.cne x c e) hc nch ho (I.freeC x c e),hd⟩
 refine⟨I.ok,I.os,hg,⟨fun b o e n hb hx=>?_,fun b o e n hb hx=>?_,fun b o e n hx=>?_,fun b o e hx=>?_,fun b xs e=>tups b xs (I.base.tups b xs e),fun b o xs e=>frzs b o xs (I.base.frzs b o xs e),fun b ps e=>?_⟩,?_,fun x c e=>?_,?_,fun x c e=>?_,fun p hp=>?_,hok,I.len⟩
 ·exact keep b o (neL b o e) hb (neC b o e hx) (I.base.keep b o e n hb hx) (I.base.free b o e n hx)
 ·obtain⟨sl,e1⟩:=I.base.slot b o e n hb hx;obtain⟨sl',e2⟩:=slot b _ (neL b o e) hb (neC b o e hx) e1 (I.base.free b o e n hx);exact⟨sl',e2⟩
 ·obtain⟨o',e1⟩:=I.base.there b o e hx;exact free b o' (neC b o e hx) e1 (I.base.free b o e n hx)
 ·obtain⟨o',e1⟩:=I.base.there b o e hx;exact there b o' (neC b o e hx) e1
 ·obtain⟨m1,e1⟩:=I.base.tbls b ps e;obtain⟨m2,e2⟩:=tbls b _ e1;exact⟨m1++m2,by rw[e2,Array.append_assoc]⟩
 ·obtain⟨m,hn,hl⟩:=I.loc;refine⟨m,ns m hn,fun i x v e1 e2 e3=>?_⟩;obtain⟨u,r,l⟩:=hl i x v e1 e2 e3;refine⟨u,r,?_⟩;rcases l with l|⟨k,c,e,z⟩
  ·exact .inl l
  ·exact .inr ⟨k,c,e,cellK x c e _ z⟩
 ·obtain⟨v,z⟩:=I.cell x c e;exact⟨v,cellK x c e v z⟩
 ·obtain⟨m,⟨o,_,_,ho,_⟩,_⟩:=I.loc;exact free _ o (fun z=>(hch _ z).2.1 rfl) ho I.free
 ·obtain⟨v,o,ho,hd⟩:=I.cell x c e;exact free c o (fun z=>(hch c z).2.2.1 x c e rfl) ho (I.freeC x c e)
 ·obtain⟨e,n,ne,nf,d⟩:=I.pin p hp;have nch:p.1∉ch:=fun z=>(hch p.1 z).2.2.2 p hp rfl;exact⟨keep p.1 p.2 ne nf nch e n,free p.1 p.2 nch e n,ne,nf,d⟩
theorem Inv.un{t':Nat}(I:Inv X pins σ H s)(u:Un X.fs [] H H' s.heap h')(hok:HOk X.prog X.w H' h'):Inv X pins σ H' { s with heap:=h',toks:=t' }:=by
 obtain⟨m,⟨o,es,ep,ho,r⟩,_⟩:=id I.loc;obtain⟨sl,hL⟩:=u.any ho I.free (by simp)
 exact I.step (g':=s.gens) (d':=s.drawn) (ch:=[]) (fun _ z=>nomatch z) (fun b o _ hb _ e n=>u.keep b o e n hb (by simp)) (fun b o _ hb _ e n=>u.slot b o e n hb (by simp)) (fun b o _ e n=>u.free b o e n (by simp)) (fun b o _ e=>u.there b o e (by simp)) u.tups u.frzs u.tbls (fun m' hm=>by
  obtain⟨o',es',ep',ho',r'⟩:=hm;rw[ho] at ho';cases ho';exact⟨_,es',ep',hL,r'⟩) hok I.bare
theorem Inv.call{g':Array GenState}{t':Nat}{d':Drawn}{ch:List Addr}(I:Inv X pins σ H s)(u:Un (frs X.stack) ch H H' s.heap h')(hok:HOk X.prog X.w H' h')(hg:AllBare g')
  (hch:∀b∈ch,(b∈X.ex∨X.s₀.heap.objs.size<=b)/\b≠X.env.locals/\(∀x c,X.env.cells.lookup x=some c->c≠b)/\∀p∈X.pn++pins,p.1≠b) :
  Inv X pins σ H' { s with heap:=h',gens:=g',drawn:=d',toks:=t' }:=by
 obtain⟨m,⟨o,es,ep,ho,r⟩,_⟩:=id I.loc;obtain⟨sl,hL⟩:=u.any ho I.free fun z=>(hch _ z).2.1 rfl
 exact I.step (ch:=ch) hch (fun b o hL hb hc e n=>u.keep b o e n (fun z=>(ah'.mp (I.stkSub b z)).elim hL hb) hc) (fun b o _ _ hc e n=>u.any e n hc) (fun b o hc e n=>u.free b o e n hc) (fun b o hc e=>u.there b o e hc) u.tups u.frzs u.tbls (fun m' hm=>by
  obtain⟨o',es',ep',ho',r'⟩:=hm;rw[ho] at ho';cases ho';exact⟨_,es',ep',hL,r'⟩) hok hg
theorem Inv.turned{t':Nat}{it:Addr}(I:Inv X pins σ H s)(k:∀b o,b≠it->s.heap.get? b=some o->h'.get? b=some o)(hn:H it=none)(hL:it≠X.env.locals)
  (h1:it∈X.ex∨X.s₀.heap.objs.size<=it) (h2:∀x c,X.env.cells.lookup x=some c->c≠it) (h3:∀p∈X.pn++pins,p.1≠it):Inv X pins σ H { s with heap:=h',toks:=t' }:=by
 have nit:∀b u,H b=some u->b≠it:=fun b u e z=>by rw[z,hn] at e;cases e
 refine I.step (g':=s.gens) (d':=s.drawn) (ch:=[it]) (fun b hb=>?_) (fun b o _ _ hc e _=>k b o (fun z=>hc (by simp[z])) e) (fun b o _ _ hc e _=>⟨o.slots,k b o (fun z=>hc (by simp[z])) e⟩) (fun _ _ _ _ n=>n)
  (fun b o hc e=>⟨o,k b o (fun z=>hc (by simp[z])) e⟩) (fun _ _ e=>e) (fun _ _ _ e=>e) (fun b ps e=>⟨#[],by rw[e];simp⟩) (fun m hm=>?_) (fun b u e=>?_) I.bare
 ·have e:b=it:=by simpa using hb
  subst e;exact⟨h1,hL,h2,h3⟩
 ·obtain⟨o,es,ep,ho,r⟩:=hm;exact⟨o,es,ep,k _ o (Ne.symm hL) ho,r⟩
 ·refine (I.hok b u e).stay (fun c v hc q=>k c v ?_ q) (fun _ q=>q) fun _ _ q=>q;rcases hc with z|z
  ·rw[z];exact nit b u e
  ·exact nit c _ z
theorem Inv.tok(I:Inv X pins σ H s)(t:Nat):Inv X pins σ H { s with toks:=t }:=I.un (h':=s.heap) (t':=t) Un.refl I.hok
theorem Inv.kept{t':Nat}(I:Inv X pins σ H s)(k:∀b u,s.heap.get? b=some u->h'.get? b=some u):Inv X pins σ H { s with heap:=h',toks:=t' }:=I.un (Un.kept k) (I.hok.kept k)
theorem Inv.laid{a:Addr}{o:HO}{t':Nat}(I:Inv X pins σ H s)(k:∀b u,s.heap.get? b=some u->h'.get? b=some u)(hp:s.heap.objs.size<=a)(new:bh' X.prog X.w (upd H a o) h' a o) :
  Inv X pins σ (upd H a o) { s with heap:=h',toks:=t' }:=I.un (Un.laid k hp (I.hok.fresh hp)) (I.hok.laid k hp new)
theorem Inv.write{x e:Addr}{o:HO}{t':Nat}(I:Inv X pins σ H s)(mu:Mut (H x))(he:e=x∨H e=some (.own x))(k:∀b u,b≠e->s.heap.get? b=some u->h'.get? b=some u)(heo:∃u,h'.get? e=some u)
  (new:bh' X.prog X.w (upd H x o) h' x o):Inv X pins σ (upd H x o) { s with heap:=h',toks:=t' }:=I.un (Un.write mu he k heo) (I.hok.write mu he k heo new)
theorem Inv.pins_of{pins':List (Addr × Obj)}(I:Inv X pins σ H s)(h:∀p∈pins',s.heap.get? p.1=some p.2/\H p.1=none/\p.1≠X.env.locals/\p.1∉X.fs/\∀v,p.2.data≠.cell v):Inv X pins' σ H s:=
 ⟨I.ok,I.os,I.bare,I.base,I.loc,I.cell,I.free,I.freeC,fun p hp=>(au'.mp hp).elim (fun z=>I.pin p (List.mem_append_left _ z)) (h p),I.hok,I.len⟩
theorem eM_{N:List Str}(hN:N.Nodup){i j:Nat}{x:Str}(a:N[i]? = some x)(b:N[j]? = some x):i=j:=by
 obtain⟨h1,e1⟩:=ab'.mp a;obtain⟨h2,e2⟩:=ab'.mp b;exact (List.getElem_inj hN).mp (e1.trans e2.symm)
theorem gP_{M:Model}{A:Around}{E:Value->Shared->Prop}{i:Nat}{x:Str}{v:V}{u:Value}{Q:Unit->Shared->Prop}(I:Inv X pins σ H s)(hN:X.N.Nodup)(hi:X.N[i]? = some x)(hx:Loc X.env.scope x)(r:RelV v u)
  (h:∀s',Inv X pins (σ.set i (some v)) H s'->(∃a,Heap.SameBut a s.heap s'.heap/\(a=X.env.locals∨X.env.cells.lookup x=some a))->Q () s') (hf:X.fn x=true∨X.env.scope.names.lookup x=some .local:=by first|exact .inl rfl|exact .inr rfl|assumption):wpAny M A (storeName X.env x u) Q E s:=by
 obtain⟨m,hn,hl⟩:=id I.loc;have hcls:(X.env.scope.kind == .class || (X.env.scope.kind == .module&&X.env.locals != X.env.globals))=false:=by rw[I.ok.kind];rfl
 have hiσ:i<σ.length:=by rw[I.len];exact (ab'.mp hi).1
 have cne:=I.cne
 have tracked:∀{a:Addr} {h':Heap},(∃o,s.heap.get? a=some o/\H a=none)->Heap.SameBut a s.heap h'->HOk X.prog X.w H h':=fun {a h'} ha hs b ob e=>by
  obtain⟨_,_,hfree⟩:=ha;refine (I.hok b ob e).stay (fun c w' hc q=>(hs.2 c ?_).trans q) (fun _ q=>q) fun _ _ q=>q;rintro rfl;rcases hc with rfl|hc
  ·rw[hfree] at e;cases e
  ·rw[hfree] at hc;cases hc
 rcases hx with hk|hk
 ·refine wpAny_storeName_local hk hn (fun h' hn' hs=>?_) hcls;obtain⟨oL,_,_,hoL,_⟩:=id hn;refine h _ ⟨I.ok,I.os,I.bare,⟨fun b o e n hb hx=>?_,fun b o e n hb hx=>?_,I.base.free,fun b o e hx=>?_,I.base.tups,I.base.frzs,I.base.tbls⟩,⟨_,hn',fun j y v' e1 e2 e3=>?_⟩,fun y c e=>?_,I.free,I.freeC,fun p hp=>?_,tracked ⟨oL,hoL,I.free⟩ hs,by simpa using I.len⟩ ⟨_,hs,.inl rfl⟩
  ·exact (hs.2 b (av' (ax' (Heap.lt_size e) I.ok.above))).trans (I.base.keep b o e n hb hx)
  ·obtain⟨sl,e1⟩:=I.base.slot b o e n hb hx;exact⟨sl,(hs.2 b (av' (ax' (Heap.lt_size e) I.ok.above))).trans e1⟩
  ·obtain⟨o',e1⟩:=I.base.there b o e hx;exact⟨o',(hs.2 b (av' (ax' (Heap.lt_size e) I.ok.above))).trans e1⟩
  ·by_cases hj:j=i
   ·subst hj;rw[hi] at e1;cases e1;rw[List.getElem?_set_self hiσ] at e2;cases e2;exact⟨u,r,.inl ⟨hk,by simp⟩⟩
   ·rw[List.getElem?_set_ne (Ne.symm hj)] at e2;obtain⟨u',r',q⟩:=hl j y v' e1 e2 e3;refine⟨u',r',?_⟩;rcases q with⟨k,e⟩|⟨k,c,e,z⟩
    ·refine .inl ⟨k,?_⟩;have:y≠x:=fun e=>hj (eM_ hN e1 (e▸hi));simp[this,e]
    ·exact .inr ⟨k,c,e,z.sameBut hs (cne y c e)⟩
  ·obtain⟨w',z⟩:=I.cell y c e;exact⟨w',z.sameBut hs (cne y c e)⟩
  ·obtain⟨e,n,ne,nf,d⟩:=I.pin p hp;exact⟨(hs.2 p.1 ne).trans e,n,ne,nf,d⟩
 ·have hfn:X.fn x=true:=by
   rcases hf with z|z
   ·exact z
   ·rw[z] at hk;cases hk
  obtain⟨c,hc⟩:=I.ok.has x (.inl hk);obtain⟨w',z⟩:=I.cell x c hc;refine wpAny_storeName_cell I.ok.kind hk hc z (fun h' hc' hs=>?_);obtain⟨oc,hoc,hocd⟩:=id z;refine h { s with heap:=h' } ⟨I.ok,I.os,I.bare,⟨fun b o e n hb hx=>?_,fun b o e n hb hx=>?_,I.base.free,fun b o e hx=>?_,I.base.tups,I.base.frzs,I.base.tbls⟩,⟨m,hn.sameBut hs (Ne.symm (cne x c hc)),fun j y v' e1 e2 e3=>?_⟩,fun y c' e=>?_,I.free,I.freeC,fun p hp=>?_,tracked ⟨oc,hoc,I.freeC x c hc⟩ hs,by simpa using I.len⟩ ⟨c,hs,.inr hc⟩
  ·exact (hs.2 b (av' (ax' (Heap.lt_size e) (I.ok.cab x c hfn hc)))).trans (I.base.keep b o e n hb hx)
  ·obtain⟨sl,e1⟩:=I.base.slot b o e n hb hx;exact⟨sl,(hs.2 b (av' (ax' (Heap.lt_size e) (I.ok.cab x c hfn hc)))).trans e1⟩
  ·obtain⟨o',e1⟩:=I.base.there b o e hx;exact⟨o',(hs.2 b (av' (ax' (Heap.lt_size e) (I.ok.cab x c hfn hc)))).trans e1⟩
  ·by_cases hj:j=i
   ·subst hj;rw[hi] at e1;cases e1;rw[List.getElem?_set_self hiσ] at e2;cases e2;exact⟨u,r,.inr ⟨.inl hk,c,hc,hc'⟩⟩
   ·rw[List.getElem?_set_ne (Ne.symm hj)] at e2;obtain⟨u',r',q⟩:=hl j y v' e1 e2 e3;refine⟨u',r',?_⟩;rcases q with q|⟨k,c',e,z'⟩
    ·exact .inl q
    ·refine .inr ⟨k,c',e,z'.sameBut hs ?_⟩;rintro rfl;exact hj (eM_ hN e1 (I.ok.inj _ _ _ e hc▸hi))
  ·by_cases hcc:c'=c
   ·subst hcc;exact⟨_,hc'⟩
   ·obtain⟨w2,z2⟩:=I.cell y c' e;exact⟨w2,z2.sameBut hs hcc⟩
  ·obtain⟨e,n,ne,nf,d⟩:=I.pin p hp;refine⟨(hs.2 p.1 ?_).trans e,n,ne,nf,d⟩;intro q;rw[q,hoc] at e;have q':oc=p.2:=Option.some.inj e;exact d w' (by rw[<- q'];exact hocd)
theorem eG_{M:Model}{A:Around}{E:Value->Shared->Prop}{i:Nat}{x:Str}{v:V}{u:Value}{Q:Unit->Shared->Prop}(I:Inv X pins σ H s)(hN:X.N.Nodup)(hi:X.N[i]? = some x)(hx:Loc X.env.scope x)(r:RelV v u)
  (h:∀s',Inv X pins (σ.set i (some v)) H s'->Q () s') (hf:X.fn x=true∨X.env.scope.names.lookup x=some .local:=by first|exact .inl rfl|exact .inr rfl|assumption):wpAny M A (storeName X.env x u) Q E s:=
 gP_ I hN hi hx r (fun s' I' _=>h s' I') hf
theorem Inv.call'{s':Shared}{ch:List Addr}(I:Inv X pins σ H s)(ho:s'.os=s.os)(u:Un (frs X.stack) ch H H' s.heap s'.heap)(hok:HOk X.prog X.w H' s'.heap)(hg:AllBare s'.gens)
  (hch:∀b∈ch,(b∈X.ex∨X.s₀.heap.objs.size<=b)/\b≠X.env.locals/\(∀x c,X.env.cells.lookup x=some c->c≠b)/\∀p∈X.pn++pins,p.1≠b):Inv X pins σ H' s':=by
 obtain⟨h',g',d',t',o'⟩:=s';have e:o'=s.os:=ho;subst e;exact I.call (g':=g') (t':=t') (d':=d') u hok hg hch
end
abbrev XK:=Value->Option Addr->Hp->Prop
abbrev St:=List (Option V)
abbrev VK:=V->Hp->Prop
abbrev TE:=St->Hp->VK->Prop
abbrev TT:=St->Hp->(Bool->Hp->Prop)->Prop
abbrev TA:=St->Hp->(List V->Hp->Prop)->Prop
structure Ends where
 nx:St->Hp->Prop
 rt:VK
 bk:St->Hp->Prop:=fun _ _=>False
 ct:St->Hp->Prop:=fun _ _=>False
abbrev TS:=Ends->St->Hp->Prop
def EP(X:Cx)(pins:List (Addr × Obj))(σ:St)(Q:VK)(u:Value)(s':Shared):Prop:=∃v H',Inv X pins σ H' s'/\RelV v u/\Q v H'
def TP(X:Cx)(pins:List (Addr × Obj))(σ:St)(Q:Bool->Hp->Prop)(b:Bool)(s':Shared):Prop:=∃H',Inv X pins σ H' s'/\Q b H'
def AP(X:Cx)(pins:List (Addr × Obj))(σ:St)(Q:List V->Hp->Prop)(us:List Value)(s':Shared):Prop:=∃vs H',Inv X pins σ H' s'/\Vals vs us/\Q vs H'
def SP(X:Cx)(pins:List (Addr × Obj))(D:Ends)(f:Flow)(s':Shared):Prop:=
 match f with
 |.next=>∃σ' H',Inv X pins σ' H' s'/\D.nx σ' H'
 |.brk=>∃σ' H',Inv X pins σ' H' s'/\D.bk σ' H'
 |.cont=>∃σ' H',Inv X pins σ' H' s'/\D.ct σ' H'
 |.ret u=>∃v σ' H',Inv X pins σ' H' s'/\RelV v u/\D.rt v H'
def PE(X:Cx)(e:Expr)(t:TE):Prop:=
 ∀(pins:List (Addr × Obj)) (s:Shared) (σ:St) (H:Hp) (Q:VK),Inv X pins σ H s->t σ H Q->wpAny (model X.prog X.w) X.A (eval e X.env) (EP X pins σ Q) X.xe s
def PT(X:Cx)(e:Expr)(t:TT):Prop:=
 ∀(pins:List (Addr × Obj)) (s:Shared) (σ:St) (H:Hp) (Q:Bool->Hp->Prop),Inv X pins σ H s->t σ H Q->wpAny (model X.prog X.w) X.A (isTrue e X.env (eval e X.env)) (TP X pins σ Q) X.xe s
def PW(X:Cx)(e:Expr)(t:TT):Prop:=
 ∀(whole:Sem Value) (pins:List (Addr × Obj)) (s:Shared) (σ:St) (H:Hp) (Q:Bool->Hp->Prop),Inv X pins σ H s->t σ H Q->wpAny (model X.prog X.w) X.A (isTrue e X.env whole) (TP X pins σ Q) X.xe s
theorem PW.pt{X:Cx}{e:Expr}{t:TT}(h:PW X e t):PT X e t:=h _
def PA(X:Cx)(es:List Expr)(t:TA):Prop:=
 ∀(pos:Pos) (pins:List (Addr × Obj)) (s:Shared) (σ:St) (H:Hp) (Q:List V->Hp->Prop),Inv X pins σ H s->t σ H Q->wpAny (model X.prog X.w) X.A (spliced (backTo pos (starEach es X.env))) (AP X pins σ Q) X.xe s
def PS(X:Cx)(st:Stmt)(t:TS):Prop:=
 ∀(pins:List (Addr × Obj)) (s:Shared) (σ:St) (H:Hp) (D:Ends),Inv X pins σ H s->t D σ H->wpAny (model X.prog X.w) X.A (exec st X.env) (SP X pins D) X.xe s
def PSs(X:Cx)(st:List Stmt)(t:TS):Prop:=
 ∀(pins:List (Addr × Obj)) (s:Shared) (σ:St) (H:Hp) (D:Ends),Inv X pins σ H s->t D σ H->wpAny (model X.prog X.w) X.A (execs st X.env) (SP X pins D) X.xe s
theorem thn{α:Type}{t:Sem α}{Q Q':α->Shared->Prop}{M:Model}{A:Around}{E:Value->Shared->Prop}{s:Shared}(h:wpAny M A t Q E s)(hQ:∀a s,Q a s->Q' a s):wpAny M A t Q' E s:=wpAny_mono h hQ fun _ _ x=>x
end L2
namespace L2
open PySem PySem.Spec PyProof.Rows
section
variable{X:Cx}
def tVar(i:Nat):TE:=fun σ H Q=>∃v,σ[i]? = some (some v)/\Q v H
def tC(v:V):TE:=fun _ H Q=>Q v H
theorem kc_{i:Nat}{x:Str}{pos:Pos}(hN:X.N[i]? = some x)(hv:Vis X.env.scope x)(hd:(x == ("__debug__":Str))=false:=by decide)(hcd:(x == ("__classdict__":Str))=false:=by decide):PE X (.Name x pos) (tVar i):=by
 intro pins s σ H Q I h;obtain⟨v,e,h⟩:=h;obtain⟨m,hn,hl⟩:=I.loc;obtain⟨u,r,l⟩:=hl i x v hN e hv;have fin:EP X pins σ Q u s:=⟨v,H,I,r,h⟩;rcases l with⟨hk,hm⟩|⟨hk,c,hc,hcell⟩
 ·exact wpAny_Name (wpAny_loadName_local I.ok.kind hk hn hm fin) hd
 ·rcases hk with hk|hk
  ·exact wpAny_Name (wpAny_loadName_cell I.ok.kind hk hc hcell fin) hd
  ·exact wpAny_Name (wpAny_loadName_free I.ok.kind hk hc hcell fin hcd) hd
theorem a7_{i j pos}:PE X (.Constant (.int i) j pos) (tC (.int i)):=fun _ _ _ H _ I h=>wpAny_Constant_int ⟨.int i,H,I.tok _,⟨_,rfl⟩,h⟩
theorem el_{b j pos}:PE X (.Constant (.bool b) j pos) (tC (.bl b)):=fun _ _ _ H _ I h=>Constant_bool ⟨.bl b,H,I,rfl,h⟩
theorem d3_{j pos}:PE X (.Constant .none j pos) (tC .non):=fun _ _ _ H _ I h=>Constant_none ⟨.non,H,I,rfl,h⟩
theorem aC_{x j pos}:PE X (.Constant (.str x) j pos) (tC (.str x)):=fun _ _ _ H _ I h=>Calls.Constant_str ⟨.str x,H,I.tok _,⟨_,rfl⟩,h⟩
def Gl(X:Cx)(x:Str):Prop:=X.env.kindOf x=some .globalImplicit
theorem dm_{E:Value->Shared->Prop}{pins:List (Addr × Obj)}{s:Shared}{σ:St}{H:Hp}{x:Str}{u:Value}{pos:Pos}{Q:Value->Shared->Prop}(I:Inv X pins σ H s)(hg:Gl X x)(hm:X.mg x=some u)(h:Q u s)
  (hd:(x == ("__debug__":Str))=false:=by decide):wpAny (model X.prog X.w) X.A (eval (.Name x pos) X.env) Q E s:=
 Calls.Name_function_global I.ok.kind hg (Calls.loadGlobal_global (by rw[I.ok.glob];exact I.mod.glob.keeps I.bk) hm h) hd
theorem bH_{E:Value->Shared->Prop}{pins:List (Addr × Obj)}{s:Shared}{σ:St}{H:Hp}{x:Str}{u:Value}{pos:Pos}{Q:Value->Shared->Prop}(I:Inv X pins σ H s)(hg:Gl X x)(hm:X.mg x=none)(hv:bootBuiltins x=some u)(h:Q u s)
  (hn:x≠"__name__":=by decide) (hd:(x == ("__debug__":Str))=false:=by decide):wpAny (model X.prog X.w) X.A (eval (.Name x pos) X.env) Q E s:=by
 obtain⟨mb,h1,h2⟩:=I.mod.blt;exact Calls.Name_function_global I.ok.kind hg (Calls.loadGlobal_builtin (by rw[I.ok.glob];exact I.mod.glob.keeps I.bk) hm (by rw[I.ok.blt];exact h1.keeps I.bk) ((h2 x hn).trans hv) h) hd
theorem bM_{x:Str}{v:V}{u:Value}{pos:Pos}(hg:Gl X x)(hm:X.mg x=some u)(r:RelV v u)(hd:(x == ("__debug__":Str))=false:=by decide):PE X (.Name x pos) (tC v):=
 fun _ _ _ H _ I h=>dm_ I hg hm ⟨v,H,I,r,h⟩ hd
theorem b2_{x:Str}{v:V}{u:Value}{pos:Pos}(hg:Gl X x)(hm:X.mg x=none)(hv:bootBuiltins x=some u)(r:RelV v u)(hn:x≠"__name__":=by decide)(hd:(x == ("__debug__":Str))=false:=by decide):PE X (.Name x pos) (tC v):=
 fun _ _ _ H _ I h=>bH_ I hg hm hv ⟨v,H,I,r,h⟩ hn hd
variable{a b:Expr}{ta tb:TE}{pos:Pos}
def PC(X:Cx)(op:CmpOp)(a b:Expr)(t:TE):Prop:=
 ∀(pins:List (Addr × Obj)) (s:Shared) (σ:St) (H:Hp) (Q:VK),Inv X pins σ H s->t σ H Q->
  wpAny (model X.prog X.w) X.A (eval a X.env) (fun v s₁=>wpAny (model X.prog X.w) X.A (eval b X.env) (fun u s₂=>wpAny (model X.prog X.w) X.A (compareOp op v u) (EP X pins σ Q) X.xe s₂) X.xe s₁) X.xe s
theorem nobehind(b:Expr){op:CmpOp}(h:op≠.In)(h2:op≠.NotIn):behindInMarks op b=false:=by
 have e1:(op == CmpOp.In)=false:=by cases op<;>first|rfl|exact absurd rfl h
 have e2:(op == CmpOp.NotIn)=false:=by cases op<;>first|rfl|exact absurd rfl h2
 cases b<;>simp[behindInMarks,e1,e2]
def tIsN(ta:TE):TE:=fun σ H Q=>ta σ H fun x H1=>Q (.bl (decide (x=.non))) H1
theorem RelV.none_iff{x:V}{v:Value}(r:RelV x v):(v == Value.none)=decide (x=.non):=by
 cases x with
 |non=>cases r;rfl
 |bl _=>cases r;rfl
 |int _=>obtain⟨t,rfl⟩:=r;rfl
 |str _=>obtain⟨t,rfl⟩:=r;rfl
 |byt _=>obtain⟨t,rfl⟩:=r;rfl
 |flt _=>obtain⟨t,rfl⟩:=r;rfl
 |ref _=>cases r;rfl
 |ty _=>cases r;rfl
theorem eY_{j pos'}(ha:PE X a ta):PC X .Is a (.Constant .none j pos') (tIsN ta):=by
 intro pins s σ H Q I h;refine thn (ha pins s σ H _ I h) fun v s1 ⟨x,H1,I1,r1,q1⟩=>?_;exact Constant_none (is_none_gen ⟨.bl _,H1,I1,by rw[r1.none_iff];rfl,q1⟩)
def tB(t:TE):TT:=fun σ H Q=>t σ H fun x H1=>∃c,x=.bl c/\Q c H1
theorem e0_{op:CmpOp}{t:TE}(h:PC X op a b t)(h1:behindInMarks op b=false:=by first|exact nobehind _ (by decide) (by decide)|rfl):PE X (.Compare a [op] [b] pos) t:=fun pins s σ H Q I hw=>wpAny_Compare1 (h pins s σ H Q I hw) h1
theorem ch_{op:CmpOp}{t:TE}(h:PC X op a b t)(h1:behindInMarks op b=false:=by first|exact nobehind _ (by decide) (by decide)|rfl):PT X (.Compare a [op] [b] pos) (tB t):=by
 intro pins s σ H Q I hw;refine wpAny_isTrue_Compare1 (thn (h pins s σ H _ I hw) fun v s1 h1=>thn h1 fun u s2 h2=>thn h2 fun c s3 ⟨x,H1,I1,r1,q1⟩=>?_) h1;obtain⟨d,rfl,q⟩:=q1;cases r1;exact wpAny_truthy_bool ⟨H1,I1,q⟩
theorem aJ_{e:Expr}{t:TE}(h:PE X e t)(he:∀whole,isTrue e X.env whole=(do let v <- whole;standAt e.pos;holding [v] (truthy v)):=by intro _;rfl):PT X e (tB t):=by
 intro pins s σ H Q I hw;refine isTrue_plain (thn (h pins s σ H _ I hw) fun v s1 ⟨x,H1,I1,r1,q1⟩=>?_) (he _);obtain⟨d,rfl,q⟩:=q1;cases r1;exact wpAny_truthy_bool ⟨H1,I1,q⟩
variable{tA tB':TT}{rest:List Expr}
def tAnd(t u:TT):TT:=fun σ H Q=>t σ H fun c H1=>if c=true then u σ H1 Q else Q false H1
def tOr(t u:TT):TT:=fun σ H Q=>t σ H fun c H1=>if c=true then Q true H1 else u σ H1 Q
def tNot(t:TT):TT:=fun σ H Q=>t σ H fun c H1=>Q (!c) H1
theorem cH_(ha:PT X a tA):PW X (.BoolOp .And [a] pos) tA:=by
 intro wh pins s σ H Q I h;refine isTrue_and (thn (ha pins s σ H Q I h) fun c s1 e=>?_);cases c with
 |true=>exact isTrue_and_nil e
 |false=>exact e
theorem ce_(ha:PT X a tA):PW X (.BoolOp .Or [a] pos) tA:=by
 intro wh pins s σ H Q I h;refine isTrue_or (thn (ha pins s σ H Q I h) fun c s1 e=>?_);cases c with
 |false=>exact isTrue_or_nil e
 |true=>exact e
theorem d0_(ha:PT X a tA)(hb:PW X (.BoolOp .And (b::rest) pos) tB'):PW X (.BoolOp .And (a::b::rest) pos) (tAnd tA tB'):=by
 intro wh pins s σ H Q I h;refine isTrue_and (thn (ha pins s σ H _ I h) fun c s1 ⟨H1,I1,q1⟩=>?_);cases c with
 |true=>exact hb wh pins s1 σ H1 Q I1 q1
 |false=>exact⟨H1,I1,q1⟩
theorem dv_(ha:PT X a tA)(hb:PW X (.BoolOp .Or (b::rest) pos) tB'):PW X (.BoolOp .Or (a::b::rest) pos) (tOr tA tB'):=by
 intro wh pins s σ H Q I h;refine isTrue_or (thn (ha pins s σ H _ I h) fun c s1 ⟨H1,I1,q1⟩=>?_);cases c with
 |true=>exact⟨H1,I1,q1⟩
 |false=>exact hb wh pins s1 σ H1 Q I1 q1
theorem aQ_(ha:PT X a tA):PT X (.UnaryOp .Not a pos) (tNot tA):=by
 intro pins s σ H Q I h;exact isTrue_not (ha pins s σ H (fun c H1=>Q (!c) H1) I h)
def tAndV(ta tb:TE):TE:=fun σ H Q=>ta σ H fun x H1=>∃c,x=.bl c/\if c=true then tb σ H1 Q else Q (.bl false) H1
def tOrV(ta tb:TE):TE:=fun σ H Q=>ta σ H fun x H1=>∃c,x=.bl c/\if c=true then Q (.bl true) H1 else tb σ H1 Q
def tNotV(ta:TE):TE:=fun σ H Q=>ta σ H fun x H1=>∃c,x=.bl c/\Q (.bl (!c)) H1
theorem bd_{op}{t:TE}(h:PE X a t):PE X (.BoolOp op [a] pos) t:=fun pins s σ H Q I hw=>BoolOp_one (h pins s σ H Q I hw)
theorem br_(ha:PE X a ta)(hb:PE X (.BoolOp .And (b::rest) pos) tb):PE X (.BoolOp .And (a::b::rest) pos) (tAndV ta tb):=by
 intro pins s σ H Q I h;refine BoolOp_and (thn (ha pins s σ H _ I h) fun v s1 ⟨x,H1,I1,r1,q1⟩=>?_);obtain⟨c,rfl,q1⟩:=q1;cases r1;refine wpAny_truthy_bool ?_;cases c with
 |true=>exact hb pins s1 σ H1 Q I1 q1
 |false=>exact⟨.bl false,H1,I1,rfl,q1⟩
theorem fg_(ha:PE X a ta)(hb:PE X (.BoolOp .Or (b::rest) pos) tb):PE X (.BoolOp .Or (a::b::rest) pos) (tOrV ta tb):=by
 intro pins s σ H Q I h;refine BoolOp_or (thn (ha pins s σ H _ I h) fun v s1 ⟨x,H1,I1,r1,q1⟩=>?_);obtain⟨c,rfl,q1⟩:=q1;cases r1;refine wpAny_truthy_bool ?_;cases c with
 |false=>exact hb pins s1 σ H1 Q I1 q1
 |true=>exact⟨.bl true,H1,I1,rfl,q1⟩
theorem k9_(ha:PE X a ta):PE X (.UnaryOp .Not a pos) (tNotV ta):=by
 intro pins s σ H Q I h;refine UnaryOp_ (thn (ha pins s σ H _ I h) fun v s1 ⟨x,H1,I1,r1,q1⟩=>?_);obtain⟨c,rfl,q1⟩:=q1;cases r1;exact not_of (wpAny_truthy_bool ⟨.bl (!c),H1,I1,rfl,q1⟩)
def tIf(t:TT)(ta tb:TE):TE:=fun σ H Q=>t σ H fun c H1=>if c=true then ta σ H1 Q else tb σ H1 Q
theorem h1_{c:Expr}(hc:PT X c tA)(ha:PE X a ta)(hb:PE X b tb):PE X (.IfExp c a b pos) (tIf tA ta tb):=by
 intro pins s σ H Q I h;refine wpAny_IfExp (thn (hc pins s σ H _ I h) fun d s1 ⟨H1,I1,q1⟩=>?_);cases d with
 |true=>exact ha pins s1 σ H1 Q I1 q1
 |false=>exact hb pins s1 σ H1 Q I1 q1
end
end L2
namespace L2
open PySem PySem.Spec PyProof.Rows
def SqL(K:F__)(H:Hp)(a:Addr)(xs:List V):Prop:=
 Rd H a (.lst xs) ∨
  ∃(o:Obj) (its:Array Value) (n:Nat),K.lookup a=some o/\o.cls=.type "list"/\o.dict=none/\o.data=.seq its n/\its.size<=sizeLine/\Vals xs its.toList
def SqT(K:F__)(H:Hp)(a:Addr)(xs:List V):Prop:=
 Rd H a (.tup xs) ∨
  ∃(o:Obj) (its:Array Value) (n:Nat),K.lookup a=some o/\o.cls=.type "tuple"/\o.data=.seq its n/\its.size<=sizeLine/\Vals xs its.toList
def absV:Value->Option V
 |.none=>some .non
 |.bool b=>some (.bl b)
 |.int i _=>some (.int i)
 |.str x _=>some (.str x)
 |.bytes b _=>some (.byt b)
 |.float b _=>some (.flt b)
 |.ref a=>some (.ref a)
 |.type n=>some (.ty n)
 |_=>none
theorem RelV.abs{x:V}{u:Value}(r:RelV x u):absV u=some x:=by
 cases x with
 |non=>cases r;rfl
 |bl _=>cases r;rfl
 |int _=>obtain⟨t,rfl⟩:=r;rfl
 |str _=>obtain⟨t,rfl⟩:=r;rfl
 |byt _=>obtain⟨t,rfl⟩:=r;rfl
 |flt _=>obtain⟨t,rfl⟩:=r;rfl
 |ref _=>cases r;rfl
 |ty _=>cases r;rfl
theorem RelV.inj{x y:V}{u:Value}(r:RelV x u)(q:RelV y u):x=y:=Option.some.inj (r.abs.symm.trans q.abs)
theorem Vals.inj:∀{xs ys:List V} {us:List Value},Vals xs us->Vals ys us->xs=ys
 |_,_,_,.nil,.nil=>rfl
 |_,_,_,.cons r t,.cons r' t'=>by rw[r.inj r',Vals.inj t t']
section
variable{X:Cx}{pins:List (Addr × Obj)}{σ:St}{H:Hp}{s:Shared}{a:Addr}{xs ys:List V}
theorem SqL.of{K:F__}(h:H a=some (.lst xs)):SqL K H a xs:=.inl (.inl h)
theorem SqT.of{K:F__}(h:H a=some (.tup xs)):SqT K H a xs:=.inl (.inl h)
theorem Inv.list(I:Inv X pins σ H s)(h:SqL X.K H a xs):∃its:List Value,Vals xs its/\PlainL s.heap a its.toArray/\xs.length<=sizeLine:=by
 rcases h with h|⟨o,its,n,hk,hc,hd,hs,hz,r⟩
 ·obtain⟨z,its,n,r,e⟩:=h.ok I.hok;exact⟨its,r,⟨_,n,e,rfl,rfl,rfl⟩,z⟩
 ·refine⟨its.toList,r,⟨o,n,I.kIn a o hk,hc,hd,by simpa using hs⟩,?_⟩;have e:=r.length;simp only[aL'] at e;omega
theorem Inv.tuple(I:Inv X pins σ H s)(h:SqT X.K H a xs):∃its:List Value,Vals xs its/\IsTup s.heap a its.toArray/\xs.length<=sizeLine:=by
 rcases h with h|⟨o,its,n,hk,hc,hs,hz,r⟩
 ·obtain⟨z,its,r,p,_⟩:=h.ok I.hok;exact⟨its,r,p,z⟩
 ·refine⟨its.toList,r,⟨o,I.kIn a o hk,hc,n,by simpa using hs⟩,?_⟩;have e:=r.length;simp only[aL'] at e;omega
theorem Inv.list_inj(I:Inv X pins σ H s)(h:SqL X.K H a xs)(h':SqL X.K H a ys):xs=ys:=by
 obtain⟨its,r,⟨o,n,e,_,_,d⟩,_⟩:=I.list h;obtain⟨its',r',⟨o',n',e',_,_,d'⟩,_⟩:=I.list h';rw[e] at e';cases e';rw[d] at d'
 injection d' with d1 _
 have:its=its':=by simpa using congrArg Array.toList d1
 subst this;exact r.inj r'
theorem Inv.tuple_inj(I:Inv X pins σ H s)(h:SqT X.K H a xs)(h':SqT X.K H a ys):xs=ys:=by
 obtain⟨its,r,⟨o,e,_,n,d⟩,_⟩:=I.tuple h;obtain⟨its',r',⟨o',e',_,n',d'⟩,_⟩:=I.tuple h';rw[e] at e';cases e';rw[d] at d'
 injection d' with d1 _
 have:its=its':=by simpa using congrArg Array.toList d1
 subst this;exact r.inj r'
end
abbrev Cx.wish(X:Cx)(E:Value->Shared->Prop):Cx:={ X with xe:=E }
abbrev Cx.nox(X:Cx):Cx:=X.wish fun _ _=>False
theorem Cx.Ok.wish{X:Cx}(ok:X.Ok)(E:Value->Shared->Prop):(X.wish E).Ok:=
 ⟨ok.mod,ok.kind,ok.glob,ok.blt,ok.above,ok.inj,ok.has,ok.cab,ok.hd,ok.frames,ok.stk,ok.exf,ok.bs,ok.bsz,ok.noex,ok.exfs,ok.funs,ok.frf⟩
theorem Cx.Ok.unwish{X:Cx}{E:Value->Shared->Prop}(ok:(X.wish E).Ok):X.Ok:=
 ⟨ok.mod,ok.kind,ok.glob,ok.blt,ok.above,ok.inj,ok.has,ok.cab,ok.hd,ok.frames,ok.stk,ok.exf,ok.bs,ok.bsz,ok.noex,ok.exfs,ok.funs,ok.frf⟩
section
variable{X:Cx}{pins:List (Addr × Obj)}{σ:St}{H:Hp}{s:Shared}{E:Value->Shared->Prop}
theorem Inv.wish(I:Inv X pins σ H s)(E:Value->Shared->Prop):Inv (X.wish E) pins σ H s:=⟨I.ok.wish E,I.os,I.bare,I.base,I.loc,I.cell,I.free,I.freeC,I.pin,I.hok,I.len⟩
theorem Inv.unwish(I:Inv (X.wish E) pins σ H s):Inv X pins σ H s:=⟨I.ok.unwish,I.os,I.bare,I.base,I.loc,I.cell,I.free,I.freeC,I.pin,I.hok,I.len⟩
theorem SP.unwish{D:Ends}{f:Flow}{s':Shared}(h:SP (X.wish E) pins D f s'):SP X pins D f s':=by
 cases f with
 |next=>obtain⟨σ',H',I,q⟩:=h;exact⟨σ',H',I.unwish,q⟩
 |brk=>obtain⟨σ',H',I,q⟩:=h;exact⟨σ',H',I.unwish,q⟩
 |cont=>obtain⟨σ',H',I,q⟩:=h;exact⟨σ',H',I.unwish,q⟩
 |ret u=>obtain⟨v,σ',H',I,r,q⟩:=h;exact⟨v,σ',H',I.unwish,r,q⟩
theorem PSs.nox{st:List Stmt}{t:TS}(h:PSs X.nox st t):PSs X st t:=fun pins s σ H D I hw=>
 wpAny_mono (h pins s σ H D (I.wish _) hw) (fun _ _ q=>q.unwish) fun _ _ z=>False.elim z
end
section
variable{X:Cx}{st:Stmt}{rest:List Stmt}{t u:TS}{e:Expr}{te:TE}{pos:Pos}
def tNext:TS:=fun D σ H=>D.nx σ H
def tSeq(t u:TS):TS:=fun D σ H=>t { D with nx:=u D } σ H
theorem ae_:PSs X [] tNext:=fun _ _ σ H _ I h=>wpAny_execs_nil ⟨σ,H,I,h⟩
theorem a2_(h1:PS X st t)(h2:PSs X rest u):PSs X (st::rest) (tSeq t u):=by
 intro pins s σ H D I h;refine wpAny_execs_cons (thn (h1 pins s σ H { D with nx:=u D } I h) fun f s1 q=>?_);cases f with
 |next=>
  obtain⟨σ',H',I',q⟩:=q;exact h2 pins s1 σ' H' D I' q
 |ret v=>exact q
 |brk=>exact q
 |cont=>exact q
theorem a5_(h1:PS X st t):PSs X [st] t:=by
 intro pins s σ H D I h;refine wpAny_execs_cons (thn (h1 pins s σ H D I h) fun f s1 q=>?_);cases f with
 |next=>exact wpAny_execs_nil q
 |ret v=>exact q
 |brk=>exact q
 |cont=>exact q
theorem Inv.quiet{pins:List (Addr × Obj)}{σ:St}{H:Hp}{s:Shared}(I:Inv X pins σ H s):interactive X.env=false:=by simp[interactive,I.ok.kind]
def tDrop(te:TE):TS:=fun D σ H=>te σ H fun _ H1=>D.nx σ H1
theorem b4_(he:PE X e te)(hs:swapsWith e none pos.line X.env=pure false:=by rfl):PS X (.Expr e pos) (tDrop te):=by
 intro pins s σ H D I h;exact wpAny_Expr_any (thn (he pins s σ H _ I h) fun v s1 ⟨x,H1,I1,r1,q1⟩=>⟨σ,H1,I1,q1⟩) I.quiet hs
def tRet(te:TE):TS:=fun D σ H=>te σ H D.rt
theorem ab_(he:PE X e te):PS X (.Return (some e) pos) (tRet te):=by
 intro pins s σ H D I h;exact wpAny_Return_some (thn (he pins s σ H _ I h) fun v s1 ⟨x,H1,I1,r1,q1⟩=>⟨x,σ,H1,I1,r1,q1⟩)
def tIfS(c:TT)(t u:TS):TS:=fun D σ H=>c σ H fun b H1=>if b=true then t D σ H1 else u D σ H1
theorem aB_{c:Expr}{a b:List Stmt}{tc:TT}(hc:PT X c tc)(ha:PSs X a t)(hb:PSs X b u):PS X (.If c a b pos) (tIfS tc t u):=by
 intro pins s σ H D I h;refine wpAny_If (thn (hc pins s σ H _ I h) fun d s1 ⟨H1,I1,q1⟩=>?_);cases d with
 |true=>exact ha pins s1 σ H1 D I1 q1
 |false=>exact hb pins s1 σ H1 D I1 q1
def tNever:TS:=fun _ _ _=>False
theorem hl_:PS X st tNever:=fun _ _ _ _ _ _ h=>h.elim
theorem ah_{sts:List Stmt}:PSs X sts tNever:=fun _ _ _ _ _ _ h=>h.elim
end
abbrev TG:=V->St->Hp->(St->Hp->Prop)->Prop
abbrev TGs:=List V->St->Hp->(St->Hp->Prop)->Prop
def PG(X:Cx)(target:Expr)(t:TG):Prop:=
 ∀(pins:List (Addr × Obj)) (s:Shared) (σ:St) (H:Hp) (v:V) (u:Value) (Q:St->Hp->Prop),Inv X pins σ H s->RelV v u->t v σ H Q->
  wpAny (model X.prog X.w) X.A (assign target X.env u) (fun _ s'=>∃σ' H',Inv X pins σ' H' s'/\Q σ' H') X.xe s
def PGs(X:Cx)(ts:List Expr)(t:TGs):Prop:=
 ∀(pins:List (Addr × Obj)) (s:Shared) (σ:St) (H:Hp) (vs:List V) (us:List Value) (Q:St->Hp->Prop),Inv X pins σ H s->Vals vs us->t vs σ H Q->
  wpAny (model X.prog X.w) X.A (assignInOrder ((assignEach ts X.env).map (·.2)) us) (fun _ s'=>∃σ' H',Inv X pins σ' H' s'/\Q σ' H') X.xe s
abbrev TSet:=V->V->V->Hp->(Hp->Prop)->Prop
def PSet(X:Cx)(t:TSet):Prop:=
 ∀(pins:List (Addr × Obj)) (s:Shared) (σ:St) (H:Hp) (o i v:V) (ov iv u:Value) (Q:Hp->Prop),Inv X pins σ H s->RelV o ov->RelV i iv->RelV v u->t o i v H Q->
  wpAny (model X.prog X.w) X.A (setItem ov iv u) (fun _ s'=>∃H',Inv X pins σ H' s'/\Q H') X.xe s
section
variable{X:Cx}{pos:Pos}
def bX'(i:Nat):TG:=fun v σ H Q=>Q (σ.set i (some v)) H
theorem a8_{i:Nat}{x:Str}(hN:X.N.Nodup)(hi:X.N[i]? = some x)(hx:Loc X.env.scope x)(hf:X.fn x=true∨X.env.scope.names.lookup x=some .local:=by first|exact .inl rfl|exact .inr rfl|assumption):PG X (.Name x pos) (bX' i):=by
 intro pins s σ H v u Q I r h;exact wpAny_assign_Name (eG_ I hN hi hx r (fun s' I'=>⟨_,H,I',h⟩) hf)
def gNil:TGs:=fun vs σ H Q=>vs=[]/\Q σ H
def cl'(t:TG)(u:TGs):TGs:=fun vs σ H Q=>∃v r,vs=v::r/\t v σ H fun σ' H'=>u r σ' H' Q
theorem aO_:PGs X [] gNil:=by
 intro pins s σ H vs us Q I r h;obtain⟨e,h⟩:=h;subst e;cases r;exact assignInOrder_nil ⟨σ,H,I,h⟩
theorem ad_{e:Expr}{es:List Expr}{t:TG}{u:TGs}(h1:PG X e t)(h2:PGs X es u)
  (hs:(assignEach (e::es) X.env).map (·.2)=assign e X.env::(assignEach es X.env).map (·.2):=by rfl):PGs X (e::es) (cl' t u):=by
 intro pins s σ H vs us Q I r h;obtain⟨v,vr,e1,h⟩:=h;subst e1;cases r with
 |cons r rr=>
  rw[hs];refine assignInOrder_cons (thn (h1 pins s σ H _ _ _ I r h) fun _ s1 ⟨σ1,H1,I1,q1⟩=>?_);exact h2 pins s1 σ1 H1 _ _ Q I1 rr q1
def gTup(K:F__)(n:Nat)(t:TGs):TG:=fun v σ H Q=>∃a xs,v=.ref a/\SqT K H a xs/\xs.length=n/\t xs σ H Q
theorem b8_{es:List Expr}{k:Nat}{t:TGs}{n:Nat}(hc:X.calm=true)(h:PGs X es t)
  (hn:(assignEach es X.env).length=n:=by rfl) (hst:(assignEach es X.env).findIdx? (·.1)=none:=by rfl):PG X (.Tuple es k pos) (gTup X.K n t):=by
 intro pins s σ H v u Q I r hw;obtain⟨a,xs,e1,hq,hl,hw⟩:=hw;subst e1;cases r;obtain⟨its,rv,ht,hz⟩:=I.tuple hq;refine assign_Tuple_tuple (I.ok.hd hc) ht (by simp[hn,<- hl,rv.length]) hst fun h' hx=>?_;have I1:Inv X pins σ H { s with heap:=h' }:=I.kept (t':=s.toks) fun b o e=>hx b o (av' (Heap.lt_size e)) e;exact h pins _ σ H xs _ Q I1 (by simpa using rv) hw
def gSub(to ti:TE)(t:TSet):TG:=fun v σ H Q=>to σ H fun o H1=>ti σ H1 fun i H2=>t o i v H2 fun H3=>Q σ H3
theorem im_{o i:Expr}{to ti:TE}{t:TSet}(ho:PE X o to)(hi:PE X i ti)(hs:PSet X t)
  (ha:∀v,assign (.Subscript o i pos) X.env v=(do
   let ov <- holding [v] (eval o X.env)
   let iv <- holding [v,ov] (eval i X.env)
   standAt pos
   holding [v,ov,iv] (setItem ov iv v)
   release [v,ov,iv] []):=by intro _;rfl):PG X (.Subscript o i pos) (gSub to ti t):=by
 intro pins s σ H v u Q I r h;rw[ha];refine wpAny_bind (wpAny_holding (thn (ho pins s σ H _ I h) fun ov s1 ⟨x,H1,I1,r1,q1⟩=>?_));refine wpAny_bind (wpAny_holding (thn (hi pins s1 σ H1 _ I1 q1) fun iv s2 ⟨y,H2,I2,r2,q2⟩=>?_));refine wpAny_bind (wpAny_standAt (wpAny_bind (wpAny_holding (thn (hs pins s2 σ H2 x y v ov iv u _ I2 r1 r2 r q2) fun _ s3 ⟨H3,I3,q3⟩=>?_))));exact wpAny_release ⟨σ,H3,I3,q3⟩
def tAsg(te:TE)(g:TG):TS:=fun D σ H=>te σ H fun x H1=>g x σ H1 D.nx
theorem dx_{tg e:Expr}{te:TE}{g:TG}(he:PE X e te)(hg:PG X tg g)(hs:swapsWithSole [tg] e pos.line X.env=pure false:=by rfl)(hw:swappedStores [tg] e X.env=pure none:=by rfl)
  (h1:(assignEach [tg] X.env).map (·.2)=[assign tg X.env]:=by rfl):PS X (.Assign [tg] e pos) (tAsg te g):=by
 intro pins s σ H D I h;refine wpAny_Assign_stores (thn (he pins s σ H _ I h) fun v s1 ⟨x,H1,I1,r1,q1⟩=>?_) hs hw;rw[h1];exact thn (hg pins s1 σ H1 x v _ I1 r1 q1) fun _ s2 q=>q
theorem aa_{i:Nat}{x:Str}{e:Expr}{te:TE}{pos':Pos}(hN:X.N.Nodup)(hi:X.N[i]? = some x)(hx:Loc X.env.scope x)(he:PE X e te)(hs:swapsWith e (some (.Name x pos')) pos.line X.env=pure false:=by rfl)(hf:X.fn x=true∨X.env.scope.names.lookup x=some .local:=by first|exact .inl rfl|exact .inr rfl|assumption) :
  PS X (.Assign [.Name x pos'] e pos) (tAsg te (bX' i)):=by
 intro pins s σ H D I h;refine wpAny_Assign_Name (thn (he pins s σ H _ I h) fun v s1 ⟨y,H1,I1,r1,q1⟩=>?_) hs;exact eG_ I1 hN hi hx r1 (fun s2 I2=>⟨_,H1,I2,q1⟩) hf
end
section
variable{X:Cx}{pos:Pos}
def tWhile(c:TT)(tb:TS):TS:=fun D σ H=>∃W:Nat->St->Hp->Prop,(∃m,W m σ H)/\∀m σ H,W m σ H->
 c σ H fun b H1=>if b=true then ∃N:St->Hp->Prop,(∀σ' H',N σ' H'->∃m',m'<m/\W m' σ' H')/\tb { D with nx:=N,ct:=N,bk:=D.nx } σ H1 else D.nx σ H1
theorem eB_{c:Expr}{body:List Stmt}{tc:TT}{tb:TS}(hp:PassesOwn (model X.prog X.w) X.A X.env X.xe)(hc:PT X c tc)(hb:PSs X body tb):PS X (.While c body [] pos) (tWhile tc tb):=by
 intro pins s σ H D I h;obtain⟨W,⟨m0,w0⟩,turn⟩:=h;refine wpAny_While (codeAny_whileLoop (fun n s'=>∃σ' H',Inv X pins σ' H' s'/\W n σ' H') ?_ m0 ⟨σ,H,I,w0⟩);rintro n s1 ⟨σ1,H1,I1,w1⟩;refine wpAny_passesOwn hp (thn (hc pins s1 σ1 H1 _ I1 (turn n σ1 H1 w1)) fun b s2 ⟨H2,I2,q2⟩=>?_);cases b with
 |true=>
  obtain⟨N,hN,q2⟩:=q2;rw[if_pos rfl];refine wpAny_passesOwn hp (thn (hb pins s2 σ1 H2 _ I2 q2) fun f s3 q3=>?_);cases f with
  |next=>
   obtain⟨σ3,H3,I3,n3⟩:=q3;obtain⟨m',hm,w3⟩:=hN σ3 H3 n3;exact⟨m',hm,σ3,H3,I3,w3⟩
  |cont=>
   obtain⟨σ3,H3,I3,n3⟩:=q3;obtain⟨m',hm,w3⟩:=hN σ3 H3 n3;exact⟨m',hm,σ3,H3,I3,w3⟩
  |brk=>exact q3
  |ret v=>exact q3
 |false=>
  rw[if_neg aq'];exact wpAny_execs_nil ⟨σ1,H2,I2,q2⟩
end
structure It where
 go:Nat->Hp->Prop
 yld:Nat->Hp->V->Hp->Prop
 stop:Nat->Hp->Prop
def FpOk(X:Cx)(pins:List (Addr × Obj))(H:Hp)(b:Addr):Prop:=
 H b=none/\b≠X.env.locals/\b∉X.fs/\(b∈X.ex∨X.s₀.heap.objs.size<=b)/\(∀x c,X.env.cells.lookup x=some c->c≠b)/\∀p∈X.pn++pins,p.1≠b
theorem Inv.fpOk{X:Cx}{pins:List (Addr × Obj)}{σ:St}{H H':Hp}{s:Shared}{b:Addr}(I:Inv X pins σ H s)(hb:s.heap.objs.size<=b)(hn:H' b=none):FpOk X pins H' b:=by
 refine⟨hn,Nat.ne_of_gt (ax' I.lt hb),I.nofs hb,.inr (aW' I.sz hb),fun x c e z=>?_,fun p hp z=>?_⟩
 ·obtain⟨v,q⟩:=I.cell x c e;exact absurd (ax' q.lt (by rw[z];exact hb)) (a2' _)
 ·exact absurd (ax' (Heap.lt_size (I.pin p hp).1) (by rw[z];exact hb)) (a2' _)
structure Turn (P:Program) (w:World) (K:F__) (tg:Expr) (J:It) (fp:List Addr) (it:Addr) (tn:Nat->Heap->Prop):Prop where
 mem:it∈fp
 obj:∀i h,tn i h->∀b∈fp,∃o,h.get? b=some o/\∀v,o.data≠.cell v
 keep:∀i h h',tn i h->(∀b∈fp,∀o,h.get? b=some o->h'.get? b=some o)->tn i h'
 item:∀(X:Cx),X.prog=P->X.w=w->X.K=K->X.calm=true->∀(i:Nat) (pins:List (Addr × Obj)) (s:Shared) (σ:St) (H:Hp) (E:Value->Shared->Prop),Inv X pins σ H s->(∀b∈fp,FpOk X pins H b)->tn i s.heap->J.go i H->
  wpAny (model P w) X.A (pyNext (.ref it)) (fun r s1=>∃u,r=some u /\
   wpAny (model P w) X.A (letOwnedTupleGo tg (.ref it) u) (fun _ s2=>∃x H',Inv X pins σ H' s2/\RelV x u/\J.yld i H x H'/\tn (i+1) s2.heap/\∀b∈fp,H' b=none) E s1) E s
 done:∀(X:Cx),X.prog=P->X.w=w->X.K=K->X.calm=true->∀(i:Nat) (pins:List (Addr × Obj)) (s:Shared) (σ:St) (H:Hp) (E:Value->Shared->Prop),Inv X pins σ H s->(∀b∈fp,FpOk X pins H b)->tn i s.heap->J.stop i H->
  wpAny (model P w) X.A (pyNext (.ref it)) (fun r s1=>r=none/\Inv X pins σ H s1) E s
 self:∀(A:Around) (i:Nat) (s:Shared) (Q:Value->Shared->Prop) (E:Value->Shared->Prop),tn i s.heap->Q (.ref it) s->wpAny (model P w) A (pyIter (.ref it)) Q E s
abbrev TI:=St->Hp->(It->Hp->Prop)->Prop
def PIE(X:Cx)(pins:List (Addr × Obj))(σ:St)(tg:Expr)(R:It->Hp->Prop)(itv:Value)(s2:Shared):Prop:=
 ∃(it:Addr) (fp:List Addr) (tn:Nat->Heap->Prop) (J:It) (H':Hp),itv=.ref it/\Inv X pins σ H' s2/\Turn X.prog X.w X.K tg J fp it tn/\tn 0 s2.heap/\(∀b∈fp,FpOk X pins H' b)/\R J H'
def PI(X:Cx)(tg iter:Expr)(wi:TI):Prop:=
 ∀(pins:List (Addr × Obj)) (s:Shared) (σ:St) (H:Hp) (R:It->Hp->Prop),Inv X pins σ H s->wi σ H R->
  wpAny (model X.prog X.w) X.A (eval iter X.env) (fun v s1=>wpAny (model X.prog X.w) X.A (pyIter v) (PIE X pins σ tg R) X.xe s1) X.xe s
theorem g8_{M:Model}{A:Around}{E:Value->Shared->Prop}{s:Shared}{tg:Expr}{it:Addr}{u:Value}{o:Obj}{n:String}{vs:Array Value}{Q:Unit->Shared->Prop}(ho:s.heap.get? it=some o)(hc:o.cls=.type n)(hd:o.data=.fields vs)
  (hn:["enumerate","zip","dict_itemiterator","dict_reverseitemiterator","odict_iterator","itertools.zip_longest","itertools.pairwise"].contains n=false) (hQ:Q () s):wpAny M A (letOwnedTupleGo tg (.ref it) u) Q E s:=by
 unfold letOwnedTupleGo
 cases tg<;>first
  |exact wpAny_pure hQ
  |(cases u<;>first
    |exact wpAny_pure hQ
    |(refine wpAny_bind (wpAny_load ho ?_)
      rw[hc,hd];show wpAny M A (if (["enumerate","zip","dict_itemiterator","dict_reverseitemiterator","odict_iterator","itertools.zip_longest","itertools.pairwise"].contains n&&vs[0]? == some (rawInt _))=true then _ else _) Q E s;rw[if_neg (by intro h;rw[hn,aZ'] at h;cases h)];exact wpAny_pure hQ))
def Itl(K:F__)(a:Addr):It:=
 ⟨fun i H=>∃xs x,SqL K H a xs/\xs[i]? = some x,fun i H x H'=>H'=H/\∀xs,SqL K H a xs->xs[i]? = some x,fun i H=>∃xs,SqL K H a xs/\xs.length<=i⟩
def Itr(lo:Int)(n:Nat):It:=⟨fun i _=>i<n,fun i H x H'=>H'=H/\x=.int (lo+i),fun i _=>n<=i⟩
theorem g5_{P:Program}{w:World}{K:F__}{tg:Expr}(a it:Addr):Turn P w K tg (Itl K a) [it] it (fun i h=>h.IsListIter it a i) where
 mem:=by simp
 obj:=fun i h st b hb=>by
  have e:b=it:=by simpa using hb
  subst e;obtain⟨o,e,c,d⟩:=st;exact⟨o,e,fun v z=>by rw[d] at z;cases z⟩
 keep:=fun i h h' st k=>st.at fun o e=>k it (by simp) o e
 item:=by
  intro X hP hw hK hc i pins s σ H E I hf st hg;subst hP hw hK;obtain⟨xs,x,hq,hx⟩:=hg;obtain⟨its,rv,p,hz⟩:=I.list hq;obtain⟨u,hu,ru⟩:=rv.get hx;obtain⟨f0,f1,f2,f3,f4,f5⟩:=hf it (by simp);refine wpAny_pyNext_list_item st p.isList (x:=u) (by simpa using hu) fun h' st' sb=>?_;have I1:Inv X pins σ H { s with heap:=h' }:=I.turned (t':=s.toks) (fun b o hb e=>(sb.2 b hb).trans e) f0 f1 f3 f4 f5;obtain⟨o,e,c,d⟩:=id st';exact⟨u,rfl,g8_ (s:={ s with heap:=h' }) e c d (by decide) ⟨x,H,I1,ru,⟨rfl,fun ys hy=>by rw[I.list_inj hy hq];exact hx⟩,st',fun b hb=>(hf b hb).1⟩⟩
 done:=by
  intro X hP hw hK hc i pins s σ H E I hf st hg;subst hP hw hK;obtain⟨xs,hq,hx⟩:=hg;obtain⟨its,rv,p,hz⟩:=I.list hq;obtain⟨f0,f1,f2,f3,f4,f5⟩:=hf it (by simp);have hl:=rv.length;exact wpAny_pyNext_list_end (I.ok.hd hc) st p.isList (by simp;omega) fun h' eb=>⟨rfl,I.turned (t':=s.toks) (fun b o hb e=>eb b o hb e) f0 f1 f3 f4 f5⟩
 self:=fun _ _ _ _ _ st h=>wpAny_pyIter_listiter st h
theorem f7_{P:Program}{w:World}{K:F__}{tg:Expr}(it:Addr)(lo:Int)(n:Nat):Turn P w K tg (Itr lo n) [it] it (fun i h=>IsRangeIter h it (lo+(i:Nat) * 1) ((n:Int) - (i:Nat)) 1) where
 mem:=by simp
 obj:=fun i h st b hb=>by
  have e:b=it:=by simpa using hb
  subst e
  exact⟨_,st,fun v z=>by
   have z':Data.fields _=Data.cell v:=z;cases z'⟩
 keep:=fun i h h' st k=>k it (by simp) _ st
 item:=by
  intro X hP hw hK hc i pins s σ H E I hf st hg;subst hP hw hK;obtain⟨f0,f1,f2,f3,f4,f5⟩:=hf it (by simp);have W:=Walks.range (prog:=X.prog) (w:=X.w) (I.ok.hd hc) it lo 1 n;refine W.item i s _ _ hg st fun v h' tk hv st' kk=>?_;obtain⟨t,rfl⟩:=hv;have I1:Inv X pins σ H { s with heap:=h',toks:=tk }:=I.turned (fun b o hb e=>kk b o (by simpa using hb) e) f0 f1 f3 f4 f5;refine⟨_,rfl,g8_ (s:={ s with heap:=h',toks:=tk }) (n:="range_iterator") st' rfl rfl (by decide) ⟨.int (lo+i),H,I1,⟨t,?_⟩,⟨rfl,rfl⟩,st',fun b hb=>(hf b hb).1⟩⟩;rw[Int.mul_one]
 done:=by
  intro X hP hw hK hc i pins s σ H E I hf st hg;subst hP hw hK;obtain⟨f0,f1,f2,f3,f4,f5⟩:=hf it (by simp);exact wpAny_pyNext_range_end (I.ok.hd hc) st (by have:n<=i:=hg;omega) fun h' eb=>⟨rfl,I.turned (t':=s.toks) (fun b o hb e=>eb b o hb e) f0 f1 f3 f4 f5⟩
 self:=fun _ _ _ _ _ st h=>wpAny_pyIter_rangeiter st h
end L2
namespace L2
open PySem PySem.Spec PyProof.Rows
section
variable{X:Cx}{tg:Expr}
def iList(K:F__)(tl:TE):TI:=fun σ H R=>tl σ H fun x H1=>∃a,x=.ref a/\(∃xs,SqL K H1 a xs)/\R (Itl K a) H1
theorem ak_{l:Expr}{tl:TE}(hl:PE X l tl):PI X tg l (iList X.K tl):=by
 intro pins s σ H R I h;refine thn (hl pins s σ H _ I h) fun v s1 ⟨x,H1,I1,r1,q1⟩=>?_;obtain⟨a,e,⟨xs,hq⟩,q⟩:=q1;subst e;cases r1;obtain⟨its,rv,p,hz⟩:=I1.list hq;refine wpAny_pyIter_list p.isList ?_;refine⟨s1.heap.objs.size,[s1.heap.objs.size],_,_,H1,rfl,I1.kept (t':=s1.toks) fun b o e=>Heap.get?_push_of_some _ e,g5_ a _,⟨_,Heap.get?_push_size _ rfl,rfl,rfl⟩,fun b hb=>?_,q⟩;have e:b=s1.heap.objs.size:=by simpa using hb
 subst e;exact I1.fpOk (af' _) (I1.hok.fresh (af' _))
theorem h2_{pins:List (Addr × Obj)}{σ:St}{H:Hp}{s:Shared}{R:It->Hp->Prop}{E:Value->Shared->Prop}{lo hi:Int}{t u v:Tok}{tk:Nat}(I:Inv X pins σ H s)(h1:-(2 ^ 62)<=lo)(h2:lo<2 ^ 62)(h3:-(2 ^ 62)<=hi)(h4:hi<2 ^ 62)
  (q:R (Itr lo (hi - lo).toNat) H):wpAny (model X.prog X.w) X.A (pyIter (.ref s.heap.objs.size)) (PIE X pins σ tg R) E { s with heap:=s.heap.push { cls:=.type "range",data:=.fields #[.int lo t,.int hi u,.int 1 v] },toks:=tk }:=by
 refine wpAny_pyIter_range (IsRange.new ..) (small_one h1 h2 h3 h4) ?_;have I1:Inv X pins σ H { s with heap:=s.heap.push { cls:=.type "range",data:=.fields #[.int lo t,.int hi u,.int 1 v] },toks:=tk }:=I.kept fun b o e=>Heap.get?_push_of_some _ e
 refine⟨(s.heap.push { cls:=.type "range",data:=.fields #[.int lo t,.int hi u,.int 1 v] }).objs.size,[(s.heap.push { cls:=.type "range",data:=.fields #[.int lo t,.int hi u,.int 1 v] }).objs.size],_,_,H,rfl,
  I1.kept (t':=tk) fun b o e=>Heap.get?_push_of_some _ e,f7_ _ lo (hi - lo).toNat,?_,fun b hb=>?_,q⟩
 ·have e1:lo+((0:Nat):Int) * 1=lo:=by simp
  have e2:(((hi - lo).toNat:Nat):Int) - ((0:Nat):Int)=Builtin.Range.rangeSize lo hi 1:=by rw[rangeSize_one];split<;>omega
  show IsRangeIter _ _ (lo+((0:Nat):Int) * 1) ((((hi - lo).toNat:Nat):Int) - ((0:Nat):Int)) 1;rw[e1,e2];exact Heap.get?_push_size _ rfl
 ·have e:b=(s.heap.push { cls:=.type "range",data:=.fields #[.int lo t,.int hi u,.int 1 v] }).objs.size:=by simpa using hb
  subst e;exact I1.fpOk (af' _) (I1.hok.fresh (af' _))
def iRng1(ta:TA):TI:=fun σ H R=>ta σ H fun vs H1=>∃j:Int,vs=[.int j]/\-(2 ^ 62)<=j/\j<2 ^ 62/\R (Itr 0 j.toNat) H1
theorem bP_{a:Expr}{ta:TA}{p pos:Pos}(hg:Gl X "range")(hm:X.mg "range"=none)(ha:PA X [a] ta)(hs:starEach [a] X.env=[(false,eval a X.env)]:=by rfl):PI X tg (.Call (.Name "range" p) [a] [] pos) (iRng1 ta):=by
 intro pins s σ H R I h;refine Call_ (bH_ I hg hm boot_range (PyProof.Rows.callWith_type1 (thn (ha pos pins s σ H _ I h) fun us s1 ⟨vs,H1,I1,r1,q1⟩=>?_) hs rfl));obtain⟨j,e,q1,q2,q⟩:=q1;subst e;cases r1 with
 |cons r rr=>
  cases rr;obtain⟨t,rfl⟩:=r;exact call_range_1 (h2_ I1 (by omega) (by omega) q1 q2 (by simpa using q))
def tFor(wi:TI)(g:TG)(tb:TS):TS:=fun D σ H=>wi σ H fun J H1=>∃W:Nat->Nat->St->Hp->Prop,(∃m,W 0 m σ H1)/\∀i m σ H,W i m σ H->
 (J.stop i H/\D.nx σ H)∨(J.go i H/\∃N:St->Hp->Prop,(∀σ' H',N σ' H'->∃m',m'<m/\W (i+1) m' σ' H')/\∀x H',J.yld i H x H'->g x σ H' fun σ2 H2=>tb { D with nx:=N,ct:=N,bk:=D.nx } σ2 H2)
def bL'(fp:List Addr)(h:Heap):List (Addr × Obj):=fp.filterMap fun b=>(h.get? b).map fun o=>(b,o)
theorem bz_{fp:List Addr}{h:Heap}{b:Addr}{o:Obj}(hb:b∈fp)(e:h.get? b=some o):(b,o)∈bL' fp h:=aN'.mpr ⟨b,hb,by rw[e];rfl⟩
theorem gW_{fp:List Addr}{h:Heap}{p:Addr × Obj}(hp:p∈bL' fp h):p.1∈fp/\h.get? p.1=some p.2:=by
 obtain⟨b,hb,e⟩:=aN'.mp hp;cases q:h.get? b with
 |none=>rw[q] at e;cases e
 |some o=>
  rw[q] at e;have e':(b,o)=p:=Option.some.inj e;subst e';exact⟨hb,q⟩
theorem Inv.pinned{pins:List (Addr × Obj)}{σ:St}{H:Hp}{s:Shared}{fp:List Addr}(I:Inv X pins σ H s)(hf:∀b∈fp,FpOk X pins H b)(ho:∀b∈fp,∃o,s.heap.get? b=some o/\∀v,o.data≠.cell v):Inv X (pins++bL' fp s.heap) σ H s:=
 I.pins_of fun p hp=>(au'.mp hp).elim (fun z=>I.pin p (aA' _ z)) fun z=>by
  obtain⟨hb,e⟩:=gW_ z;obtain⟨f0,f1,f2,_⟩:=hf p.1 hb;obtain⟨o,e',d⟩:=ho p.1 hb;rw[e] at e';cases e';exact⟨e,f0,f1,f2,d⟩
theorem Inv.unpinned{pins pl:List (Addr × Obj)}{σ:St}{H:Hp}{s:Shared}(I:Inv X (pins++pl) σ H s):Inv X pins σ H s:=I.pins_of fun p hp=>I.pin p (aA' _ (List.mem_append_left _ hp))
theorem aK_{iter:Expr}{body:List Stmt}{wi:TI}{g:TG}{tb:TS}{pos:Pos}(hp:PassesOwn (model X.prog X.w) X.A X.env X.xe)(hc:X.calm=true)(hi:PI X tg iter wi)(hg:PG X tg g)(hb:PSs X body tb)
  (hs:∀x,foldedSetIterable iter X.env x=pure x:=by intro _;rfl):PS X (.For tg iter body [] pos) (tFor wi g tb):=by
 intro pins s σ H D I h;refine wpAny_For (thn (hi pins s σ H _ I h) fun v s1 h1=>thn h1 fun itv s2 h2=>?_) hs;obtain⟨it,fp,tn,J,H2,e,I2,T,st2,f2,W,⟨m0,w0⟩,turn⟩:=h2;subst e;have stat:∀{H':Hp},(∀b∈fp,H' b=none)->∀b∈fp,FpOk X pins H' b:=fun hn b hb=>⟨hn b hb,(f2 b hb).2⟩;refine codeAny_forLoop_any (fun n s'=>∃i σ' H',Inv X pins σ' H' s'/\tn i s'.heap/\(∀b∈fp,H' b=none)/\W i n σ' H') ?_ m0 ⟨0,σ,H2,I2,st2,fun b hb=>(f2 b hb).1,w0⟩;rintro n s3 ⟨i,σ3,H3,I3,st3,fr3,w3⟩;rcases turn i n σ3 H3 w3 with⟨stop,qn⟩|⟨go,N,hN,step⟩
 ·refine wpAny_passesOwn hp (thn (T.done X rfl rfl rfl hc i pins s3 σ3 H3 X.xe I3 (stat fr3) st3 stop) fun r s4 ⟨hr,I4⟩=>?_);subst hr;exact wpAny_execs_nil ⟨σ3,H3,I4,qn⟩
 ·refine wpAny_passesOwn hp (thn (T.item X rfl rfl rfl hc i pins s3 σ3 H3 X.xe I3 (stat fr3) st3 go) fun r s4 ⟨u,hr,h4⟩=>?_);subst hr;refine wpAny_passesOwn hp (thn h4 fun _ s5 ⟨x,H5,I5,r5,y5,st5,fr5⟩=>?_);have I5':=I5.pinned (stat fr5) (T.obj _ _ st5);refine wpAny_passesOwn hp (thn (hg _ s5 σ3 H5 x u _ I5' r5 (step x H5 y5)) fun _ s6 ⟨σ6,H6,I6,q6⟩=>?_);refine wpAny_passesOwn hp (thn (hb _ s6 σ6 H6 _ I6 q6) fun f s7 q7=>?_)
  have again:∀{σ7:St} {H7:Hp},Inv X (pins++bL' fp s5.heap) σ7 H7 s7->N σ7 H7->∃m,m<n/\∃i σ' H',Inv X pins σ' H' s7/\tn i s7.heap/\(∀b∈fp,H' b=none)/\W i m σ' H':=fun {σ7 H7} I7 n7=>by
   obtain⟨m',hm,w7⟩:=hN σ7 H7 n7;refine⟨m',hm,i+1,σ7,H7,I7.unpinned,T.keep _ _ _ st5 fun b hb o e=>(I7.pin (b,o) (aA' _ (aA' _ (bz_ hb e)))).1,fun b hb=>?_,w7⟩;obtain⟨o,e,d⟩:=T.obj _ _ st5 b hb;exact (I7.pin (b,o) (aA' _ (aA' _ (bz_ hb e)))).2.1
  cases f with
  |next=>obtain⟨σ7,H7,I7,n7⟩:=q7;exact again I7 n7
  |cont=>obtain⟨σ7,H7,I7,n7⟩:=q7;exact again I7 n7
  |brk=>obtain⟨σ7,H7,I7,q7⟩:=q7;exact⟨σ7,H7,I7.unpinned,q7⟩
  |ret v=>obtain⟨x7,σ7,H7,I7,r7,q7⟩:=q7;exact⟨x7,σ7,H7,I7.unpinned,r7,q7⟩
end
theorem as_{K:F__}{a:Addr}{xs:List V}{g:TG}{tb:TS}{D:Ends}{σ:St}{H:Hp}(Pv:Nat->St->Hp->Prop)(h0:Pv 0 σ H)(hl:∀i σ H,i<=xs.length->Pv i σ H->SqL K H a xs)
  (hs:∀i x σ H,xs[i]? = some x->Pv i σ H->g x σ H fun σ2 H2=>tb { D with nx:=Pv (i+1),ct:=Pv (i+1),bk:=D.nx } σ2 H2) (hd:∀σ H,Pv xs.length σ H->D.nx σ H) :
  ∃W:Nat->Nat->St->Hp->Prop,(∃m,W 0 m σ H)/\∀i m σ H,W i m σ H->
   ((Itl K a).stop i H/\D.nx σ H)∨((Itl K a).go i H/\∃N:St->Hp->Prop,(∀σ' H',N σ' H'->∃m',m'<m/\W (i+1) m' σ' H')/\∀x H',(Itl K a).yld i H x H'->g x σ H' fun σ2 H2=>tb { D with nx:=N,ct:=N,bk:=D.nx } σ2 H2):=by
 refine⟨fun i m σ H=>m=xs.length - i/\i<=xs.length/\Pv i σ H,⟨xs.length,by simp,aE' _,h0⟩,?_⟩;rintro i m σ H ⟨rfl,hi,p⟩;have q:=hl i σ H hi p;by_cases hlt:i<xs.length
 ·refine .inr ⟨⟨xs,xs[i],q,by simp[hlt]⟩,Pv (i+1),fun σ' H' p'=>⟨xs.length - (i+1),by omega,rfl,hlt,p'⟩,fun x H' y=>?_⟩;obtain⟨e,y⟩:=y;subst e;exact hs i x σ _ (y xs q) p
 ·have e:i=xs.length:=by omega
  subst e;exact .inl ⟨⟨xs,q,af' _⟩,hd σ H p⟩
theorem gI_{lo:Int}{n:Nat}{g:TG}{tb:TS}{D:Ends}{σ:St}{H:Hp}(Pv:Nat->St->Hp->Prop)(h0:Pv 0 σ H)
  (hs:∀i σ H,i<n->Pv i σ H->g (.int (lo+i)) σ H fun σ2 H2=>tb { D with nx:=Pv (i+1),ct:=Pv (i+1),bk:=D.nx } σ2 H2) (hd:∀σ H,Pv n σ H->D.nx σ H) :
  ∃W:Nat->Nat->St->Hp->Prop,(∃m,W 0 m σ H)/\∀i m σ H,W i m σ H->
   ((Itr lo n).stop i H/\D.nx σ H)∨((Itr lo n).go i H/\∃N:St->Hp->Prop,(∀σ' H',N σ' H'->∃m',m'<m/\W (i+1) m' σ' H')/\∀x H',(Itr lo n).yld i H x H'->g x σ H' fun σ2 H2=>tb { D with nx:=N,ct:=N,bk:=D.nx } σ2 H2):=by
 refine⟨fun i m σ H=>m=n - i/\i<=n/\Pv i σ H,⟨n,by simp,aE' _,h0⟩,?_⟩;rintro i m σ H ⟨rfl,hi,p⟩;by_cases hlt:i<n
 ·refine .inr ⟨hlt,Pv (i+1),fun σ' H' p'=>⟨n - (i+1),by omega,rfl,hlt,p'⟩,fun x H' y=>?_⟩;obtain⟨e,y⟩:=y;subst e y;exact hs i σ _ hlt p
 ·have e:i=n:=by omega
  subst e;exact .inl ⟨af' _,hd σ H p⟩
theorem hp_{c:TT}{tb:TS}{D:Ends}{σ:St}{H:Hp}(Pv:St->Hp->Prop)(μ:St->Hp->Nat)(h0:Pv σ H)
  (hs:∀σ H,Pv σ H->c σ H fun b H1=>if b=true then tb { D with nx:=fun σ' H'=>Pv σ' H'/\μ σ' H'<μ σ H,ct:=fun σ' H'=>Pv σ' H'/\μ σ' H'<μ σ H,bk:=D.nx } σ H1 else D.nx σ H1)
  (mono:∀σ H Q Q',(∀b H1,Q b H1->Q' b H1)->c σ H Q->c σ H Q'):tWhile c tb D σ H:=by
 refine⟨fun m σ H=>m=μ σ H/\Pv σ H,⟨_,rfl,h0⟩,?_⟩;rintro m σ H ⟨rfl,p⟩;refine mono σ H _ _ (fun b H1 q=>?_) (hs σ H p);cases b with
 |true=>exact⟨_,fun σ' H' ⟨p',l⟩=>⟨_,l,rfl,p'⟩,q⟩
 |false=>exact q
end L2
namespace L2
open PySem PySem.Spec PyProof.Rows
abbrev R2:=V->V->Hp->VK->Prop
def OpR(X:Cx)(f:Value->Value->Sem Value)(r:R2):Prop:=
 ∀(pins:List (Addr × Obj)) (s:Shared) (σ:St) (H:Hp) (x y:V) (v u:Value) (Q:VK),Inv X pins σ H s->RelV x v->RelV y u->r x y H Q->
  wpAny (model X.prog X.w) X.A (f v u) (EP X pins σ Q) X.xe s
def UnR(X:Cx)(f:Value->Sem Value)(r:V->Hp->VK->Prop):Prop:=
 ∀(pins:List (Addr × Obj)) (s:Shared) (σ:St) (H:Hp) (x:V) (v:Value) (Q:VK),Inv X pins σ H s->RelV x v->r x H Q->
  wpAny (model X.prog X.w) X.A (f v) (EP X pins σ Q) X.xe s
def br'(X:Cx)(f:Value)(r:List V->Hp->VK->Prop):Prop:=
 ∀(pins:List (Addr × Obj)) (s:Shared) (σ:St) (H:Hp) (xs:List V) (us:List Value) (Q:VK),Inv X pins σ H s->Vals xs us->r xs H Q->
  wpAny (model X.prog X.w) X.A (call f us) (EP X pins σ Q) X.xe s
def tOp(r:R2)(ta tb:TE):TE:=fun σ H Q=>ta σ H fun x H1=>tb σ H1 fun y H2=>r x y H2 Q
def tUn(r:V->Hp->VK->Prop)(ta:TE):TE:=fun σ H Q=>ta σ H fun x H1=>r x H1 Q
def rI(C:Int->Int->Prop)(g:Int->Int->V):R2:=fun x y H Q=>∃i j,x=.int i/\y=.int j/\C i j/\Q (g i j) H
def rI0(g:Int->Int->V):R2:=fun x y H Q=>∃i j,x=.int i/\y=.int j/\Q (g i j) H
def rU(g:Int->V):V->Hp->VK->Prop:=fun x H Q=>∃i,x=.int i/\Q (g i) H
section
variable{X:Cx}{a b c:Expr}{ta tb tc:TE}{pos:Pos}
theorem binT(ha:PE X a ta)(hb:PE X b tb){pins:List (Addr × Obj)}{s:Shared}{σ:St}{H:Hp}{R:V->V->Hp->Prop}(I:Inv X pins σ H s)
  (h:ta σ H fun x H1=>tb σ H1 fun y H2=>R x y H2) {Q:Value->Shared->Prop} {f:Value->Value->Sem Value}
  (hf:∀v u s2 x y H2,Inv X pins σ H2 s2->RelV x v->RelV y u->R x y H2->wpAny (model X.prog X.w) X.A (f v u) Q X.xe s2) :
  wpAny (model X.prog X.w) X.A (eval a X.env) (fun v s₁=>wpAny (model X.prog X.w) X.A (eval b X.env) (fun u s₂=>wpAny (model X.prog X.w) X.A (f v u) Q X.xe s₂) X.xe s₁) X.xe s:=by
 refine thn (ha pins s σ H _ I h) fun v s1 ⟨x,H1,I1,r1,q1⟩=>?_;refine thn (hb pins s1 σ H1 _ I1 q1) fun u s2 ⟨y,H2,I2,r2,q2⟩=>?_;exact hf v u s2 x y H2 I2 r1 r2 q2
theorem aj_{op:Operator}{r:R2}(ho:OpR X (binaryOp op) r)(ha:PE X a ta)(hb:PE X b tb):PE X (.BinOp a op b pos) (tOp r ta tb):=by
 intro pins s σ H Q I h;exact wpAny_BinOp (binT ha hb I h fun v u s2 x y H2 I2 rx ry q=>ho pins s2 σ H2 x y v u Q I2 rx ry q)
theorem kr_{op:UnaryOp}{r:V->Hp->VK->Prop}(ho:UnR X (unaryOp op) r)(ha:PE X a ta):PE X (.UnaryOp op a pos) (tUn r ta):=by
 intro pins s σ H Q I h;exact UnaryOp_ (thn (ha pins s σ H _ I h) fun v s1 ⟨x,H1,I1,r1,q1⟩=>ho pins s1 σ H1 x v Q I1 r1 q1)
theorem opI{f:Value->Value->Sem Value}{C:Int->Int->Prop}{g:Int->Int->Int}
  (rule:∀(i j:Int) (t u:Tok) (s:Shared) (Q:Value->Shared->Prop) (E:Value->Shared->Prop),C i j->Q (.int (g i j) s.toks) { s with toks:=s.toks+1 }->wpAny (model X.prog X.w) X.A (f (.int i t) (.int j u)) Q E s) :
  OpR X f (rI C fun i j=>.int (g i j)):=by
 intro pins s σ H x y v u Q I rx ry h;obtain⟨i,j,rfl,rfl,hc,q⟩:=h;obtain⟨t,rfl⟩:=rx;obtain⟨t',rfl⟩:=ry;exact rule i j t t' s _ _ hc ⟨.int (g i j),H,I.tok _,⟨_,rfl⟩,q⟩
theorem opI0{f:Value->Value->Sem Value}{g:Int->Int->Int}
  (rule:∀(i j:Int) (t u:Tok) (s:Shared) (Q:Value->Shared->Prop) (E:Value->Shared->Prop),Q (.int (g i j) s.toks) { s with toks:=s.toks+1 }->wpAny (model X.prog X.w) X.A (f (.int i t) (.int j u)) Q E s) :
  OpR X f (rI0 fun i j=>.int (g i j)):=by
 intro pins s σ H x y v u Q I rx ry h;obtain⟨i,j,rfl,rfl,q⟩:=h;obtain⟨t,rfl⟩:=rx;obtain⟨t',rfl⟩:=ry;exact rule i j t t' s _ _ ⟨.int (g i j),H,I.tok _,⟨_,rfl⟩,q⟩
theorem opB0{f:Value->Value->Sem Value}{g:Int->Int->Bool}
  (rule:∀(i j:Int) (t u:Tok) (s:Shared) (Q:Value->Shared->Prop) (E:Value->Shared->Prop),Q (.bool (g i j)) s->wpAny (model X.prog X.w) X.A (f (.int i t) (.int j u)) Q E s) :
  OpR X f (rI0 fun i j=>.bl (g i j)):=by
 intro pins s σ H x y v u Q I rx ry h;obtain⟨i,j,rfl,rfl,q⟩:=h;obtain⟨t,rfl⟩:=rx;obtain⟨t',rfl⟩:=ry;exact rule i j t t' s _ _ ⟨.bl (g i j),H,I,rfl,q⟩
def CDiv(i j:Int):Prop:=0<j/\j<1073741824
def CPow(i j:Int):Prop:=0<=j/\j<=1000000/\i.natAbs<2 ^ 64
def CMul(i j:Int):Prop:=(-(2 ^ 64)<i/\i<2 ^ 64)∨(-(2 ^ 64)<j/\j<2 ^ 64)
theorem CMul.ok{i j:Int}(h:CMul i j):IntMulOk i j:=by
 rcases h with⟨h1,h2⟩|⟨h1,h2⟩
 ·exact .of_left (intBits_le_64 h1 h2)
 ·exact .of_right (intBits_le_64 h1 h2)
theorem b1_:OpR X (binaryOp .Add) (rI0 fun i j=>.int (i+j)):=opI0 fun _ _ _ _ _ _ _ q=>add_int q
theorem in_:OpR X (binaryOp .Sub) (rI0 fun i j=>.int (i - j)):=opI0 fun _ _ _ _ _ _ _ q=>sub_int q
theorem b6_:OpR X (binaryOp .Mult) (rI CMul fun i j=>.int (i * j)):=opI fun _ _ _ _ _ _ _ hc q=>mul_int q hc.ok
theorem bt_:OpR X (binaryOp .FloorDiv) (rI CDiv fun i j=>.int (i / j)):=opI fun i j _ _ _ _ _ hc q=>by
 have h1:(0:Int)<j:=hc.1;have h2:j<1073741824:=hc.2;exact floordiv_int (by omega) (by rw[Int.fdiv_eq_ediv_of_nonneg i (by omega)];exact q) (.inl (PyProof.noPylong_small (by omega)))
theorem bw_:OpR X (binaryOp .Mod) (rI (fun _ j=>0<j) fun i j=>.int (i % j)):=opI fun i j _ _ _ _ _ hc q=>by
 have h1:(0:Int)<j:=hc;exact mod_int' (by omega) (by rw[Int.fmod_eq_emod_of_nonneg i (by omega)];exact q)
theorem ib_:OpR X (binaryOp .Pow) (rI CPow fun i j=>.int (i ^ j.toNat)):=opI fun _ _ _ _ _ _ _ hc q=>pow_int_small hc.1 hc.2.1 hc.2.2 q
theorem unI{f:Value->Sem Value}{g:Int->Int}
  (rule:∀(i:Int) (t:Tok) (s:Shared) (Q:Value->Shared->Prop) (E:Value->Shared->Prop),Q (.int (g i) s.toks) { s with toks:=s.toks+1 }->wpAny (model X.prog X.w) X.A (f (.int i t)) Q E s) :
  UnR X f (rU fun i=>.int (g i)):=by
 intro pins s σ H x v Q I rx h;obtain⟨i,rfl,q⟩:=h;obtain⟨t,rfl⟩:=rx;exact rule i t s _ _ ⟨.int (g i),H,I.tok _,⟨_,rfl⟩,q⟩
theorem km_:UnR X (unaryOp .USub) (rU fun i=>.int (-i)):=unI fun _ _ _ _ _ q=>neg_int q
end
def scal:V->V->Bool
 |.non,.non=>true | .non,.int _=>true | .int _,.non=>true | .non,.bl _=>true | .bl _,.non=>true | .non,.str _=>true | .str _,.non=>true
 |.int _,.int _=>true | .bl _,.bl _=>true | .str _,.str _=>true | .byt _,.byt _=>true
 |.int _,.str _=>true | .str _,.int _=>true | .bl _,.str _=>true | .str _,.bl _=>true
 |_,_=>false
def rEq:R2:=fun x y H Q=>scal x y=true/\Q (.bl (decide (x=y))) H
def rNe:R2:=fun x y H Q=>scal x y=true/\Q (.bl (!decide (x=y))) H
theorem gi_{i j:Int}:decide (V.int i=V.int j)=(i == j):=by
 rw[Bool.eq_iff_iff];simp
theorem iq_{i j:Bool}:decide (V.bl i=V.bl j)=(i == j):=by
 rw[Bool.eq_iff_iff];simp
theorem gJ_{i j:Str}:decide (V.str i=V.str j)=(i == j):=by
 rw[Bool.eq_iff_iff];simp
theorem fI_{i j:Array UInt8}:decide (V.byt i=V.byt j)=(i.toList == j.toList):=by
 rw[Bool.eq_iff_iff];cases i;cases j;simp
section
variable{X:Cx}{a b c:Expr}{ta tb tc:TE}{pos:Pos}
theorem aA_{pins:List (Addr × Obj)}{σ:St}{H:Hp}{s:Shared}{Q:VK}{k k':Bool}(I:Inv X pins σ H s)(q:Q (.bl k) H)(e:k=k'):EP X pins σ Q (.bool k') s:=by
 subst e;exact⟨.bl k,H,I,rfl,q⟩
theorem cP_:OpR X (compareOp .Eq) rEq:=by
 intro pins s σ H x y v u Q I rx ry h;obtain⟨hs,q⟩:=h;cases x with
 |non=>
  cases rx;cases y with
  |non=>cases ry;exact PySem.EqNone.eq_none_none (aA_ I q (by simp))
  |bl j=>cases ry;exact PySem.EqNone.eq_none_bool (aA_ I q (by simp))
  |int j=>obtain⟨t',rfl⟩:=ry;exact PySem.EqNone.eq_none_int (aA_ I q (by simp))
  |str j=>obtain⟨t',rfl⟩:=ry;exact PySem.EqNone.eq_none_str (aA_ I q (by simp))
  |_=>exact absurd (show false=true from hs) aq'
 |bl i=>
  cases rx;cases y with
  |non=>cases ry;exact PySem.EqNone.eq_bool_none (aA_ I q (by simp))
  |bl j=>cases ry;exact eq_bool (aA_ I q iq_)
  |str j=>obtain⟨t',rfl⟩:=ry;exact PySem.EqMixed.eq_bool_str (aA_ I q (by simp))
  |_=>exact absurd (show false=true from hs) aq'
 |int i=>
  obtain⟨t,rfl⟩:=rx;cases y with
  |non=>cases ry;exact PySem.EqNone.eq_int_none (aA_ I q (by simp))
  |int j=>obtain⟨t',rfl⟩:=ry;exact eq_int (aA_ I q gi_)
  |str j=>obtain⟨t',rfl⟩:=ry;exact PySem.EqMixed.eq_int_str (aA_ I q (by simp))
  |_=>exact absurd (show false=true from hs) aq'
 |str i=>
  obtain⟨t,rfl⟩:=rx;cases y with
  |non=>cases ry;exact PySem.EqNone.eq_str_none (aA_ I q (by simp))
  |bl j=>cases ry;exact PySem.EqMixed.eq_str_bool (aA_ I q (by simp))
  |int j=>obtain⟨t',rfl⟩:=ry;exact PySem.EqMixed.eq_str_int (aA_ I q (by simp))
  |str j=>obtain⟨t',rfl⟩:=ry;exact eq_str (aA_ I q gJ_)
  |_=>exact absurd (show false=true from hs) aq'
 |byt i=>
  obtain⟨t,rfl⟩:=rx;cases y with
  |byt j=>obtain⟨t',rfl⟩:=ry;exact PySem.W.eq_bytes (aA_ I q fI_)
  |_=>exact absurd (show false=true from hs) aq'
 |_=>cases y<;>exact absurd (show false=true from hs) aq'
theorem ej_:OpR X (compareOp .NotEq) rNe:=by
 intro pins s σ H x y v u Q I rx ry h;obtain⟨hs,q⟩:=h;cases x with
 |non=>
  cases rx;cases y with
  |non=>cases ry;exact PySem.EqNone.ne_none_none (aA_ I q (by simp))
  |bl j=>cases ry;exact PySem.EqNone.ne_none_bool (aA_ I q (by simp))
  |int j=>obtain⟨t',rfl⟩:=ry;exact PySem.EqNone.ne_none_int (aA_ I q (by simp))
  |str j=>obtain⟨t',rfl⟩:=ry;exact PySem.EqNone.ne_none_str (aA_ I q (by simp))
  |_=>exact absurd (show false=true from hs) aq'
 |bl i=>
  cases rx;cases y with
  |non=>cases ry;exact PySem.EqNone.ne_bool_none (aA_ I q (by simp))
  |bl j=>cases ry;exact ne_bool (aA_ I q (congrArg not iq_))
  |str j=>obtain⟨t',rfl⟩:=ry;exact PySem.EqMixed.ne_bool_str (aA_ I q (by simp))
  |_=>exact absurd (show false=true from hs) aq'
 |int i=>
  obtain⟨t,rfl⟩:=rx;cases y with
  |non=>cases ry;exact PySem.EqNone.ne_int_none (aA_ I q (by simp))
  |int j=>obtain⟨t',rfl⟩:=ry;exact ne_int (aA_ I q (congrArg not gi_))
  |str j=>obtain⟨t',rfl⟩:=ry;exact PySem.EqMixed.ne_int_str (aA_ I q (by simp))
  |_=>exact absurd (show false=true from hs) aq'
 |str i=>
  obtain⟨t,rfl⟩:=rx;cases y with
  |non=>cases ry;exact PySem.EqNone.ne_str_none (aA_ I q (by simp))
  |bl j=>cases ry;exact PySem.EqMixed.ne_str_bool (aA_ I q (by simp))
  |int j=>obtain⟨t',rfl⟩:=ry;exact PySem.EqMixed.ne_str_int (aA_ I q (by simp))
  |str j=>obtain⟨t',rfl⟩:=ry;exact ne_str (aA_ I q (congrArg not gJ_))
  |_=>exact absurd (show false=true from hs) aq'
 |byt i=>
  obtain⟨t,rfl⟩:=rx;cases y with
  |byt j=>obtain⟨t',rfl⟩:=ry;exact PySem.W.ne_bytes (aA_ I q (congrArg not fI_))
  |_=>exact absurd (show false=true from hs) aq'
 |_=>cases y<;>exact absurd (show false=true from hs) aq'
theorem je_:OpR X (compareOp .Lt) (rI0 fun i j=>.bl (decide (i<j))):=opB0 fun _ _ _ _ _ _ _ q=>lt_int q
theorem eo_:OpR X (compareOp .LtE) (rI0 fun i j=>.bl (decide (i<=j))):=opB0 fun _ _ _ _ _ _ _ q=>le_int q
theorem dr_:OpR X (compareOp .Gt) (rI0 fun i j=>.bl (decide (j<i))):=opB0 fun _ _ _ _ _ _ _ q=>gt_int q
theorem jX_:OpR X (compareOp .GtE) (rI0 fun i j=>.bl (decide (j<=i))):=opB0 fun _ _ _ _ _ _ _ q=>ge_int q
theorem fJ_:OpR X (compareOp .Lt) (fun x y H Q=>∃i j,x=.str i/\y=.str j/\Q (.bl (decide (i.cps.toList<j.cps.toList))) H):=by
 intro pins s σ H x y v u Q I rx ry h;obtain⟨i,j,rfl,rfl,q⟩:=h;obtain⟨t,rfl⟩:=rx;obtain⟨t',rfl⟩:=ry;exact lt_str (aA_ I q rfl)
theorem id_:OpR X (compareOp .Is) (fun x y H Q=>y=.non/\Q (.bl (decide (x=.non))) H):=by
 intro pins s σ H x y v u Q I rx ry h;obtain⟨rfl,q⟩:=h;cases ry;refine is_none_gen (aA_ I q ?_)
 cases x<;>first
  |(cases rx;rfl)
  |(obtain⟨t,rfl⟩:=rx;rfl)
theorem iW_:OpR X (compareOp .IsNot) (fun x y H Q=>y=.non/\Q (.bl (!decide (x=.non))) H):=by
 intro pins s σ H x y v u Q I rx ry h;obtain⟨rfl,q⟩:=h;cases ry;refine isnot_none_gen (aA_ I q ?_)
 cases x<;>first
  |(cases rx;rfl)
  |(obtain⟨t,rfl⟩:=rx;rfl)
theorem nomark(b:Expr){op:CmpOp}(h:op≠.In:=by decide)(h2:op≠.NotIn:=by decide):behindInMarks op b=false:=by
 have e1:(op == CmpOp.In)=false:=by cases op<;>first|rfl|exact absurd rfl h
 have e2:(op == CmpOp.NotIn)=false:=by cases op<;>first|rfl|exact absurd rfl h2
 cases b<;>simp[behindInMarks,e1,e2]
theorem aG_{op:CmpOp}{r:R2}(ho:OpR X (compareOp op) r)(ha:PE X a ta)(hb:PE X b tb)(hm:behindInMarks op b=false):PE X (.Compare a [op] [b] pos) (tOp r ta tb):=by
 intro pins s σ H Q I h;exact wpAny_Compare1 (binT ha hb I h fun v u s2 x y H2 I2 rx ry q=>ho pins s2 σ H2 x y v u Q I2 rx ry q) hm
def tTest(t:TE):TT:=fun σ H Q=>t σ H fun x H'=>∃k,x=.bl k/\Q k H'
theorem an_{op:CmpOp}{r:R2}(ho:OpR X (compareOp op) r)(ha:PE X a ta)(hb:PE X b tb)(hm:behindInMarks op b=false):PT X (.Compare a [op] [b] pos) (tTest (tOp r ta tb)):=by
 intro pins s σ H Q I h
 refine wpAny_isTrue_Compare1 (thn (ha pins s σ H _ I h) fun v s1 ⟨x,H1,I1,r1,q1⟩=>thn (hb pins s1 σ H1 _ I1 q1) fun u s2 ⟨y,H2,I2,r2,q2⟩=>
  thn (ho pins s2 σ H2 x y v u _ I2 r1 r2 q2) fun c s3 ⟨z,H3,I3,r3,k,e,q3⟩=>?_) hm
 subst e;cases r3;exact wpAny_truthy_bool ⟨H3,I3,q3⟩
def tChain(r r':R2)(ta tb tc:TE):TE:=fun σ H Q=>ta σ H fun x H1=>tb σ H1 fun y H2=>r x y H2 fun z H3=>∃k,z=.bl k /\
 (if k=true then tc σ H3 fun w' H4=>r' y w' H4 Q else Q (.bl false) H3)
theorem f2_{op op':CmpOp}{r r':R2}(ho:OpR X (compareOp op) r)(ho':OpR X (compareOp op') r')(ha:PE X a ta)(hb:PE X b tb)(hc:PE X c tc)
  (hm:lastMarks [op,op'] [b,c]=false:=by with_unfolding_all rfl):PE X (.Compare a [op,op'] [b,c] pos) (tChain r r' ta tb tc):=by
 intro pins s σ H Q I h
 refine Compare_chain (thn (ha pins s σ H _ I h) fun v s1 ⟨x,H1,I1,r1,q1⟩=>chain_link (thn (hb pins s1 σ H1 _ I1 q1) fun u s2 ⟨y,H2,I2,r2,q2⟩=>
  thn (ho pins s2 σ H2 x y v u _ I2 r1 r2 q2) fun d s3 ⟨z,H3,I3,r3,k,e,q3⟩=>?_)) hm
 subst e;cases r3;refine wpAny_truthy_bool ?_;cases k with
 |false=>exact ite_ff ⟨.bl false,H3,I3,rfl,q3⟩
 |true=>exact ite_tt (chain_last (thn (hc pins s3 σ H3 _ I3 q3) fun w' s4 ⟨z',H4,I4,r4,q4⟩=>ho' pins s4 σ H4 y z' u w' Q I4 r2 r4 q4))
theorem f0_{op op':CmpOp}{r r':R2}(ho:OpR X (compareOp op) r)(ho':OpR X (compareOp op') r')(ha:PE X a ta)(hb:PE X b tb)(hc:PE X c tc)
  (hm:lastMarks [op,op'] [b,c]=false:=by with_unfolding_all rfl):PT X (.Compare a [op,op'] [b,c] pos) (tTest (tChain r r' ta tb tc)):=by
 intro pins s σ H Q I h
 refine isTrue_chain (thn (ha pins s σ H _ I h) fun v s1 ⟨x,H1,I1,r1,q1⟩=>test_link (thn (hb pins s1 σ H1 _ I1 q1) fun u s2 ⟨y,H2,I2,r2,q2⟩=>
  thn (ho pins s2 σ H2 x y v u _ I2 r1 r2 q2) fun d s3 ⟨z,H3,I3,r3,k,e,q3⟩=>?_)) hm
 subst e;cases r3;refine wpAny_truthy_bool ?_;cases k with
 |false=>
  obtain⟨k',e',q'⟩:=q3;cases e';exact ite_ff ⟨H3,I3,q'⟩
 |true=>
  refine ite_tt (test_last (thn (hc pins s3 σ H3 _ I3 q3) fun w' s4 ⟨z',H4,I4,r4,q4⟩=>thn (ho' pins s4 σ H4 y z' u w' _ I4 r2 r4 q4) fun d' s5 ⟨z2,H5,I5,r5,k2,e2,q5⟩=>?_));subst e2;cases r5;exact wpAny_truthy_bool ⟨H5,I5,q5⟩
theorem line63:(sizeLine:Nat)<2 ^ 63:=by rw[sizeLine_eq];decide
theorem bx_:OpR X (binaryOp .Add) (fun x y H Q=>∃i j,x=.str i/\y=.str j/\i.length+j.length<=sizeLine/\Q (.str (i++j)) H):=by
 intro pins s σ H x y v u Q I rx ry h;obtain⟨i,j,rfl,rfl,hz,q⟩:=h;obtain⟨t,rfl⟩:=rx;obtain⟨t',rfl⟩:=ry;exact add_str (fun t' tk=>⟨.str (i++j),H,I.tok _,⟨_,rfl⟩,q⟩) hz
theorem vals1{x:V}{us:List Value}(r:Vals [x] us):∃u,us=[u]/\RelV x u:=by
 cases r with
 |cons r1 r2=>cases r2;exact⟨_,rfl,r1⟩
theorem vals2{x y:V}{us:List Value}(r:Vals [x,y] us):∃u w',us=[u,w']/\RelV x u/\RelV y w':=by
 cases r with
 |cons r1 r2=>
  cases r2 with
  |cons r3 r4=>cases r4;exact⟨_,_,rfl,r1,r3⟩
theorem gz_(hc:X.calm=true):br' X (.builtin "max") (fun xs H Q=>∃i j,xs=[.int i,.int j]/\Q (.int (if j > i then j else i)) H):=by
 intro pins s σ H xs us Q I r h;obtain⟨i,j,rfl,q⟩:=h;obtain⟨u,w',rfl,⟨t,rfl⟩,⟨t',rfl⟩⟩:=vals2 r;refine max_two_ints (I.ok.hd hc) fun h' tk k=>⟨_,H,I.kept k,?_,q⟩;by_cases hj:j > i
 ·rw[if_pos hj,if_pos hj];exact⟨_,rfl⟩
 ·rw[if_neg hj,if_neg hj];exact⟨_,rfl⟩
theorem gm_(hc:X.calm=true):br' X (.builtin "min") (fun xs H Q=>∃i j,xs=[.int i,.int j]/\Q (.int (if j<i then j else i)) H):=by
 intro pins s σ H xs us Q I r h;obtain⟨i,j,rfl,q⟩:=h;obtain⟨u,w',rfl,⟨t,rfl⟩,⟨t',rfl⟩⟩:=vals2 r;refine min_two_ints (I.ok.hd hc) fun h' tk k=>⟨_,H,I.kept k,?_,q⟩;by_cases hj:j<i
 ·rw[if_pos hj,if_pos hj];exact⟨_,rfl⟩
 ·rw[if_neg hj,if_neg hj];exact⟨_,rfl⟩
theorem bR_:br' X (.type "int") (fun xs H Q=>(∃i,xs=[.int i]/\Q (.int i) H)∨∃k,xs=[.bl k]/\Q (.int (if k then 1 else 0)) H):=by
 intro pins s σ H xs us Q I r h;rcases h with⟨i,rfl,q⟩|⟨k,rfl,q⟩
 ·obtain⟨u,rfl,t,rfl⟩:=vals1 r;exact call_int_int ⟨.int i,H,I,⟨_,rfl⟩,q⟩
 ·obtain⟨u,rfl,r1⟩:=vals1 r;cases r1;exact call_int_bool ⟨.int (if k then 1 else 0),H,I.tok _,⟨_,rfl⟩,q⟩
end
end L2
namespace L2
open PySem PySem.Spec PyProof.Rows
structure ObjM (h:Heap) (x dx C:Addr) (mA:Str->Option Value):Prop where
 obj:h.get? x=some (PySem.W.instObj C dx)
 ns:h.Ns1 dx mA
 ne:dx≠x
theorem fU_{h:Heap}{dx:Addr}{mA:Str->Option Value}(n:h.Ns1 dx mA):∃od,h.get? dx=some od/\∀name,PySem.W.lookIn name od=some (mA name):=by
 obtain⟨o,es,ep,ho,hd,hk,_,hm⟩:=n;refine⟨o,ho,fun name=>?_⟩;have e:=hm name;unfold nsFind findBy at e;rw[<- Array.find?_toList] at e;unfold PySem.W.lookIn;rw[hd];dsimp only;split
 ·rename_i y q
  rw[q] at e;exact congrArg some e
 ·rename_i q
  rw[q] at e
  have a:es.toList.any (·.refKey)=false:=by
   rw[List.any_eq_false];intro y hy;obtain⟨z,t,hkey⟩:=hk y (Array.mem_toList_iff.mp hy);simp[DictEntry.refKey,hkey]
  have a':¬es.toList.any (·.refKey)=true:=by rw[a];exact aq'
  rw[if_neg a'];exact congrArg some e
theorem ObjM.look{h:Heap}{x dx C:Addr}{mA:Str->Option Value}(I:ObjM h x dx C mA):∃od,PySem.W.InstAt h x (PySem.W.instObj C dx) C (some od)/\∀name,PySem.W.lookIn name od=some (mA name):=
 let ⟨od,ho,hl⟩:=fU_ I.ns
 ⟨od,⟨I.obj,rfl,rfl,ho⟩,hl⟩
section
variable{prog:Program}{w:World}{A:Around}{E:Value->Shared->Prop}{s:Shared}{K:F__}{x dx C f:Addr}{mA:Str->Option Value}{name:Str}{v:Value}
theorem iD_{expr:Bool}{Q:Value->Shared->Prop}(X:K.In s.heap)(I:ObjM s.heap x dx C mA)(hg:PySem.W.plainGet K C name=true)(hh:PySem.W.hasDictIn K C=true)
  (ha:PySem.W.findIn K (.ref C) name=some none) (hv:mA name=some v) (hv':PySem.W.handedIn v=true) (h:Q v { s with toks:=s.toks+1 }) :
  wpAny (model prog w) A (getAttr (.ref x) name expr) Q E s:=by
 obtain⟨od,J,hl⟩:=I.look;exact PySem.W.get_value X J (PySem.W.plainGet_of hg).1 (PySem.W.findObj_own hh ha rfl (by rw[hl,hv])) hv' h
theorem hB_{pl:Sem Bool}{Q:Value × List Value->Shared->Prop}(X:K.In s.heap)(I:ObjM s.heap x dx C mA)(hg:PySem.W.plainGet K C name=true)
  (hf:PySem.W.findIn K (.ref C) name=some (some (.ref f))) (ht:PySem.W.isFn K (.ref f)=true) (hv:mA name=none) (h:Q (.ref f,[.ref x]) s) :
  wpAny (model prog w) A (getMethod (.ref x) name pl) Q E s:=by
 obtain⟨od,J,hl⟩:=I.look;exact PySem.W.method_fn X J (PySem.W.plainGet_of hg).1 (PySem.W.plainGet_of hg).2 hf (beq_iff_eq.mp ht) (by show (PySem.W.lookIn name od).map (·.isSome)=some false;rw[hl,hv];rfl) h
theorem iN_{ns:List Str}{Q:Unit->Shared->Prop}(X:K.In s.heap)(I:ObjM s.heap x dx C mA)
  (hs:PySem.W.findIn K (.ref C) "__setattr__"=some (some (.builtin "object.__setattr__"))) (hp:PySem.W.plainOver K C=true) (ht:PySem.W.takerIn K C name=some none) (hh:PySem.W.hasDictIn K C=true)
  (hw:PySem.Within mA ns) (hsz:ns.length<=sizeLine)
  (h:∀h',ObjM h' x dx C (fun y=>if y=name then some v else mA y)->Heap.SameBut dx s.heap h'->Q () { s with heap:=h',toks:=s.toks+2 }) :
  wpAny (model prog w) A (setAttr (.ref x) name v) Q E s:=by
 obtain⟨od,J,hl⟩:=I.look;refine PySem.W.set_plain X J hs (PySem.W.osa_open (s:={ s with toks:=s.toks+1 }) (r:=none) X J hp ht fun b=>?_);obtain⟨cd,hc,hd'⟩:=PySem.W.any_some hh;have hx:s.heap.get? x=some ⟨.ref C,some dx,.plain,#[]⟩:=I.obj;refine wpAny_bind (wpAny_pure (wpAny_bind (wpAny_bind (wpAny_loadPart hx (wpAny_bind (PySem.W.Looks.here (s:={ s with toks:=s.toks+1 }) (PySem.W.looks_clsIn X hc) ?_))))));rw[hd'];refine wpAny_pure (a:=some dx) (wpAny_bind (wpAny_pure (wpAny_bind ?_)));refine wpAny_nsSet1 (s:={ s with toks:=s.toks+1 }) I.ns fun h' hn2 hs2=>?_;obtain⟨oD,esD,epD,hoD,hdD,hcD⟩:=hn2.count (PySem.Within.cons name v hw);refine wpAny_bind (wpAny_lookBehind hoD (by rw[hdD];exact pastItsLine_dict (aW' hcD (by rw[aC'];omega))) ?_);exact wpAny_pure (h _ ⟨(hs2.2 _ (Ne.symm I.ne)).trans I.obj,hn2,I.ne⟩ hs2)
theorem hx_{R:Result->Shared->Prop}{vs:List Value}{kw:List (Str × Value)}(X:K.In s.heap)(hm:PySem.W.makesIn K C=true)
  (hi:PySem.W.findIn K (.ref C) "__init__"=some (some (.ref f))) (hf:PySem.W.typeIn K (.ref f)=some (.type "function"))
  (h:codeAny (model prog w) (A.under (.builtin "type.__call__" ⟨.ref C::vs,kw⟩)) (.call (.ref f) ⟨.ref (s.heap.objs.size+1)::vs,kw⟩) (PySem.W.InitBack (s.heap.objs.size+1) R)
   { s with heap:=(s.heap.push PySem.W.emptyDict).push (PySem.W.instObj C s.heap.objs.size) }) :
  codeAny (model prog w) A (.call (.ref C) ⟨vs,kw⟩) R s:=by
 obtain⟨hh,g,d,t,os⟩:=s;exact PySem.W.make_core (PySem.W.makes_of X hm) (PySem.W.looks_findIn X hi) (fun self=>PySem.W.bind_fn X self hf) (.inl rfl) h
end
def putF(f:Str)(v:V):List (Str × V)->List (Str × V)
 |[]=>[(f,v)]
 |(g,x)::r=>if g=f then (g,v)::r else (g,x)::putF f v r
theorem a9_(f g:Str)(v:V):∀fs:List (Str × V),(putF f v fs).lookup g=if g=f then some v else fs.lookup g
 |[]=>by
  show List.lookup g [(f,v)]=_;by_cases h:g=f
  ·have hb:(g == f)=true:=beq_iff_eq.mpr h;simp only[List.lookup,hb,if_pos h]
  ·have hb:(g == f)=false:=beq_eq_false_iff_ne.mpr h;simp only[List.lookup,hb,if_neg h]
 |(k,x)::r=>by
  have ih:=a9_ f g v r;rw[show putF f v ((k,x)::r)=(if k=f then (k,v)::r else (k,x)::putF f v r) from rfl];by_cases hk:k=f
  ·rw[if_pos hk];by_cases h:g=k
   ·have hb:(g == k)=true:=beq_iff_eq.mpr h;simp only[List.lookup,hb,if_pos (h.trans hk)]
   ·have hb:(g == k)=false:=beq_eq_false_iff_ne.mpr h;simp only[List.lookup,hb,if_neg (fun e:g=f=>h (e.trans hk.symm))]
  ·rw[if_neg hk];by_cases h:g=k
   ·have hb:(g == k)=true:=beq_iff_eq.mpr h;simp only[List.lookup,hb,if_neg (fun e:g=f=>hk (h.symm.trans e))]
   ·have hb:(g == k)=false:=beq_eq_false_iff_ne.mpr h;simp only[List.lookup,hb];exact ih
theorem cx_(f:Str)(v:V):∀fs:List (Str × V),f∈(putF f v fs).map (·.1)/\∀g,g∈fs.map (·.1)->g∈(putF f v fs).map (·.1)
 |[]=>⟨by simp[putF],fun g h=>by simp at h⟩
 |(k,x)::r=>by
  obtain⟨i1,i2⟩:=cx_ f v r;rw[show putF f v ((k,x)::r)=(if k=f then (k,v)::r else (k,x)::putF f v r) from rfl];by_cases hk:k=f
  ·rw[if_pos hk];subst hk;exact⟨by simp,fun g h=>by simpa using h⟩
  ·rw[if_neg hk];refine⟨?_,fun g h=>?_⟩
   ·rw[ar'];exact ag' _ i1
   ·rw[ar'] at h ⊢;rcases ah'.mp h with e|e
    ·exact ah'.mpr (.inl e)
    ·exact ag' _ (i2 g e)
theorem cs_(f:Str)(v:V):∀fs:List (Str × V),(putF f v fs).length<=fs.length+1
 |[]=>by simp[putF]
 |(k,x)::r=>by
  have ih:=cs_ f v r;rw[show putF f v ((k,x)::r)=(if k=f then (k,v)::r else (k,x)::putF f v r) from rfl];by_cases hk:k=f
  ·rw[if_pos hk,aC',aC'];omega
  ·rw[if_neg hk,aC',aC'];omega
theorem RelO.some_of{v:V}{o:Option Value}(r:RelO (some v) o):∃u,o=some u/\RelV v u:=by
 cases o with
 |none=>exact (show False from r).elim
 |some u=>exact⟨u,rfl,r⟩
theorem RelO.none_of{o:Option Value}(r:RelO none o):o=none:=by
 cases o with
 |none=>rfl
 |some u=>exact (show False from r).elim
theorem gt_{v:V}{u:Value}(r:RelV v u):PySem.W.handedIn u=true:=by
 cases v with
 |non=>cases (show u=Value.none from r);rfl
 |bl b=>cases (show u=Value.bool b from r);rfl
 |int i=>obtain⟨t,e⟩:=(show ∃t,u=Value.int i t from r);cases e;rfl
 |str x=>obtain⟨t,e⟩:=(show ∃t,u=Value.str x t from r);cases e;rfl
 |byt b=>obtain⟨t,e⟩:=(show ∃t,u=Value.bytes b t from r);cases e;rfl
 |flt b=>obtain⟨t,e⟩:=(show ∃t,u=Value.float b t from r);cases e;rfl
 |ref a=>cases (show u=Value.ref a from r);rfl
 |ty n=>cases (show u=Value.type n from r);rfl
section
variable{P:Program}{w:World}{H H':Hp}{h h':Heap}{a C dx:Addr}{fs fs':List (Str × V)}
theorem dt_(hok:HOk P w H h)(e:H a=some (.ins C dx fs)):∃mA,ObjM h a dx C mA/\(∀f,RelO (fs.lookup f) (mA f))/\PySem.Within mA (fs.map (·.1))/\fs.length<=1000/\H dx=some (.own a):=by
 obtain⟨d,z,ne,ob,mA,n,r,q⟩:=(show bh' P w H h a (.ins C dx fs) from hok a _ e);exact⟨mA,⟨ob,n,ne⟩,r,q,z,d⟩
end
structure Cls (K:F__) (C:Addr):Prop where
 pg:PySem.W.plainGet K C Str.empty=true
 hd:PySem.W.hasDictIn K C=true
 po:PySem.W.plainOver K C=true
 sa:PySem.W.findIn K (.ref C) "__setattr__"=some (some (.builtin "object.__setattr__"))
theorem Cls.get{K:F__}{C:Addr}(c:Cls K C)(f:Str):PySem.W.plainGet K C f=true:=c.pg
def bp'(K:F__)(C:Addr)(f:Str):Prop:=PySem.W.findIn K (.ref C) f=some none
theorem bp'.taker{K:F__}{C:Addr}{f:Str}(n:bp' K C f):PySem.W.takerIn K C f=some none:=by
 unfold PySem.W.takerIn;rw[show PySem.W.findIn K (.ref C) f=some none from n];rfl
structure Con (K:F__) (C:Addr) (f:Str) (v:V) (u:Value):Prop where
 at_:PySem.W.findIn K (.ref C) f=some (some u)
 rel:RelV v u
 get:PySem.W.specialIn K u "__get__"=some none
 cp:PySem.W.copiedNames.contains f=false
structure Meth (K:F__) (C:Addr) (m:Str) (f:Addr):Prop where
 at_:PySem.W.findIn K (.ref C) m=some (some (.ref f))
 fn:PySem.W.isFn K (.ref f)=true
 kp:PySem.W.keepIn K (.ref f)=true
section
variable{X:Cx}{pins:List (Addr × Obj)}{σ:St}{H:Hp}{s:Shared}{a C dx:Addr}{fs:List (Str × V)}{f:Str}{v:V}{A:Around}{E:Value->Shared->Prop}
theorem fl_{b:Bool}{Q:Value->Shared->Prop}(I:Inv X pins σ H s)(e:H a=some (.ins C dx fs))(c:Cls X.K C)(n:bp' X.K C f)(l:fs.lookup f=some v)
  (h:∀u s',Inv X pins σ H s'->RelV v u->Q u s'):wpAny (model X.prog X.w) A (getAttr (.ref a) f b) Q E s:=by
 obtain⟨mA,O,r,_,_,_⟩:=dt_ I.hok e;obtain⟨u,hu,ru⟩:=RelO.some_of (v:=v) (o:=mA f) (by rw[<- l];exact r f);exact iD_ I.kIn O (c.get f) c.hd n hu (gt_ ru) (h u _ (I.tok _) ru)
theorem d5_{m:Str}{g:Addr}{pl:Sem Bool}{Q:Value × List Value->Shared->Prop}(I:Inv X pins σ H s)(e:H a=some (.ins C dx fs))(c:Cls X.K C)(k:Meth X.K C m g)(l:fs.lookup m=none)
  (h:Q (.ref g,[.ref a]) s):wpAny (model X.prog X.w) A (getMethod (.ref a) m pl) Q E s:=by
 obtain⟨mA,O,r,_,_,_⟩:=dt_ I.hok e;have hn:mA m=none:=RelO.none_of (by rw[<- l];exact r m);exact hB_ I.kIn O (c.get m) k.at_ k.fn hn h
theorem f6_{y:V}{u:Value}{Q:Unit->Shared->Prop}(I:Inv X pins σ H s)(e:H a=some (.ins C dx fs))(c:Cls X.K C)(n:bp' X.K C f)(hl:fs.length<1000)(ry:RelV y u)
  (h:∀s',Inv X pins σ (upd H a (.ins C dx (putF f y fs))) s'->Q () s'):wpAny (model X.prog X.w) A (setAttr (.ref a) f u) Q E s:=by
 obtain⟨mA,O,r,wi,_,ho⟩:=dt_ I.hok e;have hz:(fs.map (·.1)).length<=sizeLine:=by rw[aa',sizeLine_eq];omega
 refine iN_ I.kIn O c.sa c.po n.taker c.hd wi hz fun h' O' sb=>h _ ?_;have hd:∃o,h'.get? dx=some o:=let ⟨o,_,_,e',_⟩:=O'.ns;⟨o,e'⟩;refine I.write (x:=a) (e:=dx) (by rw[e];exact True.intro) (.inr ho) (fun b q hb z=>(sb.2 b hb).trans z) hd ?_;refine⟨by rw[a4_ O.ne];exact ho,?_,O.ne,O'.obj,_,O'.ns,fun g=>?_,fun g hg=>?_⟩
 ·have:=cs_ f y fs;omega
 ·show RelO ((putF f y fs).lookup g) (if g=f then some u else mA g);rw[a9_];by_cases q:g=f
  ·rw[if_pos q,if_pos q];exact ry
  ·rw[if_neg q,if_neg q];exact r g
 ·by_cases q:g=f
  ·rw[q];exact (cx_ f y fs).1
  ·refine (cx_ f y fs).2 g (wi g fun z=>hg ?_);show (if g=f then some u else mA g)=none;rw[if_neg q];exact z
theorem Inv.made(I:Inv X pins σ H s):Inv X pins σ (upd (upd H s.heap.objs.size (.own (s.heap.objs.size+1))) (s.heap.objs.size+1) (.ins C s.heap.objs.size []))
  { s with heap:=(s.heap.push PySem.W.emptyDict).push (PySem.W.instObj C s.heap.objs.size) }:=by
 have e1:(s.heap.push PySem.W.emptyDict).get? s.heap.objs.size=some PySem.W.emptyDict:=Heap.get?_push_size s.heap rfl
 have e2:((s.heap.push PySem.W.emptyDict).push (PySem.W.instObj C s.heap.objs.size)).get? (s.heap.objs.size+1)=some (PySem.W.instObj C s.heap.objs.size):=by
  have:=Heap.get?_push_size (s.heap.push PySem.W.emptyDict) (o:=PySem.W.instObj C s.heap.objs.size) rfl;rwa [Heap.size_push] at this
 have e3:(s.heap.push PySem.W.emptyDict).Ns s.heap.objs.size (fun _=>none):=⟨PySem.W.emptyDict,#[],_,e1,rfl,(fun e he=>absurd he (by simp)),fun _=>rfl⟩;have I1:=I.laid (a:=s.heap.objs.size) (o:=.own (s.heap.objs.size+1)) (h':=s.heap.push PySem.W.emptyDict) (t':=s.toks) (fun b u q=>Heap.get?_push_of_some _ q) (af' _) ⟨_,e1⟩;refine I1.laid (a:=s.heap.objs.size+1) (o:=.ins C s.heap.objs.size []) (t':=s.toks) (fun b u q=>Heap.get?_push_of_some _ q) (Nat.le_of_eq (Heap.size_push _ _)) ?_;have ne:s.heap.objs.size≠s.heap.objs.size+1:=av' (Nat.lt_succ_self _);refine⟨by rw[a4_ ne,a1_],aE' _,ne,e2,fun _=>none,(Heap.Ns1.of_empty e3).at fun o q=>Heap.get?_push_of_some _ q,fun _=>True.intro,fun y hy=>absurd rfl hy⟩
theorem ix_{prog:Program}{w:World}{env:Env}{e:Expr}{f:Str}{pos:Pos}{s:Shared}{Q:Value->Shared->Prop}(hb:attributeBase e f env (eval e env)=eval e env)
  (h:wpAny (model prog w) A (eval e env) (fun o s₁=>wpAny (model prog w) A (getAttr o f true) Q E s₁) E s):wpAny (model prog w) A (eval (.Attribute e f pos) env) Q E s:=
 Attribute_any_ h (by rw[arm_eval_Attribute,hb])
end
def tFld(K:F__)(ta:TE)(f:Str):TE:=fun σ H Q=>ta σ H fun x H1=>∃a C dx fs v,x=.ref a/\H1 a=some (.ins C dx fs)/\Cls K C/\bp' K C f/\fs.lookup f=some v/\Q v H1
def sFld(K:F__)(ta tv:TE)(f:Str):TS:=fun D σ H=>tv σ H fun y H1=>ta σ H1 fun x H2=>∃a C dx fs,x=.ref a/\H2 a=some (.ins C dx fs)/\Cls K C/\bp' K C f/\fs.length<1000 /\
 D.nx σ (upd H2 a (.ins C dx (putF f y fs)))
def InOp(X:Cx)(op:Operator)(rd:V->V->Hp->VK->Prop):Prop:=
 ∀(pins:List (Addr × Obj)) (s:Shared) (σ:St) (H:Hp) (x y:V) (u v:Value) (Q:VK),Inv X pins σ H s->RelV x u->RelV y v->rd x y H Q->wpAny (model X.prog X.w) X.A (inplaceOp op u v) (EP X pins σ Q) X.xe s
section
variable{X:Cx}{o e value:Expr}{f:Str}{pos pos' tpos:Pos}{ta tv:TE}
theorem aF_(he:PE X e ta)(hb:attributeBase e f X.env (eval e X.env)=eval e X.env):PE X (.Attribute e f pos) (tFld X.K ta f):=by
 intro pins s σ H Q I h;refine ix_ hb (thn (he pins s σ H _ I h) fun u s1 ⟨x,H1,I1,rx,a,C,dx,fs,v,ex,ea,c,n,l,q⟩=>?_);subst ex;obtain rfl:u=Value.ref a:=rx;exact fl_ I1 ea c n l fun u' s2 I2 ru=>⟨v,H1,I2,ru,q⟩
theorem bG_(ha:PE X o ta)(hv:PE X value tv)(hs:swapsWith value (some (.Attribute o f pos')) pos.line X.env=pure false):PS X (.Assign [.Attribute o f pos'] value pos) (sFld X.K ta tv f):=by
 intro pins s σ H D I h;refine plainObj_wpAny_Assign_Attribute (thn (hv pins s σ H _ I h) fun u s1 ⟨y,H1,I1,ry,q⟩=>thn (ha pins s1 σ H1 _ I1 q) fun ov s2 ⟨x,H2,I2,rx,a,C,dx,fs,ex,ea,c,n,l,q2⟩=>?_) hs;subst ex;obtain rfl:ov=Value.ref a:=rx;exact f6_ I2 ea c n l ry fun s3 I3=>⟨σ,_,I3,q2⟩
def rAdd:V->V->Hp->VK->Prop:=fun x y H Q=>∃i j,x=.int i/\y=.int j/\Q (.int (i+j)) H
theorem k4_:InOp X .Add rAdd:=by
 rintro pins s σ H x y u v Q I rx ry ⟨i,j,rfl,rfl,q⟩;obtain⟨t,rfl⟩:=(show ∃t,u=Value.int i t from rx);obtain⟨t',rfl⟩:=(show ∃t',v=Value.int j t' from ry);exact PyProof.Rows.iadd_int ⟨.int (i+j),H,I.tok _,⟨_,rfl⟩,q⟩
end
section
variable{X:Cx}{pins:List (Addr × Obj)}{σ:St}{H:Hp}{s:Shared}{A:Around}{E:Value->Shared->Prop}{Q:Value->Shared->Prop}{c:Value}{b:Bool}
inductive TyOf (K:F__) (H:Hp):V->Value->Prop where
 |non:TyOf K H .non (.type "NoneType")
 |bl (x:Bool):TyOf K H (.bl x) (.type "bool")
 |int (i:Int):TyOf K H (.int i) (.type "int")
 |str (x:Str):TyOf K H (.str x) (.type "str")
 |flt (x:UInt64):TyOf K H (.flt x) (.type "float")
 |lst {a:Addr} {xs:List V} (e:H a=some (.lst xs)):TyOf K H (.ref a) (.type "list")
 |frz {a:Addr} {o:Obj} {xs:List V} (e:H a=some (.frz o (.lst xs))):TyOf K H (.ref a) (.type "list")
 |tup {a:Addr} {xs:List V} (e:H a=some (.tup xs)):TyOf K H (.ref a) (.type "tuple")
 |dK {a:Addr} {kvs:List (Key × V)} (e:H a=some (.dK kvs)):TyOf K H (.ref a) (.type "dict")
 |dT {a:Addr} {kvs:List (List Key × V)} (e:H a=some (.dT kvs)):TyOf K H (.ref a) (.type "dict")
 |ins {a C dx:Addr} {fs:List (Str × V)} (e:H a=some (.ins C dx fs)) (cl:Cls K C) (ha:PySem.W.findIn K (.ref C) "__class__"=some (some (.builtin "object.__class__")))
   (hn:PySem.W.specialIn K (.builtin "object.__class__") "__get__"=some (some (.builtin "getset_descriptor.__get__"))) (htk:PySem.W.takesIn K (.builtin "object.__class__")=some true)
   (hm:PySem.W.mroIn K C (.type "object")=some true):TyOf K H (.ref a) (.ref C)
theorem dE_{x:V}{u t:Value}(I:Inv X pins σ H s)(rx:RelV x u)(ty:TyOf X.K H x t)(e:PySem.W.kitOne X.K t c=some b)(h:∀tk,Q (.bool b) { s with toks:=tk }) :
  wpAny (model X.prog X.w) A (call (.builtin "isinstance") [u,c]) Q E s:=by
 cases ty with
 |non=>cases (show u=Value.none from rx);exact PySem.W.kia_one PySem.W.kitx_none I.kIn True.intro e nofun h
 |bl y=>cases (show u=Value.bool y from rx);exact PySem.W.kia_one PySem.W.kitx_bool I.kIn True.intro e nofun h
 |int i=>obtain⟨t,q⟩:=(show ∃t,u=Value.int i t from rx);cases q;exact PySem.W.kia_one PySem.W.kitx_int I.kIn True.intro e nofun h
 |str y=>obtain⟨t,q⟩:=(show ∃t,u=Value.str y t from rx);cases q;exact PySem.W.kia_one PySem.W.kitx_str I.kIn True.intro e nofun h
 |flt y=>obtain⟨t,q⟩:=(show ∃t,u=Value.float y t from rx);cases q;exact PySem.W.kia_one PySem.W.kitx_float I.kIn True.intro e nofun h
 |@lst a xs ea=>
  cases (show u=Value.ref a from rx);obtain⟨_,_,n,_,h1⟩:=(show bh' X.prog X.w H s.heap a (.lst xs) from I.hok a _ ea);exact PySem.W.kia_one PySem.W.kitx_list I.kIn ⟨_,h1,rfl⟩ e nofun h
 |@frz a ob xs ea=>
  cases (show u=Value.ref a from rx);obtain⟨_,_,_,n,_,h1⟩:=(show bh' X.prog X.w H s.heap a (.frz ob (.lst xs)) from I.hok a _ ea);exact PySem.W.kia_one PySem.W.kitx_list I.kIn ⟨_,h1,rfl⟩ e nofun h
 |@tup a xs ea=>
  cases (show u=Value.ref a from rx);obtain⟨_,_,_,p,_⟩:=(show bh' X.prog X.w H s.heap a (.tup xs) from I.hok a _ ea);obtain⟨o,h1,h2,_⟩:=p;exact PySem.W.kia_one PySem.W.kitx_tuple I.kIn ⟨o,h1,h2⟩ e nofun h
 |@dK a kvs ea=>
  cases (show u=Value.ref a from rx);obtain⟨_,_,vs,_,p⟩:=(show bh' X.prog X.w H s.heap a (.dK kvs) from I.hok a _ ea);obtain⟨o,es,ep,h1,h2,_⟩:=p;exact PySem.W.kia_one PySem.W.kitx_dict I.kIn ⟨o,h1,h2.1⟩ e nofun h
 |@dT a kvs ea=>
  cases (show u=Value.ref a from rx);obtain⟨_,_,xs,_,o,es,ep,h1,h2,_⟩:=(show bh' X.prog X.w H s.heap a (.dT kvs) from I.hok a _ ea);exact PySem.W.kia_one PySem.W.kitx_dict I.kIn ⟨o,h1,h2.1⟩ e nofun h
 |@ins a C dx fs ea cl ha hn htk hm=>
  cases (show u=Value.ref a from rx);obtain⟨mA,O,_⟩:=dt_ I.hok ea;obtain⟨od,J,_⟩:=O.look;exact PySem.W.kia_one (PySem.W.kitx_own (cl.get _) cl.hd ha hn htk hm) I.kIn J e nofun h
end
end L2
namespace L2
open PySem PySem.Spec PyProof.Rows
structure Room (k:Nat) (A:Around):Prop where
 hd:A.handled=none
 dp:A.depth+3 * k+5<recursionLimit
 un:A.units+16 * k+200<cLine
theorem Room.mono{j k:Nat}{A:Around}(r:Room k A)(h:j<=k):Room j A:=⟨r.hd,by have:=r.dp;omega,by have:=r.un;omega⟩
theorem Room.deeper{k:Nat}{A:Around}(r:Room (k+1) A)(env:Env):Room k (A.deeper env):=
 ⟨r.hd,by have:=r.dp;show A.depth+1+3 * k+5<_;omega,by have:=r.un;show A.units+3+16 * k+200<_;omega⟩
theorem Room.in1{k:Nat}{A:Around}(r:Room (k+1) A):Room k A.in1:=
 ⟨r.hd,by have:=r.dp;show A.depth+3 * k+5<_;omega,by have:=r.un;show A.units+1+16 * k+200<_;omega⟩
theorem fi_{A:Around}{C:Addr}{us:List Value}{kw:List (Str × Value)}:(A.under (.builtin "type.__call__" ⟨.ref C::us,kw⟩)).depth=A.depth+1:=by
 first|rfl|simp[Around.under,Code.weight,Code.isCreation,Code.isGuard,Code.isCaller,Code.frames,Code.isFrame,guardIds]
theorem fp_{A:Around}{C:Addr}{us:List Value}{kw:List (Str × Value)}:(A.under (.builtin "type.__call__" ⟨.ref C::us,kw⟩)).units=A.units+1:=by
 first|rfl|simp[Around.under,Code.cUnits,Code.frames,Code.isFrame]
theorem Room.make{k:Nat}{A:Around}(r:Room (k+1) A)(C:Addr)(us:List Value)(kw:List (Str × Value)):Room k (A.under (.builtin "type.__call__" ⟨.ref C::us,kw⟩)):=
 ⟨r.hd,by have:=r.dp;rw[fi_];omega,by have:=r.un;rw[fp_];omega⟩
theorem Room.depth{k:Nat}{A:Around}(r:Room k A):A.depth<recursionLimit:=by have:=r.dp;omega
theorem Room.units{k:Nat}{A:Around}(r:Room k A):A.units+64<cLine:=by have:=r.un;omega
def tNil:TA:=fun _ H Q=>Q [] H
def tCons(ta:TE)(tr:TA):TA:=fun σ H Q=>ta σ H fun x H1=>tr σ H1 fun xs H2=>Q (x::xs) H2
section
variable{X:Cx}{e:Expr}{es:List Expr}{te:TE}{t:TA}{pos:Pos}
theorem a3_:PA X [] tNil:=fun _ _ _ _ H Q I h=>Calls.spliced_nil ⟨[],H,I,.nil,h⟩
theorem a0_(ha:PE X e te)(hr:PA X es t)(hs:starEach (e::es) X.env=(false,eval e X.env)::starEach es X.env:=by rfl):PA X (e::es) (tCons te t):=by
 intro pos pins s σ H Q I h;rw[hs];show wpAny _ _ (spliced ((false,eval e X.env)::backTo pos (starEach es X.env))) _ _ s;refine Calls.spliced_cons (thn (ha pins s σ H _ I h) fun u s1 ⟨x,H1,I1,r1,q1⟩=>?_);exact thn (hr pos pins s1 σ H1 _ I1 q1) fun us s2 ⟨xs,H2,I2,r2,q2⟩=>⟨x::xs,H2,I2,.cons r1 r2,q2⟩
def tTup(t:TA):TE:=fun σ H Q=>t σ H fun xs H1=>xs.length<=sizeLine/\∀p,H1 p=none->Q (.ref p) (upd H1 p (.tup xs))
def tLst(t:TA):TE:=fun σ H Q=>t σ H fun xs H1=>xs.length<=sizeLine/\∀p,H1 p=none->Q (.ref p) (upd H1 p (.lst xs))
theorem aL_{x1}(h:PA X es t):PE X (.Tuple es x1 pos) (tTup t):=by
 intro pins s σ H Q I hq;refine wpAny_Tuple_spliced (thn (h pos pins s σ H _ I hq) fun us s1 ⟨xs,H1,I1,r,z,q⟩=>⟨by rw[<- r.length];exact z,?_⟩);have hf:H1 s1.heap.objs.size=none:=I1.hok.fresh (af' _);refine⟨.ref s1.heap.objs.size,upd H1 s1.heap.objs.size (.tup xs),I1.laid (t':=s1.toks) (fun b u e=>Heap.get?_push_of_some _ e) (af' _) ?_,rfl,q _ hf⟩;exact⟨z,us,r,⟨_,Heap.get?_push_size _ rfl,rfl,_,rfl⟩,_,Heap.get?_push_size _ rfl,rfl⟩
theorem ar_(h:PA X es t):PE X (.List es pos) (tLst t):=by
 intro pins s σ H Q I hq;refine wpAny_List_spliced (thn (h pos pins s σ H _ I hq) fun us s1 ⟨xs,H1,I1,r,z,q⟩=>⟨by rw[<- r.length];exact z,?_⟩);have hf:H1 s1.heap.objs.size=none:=I1.hok.fresh (af' _);refine⟨.ref s1.heap.objs.size,upd H1 s1.heap.objs.size (.lst xs),I1.laid (t':=s1.toks) (fun b u e=>Heap.get?_push_of_some _ e) (af' _) ?_,rfl,q _ hf⟩;exact⟨z,us,0,r,Heap.get?_push_size _ rfl⟩
end
abbrev Sp:=List V->Hp->VK->XK->Prop
abbrev CXT:=List Env->Hp->Shared->XK->Value->Shared->Prop
structure Env0 (P:Program) (w:World) (K:F__) (mg:Str->Option Value) (base:Heap) (A:Around) (outer:List Env) (s:Shared) (H:Hp):Prop where
 frames:A.frames=some outer
 mod:Mod K mg base
 bs:∀b o,base.get? b=some o->s.heap.get? b=some o/\H b=none
 bsz:base.objs.size<=s.heap.objs.size
 funs:s.heap.FunFrames base outer
 frf:∀b∈frs outer,H b=none
 hok:HOk P w H s.heap
 bare:AllBare s.gens
def CE(outer:List Env)(P:Program)(w:World)(H:Hp)(s:Shared)(Q:VK)(u:Value)(s':Shared):Prop:=
 ∃v H',s'.os=s.os/\AllBare s'.gens/\Un (frs outer) [] H H' s.heap s'.heap/\HOk P w H' s'.heap/\RelV v u/\Q v H'
def CR(CX:CXT)(outer:List Env)(P:Program)(w:World)(H:Hp)(s:Shared)(Q:VK)(E:XK)(r:Result)(s':Shared):Prop:=
 match r with
 |.ok (.ret u)=>CE outer P w H s Q u s'
 |.ok _=>False
 |.error e=>CX outer H s E e s'
structure FnOk (P:Program) (w:World) (K:F__) (mg:Str->Option Value) (base:Heap) (CX:CXT) (k:Nat) (f:Addr) (fd:FuncData) (ps:List Str) (sp:Sp):Prop where
 len:∀vs H Q E,sp vs H Q E->vs.length=ps.length
 run:∀(A:Around) (outer:List Env) (s:Shared) (H:Hp) (args:Args) (us:List Value) (vs:List V) (Q:VK) (E:XK),Room k A->Env0 P w K mg base A outer s H->BindsTo s fd args (ps.zip us)->Vals vs us->sp vs H Q E->
  codeAny (model P w) A (.call (.ref f) args) (CR CX outer P w H s Q E) s
theorem Env0.make{P:Program}{w:World}{K:F__}{mg:Str->Option Value}{base:Heap}{A:Around}{outer:List Env}{s:Shared}{H:Hp}(e:Env0 P w K mg base A outer s H)(C:Addr)(us:List Value)(kw:List (Str × Value)) :
  Env0 P w K mg base (A.under (.builtin "type.__call__" ⟨.ref C::us,kw⟩)) outer s H:=⟨by first|exact e.frames|(simpa [Around.under,Code.envs,Code.isFrame,pushEnvs] using e.frames),e.mod,e.bs,e.bsz,e.funs,e.frf,e.hok,e.bare⟩
section
variable{X:Cx}{pins:List (Addr × Obj)}{σ:St}{H:Hp}{s s':Shared}
theorem Inv.env0(I:Inv X pins σ H s):Env0 X.prog X.w X.K X.mg X.base X.A X.stack s H:=
 ⟨I.ok.frames,I.ok.mod,I.bs,aW' I.ok.bsz I.sz,I.stack,I.stkFree,I.hok,I.bare⟩
theorem Inv.after{Q:VK}{u:Value}(I:Inv X pins σ H s)(h:CE X.stack X.prog X.w H s Q u s'):EP X pins σ Q u s':=by
 obtain⟨v,H',os,bare,un,hok,r,q⟩:=h;obtain⟨hh,g,d,t,os'⟩:=s';obtain rfl:os'=s.os:=os;exact⟨v,H',I.call (h':=hh) (g':=g) (d':=d) (t':=t) (ch:=[]) un hok bare (fun b z=>absurd z (by simp)),r,q⟩
end
def tCall(sp:Sp)(dvs:List V)(E:XK)(t:TA):TE:=fun σ H Q=>t σ H fun vs H1=>sp (vs++dvs) H1 Q E
def tMeth(C:Addr)(m:Str)(sp:Sp)(dvs:List V)(E:XK)(ta:TE)(t:TA):TE:=fun σ H Q=>ta σ H fun x H1=>∃a dx fs,x=.ref a/\H1 a=some (.ins C dx fs)/\fs.lookup m=none /\
 t σ H1 fun vs H2=>sp (x::(vs++dvs)) H2 Q E
def tMake(C:Addr)(sp:Sp)(dvs:List V)(E:XK)(t:TA):TE:=fun σ H Q=>t σ H fun vs H1=>∀x dx,H1 x=none->H1 dx=none->dx≠x->
 sp (.ref x::(vs++dvs)) (upd (upd H1 dx (.own x)) x (.ins C dx [])) (fun v H2=>v=.non/\Q (.ref x) H2) E
def bV'(K:F__)(fd:FuncData)(ps:List Str)(ds:List Value):Prop:=
 ∀(s:Shared) (us:List Value),K.In s.heap->(us++ds).length=ps.length->BindsTo s fd ⟨us,[]⟩ (ps.zip (us++ds))
theorem bV'.all{K:F__}{fd:FuncData}{ps:List Str}(h:∀us:List Value,us.length=ps.length->bindArgs fd ⟨us,[]⟩=pure (ps.zip us)):bV' K fd ps []:=fun s us _ hl=>by
 rw[aJ'] at hl ⊢;exact .of_eq (h us hl)
def bG'(CX:CXT)(X:Cx)(E:XK):Prop:=∀(pins:List (Addr × Obj)) (σ:St) (H:Hp) (s:Shared) (e:Value) (s':Shared),Inv X pins σ H s->CX X.stack H s E e s'->X.xe e s'
section
variable{X:Cx}{CX:CXT}{k:Nat}{f C:Addr}{fd:FuncData}{ps:List Str}{sp:Sp}{dvs:List V}{ds:List Value}{E:XK}{x m:Str}{p pos apos:Pos}{e o:Expr}{es:List Expr}{ta:TE}{t:TA}
theorem fF_{pins:List (Addr × Obj)}{σ:St}{H:Hp}{s:Shared}{Q:VK}{us:List Value}{vs:List V}(F:FnOk X.prog X.w X.K X.mg X.base CX k f fd ps sp)(hr:Room k X.A)(hb:bV' X.K fd ps ds)(hd:Vals dvs ds)(hx:bG' CX X E)
  (I:Inv X pins σ H s) (r:Vals vs us) (h:sp (vs++dvs) H Q E):wpAny (model X.prog X.w) X.A (call (.ref f) us) (EP X pins σ Q) X.xe s:=by
 have r2:Vals (vs++dvs) (us++ds):=r.append hd;have hl:(us++ds).length=ps.length:=by rw[<- r2.length];exact F.len _ _ _ _ h
 refine wpAny_call (codeAny_mono (F.run X.A X.stack s H ⟨us,[]⟩ (us++ds) (vs++dvs) Q E hr I.env0 (hb s us I.kIn hl) r2 h) fun r s' hq=>?_);cases r with
 |error e=>exact hx pins σ H s e s' I hq
 |ok fl=>
  cases fl with
  |ret u=>exact I.after hq
  |next=>exact False.elim hq
  |brk=>exact False.elim hq
  |cont=>exact False.elim hq
theorem jl_(F:FnOk X.prog X.w X.K X.mg X.base CX k f fd ps sp)(hr:Room k X.A)(hg:Gl X x)(hm:X.mg x=some (.ref f))(hk:PySem.W.keepIn X.K (.ref f)=true)(hb:bV' X.K fd ps ds)(hd:Vals dvs ds)(hx:bG' CX X E)
  (ha:PA X (e::es) t) (hdb:(x == ("__debug__":Str))=false:=by decide) (he:starEach (e::es) X.env=(false,eval e X.env)::starEach es X.env:=by rfl) (hpl:(backTo pos (starEach es X.env)).any (·.1)=false:=by rfl) :
  PE X (.Call (.Name x p) (e::es) [] pos) (tCall sp dvs E t):=by
 intro pins s σ H Q I h;refine wpAny_Call_Name_kw (dm_ I hg hm ?_ hdb);refine PySem.W.callWith_K (h₀:=X.base) I.ok.mod.kin hk (thn (ha pos pins s σ H _ I h) fun us s1 ⟨vs,H1,I1,r,q⟩=>⟨I1.kIn,?_⟩) he hpl;exact fF_ F hr hb hd hx I1 r q
theorem g7_{pl:Sem Bool}(he:PE X o ta)(c:Cls X.K C)(hm:Meth X.K C m f)(F:FnOk X.prog X.w X.K X.mg X.base CX k f fd ps sp)(hr:Room k X.A)(hb:bV' X.K fd ps ds)(hd:Vals dvs ds)(hx:bG' CX X E)(ha:PA X (e::es) t)
  (hst:starEach (e::es) X.env=(false,eval e X.env)::starEach es X.env:=by rfl) (hpl:(backTo pos (starEach es X.env)).any (·.1)=false:=by rfl)
  (ht:eval (.Call (.Attribute o m apos) (e::es) [] pos) X.env=(do
   let ov <- eval o X.env
   standAt apos.atName
   let (f,first) <- holding [ov] (getMethod ov m pl)
   callWith pos f first (backTo pos (starEach (e::es) X.env)) (backToKw pos (keywordEach [] X.env))):=by rfl) :
  PE X (.Call (.Attribute o m apos) (e::es) [] pos) (tMeth C m sp dvs E ta t):=by
 intro pins s σ H Q I h;refine PySem.W.methodCall_KW (pl:=pl) (thn (he pins s σ H _ I h) fun u s1 ⟨x,H1,I1,rx,a,dx,fs,ex,ea,l,q⟩=>?_) ht;subst ex;obtain rfl:u=Value.ref a:=rx;refine d5_ I1 ea c hm l ?_;refine PySem.W.callWith_K (first:=[.ref a]) (h₀:=X.base) I.ok.mod.kin hm.kp (thn (ha pos pins s1 σ H1 _ I1 q) fun us s2 ⟨vs,H2,I2,r,q2⟩=>⟨I2.kIn,?_⟩) hst hpl;exact fF_ (us:=.ref a::us) (vs:=.ref a::vs) F hr hb hd hx I2 (.cons rfl r) q2
theorem hj_{pl:Sem Bool}(he:PE X o ta)(c:Cls X.K C)(hm:Meth X.K C m f)(F:FnOk X.prog X.w X.K X.mg X.base CX k f fd ps sp)(hr:Room k X.A)(hb:bV' X.K fd ps ds)(hd:Vals dvs ds)(hx:bG' CX X E)
  (ht:eval (.Call (.Attribute o m apos) [] [] pos) X.env=(do
   let ov <- eval o X.env
   standAt apos.atName
   let (f,first) <- holding [ov] (getMethod ov m pl)
   callWith pos f first (backTo pos (starEach [] X.env)) (backToKw pos (keywordEach [] X.env))):=by rfl) :
  PE X (.Call (.Attribute o m apos) [] [] pos) (tMeth C m sp dvs E ta tNil):=by
 intro pins s σ H Q I h;refine PySem.W.methodCall_KW (pl:=pl) (thn (he pins s σ H _ I h) fun u s1 ⟨x,H1,I1,rx,a,dx,fs,ex,ea,l,q⟩=>?_) ht;subst ex;obtain rfl:u=Value.ref a:=rx;refine d5_ I1 ea c hm l ?_;exact PySem.W.callWith_K0 (first:=[.ref a]) I1.kIn hm.kp (fF_ (us:=[.ref a]) (vs:=[.ref a]) F hr hb hd hx I1 (.cons rfl .nil) q)
structure Mk (K:F__) (C f:Addr):Prop where
 makes:PySem.W.makesIn K C=true
 init:PySem.W.findIn K (.ref C) "__init__"=some (some (.ref f))
 fn:PySem.W.isFn K (.ref f)=true
 kp:PySem.W.keepIn K (.ref C)=true
theorem hL_{pins:List (Addr × Obj)}{σ:St}{H:Hp}{s:Shared}{Q:VK}{us:List Value}{vs:List V}(M:Mk X.K C f)(F:FnOk X.prog X.w X.K X.mg X.base CX k f fd ps sp)(hr:Room (k+1) X.A)(hb:bV' X.K fd ps ds)(hd:Vals dvs ds)
  (hx:bG' CX X E) (I:Inv X pins σ H s) (r:Vals vs us)
  (h:∀x dx,H x=none->H dx=none->dx≠x->sp (.ref x::(vs++dvs)) (upd (upd H dx (.own x)) x (.ins C dx [])) (fun v H2=>v=.non/\Q (.ref x) H2) E) :
  wpAny (model X.prog X.w) X.A (call (.ref C) us) (EP X pins σ Q) X.xe s:=by
 have hq:=h (s.heap.objs.size+1) s.heap.objs.size (I.hok.fresh (Nat.le_succ _)) (I.hok.fresh (af' _)) (av' (Nat.lt_succ_self _));have I2:=Inv.made (C:=C) I;have r2:Vals (V.ref (s.heap.objs.size+1)::(vs++dvs)) (Value.ref (s.heap.objs.size+1)::(us++ds)):=.cons rfl (r.append hd)
 have hl:(Value.ref (s.heap.objs.size+1)::us++ds).length=ps.length:=by
  have e:=r2.length;rw[F.len _ _ _ _ hq] at e;exact e.symm
 refine wpAny_call (hx_ (f:=f) I.kIn M.makes M.init (beq_iff_eq.mp M.fn) (codeAny_mono (F.run _ X.stack _ _ ⟨Value.ref (s.heap.objs.size+1)::us,[]⟩ (Value.ref (s.heap.objs.size+1)::(us++ds)) _ _ E (hr.make C us [])
  (I2.env0.make C us []) (hb _ (Value.ref (s.heap.objs.size+1)::us) I2.kIn hl) r2 hq) fun r s' hq'=>?_))
 cases r with
 |error e=>exact hx pins σ _ _ e s' I2 hq'
 |ok fl=>
  cases fl with
  |ret u=>
   obtain⟨v,H',I3,rv,ev,q3⟩:=I2.after hq';subst ev;exact⟨rv,⟨V.ref (s.heap.objs.size+1),H',I3,rfl,q3⟩⟩
  |next=>exact False.elim hq'
  |brk=>exact False.elim hq'
  |cont=>exact False.elim hq'
theorem iP_(M:Mk X.K C f)(F:FnOk X.prog X.w X.K X.mg X.base CX k f fd ps sp)(hr:Room (k+1) X.A)(hg:Gl X x)(hm:X.mg x=some (.ref C))(hb:bV' X.K fd ps ds)(hd:Vals dvs ds)(hx:bG' CX X E)
  (ha:PA X (e::es) t) (hdb:(x == ("__debug__":Str))=false:=by decide) (he:starEach (e::es) X.env=(false,eval e X.env)::starEach es X.env:=by rfl) (hpl:(backTo pos (starEach es X.env)).any (·.1)=false:=by rfl) :
  PE X (.Call (.Name x p) (e::es) [] pos) (tMake C sp dvs E t):=by
 intro pins s σ H Q I h;refine wpAny_Call_Name_kw (dm_ I hg hm ?_ hdb);refine PySem.W.callWith_K (h₀:=X.base) I.ok.mod.kin M.kp (thn (ha pos pins s σ H _ I h) fun us s1 ⟨vs,H1,I1,r,q⟩=>⟨I1.kIn,?_⟩) he hpl;exact hL_ M F hr hb hd hx I1 r q
end
def PK(X:Cx)(kws:List Keyword)(t:TA):Prop:=
 ∀(pos:Pos) (pins:List (Addr × Obj)) (s:Shared) (σ:St) (H:Hp) (Q:List V->Hp->Prop),Inv X pins σ H s->t σ H Q->wpAny (model X.prog X.w) X.A (evalAll ((backToKw pos (keywordEach kws X.env)).map (·.2))) (AP X pins σ Q) X.xe s
section
variable{X:Cx}{CX:CXT}{k:Nat}{f C:Addr}{fd:FuncData}{ps ks:List Str}{sp:Sp}{E:XK}{x m:Str}{p pos apos kpos:Pos}{e o:Expr}{es:List Expr}{kws:List Keyword}{te ta:TE}{t tk:TA}{nm:Option Str}
theorem jS_:PK X [] tNil:=fun _ _ _ _ H Q I h=>wpAny_evalAll_nil ⟨[],H,I,.nil,h⟩
theorem ji_(ha:PE X e te)(hr:PK X kws t):PK X (⟨nm,e,kpos⟩::kws) (tCons te t):=by
 intro pos pins s σ H Q I h;show wpAny _ _ (evalAll ((do let v <- eval e X.env;standAt pos;pure v)::(backToKw pos (keywordEach kws X.env)).map (·.2))) _ _ s;refine wpAny_evalAll_cons (wpAny_bind (thn (ha pins s σ H _ I h) fun u s1 ⟨x,H1,I1,r1,q1⟩=>wpAny_bind (wpAny_standAt (wpAny_pure ?_))));exact thn (hr pos pins s1 σ H1 _ I1 q1) fun us s2 ⟨xs,H2,I2,r2,q2⟩=>⟨x::xs,H2,I2,.cons r1 r2,q2⟩
structure KBinds (K:F__) (fd:FuncData) (ps ks:List Str) (g:List Value->List Value->List Value) (gV:List V->List V->List V):Prop where
 to:∀(s:Shared) (us ws:List Value),K.In s.heap->(g us ws).length=ps.length->BindsTo s fd ⟨us,ks.zip ws⟩ (ps.zip (g us ws))
 rel:∀{vs:List V} {us:List Value} {zs:List V} {ws:List Value},Vals vs us->Vals zs ws->Vals (gV vs zs) (g us ws)
variable{g:List Value->List Value->List Value}{gV:List V->List V->List V}
end
structure a4' (N P:List Str) (sc:Scope):Prop where
 kind:sc.kind=.function
 co:sc.isCoroutine=false
 gen:sc.isGenerator=false
 nd:N.Nodup
 pre:N.take P.length=P
 par:∀x∈P,sc.names.lookup x=some .local∨sc.names.lookup x=some .cell
 nofree:∀y∈sc.names,y.2≠.free
theorem dM_{kindOf:Str->Option NameKind}{x:Str}:∀{binds:List (Str × Value)} {m:Str->Option Value},(∀v,(x,v)∉binds)->bindL kindOf binds m x=m x
 |[],_,_=>rfl
 |(n,v)::r,m,h=>by
  unfold bindL;rw[dM_ fun w hw=>h w (ag' _ hw)];split
  ·have:x≠n:=by rintro rfl;exact h v aj'
   simp[this]
  ·rfl
theorem e2_{kindOf:Str->Option NameKind}{x:Str}:∀{binds:List (Str × Value)} {m:Str->Option Value},(∀v,(x,v)∉binds)->bindC kindOf binds m x=m x
 |[],_,_=>rfl
 |(n,v)::r,m,h=>by
  unfold bindC;rw[e2_ fun w hw=>h w (ag' _ hw)];split
  ·rfl
  ·have:x≠n:=by rintro rfl;exact h v aj'
   simp[this]
theorem dP_{kindOf:Str->Option NameKind}{x:Str}{v:Value}:∀{P:List Str} {vs:List Value} {i:Nat} {m:Str->Option Value},P.Nodup->P[i]? = some x->vs[i]? = some v->kindOf x=some .local->
  bindL kindOf (P.zip vs) m x=some v
 |[],_,_,_,_,h,_,_=>by simp at h
 |_::_,[],_,_,_,_,h,_=>by simp at h
 |p::P,w::vs,0,m,nd,h1,h2,hk=>by
  simp at h1 h2;subst h1;subst h2;show bindL kindOf ((p,w)::P.zip vs) m p=_;unfold bindL;rw[dM_ fun v hv=>(aR'.mp nd).1 (List.of_mem_zip hv).1,if_pos hk];simp
 |p::P,w::vs,i+1,m,nd,h1,h2,hk=>by
  show bindL kindOf ((p,w)::P.zip vs) m x=_;unfold bindL;exact dP_ (i:=i) (aR'.mp nd).2 (by simpa using h1) (by simpa using h2) hk
theorem e4_{kindOf:Str->Option NameKind}{x:Str}{v:Value}:∀{P:List Str} {vs:List Value} {i:Nat} {m:Str->Option Value},P.Nodup->P[i]? = some x->vs[i]? = some v->kindOf x≠some .local->
  bindC kindOf (P.zip vs) m x=some v
 |[],_,_,_,_,h,_,_=>by simp at h
 |_::_,[],_,_,_,_,h,_=>by simp at h
 |p::P,w::vs,0,m,nd,h1,h2,hk=>by
  simp at h1 h2;subst h1;subst h2;show bindC kindOf ((p,w)::P.zip vs) m p=_;unfold bindC;rw[e2_ fun v hv=>(aR'.mp nd).1 (List.of_mem_zip hv).1,if_neg hk];simp
 |p::P,w::vs,i+1,m,nd,h1,h2,hk=>by
  show bindC kindOf ((p,w)::P.zip vs) m x=_;unfold bindC;exact e4_ (i:=i) (aR'.mp nd).2 (by simpa using h1) (by simpa using h2) hk
def start(N:List Str)(vs:List V):St:=vs.map some++List.replicate (N.length - vs.length) none
def cxOf(CX:CXT)(P:Program)(w:World)(K:F__)(mg:Str->Option Value)(base:Heap)(N:List Str)(qual:Str)(scope:Scope)(f:Addr)(cd:Value)(A:Around)(outer:List Env)(s:Shared)(H:Hp)(E:XK):Cx where
 prog:=P
 w:=w
 K:=K
 mg:=mg
 base:=base
 A:=A.deeper (envOfC qual scope s.heap.objs.size f cd)
 N:=N
 s₀:=s
 H₀:=H
 env:=envOfC qual scope s.heap.objs.size f cd
 outer:=outer
 stack:=envOfC qual scope s.heap.objs.size f cd::outer
 ex:=[]
 calm:=true
 fn:=fun _=>true
 pn:=[]
 xe:=fun e s'=>wpAny (model P w) (A.deeper (envOfC qual scope s.heap.objs.size f cd)) (leaving (envOfC qual scope s.heap.objs.size f cd) e) (fun _ s''=>CX outer H s E e s'') (fun e' s''=>CX outer H s E e' s'') s'
theorem eN_{sc:Scope}{n:Nat}{x:Str}(h:sc.names.lookup x=some .cell):∃c,(cellsFrom n sc.names []).lookup x=some c:=by
 have q:=PySem.W.cellsFrom_some sc.names n [] (.inl h);exact Option.isSome_iff_exists.mp q
theorem gg_{CX:CXT}{P:Program}{w:World}{K:F__}{mg:Str->Option Value}{base:Heap}{N ps:List Str}{qual:Str}{scope:Scope}{f:Addr}{cd:Value}{A:Around}{outer:List Env}{s s1:Shared}{H:Hp}{E:XK}{us:List Value}{vs:List V}
  (S:a4' N ps scope) (hd:A.handled=none) (e0:Env0 P w K mg base A outer s H) (hl:vs.length=ps.length) (r:Vals vs us)
  (x:InCallC s s.heap.objs.size (bindL (envOfC qual scope s.heap.objs.size f cd).kindOf (ps.zip us) fun _=>none) (cellsFrom (s.heap.objs.size+1) scope.names []) (bindC (envOfC qual scope s.heap.objs.size f cd).kindOf (ps.zip us) fun _=>none) s1) :
  Inv (cxOf CX P w K mg base N qual scope f cd A outer s H E) [] (start N vs) H s1:=by
 have hpl:ps.length<=N.length:=by have:=congrArg List.length S.pre;rw[ak'] at this;omega
 obtain⟨h1,tk,rfl,hk⟩:=x.done;have noA:∀b:Addr,b∉(cxOf CX P w K mg base N qual scope f cd A outer s H E).ex:=fun b z=>absurd (show b∈([]:List Addr) from z) (by simp)
 refine⟨⟨e0.mod,S.kind,rfl,rfl,af' _,fun y z c h1 h2=>?_,fun y hy=>?_,fun y c _ h=>?_,fun _=>hd,Around.frames_deeper e0.frames,.inr ⟨rfl,rfl⟩,fun b z=>absurd z (noA b),e0.bs,e0.bsz,fun b _ _=>noA b,fun b z=>absurd z (noA b),e0.funs,e0.frf⟩,
  rfl,e0.bare,Un.kept hk,⟨_,x.toInCall.ns,fun i y v h1 h2 h3=>?_⟩,fun y c h=>⟨_,x.cell y c h⟩,e0.hok.fresh (af' _),fun y c h=>?_,fun p hp=>absurd (show p∈([]:List (Addr × Obj)) from hp) (by simp),e0.hok.kept hk,?_⟩
 ·exact name_of_addr x.apart (PySem.mem_of_lookup h1) (PySem.mem_of_lookup h2)
 ·have hy:scope.names.lookup y=some .cell∨scope.names.lookup y=some .free:=hy;rcases hy with hy|hy
  ·exact eN_ hy
  ·exact absurd rfl (S.nofree _ (PySem.mem_of_lookup hy))
 ·exact Nat.le_of_lt (x.above y c (PySem.mem_of_lookup h))
 ·have hi:i<vs.length:=by
   unfold start at h2;by_cases hi:i<vs.length
   ·exact hi
   ·rw[aI' (by simpa using hi)] at h2;rw[List.getElem?_replicate] at h2;split at h2<;>cases h2
  have ha:vs[i]? = some v:=by
   unfold start at h2;rw[aM' (by simpa using hi),al'] at h2;cases e:vs[i]? with
   |none=>rw[e] at h2;cases h2
   |some a=>rw[e] at h2;cases h2;rfl
  obtain⟨u,hu,rv⟩:=r.get ha
  have hp:ps[i]? = some y:=by
   rw[<- S.pre,List.getElem?_take_of_lt (by omega)];exact h1
  have ndP:ps.Nodup:=by rw[<- S.pre];exact S.nd.sublist (List.take_sublist _ _)
  refine⟨u,rv,?_⟩;rcases S.par y (ae' hp) with k|k
  ·exact .inl ⟨k,dP_ ndP hp hu k⟩
  ·obtain⟨c,e⟩:=eN_ (n:=s.heap.objs.size+1) k;refine .inr ⟨.inl k,c,e,?_⟩;have q:=x.cell y c e;rw[e4_ ndP hp hu (by show scope.names.lookup y≠_;rw[k];decide)] at q;exact q
 ·exact e0.hok.fresh (Nat.le_of_lt (x.above y c (PySem.mem_of_lookup h)))
 ·unfold start;show _=N.length;rw[ap',aa',aK'];omega
theorem iG_{CX:CXT}{P:Program}{w:World}{K:F__}{mg:Str->Option Value}{base:Heap}{k:Nat}{f:Addr}{name qual:Str}{params:Arguments}{body:List Stmt}{scope:Scope}{dV kV doc pm cdv ct oc:Value}{an od:Option Addr}
  {osl:Array (Option Value)} {N ps:List Str} {sp:Sp} (lk:K.lookup f=some ⟨oc,od,.func (PySem.W.fnOf name qual params body scope dV kV doc pm an cdv ct),osl⟩) (hcd:PySem.W.codeIn K cdv qual=true) (S:a4' N ps scope)
  (len:∀vs H Q E,sp vs H Q E->vs.length=ps.length)
  (hbody:∀(A:Around) (outer:List Env) (s:Shared) (H:Hp) (vs:List V) (Q:VK) (E:XK),Room k (A.deeper (envOfC qual scope s.heap.objs.size f cdv))->sp vs H Q E->
   ∃t,PSs (cxOf CX P w K mg base N qual scope f cdv A outer s H E) body t/\t { nx:=fun _ H'=>Q .non H',rt:=Q } (start N vs) H) :
  FnOk P w K mg base CX (k+1) f (PySem.W.fnOf name qual params body scope dV kV doc pm an cdv ct) ps sp:=by
 refine⟨len,fun A outer s H args us vs Q E hr e0 hb r hsp=>?_⟩;have hl:=len _ _ _ _ hsp;have KX:K.In s.heap:=e0.mod.kin.keeps fun b o e=>(e0.bs b o e).1;have lim:s.heap.NoLimit:=e0.mod.nolimit.keeps fun b o e=>(e0.bs b o e).1
 have hkind:∀y∈ps.zip us,scope.names.lookup y.1=some .local∨(scope.names.lookup y.1=some .cell/\((cellsFrom (s.heap.objs.size+1) scope.names []).lookup y.1).isSome=true):=fun⟨n,v⟩ hy=>by
  rcases S.par n (List.of_mem_zip hy).1 with q|q
  ·exact .inl q
  ·exact .inr ⟨q,PySem.W.cellsFrom_some _ _ _ (.inl q)⟩
 refine codeAny_call_function hr.depth (KX _ _ lk) rfl S.co S.gen rfl (PySem.W.codeRec_of KX hcd) (hb _ _ _ _ ?_);refine wpAny_newFunctionEnv_cells S.kind hkind fun env he s1 x=>?_;subst he;refine⟨lim.keeps x.toInCall.keep,codeAny_func ?_⟩;obtain⟨t,ht,hq⟩:=hbody A outer s H vs Q E (hr.deeper _) hsp;have I:Inv (cxOf CX P w K mg base N qual scope f cdv A outer s H E) [] (start N vs) H s1:=gg_ S hr.hd e0 hl r x;refine wpAny_mono (ht [] s1 (start N vs) H _ I hq) (fun fl s' hs=>?_) fun e s' hs=>hs
 have fin:∀{σ':St} {H':Hp} {v:V} {u:Value},Inv (cxOf CX P w K mg base N qual scope f cdv A outer s H E) [] σ' H' s'->RelV v u->Q v H'->CE outer P w H s Q u s':=
  fun {σ' H' v u} J rv q=>⟨v,H',J.os,J.bare,J.base,J.hok,rv,q⟩
 cases fl with
 |ret u=>
  obtain⟨v,σ',H',J,rv,q⟩:=hs;exact fin J rv q
 |next=>
  obtain⟨σ',H',J,q⟩:=hs;exact fin (v:=V.non) (u:=Value.none) J rfl q
 |brk=>
  obtain⟨_,_,_,q⟩:=hs;exact False.elim q
 |cont=>
  obtain⟨_,_,_,q⟩:=hs;exact False.elim q
end L2
namespace L2
open PySem PySem.Spec PyProof.Rows
section
variable{X:Cx}{x:Str}{p pos:Pos}{e:Expr}{es:List Expr}{t:TA}{id T:String}{r:List V->Hp->VK->Prop}
def tCB(r:List V->Hp->VK->Prop)(t:TA):TE:=fun σ H Q=>t σ H fun vs H1=>r vs H1 Q
theorem ac_(hc:br' X (.builtin id) r)(hg:Gl X x)(hm:X.mg x=none)(hv:bootBuiltins x=some (.builtin id))(ha:PA X (e::es) t)(hn:x≠"__name__":=by decide)(hdb:(x == ("__debug__":Str))=false:=by decide)
  (he:starEach (e::es) X.env=(false,eval e X.env)::starEach es X.env:=by rfl) (hpl:(backTo pos (starEach es X.env)).any (·.1)=false:=by rfl):PE X (.Call (.Name x p) (e::es) [] pos) (tCB r t):=by
 intro pins s σ H Q I h;refine wpAny_Call_Name_kw (bH_ I hg hm hv ?_ hn hdb);exact PyProof.Rows.callWith_builtin1 (thn (ha pos pins s σ H _ I h) fun us s1 ⟨vs,H1,I1,r1,q1⟩=>hc pins s1 σ H1 vs us Q I1 r1 q1) he hpl
theorem aw_(hc:br' X (.type T) r)(hg:Gl X x)(hm:X.mg x=none)(hv:bootBuiltins x=some (.type T))(ha:PA X (e::es) t)(hn:x≠"__name__":=by decide)(hdb:(x == ("__debug__":Str))=false:=by decide)
  (he:starEach (e::es) X.env=(false,eval e X.env)::starEach es X.env:=by rfl) (hpl:(backTo pos (starEach es X.env)).any (·.1)=false:=by rfl):PE X (.Call (.Name x p) (e::es) [] pos) (tCB r t):=by
 intro pins s σ H Q I h;refine wpAny_Call_Name_kw (bH_ I hg hm hv ?_ hn hdb);exact PyProof.Rows.callWith_type1 (thn (ha pos pins s σ H _ I h) fun us s1 ⟨vs,H1,I1,r1,q1⟩=>hc pins s1 σ H1 vs us Q I1 r1 q1) he hpl
end
end L2
namespace HT
open PySem PyProof.Rows
section
open PySem.SeqAt
open PySem.AutoSeq1 (wpAny_loadPart')
open PySem.MeetsSeq PySem.MeetsSeq2 PySem.MeetsSeq3
end
section
variable{prog:Program}{w:World}{A:Around}{E:Value->Shared->Prop}{s:Shared}
def sIx(n d:Nat):Option Int->Nat
 |none=>d
 |some v=>if v<0 then (v+(n:Int)).toNat else min v.toNat n
theorem sIx_none(n d:Nat):sIx n d none=d:=rfl
theorem sIx_nat(n d k:Nat):sIx n d (some (k:Int))=min k n:=by
 show (if (k:Int)<0 then ((k:Int)+(n:Int)).toNat else min (k:Int).toNat n)=min k n;rw[if_neg (by omega),Int.toNat_natCast]
end
end HT
namespace L2
open PySem PySem.Spec PyProof.Rows
abbrev TO:=St->Hp->(Option Int->Hp->Prop)->Prop
def PO(X:Cx)(e:Option Expr)(t:TO):Prop:=
 ∀(pins:List (Addr × Obj)) (s:Shared) (σ:St) (H:Hp) (Q:Option Int->Hp->Prop),Inv X pins σ H s->t σ H Q->
  wpAny (model X.prog X.w) X.A (evalPart e X.env) (fun u s'=>∃o H',Inv X pins σ H' s'/\IsPart u o/\Q o H') X.xe s
def tNoPart:TO:=fun _ H Q=>Q none H
def tPart(t:TE):TO:=fun σ H Q=>t σ H fun x H1=>∃i,x=.int i/\Q (some i) H1
section
variable{X:Cx}{e:Expr}{te:TE}{lo hi:Option Expr}{tl th:TO}{pos p2:Pos}
theorem ev_:PO X none tNoPart:=by
 intro pins s σ H Q I h;rw[evalPart_none];exact wpAny_pure ⟨none,H,I,.none,h⟩
theorem eb_(h:PE X e te):PO X (some e) (tPart te):=by
 intro pins s σ H Q I hw;rw[evalPart_some];refine thn (h pins s σ H _ I hw) fun u s1 ⟨x,H1,I1,r1,q1⟩=>?_;obtain⟨i,rfl,q⟩:=q1;obtain⟨t,rfl⟩:=r1;exact⟨some i,H1,I1,.int i t,q⟩
def SlR(X:Cx)(r:V->Option Int->Option Int->Hp->VK->Prop):Prop:=
 ∀(pins:List (Addr × Obj)) (s:Shared) (σ:St) (H:Hp) (x:V) (v vl vu:Value) (lo hi:Option Int) (sl:Addr) (Q:VK),Inv X pins σ H s->RelV x v->s.heap.IsSliceOf sl vl vu .none->IsPart vl lo->IsPart vu hi->r x lo hi H Q->
  ∃T id,typeLookup (.type T) "__getitem__"=pure (some (.builtin id))/\s.TypeIs v T/\wpAny (model X.prog X.w) X.A (getItem v (.ref sl)) (EP X pins σ Q) X.xe s
def tSl(r:V->Option Int->Option Int->Hp->VK->Prop)(te:TE)(tl th:TO):TE:=fun σ H Q=>te σ H fun x H1=>tl σ H1 fun l H2=>th σ H2 fun u H3=>r x l u H3 Q
theorem dn_{r:V->Option Int->Option Int->Hp->VK->Prop}(hr:SlR X r)(he:PE X e te)(hl:PO X lo tl)(hu:PO X hi th):PE X (.Subscript e (.Slice lo hi none p2) pos) (tSl r te tl th):=by
 intro pins s σ H Q I h;refine Subscript_ (thn (he pins s σ H _ I h) fun v s1 ⟨x,H1,I1,r1,q1⟩=>?_);refine wpAny_Slice (thn (hl pins s1 σ H1 _ I1 q1) fun vl s2 ⟨l,H2,I2,pl,q2⟩=>thn (hu pins s2 σ H2 _ I2 q2) fun vu s3 ⟨u,H3,I3,pu,q3⟩=>?_);rw[evalPart_none];refine wpAny_pure ?_;have I4:Inv X pins σ H3 { s3 with heap:=s3.heap.push { cls:=.type "slice",data:=.fields #[vl,vu,.none] } }:=I3.kept (t':=s3.toks) fun b ob q=>Heap.get?_push_of_some _ q;obtain⟨T,id,hT,ht,hg⟩:=hr pins { s3 with heap:=s3.heap.push { cls:=.type "slice",data:=.fields #[vl,vu,.none] } } σ H3 x v vl vu l u s3.heap.objs.size Q I4 r1 (Heap.IsSliceOf.new ..) pl pu q3;show wpAny (model X.prog X.w) X.A (subscriptTail e (.Slice lo hi none p2) v (.ref s3.heap.objs.size)) (EP X pins σ Q) X.xe { s3 with heap:=s3.heap.push { cls:=.type "slice",data:=.fields #[vl,vu,.none] } };exact tail_any (ops:=[.ref s3.heap.objs.size,v]) ht hT hg (by with_unfolding_all rfl)
def cutV(xs:List V)(lo hi:Option Int):List V:=(xs.drop (HT.sIx xs.length 0 lo)).take (HT.sIx xs.length xs.length hi - HT.sIx xs.length 0 lo)
theorem em_(xs:List V)(lo hi:Option Int):(cutV xs lo hi).length<=xs.length:=by
 unfold cutV;rw[ak',List.length_drop];omega
end
end L2
namespace L2
open PySem PySem.Spec PyProof.Rows
def ixN(n:Nat)(i:Int):Option Nat:=if 0<=i then (if i<n then some i.toNat else none) else if -(n:Int)<=i then some (i+n).toNat else none
def atI{α:Type}(xs:List α)(i:Int):Option α:=(ixN xs.length i).bind fun j=>xs[j]?
theorem fH_{n:Nat}{i:Int}{j:Nat}(h:ixN n i=some j):seqIndex? i n=some j/\j<n/\-(n:Int)<=i/\i<n:=by
 unfold ixN at h;by_cases h0:0<=i
 ·rw[if_pos h0] at h;by_cases h1:i<n
  ·rw[if_pos h1] at h;have e:i.toNat=j:=Option.some.inj h;exact⟨by rw[seqIndex_of h0 h1,e],by omega,by omega,h1⟩
  ·rw[if_neg h1] at h;cases h
 ·rw[if_neg h0] at h;by_cases h1:-(n:Int)<=i
  ·rw[if_pos h1] at h;have e:(i+n).toNat=j:=Option.some.inj h;exact⟨by rw[seqIndex_neg (by omega) h1,e],by omega,h1,by omega⟩
  ·rw[if_neg h1] at h;cases h
theorem et_{α:Type}{xs:List α}{i:Int}{v:α}(h:atI xs i=some v):∃j,seqIndex? i xs.length=some j/\xs[j]? = some v/\j<xs.length/\-(xs.length:Int)<=i/\i<xs.length:=by
 unfold atI at h;cases e:ixN xs.length i with
 |none=>rw[e] at h;cases h
 |some j=>
  rw[e] at h;obtain⟨h1,h2,h3,h4⟩:=fH_ e;exact⟨j,h1,h,h2,h3,h4⟩
theorem bg'{α:Type}{xs:List α}{j:Nat}{v:α}(h:xs[j]? = some v):atI xs (j:Int)=some v:=by
 have hj:j<xs.length:=(ab'.mp h).1
 have e:ixN xs.length (j:Int)=some j:=by
  unfold ixN;rw[if_pos (by omega),if_pos (by omega)];simp
 unfold atI;rw[e];exact h
def PlainIx(b:Expr):Prop:=∀o i,subscripted b false o i=operate [o,i] (getItem o i)
def IxR(X:Cx)(r:R2):Prop:=
 ∀(value slice:Expr) (pins:List (Addr × Obj)) (s:Shared) (σ:St) (H:Hp) (x y:V) (v u:Value) (Q:VK),Inv X pins σ H s->RelV x v->RelV y u->r x y H Q->
  subscripted slice false v u=operate [v,u] (getItem v u)->wpAny (model X.prog X.w) X.A (subscriptTail value slice v u) (EP X pins σ Q) X.xe s
def MtR(X:Cx)(id:String)(r:V->List V->Hp->VK->Prop):Prop:=
 ∀(pins:List (Addr × Obj)) (s:Shared) (σ:St) (H:Hp) (x:V) (xs:List V) (v:Value) (us:List Value) (Q:VK),Inv X pins σ H s->RelV x v->Vals xs us->r x xs H Q->
  wpAny (model X.prog X.w) X.A (call (.builtin id) (v::us)) (EP X pins σ Q) X.xe s
section
variable{X:Cx}{a b:Expr}{ta tb:TE}{pos:Pos}
theorem az_{r:R2}(hr:IxR X r)(ha:PE X a ta)(hb:PE X b tb)(hs:PlainIx b):PE X (.Subscript a b pos) (tOp r ta tb):=by
 intro pins s σ H Q I h;exact Subscript_ (binT ha hb I h fun v u s2 x y H2 I2 rx ry q=>hr a b pins s2 σ H2 x y v u Q I2 rx ry q (hs _ _))
def rIxL(K:F__):R2:=fun x y H Q=>∃p xs i v,x=.ref p/\y=.int i/\SqL K H p xs/\atI xs i=some v/\Q v H
def rIxT(K:F__):R2:=fun x y H Q=>∃p xs i v,x=.ref p/\y=.int i/\SqT K H p xs/\atI xs i=some v/\Q v H
def rIxS:R2:=fun x y H Q=>∃z i c,x=.str z/\y=.int i/\z.length<=sizeLine/\atI z.cps.toList i=some c/\Q (.str ⟨#[c]⟩) H
theorem aH_:IxR X (rIxL X.K):=by
 intro value slice pins s σ H x y v u Q I rx ry h hs;obtain⟨p,xs,i,z,rfl,rfl,hq,he,q⟩:=h;cases rx;obtain⟨t,rfl⟩:=ry;obtain⟨its,r,pl,hz⟩:=I.list hq;obtain⟨j,h1,h2,h3,h4,h5⟩:=et_ he;obtain⟨w,ew,rw'⟩:=r.get h2;have hl:=r.length;have hn:=line63;have fin:EP X pins σ Q w s:=⟨z,H,I,rw',q⟩;by_cases h0:0<=i
 ·have hj:i.toNat=j:=by
   rw[seqIndex_of h0 h5] at h1;exact Option.some.inj h1
  exact item_listR pl.isList h0 (by omega) (by rw[hj];simpa using ew) fin hs
 ·have hj:(i+(its.toArray.size:Int)).toNat=j:=by
   rw[seqIndex_neg (by omega) h4] at h1;rw[ai',<- hl];exact Option.some.inj h1
  exact subscriptTail_builtinR (x:=w) pl.isList.typeIs slot_list_getitem.lookup
   (wpAny_getItem_list_neg (Q:=fun r s'=>r=w/\EP X pins σ Q r s') pl.isList (by omega) (by rw[ai']<;>omega) (by omega) (by rw[hj];simpa using ew) ⟨rfl,fin⟩) hs
theorem aM_:IxR X (rIxT X.K):=by
 intro value slice pins s σ H x y v u Q I rx ry h hs;obtain⟨p,xs,i,z,rfl,rfl,hq,he,q⟩:=h;cases rx;obtain⟨t,rfl⟩:=ry;obtain⟨its,r,pl,hz⟩:=I.tuple hq;obtain⟨j,h1,h2,h3,h4,h5⟩:=et_ he;obtain⟨w,ew,rw'⟩:=r.get h2;have hl:=r.length;have hn:=line63;have fin:EP X pins σ Q w s:=⟨z,H,I,rw',q⟩
 exact subscriptTail_builtinR (x:=w) pl.typeIs slot_tuple_getitem.lookup
  (getItem_tuple (j:=j) (Q:=fun r s'=>r=w/\EP X pins σ Q r s') pl (by omega) (by omega) (by rw[ai',<- hl];exact h1) (by simpa using ew) ⟨rfl,fin⟩) hs
theorem i7_:IxR X rIxS:=by
 intro value slice pins s σ H x y v u Q I rx ry h hs;obtain⟨z,i,c,rfl,rfl,hz,he,q⟩:=h;obtain⟨t,rfl⟩:=rx;obtain⟨t',rfl⟩:=ry;obtain⟨j,h1,h2,h3,h4,h5⟩:=et_ he;have hl:z.cps.toList.length=z.length:=by simp[Str.length]
 rw[hl] at h1 h4 h5;have hn:=line63
 exact tail_any (typeIs_str s z t) slot_str_getitem.lookup (getItem_str (c:=c) (by
  have e1:decide (i < -(2 ^ 63:Int))=false:=decide_eq_false (by omega);have e2:decide (i ≥ 2 ^ 63)=false:=decide_eq_false (by omega);rw[e1,e2,Bool.or_false]) (by rw[h1];simpa using h2) ⟨.str ⟨#[c]⟩,H,I.tok _,⟨_,rfl⟩,q⟩) hs
theorem fa_(its:List Value)(n j:Nat)(u:Value):Obj.mapSeq (·.setIfInBounds j u) { cls:=.type "list",data:=.seq its.toArray n }={ cls:=.type "list",data:=.seq (its.set j u).toArray n }:=by
 simp[Obj.mapSeq]
theorem Inv.lst{pins:List (Addr × Obj)}{σ:St}{H:Hp}{s:Shared}{p:Addr}{xs:List V}(I:Inv X pins σ H s)(h:H p=some (.lst xs)) :
  ∃(its:List Value) (n:Nat),Vals xs its/\s.heap.get? p=some { cls:=.type "list",data:=.seq its.toArray n }/\xs.length<=sizeLine:=by
 obtain⟨z,its,n,r,e⟩:=I.hok p _ h;exact⟨its,n,r,e,z⟩
theorem Inv.lstUpd{pins:List (Addr × Obj)}{σ:St}{H:Hp}{s:Shared}{p:Addr}{xs ys:List V}{its its':List Value}{n n':Nat}{f:Obj->Obj}(I:Inv X pins σ H s)(h:H p=some (.lst xs))
  (ho:s.heap.get? p=some { cls:=.type "list",data:=.seq its.toArray n }) (hf:f { cls:=.type "list",data:=.seq its.toArray n }={ cls:=.type "list",data:=.seq its'.toArray n' }) (r:Vals ys its') (hz:ys.length<=sizeLine) (t:Nat) :
  Inv X pins σ (upd H p (.lst ys)) { s with heap:=s.heap.update p f,toks:=t }:=by
 have e:(s.heap.update p f).get? p=some { cls:=.type "list",data:=.seq its'.toArray n' }:=by
  rw[Heap.get?_update_self f ho (by rw[hf]<;>rfl),hf]
 refine I.write (x:=p) (e:=p) (by rw[h];trivial) (.inl rfl) (fun b u hb q=>(Heap.get?_update_other _ _ (Ne.symm hb)).trans q) ⟨_,e⟩ ?_;exact⟨hz,its',n',r,e⟩
def rSetL:V->V->V->Hp->(Hp->Prop)->Prop:=fun o i v H Q=>∃p xs k j,o=.ref p/\i=.int k/\H p=some (.lst xs)/\ixN xs.length k=some j/\Q (upd H p (.lst (xs.set j v)))
theorem eE_:PSet X rSetL:=by
 intro pins s σ H o i v ov iv u Q I ro ri rv h;obtain⟨p,xs,k,j,rfl,rfl,hp,hj,q⟩:=h;cases ro;obtain⟨t,rfl⟩:=ri;obtain⟨its,n,r,ho,hz⟩:=I.lst hp;obtain⟨h1,h2,h3,h4⟩:=fH_ hj;have hl:=r.length;have hn:=line63
 have I':Inv X pins σ (upd H p (.lst (xs.set j v))) { s with heap:=s.heap.update p (Obj.mapSeq (·.setIfInBounds j u)) }:=
  I.lstUpd hp ho (fa_ its n j u) (r.set rv j) (by rw[List.length_set];exact hz) s.toks
 by_cases h0:0<=k
 ·have hk:k.toNat=j:=by
   rw[seqIndex_of h0 h4] at h1;exact Option.some.inj h1
  exact PySem.W.ki_setAt ho h0 (by omega) (by rw[ai',<- hl];exact h4) (by rw[hk];exact⟨_,I',q⟩)
 ·have hk:(k+(its.toArray.size:Int)).toNat=j:=by
   rw[seqIndex_neg (by omega) h3] at h1;rw[ai',<- hl];exact Option.some.inj h1
  exact PySem.W.ki_setBack ho (by omega) (by rw[ai',<- hl];exact h3) (by omega) (by rw[hk];exact⟨_,I',q⟩)
theorem dy_(lo hi:Option Int)(n:Nat):(sliceBounds lo hi none n).1=((HT.sIx n 0 lo:Nat):Int)/\(sliceBounds lo hi none n).2.1=((HT.sIx n n hi:Nat):Int)/\(sliceBounds lo hi none n).2.2=1:=by
 refine⟨?_,?_,rfl⟩
 ·cases lo with
  |none=>simp[sliceBounds,HT.sIx]
  |some i=>
   simp only[sliceBounds,HT.sIx,Option.getD_none,show (1:Int) > 0 by decide,if_true];by_cases h:i<0
   ·simp only[h,if_true]<;>omega
   ·simp only[h,if_false]<;>omega
 ·cases hi with
  |none=>simp[sliceBounds,HT.sIx]
  |some i=>
   simp only[sliceBounds,HT.sIx,Option.getD_none,show (1:Int) > 0 by decide,if_true];by_cases h:i<0
   ·simp only[h,if_true]<;>omega
   ·simp only[h,if_false]<;>omega
theorem dc_(its:List Value)(lo hi:Option Int):slicePick its.toArray lo hi none=((its.drop (HT.sIx its.length 0 lo)).take (HT.sIx its.length its.length hi - HT.sIx its.length 0 lo)).toArray:=by
 obtain⟨h1,h2,h3⟩:=dy_ lo hi its.toArray.size;unfold slicePick;rw[h1,h2,h3];simp only[sliceRange_one,pick_run,ai']<;>rfl
def rSlL(K:F__):V->Option Int->Option Int->Hp->VK->Prop:=fun x lo hi H Q=>∃a xs,x=.ref a/\SqL K H a xs/\∀p,H p=none->Q (.ref p) (upd H p (.lst (cutV xs lo hi)))
theorem iV_:SlR X (rSlL X.K):=by
 intro pins s σ H x v vl vu lo hi sl Q I rx hs pl pu h;obtain⟨a,xs,rfl,hx,q⟩:=h;cases rx;obtain⟨its,r,ht,hz⟩:=I.list hx;have hlen:=r.length;refine⟨"list",_,slot_list_getitem.lookup,ht.isList.typeIs,?_⟩;refine wpAny_getItem_list_slice ht.isList hs pl pu .none (by simp) ?_ (by rw[ai']<;>omega)
 rw[dc_,<- hlen];refine⟨.ref s.heap.objs.size,_,I.laid (t':=s.toks) (o:=.lst (cutV xs lo hi)) (fun b ob q=>Heap.get?_push_of_some _ q) (af' _) ?_,rfl,q _ (I.hok.fresh (af' _))⟩;exact⟨aW' (em_ xs lo hi) hz,_,0,(r.drop (HT.sIx xs.length 0 lo)).take (HT.sIx xs.length xs.length hi - HT.sIx xs.length 0 lo),Heap.get?_push_size _ rfl⟩
def bY':V->Bool
 |.non=>true
 |.bl _=>true
 |.int _=>true
 |.str _=>true
 |_=>false
def eqV:V->V->Bool
 |.non,.non=>true
 |.bl a,.bl b=>a == b
 |.bl a,.int b=>(if a then 1 else 0) == b
 |.int a,.bl b=>a == (if b then 1 else 0)
 |.int a,.int b=>a == b
 |.str a,.str b=>a == b
 |_,_=>false
theorem gh_{A:Around}{s:Shared}{y x:V}{u v:Value}(ry:RelV y u)(rx:RelV x v)(fy:bY' y=true)(fx:bY' x=true):SeqAt.EqAt A s u v (eqV y x):=by
 cases y with
 |non=>
  cases ry;cases x with
  |non=>cases rx;exact SeqAt.EqAt.same _
  |bl b=>cases rx;exact SeqAt.EqAt.none_bool b
  |int b=>obtain⟨t,rfl⟩:=rx;exact SeqAt.EqAt.none_int b t
  |str b=>obtain⟨t,rfl⟩:=rx;exact SeqAt.EqAt.none_str b t
  |_=>exact absurd (show false=true from fx) aq'
 |bl a=>
  cases ry;cases x with
  |non=>cases rx;exact SeqAt.EqAt.bool_none a
  |bl b=>cases rx;exact SeqAt.EqAt.bool_bool a b
  |int b=>obtain⟨t,rfl⟩:=rx;exact SeqAt.EqAt.bool_int a b t
  |str b=>obtain⟨t,rfl⟩:=rx;exact SeqAt.EqAt.bool_str a b t
  |_=>exact absurd (show false=true from fx) aq'
 |int a=>
  obtain⟨t',rfl⟩:=ry;cases x with
  |non=>cases rx;exact SeqAt.EqAt.int_none a t'
  |bl b=>cases rx;exact SeqAt.EqAt.int_bool a t' b
  |int b=>obtain⟨t,rfl⟩:=rx;exact SeqAt.EqAt.int_int a t' b t
  |str b=>obtain⟨t,rfl⟩:=rx;exact SeqAt.EqAt.int_str a t' b t
  |_=>exact absurd (show false=true from fx) aq'
 |str a=>
  obtain⟨t',rfl⟩:=ry;cases x with
  |non=>cases rx;exact SeqAt.EqAt.str_none a t'
  |bl b=>cases rx;exact SeqAt.EqAt.str_bool a t' b
  |int b=>obtain⟨t,rfl⟩:=rx;exact SeqAt.EqAt.str_int a t' b t
  |str b=>obtain⟨t,rfl⟩:=rx;exact SeqAt.EqAt.str_str a t' b t
  |_=>exact absurd (show false=true from fx) aq'
 |_=>exact absurd (show false=true from fy) aq'
def eqU(x:V)(u:Value):Bool:=match u with
 |.none=>eqV .non x
 |.bool b=>eqV (.bl b) x
 |.int i _=>eqV (.int i) x
 |.str z _=>eqV (.str z) x
 |_=>false
theorem fB_{x y:V}{u:Value}(r:RelV y u)(f:bY' y=true):eqU x u=eqV y x:=by
 cases y with
 |non=>cases r;rfl
 |bl b=>cases r;rfl
 |int i=>obtain⟨t,rfl⟩:=r;rfl
 |str z=>obtain⟨t,rfl⟩:=r;rfl
 |_=>exact absurd (show false=true from f) aq'
theorem er_{x:V}:∀{xs:List V} {us:List Value},Vals xs us->xs.all bY'=true->us.any (eqU x)=xs.any fun y=>eqV y x
 |_,_,.nil,_=>rfl
 |y::xs,u::us,.cons r t,f=>by
  rw[List.all_cons,aY'] at f;rw[List.any_cons,List.any_cons,fB_ r f.1,er_ t f.2]
theorem cm_{A:Around}{s:Shared}{x:V}{v:Value}(rx:RelV x v)(fx:bY' x=true):∀{xs:List V} {us:List Value},Vals xs us->xs.all bY'=true->∀u∈us,SeqAt.EqAt A s u v (eqU x u)
 |_,_,.nil,_=>fun u hu=>by cases hu
 |y::xs,u::us,.cons r t,f=>fun u' hu=>by
  rw[List.all_cons,aY'] at f;rcases ah'.mp hu with rfl|hu
  ·rw[fB_ r f.1];exact gh_ r rx f.1 fx
  ·exact cm_ rx fx t f.2 u' hu
def inV(x:V)(xs:List V):Bool:=xs.any fun y=>eqV y x
def rIn(K:F__)(neg:Bool):R2:=fun x y H Q=>∃p xs,y=.ref p/\(SqL K H p xs∨SqT K H p xs)/\bY' x=true/\xs.all bY'=true/\Q (.bl (if neg then !inV x xs else inV x xs)) H
theorem bS_:OpR X (compareOp .In) (rIn X.K false):=by
 intro pins s σ H x y v u Q I rx ry h;obtain⟨p,xs,rfl,hq,fx,fs,q⟩:=h;cases ry;rcases hq with hq|hq
 ·obtain⟨its,r,pl,hz⟩:=I.list hq;refine SeqAt.in_listAt (eqU x) pl.isList (fun w hw=>cm_ rx fx r fs w (by simpa using hw)) ⟨.bl _,H,I,rfl,?_⟩;rw[show its.toArray.any (eqU x)=its.any (eqU x) by simp,er_ r fs];exact q
 ·obtain⟨its,r,pl,hz⟩:=I.tuple hq;refine SeqAt.in_tupleAt (eqU x) pl (fun w hw=>cm_ rx fx r fs w (by simpa using hw)) ⟨.bl _,H,I,rfl,?_⟩;rw[show its.toArray.any (eqU x)=its.any (eqU x) by simp,er_ r fs];exact q
theorem ai_:br' X (.builtin "len") (fun xs H Q=>∃p ys,xs=[.ref p]/\(SqL X.K H p ys∨SqT X.K H p ys)/\Q (.int ys.length) H):=by
 intro pins s σ H xs us Q I r h;obtain⟨p,ys,rfl,hq,q⟩:=h;obtain⟨u,rfl,rx⟩:=vals1 r;cases rx;have hn:=line63;rcases hq with hq|hq
 ·obtain⟨its,r',pl,hz⟩:=I.list hq;have hlen:=r'.length;exact Calls.call_len_list pl.isList (by simp only[ai']<;>omega) ⟨.int ys.length,H,I.tok _,⟨s.toks+1,by rw[ai',hlen]⟩,q⟩
 ·obtain⟨its,r',pl,hz⟩:=I.tuple hq;have hlen:=r'.length;exact len_tuple pl (by simp only[ai']<;>omega) ⟨.int ys.length,H,I.tok _,⟨s.toks+1,by rw[ai',hlen]⟩,q⟩
theorem cf_:br' X (.builtin "len") (fun xs H Q=>∃z,xs=[.str z]/\z.length<=sizeLine/\Q (.int z.length) H):=by
 intro pins s σ H xs us Q I r h;obtain⟨z,rfl,hz,q⟩:=h;obtain⟨u,rfl,t,rfl⟩:=vals1 r;have hn:=line63;exact len_str (by omega) ⟨.int z.length,H,I.tok _,⟨_,rfl⟩,q⟩
theorem dD_:br' X (.type "list") (fun xs H Q=>∃p ys,xs=[.ref p]/\(SqL X.K H p ys∨SqT X.K H p ys)/\∀l,H l=none->Q (.ref l) (upd H l (.lst ys))):=by
 intro pins s σ H xs us Q I r h;obtain⟨p,ys,rfl,hq,q⟩:=h;obtain⟨u,rfl,rx⟩:=vals1 r;cases rx
 have fin:∀(its:List Value),Vals ys its->ys.length<=sizeLine->∀(h':Heap) (c':Nat),(∀b o',s.heap.get? b=some o'->h'.get? b=some o')->
   h'.get? s.heap.objs.size=some { cls:=.type "list",dict:=none,data:=.seq its.toArray c',slots:=#[] }->EP X pins σ Q (.ref s.heap.objs.size) { s with heap:=h' }:=fun its r' hz h' c' kp e=>
  ⟨.ref s.heap.objs.size,_,I.laid (t':=s.toks) kp (af' _) (show bh' X.prog X.w _ h' _ (.lst ys) from ⟨hz,its,c',r',e⟩),rfl,q _ (I.hok.fresh (af' _))⟩
 rcases hq with hq|hq
 ·obtain⟨its,r',pl,hz⟩:=I.list hq;have hlen:=r'.length;obtain⟨o,ho,hc,n,hd⟩:=pl.isList;exact call_list_seq p (.inl rfl) ho hc hd (fun h' c' kp e=>fin its r' hz h' c' kp e) (by simp only[ai']<;>omega)
 ·obtain⟨its,r',pl,hz⟩:=I.tuple hq;have hlen:=r'.length;obtain⟨o,ho,hc,n,hd⟩:=pl;exact call_list_seq p (.inr rfl) ho hc hd (fun h' c' kp e=>fin its r' hz h' c' kp e) (by simp only[ai']<;>omega)
def tyV(K:F__)(T:String)(x:V)(H:Hp):Prop:=match x with
 |.str _=>T="str"
 |.int _=>T="int"
 |.ref p=>(T="list"/\∃xs,SqL K H p xs)∨(T="tuple"/\∃o,K.lookup p=some o/\o.cls=.type "tuple"/\o.dict=none) ∨
   (T="dict"/\((∃kvs,H p=some (.dK kvs))∨∃kvs,H p=some (.dT kvs)))∨(T="set"/\∃S n,H p=some (.set S n))
 |_=>False
theorem jW_{pins:List (Addr × Obj)}{σ:St}{H:Hp}{s:Shared}{T:String}{x:V}{v:Value}(I:Inv X pins σ H s)(r:RelV x v)(ty:tyV X.K T x H) :
  s.TypeIs v T/\∀a,v=.ref a->∃ob,s.heap.get? a=some ob/\ob.dict=none:=by
 cases x with
 |str z=>
  obtain⟨t,rfl⟩:=r;cases (show T="str" from ty);exact⟨typeIs_str s z t,fun _ e=>nomatch e⟩
 |int i=>
  obtain⟨t,rfl⟩:=r;cases (show T="int" from ty);exact⟨typeIs_int s i t,fun _ e=>nomatch e⟩
 |ref p=>
  cases r;rcases ty with⟨rfl,xs,hq⟩|⟨rfl,o,hk,hc,hd⟩|⟨rfl,hk⟩|⟨rfl,S,n,hk⟩
  ·obtain⟨its,_,pl,_⟩:=I.list hq;refine⟨pl.isList.typeIs,fun a e=>?_⟩;cases e;obtain⟨o,n,e,c,hd,_⟩:=pl;exact⟨o,e,hd⟩
  ·refine⟨⟨o,I.kIn p o hk,hc⟩,fun a e=>?_⟩;cases e;exact⟨o,I.kIn _ o hk,hd⟩
  ·have z:∃o,s.heap.get? p=some o/\o.ExactDict:=by
    rcases hk with⟨kvs,hk⟩|⟨kvs,hk⟩
    ·obtain⟨_,_,_,_,o,_,_,e,ex,_⟩:=I.hok p _ hk;exact⟨o,e,ex⟩
    ·obtain⟨_,_,_,_,o,_,_,e,ex,_⟩:=I.hok p _ hk;exact⟨o,e,ex⟩
   obtain⟨o,e,ex⟩:=z;refine⟨⟨o,e,ex.1⟩,fun a e2=>?_⟩;cases e2;exact⟨o,e,ex.2.1⟩
  ·obtain⟨o,_,_,_,e,ex,_⟩:=I.hok p _ hk;refine⟨⟨o,e,ex.1⟩,fun a e2=>?_⟩;cases e2;exact⟨o,e,ex.2.1⟩
 |_=>exact False.elim ty
def tBM(K:F__)(T:String)(r:V->List V->Hp->VK->Prop)(to:TE)(t:TA):TE:=fun σ H Q=>to σ H fun x H1=>tyV K T x H1/\t σ H1 fun xs H2=>r x xs H2 Q
variable{o e:Expr}{es:List Expr}{to:TE}{t:TA}{name:Str}{apos cpos:Pos}{T id:String}{r:V->List V->Hp->VK->Prop}
theorem bK_(pa:PlainAttrs T)(slot:Slot T name id)(hty:typeOf (.builtin id)=pure (.type "method_descriptor"))(hm:MtR X id r)(ho:PE X o to)(ha:PA X (e::es) t)
  (hbase:attributeBase o name X.env (eval o X.env)=eval o X.env:=by rfl)
  (hfew:((backTo cpos (starEach (e::es) X.env)).all (fun x=>!x.1)&&(backToKw cpos (keywordEach [] X.env)).all (fun x=>x.1.isSome)
   && decide ((e::es).length+([]:List Keyword).length+(if ([]:List Keyword).isEmpty then 0 else 1)<30))=true:=by rfl)
  (hline:(apos.endLine == cpos.line)=true:=by rfl) (hs:starEach (e::es) X.env=(false,eval e X.env)::starEach es X.env:=by rfl) (hplain:(backTo cpos (starEach es X.env)).any (·.1)=false:=by rfl) :
  PE X (.Call (.Attribute o name apos) (e::es) [] cpos) (tBM X.K T r to t):=by
 intro pins s σ H Q I h;refine wpAny_Call_method_late hbase hfew hline rfl (thn (ho pins s σ H _ I h) fun v s1 ⟨x,H1,I1,r1,ty,q1⟩=>?_);obtain⟨h1,h2⟩:=jW_ I1 r1 ty;refine⟨T,id,pa,slot,hty,h1,h2,?_⟩;have hA:=ha cpos pins s1 σ H1 _ I1 q1;rw[hs] at hA ⊢;refine Calls.callWith_builtin (by show (false || (backTo cpos (starEach es X.env)).any (·.1))=false;rw[hplain]<;>rfl) (Calls.evalArgs_plain ?_)
 exact thn hA fun us s2 ⟨vs,H2,I2,r2,q2⟩=>hm pins s2 σ H2 x vs v us Q I2 r1 r2 q2
end
end L2
namespace L2
open PySem PySem.Spec PyProof.Rows
def MtM(X:Cx)(id:String)(r:V->List V->Hp->VK->Prop):Prop:=
 ∀(pins:List (Addr × Obj)) (s:Shared) (σ:St) (H:Hp) (x:V) (xs:List V) (v:Value) (us:List Value) (Q:VK),Inv X pins σ H s->RelV x v->Vals xs us->r x xs H Q->
  wpAny (model X.prog X.w) X.A (call (.builtin id) (v::us)) (EP X pins σ Q) X.xe s
theorem Vals.one:∀{x:V} {us:List Value},Vals [x] us->∃u,us=[u]/\RelV x u
 |_,_,.cons r .nil=>⟨_,rfl,r⟩
theorem Vals.rep{xs:List V}{us:List Value}(h:Vals xs us):∀k:Nat,Vals (List.replicate k xs).flatten (List.replicate k us).flatten
 |0=>.nil
 |k+1=>by
  rw[List.replicate_succ,List.replicate_succ,List.flatten_cons,List.flatten_cons];exact Vals.append h (Vals.rep h k)
theorem dO_(its:List Value):∀(k:Nat) (acc:List Value),
  List.foldl (fun x1 x2=>x1++x2) acc.toArray (List.replicate k its.toArray)=(acc++(List.replicate k its).flatten).toArray
 |0,acc=>by simp
 |k+1,acc=>by
  have e:acc.toArray++its.toArray=(acc++its).toArray:=by simp
  have e2:(acc++its)++(List.replicate k its).flatten=acc++(List.replicate (k+1) its).flatten:=by
   rw[List.replicate_succ,List.flatten_cons,List.append_assoc]
  rw[<- e2,<- dO_ its k (acc++its),<- e,List.replicate_succ,List.foldl_cons]
section
variable{X:Cx}{pins:List (Addr × Obj)}{σ:St}{H:Hp}{s:Shared}{l b:Addr}{xs ys zs:List V}
theorem Inv.lset{its its':List Value}{n:Nat}{f:Array Value->Array Value}{t':Nat}(I:Inv X pins σ H s)(hH:H l=some (.lst xs))
  (e:s.heap.get? l=some { cls:=.type "list",data:=.seq its.toArray n }) (hf:f its.toArray=its'.toArray) (hv:Vals ys its') (hz:ys.length<=sizeLine) :
  Inv X pins σ (upd H l (.lst ys)) { s with heap:=s.heap.update l (Obj.mapSeq f),toks:=t' }:=by
 have q:=PySem.IsL.update e f;rw[hf] at q;refine I.write (x:=l) (e:=l) (by rw[hH];exact trivial) (.inl rfl) (fun b' u hb hu=>(Heap.get?_update_other s.heap (Obj.mapSeq f) (Ne.symm hb)).trans hu) ⟨_,q⟩ ?_;exact⟨hz,its',_,hv,q⟩
theorem Inv.lnew{its:List Value}{t':Nat}(I:Inv X pins σ H s)(hv:Vals ys its)(hz:ys.length<=sizeLine) :
  Inv X pins σ (upd H s.heap.objs.size (.lst ys)) { s with heap:=s.heap.push { cls:=.type "list",data:=.seq its.toArray },toks:=t' }:=
 I.laid (fun _ _ q=>Heap.get?_push_of_some _ q) (af' _) ⟨hz,its,0,hv,Heap.get?_push_size _ rfl⟩
theorem Inv.fresh(I:Inv X pins σ H s):H s.heap.objs.size=none:=I.hok.fresh (af' _)
theorem Inv.lstM(I:Inv X pins σ H s)(hH:H l=some (.lst xs)):xs.length<=sizeLine/\∃(its:List Value) (n:Nat),Vals xs its/\xs.length=its.length/\s.heap.get? l=some { cls:=.type "list",data:=.seq its.toArray n }:=by
 obtain⟨z,its,n,r,e⟩:=I.hok l _ hH;exact⟨z,its,n,r,r.length,e⟩
theorem da'{n:Nat}(h:n<=sizeLine):Builtin.List.listTooLong n=false:=by
 unfold Builtin.List.listTooLong;exact decide_eq_false (by omega)
end
section
variable{X:Cx}
def rAppend:V->List V->Hp->VK->Prop:=fun x vs H Q=>∃l xs y,x=.ref l/\vs=[y]/\H l=some (.lst xs)/\xs.length<sizeLine/\Q .non (upd H l (.lst (xs++[y])))
theorem aT_:MtM X "list.append" rAppend:=by
 intro pins s σ H x vs v us Q I rx rv h;obtain⟨l,xs,y,rfl,rfl,hH,hz,q⟩:=h;cases rx;obtain⟨u,rfl,ru⟩:=rv.one;obtain⟨z,its,n,r,hl,e⟩:=I.lstM hH;refine call_meets F.slot_list_append ⟨_,e,rfl⟩ F.entry_list_append (F.args_list_append_2 _ _) (PySem.list_append l its.toArray n u (by rw[ai'];omega)) ⟨e,?_⟩;refine⟨.non,_,I.lset (its':=its++[u]) hH e (by simp) (r.append (.cons ru .nil)) ?_,rfl,q⟩;rw[ap',List.length_singleton];omega
def rExtend:V->List V->Hp->VK->Prop:=fun x vs H Q=>∃l b xs zs,x=.ref l/\vs=[.ref b]/\H l=some (.lst xs)/\H b=some (.lst zs)/\xs.length+zs.length<=sizeLine/\Q .non (upd H l (.lst (xs++zs)))
theorem dw_:MtM X "list.extend" rExtend:=by
 intro pins s σ H x vs v us Q I rx rv h;obtain⟨l,b,xs,zs,rfl,rfl,hH,hB,hz,q⟩:=h;cases rx;obtain⟨u,rfl,ru⟩:=rv.one;cases ru;obtain⟨z,its,n,r,hl,e⟩:=I.lstM hH;obtain⟨z2,its2,n2,r2,hl2,e2⟩:=I.lstM hB;have hsz:its.toArray.size+its2.toArray.size<=sizeLine:=by rw[ai',ai'];omega
 have hlong:¬(!its.toArray.isEmpty&&Builtin.List.listTooLong (its.toArray.size+its2.toArray.size))=true:=by
  rw[da' hsz,aS'];exact aq'
 refine call_meets F.slot_list_extend ⟨_,e,rfl⟩ F.entry_list_extend (F.args_list_extend_2 _ _)
  (AutoSeq1.list_extend_list_list_0 l its.toArray n b its2.toArray n2 hlong (by rw[ai'];omega) (by omega)) ⟨e,e2,?_⟩
 refine⟨.non,_,I.lset (its':=its++its2) hH e (by simp) (r.append r2) ?_,rfl,q⟩;rw[ap'];omega
def rCat:R2:=fun x y H Q=>∃l b xs zs,x=.ref l/\y=.ref b/\H l=some (.lst xs)/\H b=some (.lst zs)/\xs.length+zs.length<=sizeLine/\∀p,H p=none->Q (.ref p) (upd H p (.lst (xs++zs)))
theorem dX_:OpR X (binaryOp .Add) rCat:=by
 intro pins s σ H x y v u Q I rx ry h;obtain⟨l,b,xs,zs,rfl,rfl,hH,hB,hz,q⟩:=h;cases rx;cases ry;obtain⟨z,its,n,r,hl,e⟩:=I.lstM hH;obtain⟨z2,its2,n2,r2,hl2,e2⟩:=I.lstM hB;refine PySem.P.add_list e e2 ?_ (by rw[ai',ai'];omega);have ea:its.toArray++its2.toArray=(its++its2).toArray:=by simp
 rw[ea];exact⟨.ref _,_,I.lnew (t':=s.toks) (r.append r2) (by rw[ap'];omega),rfl,q _ I.fresh⟩
def rRep:R2:=fun x y H Q=>∃l k xs,x=.ref l/\y=.int k/\H l=some (.lst xs)/\-(2 ^ 63)<=k/\k<2 ^ 63/\xs.length * k.toNat<=sizeLine /\
 ∀p,H p=none->Q (.ref p) (upd H p (.lst (List.replicate k.toNat xs).flatten))
theorem jn_{α:Type}(xs:List α)(k:Nat):(List.replicate k xs).flatten.length=k * xs.length:=by
 induction k with
 |zero=>simp
 |succ k ih=>rw[List.replicate_succ,List.flatten_cons,ap',ih,Nat.succ_mul,Nat.add_comm]
theorem ic_:OpR X (binaryOp .Mult) rRep:=by
 intro pins s σ H x y v u Q I rx ry h;obtain⟨l,k,xs,rfl,rfl,hH,h1,h2,hz,q⟩:=h;cases rx;obtain⟨t,rfl⟩:=ry;obtain⟨z,its,n,r,hl,e⟩:=I.lstM hH;have hlen:its.toArray.size * k.toNat<=sizeLine:=by rw[ai',<- hl];exact hz
 have hcap:¬its.toArray.size * k.toNat > (2 ^ 63 - 1) / 8:=by
  have:(sizeLine:Nat)<=(2 ^ 63 - 1) / 8:=by decide
  omega
 have hfit:¬(!Builtin.List.listFitsIndex k)=true:=by
  rw[fitsIndex_both h1 h2];exact aq'
 have hlong:¬Builtin.List.listTooLong (its.toArray.size * k.toNat)=true:=by
  rw[da' hlen];exact aq'
 have hnew:List.foldl (fun x1 x2=>x1++x2) #[] (List.replicate (if its.toArray.isEmpty=true then 0 else k.toNat) its.toArray)=(List.replicate k.toNat its).flatten.toArray:=by
  have f0:∀m:Nat,List.foldl (fun x1 x2=>x1++x2) #[] (List.replicate m its.toArray)=(List.replicate m its).flatten.toArray:=fun m=>by
   have:=dO_ its m [];rw[List.nil_append] at this;exact this
  rw[f0];cases its with
  |nil=>simp
  |cons a r'=>rw[if_neg (by simp)]
 refine wpAny_binaryOp_repeat_ref (T:="list") (U:="int") (by decide) ⟨_,e,rfl⟩ (fun s'=>typeIs_int s' k t) noFill_list_mul F.fills_int_mul F.slot_int_rmul repeat_list F.slot_int_index.lookup
  (call_meets F.slot_int_rmul (typeIs_int s k t) F.entry_int_rmul (F.args_int_rmul_2 _ _) (int___rmul___int_list k t l its.toArray n)
   ⟨e,rfl,⟨_,e,rfl⟩,call_meets F.slot_list_mul ⟨_,e,rfl⟩ F.entry_list_mul (F.args_list_mul_2 _ _) (AutoListH.list___mul___list_int_3 l its.toArray n k t hfit hcap hlong) ⟨e,?_⟩⟩)
 rw[hnew];exact⟨.ref _,_,I.lnew (t':=s.toks) (r.rep k.toNat) (by rw[jn_,Nat.mul_comm];exact hz),rfl,q _ I.fresh⟩
end
section
variable{prog:Program}{w:World}{A:Around}{E:Value->Shared->Prop}{s:Shared}
end
section
variable{X:Cx}
end
end L2
namespace L2
open PySem PySem.Spec PyProof.Rows
section
variable{κ:Type}[DecidableEq κ]
def valV(kvs:List (κ × V))(k:κ):Option V:=(kvs.find? fun kv=>decide (kv.1=k)).map (·.2)
def putK(kvs:List (κ × V))(k:κ)(v:V):List (κ × V):=
 if (kvs.any fun kv=>decide (kv.1=k))=true then kvs.map (fun kv=>if kv.1=k then (kv.1,v) else kv) else kvs++[(k,v)]
theorem bq_{p:κ × V}{r:List (κ × V)}{k:κ}(e:p.1=k):valV (p::r) k=some p.2:=by simp[valV,List.find?_cons,e]
theorem bl_{p:κ × V}{r:List (κ × V)}{k:κ}(e:¬p.1=k):valV (p::r) k=valV r k:=by simp[valV,List.find?_cons,e]
theorem bX_(k:κ):∀kvs:List (κ × V),(kvs.any fun kv=>decide (kv.1=k))=(valV kvs k).isSome
 |[]=>rfl
 |p::r=>by
  rw[List.any_cons];by_cases e:p.1=k
  ·simp only[bq_ e,decide_eq_true e,Bool.true_or,Option.isSome_some]
  ·rw[bl_ e,decide_eq_false e,Bool.false_or];exact bX_ k r
theorem bJ_(kvs:List (κ × V))(k:κ)(v:V):(putK kvs k v).length<=kvs.length+1:=by
 unfold putK;split
 ·rw[aa'];omega
 ·rw[ap',aC',a1'];omega
theorem bF_{kvs:List (κ × V)}{k:κ}(v:V)(h:valV kvs k=none):putK kvs k v=kvs++[(k,v)]:=by
 unfold putK;rw[bX_,h];exact if_neg (by decide)
theorem RelO.isSome_eq{o:Option V}{u:Option Value}(r:RelO o u):o.isSome=u.isSome:=by
 cases o with
 |none=>cases u with
  |none=>rfl
  |some _=>exact (show False from r).elim
 |some _=>cases u with
  |none=>exact (show False from r).elim
  |some _=>rfl
theorem KV.val{kvs:List (κ × V)}{vs:List (κ × Value)}(r:KV kvs vs)(k:κ):RelO (valV kvs k) (valueAt vs k):=by
 unfold KV at r
 induction r with
 |nil=>exact True.intro
 |@cons p q ps qs h t ih=>
  obtain⟨h1,h2⟩:=h;by_cases e:p.1=k
  ·have e':q.1=k:=h1.symm.trans e;have b:valueAt (q::qs) k=some q.2:=by simp[valueAt,List.find?_cons,e']
   rw[bq_ e,b];exact h2
  ·have e':¬q.1=k:=fun z=>e (h1.trans z);have b:valueAt (q::qs) k=valueAt qs k:=by simp[valueAt,List.find?_cons,e']
   rw[bl_ e,b];exact ih
theorem KV.any{kvs:List (κ × V)}{vs:List (κ × Value)}(r:KV kvs vs)(k:κ):(kvs.any fun kv=>decide (kv.1=k))=vs.any fun kv=>decide (kv.1=k):=by
 unfold KV at r
 induction r with
 |nil=>rfl
 |cons h t ih=>rw[List.any_cons,List.any_cons,ih,h.1]
theorem KV.repl{kvs:List (κ × V)}{vs:List (κ × Value)}(r:KV kvs vs)(k:κ){y:V}{u:Value}(ry:RelV y u) :
  KV (kvs.map fun kv=>if kv.1=k then (kv.1,y) else kv) (vs.map fun kv=>if kv.1=k then (kv.1,u) else kv):=by
 unfold KV at r ⊢
 induction r with
 |nil=>exact .nil
 |@cons p q ps qs h t ih=>
  rw[ar',ar'];refine .cons ?_ ih;obtain⟨h1,h2⟩:=h;by_cases e:p.1=k
  ·rw[if_pos e,if_pos (h1.symm.trans e)];exact⟨h1,ry⟩
  ·rw[if_neg e,if_neg (fun z=>e (h1.trans z))];exact⟨h1,h2⟩
theorem KV.put{kvs:List (κ × V)}{vs:List (κ × Value)}(r:KV kvs vs)(k:κ){y:V}{u:Value}(ry:RelV y u):KV (putK kvs k y) (stored vs k u):=by
 unfold putK stored;rw[r.any k];by_cases e:(vs.any fun kv=>decide (kv.1=k))=true
 ·rw[if_pos e,if_pos e];exact r.repl k ry
 ·rw[if_neg e,if_neg e];exact Paired.snoc r ⟨rfl,ry⟩
theorem KV.keys{kvs:List (κ × V)}{vs:List (κ × Value)}(r:KV kvs vs):kvs.map (·.1)=vs.map (·.1):=by
 unfold KV at r
 induction r with
 |nil=>rfl
 |cons h t ih=>rw[ar',ar',ih,h.1]
theorem KV.length{kvs:List (κ × V)}{vs:List (κ × Value)}(r:KV kvs vs):kvs.length=vs.length:=Paired.length r
end
theorem dk_{P:Program}{w:World}{k:Key}{u:Value}(r:RelV (kV k) u):(a7' P w).is k u=true:=by
 cases k with
 |inl i=>obtain⟨t,e⟩:=(show ∃t,u=Value.int i t from r);subst e;exact ec_ P w i t
 |inr x=>obtain⟨t,e⟩:=(show ∃t,u=Value.str x t from r);subst e;exact bL_ P w x t
theorem dG_{P:Program}{w:World}:∀{ks:List Key} {us:List Value},Vals (ks.map kV) us->ItemsAre (a7' P w) ks us
 |[],_,r=>by rw[List.map_nil] at r;cases r;exact .nil
 |k::ks,_,r=>by
  rw[ar'] at r;cases r with
  |cons h t=>exact .cons (dk_ h) (dG_ t)
abbrev KT(H:Hp):List (List Key × V)->List (List Key × Addr × Value)->Prop:=Paired fun p q=>p.1=q.1/\H q.2.1=some (.tup (p.1.map kV))/\RelV p.2 q.2.2
theorem KT.val{H:Hp}{kvs:List (List Key × V)}{xs:List (List Key × Addr × Value)}(r:KT H kvs xs)(k:List Key):RelO (valV kvs k) ((atKey xs k).map (·.2)):=by
 induction r with
 |nil=>exact True.intro
 |@cons p q ps qs h t ih=>
  obtain⟨h1,_,h2⟩:=h;by_cases e:p.1=k
  ·have e':q.1=k:=h1.symm.trans e;have b:atKey (q::qs) k=some q.2:=by simp[atKey,List.find?_cons,e']
   rw[bq_ e,b];exact h2
  ·have e':¬q.1=k:=fun z=>e (h1.trans z);have b:atKey (q::qs) k=atKey qs k:=by simp[atKey,List.find?_cons,e']
   rw[bl_ e,b];exact ih
theorem KT.repl{H:Hp}{kvs:List (List Key × V)}{xs:List (List Key × Addr × Value)}(r:KT H kvs xs)(k:List Key){y:V}{u:Value}(ry:RelV y u) :
  KT H (kvs.map fun kv=>if kv.1=k then (kv.1,y) else kv) (xs.map (putAt k u)):=by
 induction r with
 |nil=>exact .nil
 |@cons p q ps qs h t ih=>
  rw[ar',ar'];refine .cons ?_ ih;obtain⟨h1,h2,h3⟩:=h;unfold putAt;by_cases e:p.1=k
  ·rw[if_pos e,if_pos (h1.symm.trans e)];exact⟨h1,h2,ry⟩
  ·rw[if_neg e,if_neg (fun z=>e (h1.trans z))];exact⟨h1,h2,h3⟩
theorem KT.put{H:Hp}{kvs:List (List Key × V)}{xs:List (List Key × Addr × Value)}(r:KT H kvs xs)(k:List Key){b:Addr}{y:V}{u:Value}(hb:H b=some (.tup (k.map kV)))(ry:RelV y u) :
  KT H (putK kvs k y) (storedH xs k b u):=by
 have e:(kvs.any fun kv=>decide (kv.1=k))=(atKey xs k).isSome:=by
  rw[bX_,(r.val k).isSome_eq,Option.isSome_map]
 unfold putK storedH;rw[e];by_cases q:(atKey xs k).isSome=true
 ·rw[if_pos q,if_pos q];exact r.repl k ry
 ·rw[if_neg q,if_neg q];exact Paired.snoc r ⟨rfl,hb,ry⟩
theorem KT.keeps{H H':Hp}{kvs:List (List Key × V)}{xs:List (List Key × Addr × Value)}(r:KT H kvs xs)(ht:∀b ys,H b=some (.tup ys)->H' b=some (.tup ys)):KT H' kvs xs:=
 Paired.mapP r fun _ _ z=>⟨z.1,ht _ _ z.2.1,z.2.2⟩
section
variable{P:Program}{w:World}{H:Hp}{h:Heap}{a:Addr}
theorem jP_{u:HO}(ok:HOk P w H h)(e:Rd H a u):bh' P w H h a u:=e.ok ok
theorem cG_{kvs:List (Key × V)}(ok:HOk P w H h)(e:Rd H a (.dK kvs)):kvs.length<=sizeLine/\(a == sysModules)=false/\∃vs,KV kvs vs/\h.DictOf (a7' P w) a vs:=
 show bh' P w H h a (.dK kvs) from jP_ ok e
theorem fh_{kvs:List (Key × V)}(ok:HOk P w H h)(e:H a=some (.dK kvs)):kvs.length<=sizeLine/\(a == sysModules)=false/\∃vs,KV kvs vs/\h.DictOf (a7' P w) a vs:=cG_ ok (.inl e)
theorem dU_{ks:List Key}(ok:HOk P w H h)(e:H a=some (.tup (ks.map kV))):(tupleKind (a7' P w)).is h ks a:=by
 obtain⟨_,its,r,⟨o,h1,h2,n,h3⟩,_⟩:=(show bh' P w H h a (.tup (ks.map kV)) from ok a _ e);exact⟨o,its.toArray,n,h1,h2,h3,by simpa using dG_ r⟩
theorem fo_{kvs:List (List Key × V)}(ok:HOk P w H h)(e:Rd H a (.dT kvs)):kvs.length<=sizeLine/\(a == sysModules)=false /\
  ∃xs,KT H kvs xs/\h.DictOfH (tupleKind (a7' P w)) a xs:=by
 obtain⟨z,y,xs,r,o,es,ep,h1,h2,h3,h4,h5⟩:=(show bh' P w H h a (.dT kvs) from jP_ ok e);refine⟨z,y,xs,r,o,es,ep,h1,h2,h3,h4,fun x hx=>?_,h5⟩
 have all:∀{l:List (List Key × V)} {m:List (List Key × Addr × Value)},KT H l m->∀x∈m,(tupleKind (a7' P w)).is h x.1 x.2.1:=by
  intro l m q
  induction q with
  |nil=>intro x hx;exact nomatch hx
  |@cons p q ps qs hq t ih=>
   intro x hx;rcases ah'.mp hx with e|hx
   ·subst e;exact dU_ ok (by rw[<- hq.1];exact hq.2.1)
   ·exact ih x hx
 exact all r x hx
theorem kt_{kvs:List (List Key × V)}(ok:HOk P w H h)(e:H a=some (.dT kvs)):kvs.length<=sizeLine/\(a == sysModules)=false /\
  ∃xs,KT H kvs xs/\h.DictOfH (tupleKind (a7' P w)) a xs:=fo_ ok (.inl e)
end
def DGet(H:Hp)(a:Addr)(y:V)(r:Option V):Prop:=
 (∃kvs k,Rd H a (.dK kvs)/\y=kV k/\r=valV kvs k)∨∃kvs k b,Rd H a (.dT kvs)/\y=.ref b/\H b=some (.tup (k.map kV))/\r=valV kvs k
def DPut(H:Hp)(a:Addr)(y v:V)(H':Hp):Prop:=
 (∃kvs k,H a=some (.dK kvs)/\y=kV k/\kvs.length<sizeLine/\H'=upd H a (.dK (putK kvs k v))) ∨
 ∃kvs k b,H a=some (.dT kvs)/\y=.ref b/\H b=some (.tup (k.map kV))/\kvs.length<sizeLine/\H'=upd H a (.dT (putK kvs k v))
theorem DGet.k{H:Hp}{a:Addr}{kvs:List (Key × V)}{k:Key}(e:H a=some (.dK kvs)):DGet H a (kV k) (valV kvs k):=.inl ⟨kvs,k,.inl e,rfl,rfl⟩
theorem DGet.t{H:Hp}{a b:Addr}{kvs:List (List Key × V)}{k:List Key}(e:H a=some (.dT kvs))(eb:H b=some (.tup (k.map kV))):DGet H a (.ref b) (valV kvs k):=.inr ⟨kvs,k,b,.inl e,rfl,eb,rfl⟩
theorem DPut.k{H:Hp}{a:Addr}{kvs:List (Key × V)}{k:Key}{v:V}(e:H a=some (.dK kvs))(hl:kvs.length<sizeLine):DPut H a (kV k) v (upd H a (.dK (putK kvs k v))):=.inl ⟨kvs,k,e,rfl,hl,rfl⟩
theorem DPut.t{H:Hp}{a b:Addr}{kvs:List (List Key × V)}{k:List Key}{v:V}(e:H a=some (.dT kvs))(eb:H b=some (.tup (k.map kV)))(hl:kvs.length<sizeLine) :
  DPut H a (.ref b) v (upd H a (.dT (putK kvs k v))):=.inr ⟨kvs,k,b,e,rfl,eb,hl,rfl⟩
section
variable{X:Cx}{pins:List (Addr × Obj)}{σ:St}{H:Hp}{s:Shared}{a:Addr}{y v:V}{u r:Value}{o:Option V}{A:Around}{E:Value->Shared->Prop}
theorem Inv.big(I:Inv X pins σ H s):sysModules<s.heap.objs.size:=by
 have h:mainGlobals<s.heap.objs.size:=(I.mod.glob.keeps I.bk).lt;exact Nat.lt_trans (by decide) h
theorem dF_{Q:Value->Shared->Prop}(hu:A.units+1<cLine)(I:Inv X pins σ H s)(g:DGet H a y (some v))(ry:RelV y u)(h:∀w' s',Inv X pins σ H s'->RelV v w'->Q w' s') :
  wpAny (model X.prog X.w) A (getItem (.ref a) u) Q E s:=by
 rcases g with⟨kvs,k,e,ey,l⟩|⟨kvs,k,b,e,ey,eb,l⟩
 ·subst ey;obtain⟨z,hd,vs,rel,dd⟩:=cG_ I.hok e;obtain⟨w',hw,rw'⟩:=RelO.some_of (v:=v) (o:=valueAt vs k) (by rw[l];exact rel.val k);exact wpAny_getItem_of (dk_ ry) dd.mapOf hw (h w' _ (I.tok _) rw')
 ·subst ey;cases (show u=Value.ref b from ry);obtain⟨z,hd,xs,rel,dd⟩:=fo_ I.hok e;obtain⟨w',hw,rw'⟩:=RelO.some_of (v:=v) (o:=(atKey xs k).map (·.2)) (by rw[l];exact rel.val k);obtain⟨p,hp,hp2⟩:=Option.map_eq_some_iff.mp hw;refine wpAny_getItem_heap (tupleKind_room_in1 hu) (dU_ I.hok eb) dd hp ?_;rw[hp2];exact h w' _ (I.tok _) rw'
theorem d_in{Q:Value->Shared->Prop}(hu:A.units+1<cLine)(I:Inv X pins σ H s)(g:DGet H a y o)(ry:RelV y u)(h:∀s',Inv X pins σ H s'->Q (.bool o.isSome) s') :
  wpAny (model X.prog X.w) A (compareOp .In u (.ref a)) Q E s:=by
 rcases g with⟨kvs,k,e,ey,l⟩|⟨kvs,k,b,e,ey,eb,l⟩
 ·subst ey;obtain⟨z,hd,vs,rel,dd⟩:=cG_ I.hok e;refine wpAny_in_of (dk_ ry) hd dd.mapOf ?_;rw[<- (rel.val k).isSome_eq,<- l];exact h _ (I.tok _)
 ·subst ey;cases (show u=Value.ref b from ry);obtain⟨z,hd,xs,rel,dd⟩:=fo_ I.hok e;refine wpAny_in_heap (tupleKind_room_in1 hu) (dU_ I.hok eb) hd dd ?_;have q:=(rel.val k).isSome_eq;rw[Option.isSome_map] at q;rw[<- q,<- l];exact h _ (I.tok _)
theorem iJ_{Q:Value->Shared->Prop}(hu:A.units+1<cLine)(I:Inv X pins σ H s)(g:DGet H a y o)(ry:RelV y u)(h:∀s',Inv X pins σ H s'->Q (.bool (!o.isSome)) s') :
  wpAny (model X.prog X.w) A (compareOp .NotIn u (.ref a)) Q E s:=by
 rcases g with⟨kvs,k,e,ey,l⟩|⟨kvs,k,b,e,ey,eb,l⟩
 ·subst ey;obtain⟨z,hd,vs,rel,dd⟩:=cG_ I.hok e;refine wpAny_notIn_of (dk_ ry) hd dd.mapOf ?_;rw[<- (rel.val k).isSome_eq,<- l];exact h _ (I.tok _)
 ·subst ey;cases (show u=Value.ref b from ry);obtain⟨z,hd,xs,rel,dd⟩:=fo_ I.hok e;refine wpAny_notIn_heap (tupleKind_room_in1 hu) (dU_ I.hok eb) hd dd ?_;have q:=(rel.val k).isSome_eq;rw[Option.isSome_map] at q;rw[<- q,<- l];exact h _ (I.tok _)
theorem e8_{h':Heap}{t':Nat}{ob:HO}(I:Inv X pins σ H s)(mu:Mut (H a))(hs:Heap.SameBut a s.heap h')(he:∃q,h'.get? a=some q)(new:bh' X.prog X.w (upd H a ob) h' a ob) :
  Inv X pins σ (upd H a ob) { s with heap:=h',toks:=t' }:=
 I.write (x:=a) (e:=a) mu (.inl rfl) (fun b q hb z=>(hs.2 b hb).trans z) he new
theorem gV_{P:Program}{w:World}{H':Hp}{h':Heap}{kvs:List (Key × V)}{vs:List (Key × Value)}(z:kvs.length<=sizeLine)(hd:(a == sysModules)=false)(rel:KV kvs vs)(dd:h'.DictOf (a7' P w) a vs) :
  bh' P w H' h' a (.dK kvs):=⟨z,hd,vs,rel,dd⟩
theorem dB_{H':Hp}{Q:Unit->Shared->Prop}(hu:A.units+1<cLine)(I:Inv X pins σ H s)(g:DPut H a y v H')(ry:RelV y u)(rv:RelV v r)(h:∀s',Inv X pins σ H' s'->Q () s') :
  wpAny (model X.prog X.w) A (setItem (.ref a) u r) Q E s:=by
 rcases g with⟨kvs,k,e,ey,l,eH⟩|⟨kvs,k,b,e,ey,eb,l,eH⟩
 ·subst ey eH;obtain⟨z,hd,vs,rel,dd⟩:=fh_ I.hok e;have hz:vs.length<=sizeLine:=by rw[<- rel.length];exact z
  have hl:(putK kvs k v).length<=sizeLine:=by have:=bJ_ kvs k v;omega
  refine wpAny_setItem_pairs (hsz:=hz) (dk_ ry) dd fun h' dd' hs=>h _ ?_;have he:∃q,h'.get? a=some q:=let ⟨q,_,_,hq,_⟩:=dd';⟨q,hq⟩;exact e8_ I (by rw[e];exact True.intro) hs he (gV_ hl hd (rel.put k rv) dd')
 ·subst ey eH;cases (show u=Value.ref b from ry);obtain⟨z,hd,xs,rel,dd⟩:=kt_ I.hok e;have hz:xs.length<=sizeLine:=by rw[<- Paired.length rel];exact z
  have hl:(putK kvs k v).length<=sizeLine:=by have:=bJ_ kvs k v;omega
  refine wpAny_setItem_heap (hsz:=hz) (tupleKind_room_in1 hu) (dU_ I.hok eb) dd fun h' dd' hs=>h _ ?_;obtain⟨q,es,ep,hq,h2,h3,h4,_,h5⟩:=dd';refine e8_ I (by rw[e];exact True.intro) hs ⟨q,hq⟩ ⟨hl,hd,_,(rel.put k eb rv).keeps fun c ys ec=>?_,q,es,ep,hq,h2,h3,h4,h5⟩;rw[a4_ (ax_ ec e nofun)];exact ec
end
section
variable{X:Cx}{pins:List (Addr × Obj)}{σ:St}{H:Hp}{s:Shared}{a:Addr}{kvs:List (Key × V)}{k:Key}{u:Value}{A:Around}{E:Value->Shared->Prop}
theorem ku_{Q:Value->Shared->Prop}(I:Inv X pins σ H s)(e:Rd H a (.dK kvs))(h:∀t s',Inv X pins σ H s'->Q (.int kvs.length t) s'):wpAny (model X.prog X.w) A (call (.builtin "len") [.ref a]) Q E s:=by
 obtain⟨z,hd,vs,rel,dd⟩:=cG_ I.hok e;refine call_len_dict hd dd (by rw[<- rel.length];rw[sizeLine_eq] at z;omega) ?_;rw[<- rel.length];exact h _ _ (I.tok _)
end
def NoSl(i:Expr):Prop:=∀ov iv,subscripted i false ov iv=operate [ov,iv] (getItem ov iv)
theorem gr_{prog:Program}{w:World}{A:Around}{E:Value->Shared->Prop}{s:Shared}{env:Env}{value slice:Expr}{pos:Pos}{T id:String}{Q:Value->Shared->Prop}
  (hl:typeLookup (.type T) "__getitem__"=pure (some (.builtin id))) (hs:NoSl slice)
  (h:wpAny (model prog w) A (eval value env) (fun o s₁=>wpAny (model prog w) A (eval slice env) (fun i s₂=>s₂.TypeIs o T/\wpAny (model prog w) A (getItem o i) Q E s₂) E s₁) E s) :
  wpAny (model prog w) A (eval (.Subscript value slice pos) env) Q E s:=by
 refine Subscript_ (wpAny_mono h (fun o s₁ h₁=>wpAny_mono h₁ (fun i s₂ h₂=>?_) fun _ _ x=>x) fun _ _ x=>x);obtain⟨hT,h₂⟩:=h₂;unfold subscriptTail;refine wpAny_bind ?_;rw[getitemInPython_of_ne hT.not_modules];refine wpAny_bind (wpAny_specialOf hT hl ?_)
 have fin:wpAny (model prog w) A (subscripted slice false o i) (fun r s₃=>wpAny (model prog w) A (letTemporaryGo value o r >>= fun _=>pure r) Q E s₃) E s₂:=by
  rw[hs o i];exact wpAny_operating (wpAny_mono h₂ (fun r s₃ h₃=>wpAny_bind (wpAny_letTemporaryGo (wpAny_pure h₃))) fun _ _ x=>x)
 first
  |exact wpAny_pure (wpAny_bind fin)
  |exact wpAny_bind (wpAny_pure (wpAny_bind fin))
  |exact wpAny_bind fin
theorem eg_{X:Cx}{pins:List (Addr × Obj)}{σ:St}{H:Hp}{s:Shared}{a:Addr}{y:V}{o:Option V}(I:Inv X pins σ H s)(g:DGet H a y o):s.TypeIs (.ref a) "dict":=by
 rcases g with⟨kvs,k,e,_,_⟩|⟨kvs,k,b,e,_,_,_⟩
 ·obtain⟨_,_,vs,_,dd⟩:=cG_ I.hok e;exact dd.typeIs
 ·obtain⟨_,_,xs,_,dd⟩:=fo_ I.hok e;exact dd.typeIs
def tDGet(td ty:TE):TE:=fun σ H Q=>td σ H fun x H1=>ty σ H1 fun y H2=>∃a v,x=.ref a/\DGet H2 a y (some v)/\Q v H2
def tDIn(ty td:TE):TE:=fun σ H Q=>ty σ H fun y H1=>td σ H1 fun x H2=>∃a o,x=.ref a/\DGet H2 a y o/\Q (.bl o.isSome) H2
def tDNotIn(ty td:TE):TE:=fun σ H Q=>ty σ H fun y H1=>td σ H1 fun x H2=>∃a o,x=.ref a/\DGet H2 a y o/\Q (.bl (!o.isSome)) H2
def sDPut(td ty tv:TE):TS:=fun D σ H=>tv σ H fun v H1=>td σ H1 fun x H2=>ty σ H2 fun y H3=>∃a H4,x=.ref a/\DPut H3 a y v H4/\D.nx σ H4
def sDAug(td ty tv:TE)(rd:V->V->Hp->VK->Prop):TS:=fun D σ H=>td σ H fun x H1=>ty σ H1 fun y H2=>∃a v,x=.ref a/\DGet H2 a y (some v) /\
 tv σ H2 fun y2 H3=>rd v y2 H3 fun z H4=>∃H5,DPut H4 a y z H5/\D.nx σ H5
section
variable{X:Cx}{o i e value:Expr}{pos pos' tpos:Pos}{td ty tv:TE}
theorem ag_(hu:X.A.units+1<cLine)(ho:PE X o td)(hi:PE X i ty)(hs:NoSl i):PE X (.Subscript o i pos) (tDGet td ty):=by
 intro pins s σ H Q I h;refine gr_ PySem.F.slot_dict_getitem.lookup hs (thn (ho pins s σ H _ I h) fun u s1 ⟨x,H1,I1,rx,q1⟩=>thn (hi pins s1 σ H1 _ I1 q1) fun iv s2 ⟨y,H2,I2,ry,a,v,ex,g,q2⟩=>?_);subst ex;obtain rfl:u=Value.ref a:=rx;exact⟨eg_ I2 g,dF_ hu I2 g ry fun w' s3 I3 rw'=>⟨v,H2,I3,rw',q2⟩⟩
theorem d1_(hu:X.A.units+1<cLine)(hi:PE X i ty)(ho:PE X o td):PC X .In i o (tDIn ty td):=by
 intro pins s σ H Q I h;refine thn (hi pins s σ H _ I h) fun iv s1 ⟨y,H1,I1,ry,q1⟩=>thn (ho pins s1 σ H1 _ I1 q1) fun u s2 ⟨x,H2,I2,rx,a,ov,ex,g,q2⟩=>?_;subst ex;obtain rfl:u=Value.ref a:=rx;exact d_in hu I2 g ry fun s3 I3=>⟨.bl ov.isSome,H2,I3,rfl,q2⟩
theorem dK_(hu:X.A.units+1<cLine)(hi:PE X i ty)(ho:PE X o td):PC X .NotIn i o (tDNotIn ty td):=by
 intro pins s σ H Q I h;refine thn (hi pins s σ H _ I h) fun iv s1 ⟨y,H1,I1,ry,q1⟩=>thn (ho pins s1 σ H1 _ I1 q1) fun u s2 ⟨x,H2,I2,rx,a,ov,ex,g,q2⟩=>?_;subst ex;obtain rfl:u=Value.ref a:=rx;exact iJ_ hu I2 g ry fun s3 I3=>⟨.bl (!ov.isSome),H2,I3,rfl,q2⟩
theorem bc_(hu:X.A.units+1<cLine)(ho:PE X o td)(hi:PE X i ty)(hv:PE X value tv)(hs:swapsWith value (some (.Subscript o i pos')) pos.line X.env=pure false) :
  PS X (.Assign [.Subscript o i pos'] value pos) (sDPut td ty tv):=by
 intro pins s σ H D I h;refine wpAny_Assign_Subscript (thn (hv pins s σ H _ I h) fun r s1 ⟨v,H1,I1,rv,q1⟩=>thn (ho pins s1 σ H1 _ I1 q1) fun u s2 ⟨x,H2,I2,rx,q2⟩=>thn (hi pins s2 σ H2 _ I2 q2) fun iv s3 ⟨y,H3,I3,ry,a,H4,ex,g,q3⟩=>?_) hs;subst ex;obtain rfl:u=Value.ref a:=rx;exact dB_ hu I3 g ry rv fun s4 I4=>⟨σ,H4,I4,q3⟩
theorem iO_{op:Operator}{rd:V->V->Hp->VK->Prop}(hu:X.A.units+1<cLine)(ho:PE X o td)(hi:PE X i ty)(hv:PE X value tv)(hop:InOp X op rd)
  (ha:∀ov iv new,augStore i ov iv new=(do holding [new,ov,iv] (setItem ov iv new);release [new,ov,iv] [];pure .next)):PS X (.AugAssign (.Subscript o i tpos) op value pos) (sDAug td ty tv rd):=by
 intro pins s σ H D I h;refine wpAny_AugAssign_SubscriptAny (thn (ho pins s σ H _ I h) fun u s1 ⟨x,H1,I1,rx,q1⟩=>thn (hi pins s1 σ H1 _ I1 q1) fun iv s2 ⟨y,H2,I2,ry,a,v,ex,g,q2⟩=>?_) ha;subst ex;obtain rfl:u=Value.ref a:=rx;refine dF_ hu I2 g ry fun w' s3 I3 rw'=>thn (hv pins s3 σ H2 _ I3 q2) fun w2 s4 ⟨y2,H3,I4,ry2,q3⟩=>thn (hop pins s4 σ H3 v y2 w' w2 _ I4 rw' ry2 q3) fun w3 s5 ⟨z,H4,I5,rz,H5,g5,q4⟩=>?_;exact dB_ hu I5 g5 ry rz fun s6 I6=>⟨σ,H5,I6,q4⟩
end
theorem eI_{P:Program}{w:World}{H:Hp}(h:Heap)(hb:sysModules<h.objs.size):bh' P w H (h.push { cls:=.type "dict",data:=.dict #[] }) h.objs.size (.dK []):=
 ⟨aE' _,beq_eq_false_iff_ne.mpr (Ne.symm (av' hb)),[],.nil,Heap.DictOf.new h⟩
theorem hg_{P:Program}{w:World}{H:Hp}(h:Heap)(hb:sysModules<h.objs.size):bh' P w H (h.push { cls:=.type "dict",data:=.dict #[] }) h.objs.size (.dT []):=
 ⟨aE' _,beq_eq_false_iff_ne.mpr (Ne.symm (av' hb)),[],.nil,_,#[],0,Heap.get?_push_size _ rfl,⟨rfl,rfl,rfl⟩,rfl,rfl,List.nodup_nil⟩
def tDNewK:TE:=fun _ H Q=>∀p,H p=none->Q (.ref p) (upd H p (.dK []))
def tDNewT:TE:=fun _ H Q=>∀p,H p=none->Q (.ref p) (upd H p (.dT []))
section
variable{X:Cx}{pos:Pos}
theorem bk_:PE X (.Dict [] [] pos) tDNewK:=fun pins s σ H Q I h=>
 wpAny_Dict_empty ⟨.ref s.heap.objs.size,_,I.laid (a:=s.heap.objs.size) (o:=.dK []) (t':=s.toks) (fun _ _ q=>Heap.get?_push_of_some _ q) (af' _) (eI_ s.heap I.big),rfl,h _ (I.hok.fresh (af' _))⟩
theorem hs_:PE X (.Dict [] [] pos) tDNewT:=fun pins s σ H Q I h=>
 wpAny_Dict_empty ⟨.ref s.heap.objs.size,_,I.laid (a:=s.heap.objs.size) (o:=.dT []) (t':=s.toks) (fun _ _ q=>Heap.get?_push_of_some _ q) (af' _) (hg_ s.heap I.big),rfl,h _ (I.hok.fresh (af' _))⟩
end
def tPairs:List (TE × TE)->St->Hp->(List (V × V)->Hp->Prop)->Prop
 |[],_,H,Q=>Q [] H
 |(tk,tv)::r,σ,H,Q=>tk σ H fun x H1=>tv σ H1 fun y H2=>tPairs r σ H2 fun ps H3=>Q ((x,y)::ps) H3
abbrev VV:List (V × V)->List (Value × Value)->Prop:=Paired fun p q=>RelV p.1 q.1/\RelV p.2 q.2
def PPs(X:Cx)(pos:Pos)(keys:List (Option Expr))(values:List Expr)(trs:List (TE × TE)):Prop:=
 ∀(pins:List (Addr × Obj)) (s:Shared) (σ:St) (H:Hp) (Q:List (V × V)->Hp->Prop),Inv X pins σ H s->tPairs trs σ H Q->
  wpAny (model X.prog X.w) X.A (evalPairs (pairTrees keys values X.env pos)) (fun vs s'=>∃ps H',Inv X pins σ H' s'/\VV ps vs/\Q ps H') X.xe s
theorem j6_{X:Cx}{pos:Pos}:PPs X pos [] [] []:=fun pins s σ H Q I h=>pairTrees_nil_walk ⟨[],H,I,.nil,h⟩
theorem df_{X:Cx}{pos:Pos}{k v:Expr}{ks:List (Option Expr)}{vs:List Expr}{tk tv:TE}{trs:List (TE × TE)}(hk:PE X k tk)(hv:PE X v tv)(hr:PPs X pos ks vs trs) :
  PPs X pos (some k::ks) (v::vs) ((tk,tv)::trs):=fun pins s σ H Q I h=>
 pairTrees_cons_walk (thn (hk pins s σ H _ I h) fun u s1 ⟨x,H1,I1,rx,q1⟩=>thn (hv pins s1 σ H1 _ I1 q1) fun w2 s2 ⟨y,H2,I2,ry,q2⟩=>
  thn (hr pins s2 σ H2 _ I2 q2) fun ws s3 ⟨ps,H3,I3,rel,q3⟩=>⟨(x,y)::ps,H3,I3,.cons ⟨rx,ry⟩ rel,q3⟩)
def bs'(kvs more:List (Key × V)):List (Key × V):=more.foldl (fun acc kv=>putK acc kv.1 kv.2) kvs
theorem KV.merge:∀{more:List (Key × V)} {rs:List (Key × Value)} {kvs:List (Key × V)} {vs:List (Key × Value)},KV more rs->KV kvs vs->KV (bs' kvs more) (merged vs rs):=by
 intro more rs kvs vs r;unfold KV at r
 induction r generalizing kvs vs with
 |nil=>intro q;exact q
 |@cons p q ps qs h t ih=>
  intro r0
  have e:KV (putK kvs p.1 p.2) (stored vs q.1 q.2):=by
   have:=r0.put p.1 h.2;rw[<- h.1];exact this
  exact ih e
theorem bj_:∀(more kvs:List (Key × V)),(bs' kvs more).length<=kvs.length+more.length
 |[],kvs=>by show kvs.length<=kvs.length+0;omega
 |p::r,kvs=>by
  have h1:=bj_ r (putK kvs p.1 p.2);have h2:=bJ_ kvs p.1 p.2;show (bs' (putK kvs p.1 p.2) r).length<=_;rw[aC'];omega
theorem cX_{P:Program}{w:World}:∀{kvs:List (Key × V)} {ws:List (Value × Value)},VV (kvs.map fun kv=>(kV kv.1,kv.2)) ws->∃rs,Carries (a7' P w) ws rs/\KV kvs rs
 |[],_,r=>by rw[List.map_nil] at r;cases r;exact⟨[],True.intro,.nil⟩
 |p::kvs,_,r=>by
  rw[ar'] at r;cases r with
  |@cons a b as bs h t=>
   obtain⟨rs,c,q⟩:=cX_ (P:=P) (w:=w) t;obtain⟨b1,b2⟩:=b;exact⟨(p.1,b2)::rs,⟨dk_ h.1,rfl,c⟩,.cons ⟨rfl,h.2⟩ q⟩
def tDisp(trs:List (TE × TE)):TE:=fun σ H Q=>∀p,H p=none->tPairs trs σ (upd H p (.dK [])) fun ps H2=>H2 p=some (.dK [])/\∃kvs:List (Key × V),ps=kvs.map (fun kv=>(kV kv.1,kv.2))/\kvs.length<=15/\Q (.ref p) (upd H2 p (.dK (bs' [] kvs)))
theorem iE_{X:Cx}{pos:Pos}{keys:List (Option Expr)}{values:List Expr}{trs:List (TE × TE)}(h:PPs X pos keys values trs)(hall:keys.all (·.isSome)=true)(hl:keys.length=values.length)(h0:keys≠[])
  (h15:keys.length<=15):PE X (.Dict keys values pos) (tDisp trs):=by
 intro pins s σ H Q I q;have hn:=I.hok.fresh (af' s.heap.objs.size);have I1:=I.laid (a:=s.heap.objs.size) (o:=.dK []) (h':=s.heap.push { cls:=.type "dict",data:=.dict #[] }) (t':=s.toks) (fun _ _ q=>Heap.get?_push_of_some _ q) (af' _) (eI_ s.heap I.big);refine wpAny_Dict_walk (knd:=a7' X.prog X.w) hall hl h0 h15 (thn (h pins _ σ _ _ I1 (q _ hn)) fun ws s2 ⟨ps,H2,I2,rel,e,kvs,ep,lk,q2⟩=>?_);subst ep;obtain⟨rs,c,rk⟩:=cX_ (P:=X.prog) (w:=X.w) rel;obtain⟨z,hd,vs0,r0,dd⟩:=fh_ I2.hok e;cases r0;refine⟨rs,c,dd,fun h' dd' hs=>⟨.ref s.heap.objs.size,_,?_,rfl,q2⟩⟩
 have hz:(bs' [] kvs).length<=sizeLine:=by
  have h1:=bj_ kvs [];rw[a1'] at h1;rw[sizeLine_eq];omega
 have he:∃q,h'.get? s.heap.objs.size=some q:=let ⟨q,_,_,hq,_⟩:=dd';⟨q,hq⟩;exact e8_ I2 (by rw[e];exact True.intro) hs he (gV_ hz hd (rk.merge .nil) dd')
structure M1 (X:Cx) (o:Expr) (m:Str) (apos:Pos) (e:Expr) (cpos:Pos):Prop where
 base:attributeBase o m X.env (eval o X.env)=eval o X.env
 few:((backTo cpos (starEach [e] X.env)).all (fun x=>!x.1)&&(backToKw cpos (keywordEach [] X.env)).all (fun x=>x.1.isSome)
  && decide (([e]:List Expr).length+([]:List Keyword).length+(if ([]:List Keyword).isEmpty then 0 else 1)<30))=true
 line:(apos.endLine == cpos.line)=true
 trees:backTo cpos (starEach [e] X.env)=[(false,eval e X.env)]
structure M2 (X:Cx) (o:Expr) (m:Str) (apos:Pos) (e f:Expr) (cpos:Pos):Prop where
 base:attributeBase o m X.env (eval o X.env)=eval o X.env
 few:((backTo cpos (starEach [e,f] X.env)).all (fun x=>!x.1)&&(backToKw cpos (keywordEach [] X.env)).all (fun x=>x.1.isSome)
  && decide (([e,f]:List Expr).length+([]:List Keyword).length+(if ([]:List Keyword).isEmpty then 0 else 1)<30))=true
 line:(apos.endLine == cpos.line)=true
 trees:backTo cpos (starEach [e,f] X.env)=[(false,eval e X.env),(false,eval f X.env)]
def IsD(H:Hp)(a:Addr):Prop:=(∃kvs,Rd H a (.dK kvs))∨∃kvs,Rd H a (.dT kvs)
theorem jM_{X:Cx}{pins:List (Addr × Obj)}{σ:St}{H:Hp}{s:Shared}{a:Addr}(I:Inv X pins σ H s)(d:IsD H a) :
  s.TypeIs (.ref a) "dict"/\(∀b,Value.ref a=.ref b->∃ob,s.heap.get? b=some ob/\ob.dict=none)/\(a == sysModules)=false:=by
 rcases d with⟨kvs,e⟩|⟨kvs,e⟩
 ·obtain⟨_,hd,vs,_,dd⟩:=cG_ I.hok e;refine⟨dd.typeIs,fun b q=>?_,hd⟩;cases q;obtain⟨ob,_,_,h1,h2,_⟩:=dd;exact⟨ob,h1,h2.2.1⟩
 ·obtain⟨_,hd,xs,_,dd⟩:=fo_ I.hok e;refine⟨dd.typeIs,fun b q=>?_,hd⟩;cases q;obtain⟨ob,_,_,h1,h2,_⟩:=dd;exact⟨ob,h1,h2.2.1⟩
section
variable{X:Cx}{pins:List (Addr × Obj)}{σ:St}{H:Hp}{s:Shared}{a:Addr}{y d:V}{u r:Value}{o:Option V}{A:Around}{E:Value->Shared->Prop}
end
section
variable{X:Cx}{o e f:Expr}{apos cpos:Pos}{td ty tx:TE}
end
section
variable{X:Cx}{pins:List (Addr × Obj)}{σ:St}{H:Hp}{s:Shared}{a:Addr}{kvs:List (Key × V)}{A:Around}{E:Value->Shared->Prop}
end
section
variable{X:Cx}{pins:List (Addr × Obj)}{σ:St}{H:Hp}{s:Shared}{a:Addr}{y:V}{u:Value}{A:Around}{E:Value->Shared->Prop}
end
end L2
namespace Att
open PySem PySem.W PySem.Calls PyProof.Rows
theorem cw_{P:Params}{h:Heap}:∀(ns:List Int) (vs:List Value),WellAll P h vs (ns.map WData.int)->IntsAre vs ns:=by
 intro ns
 induction ns with
 |nil=>
  intro vs w;rw[List.map_nil] at w;cases w;exact .nil
 |cons n ns ih=>
  intro vs w;rw[ar'] at w;cases w with
  |cons a b=>
   cases a;exact .cons _ _ (ih _ b)
theorem g3_{l:OpenLaw}{n:Nat}(hn:l.most=some n){P:Params}{h:Heap}{args:List WData}{vals:List Value}
  (hpre:l.row.toRowW.claim.pre args=true) (hwl:WellAll P h vals args) :
  ∃a vs ns,vals=[Value.ref a]/\args=[WData.list (ns.map WData.int)]/\h.get? a=some { cls:=.type "list",data:=.seq vs.toArray }/\IntsAre vs ns/\ns.length<=n:=by
 have hsh:WShape.hasAll [] args [.list .int]=true:=(pre_splitW hpre).1;have hc:l.pre.holds [] { args:=args }=true:=(pre_splitW hpre).2;obtain⟨d,r,rfl,h1,h2⟩:=hasAllW_cons hsh;obtain rfl:=hasAllW_nil h2;obtain⟨xs,rfl,h3⟩:=hasW_list h1;obtain⟨ns,rfl⟩:=items_int h3
 have hlen:ns.length<=n:=by
  unfold OpenLaw.pre at hc
  have h4:(WTm.not (.lt (.lit (.int (n:Int))) (.len (.arg 0)))).holds [] { args:=[.list (ns.map .int)] }=true:=by
   have h4:=(holds_andW hc).1;rw[hn] at h4;exact h4
  have h5:=condW_of h4 (w_not (w_lt w_lit (w_len_list (w_arg rfl))));rw[aa'] at h5;refine Nat.le_of_not_lt fun q=>?_;have q':(n:Int)<((ns.length:Nat):Int):=by omega
  first
   |(rw[decide_eq_true q'] at h5;exact absurd h5 (by decide))
   |(simp at h5;omega)
 cases hwl with
 |cons w1 w2=>
  cases w2;cases w1 with
  |list ho hall=>exact⟨_,_,ns,rfl,rfl,ho,cw_ ns _ hall,hlen⟩
theorem g2_(l:OpenLaw)(args:List WData):l.row.toRowW.claim.post args (.bool true) args=true:=
 postW_of (r:=l.row.toRowW) (X:=(true == true))
  (show WShape.has [] (.bool true) .bool=true by first|rfl|decide|simp[WShape.has,WShape.arms,WShape.armsAll])
  (show (WTm.eq .res (.lit (.bool true))).value [] { args:=args,res:=some (.bool true),after:=args }=some (.bool (true == true)) from w_eq_bool (w_res rfl) w_lit) rfl
theorem attach_call{l:OpenLaw}{n:Nat}{q:Program}{loose:List Str}{XP:(Str->Option Value)->Heap->Prop}{YP:World->Heap->Prop}{d:DefRec}
  (hn:l.most=some n) (hdf:d.params.defaults=[])
  (call:∀(w:World) (s₀ s₁:Shared) (mg mb:Str->Option Value) (fa:Addr) (o:Obj) (pm cd doc:Value) (a:Addr) (vs:List Value) (ns:List Int),
   Ground q loose [] XP w s₀ mg mb s₁.heap->YP w s₁.heap->
   s₁.heap.get? fa=some o->o.data=.func (docDef d.name d.params d.body d.scope pm cd doc)->s₁.heap.CodeRec cd d.name->mg d.name=some (.ref fa)->
   s₁.heap.get? a=some { cls:=.type "list",data:=.seq vs.toArray }->IntsAre vs ns->ns.length<=n->s₁.gens=#[]->
   codeAny (model l.prog w) callerA (.call (.ref fa) ⟨[.ref a],[]⟩) (fun r s'=>r=.ok (.ret (.bool true))/\OldK s₁.heap s'.heap/\s'.os=s₁.os/\AllBare s'.gens) s₁) :
  WalkO q loose XP YP l.row.toRowW d [] (fun f vs=>PySem.call f vs):=by
 intro w s₀ s₁ mg mb G Y fa o pm cd doc dV kV ho hd hcd hD hmg hg args vals as hpre hlay hrd hwl hlo;obtain rfl:dV=.none:=Dflts.none hD hdf;obtain rfl:kV=.none:=Dflts.noKw hD;obtain⟨a,vs,ns,rfl,rfl,hobj,hints,hlen⟩:=g3_ hn hpre hwl;refine enter_call (codeAny_mono (call w s₀ s₁ mg mb fa o pm cd doc a vs ns G Y ho (fd_plain hd) hcd hmg hobj hints hlen hg) fun r s' hq=>?_);obtain⟨rfl,h2,h3,h4⟩:=hq;exact⟨.inl ⟨.bool true,.bool true,[],rfl,fun _=>rfl,.bool true,g2_ l _,fun _=>⟨List.Pairwise.nil,fun _ hm=>(nomatch hm)⟩⟩,h2,h3,h4⟩
section
variable{prog:Program}{w:World}{A:Around}{E:Value->Shared->Prop}{s:Shared}{K:Frag}
end
end Att
namespace L2
open PySem PySem.Spec PyProof.Rows
theorem dJ_:∀{vs:List Value} {ns:List Int},IntsAre vs ns->Vals (ns.map V.int) vs
 |_,_,.nil=>.nil
 |_,_,.cons n t h=>.cons ⟨t,rfl⟩ (dJ_ h)
end L2
namespace L2
open PySem PySem.Spec PyProof.Rows
end L2
namespace L2
open PySem PySem.Spec PyProof.Rows
def bf'(s:Stmt)(j:Nat):Stmt:=match s with
 |.ClassDef _ _ _ body _ _ _ _ _ _ _=>body.getD j (.Pass ⟨0,0,0,0⟩)
 |_=>.Pass ⟨0,0,0,0⟩
def bd'(s:Stmt):Arguments:=match s with
 |.FunctionDef _ a _ _ _ _ _ _ _ _=>a
 |_=>{ posonlyargs:=[],args:=[],vararg:=none,kwonlyargs:=[],kw_defaults:=[],kwarg:=none,defaults:=[] }
def bb'(s:Stmt):List Stmt:=match s with
 |.FunctionDef _ _ b _ _ _ _ _ _ _=>b
 |_=>[]
def a3'(s:Stmt):Scope:=match s with
 |.FunctionDef _ _ _ _ _ _ sc _ _ _=>sc
 |_=>{ kind:=.function,names:=[],isGenerator:=false,isCoroutine:=false }
abbrev CX0:CXT:=fun _ _ _ _ _ _=>False
abbrev E0:XK:=fun _ _ _=>False
theorem pass0{X:Cx}:bG' CX0 X E0:=fun _ _ _ _ _ _ _ h=>h.elim
structure Fun (K:F__) (x qual:Str) (st:Stmt) (f:Addr) (fd:FuncData):Prop where
 ex:∃(oc:Value) (od:Option Addr) (kV doc pm:Value) (an:Option Addr) (cdv ct:Value) (osl:Array (Option Value)),
  fd=PySem.W.fnOf x qual (bd' st) (bb' st) (a3' st) .none kV doc pm an cdv ct/\K.lookup f=some ⟨oc,od,.func fd,osl⟩/\PySem.W.codeIn K cdv qual=true
 kp:PySem.W.keepIn K (.ref f)=true
section
variable{P:Program}{w:World}{K:F__}{mg:Str->Option Value}{base:Heap}
theorem Fun.ok{x qual:Str}{st:Stmt}{f:Addr}{fd:FuncData}{N ps:List Str}{k:Nat}{sp:Sp}(F:Fun K x qual st f fd)(S:a4' N ps (a3' st))(len:∀vs H Q E,sp vs H Q E->vs.length=ps.length)
  (hbody:∀(cdv:Value) (A:Around) (outer:List Env) (s:Shared) (H:Hp) (vs:List V) (Q:VK) (E:XK),Room k (A.deeper (envOfC qual (a3' st) s.heap.objs.size f cdv))->sp vs H Q E->
   ∃t,PSs (cxOf CX0 P w K mg base N qual (a3' st) f cdv A outer s H E).nox (bb' st) t/\t { nx:=fun _ H'=>Q .non H',rt:=Q } (start N vs) H):FnOk P w K mg base CX0 (k+1) f fd ps sp:=by
 obtain⟨oc,od,kV,doc,pm,an,cdv,ct,osl,rfl,lk,hcd⟩:=F.ex;refine iG_ lk hcd S len fun A outer s H vs Q E hr hsp=>?_;obtain⟨t,h,q⟩:=hbody cdv A outer s H vs Q E hr hsp;exact⟨t,h.nox,q⟩
theorem Fun.binds{x qual:Str}{st:Stmt}{f:Addr}{fd:FuncData}{ps:List Str}(F:Fun K x qual st f fd)
  (h:∀(kV doc pm:Value) (an:Option Addr) (cdv ct:Value) (us:List Value),us.length=ps.length->bindArgs (PySem.W.fnOf x qual (bd' st) (bb' st) (a3' st) .none kV doc pm an cdv ct) ⟨us,[]⟩=pure (ps.zip us)):bV' K fd ps []:=by
 obtain⟨oc,od,kV,doc,pm,an,cdv,ct,osl,rfl,lk,hcd⟩:=F.ex;exact .all (h kV doc pm an cdv ct)
theorem gM_{x qual:Str}{st:Stmt}{f:Addr}{oc:Value}{od an:Option Addr}{osl:Array (Option Value)}{kV doc pm cdv ct:Value}(l:K.lookup f=some ⟨oc,od,.func (PySem.W.fnOf x qual (bd' st) (bb' st) (a3' st) .none kV doc pm an cdv ct),osl⟩)
  (c:PySem.W.codeIn K cdv qual=true) (k:PySem.W.keepIn K (.ref f)=true):Fun K x qual st f (PySem.W.fnOf x qual (bd' st) (bb' st) (a3' st) .none kV doc pm an cdv ct):=⟨⟨oc,od,kV,doc,pm,an,cdv,ct,osl,rfl,l,c⟩,k⟩
end
theorem b5_{A:Around}{k:Nat}(hr:Room k A):A.units+1<cLine:=Nat.lt_of_le_of_lt (Nat.add_le_add_left (by decide:1<=64) _) hr.units
section
variable{X:Cx}
theorem pv(i:Nat){x:Str}{pos:Pos}(hN:X.N[i]? = some x:=by rfl)(hv:Vis X.env.scope x:=by first|exact Or.inl rfl|exact Or.inr (Or.inl rfl)|exact Or.inr (Or.inr rfl))(hd:(x == ("__debug__":Str))=false:=by decide)
  (hcd:(x == ("__classdict__":Str))=false:=by decide):PE X (.Name x pos) (tVar i):=kc_ hN hv hd hcd
theorem g9_:br' X (.builtin "len") (fun xs H Q=>∃a kvs,xs=[V.ref a]/\H a=some (.dK kvs)/\Q (.int kvs.length) H):=by
 intro pins s σ H xs us Q I r h;obtain⟨a,kvs,rfl,ha,q⟩:=h;obtain⟨u,rfl,ru⟩:=vals1 r;cases ru;exact ku_ I (.inl ha) fun t s' I'=>⟨.int kvs.length,H,I',⟨t,rfl⟩,q⟩
end
theorem iteF{A B:Prop}(h:B):if false=true then A else B:=by
 rw[if_neg aq'];exact h
theorem iteT{A B:Prop}(h:A):if true=true then A else B:=by
 rw[if_pos rfl];exact h
theorem ite2{c A B:Prop}[Decidable c](h1:c->A)(h2:¬c->B):if c then A else B:=by
 by_cases h:c
 ·rw[if_pos h];exact h1 h
 ·rw[if_neg h];exact h2 h
theorem iteNS{c A B:Prop}[Decidable c](hc:c)(h:B):if (!decide c)=true then A else B:=by
 rw[decide_eq_true hc];exact iteF h
def Same(H H':Hp):Prop:=∀b o,H b=some o->H' b=some o
theorem Same.refl(H:Hp):Same H H:=fun _ _ h=>h
theorem Same.trans{H H1 H2:Hp}(a:Same H H1)(b:Same H1 H2):Same H H2:=fun c o h=>b c o (a c o h)
theorem Same.free{H H':Hp}(e:Same H H'){l:Addr}(h:H' l=Option.none):H l=Option.none:=by
 cases q:H l with
 |none=>rfl
 |some o=>
  rw[e l o q] at h;cases h
section
variable{κ:Type}[DecidableEq κ]
theorem iC_{kvs:List (κ × V)}{k:κ}{v:V}(h:valV kvs k=some v):k∈kvs.map (·.1):=by
 have q:(kvs.any fun kv=>decide (kv.1=k))=true:=by
  rw[bX_,h]
  all_goals rfl
 obtain⟨p,hp,e⟩:=List.any_eq_true.mp q;exact ad'.mpr ⟨p,hp,of_decide_eq_true e⟩
end
end L2
namespace L2
open PySem PySem.Spec PyProof.Rows
def bk'(env:Env):List (Str × NameKind)->List (Str × Addr)->List (Str × Addr)
 |[],cs=>cs
 |(n,k)::r,cs=>bk' env r (if k == .free then (n,(env.cells.lookup n).getD 0)::cs else cs)
theorem bm_{env:Env}(f:Str × NameKind->List (Str × Addr)->Sem (ForInStep (List (Str × Addr))))
  (hf:∀n k cs,f (n,k) cs=if (k == .free)=true then (do let a <- cellOf env n;pure (.yield ((n,a)::cs))) else pure (.yield cs)) :
  ∀(names:List (Str × NameKind)) (cs:List (Str × Addr)),(∀x∈names,x.2=.free->∃c,env.cells.lookup x.1=some c)->forIn names cs f=(pure (bk' env names cs):Sem _)
 |[],cs,_=>by rw[List.forIn_nil];rfl
 |(n,k)::r,cs,h=>by
  rw[List.forIn_cons,hf];have hr:∀x∈r,x.2=.free->∃c,env.cells.lookup x.1=some c:=fun x hx=>h x (ag' _ hx);unfold bk';by_cases hk:(k == NameKind.free)=true
  ·obtain⟨c,hc⟩:=h (n,k) aj' (by simpa using hk);have hc:env.cells.lookup n=some c:=hc;rw[if_pos hk,if_pos hk];have e:cellOf env n=pure c:=by unfold cellOf;rw[hc]
   rw[e];simp only[pure_bind];rw[bm_ f hf r _ hr,hc];rfl
  ·rw[if_neg hk,if_neg hk];simp only[pure_bind];exact bm_ f hf r _ hr
theorem dg_{scope:Scope}{env:Env}(h:∀x∈scope.names,x.2=.free->∃c,env.cells.lookup x.1=some c):closureFor scope env=pure (bk' env scope.names []):=by
 simp only[closureFor];rw[bm_ (env:=env) _ (fun n k cs=>by by_cases hk:(k == NameKind.free)=true<;>simp[hk]) scope.names [] h]
 simp only[pure_bind]
theorem cV_{env:Env}:∀{names:List (Str × NameKind)} {cs:List (Str × Addr)} {x:Str} {c:Addr},(x,c)∈bk' env names cs->(x,c)∈cs∨((x,NameKind.free)∈names/\c=(env.cells.lookup x).getD 0)
 |[],cs,x,c,h=>.inl h
 |(n,k)::r,cs,x,c,h=>by
  unfold bk' at h;rcases cV_ h with h|⟨h,e⟩
  ·by_cases hk:(k == NameKind.free)=true
   ·rw[if_pos hk] at h;rcases ah'.mp h with q|q
    ·cases q;have:k=.free:=by simpa using hk
     subst this;exact .inr ⟨aj',rfl⟩
    ·exact .inl q
   ·rw[if_neg hk] at h;exact .inl h
  ·exact .inr ⟨ag' _ h,e⟩
theorem cb_{env:Env}:∀{names:List (Str × NameKind)} {cs:List (Str × Addr)} {x:Str},(x,NameKind.free)∈names∨(∃c,(x,c)∈cs)->∃c,(x,c)∈bk' env names cs
 |[],cs,x,h=>by
  rcases h with h|h
  ·cases h
  ·exact h
 |(n,k)::r,cs,x,h=>by
  unfold bk';refine cb_ ?_;rcases h with h|⟨c,h⟩
  ·rcases ah'.mp h with e|h
   ·cases e;exact .inr ⟨(env.cells.lookup n).getD 0,by rw[if_pos (by decide)];exact aj'⟩
   ·exact .inl h
  ·refine .inr ⟨c,?_⟩;split
   ·exact ag' _ h
   ·exact h
theorem bi_:∀(names:List (Str × NameKind)) (n:Nat) (acc cl:List (Str × Addr)),cellsFrom n names (acc++cl)=cellsFrom n names acc++cl
 |[],_,_,_=>rfl
 |(x,k)::r,n,acc,cl=>by
  unfold cellsFrom;split
  ·exact bi_ r (n+1) ((x,n)::acc) cl
  ·exact bi_ r n acc cl
theorem bn_:∀{names:List (Str × NameKind)} {n:Nat} {acc:List (Str × Addr)} {x:Str} {c:Addr},(x,c)∈cellsFrom n names acc->(x,c)∈acc∨(x,NameKind.cell)∈names
 |[],_,_,_,_,h=>.inl h
 |(y,k)::r,n,acc,x,c,h=>by
  unfold cellsFrom at h;by_cases hk:(k == NameKind.cell)=true
  ·rw[if_pos hk] at h;rcases bn_ h with h|h
   ·rcases ah'.mp h with e|h
    ·cases e;have:k=.cell:=by simpa using hk
     subst this;exact .inr aj'
    ·exact .inl h
   ·exact .inr (ag' _ h)
  ·rw[if_neg hk] at h;rcases bn_ h with h|h
   ·exact .inl h
   ·exact .inr (ag' _ h)
theorem bp_{α:Type}:∀{l:List (Str × α)} {x:Str} {c:α},(x,c)∈l->∃c',l.lookup x=some c'
 |(k,v)::r,x,c,h=>by
  rw[aP'];cases hb:x == k with
  |true=>exact⟨v,rfl⟩
  |false=>
   rcases ah'.mp h with e|h
   ·cases e;simp at hb
   ·exact bp_ h
def cpEnv(scope:Scope)(C:Addr)(env:Env):Env:=
 { scope:=relabel scope env,locals:=C,globals:=env.globals,cells:=cellsFrom (C+1) scope.names (bk' env scope.names []),qual:=env.qual,func:=none,code:=env.code,frame:=env.frame,builtins:=env.builtins }
theorem e7_{M:Model}{A:Around}{E:Value->Shared->Prop}{s:Shared}{scope:Scope}{cl:List (Str × Addr)}{env:Env}{Q:Env->Shared->Prop}
  (h:Q { scope:=scope,locals:=s.heap.objs.size,globals:=env.globals,cells:=cellsFrom (s.heap.objs.size+1) scope.names cl,qual:=env.qual,func:=none,code:=env.code,frame:=env.frame,builtins:=env.builtins }
   { s with heap:=pushCells (s.heap.push { cls:=.type "dict",data:=.dict #[] }) scope.names }) :
  wpAny M A (newFunctionEnv scope env.globals cl [] env.qual none .none (some env)) Q E s:=by
 simp only[newFunctionEnv,Option.isSome_some,if_true];refine wpAny_bind (wpAny_alloc ?_);refine wpAny_bind (wpAny_layCells _ (fun name kind cells=>by cases hkc:kind == NameKind.cell<;>simp[hkc]) _ _ _ _ ?_)
 rw[show ({ s with heap:=s.heap.push { cls:=.type "dict",data:=.dict #[] } }:Shared).heap.objs.size=s.heap.objs.size+1 from Heap.size_push ..];rw[List.forIn_nil];exact wpAny_bind (wpAny_pure (wpAny_pure h))
def cF'(PN:List Str)(ps:Scope)(N:List Str)(own:Nat)(fr:List Nat)(scope:Scope):Bool:=
 decide (scope.kind=.function)&&decide N.Nodup&&decide (own+fr.length=N.length)
 && (scope.names.all fun y=>decide (scope.names.lookup y.1=some y.2))
 && (scope.names.all fun y=>if y.2=.free then decide (ps.names.lookup y.1=some .cell) || decide (ps.names.lookup y.1=some .free) else true)
 && ((fr.map fun j=>PN[j]?) == (N.drop own).map some)
 && ((N.drop own).all fun x=>decide (scope.names.lookup x=some .free))
structure CpOk (PN:List Str) (ps:Scope) (N:List Str) (own:Nat) (fr:List Nat) (scope:Scope):Prop where
 kind:scope.kind=.function
 nd:N.Nodup
 len:own+fr.length=N.length
 look:∀y∈scope.names,scope.names.lookup y.1=some y.2
 par:∀y∈scope.names,y.2=.free->ps.names.lookup y.1=some .cell∨ps.names.lookup y.1=some .free
 frs:(fr.map fun j=>PN[j]?)=(N.drop own).map some
 frk:∀x∈N.drop own,scope.names.lookup x=some .free
theorem CpOk.of{PN:List Str}{ps:Scope}{N:List Str}{own:Nat}{fr:List Nat}{scope:Scope}(h:cF' PN ps N own fr scope=true):CpOk PN ps N own fr scope:=by
 unfold cF' at h;simp only[aY',decide_eq_true_eq,List.all_eq_true,beq_iff_eq] at h;obtain⟨⟨⟨⟨⟨⟨h1,h2⟩,h3⟩,h4⟩,h5⟩,h6⟩,h7⟩:=h;refine⟨h1,h2,h3,h4,fun y hy e=>?_,h6,h7⟩;have q:=h5 y hy;rw[if_pos e] at q;simpa using q
def bK'(own:Nat)(fr:List Nat)(σ:St):St:=List.replicate own none++fr.map fun j=>(σ[j]?).join
def bi'(X:Cx)(N:List Str)(scope:Scope)(fp:List Addr)(s:Shared)(H:Hp):Cx where
 prog:=X.prog
 w:=X.w
 K:=X.K
 mg:=X.mg
 base:=X.base
 A:=X.A
 N:=N
 s₀:=s
 H₀:=H
 env:=cpEnv scope s.heap.objs.size X.env
 outer:=X.stack
 stack:=X.stack
 ex:=fp
 fn:=fun x=>decide (scope.names.lookup x=some .local) || decide (scope.names.lookup x=some .cell)
 calm:=X.calm
 pn:=[]
 xe:=fun _ _=>False
theorem ck_{ps:Scope}{env:Env}(he:env.scope=ps){x:Str}:∀{names:List (Str × NameKind)} {k:NameKind},names.lookup x=some k->
  (names.map fun(n,k)=>if (k == NameKind.free&&env.scope.kind == .function&&env.kindOf n == some .cell) then (n,NameKind.cell) else (n,k)).lookup x =
   some (if (k == NameKind.free&&env.scope.kind == .function&&env.kindOf x == some .cell) then .cell else k)
 |(n,k')::r,k,h=>by
  rw[aP'] at h;rw[ar'];cases hb:x == n with
  |true=>
   rw[hb] at h;cases h;have e:x=n:=by simpa using hb
   subst e;dsimp only;split<;>simp[aP']
  |false=>
   rw[hb] at h;have ih:=ck_ he (env:=env) h;dsimp only;split<;>(rw[aP',hb];exact ih)
theorem c7_{env:Env}{x:Str}:∀{names:List (Str × NameKind)} {k:NameKind},(names.map fun(n,k)=>if (k == NameKind.free&&env.scope.kind == .function&&env.kindOf n == some .cell) then (n,NameKind.cell) else (n,k)).lookup x=some k->∃k',names.lookup x=some k'/\(k'=k∨(k'=.free/\k=.cell))
 |(n,k')::r,k,h=>by
  rw[ar'] at h;rw[aP'];dsimp only at h;cases hb:x == n with
  |true=>
   refine⟨k',rfl,?_⟩;by_cases hc:(k' == NameKind.free&&env.scope.kind == .function&&env.kindOf n == some .cell)=true
   ·rw[if_pos hc,aP',hb] at h;cases h;simp only[aY',beq_iff_eq] at hc;exact .inr ⟨hc.1.1,rfl⟩
   ·rw[if_neg hc,aP',hb] at h;cases h;exact .inl rfl
  |false=>
   have h':(r.map fun(n,k)=>if (k == NameKind.free&&env.scope.kind == .function&&env.kindOf n == some .cell) then (n,NameKind.cell) else (n,k)).lookup x=some k:=by
    split at h<;>(rw[aP',hb] at h;exact h)
   exact c7_ h'
theorem da_{α:Type}{x:Str}{c:α}:∀{l r:List (Str × α)},(l++r).lookup x=some c->(x,c)∈l∨(x,c)∈r:=fun h=>au'.mp (PySem.mem_of_lookup h)
section
variable{X:Cx}{pins:List (Addr × Obj)}{σ:St}{H:Hp}{s:Shared}{N:List Str}{own:Nat}{fr:List Nat}{scope:Scope}{fp:List Addr}
theorem c3'(I:Inv X pins σ H s)(S:CpOk X.N X.env.scope N own fr scope){x:Str}{c:Addr}(h:(x,c)∈bk' X.env scope.names []):X.env.cells.lookup x=some c/\(x,NameKind.free)∈scope.names:=by
 rcases cV_ h with h|⟨h,e⟩
 ·cases h
 ·obtain⟨c',hc⟩:=I.ok.has x (S.par _ h rfl);refine⟨?_,h⟩;rw[e,hc];rfl
theorem Inv.block(I:Inv X pins σ H s)(S:CpOk X.N X.env.scope N own fr scope)(hfp:∀b∈fp,FpOk X pins H b)(hfo:∀b∈fp,∃o,s.heap.get? b=some o) :
  Inv (bi' X N scope fp s H) [] (bK' own fr σ) H { s with heap:=pushCells (s.heap.push { cls:=.type "dict",data:=.dict #[] }) scope.names }:=by
 have kept:∀b o,s.heap.get? b=some o->(pushCells (s.heap.push { cls:=.type "dict",data:=.dict #[] }) scope.names).get? b=some o:=fun b o e=>pushCells_keeps _ _ b o (Heap.get?_push_of_some _ e);have cok:=cellsFrom_ok scope.names (s.heap.push { cls:=.type "dict",data:=.dict #[] }) (s.heap.objs.size+1) [] ⟨fun _ _ hm=>(nomatch hm),List.Pairwise.nil⟩ (by rw[Heap.size_push];exact af' _);rw[Heap.size_push] at cok;have ecs:cellsFrom (s.heap.objs.size+1) scope.names (bk' X.env scope.names [])=cellsFrom (s.heap.objs.size+1) scope.names []++bk' X.env scope.names []:=bi_ _ _ [] _
 have lookC:∀{x c},(cellsFrom (s.heap.objs.size+1) scope.names (bk' X.env scope.names [])).lookup x=some c->((x,c)∈cellsFrom (s.heap.objs.size+1) scope.names []/\(x,NameKind.cell)∈scope.names/\s.heap.objs.size+1<=c)∨(X.env.cells.lookup x=some c/\(x,NameKind.free)∈scope.names):=fun {x c} h=>by
  rw[ecs] at h;rcases da_ h with h|h
  ·refine .inl ⟨h,?_,(cok.empty _ _ h).2⟩;rcases bn_ h with q|q
   ·cases q
   ·exact q
  ·exact .inr (c3' I S h)
 have oldC:∀{x c},X.env.cells.lookup x=some c->c<s.heap.objs.size:=fun {x c} h=>by
  obtain⟨v,hv⟩:=I.cell x c h;exact hv.lt
 have hb:∀b∈fp,b<s.heap.objs.size:=fun b hb=>let ⟨o,e⟩:=hfo b hb;Heap.lt_size e
 refine⟨⟨I.ok.mod,S.kind,I.ok.glob,I.ok.blt,af' _,fun x y c h1 h2=>?_,fun x hx=>?_,fun x c hf h=>?_,I.ok.hd,I.ok.frames,.inl rfl,fun b hb'=>⟨av' (hb b hb'),fun x c h=>?_⟩,I.bs,?_,fun b o e hb'=>?_,fun b hb' hs=>?_,I.stack,I.stkFree⟩,
  rfl,I.bare,Un.kept kept,⟨_,(Heap.Ns.new s.heap (.type "dict")).keeps (pushCells_keeps _ _),fun i x v h1 h2 h3=>?_⟩,fun x c h=>?_,I.hok.fresh (af' _),fun x c h=>?_,fun p hp=>absurd (show p∈([]:List (Addr × Obj)) from hp) (by simp),I.hok.kept kept,?_⟩
 ·-- inj
  rcases lookC h1 with⟨m1,k1,l1⟩|⟨m1,k1⟩<;>rcases lookC h2 with⟨m2,k2,l2⟩|⟨m2,k2⟩
  ·exact name_of_addr cok.apart m1 m2
  ·exact absurd (oldC m2) (Nat.not_lt.mpr (Nat.le_of_succ_le l1))
  ·exact absurd (oldC m1) (Nat.not_lt.mpr (Nat.le_of_succ_le l2))
  ·exact I.ok.inj x y c m1 m2
 ·-- has
  have key:(x,NameKind.cell)∈scope.names∨(x,NameKind.free)∈scope.names:=by
   rcases hx with hx|hx
   ·obtain⟨k',e,q⟩:=c7_ (env:=X.env) (show _=some NameKind.cell from hx);have m:=PySem.mem_of_lookup e;rcases q with q|⟨q,_⟩
    ·exact .inl (q▸m)
    ·exact .inr (q▸m)
   ·obtain⟨k',e,q⟩:=c7_ (env:=X.env) (show _=some NameKind.free from hx);have m:=PySem.mem_of_lookup e;rcases q with q|⟨_,q⟩
    ·exact .inr (q▸m)
    ·cases q
  show ∃c,(cellsFrom (s.heap.objs.size+1) scope.names (bk' X.env scope.names [])).lookup x=some c
  have:((cellsFrom (s.heap.objs.size+1) scope.names (bk' X.env scope.names [])).lookup x).isSome=true:=by
   refine PySem.W.cellsFrom_some _ _ _ ?_;rcases key with q|q
   ·exact .inl (S.look _ q)
   ·obtain⟨c,m⟩:=cb_ (env:=X.env) (names:=scope.names) (cs:=[]) (x:=x) (.inl q);obtain⟨c',e⟩:=bp_ m;exact .inr (by rw[e];rfl)
  exact Option.isSome_iff_exists.mp this
 ·-- cab
  rcases lookC h with⟨_,_,l⟩|⟨_,k⟩
  ·exact Nat.le_of_succ_le l
  ·have e:=S.look _ k;have hf:(decide (scope.names.lookup x=some .local) || decide (scope.names.lookup x=some .cell))=true:=hf;rw[show scope.names.lookup x=some .free from e] at hf;exact absurd hf (by decide)
 ·rcases lookC h with⟨_,_,l⟩|⟨q,_⟩
  ·exact Nat.ne_of_gt (ax' (hb b hb') (Nat.le_of_succ_le l))
  ·exact (hfp b hb').2.2.2.2.1 x c q
 ·exact aW' I.ok.bsz I.sz
 ·rcases (hfp b hb').2.2.2.1 with q|q
  ·exact I.ok.noex b o e q
  ·exact absurd (ax' (Heap.lt_size e) I.ok.bsz) (by omega)
 ·rcases ah'.mp (I.stkSub b hs) with q|q
  ·exact (hfp b hb').2.1 q
  ·exact (hfp b hb').2.2.1 q
 ·-- names
  have hi:own<=i:=by
   refine Nat.le_of_not_lt fun hlt=>?_;unfold bK' at h2;rw[aM' (by rw[aK'];exact hlt),List.getElem?_replicate,if_pos hlt] at h2;cases h2
  have h2':(fr.map fun j=>(σ[j]?).join)[i - own]? = some (some v):=by
   unfold bK' at h2;rw[aI' (by rw[aK'];exact hi),aK'] at h2;exact h2
  have h1:N[i]? = some x:=h1;have hx:(N.drop own)[i - own]? = some x:=by rw[List.getElem?_drop,show own+(i - own)=i by omega];exact h1
  rw[al'] at h2';cases ej:fr[i - own]? with
  |none=>rw[ej] at h2';cases h2'
  |some j=>
   rw[ej] at h2';have h2':(σ[j]?).join=some v:=Option.some.inj h2'
   have hσ:σ[j]? = some (some v):=by
    cases q:σ[j]? with
    |none=>rw[q] at h2';cases h2'
    |some o=>rw[q] at h2';exact congrArg some h2'
   have hN:X.N[j]? = some x:=by
    have q:=congrArg (fun l=>l[i - own]?) S.frs;simp only[al',ej,hx,Option.map_some] at q;exact Option.some.inj q
   have kf:=S.frk x (ae' hx);have mf:=PySem.mem_of_lookup kf;obtain⟨m,hm,hv⟩:=I.loc;have pk:=S.par _ mf rfl;obtain⟨u,ru,lk⟩:=hv j x v hN hσ (pk.elim (fun q=>.inr (.inl q)) fun q=>.inr (.inr q));refine⟨u,ru,?_⟩;have pk':X.env.kindOf x=some .cell∨X.env.kindOf x=some .free:=pk;rcases lk with⟨k,_⟩|⟨_,c,hc,hcell⟩
   ·rw[k] at pk';rcases pk' with q|q<;>cases q
   ·obtain⟨c',m1⟩:=cb_ (env:=X.env) (names:=scope.names) (cs:=[]) (x:=x) (.inl mf);have e1:=(c3' I S m1).1;rw[hc] at e1;cases e1;refine .inr ⟨?_,c,?_,hcell.keeps kept⟩
    ·have q:=ck_ (env:=X.env) rfl kf;show (relabel scope X.env).names.lookup x=some .cell∨(relabel scope X.env).names.lookup x=some .free;unfold relabel;rw[q];split
     ·exact .inl rfl
     ·exact .inr rfl
    ·obtain⟨c2,e2⟩:=Option.isSome_iff_exists.mp (PySem.W.cellsFrom_some (x:=x) scope.names (s.heap.objs.size+1) (bk' X.env scope.names []) (.inr (by obtain⟨c',e⟩:=bp_ m1;rw[e];rfl)));show (cellsFrom (s.heap.objs.size+1) scope.names (bk' X.env scope.names [])).lookup x=some c;rcases lookC e2 with⟨_,q,_⟩|⟨q,_⟩
     ·have:=S.look _ q;rw[show scope.names.lookup x=some .free from kf] at this;cases this
     ·rw[hc] at q;cases q;exact e2
 ·-- cells
  rcases lookC h with⟨q,_,_⟩|⟨q,_⟩
  ·exact⟨_,(cok.empty _ _ q).1⟩
  ·obtain⟨v,hv⟩:=I.cell x c q;exact⟨v,hv.keeps kept⟩
 ·rcases lookC h with⟨q,_,l⟩|⟨q,_⟩
  ·exact I.hok.fresh (by omega)
  ·exact I.freeC x c q
 ·show (bK' own fr σ).length=N.length;unfold bK';rw[ap',aK',aa'];exact S.len
end
def PTs(X:Cx)(ifs:List Expr)(t:TT):Prop:=
 ∀(pins:List (Addr × Obj)) (s:Shared) (σ:St) (H:Hp) (Q:Bool->Hp->Prop),Inv X pins σ H s->t σ H Q->
  wpAny (model X.prog X.w) X.A (forIn ifs true fun c r=>if r=true then do let ok <- isTrue c X.env (eval c X.env);pure (ForInStep.yield ok) else pure (ForInStep.yield r)) (TP X pins σ Q) X.xe s
def tYes:TT:=fun _ H Q=>Q true H
theorem yesT{σ:St}{H:Hp}{A B:Hp->Prop}(h:A H):tYes σ H fun b H4=>if b=true then A H4 else B H4:=by
 unfold tYes;exact iteT h
theorem aS_{X:Cx}:PTs X [] tYes:=fun _ _ _ H _ I h=>wpAny_tests_nil ⟨H,I,h⟩
theorem iS_{X:Cx}{c:Expr}{t:TT}(h:PT X c t):PTs X [c] t:=fun pins s σ H Q I q=>wpAny_tests_one (h pins s σ H Q I q)
def df'(J:It)(g:TG)(tc:TT)(te:TE)(σ0:St)(D:Addr)(H1:Hp)(Q:VK):Prop:=∃W:Nat->Nat->St->Hp->Prop,
 (∃m,W 0 m σ0 (upd H1 D (.lst [])))/\∀i m σ' H',W i m σ' H'->(J.stop i H'/\Q (.ref D) H') ∨
  (J.go i H'/\∃Nx:St->Hp->Prop,(∀σ2 H2,Nx σ2 H2->∃m',m'<m/\W (i+1) m' σ2 H2) /\
   ∀x H2,J.yld i H' x H2->g x σ' H2 fun σ3 H3=>tc σ3 H3 fun b H4=>if b=true then te σ3 H4 fun y H5=>∃out,H5 D=some (.lst out)/\out.length<sizeLine/\Nx σ3 (upd H5 D (.lst (out++[y]))) else Nx σ3 H4)
def tComp(wi:TI)(own:Nat)(fr:List Nat)(g:TG)(tc:TT)(te:TE):TE:=fun σ H Q=>wi σ H fun J H1=>∀D,H1 D=none->df' J g tc te (bK' own fr σ) D H1 Q
section
variable{X:Cx}{tg iter elt:Expr}{ifs:List Expr}{scope:Scope}{pos:Pos}{wi:TI}{g:TG}{tc:TT}{te:TE}{N:List Str}
theorem iw_{R:Result->Shared->Prop}{own:Nat}{fr:List Nat}{pins:List (Addr × Obj)}{σ:St}{H1:Hp}{s2:Shared}{it:Addr}{fp:List Addr}{tn:Nat->Heap->Prop}{J:It}{D:Addr}{Q:VK}
  (S:CpOk X.N X.env.scope N own fr scope) (hc:X.calm=true) (hg:∀fp s H,PG (bi' X N scope fp s H) tg g) (ht:∀fp s H,PTs (bi' X N scope fp s H) ifs tc) (he:∀fp s H,PE (bi' X N scope fp s H) elt te)
  (I3:Inv X pins σ (upd H1 D (.lst [])) s2) (T:Turn X.prog X.w X.K tg J fp it tn) (st:tn 0 s2.heap) (f2:∀b∈fp,FpOk X pins (upd H1 D (.lst [])) b)
  (k:df' J g tc te (bK' own fr σ) D H1 Q)
  (hR:∀H' s',Inv X pins σ H' s'->(∃m,s'.heap.Ns s2.heap.objs.size m)->H' s2.heap.objs.size=none->Q (.ref D) H'->R (.ok .next) s') :
  codeAny (model X.prog X.w) X.A (.compStart (.ListComp elt [⟨tg,iter,ifs,0⟩] scope pos) 0 (.ref it) (.ref D) (cpEnv scope s2.heap.objs.size X.env)) R
   { s2 with heap:=pushCells (s2.heap.push { cls:=.type "dict",data:=.dict #[] }) scope.names }:=by
 obtain⟨W,⟨m0,w0⟩,turn⟩:=k;have I4:=I3.block (N:=N) S f2 (fun b hb=>let ⟨o,e,_⟩:=T.obj _ _ st b hb;⟨o,e⟩);have kept:∀b o,s2.heap.get? b=some o->(pushCells (s2.heap.push { cls:=.type "dict",data:=.dict #[] }) scope.names).get? b=some o:=fun b o e=>pushCells_keeps _ _ b o (Heap.get?_push_of_some _ e);have st4:tn 0 (pushCells (s2.heap.push { cls:=.type "dict",data:=.dict #[] }) scope.names):=T.keep _ _ _ st fun b hb o e=>kept b o e
 have fx:∀{H':Hp},(∀b∈fp,H' b=none)->∀b∈fp,FpOk (bi' X N scope fp s2 (upd H1 D (.lst []))) [] H' b:=fun hn b hb=>
  ⟨hn b hb,(I4.ok.exf b hb).1,I4.ok.exfs b hb,.inl hb,(I4.ok.exf b hb).2,fun p hp=>absurd (show p∈([]:List (Addr × Obj)) from hp) (by simp)⟩
 have loop:codeAny (model X.prog X.w) X.A (.compLoop (.ListComp elt [⟨tg,iter,ifs,0⟩] scope pos) 0 (.ref it) (.ref D) (cpEnv scope s2.heap.objs.size X.env)) R
   { s2 with heap:=pushCells (s2.heap.push { cls:=.type "dict",data:=.dict #[] }) scope.names }:=by
  refine codeAny_loop rfl (fun n s'=>∃i σ' H',Inv (bi' X N scope fp s2 (upd H1 D (.lst []))) [] σ' H' s'/\tn i s'.heap/\(∀b∈fp,H' b=none)/\W i n σ' H') (fun n s' hI=>?_) m0 ⟨0,_,_,I4,st4,fun b hb=>(f2 b hb).1,w0⟩;obtain⟨i,σ',H',I5,st5,fr5,w5⟩:=hI;show wpAny _ X.A ((compTurn (.ListComp elt [⟨tg,iter,ifs,0⟩] scope pos) 0 (.ref it) (.ref D) (cpEnv scope s2.heap.objs.size X.env)).onRaise (fun x=>do noteFrame x (cpEnv scope s2.heap.objs.size X.env);theTreesLotGoes x)) _ _ s';refine wpAny_noted (wpAny_mono (E:=fun _ _=>False) ?_ (fun _ _ q=>q) fun _ _ q=>q.elim);rw[compTurn_list];refine wpAny_bind (wpAny_standAt (wpAny_bind ?_));rcases turn i n σ' H' w5 with⟨stop,q⟩|⟨go,Nx,hN,step⟩
  ·refine thn (T.done (bi' X N scope fp s2 (upd H1 D (.lst []))) rfl rfl rfl hc i [] s' σ' H' _ I5 (fx fr5) st5 stop) fun r s6 ⟨hr,I6⟩=>?_;subst hr;refine wpAny_pure (hR H' s6 (I3.call' I6.os I6.base I6.hok I6.bare fun b hb=>?_) ?_ I6.free q)
   ·exact⟨(f2 b hb).2.2.2.1,(f2 b hb).2.1,(f2 b hb).2.2.2.2.1,(f2 b hb).2.2.2.2.2⟩
   ·obtain⟨m,hm,_⟩:=I6.loc;exact⟨m,hm⟩
  ·refine thn (T.item (bi' X N scope fp s2 (upd H1 D (.lst []))) rfl rfl rfl hc i [] s' σ' H' _ I5 (fx fr5) st5 go) fun r s6 ⟨u,hr,h6⟩=>?_;subst hr;refine wpAny_bind (thn h6 fun _ s7 ⟨x,H7,I7,r7,y7,st7,fr7⟩=>?_);have I7':=I7.pinned (fx fr7) (T.obj _ _ st7)
   have back:∀{σ8:St} {H8:Hp} {s8:Shared},Inv (bi' X N scope fp s2 (upd H1 D (.lst []))) ([]++bL' fp s7.heap) σ8 H8 s8->Nx σ8 H8->∃m,m<n/\∃i σ' H',Inv (bi' X N scope fp s2 (upd H1 D (.lst []))) [] σ' H' s8/\tn i s8.heap/\(∀b∈fp,H' b=none)/\W i m σ' H':=fun {σ8 H8 s8} I8 n8=>by
    obtain⟨m',hm,w8⟩:=hN σ8 H8 n8;refine⟨m',hm,i+1,σ8,H8,I8.unpinned,T.keep _ _ _ st7 fun b hb o e=>(I8.pin (b,o) (aA' _ (aA' _ (bz_ hb e)))).1,fun b hb=>?_,w8⟩;obtain⟨o,e,d⟩:=T.obj _ _ st7 b hb;exact (I8.pin (b,o) (aA' _ (aA' _ (bz_ hb e)))).2.1
   refine wpAny_bind (thn (hg fp s2 (upd H1 D (.lst [])) _ s7 σ' H7 x u _ I7' r7 (step x H7 y7)) fun _ s8 ⟨σ8,H8,I8,q8⟩=>?_);refine wpAny_bind (thn (ht fp s2 (upd H1 D (.lst [])) _ s8 σ8 H8 _ I8 q8) fun b s9 ⟨H9,I9,q9⟩=>?_);cases b with
   |false=>
    simp only[aT',if_false] at q9 ⊢;exact wpAny_pure ⟨rfl,back I9 q9⟩
   |true=>
    simp only[if_true] at q9 ⊢;refine wpAny_bind (wpAny_bind (thn (he fp s2 (upd H1 D (.lst [])) _ s9 σ8 H9 _ I9 q9) fun y s10 ⟨yv,H10,I10,r10,out,hD,hz,q10⟩=>?_));refine wpAny_bind (thn (aT_ (X:=bi' X N scope fp s2 (upd H1 D (.lst []))) _ s10 σ8 H10 (.ref D) [yv] (.ref D) [y] (fun _ H'=>Nx σ8 H') I10 rfl (.cons r10 .nil) ⟨D,out,yv,rfl,rfl,hD,hz,q10⟩) fun _ s11 ⟨_,H11,I11,_,q11⟩=>?_);exact wpAny_pure (wpAny_pure ⟨rfl,back I11 q11⟩)
 exact codeAny_compStart_list loop (T.self _ 0 _ _ _ st4 loop)
theorem aN_(N:List Str)(own:Nat)(fr:List Nat)(hi:PI X tg iter wi)(hg:∀fp s H,PG (bi' X N scope fp s H) tg g)(ht:∀fp s H,PTs (bi' X N scope fp s H) ifs tc)(he:∀fp s H,PE (bi' X N scope fp s H) elt te)
  (S:cF' X.N X.env.scope N own fr scope=true:=by kernel_rfl) (hc:X.calm=true:=by rfl) (hs:∀x,foldedSetIterable iter X.env x=pure x:=by intro _;rfl) :
  PE X (.ListComp elt [⟨tg,iter,ifs,0⟩] scope pos) (tComp wi own fr g tc te):=by
 intro pins s σ H Q I h;have S':=CpOk.of S;rw[eval_ListComp];have hclos:closureFor scope X.env=pure (bk' X.env scope.names []):=dg_ fun x hx e=>I.ok.has x.1 (S'.par x hx e);refine wpAny_comprehension_free (use:=none) rfl hs hclos S'.kind (fun x hx e=>by rw[S'.look x hx,e]) (thn (hi pins s σ H _ I h) fun v s1 h1=>thn h1 fun itv s2 h2=>?_);obtain⟨it,fp,tn,J,H1,rfl,I2,T,st2,f2,k⟩:=h2;refine wpAny_newObj_type (e7_ ?_);have hD:H1 s2.heap.objs.size=none:=I2.fresh;have I3:=I2.lnew (ys:=[]) (its:=[]) (t':=s2.toks) .nil (aE' _);have kept:∀b o,s2.heap.get? b=some o->(s2.heap.push { cls:=.type "list",data:=.seq ([]:List Value).toArray }).get? b=some o:=fun b o e=>Heap.get?_push_of_some _ e;refine iw_ (own:=own) (fr:=fr) (Q:=Q) S' hc hg ht he I3 T (T.keep _ _ _ st2 fun b hb o e=>kept b o e) (fun b hb=>?_) (k _ hD) ?_
 ·refine⟨?_,(f2 b hb).2⟩;obtain⟨o,e,_⟩:=T.obj _ _ st2 b hb;rw[a4_ (av' (Heap.lt_size e))];exact (f2 b hb).1
 ·rintro H' s' I' ⟨m,hm⟩ hn q;refine⟨m,hm,fun h' hs'=>⟨.ref s2.heap.objs.size,H',?_,rfl,q⟩⟩
  exact I'.turned (t':=s'.toks) (fun b o hb e=>hs'.extBut b o hb e) hn (Nat.ne_of_gt I3.lt) (.inr I3.sz) (fun x c hcx e=>by
   obtain⟨v,hv⟩:=I3.cell x c hcx
   exact absurd hv.lt (by rw[e];exact a2' _)) fun p hp e=>by
    have:=(I3.pin p hp).1;rw[e] at this;exact absurd (Heap.lt_size this) (a2' _)
end
def GOk(g:TG)(own:Nat)(fv:List (Option V))(dec:V->Hp->List (Option V)->Prop):Prop:=
 ∀(x:V) (o:List (Option V)) (H:Hp) (k:St->Hp->Prop) (o3:List (Option V)),o.length=own->dec x H o3->k (o3++fv) H->g x (o++fv) H k
theorem gok1{fv:List (Option V)}:GOk (bX' 0) 1 fv (fun x _ o3=>o3=[some x]):=fun x o H k o3 hl e h=>by
 subst e
 match o,hl with
 |[a],_=>exact h
def dec2(K:F__):V->Hp->List (Option V)->Prop:=fun x H o3=>∃p u v,x=.ref p/\SqT K H p [u,v]/\o3=[some u,some v]
def dec3(K:F__):V->Hp->List (Option V)->Prop:=fun x H o3=>∃p u v w,x=.ref p/\SqT K H p [u,v,w]/\o3=[some u,some v,some w]
theorem gok2{K:F__}{fv:List (Option V)}:GOk (gTup K 2 (cl' (bX' 0) (cl' (bX' 1) gNil))) 2 fv (dec2 K):=fun x o H k o3 hl e h=>by
 obtain⟨p,u,v,rfl,hp,rfl⟩:=e
 match o,hl with
 |[a,b],_=>exact⟨p,[u,v],rfl,hp,rfl,u,[v],rfl,v,[],rfl,rfl,h⟩
theorem gok3{K:F__}{fv:List (Option V)}:GOk (gTup K 3 (cl' (bX' 0) (cl' (bX' 1) (cl' (bX' 2) gNil)))) 3 fv (dec3 K):=fun x o H k o3 hl e h=>by
 obtain⟨p,u,v,w,rfl,hp,rfl⟩:=e
 match o,hl with
 |[a,b,c],_=>exact⟨p,[u,v,w],rfl,hp,rfl,u,[v,w],rfl,v,[w],rfl,w,[],rfl,rfl,h⟩
theorem c0_{J:It}{g:TG}{tc:TT}{te:TE}{own:Nat}{fv:List (Option V)}{dec:V->Hp->List (Option V)->Prop}{D:Addr}{H:Hp}{Q:VK}{σ0:St}(hσ:σ0=List.replicate own none++fv)(G:GOk g own fv dec)(n:Nat)(Pv:Nat->List V->Hp->Prop)
  (h0:Pv 0 [] (upd H D (.lst []))) (hstop:∀out H',Pv n out H'->J.stop n H'/\Q (.ref D) H')
  (hgo:∀i out H',i<n->Pv i out H'->J.go i H'/\∀x H2,J.yld i H' x H2->∃o3,dec x H2 o3/\o3.length=own/\∀Nx:Hp->Prop,(∀out' H2,Pv (i+1) out' H2->Nx H2)->
   tc (o3++fv) H2 fun b H4=>if b=true then te (o3++fv) H4 fun y H5=>∃out2,H5 D=some (.lst out2)/\out2.length<sizeLine/\Nx (upd H5 D (.lst (out2++[y]))) else Nx H4) :
  df' J g tc te σ0 D H Q:=by
 subst hσ;refine⟨fun i m σ' H'=>m=n - i/\i<=n/\(∃o:List (Option V),σ'=o++fv/\o.length=own)/\∃out,Pv i out H',⟨n,by simp,aE' _,⟨_,rfl,aK'⟩,_,h0⟩,?_⟩;rintro i m σ' H' ⟨rfl,hi,⟨o,rfl,ho⟩,out,p⟩;by_cases hlt:i<n
 ·obtain⟨go,k⟩:=hgo i out H' hlt p;refine .inr ⟨go,fun σ2 H2=>(∃o:List (Option V),σ2=o++fv/\o.length=own)/\∃out,Pv (i+1) out H2,fun σ2 H2 q=>⟨n - (i+1),by omega,rfl,hlt,q⟩,fun x H2 y=>?_⟩;obtain⟨o3,d,l3,q⟩:=k x H2 y;exact G x o H2 _ o3 ho d (q (fun H2=>(∃o:List (Option V),o3++fv=o++fv/\o.length=own)/\∃out,Pv (i+1) out H2) fun out' H2 z=>⟨⟨o3,rfl,l3⟩,out',z⟩)
 ·have e:i=n:=by omega
  subst e;exact .inl (hstop out H' p)
theorem aI_{K:F__}{a:Addr}{xs:List V}{g:TG}{tc:TT}{te:TE}{own:Nat}{fv:List (Option V)}{dec:V->Hp->List (Option V)->Prop}{D:Addr}{H:Hp}{Q:VK}{σ0:St}(hσ:σ0=List.replicate own none++fv)(G:GOk g own fv dec)(Pv:Nat->List V->Hp->Prop)
  (h0:Pv 0 [] (upd H D (.lst []))) (hl:∀i out H',i<=xs.length->Pv i out H'->SqL K H' a xs) (hd:∀out H',Pv xs.length out H'->Q (.ref D) H')
  (hgo:∀i x out H',xs[i]? = some x->Pv i out H'->∃o3,dec x H' o3/\o3.length=own/\∀Nx:Hp->Prop,(∀out' H2,Pv (i+1) out' H2->Nx H2)->
   tc (o3++fv) H' fun b H4=>if b=true then te (o3++fv) H4 fun y H5=>∃out2,H5 D=some (.lst out2)/\out2.length<sizeLine/\Nx (upd H5 D (.lst (out2++[y]))) else Nx H4) :
  df' (Itl K a) g tc te σ0 D H Q:=by
 refine c0_ hσ G xs.length Pv h0 (fun out H' p=>⟨⟨xs,hl _ _ _ (af' _) p,af' _⟩,hd out H' p⟩) fun i out H' hi p=>?_;have q:=hl i out H' (Nat.le_of_lt hi) p;refine⟨⟨xs,xs[i],q,by simp[hi]⟩,fun x H2 y=>?_⟩;obtain⟨e,y⟩:=y;subst e;exact hgo i x out _ (y xs q) p
end L2
namespace EvS
open PySem PySem.W PyProof.Rows
def Ok{α:Type}(f:Nat->Nat->Bool)(n:Nat):KasT α->(α->Prop)->Prop
 |.ret a,Q=>Q a
 |.ask i j k,Q=>i<n/\j<n/\Ok f n (k (f i j)) Q
theorem Ok.bind{α β:Type}{f:Nat->Nat->Bool}{n:Nat}{g:α->KasT β}{Q:β->Prop}:∀{t:KasT α} {R:α->Prop},Ok f n t R->(∀a,R a->Ok f n (g a) Q)->Ok f n (t.bind g) Q
 |.ret a,R,h,k=>k a h
 |.ask i j t,R,h,k=>⟨h.1,h.2.1,Ok.bind h.2.2 k⟩
theorem Ok.imp{α:Type}{f:Nat->Nat->Bool}{n:Nat}{Q R:α->Prop}(k:∀a,Q a->R a):∀{t:KasT α},Ok f n t Q->Ok f n t R
 |.ret a,h=>k a h
 |.ask i j t,h=>⟨h.1,h.2.1,Ok.imp k h.2.2⟩
theorem Ok.wp{α:Type}{f:Nat->Nat->Bool}{n:Nat}{cmp:Nat->Nat->(Bool->Shared->Prop)->Shared->Prop}{s:Shared}(hc:∀i j C,i<n->j<n->C (f i j) s->cmp i j C s){Q:α->Prop}{G:α->Shared->Prop}(k:∀a,Q a->G a s) :
  ∀{t:KasT α},Ok f n t Q->t.kasWp cmp G s
 |.ret a,h=>k a h
 |.ask i j t,h=>hc i j _ h.1 h.2.1 (Ok.wp hc k h.2.2)
structure Ord (f:Nat->Nat->Bool):Prop where
 rfl':∀i,f i i=false
 trans:∀{i j k},f j i=false->f k j=false->f k i=false
 tot:∀{i j},f i j=true->f j i=false
section
variable{f:Nat->Nat->Bool}(O:Ord f){N:Nat}
abbrev at'(p:Array Nat)(i:Nat):Nat:=p.getD i 0
def Up(f:Nat->Nat->Bool)(p:Array Nat)(k:Nat):Prop:=∀i j,i<=j->j<k->f (at' p j) (at' p i)=false
def Down(f:Nat->Nat->Bool)(p:Array Nat)(k:Nat):Prop:=∀i j,i<=j->j<k->f (at' p i) (at' p j)=false
def Like(f:Nat->Nat->Bool)(p:Array Nat)(lo k:Nat):Prop:=∀i,lo<=i->i<k->f (at' p i) (at' p (k - 1))=false/\f (at' p (k - 1)) (at' p i)=false
def Good(N:Nat)(p:Array Nat):Prop:=p.Perm (List.range N).toArray
theorem Good.size{p:Array Nat}(h:Good N p):p.size=N:=by
 have:=h.size_eq;simpa using this
theorem Good.lt{p:Array Nat}(h:Good N p)(hN:0<N)(i:Nat):at' p i<N:=by
 unfold at';by_cases hi:i<p.size
 ·have e:p.getD i 0=p[i]:=by simp[Array.getD,hi]
  rw[e];have m:p[i]∈(List.range N).toArray:=h.mem_iff.mp (Array.getElem_mem hi);simpa using m
 ·have e:p.getD i 0=0:=by simp[Array.getD,hi]
  rw[e];exact hN
theorem Good.rev{p:Array Nat}(h:Good N p)(i j:Nat):Good N (kas_rev p i j):=(mirror_perm _ _ _ _).trans h
theorem Good.bub{p:Array Nat}(h:Good N p)(i j:Nat):Good N (bubble p i j):=(bubble_perm _ _ _).trans h
theorem cI_{p q:Array Nat}{i j:Nat}(h:p[i]? = q[j]?):at' p i=at' q j:=by
 unfold at';rw[Array.getD_eq_getD_getElem?,Array.getD_eq_getD_getElem?,h]
theorem cO_{p:Array Nat}{i j:Nat}(hj:j<=p.size)(k:Nat):at' (kas_rev p i j) k=if i<=k/\k<j then at' p (i+j - 1 - k) else at' p k:=by
 have e:=getElem?_mirror_all (i:=i) hj k;unfold kas_rev;split
 ·rename_i c
  rw[if_pos c] at e;exact cI_ e
 ·rename_i c
  rw[if_neg c] at e;exact cI_ e
theorem il_{p:Array Nat}{k l:Nat}(hk:k<p.size)(hl:l<=k)(i:Nat):at' (bubble p k (k - l)) i=if i=l then at' p k else if l<i/\i<=k then at' p (i - 1) else at' p i:=by
 have e:=getElem?_bubble hk (k - l) (by omega) i;rw[show k - (k - l)=l by omega] at e;by_cases c:i=l
 ·rw[if_pos c] at e ⊢;exact cI_ e
 ·rw[if_neg c] at e ⊢;split
  ·rename_i d
   rw[if_pos d] at e;exact cI_ e
  ·rename_i d
   rw[if_neg d] at e;exact cI_ e
include O
theorem Up.more{p:Array Nat}{n:Nat}(h:Up f p n)(h1:1<=n)(c:f (at' p n) (at' p (n - 1))=false):Up f p (n+1):=fun i j hij hj=>by
 by_cases e:j<n
 ·exact h i j hij e
 ·have e:j=n:=by omega
  subst e;by_cases e2:i=j
  ·subst e2;exact O.rfl' _
  ·exact O.trans (h i (j - 1) (by omega) (by omega)) c
theorem Down.more{p:Array Nat}{n:Nat}(h:Down f p n)(h1:1<=n)(c:f (at' p (n - 1)) (at' p n)=false):Down f p (n+1):=fun i j hij hj=>by
 by_cases e:j<n
 ·exact h i j hij e
 ·have e:j=n:=by omega
  subst e;by_cases e2:i=j
  ·subst e2;exact O.rfl' _
  ·exact O.trans c (h i (j - 1) (by omega) (by omega))
theorem gD_{p:Array Nat}(g:Good N p)(hN:0<N):∀(m n:Nat),1<=n->Up f p n->Ok f N (kas_asc p m n) fun r=>n<=r/\r<=n+m/\Up f p r/\(r<n+m->f (at' p r) (at' p (r - 1))=true)
 |0,n,_,h=>⟨af' _,af' _,h,fun q=>absurd q (by omega)⟩
 |m+1,n,h1,h=>by
  refine⟨g.lt hN _,g.lt hN _,?_⟩;dsimp only;by_cases c:f (at' p n) (at' p (n - 1))=true
  ·rw[if_pos c];exact⟨af' _,by omega,h,fun _=>c⟩
  ·rw[if_neg c];refine (gD_ g hN m (n+1) (by omega) (h.more O h1 (by simpa using c))).imp fun r ⟨a,b,u,z⟩=>⟨by omega,by omega,u,fun q=>z (by omega)⟩
theorem Like.rev{p:Array Nat}{lo k:Nat}(h:Like f p lo k)(hk:k<=p.size)(i:Nat):f (at' (kas_rev p lo k) i) (at' p i)=false/\f (at' p i) (at' (kas_rev p lo k) i)=false:=by
 rw[cO_ hk];split
 ·rename_i c
  obtain⟨a1,a2⟩:=h i c.1 c.2;obtain⟨b1,b2⟩:=h (lo+k - 1 - i) (by omega) (by omega);exact⟨O.trans a2 b1,O.trans b2 a1⟩
 ·exact⟨O.rfl' _,O.rfl' _⟩
theorem Down.rev{p:Array Nat}{lo k n:Nat}(h:Down f p n)(l:Like f p lo k)(hk:k<=p.size):Down f (kas_rev p lo k) n:=fun i j hij hj=>by
 obtain⟨a1,_⟩:=l.rev O hk i;obtain⟨_,b2⟩:=l.rev O hk j;exact O.trans (O.trans b2 (h i j hij hj)) a1
theorem dl_(hN:0<N):∀(m:Nat) (p:Array Nat) (n q:Nat),Good N p->1<=n->q+1<=n->n+m<=N->Down f p n->Like f p (n - (q+1)) n->
  Ok f N (kas_desc m p n q) fun r=>Good N r.1/\n<=r.2.1/\r.2.1<=n+m/\Down f r.1 r.2.1/\r.2.2+1<=r.2.1/\Like f r.1 (r.2.1 - (r.2.2+1)) r.2.1
 |0,p,n,q,g,h1,hq,hn,d,l=>⟨g,af' _,af' _,d,hq,l⟩
 |m+1,p,n,q,g,h1,hq,hn,d,l=>by
  refine⟨g.lt hN _,g.lt hN _,?_⟩;dsimp only;by_cases c:f (at' p n) (at' p (n - 1))=true
  ·rw[if_pos c];have d2:Down f p (n+1):=d.more O h1 (O.tot c)
   have one:∀p':Array Nat,Like f p' (n+1 - (0+1)) (n+1):=fun p' i h2 h3=>by
    have e:i=n+1 - 1:=by omega
    subst e;exact⟨O.rfl' _,O.rfl' _⟩
   by_cases hq0:q > 0
   ·rw[if_pos hq0];have hk:n<=p.size:=by rw[g.size];omega
    exact (dl_ hN m _ (n+1) 0 (g.rev _ _) (by omega) (by omega) (by omega) (d2.rev O l hk) (one _)).imp fun r ⟨a,b,b2,z⟩=>⟨a,by omega,by omega,z⟩
   ·rw[if_neg hq0];exact (dl_ hN m _ (n+1) 0 g (by omega) (by omega) (by omega) d2 (one _)).imp fun r ⟨a,b,b2,z⟩=>⟨a,by omega,by omega,z⟩
  ·rw[if_neg c];refine⟨g.lt hN _,g.lt hN _,?_⟩;dsimp only;have c:f (at' p n) (at' p (n - 1))=false:=by simpa using c
   by_cases e:f (at' p (n - 1)) (at' p n)=true
   ·rw[if_pos e];exact⟨g,af' _,by show n<=n+(m+1);omega,d,hq,l⟩
   ·rw[if_neg e];have e:f (at' p (n - 1)) (at' p n)=false:=by simpa using e
    refine (dl_ hN m p (n+1) (q+1) g (by omega) (by omega) (by omega) (d.more O h1 e) fun i h2 h3=>?_).imp fun r ⟨a,b,b2,z⟩=>⟨a,by omega,by omega,z⟩;show f (at' p i) (at' p n)=false/\f (at' p n) (at' p i)=false;by_cases ei:i=n
    ·subst ei;exact⟨O.rfl' _,O.rfl' _⟩
    ·obtain⟨a1,a2⟩:=l i (by omega) (by omega);exact⟨O.trans e a1,O.trans a2 c⟩
def cC'(f:Nat->Nat->Bool)(N nrem:Nat)(r:Nat × Array Nat):Prop:=Good N r.2/\1<=r.1/\r.1<=nrem/\Up f r.2 r.1
theorem gn_(hN:0<N){p:Array Nat}{n nrem:Nat}(g:Good N p)(h1:1<=n)(hn:n<=nrem)(hr:nrem<=N)(d:Down f p n):Ok f N (kas_tail3 n nrem p) (cC' f N nrem):=by
 unfold kas_tail3
 have u:Up f (kas_rev p 0 n) n:=fun i j hij hj=>by
  rw[cO_ (by rw[g.size];omega),cO_ (by rw[g.size];omega),if_pos (by omega),if_pos (by omega)];exact d _ _ (by omega) (by omega)
 exact (gD_ O (g.rev _ _) hN (nrem - n) n h1 u).bind fun m ⟨a,b,u,_⟩=>⟨g.rev _ _,by show 1<=m;omega,by show m<=nrem;omega,u⟩
theorem cL_(hN:0<N){p:Array Nat}{n nrem:Nat}(g:Good N p)(hn:n+1<=nrem)(hr:nrem<=N)(d:Down f p (n+1)):Ok f N (kas_descPart n nrem p) (cC' f N nrem):=by
 unfold kas_descPart;refine (dl_ O hN (nrem - (n+1)) p (n+1) 0 g (by omega) (by omega) (by omega) d fun i h2 h3=>?_).bind fun r ⟨g',a,b,d',hq,l⟩=>?_
 ·have e:i=n+1 - 1:=by omega
  subst e;exact⟨O.rfl' _,O.rfl' _⟩
 ·split
  ·exact gn_ O hN (g'.rev _ _) (by omega) (by omega) hr (d'.rev O l (by rw[g'.size];omega))
  ·exact gn_ O hN g' (by omega) (by omega) hr d'
theorem hw_(hN:0<N){p:Array Nat}{nrem:Nat}(g:Good N p)(h1:1<=nrem)(hr:nrem<=N):Ok f N (kas_count nrem p) (cC' f N nrem):=by
 unfold kas_count;refine (gD_ O g hN (nrem - 1) 1 (af' _) fun i j hij hj=>?_).bind fun n ⟨a,b,u,st⟩=>?_
 ·have e:i=j:=by omega
  subst e;exact O.rfl' _
 ·by_cases e:(n == nrem)=true
  ·rw[if_pos e];exact⟨g,a,by show n<=nrem;omega,u⟩
  ·rw[if_neg e];have e:n≠nrem:=by simpa using e
   have c:=st (by omega);by_cases h2:n > 1
   ·rw[if_pos h2];refine⟨g.lt hN _,g.lt hN _,?_⟩;dsimp only;by_cases c2:f (at' p 0) (at' p (n - 1))=true
    ·rw[if_pos c2];exact⟨g,a,by show n<=nrem;omega,u⟩
    ·rw[if_neg c2];have c2:f (at' p 0) (at' p (n - 1))=false:=by simpa using c2
     refine cL_ O hN (g.rev _ _) (by omega) hr fun i j hij hj=>?_;by_cases ej:j<n
     ·rw[cO_ (by rw[g.size];omega),cO_ (by rw[g.size];omega),if_pos (by omega),if_pos (by omega)];exact u _ _ (by omega) (by omega)
     ·have ej:j=n:=by omega
      subst ej;by_cases ei:i=j
      ·subst ei;exact O.rfl' _
      ·rw[cO_ (by rw[g.size];omega),cO_ (by rw[g.size];omega),if_pos (by omega),if_neg (by omega)];exact O.trans (O.trans (O.tot c) c2) (u 0 _ (by omega) (by omega))
   ·rw[if_neg h2];have e1:n=1:=by omega
    subst e1;refine cL_ O hN g (by omega) hr fun i j hij hj=>?_;by_cases ei:i=j
    ·subst ei;exact O.rfl' _
    ·have q1:i=0:=by omega
     have q2:j=1:=by omega
     subst q1;subst q2;exact O.tot c
theorem ds_(hN:0<N){p:Array Nat}{k:Nat}(g:Good N p)(u:Up f p k):∀(m l r:Nat),r - l<=m->l<=r->r<=k->(∀i,i<l->f (at' p k) (at' p i)=false)->(∀i,r<=i->i<k->f (at' p k) (at' p i)=true)->
  Ok f N (kas_place p k m l r) fun x=>x<=k/\(∀i,i<x->f (at' p k) (at' p i)=false)/\∀i,x<=i->i<k->f (at' p k) (at' p i)=true
 |0,l,r,hm,hl,hr,h1,h2=>by
  have e:l=r:=by omega
  subst e;exact⟨hr,h1,h2⟩
 |m+1,l,r,hm,hl,hr,h1,h2=>by
  unfold kas_place;by_cases e:l ≥ r
  ·rw[if_pos e];have e:l=r:=by omega
   subst e;exact⟨hr,h1,h2⟩
  ·rw[if_neg e];refine⟨g.lt hN _,g.lt hN _,?_⟩;dsimp only;by_cases c:f (at' p k) (at' p ((l+r) / 2))=true
   ·rw[if_pos c];refine ds_ hN g u m l _ (by omega) (by omega) (by omega) h1 fun i h3 h4=>?_;by_cases ei:f (at' p k) (at' p i)=true
    ·exact ei
    ·have ei:f (at' p k) (at' p i)=false:=by simpa using ei
     have:=O.trans (u _ i h3 h4) ei;rw[c] at this;cases this
   ·rw[if_neg c];have c:f (at' p k) (at' p ((l+r) / 2))=false:=by simpa using c
    exact ds_ hN g u m _ r (by omega) (by omega) hr (fun i h3=>O.trans (u i _ (by omega) (by omega)) c) h2
theorem ig_(hN:0<N):∀(m:Nat) (p:Array Nat) (k:Nat),Good N p->k+m=N->Up f p k->Ok f N (kas_bin m p k) fun r=>Good N r/\Up f r N
 |0,p,k,g,e,u=>by
  have e:k=N:=by omega
  subst e;exact⟨g,u⟩
 |m+1,p,k,g,e,u=>by
  unfold kas_bin;refine (ds_ O hN g u k 0 k (by omega) (by omega) (af' _) (fun i h=>absurd h (by omega)) fun i h1 h2=>absurd h2 (by omega)).bind fun l ⟨hl,h1,h2⟩=>?_;have hk:k<p.size:=by rw[g.size];omega
  refine ig_ hN m _ (k+1) (g.bub _ _) (by omega) fun i j hij hj=>?_;rw[il_ hk hl,il_ hk hl];by_cases ej:j=l
  ·rw[if_pos ej];by_cases ei:i=l
   ·rw[if_pos ei];exact O.rfl' _
   ·rw[if_neg ei,if_neg (by omega)];exact h1 i (by omega)
  ·rw[if_neg ej];by_cases ej2:l<j/\j<=k
   ·rw[if_pos ej2];by_cases ei:i=l
    ·rw[if_pos ei];exact O.tot (h2 (j - 1) (by omega) (by omega))
    ·rw[if_neg ei];by_cases ei2:l<i/\i<=k
     ·rw[if_pos ei2];exact u _ _ (by omega) (by omega)
     ·rw[if_neg ei2];exact u _ _ (by omega) (by omega)
   ·rw[if_neg ej2];rw[if_neg (show ¬i=l by omega),if_neg (show ¬(l<i/\i<=k) by omega)];exact u _ _ (by omega) (by omega)
theorem fS_(hN:0<N):Ok f N (kas_sort N) fun p=>Good N p/\Up f p N:=by
 unfold kas_sort;refine (hw_ O hN (p:=(List.range N).toArray) (Array.Perm.refl _) hN (af' _)).bind fun r ⟨g,h1,h2,u⟩=>?_;split
 ·rename_i c
  rw[show max r.1 1=r.1 by omega];exact ig_ O hN _ _ _ g (by omega) u
 ·rename_i c
  have e:r.1=N:=by omega
  exact⟨g,e▸u⟩
end
end EvS
namespace EvS
open PySem PySem.W PyProof.Rows
section
variable{prog:Program}{w:World}{A:Around}{E:Value->Shared->Prop}{s:Shared}
def Asks(prog:Program)(w:World)(A:Around)(f:Nat->Nat->Bool)(vs:List Value)(s:Shared):Prop:=
 ∃κ,(∀Q:SortKind->Shared->Prop,Q κ s->wpAny (model prog w) A (keyKind' vs.toArray) Q (fun _ _=>False) s)/\∀i j C,i<vs.length->j<vs.length->C (f i j) s->kas_ask prog w A κ vs i j C s
def cb'(a:Addr)(h h':Heap):Prop:=∀b o,b≠a->h.get? b=some o->h'.get? b=some o
def bI'(p:Array Nat)(vs:List Value):List Value:=p.toList.map fun i=>vs.getD i Value.none
theorem cF_(vs:List Value):bI' (List.range vs.length).toArray vs=vs:=by
 unfold bI';apply List.ext_getElem?;intro i;simp only[al'];by_cases h:i<vs.length
 ·simp[h]
 ·simp[Nat.le_of_not_lt h]
theorem hS_{a:Addr}{vs:List Value}{n:Nat}{f:Nat->Nat->Bool}{P:Fin->Shared->Prop}(O:Ord f)(ho:s.heap.get? a=some (seqObj "list" vs.toArray n))(h64:vs.length<64)
  (hask:2<=vs.length->∀h',cb' a s.heap h'->Asks prog w A f vs { s with heap:=h' })
  (h:∀(p:Array Nat) (h':Heap) (e:Nat),Good vs.length p->Up f p vs.length->h'.get? a=some (seqObj "list" (bI' p vs).toArray e)->cb' a s.heap h'->P (.done (.ret .none)) { s with heap:=h' }) :
  wpAny (model prog w) A (Builtin.«list.sort» ⟨[.ref a],[]⟩) P E s:=by
 have haz:a<s.heap.objs.size:=Heap.lt_size ho;obtain⟨e1,ho1⟩:∃e1,(s.heap.update a (Obj.mapSeq fun _=>(#[]:Array Value))).get? a=some (seqObj "list" #[] e1):=⟨_,get?_update_seq ho (fun _=>#[])⟩
 have l64:vs.length<=sizeLine:=by
  have:=sizeLine_eq;omega
 rw[list_sort_plain];refine wpAny_bind (listItems_at ho rfl (wpAny_bind (listUpdate_at ho rfl (wpAny_bind (seqEpoch_at ho1 rfl (wpAny_bind (wpAny_newTuple (wpAny_bind (wpAny_newList (wpAny_holding ?_) (aE' _))) l64)))) (by simpa using l64) (aE' _))))
 have keep:∀g:Array Value->Array Value,cb' a s.heap ((((s.heap.update a (Obj.mapSeq fun _=>(#[]:Array Value))).push (seqObj "tuple" vs.toArray 0)).push (seqObj "list" #[] 0)).update a (Obj.mapSeq g)):=fun g b o hb e=>by
  refine (Heap.get?_update_other _ _ (Ne.symm hb)).trans (Heap.get?_push_of_some _ (Heap.get?_push_of_some _ ?_));exact (Heap.get?_update_other _ _ (Ne.symm hb)).trans e
 have keep0:cb' a s.heap (((s.heap.update a (Obj.mapSeq fun _=>(#[]:Array Value))).push (seqObj "tuple" vs.toArray 0)).push (seqObj "list" #[] 0)):=fun b o hb e=>
  Heap.get?_push_of_some _ (Heap.get?_push_of_some _ ((Heap.get?_update_other _ _ (Ne.symm hb)).trans e))
 have hoB:(((s.heap.update a (Obj.mapSeq fun _=>(#[]:Array Value))).push (seqObj "tuple" vs.toArray 0)).push (seqObj "list" #[] 0)).get? a=some (seqObj "list" #[] e1):=Heap.get?_push_of_some _ (Heap.get?_push_of_some _ ho1);show wpAny (model prog w) A _ P E { s with heap:=((s.heap.update a (Obj.mapSeq fun _=>(#[]:Array Value))).push (seqObj "tuple" vs.toArray 0)).push (seqObj "list" #[] 0) };dsimp only;by_cases h2:vs.toArray.size<2
 ·rw[if_pos h2,if_pos h2];refine wpAny_bind (wpAny_pure ?_);rw[StateT.run_pure]
  have eout:((vs.toArray.zip vs.toArray).map fun x:Keyed=>x.2)=(bI' (List.range vs.length).toArray vs).toArray:=by
   rw[cF_];apply Array.ext';simp[List.map_snd_zip]
  refine wpAny_bind (wpAny_pure (wpAny_bind (seqEpoch_at hoB rfl (wpAny_bind (listUpdate_at hoB rfl ?_ (aE' _) ?_)))))
  ·simp only[bne_self_eq_false,aT',if_false];refine wpAny_pure (h (List.range vs.length).toArray _ _ (Array.Perm.refl _) (fun i j hij hj=>?_) ((get?_update_seq hoB _).trans (congrArg (fun z=>some (seqObj "list" z _)) eout)) (keep _))
   ·have e:i=j:=by
     simp only[ai'] at h2;omega
    subst e;exact O.rfl' _
  ·have e:((vs.toArray.zip vs.toArray).map fun x:Keyed=>x.2).size<=sizeLine+1:=by
    simp only[Array.size_map,Array.size_zip,ai'];omega
   exact e
 ·rw[if_neg h2,if_neg h2]
  have h2':2<=vs.length:=by
   simp only[ai'] at h2;omega
  obtain⟨κ,hk,hc⟩:=hask h2' _ keep0;refine wpAny_bind (wpAny_mono (hk (fun k s'=>k=κ/\s'=_) ⟨rfl,rfl⟩) (fun k s' hks=>?_) fun _ _ x=>x.elim);obtain⟨rfl,rfl⟩:=hks
  refine wpAny_bind (wpAny_mono (kat_run (ks:=vs) (vs:=vs) (G:=fun p s'=>s'={ s with heap:=((s.heap.update a (Obj.mapSeq fun _=>(#[]:Array Value))).push (seqObj "tuple" vs.toArray 0)).push (seqObj "list" #[] 0) }/\Good vs.length p/\Up f p vs.length)
   (Q:=fun st' s'=>∃p:Array Nat,arrOf st'=p.map (kas_item (vs.toArray.zip vs.toArray))/\failedOf st'=none/\s'={ s with heap:=((s.heap.update a (Obj.mapSeq fun _=>(#[]:Array Value))).push (seqObj "tuple" vs.toArray 0)).push (seqObj "list" #[] 0) }/\Good vs.length p/\Up f p vs.length)
   rfl h2' h64 (fun p st' s' _ q1 q2 q3=>⟨p,q1,q2,q3⟩) (Ok.wp hc (fun p q=>⟨rfl,q⟩) (fS_ O (by omega)))) ?_ fun _ _ x=>x)
  rintro⟨⟨⟩,st'⟩ s' ⟨p,har,hf,hs',g,u⟩;have hs':s'={ s with heap:=((s.heap.update a (Obj.mapSeq fun _=>(#[]:Array Value))).push (seqObj "tuple" vs.toArray 0)).push (seqObj "list" #[] 0) }:=hs';subst hs'
  have eout:((arrOf st').map fun x:Keyed=>x.2)=(bI' p vs).toArray:=by
   rw[har];apply Array.ext';unfold bI';simp only[Array.map_map,Array.toList_map,List.toList_toArray];refine aF' fun i _=>?_;show (kas_item (vs.toArray.zip vs.toArray) i).2=_;unfold kas_item;by_cases hi:i<vs.length
   ·simp[Array.getD,hi]
   ·simp[Array.getD,hi,Nat.le_of_not_lt hi]
  have esz:((arrOf st').map fun x:Keyed=>x.2).size=vs.length:=by
   rw[eout];unfold bI';simp only[ai',aa',aL'];exact g.size
  refine wpAny_bind (seqEpoch_at hoB rfl (wpAny_bind (listUpdate_at hoB rfl ?_ (aE' _) (by rw[esz];omega))));rw[hf];simp only[bne_self_eq_false,aT',if_false];exact wpAny_pure (h p _ _ g u ((get?_update_seq hoB _).trans (congrArg (fun z=>some (seqObj "list" z _)) eout)) (keep _))
theorem cT_{x:Value}{f:Nat->Nat->Bool}{Q:Value->Shared->Prop}(O:Ord f)
  (hcol:wpAny (model prog w) A.in1 (collect x) (fun vs s1=>vs.length<64/\(2<=vs.length->∀h':Heap,(∀b o,s1.heap.get? b=some o->h'.get? b=some o)->Asks prog w A.in1.in1 f vs { s1 with heap:=h' }) /\
   ∀(p:Array Nat) (h':Heap) (e:Nat),Good vs.length p->Up f p vs.length->h'.get? s1.heap.objs.size=some (seqObj "list" (bI' p vs).toArray e)->(∀b o,s1.heap.get? b=some o->h'.get? b=some o)->Q (.ref s1.heap.objs.size) { s1 with heap:=h' }) E s) :
  wpAny (model prog w) A (call (.builtin "sorted") [x]) Q E s:=by
 refine Calls.call_function_entry kind_sorted plain_sorted entry_sorted (args_sorted1 _) ?_;unfold Builtin.«sorted»;refine wpAny_bind (m:=checkCount "sorted" 1 1 _) (wpAny_pure (wpAny_bind (wpAny_mono hcol (fun vs s1 q=>?_) fun _ _ z=>z)));obtain⟨h64,hask,hQ⟩:=q;refine wpAny_bind (wpAny_newList ?_ (by have:=sizeLine_eq;omega));have hn:(s1.heap.push (seqObj "list" vs.toArray 0)).get? s1.heap.objs.size=some (seqObj "list" vs.toArray 0):=Heap.get?_push_size _ rfl
 have old:∀h',cb' s1.heap.objs.size (s1.heap.push (seqObj "list" vs.toArray 0)) h'->∀b o,s1.heap.get? b=some o->h'.get? b=some o:=fun h' k b o e=>
  k b o (av' (Heap.lt_size e)) (Heap.get?_push_of_some _ e)
 refine wpAny_bind (wpAny_holding (wpAny_call_entry slot_list_sort ⟨_,hn,rfl⟩ entry_list_sort (hS_ O hn h64 (fun h2 h' k=>hask h2 h' (old h' k)) fun p h' e g u q k=>⟨_,rfl,?_⟩) (args_list_sort _)));exact wpAny_pure ⟨_,rfl,hQ p h' e g u q (old h' k)⟩
end
end EvS
namespace L2
open PySem PySem.Spec PyProof.Rows PySem.W EvS
def kLt:Key->Key->Bool
 |.inl i,.inl j=>decide (i<j)
 |.inl _,.inr _=>true
 |.inr _,.inl _=>false
 |.inr x,.inr y=>decide (x.cps.toList<y.cps.toList)
def lexK:List Key->List Key->Bool
 |[],[]=>false
 |[],_::_=>true
 |_::_,[]=>false
 |a::r,b::q=>if a=b then lexK r q else kLt a b
theorem gC_:∀a:Key,kLt a a=false
 |.inl i=>by simp[kLt]
 |.inr x=>by simp[kLt,List.lt_irrefl]
theorem dI_:∀{a b:Key},kLt a b=true->kLt b a=false
 |.inl i,.inl j,h=>by
  simp only[kLt,decide_eq_true_eq,decide_eq_false_iff_not] at *;omega
 |.inl _,.inr _,_=>rfl
 |.inr _,.inl _,h=>by cases h
 |.inr x,.inr y,h=>by
  simp only[kLt,decide_eq_true_eq,decide_eq_false_iff_not] at *;exact fun q=>List.lt_irrefl _ (List.lt_trans h q)
theorem gj_:∀{a b:Key},kLt a b=false->kLt b a=false->a=b
 |.inl i,.inl j,h,h2=>by
  simp only[kLt,decide_eq_false_iff_not] at *;rw[show i=j by omega]
 |.inl _,.inr _,h,_=>by cases h
 |.inr _,.inl _,_,h=>by cases h
 |.inr x,.inr y,h,h2=>by
  simp only[kLt,decide_eq_false_iff_not] at *;rw[ext_toList (List.le_antisymm (List.not_lt.mp h2) (List.not_lt.mp h))]
theorem gw_:∀{a b c:Key},kLt a b=true->kLt b c=true->kLt a c=true
 |.inl i,.inl j,.inl k,h,h2=>by
  simp only[kLt,decide_eq_true_eq] at *;omega
 |.inl _,.inl _,.inr _,_,_=>rfl
 |.inl _,.inr _,.inr _,_,_=>rfl
 |.inl _,.inr _,.inl _,_,h=>by cases h
 |.inr _,.inl _,_,h,_=>by cases h
 |.inr _,.inr _,.inl _,_,h=>by cases h
 |.inr x,.inr y,.inr z,h,h2=>by
  simp only[kLt,decide_eq_true_eq] at *;exact List.lt_trans h h2
theorem bU_:∀a:List Key,lexK a a=false
 |[]=>rfl
 |a::r=>by
  unfold lexK;rw[if_pos rfl];exact bU_ r
theorem c3_:∀{a b:List Key},lexK a b=true->lexK b a=false
 |[],[],h=>by cases h
 |[],_::_,_=>rfl
 |_::_,[],h=>by cases h
 |a::r,b::q,h=>by
  unfold lexK at h ⊢;by_cases e:a=b
  ·rw[if_pos e] at h;rw[if_pos e.symm];exact c3_ h
  ·rw[if_neg e] at h;rw[if_neg (Ne.symm e)];exact dI_ h
theorem co_:∀{a b:List Key},lexK a b=false->lexK b a=false->a=b
 |[],[],_,_=>rfl
 |[],_::_,h,_=>by cases h
 |_::_,[],_,h=>by cases h
 |a::r,b::q,h,h2=>by
  unfold lexK at h h2;by_cases e:a=b
  ·rw[if_pos e] at h;rw[if_pos e.symm] at h2;rw[e,co_ h h2]
  ·rw[if_neg e] at h;rw[if_neg (Ne.symm e)] at h2;exact absurd (gj_ h h2) e
theorem ci_:∀{a b c:List Key},lexK a b=true->lexK b c=true->lexK a c=true
 |[],_,[],h,h2=>by
  rename_i b
  cases b with
  |nil=>cases h
  |cons _ _=>cases h2
 |[],_,_::_,_,_=>rfl
 |_::_,[],_,h,_=>by cases h
 |_::_,_::_,[],_,h=>by cases h
 |a::r,b::q,c::t,h,h2=>by
  unfold lexK at h h2 ⊢;by_cases e:a=b
  ·subst e;rw[if_pos rfl] at h;by_cases e2:a=c
   ·rw[if_pos e2] at h2 ⊢;exact ci_ h h2
   ·rw[if_neg e2] at h2 ⊢;exact h2
  ·rw[if_neg e] at h;by_cases e2:b=c
   ·subst e2;rw[if_neg e];exact h
   ·rw[if_neg e2] at h2;have h3:=gw_ h h2;rw[if_neg (fun q=>by rw[q,gC_] at h3;cases h3)];exact h3
theorem bB_{a b c:List Key}(h:lexK b a=false)(h2:lexK c b=false):lexK c a=false:=by
 cases e:lexK c a with
 |false=>rfl
 |true=>
  by_cases e1:lexK a b=true
  ·have:=ci_ e e1;rw[h2] at this;cases this
  ·have e1:lexK a b=false:=by simpa using e1
   have:=co_ e1 h;subst this;rw[h2] at e;cases e
def Asc(ks:List (List Key)):Prop:=ks.Pairwise fun a b=>lexK b a=false
theorem cW_:∀{a b:List (List Key)},a.Perm b->Asc a->Asc b->a=b
 |[],b,p,_,_=>by
  have:=p.length_eq;cases b with
  |nil=>rfl
  |cons _ _=>cases this
 |x::r,[],p,_,_=>by
  have:=p.length_eq;cases this
 |x::r,y::q,p,h1,h2=>by
  obtain⟨a1,a2⟩:=aO'.mp h1;obtain⟨b1,b2⟩:=aO'.mp h2
  have e:x=y:=by
   rcases ah'.mp (p.mem_iff.mp aj') with m|m
   ·exact m
   ·rcases ah'.mp (p.mem_iff.mpr aj') with m2|m2
    ·exact m2.symm
    ·exact co_ (b1 _ m) (a1 _ m2)
  subst e;rw[cW_ ((List.perm_cons _).mp p) a2 b2]
def sortKs(ks:List (List Key)):List (List Key):=ks.mergeSort fun a b=>!lexK b a
theorem al_(ks:List (List Key)):(sortKs ks).Perm ks:=List.mergeSort_perm _ _
theorem c4_(ks:List (List Key)):Asc (sortKs ks):=by
 have:=List.pairwise_mergeSort (le:=fun a b=>!lexK b a) (fun a b c h1 h2=>by
  simp only[Bool.not_eq_true'] at *;exact bB_ h1 h2) (fun a b=>by
  simp only[Bool.or_eq_true,Bool.not_eq_true'];by_cases e:lexK b a=true
  ·exact .inr (c3_ e)
  ·exact .inl (by simpa using e)) ks
 exact this.imp fun h=>by simpa using h
theorem cy_{ks ks':List (List Key)}(p:ks'.Perm ks)(h:Asc ks'):ks'=sortKs ks:=cW_ (p.trans (al_ ks).symm) h (c4_ ks)
theorem b9_{α:Type}{p:Array Nat}{n:Nat}(g:Good n p)(F:Nat->α):(p.toList.map F).Perm ((List.range n).map F):=by
 have e:p.toList.Perm (List.range n):=by
  have:=Array.perm_iff_toList_perm.mp g;simpa using this
 exact e.map F
theorem ep_{p:Array Nat}{ks:List (List Key)}{f:Nat->Nat->Bool}(hf:∀i j,i<ks.length->j<ks.length->f i j=lexK (ks.getD i []) (ks.getD j []))(g:Good ks.length p)(u:Up f p ks.length):Asc (p.toList.map fun i=>ks.getD i []):=by
 unfold Asc;rw[aH',List.pairwise_iff_getElem];intro i j hi hj hij;have hs:=g.size;rw[aL'] at hi hj;have hj':j<ks.length:=by omega
 have q:=u i j (Nat.le_of_lt hij) hj';have hN:0<ks.length:=by omega
 rw[hf _ _ (g.lt hN _) (g.lt hN _)] at q;have e1:at' p i=p.toList[i]:=by simp[at',Array.getD,hi]
 have e2:at' p j=p.toList[j]:=by simp[at',Array.getD,hj]
 rw[e1,e2] at q;exact q
theorem di_(ks:List (List Key)):Ord fun i j=>lexK (ks.getD i []) (ks.getD j []):=⟨fun _=>bU_ _,fun h h2=>bB_ h h2,fun h=>c3_ h⟩
theorem aZ_{α:Type}(d:α)(l:List α):((List.range l.length).map fun i=>l.getD i d)=l:=by
 apply List.ext_getElem?;intro i;simp only[al'];by_cases h:i<l.length
 ·simp[h]
 ·simp[Nat.le_of_not_lt h]
theorem dp_{ys:List V}{vs:List Value}(r:Vals ys vs){p:Array Nat}(g:Good vs.length p):Vals (p.toList.map fun i=>ys.getD i .non) (bI' p vs):=by
 unfold bI'
 have key:∀l:List Nat,(∀i∈l,i<vs.length)->Vals (l.map fun i=>ys.getD i .non) (l.map fun i=>vs.getD i Value.none):=fun l=>by
  induction l with
  |nil=>exact fun _=>.nil
  |cons i l ih=>
   intro h;refine .cons ?_ (ih fun j hj=>h j (ag' _ hj));have hi:=h i aj';have hy:i<ys.length:=by rw[r.length];exact hi
   obtain⟨u,hu,ru⟩:=r.get (ac' hy);have e1:ys.getD i .non=ys[i]:=by simp[hy]
   have e2:vs.getD i Value.none=u:=by simp[hu]
   show RelV (ys.getD i .non) (vs.getD i Value.none);rw[e1,e2];exact ru
 refine key p.toList fun i hi=>?_;have m:i∈(List.range vs.length).toArray:=g.mem_iff.mp (by simpa using hi);simpa using m
theorem gl_:∀{ss:List Str} {vs:List Value},Vals (ss.map V.str) vs->StrsAre vs ss
 |[],_,.nil=>.nil
 |x::r,_,.cons h t=>by
  obtain⟨tk,rfl⟩:=h;exact .cons x tk (gl_ t)
def sortS(ss:List Str):List Str:=(sortKs (ss.map fun x=>[Sum.inr x])).map fun k=>match k with
 |[.inr x]=>x
 |_=>⟨#[]⟩
def keyS(x:Str):List Key:=[Sum.inr x]
theorem gd_{prog:Program}{w:World}{A:Around}{s:Shared}{ss:List Str}{vs:List Value}(r:StrsAre vs ss)(h2:2<=vs.length):Asks prog w A (fun i j=>lexK ((ss.map keyS).getD i []) ((ss.map keyS).getD j [])) vs s:=by
 refine⟨oneType',fun Q q=>?_,fun i j C hi hj hC=>?_⟩
 ·match vs,h2 with
  |v₁::v₂::t,_=>
   rw[keyKind_strs r];exact wpAny_pure q
 ·unfold kas_ask;rw[keyLt'_oneType]
  have look:∀k,k<vs.length->∃x t,vs.getD k Value.none=.str x t/\(ss.map keyS).getD k []=[Sum.inr x]:=fun k hk=>by
   have e:=r.strs;obtain⟨x,t,q⟩:=r.all vs[k] (az' hk);refine⟨x,t,by simp[hk,q],?_⟩
   have hk':k<ss.length:=by
    rw[<- e,aa'];exact hk
   have e2:ss[k]=x:=by
    have e3:(vs.map strOf)[k]? = ss[k]?:=by rw[e]
    rw[al',ac' hk,ac' hk',q] at e3;exact (Option.some.inj e3).symm
   simp[hk',e2,keyS]
  obtain⟨x,t,e1,e2⟩:=look i hi;obtain⟨y,u,e3,e4⟩:=look j hj;rw[e1,e3];dsimp only at hC;rw[e2,e4] at hC;refine oneLt_str ?_;unfold lexK at hC;by_cases e:x=y
  ·subst e;rw[if_pos rfl] at hC;have:decide (x.cps.toList<x.cps.toList)=false:=by simp[List.lt_irrefl]
   rw[this];exact hC
  ·rw[if_neg (fun q=>e (Sum.inr.inj q))] at hC;exact hC
def isS:Key->Bool
 |.inl _=>false
 |.inr _=>true
theorem gK_{prog:Program}{w:World}{A:Around}{E:Value->Shared->Prop}{s:Shared}{c:Bool}{a b:Key}{p q:Value}{Q:Bool->Shared->Prop}(ra:RelV (kV a) p)(rb:RelV (kV b) q)(hk:isS a=isS b)(h:Q (kLt a b) s) :
  wpAny (model prog w) A (oneLt' c p q) Q E s:=by
 cases a with
 |inl i=>
  cases b with
  |inr y=>cases hk
  |inl j=>
   obtain⟨t,rfl⟩:=ra;obtain⟨u,rfl⟩:=rb;cases c with
   |true=>exact oneLt_int h
   |false=>exact kat_one _ _ (lt_int (show PySem.W.BoolBack Q (.bool _) s from h))
 |inr x=>
  cases b with
  |inl j=>cases hk
  |inr y=>
   obtain⟨t,rfl⟩:=ra;obtain⟨u,rfl⟩:=rb;cases c with
   |true=>exact oneLt_str h
   |false=>exact kat_one _ _ (PyProof.Rows.lt_str (show PySem.W.BoolBack Q (.bool _) s from h))
theorem g4_{a b:Key}(hk:isS a=isS b):eqV (kV a) (kV b)=decide (a=b):=by
 cases a with
 |inl i=>
  cases b with
  |inr y=>cases hk
  |inl j=>
   show (i == j)=_;by_cases e:i=j
   ·subst e;simp
   ·rw[decide_eq_false (fun q=>e (Sum.inl.inj q))];simpa using e
 |inr x=>
  cases b with
  |inl j=>cases hk
  |inr y=>
   show (x == y)=_;by_cases e:x=y
   ·subst e;simp
   ·rw[decide_eq_false (fun q=>e (Sum.inr.inj q))];simpa using e
theorem eA_(a:Key):bY' (kV a)=true:=by cases a<;>rfl
theorem cv_{prog:Program}{w:World}{A:Around}{s:Shared}{Q:Bool->Shared->Prop}:∀{k1 k2:List Key} {us vs:List Value} (i:Nat),Vals (k1.map kV) us->Vals (k2.map kV) vs->k1.map isS=k2.map isS->Q (lexK k1 k2) s->KatLex prog w A true false Q (us.zip vs) i s
 |[],[],_,_,i,.nil,.nil,_,h=>h
 |[],_::_,_,_,_,_,_,h,_=>by cases h
 |_::_,[],_,_,_,_,_,h,_=>by cases h
 |a::k1,b::k2,u::us,v::vs,i,.cons ra r1,.cons rb r2,hk,h=>by
  obtain⟨e1,e2⟩:=List.cons.inj hk;refine kat_cons ?_;refine gh_ ra rb (eA_ a) (eA_ b) prog w _ _ ?_;rw[g4_ e1];unfold lexK at h;by_cases e:a=b
  ·rw[if_pos e] at h;rw[decide_eq_true e];exact kat_yes (cv_ (i+1) r1 r2 e2 h)
  ·rw[if_neg e] at h;rw[decide_eq_false e];exact kat_no (gK_ ra rb e1 h)
def a5'(K:F__)(H:Hp):List V->List (List Key)->Prop:=Paired fun y k=>∃a,y=V.ref a/\H a=some (.tup (k.map kV))
def cz'(ks:List (List Key))(sh:List Bool):Prop:=sh≠[]/\∀k∈ks,k.map isS=sh
theorem dH_{X:Cx}{pins:List (Addr × Obj)}{σ:St}{H:Hp}{s s':Shared}{A:Around}{ys:List V}{ks:List (List Key)}{sh:List Bool}{vs:List Value}(I:Inv X pins σ H s)(r:Vals ys vs)(t:a5' X.K H ys ks)(al:cz' ks sh)(h2:2<=vs.length)
  (kp:∀b o,s.heap.get? b=some o->s'.heap.get? b=some o):Asks X.prog X.w A (fun i j=>lexK (ks.getD i []) (ks.getD j [])) vs s':=by
 have look:∀k,k<vs.length->∃a its,vs.getD k Value.none=.ref a/\Vals ((ks.getD k []).map kV) its/\IsTup s'.heap a its.toArray/\ks.getD k []∈ks:=fun k hk=>by
  have hy:k<ys.length:=by rw[r.length];exact hk
  have hk2:k<ks.length:=by rw[<- Paired.length t];exact hy
  obtain⟨u,hu,ru⟩:=r.get (ac' hy)
  have gen:∀{ys:List V} {ks:List (List Key)} (k:Nat) (hy:k<ys.length) (hk2:k<ks.length),a5' X.K H ys ks->∃a,ys[k]=V.ref a/\H a=some (.tup (ks[k].map kV)):=fun {ys ks} k hy hk2 t=>by
   induction t generalizing k with
   |nil=>exact absurd hy (by simp)
   |cons h t ih=>
    cases k with
    |zero=>exact h
    |succ k=>exact ih k (by simpa using hy) (by simpa using hk2)
  obtain⟨a,e,sq⟩:=gen k hy hk2 t;obtain⟨its,ri,ti,_⟩:=I.tuple (SqT.of sq);rw[e] at ru;cases ru;have e2:ks.getD k []=ks[k]:=by simp[hk2]
  refine⟨a,its,by simp[hu],by rw[e2];exact ri,ti.keeps kp,?_⟩;rw[e2];exact az' hk2
 obtain⟨hne,hal⟩:=al
 obtain⟨c,sh',rfl⟩:∃c sh',sh=c::sh':=by
  cases sh with
  |nil=>exact absurd rfl hne
  |cons c sh'=>exact⟨c,sh',rfl⟩
 refine⟨tuples' true,fun Q q=>?_,fun i j C hi hj hC=>?_⟩
 ·have firsts:∀l:List Value,(∀v∈l,∃(a:Addr) (its:List Value) (k:List Key),v=.ref a/\Vals (k.map kV) its/\IsTup s'.heap a its.toArray/\k.map isS=c::sh')->∃fs,KatTups s'.heap l fs/\fs.length=l.length/\∀v∈fs,Looks (model X.prog X.w) s'.heap (typeOf v) (.type (if c then "str" else "int")):=fun l=>by
   induction l with
   |nil=>exact fun _=>⟨[],.nil,rfl,fun _ h=>nomatch h⟩
   |cons v l ih=>
    intro h;obtain⟨fs,h1,h2,h3⟩:=ih fun v hv=>h v (ag' _ hv);obtain⟨a,its,k,rfl,rv,⟨o,ho,hc,n,hd⟩,hk⟩:=h v aj'
    match k,its,rv,hk with
    |k0::k,u::its,.cons r0 _,hk=>
     refine⟨u::fs,.cons ho hc hd (by simp) h1,by simp[h2],fun v hv=>?_⟩;rcases ah'.mp hv with e|hv
     ·subst e;have e0:=(List.cons.inj hk).1;cases k0 with
      |inl i=>
       obtain⟨t,rfl⟩:=r0;rw[<- e0];exact .now
      |inr x=>
       obtain⟨t,rfl⟩:=r0;rw[<- e0];exact .now
     ·exact h3 v hv
  obtain⟨fs,h1,h3,h4⟩:=firsts vs fun v hv=>by
   obtain⟨k,hk,rfl⟩:=aD' hv;obtain⟨a,its,e,rv,ti,m⟩:=look k hk;refine⟨a,its,_,?_,rv,ti,hal _ m⟩;rw[<- e];simp[hk]
  refine kat_kind h1 (by omega) h4 (by cases c<;>decide) ?_
  have e:((Value.type (if c then "str" else "int")) != Value.type "tuple")=true:=by cases c<;>decide
  rw[e];exact q
 ·unfold kas_ask;obtain⟨a,its,e1,r1,⟨o,ho,_,n,hd⟩,m1⟩:=look i hi;obtain⟨b,its2,e2,r2,⟨o2,ho2,_,n2,hd2⟩,m2⟩:=look j hj;rw[e1,e2];refine kat_lt ho hd ho2 hd2 ?_;have l1:=r1.length;have l2:=r2.length;have l3:=congrArg List.length ((hal _ m1).trans (hal _ m2).symm);simp only[aa'] at l1 l2 l3;rw[show decide (its.toArray.size<its2.toArray.size)=false by simp;omega];exact cv_ 0 r1 r2 ((hal _ m1).trans (hal _ m2).symm) hC
end L2
namespace EvD
open PySem PySem.W PyProof.Rows
section
variable{prog:Program}{w:World}{A:Around}{E:Value->Shared->Prop}{s:Shared}
def Raw(h:Heap)(d:Addr)(es:Array DictEntry)(ep:Nat):Prop:=∃o,h.get? d=some o/\o.ExactDict/\o.data=.dict es ep
theorem Raw.stay{h h':Heap}{d:Addr}{es:Array DictEntry}{ep:Nat}(x:Raw h d es ep)(k:∀o,h.get? d=some o->h'.get? d=some o):Raw h' d es ep:=let ⟨o,e,r⟩:=x;⟨o,k o e,r⟩
theorem Raw.ty{d:Addr}{es:Array DictEntry}{ep:Nat}(x:Raw s.heap d es ep):s.TypeIs (.ref d) "dict":=let ⟨o,e,c,_⟩:=x;⟨o,e,c.1⟩
theorem hk_{d:Addr}{es:Array DictEntry}{ep:Nat}{Q:Value->Shared->Prop}(hd:(d == sysModules)=false)(x:Raw s.heap d es ep)
  (q:Q (.ref s.heap.objs.size) { s with heap:=s.heap.push { cls:=.type "dict_keyiterator",data:=.fields #[.ref d,.int 0 0,.int es.size 0,.int ep 0] } }) :
  wpAny (model prog w) A (pyIter (.ref d)) Q E s:=by
 obtain⟨o,ho,hc,hdat⟩:=id x;refine wpAny_pyIter_slot x.ty F.slot_dict_iter (wpAny_call_entry F.slot_dict_iter x.ty F.entry_dict_iter ?_ (F.args_dict_iter_1 _));unfold Builtin.«dict.__iter__» Builtin.Dict.dictSlotNone;refine wpAny_bind (wpAny_bind (wpAny_notOrdered_dict x.ty (show wpAny _ _ (pure (Value.ref d)) _ _ s from wpAny_pure (show wpAny _ _ (Builtin.Dict.showsAll d >>= _) _ _ s from ?_))));unfold Builtin.Dict.showsAll;rw[if_neg (by rw[hd];decide)];refine wpAny_bind (wpAny_pure (wpAny_bind (wpAny_dictEntries ho hdat (wpAny_bind (wpAny_dictEpoch ho hdat (wpAny_bind (wpAny_newObj_type (wpAny_pure ⟨_,rfl,"dict_keyiterator",_,⟨_,Heap.get?_push_size _ rfl,rfl⟩,F.slot_dict_keyiterator_next.lookup,?_⟩))))))));exact q
theorem hY_{it d:Addr}{i ep:Nat}{es:Array DictEntry}{Q:Option Value->Shared->Prop}(hit:s.heap.IsKeyIter it d i es.size ep)(x:Raw s.heap d es ep)(hi:i<es.size)
  (q:∀h',h'.IsKeyIter it d (i+1) es.size ep->Heap.SameBut it s.heap h'->Q (some es[i].key) { s with heap:=h' }):wpAny (model prog w) A (pyNext (.ref it)) Q E s:=by
 obtain⟨o,ho,hc,hd⟩:=id hit;obtain⟨od,hod,hcd,hdd⟩:=id x;unfold pyNext;refine wpAny_bind (wpAny_attempt (wpAny_callSpecial?_slot (name:=Str.ofString "__next__") hit.typeIs F.slot_dict_keyiterator_next (wpAny_call_entry F.slot_dict_keyiterator_next hit.typeIs F.entry_dict_keyiterator_next ?_ (F.args_dict_keyiterator_next_1 _))));refine wpAny_bind (wpAny_pure (wpAny_bind (wpAny_bind ?_)))
 first|refine wpAny_bind (wpAny_typeNameOfWhole_keyiter hit.typeIs (wpAny_pure (wpAny_bind (wpAny_fieldsOf ho hd ?_))))|refine wpAny_bind (wpAny_typeNameOf_keyiter hit.typeIs (wpAny_pure (wpAny_bind (wpAny_fieldsOf ho hd ?_))))
 simp only[show Builtin.Dict_items.ownsTuple "dict_keyiterator"=false by decide,aT',if_false];refine (show wpAny _ _ (if (Value.ref d == Value.none)=true then _ else _) _ _ s from ?_);rw[if_neg (fun z=>by cases z)];refine wpAny_bind (wpAny_pure (wpAny_bind (wpAny_dictEntries hod hdd ?_)));rw[if_neg (by simp)];refine wpAny_bind (wpAny_pure (wpAny_bind (wpAny_dictEpoch hod hdd ?_)));rw[if_neg (by simp)];refine wpAny_pure ?_;simp only[show ¬((i:Int)<0) from by omega,if_false,Int.toNat_natCast,Array.getElem?_eq_getElem hi];refine wpAny_bind ?_
 first|refine wpAny_bind (wpAny_typeNameOfWhole_keyiter hit.typeIs (wpAny_pure (wpAny_bind (wpAny_isOneOf_keyiter hit.typeIs ?_))))|refine wpAny_bind (wpAny_typeNameOf_keyiter hit.typeIs (wpAny_pure (wpAny_bind (wpAny_isOneOf_keyiter hit.typeIs ?_))))
 refine (show wpAny _ _ (setField (.ref it) 1 (rawInt ((i:Int)+1)) >>= _) _ _ s from wpAny_bind (wpAny_setField ho hd (by simp) ?_))
 have turned:(s.heap.update it (Obj.mapFields (·.setIfInBounds 1 (rawInt ((i:Int)+1))))).IsKeyIter it d (i+1) es.size ep:=
  ⟨_,Heap.get?_update_self _ ho (Obj.isFreed_of_fields (Obj.data_mapFields hd _)),(Obj.cls_mapFields ..).trans hc,by rw[Obj.data_mapFields hd];simp[rawInt]⟩
 refine wpAny_bind (wpAny_holding (wpAny_bind (wpAny_isOneOf_keyiter (s:={ s with heap:=s.heap.update it (Obj.mapFields (·.setIfInBounds 1 (rawInt ((i:Int)+1)))) }) turned.typeIs ?_)));exact (show wpAny _ _ (pure es[i].key) _ _ _ from wpAny_pure (wpAny_pure ⟨_,rfl,wpAny_pure (q _ turned (Heap.SameBut.update ..))⟩))
theorem hN_{it d:Addr}{ep:Nat}{es:Array DictEntry}{Q:Option Value->Shared->Prop}(hh:A.handled=none)(hit:s.heap.IsKeyIter it d es.size es.size ep)(x:Raw s.heap d es ep)
  (q:∀h',Heap.ExtBut it s.heap h'->Q none { s with heap:=h' }):wpAny (model prog w) A (pyNext (.ref it)) Q E s:=by
 obtain⟨o,ho,hc,hd⟩:=id hit;obtain⟨od,hod,hcd,hdd⟩:=id x;unfold pyNext;refine wpAny_bind (wpAny_attempt (wpAny_callSpecial?_slot (name:=Str.ofString "__next__") hit.typeIs F.slot_dict_keyiterator_next (wpAny_call_entry F.slot_dict_keyiterator_next hit.typeIs F.entry_dict_keyiterator_next ?_ (F.args_dict_keyiterator_next_1 _))));refine wpAny_bind (wpAny_pure (wpAny_bind (wpAny_bind ?_)))
 first|refine wpAny_bind (wpAny_typeNameOfWhole_keyiter hit.typeIs (wpAny_pure (wpAny_bind (wpAny_fieldsOf ho hd ?_))))|refine wpAny_bind (wpAny_typeNameOf_keyiter hit.typeIs (wpAny_pure (wpAny_bind (wpAny_fieldsOf ho hd ?_))))
 simp only[show Builtin.Dict_items.ownsTuple "dict_keyiterator"=false by decide,aT',if_false];refine (show wpAny _ _ (if (Value.ref d == Value.none)=true then _ else _) _ _ s from ?_);rw[if_neg (fun z=>by cases z)];refine wpAny_bind (wpAny_pure (wpAny_bind (wpAny_dictEntries hod hdd ?_)));rw[if_neg (by simp)];refine wpAny_bind (wpAny_pure (wpAny_bind (wpAny_dictEpoch hod hdd ?_)));rw[if_neg (by simp)];refine wpAny_pure ?_;simp only[show ¬((es.size:Int)<0) from by omega,if_false,Int.toNat_natCast,Array.getElem?_eq_none (af' _)];refine wpAny_bind ?_
 first|refine wpAny_bind (wpAny_typeNameOfWhole_keyiter hit.typeIs (wpAny_pure ?g))|refine wpAny_bind (wpAny_typeNameOf_keyiter hit.typeIs (wpAny_pure ?g))
 refine (show wpAny _ _ (setField (.ref it) 0 .none >>= _) _ _ s from wpAny_bind (wpAny_setField ho hd (by simp) (show wpAny _ _ (newExc (.type "StopIteration") [] >>= _) _ _ _ from wpAny_bind ?_)));simp only[newExc,newTuple];refine wpAny_bind (wpAny_newObj_type (wpAny_bind (m:=firstArgMember _ _) (wpAny_of_eq (a:=Value.none) (by first|rfl|(simp only[firstArgMember];rfl)) (wpAny_newObj_type ?_ (by size_fits)))) (by size_fits));simp only[raiseNew];refine wpAny_bind (wpAny_handled ?_);rw[show A.in1.handled=none from hh];refine wpAny_bind (wpAny_pure (wpAny_throw ?_));exact wpAny_bind (wpAny_isInstance (T:="StopIteration") (b:=true) ⟨_,Heap.get?_push_size _ rfl,rfl⟩ isSubtype_stop (wpAny_pure (q _ (((Heap.SameBut.update ..).extBut.push _).push _))))
theorem gF_(hh:A.handled=none)(I d:Addr)(hne:d≠I)(es:Array DictEntry)(ep:Nat) :
  Walks prog w A I [I,d] [I] es.size (fun i v=>∃h:i<es.size,v=es[i].key) (fun i h=>h.IsKeyIter I d i es.size ep/\Raw h d es ep) where
 sub:=fun b hb=>by simp only[aB'] at hb;simp[hb]
 frame:=fun _ _ _ st k=>⟨st.1.at fun o e=>k I (by simp) o e,st.2.stay fun o e=>k d (by simp) o e⟩
 item:=fun i s Q E hi st hQ=>hY_ st.1 st.2 hi fun h' hit' hs'=>hQ _ h' s.toks ⟨hi,rfl⟩ ⟨hit',st.2.stay fun o e=>hs'.extBut d o hne e⟩ fun b o hb e=>hs'.extBut b o (fun h=>hb (by simp[h])) e
 done:=fun s Q E st hQ=>hN_ hh st.1 st.2 fun h' he'=>hQ h' s.toks fun b o hb e=>he' b o (fun h=>hb (by simp[h])) e
 self:=fun _ _ _ _ st hQ=>wpAny_pyIter_keyiter st.1 hQ
theorem jc_{d:Addr}{es:Array DictEntry}{ep:Nat}(lo:(d == sysModules)=false):KdlSrc prog w "dict" d d es.size (fun i v=>∃h:i<es.size,v=es[i].key) (fun h=>Raw h d es ep) where
 type:=fun s x=>x.ty
 there:=fun h x=>let ⟨o,e,_⟩:=x;⟨Heap.lt_size e,Heap.lt_size e⟩
 keep:=fun h h' x k=>x.stay fun o e=>k d (.inl rfl) o e
 notList:=by decide
 notTuple:=by decide
 hint:=fun _ _ s _ x q=>kdl_hint_dict x.ty q
 iter:=fun A s hh x=>⟨_,_,fun E Q q=>hk_ lo x q,gF_ hh _ d (let ⟨o,e,_⟩:=x;av' (Heap.lt_size e)) es ep,⟨⟨_,Heap.get?_push_size _ rfl,rfl,rfl⟩,x.stay fun o e=>Heap.get?_push_of_some _ e⟩⟩
end
end EvD
namespace EvD
open PySem PySem.W PyProof.Rows
theorem cR_:typeLookup (.type "list") "keys"=pure none:=by rw[typeLookup_type,builtinLookup_eq_fast];kernel_rfl
theorem fz_{prog:Program}{w:World}{A:Around}{s:Shared}{a:Addr}{xs:Array Value}{k:Nat}{tk:Tok}{R:Result->Shared->Prop}(hx:s.heap.get? a=some (seqObj "list" xs k))(h:raisesAttr (.ref a) "keys" A R s) :
  codeAny (model prog w) A (.call (.builtin "list.__getattribute__") ⟨[.ref a,.str "keys" tk],[]⟩) R s:=by
 refine codeAny_call_builtin F.slot_list_getattribute.plain am_entry_list_getattribute (F.slot_list_getattribute.check _ _ _ _ _ _ _ _ ⟨_,hx,rfl⟩ (F.args_list_getattribute_2 _ _) ?_);exact meets_getattribute_miss_list a xs k #[] "keys" tk cR_ (by decide) (by size_fits) prog w A R s ⟨hx,h⟩
theorem noKeys{prog:Program}{w:World}{A:Around}{E:Value->Shared->Prop}{s:Shared}{a:Addr}{xs:Array Value}{k:Nat}{Q:Option Value->Shared->Prop}(hx:s.heap.get? a=some (seqObj "list" xs k))(hA:A.handled=none)
  (h:∀h' tk,(∀b o,s.heap.get? b=some o->h'.get? b=some o)->Q none { s with heap:=h',toks:=tk }):wpAny (model prog w) A (getAttr? (.ref a) "keys") Q E s:=by
 obtain⟨hp,g,d,tk,os⟩:=s;have ty:∀tk',(⟨hp,g,d,tk',os⟩:Shared).TypeIs (.ref a) "list":=fun _=>⟨_,hx,rfl⟩;have f1:=sub_AttributeError;have f2:=F.slot_list_getattribute.lookup;have f3:=F.slot_list_getattribute.bind (.ref a);have f4:=am_list_getattr_none;unfold getAttr? getAttrBy? getAttrBy
 repeat (any_goals (first|assumption|exact ty _|wp_step))
 refine fz_ hx ⟨hA,fun h' tk' e hx'=>?_⟩;obtain⟨t',u',he⟩:=hx'.there;show wpAny _ _ (getattributeRaised _ _ _ _ _ _ _) _ _ _;unfold getattributeRaised
 repeat (any_goals (first|assumption|wp_step))
 exact h _ _ hx'.keeps
end EvD
namespace EvD
open PySem PySem.W PyProof.Rows
theorem dA_:entryFor table "dict.update.loop"=some Builtin.«dict.update.loop»:=entryFor_of_tree (by kernel_rfl)
theorem bQ_:plainId "dict.update.loop"=true:=by decide +kernel
theorem ij_(d it:Addr)(i:Int)(tk:Tok):Builtin.«dict.update.loop» ⟨[.ref d,.ref it,.int i tk,.none],[]⟩=(do
  let r <- pyNext (.ref it)
  match r with
  |none=>do Builtin.Dict.addKeywords d [];ret .none
  |some item=>do
   holding [item] (do
    let pair <- (Builtin.Dict.pairItems item).tryCatch fun e=>do
     if !(<- isInstance e (.type "TypeError")) then throw e
     rule "dict.update.element-no-sequence"
     raiseError "TypeError" s!"cannot convert dictionary update sequence element #{i} to a sequence"
    match pair with
    |[k,v]=>holding [k,v] (dictSet d k v)
    |l=>do
     rule "dict.update.element-length"
     raiseError "ValueError" s!"dictionary update sequence element #{i} has length {l.length}; 2 is required")
   again (.builtin "dict.update.loop" ⟨[.ref d,.ref it,rawInt (i+1),.none],[]⟩)):=by
 unfold Builtin.«dict.update.loop»;refine congrArg (fun f=>pyNext (.ref it) >>= f) (funext fun r=>?_);cases r<;>rfl
section
variable{prog:Program}{w:World}{K:Type}[DecidableEq K]{knd:PySem.KeyKind prog w K}{A:Around}
def cU'(knd:PySem.KeyKind prog w K)(h:Heap):List Value->List (K × Value)->Prop:=Paired fun v p=>∃a key,v=.ref a/\IsTup h a #[key,p.2]/\knd.is p.1 key=true
def mergeP(kvs:List (K × Value))(ps:List (K × Value)):List (K × Value):=ps.foldl (fun acc p=>stored acc p.1 p.2) kvs
theorem fs_(kvs:List (K × Value))(k:K)(v:Value):(stored kvs k v).length<=kvs.length+1:=by
 unfold stored;split
 ·simp
 ·simp
theorem cr_{h:Heap}{b it l:Addr}{i:Nat}{ys:Array Value}(t:IsTup h b ys)(q:h.IsListIter it l i):b≠it:=fun z=>by
 obtain⟨o,ho,hc,_⟩:=t;obtain⟨o2,ho2,hc2,_⟩:=q;subst z;rw[ho] at ho2;cases ho2;rw[hc] at hc2;exact absurd hc2 (by decide)
theorem ek_{h:Heap}{b d:Addr}{ys:Array Value}{kvs:List (K × Value)}(t:IsTup h b ys)(q:h.DictOf knd d kvs):b≠d:=fun z=>by
 obtain⟨o,ho,hc,_⟩:=t;obtain⟨o2,es,ep,ho2,hc2,_⟩:=q;subst z;rw[ho] at ho2;cases ho2;have hc3:=hc2.1;rw[hc] at hc3;exact absurd hc3 (by decide)
theorem e6_{h h':Heap}{d:Addr}{kvs:List (K × Value)}(q:h.DictOf knd d kvs)(k:∀o,h.get? d=some o->h'.get? d=some o):h'.DictOf knd d kvs:=by
 obtain⟨o,es,ep,ho,r⟩:=q;exact⟨o,es,ep,k _ ho,r⟩
theorem hc_{it l d a:Addr}{i:Nat}{its:List Value}{key x:Value}{k:K}{kvs:List (K × Value)}{s:Shared}{R:Result->Shared->Prop}{tk:Tok}(hdi:d≠it)(hi:its.toArray[i]? = some (.ref a))(ht:IsTup s.heap a #[key,x])(hk:knd.is k key=true)
  (hit:s.heap.IsListIter it l i) (hl:s.heap.IsList l its.toArray) (hd:s.heap.DictOf knd d kvs) (hz:kvs.length<=1000)
  (hR:∀h2,h2.DictOf knd d (stored kvs k x)->(∀b o,b≠d->b≠it->s.heap.get? b=some o->h2.get? b=some o)->h2.IsListIter it l (i+1)->codeAny (model prog w) A (.builtin "dict.update.loop" ⟨[.ref d,.ref it,rawInt ((i:Int)+1),.none],[]⟩) R { s with heap:=h2,toks:=s.toks+1 }) :
  codeAny (model prog w) A (.builtin "dict.update.loop" ⟨[.ref d,.ref it,.int i tk,.none],[]⟩) R s:=by
 refine codeAny_builtin dA_ ?_;rw[Around.under_plainId bQ_ _,ij_];refine wpAny_bind (wpAny_pyNext_list_item hit hl hi fun h1 hit1 hs1=>?_);obtain⟨ot,hot,hct,nt,hdt⟩:=id ht;have hot1:h1.get? a=some ot:=hs1.extBut _ _ (cr_ ht hit) hot;refine wpAny_bind (wpAny_holding (wpAny_bind (wpAny_tryCatch ?_)));unfold Builtin.Dict.pairItems;refine wpAny_bind (wpAny_typeOf (T:="tuple") ⟨ot,hot1,hct⟩ ?_);rw[if_pos (by decide)];unfold seqItems?;refine wpAny_bind (wpAny_bind (wpAny_load hot1 ?_));rw[hdt];refine wpAny_pure (wpAny_pure ?_);refine (show wpAny _ _ (holding [key,x] (dictSet d key x)) _ _ _ from wpAny_holding (wpAny_dictSet_pairs hk (e6_ hd fun o q=>hs1.extBut _ _ hdi q) (fun h2 hd2 hs2=>?_) (by have:=sizeLine_eq;omega)));exact wpAny_pure ⟨plainId_quiet bQ_ _,hR h2 hd2 (fun b o h3 h4 q=>hs2.extBut _ _ h3 (hs1.extBut _ _ h4 q)) (hit1.extBut hs2.extBut (Ne.symm hdi))⟩
theorem js_{it l d:Addr}{i:Nat}{its:List Value}{kvs:List (K × Value)}{s:Shared}{R:Result->Shared->Prop}{tk:Tok}(hdi:d≠it)(hh:A.handled=none)(hi:its.toArray[i]? = none)
  (hit:s.heap.IsListIter it l i) (hl:s.heap.IsList l its.toArray) (hd:s.heap.DictOf knd d kvs)
  (hR:∀h',h'.DictOf knd d kvs->(∀b o,b≠it->s.heap.get? b=some o->h'.get? b=some o)->R (.ok (.ret .none)) { s with heap:=h' }) :
  codeAny (model prog w) A (.builtin "dict.update.loop" ⟨[.ref d,.ref it,.int i tk,.none],[]⟩) R s:=by
 refine codeAny_builtin dA_ ?_;rw[Around.under_plainId bQ_ _,ij_];refine wpAny_bind (wpAny_pyNext_list_end hh hit hl hi fun h' he=>?_);exact wpAny_bind (m:=Builtin.Dict.addKeywords d []) (wpAny_pure (wpAny_pure (hR h' (e6_ hd fun o q=>he _ _ hdi q) fun b o hb q=>he b o hb q)))
theorem jZ_{it l d:Addr}(hil:l≠it)(hdi:d≠it)(hdl:d≠l)(hh:A.handled=none){its:List Value}(rest:List Value):∀(ps:List (K × Value)) (i:Nat) (kvs:List (K × Value)) (s:Shared) (R:Result->Shared->Prop) (tk:Tok),its.drop i=rest->cU' knd s.heap rest ps->
  s.heap.IsListIter it l i->s.heap.IsList l its.toArray->s.heap.DictOf knd d kvs->kvs.length+ps.length<=1000->
  (∀h' tk',h'.DictOf knd d (mergeP kvs ps)->(∀b o,b≠d->b≠it->s.heap.get? b=some o->h'.get? b=some o)->R (.ok (.ret .none)) { s with heap:=h',toks:=tk' })->
  codeAny (model prog w) A (.builtin "dict.update.loop" ⟨[.ref d,.ref it,.int i tk,.none],[]⟩) R s:=by
 induction rest with
 |nil=>
  intro ps i kvs s R tk e hp hit hl hd hz hR;cases hp
  have hi:its.toArray[i]? = none:=by
   have:=congrArg List.length e;simp only[List.length_drop,a1'] at this;simp;omega
  exact js_ hdi hh hi hit hl hd fun h' hd' kp=>hR h' s.toks hd' fun b o _ hb q=>kp b o hb q
 |cons v rest ih=>
  intro ps i kvs s R tk e hp hit hl hd hz hR;cases hp with
  |@cons _ p _ ps h0 hr=>
  obtain⟨a,key,hv,ht,hk⟩:=h0;obtain⟨k,x⟩:=p;subst hv
  have hi:its.toArray[i]? = some (.ref a):=by
   have q:(its.drop i)[0]? = some (.ref a):=by rw[e];rfl
   rw[List.getElem?_drop] at q;simpa using q
  have e':its.drop (i+1)=rest:=by
   rw[<- List.drop_drop,e];rfl
  simp only[aC'] at hz;refine hc_ hdi hi ht hk hit hl hd (by omega) fun h2 hd2 kp hit2=>?_;have c1:((i:Int)+1)=((i+1:Nat):Int):=by omega
  rw[c1];refine ih ps (i+1) (stored kvs k x) _ R 0 e' (L2.Paired.mapP hr fun v p ⟨b,ky,e1,t1,k1⟩=>⟨b,ky,e1,?_,k1⟩) hit2 (hl.at fun o q=>kp _ _ (Ne.symm hdl) hil q) hd2 (by have:=fs_ kvs k x;omega) fun h' tk' hd' kp'=>hR h' tk' hd' fun b o h3 h4 q=>kp' b o h3 h4 (kp b o h3 h4 q);obtain⟨o,ho,r⟩:=id t1;exact⟨o,kp _ _ (ek_ t1 hd) (cr_ t1 hit) ho,r⟩
theorem dW_{E:Value->Shared->Prop}{s:Shared}{l:Addr}{its:List Value}{n:Nat}{ps:List (K × Value)}{Q:Value->Shared->Prop}(hh:A.handled=none)(ho:s.heap.get? l=some (seqObj "list" its.toArray n))(hp:cU' knd s.heap its ps)(hz:ps.length<=1000)
  (h:∀h' tk',h'.DictOf knd s.heap.objs.size (mergeP [] ps)->(∀b o,s.heap.get? b=some o->h'.get? b=some o)->Q (.ref s.heap.objs.size) { s with heap:=h',toks:=tk' }) :
  wpAny (model prog w) A (call (.type "dict") [.ref l]) Q E s:=by
 refine callType_codes (Q₁:=fun obj s₁=>obj=.ref s.heap.objs.size/\s₁={ s with heap:=s.heap.push { cls:=.type "dict",data:=.dict #[] } }) F.kt_called_dict (F.kt_typeCall_dict_1 _) F.entry_dict_init (kt_code_dict_new _ ⟨rfl,rfl⟩) ?_;rintro obj s₁ ⟨rfl,rfl⟩;have hnew:(s.heap.push { cls:=.type "dict",data:=.dict #[] }).DictOf knd s.heap.objs.size []:=Heap.DictOf.new s.heap;have hl1:(s.heap.push { cls:=.type "dict",data:=.dict #[] }).get? l=some (seqObj "list" its.toArray n):=Heap.get?_push_of_some _ ho;refine⟨hnew.typeIs,F.args_dict_init_2 _ _,?_⟩;unfold Builtin.«dict.__init__» Builtin.Dict.selfAndRest;refine wpAny_bind (wpAny_bind (wpAny_notOrdered_dict hnew.typeIs ?_));refine (show wpAny _ _ (pure (s.heap.objs.size,[Value.ref l])) _ _ _ from wpAny_pure ?_);refine (show wpAny _ _ (Builtin.Dict.updateFrom "dict.__init__" s.heap.objs.size (.ref l) [] .none) _ _ _ from ?_);unfold Builtin.Dict.updateFrom;refine wpAny_bind (wpAny_typeOf (T:="list") ⟨_,hl1,rfl⟩ ?_);rw[if_pos (by decide)];refine wpAny_bind (noKeys hl1 hh fun h2 tk2 k2=>?_);simp only[Option.isNone_none,if_true];have hl2:h2.get? l=some (seqObj "list" its.toArray n):=k2 _ _ hl1;refine wpAny_bind (wpAny_rule (wpAny_bind (wpAny_pyIter_list ⟨_,hl2,rfl,_,rfl⟩ ?_)));refine wpAny_pure ⟨plainId_quiet bQ_ _,?_⟩;have all:∀{b o},s.heap.get? b=some o->(h2.push { cls:=.type "list_iterator",data:=.fields #[.ref l,.int 0 0] }).get? b=some o:=fun q=>Heap.get?_push_of_some _ (k2 _ _ (Heap.get?_push_of_some _ q))
 have hd2:h2.DictOf knd s.heap.objs.size []:=by
  obtain⟨o,es,ep,ho,r⟩:=hnew;exact⟨o,es,ep,k2 _ _ ho,r⟩
 have sz2:s.heap.objs.size<h2.objs.size:=by
  obtain⟨o,es,ep,ho,r⟩:=hd2;exact Heap.lt_size ho
 have lz:l<s.heap.objs.size:=Heap.lt_size ho
 refine jZ_ (A:=A.in1) (knd:=knd) (its:=its) (it:=h2.objs.size) (l:=l) (d:=s.heap.objs.size) (av' (Nat.lt_trans lz sz2)) (av' sz2) (Nat.ne_of_gt lz) hh its ps 0 [] _ _ 0 rfl (L2.Paired.mapP hp fun v p ⟨b,ky,e1,t1,k1⟩=>⟨b,ky,e1,t1.keeps fun b o q=>all q,k1⟩)
  ⟨_,Heap.get?_push_size _ rfl,rfl,rfl⟩ ⟨_,Heap.get?_push_of_some _ hl2,rfl,_,rfl⟩ (by
   obtain⟨o,es,ep,ho,r⟩:=hd2;exact⟨o,es,ep,Heap.get?_push_of_some _ ho,r⟩) (by simpa using hz) fun h' tk' hd' kp=>⟨rfl,h h' tk' hd' fun b o q=>?_⟩
 have bl:b<s.heap.objs.size:=Heap.lt_size q;exact kp b o (av' bl) (av' (Nat.lt_trans bl sz2)) (all q)
end
end EvD
namespace L2
open PySem PySem.Spec PyProof.Rows PySem.W EvS EvD
theorem a5'.same{K:F__}{H H':Hp}{ys:List V}{ks:List (List Key)}(t:a5' K H ys ks)(e:Same H H'):a5' K H' ys ks:=Paired.mapP t fun y k ⟨a,z,q⟩=>⟨a,z,e _ _ q⟩
theorem Same.new{H:Hp}{l:Addr}{o:HO}(h:H l=none):Same H (upd H l o):=fun b u e=>by rw[a4_ (a6_ e h)];exact e
section
variable{X:Cx}{pins:List (Addr × Obj)}{σ:St}{H H':Hp}{s:Shared}{h':Heap}{t':Nat}
theorem Inv.many(I:Inv X pins σ H s)(k:∀b o,s.heap.get? b=some o->h'.get? b=some o)(hold:Same H H')(hnew:∀b,H b=none->b<s.heap.objs.size->H' b=none)
  (hob:∀b o,H' b=some o->H b=none->∃xs its,o=.tup xs/\xs.length<=sizeLine/\Vals xs its/\IsTup h' b its.toArray/\∃o,h'.get? b=some o/\o.dict=none):Inv X pins σ H' { s with heap:=h',toks:=t' }:=by
 refine I.un ⟨fun b o q _ _ _=>k b o q,fun b o q _ _ _=>⟨o.slots,k b o q⟩,fun b o q n _=>hnew b n (Heap.lt_size q),fun b o q _=>⟨o,k b o q⟩,fun b xs q=>hold b _ q,fun b o u q=>hold b _ q,fun b ps q=>⟨#[],by rw[Array.append_empty];exact hold b _ q⟩⟩ fun b o q=>?_;cases e:H b with
 |some u=>
  have e2:=hold b u e;rw[q] at e2;cases e2;exact (I.hok b o e).stay (fun c v _ z=>k c v z) (fun c z=>hold c _ z) fun c xs z=>hold c _ z
 |none=>
  obtain⟨xs,its,rfl,z,r,t⟩:=hob b o q e;exact⟨z,its,r,t⟩
end
section
variable{X:Cx}{pins:List (Addr × Obj)}{σ:St}{H:Hp}{s:Shared}{A:Around}{E:Value->Shared->Prop}
theorem d7_{p:Addr}{ys:List V}{R:List Value->Shared->Prop}(I:Inv X pins σ H s)(h:SqL X.K H p ys)(hz:ys.length<=100000)(q:∀vs s1,Inv X pins σ H s1->Vals ys vs->R vs s1):wpAny (model X.prog X.w) A (collect (.ref p)) R E s:=by
 obtain⟨its,r,pl,_⟩:=I.list h;have hl:=r.length;refine collect_list pl.isList (q its _ ?_ r) (by have:=sizeLine_eq;omega);refine I.kept (t':=s.toks) fun b u e=>?_;have lt:b<s.heap.objs.size:=Heap.lt_size e;rw[Heap.get?_update_ne _ _ _ _ (av' lt)];exact Heap.get?_push_of_some _ e
theorem c1_{P:Nat->Value->Prop}{acc:Array Value}{ys:List V}(h:ItemsOf P acc ys.length)(hp:∀(j:Nat) v,P j v->∀y,ys[j]? = some y->RelV y v):Vals ys acc.toList:=by
 have gen:∀(ys:List V) (vs:List Value),ys.length=vs.length->(∀(j:Nat) y v,ys[j]? = some y->vs[j]? = some v->RelV y v)->Vals ys vs:=fun ys=>by
  induction ys with
  |nil=>
   intro vs hl _;cases vs with
   |nil=>exact .nil
   |cons _ _=>cases hl
  |cons y ys ih=>
   intro vs hl h;cases vs with
   |nil=>cases hl
   |cons v vs=>exact .cons (h 0 y v rfl rfl) (ih vs (by simpa using hl) fun j y v a b=>h (j+1) y v (by simpa using a) (by simpa using b))
 refine gen ys acc.toList (by rw[aL'];exact h.1.symm) fun j y v a b=>hp j v (h.2 j v ?_) y a;rw[<- Array.getElem?_toList];exact b
theorem ih_{d:Addr}{kvs:List (Key × V)}(I:Inv X pins σ H s)(h:Rd H d (.dK kvs)):∃(P:Nat->Value->Prop) (OK:Heap->Prop),KdlSrc X.prog X.w "dict" d d (kvs.map fun kv=>kV kv.1).length P OK/\OK s.heap/\∀(j:Nat) v,P j v->∀y,(kvs.map fun kv=>kV kv.1)[j]? = some y->RelV y v:=by
 obtain⟨z,hd,vs,rel,dd⟩:=cG_ I.hok h;obtain⟨ep,dat⟩:=dd.dictAt;have hl:=rel.length;refine⟨fun i v=>∃k x,vs[i]? = some (k,x)/\(a7' X.prog X.w).is k v=true,fun h=>h.DictAt (a7' X.prog X.w) d vs ep,(by rw[aa',hl];exact kdl_dict (knd:=a7' X.prog X.w) (kvs:=vs) (ep:=ep) hd),dat,fun j v ⟨k,x,e,hk⟩ y hy=>?_⟩;rw[al'] at hy;have ek:kvs.map (·.1)=vs.map (·.1):=rel.keys;have e2:(kvs.map (·.1))[j]? = (vs.map (·.1))[j]?:=by rw[ek]
 rw[al',al',e] at e2;cases e3:kvs[j]? with
 |none=>rw[e3] at e2;cases e2
 |some kv=>
  rw[e3] at e2 hy;have e4:kv.1=k:=Option.some.inj e2;have e5:kV kv.1=y:=Option.some.inj hy;rw[<- e5,e4];have hk:ch' k v=true:=hk;rcases ay_ hk with⟨i,t,rfl,rfl⟩|⟨x,t,rfl,rfl⟩
  ·exact⟨t,rfl⟩
  ·exact⟨t,rfl⟩
theorem if_{d:Addr}{kvs:List (Key × V)}{R:List Value->Shared->Prop}(hh:A.handled=none)(I:Inv X pins σ H s)(h:Rd H d (.dK kvs))(q:∀vs s1,Inv X pins σ H s1->Vals (kvs.map fun kv=>kV kv.1) vs->R vs s1):wpAny (model X.prog X.w) A (collect (.ref d)) R E s:=by
 obtain⟨P,OK,S,ok,hp⟩:=ih_ I h;refine kdu_collect S hh ok ?_ fun h' tk acc k a=>q _ _ (I.kept k) (c1_ a hp);rw[aa'];exact (cG_ I.hok h).1
theorem kh_{d:Addr}{kvs:List (List Key × V)}(I:Inv X pins σ H s)(h:Rd H d (.dT kvs)):∃(ys:List V) (P:Nat->Value->Prop) (OK:Heap->Prop),a5' X.K H ys (kvs.map (·.1))/\ys.length<=sizeLine/\KdlSrc X.prog X.w "dict" d d ys.length P OK/\OK s.heap/\∀(j:Nat) v,P j v->∀y,ys[j]? = some y->RelV y v:=by
 obtain⟨z,hd,xs,rel,o,es,ep,ho,hc,hdat,hes,nd⟩:=h.ok I.hok
 have l1:es.size=xs.length:=by
  have:=congrArg List.length hes;simpa using this
 have l2:=Paired.length rel;refine⟨xs.map fun x=>V.ref x.2.1,fun i v=>∃h:i<es.size,v=es[i].key,fun h=>Raw h d es ep,?_,by rw[aa'];omega,(by rw[aa',<- l1];exact jc_ (es:=es) (ep:=ep) hd),⟨o,ho,hc,hdat⟩,fun j v ⟨hj,e⟩ y hy=>?_⟩
 ·have gen:∀{kvs:List (List Key × V)} {xs:List (List Key × Addr × Value)},KT H kvs xs->a5' X.K H (xs.map fun x=>V.ref x.2.1) (kvs.map (·.1)):=fun {kvs xs} r=>by
   induction r with
   |nil=>exact .nil
   |cons h _ ih=>exact .cons ⟨_,rfl,h.2.1⟩ ih
  exact gen rel
 ·rw[al'] at hy;have hx:j<xs.length:=by omega
  rw[ac' hx] at hy;have e1:V.ref xs[j].2.1=y:=Option.some.inj hy
  have e2:es[j]=entryOfKey (tupleKind (a7' X.prog X.w)) xs[j]:=by
   have e3:es.toList[j]? = (xs.map (entryOfKey (tupleKind (a7' X.prog X.w))))[j]?:=by rw[hes]
   rw[al',ac' hx,Array.getElem?_toList,Array.getElem?_eq_getElem hj] at e3;exact Option.some.inj e3
  rw[<- e1,e,e2];rfl
theorem kg_{d:Addr}{kvs:List (List Key × V)}{R:List Value->Shared->Prop}(hh:A.handled=none)(I:Inv X pins σ H s)(h:Rd H d (.dT kvs))(q:∀ys vs s1,Inv X pins σ H s1->Vals ys vs->a5' X.K H ys (kvs.map (·.1))->R vs s1):wpAny (model X.prog X.w) A (collect (.ref d)) R E s:=by
 obtain⟨ys,P,OK,t,z,S,ok,hp⟩:=kh_ I h;exact kdu_collect S hh ok z fun h' tk acc k a=>q ys _ _ (I.kept k) (c1_ a hp) t
def bn'(v d:Addr):HO:=.ext fun h=>h.IsItemsView v d
def be'(K:F__)(H:Hp):List V->List (Key × V)->Prop:=Paired fun y p=>∃a,y=V.ref a/\H a=some (.tup [kV p.1,p.2])
theorem fR_{v d:Addr}{kvs:List (Key × V)}{R:List Value->Shared->Prop}(hh:A.handled=none)(I:Inv X pins σ H s)(hv:H v=some (bn' v d))(h:Rd H d (.dK kvs))(q:∀H1 ys vs s1,Inv X pins σ H1 s1->Same H H1->Vals ys vs->be' X.K H1 ys kvs->R vs s1) :
  wpAny (model X.prog X.w) A (collect (.ref v)) R E s:=by
 obtain⟨z,hd,vs,rel,dd⟩:=cG_ I.hok h;obtain⟨ep,dat⟩:=dd.dictAt;obtain⟨iv,_,_⟩:=I.hok v _ hv;have hl:=rel.length;refine kdx_collect (knd:=a7' X.prog X.w) (kvs:=vs) (ep:=ep) hh iv dat (by omega) fun h' tk as k la G=>?_;have up:∀b,b∈as->s.heap.objs.size<b:=G.above
 have at1:∀(j:Nat) b p,as[j]? = some b->kvs[j]? = some p->∃its,Vals [kV p.1,p.2] its/\IsTup h' b its.toArray/\∃o,h'.get? b=some o/\o.dict=none:=fun j b p hj hp=>by
  obtain⟨key,kk,x,e1,e2,e3⟩:=G.pairs j b hj
  have gen:∀{kvs:List (Key × V)} {vs:List (Key × Value)},KV kvs vs->∀(j:Nat),vs[j]? = some (kk,x)->kvs[j]? = some p->p.1=kk/\RelV p.2 x:=fun {kvs vs} r=>by
   induction r with
   |nil=>intro j e;simp at e
   |@cons p' q _ _ h _ ih=>
    intro j e e';cases j with
    |zero=>
     have e:q=(kk,x):=by simpa using e
     have e':p'=p:=by simpa using e'
     subst e';rw[e] at h;exact h
    |succ j=>exact ih j (by simpa using e) (by simpa using e')
  obtain⟨g1,g2⟩:=gen rel j e1 hp;refine⟨[key,x],.cons ?_ (.cons g2 .nil),⟨_,e3,rfl,_,rfl⟩,_,e3,rfl⟩;rw[g1];have e2:ch' kk key=true:=e2;rcases ay_ e2 with⟨i,t,rfl,rfl⟩|⟨x,t,rfl,rfl⟩
  ·exact⟨t,rfl⟩
  ·exact⟨t,rfl⟩
 have look:∀{as:List Addr} {kvs:List (Key × V)},as.Pairwise (· < ·)->∀(j:Nat) b p,as[j]? = some b->kvs[j]? = some p->(as.zip kvs).lookup b=some p:=fun {as}=>by
  induction as with
  |nil=>intro kvs _ j b p e;simp at e
  |cons a as ih=>
   intro kvs pw j b p e e';cases kvs with
   |nil=>simp at e'
   |cons q kvs=>
    obtain⟨p1,p2⟩:=aO'.mp pw;show ((a,q)::as.zip kvs).lookup b=some p;cases j with
    |zero=>
     have e:a=b:=by simpa using e
     have e':q=p:=by simpa using e'
     subst e;subst e';rw[List.lookup_cons_self]
    |succ j=>
     have e:as[j]? = some b:=by simpa using e
     have e':kvs[j]? = some p:=by simpa using e'
     have lt:=p1 b (ae' e);rw[aP',show (b == a)=false by simp only[beq_eq_false_iff_ne];exact Nat.ne_of_gt lt];exact ih p2 j b p e e'
 have lk:as.length=kvs.length:=by omega
 let H1:Hp:=fun b=>if b∈as then ((as.zip kvs).lookup b).map fun p=>HO.tup [kV p.1,p.2] else H b
 have h1in:∀(j:Nat) b p,as[j]? = some b->kvs[j]? = some p->H1 b=some (.tup [kV p.1,p.2]):=fun j b p e e'=>by
  show (if b∈as then _ else _)=_;rw[if_pos (ae' e),look G.rise j b p e e'];rfl
 have h1out:∀b,b∉as->H1 b=H b:=fun b hb=>if_neg hb;have old:∀b,b<s.heap.objs.size->b∉as:=fun b hb m=>absurd (up b m) (by omega);refine q H1 (as.map V.ref) _ _ (I.many (t':=tk) k (fun b o e=>by rw[h1out b (old b (I.hok.lt e))];exact e) (fun b e hb=>by rw[h1out b (old b hb)];exact e) fun b o e e0=>?_) (fun b o e=>by rw[h1out b (old b (I.hok.lt e))];exact e) ?_ ?_
 ·by_cases m:b∈as
  ·obtain⟨j,hj⟩:=List.mem_iff_getElem?.mp m
   have jl:j<kvs.length:=by
    have:=(ab'.mp hj).1;omega
   have e':=h1in j b kvs[j] hj (ac' jl);rw[e] at e';cases e';obtain⟨its,r,t⟩:=at1 j b _ hj (ac' jl);exact⟨_,its,rfl,by show 2<=sizeLine;decide,r,t⟩
  ·rw[h1out b m,e0] at e;cases e
 ·have gen:∀as:List Addr,Vals (as.map V.ref) (as.map Value.ref):=fun as=>by
   induction as with
   |nil=>exact .nil
   |cons a as ih=>exact .cons rfl ih
  exact gen as
 ·have gen:∀(as':List Addr) (kvs':List (Key × V)),as'.length=kvs'.length->(∀(j:Nat) b p,as'[j]? = some b->kvs'[j]? = some p->H1 b=some (.tup [kV p.1,p.2]))->be' X.K H1 (as'.map V.ref) kvs':=fun as'=>by
   induction as' with
   |nil=>
    intro kvs' hl _;cases kvs' with
    |nil=>exact .nil
    |cons _ _=>cases hl
   |cons a as' ih=>
    intro kvs' hl h;cases kvs' with
    |nil=>cases hl
    |cons p kvs'=>exact .cons ⟨a,rfl,h 0 a p rfl rfl⟩ (ih kvs' (by simpa using hl) fun j b p e e'=>h (j+1) b p (by simpa using e) (by simpa using e'))
  exact gen as kvs lk h1in
end
end L2
namespace L2
open PySem PySem.Spec PyProof.Rows PySem.W EvS EvD
theorem hV_{a b:List Str}(h:a.map keyS=b.map keyS):a=b:=by
 induction a generalizing b with
 |nil=>
  cases b with
  |nil=>rfl
  |cons _ _=>cases h
 |cons x a ih=>
  cases b with
  |nil=>cases h
  |cons y b=>
   obtain⟨h1,h2⟩:=List.cons.inj h;have h1:[(Sum.inr x:Key)]=[Sum.inr y]:=h1;cases h1;rw[ih h2]
theorem c2_(ss:List Str):(sortS ss).map keyS=sortKs (ss.map keyS):=by
 have all:∀k∈sortKs (ss.map keyS),∃x,k=keyS x:=fun k hk=>by
  obtain⟨x,_,e⟩:=ad'.mp ((al_ _).mem_iff.mp hk);exact⟨x,e.symm⟩
 have gen:∀l:List (List Key),(∀k∈l,∃x,k=keyS x)->(l.map fun k=>match k with | [.inr x]=>x|_=>(⟨#[]⟩:Str)).map keyS=l:=fun l=>by
  induction l with
  |nil=>exact fun _=>rfl
  |cons k l ih=>
   intro h;obtain⟨x,rfl⟩:=h k aj';rw[ar',ar',ih fun k hk=>h k (ag' _ hk)];rfl
 exact gen _ all
theorem ap_(ss:List Str):(sortS ss).Perm ss:=by
 have p:((sortS ss).map keyS).Perm (ss.map keyS):=by rw[c2_];exact al_ _
 have back:∀l:List Str,(l.map keyS).map (fun k=>match k with | [.inr x]=>x|_=>(⟨#[]⟩:Str))=l:=fun l=>by
  rw[ao']
  induction l with
  |nil=>rfl
  |cons x l ih=>rw[ar',ih];rfl
 have q:=p.map (fun k=>match k with | [.inr x]=>x|_=>(⟨#[]⟩:Str));rwa [back,back] at q
section
variable{X:Cx}{pins:List (Addr × Obj)}{σ:St}{H:Hp}{s:Shared}
theorem cj_{u:Value}{ss:List Str}{Q:VK}(h64:ss.length<64)(hcol:wpAny (model X.prog X.w) X.A.in1 (collect u) (fun vs s1=>∃H1,Inv X pins σ H1 s1/\Vals (ss.map V.str) vs/\∀l,H1 l=none->Q (.ref l) (upd H1 l (.lst ((sortS ss).map V.str)))) X.xe s) :
  wpAny (model X.prog X.w) X.A (call (.builtin "sorted") [u]) (EP X pins σ Q) X.xe s:=by
 refine cT_ (di_ (ss.map keyS)) (thn hcol fun vs s1 ⟨H1,I1,r,q⟩=>?_);have hl:vs.length=ss.length:=by rw[<- r.length,aa']
 refine⟨by omega,fun h2 h' _=>gd_ (gl_ r) h2,fun p h' e g up hD kp=>?_⟩;have g':Good (ss.map keyS).length p:=by rw[aa',<- hl];exact g
 have asc:=ep_ (ks:=ss.map keyS) (fun i j _ _=>rfl) g' (by rw[aa',<- hl];exact up)
 have perm:(p.toList.map fun i=>(ss.map keyS).getD i []).Perm (ss.map keyS):=by
  have:=b9_ g' fun i=>(ss.map keyS).getD i [];rwa [aZ_] at this
 have es:=cy_ perm asc
 have inr:∀i∈p.toList,i<ss.length:=fun i hi=>by
  have m:i∈(List.range vs.length).toArray:=g.mem_iff.mp (by simpa using hi);rw[hl] at m;simpa using m
 have e1:(p.toList.map fun i=>ss.getD i ⟨#[]⟩)=sortS ss:=by
  refine hV_ ?_;rw[c2_,<- es,ao'];refine aF' fun i hi=>?_;have:=inr i hi;simp[this]
 have rv:=dp_ r g
 have e2:(p.toList.map fun i=>(ss.map V.str).getD i .non)=(sortS ss).map V.str:=by
  rw[<- e1,ao'];refine aF' fun i hi=>?_;have:=inr i hi;simp[this]
 rw[e2] at rv;refine⟨.ref s1.heap.objs.size,_,I1.laid (t':=s1.toks) kp (af' _) (show bh' X.prog X.w _ h' _ (.lst ((sortS ss).map V.str)) from ⟨?_,bI' p vs,e,rv,hD⟩),rfl,q _ (I1.hok.fresh (af' _))⟩;rw[aa',(ap_ ss).length_eq];have:=sizeLine_eq;omega
theorem hi_{K:F__}{H:Hp}{ys:List V}{ks:List (List Key)}(t:a5' K H ys ks):∀l:List Nat,(∀i∈l,i<ys.length)->a5' K H (l.map fun i=>ys.getD i .non) (l.map fun i=>ks.getD i []):=fun l=>by
 induction l with
 |nil=>exact fun _=>.nil
 |cons i l ih=>
  intro h;refine .cons ?_ (ih fun j hj=>h j (ag' _ hj));have hi:=h i aj'
  have gen:∀{ys:List V} {ks:List (List Key)} (i:Nat),i<ys.length->a5' K H ys ks->∃a,ys.getD i .non=V.ref a/\H a=some (.tup ((ks.getD i []).map kV)):=fun {ys ks} i hy t=>by
   induction t generalizing i with
   |nil=>exact absurd hy (by simp)
   |cons h t ih=>
    cases i with
    |zero=>exact h
    |succ i=>exact ih i (by simpa using hy)
  exact gen i hi t
theorem bu_{u:Value}{ks:List (List Key)}{sh:List Bool}{Q:VK}(h64:ks.length<64)(al:cz' ks sh)
  (hcol:wpAny (model X.prog X.w) X.A.in1 (collect u) (fun vs s1=>∃H1 ys,Inv X pins σ H1 s1/\Vals ys vs/\a5' X.K H1 ys ks/\∀l zs,H1 l=none->a5' X.K H1 zs (sortKs ks)->zs.Perm ys->Q (.ref l) (upd H1 l (.lst zs))) X.xe s) :
  wpAny (model X.prog X.w) X.A (call (.builtin "sorted") [u]) (EP X pins σ Q) X.xe s:=by
 refine cT_ (di_ ks) (thn hcol fun vs s1 ⟨H1,ys,I1,r,t,q⟩=>?_);have l1:=r.length;have l2:=Paired.length t;have hl:vs.length=ks.length:=by omega
 refine⟨by omega,fun h2 h' k=>dH_ I1 r t al h2 k,fun p h' e g up hD kp=>?_⟩;have g':Good ks.length p:=by rw[<- hl];exact g
 have asc:=ep_ (ks:=ks) (fun i j _ _=>rfl) g' (by rw[<- hl];exact up)
 have perm:(p.toList.map fun i=>ks.getD i []).Perm ks:=by
  have:=b9_ g' fun i=>ks.getD i [];rwa [aZ_] at this
 have es:=cy_ perm asc
 have inr:∀i∈p.toList,i<ys.length:=fun i hi=>by
  have m:i∈(List.range vs.length).toArray:=g.mem_iff.mp (by simpa using hi);rw[<- l1] at m;simpa using m
 have tz:=hi_ t p.toList inr;rw[es] at tz;have rv:=dp_ r g
 have pz:(p.toList.map fun i=>ys.getD i .non).Perm ys:=by
  have:=b9_ (n:=ys.length) (by rw[l1];exact g) fun i=>ys.getD i .non;rwa [aZ_] at this
 refine⟨.ref s1.heap.objs.size,_,I1.laid (t':=s1.toks) kp (af' _) (show bh' X.prog X.w _ h' _ (.lst (p.toList.map fun i=>ys.getD i .non)) from ⟨?_,bI' p vs,e,rv,hD⟩),rfl,q _ _ (I1.hok.fresh (af' _)) tz pz⟩;rw[pz.length_eq];have:=sizeLine_eq;omega
end
section
variable{X:Cx}
def rSortS(K:F__):List V->Hp->VK->Prop:=fun xs H Q=>∃p ss,xs=[.ref p]/\SqL K H p (ss.map V.str)/\ss.length<64/\∀l,H l=none->Q (.ref l) (upd H l (.lst ((sortS ss).map V.str)))
theorem fd_:br' X (.builtin "sorted") (rSortS X.K):=by
 intro pins s σ H xs us Q I r h;obtain⟨p,ss,rfl,hp,h64,q⟩:=h;obtain⟨u,rfl,ru⟩:=vals1 r;cases ru;exact cj_ h64 (d7_ I hp (by rw[aa'];omega) fun vs s1 I1 r1=>⟨H,I1,r1,q⟩)
def rSortT(K:F__):List V->Hp->VK->Prop:=fun xs H Q=>∃p ys ks sh,xs=[.ref p]/\SqL K H p ys/\a5' K H ys ks/\cz' ks sh/\ks.length<64/\∀l zs,H l=none->a5' K H zs (sortKs ks)->zs.Perm ys->Q (.ref l) (upd H l (.lst zs))
theorem fm_:br' X (.builtin "sorted") (rSortT X.K):=by
 intro pins s σ H xs us Q I r h;obtain⟨p,ys,ks,sh,rfl,hp,t,al,h64,q⟩:=h;obtain⟨u,rfl,ru⟩:=vals1 r;cases ru;have l:=Paired.length t;exact bu_ h64 al (d7_ I hp (by omega) fun vs s1 I1 r1=>⟨H,ys,I1,r1,t,q⟩)
def rSortDT(K:F__):List V->Hp->VK->Prop:=fun xs H Q=>∃d kvs sh,xs=[.ref d]/\H d=some (.dT kvs)/\cz' (kvs.map (·.1)) sh/\kvs.length<64/\∀l zs,H l=none->a5' K H zs (sortKs (kvs.map (·.1)))->Q (.ref l) (upd H l (.lst zs))
theorem ei_(hc:X.calm=true):br' X (.builtin "sorted") (rSortDT X.K):=by
 intro pins s σ H xs us Q I r h;obtain⟨d,kvs,sh,rfl,hd,al,h64,q⟩:=h;obtain⟨u,rfl,ru⟩:=vals1 r;cases ru;exact bu_ (by rw[aa'];exact h64) al (kg_ (I.ok.hd hc) I (.inl hd) fun ys vs s1 I1 r1 t=>⟨H,ys,I1,r1,t,fun l zs n t' _=>q l zs n t'⟩)
def rSortDS:List V->Hp->VK->Prop:=fun xs H Q=>∃d kvs ss,xs=[.ref d]/\H d=some (.dK kvs)/\kvs.map (·.1)=ss.map Sum.inr/\ss.length<64/\∀l,H l=none->Q (.ref l) (upd H l (.lst ((sortS ss).map V.str)))
theorem ee_(hc:X.calm=true):br' X (.builtin "sorted") rSortDS:=by
 intro pins s σ H xs us Q I r h;obtain⟨d,kvs,ss,rfl,hd,ek,h64,q⟩:=h;obtain⟨u,rfl,ru⟩:=vals1 r;cases ru;refine cj_ h64 (if_ (I.ok.hd hc) I (.inl hd) fun vs s1 I1 r1=>⟨H,I1,?_,q⟩)
 have e:(kvs.map fun kv=>kV kv.1)=ss.map V.str:=by
  rw[show (kvs.map fun kv=>kV kv.1)=(kvs.map (·.1)).map kV by rw[ao'];rfl,ek,ao'];rfl
 rwa [e] at r1
def rSortI(K:F__):List V->Hp->VK->Prop:=fun xs H Q=>∃(v d:Addr) (kvs:List (Key × V)) (ks:List (Key × Key)) (sh:List Bool),xs=[.ref v]/\H v=some (bn' v d)/\H d=some (.dK kvs)/\kvs=ks.map (fun k:Key × Key=>(k.1,kV k.2))/\cz' (ks.map fun k=>[k.1,k.2]) sh/\ks.length<64 /\
 ∀l H1 zs,Same H H1->H1 l=none->a5' K H1 zs (sortKs (ks.map fun k=>[k.1,k.2]))->Q (.ref l) (upd H1 l (.lst zs))
theorem fx_(hc:X.calm=true):br' X (.builtin "sorted") (rSortI X.K):=by
 intro pins s σ H xs us Q I r h;obtain⟨v,d,kvs,ks,sh,rfl,hv,hd,ek,al,h64,q⟩:=h;obtain⟨u,rfl,ru⟩:=vals1 r;cases ru;refine bu_ (by rw[aa'];exact h64) al (fR_ (I.ok.hd hc) I hv (.inl hd) fun H1 ys vs s1 I1 sm r1 t=>⟨H1,ys,I1,r1,?_,fun l zs n t' _=>q l H1 zs sm n t'⟩);subst ek
 have gen:∀(ks:List (Key × Key)) (ys:List V),be' X.K H1 ys (ks.map (fun k:Key × Key=>(k.1,kV k.2)))->a5' X.K H1 ys (ks.map fun k=>[k.1,k.2]):=fun ks=>by
  induction ks with
  |nil=>
   intro ys t;cases t;exact .nil
  |cons k ks ih=>
   intro ys t;cases t with
   |cons h t=>exact .cons h (ih _ t)
 exact gen ks ys t
def rListD:List V->Hp->VK->Prop:=fun xs H Q=>∃d kvs,xs=[.ref d]/\Rd H d (.dK kvs)/\∀l,H l=none->Q (.ref l) (upd H l (.lst (kvs.map fun kv=>kV kv.1)))
theorem cc_(hc:X.calm=true):br' X (.type "list") rListD:=by
 intro pins s σ H xs us Q I r h;obtain⟨d,kvs,rfl,hd,q⟩:=h;obtain⟨u,rfl,ru⟩:=vals1 r;cases ru;obtain⟨P,OK,S,ok,hp⟩:=ih_ I hd;have z:=(cG_ I.hok hd).1;refine kdl_call S (I.ok.hd hc) ok (by rw[aa'];exact z) fun h' tk acc c k hD a=>?_;refine⟨.ref s.heap.objs.size,_,I.laid (t':=tk) k (af' _) (show bh' X.prog X.w _ h' _ (.lst (kvs.map fun kv=>kV kv.1)) from ⟨by rw[aa'];exact z,acc.toList,c,c1_ a hp,by rw[Array.toArray_toList];exact hD⟩),rfl,q _ I.fresh⟩
theorem KV.mergeP{κ:Type}[DecidableEq κ]:∀{more:List (κ × V)} {rs:List (κ × Value)} {kvs:List (κ × V)} {vs:List (κ × Value)},KV more rs->KV kvs vs->KV (more.foldl (fun acc kv=>putK acc kv.1 kv.2) kvs) (EvD.mergeP vs rs):=fun {more rs kvs vs} h=>by
 induction h generalizing kvs vs with
 |nil=>exact fun h=>h
 |@cons p q _ _ h _ ih=>
  intro h2;obtain⟨k,y⟩:=p;obtain⟨k',u⟩:=q;obtain⟨h1,h3⟩:=h;have h1:k=k':=h1;subst h1;exact ih (h2.put k h3)
def rDictOf(K:F__):List V->Hp->VK->Prop:=fun xs H Q=>∃p ys kvs,xs=[.ref p]/\H p=some (.lst ys)/\be' K H ys kvs/\kvs.length<=1000/\∀l,H l=none->Q (.ref l) (upd H l (.dK (bs' [] kvs)))
theorem aR_(hc:X.calm=true):br' X (.type "dict") (rDictOf X.K):=by
 intro pins s σ H xs us Q I r h;obtain⟨p,ys,kvs,rfl,hp,t,hz,q⟩:=h;obtain⟨u,rfl,ru⟩:=vals1 r;cases ru;obtain⟨z,its,n,rv,hl,ho⟩:=I.lstM hp
 have gen:∀{ys:List V} {its:List Value} {kvs:List (Key × V)},Vals ys its->be' X.K H ys kvs->∃ps,KV kvs ps/\cU' (a7' X.prog X.w) s.heap its ps:=fun {ys its kvs} rv t=>by
  induction t generalizing its with
  |nil=>
   cases rv;exact⟨[],.nil,.nil⟩
  |@cons y p ys kvs h t ih=>
   cases rv with
   |cons r0 rv=>
    obtain⟨ps,h1,h2⟩:=ih rv;obtain⟨a,e,sq⟩:=h;subst e;cases r0;obtain⟨tv,rt,it,_⟩:=I.tuple (SqT.of sq);obtain⟨key,x,e2,rk,rx⟩:=vals2 rt;subst e2;refine⟨(p.1,x)::ps,Paired.cons (show p.1=p.1/\RelV p.2 x from ⟨rfl,rx⟩) h1,Paired.cons (show ∃a' key',Value.ref a=.ref a'/\IsTup s.heap a' #[key',x]/\(a7' X.prog X.w).is p.1 key'=true from ⟨a,key,rfl,it,dk_ rk⟩) h2⟩
 obtain⟨ps,h1,h2⟩:=gen rv t;have lp:=KV.length h1;refine dW_ (knd:=a7' X.prog X.w) (I.ok.hd hc) ho h2 (by omega) fun h' tk hd kp=>?_;refine⟨.ref s.heap.objs.size,_,I.laid (t':=tk) kp (af' _) (gV_ ?_ (beq_eq_false_iff_ne.mpr (Ne.symm (av' I.big))) (KV.mergeP h1 .nil) hd),rfl,q _ I.fresh⟩;have:=bj_ kvs [];have:=sizeLine_eq;simp only[a1'] at *;show (bs' [] kvs).length<=sizeLine;omega
theorem dj_:∀{bs:List Bool} {vs:List Value},Vals (bs.map V.bl) vs->vs=bs.map Value.bool
 |[],_,.nil=>rfl
 |b::bs,_,.cons h t=>by
  cases h;rw[dj_ t];rfl
def rAll(K:F__)(g:List Bool->Bool):List V->Hp->VK->Prop:=fun xs H Q=>∃p bs,xs=[.ref p]/\SqL K H p (bs.map V.bl)/\Q (.bl (g bs)) H
theorem ha_(hc:X.calm=true):br' X (.builtin "all") (rAll X.K fun bs=>bs.all id):=by
 intro pins s σ H xs us Q I r h;obtain⟨p,bs,rfl,hp,q⟩:=h;obtain⟨u,rfl,ru⟩:=vals1 r;cases ru;obtain⟨its,rv,pl,z⟩:=I.list hp;obtain rfl:=dj_ rv;have hl:=pl.isList;have lt:p<s.heap.objs.size:=by obtain⟨_,e,_⟩:=hl;exact Heap.lt_size e
 refine call_all_walk (wpAny_pyIter_list hl ⟨s.heap.objs.size,[s.heap.objs.size,p],[s.heap.objs.size],(bs.map Value.bool).toArray.size,_,_,fun i=>(bs[i]?).getD true,rfl,Walks.list (A:=X.A.in1) (I.ok.hd hc) _ p (av' lt) _,⟨⟨_,Heap.get?_push_size _ rfl,rfl,rfl⟩,hl.push _⟩,fun i v s' Q' E' hP hQ=>?_,fun h' tk hk=>?_⟩)
 ·have hP:(bs.map Value.bool).toArray[i]? = some v:=hP;simp only[List.getElem?_toArray,al'] at hP;cases e:bs[i]? with
  |none=>rw[e] at hP;cases hP
  |some b=>
   have hQ:Q' ((bs[i]?).getD true) s':=hQ;rw[e] at hP hQ;cases hP;exact wpAny_truthy_bool hQ
 ·have e:((List.range (bs.map Value.bool).toArray.size).all fun i=>(bs[i]?).getD true)=bs.all id:=by
   rw[ai',aa'];exact LSm.range_all bs
  rw[e];exact⟨.bl _,H,I.kept (LSm.kept_iter hk),rfl,q⟩
theorem eL_(hc:X.calm=true):br' X (.builtin "any") (rAll X.K fun bs=>bs.any id):=by
 intro pins s σ H xs us Q I r h;obtain⟨p,bs,rfl,hp,q⟩:=h;obtain⟨u,rfl,ru⟩:=vals1 r;cases ru;obtain⟨its,rv,pl,z⟩:=I.list hp;obtain rfl:=dj_ rv;have hl:=pl.isList;have lt:p<s.heap.objs.size:=by obtain⟨_,e,_⟩:=hl;exact Heap.lt_size e
 refine call_any_walk (wpAny_pyIter_list hl ⟨s.heap.objs.size,[s.heap.objs.size,p],[s.heap.objs.size],(bs.map Value.bool).toArray.size,_,_,fun i=>(bs[i]?).getD false,rfl,Walks.list (A:=X.A.in1) (I.ok.hd hc) _ p (av' lt) _,⟨⟨_,Heap.get?_push_size _ rfl,rfl,rfl⟩,hl.push _⟩,fun i v s' Q' E' hP hQ=>?_,fun h' tk hk=>?_⟩)
 ·have hP:(bs.map Value.bool).toArray[i]? = some v:=hP;simp only[List.getElem?_toArray,al'] at hP;cases e:bs[i]? with
  |none=>rw[e] at hP;cases hP
  |some b=>
   have hQ:Q' ((bs[i]?).getD false) s':=hQ;rw[e] at hP hQ;cases hP;exact wpAny_truthy_bool hQ
 ·have e:((List.range (bs.map Value.bool).toArray.size).any fun i=>(bs[i]?).getD false)=bs.any id:=by
   rw[ai',aa'];exact LSm.range_any bs
  rw[e];exact⟨.bl _,H,I.kept (LSm.kept_iter hk),rfl,q⟩
end
end L2
namespace EvN
open PySem PySem.SeqAt PyProof.Rows
open AutoSeq1 (wpAny_loadPart')
open MeetsSeq MeetsSeq2 MeetsSeq3 SeqRoads2
theorem kv_(l b:Addr)(xs ys:Array Value)(n m:Nat)(dl db:Option Addr)(sl sb:Array (Option Value))(hs:xs.size=ys.size)(e:Nat->Bool)(k:Nat) :
  ∀i:Nat,xs.size - i=k->Meets (Builtin.«list.__eq__.loop» ⟨[.ref l,.ref b,rawInt i,rawInt 3],[]⟩)
   (fun A R s=>(s.heap.get? l=some { cls:=.type "list",dict:=dl,data:=.seq xs n,slots:=sl }/\s.heap.get? b=some { cls:=.type "list",dict:=db,data:=.seq ys m,slots:=sb }) /\
    (∀j (h1:j<xs.size) (h2:j<ys.size),EqAt A.in1 s xs[j] ys[j] (e j))/\R (.ok (.ret (.bool (!((List.range xs.size).drop i).all e)))) s):=by
 induction k with
 |zero=>
  intro i hk prog w A R s ⟨⟨gl,gb⟩,he,h⟩;obtain⟨hp,g,d,tk,os⟩:=s
  wp_walk using wpAny_loadPart' gl,wpAny_loadPart' gb
  rw[show xs[((i:Nat):Int).toNat]? = none by simp;omega,show ys[((i:Nat):Int).toNat]? = none by simp;omega];rw[show (List.range xs.size).drop i=[] by simp;omega] at h
  wp_walk using wpAny_loadPart' gl,wpAny_loadPart' gb
  refine (show R (.ok (.ret (.bool (xs.size != ys.size)))) _ from ?_);rw[show (xs.size != ys.size)=false by simp[hs]];exact h
 |succ k ih=>
  intro i hk prog w A R s ⟨⟨gl,gb⟩,he,h⟩;obtain⟨hp,g,d,tk,os⟩:=s
  wp_walk using wpAny_loadPart' gl,wpAny_loadPart' gb
  have z1:i<xs.size:=by omega
  have z2:i<ys.size:=by omega
  have q1:xs[((i:Nat):Int).toNat]? = some xs[i]:=by simp[z1]
  have q2:ys[((i:Nat):Int).toNat]? = some ys[i]:=by simp[z2]
  rw[show (List.range xs.size).drop i=i::(List.range xs.size).drop (i+1) by simp[List.drop_eq_getElem_cons,z1],List.all_cons] at h;rw[q1,q2];refine wpAny_bind (he i z1 z2 prog w _ _ ?_);cases c:e i with
  |true=>
   rw[c] at h
   wp_walk
   rw[show ((i:Int)+1)=((i+1:Nat):Int) by omega];refine⟨plainId_quiet plain_eq_loop _,codeAny_builtin entry_eq_loop ?_⟩;rw[Around.under_plainId plain_eq_loop _];exact ih (i+1) (by omega) prog w A R _ ⟨⟨gl,gb⟩,he,by simpa using h⟩
  |false=>
   rw[c] at h
   wp_walk using wpAny_loadPart' gl,wpAny_loadPart' gb
   rw[q1,q2]
   wp_walk
   simpa using h
theorem ht_(l b:Addr)(xs ys:Array Value)(n m:Nat)(dl db:Option Addr)(sl sb:Array (Option Value))(hs:xs.size=ys.size)(e:Nat->Bool) :
  Meets (Builtin.«list.__ne__» ⟨[.ref l,.ref b],[]⟩)
   (fun A R s=>(s.heap.get? l=some { cls:=.type "list",dict:=dl,data:=.seq xs n,slots:=sl }/\s.heap.get? b=some { cls:=.type "list",dict:=db,data:=.seq ys m,slots:=sb }) /\
    (∀j (h1:j<xs.size) (h2:j<ys.size),EqAt A.in1 s xs[j] ys[j] (e j))/\R (.ok (.ret (.bool (!(List.range xs.size).all e)))) s):=by
 intro prog w A R s ⟨⟨gl,gb⟩,he,h⟩;obtain⟨hp,g,d,tk,os⟩:=s;have f3:=AutoSeq1.sub_list_list;have no:¬(xs.size != ys.size)=true:=by simp[hs]
 wp_walk using wpAny_loadPart' gl,wpAny_loadPart' gb
 refine⟨plainId_quiet plain_eq_loop _,codeAny_builtin entry_eq_loop ?_⟩;rw[Around.under_plainId plain_eq_loop _];exact kv_ l b xs ys n m dl db sl sb hs e _ 0 rfl prog w A R _ ⟨⟨gl,gb⟩,he,by simpa using h⟩
theorem hb_(l b:Addr)(xs ys:Array Value)(n m:Nat)(dl db:Option Addr)(sl sb:Array (Option Value))(hs:(xs.size != ys.size)=true) :
  Meets (Builtin.«list.__ne__» ⟨[.ref l,.ref b],[]⟩)
   (fun A R s=>(s.heap.get? l=some { cls:=.type "list",dict:=dl,data:=.seq xs n,slots:=sl }/\s.heap.get? b=some { cls:=.type "list",dict:=db,data:=.seq ys m,slots:=sb })/\R (.ok (.ret (.bool true))) s):=
 .of_wp fun prog w A R s ⟨⟨gl,gb⟩,h⟩=>by
  obtain⟨hp,g,d,tk,os⟩:=s;have f3:=AutoSeq1.sub_list_list
  wp_walk using wpAny_loadPart' gl,wpAny_loadPart' gb
  exact⟨_,rfl,h⟩
section
variable{prog:Program}{w:World}{A:Around}{E:Value->Shared->Prop}{s:Shared}
theorem ne_listAt{l b:Addr}{xs ys:Array Value}{e:Nat->Bool}{Q:Value->Shared->Prop}(hl:s.heap.IsList l xs)(hb:s.heap.IsList b ys)(hs:xs.size=ys.size)(hu:A.units<cLine)
  (he:∀j (h1:j<xs.size) (h2:j<ys.size),EqAt A.in1 s xs[j] ys[j] (e j)) (h:Q (.bool (!(List.range xs.size).all e)) s):wpAny (model prog w) A (compareOp .NotEq (.ref l) (.ref b)) Q E s:=by
 obtain⟨⟨c1,d1,t1,l1⟩,o1,k1,n1,z1⟩:=id hl;obtain⟨⟨c2,d2,t2,l2⟩,o2,k2,n2,z2⟩:=id hb;simp only at k1 z1 k2 z2;subst k1 z1 k2 z2;exact richCompare_meets_room (op:=.NotEq) ⟨_,o1,rfl⟩ ⟨_,o2,rfl⟩ F.slot_list_ne F.entry_list_ne (F.args_list_ne_2 _ _) (ht_ l b xs ys n1 n2 d1 d2 l1 l2 hs e) ⟨⟨o1,o2⟩,he,show Value.bool (!(List.range xs.size).all e)≠Value.notImplemented/\Q (.bool (!(List.range xs.size).all e)) s from ⟨(fun x=>nomatch x),h⟩⟩ hu
theorem ne_sizesAt{l b:Addr}{xs ys:Array Value}{Q:Value->Shared->Prop}(hl:s.heap.IsList l xs)(hb:s.heap.IsList b ys)(hs:(xs.size != ys.size)=true)(hu:A.units<cLine)(h:Q (.bool true) s):wpAny (model prog w) A (compareOp .NotEq (.ref l) (.ref b)) Q E s:=by
 obtain⟨⟨c1,d1,t1,l1⟩,o1,k1,n1,z1⟩:=id hl;obtain⟨⟨c2,d2,t2,l2⟩,o2,k2,n2,z2⟩:=id hb;simp only at k1 z1 k2 z2;subst k1 z1 k2 z2;exact richCompare_meets_room (op:=.NotEq) ⟨_,o1,rfl⟩ ⟨_,o2,rfl⟩ F.slot_list_ne F.entry_list_ne (F.args_list_ne_2 _ _) (hb_ l b xs ys n1 n2 d1 d2 l1 l2 hs) ⟨⟨o1,o2⟩,show Value.bool true≠Value.notImplemented/\Q (.bool true) s from ⟨(fun x=>nomatch x),h⟩⟩ hu
end
end EvN
namespace L2
open PySem PySem.Spec PyProof.Rows PySem.W EvS EvD
abbrev Rp(D:Type):=Hp->V->D->Prop
structure Cmp (X:Cx) (n:Nat) {D:Type} [DecidableEq D] (R:Rp D):Prop where
 eq:∀{pins:List (Addr × Obj)} {σ:St} {H:Hp} {s:Shared} {A:Around} {x y:V} {u v:Value} {d e:D},Inv X pins σ H s->RelV x u->RelV y v->R H x d->R H y e->A.units+n<cLine->SeqAt.EqAt A s u v (decide (d=e))
 one:∀{pins:List (Addr × Obj)} {σ:St} {H:Hp} {s:Shared} {x:V} {d e:D},Inv X pins σ H s->R H x d->R H x e->d=e
def rS:Rp Str:=fun _ x d=>x=.str d
def r2(K:F__){D1 D2:Type}(R1:Rp D1)(R2:Rp D2):Rp (D1 × D2):=fun H x d=>∃a u v,x=.ref a/\SqT K H a [u,v]/\R1 H u d.1/\R2 H v d.2
def r3(K:F__){D1 D2 D3:Type}(R1:Rp D1)(R2:Rp D2)(R3:Rp D3):Rp (D1 × D2 × D3):=fun H x d=>∃a u v w,x=.ref a/\SqT K H a [u,v,w]/\R1 H u d.1/\R2 H v d.2.1/\R3 H w d.2.2
def rL(K:F__){D:Type}(R:Rp D):Rp (List D):=fun H x ds=>∃a xs,x=.ref a/\SqL K H a xs/\Paired (R H) xs ds
section
variable{X:Cx}
theorem cmpS:Cmp X 0 rS where
 eq:=fun {pins σ H s A x y u v d e} I ru rv hx hy hu=>by
  have hx:x=.str d:=hx;have hy:y=.str e:=hy;subst hx;subst hy;have q:=gh_ (A:=A) (s:=s) ru rv rfl rfl
  have e2:eqV (.str d) (.str e)=decide (d=e):=by
   show (d == e)=_;by_cases h:d=e
   ·subst h;simp
   ·simp[h]
  rwa [e2] at q
 one:=fun {pins σ H s x d e} I hx hy=>by
  have hx:x=.str d:=hx;have hy:x=.str e:=hy;rw[hx] at hy;exact V.str.inj hy
theorem by_{h:Heap}{a:Addr}{its:Array Value}(t:IsTup h a its):h.IsTuple a its:=t
theorem cmp2{n m:Nat}{D1 D2:Type}[DecidableEq D1][DecidableEq D2]{R1:Rp D1}{R2:Rp D2}(c1:Cmp X n R1)(c2:Cmp X m R2):Cmp X (max n m+1) (r2 X.K R1 R2) where
 one:=fun {pins σ H s x d e} I hx hy=>by
  obtain⟨a,u,v,rfl,t,q1,q2⟩:=hx;obtain⟨b,u',v',e0,t',q1',q2'⟩:=hy;cases e0;have e1:=I.tuple_inj t t';cases e1;exact Prod.ext (c1.one I q1 q1') (c2.one I q2 q2')
 eq:=fun {pins σ H s A x y u v d e} I ru rv hx hy hu=>by
  have hx':=hx;have hy':=hy;obtain⟨a,x1,x2,rfl,t,q1,q2⟩:=hx;obtain⟨b,y1,y2,rfl,t',q1',q2'⟩:=hy;cases ru;cases rv;by_cases hab:a=b
  ·subst hab;have e1:=I.tuple_inj t t';cases e1;have:d=e:=Prod.ext (c1.one I q1 q1') (c2.one I q2 q2');rw[decide_eq_true this];exact SeqAt.EqAt.same _
  ·obtain⟨its,r,it,_⟩:=I.tuple t;obtain⟨its',r',it',_⟩:=I.tuple t';obtain⟨u1,u2,rfl,r1,r2⟩:=vals2 r;obtain⟨w1,w2,rfl,r1',r2'⟩:=vals2 r'
   have key:=SeqAt.EqAt.of_refs hab (SeqAt.RcAt.tuples (A:=A) (s:=s) (e:=fun j=>if j=0 then decide (d.1=e.1) else decide (d.2=e.2)) (by_ it) (by_ it') (by omega) fun j h1 h2=>by
    match j,h1,h2 with
    |0,_,_=>exact c1.eq I r1 r1' q1 q1' (by show A.units+1+n<cLine;omega)
    |1,_,_=>exact c2.eq I r2 r2' q2 q2' (by show A.units+1+m<cLine;omega))
   have e3:((List.range (min [u1,u2].toArray.size [w1,w2].toArray.size)).all (fun j=>if j=0 then decide (d.1=e.1) else decide (d.2=e.2))&&[u1,u2].toArray.size == [w1,w2].toArray.size)=decide (d=e):=by
    show (decide (d.1=e.1)&&(decide (d.2=e.2)&&true)&&true)=_;by_cases h1:d.1=e.1
    ·by_cases h2:d.2=e.2
     ·have:d=e:=Prod.ext h1 h2;simp[this]
     ·have:¬d=e:=fun z=>h2 (by rw[z]);simp[h1,h2,this]
    ·have:¬d=e:=fun z=>h1 (by rw[z]);simp[h1,this]
   rw[e3] at key;exact key
theorem paired_get{α β:Type}{F:α->β->Prop}:∀{l:List α} {m:List β},Paired F l m->∀(i:Nat) (h1:i<l.length) (h2:i<m.length),F l[i] m[i]
 |_,_,.cons h t,0,_,_=>h
 |_,_,.cons h t,i+1,h1,h2=>paired_get t i (by simpa using h1) (by simpa using h2)
theorem cg_{D:Type}[DecidableEq D]:∀{ds es:List D},ds.length=es.length->((List.range ds.length).all fun j=>decide (ds[j]? = es[j]?))=decide (ds=es):=fun {ds es} hl=>by
 by_cases h:ds=es
 ·subst h;simp
 ·rw[decide_eq_false h]
  have:∃i,i<ds.length/\ds[i]?≠es[i]?:=by
   refine Classical.byContradiction fun hn=>h ?_;apply List.ext_getElem?;intro i;by_cases hi:i<ds.length
   ·exact Classical.byContradiction fun q=>hn ⟨i,hi,q⟩
   ·rw[List.getElem?_eq_none (by omega),List.getElem?_eq_none (by omega)]
  obtain⟨i,hi,q⟩:=this;rw[List.all_eq_false];exact⟨i,by simpa using hi,by simpa using q⟩
theorem eX_{D:Type}[DecidableEq D]{n:Nat}{R:Rp D}(c:Cmp X n R){pins:List (Addr × Obj)}{σ:St}{H:Hp}{s:Shared}{A:Around}(I:Inv X pins σ H s){xs ys:List V}{us vs:List Value}{ds es:List D}(ru:Vals xs us)(rv:Vals ys vs)(hx:Paired (R H) xs ds)(hy:Paired (R H) ys es)(hu:A.units+n<cLine) :
  ∀j (h1:j<us.toArray.size) (h2:j<vs.toArray.size),SeqAt.EqAt A s us.toArray[j] vs.toArray[j] (decide (ds[j]? = es[j]?)):=fun j h1 h2=>by
 have l1:=ru.length;have l2:=rv.length;have l3:=Paired.length hx;have l4:=Paired.length hy;simp only[ai'] at h1 h2;have q:=c.eq (A:=A) I (paired_get ru j (by omega) h1) (paired_get rv j (by omega) h2) (paired_get hx j (by omega) (by omega)) (paired_get hy j (by omega) (by omega)) hu
 have e:decide (ds[j]? = es[j]?)=decide (ds[j]'(by omega)=es[j]'(by omega)):=by
  rw[ac' (by omega),ac' (by omega)];by_cases z:ds[j]'(by omega)=es[j]'(by omega)
  ·simp[z]
  ·simp[z]
 rw[e];exact q
def rEqD{D:Type}[DecidableEq D](R:Rp D)(neg:Bool):V->V->Hp->VK->Prop:=fun x y H Q=>∃d e,R H x d/\R H y e/\Q (.bl (if neg then !decide (d=e) else decide (d=e))) H
theorem kn_{n:Nat}{D:Type}[DecidableEq D]{R:Rp D}(c:Cmp X n R)(hu:X.A.units+n+1<cLine):OpR X (compareOp .Eq) (rEqD (rL X.K R) false):=by
 intro pins s σ H x y v u Q I rx ry h;obtain⟨d,e,⟨a,xs,rfl,t,q⟩,⟨b,ys,rfl,t',q'⟩,hq⟩:=h;cases rx;cases ry;obtain⟨us,r,pl,_⟩:=I.list t;obtain⟨vs,r',pl',_⟩:=I.list t';have l1:=r.length;have l2:=r'.length;have l3:=Paired.length q;have l4:=Paired.length q';by_cases hl:d.length=e.length
 ·refine SeqAt.eq_listAt pl.isList pl'.isList (by simp only[ai'];omega) (by omega) (eX_ c I r r' q q' (A:=X.A.in1) (by show X.A.units+1+n<cLine;omega)) ⟨.bl _,H,I,rfl,?_⟩;rw[show us.toArray.size=d.length by simp only[ai'];omega,cg_ hl];exact hq
 ·refine SeqAt.eq_list_lengthsAt pl.isList pl'.isList (by simp only[ai',bne_iff_ne];omega) (by omega) ⟨.bl _,H,I,rfl,?_⟩;have hq:Q (.bl (decide (d=e))) H:=hq;rwa [decide_eq_false (fun z=>hl (by rw[z]))] at hq
theorem jQ_{n:Nat}{D:Type}[DecidableEq D]{R:Rp D}(c:Cmp X n R)(hu:X.A.units+n+1<cLine):OpR X (compareOp .NotEq) (rEqD (rL X.K R) true):=by
 intro pins s σ H x y v u Q I rx ry h;obtain⟨d,e,⟨a,xs,rfl,t,q⟩,⟨b,ys,rfl,t',q'⟩,hq⟩:=h;cases rx;cases ry;obtain⟨us,r,pl,_⟩:=I.list t;obtain⟨vs,r',pl',_⟩:=I.list t';have l1:=r.length;have l2:=r'.length;have l3:=Paired.length q;have l4:=Paired.length q';have hq:Q (.bl (!decide (d=e))) H:=hq;by_cases hl:d.length=e.length
 ·refine EvN.ne_listAt pl.isList pl'.isList (by simp only[ai'];omega) (by omega) (eX_ c I r r' q q' (A:=X.A.in1) (by show X.A.units+1+n<cLine;omega)) ⟨.bl _,H,I,rfl,?_⟩;rw[show us.toArray.size=d.length by simp only[ai'];omega,cg_ hl];exact hq
 ·refine EvN.ne_sizesAt pl.isList pl'.isList (by simp only[ai',bne_iff_ne];omega) (by omega) ⟨.bl _,H,I,rfl,?_⟩;rwa [decide_eq_false (fun z=>hl (by rw[z]))] at hq
def rInD(K:F__){D:Type}[DecidableEq D](R:Rp D)(neg:Bool):V->V->Hp->VK->Prop:=fun x y H Q=>∃d es,R H x d/\rL K R H y es/\Q (.bl (if neg then !decide (d∈es) else decide (d∈es))) H
theorem ip_{D:Type}[DecidableEq D]{n:Nat}{R:Rp D}(c:Cmp X n R){pins:List (Addr × Obj)}{σ:St}{H:Hp}{s:Shared}{A:Around}(I:Inv X pins σ H s){x:V}{u:Value}{d:D}(ru:RelV x u)(hx:R H x d)(hu:A.units+n<cLine):∀{ys:List V} {vs:List Value} {es:List D},Vals ys vs->Paired (R H) ys es->
  ∃f:Value->Bool,(∀w∈vs,SeqAt.EqAt A s w u (f w))/\vs.any f=decide (d∈es):=fun {ys vs es} rv hy=>by
 let f:Value->Bool:=fun w=>@decide (∃y e,RelV y w/\R H y e/\e=d) (Classical.propDecidable _)
 have sound:∀y w e,RelV y w->R H y e->f w=decide (e=d):=fun y w e h1 h2=>by
  by_cases z:e=d
  ·rw[decide_eq_true z];exact @decide_eq_true _ (Classical.propDecidable _) ⟨y,e,h1,h2,z⟩
  ·rw[decide_eq_false z];refine @decide_eq_false _ (Classical.propDecidable _) fun⟨y',e',g1,g2,g3⟩=>z ?_;have:y'=y:=RelV.inj g1 h1;subst this;rw[<- g3];exact c.one I h2 g2
 refine⟨f,?_,?_⟩
 ·induction rv generalizing es with
  |nil=>exact fun w hw=>nomatch hw
  |cons h t ih=>
   cases hy with
   |cons g t'=>
    intro w hw;rcases ah'.mp hw with rfl|hw
    ·rw[sound _ _ _ h g];exact c.eq I h ru g hx hu
    ·exact ih t' w hw
 ·induction rv generalizing es with
  |nil=>
   cases hy;simp
  |cons h t ih=>
   cases hy with
   |@cons _ e _ es g t'=>
    rw[List.any_cons,ih t',sound _ _ _ h g];by_cases z:e=d
    ·subst z;simp
    ·by_cases z2:d∈es
     ·simp[z2]
     ·have:¬d∈e::es:=fun q=>by
       rcases ah'.mp q with q|q
       ·exact z q.symm
       ·exact z2 q
      rw[decide_eq_false z,decide_eq_false z2,decide_eq_false this];rfl
theorem dZ_{n:Nat}{D:Type}[DecidableEq D]{R:Rp D}(c:Cmp X n R)(hu:X.A.units+n+1<cLine):OpR X (compareOp .In) (rInD X.K R false):=by
 intro pins s σ H x y v u Q I rx ry h;obtain⟨d,es,hx,⟨a,ys,rfl,t,q⟩,hq⟩:=h;cases ry;obtain⟨us,r,pl,_⟩:=I.list t;obtain⟨f,h1,h2⟩:=ip_ c I (A:=X.A.in1) rx hx (by show X.A.units+1+n<cLine;omega) r q;refine SeqAt.in_listAt f pl.isList (fun w hw=>h1 w (by simpa using hw)) ⟨.bl _,H,I,rfl,?_⟩;rw[show us.toArray.any f=us.any f by simp,h2];exact hq
theorem cE_{n:Nat}{D:Type}[DecidableEq D]{R:Rp D}(c:Cmp X n R)(hu:X.A.units+n+1<cLine):OpR X (compareOp .NotIn) (rInD X.K R true):=by
 intro pins s σ H x y v u Q I rx ry h;obtain⟨d,es,hx,⟨a,ys,rfl,t,q⟩,hq⟩:=h;cases ry;obtain⟨us,r,pl,_⟩:=I.list t;obtain⟨f,h1,h2⟩:=ip_ c I (A:=X.A.in1) rx hx (by show X.A.units+1+n<cLine;omega) r q;refine SeqAt.notIn_listAt f pl.isList (fun w hw=>h1 w (by simpa using hw)) ⟨.bl _,H,I,rfl,?_⟩;rw[show us.toArray.any f=us.any f by simp,h2];exact hq
end
end L2
namespace L2
open PySem PySem.Spec PyProof.Rows PySem.W EvS EvD
section
variable{X:Cx}
def rIsi(K:F__):List V->Hp->VK->Prop:=fun xs H Q=>∃x T t b,xs=[x,.ty T]/\TyOf K H x t/\PySem.W.kitOne K t (.type T)=some b/\Q (.bl b) H
theorem aU_:br' X (.builtin "isinstance") (rIsi X.K):=by
 intro pins s σ H xs us Q I r h;obtain⟨x,T,t,b,rfl,ty,e,q⟩:=h;obtain⟨u,w',rfl,ru,rw'⟩:=vals2 r;cases (show w'=Value.type T from rw');exact dE_ I ru ty e fun tk=>⟨.bl b,H,I.tok tk,rfl,q⟩
theorem dT_:OpR X (compareOp .LtE) (fun x y H Q=>∃i j,x=.str i/\y=.str j/\Q (.bl (!decide (j.cps.toList<i.cps.toList))) H):=by
 intro pins s σ H x y v u Q I rx ry h;obtain⟨i,j,rfl,rfl,q⟩:=h;obtain⟨t,rfl⟩:=rx;obtain⟨t',rfl⟩:=ry;exact PySem.P.le_str ⟨.bl _,H,I,rfl,q⟩
def tView(mk:Addr->Addr->HO)(td:TE):TE:=fun σ H Q=>td σ H fun x H1=>∃d kvs,x=.ref d/\H1 d=some (.dK kvs)/\∀v,H1 v=none->Q (.ref v) (upd H1 v (mk v d))
theorem j2_{pins:List (Addr × Obj)}{σ:St}{H:Hp}{s:Shared}{d:Addr}{cls:String}(I:Inv X pins σ H s)(φ:Heap->Prop)(hφ:φ (s.heap.push { cls:=.type cls,data:=.fields #[.ref d] }))(hs:∀h1 h2:Heap,φ h1->(∀o,h1.get? s.heap.objs.size=some o->h2.get? s.heap.objs.size=some o)->φ h2) :
  Inv X pins σ (upd H s.heap.objs.size (.ext φ)) { s with heap:=s.heap.push { cls:=.type cls,data:=.fields #[.ref d] } }:=
 I.laid (t':=s.toks) (fun _ _ q=>Heap.get?_push_of_some _ q) (af' _) ⟨hφ,⟨_,Heap.get?_push_size _ rfl⟩,hs⟩
theorem cn_{o:Expr}{td:TE}{apos cpos:Pos}(ho:PE X o td)(hbase:attributeBase o "items" X.env (eval o X.env)=eval o X.env:=by rfl)(hline:(apos.endLine == cpos.line)=true:=by rfl):PE X (.Call (.Attribute o "items" apos) [] [] cpos) (tView bn' td):=by
 intro pins s σ H Q I h;refine wpAny_Call_method0_late hbase hline (thn (ho pins s σ H _ I h) fun v s1 ⟨x,H1,I1,r1,d,kvs,e,hd,q⟩=>?_);subst e;cases r1;obtain⟨t1,t2,t3⟩:=jM_ I1 (.inl ⟨kvs,.inl hd⟩);obtain⟨_,_,vs,rel,dd⟩:=fh_ I1.hok hd;refine⟨"dict","dict.items",PySem.F.plainAttrs_dict,PySem.F.slot_dict_items,PySem.F.type_dict_items,t1,t2,Calls.callWith_builtin rfl (PySem.evalArgs_none ?_)⟩;refine call_meetsIn PySem.F.slot_dict_items t1 PySem.F.entry_dict_items (PySem.F.args_dict_items_1 _) (meets_dict_items (a7' X.prog X.w) d t3) ⟨⟨vs,dd⟩,?_⟩;exact⟨.ref _,_,j2_ I1 _ ⟨_,Heap.get?_push_size _ rfl,rfl,rfl⟩ fun h1 h2 ⟨o,e,r⟩ k=>⟨o,k o e,r⟩,rfl,q _ I1.fresh⟩
end
section
variable{X:Cx}{pins:List (Addr × Obj)}{σ:St}{H:Hp}{s:Shared}{d:Addr}{kvs:List (Key × V)}
theorem Inv.freeze(I:Inv X pins σ H s)(h:H d=some (.dK kvs)):∃o,s.heap.get? d=some o/\Inv X pins σ (upd H d (.frz o (.dK kvs))) s:=by
 obtain⟨z,hd,vs,rel,dd⟩:=fh_ I.hok h;obtain⟨o,es,ep,ho,r⟩:=id dd;have other:∀{b u},H b=some u->u≠.dK kvs->upd H d (.frz o (.dK kvs)) b=some u:=fun {b u} e ne=>by rw[a4_ (ax_ e h ne)];exact e
 refine⟨o,ho,I.un (h':=s.heap) (t':=s.toks) ⟨fun b u q _ _ _=>q,fun b u q _ _ _=>⟨u.slots,q⟩,fun b u q n _=>?_,fun b u q _=>⟨u,q⟩,fun b xs q=>other q (by simp),fun b u v q=>other q (by simp),fun b ps q=>⟨#[],by rw[Array.append_empty];exact other q (by simp)⟩⟩ fun b u q=>?_⟩
 ·by_cases e:b=d
  ·subst e;rw[h] at n;cases n
  ·rw[a4_ e];exact n
 ·by_cases e:b=d
  ·subst e;rw[a1_] at q;cases q;exact⟨ho,z,hd,vs,rel,dd⟩
  ·rw[a4_ e] at q;exact (I.hok b u q).stay (fun c v _ z=>z) (fun c z=>other z (by simp)) fun c xs z=>other z (by simp)
theorem Inv.thaw{o:Obj}(I:Inv X pins σ H s)(h:H d=some (.frz o (.dK kvs)))(h0:∀o u,X.H₀ d≠some (.frz o u)):Inv X pins σ (upd H d (.dK kvs)) s:=by
 have other:∀{b u},H b=some u->(∀o v,u≠.frz o v)->upd H d (.dK kvs) b=some u:=fun {b u} e ne=>by rw[a4_ (ax_ e h (ne _ _))];exact e
 have none':∀{b},H b=none->upd H d (.dK kvs) b=none:=fun {b} e=>by
  rw[a4_ (fun z=>by subst z;rw[h] at e;cases e)];exact e
 refine⟨I.ok,I.os,I.bare,⟨I.base.keep,I.base.slot,fun b u q n hx=>none' (I.base.free b u q n hx),I.base.there,fun b xs q=>other (I.base.tups b xs q) (by simp),fun b u v q=>?_,fun b ps q=>?_⟩,I.loc,I.cell,none' I.free,fun x c e=>none' (I.freeC x c e),fun p hp=>?_,fun b u q=>?_,I.len⟩
 ·have:=I.base.frzs b u v q;rw[a4_ (fun z=>by subst z;exact h0 _ _ q)];exact this
 ·obtain⟨more,e⟩:=I.base.tbls b ps q;exact⟨more,other e (by simp)⟩
 ·obtain⟨a1,a2,a3⟩:=I.pin p hp;exact⟨a1,none' a2,a3⟩
 ·by_cases e:b=d
  ·subst e;rw[a1_] at q;cases q;obtain⟨ho,z,hd,vs,rel,dd⟩:=I.hok b _ h;exact⟨z,hd,vs,rel,dd⟩
  ·rw[a4_ e] at q;exact (I.hok b u q).stay (fun c v _ z=>z) (fun c z=>other z (by simp)) fun c xs z=>other z (by simp)
end
theorem bD_{X:Cx}{pins:List (Addr × Obj)}{σ:St}{H:Hp}{s:Shared}{d:Addr}{kvs:List (Key × V)}{o:Obj}{es:Array DictEntry}{ep:Nat}(I:Inv X pins σ H s)(h:H d=some (.frz o (.dK kvs)))(ho:o.data=.dict es ep):∃vs,KV kvs vs/\s.heap.DictAt (a7' X.prog X.w) d vs ep:=by
 obtain⟨e,z,hd,vs,rel,o',es',ep',e',c',d',r⟩:=I.hok d _ h;rw[e] at e';cases e';rw[ho] at d';cases d';exact⟨vs,rel,o,es,e,c',ho,r⟩
theorem ia_{κ:Type}{kvs:List (κ × V)}{vs:List (κ × Value)}(r:KV kvs vs):∀(i:Nat) {k:κ} {x:V},kvs[i]? = some (k,x)->∃u,vs[i]? = some (k,u)/\RelV x u:=by
 induction r with
 |nil=>intro i k x e;simp at e
 |@cons p q _ _ h _ ih=>
  intro i k x e;cases i with
  |zero=>
   have e:p=(k,x):=by simpa using e
   subst e;refine⟨q.2,?_,h.2⟩;rw[List.getElem?_cons_zero];have h1:k=q.1:=h.1;rw[h1]
  |succ i=>exact ih i (by simpa using e)
def Its(x:Str):It:=⟨fun i _=>i<x.cps.size,fun i H v H'=>H'=H/\∃c,x.cps[i]? = some c/\v=.str ⟨#[c]⟩,fun i _=>x.cps.size<=i⟩
theorem ft_{P:Program}{w:World}{K:F__}{tg:Expr}(it:Addr)(x:Str)(t:Tok):Turn P w K tg (Its x) [it] it (fun i h=>i<=x.cps.size/\h.IsStrIter it "str_ascii_iterator" x t i) where
 mem:=by simp
 obj:=fun i h st b hb=>by
  obtain rfl:b=it:=by simpa using hb
  obtain⟨o,e,c,d⟩:=st.2;exact⟨o,e,fun v z=>by rw[d] at z;cases z⟩
 keep:=fun i h h' st k=>⟨st.1,let ⟨o,ho,r⟩:=st.2;⟨o,k it (by simp) o ho,r⟩⟩
 item:=by
  intro X hP hw hK hc i pins s σ H E I hf st hg;subst hP hw hK;have hg:i<x.cps.size:=hg;obtain⟨f0,f1,f2,f3,f4,f5⟩:=hf it (by simp);refine wpAny_pyNext_ascii_item st.2 (c:=x.cps[i]) (by simp[hg]) fun h' st' sb=>?_;have I1:Inv X pins σ H { s with heap:=h',toks:=s.toks+1 }:=I.turned (t':=s.toks+1) (fun b o hb e=>(sb.2 b hb).trans e) f0 f1 f3 f4 f5;obtain⟨o',e,c,dd⟩:=id st';exact⟨_,rfl,g8_ (s:={ s with heap:=h',toks:=s.toks+1 }) e c dd (by decide) ⟨.str ⟨#[x.cps[i]]⟩,H,I1,⟨_,rfl⟩,⟨rfl,_,by simp[hg],rfl⟩,⟨hg,st'⟩,fun b hb=>(hf b hb).1⟩⟩
 done:=by
  intro X hP hw hK hc i pins s σ H E I hf st hg;subst hP hw hK;have hg:x.cps.size<=i:=hg;obtain⟨f0,f1,f2,f3,f4,f5⟩:=hf it (by simp);exact wpAny_pyNext_ascii_end (I.ok.hd hc) st.2 (by simp[hg]) fun h' eb=>⟨rfl,I.turned (t':=s.toks) (fun b o hb e=>eb b o hb e) f0 f1 f3 f4 f5⟩
 self:=fun _ _ _ _ _ st h=>wpAny_pyIter_striter_ascii st.2 h
theorem gb_{P:Program}{w:World}{K:F__}{tg:Expr}(it:Addr)(x:Str)(t:Tok):Turn P w K tg (Its x) [it] it (fun i h=>i<=x.cps.size/\h.IsStrIter it "str_iterator" x t i) where
 mem:=by simp
 obj:=fun i h st b hb=>by
  obtain rfl:b=it:=by simpa using hb
  obtain⟨o,e,c,d⟩:=st.2;exact⟨o,e,fun v z=>by rw[d] at z;cases z⟩
 keep:=fun i h h' st k=>⟨st.1,let ⟨o,ho,r⟩:=st.2;⟨o,k it (by simp) o ho,r⟩⟩
 item:=by
  intro X hP hw hK hc i pins s σ H E I hf st hg;subst hP hw hK;have hg:i<x.cps.size:=hg;obtain⟨f0,f1,f2,f3,f4,f5⟩:=hf it (by simp);refine wpAny_pyNext_wide_item st.2 (c:=x.cps[i]) (by simp[hg]) fun h' st' sb=>?_;have I1:Inv X pins σ H { s with heap:=h',toks:=s.toks+1 }:=I.turned (t':=s.toks+1) (fun b o hb e=>(sb.2 b hb).trans e) f0 f1 f3 f4 f5;obtain⟨o',e,c,dd⟩:=id st';exact⟨_,rfl,g8_ (s:={ s with heap:=h',toks:=s.toks+1 }) e c dd (by decide) ⟨.str ⟨#[x.cps[i]]⟩,H,I1,⟨_,rfl⟩,⟨rfl,_,by simp[hg],rfl⟩,⟨hg,st'⟩,fun b hb=>(hf b hb).1⟩⟩
 done:=by
  intro X hP hw hK hc i pins s σ H E I hf st hg;subst hP hw hK;have hg:x.cps.size<=i:=hg;obtain⟨f0,f1,f2,f3,f4,f5⟩:=hf it (by simp);exact wpAny_pyNext_wide_end (I.ok.hd hc) st.2 (by simp[hg]) fun h' eb=>⟨rfl,I.turned (t':=s.toks) (fun b o hb e=>eb b o hb e) f0 f1 f3 f4 f5⟩
 self:=fun _ _ _ _ _ st h=>wpAny_pyIter_striter_wide st.2 h
def iStr(tl:TE):TI:=fun σ H R=>tl σ H fun v H1=>∃x,v=.str x/\R (Its x) H1
theorem kd_{X:Cx}{tg l:Expr}{tl:TE}(hl:PE X l tl):PI X tg l (iStr tl):=by
 intro pins s σ H R I h;refine thn (hl pins s σ H _ I h) fun v s1 ⟨y,H1,I1,r1,x,e,q⟩=>?_;subst e;obtain⟨t,rfl⟩:=r1
 have fp:∀b∈[s1.heap.objs.size],FpOk X pins H1 b:=fun b hb=>by
  obtain rfl:b=s1.heap.objs.size:=by simpa using hb
  exact I1.fpOk (af' _) (I1.hok.fresh (af' _))
 cases ha:x.cps.all (· < 128)
 ·refine wpAny_pyIter_wide ha ?_;exact⟨s1.heap.objs.size,[s1.heap.objs.size],_,_,H1,rfl,I1.kept (t':=s1.toks) fun b o e=>Heap.get?_push_of_some _ e,gb_ _ x t,⟨aE' _,_,Heap.get?_push_size _ rfl,rfl,rfl⟩,fp,q⟩
 ·refine wpAny_pyIter_ascii ha ?_;exact⟨s1.heap.objs.size,[s1.heap.objs.size],_,_,H1,rfl,I1.kept (t':=s1.toks) fun b o e=>Heap.get?_push_of_some _ e,ft_ _ x t,⟨aE' _,_,Heap.get?_push_size _ rfl,rfl,rfl⟩,fp,q⟩
end L2
namespace L2
open PySem PySem.Spec PyProof.Rows PySem.W EvS EvD
theorem opK{X:Cx}{f:Value->Value->Sem Value}{K:F__}(r:F__->R2)(h:OpR X f (r X.K))(hK:X.K=K:=by rfl):OpR X f (r K):=by
 subst hK;exact h
theorem callK{X:Cx}{f:Value}{K:F__}(r:F__->List V->Hp->VK->Prop)(h:br' X f (r X.K))(hK:X.K=K:=by rfl):br' X f (r K):=by
 subst hK;exact h
theorem ixK{X:Cx}{K:F__}(r:F__->R2)(h:IxR X (r X.K))(hK:X.K=K:=by rfl):IxR X (r K):=by
 subst hK;exact h
theorem du_{X:Cx}{N:List Str}{scope:Scope}{fp:List Addr}{s:Shared}{H:Hp}{es:List Expr}{k:Nat}{pos:Pos}{t:TGs}{n:Nat}(h:PGs (bi' X N scope fp s H) es t)(hc:X.calm=true:=by rfl)
  (hn:(assignEach es (bi' X N scope fp s H).env).length=n:=by rfl) (hst:(assignEach es (bi' X N scope fp s H).env).findIdx? (·.1)=none:=by rfl):PG (bi' X N scope fp s H) (.Tuple es k pos) (gTup X.K n t):=b8_ (X:=bi' X N scope fp s H) hc h hn hst
end L2
namespace Ev
open PySem L2
def top(i:Nat):Stmt:=PySem.Challenge.pw_evenpieces_k30_what_turns_give.main.body.getD i (.Pass ⟨0,0,0,0⟩)
abbrev sIsW:Stmt:=top 12
abbrev sWhole:Stmt:=top 14
abbrev sName:Stmt:=top 15
abbrev cG':Stmt:=top 16
abbrev sPair:Stmt:=top 17
abbrev cI':Stmt:=top 18
abbrev sAnew:Stmt:=top 19
abbrev sHand:Stmt:=top 48
abbrev sStr:Stmt:=top 49
abbrev sTies:Stmt:=top 50
abbrev sNear:Stmt:=top 51
abbrev sWeb:Stmt:=top 53
def ltS(a b:Str):Bool:=decide (a.cps.toList<b.cps.toList)
def ord2(a b:Str):Str × Str:=if ltS a b=true then (a,b) else (b,a)
section
variable{P:Program}{w:World}{K:F__}{mg:Str->Option Value}{base:Heap}
theorem f__{N p:List Str}{c:Scope}(h:a4' N p c:=by exact⟨rfl,rfl,rfl,by decide +kernel,rfl,by decide +kernel,by decide +kernel⟩):a4' N p c:=h
theorem scLesser:a4' ["one","other"] ["one","other"] (a3' cG'):=f__
def b4':Sp:=fun vs H Q _=>∃a b,vs=[.str a,.str b]/\∀t,H t=none->Q (.ref t) (upd H t (.tup [.str (ord2 a b).1,.str (ord2 a b).2]))
theorem gs_{f:Addr}{fd:FuncData}(F:Fun K "lesser_first" "lesser_first" cG' f fd):FnOk P w K mg base CX0 1 f fd ["one","other"] b4':=by
 refine F.ok scLesser (fun vs H Q E h=>?_) (fun cdv A outer s H vs Q E hr h=>?_)
 ·obtain⟨a,b,rfl,_⟩:=h;rfl
 ·obtain⟨a,b,rfl,k⟩:=h;refine⟨_,a5_ (ab_ (h1_ (an_ fJ_ (pv 0) (pv 1) (nomark _)) (aL_ (a0_ (pv 0) (a0_ (pv 1) a3_))) (aL_ (a0_ (pv 1) (a0_ (pv 0) a3_))))),?_⟩;refine⟨_,rfl,_,rfl,a,b,rfl,rfl,_,rfl,?_⟩;refine ite2 (fun c=>?_) (fun c=>?_)
  ·refine⟨_,rfl,_,rfl,by show 2<=sizeLine;decide,fun t ht=>?_⟩;have:=k t ht;rwa [show ord2 a b=(a,b) from if_pos c] at this
  ·refine⟨_,rfl,_,rfl,by show 2<=sizeLine;decide,fun t ht=>?_⟩;have:=k t ht;rwa [show ord2 a b=(b,a) from if_neg c] at this
theorem scWhole:a4' ["thing","least","most"] ["thing","least","most"] (a3' sWhole):=f__
def cK':Sp:=fun vs H Q _=>∃i a b:Int,vs=[.int i,.int a,.int b]/\Q (.bl (decide (a<=i)&&decide (i<=b))) H
structure Bi (mg:Str->Option Value):Prop where
 isi:mg "isinstance"=none
 int:mg "int"=none
 bool:mg "bool"=none
 str:mg "str"=none
 tuple:mg "tuple"=none
 list:mg "list"=none
 dict:mg "dict"=none
 len:mg "len"=none
 all:mg "all"=none
 sorted:mg "sorted"=none
 max:mg "max"=none
 range:mg "range"=none
 any:mg "any"=none
 enum:mg "enumerate"=none
 min:mg "min"=none
 abs:mg "abs"=none
structure Cal (P:Program) (w:World) (K:F__) (mg:Str->Option Value) (base:Heap) (k:Nat) (x:Str) (ps:List Str) (sp:Sp):Prop where
 ex:∃f fd,FnOk P w K mg base CX0 k f fd ps sp/\mg x=some (.ref f)/\PySem.W.keepIn K (.ref f)=true/\bV' K fd ps []
theorem af_{X:Cx}{k:Nat}{x:Str}{ps:List Str}{sp:Sp}{p pos:Pos}{e:Expr}{es:List Expr}{t:TA}(c:Cal X.prog X.w X.K X.mg X.base k x ps sp)(hr:Room k X.A)(ha:PA X (e::es) t)(hg:Gl X x:=by rfl)(hdb:(x == ("__debug__":Str))=false:=by decide)
  (he:starEach (e::es) X.env=(false,eval e X.env)::starEach es X.env:=by rfl) (hpl:(backTo pos (starEach es X.env)).any (·.1)=false:=by rfl):PE X (.Call (.Name x p) (e::es) [] pos) (tCall sp [] E0 t):=by
 obtain⟨f,fd,F,m,kp,b⟩:=c.ex;exact jl_ F hr hg m kp b .nil pass0 ha hdb he hpl
theorem scIsW:a4' ["thing"] ["thing"] (a3' sIsW):=f__
def spIsW:Sp:=fun vs H Q _=>∃i:Int,vs=[.int i]/\Q (.bl true) H
theorem jT_{f:Addr}{fd:FuncData}(F:Fun K "is_whole" "is_whole" sIsW f fd)(B:Bi mg):FnOk P w K mg base CX0 1 f fd ["thing"] spIsW:=by
 refine F.ok scIsW (fun vs H Q E h=>?_) (fun cdv A outer s H vs Q E hr h=>?_)
 ·obtain⟨i,rfl,_⟩:=h;rfl
 ·obtain⟨i,rfl,k⟩:=h;refine⟨_,a5_ (ab_ (br_ (ac_ aU_ (by rfl) B.isi PyProof.Rows.Boot.«isinstance» (a0_ (pv 0) (a0_ (b2_ (v:=.ty "int") (by rfl) B.int PyProof.Rows.Boot.«int» rfl) a3_))) (bd_ (k9_ (ac_ aU_ (by rfl) B.isi PyProof.Rows.Boot.«isinstance» (a0_ (pv 0) (a0_ (b2_ (v:=.ty "bool") (by rfl) B.bool PyProof.Rows.Boot.«bool» rfl) a3_))))))),?_⟩;exact⟨_,rfl,_,_,_,_,rfl,.int i,rfl,_,rfl,iteT ⟨_,rfl,_,_,_,_,rfl,.int i,rfl,_,rfl,k⟩⟩
theorem hH_{f:Addr}{fd:FuncData}(F:Fun K "is_whole_within" "is_whole_within" sWhole f fd)(cI:Cal P w K mg base 1 "is_whole" ["thing"] spIsW):FnOk P w K mg base CX0 2 f fd ["thing","least","most"] cK':=by
 refine F.ok scWhole (fun vs H Q E h=>?_) (fun cdv A outer s H vs Q E hr h=>?_)
 ·obtain⟨i,a,b,rfl,_⟩:=h;rfl
 ·obtain⟨i,a,b,rfl,k⟩:=h;refine⟨_,a5_ (ab_ (br_ (af_ cI hr (a0_ (pv 0) a3_)) (bd_ (f2_ eo_ eo_ (pv 1) (pv 0) (pv 2))))),?_⟩;refine⟨_,rfl,i,rfl,_,rfl,iteT ?_⟩;refine⟨_,rfl,_,rfl,_,_,rfl,rfl,_,rfl,?_⟩;refine ite2 (fun c=>?_) (fun c=>?_)
  ·refine⟨_,rfl,_,_,rfl,rfl,?_⟩;rw[c] at k;exact k
  ·rw[show decide (a<=i)=false by simpa using c] at k;exact k
def okc(c:Nat):Bool:=decide (97<=c)&&decide (c<=122)
def bw'(x:Str):Bool:=decide (1<=x.length)&&decide (x.length<=8)&&x.cps.toList.all okc
theorem scName:a4' ["thing"] ["thing"] (a3' sName):=f__
def c7':Sp:=fun vs H Q _=>∃x:Str,vs=[.str x]/\x.length<=100000/\∀H',Same H H'->Q (.bl (bw' x)) H'
theorem jx_{c:Nat}:(!decide ((⟨#[c]⟩:Str).cps.toList<("a":Str).cps.toList))=decide (97<=c):=by
 have e:("a":Str).cps.toList=[97]:=by decide +kernel
 rw[e];show (!decide ([c] < [97]))=decide (97<=c);by_cases h:97<=c
 ·have:¬[c] < [97]:=by simp[List.cons_lt_cons_iff];omega
  simp[this,h]
 ·have:[c] < [97]:=by simp[List.cons_lt_cons_iff];omega
  simp[this,h]
theorem j4_{c:Nat}:(!decide (("z":Str).cps.toList<(⟨#[c]⟩:Str).cps.toList))=decide (c<=122):=by
 have e:("z":Str).cps.toList=[122]:=by decide +kernel
 rw[e];show (!decide ([122] < [c]))=decide (c<=122);by_cases h:c<=122
 ·have:¬[122] < [c]:=by simp[List.cons_lt_cons_iff];omega
  simp[this,h]
 ·have:[122] < [c]:=by simp[List.cons_lt_cons_iff];omega
  simp[this,h]
theorem jm_{f:Addr}{fd:FuncData}(F:Fun K "is_name" "is_name" sName f fd)(B:Bi mg){t8:Tok}(m8:mg "MOST_LETTERS"=some (.int 8 t8)):FnOk P w K mg base CX0 1 f fd ["thing"] c7':=by
 refine F.ok scName (fun vs H Q E h=>?_) (fun cdv A outer s H vs Q E hr h=>?_)
 ·obtain⟨x,rfl,_⟩:=h;rfl
 ·obtain⟨x,rfl,hz,k⟩:=h;have sz:=sizeLine_eq
  refine⟨_,a2_ (aB_ (dv_ (aQ_ (aJ_ (ac_ aU_ (by rfl) B.isi PyProof.Rows.Boot.«isinstance» (a0_ (pv 0) (a0_ (b2_ (v:=.ty "str") (by rfl) B.str PyProof.Rows.Boot.«str» rfl) a3_)))))
    (ce_ (aQ_ (f0_ eo_ eo_ a7_ (ac_ cf_ (by rfl) B.len PySem.boot_len (a0_ (pv 0) a3_)) (bM_ (v:=.int 8) (by rfl) m8 ⟨t8,rfl⟩))))).pt (a5_ (ab_ el_)) ae_)
   (a5_ (ab_ (ac_ (ha_ rfl) (by rfl) B.all PyProof.Rows.Boot.«all» (a0_
    (aN_ ["letter"] 1 [] (kd_ (pv 0)) (fun fp s H=>a8_ (i:=0) (show (["letter"]:List Str).Nodup by decide +kernel) rfl (Or.inl rfl)) (fun fp s H=>aS_) (fun fp s H=>f2_ dT_ dT_ aC_ (pv 0) aC_)) a3_)))),?_⟩
  refine⟨_,rfl,_,_,_,_,rfl,.str x,rfl,_,rfl,?_⟩;refine iteF ?_;refine⟨_,rfl,x,rfl,by omega,_,_,rfl,rfl,_,rfl,?_⟩
  have fin:(decide (1<=x.length)&&decide (x.length<=8))=false->∀H',Same H H'->Q (.bl false) H':=fun e H' sm=>by
   have:=k H' sm;rwa [show bw' x=false by unfold bw';rw[e];rfl] at this
  refine ite2 (fun c=>?_) (fun c=>?_)
  ·have c1:1<=x.length:=by
    have:(1:Int)<=(x.length:Int):=by simpa using c
    omega
   refine⟨_,_,rfl,rfl,_,rfl,?_⟩;refine ite2 (fun c2=>?_) (fun c2=>?_)
   ·-- too long
    have c3:¬x.length<=8:=by
     have:¬((x.length:Int)<=8):=by simpa using c2
     omega
    exact fin (by rw[decide_eq_false c3,aS']) H (Same.refl H)
   ·have c3:x.length<=8:=by
     have:(x.length:Int)<=8:=by simpa using c2
     omega
    refine⟨_,rfl,x,rfl,fun D hD=>?_⟩;refine c0_ (own:=1) (fv:=[]) rfl gok1 x.cps.size (fun i out H'=>H'=upd H D (.lst out)/\out=((x.cps.toList.take i).map okc).map V.bl) ⟨rfl,by simp⟩ (fun out H' ⟨e1,e2⟩=>?_) (fun i out H' hi ⟨e1,e2⟩=>?_)
    ·refine⟨af' _,D,x.cps.toList.map okc,rfl,.of ?_,?_⟩
     ·rw[e1,a1_,e2,aQ' (by simp)]
     ·have:=k H' (by rw[e1];exact Same.new hD);rwa [show bw' x=(x.cps.toList.map okc).all id by unfold bw';rw[decide_eq_true c1,decide_eq_true c3,List.all_map];rfl] at this
    ·refine⟨hi,fun v H2 y=>?_⟩;obtain⟨eH,c,hc,rfl⟩:=y;subst eH;refine⟨_,rfl,rfl,fun Nx hN=>yesT ?_⟩
     have lo:out.length<sizeLine:=by
      rw[e2];have hs:x.length=x.cps.size:=rfl;simp only[aa',ak',aL'];omega
     have nx:Nx (upd H2 D (.lst (out++[V.bl (okc c)]))):=hN (out++[V.bl (okc c)]) _ ⟨by rw[e1,j3_],by
      rw[e2,aw'];simp[hc]⟩
     have atD:H2 D=some (.lst out):=by rw[e1,a1_]
     refine⟨_,rfl,_,_,rfl,rfl,_,rfl,?_⟩;rw[jx_];refine ite2 (fun c2=>?_) (fun c2=>?_)
     ·refine⟨_,_,rfl,rfl,out,atD,lo,?_⟩;rw[j4_];rwa [show okc c=decide (c<=122) by unfold okc;rw[c2];rfl] at nx
     ·refine⟨out,atD,lo,?_⟩;rwa [show okc c=false by unfold okc;rw[show decide (97<=c)=false by simpa using c2];rfl] at nx
  ·have c1:¬1<=x.length:=by
    have:¬((1:Int)<=(x.length:Int)):=by simpa using c
    omega
   exact⟨_,rfl,iteT (fin (by rw[decide_eq_false c1];rfl) H (Same.refl H))⟩
end
end Ev
namespace Ev
open PySem L2
def kT(t:Str × Str):List Key:=[.inr t.1,.inr t.2]
def cS'(t:Str × Str):Prop:=bw' t.1=true/\bw' t.2=true/\t.1≠t.2
theorem bV_{x:Str}(h:bw' x=true):x.length<=8:=by
 unfold bw' at h;simp only[aY',decide_eq_true_eq] at h;exact h.1.2
theorem hpT{H:Hp}{p:Addr}{t:Str × Str}(h:H p=some (.tup ((kT t).map kV))):H p=some (.tup [.str t.1,.str t.2]):=h
section
variable{P:Program}{w:World}{K:F__}{mg:Str->Option Value}{base:Heap}
theorem scPair:a4' ["thing"] ["thing"] (a3' sPair):=f__
def spPair:Sp:=fun vs H Q _=>∃(p:Addr) (a b:Str),vs=[.ref p]/\H p=some (.tup [.str a,.str b])/\a.length<=100000/\b.length<=100000/\∀H',Same H H'->Q (.bl (bw' a&&bw' b&&!decide (a=b))) H'
theorem jy_{f:Addr}{fd:FuncData}(F:Fun K "is_pair_of_names" "is_pair_of_names" sPair f fd)(B:Bi mg)(cN:Cal P w K mg base 1 "is_name" ["thing"] c7'):FnOk P w K mg base CX0 2 f fd ["thing"] spPair:=by
 refine F.ok scPair (fun vs H Q E h=>?_) (fun cdv A outer s H vs Q E hr h=>?_)
 ·obtain⟨p,a,b,rfl,_⟩:=h;rfl
 ·obtain⟨p,a,b,rfl,hp,la,lb,k⟩:=h
  refine⟨_,a2_ (aB_ (dv_ (aQ_ (aJ_ (ac_ aU_ (by rfl) B.isi PyProof.Rows.Boot.«isinstance» (a0_ (pv 0) (a0_ (b2_ (v:=.ty "tuple") (by rfl) B.tuple PyProof.Rows.Boot.«tuple» rfl) a3_)))))
    (ce_ (an_ ej_ (ac_ ai_ (by rfl) B.len PySem.boot_len (a0_ (pv 0) a3_)) a7_ (nomark _)))).pt (a5_ (ab_ el_)) ae_)
   (a5_ (ab_ (br_ (af_ cN hr (a0_ (az_ aM_ (pv 0) a7_ (fun _ _=>rfl)) a3_)) (br_ (af_ cN hr (a0_ (az_ aM_ (pv 0) a7_ (fun _ _=>rfl)) a3_))
    (bd_ (aG_ ej_ (az_ aM_ (pv 0) a7_ (fun _ _=>rfl)) (az_ aM_ (pv 0) a7_ (fun _ _=>rfl)) (nomark _))))))),?_⟩
  refine⟨_,rfl,_,_,_,_,rfl,.tup hp,rfl,_,rfl,iteF ?_⟩;refine⟨_,rfl,p,_,rfl,.inr (.of hp),rfl,_,rfl,?_⟩;refine iteNS (show V.int ((2:Nat):Int)=V.int 2 from rfl) ?_;refine⟨_,rfl,p,_,_,_,rfl,rfl,.of hp,rfl,a,rfl,la,fun H1 s1=>⟨_,rfl,?_⟩⟩;have hp1:=s1 _ _ hp;refine ite2 (fun c=>?_) (fun c=>?_)
  ·refine⟨_,rfl,p,_,_,_,rfl,rfl,.of hp1,rfl,b,rfl,lb,fun H2 s2=>⟨_,rfl,?_⟩⟩;have hp2:=s2 _ _ hp1;have kk:=k H2 (s1.trans s2);refine ite2 (fun c2=>?_) (fun c2=>?_)
   ·refine⟨_,rfl,p,_,_,_,rfl,rfl,.of hp2,rfl,_,rfl,p,_,_,_,rfl,rfl,.of hp2,rfl,rfl,?_⟩;rw[c,c2] at kk
    have e:decide (V.str a=V.str b)=decide (a=b):=by
     by_cases z:a=b
     ·simp[z]
     ·simp[z]
    show Q (.bl (!decide (V.str a=V.str b))) H2;rw[e];exact kk
   ·rw[c,show bw' b=false by simpa using c2] at kk;exact kk
  ·have kk:=k H1 s1;rw[show bw' a=false by simpa using c] at kk;exact kk
theorem b5':a4' ["ties","found","pair","tie"] ["ties"] (a3' cI'):=f__
def cp'(K:F__):Sp:=fun vs H Q _=>∃(l:Addr) (ys:List V) (ts:Xb),vs=[.ref l]/\H l=some (.lst ys)/\a5' K H ys (ts.map kT)/\(∀t∈ts,cS' t)/\(ts.map fun t=>kT (ord2 t.1 t.2)).Nodup/\ts.length<64 /\
 ∀l' zs H',Same H H'->H l'=none->H' l'=some (.lst zs)->a5' K H' zs (sortKs (ts.map fun t=>kT (ord2 t.1 t.2)))->Q (.ref l') H'
theorem am_{α β γ:Type}{F:α->γ->Prop}{g:β->γ}{ys:List α}{ts:List β}(t:Paired F ys (ts.map g)){i:Nat}{y:α}(h:ys[i]? = some y):∃x,ts[i]? = some x/\F y (g x):=by
 have hi:i<ys.length:=(ab'.mp h).1;have hl:=Paired.length t;rw[aa'] at hl;have:=paired_get t i hi (by rw[aa'];omega);rw[List.getElem_map] at this;refine⟨ts[i],ac' (by omega),?_⟩;rw[(ab'.mp h).2] at this;exact this
theorem aP_{κ:Type}[DecidableEq κ]{kvs:List (κ × V)}{k:κ}(h:k∉kvs.map (·.1)):valV kvs k=none:=by
 cases e:valV kvs k with
 |none=>rfl
 |some v=>exact absurd (iC_ e) h
theorem aW_{α β:Type}(g:α->β){ts:List α}{i:Nat}{x:α}(h:ts[i]? = some x):(ts.take (i+1)).map g=(ts.take i).map g++[g x]:=by
 rw[aw',h,an'];rfl
theorem bh_{α β:Type}{g:α->β}{ts:List α}{i:Nat}{x:α}(h:(ts.map g).Nodup)(hx:ts[i]? = some x):g x∉(ts.take i).map g:=by
 intro m;have hi:i<ts.length:=(ab'.mp hx).1;obtain⟨y,hy,e⟩:=ad'.mp m;obtain⟨j,hj,e2⟩:=aD' hy;rw[ak'] at hj;rw[List.getElem_take] at e2;rw[ay',aH',List.pairwise_iff_getElem] at h;refine h j i (by omega) hi (by omega) ?_;rw[e2,e,(ab'.mp hx).2]
theorem fQ_{f:Addr}{fd:FuncData}(F:Fun K "sorted_ties" "sorted_ties" cI' f fd)(B:Bi mg)(cP:Cal P w K mg base 2 "is_pair_of_names" ["thing"] spPair)(cL:Cal P w K mg base 1 "lesser_first" ["one","other"] b4'):FnOk P w K mg base CX0 3 f fd ["ties"] (cp' K):=by
 refine F.ok b5' (fun vs H Q E h=>?_) (fun cdv A outer s H vs Q E hr h=>?_)
 ·obtain⟨l,ys,ts,rfl,_⟩:=h;rfl
 ·obtain⟨l,ys,ts,rfl,hl,tu,good,nd,h64,k⟩:=h;have hu:=b5_ hr;have hr1:Room 1 _:=hr.mono (by decide);have sz:=sizeLine_eq
  refine⟨_,a2_ (aB_ (aQ_ (aJ_ (ac_ aU_ (by rfl) B.isi PyProof.Rows.Boot.«isinstance» (a0_ (pv 0) (a0_ (b2_ (v:=.ty "list") (by rfl) B.list PyProof.Rows.Boot.«list» rfl) a3_))))) ah_ ae_)
   (a2_ (aa_ (i:=1) b5'.nd rfl (Or.inl rfl) hs_)
   (a2_ (aK_ PassesOwn.never rfl (ak_ (pv 0)) (a8_ (i:=2) b5'.nd rfl (Or.inl rfl))
    (a2_ (aB_ (aQ_ (aJ_ (af_ cP hr (a0_ (pv 2) a3_)))) ah_ ae_)
    (a2_ (aa_ (i:=3) b5'.nd rfl (Or.inl rfl) (af_ cL hr1 (a0_ (az_ aM_ (pv 2) a7_ (fun _ _=>rfl)) (a0_ (az_ aM_ (pv 2) a7_ (fun _ _=>rfl)) a3_))))
    (a2_ (aB_ (ch_ (d1_ hu (pv 3) (pv 1))) ah_ ae_)
    (a5_ (bc_ hu (pv 1) (pv 3) el_ rfl))))))
   (a5_ (ab_ (ac_ (ei_ rfl) (by rfl) B.sorted PyProof.Rows.Boot.«sorted» (a0_ (pv 1) a3_)))))),?_⟩
  refine⟨_,rfl,_,_,_,_,rfl,.lst hl,rfl,_,rfl,iteF ?_⟩;intro d hd;have s0:Same H (upd H d (.dT [])):=Same.new hd;refine⟨_,rfl,l,rfl,⟨_,.of (s0 _ _ hl)⟩,as_ (K:=K) (a:=l) (xs:=ys) (fun i σ H2=>∃(v3 v4:Option V),σ=[some (.ref l),some (.ref d),v3,v4]/\Same H H2/\H2 d=some (.dT ((ts.take i).map fun t=>(kT (ord2 t.1 t.2),V.bl true)))) ⟨none,none,rfl,s0,a1_⟩ (fun i σ H2 _ ⟨_,_,_,s2,_⟩=>.of (s2 _ _ hl)) ?_ ?_⟩
  ·rintro i y σ H2 hy ⟨v3,v4,rfl,s2,hd2⟩;obtain⟨t,ht,a,rfl,ha⟩:=am_ tu hy;obtain⟨g1,g2,g3⟩:=good t (ae' ht);have ha2:=s2 _ _ (hpT ha);refine⟨_,rfl,a,t.1,t.2,rfl,ha2,by have:=bV_ g1;omega,by have:=bV_ g2;omega,fun H3 s3=>⟨_,rfl,?_⟩⟩;have ha3:=s3 _ _ ha2;have hd3:=s3 _ _ hd2;rw[g1,g2,decide_eq_false g3];refine iteF ?_;refine⟨_,rfl,a,_,_,_,rfl,rfl,.of ha3,rfl,_,rfl,a,_,_,_,rfl,rfl,.of ha3,rfl,t.1,t.2,rfl,fun b hb=>?_⟩;have s4:Same H3 (upd H3 b (.tup [.str (ord2 t.1 t.2).1,.str (ord2 t.1 t.2).2])):=Same.new hb;have hd4:=s4 _ _ hd3;have hb4:upd H3 b (.tup [.str (ord2 t.1 t.2).1,.str (ord2 t.1 t.2).2]) b=some (.tup ((kT (ord2 t.1 t.2)).map kV)):=a1_
   have nov:valV ((ts.take i).map fun t=>(kT (ord2 t.1 t.2),V.bl true)) (kT (ord2 t.1 t.2))=none:=aP_ (by
    rw[ao'];exact bh_ (g:=fun t=>kT (ord2 t.1 t.2)) nd ht)
   refine⟨_,rfl,_,rfl,d,_,rfl,.t (k:=kT (ord2 t.1 t.2)) hd4 hb4,_,rfl,?_⟩;rw[nov];refine iteF ?_;refine⟨_,rfl,_,rfl,d,_,rfl,.t (k:=kT (ord2 t.1 t.2)) hd4 hb4 (by rw[aa',ak'];omega),?_⟩;refine⟨_,_,rfl,fun c o e=>?_,?_⟩
   ·rw[a4_ (a6_ e hd)];exact s4 _ _ (s3 _ _ (s2 _ _ e))
   ·rw[a1_,bF_ _ nov,aW_ _ ht]
  ·rintro σ H2 ⟨v3,v4,rfl,s2,hd2⟩;have le:=Paired.length tu;rw[aa'] at le;rw[le,am'] at hd2;refine⟨_,rfl,d,_,[true,true],rfl,hd2,⟨by decide,fun k hk=>?_⟩,by rw[aa'];exact h64,fun l' zs hn tz=>?_⟩
   ·rw[ao'] at hk;obtain⟨t,_,rfl⟩:=ad'.mp hk;rfl
   ·rw[ao'] at tz;exact k l' zs _ (s2.trans (Same.new hn)) (s2.free hn) a1_ (tz.same (Same.new hn))
theorem scAnew:a4' ["ties"] ["ties"] (a3' sAnew):=f__
def spAnew(K:F__):Sp:=fun vs H Q _=>∃(l:Addr) (ys:List V) (ts:Xb),vs=[.ref l]/\H l=some (.lst ys)/\a5' K H ys (ts.map kT)/\ts.length<=1000 /\
 ∀l' zs H',Same H H'->H l'=none->H' l'=some (.lst zs)->a5' K H' zs (ts.map kT)->Q (.ref l') H'
theorem ba_{K:F__}{H:Hp}{ys:List V}{ks:List (List Key)}{a:Addr}{k:List Key}(t:a5' K H ys ks)(h:H a=some (.tup (k.map kV))):a5' K H (ys++[.ref a]) (ks++[k]):=Paired.snoc t ⟨a,rfl,h⟩
theorem ao_{H H1:Hp}{D:Addr}{o:HO}(h:Same H H1)(hD:H D=none):Same H (upd H1 D o):=fun b u e=>by rw[a4_ (a6_ e hD)];exact h b u e
theorem b7_{K:F__}{H:Hp}{ys:List V}{ks:List (List Key)}{D:Addr}{o:HO}{xs:List V}(t:a5' K H ys ks)(hD:H D=some (.lst xs)):a5' K (upd H D o) ys ks:=Paired.mapP t fun y k ⟨a,z,q⟩=>⟨a,z,by rw[a4_ (ax_ q hD nofun)];exact q⟩
theorem ju_{f:Addr}{fd:FuncData}(F:Fun K "ties_anew" "ties_anew" sAnew f fd):FnOk P w K mg base CX0 1 f fd ["ties"] (spAnew K):=by
 refine F.ok scAnew (fun vs H Q E h=>?_) (fun cdv A outer s H vs Q E hr h=>?_)
 ·obtain⟨l,ys,ts,rfl,_⟩:=h;rfl
 ·obtain⟨l,ys,ts,rfl,hl,tu,hz,k⟩:=h;have sz:=sizeLine_eq
  refine⟨_,a5_ (ab_ (aN_ ["one","other"] 2 [] (ak_ (pv 0)) (fun fp s H=>du_ (n:=2) (ad_ (a8_ (i:=0) (show (["one","other"]:List Str).Nodup by decide +kernel) rfl (Or.inl rfl)) (ad_ (a8_ (i:=1) (show (["one","other"]:List Str).Nodup by decide +kernel) rfl (Or.inl rfl)) aO_)))
   (fun fp s H=>aS_) (fun fp s H=>aL_ (a0_ (pv 0) (a0_ (pv 1) a3_))))),?_⟩
  refine⟨_,rfl,l,rfl,⟨_,.of hl⟩,fun D hD=>?_⟩;have le:=Paired.length tu;rw[aa'] at le;refine aI_ (own:=2) (fv:=[]) (xs:=ys) rfl gok2 (fun i out H'=>Same H H'/\H' D=some (.lst out)/\a5' K H' out ((ts.take i).map kT)) ⟨Same.new hD,a1_,.nil⟩ (fun i out H' _ ⟨sm,_,_⟩=>.of (sm _ _ hl)) (fun out H' ⟨sm,hd,tz⟩=>?_) (fun i x out H' hx ⟨sm,hd,tz⟩=>?_)
  ·rw[le,am'] at tz;exact k D out H' sm hD hd tz
  ·obtain⟨t,ht,a,rfl,ha⟩:=am_ tu hx;refine⟨_,⟨a,_,_,rfl,.of (sm _ _ (hpT ha)),rfl⟩,rfl,fun Nx hN=>yesT ?_⟩;refine⟨_,rfl,_,rfl,by show 2<=sizeLine;decide,fun p hp=>⟨out,(Same.new hp) _ _ hd,?_,?_⟩⟩
   ·have:=Paired.length tz;rw[aa',ak'] at this;omega
   ·have hp2:upd H' p (.tup [.str t.1,.str t.2]) p=some (.tup ((kT t).map kV)):=a1_;refine hN (out++[.ref p]) _ ⟨ao_ (sm.trans (Same.new hp)) hD,a1_,?_⟩;rw[aW_ _ ht];exact b7_ (ba_ (tz.same (Same.new hp)) hp2) ((Same.new hp) _ _ hd)
end
end Ev
namespace Ev
open PySem L2
def kH(h:Str × Int):List Key:=[.inr h.1,.inl h.2]
def goodH(h:Str × Int):Prop:=bw' h.1=true/\1<=h.2/\h.2<=1000
def kvOf:List Key->Key × V
 |[k,v]=>(k,kV v)
 |_=>(.inl 0,.non)
def sortH(hs:Xa):List (Key × V):=(sortKs (hs.map kH)).map kvOf
theorem hpH{H:Hp}{p:Addr}{t:Str × Int}(h:H p=some (.tup ((kH t).map kV))):H p=some (.tup [.str t.1,.int t.2]):=h
theorem d4_:∀(more kvs:List (Key × V)),(kvs.map (·.1)++more.map (·.1)).Nodup->bs' kvs more=kvs++more
 |[],kvs,_=>by
  show kvs=kvs++[];rw[aJ']
 |p::more,kvs,h=>by
  show bs' (putK kvs p.1 p.2) more=kvs++p::more
  have hn:valV kvs p.1=none:=aP_ fun m=>by
   rw[ar',List.nodup_append] at h;exact h.2.2 p.1 m p.1 aj' rfl
  rw[bF_ _ hn,d4_ more (kvs++[(p.1,p.2)])]
  ·simp
  ·simpa using h
theorem aX_{more:List (Key × V)}(h:(more.map (·.1)).Nodup):bs' [] more=more:=by
 rw[d4_ more [] (by simpa using h)];rfl
theorem d2_(hs:Xa):((sortH hs).map (·.1)).Perm (hs.map fun h=>Sum.inr h.1):=by
 unfold sortH;rw[ao'];have p:=(al_ (hs.map kH)).map fun k=>(kvOf k).1;rw[ao'] at p;exact p
theorem cN_{hs:Xa}(h:(hs.map (·.1)).Nodup):((sortH hs).map (·.1)).Nodup:=by
 refine (d2_ hs).nodup_iff.mpr ?_;have:(hs.map fun h=>(Sum.inr h.1:Key))=(hs.map (·.1)).map Sum.inr:=by rw[ao'];rfl
 rw[this,ay',aH'];exact h.imp fun n e=>n (Sum.inr.inj e)
theorem cc'{k:Nat}{A:Around}(hr:Room k A)(n:Nat)(h:n+1<=64:=by decide):A.units+n+1<cLine:=by
 have:=hr.units;omega
section
variable{P:Program}{w:World}{K:F__}{mg:Str->Option Value}{base:Heap}
theorem scHand:a4' ["thing"] ["thing"] (a3' sHand):=f__
def spHand:Sp:=fun vs H Q _=>∃(p:Addr) (a:Str) (n:Int),vs=[.ref p]/\H p=some (.tup [.str a,.int n])/\a.length<=100000/\∀H',Same H H'->Q (.bl (bw' a&&(decide (1<=n)&&decide (n<=1000)))) H'
theorem iQ_{f:Addr}{fd:FuncData}(F:Fun K "is_hand_with_strength" "is_hand_with_strength" sHand f fd)(B:Bi mg)(cN:Cal P w K mg base 1 "is_name" ["thing"] c7')(cW:Cal P w K mg base 2 "is_whole_within" ["thing","least","most"] cK'){tk:Tok}(mS:mg "MOST_STRENGTH"=some (.int 1000 tk)) :
  FnOk P w K mg base CX0 3 f fd ["thing"] spHand:=by
 refine F.ok scHand (fun vs H Q E h=>?_) (fun cdv A outer s H vs Q E hr h=>?_)
 ·obtain⟨p,a,b,rfl,_⟩:=h;rfl
 ·obtain⟨p,a,n,rfl,hp,la,k⟩:=h;have hr1:Room 1 _:=hr.mono (by decide)
  refine⟨_,a2_ (aB_ (dv_ (aQ_ (aJ_ (ac_ aU_ (by rfl) B.isi PyProof.Rows.Boot.«isinstance» (a0_ (pv 0) (a0_ (b2_ (v:=.ty "tuple") (by rfl) B.tuple PyProof.Rows.Boot.«tuple» rfl) a3_)))))
    (ce_ (an_ ej_ (ac_ ai_ (by rfl) B.len PySem.boot_len (a0_ (pv 0) a3_)) a7_ (nomark _)))).pt (a5_ (ab_ el_)) ae_)
   (a5_ (ab_ (br_ (af_ cN hr1 (a0_ (az_ aM_ (pv 0) a7_ (fun _ _=>rfl)) a3_)) (bd_ (af_ cW hr (a0_ (az_ aM_ (pv 0) a7_ (fun _ _=>rfl)) (a0_ a7_ (a0_ (bM_ (v:=.int 1000) (by rfl) mS ⟨tk,rfl⟩) a3_)))))))),?_⟩
  refine⟨_,rfl,_,_,_,_,rfl,.tup hp,rfl,_,rfl,iteF ?_⟩;refine⟨_,rfl,p,_,rfl,.inr (.of hp),rfl,_,rfl,?_⟩;refine iteNS (show V.int ((2:Nat):Int)=V.int 2 from rfl) ?_;refine⟨_,rfl,p,_,_,_,rfl,rfl,.of hp,rfl,a,rfl,la,fun H1 s1=>⟨_,rfl,?_⟩⟩;have hp1:=s1 _ _ hp;have kk:=k H1 s1;refine ite2 (fun c=>?_) (fun c=>?_)
  ·refine⟨_,rfl,p,_,_,_,rfl,rfl,.of hp1,rfl,n,1,1000,rfl,?_⟩;rw[c] at kk;exact kk
  ·rw[show bw' a=false by simpa using c] at kk;exact kk
theorem scStr:a4' ["hands","found","hand"] ["hands"] (a3' sStr):=f__
def spStr(K:F__):Sp:=fun vs H Q _=>∃(l:Addr) (ys:List V) (hs:Xa),vs=[.ref l]/\H l=some (.lst ys)/\a5' K H ys (hs.map kH)/\(∀h∈hs,goodH h)/\(hs.map (·.1)).Nodup/\1<=hs.length/\hs.length<=8 /\
 ∀d H',Same H H'->H d=none->H' d=some (.dK (sortH hs))->Q (.ref d) H'
theorem kl_{f:Addr}{fd:FuncData}(F:Fun K "checked_strengths" "checked_strengths" sStr f fd)(B:Bi mg)(cH:Cal P w K mg base 3 "is_hand_with_strength" ["thing"] spHand){tk:Tok}(mH:mg "MOST_HANDS"=some (.int 8 tk)):FnOk P w K mg base CX0 4 f fd ["hands"] (spStr K):=by
 refine F.ok scStr (fun vs H Q E h=>?_) (fun cdv A outer s H vs Q E hr h=>?_)
 ·obtain⟨l,ys,hs,rfl,_⟩:=h;rfl
 ·obtain⟨l,ys,hs,rfl,hl,tu,good,nd,h1,h8,k⟩:=h;have hu:=b5_ hr;have sz:=sizeLine_eq;have le:=Paired.length tu;rw[aa'] at le
  refine⟨_,a2_ (aB_ (dv_ (aQ_ (aJ_ (ac_ aU_ (by rfl) B.isi PyProof.Rows.Boot.«isinstance» (a0_ (pv 0) (a0_ (b2_ (v:=.ty "list") (by rfl) B.list PyProof.Rows.Boot.«list» rfl) a3_)))))
    (ce_ (aQ_ (f0_ eo_ eo_ a7_ (ac_ ai_ (by rfl) B.len PySem.boot_len (a0_ (pv 0) a3_)) (bM_ (v:=.int 8) (by rfl) mH ⟨tk,rfl⟩))))).pt ah_ ae_)
   (a2_ (aa_ (i:=1) scStr.nd rfl (Or.inl rfl) bk_)
   (a2_ (aK_ PassesOwn.never rfl (ak_ (pv 0)) (a8_ (i:=2) scStr.nd rfl (Or.inl rfl))
    (a2_ (aB_ (aQ_ (aJ_ (af_ cH hr (a0_ (pv 2) a3_)))) ah_ ae_)
    (a2_ (aB_ (ch_ (d1_ hu (az_ aM_ (pv 2) a7_ (fun _ _=>rfl)) (pv 1))) ah_ ae_)
    (a5_ (bc_ hu (pv 1) (az_ aM_ (pv 2) a7_ (fun _ _=>rfl)) (az_ aM_ (pv 2) a7_ (fun _ _=>rfl)) rfl)))))
   (a5_ (ab_ (aw_ (aR_ rfl) (by rfl) B.dict PyProof.Rows.Boot.«dict» (a0_ (ac_ (fx_ rfl) (by rfl) B.sorted PyProof.Rows.Boot.«sorted» (a0_ (cn_ (pv 1)) a3_)) a3_)))))),?_⟩
  refine⟨_,rfl,_,_,_,_,rfl,.lst hl,rfl,_,rfl,iteF ?_⟩;refine⟨_,rfl,l,_,rfl,.inl (.of hl),_,_,rfl,rfl,_,rfl,?_⟩;rw[decide_eq_true (show (1:Int)<=(ys.length:Int) by omega)];refine iteT ⟨_,_,rfl,rfl,_,rfl,?_⟩;rw[decide_eq_true (show (ys.length:Int)<=8 by omega)];refine iteF ?_;intro d hd;have s0:Same H (upd H d (.dK [])):=Same.new hd;refine⟨_,rfl,l,rfl,⟨_,.of (s0 _ _ hl)⟩,as_ (K:=K) (a:=l) (xs:=ys) (fun i σ H2=>∃(v2:Option V),σ=[some (.ref l),some (.ref d),v2]/\Same H H2/\H2 d=some (.dK ((hs.take i).map fun h=>(Sum.inr h.1,V.int h.2)))) ⟨none,rfl,s0,a1_⟩ (fun i σ H2 _ ⟨_,_,s2,_⟩=>.of (s2 _ _ hl)) ?_ ?_⟩
  ·rintro i y σ H2 hy ⟨v2,rfl,s2,hd2⟩;obtain⟨t,ht,a,rfl,ha⟩:=am_ tu hy;obtain⟨g1,g2,g3⟩:=good t (ae' ht);have ha2:=s2 _ _ (hpH ha);refine⟨_,rfl,a,t.1,t.2,rfl,ha2,by have:=bV_ g1;omega,fun H3 s3=>⟨_,rfl,?_⟩⟩;have ha3:=s3 _ _ ha2;have hd3:=s3 _ _ hd2;rw[g1,decide_eq_true g2,decide_eq_true g3];refine iteF ?_
   have nov:valV ((hs.take i).map fun h=>((Sum.inr h.1:Key),V.int h.2)) (Sum.inr t.1)=none:=aP_ (by
    rw[ao'];have q:=bh_ (g:=fun h:Str × Int=>h.1) nd ht;intro m;obtain⟨h,hh,e⟩:=ad'.mp m;exact q (ad'.mpr ⟨h,hh,Sum.inr.inj e⟩))
   refine⟨_,rfl,a,_,_,_,rfl,rfl,.of ha3,rfl,_,rfl,d,_,rfl,.k (k:=Sum.inr t.1) hd3,_,rfl,?_⟩;rw[nov];refine iteF ?_;refine⟨_,rfl,a,_,_,_,rfl,rfl,.of ha3,rfl,_,rfl,_,rfl,a,_,_,_,rfl,rfl,.of ha3,rfl,d,_,rfl,.k (k:=Sum.inr t.1) hd3 (by rw[aa',ak'];omega),?_⟩;refine⟨_,rfl,fun c o e=>?_,?_⟩
   ·rw[a4_ (a6_ e hd)];exact s3 _ _ (s2 _ _ e)
   ·rw[a1_,bF_ _ nov,aW_ _ ht]
  ·rintro σ H2 ⟨v2,rfl,s2,hd2⟩;rw[le,am'] at hd2;refine⟨_,rfl,d,_,rfl,hd2,fun v hv=>?_⟩;have s3:Same H2 (upd H2 v (bn' v d)):=Same.new hv;refine⟨v,d,_,hs.map fun h=>(Sum.inr h.1,Sum.inl h.2),[true,false],rfl,a1_,s3 _ _ hd2,by rw[ao'];rfl,⟨by decide,fun q hq=>?_⟩,by rw[aa'];omega,fun l' H4 zs s4 hn tz=>?_⟩
   ·rw[ao'] at hq;obtain⟨h,_,rfl⟩:=ad'.mp hq;rfl
   ·have ez:((hs.map fun h=>((Sum.inr h.1:Key),(Sum.inl h.2:Key))).map fun k=>[k.1,k.2])=hs.map kH:=by rw[ao'];rfl
    rw[ez] at tz
    have pz:be' K (upd H4 l' (.lst zs)) zs (sortH hs):=by
     have shape:∀k∈sortKs (hs.map kH),∃a b,k=[a,b]:=fun k hk=>by
      obtain⟨h,_,e⟩:=ad'.mp ((al_ _).mem_iff.mp hk);exact⟨_,_,e.symm⟩
     have gen:∀(ks:List (List Key)) (zs:List V),(∀k∈ks,∃a b,k=[a,b])->a5' K (upd H4 l' (.lst zs)) zs ks->be' K (upd H4 l' (.lst zs)) zs (ks.map kvOf):=fun ks=>by
      intro zs;generalize upd H4 l' (.lst zs)=HH;intro sh t
      induction t with
      |nil=>exact .nil
      |cons h t ih=>
       obtain⟨a,b,rfl⟩:=sh _ aj';exact .cons h (ih fun k hk=>sh k (ag' _ hk))
     exact gen _ _ shape (tz.same (Same.new hn))
    refine⟨l',zs,_,rfl,a1_,pz,?_,fun d' hd'=>?_⟩
    ·have:=(d2_ hs).length_eq;simp only[aa'] at this;omega
    ·rw[aX_ (cN_ nd)];have sAll:Same H (upd H4 l' (.lst zs)):=(s2.trans (s3.trans s4)).trans (Same.new hn);exact k d' _ (sAll.trans (Same.new hd')) (sAll.free hd') a1_
theorem dc':a4' ["ties","strengths","found","one","other"] ["ties","strengths"] (a3' sTies):=f__
def spTies(K:F__):Sp:=fun vs H Q _=>∃(l d:Addr) (ys:List V) (ts:Xb) (kvs:List (Key × V)),vs=[.ref l,.ref d]/\H l=some (.lst ys)/\a5' K H ys (ts.map kT)/\(∀t∈ts,cS' t)/\(ts.map fun t=>kT (ord2 t.1 t.2)).Nodup/\ts.length<64 /\
 H d=some (.dK kvs)/\(∀t∈ts,(valV kvs (Sum.inr t.1)).isSome=true/\(valV kvs (Sum.inr t.2)).isSome=true) /\
 ∀l' zs H',Same H H'->H l'=none->H' l'=some (.lst zs)->a5' K H' zs (sortKs (ts.map fun t=>kT (ord2 t.1 t.2)))->Q (.ref l') H'
theorem dq_(a b:Str):ord2 a b=(a,b)∨ord2 a b=(b,a):=by
 unfold ord2;split
 ·exact .inl rfl
 ·exact .inr rfl
theorem jA_{f:Addr}{fd:FuncData}(F:Fun K "checked_ties" "checked_ties" sTies f fd)(B:Bi mg)(cS:Cal P w K mg base 3 "sorted_ties" ["ties"] (cp' K)):FnOk P w K mg base CX0 4 f fd ["ties","strengths"] (spTies K):=by
 refine F.ok dc' (fun vs H Q E h=>?_) (fun cdv A outer s H vs Q E hr h=>?_)
 ·obtain⟨l,d,ys,ts,kvs,rfl,_⟩:=h;rfl
 ·obtain⟨l,d,ys,ts,kvs,rfl,hl,tu,good,nd,h64,hd,there,k⟩:=h;have hu:=b5_ hr
  refine⟨_,a2_ (aa_ (i:=2) dc'.nd rfl (Or.inl rfl) (af_ cS hr (a0_ (pv 0) a3_)))
   (a2_ (aB_ (ch_ (eY_ (pv 2))) ah_ ae_)
   (a2_ (aK_ PassesOwn.never rfl (ak_ (pv 2)) (b8_ rfl (ad_ (a8_ (i:=3) dc'.nd rfl (Or.inl rfl)) (ad_ (a8_ (i:=4) dc'.nd rfl (Or.inl rfl)) aO_)))
    (a5_ (aB_ (dv_ (ch_ (dK_ hu (pv 3) (pv 1))) (ce_ (ch_ (dK_ hu (pv 4) (pv 1))))).pt ah_ ae_)))
   (a5_ (ab_ (pv 2))))),?_⟩
  refine⟨_,rfl,l,ys,ts,rfl,hl,tu,good,nd,h64,fun l' zs H1 s1 hf hl1 tz=>?_⟩;refine⟨_,rfl,_,rfl,iteF ?_⟩;refine⟨_,rfl,l',rfl,⟨_,.of hl1⟩,as_ (K:=K) (a:=l') (xs:=zs) (fun i σ H2=>∃(v3 v4:Option V),σ=[some (.ref l),some (.ref d),some (.ref l'),v3,v4]/\H2=H1) ⟨none,none,rfl,rfl⟩ (fun i σ H2 _ ⟨_,_,_,e⟩=>by subst e;exact .of hl1) ?_ ?_⟩
  ·rintro i y σ H2 hy ⟨v3,v4,rfl,rfl⟩;have ez:=Paired.length tz;have hi:i<zs.length:=(ab'.mp hy).1;obtain⟨a,e,ha⟩:=paired_get tz i hi (by omega);rw[(ab'.mp hy).2] at e;subst e;obtain⟨t,ht,e⟩:=ad'.mp ((al_ _).mem_iff.mp (az' (show i<(sortKs (ts.map fun t=>kT (ord2 t.1 t.2))).length by omega)));rw[<- e] at ha;obtain⟨t1,t2⟩:=there t ht
   have both:(valV kvs (Sum.inr (ord2 t.1 t.2).1)).isSome=true/\(valV kvs (Sum.inr (ord2 t.1 t.2).2)).isSome=true:=by
    rcases dq_ t.1 t.2 with q|q
    ·rw[q];exact⟨t1,t2⟩
    ·rw[q];exact⟨t2,t1⟩
   have hd1:=s1 _ _ hd;refine⟨a,_,rfl,.of (hpT ha),rfl,_,_,rfl,_,_,rfl,rfl,?_⟩;refine⟨_,rfl,_,rfl,d,_,rfl,.k (k:=Sum.inr (ord2 t.1 t.2).1) hd1,_,rfl,?_⟩;rw[both.1];refine iteF ?_;refine⟨_,rfl,_,rfl,d,_,rfl,.k (k:=Sum.inr (ord2 t.1 t.2).2) hd1,_,rfl,?_⟩;rw[both.2];refine iteF ?_;exact⟨_,_,rfl,rfl⟩
  ·rintro σ H2 ⟨v3,v4,rfl,rfl⟩;exact⟨_,rfl,k l' zs _ s1 hf hl1 tz⟩
def near(ns:List Str)(ts:Xb)(n:Str):List Str:=ns.filter fun o=>decide (ord2 n o∈ts)
theorem scNear:a4' ["names","ties","found","hand"] ["names","ties"] (a3' sNear):=f__
def bD'(ns:List Str)(as:List Addr):List (Key × V):=(ns.zip as).map fun p=>(Sum.inr p.1,V.ref p.2)
def spNear(K:F__):Sp:=fun vs H Q _=>∃(l1 l2:Addr) (ns:List Str) (zs:List V) (ts:Xb),vs=[.ref l1,.ref l2]/\H l1=some (.lst (ns.map V.str))/\H l2=some (.lst zs)/\a5' K H zs (ts.map kT)/\ns.Nodup/\ns.length<=1000/\l1≠l2 /\
 ∀d as H',Same H H'->H d=none->as.length=ns.length->H' d=some (.dK (bD' ns as))->(∀(i:Nat) n a,ns[i]? = some n->as[i]? = some a->H a=none/\H' a=some (.lst ((near ns ts n).map V.str)))->Q (.ref d) H'
theorem cJ_{K:F__}{H:Hp}:∀{ts:Xb} {zs:List V},a5' K H zs (ts.map kT)->Paired (r2 K rS rS H) zs ts
 |[],_,.nil=>.nil
 |t::ts,_,.cons ⟨a,e,h⟩ r=>.cons ⟨a,_,_,e,.of (hpT h),rfl,rfl⟩ (cJ_ r)
theorem aq_{ns:List Str}{i:Nat}{x:V}(h:(ns.map V.str)[i]? = some x):∃n,ns[i]? = some n/\x=.str n:=by
 rw[al'] at h;cases e:ns[i]? with
 |none=>rw[e] at h;cases h
 |some n=>rw[e] at h;exact⟨n,rfl,(Option.some.inj h).symm⟩
theorem cB_{α:Type}(p:α->Bool){l:List α}{i:Nat}{x:α}(h:l[i]? = some x):(l.take (i+1)).filter p=(l.take i).filter p++(if p x then [x] else []):=PySem.take_succ_filter p l i x h
theorem jw_{f:Addr}{fd:FuncData}(F:Fun K "neighbours_of_all" "neighbours_of_all" sNear f fd)(cL:Cal P w K mg base 1 "lesser_first" ["one","other"] b4'):FnOk P w K mg base CX0 2 f fd ["names","ties"] (spNear K):=by
 refine F.ok scNear (fun vs H Q E h=>?_) (fun cdv A outer s H vs Q E hr h=>?_)
 ·obtain⟨l1,l2,ns,zs,ts,rfl,_⟩:=h;rfl
 ·obtain⟨l1,l2,ns,zs,ts,rfl,hl1,hl2,tz,nd,h8,hne,k⟩:=h;have hu:=b5_ hr;have hu3:=hr.units;have sz:=sizeLine_eq
  refine⟨_,a2_ (aa_ (i:=2) scNear.nd rfl (Or.inl rfl) bk_)
   (a2_ (aK_ PassesOwn.never rfl (ak_ (pv 0)) (a8_ (i:=3) scNear.nd rfl (Or.inr rfl))
    (a5_ (bc_ hu (pv 2) (pv 3) (aN_ ["other","hand","ties"] 1 [3,1] (ak_ (pv 0)) (fun fp s H=>a8_ (i:=0) (show (["other","hand","ties"]:List Str).Nodup by decide +kernel) rfl (Or.inl rfl))
     (fun fp s H=>iS_ (an_ (opK (K:=K) (fun K=>rInD K (r2 K rS rS) false) (dZ_ (cmp2 cmpS cmpS) (cc' hr _))) (af_ cL hr (a0_ (pv 1) (a0_ (pv 0) a3_))) (pv 2) (by with_unfolding_all rfl))) (fun fp s H=>pv 0)) rfl)))
   (a5_ (ab_ (pv 2)))),?_⟩
  intro d hd;have s0:Same H (upd H d (.dK [])):=Same.new hd
  refine⟨_,rfl,l1,rfl,⟨_,.of (s0 _ _ hl1)⟩,as_ (K:=K) (a:=l1) (xs:=ns.map V.str) (fun i σ H2=>∃(v3:Option V) (as:List Addr),σ=[some (.ref l1),some (.ref l2),some (.ref d),v3]/\Same H H2/\as.length=i/\H2 d=some (.dK (bD' (ns.take i) as)) /\
   ∀(j:Nat) n a,ns[j]? = some n->as[j]? = some a->H a=none/\a≠d/\H2 a=some (.lst ((near ns ts n).map V.str))) ⟨none,[],rfl,s0,rfl,a1_,fun j n a _ e=>by simp at e⟩ (fun i σ H2 _ ⟨_,_,_,s2,_⟩=>.of (s2 _ _ hl1)) ?_ ?_⟩
  ·rintro i y σ H2 hy ⟨v3,as,rfl,s2,la,hd2,lists⟩;obtain⟨n,hn,rfl⟩:=aq_ hy;have hi:i<ns.length:=(ab'.mp hn).1
   have lk:(bD' (ns.take i) as).length=i:=by
    unfold bD';rw[aa',List.length_zip,ak'];omega
   refine⟨_,rfl,l1,rfl,⟨_,.of (s2 _ _ hl1)⟩,fun D hD=>?_⟩;refine aI_ (own:=1) (fv:=[some (.str n),some (.ref l2)]) (xs:=ns.map V.str) rfl gok1 (fun j out H'=>Same H2 H'/\H' D=some (.lst out)/\out=((ns.take j).filter fun o=>decide (ord2 n o∈ts)).map V.str) ⟨Same.new hD,a1_,rfl⟩ (fun j out H' _ ⟨sm,_,_⟩=>.of (sm _ _ (s2 _ _ hl1))) (fun out H' ⟨sm,hD',eo⟩=>?_) (fun j x out H' hx ⟨sm,hD',eo⟩=>?_)
   ·rw[aa',am'] at eo
    have nov:valV (bD' (ns.take i) as) (Sum.inr n)=none:=aP_ fun m=>by
     unfold bD' at m;rw[ao'] at m;obtain⟨p,hp,e⟩:=ad'.mp m;have e:p.1=n:=Sum.inr.inj e;have q:=bh_ (g:=id) (by rw[List.map_id];exact nd) hn;rw[List.map_id] at q;exact q (e▸(List.of_mem_zip hp).1)
    have neD:D≠d:=fun z=>by subst z;rw[hD] at hd2;cases hd2
    refine⟨_,rfl,_,rfl,d,_,rfl,.k (k:=Sum.inr n) (sm _ _ hd2) (by omega),?_⟩;refine⟨_,as++[D],rfl,fun c o e=>?_,by rw[ap',la];rfl,?_,fun j n' a hn' ha=>?_⟩
    ·rw[a4_ (a6_ e hd)];exact sm _ _ (s2 _ _ e)
    ·rw[a1_,bF_ _ nov];congr 2;unfold bD';rw[aw',hn,List.zip_append (by rw[ak'];omega),an'];rfl
    ·by_cases hj:j<as.length
     ·rw[aM' hj] at ha;obtain⟨q1,q2,q3⟩:=lists j n' a hn' ha;refine⟨q1,q2,?_⟩;rw[a4_ q2];exact sm _ _ q3
     ·have hj2:j=i:=by
       have:=(ab'.mp ha).1;rw[ap'] at this;simp only[List.length_singleton] at this;omega
      subst hj2;rw[aI' (by omega),la,Nat.sub_self] at ha;have ha:D=a:=by simpa using ha
      subst ha;rw[hn] at hn';cases hn';refine⟨s2.free hD,neD,?_⟩;rw[a4_ neD,hD',eo];rfl
   ·obtain⟨o,ho,rfl⟩:=aq_ hx;refine⟨_,rfl,rfl,fun Nx hN=>?_⟩;refine⟨_,rfl,_,rfl,n,o,rfl,fun t ht=>?_⟩;have s3:Same H' (upd H' t (.tup [.str (ord2 n o).1,.str (ord2 n o).2])):=Same.new ht;have tz':=((tz.same s2).same sm).same s3
    have lo:out.length<sizeLine:=by
     rw[eo,aa'];have:=List.length_filter_le (fun o=>decide (ord2 n o∈ts)) (ns.take j);rw[ak'] at this;omega
    refine⟨_,rfl,ord2 n o,ts,⟨t,_,_,rfl,.of a1_,rfl,rfl⟩,⟨l2,zs,rfl,.of (s3 _ _ (sm _ _ (s2 _ _ hl2))),cJ_ tz'⟩,_,rfl,?_⟩;refine ite2 (fun c=>?_) (fun c=>?_)
    ·refine⟨_,rfl,out,s3 _ _ hD',lo,hN _ _ ⟨ao_ (sm.trans s3) hD,a1_,?_⟩⟩;have c:decide (ord2 n o∈ts)=true:=by simpa using c
     rw[cB_ _ ho,if_pos c,an',eo];rfl
    ·refine hN _ _ ⟨sm.trans s3,s3 _ _ hD',?_⟩;have c:¬decide (ord2 n o∈ts)=true:=by simpa using c
     rw[cB_ _ ho,if_neg c,aJ',eo]
  ·rintro σ H2 ⟨v3,as,rfl,s2,la,hd2,lists⟩;rw[aa'] at la hd2;rw[am'] at hd2;exact⟨_,rfl,k d as _ s2 hd la hd2 fun j n a h1 h2=>⟨(lists j n a h1 h2).1,(lists j n a h1 h2).2.2⟩⟩
end
end Ev
namespace Ev
open PySem L2
abbrev sInit:Stmt:=bf' sWeb 0
abbrev sHas:Stmt:=bf' sWeb 1
abbrev sHands:Stmt:=bf' sWeb 2
abbrev ca':Stmt:=bf' sWeb 3
abbrev sNeigh:Stmt:=bf' sWeb 4
abbrev sTied:Stmt:=bf' sWeb 5
abbrev sTiesM:Stmt:=bf' sWeb 6
def fstK:List Key->Str
 |.inr a::_=>a
 |_=>⟨#[]⟩
def twoK:List Key->Str × Str
 |[.inr a,.inr b]=>(a,b)
 |_=>(⟨#[]⟩,⟨#[]⟩)
def a6'(hs:Xa):List Str:=(sortKs (hs.map kH)).map fstK
def tsOf(ts:Xb):Xb:=(sortKs (ts.map fun t=>kT (ord2 t.1 t.2))).map twoK
theorem bg_(ts:Xb):(tsOf ts).map kT=sortKs (ts.map fun t=>kT (ord2 t.1 t.2)):=by
 unfold tsOf;rw[ao']
 have all:∀k∈sortKs (ts.map fun t=>kT (ord2 t.1 t.2)),∃t:Str × Str,k=kT t:=fun k hk=>by
  obtain⟨t,_,e⟩:=ad'.mp ((al_ _).mem_iff.mp hk);exact⟨_,e.symm⟩
 generalize sortKs (ts.map fun t=>kT (ord2 t.1 t.2))=l at all
 induction l with
 |nil=>rfl
 |cons k l ih=>
  obtain⟨t,rfl⟩:=all k aj';rw[ar',ih fun k hk=>all k (ag' _ hk)];rfl
theorem cY_(hs:Xa):∀k∈sortKs (hs.map kH),∃h:Str × Int,h∈hs/\k=kH h:=fun k hk=>by
 obtain⟨t,ht,e⟩:=ad'.mp ((al_ _).mem_iff.mp hk);exact⟨t,ht,e.symm⟩
theorem eO_(hs:Xa):((sortH hs).map fun kv=>kV kv.1)=(a6' hs).map V.str:=by
 unfold sortH a6';rw[ao',ao'];refine aF' fun k hk=>?_;obtain⟨h,_,rfl⟩:=cY_ hs k hk;rfl
theorem eZ_(hs:Xa):(sortH hs).map (·.1)=(a6' hs).map Sum.inr:=by
 unfold sortH a6';rw[ao',ao'];refine aF' fun k hk=>?_;obtain⟨h,_,rfl⟩:=cY_ hs k hk;rfl
theorem au_(hs:Xa):(a6' hs).Perm (hs.map (·.1)):=by
 unfold a6';have p:=(al_ (hs.map kH)).map fstK;rw[ao'] at p;exact p
theorem dN_{κ:Type}[DecidableEq κ]{kvs:List (κ × V)}{k:κ}(h:k∈kvs.map (·.1)):(valV kvs k).isSome=true:=by
 rw[<- bX_];obtain⟨p,hp,e⟩:=ad'.mp h;exact List.any_eq_true.mpr ⟨p,hp,decide_eq_true e⟩
theorem d9_{hs:Xa}{n:Str}:(valV (sortH hs) (Sum.inr n)).isSome=decide (n∈hs.map (·.1)):=by
 by_cases h:n∈hs.map (·.1)
 ·rw[decide_eq_true h];refine dN_ ?_;rw[eZ_];exact ad'.mpr ⟨n,(au_ hs).mem_iff.mpr h,rfl⟩
 ·rw[decide_eq_false h,aP_]
  ·rfl
  ·rw[eZ_];intro m;obtain⟨x,hx,e⟩:=ad'.mp m;cases e;exact h ((au_ hs).mem_iff.mp hx)
theorem n12:¬(("strength_by_hand":Str)="sorted_pairs"):=by decide +kernel
theorem n13:¬(("strength_by_hand":Str)="neighbours_by_hand"):=by decide +kernel
theorem n23:¬(("sorted_pairs":Str)="neighbours_by_hand"):=by decide +kernel
def flds(d1 l2 d3:Addr):List (Str × V):=putF "neighbours_by_hand" (.ref d3) (putF "sorted_pairs" (.ref l2) (putF "strength_by_hand" (.ref d1) []))
theorem eP_(d1 l2 d3:Addr):(flds d1 l2 d3).lookup ("strength_by_hand":Str)=some (.ref d1):=by
 unfold flds;rw[a9_,if_neg n13,a9_,if_neg n12,a9_,if_pos rfl]
theorem jY_(d1 l2 d3:Addr):(flds d1 l2 d3).lookup ("sorted_pairs":Str)=some (.ref l2):=by
 unfold flds;rw[a9_,if_neg n23,a9_,if_pos rfl]
theorem ii_(d1 l2 d3:Addr):(flds d1 l2 d3).lookup ("neighbours_by_hand":Str)=some (.ref d3):=by
 unfold flds;rw[a9_,if_pos rfl]
theorem b0_(d1 l2 d3:Addr){m:Str}(h1:¬m="strength_by_hand")(h2:¬m="sorted_pairs")(h3:¬m="neighbours_by_hand"):(flds d1 l2 d3).lookup m=none:=by
 unfold flds;rw[a9_,if_neg h3,a9_,if_neg h2,a9_,if_neg h1]
 all_goals rfl
structure bl' (K:F__) (C:Addr) (H:Hp) (p:Addr) (hs:Xa) (ts:Xb) (fp:List Addr):Prop where
 ex:∃(dx d1 l2 d3:Addr) (zs:List V) (as:List Addr),fp=p::d1::l2::d3::as/\H p=some (.ins C dx (flds d1 l2 d3))/\H d1=some (.dK (sortH hs))/\H l2=some (.lst zs)/\a5' K H zs ((tsOf ts).map kT)/\H d3=some (.dK (bD' (a6' hs) as))/\as.length=(a6' hs).length /\
  ∀(i:Nat) n a,(a6' hs)[i]? = some n->as[i]? = some a->H a=some (.lst ((near (a6' hs) (tsOf ts) n).map V.str))
theorem bl'.keep{K:F__}{C:Addr}{H H':Hp}{p:Addr}{hs:Xa}{ts:Xb}{fp:List Addr}(W:bl' K C H p hs ts fp)(k:∀b∈fp,∀o,H b=some o->H' b=some o)(kt:∀b xs,H b=some (.tup xs)->H' b=some (.tup xs)):bl' K C H' p hs ts fp:=by
 obtain⟨dx,d1,l2,d3,zs,as,rfl,h1,h2,h3,h4,h5,h6,h7⟩:=W.ex;refine⟨dx,d1,l2,d3,zs,as,rfl,k _ (by simp) _ h1,k _ (by simp) _ h2,k _ (by simp) _ h3,Paired.mapP h4 fun y q ⟨a,e,z⟩=>⟨a,e,kt _ _ z⟩,k _ (by simp) _ h5,h6,fun i n a e1 e2=>k _ ?_ _ (h7 i n a e1 e2)⟩;have:=ae' e2;simp[this]
theorem bl'.same{K:F__}{C:Addr}{H H':Hp}{p:Addr}{hs:Xa}{ts:Xb}{fp:List Addr}(W:bl' K C H p hs ts fp)(s:Same H H'):bl' K C H' p hs ts fp:=W.keep (fun b _ o e=>s b o e) fun b xs e=>s b _ e
structure Good (hs:Xa) (ts:Xb):Prop where
 hok:∀h∈hs,goodH h
 hnd:(hs.map (·.1)).Nodup
 h1:1<=hs.length
 h8:hs.length<=8
 tok:∀t∈ts,cS' t
 tnd:(ts.map fun t=>kT (ord2 t.1 t.2)).Nodup
 t64:ts.length<64
 tin:∀t∈ts,t.1∈hs.map (·.1)/\t.2∈hs.map (·.1)
theorem Good.nnd{hs:Xa}{ts:Xb}(G:Good hs ts):(a6' hs).Nodup:=(au_ hs).nodup_iff.mpr G.hnd
theorem Good.nlen{hs:Xa}{ts:Xb}(G:Good hs ts):(a6' hs).length=hs.length:=by
 rw[(au_ hs).length_eq,aa']
theorem bo_(ts:Xb):(tsOf ts).length=ts.length:=by
 unfold tsOf;rw[aa',(al_ _).length_eq,aa']
structure Txt (K:F__) (mg:Str->Option Value) (C:Addr):Prop where
 cl:Cls K C
 nS:bp' K C "strength_by_hand"
 nP:bp' K C "sorted_pairs"
 nN:bp' K C "neighbours_by_hand"
section
variable{P:Program}{w:World}{K:F__}{mg:Str->Option Value}{base:Heap}
theorem scInit:a4' ["self","hands","ties","strengths","checked"] ["self","hands","ties"] (a3' sInit):=f__
def spInit(K:F__)(C:Addr):Sp:=fun vs H Q _=>∃(p dx lh lt:Addr) (ys zs:List V) (hs:Xa) (ts:Xb),vs=[.ref p,.ref lh,.ref lt]/\H p=some (.ins C dx [])/\H lh=some (.lst ys)/\a5' K H ys (hs.map kH)/\H lt=some (.lst zs)/\a5' K H zs (ts.map kT)/\Good hs ts /\
 ∀fp H',(∀b o,H b=some o->b≠p->H' b=some o)->bl' K C H' p hs ts fp->(∀b∈fp,b=p∨H b=none)->Q .non H'
theorem is_{f C:Addr}{fd:FuncData}(F:Fun K "__init__" "Web.__init__" sInit f fd)(T:Txt K mg C)(B:Bi mg)(cS:Cal P w K mg base 4 "checked_strengths" ["hands"] (spStr K))(cT:Cal P w K mg base 4 "checked_ties" ["ties","strengths"] (spTies K))(cN:Cal P w K mg base 2 "neighbours_of_all" ["names","ties"] (spNear K)) :
  FnOk P w K mg base CX0 5 f fd ["self","hands","ties"] (spInit K C):=by
 refine F.ok scInit (fun vs H Q E h=>?_) (fun cdv A outer s H vs Q E hr h=>?_)
 ·obtain⟨p,dx,lh,lt,ys,zs,hs,ts,rfl,_⟩:=h;rfl
 ·obtain⟨p,dx,lh,lt,ys,zs,hs,ts,rfl,hp,hlh,th,hlt,tt,G,k⟩:=h;have hr3:Room 3 _:=hr.mono (by decide);have hr2:Room 2 _:=hr.mono (by decide)
  refine⟨_,a2_ (aa_ (i:=3) scInit.nd rfl (Or.inl rfl) (af_ cS hr (a0_ (pv 1) a3_)))
   (a2_ (aa_ (i:=4) scInit.nd rfl (Or.inl rfl) (af_ cT hr (a0_ (pv 2) (a0_ (pv 3) a3_))))
   (a2_ (bG_ (pv 0) (pv 3) rfl) (a2_ (bG_ (pv 0) (pv 4) rfl)
   (a5_ (bG_ (pv 0) (af_ cN hr2 (a0_ (aw_ (cc_ rfl) (by rfl) B.list PyProof.Rows.Boot.«list» (a0_ (pv 3) a3_)) (a0_ (pv 4) a3_))) rfl))))),?_⟩
  refine⟨_,rfl,lh,ys,hs,rfl,hlh,th,G.hok,G.hnd,G.h1,G.h8,fun d1 H1 s1 f1 hd1=>?_⟩;refine⟨_,rfl,_,rfl,lt,d1,zs,ts,_,rfl,s1 _ _ hlt,tt.same s1,G.tok,G.tnd,G.t64,hd1,fun t ht=>?_,fun l2 zs2 H2 s2 f2 hl2 tz=>?_⟩
  ·rw[d9_,d9_];exact⟨decide_eq_true (G.tin t ht).1,decide_eq_true (G.tin t ht).2⟩
  have hd12:=s2 _ _ hd1;have hp2:=s2 _ _ (s1 _ _ hp);have p1:p≠d1:=ax_ hp2 hd12 nofun;have p2:p≠l2:=ax_ hp2 hl2 nofun;refine⟨_,rfl,_,rfl,p,C,dx,[],rfl,hp2,T.cl,T.nS,by show 0<1000;decide,?_⟩;refine⟨_,rfl,_,rfl,p,C,dx,_,rfl,a1_,T.cl,T.nP,by show 1<1000;decide,?_⟩
  let H3:Hp:=upd (upd H2 p (.ins C dx (putF "strength_by_hand" (.ref d1) []))) p (.ins C dx (putF "sorted_pairs" (.ref l2) (putF "strength_by_hand" (.ref d1) [])))
  have h3:∀{b o},H2 b=some o->b≠p->H3 b=some o:=fun e ne=>by
   show upd (upd H2 p _) p _ _=_;rw[a4_ ne,a4_ ne];exact e
  have h3p:H3 p=some (.ins C dx (putF "sorted_pairs" (.ref l2) (putF "strength_by_hand" (.ref d1) []))):=a1_
  have none3:∀{b},H3 b=none->H2 b=none:=fun {b} e=>by
   by_cases z:b=p
   ·subst z;rw[h3p] at e;cases e
   ·have e:upd (upd H2 p _) p _ b=none:=e;rw[a4_ z,a4_ z] at e;exact e
  have tz3:a5' K H3 zs2 ((tsOf ts).map kT):=by
   rw[bg_];exact Paired.mapP tz fun y q ⟨a,e,z⟩=>⟨a,e,h3 z (ax_ z hp2 nofun)⟩
  refine⟨_,rfl,d1,_,rfl,.inl (h3 hd12 p1.symm),fun l1 hl1=>?_⟩;rw[eO_];have s4:Same H3 (upd H3 l1 (.lst ((a6' hs).map V.str))):=Same.new hl1;have ne12:l1≠l2:=(a6_ (H:=H3) (h3 hl2 p2.symm) hl1).symm;refine⟨_,rfl,l1,l2,a6' hs,zs2,tsOf ts,rfl,a1_,s4 _ _ (h3 hl2 p2.symm),tz3.same s4,G.nnd,by rw[G.nlen];have:=G.h8;omega,ne12,fun d3 as H5 s5 f5 la hd3 lists=>?_⟩;have hp5:=s5 _ _ (s4 _ _ h3p);refine⟨_,rfl,p,C,dx,_,rfl,hp5,T.cl,T.nN,by show 2<1000;decide,?_⟩
  have up:∀{b o},H2 b=some o->b≠p->upd H5 p (.ins C dx (flds d1 l2 d3)) b=some o:=fun e ne=>by
   rw[a4_ ne];exact s5 _ _ (s4 _ _ (h3 e ne))
  have fr5:∀{b},upd H3 l1 (.lst ((a6' hs).map V.str)) b=none->H b=none:=fun e=>s1.free (s2.free (none3 (s4.free e)));have hd3p:d3≠p:=(a6_ (s4 _ _ h3p) f5).symm;refine k (p::d1::l2::d3::as) _ (fun b o e ne=>up (s2 _ _ (s1 _ _ e)) ne) ⟨dx,d1,l2,d3,zs2,as,rfl,a1_,up hd12 p1.symm,up hl2 p2.symm,?_,?_,la,fun i n a e1 e2=>?_⟩ fun b hb=>?_
  ·exact Paired.mapP (tz3.same (s4.trans s5)) fun y q ⟨a,e,z⟩=>⟨a,e,by rw[a4_ (ax_ z hp5 nofun)];exact z⟩
  ·rw[a4_ hd3p];exact hd3
  ·obtain⟨q1,q2⟩:=lists i n a e1 e2;rw[a4_ (ax_ q2 hp5 nofun)];exact q2
  ·simp only[ah'] at hb;rcases hb with rfl|rfl|rfl|rfl|hb
   ·exact .inl rfl
   ·exact .inr f1
   ·exact .inr (s1.free f2)
   ·exact .inr (fr5 f5)
   ·obtain⟨i,hi,e⟩:=aD' hb;have e1:as[i]? = some b:=by rw[ac' hi,e]
    have hn:i<(a6' hs).length:=by omega
    exact .inr (fr5 (lists i _ b (ac' hn) e1).1)
end
end Ev
namespace Ev
open PySem L2
structure CalM (P:Program) (w:World) (K:F__) (mg:Str->Option Value) (base:Heap) (C:Addr) (k:Nat) (m:Str) (ps:List Str) (sp:Sp):Prop where
 ex:∃f fd,FnOk P w K mg base CX0 k f fd ps sp/\Meth K C m f/\bV' K fd ps []
theorem bs_{X:Cx}{C:Addr}{k:Nat}{m:Str}{ps:List Str}{sp:Sp}{pos apos:Pos}{o e:Expr}{es:List Expr}{ta:TE}{t:TA}{pl:Sem Bool}(c:CalM X.prog X.w X.K X.mg X.base C k m ps sp)(cl:Cls X.K C)(hr:Room k X.A)(he:PE X o ta)(ha:PA X (e::es) t)
  (hst:starEach (e::es) X.env=(false,eval e X.env)::starEach es X.env:=by rfl) (hpl:(backTo pos (starEach es X.env)).any (·.1)=false:=by rfl)
  (ht:eval (.Call (.Attribute o m apos) (e::es) [] pos) X.env=(do
   let ov <- eval o X.env
   standAt apos.atName
   let (f,first) <- holding [ov] (getMethod ov m pl)
   callWith pos f first (backTo pos (starEach (e::es) X.env)) (backToKw pos (keywordEach [] X.env))):=by rfl) :
  PE X (.Call (.Attribute o m apos) (e::es) [] pos) (tMeth C m sp [] E0 ta t):=by
 obtain⟨f,fd,F,hm,b⟩:=c.ex;exact g7_ he cl hm F hr b .nil pass0 ha hst hpl ht
theorem cZ_{X:Cx}{C:Addr}{k:Nat}{m:Str}{ps:List Str}{sp:Sp}{pos apos:Pos}{o:Expr}{ta:TE}{pl:Sem Bool}(c:CalM X.prog X.w X.K X.mg X.base C k m ps sp)(cl:Cls X.K C)(hr:Room k X.A)(he:PE X o ta)
  (ht:eval (.Call (.Attribute o m apos) [] [] pos) X.env=(do
   let ov <- eval o X.env
   standAt apos.atName
   let (f,first) <- holding [ov] (getMethod ov m pl)
   callWith pos f first (backTo pos (starEach [] X.env)) (backToKw pos (keywordEach [] X.env))):=by rfl) :
  PE X (.Call (.Attribute o m apos) [] [] pos) (tMeth C m sp [] E0 ta tNil):=by
 obtain⟨f,fd,F,hm,b⟩:=c.ex;exact hj_ he cl hm F hr b .nil pass0 ht
theorem fr_{hs:Xa}(nd:(hs.map (·.1)).Nodup){x:Str}{n:Int}(h:(x,n)∈hs):valV (sortH hs) (Sum.inr x)=some (.int n):=by
 have m:((Sum.inr x:Key),V.int n)∈sortH hs:=by
  unfold sortH;refine ad'.mpr ⟨kH (x,n),(al_ _).mem_iff.mpr (ad'.mpr ⟨_,h,rfl⟩),rfl⟩
 have nk:=cN_ nd;generalize sortH hs=kvs at m nk
 induction kvs with
 |nil=>cases m
 |cons p r ih=>
  obtain⟨n1,n2⟩:=aR'.mp nk;rcases ah'.mp m with e|m
  ·rw[<- e];exact bq_ rfl
  ·rw[bl_ (fun e:p.1=Sum.inr x=>n1 (ad'.mpr ⟨_,m,e.symm⟩))];exact ih m n2
theorem fW_{ns:List Str}{as:List Addr}(nd:ns.Nodup)(la:as.length=ns.length){i:Nat}{n:Str}(hn:ns[i]? = some n):∃a,as[i]? = some a/\valV (bD' ns as) (Sum.inr n)=some (.ref a):=by
 induction ns generalizing as i with
 |nil=>simp at hn
 |cons x ns ih=>
  cases as with
  |nil=>cases la
  |cons b as=>
   obtain⟨n1,n2⟩:=aR'.mp nd;cases i with
   |zero=>
    have e:x=n:=by simpa using hn
    subst e;exact⟨b,rfl,bq_ rfl⟩
   |succ i=>
    have hn:ns[i]? = some n:=by simpa using hn
    obtain⟨a,h1,h2⟩:=ih n2 (by simpa using la) hn;refine⟨a,by simpa using h1,?_⟩;show valV ((Sum.inr x,V.ref b)::bD' ns as) (Sum.inr n)=_;rw[bl_ fun e=>n1 (by rw[show x=n from Sum.inr.inj e];exact ae' hn)];exact h2
section
variable{P:Program}{w:World}{K:F__}{mg:Str->Option Value}{base:Heap}
theorem scHas:a4' ["self","thing"] ["self","thing"] (a3' sHas):=f__
def spHas(K:F__)(C:Addr):Sp:=fun vs H Q _=>∃(p:Addr) (x:Str) (hs:Xa) (ts:Xb) (fp:List Addr),vs=[.ref p,.str x]/\bl' K C H p hs ts fp/\Q (.bl (decide (x∈hs.map (·.1)))) H
theorem k5_{f C:Addr}{fd:FuncData}(F:Fun K "has_hand" "Web.has_hand" sHas f fd)(T:Txt K mg C)(B:Bi mg):FnOk P w K mg base CX0 1 f fd ["self","thing"] (spHas K C):=by
 refine F.ok scHas (fun vs H Q E h=>?_) (fun cdv A outer s H vs Q E hr h=>?_)
 ·obtain⟨p,x,hs,ts,fp,rfl,_⟩:=h;rfl
 ·obtain⟨p,x,hs,ts,fp,rfl,W,k⟩:=h;have hu:=b5_ hr;obtain⟨dx,d1,l2,d3,zs,as,rfl,h1,h2,h3,h4,h5,h6,h7⟩:=W.ex;refine⟨_,a5_ (ab_ (br_ (ac_ aU_ (by rfl) B.isi PyProof.Rows.Boot.«isinstance» (a0_ (pv 1) (a0_ (b2_ (v:=.ty "str") (by rfl) B.str PyProof.Rows.Boot.«str» rfl) a3_))) (bd_ (e0_ (d1_ hu (pv 1) (aF_ (pv 0) rfl)))))),?_⟩;refine⟨_,rfl,_,_,_,_,rfl,.str x,rfl,_,rfl,iteT ?_⟩;refine⟨_,rfl,_,rfl,p,C,dx,_,_,rfl,h1,T.cl,T.nS,eP_ _ _ _,d1,_,rfl,.k (k:=Sum.inr x) h2,?_⟩;rw[d9_];exact k
theorem scHands:a4' ["self"] ["self"] (a3' sHands):=f__
def cq'(K:F__)(C:Addr):Sp:=fun vs H Q _=>∃(p:Addr) (hs:Xa) (ts:Xb) (fp:List Addr),vs=[.ref p]/\bl' K C H p hs ts fp/\∀l,H l=none->Q (.ref l) (upd H l (.lst ((a6' hs).map V.str)))
theorem hM_{f C:Addr}{fd:FuncData}(F:Fun K "hands" "Web.hands" sHands f fd)(T:Txt K mg C)(B:Bi mg):FnOk P w K mg base CX0 1 f fd ["self"] (cq' K C):=by
 refine F.ok scHands (fun vs H Q E h=>?_) (fun cdv A outer s H vs Q E hr h=>?_)
 ·obtain⟨p,hs,ts,fp,rfl,_⟩:=h;rfl
 ·obtain⟨p,hs,ts,fp,rfl,W,k⟩:=h;obtain⟨dx,d1,l2,d3,zs,as,rfl,h1,h2,h3,h4,h5,h6,h7⟩:=W.ex;refine⟨_,a5_ (ab_ (aw_ (cc_ rfl) (by rfl) B.list PyProof.Rows.Boot.«list» (a0_ (aF_ (pv 0) rfl) a3_))),?_⟩;refine⟨_,rfl,p,C,dx,_,_,rfl,h1,T.cl,T.nS,eP_ _ _ _,d1,_,rfl,.inl h2,fun l hl=>?_⟩;rw[eO_];exact k l hl
theorem dk':a4' ["self","hand"] ["self","hand"] (a3' ca'):=f__
def bv'(K:F__)(C:Addr):Sp:=fun vs H Q _=>∃(p:Addr) (x:Str) (n:Int) (hs:Xa) (ts:Xb) (fp:List Addr),vs=[.ref p,.str x]/\bl' K C H p hs ts fp/\(hs.map (·.1)).Nodup/\(x,n)∈hs/\Q (.int n) H
theorem e9_{f C:Addr}{fd:FuncData}(F:Fun K "strength" "Web.strength" ca' f fd)(T:Txt K mg C)(cH:CalM P w K mg base C 1 "has_hand" ["self","thing"] (spHas K C)):FnOk P w K mg base CX0 2 f fd ["self","hand"] (bv' K C):=by
 refine F.ok dk' (fun vs H Q E h=>?_) (fun cdv A outer s H vs Q E hr h=>?_)
 ·obtain⟨p,x,n,hs,ts,fp,rfl,_⟩:=h;rfl
 ·obtain⟨p,x,n,hs,ts,fp,rfl,W,nd,hx,k⟩:=h;have hu:=b5_ hr;obtain⟨dx,d1,l2,d3,zs,as,rfl,h1,h2,h3,h4,h5,h6,h7⟩:=id W.ex;refine⟨_,a2_ (aB_ (aQ_ (aJ_ (bs_ cH T.cl hr (pv 0) (a0_ (pv 1) a3_)))) ah_ ae_) (a5_ (ab_ (ag_ hu (aF_ (pv 0) rfl) (pv 1) (fun _ _=>rfl)))),?_⟩;refine⟨_,rfl,p,dx,_,rfl,h1,b0_ _ _ _ (by decide +kernel) (by decide +kernel) (by decide +kernel),_,rfl,p,x,hs,ts,_,rfl,W,_,rfl,?_⟩;rw[decide_eq_true (ad'.mpr ⟨_,hx,rfl⟩)];refine iteF ?_;refine⟨_,rfl,p,C,dx,_,_,rfl,h1,T.cl,T.nS,eP_ _ _ _,_,rfl,d1,_,rfl,?_,k⟩;rw[<- fr_ nd hx];exact .k (k:=Sum.inr x) h2
theorem scNeigh:a4' ["self","hand"] ["self","hand"] (a3' sNeigh):=f__
def spNeigh(K:F__)(C:Addr):Sp:=fun vs H Q _=>∃(p:Addr) (x:Str) (hs:Xa) (ts:Xb) (fp:List Addr),vs=[.ref p,.str x]/\bl' K C H p hs ts fp/\(a6' hs).Nodup/\x∈hs.map (·.1)/\∀l,H l=none->Q (.ref l) (upd H l (.lst ((near (a6' hs) (tsOf ts) x).map V.str)))
theorem i8_{H:Hp}{hs:Xa}{ts:Xb}{as:List Addr}{x:Str}(nd:(a6' hs).Nodup)(hx:x∈hs.map (·.1))(la:as.length=(a6' hs).length)
  (h7:∀(i:Nat) n a,(a6' hs)[i]? = some n->as[i]? = some a->H a=some (.lst ((near (a6' hs) (tsOf ts) n).map V.str))):∃a,valV (bD' (a6' hs) as) (Sum.inr x)=some (.ref a)/\H a=some (.lst ((near (a6' hs) (tsOf ts) x).map V.str)):=by
 obtain⟨i,hi,e⟩:=aD' ((au_ hs).mem_iff.mpr hx);have hn:(a6' hs)[i]? = some x:=by rw[ac' hi,e]
 obtain⟨a,h1,h2⟩:=fW_ nd la hn;exact⟨a,h2,h7 i x a hn h1⟩
theorem i1_{f C:Addr}{fd:FuncData}(F:Fun K "neighbours" "Web.neighbours" sNeigh f fd)(T:Txt K mg C)(B:Bi mg)(cH:CalM P w K mg base C 1 "has_hand" ["self","thing"] (spHas K C)):FnOk P w K mg base CX0 2 f fd ["self","hand"] (spNeigh K C):=by
 refine F.ok scNeigh (fun vs H Q E h=>?_) (fun cdv A outer s H vs Q E hr h=>?_)
 ·obtain⟨p,x,hs,ts,fp,rfl,_⟩:=h;rfl
 ·obtain⟨p,x,hs,ts,fp,rfl,W,nd,hx,k⟩:=h;have hu:=b5_ hr;obtain⟨dx,d1,l2,d3,zs,as,rfl,h1,h2,h3,h4,h5,h6,h7⟩:=id W.ex;obtain⟨a,e1,ha⟩:=i8_ nd hx h6 h7;refine⟨_,a2_ (aB_ (aQ_ (aJ_ (bs_ cH T.cl hr (pv 0) (a0_ (pv 1) a3_)))) ah_ ae_) (a5_ (ab_ (aw_ dD_ (by rfl) B.list PyProof.Rows.Boot.«list» (a0_ (ag_ hu (aF_ (pv 0) rfl) (pv 1) (fun _ _=>rfl)) a3_)))),?_⟩;refine⟨_,rfl,p,dx,_,rfl,h1,b0_ _ _ _ (by decide +kernel) (by decide +kernel) (by decide +kernel),_,rfl,p,x,hs,ts,_,rfl,W,_,rfl,?_⟩;rw[decide_eq_true hx];refine iteF ?_;refine⟨_,rfl,p,C,dx,_,_,rfl,h1,T.cl,T.nN,ii_ _ _ _,_,rfl,d3,.ref a,rfl,?_,a,_,rfl,.inl (.of ha),k⟩;rw[<- e1];exact .k (k:=Sum.inr x) h5
theorem scTied:a4' ["self","one","other"] ["self","one","other"] (a3' sTied):=f__
theorem bW_{H:Hp}:∀ns:List Str,Paired (rS H) (ns.map V.str) ns
 |[]=>.nil
 |_::ns=>.cons rfl (bW_ ns)
theorem scTiesM:a4' ["self"] ["self"] (a3' sTiesM):=f__
def spTiesM(K:F__)(C:Addr):Sp:=fun vs H Q _=>∃(p:Addr) (hs:Xa) (ts:Xb) (fp:List Addr),vs=[.ref p]/\bl' K C H p hs ts fp/\ts.length<64/\∀l zs H',Same H H'->H l=none->H' l=some (.lst zs)->a5' K H' zs ((tsOf ts).map kT)->Q (.ref l) H'
theorem hA_{f C:Addr}{fd:FuncData}(F:Fun K "ties" "Web.ties" sTiesM f fd)(T:Txt K mg C)(cA:Cal P w K mg base 1 "ties_anew" ["ties"] (spAnew K)):FnOk P w K mg base CX0 2 f fd ["self"] (spTiesM K C):=by
 refine F.ok scTiesM (fun vs H Q E h=>?_) (fun cdv A outer s H vs Q E hr h=>?_)
 ·obtain⟨p,hs,ts,fp,rfl,_⟩:=h;rfl
 ·obtain⟨p,hs,ts,fp,rfl,W,h64,k⟩:=h;obtain⟨dx,d1,l2,d3,zs,as,rfl,h1,h2,h3,h4,h5,h6,h7⟩:=W.ex;refine⟨_,a5_ (ab_ (af_ cA hr (a0_ (aF_ (pv 0) rfl) a3_))),?_⟩;exact⟨_,rfl,p,C,dx,_,_,rfl,h1,T.cl,T.nP,jY_ _ _ _,l2,zs,tsOf ts,rfl,h3,h4,by rw[bo_];omega,k⟩
end
end Ev
namespace L2
open PySem PySem.Spec PyProof.Rows PySem.W
def Ite(K:F__)(a:Addr):It:=
 ⟨fun i H=>∃xs x,SqL K H a xs/\xs[i]? = some x,fun i H y H'=>∃t x,y=.ref t/\H t=none/\(∀xs,SqL K H a xs->xs[i]? = some x)/\H'=upd H t (.tup [.int i,x]),fun i H=>∃xs,SqL K H a xs/\xs.length=i⟩
theorem Inv.turnedN{X:Cx}{pins:List (Addr × Obj)}{σ:St}{H:Hp}{s:Shared}{h':Heap}{t':Nat}{fp:List Addr}{T:Addr}{xs:List V}{its:List Value}(I:Inv X pins σ H s)(k:∀b o,b∉fp->s.heap.get? b=some o->h'.get? b=some o)(hf:∀b∈fp,FpOk X pins H b)
  (hT:s.heap.objs.size<=T) (hz:xs.length<=sizeLine) (r:Vals xs its) (ht:IsTup h' T its.toArray/\∃o,h'.get? T=some o/\o.dict=none):Inv X pins σ (upd H T (.tup xs)) { s with heap:=h',toks:=t' }:=by
 have fT:H T=none:=I.hok.fresh hT;have nf:∀b u,H b=some u->b∉fp:=fun b u e hb=>by rw[(hf b hb).1] at e;cases e
 have old:∀{b u},H b=some u->upd H T (.tup xs) b=some u:=fun e=>by rw[a4_ (a6_ e fT)];exact e
 refine I.step (g':=s.gens) (d':=s.drawn) (ch:=fp) (fun b hb=>?_) (fun b o _ _ hc e _=>k b o hc e) (fun b o _ _ hc e _=>⟨o.slots,k b o hc e⟩) (fun b o _ e n=>?_)
  (fun b o hc e=>⟨o,k b o hc e⟩) (fun b ys e=>old e) (fun b o u e=>old e) (fun b ps e=>⟨#[],by rw[Array.append_empty];exact old e⟩) (fun m hm=>?_) (fun b u e=>?_) I.bare
 ·obtain⟨f0,f1,f2,f3,f4,f5⟩:=hf b hb;exact⟨f3,f1,f4,f5⟩
 ·rw[a4_ (fun z=>by subst z;exact absurd (Heap.lt_size e) (Nat.not_lt.mpr hT))];exact n
 ·obtain⟨o,es,ep,ho,r⟩:=hm;exact⟨o,es,ep,k _ o (fun hb=>(hf _ hb).2.1 rfl) ho,r⟩
 ·by_cases z:b=T
  ·subst z;rw[a1_] at e;cases e;exact⟨hz,its,r,ht⟩
  ·rw[a4_ z] at e;refine (I.hok b u e).stay (fun c v hc q=>k c v ?_ q) (fun _ q=>old q) fun _ _ q=>old q;rcases hc with z|z
   ·rw[z];exact nf b u e
   ·exact nf c _ z
theorem Inv.turnedF{X:Cx}{pins:List (Addr × Obj)}{σ:St}{H:Hp}{s:Shared}{h':Heap}{t':Nat}{fp:List Addr}(I:Inv X pins σ H s)(k:∀b o,b∉fp->s.heap.get? b=some o->h'.get? b=some o)(hf:∀b∈fp,FpOk X pins H b):Inv X pins σ H { s with heap:=h',toks:=t' }:=by
 have nf:∀b u,H b=some u->b∉fp:=fun b u e hb=>by rw[(hf b hb).1] at e;cases e
 refine I.step (g':=s.gens) (d':=s.drawn) (ch:=fp) (fun b hb=>?_) (fun b o _ _ hc e _=>k b o hc e) (fun b o _ _ hc e _=>⟨o.slots,k b o hc e⟩) (fun b o _ e n=>n)
  (fun b o hc e=>⟨o,k b o hc e⟩) (fun b ys e=>e) (fun b o u e=>e) (fun b ps e=>⟨#[],by rw[Array.append_empty];exact e⟩) (fun m hm=>?_) (fun b u e=>?_) I.bare
 ·obtain⟨f0,f1,f2,f3,f4,f5⟩:=hf b hb;exact⟨f3,f1,f4,f5⟩
 ·obtain⟨o,es,ep,ho,r⟩:=hm;exact⟨o,es,ep,k _ o (fun hb=>(hf _ hb).2.1 rfl) ho,r⟩
 ·refine (I.hok b u e).stay (fun c v hc q=>k c v ?_ q) (fun _ q=>q) fun _ _ q=>q;rcases hc with z|z
  ·rw[z];exact nf b u e
  ·exact nf c _ z
theorem g6_{P:Program}{w:World}{K:F__}{elts:List Expr}{k:Nat}{pos:Pos}(a e it:Addr)(h1:e≠it)(h2:a≠e)(h3:a≠it):Turn P w K (.Tuple elts k pos) (Ite K a) [e,it] e (fun i h=>(∃old,IsEnum h e it i old)/\h.IsListIter it a i) where
 mem:=by simp
 obj:=fun i h st b hb=>by
  obtain⟨⟨old,q⟩,o,e2,c,d⟩:=st;rcases ah'.mp hb with rfl|hb
  ·exact⟨_,q,fun v z=>by cases z⟩
  ·obtain rfl:b=it:=by simpa using hb
   exact⟨o,e2,fun v z=>by rw[d] at z;cases z⟩
 keep:=fun i h h' st kk=>by
  obtain⟨⟨old,q⟩,st2⟩:=st;exact⟨⟨old,kk e (by simp) _ q⟩,st2.at fun o q2=>kk it (by simp) o q2⟩
 item:=by
  intro X hP hw hK hc i pins s σ H E I hf st hg;subst hP hw hK;obtain⟨xs,x,hq,hx⟩:=hg;obtain⟨its,rv,p,hz⟩:=I.list hq;obtain⟨u,hu,ru⟩:=rv.get hx;have W:=WalksT.enumerate (prog:=X.prog) (w:=X.w) (A:=X.A) (I.ok.hd hc) e it a h1 h2 h3 its.toArray
  have hi:i<its.toArray.size:=by
   simp only[ai'];exact (ab'.mp hu).1
  obtain⟨old,he⟩:=st.1;have hit:=st.2;refine wpAny_pyNext_enum_item he hit p.isList (x:=u) (by rw[List.getElem?_toArray];exact hu) h1 fun h' ho hit' hTo hsz hk=>?_;have helt:e<s.heap.objs.size:=Heap.lt_size he;have hilt:it<s.heap.objs.size:=by obtain⟨_,x,_⟩:=hit;exact Heap.lt_size x
  have mid:(∃x,IsEnumOut h' e it ((i:Int)+1) x s.heap.objs.size)/\h'.IsListIter it a (i+1)/\h'.IsList a its.toArray/\s.heap.objs.size≠e/\s.heap.objs.size≠it:=⟨⟨_,ho⟩,hit',p.isList.at fun o x=>hk a o h2 h3 x,Nat.ne_of_gt helt,Nat.ne_of_gt hilt⟩;have kk:∀b o,b∉[e,it]->s.heap.get? b=some o->h'.get? b=some o:=fun b o hb x=>hk b o (fun e'=>hb (by simp[e'])) (fun e'=>hb (by simp[e'])) x;have isT:h'.IsTuple s.heap.objs.size #[.int i s.toks,u]:=⟨_,hTo,rfl,_,rfl⟩;obtain⟨T,eT⟩:∃T,T=s.heap.objs.size:=⟨_,rfl⟩;obtain⟨t,et⟩:∃t,t=s.toks:=⟨_,rfl⟩;obtain⟨tk,htk⟩:∃tk,tk=s.toks+1:=⟨_,rfl⟩;rw[<- eT] at isT mid hTo ⊢;have hT:s.heap.objs.size<=T:=Nat.le_of_eq eT.symm;rw[<- et] at isT hTo;rw[<- htk];refine⟨_,rfl,W.go elts k pos i T { s with heap:=h',toks:=tk } _ _ mid fun h2' st' kk2=>?_⟩;have nT:T∉[e,it]:=W.apart i T h' mid
  have isT2:h2'.IsTuple T #[.int i t,u]:=by
   obtain⟨o,q,r⟩:=isT;exact⟨o,kk2 T o nT q,r⟩
  have I1:Inv X pins σ (upd H T (.tup [.int i,x])) { s with heap:=h2',toks:=tk }:=I.turnedN (t':=tk) (fp:=[e,it]) (its:=[.int i t,u]) (fun b o hb q=>kk2 b o hb (kk b o hb q)) hf hT (by show 2<=sizeLine;decide) (.cons ⟨t,rfl⟩ (.cons ru .nil)) ⟨isT2,_,kk2 T _ nT hTo,rfl⟩;refine⟨.ref T,_,I1,rfl,⟨T,x,rfl,I.hok.fresh hT,fun ys hy=>by rw[I.list_inj hy hq];exact hx,rfl⟩,⟨?_,st'.2.1⟩,fun b hb=>?_⟩
  ·obtain⟨old,q⟩:=st'.1;exact⟨old,by simpa using q⟩
  ·rw[a4_ (fun z:b=T=>nT (by rw[<- z];exact hb))];exact (hf b hb).1
 done:=by
  intro X hP hw hK hc i pins s σ H E I hf st hg;subst hP hw hK;obtain⟨xs,hq,hx⟩:=hg;obtain⟨its,rv,p,hz⟩:=I.list hq;have W:=WalksT.enumerate (prog:=X.prog) (w:=X.w) (A:=X.A) (I.ok.hd hc) e it a h1 h2 h3 its.toArray
  have hn:its.toArray.size=i:=by
   have:=rv.length;simp only[ai'];omega
  refine W.done s _ _ (by rw[hn];exact⟨st.1,st.2,p.isList⟩) fun h' tk kk=>⟨rfl,I.turnedF (t':=tk) (fp:=[e,it]) kk hf⟩
 self:=fun A i s Q E st h=>by
  obtain⟨old,q⟩:=st.1;exact wpAny_pyIter_enum q h
def iEnum(K:F__)(ta:TA):TI:=fun σ H R=>ta σ H fun vs H1=>∃a,vs=[.ref a]/\(∃xs,SqL K H1 a xs)/\R (Ite K a) H1
theorem gx_{X:Cx}{elts:List Expr}{kk:Nat}{p2:Pos}{a:Expr}{ta:TA}{p pos:Pos}(hg:Gl X "enumerate")(hm:X.mg "enumerate"=none)(ha:PA X [a] ta)(hs:starEach [a] X.env=[(false,eval a X.env)]:=by rfl):PI X (.Tuple elts kk p2) (.Call (.Name "enumerate" p) [a] [] pos) (iEnum X.K ta):=by
 intro pins s σ H R I h;refine Call_ (bH_ I hg hm boot_enumerate (PyProof.Rows.callWith_type1 (thn (ha pos pins s σ H _ I h) fun us s1 ⟨vs,H1,I1,r1,q1⟩=>?_) hs rfl));obtain⟨l,e,⟨xs,hq⟩,q⟩:=q1;subst e;cases r1 with
 |cons r rr=>
  cases rr;cases r;obtain⟨its,rv,pl,hz⟩:=I1.list hq;have ll:l<s1.heap.objs.size:=by obtain⟨_,e,_⟩:=pl.isList;exact Heap.lt_size e
  refine call_enumerate_list pl.isList fun h' he hi hn kp=>?_;refine wpAny_pyIter_enum he ?_;refine⟨s1.heap.objs.size+1,[s1.heap.objs.size+1,s1.heap.objs.size],_,_,H1,rfl,I1.kept (t':=s1.toks) kp,g6_ l _ _ (Nat.succ_ne_self _) (av' (Nat.lt_succ_of_lt ll)) (av' ll),⟨⟨_,he⟩,hi⟩,fun b hb=>?_,q⟩
  have e:s1.heap.objs.size<=b:=by
   rcases ah'.mp hb with rfl|hb
   ·exact Nat.le_succ _
   ·obtain rfl:b=s1.heap.objs.size:=by simpa using hb
    exact af' _
  exact I1.fpOk e (I1.hok.fresh e)
theorem ex_{K:F__}{a:Addr}{xs:List V}{g:TG}{tb:TS}{D:Ends}{σ:St}{H:Hp}(Pv:Nat->St->Hp->Prop)(h0:Pv 0 σ H)(hl:∀i σ H,i<=xs.length->Pv i σ H->SqL K H a xs)
  (hs:∀i x σ H,xs[i]? = some x->Pv i σ H->∀t,H t=none->g (.ref t) σ (upd H t (.tup [.int i,x])) fun σ2 H2=>tb { D with nx:=Pv (i+1),ct:=Pv (i+1),bk:=D.nx } σ2 H2) (hd:∀σ H,Pv xs.length σ H->D.nx σ H) :
  ∃W:Nat->Nat->St->Hp->Prop,(∃m,W 0 m σ H)/\∀i m σ H,W i m σ H->
   ((Ite K a).stop i H/\D.nx σ H)∨((Ite K a).go i H/\∃N:St->Hp->Prop,(∀σ' H',N σ' H'->∃m',m'<m/\W (i+1) m' σ' H')/\∀x H',(Ite K a).yld i H x H'->g x σ H' fun σ2 H2=>tb { D with nx:=N,ct:=N,bk:=D.nx } σ2 H2):=by
 refine⟨fun i m σ H=>m=xs.length - i/\i<=xs.length/\Pv i σ H,⟨xs.length,by simp,aE' _,h0⟩,?_⟩;rintro i m σ H ⟨rfl,hi,p⟩;have q:=hl i σ H hi p;by_cases hlt:i<xs.length
 ·refine .inr ⟨⟨xs,xs[i],q,by simp[hlt]⟩,Pv (i+1),fun σ' H' p'=>⟨xs.length - (i+1),by omega,rfl,hlt,p'⟩,fun x H' y=>?_⟩;obtain⟨t,x,rfl,ht,y,rfl⟩:=y;exact hs i x σ H (y xs q) p t ht
 ·have e:i=xs.length:=by omega
  subst e;exact .inl ⟨⟨xs,q,rfl⟩,hd σ H p⟩
theorem cS_(a b c:Str):inV (.str a) [.str b,.str c]=(decide (b=a) || decide (c=a)):=by
 have e:∀x y:Str,eqV (.str x) (.str y)=decide (x=y):=fun x y=>by
  have:=g4_ (a:=Sum.inr x) (b:=Sum.inr y) rfl;rw[show eqV (.str x) (.str y)=eqV (kV (Sum.inr x)) (kV (Sum.inr y)) from rfl,this];by_cases z:x=y
  ·simp[z]
  ·simp[z]
 unfold inV;simp only[List.any_cons,List.any_nil,Bool.or_false,e]
end L2
namespace L2
open PySem PySem.Spec PyProof.Rows
theorem bh'.here{P:Program}{w:World}{H:Hp}{h:Heap}{a:Addr}{o:HO}(x:bh' P w H h a o):∃u,h.get? a=some u:=by
 cases o with
 |lst xs=>obtain⟨_,_,_,_,e⟩:=x;exact⟨_,e⟩
 |tup xs=>obtain⟨_,_,_,⟨o,e,_⟩,_⟩:=x;exact⟨_,e⟩
 |dK kvs=>obtain⟨_,_,_,_,o,_,_,e,_⟩:=x;exact⟨_,e⟩
 |dT kvs=>obtain⟨_,_,_,_,o,_,_,e,_⟩:=x;exact⟨_,e⟩
 |set S n=>obtain⟨o,_,_,_,e,_⟩:=x;exact⟨_,e⟩
 |ins C dx fs=>obtain⟨_,_,_,e,_⟩:=x;exact⟨_,e⟩
 |own y=>exact x
 |xd fs=>obtain⟨_,⟨_,_,_,e,_⟩,_⟩:=x;exact⟨_,e⟩
 |rng lo hi=>obtain⟨_,_,_,e⟩:=x;exact⟨_,e⟩
 |frz ob u=>obtain⟨e,_⟩:=x;exact⟨_,e⟩
 |tbl ps=>exact⟨_,show h.get? a=some _ from x⟩
 |met f y=>exact⟨_,show h.get? a=some _ from x⟩
 |ext φ=>obtain⟨_,e,_⟩:=x;exact e
def InB(B:Heap)(l:List Env)(H:Hp)(h0 h:Heap):Prop:=
 ∀b o,h.get? b=some o->b∉frs l->((H b).isSome=true∨∃o0,h0.get? b=some o0)->B.get? b=some o
section
variable{P:Program}{w:World}{H H':Hp}{B h0 h h1:Heap}{l:List Env}
theorem dC_(hok:HOk P w H' h)(fr:∀b∈frs l,H' b=none)(i:InB B l H' h0 h)(st:B.StaysIn h1):HOk P w H' h1:=fun b o e=>
 (hok b o e).stay (fun c u hc q=>by
  have hs:∃x,H' c=some x:=by
   rcases hc with z|z
   ·exact⟨o,z▸e⟩
   ·exact⟨_,z⟩
  obtain⟨x,hx⟩:=hs;exact st c u (i c u q (fun m=>by rw[fr c m] at hx;cases hx) (.inl (by rw[hx];rfl)))) (fun _ q=>q) (fun _ _ q=>q)
theorem eU_(un:Un (frs l) [] H H' h0 h)(ff:h.FunFrames B l)(i:InB B l H' h0 h)(st:B.StaysIn h1)(up:h.UpToSlots h1):Un (frs l) [] H H' h0 h1 where
 keep:=fun b o q n hb hx=>st b o (i b o (un.keep b o q n hb hx) hb (.inr ⟨o,q⟩))
 slot:=fun b o q n hb hx=>by
  obtain⟨sl,e⟩:=un.slot b o q n hb hx;obtain⟨_,o',e',d⟩:=ff.mem hb;rw[e] at e';cases e';obtain⟨sl2,e2⟩:=up b _ e d;exact⟨sl2,e2⟩
 free:=un.free
 there:=fun b o q hx=>by
  obtain⟨o',e⟩:=un.there b o q hx;by_cases hb:b∈frs l
  ·obtain⟨_,o2,e',d⟩:=ff.mem hb;rw[e] at e';cases e';obtain⟨sl2,e2⟩:=up b _ e d;exact⟨_,e2⟩
  ·exact⟨o',st b o' (i b o' e hb (.inr ⟨o,q⟩))⟩
 tups:=un.tups
 frzs:=un.frzs
 tbls:=un.tbls
theorem eD_(hok:HOk P w H' h)(un:Un (frs l) [] H H' h0 h)(i:InB B l H' h0 h)(st:B.StaysIn h1):InB B l H' h0 h1:=fun b o e hb c=>by
 have:∃u,h.get? b=some u:=by
  rcases c with z|⟨o0,z⟩
  ·obtain⟨x,hx⟩:=Option.isSome_iff_exists.mp z;exact (hok b x hx).here
  ·exact un.there b o0 z (by simp)
 obtain⟨u,hu⟩:=this;have q:=i b u hu hb c;have:=st b u q;rw[e] at this;cases this;exact q
end
def CX1(P:Program)(w:World):CXT:=fun l H s E e s'=>
 ∃a cls H' B a0,e=Value.ref a/\s'.os=s.os/\AllBare s'.gens/\Un (frs l) [] H H' s.heap s'.heap/\HOk P w H' s'.heap/\Heap.FlyingW B l a cls a0 s'.heap/\InB B l H' s.heap s'.heap/\E cls none H'
section
variable{X:Cx}{pins:List (Addr × Obj)}{σ:St}{H H':Hp}{s s1:Shared}{B h:Heap}{a:Addr}{cls a0:Value}{E:XK}
theorem f3_(I:Inv X pins σ H s)(un:Un (frs X.stack) [] H H' s.heap h):∀b∈frs X.stack,H' b=none:=fun b hb=>by
 obtain⟨_,o,ho,_⟩:=I.stack.mem hb;exact un.free b o ho (I.stkFree b hb) (by simp)
theorem fP_(I:Inv X pins σ H s)(hex:X.ex=[])(os:s1.os=s.os)(bare:AllBare s1.gens)(un:Un (frs X.stack) [] H H' s.heap h)(hok:HOk X.prog X.w H' h)(i:InB B X.stack H' s.heap h)(ff:h.FunFrames B X.stack)(up:h.UpToSlots s1.heap)
  (fl:Heap.FlyingW B X.outer a cls a0 s1.heap) (hE:E cls none H'):CX1 X.prog X.w X.outer X.H₀ X.s₀ E (.ref a) s1:=by
 have un1:=eU_ un ff i fl.1 up;have hok1:=dC_ hok (f3_ I un) i fl.1;have I1:Inv X pins σ H' s1:=I.call' os un1 hok1 bare (fun b z=>absurd z (by simp));have bs:=I1.base;rw[hex] at bs;refine⟨a,cls,H',B,a0,rfl,I1.os,I1.bare,bs,I1.hok,fl,fun b o e hb c=>?_,hE⟩
 have nL:b≠X.env.locals:=by
  rcases c with z|⟨o0,z⟩
  ·intro q;rw[q,I1.free] at z;cases z
  ·exact av' (ax' (Heap.lt_size z) I.ok.above)
 refine eD_ hok un i fl.1 b o e (fun hm=>?_) (c.imp id fun⟨o0,z⟩=>I.base.there b o0 z (by rw[hex];simp));rcases ah'.mp (I.stkSub b hm) with z|z
 ·exact nL z
 ·exact hb z
end
section
variable{P:Program}{w:World}{K:F__}{mg:Str->Option Value}{base:Heap}{N:List Str}{qual:Str}{scope:Scope}{f:Addr}{cd:Value}{A:Around}{outer:List Env}{s:Shared}{H:Hp}{E:XK}
def Raises(X:Cx)(E:XK):Prop:=∀(pins:List (Addr × Obj)) (σ:St) (H:Hp) (s:Shared) (h':Heap) (e:Addr) (cls:Value) (vs:List Value),Inv X pins σ H s->Heap.MadeExcOf s.heap h' e cls vs->E cls none H->X.xe (.ref e) { s with heap:=h' }
theorem raises1:Raises (cxOf (CX1 P w) P w K mg base N qual scope f cd A outer s H E) E:=by
 intro pins σ H1 s1 h' e cls vs I hx hE;have ff:=PySem.W.funFrames_hide (as:=frs (cxOf (CX1 P w) P w K mg base N qual scope f cd A outer s H E).stack) I.stack (fun env he b hb=>aN'.mpr ⟨env,he,hb⟩);refine wpAny_leaves_madeW (base:=PySem.W.hideAll s1.heap (frs (cxOf (CX1 P w) P w K mg base N qual scope f cd A outer s H E).stack)) (h:=s1.heap) I.ok.frames rfl (fun b o q=>PySem.W.of_hideAll _ q) ff hx fun h1 t fl tup nt up=>?_;exact fP_ (s1:={ s1 with heap:=h1 }) I rfl rfl I.bare Un.refl I.hok (fun b o q hb _=>PySem.W.hideAll_get _ q hb) ff ((Heap.UpToSlots.of_keeps hx.keeps).trans up) fl hE
end
section
variable{X:Cx}{x:Str}{C:Addr}{bm:List Value}{B newId initId:String}{np cpos pos:Pos}{e₀:Expr}{t:TA}{E:XK}
theorem jK_{K:F__}{h:Heap}{mg:Str->Option Value}{bmB:List Value}(X:K.In h)(hm:mg x=some (.ref C))(q:PySem.W.excIn K C bmB newId=true):OwnCls x C bmB newId mg h:=by
 refine⟨hm,?_⟩;unfold PySem.W.excIn at q;split at q
 ·rename_i dd cd sl ho
  split at q
  ·rename_i C' bm k0 k1 k2 k3 n k5 hm' hs
   simp only[aY',beq_iff_eq,Bool.not_eq_true'] at q;obtain⟨⟨⟨⟨⟨rfl,rfl⟩,hdel⟩,ht⟩,hok⟩,hni⟩:=q;obtain⟨nm,bs,mro,ns,qn,hd,sn,sub,ab,col,del⟩:=cd;dsimp only at hm' hdel hok hni;subst hm' hdel
   have hsl:sl=#[k0,k1,k2,k3,some (.builtin n),k5]:=by
    obtain⟨l⟩:=sl;simp only at hs;rw[hs]
   subst hsl;exact⟨bm,ns,nm,qn,bs,hd,sn,sub,ab,col,dd,k0,k1,k2,k3,k5,_,X _ _ ho,.of_isNs (PySem.W.isNs_of_in X hok),PySem.W.nsMap_none_of_in X hok hni,PySem.W.tail_of_in X ht⟩
  ·cases q
 ·cases q
def tRaise(cls:Value)(E:XK)(t:TA):TS:=fun _ σ H=>t σ H fun vs H1=>vs.length<=sizeLine/\E cls none H1
theorem ey_(hh:X.calm=true)(R:Raises X E)(hm:X.mg x=some (.ref C))(qx:PySem.W.excIn X.K C bm newId=true)(FB:ExcBaseFacts B newId initId bm)(hg:Gl X x)(ha:PA X [e₀] t)
  (he:starEach [e₀] X.env=(false,eval e₀ X.env)::starEach [] X.env:=by rfl) (hpl:(backTo cpos (starEach [e₀] X.env)).any (·.1)=false:=by rfl) (hd:(x == ("__debug__":Str))=false:=by decide) :
  PS X (.Raise (some (.Call (.Name x np) [e₀] [] cpos)) none pos) (tRaise (.ref C) E t):=by
 intro pins s σ H D I h;have O:=jK_ I.ok.mod.kin hm qx;obtain⟨tl,N,nm,q,bs,hdct,sn,sub,ab,col,dd,k0,k1,k2,k3,k5,mN,hC,hN,hni,T⟩:=O.obj
 refine wpAny_Raise_call_subT (C:=C) (nm:=nm) (q:=q) (N:=N) (bs:=bs) (bm:=tl) (hdct:=hdct) (sn:=sn) (sub:=sub) (ab:=ab) (col:=col) (dd:=dd) (k0:=k0) (k1:=k1) (k2:=k2) (k3:=k3) (k5:=k5)
  FB (mN:=mN) (T.hasType FB.hasBase) (I.ok.hd hh) hpl hni (dm_ I hg O.bound ⟨rfl,?_⟩ hd)
 have ha':=ha cpos pins s σ H _ I h;rw[he] at ha' ⊢;refine Calls.evalArgs_plain (wpAny_mono ha' (fun us s₂ ⟨vs,H1,I1,r,z,q⟩=>⟨rfl,by rw[<- r.length];exact z,I1.bk _ _ hC,hN.keeps I1.bk,T.keeps I1.bk,fun h' e hm=>R pins σ H1 s₂ h' e _ _ I1 hm q⟩) fun _ _ y=>y)
end
section
variable{P:Program}{w:World}{K:F__}{mg:Str->Option Value}{base:Heap}
theorem Fun.okX{x qual:Str}{st:Stmt}{f:Addr}{fd:FuncData}{N ps:List Str}{k:Nat}{sp:Sp}(F:Fun K x qual st f fd)(S:a4' N ps (a3' st))(len:∀vs H Q E,sp vs H Q E->vs.length=ps.length)
  (hbody:∀(cdv:Value) (A:Around) (outer:List Env) (s:Shared) (H:Hp) (vs:List V) (Q:VK) (E:XK),Room k (A.deeper (envOfC qual (a3' st) s.heap.objs.size f cdv))->sp vs H Q E->
   ∃t,PSs (cxOf (CX1 P w) P w K mg base N qual (a3' st) f cdv A outer s H E) (bb' st) t/\t { nx:=fun _ H'=>Q .non H',rt:=Q } (start N vs) H):FnOk P w K mg base (CX1 P w) (k+1) f fd ps sp:=by
 obtain⟨oc,od,kV,doc,pm,an,cdv,ct,osl,rfl,lk,hcd⟩:=F.ex;refine iG_ lk hcd S len fun A outer s H vs Q E hr hsp=>?_;obtain⟨t,h,q⟩:=hbody cdv A outer s H vs Q E hr hsp;exact⟨t,h,q⟩
end
end L2
namespace L2
open PySem PySem.Spec PySem.Calls PyProof.Rows PySem.W Builtin Builtin.ObjectAttr Builtin.Getset_descriptor
structure ExcK (K:F__) (C:Addr):Prop where
 cl:(clsIn K C).isSome=true
 ga:findIn K (.ref C) "__getattribute__"=some (some (.builtin "BaseException.__getattribute__"))
 ha:findIn K (.ref C) "__getattr__"=some none
 ca:findIn K (.ref C) "__class__"=some (some (.builtin "object.__class__"))
 gt:specialIn K (.builtin "object.__class__") "__get__"=some (some (.builtin "getset_descriptor.__get__"))
 tk:takesIn K (.builtin "object.__class__")=some true
 mo:mroIn K C (.type "object")=some true
 mb:mroIn K C (.type "BaseException")=some true
section
variable{prog:Program}{w:World}{A:Around}{E:Value->Shared->Prop}{s:Shared}{K:F__}{x C:Addr}
end
section
variable{X:Cx}
def rIsiC(K:F__):List V->Hp->VK->Prop:=fun xs H Q=>∃x C t b,xs=[x,.ref C]/\TyOf K H x t/\PySem.W.kitOne K t (.ref C)=some b/\Q (.bl b) H
theorem gS_:br' X (.builtin "isinstance") (rIsiC X.K):=by
 intro pins s σ H xs us Q I r h;obtain⟨x,C,t,b,rfl,ty,e,q⟩:=h;obtain⟨u,w',rfl,ru,rw'⟩:=vals2 r;cases (show w'=Value.ref C from rw');exact dE_ I ru ty e fun tk=>⟨.bl b,H,I.tok tk,rfl,q⟩
end
end L2
namespace L2
open PySem PySem.Spec PyProof.Rows
section
variable{X:Cx}{pins:List (Addr × Obj)}{σ:St}{H:Hp}{s:Shared}{a:Addr}
end
section
variable{X:Cx}{st:Stmt}{e c:Expr}{te:XS->TE}{t u:XS->TS}{pos:Pos}{a b:List Stmt}{tc:TT}
end
section
variable{X:Cx}{k:Nat}{f C:Addr}{fd:FuncData}{ps:List Str}{sp:Sp}{dvs:List V}{ds:List Value}{ES:XS}{x m:Str}{p pos apos:Pos}{e o:Expr}{es:List Expr}{ta:TE}{t:TA}
end
section
variable{X:Cx}{i:Nat}{x n:Str}{D C:Addr}{np hpos pos:Pos}{b₀:Stmt}{suite body:List Stmt}{tb:XS->TS}{ts:TS}
end
end L2
namespace Ev
open PySem L2
abbrev sCell:Stmt:=top 61
abbrev sDigit:Stmt:=top 64
abbrev sLWeb:Stmt:=top 66
abbrev sGd:Stmt:=top 20
abbrev cP':Stmt:=top 29
abbrev sWords:Stmt:=top 30
abbrev sMixed:Stmt:=top 62
abbrev sState:Stmt:=top 63
abbrev sNamed:Stmt:=top 65
abbrev sCWays:Stmt:=top 56
abbrev cQ':Stmt:=top 57
abbrev cn':Stmt:=top 58
abbrev cv':Stmt:=top 59
abbrev cD':Stmt:=top 23
abbrev ci':Stmt:=top 24
abbrev sLM:Stmt:=top 21
abbrev sMult:Stmt:=top 25
abbrev cR':Stmt:=top 26
abbrev b8':Stmt:=top 52
abbrev cN':Stmt:=top 13
abbrev sHvF:Stmt:=top 31
abbrev c2':Stmt:=top 32
abbrev sFits:Stmt:=top 33
abbrev sHvM:Stmt:=top 34
abbrev cr':Stmt:=top 40
abbrev sSeen:Stmt:=top 41
abbrev cT':Stmt:=top 42
abbrev b6':Stmt:=top 43
abbrev co':Stmt:=top 44
abbrev ck':Stmt:=top 67
abbrev sWaysL:Stmt:=top 68
abbrev cX':Stmt:=top 69
abbrev sWorld:Stmt:=top 70
abbrev sHeld:Stmt:=top 71
abbrev sDrop:Stmt:=top 72
abbrev sMayL:Stmt:=top 73
abbrev sIsFit:Stmt:=top 74
abbrev sHvL:Stmt:=top 75
abbrev sBest:Stmt:=top 76
abbrev cM':Stmt:=top 78
abbrev sRowsL:Stmt:=top 77
abbrev sLaw:Stmt:=top 79
def But(l:Addr)(H H':Hp):Prop:=∀b o,H b=some o->b≠l->H' b=some o
theorem But.refl(l:Addr)(H:Hp):But l H H:=fun _ _ e _=>e
theorem But.trans{l:Addr}{H H1 H2:Hp}(h:But l H H1)(h2:But l H1 H2):But l H H2:=fun b o e n=>h2 b o (h b o e n) n
theorem But.of{l:Addr}{H H1:Hp}(h:Same H H1):But l H H1:=fun b o e _=>h b o e
theorem But.upd{l:Addr}{H:Hp}{o:HO}:But l H (upd H l o):=fun b u e n=>by rw[a4_ n];exact e
def stt(H:Hp)(l:Addr):Prop:=∃a b c:Int,H l=some (.lst [.int a,.int b,.int c])
theorem stt.some{H:Hp}{l:Addr}(h:stt H l):∃xs,H l=some (.lst xs):=by
 obtain⟨a,b,c,e⟩:=h;exact⟨_,e⟩
theorem stt.same{H H':Hp}{l:Addr}(h:stt H l)(s:Same H H'):stt H' l:=by
 obtain⟨a,b,c,e⟩:=h;exact⟨a,b,c,s _ _ e⟩
theorem stt.ne{H:Hp}{l a:Addr}(h:stt H l)(e:H a=none):a≠l:=by
 rintro rfl;obtain⟨x,y,z,h⟩:=h;rw[e] at h;cases h
theorem But.free{l b:Addr}{H H':Hp}(h:But l H H')(s:stt H' l)(e:H' b=none):H b=none:=by
 cases z:H b with
 |none=>rfl
 |some o=>
  by_cases q:b=l
  ·subst q;obtain⟨x,y,u,s⟩:=s;rw[e] at s;cases s
  ·rw[h b o z q] at e;cases e
theorem bg'{α:Type}{xs:List α}{i:Int}(h0:0<=i)(h1:i<xs.length):atI xs i=xs[i.toNat]?:=by
 unfold atI ixN;rw[if_pos h0,if_pos h1];rfl
section
variable{P:Program}{w:World}{K:F__}{mg:Str->Option Value}{base:Heap}
end
end Ev
namespace Ev
open PySem L2
theorem i6_:("abcdefghijklmnopqrstuvwxyz":Str).cps.toList=[97,98,99,100,101,102,103,104,105,106,107,108,109,110,111,112,113,114,115,116,117,118,119,120,121,122]:=by decide +kernel
end Ev
namespace Ev
open PySem L2
def di'{α:Type}(l:List α)(k:Nat)(x:α):List α:=l.take k++x::l.drop k
theorem ca_{α:Type}(l:List α)(k:Nat)(x:α):(di' l k x).Perm (x::l):=by
 unfold di';refine List.perm_middle.trans ?_;rw[List.take_append_drop]
theorem gq_{α:Type}(l:List α)(k:Nat)(x:α):(di' l k x).length=l.length+1:=(ca_ l k x).length_eq
theorem hit2{α:Type}{a b:α}{r:Int}(h0:0<=r)(h1:r<2):atI [a,b] r=some a∨atI [a,b] r=some b:=by
 have:r=0∨r=1:=by omega
 rcases this with rfl|rfl
 ·exact .inl rfl
 ·exact .inr rfl
section
theorem aV_{K:F__}{H H':Hp}{l:Addr}{ys:List V}{ks:List (List Key)}(t:a5' K H ys ks)(b:But l H H'){xs:List V}(hl:H l=some (.lst xs)):a5' K H' ys ks:=Paired.mapP t fun y k ⟨a,z,q⟩=>⟨a,z,b _ _ q (ax_ q hl nofun)⟩
end
end Ev
namespace Ev
open PySem L2
def kO(t:Str × Str):List Key:=kT (ord2 t.1 t.2)
structure TI (ns:List Str) (k j:Nat) (ts:Xb):Prop where
 at':∀t∈ts,∃(a b:Nat) (x y:Str),b<a/\(a<k∨(a=k/\b<j))/\ns[a]? = some x/\ns[b]? = some y/\(t=(x,y)∨t=(y,x))
 nd:(ts.map kO).Nodup
 len:ts.length<=7 * k+j
theorem TI.skip{ns:List Str}{k j:Nat}{ts:Xb}(h:TI ns k j ts):TI ns k (j+1) ts:=
 ⟨fun t ht=>let ⟨a,b,x,y,h1,h2,h3,h4,h5⟩:=h.at' t ht;⟨a,b,x,y,h1,by omega,h3,h4,h5⟩,h.nd,by have:=h.len;omega⟩
theorem TI.next{ns:List Str}{k:Nat}{ts:Xb}(h:TI ns k k ts)(h7:k<=7):TI ns (k+1) 0 ts:=
 ⟨fun t ht=>let ⟨a,b,x,y,h1,h2,h3,h4,h5⟩:=h.at' t ht;⟨a,b,x,y,h1,by omega,h3,h4,h5⟩,h.nd,by have:=h.len;omega⟩
theorem cU_{a b:Str × Str}(h:kT a=kT b):a=b:=by
 unfold kT at h;obtain⟨h1,h2⟩:=List.cons.inj h;obtain⟨h2,_⟩:=List.cons.inj h2;exact Prod.ext (Sum.inr.inj h1) (Sum.inr.inj h2)
theorem cC_{ns:List Str}(nd:ns.Nodup){i j:Nat}{x:Str}(h:ns[i]? = some x)(h2:ns[j]? = some x):i=j:=by
 obtain⟨hi,e1⟩:=ab'.mp h;obtain⟨hj,e2⟩:=ab'.mp h2;exact (List.getElem_inj nd).mp (e1.trans e2.symm)
theorem gu_{a b c d:Str}(h:kO (a,b)=kO (c,d)):(a=c/\b=d)∨(a=d/\b=c):=by
 have h:=cU_ h;dsimp only at h;rcases dq_ a b with e|e<;>rcases dq_ c d with e2|e2<;>rw[e,e2] at h<;>have h1:=(Prod.mk.inj h).1<;>have h2:=(Prod.mk.inj h).2
 ·exact .inl ⟨h1,h2⟩
 ·exact .inr ⟨h1,h2⟩
 ·exact .inr ⟨h2,h1⟩
 ·exact .inl ⟨h2,h1⟩
theorem TI.add{ns:List Str}{k j:Nat}{ts:Xb}(h:TI ns k j ts)(nd:ns.Nodup){x y:Str}{t:Str × Str}(hj:j<k)(hx:ns[k]? = some x)(hy:ns[j]? = some y)(ht:t=(x,y)∨t=(y,x))(q:Nat):TI ns k (j+1) (di' ts q t):=by
 refine⟨fun u hu=>?_,?_,by have:=h.len;rw[gq_];omega⟩
 ·rcases ah'.mp ((ca_ _ _ _).mem_iff.mp hu) with rfl|hu
  ·exact⟨k,j,x,y,hj,.inr ⟨rfl,by omega⟩,hx,hy,ht⟩
  ·exact h.skip.at' u hu
 ·refine ((ca_ ts q t).map kO).nodup_iff.mpr ?_;rw[ar'];refine aR'.mpr ⟨fun m=>?_,h.nd⟩;obtain⟨u,hu,e⟩:=ad'.mp m;obtain⟨a,b,c,d,h1,h2,h3,h4,h5⟩:=h.at' u hu
  have key:(c=x/\d=y)∨(c=y/\d=x):=by
   rcases h5 with rfl|rfl<;>rcases ht with rfl|rfl<;>rcases gu_ e with⟨q1,q2⟩|⟨q1,q2⟩<;>simp_all
  rcases key with⟨rfl,rfl⟩|⟨rfl,rfl⟩
  ·have:=cC_ nd h3 hx;have:=cC_ nd h4 hy;omega
  ·have:=cC_ nd h3 hy;have:=cC_ nd h4 hx;omega
theorem TI.good{ns:List Str}{k j:Nat}{ts:Xb}(h:TI ns k j ts)(nd:ns.Nodup)(ok:∀n∈ns,bw' n=true):∀t∈ts,cS' t/\t.1∈ns/\t.2∈ns:=fun t ht=>by
 obtain⟨a,b,x,y,h1,h2,h3,h4,h5⟩:=h.at' t ht;have mx:=ae' h3;have my:=ae' h4
 have ne:x≠y:=fun e=>by
  subst e;have:=cC_ nd h3 h4;omega
 rcases h5 with rfl|rfl
 ·exact⟨⟨ok _ mx,ok _ my,ne⟩,mx,my⟩
 ·exact⟨⟨ok _ my,ok _ mx,ne.symm⟩,my,mx⟩
theorem hd_(ns:List Str)(k:Nat):cutV (ns.map V.str) none (some (k:Int))=(ns.take k).map V.str:=by
 unfold cutV;rw[HT.sIx_none,HT.sIx_nat,List.drop_zero,Nat.sub_zero,List.map_take,aa'];by_cases h:k<=ns.length
 ·rw[Nat.min_eq_left h]
 ·rw[Nat.min_eq_right (by omega),aQ' (by rw[aa'];omega),aQ' (by rw[aa'];omega)]
end Ev
namespace Ev
open PySem L2
theorem gy_(a:Str):ltS a a=false:=gC_ (Sum.inr a)
theorem dz_{a b:Str}(h:ltS a b=true):ltS b a=false:=dI_ (a:=Sum.inr a) (b:=Sum.inr b) h
theorem gU_{a b:Str}(h:ltS a b=false)(h2:ltS b a=false):a=b:=Sum.inr.inj (gj_ (a:=Sum.inr a) (b:=Sum.inr b) h h2)
theorem lexS(a b:Str):lexK (keyS a) (keyS b)=ltS a b:=by
 show (if (Sum.inr a:Key)=Sum.inr b then false else ltS a b)=ltS a b;by_cases h:a=b
 ·subst h;rw[if_pos rfl,gy_]
 ·rw[if_neg fun e=>h (Sum.inr.inj e)]
def SAsc(ns:List Str):Prop:=ns.Pairwise fun a b=>ltS b a=false
theorem g0_(ss:List Str):SAsc (sortS ss):=by
 have h:=c4_ (ss.map keyS);rw[<- c2_] at h;unfold Asc at h;rw[aH'] at h;exact h.imp fun q=>by rw[lexS] at q;exact q
theorem bT_(a b:Str):ord2 a b=ord2 b a:=by
 unfold ord2;by_cases h:ltS a b=true
 ·rw[if_pos h,if_neg (by rw[dz_ h];decide)]
 ·by_cases h2:ltS b a=true
  ·rw[if_neg h,if_pos h2]
  ·have:=gU_ (by simpa using h) (by simpa using h2);subst this;rw[if_neg h]
theorem b1'{ts:Xb}{x:Str × Str}:x∈tsOf ts ↔ ∃t∈ts,ord2 t.1 t.2=x:=by
 have e:kT x∈(tsOf ts).map kT ↔ x∈tsOf ts:=⟨fun h=>by
  obtain⟨y,hy,e⟩:=ad'.mp h;rw[<- cU_ e];exact hy,fun h=>ad'.mpr ⟨x,h,rfl⟩⟩
 rw[<- e,bg_,(al_ _).mem_iff,ad'];exact⟨fun⟨t,ht,q⟩=>⟨t,ht,cU_ q⟩,fun⟨t,ht,q⟩=>⟨t,ht,by rw[q]⟩⟩
theorem iY_(a b:Str):kO (a,b)=kO (b,a):=by
 show kT (ord2 a b)=kT (ord2 b a);rw[bT_]
end Ev
namespace L2
open PySem PySem.Spec PyProof.Rows
section
variable{X:Cx}
def rSlS:V->Option Int->Option Int->Hp->VK->Prop:=fun x lo hi H Q=>∃z,x=.str z/\z.length<=sizeLine/\Q (.str (Txt.slice z lo hi)) H
theorem ie_:SlR X rSlS:=by
 intro pins s σ H x v vl vu lo hi sl Q I rx hs pl pu h;obtain⟨z,rfl,hz,q⟩:=h;obtain⟨t,rfl⟩:=rx;refine⟨"str",_,PySem.F.slot_str_getitem.lookup,typeIs_str _ _ _,?_⟩
 have fin:∀lo hi,Q (.str (Txt.slice z lo hi)) H->(Txt.slice z lo hi).length<=sizeLine/\∀t' k,EP X pins σ Q (.str (Txt.slice z lo hi) t') { s with toks:=k }:=fun lo hi q=>
  ⟨aW' (Txt.slice_le z _ _) hz,fun t' k=>⟨.str _,H,I.kept (h':=s.heap) (t':=k) fun _ _ e=>e,⟨t',rfl⟩,q⟩⟩
 cases pl with
 |none=>
  cases pu with
  |none=>exact wpAny_getItem_str_slice (l:=none) (u:=none) (st:=none) hs rfl (post_val_or_str (fin _ _ q))
  |int j u=>exact wpAny_getItem_str_slice (l:=none) (u:=some (j,u)) (st:=none) hs rfl (post_val_or_str (fin _ _ q))
 |int i u=>
  cases pu with
  |none=>exact wpAny_getItem_str_slice (l:=some (i,u)) (u:=none) (st:=none) hs rfl (post_val_or_str (fin _ _ q))
  |int j u'=>exact wpAny_getItem_str_slice (l:=some (i,u)) (u:=some (j,u')) (st:=none) hs rfl (post_val_or_str (fin _ _ q))
theorem jV_{x:Str}{j:Nat}(h:j<=x.length):(Txt.slice x none (some (j:Int))).cps.toList=x.cps.toList.take j:=by
 have:=eq_of_beq (slice_closes_toL (x:=x) (j:=(j:Int)) (by omega) (by omega));rw[this];simp
theorem hF_{x:Str}{i:Nat}(h:i<=x.length):(Txt.slice x (some (i:Int)) none).cps.toList=x.cps.toList.drop i:=by
 rw[slice_from_eq (x:=x) (i:=(i:Int)) (b:=(x.length:Int)) (by omega) (by omega) rfl]
 have:((x.length:Int) - (i:Int)).toNat=x.cps.toList.length - i:=by
  have:x.length=x.cps.toList.length:=by rw[aL'];rfl
  omega
 rw[this];simp;rw[aQ'];simp
end
end L2
namespace L2
open PySem PySem.Spec PyProof.Rows PySem.Builtin PySem.Builtin.Str
theorem eV_:∀{ss:List Str} {us:List Value},Vals (ss.map V.str) us->StrsAre us ss
 |[],_,.nil=>.nil
 |x::ss,_,.cons r rs=>by
  obtain⟨t,rfl⟩:=r;exact .cons x t (eV_ rs)
section
variable{X:Cx}
def rJoin(K:F__):V->List V->Hp->VK->Prop:=fun x vs H Q=>∃(sep:Str) (p:Addr) (ss:List Str),x=.str sep/\vs=[.ref p]/\SqL K H p (ss.map V.str)/\(ss.map (·.length)).sum+ss.length * sep.length<=16777216/\Q (.str (Txt.join sep ss)) H
theorem jk_:MtM X "str.join" (rJoin X.K):=by
 intro pins s σ H x vs v us Q I rx rv h;obtain⟨sep,p,ss,rfl,rfl,hp,hz,q⟩:=h;obtain⟨t,rfl⟩:=rx;obtain⟨u,rfl,ru⟩:=rv.one;cases (show u=Value.ref p from ru);obtain⟨its,r,ht,_⟩:=I.list hp;exact join_list ht.isList (eV_ r) hz fun t' k=>⟨.str _,H,I.tok k,⟨t',rfl⟩,q⟩
end
end L2
namespace L2
open PySem PySem.Spec PyProof.Rows PySem.W
section
variable{X:Cx}
def rMulS:R2:=fun x y H Q=>∃z n,x=.str z/\y=.int n/\PySem.MulOk z n/\Q (.str (Txt.mul z n)) H
theorem iR_:OpR X (binaryOp .Mult) rMulS:=by
 intro pins s σ H x y v u Q I rx ry h;obtain⟨z,n,rfl,rfl,ok,q⟩:=h;obtain⟨t,rfl⟩:=rx;obtain⟨t2,rfl⟩:=ry;exact SB.mul ok fun t' k=>⟨.str _,H,I.tok _,⟨_,rfl⟩,q⟩
end
end L2
namespace Ev
open PySem L2
theorem hitL{α:Type}{p:α->Prop}{xs:List α}{r:Int}{n:Nat}(hn:xs.length=n)(h0:0<=r)(h1:r<(n:Int))(h:∀v∈xs,p v):∃v,atI xs r=some v/\p v:=by
 have hl:r.toNat<xs.length:=by omega
 refine⟨xs[r.toNat],?_,h _ (az' hl)⟩;rw[bg' h0 (by omega),ac' hl]
section
variable{P:Program}{w:World}{K:F__}{mg:Str->Option Value}{base:Heap}
theorem scCell:a4' ["_law_script","_law_k"] ["_law_script","_law_k"] (a3' sCell):=f__
def spCell(K:F__):Sp:=fun vs H Q _=>∃(l:Addr) (ns:List Int) (k:Int),vs=[.ref l,.int k]/\0<=k/\SqL K H l (ns.map V.int)/\∀n,Q (.int n) H
theorem j8_{f:Addr}{fd:FuncData}(F:Fun K "_law_cell_at" "_law_cell_at" sCell f fd)(B:Bi mg):FnOk P w K mg base CX0 1 f fd ["_law_script","_law_k"] (spCell K):=by
 refine F.ok scCell (fun vs H Q E h=>?_) (fun cdv A outer s H vs Q E hr h=>?_)
 ·obtain⟨l,ns,k,rfl,_⟩:=h;rfl
 ·obtain⟨l,ns,i,rfl,h0,hl,k⟩:=h;refine⟨_,a2_ (aB_ (an_ je_ (pv 1) (ac_ ai_ (by rfl) B.len PySem.boot_len (a0_ (pv 0) a3_)) (nomark _)) (a5_ (ab_ (az_ aH_ (pv 0) (pv 1) (fun _ _=>rfl)))) ae_) (a5_ (ab_ a7_)),?_⟩;refine⟨_,rfl,_,rfl,l,_,rfl,.inl hl,_,_,rfl,rfl,_,rfl,?_⟩;refine ite2 (fun c=>?_) (fun c=>?_)
  ·have c:i<(ns.map V.int).length:=by simpa using c
   have e:atI (ns.map V.int) i=some (.int (ns[i.toNat]'(by rw[aa'] at c;omega))):=by
    rw[bg' h0 c,al',ac' (by rw[aa'] at c;omega)];rfl
   exact⟨_,rfl,_,rfl,l,_,_,_,rfl,rfl,hl,e,k _⟩
  ·exact k 0
theorem cB':a4' ["_law_number"] ["_law_number"] (a3' sMixed):=f__
def spMixed:Sp:=fun vs H Q _=>∃n:Int,vs=[.int n]/\∀r:Int,Q (.int r) H
theorem small(x:Int):-(2 ^ 64)<x % 2147483647/\x % 2147483647<2 ^ 64:=by
 have a:=aX' x (show (2147483647:Int)≠0 by decide);have b:=aU' x (show (0:Int)<2147483647 by decide);omega
theorem small1(x:Int):-(2 ^ 64)<x % 2147483647+1/\x % 2147483647+1<2 ^ 64:=by
 have a:=aX' x (show (2147483647:Int)≠0 by decide);have b:=aU' x (show (0:Int)<2147483647 by decide);omega
theorem hE_{f:Addr}{fd:FuncData}(F:Fun K "_law_mixed" "_law_mixed" sMixed f fd):FnOk P w K mg base CX0 1 f fd ["_law_number"] spMixed:=by
 refine F.ok cB' (fun vs H Q E h=>?_) (fun cdv A outer s H vs Q E hr h=>?_)
 ·obtain⟨n,rfl,_⟩:=h;rfl
 ·obtain⟨n,rfl,k⟩:=h;refine' ⟨_,a2_ ?s1 (a2_ ?s2 ?s3),?kk⟩
  case s1=>exact aa_ (i:=0) cB'.nd rfl (Or.inl rfl) (aj_ bw_ (aj_ b6_ (aj_ b1_ (aj_ bw_ (pv 0) a7_) a7_) a7_) a7_)
  case s2=>exact aa_ (i:=0) cB'.nd rfl (Or.inl rfl) (aj_ bw_ (aj_ b6_ (pv 0) (aj_ b1_ (aj_ bt_ (pv 0) a7_) a7_)) a7_)
  case s3=>exact a5_ (ab_ (aj_ bw_ (aj_ b6_ (aj_ b1_ (pv 0) a7_) (aj_ b1_ (aj_ bt_ (pv 0) a7_) a7_)) a7_))
  case' kk=>skip
  refine⟨_,rfl,_,_,rfl,rfl,by show (0:Int)<2147483647;decide,_,_,rfl,rfl,_,_,rfl,rfl,.inl (small1 n),_,_,rfl,rfl,by show (0:Int)<2147483647;decide,?_⟩;refine⟨_,rfl,_,rfl,_,_,rfl,rfl,⟨by decide,by decide⟩,_,_,rfl,rfl,_,_,rfl,rfl,.inl (small _),_,_,rfl,rfl,by show (0:Int)<2147483647;decide,?_⟩;exact⟨_,rfl,_,_,rfl,rfl,_,rfl,_,_,rfl,rfl,⟨by decide,by decide⟩,_,_,rfl,rfl,_,_,rfl,rfl,.inl (small1 _),_,_,rfl,rfl,by show (0:Int)<2147483629;decide,k _⟩
theorem scState:a4' ["_law_cell","_law_k"] ["_law_cell","_law_k"] (a3' sState):=f__
def spState:Sp:=fun vs H Q _=>∃(c:Int) (i:Nat),vs=[.int c,.int i]/\i<100/\∀l H',Same H H'->H l=none->stt H' l->Q (.ref l) H'
theorem hn_{f:Addr}{fd:FuncData}(F:Fun K "_law_state" "_law_state" sState f fd):FnOk P w K mg base CX0 1 f fd ["_law_cell","_law_k"] spState:=by
 refine F.ok scState (fun vs H Q E h=>?_) (fun cdv A outer s H vs Q E hr h=>?_)
 ·obtain⟨c,i,rfl,_⟩:=h;rfl
 ·obtain⟨c,i,rfl,hi,k⟩:=h;refine⟨_,a5_ (ab_ (ar_ (a0_ (aj_ bt_ (pv 0) a7_) (a0_ (aj_ bw_ (pv 0) a7_) (a0_ (aj_ b1_ (pv 0) (aj_ b6_ a7_ (pv 1))) a3_))))),?_⟩;refine⟨_,rfl,_,_,rfl,rfl,⟨by decide,by decide⟩,_,rfl,_,_,rfl,rfl,by show (0:Int)<2;decide,_,rfl,_,rfl,_,_,rfl,rfl,.inl ⟨by decide,by decide⟩,_,_,rfl,rfl,by show 3<=sizeLine;decide,fun l hl=>?_⟩;exact k l _ (Same.new hl) hl ⟨_,_,_,a1_⟩
theorem scDigit:a4' ["_law_state_here","_law_base","_law_found"] ["_law_state_here","_law_base"] (a3' sDigit):=f__
def bJ':Sp:=fun vs H Q _=>∃(l:Addr) (b:Int),vs=[.ref l,.int b]/\0<b/\b<1073741824/\stt H l/\∀r H',0<=r->r<b->But l H H'->stt H' l->Q (.int r) H'
theorem hI_{f:Addr}{fd:FuncData}(F:Fun K "_law_digit" "_law_digit" sDigit f fd)(cM:Cal P w K mg base 1 "_law_mixed" ["_law_number"] spMixed):FnOk P w K mg base CX0 2 f fd ["_law_state_here","_law_base"] bJ':=by
 refine F.ok scDigit (fun vs H Q E h=>?_) (fun cdv A outer s H vs Q E hr h=>?_)
 ·obtain⟨l,b,rfl,_⟩:=h;rfl
 ·obtain⟨l,b,rfl,h0,h1,⟨x,y,z,hl⟩,k⟩:=h;refine' ⟨_,a2_ ?s1 (a2_ ?s2 ?s3),?kk⟩
  case s1=>exact aB_ (d0_ (an_ cP_ (az_ aH_ (pv 0) a7_ (fun _ _=>rfl)) a7_ (nomark _)) (cH_ (an_ dr_ (az_ aH_ (pv 0) a7_ (fun _ _=>rfl)) a7_ (nomark _)))).pt (a2_ (aa_ (i:=2) scDigit.nd rfl (Or.inl rfl) (aj_ bw_ (az_ aH_ (pv 0) a7_ (fun _ _=>rfl)) (pv 1))) (a2_ (dx_ (aj_ bt_ (az_ aH_ (pv 0) a7_ (fun _ _=>rfl)) (pv 1)) (im_ (pv 0) a7_ eE_)) (a5_ (ab_ (pv 2))))) ae_
  case s2=>exact dx_ (af_ cM hr (a0_ (aj_ b1_ (az_ aH_ (pv 0) a7_ (fun _ _=>rfl)) a7_) a3_)) (im_ (pv 0) a7_ eE_)
  case s3=>exact a5_ (ab_ (aj_ bw_ (aj_ bt_ (az_ aH_ (pv 0) a7_ (fun _ _=>rfl)) a7_) (pv 1)))
  case' kk=>skip
  have other:∀{R:Prop},R->R:=fun h=>h;refine⟨_,rfl,l,_,_,_,rfl,rfl,.of hl,rfl,rfl,_,rfl,?_⟩;refine ite2 (fun c=>?_) (fun c=>?_)
  ·refine⟨_,rfl,l,_,_,_,rfl,rfl,.of hl,rfl,_,_,rfl,rfl,_,rfl,?_⟩;refine ite2 (fun c2=>?_) (fun c2=>?_)
   ·refine⟨_,rfl,l,_,_,_,rfl,rfl,.of hl,rfl,_,rfl,_,_,rfl,rfl,h0,?_⟩;refine⟨_,rfl,l,_,_,_,rfl,rfl,.of hl,rfl,_,rfl,_,_,rfl,rfl,⟨h0,h1⟩,_,rfl,l,_,_,0,rfl,rfl,hl,rfl,?_⟩;exact⟨_,rfl,k _ _ (aX' _ (by omega)) (aU' _ h0) But.upd ⟨_,_,_,a1_⟩⟩
   ·refine⟨_,rfl,l,_,_,_,rfl,rfl,.of hl,rfl,_,_,rfl,rfl,_,rfl,fun r=>⟨_,rfl,l,_,_,2,rfl,rfl,hl,rfl,?_⟩⟩;refine⟨_,rfl,l,_,_,_,rfl,rfl,.of a1_,rfl,_,_,rfl,rfl,⟨by decide,by decide⟩,_,rfl,_,_,rfl,rfl,h0,?_⟩;exact k _ _ (aX' _ (by omega)) (aU' _ h0) But.upd ⟨_,_,_,a1_⟩
  ·refine⟨_,rfl,l,_,_,_,rfl,rfl,.of hl,rfl,_,_,rfl,rfl,_,rfl,fun r=>⟨_,rfl,l,_,_,2,rfl,rfl,hl,rfl,?_⟩⟩;refine⟨_,rfl,l,_,_,_,rfl,rfl,.of a1_,rfl,_,_,rfl,rfl,⟨by decide,by decide⟩,_,rfl,_,_,rfl,rfl,h0,?_⟩;exact k _ _ (aX' _ (by omega)) (aU' _ h0) But.upd ⟨_,_,_,a1_⟩
end
end Ev
namespace Ev
open PySem L2
theorem seqG{t u:TS}{D:Ends}{σ:St}{H:Hp}(R:St->Hp->Prop)(later:∀σ H,R σ H->u D σ H)(now:∀N:St->Hp->Prop,(∀σ H,R σ H->N σ H)->t { D with nx:=N } σ H):tSeq t u D σ H:=now (u D) later
theorem setG{i:Nat}{v:V}{σ:St}{H:Hp}{N:St->Hp->Prop}(h:N (σ.set i (some v)) H):bX' i v σ H N:=h
theorem stt.upd{H:Hp}{l a:Addr}{o:HO}(h:stt H l)(n:a≠l):stt (L2.upd H a o) l:=by
 obtain⟨x,y,z,e⟩:=h;exact⟨x,y,z,by rw[a4_ n.symm];exact e⟩
theorem But.snd{l a:Addr}{H H':Hp}{o:HO}(h:But l H H')(e:H a=none):But l H (L2.upd H' a o):=fun b u q n=>by
 rw[a4_ (a6_ q e)];exact h b u q n
theorem hv_(sep:Str)(ss:List Str):(Txt.join sep ss).length<=(ss.map (·.length)).sum+ss.length * sep.length:=by
 show (Builtin.Str.glued sep ss).length<=_;rw[size_glued];have:(ss.length - 1) * sep.length<=ss.length * sep.length:=Nat.mul_le_mul_right _ (by omega);omega
theorem ka_{ss:List Str}{m:Nat}(h:∀x∈ss,x.length<=m):(ss.map (·.length)).sum<=m * ss.length:=by
 induction ss with
 |nil=>simp
 |cons x ss ih=>
  have a:=h x aj';have b:=ih fun y hy=>h y (ag' _ hy);rw[ar',List.sum_cons,aC',Nat.mul_add,Nat.mul_one];omega
theorem hJ_{ss:List Str}(h:∀x∈ss,∀c∈x.cps.toList,okc c=true):∀c∈(Txt.join "" ss).cps.toList,okc c=true:=by
 rw[show Txt.join "" ss=Str.join "" ss from StrLaws.glued_eq_join "" ss];intro c hc;rcases (PyProof.Rows.mem_join (sep:="") (ts:=ss) c).mp hc with⟨t,ht,m⟩|⟨_,m⟩
 ·exact h t ht c m
 ·rw[show ("":Str)=⟨#[]⟩ by decide +kernel] at m;simp at m
theorem aY_(x:Str):x.length=x.cps.toList.length:=by rw[aL'];rfl
theorem gR_(a b:Str):(a++b).cps.toList=a.cps.toList++b.cps.toList:=by rw[PySem.Str.cps_append,Array.toList_append]
theorem abc_len:("abcdefghijklmnopqrstuvwxyz":Str).length=26/\("abcdefghijklmnopqrstuvwxyz":Str).cps.toList.length=26:=by decide +kernel
theorem gT_{q:Nat}(h:q<26):atI ("abcdefghijklmnopqrstuvwxyz":Str).cps.toList (q:Int)=some (97+q):=by
 rw[bg' (by omega) (by rw[abc_len.2];omega),i6_];have:∀q:Fin 26,([97,98,99,100,101,102,103,104,105,106,107,108,109,110,111,112,113,114,115,116,117,118,119,120,121,122]:List Nat)[(q.val:Int).toNat]? = some (97+q.val):=by decide +kernel
 exact this ⟨q,h⟩
theorem fK_{q:Nat}(h:q<26):okc (97+q)=true:=by
 unfold okc;simp;omega
structure Nm (m:Nat) (ns:List Str):Prop where
 len:ns.length=m
 nd:ns.Nodup
 ok:∀n∈ns,bw' n=true
theorem iT_{m f:Nat}{ns:List Str}{a b:List Nat}(hm:m<=30)(hl:ns.length=m)(oa:∀c∈a,okc c=true)(ob:∀c∈b,okc c=true)(l7:a.length+b.length<=6)
  (h:∀k n,ns[k]? = some n->n.cps.toList=a++(97+(f+7 * k) % 26)::(b++List.replicate (k / 26) 122)):Nm m ns:=by
 refine⟨hl,?_,?_⟩
 ·refine ay'.mpr (List.pairwise_iff_getElem.mpr fun i j hi hj hij e=>?_);have e1:=h i _ (ac' hi);have e2:=h j _ (ac' hj);rw[e,e2] at e1;obtain⟨c1,c2⟩:=List.cons.inj (List.append_cancel_left e1);have c3:=congrArg List.length c2;rw[ap',ap',aK',aK'] at c3;omega
 ·intro n hn;obtain⟨k,hk⟩:=List.mem_iff_getElem?.mp hn;have e:=h k n hk;unfold bw';rw[aY_,e]
  have hk30:k<30:=by
   have:=(ab'.mp hk).1;omega
  simp only[ap',aC',aK',List.all_append,List.all_cons,aY',decide_eq_true_eq,List.all_eq_true];exact⟨⟨by omega,by omega⟩,oa,fK_ (Nat.mod_lt _ (by decide)),ob,fun c hc=>by rw[(List.mem_replicate.mp hc).2];rfl⟩
abbrev nW1:List Str:=["_law_k","_law_letters","_law_state_here"]
abbrev nW2:List Str:=["_law_k","_law_first","_law_letters"]
abbrev nW3:List Str:=["_law_k","_law_place","_law_signs","_law_stem"]
theorem mulZ{q:Nat}(h:q<=1):PySem.MulOk "z" (q:Int)/\(Txt.mul "z" (q:Int)).cps.toList=List.replicate q 122:=by
 have:q=0∨q=1:=by omega
 rcases this with rfl|rfl
 ·exact⟨by unfold PySem.MulOk;decide +kernel,by decide +kernel⟩
 ·exact⟨by unfold PySem.MulOk;decide +kernel,by decide +kernel⟩
section
variable{P:Program}{w:World}{K:F__}{mg:Str->Option Value}{base:Heap}
theorem bR':a4' ["_law_state_here","_law_many","_law_letters","_law_stem","_law_place","_law_first","_law_signs"] ["_law_state_here","_law_many"] (a3' sNamed):=f__
def cV':Sp:=fun vs H Q _=>∃(l:Addr) (m:Nat),vs=[.ref l,.int m]/\m<=30/\stt H l/\∀(a:Addr) (ns:List Str) (H':Hp),But l H H'->stt H' l->H a=none->H' a=some (.lst (ns.map V.str))->Nm m ns->Q (.ref a) H'
set_option maxHeartbeats 1600000 in
theorem hU_{f:Addr}{fd:FuncData}(F:Fun K "_law_named" "_law_named" sNamed f fd)(B:Bi mg)(cD:Cal P w K mg base 2 "_law_digit" ["_law_state_here","_law_base"] bJ'):FnOk P w K mg base CX0 3 f fd ["_law_state_here","_law_many"] cV':=by
 refine F.ok bR' (fun vs H Q E h=>?_) (fun cdv A outer s H vs Q E hr h=>?_)
 ·obtain⟨l,m,rfl,_⟩:=h;rfl
 ·obtain⟨l,m,rfl,m8,st,k⟩:=h;have sz:=sizeLine_eq;refine' ⟨_,?r0,?kk⟩
  case' r0=>refine' a2_ ?s1 ?r1
  case' r1=>refine' a2_ ?s2 ?r2
  case' r2=>refine' a2_ ?s3 ?r3
  case' r3=>refine' a2_ ?s4 ?r4
  case' r4=>refine' a2_ ?s5 ?r5
  case' r5=>refine' a5_ ?s6
  case s1=>exact aa_ (i:=2) bR'.nd rfl (Or.inr rfl) aC_
  case' s2=>refine' aa_ (i:=3) bR'.nd rfl (Or.inr rfl) ?a1
  case' a1=>refine' bK_ PySem.F.plainAttrs_str PySem.F.slot_str_join PySem.F.type_str_join jk_ ?a2 ?a3
  case a2=>exact aC_
  case' a3=>refine' a0_ ?a4 a3_
  case' a4=>refine' aN_ nW1 1 [2,0] ?d1 ?d2 ?d3 ?d4
  case d1=>exact bP_ (by rfl) B.range (a0_ (af_ cD hr (a0_ (pv 0) (a0_ a7_ a3_))) a3_)
  case d2=>exact fun fp s H=>a8_ (i:=0) (show nW1.Nodup by decide +kernel) rfl (Or.inl rfl)
  case d3=>exact fun fp s H=>aS_
  case d4=>exact fun fp s H=>az_ i7_ (pv 1) (af_ cD hr (a0_ (pv 2) (a0_ a7_ a3_))) (fun _ _=>rfl)
  case s3=>exact aa_ (i:=4) bR'.nd rfl (Or.inr rfl) (af_ cD hr (a0_ (pv 0) (a0_ (aj_ b1_ (ac_ cf_ (by rfl) B.len PySem.boot_len (a0_ (pv 3) a3_)) a7_) a3_)))
  case s4=>exact aa_ (i:=5) bR'.nd rfl (Or.inr rfl) (af_ cD hr (a0_ (pv 0) (a0_ a7_ a3_)))
  case' s5=>refine' aa_ (i:=6) bR'.nd rfl (Or.inr rfl) ?e0
  case' e0=>refine' aN_ nW2 1 [5,2] ?e1 ?e2 ?e3 ?e4
  case e1=>exact bP_ (by rfl) B.range (a0_ (pv 1) a3_)
  case e2=>exact fun fp s H=>a8_ (i:=0) (show nW2.Nodup by decide +kernel) rfl (Or.inl rfl)
  case e3=>exact fun fp s H=>aS_
  case e4=>exact fun fp s H=>az_ i7_ (pv 2) (aj_ bw_ (aj_ b1_ (pv 1) (aj_ b6_ a7_ (pv 0))) a7_) (fun _ _=>rfl)
  case' s6=>refine' ab_ ?f0
  case' f0=>refine' aN_ nW3 1 [4,6,3] ?f1 ?f2 ?f3 ?f4
  case f1=>exact bP_ (by rfl) B.range (a0_ (pv 1) a3_)
  case f2=>exact fun fp s H=>a8_ (i:=0) (show nW3.Nodup by decide +kernel) rfl (Or.inl rfl)
  case f3=>exact fun fp s H=>aS_
  case' f4=>intro fp s H
  case' f4=>refine' aj_ bx_ ?g1 ?g2
  case' g1=>refine' aj_ bx_ ?g3 ?g4
  case' g3=>refine' aj_ bx_ ?g5 ?g6
  case g5=>exact dn_ ie_ (pv 3) ev_ (eb_ (pv 1))
  case g6=>exact az_ (ixK (K:=K) rIxL aH_) (pv 2) (pv 0) (fun _ _=>rfl)
  case g4=>exact dn_ ie_ (pv 3) (eb_ (pv 1)) ev_
  case g2=>exact aj_ iR_ aC_ (aj_ bt_ (pv 0) a7_)
  case' kk=>skip
  refine⟨rfl,_,rfl,l,7,rfl,by decide,by decide,st,fun r H1 r0 r7 b1 st1=>⟨r,rfl,by omega,by omega,fun D hD=>?_⟩⟩;have Dl:=st1.ne hD;refine c0_ (own:=1) (fv:=[some (.str "abcdefghijklmnopqrstuvwxyz"),some (.ref l)]) rfl gok1 r.toNat (fun i out H'=>∃ss:List Str,But l H1 H'/\stt H' l/\out=ss.map V.str/\H' D=some (.lst out)/\ss.length=i/\∀x∈ss,x.length<=1/\∀c∈x.cps.toList,okc c=true) ⟨[],But.of (Same.new hD),st1.same (Same.new hD),rfl,a1_,rfl,by simp⟩ (fun out H2 ⟨ss,b2,st2,eo,hD2,le,h1⟩=>⟨af' _,?_⟩) (fun i out H2 hi ⟨ss,b2,st2,eo,hD2,le,h1⟩=>⟨hi,fun x H3 ⟨e3,ex⟩=>?_⟩);rotate_left 1
  ·subst e3;refine⟨_,rfl,rfl,fun Nx hN=>yesT ?_⟩;refine⟨_,rfl,_,rfl,l,26,rfl,by decide,by decide,st2,fun q H4 q0 q26 b4 st4=>?_⟩;obtain⟨q,rfl⟩:=aG' q0;have q26':q<26:=by omega
   refine⟨_,_,97+q,rfl,rfl,by rw[abc_len.1];decide,gT_ q26',out,b4 _ _ hD2 Dl,?_,hN (out++[.str ⟨#[97+q]⟩]) _ ⟨ss++[⟨#[97+q]⟩],?_,st4.upd Dl,?_,a1_,?_,?_⟩⟩
   ·rw[eo,aa'];omega
   ·exact (b2.trans b4).snd hD
   ·rw[eo,an'];rfl
   ·rw[ap',le];rfl
   ·intro x hx;rcases au'.mp hx with hx|hx
    ·exact h1 x hx
    ·obtain rfl:x=⟨#[97+q]⟩:=by simpa using hx
     refine⟨af' 1,fun c hc=>?_⟩;obtain rfl:c=97+q:=by simpa using hc
     exact fK_ q26'
  subst eo;have sl:=ka_ fun x hx=>(h1 x hx).1;have l8:ss.length<=6:=by omega
  have b02:=b1.trans b2;have fD:=b1.free st1 hD;refine⟨"",D,ss,rfl,rfl,.of hD2,by show (ss.map (·.length)).sum+ss.length * 0<=16777216;omega,?_⟩
  have jl:(Txt.join "" ss).length<=6:=by
   have:=hv_ "" ss;have e0:("":Str).length=0:=by decide +kernel
   rw[e0] at this;omega
  have jo:=hJ_ fun x hx=>(h1 x hx).2;generalize Txt.join "" ss=jn at jl jo ⊢;clear hD2 h1 sl;refine⟨_,rfl,_,rfl,jn,rfl,by omega,_,_,rfl,rfl,l,_,rfl,by omega,by omega,st2,fun pl H4 p0 p1 b4 st4=>?_⟩;obtain⟨pl,rfl⟩:=aG' p0;have p1':pl<=jn.length:=by omega
  refine⟨_,rfl,l,26,rfl,by decide,by decide,st4,fun fi H5 f0 f1 b5 st5=>?_⟩;obtain⟨fi,rfl⟩:=aG' f0;have b05:=b02.trans (b4.trans b5);clear b02 b4 b5 b1 b2;refine⟨_,rfl,(m:Int),rfl,by omega,by omega,fun D2 hD2=>?_⟩;have D2l:=st5.ne hD2;have fD2:=b05.free st5 hD2;refine c0_ (own:=1) (fv:=[some (.int fi),some (.str "abcdefghijklmnopqrstuvwxyz")]) rfl gok1 m (fun i out H'=>Same H5 H'/\out=((List.range i).map fun k=>V.str ⟨#[97+(fi+7 * k) % 26]⟩)/\H' D2=some (.lst out)) ⟨Same.new hD2,rfl,a1_⟩ (fun out H6 ⟨s6,eo,h6⟩=>⟨af' _,?_⟩) (fun i out H6 hi ⟨s6,eo,h6⟩=>⟨hi,fun x H7 ⟨e7,ex⟩=>?_⟩);rotate_left 1
  ·subst e7;subst ex;have q26:(fi+7 * i) % 26<26:=Nat.mod_lt _ (by decide);refine⟨_,rfl,rfl,fun Nx hN=>yesT ?_⟩;refine⟨_,rfl,_,rfl,_,rfl,_,_,rfl,rfl,.inl ⟨by decide,by decide⟩,_,_,rfl,rfl,_,_,rfl,rfl,by show (0:Int)<26;decide,?_⟩;have e:((fi:Int)+7 * (0+(i:Int))) % 26=(((fi+7 * i) % 26:Nat):Int):=by omega
   refine⟨_,_,97+(fi+7 * i) % 26,rfl,rfl,by rw[abc_len.1];decide,?_,out,h6,?_,hN (out++[.str ⟨#[97+(fi+7 * i) % 26]⟩]) _ ⟨ao_ s6 hD2,?_,a1_⟩⟩
   ·rw[e];exact gT_ q26
   ·rw[eo,aa',List.length_range];omega
   ·rw[eo,List.range_succ,an'];rfl
  subst eo;have b06:But l H H6:=b05.trans (But.of s6);have st6:=st5.same s6;have hl6:jn.length=jn.cps.toList.length:=aY_ jn;refine⟨_,rfl,(m:Int),rfl,by omega,by omega,fun D3 hD3=>?_⟩;have D3l:=st6.ne hD3;have fD3:=b06.free st6 hD3;refine c0_ (own:=1) (fv:=[some (.int pl),some (.ref D2),some (.str jn)]) rfl gok1 m (fun i out H'=>∃ns:List Str,Same H6 H'/\out=ns.map V.str/\H' D3=some (.lst out)/\ns.length=i/\∀k n,ns[k]? = some n->n.cps.toList=jn.cps.toList.take pl++(97+(fi+7 * k) % 26)::(jn.cps.toList.drop pl++List.replicate (k / 26) 122)) ⟨[],Same.new hD3,rfl,a1_,rfl,by simp⟩ (fun out H7 ⟨ns,s7,eo,h7,le,hn⟩=>⟨af' _,?_⟩) (fun i out H7 hi ⟨ns,s7,eo,h7,le,hn⟩=>⟨hi,fun x H8 ⟨e8,ex⟩=>?_⟩)
  ·subst eo;refine k D3 ns H7 (b06.trans (But.of s7)) (st6.same s7) fD3 h7 (iT_ m8 le (fun c hc=>jo c (List.mem_of_mem_take hc)) (fun c hc=>jo c (List.mem_of_mem_drop hc)) ?_ hn);rw[ak',List.length_drop];omega
  ·subst e8;subst ex;refine⟨_,rfl,rfl,fun Nx hN=>yesT ?_⟩;have ct:=jV_ (x:=jn) p1';have cf:=hF_ (x:=jn) p1'
   have lt:(Txt.slice jn none (some (pl:Int))).length<=6:=by
    rw[aY_,ct,ak'];omega
   have lf:(Txt.slice jn (some (pl:Int)) none).length<=6:=by
    rw[aY_,cf,List.length_drop];omega
   have ha:((List.range m).map fun k=>V.str ⟨#[97+(fi+7 * k) % 26]⟩)[i]? = some (V.str ⟨#[97+(fi+7 * i) % 26]⟩):=by
    rw[al',List.getElem?_range hi];rfl
   refine⟨_,rfl,_,rfl,_,rfl,jn,rfl,by omega,_,rfl,_,rfl,D2,_,_,V.str ⟨#[97+(fi+7 * i) % 26]⟩,rfl,rfl,.of (s7 _ _ h6),?_,_,_,rfl,rfl,?_,?_⟩
   ·rw[bg' (by omega) (by rw[aa',List.length_range];omega),Int.zero_add];exact ha
   ·show (Txt.slice jn none (some (pl:Int))).length+1<=sizeLine;omega
   have l1:(Txt.slice jn none (some (pl:Int))++(⟨#[97+(fi+7 * i) % 26]⟩:Str)).length<=7:=by
    rw[aY_,gR_,ap',<- aY_];show _+1<=7;omega
   refine⟨_,rfl,_,rfl,_,rfl,jn,rfl,by omega,_,_,rfl,rfl,by omega,?_⟩
   have l2:(Txt.slice jn none (some (pl:Int))++(⟨#[97+(fi+7 * i) % 26]⟩:Str)++Txt.slice jn (some (pl:Int)) none).length<=13:=by
    rw[aY_,gR_,ap',<- aY_,<- aY_];omega
   have z0:((0:Int)+(i:Int)) / 26=((i / 26:Nat):Int):=by omega
   have q1:i / 26<=1:=by omega
   have lz:(Txt.mul "z" ((i / 26:Nat):Int)).length<=1:=by
    rw[aY_,(mulZ q1).2,aK'];exact q1
   refine⟨_,rfl,_,_,rfl,rfl,⟨by decide,by decide⟩,"z",((i / 26:Nat):Int),rfl,by show V.int ((0+(i:Int)) / 26)=_;rw[z0],(mulZ q1).1,_,_,rfl,rfl,?_,out,h7,?_,hN _ _ ⟨ns++[Txt.slice jn none (some (pl:Int))++(⟨#[97+(fi+7 * i) % 26]⟩:Str)++Txt.slice jn (some (pl:Int)) none++Txt.mul "z" ((i / 26:Nat):Int)],ao_ s7 hD3,?_,a1_,?_,?_⟩⟩
   ·omega
   ·rw[eo,aa'];omega
   ·rw[eo,an'];rfl
   ·rw[ap',le];rfl
   ·intro k n hk;by_cases z:k<ns.length
    ·rw[aM' z] at hk;exact hn k n hk
    ·rw[aI' (by omega)] at hk
     have hk0:k - ns.length=0:=by
      have:=(ab'.mp hk).1;simp at this;omega
     rw[hk0] at hk;have:k=i:=by omega
     subst this;obtain rfl:=(Option.some.inj hk);rw[gR_,gR_,gR_,ct,cf,(mulZ q1).2];simp
end
end Ev
namespace Ev
open PySem L2
structure WI (K:F__) (H0 H:Hp) (l ln lh lt:Addr) (ns:List Str) (nh k j:Nat):Prop where
 but:But l H0 H
 st:stt H l
 hn:H ln=some (.lst (ns.map V.str))
 hands:∃(ys:List V) (hs:Xa),H lh=some (.lst ys)/\a5' K H ys (hs.map kH)/\hs.map (·.1)=ns.take nh/\∀h∈hs,1<=h.2/\h.2<=1000
 ties:∃(zs:List V) (ts:Xb),H lt=some (.lst zs)/\a5' K H zs (ts.map kT)/\TI ns k j ts
 nl:ln≠l
 hl:lh≠l
 tl:lt≠l
 th:lt≠lh
 nh':ln≠lh
 nt:ln≠lt
 fh:H0 lh=none
 ft:H0 lt=none
section
variable{K:F__}{H0 H H':Hp}{l ln lh lt:Addr}{ns:List Str}{nh k j:Nat}
theorem WI.mv(W:WI K H0 H l ln lh lt ns nh k j)(b:But l H H')(s:stt H' l):WI K H0 H' l ln lh lt ns nh k j:=by
 obtain⟨xs,hx⟩:=W.st.some;obtain⟨ys,hs,h1,h2,h3,h4⟩:=W.hands;obtain⟨zs,ts,t1,t2,t3⟩:=W.ties;exact⟨W.but.trans b,s,b _ _ W.hn W.nl,⟨ys,hs,b _ _ h1 W.hl,aV_ h2 b hx,h3,h4⟩,⟨zs,ts,b _ _ t1 W.tl,aV_ t2 b hx,t3⟩,W.nl,W.hl,W.tl,W.th,W.nh',W.nt,W.fh,W.ft⟩
theorem WI.same(W:WI K H0 H l ln lh lt ns nh k j)(s:Same H H'):WI K H0 H' l ln lh lt ns nh k j:=W.mv (But.of s) (W.st.same s)
theorem WI.hand(W:WI K H0 H l ln lh lt ns nh k j){t:Addr}{n:Str}{x:Int}{ys:List V}(hx:1<=x/\x<=1000)(hn:ns[nh]? = some n)(hy:H lh=some (.lst ys))(ht:H t=some (.tup [.str n,.int x])):WI K H0 (upd H lh (.lst (ys++[.ref t]))) l ln lh lt ns (nh+1) k j:=by
 obtain⟨ys',hs,h1,h2,h3,h4⟩:=W.hands;rw[hy] at h1;cases h1;obtain⟨zs,ts,t1,t2,t3⟩:=W.ties;have tt:H t=some (.tup ((kH (n,x)).map kV)):=ht;refine⟨W.but.snd W.fh,W.st.upd W.hl,by rw[a4_ W.nh'];exact W.hn,⟨_,hs++[(n,x)],a1_,?_,?_,fun h hh=>?_⟩,⟨zs,ts,by rw[a4_ W.th];exact t1,b7_ t2 hy,t3⟩,W.nl,W.hl,W.tl,W.th,W.nh',W.nt,W.fh,W.ft⟩
 ·rw[an'];exact b7_ (ba_ h2 tt) hy
 ·rw[an',h3,aw',hn];rfl
 ·rcases au'.mp hh with hh|hh
  ·exact h4 h hh
  ·obtain rfl:h=(n,x):=by simpa using hh
   exact hx
theorem fC_{α:Type}(l:List α)(x:α):di' l l.length x=l++[x]:=by
 unfold di';rw[am',List.drop_length]
end
section
variable{P:Program}{w:World}{K:F__}{mg:Str->Option Value}{base:Heap}
theorem bA':a4' ["_law_state_here","_law_names","_law_plain","_law_dense","_law_hands","_law_ties","_law_k","_law_name","_law_some","_law_other","_law_pair"] ["_law_state_here"] (a3' sLWeb):=f__
def spLWeb(K:F__):Sp:=fun vs H Q _=>∃(l:Addr),vs=[.ref l]/\stt H l/\∀(t lh lt:Addr) (ys zs:List V) (hs:Xa) (ts:Xb) (H':Hp),But l H H'->stt H' l->H' t=some (.tup [.ref lh,.ref lt])->H lh=none->H lt=none->lh≠lt->lh≠l->lt≠l->
 H' lh=some (.lst ys)->a5' K H' ys (hs.map kH)->H' lt=some (.lst zs)->a5' K H' zs (ts.map kT)->Good hs ts->Q (.ref t) H'
theorem nw__{H:Hp}{a:Addr}{o:HO}(n:H a=none):Same H (upd H a o)/\upd H a o a=some o:=⟨Same.new n,a1_⟩
set_option maxHeartbeats 1600000 in
theorem j0_{f:Addr}{fd:FuncData}(F:Fun K "_law_web" "_law_web" sLWeb f fd)(B:Bi mg)(cD:Cal P w K mg base 2 "_law_digit" ["_law_state_here","_law_base"] bJ')(cN:Cal P w K mg base 3 "_law_named" ["_law_state_here","_law_many"] cV'):FnOk P w K mg base CX0 4 f fd ["_law_state_here"] (spLWeb K):=by
 refine F.ok bA' (fun vs H Q E h=>?_) (fun cdv A outer s H vs Q E hr h=>?_)
 ·obtain⟨l,rfl,_⟩:=h;rfl
 ·obtain⟨l,rfl,st,k⟩:=h;have sz:=sizeLine_eq;have hr2:Room 2 _:=hr.mono (by decide);refine' ⟨_,?r0,?kk⟩
  case' r0=>refine' a2_ ?s1 ?r1
  case' r1=>refine' a2_ ?s2 ?r2
  case' r2=>refine' a2_ ?s3 ?r3
  case' r3=>refine' a2_ ?s4 ?r4
  case' r4=>refine' a2_ ?s5 ?r5
  case' r5=>refine' a2_ ?s6 ?r6
  case' r6=>refine' a5_ ?s7
  case s1=>exact aa_ (i:=1) bA'.nd rfl (Or.inl rfl) (af_ cN hr (a0_ (pv 0) (a0_ (aj_ b1_ a7_ (af_ cD hr2 (a0_ (pv 0) (a0_ a7_ a3_)))) a3_)))
  case s2=>exact aa_ (i:=2) bA'.nd rfl (Or.inl rfl) (af_ cD hr2 (a0_ (pv 0) (a0_ a7_ a3_)))
  case s3=>exact aa_ (i:=3) bA'.nd rfl (Or.inl rfl) (aj_ b1_ a7_ (af_ cD hr2 (a0_ (pv 0) (a0_ a7_ a3_))))
  case s4=>exact aa_ (i:=4) bA'.nd rfl (Or.inl rfl) (ar_ a3_)
  case s5=>exact aa_ (i:=5) bA'.nd rfl (Or.inl rfl) (ar_ a3_)
  case' s6=>refine' aK_ PassesOwn.never rfl (gx_ (by rfl) B.enum (a0_ (pv 1) a3_)) (b8_ rfl (ad_ (a8_ (i:=6) bA'.nd rfl (Or.inl rfl)) (ad_ (a8_ (i:=7) bA'.nd rfl (Or.inl rfl)) aO_))) ?b0
  case' b0=>refine' a2_ ?b1 ?c1
  case' c1=>refine' a2_ ?b2 ?c2
  case' c2=>refine' a5_ ?b3
  case' b1=>refine' aa_ (i:=8) bA'.nd rfl (Or.inl rfl) (ar_ ?l0)
  case' l0=>refine' a0_ a7_ ?l1
  case' l1=>refine' a0_ (aj_ b1_ a7_ (af_ cD hr2 (a0_ (pv 0) (a0_ a7_ a3_)))) ?l2
  case' l2=>refine' a0_ (aj_ b1_ a7_ (af_ cD hr2 (a0_ (pv 0) (a0_ a7_ a3_)))) ?l3
  case l3=>exact a0_ a7_ a3_
  case' b2=>refine' b4_ (bK_ PySem.F.plainAttrs_list PySem.F.slot_list_append PySem.F.type_list_append aT_ (pv 4) (a0_ (aL_ (a0_ (pv 7) (a0_ ?d1 a3_))) a3_))
  case d1=>exact az_ aH_ (pv 8) (aj_ b6_ (af_ cD hr2 (a0_ (pv 0) (a0_ a7_ a3_))) (aw_ bR_ (by rfl) B.int PyProof.Rows.Boot.«int» (a0_ (aG_ dr_ (pv 2) a7_ (nomark _)) a3_))) (fun _ _=>rfl)
  case' b3=>refine' aK_ PassesOwn.never rfl (ak_ (dn_ iV_ (pv 1) ev_ (eb_ (pv 6)))) (a8_ (i:=9) bA'.nd rfl (Or.inl rfl)) ?e0
  case' e0=>refine' a2_ ?e1 ?e2
  case e1=>exact aa_ (i:=10) bA'.nd rfl (Or.inl rfl) (az_ aH_ (ar_ (a0_ (aL_ (a0_ (pv 7) (a0_ (pv 9) a3_))) (a0_ (aL_ (a0_ (pv 9) (a0_ (pv 7) a3_))) a3_))) (af_ cD hr2 (a0_ (pv 0) (a0_ a7_ a3_))) (fun _ _=>rfl))
  case' e2=>refine' a5_ (aa_ (i:=5) bA'.nd rfl (Or.inl rfl) (aj_ dX_ (pv 5) (aj_ ic_ (ar_ (a0_ (pv 10) a3_)) ?g1)))
  case g1=>exact aw_ bR_ (by rfl) B.int PyProof.Rows.Boot.«int» (a0_ (aG_ je_ (af_ cD hr2 (a0_ (pv 0) (a0_ a7_ a3_))) (pv 3) (nomark _)) a3_)
  case s7=>exact ab_ (aL_ (a0_ (pv 4) (a0_ (pv 5) a3_)))
  case' kk=>skip
  refine⟨_,rfl,_,rfl,l,8,rfl,by decide,by decide,st,fun r H1 r0 r8 b1 st1=>⟨_,_,rfl,rfl,?_⟩⟩;obtain⟨r,rfl⟩:=aG' r0;refine⟨l,1+r,by show [V.ref l,V.int (1+(r:Int))]=[V.ref l,V.int ((1+r:Nat):Int)];rw[Int.natCast_add];rfl,by omega,st1,fun ln ns H2 b2 st2 fn hn2 N=>?_⟩;have n8:ns.length<=8:=by rw[N.len];omega
  have n1:1<=ns.length:=by rw[N.len];omega
  have lnl:ln≠l:=st1.ne fn;refine⟨_,rfl,l,3,rfl,by decide,by decide,st2,fun pln H3 p0 p1 b3 st3=>?_⟩;refine⟨_,rfl,l,3,rfl,by decide,by decide,st3,fun dn H4 d0 d1 b4 st4=>⟨_,_,rfl,rfl,?_⟩⟩;have hn4:=b4 _ _ (b3 _ _ hn2 lnl) lnl;have B4:But l H H4:=b1.trans (b2.trans (b3.trans b4));refine⟨by show 0<=sizeLine;decide,fun lh hlh=>?_⟩;obtain⟨s5,hlh5⟩:=nw__ (o:=.lst []) hlh;have lhl:=st4.ne hlh;have fh:H lh=none:=B4.free st4 hlh;have nlh:ln≠lh:=a6_ hn4 hlh;generalize upd H4 lh (.lst [])=H5 at s5 hlh5 ⊢;refine⟨by show 0<=sizeLine;decide,fun lt hlt=>?_⟩;have s6:=Same.new (o:=.lst []) hlt;have st5:=st4.same s5;have ltl:=st5.ne hlt;have B5:=B4.trans (But.of s5);have ft:H lt=none:=B5.free st5 hlt;have W0:WI K H (upd H5 lt (.lst [])) l ln lh lt ns 0 0 0:=⟨B5.trans (But.of s6),st5.same s6,s6 _ _ (s5 _ _ hn4),⟨[],[],s6 _ _ hlh5,.nil,rfl,by simp⟩,⟨[],[],a1_,.nil,⟨by simp,.nil,aE' _⟩⟩,lnl,lhl,ltl,(a6_ hlh5 hlt).symm,nlh,a6_ (s5 _ _ hn4) hlt,fh,ft⟩;clear B4 B5 b1 b2 b3 b4 st1 st2 st3 st4 st5 s5 s6 fn hn2 hn4;generalize upd H5 lt (.lst [])=H6 at W0 ⊢;refine setG ?_;dsimp only;refine seqG (fun σ H'=>∃(lt:Addr) (v6 v7 v8 v9 v10:Option V),σ=[some (.ref l),some (.ref ln),some (.int pln),some (.int (1+dn)),some (.ref lh),some (.ref lt),v6,v7,v8,v9,v10]/\WI K H H' l ln lh lt ns ns.length ns.length 0) ?last ?loop
  case last=>
   rintro σ H7 ⟨lt,v6,v7,v8,v9,v10,rfl,W⟩;obtain⟨ys,hs,h1,h2,h3,h4⟩:=W.hands;obtain⟨zs,ts,t1,t2,t3⟩:=W.ties;rw[am'] at h3;refine⟨_,rfl,_,rfl,by show 2<=sizeLine;decide,fun t ht=>?_⟩;have s8:=Same.new (o:=.tup [.ref lh,.ref lt]) ht;refine k t lh lt ys zs hs ts _ (W.but.trans (But.of s8)) (W.st.same s8) a1_ W.fh W.ft W.th.symm W.hl W.tl (s8 _ _ h1) (h2.same s8) (s8 _ _ t1) (t2.same s8) ?_;have tg:=t3.good N.nd N.ok
   have hlen:hs.length=ns.length:=by
    have:=congrArg List.length h3;rwa [aa'] at this
   refine⟨fun h hh=>⟨N.ok _ ?_,h4 h hh⟩,by rw[h3];exact N.nd,by omega,by omega,fun t ht=>(tg t ht).1,t3.nd,by have:=t3.len;omega,fun t ht=>by rw[h3];exact (tg t ht).2⟩;rw[<- h3];exact ad'.mpr ⟨h,hh,rfl⟩
  case loop=>
   intro N0 hN
   refine⟨_,rfl,ln,rfl,⟨_,.of W0.hn⟩,ex_ (K:=K) (a:=ln) (xs:=ns.map V.str) (fun i σ H'=>∃(lt:Addr) (v6 v7 v8 v9 v10:Option V),σ=[some (.ref l),some (.ref ln),some (.int pln),some (.int (1+dn)),some (.ref lh),some (.ref lt),v6,v7,v8,v9,v10]/\WI K H H' l ln lh lt ns i i 0)
    ⟨lt,none,none,none,none,none,rfl,W0⟩ (fun i σ H' _ ⟨_,_,_,_,_,_,_,W⟩=>.of W.hn) ?_ ?_⟩
   rotate_left 1
   ·rintro σ H' ⟨lt,v6,v7,v8,v9,v10,rfl,W⟩;rw[aa'] at W;exact hN _ _ ⟨lt,v6,v7,v8,v9,v10,rfl,W⟩
   rintro i x σ H7 hx ⟨lt,v6,v7,v8,v9,v10,rfl,W⟩ u hu;obtain⟨one,hone,rfl⟩:=aq_ hx;have hi:i<ns.length:=(ab'.mp hone).1;have s7:Same H7 (upd H7 u (.tup [.int i,.str one])):=Same.new hu;have hu7:upd H7 u (.tup [.int i,.str one]) u=some (.tup [.int i,.str one]):=a1_;refine⟨u,_,rfl,.of hu7,rfl,_,_,rfl,_,_,rfl,rfl,?_⟩;have W8:=W.same s7;clear W hu7;generalize upd H7 u (.tup [.int i,.str one])=H8 at W8 ⊢;clear s7 hu;dsimp only;refine seqG (fun σ H'=>∃(lt ls:Addr) (v9 v10:Option V) (a b:Int),σ=[some (.ref l),some (.ref ln),some (.int pln),some (.int (1+dn)),some (.ref lh),some (.ref lt),some (.int i),some (.str one),some (.ref ls),v9,v10]/\WI K H H' l ln lh lt ns i i 0/\H' ls=some (.lst [.int 1,.int a,.int b,.int 1000])/\ls≠l/\1<=a/\a<=1000/\1<=b/\b<=1000) ?m2 ?m1
   case m1=>
    intro N2 hN2;refine⟨_,rfl,l,4,rfl,by decide,by decide,W8.st,fun r1 H9 q0 q1 b9 st9=>⟨_,_,rfl,rfl,?_⟩⟩;have W9:=W8.mv b9 st9;refine⟨_,rfl,l,1000,rfl,by decide,by decide,W9.st,fun r2 H10 q2 q3 b10 st10=>⟨_,_,rfl,rfl,?_⟩⟩;have W10:=W9.mv b10 st10;refine⟨by show 4<=sizeLine;decide,fun ls hls=>?_⟩;exact hN2 _ _ ⟨lt,ls,_,_,1+r1,1+r2,rfl,W10.same (Same.new hls),a1_,W10.st.ne hls,by omega,by omega,by omega,by omega⟩
   rintro σ H9 ⟨lt,ls,v9,v10,a,b,rfl,W9,hls,lsl,a1,a2,b1,b2⟩;refine seqG (fun σ H'=>∃(lt ls:Addr) (v9 v10:Option V),σ=[some (.ref l),some (.ref ln),some (.int pln),some (.int (1+dn)),some (.ref lh),some (.ref lt),some (.int i),some (.str one),some (.ref ls),v9,v10]/\WI K H H' l ln lh lt ns (i+1) i 0) ?m4 ?m3
   case m3=>
    intro N3 hN3;obtain⟨ys,hs,h1,h2,h3,h4⟩:=W9.hands;refine⟨_,rfl,.inl ⟨rfl,_,.of h1⟩,_,rfl,_,rfl,_,rfl,l,4,rfl,by decide,by decide,W9.st,fun r1 H10 q0 q1 b10 st10=>?_⟩;have W10:=W9.mv b10 st10
    obtain⟨ix,e0,e4,eix⟩:∃ix:Int,0<=ix/\ix<4/\r1 * (if decide (0<pln)=true then 1 else 0)=ix:=by
     refine⟨_,?_,?_,rfl⟩
     ·by_cases c:decide (0<pln)=true
      ·rw[if_pos c];omega
      ·rw[if_neg c];omega
     ·by_cases c:decide (0<pln)=true
      ·rw[if_pos c];omega
      ·rw[if_neg c];omega
    obtain⟨v,hv,x,rfl,x1,x2⟩:=hitL (p:=fun v:V=>∃x:Int,v=V.int x/\1<=x/\x<=1000) (xs:=[V.int 1,.int a,.int b,.int 1000]) (n:=4) rfl e0 e4 (fun v hv=>by
     simp only[ah',aV',or_false] at hv;rcases hv with rfl|rfl|rfl|rfl
     ·exact⟨_,rfl,by decide,by decide⟩
     ·exact⟨_,rfl,a1,a2⟩
     ·exact⟨_,rfl,b1,b2⟩
     ·exact⟨_,rfl,by decide,by decide⟩)
    have hls10:=b10 _ _ hls lsl;refine⟨_,rfl,_,_,rfl,rfl,.inr ⟨_,rfl,_,_,rfl,rfl,.inl ⟨by omega,by omega⟩,ls,_,_,_,rfl,congrArg V.int eix,.of hls10,hv,by show 2<=sizeLine;decide,fun t ht=>?_⟩⟩;have W11:=W10.same (Same.new (o:=.tup [.str one,.int x]) ht);have h10:=b10 _ _ h1 W9.hl;refine⟨lh,_,_,rfl,rfl,Same.new (o:=.tup [.str one,.int x]) ht _ _ h10,?_,hN3 _ _ ⟨lt,ls,v9,v10,rfl,W11.hand ⟨x1,x2⟩ hone (Same.new (o:=.tup [.str one,.int x]) ht _ _ h10) a1_⟩⟩;have:=congrArg List.length h3;have:=Paired.length h2;rw[aa'] at this;rw[aa',ak'] at *;omega
   rintro σ H10 ⟨lt,ls,v9,v10,rfl,W10⟩;refine⟨_,rfl,_,rfl,_,rfl,ln,_,rfl,.of W10.hn,fun p hp=>?_⟩;rw[hd_];have W11:=W10.same (Same.new (o:=.lst ((ns.take i).map V.str)) hp);have hp11:upd H10 p (.lst ((ns.take i).map V.str)) p=some (.lst ((ns.take i).map V.str)):=a1_;have lp:=W10.st.ne hp;generalize upd H10 p (.lst ((ns.take i).map V.str))=H11 at W11 hp11 ⊢
   refine⟨p,rfl,⟨_,.of hp11⟩,as_ (K:=K) (a:=p) (xs:=(ns.take i).map V.str) (fun j σ H'=>∃(lt ls:Addr) (v9 v10:Option V),σ=[some (.ref l),some (.ref ln),some (.int pln),some (.int (1+dn)),some (.ref lh),some (.ref lt),some (.int i),some (.str one),some (.ref ls),v9,v10]/\H' p=some (.lst ((ns.take i).map V.str))/\WI K H H' l ln lh lt ns (i+1) i j)
    ⟨lt,ls,v9,v10,rfl,hp11,W11⟩ (fun j σ H' _ ⟨_,_,_,_,_,q,_⟩=>.of q) ?_ ?_⟩
   rotate_left 1
   ·rintro σ H' ⟨lt,ls,v9,v10,rfl,_,W⟩;refine⟨lt,_,_,_,_,_,rfl,?_⟩;obtain⟨zs,ts,t1,t2,t3⟩:=W.ties;rw[aa',ak',Nat.min_eq_left (by omega)] at t3;exact⟨W.but,W.st,W.hn,W.hands,⟨zs,ts,t1,t2,t3.next (by omega)⟩,W.nl,W.hl,W.tl,W.th,W.nh',W.nt,W.fh,W.ft⟩
   rintro j y σ H12 hy ⟨lt,ls,v9,v10,rfl,hp12,W12⟩;obtain⟨o,ho,rfl⟩:=aq_ hy
   have hj:j<i:=by
    have:=(ab'.mp ho).1;rw[ak'] at this;omega
   rw[List.getElem?_take,if_pos hj] at ho;refine setG ?_;dsimp only;refine seqG (fun σ H'=>∃(lt ls t:Addr) (v9:Option V) (tt:Str × Str),σ=[some (.ref l),some (.ref ln),some (.int pln),some (.int (1+dn)),some (.ref lh),some (.ref lt),some (.int i),some (.str one),some (.ref ls),v9,some (.ref t)]/\H' p=some (.lst ((ns.take i).map V.str))/\WI K H H' l ln lh lt ns (i+1) i j/\H' t=some (.tup ((kT tt).map kV))/\(tt=(one,o)∨tt=(o,one))) ?m6 ?m5
   case m5=>
    intro N5 hN5;refine⟨_,rfl,_,rfl,by show 2<=sizeLine;decide,fun t1 ht1=>?_⟩;have s11:=Same.new (o:=.tup [.str one,.str o]) ht1;refine⟨_,rfl,_,rfl,by show 2<=sizeLine;decide,fun t2 ht2=>?_⟩;have s12:=Same.new (o:=.tup [.str o,.str one]) ht2;refine⟨by show 2<=sizeLine;decide,fun lx hlx=>?_⟩;have s13:=Same.new (o:=.lst [.ref t1,.ref t2]) hlx;have W13:=W12.same ((s11.trans s12).trans s13);have hp13:=s13 _ _ (s12 _ _ (s11 _ _ hp12));refine⟨_,rfl,l,2,rfl,by decide,by decide,W13.st,fun r5 H14 q4 q5 b14 st14=>?_⟩;have lxl:lx≠l:=(W12.same (s11.trans s12)).st.ne hlx;have hlx14:=b14 _ _ (show upd (upd (upd H12 t1 (.tup [.str one,.str o])) t2 (.tup [.str o,.str one])) lx (.lst [.ref t1,.ref t2]) lx=_ from a1_) lxl;obtain⟨xs13,hl13⟩:=W13.st.some;have ht1':=s13 _ _ (s12 _ _ (show upd H12 t1 (.tup [.str one,.str o]) t1=_ from a1_));have ht2':=s13 _ _ (show upd (upd H12 t1 (.tup [.str one,.str o])) t2 (.tup [.str o,.str one]) t2=_ from a1_);have ht1'':=b14 _ _ ht1' (ax_ ht1' hl13 nofun);have ht2'':=b14 _ _ ht2' (ax_ ht2' hl13 nofun)
    have pick:∃(t:Addr) (tt:Str × Str),atI [V.ref t1,V.ref t2] r5=some (.ref t)/\H14 t=some (.tup ((kT tt).map kV))/\(tt=(one,o)∨tt=(o,one)):=by
     rcases hit2 (a:=V.ref t1) (b:=V.ref t2) q4 q5 with e|e
     ·exact⟨t1,(one,o),e,ht1'',.inl rfl⟩
     ·exact⟨t2,(o,one),e,ht2'',.inr rfl⟩
    obtain⟨t,tt,et,htt,hor⟩:=pick;exact⟨lx,_,_,_,rfl,rfl,.of hlx14,et,hN5 _ _ ⟨lt,ls,t,_,tt,rfl,b14 _ _ hp13 lp,W13.mv b14 st14,htt,hor⟩⟩
   rintro σ H13 ⟨lt,ls,t,v9,tt,rfl,hp13,W13,htt,hor⟩;obtain⟨zs,ts,t1,t2,t3⟩:=W13.ties;refine⟨_,rfl,_,rfl,by show 1<=sizeLine;decide,fun lx hlx=>?_⟩;have s14:=Same.new (o:=.lst [.ref t]) hlx;have W14:=W13.same s14;have hlx14:upd H13 lx (.lst [.ref t]) lx=some (.lst [.ref t]):=a1_;have lxl:=W13.st.ne hlx;have lxh:lx≠p:=(a6_ hp13 hlx).symm;have hp14:=s14 _ _ hp13;have htt14:=s14 _ _ htt;generalize upd H13 lx (.lst [.ref t])=H14 at s14 W14 hlx14 hp14 htt14 ⊢;refine⟨_,rfl,l,3,rfl,by decide,by decide,W14.st,fun r6 H15 q6 q7 b15 st15=>⟨_,rfl,_,_,rfl,rfl,.inr ⟨_,rfl,?_⟩⟩⟩;have W15:=W14.mv b15 st15;have hlx15:=b15 _ _ hlx14 lxl;have hp15:=b15 _ _ hp14 lp;obtain⟨xs14,hl14⟩:=W14.st.some;have htt15:=b15 _ _ htt14 (ax_ htt14 hl14 nofun);obtain⟨zs5,ts5,u1,u2,u3⟩:=W15.ties
   have u7:zs5.length<=100:=by
    have a1:=Paired.length u2;have a2:=u3.len;rw[aa'] at a1;omega
   have fin:∀(b:Bool) (q:Addr) (H16:Hp),Same H15 H16->∀u,H16 u=none->WI K H (upd H16 u (.lst (zs5++(List.replicate (if b=true then (1:Int) else 0).toNat [V.ref t]).flatten))) l ln lh u ns (i+1) i (j+1):=by
    intro b q H16 s16 u hu;have W16:=W15.same s16;have W17:=W16.same (Same.new (o:=.lst (zs5++(List.replicate (if b=true then (1:Int) else 0).toNat [V.ref t]).flatten)) hu);refine⟨W17.but,W17.st,W17.hn,W17.hands,⟨_,if b=true then ts5++[tt] else ts5,a1_,?_,?_⟩,W17.nl,W17.hl,W16.st.ne hu,?_,W17.nh',?_,W17.fh,W16.but.free W16.st hu⟩
    ·have u2':=(u2.same s16).same (Same.new (o:=.lst (zs5++(List.replicate (if b=true then (1:Int) else 0).toNat [V.ref t]).flatten)) hu);cases b with
     |true=>
      show a5' K _ (zs5++[V.ref t]) ((ts5++[tt]).map kT);rw[an'];exact ba_ u2' (Same.new hu _ _ (s16 _ _ htt15))
     |false=>
      show a5' K _ (zs5++[]) (ts5.map kT);rw[aJ'];exact u2'
    ·cases b with
     |true=>
      have:=u3.add N.nd hj hone ho hor ts5.length;rw[fC_] at this;exact this
     |false=>exact u3.skip
    ·obtain⟨ys,hs,h1,_⟩:=W16.hands;exact (a6_ h1 hu).symm
    ·exact a6_ W16.hn hu
   refine⟨lx,_,_,rfl,rfl,hlx15,?_,?_,?_,fun q hq=>?_⟩
   ·by_cases c:decide (r6<1+dn)=true
    ·rw[if_pos c];decide
    ·rw[if_neg c];decide
   ·by_cases c:decide (r6<1+dn)=true
    ·rw[if_pos c];decide
    ·rw[if_neg c];decide
   ·by_cases c:decide (r6<1+dn)=true
    ·rw[if_pos c];show 1 * 1<=sizeLine;decide
    ·rw[if_neg c];show 1 * 0<=sizeLine;decide
   have s16:=Same.new (o:=.lst (List.replicate (if decide (r6<1+dn)=true then (1:Int) else 0).toNat [V.ref t]).flatten) hq;refine⟨lt,q,_,_,rfl,rfl,s16 _ _ u1,a1_,?_,fun u hu=>⟨u,ls,_,_,rfl,Same.new hu _ _ (s16 _ _ hp15),fin _ q _ s16 u hu⟩⟩;by_cases c:decide (r6<1+dn)=true
   ·rw[if_pos c];show zs5.length+1<=sizeLine;omega
   ·rw[if_neg c];show zs5.length+0<=sizeLine;omega
end
end Ev
namespace Ev
open PySem L2
theorem cu_{α:Type}{ps:List (Str × α)}(nd:(ps.map (·.1)).Nodup){a b:Str × α}(ha:a∈ps)(hb:b∈ps)(e:a.1=b.1):a=b:=by
 induction ps with
 |nil=>cases ha
 |cons p ps ih=>
  rw[ar',aR'] at nd;rcases ah'.mp ha with za|ha
  ·rcases ah'.mp hb with zb|hb
   ·rw[za,zb]
   ·rw[za] at e;exact absurd (show p.1∈ps.map (·.1) from ad'.mpr ⟨b,hb,e.symm⟩) nd.1
  ·rcases ah'.mp hb with zb|hb
   ·rw[zb] at e;exact absurd (show p.1∈ps.map (·.1) from ad'.mpr ⟨a,ha,e⟩) nd.1
   ·exact ih nd.2 ha hb
def strOf(hs:Xa)(n:Str):Int:=((hs.find? fun h=>decide (h.1=n)).map (·.2)).getD 0
theorem b3_{hs:Xa}{n:Str}(h:n∈hs.map (·.1)):(n,strOf hs n)∈hs:=by
 unfold strOf;obtain⟨x,hx,e⟩:=ad'.mp h;cases q:hs.find? fun h=>decide (h.1=n) with
 |none=>
  have:=List.find?_eq_none.mp q x hx;simp[e] at this
 |some y=>
  have m:=List.mem_of_find?_eq_some q;have:=List.find?_some q;have e2:y.1=n:=by simpa using this
  show (n,y.2)∈hs;rw[<- e2];exact m
theorem eT_{hs:Xa}(nd:(hs.map (·.1)).Nodup){n:Str}{s:Int}(h:(n,s)∈hs):strOf hs n=s:=by
 have m:=b3_ (ad'.mpr ⟨_,h,rfl⟩:n∈hs.map (·.1));exact congrArg Prod.snd (cu_ nd m h rfl)
theorem hm_{a b:Int}(ha:0<=a)(h:0<b):Int.gcd b (a % b)=Int.gcd a b:=by
 obtain⟨m,rfl⟩:=aG' ha;obtain⟨n,rfl⟩:=aG' (Int.le_of_lt h);rw[<- Int.natCast_emod];show Nat.gcd n (m % n)=Nat.gcd m n;rw[Nat.gcd_comm n,<- Nat.gcd_rec,Nat.gcd_comm]
theorem kp_{a b:Int}(hb:0<b)(hb2:b<=2000000):0<(Int.gcd a b:Int)/\(Int.gcd a b:Int)<1073741824:=by
 have h1:0<Int.gcd a b:=Int.gcd_pos_of_ne_zero_right a (by omega);have h2:(Int.gcd a b:Int) ∣ b:=Int.gcd_dvd_right a b;have h3:=Int.le_of_dvd hb h2;omega
section
variable{P:Program}{w:World}{K:F__}{mg:Str->Option Value}{base:Heap}
theorem scGd:a4' ["one","other","rest","divisor","left"] ["one","other"] (a3' sGd):=f__
def spGd:Sp:=fun vs H Q _=>∃a b:Int,vs=[.int a,.int b]/\0<=a/\0<b/\Q (.int (Int.gcd a b)) H
theorem kw_{f:Addr}{fd:FuncData}(F:Fun K "greatest_divisor" "greatest_divisor" sGd f fd):FnOk P w K mg base CX0 1 f fd ["one","other"] spGd:=by
 refine F.ok scGd (fun vs H Q E h=>?_) (fun cdv A outer s H vs Q E hr h=>?_)
 ·obtain⟨a,b,rfl,_⟩:=h;rfl
 ·obtain⟨a,b,rfl,ha,hb,k⟩:=h;refine' ⟨_,a2_ ?s1 (a2_ ?s2 (a2_ ?s3 ?s4)),?kk⟩
  case s1=>exact aa_ (i:=2) scGd.nd rfl (Or.inl rfl) (pv 0)
  case s2=>exact aa_ (i:=3) scGd.nd rfl (Or.inl rfl) (pv 1)
  case s3=>exact eB_ PassesOwn.never (an_ ej_ (pv 2) a7_ (nomark _)) (a2_ (aa_ (i:=4) scGd.nd rfl (Or.inl rfl) (aj_ bw_ (pv 3) (pv 2))) (a2_ (aa_ (i:=3) scGd.nd rfl (Or.inl rfl) (pv 2)) (a5_ (aa_ (i:=2) scGd.nd rfl (Or.inl rfl) (pv 4)))))
  case s4=>exact a5_ (ab_ (pv 3))
  case' kk=>skip
  refine⟨_,rfl,_,rfl,?_⟩;refine hp_ (fun σ H'=>H'=H/\∃(r d:Int) (v4:Option V),σ=[some (.int a),some (.int b),some (.int r),some (.int d),v4]/\0<=r/\0<d/\Int.gcd r d=Int.gcd a b) (fun σ _=>match σ with | [_,_,some (.int r),_,_]=>r.toNat|_=>0) ⟨rfl,a,b,none,rfl,ha,hb,rfl⟩ ?_ ?_
  ·rintro σ H' ⟨rfl,r,d,v4,rfl,hr0,hd,e⟩;refine⟨_,rfl,rfl,_,rfl,?_⟩;refine ite2 (fun c=>?_) (fun c=>?_)
   ·have hr1:0<r:=by
     have:r≠0:=by
      intro z;subst z;simp at c
     omega
    refine⟨_,rfl,_,rfl,_,_,rfl,rfl,hr1,_,rfl,_,rfl,?_⟩;have h1:=aX' d (Int.ne_of_gt hr1);have h2:=aU' d hr1;refine⟨⟨rfl,_,_,_,rfl,h1,hr1,?_⟩,?_⟩
    ·rw[<- e,Int.gcd_comm (d % r) r,hm_ (Int.le_of_lt hd) hr1,Int.gcd_comm]
    ·show (d % r).toNat<r.toNat;omega
   ·have hr1:r=0:=by simpa using c
    subst hr1;refine⟨_,rfl,?_⟩
    have e2:(Int.gcd a b:Int)=d:=by
     rw[<- e,Int.gcd_zero_left];omega
    rw[<- e2];exact k
  ·intro σ H' Q1 Q2 hq h;obtain⟨x,e,h⟩:=h;exact⟨x,e,h.1,h.2.choose,h.2.choose_spec.1,hq _ _ h.2.choose_spec.2⟩
end
end Ev
namespace L2
open PySem PySem.Spec PyProof.Rows
def c5'(w:World)(l:List (Str × Tok × Value)):List DictEntry:=l.map fun x=>⟨hashStr w x.1,.str x.1 x.2.1,x.2.2⟩
def KDict(K:F__)(w:World)(d:Addr)(kvs:List (Str × V)):Prop:=
 (d == sysModules)=false/\(kvs.map (·.1)).Nodup/\∃(l:List (Str × Tok × Value)) (o:Obj) (es:Array DictEntry) (ep:Nat),K.lookup d=some o/\o.ExactDict/\o.data=.dict es ep/\es.toList=c5' w l/\Paired (fun(p:Str × V) (x:Str × Tok × Value)=>p.1=x.1/\RelV p.2 x.2.2) kvs l
theorem e3_{P:Program}{w:World}:∀{l:List (Str × Tok × Value)},Pairs (a7' P w) (c5' w l) (l.map fun x=>((Sum.inr x.1:Key),x.2.2))
 |[]=>.nil
 |x::l=>.cons (bL_ P w x.1 x.2.1) rfl (e3_ (l:=l))
theorem eH_{kvs:List (Str × V)}{l:List (Str × Tok × Value)}(h:Paired (fun(p:Str × V) (x:Str × Tok × Value)=>p.1=x.1/\RelV p.2 x.2.2) kvs l):kvs.map (·.1)=l.map (·.1):=by
 induction h with
 |nil=>rfl
 |cons a _ ih=>rw[ar',ar',ih,a.1]
theorem KDict.of{P:Program}{K:F__}{w:World}{d:Addr}{kvs:List (Str × V)}{h:Heap}(k:KDict K w d kvs)(X:K.In h):∃l:List (Str × Tok × Value),Paired (fun(p:Str × V) (x:Str × Tok × Value)=>p.1=x.1/\RelV p.2 x.2.2) kvs l/\h.DictOf (a7' P w) d (l.map fun x=>((Sum.inr x.1:Key),x.2.2)):=by
 obtain⟨_,nd,l,o,es,ep,ho,hx,hd,he,hp⟩:=k;refine⟨l,hp,o,es,ep,X _ _ ho,hx,hd,fun e m=>?_,?_,?_⟩
 ·have m:e∈c5' w l:=by
   rw[<- he];simpa using m
  obtain⟨x,_,rfl⟩:=ad'.mp m;exact⟨Sum.inr x.1,bL_ P w x.1 x.2.1,rfl⟩
 ·rw[he];exact e3_
 ·rw[eH_ hp] at nd;rw[ao',ay',aH'];rw[ay',aH'] at nd;exact nd.imp fun n e=>n (Sum.inr.inj e)
theorem ja_{kvs:List (Str × V)}{l:List (Str × Tok × Value)}(h:Paired (fun(p:Str × V) (x:Str × Tok × Value)=>p.1=x.1/\RelV p.2 x.2.2) kvs l)(nd:(kvs.map (·.1)).Nodup){z:Str}{v:V}(m:(z,v)∈kvs):∃u,valueAt (l.map fun x=>((Sum.inr x.1:Key),x.2.2)) (Sum.inr z)=some u/\RelV v u:=by
 unfold valueAt
 induction h with
 |nil=>cases m
 |@cons p x kvs l a _ ih=>
  rw[ar'] at nd ⊢;rw[List.find?_cons];obtain⟨n1,n2⟩:=aR'.mp nd;by_cases e:x.1=z
  ·rcases ah'.mp m with m|m
   ·subst m;refine⟨x.2.2,?_,a.2⟩;simp[e]
   ·exact absurd (by rw[a.1,e];exact ad'.mpr ⟨_,m,rfl⟩) n1
  ·rcases ah'.mp m with m|m
   ·subst m;exact absurd a.1.symm e
   ·have:=ih n2 m;simp[e];simpa using this
theorem gX_{kvs:List (Str × V)}{l:List (Str × Tok × Value)}(h:Paired (fun(p:Str × V) (x:Str × Tok × Value)=>p.1=x.1/\RelV p.2 x.2.2) kvs l)(z:Str):(valueAt (l.map fun x=>((Sum.inr x.1:Key),x.2.2)) (Sum.inr z)).isSome=decide (z∈kvs.map (·.1)):=by
 rw[eH_ h];unfold valueAt;rw[Option.isSome_map,List.isSome_find?];rw[Bool.eq_iff_iff,List.any_eq_true,decide_eq_true_iff];constructor
 ·rintro⟨kv,hm,e⟩;obtain⟨x,hx,rfl⟩:=ad'.mp hm;have e:(Sum.inr x.1:Key)=Sum.inr z:=by simpa using e
  exact ad'.mpr ⟨x,hx,Sum.inr.inj e⟩
 ·intro m;obtain⟨x,hx,e⟩:=ad'.mp m;exact⟨_,ad'.mpr ⟨x,hx,rfl⟩,by simp[e]⟩
section
variable{X:Cx}{o i:Expr}{pos:Pos}{td ty:TE}
def tKIn(K:F__)(w:World)(ty td:TE):TE:=fun σ H Q=>ty σ H fun y H1=>td σ H1 fun x H2=>∃d kvs z,x=.ref d/\KDict K w d kvs/\y=.str z/\Q (.bl (decide (z∈kvs.map (·.1)))) H2
theorem ko_(hi:PE X i ty)(ho:PE X o td):PC X .In i o (tKIn X.K X.w ty td):=by
 intro pins s σ H Q I h;refine thn (hi pins s σ H _ I h) fun iv s1 ⟨y,H1,I1,ry,q1⟩=>thn (ho pins s1 σ H1 _ I1 q1) fun u s2 ⟨x,H2,I2,rx,d,kvs,z,ex,kd,ey,q2⟩=>?_;subst ex;subst ey;obtain rfl:u=Value.ref d:=rx;obtain⟨l,hp,dd⟩:=kd.of (P:=X.prog) I2.kIn;refine wpAny_in_of (dk_ (k:=Sum.inr z) ry) kd.1 dd.mapOf ?_;rw[gX_ hp];exact⟨.bl _,H2,I2.tok _,rfl,q2⟩
def tKGet(K:F__)(w:World)(td ty:TE):TE:=fun σ H Q=>td σ H fun x H1=>ty σ H1 fun y H2=>∃d kvs z v,x=.ref d/\KDict K w d kvs/\y=.str z/\(z,v)∈kvs/\Q v H2
theorem jp_(ho:PE X o td)(hi:PE X i ty)(hs:NoSl i):PE X (.Subscript o i pos) (tKGet X.K X.w td ty):=by
 intro pins s σ H Q I h;refine gr_ PySem.F.slot_dict_getitem.lookup hs (thn (ho pins s σ H _ I h) fun u s1 ⟨x,H1,I1,rx,q1⟩=>thn (hi pins s1 σ H1 _ I1 q1) fun iv s2 ⟨y,H2,I2,ry,d,kvs,z,v,ex,kd,ey,hm,q2⟩=>?_);subst ex;subst ey;obtain rfl:u=Value.ref d:=rx;obtain⟨l,hp,dd⟩:=kd.of (P:=X.prog) I2.kIn;obtain⟨w',hw,rw'⟩:=ja_ hp kd.2.1 hm;exact⟨dd.mapOf.typeIs,wpAny_getItem_of (dk_ (k:=Sum.inr z) ry) dd.mapOf hw ⟨v,H2,I2.tok _,rw',q2⟩⟩
end
end L2
namespace Ev
open PySem L2
abbrev Rl:=Str × Str × Str × Option Str
def rl:List Rl:=[("least one high","least","one",some "high"),("least one fall","least","one",some "fall"),("least one calm","least","one",some "calm"),("least all high","least","all",some "high"),("least all fall","least","all",some "fall"),("least all calm","least","all",some "calm"),("below one high","below","one",some "high"),("below one fall","below","one",some "fall"),("below one calm","below","one",some "calm"),("below all high","below","all",some "high"),("below all fall","below","all",some "fall"),("below all calm","below","all",some "calm"),("shares one","shares","one",none),("shares all","shares","all",none),("turns high","turns","all",some "high"),("turns fall","turns","all",some "fall"),("turns calm","turns","all",some "calm")]
def optV:Option Str->V
 |some x=>.str x
 |none=>.non
def rnames:List Str:=rl.map (·.1)
theorem fX_:rnames.Nodup:=by decide +kernel
def rkv(as:List Addr):List (Str × V):=List.zipWith (fun(r:Rl) a=>(r.1,V.ref a)) rl as
structure cm' (K:F__) (w:World) (mg:Str->Option Value) (d:Addr) (as:List Addr):Prop where
 mg:mg "RULES"=some (.ref d)
 len:as.length=17
 kd:KDict K w d (rkv as)
 tup:Paired (fun a (r:Rl)=>∀H,SqT K H a [.str r.2.1,.str r.2.2.1,optV r.2.2.2]) as rl
theorem dV_{as:List Addr}(h:as.length=17):(rkv as).map (·.1)=rnames:=by
 have:∀(rs:List Rl) (as:List Addr),as.length=rs.length->(List.zipWith (fun(r:Rl) a=>(r.1,V.ref a)) rs as).map (·.1)=rs.map (·.1):=by
  intro rs
  induction rs with
  |nil=>intro as _;rfl
  |cons r rs ih=>
   intro as e;cases as with
   |nil=>cases e
   |cons a as=>
    rw[List.zipWith_cons_cons,ar',ar',ih as (by simpa using e)]
 exact this rl as h
theorem io_{K:F__}:∀{rs:List Rl} {as:List Addr},Paired (fun a (r:Rl)=>∀H,SqT K H a [.str r.2.1,.str r.2.2.1,optV r.2.2.2]) as rs->∀r∈rs,∃a,(r.1,V.ref a)∈List.zipWith (fun(r:Rl) a=>(r.1,V.ref a)) rs as/\∀H,SqT K H a [.str r.2.1,.str r.2.2.1,optV r.2.2.2]
 |_,_,.nil,r,h=>by cases h
 |r0::rs,a::as,.cons h t,r,m=>by
  rw[List.zipWith_cons_cons];rcases ah'.mp m with rfl|m
  ·exact⟨a,aj',h⟩
  ·obtain⟨b,hb,hs⟩:=io_ t r m;exact⟨b,ag' _ hb,hs⟩
def inB(ns:List Str):Option Str->Bool
 |some x=>decide (x∈ns)
 |none=>false
section
variable{P:Program}{w:World}{K:F__}{mg:Str->Option Value}{base:Heap}
theorem scIsRule:a4' ["thing"] ["thing"] (a3' cP'):=f__
def c1':Sp:=fun vs H Q _=>∃r∈rl,vs=[.str r.1]/\Q (.bl true) H
theorem fy_{f d:Addr}{as:List Addr}{fd:FuncData}(F:Fun K "is_rule" "is_rule" cP' f fd)(B:Bi mg)(R:cm' K w mg d as):FnOk P w K mg base CX0 1 f fd ["thing"] c1':=by
 refine F.ok scIsRule (fun vs H Q E h=>?_) (fun cdv A outer s H vs Q E hr h=>?_)
 ·obtain⟨r,hr,rfl,_⟩:=h;rfl
 ·obtain⟨r,hr',rfl,k⟩:=h;refine⟨_,a5_ (ab_ (br_ (ac_ aU_ (by rfl) B.isi PyProof.Rows.Boot.«isinstance» (a0_ (pv 0) (a0_ (b2_ (v:=.ty "str") (by rfl) B.str PyProof.Rows.Boot.«str» rfl) a3_))) (bd_ (e0_ (ko_ (pv 0) (bM_ (v:=.ref d) (by rfl) R.mg rfl)))))),?_⟩;refine⟨_,rfl,_,_,_,_,rfl,.str r.1,rfl,_,rfl,iteT ⟨_,rfl,d,_,r.1,rfl,R.kd,rfl,?_⟩⟩;rw[dV_ R.len,show decide (r.1∈rnames)=true from decide_eq_true (ad'.mpr ⟨r,hr',rfl⟩)];exact k
theorem scWords:a4' ["rule"] ["rule"] (a3' sWords):=f__
def cJ'(K:F__):Sp:=fun vs H Q _=>∃r∈rl,vs=[.str r.1]/\∀a,(∀H',SqT K H' a [.str r.2.1,.str r.2.2.1,optV r.2.2.2])->Q (.ref a) H
theorem hy_{f d:Addr}{as:List Addr}{fd:FuncData}(F:Fun K "checked_words" "checked_words" sWords f fd)(R:cm' K w mg d as)(cI:Cal P w K mg base 1 "is_rule" ["thing"] c1'):FnOk P w K mg base CX0 2 f fd ["rule"] (cJ' K):=by
 refine F.ok scWords (fun vs H Q E h=>?_) (fun cdv A outer s H vs Q E hr h=>?_)
 ·obtain⟨r,hr,rfl,_⟩:=h;rfl
 ·obtain⟨r,hr',rfl,k⟩:=h;refine⟨_,a2_ (aB_ (aQ_ (aJ_ (af_ cI hr (a0_ (pv 0) a3_)))) (a5_ hl_) ae_) (a5_ (ab_ (jp_ (bM_ (v:=.ref d) (by rfl) R.mg rfl) (pv 0) (fun _ _=>rfl)))),?_⟩;obtain⟨a,ha,hs⟩:=io_ R.tup r hr';exact⟨_,rfl,r,hr',rfl,_,rfl,iteF ⟨_,rfl,d,_,r.1,.ref a,rfl,R.kd,rfl,ha,k a hs⟩⟩
end
end Ev
namespace HT
open PySem PySem.Spec PyProof.Rows
section
variable{prog:Program}{w:World}{A:Around}{E:Value->Shared->Prop}{s:Shared}
end
end HT
namespace L2
open PySem PySem.Spec PyProof.Rows
section
variable{X:Cx}{e st:Expr}{te ts:TE}{pos p2:Pos}
end
end L2
namespace Ev
open PySem L2
structure cd' (ts ws:Xb):Prop where
 good:∀w∈ws,cS' w
 nd:(ws.map kO).Nodup
 inn:∀w∈ws,kO w∈ts.map kO
 len:ws.length<=ts.length
theorem iB_{ts us ws:Xb}(good:∀t∈ts,cS' t)(nd:(ts.map kO).Nodup)(sub:us.Sublist ts)(p:Paired (fun w u=>w=u∨w=(u.2,u.1)) ws us):cd' ts ws:=by
 have e:ws.map kO=us.map kO:=by
  clear sub
  induction p with
  |nil=>rfl
  |cons h _ ih=>
   rw[ar',ar',ih];rcases h with rfl|rfl
   ·rfl
   ·exact congrArg (·::_) (iY_ _ _)
 refine⟨fun w hw=>?_,?_,fun w hw=>?_,?_⟩
 ·obtain⟨i,hi,ew⟩:=aD' hw;have hl:=Paired.length p;have q:=paired_get p i hi (by omega);rw[ew] at q;have g:=good _ (sub.subset (az' (show i<us.length by omega)));rcases q with q|q
  ·rw[q];exact g
  ·rw[q];exact⟨g.2.1,g.1,g.2.2.symm⟩
 ·rw[e];exact (sub.map kO).nodup nd
 ·have:kO w∈ws.map kO:=ad'.mpr ⟨w,hw,rfl⟩;rw[e] at this;exact (sub.map kO).subset this
 ·rw[Paired.length p];exact sub.length_le
def WyAt(K:F__)(H:Hp)(v:V):Option (Xb)->Prop
 |none=>v=.non
 |some ws=>∃a ys,v=.ref a/\H a=some (.lst ys)/\a5' K H ys (ws.map kT)
theorem WyAt.same{K:F__}{H H':Hp}{v:V}{o:Option (Xb)}(h:WyAt K H v o)(s:Same H H'):WyAt K H' v o:=by
 cases o with
 |none=>exact h
 |some ws=>
  obtain⟨a,ys,e,ha,t⟩:=h;exact⟨a,ys,e,s _ _ ha,t.same s⟩
abbrev Pc:=Str × Int × Option (Xb)
def PcAt(K:F__)(H:Hp)(y:V)(p:Pc):Prop:=∃t v,y=.ref t/\H t=some (.tup [.str p.1,.int p.2.1,v])/\WyAt K H v p.2.2
abbrev dh'(K:F__)(H:Hp)(ys:List V)(ps:List Pc):Prop:=Paired (PcAt K H) ys ps
structure cO' (ts:Xb) (p:Pc):Prop where
 nm:bw' p.1=true
 w1:1<=p.2.1
 w2:p.2.1<=1000000000
 ws:∀ws,p.2.2=some ws->cd' ts ws
theorem PcAt.same{K:F__}{H H':Hp}{y:V}{p:Pc}(h:PcAt K H y p)(s:Same H H'):PcAt K H' y p:=by
 obtain⟨t,v,e,ht,hv⟩:=h;exact⟨t,v,e,s _ _ ht,hv.same s⟩
theorem WyAt.put{K:F__}{H:Hp}{D:Addr}{xs:List V}{v:V}{o:Option (Xb)}{u:HO}(h:WyAt K H v o)(hD:H D=some (.lst xs))(ne:v≠.ref D):WyAt K (upd H D u) v o:=by
 cases o with
 |none=>exact h
 |some ws=>
  obtain⟨a,ys,e,ha,t⟩:=h;subst e;exact⟨a,ys,rfl,by rw[a4_ fun z=>ne (by rw[z])];exact ha,b7_ t hD⟩
end Ev
namespace Ev
open PySem L2
theorem aD_{α β:Type}{F:α->β->Prop}:∀{ys ys':List α} {ks ks':List β},Paired F ys ks->Paired F ys' ks'->Paired F (ys++ys') (ks++ks')
 |_,_,_,_,.nil,h=>h
 |_,_,_,_,.cons a t,h=>.cons a (aD_ t h)
def StrV(K:F__)(H:Hp)(v:V):Option Str->Prop
 |some x=>v=.str x
 |none=>∃t,TyOf K H v t/\PySem.W.kitOne K t (.type "str")=some false
def tiedB(hs:Xa)(ts:Xb):Option Str->Option Str->Bool
 |some x,some y=>decide (x∈hs.map (·.1))&&(decide (y∈hs.map (·.1))&&decide (y∈near (a6' hs) (tsOf ts) x))
 |_,_=>false
theorem bE_(hs:Xa)(ts:Xb)(x y:Str):tiedB hs ts (some x) (some y)=(decide (x∈hs.map (·.1))&&(decide (y∈hs.map (·.1))&&decide (y∈near (a6' hs) (tsOf ts) x))):=rfl
section
variable{P:Program}{w:World}{K:F__}{mg:Str->Option Value}{base:Heap}
def spHasA(K:F__)(C:Addr):Sp:=fun vs H Q _=>∃(p:Addr) (v:V) (x:Option Str) (hs:Xa) (ts:Xb) (fp:List Addr),vs=[.ref p,v]/\bl' K C H p hs ts fp/\StrV K H v x/\Q (.bl (inB (hs.map (·.1)) x)) H
theorem iz_{f C:Addr}{fd:FuncData}(F:Fun K "has_hand" "Web.has_hand" sHas f fd)(T:Txt K mg C)(B:Bi mg):FnOk P w K mg base CX0 1 f fd ["self","thing"] (spHasA K C):=by
 refine F.ok scHas (fun vs H Q E h=>?_) (fun cdv A outer s H vs Q E hr h=>?_)
 ·obtain⟨p,v,x,hs,ts,fp,rfl,_⟩:=h;rfl
 ·obtain⟨p,v,x,hs,ts,fp,rfl,W,sv,k⟩:=h;have hu:=b5_ hr;obtain⟨dx,d1,l2,d3,zs,as,rfl,h1,h2,h3,h4,h5,h6,h7⟩:=W.ex;refine⟨_,a5_ (ab_ (br_ (ac_ aU_ (by rfl) B.isi PyProof.Rows.Boot.«isinstance» (a0_ (pv 1) (a0_ (b2_ (v:=.ty "str") (by rfl) B.str PyProof.Rows.Boot.«str» rfl) a3_))) (bd_ (e0_ (d1_ hu (pv 1) (aF_ (pv 0) rfl)))))),?_⟩;cases x with
  |some x=>
   cases (show v=.str x from sv);refine⟨_,rfl,_,_,_,_,rfl,.str x,rfl,_,rfl,iteT ?_⟩;refine⟨_,rfl,_,rfl,p,C,dx,_,_,rfl,h1,T.cl,T.nS,eP_ _ _ _,d1,_,rfl,.k (k:=Sum.inr x) h2,?_⟩;rw[d9_];exact k
  |none=>
   obtain⟨t,ty,e⟩:=sv;exact⟨_,rfl,_,_,_,_,rfl,ty,e,_,rfl,iteF k⟩
def cY'(K:F__)(C:Addr):Sp:=fun vs H Q _=>∃(p:Addr) (v u:V) (x y:Option Str) (hs:Xa) (ts:Xb) (fp:List Addr),vs=[.ref p,v,u]/\bl' K C H p hs ts fp/\(a6' hs).Nodup/\StrV K H v x/\StrV K H u y/\Q (.bl (tiedB hs ts x y)) H
theorem hO_{f C:Addr}{fd:FuncData}(F:Fun K "are_tied" "Web.are_tied" sTied f fd)(T:Txt K mg C)(cH:CalM P w K mg base C 1 "has_hand" ["self","thing"] (spHasA K C)):FnOk P w K mg base CX0 2 f fd ["self","one","other"] (cY' K C):=by
 refine F.ok scTied (fun vs H Q E h=>?_) (fun cdv A outer s H vs Q E hr h=>?_)
 ·obtain⟨p,v,u,x,y,hs,ts,fp,rfl,_⟩:=h;rfl
 ·obtain⟨p,v,u,x,y,hs,ts,fp,rfl,W,nd,sv,su,k⟩:=h;have hu:=b5_ hr;obtain⟨dx,d1,l2,d3,zs,as,rfl,h1,h2,h3,h4,h5,h6,h7⟩:=id W.ex;have hno:(flds d1 l2 d3).lookup ("has_hand":Str)=none:=b0_ _ _ _ (by decide +kernel) (by decide +kernel) (by decide +kernel);refine⟨_,a5_ (ab_ (br_ (bs_ cH T.cl hr (pv 0) (a0_ (pv 1) a3_)) (br_ (bs_ cH T.cl hr (pv 0) (a0_ (pv 2) a3_)) (bd_ (aG_ (dZ_ cmpS (cc' hr 0)) (pv 2) (ag_ hu (aF_ (pv 0) rfl) (pv 1) (fun _ _=>rfl)) (by with_unfolding_all rfl)))))),?_⟩;refine⟨_,rfl,p,dx,_,rfl,h1,hno,_,rfl,p,v,x,hs,ts,_,rfl,W,sv,_,rfl,?_⟩;cases x with
  |none=>exact iteF k
  |some x=>
   cases (show v=.str x from sv);refine ite2 (fun c=>?_) (fun c=>?_)
   ·have hx:x∈hs.map (·.1):=of_decide_eq_true c;obtain⟨a,e1,ha⟩:=i8_ nd hx h6 h7;refine⟨_,rfl,p,dx,_,rfl,h1,hno,_,rfl,p,u,y,hs,ts,_,rfl,W,su,_,rfl,?_⟩;cases y with
    |none=>exact iteF k
    |some y=>
     cases (show u=.str y from su);rw[bE_,decide_eq_true hx,Bool.true_and] at k;refine ite2 (fun c2=>?_) (fun c2=>?_)
     ·have hy:y∈hs.map (·.1):=of_decide_eq_true c2;rw[decide_eq_true hy,Bool.true_and] at k;refine⟨_,rfl,_,rfl,p,C,dx,_,_,rfl,h1,T.cl,T.nN,ii_ _ _ _,_,rfl,d3,.ref a,rfl,?_,y,_,rfl,⟨a,_,rfl,.of ha,bW_ _⟩,k⟩;rw[<- e1];exact .k (k:=Sum.inr x) h5
     ·have hy:¬y∈hs.map (·.1):=fun z=>c2 (decide_eq_true z);rw[decide_eq_false hy,aZ'] at k;exact k
   ·have hx:¬x∈hs.map (·.1):=fun z=>c (decide_eq_true z);cases y with
    |none=>exact k
    |some y=>
     rw[bE_,decide_eq_false hx,aZ'] at k;exact k
theorem hf_{hs:Xa}{ts ws:Xb}(G:Good hs ts)(W:cd' ts ws){t:Str × Str}(ht:t∈tsOf ws):tiedB hs ts (some t.1) (some t.2)=true:=by
 obtain⟨x,hx,ex⟩:=b1'.mp ht;obtain⟨u,hu,eu⟩:=ad'.mp (W.inn x hx);have eo:ord2 u.1 u.2=t:=(cU_ eu).trans ex
 have both:t.1∈hs.map (·.1)/\t.2∈hs.map (·.1)/\ord2 t.1 t.2=t:=by
  obtain⟨g1,g2⟩:=G.tin u hu;rcases dq_ u.1 u.2 with e|e
  ·rw[<- eo,e];exact⟨g1,g2,e⟩
  ·rw[<- eo,e];exact⟨g2,g1,(bT_ _ _).trans e⟩
 obtain⟨m1,m2,m3⟩:=both;have m4:t.2∈near (a6' hs) (tsOf ts) t.1:=a0'.mpr ⟨(au_ hs).mem_iff.mpr m2,decide_eq_true (by rw[m3];exact b1'.mpr ⟨u,hu,eo⟩)⟩;rw[bE_,decide_eq_true m1,decide_eq_true m2,decide_eq_true m4];rfl
theorem ct':a4' ["web","ways","found","one","other"] ["web","ways"] (a3' sCWays):=f__
def spCWays(K:F__)(C:Addr):Sp:=fun vs H Q _=>∃(p:Addr) (v:V) (o:Option (Xb)) (hs:Xa) (ts:Xb) (fp:List Addr),vs=[.ref p,v]/\bl' K C H p hs ts fp/\Good hs ts/\WyAt K H v o/\(∀ws,o=some ws->cd' ts ws) /\
 ∀v' H',Same H H'->WyAt K H' v' (o.map tsOf)->(∀a,v'=.ref a->H a=none)->Q v' H'
theorem hZ_{f C:Addr}{fd:FuncData}(F:Fun K "checked_ways" "checked_ways" sCWays f fd)(T:Txt K mg C)(cS:Cal P w K mg base 3 "sorted_ties" ["ties"] (cp' K))(cT:CalM P w K mg base C 2 "are_tied" ["self","one","other"] (cY' K C)):FnOk P w K mg base CX0 4 f fd ["web","ways"] (spCWays K C):=by
 refine F.ok ct' (fun vs H Q E h=>?_) (fun cdv A outer s H vs Q E hr h=>?_)
 ·obtain⟨p,v,o,hs,ts,fp,rfl,_⟩:=h;rfl
 ·obtain⟨p,v,o,hs,ts,fp,rfl,W,G,wy,gw,k⟩:=h;have hu:=b5_ hr;have hr2:Room 2 _:=hr.mono (by decide)
  refine⟨_,a2_ (aB_ (ch_ (eY_ (pv 1))) (a5_ (ab_ d3_)) ae_)
   (a2_ (aa_ (i:=2) ct'.nd rfl (Or.inl rfl) (af_ cS hr (a0_ (pv 1) a3_)))
   (a2_ (aB_ (ch_ (eY_ (pv 2))) ah_ ae_)
   (a2_ (aK_ PassesOwn.never rfl (ak_ (pv 2)) (b8_ rfl (ad_ (a8_ (i:=3) ct'.nd rfl (Or.inl rfl)) (ad_ (a8_ (i:=4) ct'.nd rfl (Or.inl rfl)) aO_)))
    (a5_ (aB_ (aQ_ (aJ_ (bs_ cT T.cl hr2 (pv 0) (a0_ (pv 3) (a0_ (pv 4) a3_))))) ah_ ae_)))
   (a5_ (ab_ (pv 2)))))),?_⟩
  cases o with
  |none=>
   cases (show v=.non from wy);exact⟨_,rfl,_,rfl,iteT (k .non H (Same.refl H) rfl (fun a z=>by cases z))⟩
  |some ws=>
   obtain⟨a,ys,rfl,ha,tu⟩:=wy;have Wo:=gw ws rfl;refine⟨_,rfl,_,rfl,iteF ?_⟩;refine⟨_,rfl,a,ys,ws,rfl,ha,tu,Wo.good,Wo.nd,by have:=Wo.len;have:=G.t64;omega,fun l' zs H1 s1 hf hl1 tz=>?_⟩;refine⟨_,rfl,_,rfl,iteF ?_⟩;have W1:=W.same s1;obtain⟨dx,d1,l2,d3,zs0,as,rfl,h1,h2,h3,h4,h5,h6,h7⟩:=id W1.ex;have hno:(flds d1 l2 d3).lookup ("are_tied":Str)=none:=b0_ _ _ _ (by decide +kernel) (by decide +kernel) (by decide +kernel);rw[<- bg_] at tz;refine⟨_,rfl,l',rfl,⟨_,.of hl1⟩,as_ (K:=K) (a:=l') (xs:=zs) (fun i σ H2=>∃(v3 v4:Option V),σ=[some (.ref p),some (.ref a),some (.ref l'),v3,v4]/\H2=H1) ⟨none,none,rfl,rfl⟩ (fun i σ H2 _ ⟨_,_,_,e⟩=>by subst e;exact .of hl1) ?_ ?_⟩
   ·rintro i y σ H2 hy ⟨v3,v4,rfl,rfl⟩;obtain⟨t,ht,q,rfl,hq⟩:=am_ tz hy;refine⟨q,_,rfl,.of (hpT hq),rfl,_,_,rfl,_,_,rfl,rfl,?_⟩;refine⟨_,rfl,p,dx,_,rfl,h1,hno,_,rfl,_,rfl,p,_,_,some t.1,some t.2,hs,ts,_,rfl,W1,G.nnd,rfl,rfl,_,rfl,?_⟩;rw[hf_ G Wo (ae' ht)];refine iteF ?_;exact⟨_,_,rfl,rfl⟩
   ·rintro σ H2 ⟨v3,v4,rfl,rfl⟩;exact⟨_,rfl,k (.ref l') _ s1 ⟨l',zs,rfl,hl1,tz⟩ (fun c z=>by cases z;exact hf)⟩
def nrm(p:Pc):Pc:=(p.1,p.2.1,p.2.2.map tsOf)
def bZ'(K:F__)(H0 H:Hp)(y:V)(p:Pc):Prop:=∃t v,y=.ref t/\H t=some (.tup [.str p.1,.int p.2.1,v])/\WyAt K H v p.2.2/\∀a,v=.ref a->H0 a=none
theorem bZ'.same{K:F__}{H0 H H':Hp}{y:V}{p:Pc}(h:bZ' K H0 H y p)(s:Same H H'):bZ' K H0 H' y p:=by
 obtain⟨t,v,e,ht,hv,hn⟩:=h;exact⟨t,v,e,s _ _ ht,hv.same s,hn⟩
theorem WyAt.up{K:F__}{H:Hp}{D:Addr}{u:HO}{v:V}{o:Option (Xb)}(h:WyAt K H v o)(n1:∀xs,H D≠some (.lst xs))(n2:∀xs,H D≠some (.tup xs)):WyAt K (upd H D u) v o:=by
 cases o with
 |none=>exact h
 |some ws=>
  obtain⟨a,ys,e,ha,t⟩:=h;exact⟨a,ys,e,by rw[a4_ (fun z:a=D=>n1 ys (z▸ha))];exact ha,Paired.mapP t fun y k ⟨b,z,q⟩=>⟨b,z,by rw[a4_ (fun z:b=D=>n2 _ (z▸q))];exact q⟩⟩
theorem bZ'.up{K:F__}{H0 H:Hp}{D:Addr}{u:HO}{y:V}{p:Pc}(h:bZ' K H0 H y p)(n1:∀xs,H D≠some (.lst xs))(n2:∀xs,H D≠some (.tup xs)):bZ' K H0 (upd H D u) y p:=by
 obtain⟨t,v,e,ht,hv,hn⟩:=h;exact⟨t,v,e,by rw[a4_ (fun z:t=D=>n2 _ (z▸ht))];exact ht,hv.up n1 n2,hn⟩
theorem dh_{ps:List Pc}{cs:List V}(nd:(ps.map (·.1)).Nodup)(hl:cs.length=ps.length):∀{j:Nat} {q:Pc} {c:V},ps[j]? = some q->cs[j]? = some c->valV ((ps.zip cs).map fun q=>((Sum.inr q.1.1:Key),q.2)) (Sum.inr q.1)=some c:=by
 induction ps generalizing cs with
 |nil=>
  intro j q c h;simp at h
 |cons p ps ih=>
  intro j q c h1 h2;cases cs with
  |nil=>cases hl
  |cons b cs=>
   rw[ar'] at nd;obtain⟨n1,n2⟩:=aR'.mp nd;cases j with
   |zero=>
    have e1:p=q:=by simpa using h1
    have e2:b=c:=by simpa using h2
    subst e1 e2;exact bq_ rfl
   |succ j=>
    have h1:ps[j]? = some q:=by simpa using h1
    have h2:cs[j]? = some c:=by simpa using h2
    show valV ((Sum.inr p.1,b)::((ps.zip cs).map fun q=>((Sum.inr q.1.1:Key),q.2))) (Sum.inr q.1)=_;rw[bl_ fun e=>n1 (by rw[show p.1=q.1 from Sum.inr.inj e];exact ad'.mpr ⟨q,ae' h1,rfl⟩)];exact ih n2 (by simpa using hl) h1 h2
theorem scCPiece:a4' ["web","piece"] ["web","piece"] (a3' cQ'):=f__
def c0'(K:F__)(C:Addr):Sp:=fun vs H Q _=>∃(p:Addr) (y:V) (q:Pc) (hs:Xa) (ts:Xb) (fp:List Addr),vs=[.ref p,y]/\bl' K C H p hs ts fp/\Good hs ts/\PcAt K H y q/\cO' ts q /\
 ∀y' H',Same H H'->bZ' K H H' y' (nrm q)->Q y' H'
theorem gO_{f C:Addr}{fd:FuncData}(F:Fun K "checked_piece" "checked_piece" cQ' f fd)(B:Bi mg)(cN:Cal P w K mg base 1 "is_name" ["thing"] c7')(cW:Cal P w K mg base 2 "is_whole_within" ["thing","least","most"] cK')(cC:Cal P w K mg base 4 "checked_ways" ["web","ways"] (spCWays K C)){tk:Tok}(mW:mg "MOST_WEIGHT"=some (.int 1000000000 tk)) :
  FnOk P w K mg base CX0 5 f fd ["web","piece"] (c0' K C):=by
 refine F.ok scCPiece (fun vs H Q E h=>?_) (fun cdv A outer s H vs Q E hr h=>?_)
 ·obtain⟨p,y,q,hs,ts,fp,rfl,_⟩:=h;rfl
 ·obtain⟨p,y,q,hs,ts,fp,rfl,W,G,⟨t,v,rfl,ht,wy⟩,gp,k⟩:=h;have hr1:Room 1 _:=hr.mono (by decide);have hr2:Room 2 _:=hr.mono (by decide)
  refine⟨_,a2_ (aB_ (dv_ (aQ_ (aJ_ (ac_ aU_ (by rfl) B.isi PyProof.Rows.Boot.«isinstance» (a0_ (pv 1) (a0_ (b2_ (v:=.ty "tuple") (by rfl) B.tuple PyProof.Rows.Boot.«tuple» rfl) a3_)))))
    (ce_ (an_ ej_ (ac_ ai_ (by rfl) B.len PySem.boot_len (a0_ (pv 1) a3_)) a7_ (nomark _)))).pt ah_ ae_)
   (a2_ (aB_ (aQ_ (aJ_ (af_ cN hr1 (a0_ (az_ aM_ (pv 1) a7_ (fun _ _=>rfl)) a3_)))) ah_ ae_)
   (a2_ (aB_ (aQ_ (aJ_ (af_ cW hr2 (a0_ (az_ aM_ (pv 1) a7_ (fun _ _=>rfl)) (a0_ a7_ (a0_ (bM_ (v:=.int 1000000000) (by rfl) mW ⟨tk,rfl⟩) a3_)))))) ah_ ae_)
   (a5_ (ab_ (aL_ (a0_ (az_ aM_ (pv 1) a7_ (fun _ _=>rfl)) (a0_ (az_ aM_ (pv 1) a7_ (fun _ _=>rfl)) (a0_ (af_ cC hr (a0_ (pv 0) (a0_ (az_ aM_ (pv 1) a7_ (fun _ _=>rfl)) a3_))) a3_)))))))),?_⟩
  refine⟨_,rfl,_,_,_,_,rfl,.tup ht,rfl,_,rfl,iteF ?_⟩;refine⟨_,rfl,t,_,rfl,.inr (.of ht),rfl,_,rfl,?_⟩;refine iteNS (show V.int ((3:Nat):Int)=V.int 3 from rfl) ?_;refine⟨_,rfl,t,_,_,_,rfl,rfl,.of ht,rfl,q.1,rfl,by have:=bV_ gp.nm;omega,fun H1 s1=>⟨_,rfl,?_⟩⟩;rw[gp.nm];refine iteF ?_;have ht1:=s1 _ _ ht;refine⟨_,rfl,t,_,_,_,rfl,rfl,.of ht1,rfl,q.2.1,1,1000000000,rfl,_,rfl,?_⟩;rw[decide_eq_true gp.w1,decide_eq_true gp.w2];refine iteF ?_;refine⟨_,rfl,t,_,_,_,rfl,rfl,.of ht1,rfl,_,rfl,t,_,_,_,rfl,rfl,.of ht1,rfl,_,rfl,_,rfl,t,_,_,_,rfl,rfl,.of ht1,rfl,p,v,q.2.2,hs,ts,fp,rfl,W.same s1,G,wy.same s1,gp.ws,fun v' H2 s2 wy2 hf=>?_⟩;refine⟨by show 3<=sizeLine;decide,fun t' ht'=>?_⟩;exact k (.ref t') _ (s1.trans (s2.trans (Same.new ht'))) ⟨t',v',rfl,a1_,wy2.same (Same.new ht'),fun a z=>s1.free (hf a z)⟩
theorem bM':a4' ["web","pieces","found","piece","checked"] ["web","pieces"] (a3' cn'):=f__
structure Qs (ps qs:List Pc):Prop where
 nms:qs.map (·.1)=sortS (ps.map (·.1))
 mem:∀q∈qs,∃p∈ps,q=nrm p
def cu'(K:F__)(C:Addr):Sp:=fun vs H Q _=>∃(p l:Addr) (ys:List V) (ps:List Pc) (hs:Xa) (ts:Xb) (fp:List Addr),vs=[.ref p,.ref l]/\bl' K C H p hs ts fp/\Good hs ts/\H l=some (.lst ys)/\dh' K H ys ps/\(∀q∈ps,cO' ts q)/\(ps.map (·.1)).Nodup/\ps.length<64 /\
 ∀l' zs qs H',Same H H'->H' l'=some (.lst zs)->Paired (bZ' K H H') zs qs->Qs ps qs->Q (.ref l') H'
theorem fb_{f C:Addr}{fd:FuncData}(F:Fun K "checked_pieces" "checked_pieces" cn' f fd)(B:Bi mg)(cP:Cal P w K mg base 5 "checked_piece" ["web","piece"] (c0' K C)):FnOk P w K mg base CX0 6 f fd ["web","pieces"] (cu' K C):=by
 refine F.ok bM' (fun vs H Q E h=>?_) (fun cdv A outer s H vs Q E hr h=>?_)
 ·obtain⟨p,l,ys,ps,hs,ts,fp,rfl,_⟩:=h;rfl
 ·obtain⟨p,l,ys,ps,hs,ts,fp,rfl,W,G,hl,pc,gp,nd,h64,k⟩:=h;have hu:=b5_ hr;have sz:=sizeLine_eq;have le:=Paired.length pc
  refine⟨_,a2_ (aB_ (aQ_ (aJ_ (ac_ aU_ (by rfl) B.isi PyProof.Rows.Boot.«isinstance» (a0_ (pv 1) (a0_ (b2_ (v:=.ty "list") (by rfl) B.list PyProof.Rows.Boot.«list» rfl) a3_))))) ah_ ae_)
   (a2_ (aa_ (i:=2) bM'.nd rfl (Or.inr rfl) bk_)
   (a2_ (aK_ PassesOwn.never rfl (ak_ (pv 1)) (a8_ (i:=3) bM'.nd rfl (Or.inl rfl))
    (a2_ (aa_ (i:=4) bM'.nd rfl (Or.inl rfl) (af_ cP hr (a0_ (pv 0) (a0_ (pv 3) a3_))))
    (a2_ (aB_ (ch_ (d1_ hu (az_ aM_ (pv 4) a7_ (fun _ _=>rfl)) (pv 2))) ah_ ae_)
    (a5_ (bc_ hu (pv 2) (az_ aM_ (pv 4) a7_ (fun _ _=>rfl)) (pv 4) rfl)))))
   (a5_ (ab_ (aN_ ["name","found"] 1 [2] (ak_ (ac_ (ee_ rfl) (by rfl) B.sorted PyProof.Rows.Boot.«sorted» (a0_ (pv 2) a3_))) (fun fp s H=>a8_ (i:=0) (show (["name","found"]:List Str).Nodup by decide +kernel) rfl (Or.inl rfl)) (fun fp s H=>aS_)
    (fun fp s H=>ag_ hu (pv 1) (pv 0) (fun _ _=>rfl))))))),?_⟩
  refine⟨_,rfl,_,_,_,_,rfl,.lst hl,rfl,_,rfl,iteF ?_⟩;intro d hd;have s0:Same H (upd H d (.dK [])):=Same.new hd;refine⟨_,rfl,l,rfl,⟨_,.of (s0 _ _ hl)⟩,as_ (K:=K) (a:=l) (xs:=ys) (fun i σ H2=>∃(v3 v4:Option V) (cs:List V),σ=[some (.ref p),some (.ref l),some (.ref d),v3,v4]/\Same H H2/\Paired (bZ' K H H2) cs ((ps.take i).map nrm)/\H2 d=some (.dK (((ps.take i).zip cs).map fun q=>(Sum.inr q.1.1,q.2)))) ⟨none,none,[],rfl,s0,.nil,a1_⟩ (fun i σ H2 _ ⟨_,_,_,_,s2,_⟩=>.of (s2 _ _ hl)) ?_ ?_⟩
  ·rintro i y σ H2 hy ⟨v3,v4,cs,rfl,s2,pn,hd2⟩;have hi:i<ys.length:=(ab'.mp hy).1;have hq:ps[i]? = some (ps[i]'(by omega)):=ac' (by omega);have py:=paired_get pc i hi (by omega);rw[(ab'.mp hy).2] at py;generalize ps[i]'(by omega)=q at hq py;refine⟨_,rfl,_,rfl,p,y,q,hs,ts,fp,rfl,W.same s2,G,py.same s2,gp q (ae' hq),fun y' H3 s3 pw=>?_⟩;obtain⟨t,v,rfl,ht,wy,hf⟩:=pw;have hd3:=s3 _ _ hd2;have lc:=Paired.length pn;rw[aa',ak'] at lc
   have keys:((((ps.take i).zip cs).map fun q=>((Sum.inr q.1.1:Key),q.2)).map (·.1))=((ps.take i).map (·.1)).map Sum.inr:=by
    rw[ao'];have:((fun x:Key × V=>x.1) ∘ fun q:Pc × V=>((Sum.inr q.1.1:Key),q.2))=(fun p:Pc=>(Sum.inr p.1:Key)) ∘ Prod.fst:=rfl;rw[this,<- ao',List.map_fst_zip (by rw[ak'];omega),ao'];rfl
   have nov:valV (((ps.take i).zip cs).map fun q=>((Sum.inr q.1.1:Key),q.2)) (Sum.inr q.1)=none:=aP_ (by
    rw[keys];intro m;obtain⟨x,hx,e⟩:=ad'.mp m;cases e;exact bh_ (g:=fun p:Pc=>p.1) nd hq hx)
   refine⟨_,rfl,t,_,_,_,rfl,rfl,.of ht,rfl,_,rfl,d,_,rfl,.k (k:=Sum.inr q.1) hd3,_,rfl,?_⟩;rw[nov];refine iteF ?_;refine⟨_,rfl,_,rfl,_,rfl,t,_,_,_,rfl,rfl,.of ht,rfl,d,_,rfl,.k (k:=Sum.inr q.1) hd3 (by rw[aa',List.length_zip,ak'];omega),?_⟩;have s23:=s2.trans s3;have n1:∀xs,H3 d≠some (.lst xs):=fun xs z=>by rw[hd3] at z;cases z
   have n2:∀xs,H3 d≠some (.tup xs):=fun xs z=>by rw[hd3] at z;cases z
   refine⟨_,_,cs++[.ref t],rfl,fun c o e=>?_,?_,?_⟩
   ·rw[a4_ (a6_ e hd)];exact s23 _ _ e
   ·rw[aw',hq,an'];exact aD_ (Paired.mapP pn fun y q h=>(h.same s3).up n1 n2) (.cons (bZ'.up ⟨t,v,rfl,ht,wy,fun a z=>s2.free (hf a z)⟩ n1 n2) .nil)
   ·rw[a1_,bF_ _ nov,aw',hq,List.zip_append (by rw[ak'];omega),an'];rfl
  ·rintro σ H2 ⟨v3,v4,cs,rfl,s2,pn,hd2⟩;rw[le,am'] at pn hd2;have lc:=Paired.length pn;rw[aa'] at lc
   have keys:(((ps.zip cs).map fun q=>((Sum.inr q.1.1:Key),q.2)).map (·.1))=(ps.map (·.1)).map Sum.inr:=by
    rw[ao'];have:((fun x:Key × V=>x.1) ∘ fun q:Pc × V=>((Sum.inr q.1.1:Key),q.2))=(fun p:Pc=>(Sum.inr p.1:Key)) ∘ Prod.fst:=rfl;rw[this,<- ao',List.map_fst_zip (by omega),ao'];rfl
   refine⟨_,rfl,d,_,ps.map (·.1),rfl,hd2,keys,by rw[aa'];exact h64,fun ls hls=>?_⟩;obtain⟨s3,hl3⟩:=nw__ (o:=.lst ((sortS (ps.map (·.1))).map V.str)) hls;refine⟨ls,rfl,⟨_,.of hl3⟩,fun D hD=>?_⟩;generalize upd H2 ls (.lst ((sortS (ps.map (·.1))).map V.str))=H3 at s3 hl3 hD ⊢;have lss:(sortS (ps.map (·.1))).length=ps.length:=by rw[(ap_ _).length_eq,aa']
   refine aI_ (own:=1) (fv:=[some (.ref d)]) (xs:=(sortS (ps.map (·.1))).map V.str) rfl gok1 (fun i out H'=>∃qs:List Pc,Same H3 H'/\H' D=some (.lst out)/\Paired (bZ' K H H2) out qs/\qs.map (·.1)=(sortS (ps.map (·.1))).take i/\∀q∈qs,∃p∈ps,q=nrm p) ⟨[],Same.new hD,a1_,.nil,rfl,by simp⟩ (fun i out H' _ ⟨_,sm,_⟩=>.of (sm _ _ hl3)) (fun zs H4 ⟨qs,s4,hD4,pq,en,mem⟩=>?_) (fun i x out H' hx ⟨qs,sm,hD',pq,en,mem⟩=>?_)
   ·rw[aa',am'] at en;exact k D zs qs H4 (s2.trans (s3.trans s4)) hD4 (Paired.mapP pq fun y q h=>h.same (s3.trans s4)) ⟨en,mem⟩
   ·obtain⟨n,hn,rfl⟩:=aq_ hx;have hm:n∈ps.map (·.1):=(ap_ _).mem_iff.mp (ae' hn);obtain⟨q,hq,eq⟩:=ad'.mp hm;obtain⟨j,hj,ej⟩:=aD' hq;have hqj:ps[j]? = some q:=by rw[ac' hj,ej]
    have hcj:cs[j]? = some (cs[j]'(by omega)):=ac' (by omega);have hv:=dh_ nd lc hqj hcj;have pj:=paired_get pn j (by omega) (by rw[aa'];omega);rw[List.getElem_map,ej] at pj;generalize cs[j]'(by omega)=c at hcj hv pj;rw[eq] at hv;have lo:=Paired.length pq;have lq:=congrArg List.length en;rw[aa',ak'] at lq;have hi:i<(sortS (ps.map (·.1))).length:=(ab'.mp hn).1;refine⟨_,rfl,rfl,fun Nx hN=>yesT ?_⟩;refine⟨_,rfl,_,rfl,d,c,rfl,?_,out,hD',by omega,hN _ _ ⟨qs++[nrm q],ao_ sm hD,a1_,?_,?_,?_⟩⟩
    ·rw[<- hv];exact .k (k:=Sum.inr n) (sm _ _ (s3 _ _ hd2))
    ·exact aD_ pq (.cons pj .nil)
    ·rw[an',en,aw',hn,<- eq];rfl
    ·intro q' hq';rcases au'.mp hq' with hq'|hq'
     ·exact mem q' hq'
     ·obtain rfl:q'=nrm q:=by simpa using hq'
      exact⟨q,hq,rfl⟩
end
end Ev
namespace Ev
open PySem L2
abbrev sGInit:Stmt:=bf' cv' 0
abbrev sGHas:Stmt:=bf' cv' 1
abbrev cW':Stmt:=bf' cv' 2
abbrev cj':Stmt:=bf' cv' 3
abbrev sGMay:Stmt:=bf' cv' 5
def gflds(p dw dy:Addr):List (Str × V):=putF "ways_by_name" (.ref dy) (putF "weight_by_name" (.ref dw) (putF "web" (.ref p) []))
theorem g12:¬(("web":Str)="weight_by_name"):=by decide +kernel
theorem g13:¬(("web":Str)="ways_by_name"):=by decide +kernel
theorem g23:¬(("weight_by_name":Str)="ways_by_name"):=by decide +kernel
theorem bf_(p dw dy:Addr):(gflds p dw dy).lookup ("web":Str)=some (.ref p):=by
 unfold gflds;rw[a9_,if_neg g13,a9_,if_neg g12,a9_,if_pos rfl]
theorem ef_(p dw dy:Addr):(gflds p dw dy).lookup ("weight_by_name":Str)=some (.ref dw):=by
 unfold gflds;rw[a9_,if_neg g23,a9_,if_pos rfl]
theorem iF_(p dw dy:Addr):(gflds p dw dy).lookup ("ways_by_name":Str)=some (.ref dy):=by
 unfold gflds;rw[a9_,if_pos rfl]
theorem be_(p dw dy:Addr){m:Str}(h1:¬m="web")(h2:¬m="weight_by_name")(h3:¬m="ways_by_name"):(gflds p dw dy).lookup m=none:=by
 unfold gflds;rw[a9_,if_neg h3,a9_,if_neg h2,a9_,if_neg h1]
 all_goals rfl
def wKV(qs:List Pc):List (Key × V):=qs.map fun q=>(Sum.inr q.1,V.int q.2.1)
def yKV(qs:List Pc)(vs:List V):List (Key × V):=(qs.zip vs).map fun x=>(Sum.inr x.1.1,x.2)
theorem eJ_(qs:List Pc):(wKV qs).map (·.1)=(qs.map (·.1)).map Sum.inr:=by
 unfold wKV;rw[ao',ao'];rfl
theorem h7_{qs:List Pc}{vs:List V}(h:vs.length=qs.length):(yKV qs vs).map (·.1)=(qs.map (·.1)).map Sum.inr:=by
 unfold yKV;rw[ao'];have:((fun x:Key × V=>x.1) ∘ fun q:Pc × V=>((Sum.inr q.1.1:Key),q.2))=(fun p:Pc=>(Sum.inr p.1:Key)) ∘ Prod.fst:=rfl;rw[this,<- ao',List.map_fst_zip (by omega),ao'];rfl
structure ba' (K:F__) (CG CW:Addr) (H:Hp) (g p:Addr) (hs:Xa) (ts:Xb) (qs:List Pc) (fp:List Addr):Prop where
 ex:∃(dx dw dy:Addr) (vs:List V) (fpw:List Addr),H g=some (.ins CG dx (gflds p dw dy))/\bl' K CW H p hs ts fpw/\H dw=some (.dK (wKV qs))/\H dy=some (.dK (yKV qs vs))/\Paired (fun v (q:Pc)=>WyAt K H v q.2.2) vs qs /\
  g∈fp/\dw∈fp/\dy∈fp/\(∀b∈fpw,b∈fp)/\∀v∈vs,∀a,v=.ref a->a∈fp
theorem bN_{α β:Type}{F G:α->β->Prop}:∀{l:List α} {m:List β},Paired F l m->(∀a∈l,∀b,F a b->G a b)->Paired G l m
 |_,_,.nil,_=>.nil
 |_,_,.cons h t,f=>.cons (f _ aj' _ h) (bN_ t fun a ha=>f a (ag' _ ha))
theorem WyAt.keep{K:F__}{H H':Hp}{v:V}{o:Option (Xb)}(h:WyAt K H v o)(k:∀a,v=.ref a->∀u,H a=some u->H' a=some u)(kt:∀b xs,H b=some (.tup xs)->H' b=some (.tup xs)):WyAt K H' v o:=by
 cases o with
 |none=>exact h
 |some ws=>
  obtain⟨a,ys,e,ha,t⟩:=h;exact⟨a,ys,e,k a e _ ha,Paired.mapP t fun y q ⟨b,z,hb⟩=>⟨b,z,kt _ _ hb⟩⟩
theorem ba'.keep{K:F__}{CG CW:Addr}{H H':Hp}{g p:Addr}{hs:Xa}{ts:Xb}{qs:List Pc}{fp:List Addr}(G:ba' K CG CW H g p hs ts qs fp)(k:∀b∈fp,∀o,H b=some o->H' b=some o)(kt:∀b xs,H b=some (.tup xs)->H' b=some (.tup xs)):ba' K CG CW H' g p hs ts qs fp:=by
 obtain⟨dx,dw,dy,vs,fpw,h1,h2,h3,h4,h5,m1,m2,m3,m4,m5⟩:=G.ex;exact⟨dx,dw,dy,vs,fpw,k _ m1 _ h1,h2.keep (fun b hb o e=>k b (m4 b hb) o e) kt,k _ m2 _ h3,k _ m3 _ h4,bN_ h5 fun v hv q h=>h.keep (fun a z u e=>k a (m5 v hv a z) u e) kt,m1,m2,m3,m4,m5⟩
theorem ba'.same{K:F__}{CG CW:Addr}{H H':Hp}{g p:Addr}{hs:Xa}{ts:Xb}{qs:List Pc}{fp:List Addr}(G:ba' K CG CW H g p hs ts qs fp)(s:Same H H'):ba' K CG CW H' g p hs ts qs fp:=G.keep (fun b _ o e=>s b o e) fun b xs e=>s b _ e
structure TxtG (K:F__) (CG:Addr):Prop where
 cl:Cls K CG
 nW:bp' K CG "web"
 nG:bp' K CG "weight_by_name"
 nY:bp' K CG "ways_by_name"
structure InsK (K:F__) (C:Addr):Prop where
 ha:PySem.W.findIn K (.ref C) "__class__"=some (some (.builtin "object.__class__"))
 hn:PySem.W.specialIn K (.builtin "object.__class__") "__get__"=some (some (.builtin "getset_descriptor.__get__"))
 tk:PySem.W.takesIn K (.builtin "object.__class__")=some true
 mo:PySem.W.mroIn K C (.type "object")=some true
theorem h9_(K:F__)(c:Value):PySem.W.kitOne K c c=some true:=by
 unfold PySem.W.kitOne;rw[if_pos (beq_self_eq_true c)]
theorem eQ_{K:F__}{H0 H:Hp}:∀{zs:List V} {qs:List Pc},Paired (bZ' K H0 H) zs qs->∃vs:List V,vs.length=qs.length/\Paired (fun z (x:Pc × V)=>∃t,z=.ref t/\H t=some (.tup [.str x.1.1,.int x.1.2.1,x.2])) zs (qs.zip vs)/\Paired (fun v (q:Pc)=>WyAt K H v q.2.2) vs qs/\∀v∈vs,∀a,v=.ref a->H0 a=none
 |_,_,.nil=>⟨[],rfl,.nil,.nil,by simp⟩
 |_,_,.cons ⟨t,v,e,ht,wy,hn⟩ r=>by
  obtain⟨vs,h1,h2,h3,h4⟩:=eQ_ r;refine⟨v::vs,by simp[h1],.cons ⟨t,e,ht⟩ h2,.cons wy h3,fun u hu=>?_⟩;rcases ah'.mp hu with rfl|hu
  ·exact hn
  ·exact h4 u hu
theorem eF_{K:F__}{l D:Addr}{zs:List V}{xs:List (Pc × V)}{H:Hp}{Q:VK}{σ0:St}{j:Nat}(sel:Pc × V->V)(hj:∀x:Pc × V,[some (V.str x.1.1),some (V.int x.1.2.1),some x.2][j]? = some (some (sel x)))(hσ:σ0=[none,none,none])(hl:H l=some (.lst zs))
  (pz:Paired (fun z (x:Pc × V)=>∃t,z=.ref t/\H t=some (.tup [.str x.1.1,.int x.1.2.1,x.2])) zs xs) (h1000:xs.length<=1000) (hD:H D=none)
  (q:∀H' out,Same H H'->H' D=some (.lst out)->be' K H' out (xs.map fun x=>(Sum.inr x.1.1,sel x))->Q (.ref D) H') :
  df' (Itl K l) (gTup K 3 (cl' (bX' 0) (cl' (bX' 1) (cl' (bX' 2) gNil)))) tYes (tTup (tCons (tVar 0) (tCons (tVar j) tNil))) σ0 D H Q:=by
 have sz:=sizeLine_eq;have le:=Paired.length pz;refine aI_ (own:=3) (fv:=[]) (xs:=zs) hσ gok3 (fun i out H'=>Same H H'/\H' D=some (.lst out)/\be' K H' out ((xs.take i).map fun x=>(Sum.inr x.1.1,sel x))) ⟨Same.new hD,a1_,.nil⟩ (fun i out H' _ ⟨sm,_,_⟩=>.of (sm _ _ hl)) (fun out H4 ⟨sm,hD4,eo⟩=>?_) (fun i y out H' hy ⟨sm,hD',eo⟩=>?_)
 ·rw[le,am'] at eo;exact q _ _ sm hD4 eo
 ·have hi:i<zs.length:=(ab'.mp hy).1;have hx:xs[i]? = some (xs[i]'(by omega)):=ac' (by omega);obtain⟨t,et,ht⟩:=paired_get pz i hi (by omega);rw[(ab'.mp hy).2] at et;subst et;generalize xs[i]'(by omega)=x at hx ht;have lo:=Paired.length eo;rw[aa',ak'] at lo;refine⟨_,⟨t,_,_,_,rfl,.of (sm _ _ ht),rfl⟩,rfl,fun Nx hN=>yesT ?_⟩;refine⟨_,rfl,_,hj x,by show 2<=sizeLine;decide,fun p hp=>?_⟩;have s2:=Same.new (o:=.tup [.str x.1.1,sel x]) hp;refine⟨out,s2 _ _ hD',by omega,hN _ _ ⟨ao_ (sm.trans s2) hD,a1_,?_⟩⟩;rw[aW_ _ hx];have pD:∀{b:Addr} {ys:List V},upd H' p (.tup [.str x.1.1,sel x]) b=some (.tup ys)->b≠D:=fun hb=>ax_ hb (s2 _ _ hD') nofun;refine aD_ (Paired.mapP eo fun y kv ⟨b,z,hb⟩=>⟨b,z,by rw[a4_ (pD (s2 _ _ hb))];exact s2 _ _ hb⟩) (.cons ⟨p,rfl,?_⟩ .nil);have hp2:upd H' p (.tup [.str x.1.1,sel x]) p=some (.tup [.str x.1.1,sel x]):=a1_;rw[a4_ (pD hp2)];exact hp2
section
variable{P:Program}{w:World}{K:F__}{mg:Str->Option Value}{base:Heap}
theorem scGInit:a4' ["self","web","pieces","checked"] ["self","web","pieces"] (a3' sGInit):=f__
def spGInit(K:F__)(CG CW:Addr):Sp:=fun vs H Q _=>∃(g dx p l:Addr) (ys:List V) (ps:List Pc) (hs:Xa) (ts:Xb) (fpw:List Addr),vs=[.ref g,.ref p,.ref l]/\H g=some (.ins CG dx [])/\bl' K CW H p hs ts fpw/\g∉fpw/\Good hs ts/\H l=some (.lst ys)/\dh' K H ys ps/\(∀q∈ps,cO' ts q)/\(ps.map (·.1)).Nodup/\ps.length<64 /\
 ∀qs fp H',(∀b o,H b=some o->b≠g->H' b=some o)->ba' K CG CW H' g p hs ts qs fp->Qs ps qs->(∀b∈fp,b=g∨b∈fpw∨H b=none)->Q .non H'
theorem ho_{f CG CW:Addr}{fd:FuncData}(F:Fun K "__init__" "Goods.__init__" sGInit f fd)(T:TxtG K CG)(TW:Txt K mg CW)(IW:InsK K CW)(B:Bi mg)(mWeb:mg "Web"=some (.ref CW))(cP:Cal P w K mg base 6 "checked_pieces" ["web","pieces"] (cu' K CW)):FnOk P w K mg base CX0 7 f fd ["self","web","pieces"] (spGInit K CG CW):=by
 refine F.ok scGInit (fun vs H Q E h=>?_) (fun cdv A outer s H vs Q E hr h=>?_)
 ·obtain⟨g,dx,p,l,ys,ps,hs,ts,fpw,rfl,_⟩:=h;rfl
 ·obtain⟨g,dx,p,l,ys,ps,hs,ts,fpw,rfl,hg,W,gw,G,hl,pc,gp,nd,h64,k⟩:=h
  refine⟨_,a2_ (aB_ (aQ_ (aJ_ (ac_ gS_ (by rfl) B.isi PyProof.Rows.Boot.«isinstance» (a0_ (pv 1) (a0_ (bM_ (v:=.ref CW) (by rfl) mWeb rfl) a3_))))) ah_ ae_)
   (a2_ (aa_ (i:=3) scGInit.nd rfl (Or.inl rfl) (af_ cP hr (a0_ (pv 1) (a0_ (pv 2) a3_))))
   (a2_ (bG_ (pv 0) (pv 1) rfl)
   (a2_ (bG_ (pv 0) (aw_ (aR_ rfl) (by rfl) B.dict PyProof.Rows.Boot.«dict» (a0_ (aN_ ["name","weight","ways"] 3 [] (ak_ (pv 3)) (fun fp s H=>du_ (n:=3) (ad_ (a8_ (i:=0) (show (["name","weight","ways"]:List Str).Nodup by decide +kernel) rfl (Or.inl rfl)) (ad_ (a8_ (i:=1) (show (["name","weight","ways"]:List Str).Nodup by decide +kernel) rfl (Or.inl rfl)) (ad_ (a8_ (i:=2) (show (["name","weight","ways"]:List Str).Nodup by decide +kernel) rfl (Or.inl rfl)) aO_)))) (fun fp s H=>aS_) (fun fp s H=>aL_ (a0_ (pv 0) (a0_ (pv 1) a3_)))) a3_)) rfl)
   (a5_ (bG_ (pv 0) (aw_ (aR_ rfl) (by rfl) B.dict PyProof.Rows.Boot.«dict» (a0_ (aN_ ["name","weight","ways"] 3 [] (ak_ (pv 3)) (fun fp s H=>du_ (n:=3) (ad_ (a8_ (i:=0) (show (["name","weight","ways"]:List Str).Nodup by decide +kernel) rfl (Or.inl rfl)) (ad_ (a8_ (i:=1) (show (["name","weight","ways"]:List Str).Nodup by decide +kernel) rfl (Or.inl rfl)) (ad_ (a8_ (i:=2) (show (["name","weight","ways"]:List Str).Nodup by decide +kernel) rfl (Or.inl rfl)) aO_)))) (fun fp s H=>aS_) (fun fp s H=>aL_ (a0_ (pv 0) (a0_ (pv 2) a3_)))) a3_)) rfl))))),?_⟩
  obtain⟨dxw,d1,l2,d3,zs0,as,ef,w1,_⟩:=id W.ex;refine⟨_,rfl,_,_,_,_,rfl,.ins w1 TW.cl IW.ha IW.hn IW.tk IW.mo,h9_ _ _,_,rfl,iteF ?_⟩;refine⟨_,rfl,_,rfl,p,l,ys,ps,hs,ts,fpw,rfl,W,G,hl,pc,gp,nd,h64,fun lc zs qs H1 s1 hlc pn Qq=>?_⟩;obtain⟨vs,lv,pz,wys,vnew⟩:=eQ_ pn;have hg1:=s1 _ _ hg
  have lq:qs.length=ps.length:=by
   have:=congrArg List.length Qq.nms;rw[aa',(ap_ _).length_eq,aa'] at this;exact this
  have qnd:(qs.map (·.1)).Nodup:=by
   rw[Qq.nms];exact (ap_ _).nodup_iff.mpr nd
  refine⟨_,rfl,_,rfl,g,CG,dx,[],rfl,hg1,T.cl,T.nW,by show 0<1000;decide,?_⟩;have up1:∀{b o},H1 b=some o->b≠g->upd H1 g (.ins CG dx (putF "web" (.ref p) [])) b=some o:=fun e ne=>by rw[a4_ ne];exact e
  have hg2:upd H1 g (.ins CG dx (putF "web" (.ref p) [])) g=some (.ins CG dx (putF "web" (.ref p) [])):=a1_
  have fr1:∀{b},upd H1 g (.ins CG dx (putF "web" (.ref p) [])) b=none->H1 b=none:=fun {b} e=>by
   by_cases z:b=g
   ·rw[z,a1_] at e;cases e
   ·rw[a4_ z] at e;exact e
  generalize upd H1 g (.ins CG dx (putF "web" (.ref p) []))=H2 at up1 hg2 fr1 ⊢;have lcg:lc≠g:=ax_ hlc hg1 nofun;have pz2:Paired (fun z (x:Pc × V)=>∃t,z=.ref t/\H2 t=some (.tup [.str x.1.1,.int x.1.2.1,x.2])) zs (qs.zip vs):=Paired.mapP pz fun z x ⟨t,e,ht⟩=>⟨t,e,up1 ht (ax_ ht hg1 nofun)⟩;have z1000:(qs.zip vs).length<=1000:=by rw[List.length_zip];omega
  refine⟨_,rfl,lc,rfl,⟨_,.of (up1 hlc lcg)⟩,fun D hD=>?_⟩;refine eF_ (fun x=>.int x.1.2.1) (fun x=>rfl) rfl (up1 hlc lcg) pz2 z1000 hD fun H3 out s3 hD3 pa3=>?_;refine⟨D,out,_,rfl,hD3,pa3,by rw[aa'];exact z1000,fun dw hdw=>?_⟩
  have ekv:((qs.zip vs).map fun x:Pc × V=>((Sum.inr x.1.1:Key),V.int x.1.2.1))=wKV qs:=by
   unfold wKV;have:(fun x:Pc × V=>((Sum.inr x.1.1:Key),V.int x.1.2.1))=(fun q:Pc=>((Sum.inr q.1:Key),V.int q.2.1)) ∘ Prod.fst:=rfl;rw[this,<- ao',List.map_fst_zip (by omega)]
  have ndk:(qs.map (·.1)).map (Sum.inr:Str->Key) |>.Nodup:=by
   rw[ay',aH'];exact qnd.imp fun n e=>n (Sum.inr.inj e)
  rw[ekv,aX_ (by rw[eJ_];exact ndk)];have s4:=Same.new (o:=.dK (wKV qs)) hdw;have hg4:=s4 _ _ (s3 _ _ hg2);refine⟨_,rfl,g,CG,dx,_,rfl,hg4,T.cl,T.nG,by show 1<1000;decide,?_⟩;have s24:=s3.trans s4;have hdw4:upd H3 dw (.dK (wKV qs)) dw=some (.dK (wKV qs)):=a1_;have dwg:dw≠g:=(a6_ (s3 _ _ hg2) hdw).symm;have fr4:∀{b},upd H3 dw (.dK (wKV qs)) b=none->H2 b=none:=fun e=>s24.free e;have dwn:H2 dw=none:=s3.free hdw;generalize upd H3 dw (.dK (wKV qs))=H4 at s4 hg4 s24 hdw4 fr4 ⊢;have up5:∀{b o},H4 b=some o->b≠g->upd H4 g (.ins CG dx (putF "weight_by_name" (.ref dw) (putF "web" (.ref p) []))) b=some o:=fun e ne=>by rw[a4_ ne];exact e
  have hg5:upd H4 g (.ins CG dx (putF "weight_by_name" (.ref dw) (putF "web" (.ref p) []))) g=some (.ins CG dx (putF "weight_by_name" (.ref dw) (putF "web" (.ref p) []))):=a1_
  have fr5:∀{b},upd H4 g (.ins CG dx (putF "weight_by_name" (.ref dw) (putF "web" (.ref p) []))) b=none->H4 b=none:=fun {b} e=>by
   by_cases z:b=g
   ·rw[z,a1_] at e;cases e
   ·rw[a4_ z] at e;exact e
  generalize upd H4 g (.ins CG dx (putF "weight_by_name" (.ref dw) (putF "web" (.ref p) [])))=H5 at up5 hg5 fr5 ⊢;have up15:∀{b o},H1 b=some o->b≠g->H5 b=some o:=fun e ne=>up5 (s24 _ _ (up1 e ne)) ne;have pz5:Paired (fun z (x:Pc × V)=>∃t,z=.ref t/\H5 t=some (.tup [.str x.1.1,.int x.1.2.1,x.2])) zs (qs.zip vs):=Paired.mapP pz fun z x ⟨t,e,ht⟩=>⟨t,e,up15 ht (ax_ ht hg1 nofun)⟩;refine⟨_,rfl,lc,rfl,⟨_,.of (up15 hlc lcg)⟩,fun D2 hD2=>?_⟩;refine eF_ (fun x=>x.2) (fun x=>rfl) rfl (up15 hlc lcg) pz5 z1000 hD2 fun H6 out2 s6 hD6 pa6=>?_;refine⟨D2,out2,_,rfl,hD6,pa6,by rw[aa'];exact z1000,fun dy hdy=>?_⟩;rw[show ((qs.zip vs).map fun x:Pc × V=>((Sum.inr x.1.1:Key),x.2))=yKV qs vs from rfl,aX_ (by rw[h7_ lv];exact ndk)];have s7:=Same.new (o:=.dK (yKV qs vs)) hdy;have s57:=s6.trans s7;have hg7:=s57 _ _ hg5;refine⟨_,rfl,g,CG,dx,_,rfl,hg7,T.cl,T.nY,by show 2<1000;decide,?_⟩;have hdy7:upd H6 dy (.dK (yKV qs vs)) dy=some (.dK (yKV qs vs)):=a1_;have dyg:dy≠g:=(a6_ (s6 _ _ hg5) hdy).symm;have dyn:H5 dy=none:=s6.free hdy;generalize upd H6 dy (.dK (yKV qs vs))=H7 at s7 s57 hg7 hdy7 ⊢
  have fin:∀{b o},H1 b=some o->b≠g->upd H7 g (.ins CG dx (gflds p dw dy)) b=some o:=fun e ne=>by
   rw[a4_ ne];exact s57 _ _ (up15 e ne)
  have tupf:∀b xs,H1 b=some (.tup xs)->upd H7 g (.ins CG dx (gflds p dw dy)) b=some (.tup xs):=fun b xs e=>fin e (ax_ e hg1 nofun);have nH:∀{b},H1 b=none->H b=none:=fun e=>s1.free e;refine k qs (g::dw::dy::(fpw++vs.filterMap fun v=>match v with | .ref a=>some a|_=>none)) _ (fun b o e ne=>fin (s1 _ _ e) ne) ⟨dx,dw,dy,vs,fpw,a1_,?_,?_,?_,?_,by simp,by simp,by simp,fun b hb=>by simp[hb],fun v hv a z=>?_⟩ Qq fun b hb=>?_
  ·exact W.keep (fun b hb o e=>fin (s1 _ _ e) (fun z=>gw (z▸hb))) fun b xs e=>tupf b xs (s1 _ _ e)
  ·rw[a4_ dwg];exact s57 _ _ (up5 hdw4 dwg)
  ·rw[a4_ dyg];exact hdy7
  ·exact bN_ wys fun v hv q h=>h.keep (fun a z u e=>fin e (fun zz=>by
    subst zz;have:=vnew v hv _ z;rw[hg] at this;cases this)) fun b xs e=>tupf b xs e
  ·refine ag' _ (ag' _ (ag' _ (aA' _ (aN'.mpr ⟨v,hv,?_⟩))));rw[z]
  ·simp only[ah',au',aN'] at hb;rcases hb with rfl|rfl|rfl|hb|⟨v,hv,e⟩
   ·exact .inl rfl
   ·exact .inr (.inr (nH (fr1 dwn)))
   ·exact .inr (.inr (nH (fr1 (s24.free (fr5 dyn)))))
   ·exact .inr (.inl hb)
   ·cases v with
    |ref a=>
     cases e;exact .inr (.inr (vnew _ hv _ rfl))
    |_=>cases e
end
end Ev
namespace L2
open PySem
theorem pass1{P:Program}{w:World}{X:Cx}:bG' (CX1 P w) X E0:=fun _ _ _ _ _ _ _ h=>by
 obtain⟨_,_,_,_,_,_,_,_,_,_,_,_,z⟩:=h;exact z.elim
end L2
namespace Ev
open PySem L2
structure CalX (P:Program) (w:World) (K:F__) (mg:Str->Option Value) (base:Heap) (C:Addr) (k:Nat) (m:Str) (ps:List Str) (sp:Sp):Prop where
 ex:∃f fd,FnOk P w K mg base (CX1 P w) k f fd ps sp/\Meth K C m f/\bV' K fd ps []
theorem i5_{X:Cx}{C:Addr}{k:Nat}{m:Str}{ps:List Str}{sp:Sp}{pos apos:Pos}{o e:Expr}{es:List Expr}{ta:TE}{t:TA}{pl:Sem Bool}(c:CalX X.prog X.w X.K X.mg X.base C k m ps sp)(cl:Cls X.K C)(hr:Room k X.A)(he:PE X o ta)(ha:PA X (e::es) t)
  (hst:starEach (e::es) X.env=(false,eval e X.env)::starEach es X.env:=by rfl) (hpl:(backTo pos (starEach es X.env)).any (·.1)=false:=by rfl)
  (ht:eval (.Call (.Attribute o m apos) (e::es) [] pos) X.env=(do
   let ov <- eval o X.env
   standAt apos.atName
   let (f,first) <- holding [ov] (getMethod ov m pl)
   callWith pos f first (backTo pos (starEach (e::es) X.env)) (backToKw pos (keywordEach [] X.env))):=by rfl) :
  PE X (.Call (.Attribute o m apos) (e::es) [] pos) (tMeth C m sp [] E0 ta t):=by
 obtain⟨f,fd,F,hm,b⟩:=c.ex;exact g7_ he cl hm F hr b .nil pass1 ha hst hpl ht
theorem es_{kvs:List (Key × V)}{ns:List Str}(h:kvs.map (·.1)=ns.map Sum.inr)(x:Str):(valV kvs (Sum.inr x)).isSome=decide (x∈ns):=by
 by_cases hx:x∈ns
 ·rw[decide_eq_true hx];refine dN_ ?_;rw[h];exact ad'.mpr ⟨x,hx,rfl⟩
 ·rw[decide_eq_false hx,aP_]
  ·rfl
  ·rw[h];intro m;obtain⟨y,hy,e⟩:=ad'.mp m;cases e;exact hx hy
theorem jH_{qs:List Pc}(nd:(qs.map (·.1)).Nodup){q:Pc}(hq:q∈qs):valV (wKV qs) (Sum.inr q.1)=some (.int q.2.1):=by
 obtain⟨j,hj,e⟩:=aD' hq;have:=dh_ (ps:=qs) (cs:=qs.map fun q=>V.int q.2.1) nd (by rw[aa']) (j:=j) (q:=q) (c:=.int q.2.1) (by rw[ac' hj,e]) (by rw[al',ac' hj,e];rfl)
 have e2:((qs.zip (qs.map fun q=>V.int q.2.1)).map fun q=>((Sum.inr q.1.1:Key),q.2))=wKV qs:=by
  unfold wKV;rw[List.zip_map_right,ao']
  have:qs.zip qs=qs.map fun q=>(q,q):=by
   clear nd hq this hj e j
   induction qs with
   |nil=>rfl
   |cons a l ih=>rw[List.zip_cons_cons,ih,ar']
  rw[this,ao'];rfl
 rwa [e2] at this
theorem kf_{qs:List Pc}{vs:List V}(nd:(qs.map (·.1)).Nodup){K:F__}{H:Hp}(h:Paired (fun v (q:Pc)=>WyAt K H v q.2.2) vs qs){q:Pc}(hq:q∈qs):∃v∈vs,valV (yKV qs vs) (Sum.inr q.1)=some v/\WyAt K H v q.2.2:=by
 obtain⟨j,hj,e⟩:=aD' hq;have hl:=Paired.length h;have hv:j<vs.length:=by omega
 have p:=paired_get h j hv hj;rw[e] at p;exact⟨vs[j],az' hv,dh_ nd (by omega) (by rw[ac' hj,e]) (ac' hv),p⟩
def goB(hs:Xa)(ts:Xb)(o:Option (Xb))(x y:Option Str):Bool:=
 tiedB hs ts x y&&match o,x,y with
  |none,_,_=>true
  |some ws,some a,some b=>decide (ord2 a b∈ws)
  |_,_,_=>false
section
variable{P:Program}{w:World}{K:F__}{mg:Str->Option Value}{base:Heap}
theorem scGHas:a4' ["self","thing"] ["self","thing"] (a3' sGHas):=f__
def cZ'(K:F__)(CG CW:Addr):Sp:=fun vs H Q _=>∃(g p:Addr) (v:V) (x:Option Str) (hs:Xa) (ts:Xb) (qs:List Pc) (fp:List Addr),vs=[.ref g,v]/\ba' K CG CW H g p hs ts qs fp/\StrV K H v x/\Q (.bl (inB (qs.map (·.1)) x)) H
theorem jh_{f CG CW:Addr}{fd:FuncData}(F:Fun K "has_piece" "Goods.has_piece" sGHas f fd)(T:TxtG K CG)(B:Bi mg):FnOk P w K mg base CX0 1 f fd ["self","thing"] (cZ' K CG CW):=by
 refine F.ok scGHas (fun vs H Q E h=>?_) (fun cdv A outer s H vs Q E hr h=>?_)
 ·obtain⟨g,p,v,x,hs,ts,qs,fp,rfl,_⟩:=h;rfl
 ·obtain⟨g,p,v,x,hs,ts,qs,fp,rfl,G,sv,k⟩:=h;have hu:=b5_ hr;obtain⟨dx,dw,dy,vs,fpw,h1,h2,h3,h4,h5,m1,m2,m3,m4,m5⟩:=G.ex;refine⟨_,a5_ (ab_ (br_ (ac_ aU_ (by rfl) B.isi PyProof.Rows.Boot.«isinstance» (a0_ (pv 1) (a0_ (b2_ (v:=.ty "str") (by rfl) B.str PyProof.Rows.Boot.«str» rfl) a3_))) (bd_ (e0_ (d1_ hu (pv 1) (aF_ (pv 0) rfl)))))),?_⟩;cases x with
  |some x=>
   cases (show v=.str x from sv);refine⟨_,rfl,_,_,_,_,rfl,.str x,rfl,_,rfl,iteT ?_⟩;refine⟨_,rfl,_,rfl,g,CG,dx,_,_,rfl,h1,T.cl,T.nG,ef_ _ _ _,dw,_,rfl,.k (k:=Sum.inr x) h3,?_⟩;rw[es_ (eJ_ qs)];exact k
  |none=>
   obtain⟨t,ty,e⟩:=sv;exact⟨_,rfl,_,_,_,_,rfl,ty,e,_,rfl,iteF k⟩
theorem scGNames:a4' ["self"] ["self"] (a3' cW'):=f__
def db'(K:F__)(CG CW:Addr):Sp:=fun vs H Q _=>∃(g p:Addr) (hs:Xa) (ts:Xb) (qs:List Pc) (fp:List Addr),vs=[.ref g]/\ba' K CG CW H g p hs ts qs fp/\∀l,H l=none->Q (.ref l) (upd H l (.lst ((qs.map (·.1)).map V.str)))
theorem gf_{f CG CW:Addr}{fd:FuncData}(F:Fun K "names" "Goods.names" cW' f fd)(T:TxtG K CG)(B:Bi mg):FnOk P w K mg base CX0 1 f fd ["self"] (db' K CG CW):=by
 refine F.ok scGNames (fun vs H Q E h=>?_) (fun cdv A outer s H vs Q E hr h=>?_)
 ·obtain⟨g,p,hs,ts,qs,fp,rfl,_⟩:=h;rfl
 ·obtain⟨g,p,hs,ts,qs,fp,rfl,G,k⟩:=h;obtain⟨dx,dw,dy,vs,fpw,h1,h2,h3,h4,h5,m1,m2,m3,m4,m5⟩:=G.ex;refine⟨_,a5_ (ab_ (aw_ (cc_ rfl) (by rfl) B.list PyProof.Rows.Boot.«list» (a0_ (aF_ (pv 0) rfl) a3_))),?_⟩;refine⟨_,rfl,g,CG,dx,_,_,rfl,h1,T.cl,T.nG,ef_ _ _ _,dw,_,rfl,.inl h3,fun l hl=>?_⟩
  have e:((wKV qs).map fun kv=>kV kv.1)=(qs.map (·.1)).map V.str:=by
   unfold wKV;rw[ao',ao'];rfl
  rw[e];exact k l hl
structure Ref (K:F__) (mg:Str->Option Value) (x:Str) (C:Addr):Prop where
 mg:mg x=some (.ref C)
 ex:PySem.W.excIn K C [.type "ValueError",.type "Exception",.type "BaseException",.type "object"] "ValueError.__new__"=true
theorem scGWeight:a4' ["self","piece"] ["self","piece"] (a3' cj'):=f__
def bC'(K:F__)(CG CW CP:Addr):Sp:=fun vs H Q E=>∃(g p:Addr) (v:V) (x:Option Str) (hs:Xa) (ts:Xb) (qs:List Pc) (fp:List Addr),vs=[.ref g,v]/\ba' K CG CW H g p hs ts qs fp/\(qs.map (·.1)).Nodup/\StrV K H v x /\
 ((∃q∈qs,x=some q.1/\Q (.int q.2.1) H)∨(inB (qs.map (·.1)) x=false/\E (.ref CP) none H))
theorem fe_{f CG CW CP:Addr}{fd:FuncData}(F:Fun K "weight" "Goods.weight" cj' f fd)(T:TxtG K CG)(R:Ref K mg "NoPiece" CP)(cH:CalM P w K mg base CG 1 "has_piece" ["self","thing"] (cZ' K CG CW)):FnOk P w K mg base (CX1 P w) 2 f fd ["self","piece"] (bC' K CG CW CP):=by
 refine F.okX scGWeight (fun vs H Q E h=>?_) (fun cdv A outer s H vs Q E hr h=>?_)
 ·obtain⟨g,p,v,x,hs,ts,qs,fp,rfl,_⟩:=h;rfl
 ·obtain⟨g,p,v,x,hs,ts,qs,fp,rfl,G,nd,sv,k⟩:=h;have hu:=b5_ hr;obtain⟨dx,dw,dy,vs,fpw,h1,h2,h3,h4,h5,m1,m2,m3,m4,m5⟩:=id G.ex;have hno:(gflds p dw dy).lookup ("has_piece":Str)=none:=be_ _ _ _ (by decide +kernel) (by decide +kernel) (by decide +kernel);refine⟨_,a2_ (aB_ (aQ_ (aJ_ (bs_ cH T.cl hr (pv 0) (a0_ (pv 1) a3_)))) (a5_ (ey_ rfl raises1 R.mg R.ex PySem.F.excBase_ValueError (by rfl) (a0_ aC_ a3_))) ae_) (a5_ (ab_ (ag_ hu (aF_ (pv 0) rfl) (pv 1) (fun _ _=>rfl)))),?_⟩;refine⟨_,rfl,g,dx,_,rfl,h1,hno,_,rfl,g,p,v,x,hs,ts,qs,fp,rfl,G,sv,_,rfl,?_⟩;rcases k with⟨q,hq,rfl,k⟩|⟨hb,k⟩
  ·cases (show v=.str q.1 from sv);rw[show inB (qs.map (·.1)) (some q.1)=true from decide_eq_true (ad'.mpr ⟨q,hq,rfl⟩)];refine iteF ?_;refine⟨_,rfl,g,CG,dx,_,_,rfl,h1,T.cl,T.nG,ef_ _ _ _,_,rfl,dw,_,rfl,?_,k⟩;rw[<- jH_ nd hq];exact .k (k:=Sum.inr q.1) h3
  ·rw[hb];exact iteT ⟨by show 1<=sizeLine;decide,k⟩
theorem scGMay:a4' ["self","piece","one","other","ties"] ["self","piece","one","other"] (a3' sGMay):=f__
def spGMay(K:F__)(CG CW CP:Addr):Sp:=fun vs H Q E=>∃(g p:Addr) (v u1 u2:V) (x y1 y2:Option Str) (hs:Xa) (ts:Xb) (qs:List Pc) (fp:List Addr),vs=[.ref g,v,u1,u2]/\ba' K CG CW H g p hs ts qs fp/\(qs.map (·.1)).Nodup/\(a6' hs).Nodup/\StrV K H v x /\
 ((∃q∈qs,x=some q.1/\StrV K H u1 y1/\StrV K H u2 y2/\∀H',Same H H'->Q (.bl (goB hs ts q.2.2 y1 y2)) H')∨(inB (qs.map (·.1)) x=false/\E (.ref CP) none H))
theorem jj_{f CG CW CP:Addr}{fd:FuncData}(F:Fun K "may_go" "Goods.may_go" sGMay f fd)(T:TxtG K CG)(TW:Txt K mg CW)(R:Ref K mg "NoPiece" CP)(cH:CalM P w K mg base CG 1 "has_piece" ["self","thing"] (cZ' K CG CW))(cT:CalM P w K mg base CW 2 "are_tied" ["self","one","other"] (cY' K CW))(cL:Cal P w K mg base 1 "lesser_first" ["one","other"] b4') :
  FnOk P w K mg base (CX1 P w) 3 f fd ["self","piece","one","other"] (spGMay K CG CW CP):=by
 refine F.okX scGMay (fun vs H Q E h=>?_) (fun cdv A outer s H vs Q E hr h=>?_)
 ·obtain⟨g,p,v,u1,u2,x,y1,y2,hs,ts,qs,fp,rfl,_⟩:=h;rfl
 ·obtain⟨g,p,v,u1,u2,x,y1,y2,hs,ts,qs,fp,rfl,G,nd,nnd,sv,k⟩:=h;have hu:=b5_ hr;have hr1:Room 1 _:=hr.mono (by decide);obtain⟨dx,dw,dy,vs,fpw,h1,h2,h3,h4,h5,m1,m2,m3,m4,m5⟩:=id G.ex;have hno:(gflds p dw dy).lookup ("has_piece":Str)=none:=be_ _ _ _ (by decide +kernel) (by decide +kernel) (by decide +kernel);obtain⟨dxw,d1,l2,d3,zs0,as,ef,w1,_⟩:=id h2.ex;have hnw:(flds d1 l2 d3).lookup ("are_tied":Str)=none:=b0_ _ _ _ (by decide +kernel) (by decide +kernel) (by decide +kernel)
  refine⟨_,a2_ (aB_ (aQ_ (aJ_ (bs_ cH T.cl hr1 (pv 0) (a0_ (pv 1) a3_)))) (a5_ (ey_ rfl raises1 R.mg R.ex PySem.F.excBase_ValueError (by rfl) (a0_ aC_ a3_))) ae_)
   (a2_ (aB_ (aQ_ (aJ_ (bs_ cT TW.cl hr (aF_ (pv 0) rfl) (a0_ (pv 2) (a0_ (pv 3) a3_))))) (a5_ (ab_ el_)) ae_)
   (a2_ (aa_ (i:=4) scGMay.nd rfl (Or.inl rfl) (ag_ hu (aF_ (pv 0) rfl) (pv 1) (fun _ _=>rfl)))
   (a5_ (ab_ (fg_ (e0_ (eY_ (pv 4))) (bd_ (aG_ (dZ_ (cmp2 cmpS cmpS) (cc' hr _)) (af_ cL hr1 (a0_ (pv 2) (a0_ (pv 3) a3_))) (pv 4) (by with_unfolding_all rfl)))))))),?_⟩
  refine⟨_,rfl,g,dx,_,rfl,h1,hno,_,rfl,g,p,v,x,hs,ts,qs,fp,rfl,G,sv,_,rfl,?_⟩;rcases k with⟨q,hq,rfl,s1,s2,k⟩|⟨hb,k⟩
  ·cases (show v=.str q.1 from sv);rw[show inB (qs.map (·.1)) (some q.1)=true from decide_eq_true (ad'.mpr ⟨q,hq,rfl⟩)];refine iteF ?_;refine⟨_,rfl,g,CG,dx,_,_,rfl,h1,T.cl,T.nW,bf_ _ _ _,p,dxw,_,rfl,w1,hnw,_,rfl,_,rfl,p,u1,u2,y1,y2,hs,ts,fpw,rfl,h2,nnd,s1,s2,_,rfl,?_⟩;cases tb:tiedB hs ts y1 y2 with
   |false=>
    refine iteT ?_;have:=k H (Same.refl H);unfold goB at this;rw[tb,aZ'] at this;exact this
   |true=>
    refine iteF ?_;obtain⟨u,hu',eu,wy⟩:=kf_ nd h5 hq;refine⟨_,rfl,g,CG,dx,_,_,rfl,h1,T.cl,T.nY,iF_ _ _ _,_,rfl,dy,u,rfl,?_,?_⟩
    ·rw[<- eu];exact .k (k:=Sum.inr q.1) h4
    ·refine⟨_,rfl,_,rfl,?_⟩;unfold goB at k;rw[tb] at k;cases e:q.2.2 with
     |none=>
      rw[e] at wy k;cases (show u=.non from wy);exact iteT (k H (Same.refl H))
     |some ws=>
      rw[e] at wy k;obtain⟨a,ys,rfl,ha,tu⟩:=wy;cases y1 with
      |none=>cases tb
      |some a1=>
       cases y2 with
       |none=>cases tb
       |some a2=>
        cases (show u1=.str a1 from s1);cases (show u2=.str a2 from s2);refine iteF ⟨_,rfl,_,rfl,a1,a2,rfl,fun t ht=>?_⟩;have s3:Same H (upd H t (.tup [.str (ord2 a1 a2).1,.str (ord2 a1 a2).2])):=Same.new ht;refine⟨_,rfl,ord2 a1 a2,ws,⟨t,_,_,rfl,.of a1_,rfl,rfl⟩,⟨a,ys,rfl,.of (s3 _ _ ha),cJ_ (tu.same s3)⟩,?_⟩;have z:=k _ s3;rw[Bool.true_and] at z;rw[if_neg aq'];show Q (.bl _) _;have z:Q (.bl (decide (ord2 a1 a2∈ws))) (upd H t (.tup [.str (ord2 a1 a2).1,.str (ord2 a1 a2).2])):=z;generalize upd H t (.tup [.str (ord2 a1 a2).1,.str (ord2 a1 a2).2])=Hz at z ⊢;by_cases hm:ord2 a1 a2∈ws
        ·simpa [hm] using z
        ·simpa [hm] using z
  ·rw[hb];exact iteT ⟨by show 1<=sizeLine;decide,k⟩
end
end Ev
namespace L2
open PySem PySem.Spec PyProof.Rows PySem.W
theorem ge_{P:Program}{w:World}{k:Key}{key:Value}(h:(a7' P w).is k key=true):RelV (kV k) key:=by
 have e2:ch' k key=true:=h;rcases ay_ e2 with⟨i,t,rfl,rfl⟩|⟨x,t,rfl,rfl⟩
 ·exact⟨t,rfl⟩
 ·exact⟨t,rfl⟩
def Itm(d:Addr)(o:Obj)(kvs:List (Key × V)):It:=⟨fun i H=>H d=some (.frz o (.dK kvs))/\i<kvs.length,fun i H y H'=>∃t k x,y=.ref t/\H t=none/\kvs[i]? = some (k,x)/\H'=upd H t (.tup [kV k,x]),fun i H=>H d=some (.frz o (.dK kvs))/\kvs.length<=i⟩
theorem f8_{P:Program}{w:World}{K:F__}{elts:List Expr}{kk:Nat}{pos:Pos}(d it:Addr)(o:Obj)(kvs:List (Key × V)){es:Array DictEntry}{ep:Nat}(ho:o.data=.dict es ep):Turn P w K (.Tuple elts kk pos) (Itm d o kvs) [it] it (fun i h=>∃ok ov,IsItemIter h it d i kvs.length ep ok ov) where
 mem:=by simp
 obj:=fun i h st b hb=>by
  obtain rfl:b=it:=by simpa using hb
  obtain⟨ok,ov,q⟩:=st;exact⟨_,q,fun v z=>by cases z⟩
 keep:=fun i h h' st k=>by
  obtain⟨ok,ov,q⟩:=st;exact⟨ok,ov,k it (by simp) _ q⟩
 item:=by
  intro X hP hw hK hc i pins s σ H E I hf st hg;subst hP hw hK;obtain⟨hd,hi⟩:=hg;obtain⟨vs,rel,dat⟩:=bD_ I hd ho;obtain⟨⟨k,x⟩,hx⟩:∃p,kvs[i]? = some p:=⟨kvs[i],by simp[hi]⟩;obtain⟨u,hu,ru⟩:=ia_ rel i hx;obtain⟨ok,ov,st⟩:=st;have itl:it<s.heap.objs.size:=Heap.lt_size st;rw[rel.length] at st;refine wpAny_pyNext_items_item st dat hu fun key h' hk out ht sz kp=>?_;refine⟨_,rfl,wpAny_letOwnedTupleGo_items (s:={ s with heap:=h' }) out fun h2 st2 sb=>?_⟩;have nT:s.heap.objs.size≠it:=Nat.ne_of_gt itl;have I1:Inv X pins σ (upd H s.heap.objs.size (.tup [kV k,x])) { s with heap:=h2 }:=I.turnedN (t':=s.toks) (fp:=[it]) (its:=[key,u]) (fun b o hb q=>(sb.2 b (by simpa using hb)).trans (kp b o (by simpa using hb) q)) hf (af' _) (by show 2<=sizeLine;decide) (.cons (ge_ hk) (.cons ru .nil)) ⟨⟨_,(sb.2 _ nT).trans ht,rfl,_,rfl⟩,_,(sb.2 _ nT).trans ht,rfl⟩;refine⟨.ref _,_,I1,rfl,⟨_,k,x,rfl,I.hok.fresh (af' _),hx,rfl⟩,⟨_,_,by rw[rel.length];exact st2⟩,fun b hb=>?_⟩;have e:b=it:=by simpa using hb
  rw[a4_ (fun z=>nT (z.symm.trans e))];exact (hf b hb).1
 done:=by
  intro X hP hw hK hc i pins s σ H E I hf st hg;subst hP hw hK;obtain⟨hd,hi⟩:=hg;obtain⟨vs,rel,dat⟩:=bD_ I hd ho;obtain⟨f0,f1,f2,f3,f4,f5⟩:=hf it (by simp);obtain⟨ok,ov,st⟩:=st;rw[rel.length] at st hi;exact wpAny_pyNext_items_end (I.ok.hd hc) st dat (by simp;omega) fun h' eb=>⟨rfl,I.turned (t':=s.toks) (fun b o hb e=>eb b o hb e) f0 f1 f3 f4 f5⟩
 self:=fun A i s Q E st h=>by
  obtain⟨ok,ov,q⟩:=st;exact kcp_self q h
def iItems(tv:TE):TI:=fun σ H R=>tv σ H fun x H1=>∃v d kvs,x=.ref v/\H1 v=some (bn' v d)/\H1 d=some (.dK kvs)/\∀o,R (Itm d o kvs) (upd H1 d (.frz o (.dK kvs)))
theorem de_{X:Cx}{elts:List Expr}{kk:Nat}{p2:Pos}{e:Expr}{tv:TE}(he:PE X e tv):PI X (.Tuple elts kk p2) e (iItems tv):=by
 intro pins s σ H R I h;refine thn (he pins s σ H _ I h) fun u s1 ⟨x,H1,I1,r1,v,d,kvs,ex,hv,hd,q⟩=>?_;subst ex;cases r1;obtain⟨iv,_,_⟩:=I1.hok v _ hv;obtain⟨o,ho,I2⟩:=I1.freeze hd;obtain⟨z,_,vs,rel,o',es,ep,ho',c',dt,r⟩:=fh_ I1.hok hd;rw[ho] at ho';cases ho';refine wpAny_pyIter_items (knd:=a7' X.prog X.w) (kvs:=vs) (ep:=ep) iv ⟨o,es,ho,c',dt,r⟩ ?_;refine⟨s1.heap.objs.size,[s1.heap.objs.size],_,_,_,rfl,I2.kept (t':=s1.toks) fun b o e=>Heap.get?_push_of_some _ e,f8_ d _ o kvs dt,?_,fun b hb=>?_,q o⟩
 ·rw[rel.length];exact⟨.none,.none,Heap.get?_push_size _ rfl⟩
 ·obtain rfl:b=s1.heap.objs.size:=by simpa using hb
  exact I2.fpOk (af' _) (I2.hok.fresh (af' _))
theorem cK_{d:Addr}{o:Obj}{kvs:List (Key × V)}{g:TG}{tb:TS}{D:Ends}{σ:St}{H:Hp}(Pv:Nat->St->Hp->Prop)(h0:Pv 0 σ H)(hl:∀i σ H,i<=kvs.length->Pv i σ H->H d=some (.frz o (.dK kvs)))
  (hs:∀i k x σ H,kvs[i]? = some (k,x)->Pv i σ H->∀t,H t=none->g (.ref t) σ (upd H t (.tup [kV k,x])) fun σ2 H2=>tb { D with nx:=Pv (i+1),ct:=Pv (i+1),bk:=D.nx } σ2 H2) (hd:∀σ H,Pv kvs.length σ H->D.nx σ H) :
  ∃W:Nat->Nat->St->Hp->Prop,(∃m,W 0 m σ H)/\∀i m σ H,W i m σ H->
   ((Itm d o kvs).stop i H/\D.nx σ H)∨((Itm d o kvs).go i H/\∃N:St->Hp->Prop,(∀σ' H',N σ' H'->∃m',m'<m/\W (i+1) m' σ' H')/\∀x H',(Itm d o kvs).yld i H x H'->g x σ H' fun σ2 H2=>tb { D with nx:=N,ct:=N,bk:=D.nx } σ2 H2):=by
 refine⟨fun i m σ H=>m=kvs.length - i/\i<=kvs.length/\Pv i σ H,⟨kvs.length,by simp,aE' _,h0⟩,?_⟩;rintro i m σ H ⟨rfl,hi,p⟩;have q:=hl i σ H hi p;by_cases hlt:i<kvs.length
 ·refine .inr ⟨⟨q,hlt⟩,Pv (i+1),fun σ' H' p'=>⟨kvs.length - (i+1),by omega,rfl,hlt,p'⟩,fun x H' y=>?_⟩;obtain⟨t,k,x,rfl,ht,hx,rfl⟩:=y;exact hs i k x σ H hx p t ht
 ·have e:i=kvs.length:=by omega
  subst e;exact .inl ⟨⟨q,af' _⟩,hd σ H p⟩
def Itk(d:Addr)(o:Obj)(kvs:List (Key × V)):It:=⟨fun i H=>H d=some (.frz o (.dK kvs))/\i<kvs.length,fun i H y H'=>H'=H/\∃k x,kvs[i]? = some (k,x)/\y=kV k,fun i H=>H d=some (.frz o (.dK kvs))/\kvs.length<=i⟩
theorem fV_{P:Program}{w:World}{K:F__}{tg:Expr}(d it:Addr)(o:Obj)(kvs:List (Key × V)){es:Array DictEntry}{ep:Nat}(ho:o.data=.dict es ep):Turn P w K tg (Itk d o kvs) [it] it (fun i h=>h.IsKeyIter it d i kvs.length ep) where
 mem:=by simp
 obj:=fun i h st b hb=>by
  obtain rfl:b=it:=by simpa using hb
  obtain⟨o,e,c,d⟩:=st;exact⟨o,e,fun v z=>by rw[d] at z;cases z⟩
 keep:=fun i h h' st k=>st.at fun o e=>k it (by simp) o e
 item:=by
  intro X hP hw hK hc i pins s σ H E I hf st hg;subst hP hw hK;obtain⟨hd,hi⟩:=hg;obtain⟨vs,rel,dat⟩:=bD_ I hd ho;obtain⟨⟨k,x⟩,hx⟩:∃p,kvs[i]? = some p:=⟨kvs[i],by simp[hi]⟩;obtain⟨u,hu,ru⟩:=ia_ rel i hx;obtain⟨f0,f1,f2,f3,f4,f5⟩:=hf it (by simp);rw[rel.length] at st;refine wpAny_pyNext_dict_item st dat hu fun key h' hk st' sb=>?_;have I1:Inv X pins σ H { s with heap:=h' }:=I.turned (t':=s.toks) (fun b o hb e=>(sb.2 b hb).trans e) f0 f1 f3 f4 f5;obtain⟨o',e,c,dd⟩:=id st';refine⟨key,rfl,g8_ (s:={ s with heap:=h' }) e c dd (by decide) ⟨kV k,H,I1,ge_ hk,⟨rfl,k,x,hx,rfl⟩,?_,fun b hb=>(hf b hb).1⟩⟩;show h'.IsKeyIter it d (i+1) kvs.length ep;rw[rel.length];exact st'
 done:=by
  intro X hP hw hK hc i pins s σ H E I hf st hg;subst hP hw hK;obtain⟨hd,hi⟩:=hg;obtain⟨vs,rel,dat⟩:=bD_ I hd ho;obtain⟨f0,f1,f2,f3,f4,f5⟩:=hf it (by simp);rw[rel.length] at st hi;exact wpAny_pyNext_dict_end (I.ok.hd hc) st dat (by simp;omega) fun h' eb=>⟨rfl,I.turned (t':=s.toks) (fun b o hb e=>eb b o hb e) f0 f1 f3 f4 f5⟩
 self:=fun _ _ _ _ _ st h=>wpAny_pyIter_keyiter st h
def iKeys(tv:TE):TI:=fun σ H R=>tv σ H fun x H1=>∃d kvs,x=.ref d/\H1 d=some (.dK kvs)/\∀o,R (Itk d o kvs) (upd H1 d (.frz o (.dK kvs)))
theorem ed_{X:Cx}{tg e:Expr}{tv:TE}(he:PE X e tv):PI X tg e (iKeys tv):=by
 intro pins s σ H R I h;refine thn (he pins s σ H _ I h) fun u s1 ⟨x,H1,I1,r1,d,kvs,ex,hd,q⟩=>?_;subst ex;cases r1;obtain⟨o,ho,I2⟩:=I1.freeze hd;obtain⟨z,hne,vs,rel,o',es,ep,ho',c',dt,r⟩:=fh_ I1.hok hd;rw[ho] at ho';cases ho';refine wpAny_pyIter_dict (knd:=a7' X.prog X.w) (kvs:=vs) (ep:=ep) hne ⟨o,es,ho,c',dt,r⟩ ?_;refine⟨s1.heap.objs.size,[s1.heap.objs.size],_,_,_,rfl,I2.kept (t':=s1.toks) fun b o e=>Heap.get?_push_of_some _ e,fV_ d _ o kvs dt,?_,fun b hb=>?_,q o⟩
 ·rw[rel.length];exact⟨_,Heap.get?_push_size _ rfl,rfl,rfl⟩
 ·obtain rfl:b=s1.heap.objs.size:=by simpa using hb
  exact I2.fpOk (af' _) (I2.hok.fresh (af' _))
theorem gG_{d:Addr}{o:Obj}{kvs:List (Key × V)}{g:TG}{tc:TT}{te:TE}{own:Nat}{fv:List (Option V)}{dec:V->Hp->List (Option V)->Prop}{D:Addr}{H:Hp}{Q:VK}{σ0:St}(hσ:σ0=List.replicate own none++fv)(G:GOk g own fv dec)(Pv:Nat->List V->Hp->Prop)
  (h0:Pv 0 [] (upd H D (.lst []))) (hl:∀i out H',i<=kvs.length->Pv i out H'->H' d=some (.frz o (.dK kvs))) (hd:∀out H',Pv kvs.length out H'->Q (.ref D) H')
  (hgo:∀i k x out H',kvs[i]? = some (k,x)->Pv i out H'->∃o3,dec (kV k) H' o3/\o3.length=own/\∀Nx:Hp->Prop,(∀out' H2,Pv (i+1) out' H2->Nx H2)->
   tc (o3++fv) H' fun b H4=>if b=true then te (o3++fv) H4 fun y H5=>∃out2,H5 D=some (.lst out2)/\out2.length<sizeLine/\Nx (upd H5 D (.lst (out2++[y]))) else Nx H4) :
  df' (Itk d o kvs) g tc te σ0 D H Q:=by
 refine c0_ hσ G kvs.length Pv h0 (fun out H' p=>⟨⟨hl _ _ _ (af' _) p,af' _⟩,hd out H' p⟩) fun i out H' hi p=>?_;have q:=hl i out H' (Nat.le_of_lt hi) p;refine⟨⟨q,hi⟩,fun x H2 y=>?_⟩;obtain⟨e,k,v,hx,rfl⟩:=y;subst e;exact hgo i k v out _ hx p
def tThawS(t:TS):TS:=fun D σ H=>∃d kvs,H d=some (.dK kvs)/\t { nx:=fun σ1 H1=>∃o,H1 d=some (.frz o (.dK kvs))/\D.nx σ1 (upd H1 d (.dK kvs)),rt:=fun v H1=>∃o,H1 d=some (.frz o (.dK kvs))/\D.rt v (upd H1 d (.dK kvs)) } σ H
theorem cD_{X:Cx}{st:Stmt}{t:TS}(h:PS X st t):PS X st (tThawS t):=by
 intro pins s σ H D I q;obtain⟨d,kvs,hd,q⟩:=q
 have nf:∀o u,X.H₀ d≠some (.frz o u):=fun o u z=>by
  have:=I.base.frzs _ _ _ z;rw[hd] at this;cases this
 refine thn (h pins s σ H _ I q) fun f s' p=>?_;cases f with
 |next=>
  obtain⟨σ1,H1,I1,o,hf,q1⟩:=p;exact⟨σ1,_,I1.thaw hf nf,q1⟩
 |brk=>
  obtain⟨σ1,H1,I1,q1⟩:=p;exact False.elim q1
 |cont=>
  obtain⟨σ1,H1,I1,q1⟩:=p;exact False.elim q1
 |ret u=>
  obtain⟨v,σ1,H1,I1,r,o,hf,q1⟩:=p;exact⟨v,σ1,_,I1.thaw hf nf,r,q1⟩
end L2
namespace Ev
open PySem L2
structure Fz (d:Addr) (o:Obj) (kvs:List (Key × V)) (H H':Hp):Prop where
 at_:H' d=some (.frz o (.dK kvs))
 sm:∀b u,b≠d->H b=some u->H' b=some u
section
variable{d:Addr}{o:Obj}{kvs:List (Key × V)}{H H' H2:Hp}
theorem Fz.start:Fz d o kvs H (upd H d (.frz o (.dK kvs))):=⟨a1_,fun b u ne e=>by rw[a4_ ne];exact e⟩
theorem Fz.step(f:Fz d o kvs H H')(s:Same H' H2):Fz d o kvs H H2:=⟨s _ _ f.at_,fun b u ne e=>s _ _ (f.sm b u ne e)⟩
theorem Fz.thaw(f:Fz d o kvs H H')(hd:H d=some (.dK kvs)):Same H (upd H' d (.dK kvs)):=fun b u e=>by
 by_cases z:b=d
 ·subst z;rw[hd] at e;cases e;exact a1_
 ·rw[a4_ z];exact f.sm b u z e
theorem Fz.goods{K:F__}{CG CW g p:Addr}{hs:Xa}{ts:Xb}{qs:List Pc}{fp:List Addr}(f:Fz d o kvs H H')(hd:H d=some (.dK kvs))(G:ba' K CG CW H g p hs ts qs fp)(nd:d∉fp):ba' K CG CW H' g p hs ts qs fp:=
 G.keep (fun b hb u e=>f.sm b u (fun z=>nd (z▸hb)) e) fun b xs e=>f.sm b _ (ax_ e hd nofun) e
end
def mKV(ns:List Str)(g:Str->V):List (Key × V):=ns.map fun n=>(Sum.inr n,g n)
theorem bZ_(ns:List Str)(g:Str->V):(mKV ns g).map (·.1)=ns.map Sum.inr:=by
 unfold mKV;rw[ao'];rfl
theorem aE_(ns:List Str)(g:Str->V):(mKV ns g).length=ns.length:=aa' _
theorem do_{ns:List Str}{g:Str->V}{n:Str}(h:n∈ns):valV (mKV ns g) (Sum.inr n)=some (g n):=by
 induction ns with
 |nil=>cases h
 |cons m ns ih=>
  by_cases e:m=n
  ·subst e;exact bq_ rfl
  ·have:valV (mKV (m::ns) g) (Sum.inr n)=valV (mKV ns g) (Sum.inr n):=bl_ fun z=>e (Sum.inr.inj z);rw[this];rcases ah'.mp h with z|z
   ·exact absurd z.symm e
   ·exact ih z
theorem bv_{ns:List Str}{g k:Str->V}(h:∀n∈ns,g n=k n):mKV ns g=mKV ns k:=aF' fun n hn=>by rw[h n hn]
theorem ga_{ns:List Str}{g:Str->V}{n:Str}{v:V}(h:n∈ns):putK (mKV ns g) (Sum.inr n) v=mKV ns fun m=>if m=n then v else g m:=by
 unfold putK;rw[if_pos]
 ·unfold mKV;rw[ao'];refine aF' fun m _=>?_;by_cases e:m=n
  ·subst e;simp
  ·have:¬((Sum.inr m:Key)=Sum.inr n):=fun z=>e (Sum.inr.inj z);simp[e]
 ·refine List.any_eq_true.mpr ⟨(Sum.inr n,g n),ad'.mpr ⟨n,h,rfl⟩,by simp⟩
theorem dd_{ns:List Str}{g:Str->V}{n:Str}{v:V}(h:n∉ns):putK (mKV ns g) (Sum.inr n) v=mKV (ns++[n]) fun m=>if m=n then v else g m:=by
 rw[bF_ _ (aP_ (by
  rw[bZ_];intro m;obtain⟨x,hx,e⟩:=ad'.mp m;exact h (Sum.inr.inj e▸hx)))]
 unfold mKV;rw[an'];congr 1
 ·refine aF' fun m hm=>?_;have e:¬m=n:=fun z=>h (z▸hm);simp[e]
 ·simp
theorem d6_{ns:List Str}{g:Str->V}{i:Nat}{k:Key}{x:V}(h:(mKV ns g)[i]? = some (k,x)):∃n,ns[i]? = some n/\k=Sum.inr n/\x=g n:=by
 unfold mKV at h;rw[al'] at h;cases e:ns[i]? with
 |none=>rw[e] at h;cases h
 |some n=>
  rw[e] at h;have h:=Option.some.inj h;exact⟨n,rfl,(congrArg Prod.fst h).symm,(congrArg Prod.snd h).symm⟩
theorem bY_{ns:List Str}(nd:ns.Nodup){i:Nat}{n:Str}(h:ns[i]? = some n):n∉ns.take i:=by
 have q:=bh_ (g:=id) (ts:=ns) (by rw[List.map_id];exact nd) h;rwa [List.map_id] at q
theorem av_{ns:List Str}{i:Nat}{n:Str}(h:ns[i]? = some n):ns.take (i+1)=ns.take i++[n]:=by
 rw[aw',h];rfl
abbrev stF(ns:List Str)(f:Str->Str):List (Key × V):=mKV ns fun n=>.str (f n)
def wOf(q:Pc):Str × Int:=(q.1,q.2.1)
def ld(f:Str->Str)(ws:Xa)(h:Str):Int:=((ws.filter fun x=>decide (f x.1=h)).map (·.2)).sum
theorem fZ_(f:Str->Str)(ws:Xa)(x:Str × Int)(h:Str):ld f (ws++[x]) h=if h=f x.1 then ld f ws h+x.2 else ld f ws h:=by
 unfold ld;rw[List.filter_append];by_cases e:f x.1=h
 ·rw[if_pos e.symm,an',List.sum_append];simp[e]
 ·rw[if_neg fun z=>e z.symm];simp[e]
theorem hq_{a b:List Int}(p:a.Perm b):a.sum=b.sum:=by
 induction p with
 |nil=>rfl
 |cons x _ ih=>simp[ih]
 |swap x y l=>simp only[List.sum_cons];omega
 |trans _ _ h1 h2=>exact h1.trans h2
theorem iM_(f:Str->Str){a b:Xa}(p:a.Perm b)(h:Str):ld f a h=ld f b h:=hq_ ((p.filter _).map _)
theorem fL_:∀{l:List Int},(∀x∈l,0<=x)->0<=l.sum
 |[],_=>by simp
 |x::l,h=>by
  rw[List.sum_cons];have:=h x aj';have:=fL_ (l:=l) fun y hy=>h y (ag' _ hy);omega
theorem jU_{f:Str->Str}{ws:Xa}{h:Str}(p:∀x∈ws,0<=x.2):0<=ld f ws h:=fL_ fun x hx=>by
 obtain⟨y,hy,rfl⟩:=ad'.mp hx;exact p y (a0'.mp hy).1
theorem Qs.nd{ps qs:List Pc}(Q:Qs ps qs)(nd:(ps.map (·.1)).Nodup):(qs.map (·.1)).Nodup:=by
 rw[Q.nms];exact (ap_ _).nodup_iff.mpr nd
theorem Qs.len{ps qs:List Pc}(Q:Qs ps qs):qs.length=ps.length:=by
 have:=congrArg List.length Q.nms;rw[aa',(ap_ _).length_eq,aa'] at this;exact this
theorem Qs.ws{ps qs:List Pc}(Q:Qs ps qs)(nd:(ps.map (·.1)).Nodup):(qs.map wOf).Perm (ps.map wOf):=by
 have nw:∀{l:List Pc},(l.map (·.1)).Nodup->(l.map wOf).Nodup:=fun {l} h=>by
  have e:(l.map (·.1))=(l.map wOf).map (·.1):=by rw[ao'];rfl
  rw[e] at h;exact (aH'.mp h).imp fun n z=>n (by rw[z])
 refine (List.perm_ext_iff_of_nodup (nw (Q.nd nd)) (nw nd)).mpr fun a=>⟨fun h=>?_,fun h=>?_⟩
 ·obtain⟨q,hq,rfl⟩:=ad'.mp h;obtain⟨p,hp,rfl⟩:=Q.mem q hq;exact ad'.mpr ⟨p,hp,rfl⟩
 ·obtain⟨p,hp,rfl⟩:=ad'.mp h
  have m:p.1∈qs.map (·.1):=by
   rw[Q.nms];exact (ap_ _).mem_iff.mpr (ad'.mpr ⟨p,hp,rfl⟩)
  obtain⟨q,hq,e⟩:=ad'.mp m;obtain⟨p',hp',e'⟩:=Q.mem q hq;have:p'=p:=cu_ nd hp' hp (by rw[e'] at e;exact e);refine ad'.mpr ⟨q,hq,?_⟩;rw[e',this];rfl
end Ev
namespace Ev
open PySem L2
section
variable{P:Program}{w:World}{K:F__}{mg:Str->Option Value}{base:Heap}
structure StandOk (hs:Xa) (qs:List Pc) (ns:List Str) (f:Str->Str):Prop where
 perm:ns.Perm (qs.map (·.1))
 at_:∀n∈ns,f n∈hs.map (·.1)
theorem b0':a4' ["goods","stand","piece","hand","names"] ["goods","stand"] (a3' cD'):=f__
def cg'(K:F__)(CG CW:Addr):Sp:=fun vs H Q _=>∃(g p d:Addr) (hs:Xa) (ts:Xb) (qs:List Pc) (fp:List Addr) (ns:List Str) (f:Str->Str),vs=[.ref g,.ref d]/\ba' K CG CW H g p hs ts qs fp/\d∉fp/\H d=some (.dK (stF ns f))/\StandOk hs qs ns f/\(qs.map (·.1)).Nodup/\qs.length<64 /\
 ∀d' H',Same H H'->H d'=none->H' d'=some (.dK (stF (qs.map (·.1)) f))->Q (.ref d') H'
theorem fM_{f CG CW:Addr}{fd:FuncData}(F:Fun K "checked_stand" "checked_stand" cD' f fd)(B:Bi mg)(T:TxtG K CG)(TW:Txt K mg CW)(cH:CalM P w K mg base CG 1 "has_piece" ["self","thing"] (cZ' K CG CW))(cW:CalM P w K mg base CW 1 "has_hand" ["self","thing"] (spHas K CW))(cN:CalM P w K mg base CG 1 "names" ["self"] (db' K CG CW)) :
  FnOk P w K mg base CX0 2 f fd ["goods","stand"] (cg' K CG CW):=by
 refine F.ok b0' (fun vs H Q E h=>?_) (fun cdv A outer s H vs Q E hr h=>?_)
 ·obtain⟨g,p,d,hs,ts,qs,fp,ns,f,rfl,_⟩:=h;rfl
 ·obtain⟨g,p,d,hs,ts,qs,fp,ns,f,rfl,G,dfp,hd,so,nd,h64,k⟩:=h;have hu:=b5_ hr;have sz:=sizeLine_eq;refine' ⟨_,?r0,?kk⟩
  case' r0=>refine' a2_ ?s1 ?r1
  case s1=>exact aB_ (aQ_ (aJ_ (ac_ aU_ (by rfl) B.isi PyProof.Rows.Boot.«isinstance» (a0_ (pv 1) (a0_ (b2_ (v:=.ty "dict") (by rfl) B.dict PyProof.Rows.Boot.«dict» rfl) a3_))))) ah_ ae_
  case' r1=>refine' a2_ ?s2 ?r2
  case' s2=>refine' cD_ (aK_ PassesOwn.never rfl ?i2 ?g2 ?b2)
  case i2=>exact de_ (cn_ (pv 1))
  case g2=>exact b8_ rfl (ad_ (a8_ (i:=2) b0'.nd rfl (Or.inl rfl)) (ad_ (a8_ (i:=3) b0'.nd rfl (Or.inl rfl)) aO_))
  case b2=>exact a2_ (aB_ (aQ_ (aJ_ (bs_ cH T.cl hr (pv 0) (a0_ (pv 2) a3_)))) ah_ ae_) (a5_ (aB_ (aQ_ (aJ_ (bs_ cW TW.cl hr (aF_ (pv 0) rfl) (a0_ (pv 3) a3_)))) ah_ ae_))
  case' r2=>refine' a2_ ?s3 ?r3
  case s3=>exact aa_ (i:=4) b0'.nd rfl (Or.inl rfl) (cZ_ cN T.cl hr (pv 0))
  case' r3=>refine' a2_ ?s4 (a5_ ?s5)
  case s4=>exact aB_ (an_ ej_ (ac_ g9_ (by rfl) B.len PySem.boot_len (a0_ (pv 1) a3_)) (ac_ ai_ (by rfl) B.len PySem.boot_len (a0_ (pv 4) a3_)) (nomark _)) ah_ ae_
  case s5=>exact ab_ (aw_ (aR_ rfl) (by rfl) B.dict PyProof.Rows.Boot.«dict» (a0_ (aN_ ["piece","stand"] 1 [1] (ak_ (pv 4)) (fun fp s H=>a8_ (i:=0) (show (["piece","stand"]:List Str).Nodup by decide +kernel) rfl (Or.inl rfl)) (fun fp s H=>aS_) (fun fp s H=>aL_ (a0_ (pv 0) (a0_ (ag_ hu (pv 1) (pv 0) (fun _ _=>rfl)) a3_)))) a3_))
  case' kk=>skip
  have lns:ns.length=qs.length:=by rw[so.perm.length_eq,aa']
  refine⟨_,rfl,_,_,_,_,rfl,.dK hd,rfl,_,rfl,iteF ?_⟩;refine⟨d,_,hd,?_⟩;refine⟨_,rfl,d,_,rfl,hd,fun v hv=>?_⟩;obtain⟨s1,hv1⟩:=nw__ (o:=bn' v d) hv;have G1:=G.same s1;have hd1:=s1 _ _ hd;generalize upd H v (bn' v d)=H1 at s1 hv1 G1 hd1 ⊢;refine⟨v,d,_,rfl,hv1,hd1,fun o=>?_⟩;refine cK_ (fun i σ H'=>∃(v2 v3:Option V),σ=[some (.ref g),some (.ref d),v2,v3,none]/\Fz d o (stF ns f) H1 H') ⟨none,none,rfl,Fz.start⟩ (fun i σ H' _ ⟨_,_,_,z⟩=>z.at_) ?_ ?_
  ·rintro i ky x σ H2 hx ⟨v2,v3,rfl,fz⟩ t ht;obtain⟨n,hn,rfl,rfl⟩:=d6_ hx;have nm:=ae' hn;have s2:=Same.new (o:=.tup [.str n,.str (f n)]) ht;have fz2:=fz.step s2;have e2:upd H2 t (.tup [.str n,.str (f n)]) t=some (.tup [.str n,.str (f n)]):=a1_;show gTup _ _ _ _ _ (upd H2 t (.tup [.str n,.str (f n)])) _;generalize upd H2 t (.tup [.str n,.str (f n)])=H3 at s2 fz2 e2 ⊢;refine⟨t,_,rfl,.of e2,rfl,_,_,rfl,_,_,rfl,rfl,?_⟩;have G3:=fz2.goods hd1 G1 dfp;obtain⟨dx,dw,dy,vs,fpw,h1,h2,h3,h4,h5,m1,m2,m3,m4,m5⟩:=id G3.ex;obtain⟨dxw,d1,l2,d3,zs0,as,ef,w1,_⟩:=id h2.ex;have hno:(gflds p dw dy).lookup ("has_piece":Str)=none:=be_ _ _ _ (by decide +kernel) (by decide +kernel) (by decide +kernel);have hnw:(flds d1 l2 d3).lookup ("has_hand":Str)=none:=b0_ _ _ _ (by decide +kernel) (by decide +kernel) (by decide +kernel);refine⟨_,rfl,g,dx,_,rfl,h1,hno,_,rfl,g,p,.str n,some n,hs,ts,qs,fp,rfl,G3,rfl,_,rfl,?_⟩;rw[show inB (qs.map (·.1)) (some n)=true from decide_eq_true (so.perm.mem_iff.mp nm)];refine iteF ?_;refine⟨_,rfl,g,CG,dx,_,_,rfl,h1,T.cl,T.nW,bf_ _ _ _,p,dxw,_,rfl,w1,hnw,_,rfl,p,f n,hs,ts,fpw,rfl,h2,_,rfl,?_⟩;rw[decide_eq_true (so.at_ n nm)];exact iteF ⟨_,_,rfl,fz2⟩
  rintro σ H2 ⟨v2,v3,rfl,fz⟩;refine⟨o,fz.at_,?_⟩;have s2:=s1.trans (fz.thaw hd1);have hd2:upd H2 d (.dK (stF ns f)) d=some (.dK (stF ns f)):=a1_;generalize upd H2 d (.dK (stF ns f))=H3 at s2 hd2 ⊢;have G3:=G.same s2;obtain⟨dx,dw,dy,vs,fpw,h1,h2,h3,h4,h5,m1,m2,m3,m4,m5⟩:=id G3.ex;refine⟨_,rfl,g,dx,_,rfl,h1,be_ _ _ _ (by decide +kernel) (by decide +kernel) (by decide +kernel),g,p,hs,ts,qs,fp,rfl,G3,fun ln hln=>?_⟩;obtain⟨s3,e3⟩:=nw__ (o:=.lst ((qs.map (·.1)).map V.str)) hln;have hd3:=s3 _ _ hd2;generalize upd H3 ln (.lst ((qs.map (·.1)).map V.str))=H4 at s3 e3 hd3 ⊢;refine⟨_,rfl,d,_,rfl,hd3,_,rfl,ln,_,rfl,.inl (.of e3),rfl,_,rfl,?_⟩;rw[aE_,aa',aa',lns];simp only[bne_self_eq_false,decide_true,Bool.not_true];refine iteF ?_;have s04:=s2.trans s3;refine⟨_,rfl,ln,rfl,⟨_,.of e3⟩,fun D hD=>?_⟩;refine aI_ (own:=1) (fv:=[some (.ref d)]) (xs:=(qs.map (·.1)).map V.str) rfl gok1 (fun i out H'=>Same H4 H'/\H' D=some (.lst out)/\be' K H' out (stF ((qs.map (·.1)).take i) f)) ⟨Same.new hD,a1_,.nil⟩ (fun i out H' _ ⟨sm,_,_⟩=>.of (sm _ _ e3)) (fun out H5 ⟨sm,hD5,pa⟩=>?_) (fun i y out H' hy ⟨sm,hD',pa⟩=>?_)
  ·rw[aa',am'] at pa;refine⟨D,out,_,rfl,hD5,pa,by rw[aE_,aa'];omega,fun d' hd'=>?_⟩
   have ndk:((stF (qs.map (·.1)) f).map (·.1)).Nodup:=by
    rw[bZ_,ay',aH'];exact nd.imp fun n e=>n (Sum.inr.inj e)
   rw[aX_ ndk];exact k d' _ ((s04.trans sm).trans (Same.new hd')) (s04.free (sm.free hd')) a1_
  ·obtain⟨n,hn,rfl⟩:=aq_ hy;have hi:i<(qs.map (·.1)).length:=(ab'.mp hn).1;rw[aa'] at hi;have nm:n∈ns:=so.perm.mem_iff.mpr (ae' hn);refine⟨_,rfl,rfl,fun Nx hN=>yesT ?_⟩;refine⟨_,rfl,_,rfl,_,rfl,d,.str (f n),rfl,?_,by show 2<=sizeLine;decide,fun t ht=>?_⟩
   ·rw[<- do_ (g:=fun n=>V.str (f n)) nm];exact .k (k:=Sum.inr n) (sm _ _ hd3)
   have s5:=Same.new (o:=.tup [.str n,.str (f n)]) ht;have lo:=Paired.length pa;rw[aE_,ak',aa'] at lo;refine⟨out,s5 _ _ hD',by omega,hN _ _ ⟨ao_ (sm.trans s5) hD,a1_,?_⟩⟩;have ht5:upd H' t (.tup [.str n,.str (f n)]) t=some (.tup [.str n,.str (f n)]):=a1_;have pD:∀{b:Addr} {ys:List V},upd H' t (.tup [.str n,.str (f n)]) b=some (.tup ys)->b≠D:=fun hb=>ax_ hb (s5 _ _ hD') nofun;rw[av_ hn];show be' K _ _ (((qs.map (·.1)).take i++[n]).map _);rw[an'];exact aD_ (Paired.mapP pa fun y kv ⟨b,z,hb⟩=>⟨b,z,by rw[a4_ (pD (s5 _ _ hb))];exact s5 _ _ hb⟩) (.cons ⟨t,rfl,by rw[a4_ (pD ht5)];exact ht5⟩ .nil)
end
end Ev
namespace Ev
open PySem L2
section
variable{d d2:Addr}{o:Obj}{kvs:List (Key × V)}{H H' H1:Hp}{u:HO}
theorem Fz.start'(s:Same H H1):Fz d o kvs H (upd H1 d (.frz o (.dK kvs))):=⟨a1_,fun b u ne e=>by rw[a4_ ne];exact s _ _ e⟩
theorem Fz.put(f:Fz d o kvs H H')(hn:H d2=none)(ne:d2≠d):Fz d o kvs H (upd H' d2 u):=⟨by rw[a4_ ne.symm];exact f.at_,fun b u nb e=>by rw[a4_ (a6_ e hn)];exact f.sm b u nb e⟩
end
section
variable{P:Program}{w:World}{K:F__}{mg:Str->Option Value}{base:Heap}
theorem bN':a4' ["goods","placed","hand","found","piece"] ["goods","placed"] (a3' ci'):=f__
structure bW' (K:F__) (CG CW:Addr) (H:Hp) (g p d:Addr) (hs:Xa) (ts:Xb) (qs:List Pc) (fp:List Addr) (f:Str->Str):Prop where
 G:ba' K CG CW H g p hs ts qs fp
 Gd:Good hs ts
 dfp:d∉fp
 hd:H d=some (.dK (stF (qs.map (·.1)) f))
 at_:∀n∈qs.map (·.1),f n∈hs.map (·.1)
 nd:(qs.map (·.1)).Nodup
 h64:qs.length<64
abbrev ldV(hs:Xa)(qs:List Pc)(f:Str->Str):List (Key × V):=mKV (a6' hs) fun h=>.int (ld f (qs.map wOf) h)
def b7'(K:F__)(CG CW:Addr):Sp:=fun vs H Q _=>∃(g p d:Addr) (hs:Xa) (ts:Xb) (qs:List Pc) (fp:List Addr) (f:Str->Str),vs=[.ref g,.ref d]/\bW' K CG CW H g p d hs ts qs fp f /\
 ∀d' H',Same H H'->H d'=none->H' d'=some (.dK (ldV hs qs f))->Q (.ref d') H'
theorem f9_{f CG CW CP:Addr}{fd:FuncData}(F:Fun K "loads_at" "loads_at" ci' f fd)(B:Bi mg)(T:TxtG K CG)(TW:Txt K mg CW)(cH:CalM P w K mg base CW 1 "hands" ["self"] (cq' K CW))(cW:CalX P w K mg base CG 2 "weight" ["self","piece"] (bC' K CG CW CP)) :
  FnOk P w K mg base CX0 3 f fd ["goods","placed"] (b7' K CG CW):=by
 refine F.ok bN' (fun vs H Q E h=>?_) (fun cdv A outer s H vs Q E hr h=>?_)
 ·obtain⟨g,p,d,hs,ts,qs,fp,f,rfl,_⟩:=h;rfl
 ·obtain⟨g,p,d,hs,ts,qs,fp,f,rfl,Pl,k⟩:=h;have hu:=b5_ hr;have sz:=sizeLine_eq;have hr1:Room 1 _:=hr.mono (by decide);refine' ⟨_,?r0,?kk⟩
  case' r0=>refine' a2_ ?s1 ?r1
  case s1=>exact aa_ (i:=3) bN'.nd rfl (Or.inl rfl) (aw_ (aR_ rfl) (by rfl) B.dict PyProof.Rows.Boot.«dict» (a0_ (aN_ ["hand"] 1 [] (ak_ (cZ_ cH TW.cl hr1 (aF_ (pv 0) rfl))) (fun fp s H=>a8_ (i:=0) (show (["hand"]:List Str).Nodup by decide +kernel) rfl (Or.inl rfl)) (fun fp s H=>aS_) (fun fp s H=>aL_ (a0_ (pv 0) (a0_ a7_ a3_)))) a3_))
  case' r1=>refine' a2_ ?s2 ?r2
  case' s2=>refine' cD_ (aK_ PassesOwn.never rfl ?i2 ?g2 (a5_ ?b2))
  case i2=>exact de_ (cn_ (pv 1))
  case g2=>exact b8_ rfl (ad_ (a8_ (i:=4) bN'.nd rfl (Or.inl rfl)) (ad_ (a8_ (i:=2) bN'.nd rfl (Or.inl rfl)) aO_))
  case b2=>exact bc_ hu (pv 3) (pv 2) (aj_ b1_ (ag_ hu (pv 3) (pv 2) (fun _ _=>rfl)) (i5_ cW T.cl hr (pv 0) (a0_ (pv 4) a3_))) rfl
  case r2=>exact a5_ (ab_ (pv 3))
  case' kk=>skip
  have nl:=Pl.Gd.nlen;have h8:=Pl.Gd.h8;obtain⟨dx,dw,dy,vs,fpw,h1,h2,h3,h4,h5,m1,m2,m3,m4,m5⟩:=id Pl.G.ex;obtain⟨dxw,d1,l2,d3,zs0,as,ef,w1,_⟩:=id h2.ex;have hnw:(flds d1 l2 d3).lookup ("hands":Str)=none:=b0_ _ _ _ (by decide +kernel) (by decide +kernel) (by decide +kernel);refine⟨_,rfl,g,CG,dx,_,_,rfl,h1,T.cl,T.nW,bf_ _ _ _,p,dxw,_,rfl,w1,hnw,p,hs,ts,fpw,rfl,h2,fun lh hlh=>?_⟩;obtain⟨s1,e1⟩:=nw__ (o:=.lst ((a6' hs).map V.str)) hlh;generalize upd H lh (.lst ((a6' hs).map V.str))=H1 at s1 e1 ⊢;refine⟨lh,rfl,⟨_,.of e1⟩,fun D hD=>?_⟩;refine aI_ (own:=1) (fv:=[]) (xs:=(a6' hs).map V.str) rfl gok1 (fun i out H'=>Same H1 H'/\H' D=some (.lst out)/\be' K H' out (mKV ((a6' hs).take i) fun _=>.int 0)) ⟨Same.new hD,a1_,.nil⟩ (fun i out H' _ ⟨sm,_,_⟩=>.of (sm _ _ e1)) (fun out H5 ⟨sm,hD5,pa⟩=>?_) (fun i y out H' hy ⟨sm,hD',pa⟩=>?_);rotate_left 1
  ·obtain⟨n,hn,rfl⟩:=aq_ hy;have hi:i<(a6' hs).length:=(ab'.mp hn).1;refine⟨_,rfl,rfl,fun Nx hN=>yesT ?_⟩;refine⟨_,rfl,by show 2<=sizeLine;decide,fun t ht=>?_⟩;have s5:=Same.new (o:=.tup [.str n,.int 0]) ht;have lo:=Paired.length pa;rw[aE_,ak'] at lo;refine⟨out,s5 _ _ hD',by omega,hN _ _ ⟨ao_ (sm.trans s5) hD,a1_,?_⟩⟩;have ht5:upd H' t (.tup [.str n,.int 0]) t=some (.tup [.str n,.int 0]):=a1_;have pD:∀{b:Addr} {ys:List V},upd H' t (.tup [.str n,.int 0]) b=some (.tup ys)->b≠D:=fun hb=>ax_ hb (s5 _ _ hD') nofun;rw[av_ hn];show be' K _ _ (((a6' hs).take i++[n]).map _);rw[an'];exact aD_ (Paired.mapP pa fun y kv ⟨b,z,hb⟩=>⟨b,z,by rw[a4_ (pD (s5 _ _ hb))];exact s5 _ _ hb⟩) (.cons ⟨t,rfl,by rw[a4_ (pD ht5)];exact ht5⟩ .nil)
  rw[aa',am'] at pa;refine⟨D,out,_,rfl,hD5,pa,by rw[aE_];omega,fun d2 hd2=>?_⟩
  have ndk:((mKV (a6' hs) fun _=>V.int 0).map (·.1)).Nodup:=by
   rw[bZ_,ay',aH'];exact Pl.Gd.nnd.imp fun n e=>n (Sum.inr.inj e)
  rw[aX_ ndk];have s2:=(s1.trans sm).trans (Same.new (o:=.dK (mKV (a6' hs) fun _=>V.int 0)) hd2);have e2:upd H5 d2 (.dK (mKV (a6' hs) fun _=>V.int 0)) d2=some (.dK (mKV (a6' hs) fun _=>V.int 0)):=a1_;have n2:H d2=none:=s1.free (sm.free hd2);show tSeq _ _ _ _ (upd H5 d2 (.dK (mKV (a6' hs) fun _=>V.int 0)));generalize upd H5 d2 (.dK (mKV (a6' hs) fun _=>V.int 0))=H6 at s2 e2 ⊢;have d2d:d2≠d:=(a6_ Pl.hd n2).symm;refine⟨d,_,s2 _ _ Pl.hd,?_⟩;refine⟨_,rfl,d,_,rfl,s2 _ _ Pl.hd,fun v hv=>?_⟩;obtain⟨s3,hv1⟩:=nw__ (o:=bn' v d) hv;have e3:=s3 _ _ e2;have s03:=s2.trans s3;generalize upd H6 v (bn' v d)=H7 at s3 hv1 e3 s03 ⊢;refine⟨v,d,_,rfl,hv1,s03 _ _ Pl.hd,fun o=>?_⟩;refine cK_ (fun i σ H'=>∃(v2 v4:Option V),σ=[some (.ref g),some (.ref d),v2,some (.ref d2),v4]/\Fz d o (stF (qs.map (·.1)) f) H H'/\H' d2=some (.dK (mKV (a6' hs) fun h=>.int (ld f ((qs.take i).map wOf) h)))) ⟨none,none,rfl,Fz.start' s03,by rw[a4_ d2d];exact e3⟩ (fun i σ H' _ ⟨_,_,_,z,_⟩=>z.at_) ?_ ?_
  ·rintro i ky x σ H8 hx ⟨v2,v4,rfl,fz,e8⟩ t ht;obtain⟨n,hn,rfl,rfl⟩:=d6_ hx
   have hi:i<qs.length:=by
    have:=(ab'.mp hn).1;rwa [aa'] at this
   have hq:qs[i]? = some (qs[i]'hi):=ac' hi
   have en:n=(qs[i]'hi).1:=by
    rw[al',hq] at hn;exact (Option.some.inj hn).symm
   have fm:f n∈a6' hs:=(au_ hs).mem_iff.mpr (Pl.at_ n (ae' hn));generalize qs[i]'hi=q at hq en;have s8:=Same.new (o:=.tup [.str n,.str (f n)]) ht;have fz2:=fz.step s8;have e9:=s8 _ _ e8;have et:upd H8 t (.tup [.str n,.str (f n)]) t=some (.tup [.str n,.str (f n)]):=a1_;show gTup _ _ _ _ _ (upd H8 t (.tup [.str n,.str (f n)])) _;generalize upd H8 t (.tup [.str n,.str (f n)])=H9 at s8 fz2 e9 et ⊢;refine⟨t,_,rfl,.of et,rfl,_,_,rfl,_,_,rfl,rfl,?_⟩;have G9:=fz2.goods Pl.hd Pl.G Pl.dfp;obtain⟨dx,dw,dy,vs,fpw,h1,h2,h3,h4,h5,m1,m2,m3,m4,m5⟩:=id G9.ex;have hno:(gflds p dw dy).lookup ("weight":Str)=none:=be_ _ _ _ (by decide +kernel) (by decide +kernel) (by decide +kernel);refine⟨_,rfl,_,rfl,d2,.int (ld f ((qs.take i).map wOf) (f n)),rfl,?_,_,rfl,g,dx,_,rfl,h1,hno,_,rfl,g,p,.str n,some n,hs,ts,qs,fp,rfl,G9,Pl.nd,rfl,.inl ⟨q,ae' hq,congrArg some en,?_⟩⟩
   ·rw[<- do_ (g:=fun h=>V.int (ld f ((qs.take i).map wOf) h)) fm];exact .k (k:=Sum.inr (f n)) e9
   refine⟨_,_,rfl,rfl,_,rfl,_,rfl,d2,_,rfl,.k (k:=Sum.inr (f n)) e9 (by rw[aE_];omega),?_⟩;refine⟨_,_,rfl,fz2.put n2 d2d,?_⟩;rw[a1_,ga_ fm];congr 2;refine bv_ fun m _=>?_
   have e5:(qs.take (i+1)).map wOf=(qs.take i).map wOf++[wOf q]:=by
    rw[aw',hq,an'];rfl
   rw[e5,fZ_];show (if m=f n then V.int (ld f ((qs.take i).map wOf) (f n)+q.2.1) else V.int (ld f ((qs.take i).map wOf) m))=V.int (if m=f q.1 then _ else _);rw[<- en];by_cases z:m=f n
   ·rw[if_pos z,if_pos z,z];rfl
   ·rw[if_neg z,if_neg z]
  rintro σ H8 ⟨v2,v4,rfl,fz,e8⟩;refine⟨o,fz.at_,?_⟩;rw[aE_,aa',am'] at e8;exact⟨_,rfl,k d2 _ (fz.thaw Pl.hd) n2 (by rw[a4_ d2d];exact e8)⟩
end
end Ev
namespace L2
open PySem PySem.Spec PyProof.Rows PySem.W
section
variable{X:Cx}
end
end L2
namespace Ev
open PySem L2
def lcmI(a n:Int):Int:=a / (Int.gcd a n:Int) * n
theorem jC_{a n:Int}(ha:0<a)(hn:0<n):lcmI a n=(Int.lcm a n:Int):=by
 obtain⟨p,rfl⟩:=aG' (Int.le_of_lt ha);obtain⟨q,rfl⟩:=aG' (Int.le_of_lt hn);show ((p:Int) / ((Nat.gcd p q:Nat):Int)) * (q:Int)=((Nat.lcm p q:Nat):Int);rw[<- Int.natCast_ediv,<- Int.natCast_mul,Nat.div_mul_right_comm (Nat.gcd_dvd_left p q)];rfl
def lcmL(ns:List Int):Int:=ns.foldl lcmI 1
theorem eS_:∀(ns:List Int) (a:Int),0<a->(∀n∈ns,0<n)->0<ns.foldl lcmI a/\∀x:Int,0<=x->(ns.foldl lcmI a ∣ x ↔ a ∣ x/\∀n∈ns,n ∣ x)
 |[],a,ha,_=>⟨ha,fun x _=>by simp⟩
 |n::ns,a,ha,h=>by
  have hn:=h n aj';have e:=jC_ ha hn
  have p:0<lcmI a n:=by
   rw[e];have:=Nat.lcm_pos (m:=a.natAbs) (n:=n.natAbs) (by omega) (by omega);have:0<Int.lcm a n:=this;omega
  obtain⟨h1,h2⟩:=eS_ ns (lcmI a n) p fun m hm=>h m (ag' _ hm);refine⟨h1,fun x hx=>(h2 x hx).trans ?_⟩;obtain⟨z,rfl⟩:=aG' hx;rw[e,Int.natCast_dvd_natCast,Int.lcm_dvd_iff];constructor
  ·rintro⟨⟨q1,q2⟩,q3⟩
   exact⟨q1,fun m hm=>by
    rcases ah'.mp hm with rfl|hm
    ·exact q2
    ·exact q3 m hm⟩
  ·rintro⟨q1,q2⟩;exact⟨⟨q1,q2 n aj'⟩,fun m hm=>q2 m (ag' _ hm)⟩
theorem i2_{ns:List Int}(h:∀n∈ns,0<n):0<lcmL ns:=(eS_ ns 1 (by decide) h).1
theorem j9_(f:Str->Str)(x:Str × Int)(ws:Xa)(h:Str):ld f (x::ws) h=(if f x.1=h then x.2 else 0)+ld f ws h:=by
 unfold ld;by_cases e:f x.1=h
 ·simp[e]
 ·simp[e]
end Ev
namespace Ev
open PySem L2
theorem k8_{f:Str->Str}{h:Str}:∀{ws:Xa},(∀x∈ws,0<=x.2/\x.2<=1000000000)->ld f ws h<=1000000000 * ws.length
 |[],_=>by
  unfold ld;simp
 |x::ws,p=>by
  have h1:=p x aj';have h2:=k8_ (f:=f) (h:=h) (ws:=ws) fun y hy=>p y (ag' _ hy);rw[j9_,aC'];by_cases z:f x.1=h
  ·rw[if_pos z];omega
  ·rw[if_neg z];omega
def mulOf(hs:Xa):Int:=lcmL ((a6' hs).map (strOf hs))
theorem str_ok{hs:Xa}{ts:Xb}(G:Good hs ts){n:Str}(h:n∈a6' hs):1<=strOf hs n/\strOf hs n<=1000:=(G.hok _ (b3_ ((au_ hs).mem_iff.mp h))).2
section
variable{P:Program}{w:World}{K:F__}{mg:Str->Option Value}{base:Heap}
theorem scLM:a4' ["numbers","found","number"] ["numbers"] (a3' sLM):=f__
def spLM(K:F__):Sp:=fun vs H Q _=>∃(l:Addr) (ns:List Int),vs=[.ref l]/\SqL K H l (ns.map V.int)/\(∀n∈ns,1<=n/\n<=1000)/\Q (.int (lcmL ns)) H
theorem hC_{ns:List Int}{i:Nat}{n:Int}(h:ns[i]? = some n):lcmL (ns.take (i+1))=lcmI (lcmL (ns.take i)) n:=by
 unfold lcmL;rw[aw',h,List.foldl_append];rfl
theorem ea_{ns:List Int}{i:Nat}{y:V}(h:(ns.map V.int)[i]? = some y):∃n,ns[i]? = some n/\y=.int n:=by
 rw[al'] at h;cases e:ns[i]? with
 |none=>rw[e] at h;cases h
 |some n=>rw[e] at h;exact⟨n,rfl,(Option.some.inj h).symm⟩
theorem kx_{f:Addr}{fd:FuncData}(F:Fun K "least_multiple" "least_multiple" sLM f fd)(cG:Cal P w K mg base 1 "greatest_divisor" ["one","other"] spGd):FnOk P w K mg base CX0 2 f fd ["numbers"] (spLM K):=by
 refine F.ok scLM (fun vs H Q E h=>?_) (fun cdv A outer s H vs Q E hr h=>?_)
 ·obtain⟨l,ns,rfl,_⟩:=h;rfl
 ·obtain⟨l,ns,rfl,hl,b,k⟩:=h;refine' ⟨_,a2_ ?s1 (a2_ ?s2 (a5_ ?s3)),?kk⟩
  case s1=>exact aa_ (i:=1) scLM.nd rfl (Or.inl rfl) a7_
  case s2=>exact aK_ PassesOwn.never rfl (ak_ (pv 0)) (a8_ (i:=2) scLM.nd rfl (Or.inl rfl)) (a5_ (aa_ (i:=1) scLM.nd rfl (Or.inl rfl) (aj_ b6_ (aj_ bt_ (pv 1) (af_ cG hr (a0_ (pv 1) (a0_ (pv 2) a3_)))) (pv 2))))
  case s3=>exact ab_ (pv 1)
  case' kk=>skip
  refine⟨_,rfl,l,rfl,⟨_,hl⟩,as_ (K:=K) (a:=l) (xs:=ns.map V.int) (fun i σ H'=>H'=H/\∃(v2:Option V),σ=[some (.ref l),some (.int (lcmL (ns.take i))),v2]) ⟨rfl,none,rfl⟩ (fun i σ H' _ ⟨e,_⟩=>by rw[e];exact hl) ?_ ?_⟩
  ·rintro i y σ H' hy ⟨rfl,v2,rfl⟩;obtain⟨n,hn,rfl⟩:=ea_ hy;have bn:=b n (ae' hn)
   have p:=i2_ (ns:=ns.take i) fun m hm=>by
    have:=b m (List.take_subset _ _ hm);omega
   refine⟨_,rfl,_,rfl,_,rfl,_,_,rfl,Int.le_of_lt p,by omega,_,_,rfl,rfl,kp_ (by omega) (Int.le_trans bn.2 (by decide)),_,rfl,_,_,rfl,rfl,.inr ⟨by omega,by omega⟩,rfl,some (.int n),?_⟩;rw[hC_ hn];rfl
  ·rintro σ H' ⟨rfl,v2,rfl⟩;refine⟨_,rfl,?_⟩;rw[aa',am'];exact k
theorem scMult:a4' ["web"] ["web"] (a3' sMult):=f__
def spMult(K:F__)(C:Addr):Sp:=fun vs H Q _=>∃(p:Addr) (hs:Xa) (ts:Xb) (fp:List Addr),vs=[.ref p]/\bl' K C H p hs ts fp/\Good hs ts/\∀H',Same H H'->Q (.int (mulOf hs)) H'
theorem it_{f CW:Addr}{fd:FuncData}(F:Fun K "multiple_of_strengths" "multiple_of_strengths" sMult f fd)(TW:Txt K mg CW)(cL:Cal P w K mg base 2 "least_multiple" ["numbers"] (spLM K))(cH:CalM P w K mg base CW 1 "hands" ["self"] (cq' K CW))(cS:CalM P w K mg base CW 2 "strength" ["self","hand"] (bv' K CW)):FnOk P w K mg base CX0 3 f fd ["web"] (spMult K CW):=by
 refine F.ok scMult (fun vs H Q E h=>?_) (fun cdv A outer s H vs Q E hr h=>?_)
 ·obtain⟨p,hs,ts,fp,rfl,_⟩:=h;rfl
 ·obtain⟨p,hs,ts,fp,rfl,W,G,k⟩:=h;have sz:=sizeLine_eq;have nl:=G.nlen;have h8:=G.h8;refine' ⟨_,a5_ (ab_ (af_ cL hr (a0_ (aN_ ["hand","web"] 1 [0] (ak_ (cZ_ cH TW.cl (hr.mono (by decide)) (pv 0))) (fun fp s H=>a8_ (i:=0) (show (["hand","web"]:List Str).Nodup by decide +kernel) rfl (Or.inl rfl)) (fun fp s H=>aS_) (fun fp s H=>?e1)) a3_))),?kk⟩
  case e1=>exact bs_ cS TW.cl hr (pv 1) (a0_ (pv 0) a3_)
  case' kk=>skip
  obtain⟨dxw,d1,l2,d3,zs0,as,ef,w1,_⟩:=id W.ex;refine⟨_,rfl,p,dxw,_,rfl,w1,b0_ _ _ _ (by decide +kernel) (by decide +kernel) (by decide +kernel),p,hs,ts,fp,rfl,W,fun lh hlh=>?_⟩;obtain⟨s1,e1⟩:=nw__ (o:=.lst ((a6' hs).map V.str)) hlh;generalize upd H lh (.lst ((a6' hs).map V.str))=H1 at s1 e1 ⊢;refine⟨lh,rfl,⟨_,.of e1⟩,fun D hD=>?_⟩;refine aI_ (own:=1) (fv:=[some (.ref p)]) (xs:=(a6' hs).map V.str) rfl gok1 (fun i out H'=>Same H1 H'/\H' D=some (.lst out)/\out=(((a6' hs).take i).map (strOf hs)).map V.int) ⟨Same.new hD,a1_,rfl⟩ (fun i out H' _ ⟨sm,_,_⟩=>.of (sm _ _ e1)) (fun out H5 ⟨sm,hD5,eo⟩=>?_) (fun i y out H' hy ⟨sm,hD',eo⟩=>?_)
  ·rw[aa',am'] at eo;rw[eo] at hD5;refine⟨D,_,rfl,.of hD5,fun n hn=>?_,k H5 (s1.trans sm)⟩;obtain⟨m,hm,rfl⟩:=ad'.mp hn;exact str_ok G hm
  ·obtain⟨n,hn,rfl⟩:=aq_ hy;have hi:i<(a6' hs).length:=(ab'.mp hn).1;refine⟨_,rfl,rfl,fun Nx hN=>yesT ?_⟩;have W':=(W.same s1).same sm;obtain⟨dxw,d1,l2,d3,zs0,as,ef,w1,_⟩:=id W'.ex;refine⟨_,rfl,p,dxw,_,rfl,w1,b0_ _ _ _ (by decide +kernel) (by decide +kernel) (by decide +kernel),_,rfl,p,n,strOf hs n,hs,ts,fp,rfl,W',G.hnd,b3_ ((au_ hs).mem_iff.mp (ae' hn)),?_⟩;refine⟨out,hD',by rw[eo,aa',aa',ak'];omega,hN _ _ ⟨ao_ sm hD,a1_,?_⟩⟩;rw[av_ hn,an',an',eo];rfl
theorem bQ':a4' ["goods","placed","multiple","found","hand","load"] ["goods","placed"] (a3' cR'):=f__
def lvF(hs:Xa)(qs:List Pc)(f:Str->Str)(h:Str):Int:=ld f (qs.map wOf) h * (mulOf hs / strOf hs h)
def c4'(K:F__)(CG CW:Addr):Sp:=fun vs H Q _=>∃(g p d:Addr) (hs:Xa) (ts:Xb) (qs:List Pc) (fp:List Addr) (f:Str->Str),vs=[.ref g,.ref d]/\bW' K CG CW H g p d hs ts qs fp f/\(∀q∈qs,0<=q.2.1/\q.2.1<=1000000000) /\
 ∀d' H',Same H H'->H d'=none->H' d'=some (.dK (mKV (a6' hs) fun h=>.int (lvF hs qs f h)))->Q (.ref d') H'
theorem h4_{qs:List Pc}(wp:∀q∈qs,0<=q.2.1/\q.2.1<=1000000000)(h64:qs.length<64)(f:Str->Str)(h:Str):0<=ld f (qs.map wOf) h/\ld f (qs.map wOf) h<=64000000000:=by
 have p:∀x∈qs.map wOf,0<=x.2/\x.2<=1000000000:=fun x hx=>by
  obtain⟨q,hq,rfl⟩:=ad'.mp hx;exact wp q hq
 have h1:=k8_ (f:=f) (h:=h) p;rw[aa'] at h1;exact⟨jU_ fun x hx=>(p x hx).1,by omega⟩
theorem fN_{f CG CW:Addr}{fd:FuncData}(F:Fun K "levels_at" "levels_at" cR' f fd)(T:TxtG K CG)(TW:Txt K mg CW)(cL:Cal P w K mg base 3 "loads_at" ["goods","placed"] (b7' K CG CW))(cM:Cal P w K mg base 3 "multiple_of_strengths" ["web"] (spMult K CW))(cS:CalM P w K mg base CW 2 "strength" ["self","hand"] (bv' K CW)) :
  FnOk P w K mg base CX0 4 f fd ["goods","placed"] (c4' K CG CW):=by
 refine F.ok bQ' (fun vs H Q E h=>?_) (fun cdv A outer s H vs Q E hr h=>?_)
 ·obtain⟨g,p,d,hs,ts,qs,fp,f,rfl,_⟩:=h;rfl
 ·obtain⟨g,p,d,hs,ts,qs,fp,f,rfl,Pl,wp,k⟩:=h;have hu:=b5_ hr;have sz:=sizeLine_eq;have hr2:Room 2 _:=hr.mono (by decide);refine' ⟨_,?r0,?kk⟩
  case' r0=>refine' a2_ ?s0 (a2_ ?s1 (a2_ ?s2 ?r2))
  case s0=>exact aa_ (i:=2) bQ'.nd rfl (Or.inl rfl) (af_ cM hr (a0_ (aF_ (pv 0) rfl) a3_))
  case s1=>exact aa_ (i:=3) bQ'.nd rfl (Or.inl rfl) bk_
  case' s2=>refine' aK_ PassesOwn.never rfl ?i2 ?g2 (a5_ ?b2)
  case i2=>exact de_ (cn_ (af_ cL hr (a0_ (pv 0) (a0_ (pv 1) a3_))))
  case g2=>exact b8_ rfl (ad_ (a8_ (i:=4) bQ'.nd rfl (Or.inl rfl)) (ad_ (a8_ (i:=5) bQ'.nd rfl (Or.inl rfl)) aO_))
  case b2=>exact bc_ hu (pv 3) (pv 4) (aj_ b6_ (pv 5) (aj_ bt_ (pv 2) (bs_ cS TW.cl hr2 (aF_ (pv 0) rfl) (a0_ (pv 4) a3_)))) rfl
  case r2=>exact a5_ (ab_ (pv 3))
  case' kk=>skip
  have nl:=Pl.Gd.nlen;have h8:=Pl.Gd.h8;obtain⟨dx,dw,dy,vs,fpw,h1,h2,_⟩:=id Pl.G.ex;refine⟨_,rfl,g,CG,dx,_,_,rfl,h1,T.cl,T.nW,bf_ _ _ _,p,hs,ts,fpw,rfl,h2,Pl.Gd,fun H0 s0=>?_⟩;intro d2 hd2;have s1:=s0.trans (Same.new (o:=.dK []) hd2);have e1:upd H0 d2 (.dK []) d2=some (.dK []):=a1_;have n2:H d2=none:=s0.free hd2;show tSeq _ _ _ _ (upd H0 d2 (.dK []));generalize upd H0 d2 (.dK [])=H1 at s1 e1 ⊢;have Pl1:bW' K CG CW H1 g p d hs ts qs fp f:=⟨Pl.G.same s1,Pl.Gd,Pl.dfp,s1 _ _ Pl.hd,Pl.at_,Pl.nd,Pl.h64⟩;refine⟨_,rfl,_,rfl,g,p,d,hs,ts,qs,fp,f,rfl,Pl1,fun dl H2 s2 hdl e2=>?_⟩;refine⟨dl,_,rfl,e2,fun v hv=>?_⟩;obtain⟨s3,hv1⟩:=nw__ (o:=bn' v dl) hv;have e3:=s3 _ _ e2;have s13:=s2.trans s3;generalize upd H2 v (bn' v dl)=H3 at s3 hv1 e3 s13 ⊢;have ndl:H dl=none:=s1.free hdl;have d2l:d2≠dl:=a6_ e1 hdl;refine⟨v,dl,_,rfl,hv1,e3,fun o=>?_⟩;refine cK_ (fun i σ H'=>∃(v4 v5:Option V),σ=[some (.ref g),some (.ref d),some (.int (mulOf hs)),some (.ref d2),v4,v5]/\Same H H'/\H' dl=some (.frz o (.dK (ldV hs qs f)))/\H' d2=some (.dK (mKV ((a6' hs).take i) fun h=>.int (lvF hs qs f h)))) ⟨none,none,rfl,ao_ (s1.trans s13) ndl,a1_,by rw[a4_ d2l];exact s13 _ _ e1⟩ (fun i σ H' _ ⟨_,_,_,_,z,_⟩=>z) ?_ ?_
  ·rintro i ky x σ H8 hx ⟨v4,v5,rfl,s8,f8,e8⟩ t ht;obtain⟨n,hn,rfl,rfl⟩:=d6_ hx;have hi:i<(a6' hs).length:=(ab'.mp hn).1;have nm:n∈hs.map (·.1):=(au_ hs).mem_iff.mp (ae' hn);have sm:=b3_ nm;have sg:=str_ok Pl.Gd (ae' hn);have lo:=h4_ wp Pl.h64 f n;have ss:=Same.new (o:=.tup [.str n,.int (ld f (qs.map wOf) n)]) ht;have s9:=s8.trans ss;have e9:=ss _ _ e8;have f9:=ss _ _ f8;have et:upd H8 t (.tup [.str n,.int (ld f (qs.map wOf) n)]) t=some (.tup [.str n,.int (ld f (qs.map wOf) n)]):=a1_;show gTup _ _ _ _ _ (upd H8 t (.tup [.str n,.int (ld f (qs.map wOf) n)])) _;generalize upd H8 t (.tup [.str n,.int (ld f (qs.map wOf) n)])=H9 at ss s9 e9 f9 et ⊢;refine⟨t,_,rfl,.of et,rfl,_,_,rfl,_,_,rfl,rfl,?_⟩;have G9:=Pl.G.same s9;obtain⟨dx,dw,dy,vs,fpw,h1,h2,h3,h4,h5,m1,m2,m3,m4,m5⟩:=id G9.ex;obtain⟨dxw,d1,l2,d3,zs0,as,ef,w1,_⟩:=id h2.ex;have hnw:(flds d1 l2 d3).lookup ("strength":Str)=none:=b0_ _ _ _ (by decide +kernel) (by decide +kernel) (by decide +kernel);refine⟨_,rfl,_,rfl,_,rfl,g,CG,dx,_,_,rfl,h1,T.cl,T.nW,bf_ _ _ _,p,dxw,_,rfl,w1,hnw,_,rfl,p,n,strOf hs n,hs,ts,fpw,rfl,h2,Pl.Gd.hnd,sm,?_⟩;refine⟨_,_,rfl,rfl,⟨by omega,by omega⟩,_,_,rfl,rfl,.inl ⟨by omega,by omega⟩,_,rfl,_,rfl,d2,_,rfl,.k (k:=Sum.inr n) e9 (by rw[aE_,ak'];omega),?_⟩;refine⟨_,_,rfl,ao_ s9 n2,by rw[a4_ d2l.symm];exact f9,?_⟩;rw[a1_,av_ hn,dd_ (bY_ Pl.Gd.nnd hn)];congr 2;refine bv_ fun m _=>?_;by_cases z:m=n
   ·subst z;simp[lvF]
   ·simp[z]
  rintro σ H8 ⟨v4,v5,rfl,s8,f8,e8⟩;rw[aE_,am'] at e8;exact⟨_,rfl,k d2 H8 s8 n2 e8⟩
end
end Ev
namespace L2
open PySem PySem.Spec PyProof.Rows
section
variable{M:Model}{A:Around}{E:Value->Shared->Prop}{s:Shared}
end
section
variable{X:Cx}{E:XK}
end
section
variable{P:Program}{w:World}{K:F__}{mg:Str->Option Value}{base:Heap}
section
variable{N:List Str}{qual:Str}{scope:Scope}{f:Addr}{cd:Value}{A:Around}{outer:List Env}{s:Shared}{H:Hp}{E:XK}
end
end
end L2
namespace L2
open PySem PySem.Spec PySem.Calls PyProof.Rows PySem.W
section
variable{M:Model}{A:Around}{E:Value->Shared->Prop}{s:Shared}{base:Heap}{env:Env}{outer:List Env}{L e:Addr}{cls a0:Value}{Q:Unit->Shared->Prop}
def TracedD(h base:Heap)(e:Addr)(cls a0:Value)(dd:Option Addr):Prop:=∃oe vs T oT ts,h.get? e=some oe/\(oe.cls=cls/\vs[0]? = some a0)/\oe.data=Data.fields vs/\vs[1]? = some (Value.ref T)/\base.get? T=none/\T≠e/\h.get? T=some oT/\oT.data=Data.fields ts/\ts[3]? = some Value.none/\oe.dict=dd
def by'(base:Heap)(l:List Env)(e:Addr)(cls a0:Value)(dd:Option Addr)(h:Heap):Prop:=base.StaysIn h/\base.get? e=none/\h.FunFrames base l/\TracedD h base e cls a0 dd
theorem newEntryD{oe:Obj}{vs:Array Value}{head:Value}{hadNext:Bool}(hfr:A.frames=some (env::outer))(hl:s.heap.FunFrames base (env::outer))(hf:env.frame=some L)(he:s.heap.get? e=some oe)(hkb:base.StaysIn s.heap)(hen:base.get? e=none)(hd:oe.data=Data.fields vs)(hsz:1<vs.size)(h0:vs[0]? = some a0)
  (h:∀h',base.StaysIn h'->h'.FunFrames base (env::outer)->TracedD h' base e oe.cls a0 oe.dict->s.heap.UpToSlots h'->Q () { s with heap:=h' }) :
  wpAny M A (do
   let a <- PySem.frameOf env
   let pl <- entryPlaceOf L hadNext
   let b <- EntryCells.newEntry head a Value.none (rawInt L) Value.none pl
   setField (Value.ref e) 1 b) (fun _ s'=>wpAny M A (setFlight (Value.ref e) none) Q E s') E s:=by
 have hene:e∉List.filterMap (fun x=>x.frame) (env::outer):=fun hm=>by
  obtain⟨_,o,ho,hnf⟩:=Heap.FunFrames.mem hl hm;rw[he] at ho;cases ho;exact hnf vs hd
 refine wpAny_bind (wpAny_frameOf_fun hfr hl hf fun h₁ hs₁=>wpAny_bind (wpAny_entryPlaceOf fun pl hpl=>?_));unfold EntryCells.newEntry newFields;have hsz1:h₁.objs.size=s.heap.objs.size:=hs₁.1;have he₁:=(hs₁.right.left e hene).trans he;have hlt:∀b o,s.heap.get? b=some o->b≠h₁.objs.size:=fun b o q=>av' (by rw[hsz1];exact Heap.lt_size q)
 have hbn:base.get? h₁.objs.size=none:=by
  cases q:base.get? h₁.objs.size with
  |none=>rfl
  |some o=>exact absurd rfl (hlt _ o (hkb _ o q))
 have hbase:∀b o,base.get? b=some o->h₁.get? b=some o:=fun b o q=>(hs₁.right.left b (fun hm=>by
  have:=(Heap.FunFrames.mem hl hm).1;rw[q] at this;cases this)).trans (hkb b o q)
 obtain⟨tbs,htb,ht3⟩:∃tbs:Array Value,([head,Value.ref L,Value.none,rawInt ↑L,Value.none]++if pl.isEmpty=true then List.replicate 6 Value.none else pl).toArray=tbs/\3<tbs.size:=⟨_,rfl,by simp⟩
 have hts:tbs.size<=sizeLine+2:=by
  rw[<- htb];rcases hpl with rfl|⟨a,b,c,d,c9,b10,_,rfl⟩
  ·show 11<=sizeLine+2;decide
  ·show 11<=sizeLine+2;decide
 refine wpAny_bind (wpAny_newObj_type ?_ (by rw[htb];exact hts));rw[htb];have he₂:(h₁.push { cls:=Value.type "traceback",data:=Data.fields tbs }).get? e=some oe:=Heap.get?_push_of_some _ he₁;have hn₂:(h₁.push { cls:=Value.type "traceback",data:=Data.fields tbs }).get? h₁.objs.size=some { cls:=Value.type "traceback",data:=Data.fields tbs }:=Heap.get?_push_size h₁ rfl;have hTe:h₁.objs.size≠e:=(hlt e oe he).symm;refine wpAny_setField he₂ hd hsz ?_;have hd₃:=Obj.data_mapFields hd fun x=>x.setIfInBounds 1 (Value.ref h₁.objs.size);have he₃:=Heap.get?_update_self (Obj.mapFields fun x=>x.setIfInBounds 1 (Value.ref h₁.objs.size)) he₂ (Obj.isFreed_of_fields hd₃);have hn₃:=(Heap.get?_update_other (h₁.push { cls:=Value.type "traceback",data:=Data.fields tbs }) (Obj.mapFields fun x=>x.setIfInBounds 1 (Value.ref h₁.objs.size)) hTe.symm).trans hn₂;unfold setFlight;refine wpAny_bind (wpAny_field (x:=.ref h₁.objs.size) he₃ hd₃ (by simp[hsz]) ?_);rw[if_pos (by simp)];refine wpAny_setField hn₃ rfl ht3 ?_;have hd₄:=Obj.data_mapFields (o:={ cls:=Value.type "traceback",data:=Data.fields tbs }) rfl fun x=>x.setIfInBounds 3 Value.none;have hn₄:=Heap.get?_update_self (Obj.mapFields fun x=>x.setIfInBounds 3 Value.none) hn₃ (Obj.isFreed_of_fields hd₄);have he₄:=(Heap.get?_update_other ((h₁.push { cls:=Value.type "traceback",data:=Data.fields tbs }).update e (Obj.mapFields fun x=>x.setIfInBounds 1 (Value.ref h₁.objs.size))) (Obj.mapFields fun x=>x.setIfInBounds 3 Value.none) hTe).trans he₃
 have oth:∀b o,b≠e->b≠h₁.objs.size->h₁.get? b=some o->(((h₁.push { cls:=Value.type "traceback",data:=Data.fields tbs }).update e (Obj.mapFields fun x=>x.setIfInBounds 1 (Value.ref h₁.objs.size))).update h₁.objs.size (Obj.mapFields fun x=>x.setIfInBounds 3 Value.none)).get? b=some o:=fun b o n1 n2 q=>
  (Heap.get?_update_other _ _ n2.symm).trans ((Heap.get?_update_other _ _ n1.symm).trans (Heap.get?_push_of_some _ q))
 have hec:((Obj.mapFields fun x=>x.setIfInBounds 1 (Value.ref h₁.objs.size)) oe).cls=oe.cls/\((Obj.mapFields fun x=>x.setIfInBounds 1 (Value.ref h₁.objs.size)) oe).dict=oe.dict:=by
  obtain⟨c,dt,da,sl⟩:=oe;have:da=Data.fields vs:=hd;subst this;exact⟨rfl,rfl⟩
 have ups:∀b o,s.heap.get? b=some o->(∀vs,o.data≠Data.fields vs)->∃sl,(((h₁.push { cls:=Value.type "traceback",data:=Data.fields tbs }).update e (Obj.mapFields fun x=>x.setIfInBounds 1 (Value.ref h₁.objs.size))).update h₁.objs.size (Obj.mapFields fun x=>x.setIfInBounds 3 Value.none)).get? b=some { cls:=o.cls,dict:=o.dict,data:=o.data,slots:=sl }:=fun b o q nf=>by
  obtain⟨sl,q1⟩:=hs₁.right.right b o q;refine⟨sl,oth b _ (fun z=>?_) (hlt b o q) q1⟩;subst z;rw[he] at q;cases q;exact nf vs hd
 refine h _ (fun b o q=>oth b o (fun z=>?_) (fun z=>?_) (hbase b o q)) (Heap.FunFrames.of_keeps (fun b o q nf=>?_) hl) ⟨_,_,h₁.objs.size,_,_,he₄,⟨hec.1,?_⟩,hd₃,?_,hbn,hTe,hn₄,hd₄,?_,hec.2⟩ ups
 ·subst z;rw[hen] at q;cases q
 ·subst z;rw[hbn] at q;cases q
 ·obtain⟨sl,q1⟩:=ups b o q nf;exact⟨_,q1,rfl⟩
 ·rw[Array.getElem?_setIfInBounds];simpa using h0
 ·simp[hsz]
 ·simp[ht3]
theorem by'.less{dd:Option Addr}{h:Heap}(f:by' base (env::outer) e cls a0 dd h):by' base outer e cls a0 dd h:=⟨f.1,f.2.1,f.2.2.1.2.2,f.2.2.2⟩
theorem dR_{dd:Option Addr}(hfr:A.frames=some (env::outer))(hf:env.frame=some L)(hfl:by' base (env::outer) e cls a0 dd s.heap)
  (hQ:∀h',by' base (env::outer) e cls a0 dd h'->s.heap.UpToSlots h'->Q () { s with heap:=h' }):wpAny M A (noteFrame (Value.ref e) env) (fun _ s₂=>wpAny M A (setFlight (Value.ref e) none) Q E s₂) E s:=by
 obtain⟨f1,f2,f3,oe,vs,T,oT,ts,he,⟨hc,h0⟩,hd,h1,hnT,hTe,hT,hdT,h3,hdd⟩:=hfl;unfold noteFrame;rw[hf];dsimp only;refine wpAny_bind (wpAny_field he hd h1 ?_);rw[if_pos (by simp)];refine wpAny_bind (wpAny_field hT hdT h3 ?_);rw[if_neg (by simp[rawInt])];refine wpAny_bind (wpAny_setField hT hdT (Array.getElem?_eq_some_iff.mp h3).1 ?_);have other:∀b,b≠T->(s.heap.update T (Obj.mapFields fun x=>x.setIfInBounds 3 Value.none)).get? b=s.heap.get? b:=fun b hb=>Heap.get?_update_other _ _ hb.symm
 have nrec:∀b o,s.heap.get? b=some o->(∀vs,o.data≠Data.fields vs)->b≠T:=fun b o q nf z=>by
  subst z;rw[hT] at q;cases q;exact nf ts hdT
 refine newEntryD (base:=base) (s:={ s with heap:=s.heap.update T (Obj.mapFields fun x=>x.setIfInBounds 3 Value.none) }) hfr (Heap.FunFrames.of_keeps (fun b o q nf=>⟨o,(other b (nrec b o q nf)).trans q,rfl⟩) f3) hf ((other e hTe.symm).trans he) (fun b o q=>(other b (fun z=>?_)).trans (f1 b o q)) f2 hd (Array.getElem?_eq_some_iff.mp h1).1 h0 fun h' g1 g2 g3 g4=>?_
 ·subst z;rw[hnT] at q;cases q
 ·refine hQ h' ⟨g1,f2,g2,?_⟩ fun b o q nf=>g4 b o ((other b (nrec b o q nf)).trans q) nf;rw[hc,hdd] at g3;exact g3
theorem fk_{dd:Option Addr}(hfr:A.frames=some (env::outer))(hf:env.frame=some L)(hfl:by' base (env::outer) e cls a0 dd s.heap)
  (hQ:∀h',by' base outer e cls a0 dd h'->s.heap.UpToSlots h'->Q () { s with heap:=h' }):wpAny M A (leaving env (Value.ref e)) Q E s:=by
 unfold leaving;exact wpAny_bind (dR_ hfr hf hfl fun h' f u=>hQ h' f.less u)
end
end L2
namespace L2
open PySem PySem.Spec PySem.Calls PyProof.Rows PySem.W
section
variable{prog:Program}{w:World}{A:Around}{E:Value->Shared->Prop}{h:Heap}{g:Array GenState}{d:Drawn}{t:Nat}{os:OsState}{nm q:Str}{C N f:Addr}{bs bm bmB:List Value}{hdct:Bool}{sn:List Str}{sub:List Value}{ab:Bool}{col:Option Bool}{dd:Option Addr}{k0 k1 k2 k3 k5:Option Value}{B newId initId:String}{K:F__}{rest:List Value}
end
end L2
namespace L2
open PySem PySem.Spec PySem.Calls PyProof.Rows PySem.W Builtin Builtin.ObjectAttr
def excMro(C CE:Addr):List Value:=[.ref C,.ref CE,.type "ValueError",.type "Exception",.type "BaseException",.type "object"]
section
variable{prog:Program}{w:World}{A:Around}{E:Value->Shared->Prop}{s:Shared}{K:F__}{x C CE:Addr}{ox:Obj}{od:Option Obj}{name:Str}{tk:Tok}{v:Value}{cd:ClassData}
end
end L2
namespace L2
open PySem PySem.Spec PySem.Calls PyProof.Rows PySem.W
section
variable{M:Model}{A:Around}{E:Value->Shared->Prop}{s:Shared}{env:Env}{nm q:Str}{C N:Addr}{bs bm:List Value}{hdct:Bool}{sn:List Str}{sub:List Value}{ab:Bool}{col:Option Bool}{dd:Option Addr}{k0 k1 k2 k3 k5:Option Value}{newId:String}
end
end L2
namespace L2
open PySem PySem.Spec PySem.Calls PyProof.Rows PySem.W
def excInO(K:F__)(C:Addr)(bmB:List Value)(newId:String):Bool:=
 match K.lookup C with
 |some ⟨.type "type",_,.cls cd,sl⟩=>
  match cd.mro,sl.toList with
  |.ref C'::bm,[_,_,_,_,some (.builtin n),_]=>C' == C&&n == newId&&!cd.hasDel&&tailIn K bmB bm&&nsOkIn K cd.ns
  |_,_=>false
 |_=>false
def clsO(K:F__)(C CE:Addr):Bool:=
 match clsIn K C with
 |some cd=>cd.mro == excMro C CE&&cd.hasDict
 |none=>false
structure ExO (K:F__) (C CE:Addr):Prop where
 kx:ExcK K C
 ex:excInO K C bmV "ValueError.__new__"=true
 es:findIn K (.ref C) "__setattr__"=some (some (.builtin "object.__setattr__"))
 cl:clsO K C CE=true
structure ExF (K:F__) (C:Addr) (f:Str):Prop where
 tk:takerIn K C f=some none
 fd:findIn K (.ref C) f=some none
structure ExB (K:F__) (CE:Addr):Prop where
 sp:specialIn K (.ref CE) "__getattribute__"=some (some (.builtin "type.__getattribute__"))
 rd:readsIn K CE (.type "type")=true
 fc:findCls K (.ref CE) (.type "type") "__init__"=some (.val (.builtin "ValueError.__init__"))
section
variable{P:Program}{w:World}{H:Hp}{h:Heap}{e C a0 d:Addr}{dd:Option Addr}{fs:List (Str × V)}
end
section
variable{X:Cx}{C CE:Addr}{x f:Str}{p apos pos pos':Pos}{o e value:Expr}{es:List Expr}{ta tv:TE}{t:TA}
end
end L2
namespace L2
open PySem PySem.Spec PySem.Calls PyProof.Rows PySem.W
def CX2(P:Program)(w:World):CXT:=fun l H s E e s'=>
 ∃a cls H' B a0 dd,e=Value.ref a/\s'.os=s.os/\AllBare s'.gens/\Un (frs l) [] H H' s.heap s'.heap/\HOk P w H' s'.heap/\by' B l a cls a0 dd s'.heap/\InB B l H' s.heap s'.heap/\E cls dd H'
section
variable{X:Cx}{pins:List (Addr × Obj)}{σ:St}{H H':Hp}{s s1:Shared}{B h:Heap}{a:Addr}{cls a0:Value}{dd:Option Addr}{E:XK}
theorem ff_(I:Inv X pins σ H s)(hex:X.ex=[])(os:s1.os=s.os)(bare:AllBare s1.gens)(un:Un (frs X.stack) [] H H' s.heap h)(hok:HOk X.prog X.w H' h)(i:InB B X.stack H' s.heap h)(ff:h.FunFrames B X.stack)(up:h.UpToSlots s1.heap)
  (fl:by' B X.outer a cls a0 dd s1.heap) (hE:E cls dd H'):CX2 X.prog X.w X.outer X.H₀ X.s₀ E (.ref a) s1:=by
 have un1:=eU_ un ff i fl.1 up;have hok1:=dC_ hok (f3_ I un) i fl.1;have I1:Inv X pins σ H' s1:=I.call' os un1 hok1 bare (fun b z=>absurd z (by simp));have bs:=I1.base;rw[hex] at bs;refine⟨a,cls,H',B,a0,dd,rfl,I1.os,I1.bare,bs,I1.hok,fl,fun b o e hb c=>?_,hE⟩
 have nL:b≠X.env.locals:=by
  rcases c with z|⟨o0,z⟩
  ·intro q;rw[q,I1.free] at z;cases z
  ·exact av' (ax' (Heap.lt_size z) I.ok.above)
 refine eD_ hok un i fl.1 b o e (fun hm=>?_) (c.imp id fun⟨o0,z⟩=>I.base.there b o0 z (by rw[hex];simp));rcases ah'.mp (I.stkSub b hm) with z|z
 ·exact nL z
 ·exact hb z
end
section
variable{P:Program}{w:World}{K:F__}{mg:Str->Option Value}{base:Heap}{N:List Str}{qual:Str}{scope:Scope}{f:Addr}{cd:Value}{A:Around}{outer:List Env}{s:Shared}{H:Hp}{E:XK}
end
section
variable{X:Cx}{x:Str}{C f:Addr}{fd:FuncData}{ps:List Str}{sp:Sp}{k:Nat}{np cpos pos:Pos}{e:Expr}{es:List Expr}{t:TA}{E:XK}
end
end L2
namespace L2
open PySem PySem.Spec PySem.Calls PyProof.Rows PySem.W
section
variable{X:Cx}{i:Nat}{x n:Str}{D C:Addr}{np hpos pos:Pos}{b₀:Stmt}{suite body:List Stmt}{tb:XK->TS}{ts:TS}{rest:List ExceptHandler}
end
end L2
namespace L2
open PySem PySem.Spec PySem.Calls PyProof.Rows PySem.W
section
variable{P:Program}{w:World}{K:F__}{mg:Str->Option Value}{base:Heap}{N:List Str}{qual:Str}{scope:Scope}{f:Addr}{cd:Value}{A:Around}{outer:List Env}{s:Shared}{H:Hp}{E:XK}
end
section
variable{X:Cx}{i:Nat}{x x2 n:Str}{D C D2 C2:Addr}{np hpos np2 hpos2 pos:Pos}{b₀ c₀:Stmt}{suite suite2 body:List Stmt}{tb:XK->TS}{ts ts2:TS}
end
section
variable{X:Cx}
end
end L2
namespace L2
open PySem PySem.Spec PySem.Calls PyProof.Rows PySem.W
section
variable{X:Cx}{i:Nat}{x n:Str}{D:Addr}{ok:Addr->Prop}{np hpos pos:Pos}{b₀:Stmt}{suite body:List Stmt}{tb:XK->TS}{ts:TS}
end
end L2
namespace L2
open PySem PySem.Spec PySem.Calls PyProof.Rows PySem.W
end L2
namespace L2
open PySem PySem.Spec PyProof.Rows
section
variable{X:Cx}
end
section
variable{X:Cx}{k:Nat}{ps:List Str}{x:Str}{p pos:Pos}{e:Expr}{es:List Expr}{tn:TE}{t:TA}
end
end L2
namespace L2
open PySem PySem.Spec PyProof.Rows PySem.W
structure b2' (ps fvs:List Str) (scope:Scope):Prop where
 nd:(ps++fvs).Nodup
 kind:scope.kind=.function
 co:scope.isCoroutine=false
 gen:scope.isGenerator=false
 par:∀p∈ps,scope.names.lookup p=some .local
 fv:∀x∈fvs,scope.names.lookup x=some .free
 all:∀x,scope.names.lookup x=some .free->x∈fvs
 nocell:∀x∈scope.names,x.2≠.cell
def dg'(CX:CXT)(P:Program)(w:World)(K:F__)(mg:Str->Option Value)(base:Heap)(N:List Str)(qual:Str)(scope:Scope)(f:Addr)(cd:Value)(cl:List (Str × Addr))(A:Around)(outer:List Env)(s:Shared)(H:Hp)(E:XK):Cx where
 prog:=P
 w:=w
 K:=K
 mg:=mg
 base:=base
 A:=A.deeper (envX qual scope s.heap.objs.size f cd cl)
 N:=N
 s₀:=s
 H₀:=H
 env:=envX qual scope s.heap.objs.size f cd cl
 outer:=outer
 stack:=envX qual scope s.heap.objs.size f cd cl::outer
 ex:=[]
 calm:=true
 fn:=fun _=>false
 pn:=[]
 xe:=fun e s'=>wpAny (model P w) (A.deeper (envX qual scope s.heap.objs.size f cd cl)) (leaving (envX qual scope s.heap.objs.size f cd cl) e) (fun _ s''=>CX outer H s E e s'') (fun e' s''=>CX outer H s E e' s'') s'
theorem dQ_{x:Str}{u:Value}:∀{l:List (Str × Value)},(l.map (·.1)).Nodup->(x,u)∈l->l.lookup x=some u
 |(y,v)::l,nd,h=>by
  have n:=aR'.mp nd;rcases ah'.mp h with e|h
  ·cases e;simp[List.lookup]
  ·have ne:x≠y:=fun z=>n.1 (by rw[<- z];exact ad'.mpr ⟨_,h,rfl⟩);have:(x == y)=false:=by simpa using ne
   rw[aP',this];exact dQ_ n.2 h
theorem gN_:∀(ps:List Str) (us:List Value),((ps.zip us).map (·.1)).Sublist ps
 |[],_=>by simp
 |_::_,[]=>by simp
 |p::ps,u::us=>by
  simp only[List.zip_cons_cons,ar'];exact (gN_ ps us).cons₂ p
theorem cQ_{ps:List Str}{us:List Value}{i:Nat}{x:Str}{u:Value}(nd:ps.Nodup)(h1:ps[i]? = some x)(h2:us[i]? = some u):(ps.zip us).reverse.lookup x=some u:=by
 refine dQ_ ?_ (List.mem_reverse.mpr (ae' (i:=i) ?_))
 ·rw[List.map_reverse];refine (List.reverse_perm _).nodup_iff.mpr (nd.sublist ?_);exact gN_ ps us
 ·rw[List.getElem?_zip_eq_some];exact⟨h1,h2⟩
structure b3' (fvs:List Str) (cl:List (Str × Addr)) (gs:List V) (h:Heap):Prop where
 inj:∀x y c,cl.lookup x=some c->cl.lookup y=some c->x=y
 has:∀x∈fvs,∃c,cl.lookup x=some c
 all:∀x c,cl.lookup x=some c->∃v,h.IsCell c v
 is:∀(i:Nat) x v,fvs[i]? = some x->gs[i]? = some v->∃c u,cl.lookup x=some c/\RelV v u/\h.IsCell c (some u)
theorem IsCell.keeps{h h':Heap}{c:Addr}{v:Option Value}(x:h.IsCell c v)(k:∀o,h.get? c=some o->h'.get? c=some o):h'.IsCell c v:=let ⟨o,e,d⟩:=x;⟨o,k o e,d⟩
theorem iZ_{CX:CXT}{P:Program}{w:World}{K:F__}{mg:Str->Option Value}{base:Heap}{ps fvs:List Str}{qual:Str}{scope:Scope}{f:Addr}{cd:Value}{cl:List (Str × Addr)}{A:Around}{outer:List Env}{s:Shared}{H:Hp}{E:XK}{us:List Value}{vs gs:List V}{h1:Heap}{tk:Nat}
  (S:b2' ps fvs scope) (hd:A.handled=none) (e0:Env0 P w K mg base A outer s H) (hl:vs.length=ps.length) (hg:gs.length=fvs.length) (r:Vals vs us) (C:b3' fvs cl gs s.heap) (fc:∀x c,cl.lookup x=some c->H c=none)
  (ns:h1.Ns s.heap.objs.size fun x=>(ps.zip us).reverse.lookup x) (k:∀b o,s.heap.get? b=some o->h1.get? b=some o) :
  Inv (dg' CX P w K mg base (ps++fvs) qual scope f cd cl A outer s H E) [] (vs.map some++gs.map some) H { s with heap:=h1,toks:=tk }:=by
 have noA:∀b:Addr,b∉(dg' CX P w K mg base (ps++fvs) qual scope f cd cl A outer s H E).ex:=fun b z=>absurd (show b∈([]:List Addr) from z) (by simp)
 refine⟨⟨e0.mod,S.kind,rfl,rfl,af' _,C.inj,fun y hy=>?_,fun y c h=>(by cases h),fun _=>hd,Around.frames_deeper e0.frames,.inr ⟨rfl,rfl⟩,fun b z=>absurd z (noA b),e0.bs,e0.bsz,fun b _ _=>noA b,fun b z=>absurd z (noA b),e0.funs,e0.frf⟩,
  rfl,e0.bare,Un.kept k,⟨_,ns,fun i y v h1' h2 h3=>?_⟩,fun y c h=>?_,e0.hok.fresh (af' _),fc,fun p hp=>absurd (show p∈([]:List (Addr × Obj)) from hp) (by simp),e0.hok.kept k,?_⟩
 ·have hy:scope.names.lookup y=some .cell∨scope.names.lookup y=some .free:=hy;rcases hy with hy|hy
  ·exact absurd rfl (S.nocell _ (PySem.mem_of_lookup hy))
  ·exact C.has y (S.all y hy)
 ·have h1':(ps++fvs)[i]? = some y:=h1';by_cases hi:i<ps.length
  ·rw[aM' hi] at h1';rw[aM' (by simpa [hl] using hi),al'] at h2;obtain⟨v',hv,e⟩:=Option.map_eq_some_iff.mp h2;cases e;obtain⟨u,hu,rv⟩:=r.get hv;refine⟨u,rv,.inl ⟨S.par y (ae' h1'),?_⟩⟩;have ndP:ps.Nodup:=(List.nodup_append.mp S.nd).1;show (ps.zip us).reverse.lookup y=some u;exact cQ_ ndP h1' hu
  ·rw[aI' (by omega)] at h1';rw[aI' (by simp[hl];omega),al',aa',hl] at h2;obtain⟨v',hv,e⟩:=Option.map_eq_some_iff.mp h2;cases e;obtain⟨c,u,e1,rv,ce⟩:=C.is _ _ _ h1' hv;exact⟨u,rv,.inr ⟨.inr (S.fv y (ae' h1')),c,e1,IsCell.keeps ce fun o e=>k _ _ e⟩⟩
 ·obtain⟨v,ce⟩:=C.all y c h;exact⟨v,IsCell.keeps ce fun o e=>k _ _ e⟩
 ·show _=(ps++fvs).length;rw[ap',ap',aa',aa',hl,hg]
theorem iL_{CX:CXT}{P:Program}{w:World}{K:F__}{mg:Str->Option Value}{base:Heap}{k:Nat}{ps fvs:List Str}{qual:Str}{params:Arguments}{body:PySem.Expr}{scope:Scope}{f c':Addr}{pm ctv:Value}{cl:List (Str × Addr)}{A:Around}{outer:List Env}{s:Shared}{H:Hp}{Q:VK}{E:XK}{us:List Value}{vs gs:List V}{t:TE}
  (S:b2' ps fvs scope) (hr:Room (k+1) A) (e0:Env0 P w K mg base A outer s H) (hf:s.heap.get? f=some (kla_obj "<lambda>" qual params body scope cl pm c' ctv)) (hcd:s.heap.CodeRec (.ref c') qual)
  (hb:bindArgs (kla_fn "<lambda>" qual params body scope cl pm (.ref c') ctv) ⟨us,[]⟩=pure (ps.zip us)) (hl:vs.length=ps.length) (hg:gs.length=fvs.length) (r:Vals vs us) (C:b3' fvs cl gs s.heap) (fc:∀x c,cl.lookup x=some c->H c=none)
  (ht:Room k (A.deeper (envX qual scope s.heap.objs.size f (.ref c') cl))->PE (dg' CX P w K mg base (ps++fvs) qual scope f (.ref c') cl A outer s H E) body t) (hq:t (vs.map some++gs.map some) H Q) :
  codeAny (model P w) A (.call (.ref f) ⟨us,[]⟩) (CR CX outer P w H s Q E) s:=by
 have lim:s.heap.NoLimit:=e0.mod.nolimit.keeps fun b o e=>(e0.bs b o e).1;refine kla_callFunE hr.depth hf rfl S.co S.gen rfl hcd ?_;rw[hb];refine wpAny_pure (wpAny_newFunctionEnv S.nocell (fun x hx=>?_) (fun h1 ns sb=>?_) S.kind)
 ·exact S.par x.1 (List.of_mem_zip hx).1
 have k1:∀b o,s.heap.get? b=some o->h1.get? b=some o:=fun b o e=>sb.extBut b o (av' (Heap.lt_size e)) (Heap.get?_push_of_some _ e);refine⟨lim.keeps k1,?_⟩;show codeAny _ _ (.expr body (envX qual scope s.heap.objs.size f (.ref c') cl)) _ _;have I:=iZ_ (CX:=CX) (qual:=qual) (f:=f) (cd:=.ref c') (E:=E) (tk:=s.toks+(ps.zip us).length) S hr.hd e0 hl hg r C fc ns k1;refine kla_codeExpr (wpAny_mono (ht (hr.deeper _) [] _ _ H _ I hq) (fun v s' hs=>?_) fun e s' hs=>hs);obtain⟨x,H',J,rv,q⟩:=hs;exact⟨x,H',J.os,J.bare,J.base,J.hok,rv,q⟩
end L2
namespace L2
open PySem PySem.Spec PyProof.Rows PySem.W
def lamH(f:Addr)(qual:Str)(params:Arguments)(body:PySem.Expr)(scope:Scope)(cl:List (Str × Addr))(c':Addr):HO:=.ext fun h=>∃pm ctv,h.get? f=some (kla_obj "<lambda>" qual params body scope cl pm c' ctv)
def cL'(c':Addr)(qual:Str):HO:=.ext fun h=>∃o vs t,h.get? c'=some o/\o.data=.fields vs/\vs[1]? = some (.str qual t)
def tLam(P:Addr)(qual:Str)(params:Arguments)(body:PySem.Expr)(scope:Scope)(pos:Pos)(cl:List (Str × Addr)):TE:=fun _ H Q=>∃ps,H P=some (.tbl ps)/\TriplesOk ps.toList /\
 ((codeAmong pos ps.toList=none/\∀c' f,H c'=none->H f=none->c'≠f->Q (.ref f) (upd (upd (upd H P (.tbl (ps++#[rawInt pos.line,rawInt pos.col,.ref c']))) c' (cL' c' qual)) f (lamH f qual params body scope cl c'))) ∨
  ∃c',codeAmong pos ps.toList=some (.ref c')/\∀f,H f=none->Q (.ref f) (upd H f (lamH f qual params body scope cl c')))
theorem k3_{X:Cx}{params:Arguments}{body:PySem.Expr}{scope:Scope}{pos:Pos}{cl:List (Str × Addr)}{c P:Addr}(hdef:defaultsOf params X.env=([],[]))(hcl:closureFor scope X.env=pure cl)(hcode:X.env.code=.ref c)(C:CodeHd X.base c P)(hbm:X.base.BuiltinsAt X.mg P) :
  PE X (.Lambda params body scope pos) (tLam P (X.env.qual++"<lambda>") params body scope pos cl):=by
 intro pins s σ H Q I h;obtain⟨ps,hP,ht,h⟩:=h;have hPh:s.heap.get? P=some (tabObj ps):=I.hok P _ hP
 have hgl:H mainGlobals=none:=by
  obtain⟨o,_,_,e,_⟩:=I.mod.glob;exact (I.bs _ _ e).2
 refine kla_eval hdef ?_;rcases h with⟨hn,q⟩|⟨c',hf,q⟩
 ·refine kla_makeFunction hcl I.ok.glob (I.mod.glob.keeps I.bk) hcode (C.keeps I.bk) hPh ht hn (fun z=>by rw[z,hP] at hgl;cases hgl) (hbm.keeps I.bk) fun c' ctv h' tk hx hge hlt hrec htb=>?_;have fz:s.heap.objs.size<=h'.objs.size:=aW' hge (Nat.le_of_lt hlt);have nc:H c'=none:=I.hok.fresh hge;have nf:H h'.objs.size=none:=I.hok.fresh fz;have cf:c'≠h'.objs.size:=av' hlt;have Pc:P≠c':=a6_ hP nc;have Pf:P≠h'.objs.size:=a6_ hP nf
  have old:∀{b u},H b=some u->b≠P->upd (upd (upd H P (.tbl (ps++#[rawInt pos.line,rawInt pos.col,.ref c']))) c' (cL' c' (X.env.qual++"<lambda>"))) h'.objs.size (lamH h'.objs.size (X.env.qual++"<lambda>") params body scope cl c') b=some u:=fun {b u} e n=>by
   rw[a4_ (a6_ e nf),a4_ (a6_ e nc),a4_ n];exact e
  have notT:∀{b u},H b=some u->(∀ps,u≠.tbl ps)->b≠P:=fun {b u} e n z=>by
   rw[z,hP] at e;cases e;exact n _ rfl
  have kp:∀b o,b≠P->s.heap.get? b=some o->(h'.push (kla_obj "<lambda>" (X.env.qual++"<lambda>") params body scope cl ((X.mg "__name__").getD .none) c' ctv)).get? b=some o:=fun b o n e=>Heap.get?_push_of_some _ (hx b o n e);refine⟨.ref h'.objs.size,_,I.un (t':=tk) ⟨fun b o e n _ _=>kp b o (fun z=>by rw[z,hP] at n;cases n) e,fun b o e n _ _=>⟨o.slots,kp b o (fun z=>by rw[z,hP] at n;cases n) e⟩,fun b o e n _=>?_,fun b o e _=>?_,fun b xs e=>old e (notT e (by simp)),fun b o u e=>old e (notT e (by simp)),fun b qs e=>?_⟩ (fun b u e=>?_),rfl,q c' h'.objs.size nc nf cf⟩
  ·have lt:=Heap.lt_size e;rw[a4_ (av' (ax' lt fz)),a4_ (av' (ax' lt hge)),a4_ (fun z=>by rw[z,hP] at n;cases n)];exact n
  ·by_cases z:b=P
   ·subst z;exact⟨_,Heap.get?_push_of_some _ htb⟩
   ·exact⟨o,kp b o z e⟩
  ·by_cases z:b=P
   ·subst z;rw[hP] at e;cases e;exact⟨_,by rw[a4_ Pf,a4_ Pc,a1_]⟩
   ·exact⟨#[],by rw[Array.append_empty];exact old e z⟩
  ·by_cases z1:b=h'.objs.size
   ·subst z1;rw[a1_] at e;cases e;exact⟨⟨_,_,Heap.get?_push_size _ rfl⟩,⟨_,Heap.get?_push_size _ rfl⟩,fun h1 h2 ⟨pm,cv,e1⟩ k=>⟨pm,cv,k _ e1⟩⟩
   ·rw[a4_ z1] at e;by_cases z2:b=c'
    ·subst z2;rw[a1_] at e;cases e;obtain⟨c2,oc,vs,t,ec,hoc,hd,hv⟩:=hrec;cases ec;exact⟨⟨oc,vs,t,Heap.get?_push_of_some _ hoc,hd,hv⟩,⟨_,Heap.get?_push_of_some _ hoc⟩,fun h1 h2 ⟨o,vs,t,e1,r⟩ k=>⟨o,vs,t,k _ e1,r⟩⟩
    ·rw[a4_ z2] at e;by_cases z3:b=P
     ·subst z3;rw[a1_] at e;cases e;exact Heap.get?_push_of_some _ htb
     ·rw[a4_ z3] at e;refine (I.hok b u e).stay (fun d v hd e1=>kp d v ?_ e1) (fun d e1=>old e1 (notT e1 (by simp))) fun d xs e1=>old e1 (notT e1 (by simp));rcases hd with rfl|hd
      ·exact z3
      ·exact notT hd (by simp)
 ·refine kla_makeFunctionHit hcl I.ok.glob (I.mod.glob.keeps I.bk) hcode (C.keeps I.bk) hPh ht hf (hbm.keeps I.bk) fun ctv h' tk hk hsz=>?_;have nf:H h'.objs.size=none:=I.hok.fresh hsz;refine⟨.ref h'.objs.size,_,I.laid (t':=tk) (fun b o e=>Heap.get?_push_of_some _ (hk b o e)) hsz ?_,rfl,q _ nf⟩;exact⟨⟨_,_,Heap.get?_push_size _ rfl⟩,⟨_,Heap.get?_push_size _ rfl⟩,fun h1 h2 ⟨pm,cv,e1⟩ k=>⟨pm,cv,k _ e1⟩⟩
end L2
namespace L2
open PySem PySem.Spec PyProof.Rows PySem.W
theorem passesL{P:Program}{w:World}{K:F__}{mg:Str->Option Value}{base:Heap}{N:List Str}{qual:Str}{scope:Scope}{f:Addr}{cd:Value}{cl:List (Str × Addr)}{A:Around}{outer:List Env}{s:Shared}{H:Hp}{E:XK}:bG' (CX2 P w) (dg' (CX2 P w) P w K mg base N qual scope f cd cl A outer s H E) E:=by
 intro pins σ H1 s1 e s' I hc;obtain⟨a,cls,H',B,a0,dd,rfl,os,bare,un,hok,fl,i,hE⟩:=hc;refine fk_ (base:=B) I.ok.frames rfl fl fun h1 fl1 up=>?_;exact ff_ (s1:={ s' with heap:=h1 }) I rfl os bare un hok i fl.2.2.1 up fl1 hE
section
variable{cs:List (Addr × Obj)}{H H':Hp}{b:Addr}{o:Obj}{u:HO}
variable{P:Program}{w:World}{h:Heap}
end
section
variable{X:Cx}{pins:List (Addr × Obj)}{σ:St}{H:Hp}{s s':Shared}{cs:List (Addr × Obj)}
def LamOk(P:Program)(w:World)(K:F__)(mg:Str->Option Value)(base:Heap)(k:Nat)(qual:Str)(params:Arguments)(body:PySem.Expr)(scope:Scope)(ps fvs:List Str)(sp:List V->List V->Hp->VK->XK->Prop):Prop:=
 ∀(A:Around) (outer:List Env) (s:Shared) (H:Hp) (f c':Addr) (pm ctv:Value) (cl:List (Str × Addr)) (us:List Value) (vs gs:List V) (Q:VK) (E:XK),Room k A->Env0 P w K mg base A outer s H->s.heap.get? f=some (kla_obj "<lambda>" qual params body scope cl pm c' ctv)->s.heap.CodeRec (.ref c') qual->
  vs.length=ps.length->gs.length=fvs.length->Vals vs us->b3' fvs cl gs s.heap->(∀x c,cl.lookup x=some c->H c=none)->sp vs gs H Q E->codeAny (model P w) A (.call (.ref f) ⟨us,[]⟩) (CR (CX2 P w) outer P w H s Q E) s
theorem lamOk{P:Program}{w:World}{K:F__}{mg:Str->Option Value}{base:Heap}{k:Nat}{qual:Str}{params:Arguments}{body:PySem.Expr}{scope:Scope}{ps fvs:List Str}{sp:List V->List V->Hp->VK->XK->Prop}(S:b2' ps fvs scope)
  (hb:∀pm c' ctv cl us,us.length=ps.length->bindArgs (kla_fn "<lambda>" qual params body scope cl pm (.ref c') ctv) ⟨us,[]⟩=pure (ps.zip us))
  (hbody:∀(A:Around) (outer:List Env) (s:Shared) (H:Hp) (f:Addr) (cd:Value) (cl:List (Str × Addr)) (vs gs:List V) (Q:VK) (E:XK),Room k (A.deeper (envX qual scope s.heap.objs.size f cd cl))->sp vs gs H Q E->bG' (CX2 P w) (dg' (CX2 P w) P w K mg base (ps++fvs) qual scope f cd cl A outer s H E) E->
   ∃t,PE (dg' (CX2 P w) P w K mg base (ps++fvs) qual scope f cd cl A outer s H E) body t/\t (vs.map some++gs.map some) H Q):LamOk P w K mg base (k+1) qual params body scope ps fvs sp:=by
 intro A outer s H f c' pm ctv cl us vs gs Q E hr e0 hf hcd hl hg r C fc hsp;obtain⟨t,ht,hq⟩:=hbody A outer s H f (.ref c') cl vs gs Q E (hr.deeper _) hsp passesL;exact iL_ S hr e0 hf hcd (hb pm c' ctv cl us (by rw[<- r.length];exact hl)) hl hg r C fc (fun _=>ht) hq
end
end L2
namespace L2
open PySem PySem.Spec PyProof.Rows PySem.W
structure CellsOf (fvs:List Str) (cl:List (Str × Addr)) (cs:List (Addr × Obj)) (gs:List V):Prop where
 len:gs.length=fvs.length
 inj:∀x y c,cl.lookup x=some c->cl.lookup y=some c->x=y
 has:∀x∈fvs,∃c,cl.lookup x=some c
 all:∀x c,cl.lookup x=some c->∃o v,cs.lookup c=some o/\o.data=.cell v
 is:∀(i:Nat) x v,fvs[i]? = some x->gs[i]? = some v->∃c o u,cl.lookup x=some c/\cs.lookup c=some o/\o.data=.cell (some u)/\RelV v u
section
variable{X:Cx}{k:Nat}{x:Str}{p pos:Pos}{tn:TE}{qual:Str}{params:Arguments}{body:PySem.Expr}{scope:Scope}{fvs ps:List Str}{sp':List V->List V->Hp->VK->XK->Prop}{E:XK}
end
section
variable{X:Cx}{k:Nat}{x:Str}{p pos:Pos}{e:PySem.Expr}{es:List PySem.Expr}{ta:TA}{fvs ps:List Str}{sp:Sp}{f:Addr}{fd:FuncData}{cl:List (Str × Addr)}{is:List Nat}
end
end L2
namespace L2
open PySem PySem.Spec PyProof.Rows PySem.W
theorem gk_{P:Program}{w:World}{K:F__}{mg mb:Str->Option Value}{CX:CXT}{k:Nat}{fa a:Addr}{ts:List Addr}{fd:FuncData}{x:Str}{sp:Sp}{s₁:Shared}{vs:List Value}{ns:List Int}
  (hT:∀T∈ts,K.lookup T=none) (eT:∀T∈ts,s₁.heap.get? T=some (tabObj #[])) (hct:∀T∈ts,isCodeTable s₁.heap T)
  (KX:K.In s₁.heap) (hns:s₁.heap.Ns mainGlobals mg) (hb:s₁.heap.Ns builtinsNs mb) (hbb:∀x:Str,x≠"__name__"->mb x=bootBuiltins x) (hlim:s₁.heap.NoLimit) (hg:s₁.gens=#[])
  (ha:s₁.heap.get? a=some { cls:=.type "list",data:=.seq vs.toArray }) (hi:IntsAre vs ns) (hl:ns.length<=sizeLine) (hr:Room k callerA)
  (hbm:∃bm ob,mg "__builtins__"=some (.ref bm)/\bm≠builtinsNs/\s₁.heap.get? bm=some ob/\ob.cls=.type "module"/\ob.dict=some builtinsNs/\ob.data=.plain)
  (F:∀base:Heap,K.In base->base.Ns mainGlobals mg->(∀T∈ts,base.BuiltinsAt mg T)->FnOk P w K mg base CX k fa fd [x] sp) (hbind:∀(s:Shared) (u:Value),BindsTo s fd ⟨[u],[]⟩ [(x,u)])
  (hsp:∀H:Hp,(∀T∈ts,H T=some (.tbl #[]))->SqL K H a (ns.map V.int)->sp [.ref a] H (fun v _=>v=.bl true) fun _ _ _=>False)
  (hCX:∀H e s',CX [] H s₁ (fun _ _ _=>False) e s'->False) :
  codeAny (model P w) callerA (.call (.ref fa) ⟨[.ref a],[]⟩) (fun r s'=>r=.ok (.ret (.bool true))/\OldK s₁.heap s'.heap/\s'.os=s₁.os/\AllBare s'.gens) s₁:=by
 have rv:=dJ_ hi;have lenV:=hi.length
 have aT:∀{b},b∈ts->b≠a:=fun {b} hb z=>by
  have:=eT b hb;rw[z,ha] at this;cases this
 have core:∀H:Hp,(∀b,H b=none∨(b∈ts/\H b=some (.tbl #[]))∨(b∉ts/\∃o xs,H b=some (.frz o (.lst xs))))->(∀T∈ts,H T=some (.tbl #[]))->SqL K H a (ns.map V.int)->HOk P w H s₁.heap->(∀b,H b≠none->b=a∨b∈ts)->(H a≠none->K.lookup a=none)->
   codeAny (model P w) callerA (.call (.ref fa) ⟨[.ref a],[]⟩) (fun r s'=>r=.ok (.ret (.bool true))/\OldK s₁.heap s'.heap/\s'.os=s₁.os/\AllBare s'.gens) s₁:=by
  intro H hO hHT hS hok hA hK;have base_of:∀{b:Addr} {o:Obj},s₁.heap.get? b=some o->H b=none->(hidT s₁.heap H).get? b=some o:=fun e n=>h5_ e n
  have noA:∀{b:Addr} {o:Obj} {es:Array DictEntry} {ep:Nat},s₁.heap.get? b=some o->o.data=.dict es ep->H b=none:=fun {b o es ep} e d=>by
   cases q:H b with
   |none=>rfl
   |some u=>
    rcases hA b (by rw[q];simp) with e'|e'
    ·subst e';rw[ha] at e;cases e;have d':Data.seq vs.toArray _=Data.dict es ep:=d;cases d'
    ·rw[eT b e'] at e;cases e;cases d
  have nsK:∀{b:Addr} {m:Str->Option Value},s₁.heap.Ns b m->(hidT s₁.heap H).Ns b m:=fun {b m} ⟨o,es,ep,e,d,r⟩=>⟨o,es,ep,base_of e (noA e d),d,r⟩
  have hKb:K.In (hidT s₁.heap H):=fun b o e=>base_of (KX b o e) (by
   cases q:H b with
   |none=>rfl
   |some u=>
    rcases hA b (by rw[q];simp) with e'|e'
    ·subst e';rw[hK (by rw[q];simp)] at e;cases e
    ·rw[hT b e'] at e;cases e)
  have hB:∀T∈ts,(hidT s₁.heap H).BuiltinsAt mg T:=fun T hTs=>by
   obtain⟨bm,ob,h1,h2,h3,h4,h5,h6⟩:=hbm
   have n1:bm≠mainGlobals:=fun z=>by
    obtain⟨o,es,ep,e,d,_⟩:=hns;rw[z,e] at h3;cases h3;rw[d] at h6;cases h6
   have n2:∀{b},b∈ts->bm≠b:=fun {b} hb z=>by
    rw[z,eT b hb] at h3;cases h3;cases h6
   refine⟨bm,ob,h1,h2,n1,n2 hTs,base_of h3 ?_,h4,h5,h6⟩;cases q:H bm with
   |none=>rfl
   |some u=>
    rcases hA bm (by rw[q];simp) with e'|e'
    ·subst e';rw[ha] at h3;cases h3;cases h6
    ·exact absurd rfl (n2 e')
  have hM:Mod K mg (hidT s₁.heap H):=⟨hKb,nsK hns,⟨mb,nsK hb,hbb⟩,let ⟨mc,h1,h2⟩:=hlim;⟨mc,nsK h1,h2⟩⟩;have e0:Env0 P w K mg (hidT s₁.heap H) callerA [] s₁ H:=⟨rfl,hM,fun b o e=>iI_ e,Nat.le_of_eq (gB_ _ _),trivial,fun b hb=>absurd (show b∈([]:List Addr) from hb) (by simp),hok,.of_eq hg⟩;refine codeAny_mono ((F _ hKb (nsK hns) hB).run callerA [] s₁ H ⟨[.ref a],[]⟩ [.ref a] [.ref a] _ _ hr e0 (hbind s₁ (.ref a)) (.cons rfl .nil) (hsp H hHT hS)) fun r s' h=>?_;cases r with
  |error e=>exact (hCX H e s' h).elim
  |ok fl=>
   cases fl with
   |next=>exact False.elim h
   |brk=>exact False.elim h
   |cont=>exact False.elim h
   |ret u=>
    obtain⟨v,H',os,bare,un,hok',r',q⟩:=h;have q':v=.bl true:=q;subst q';obtain rfl:u=Value.bool true:=r'
    have main:∀b o,s₁.heap.get? b=some o->s'.heap.get? b=some o∨(b∈ts/\o=tabObj #[]/\∃more,s'.heap.get? b=some (tabObj (#[]++more))):=fun b o e=>by
     cases q:H b with
     |none=>exact .inl (un.keep b o e q (by intro z;exact absurd (show b∈([]:List Addr) from z) (by simp)) (by simp))
     |some u=>
      rcases hO b with z|⟨zT,z⟩|⟨_,ob,xs,z⟩
      ·rw[q] at z;cases z
      ·rw[eT b zT] at e;cases e;obtain⟨more,z⟩:=un.tbls b _ z;exact .inr ⟨zT,rfl,more,hok' b _ z⟩
      ·have z2:=un.frzs b ob _ z;obtain⟨e1,_⟩:=hok b _ z;obtain⟨e2,_⟩:=hok' b _ z2;rw[e] at e1;cases e1;exact .inl e2
    refine⟨rfl,⟨fun b o e=>?_,fun b o e=>?_⟩,os,bare⟩
    ·rcases main b o e with z|⟨zT,rfl,more,z⟩
     ·exact .inl z
     ·exact .inr (.inl ⟨hct b zT,rfl,_,_,rfl,z⟩)
    ·rcases main b o e with z|⟨_,_,more,z⟩
     ·exact⟨_,z⟩
     ·exact⟨_,z⟩
 cases hk:K.lookup a with
 |some o=>
  have e:=KX a o hk;rw[ha] at e;cases e;refine core (fun b=>if b∈ts then some (.tbl #[]) else none) (fun b=>?_) (fun T h=>if_pos h) (.inr ⟨_,vs.toArray,_,hk,rfl,rfl,rfl,by rw[ai',lenV];exact hl,by simpa using rv⟩) (fun b u z=>?_) (fun b z=>?_) fun z=>absurd (if_neg fun q=>aT q rfl) z
  ·by_cases hb:b∈ts
   ·exact .inr (.inl ⟨hb,if_pos hb⟩)
   ·exact .inl (if_neg hb)
  ·by_cases hb:b∈ts
   ·have z':=(if_pos hb).symm.trans z;cases z';exact eT b hb
   ·have z':=(if_neg hb).symm.trans z;cases z'
  ·by_cases hb:b∈ts
   ·exact .inr hb
   ·exact absurd (if_neg hb) z
 |none=>
  have T2:∀{b:Addr},b∈ts->(fun b=>if b∈ts then some (.tbl #[]) else if b=a then some (HO.frz { cls:=.type "list",data:=.seq vs.toArray } (.lst (ns.map V.int))) else none) b=some (.tbl #[]):=fun {b} hb=>if_pos hb;refine core (fun b=>if b∈ts then some (.tbl #[]) else if b=a then some (.frz { cls:=.type "list",data:=.seq vs.toArray } (.lst (ns.map V.int))) else none) (fun b=>?_) (fun T h=>if_pos h) (.inl (.inr ⟨{ cls:=.type "list",data:=.seq vs.toArray },(if_neg fun q=>aT q rfl).trans (if_pos rfl)⟩)) (fun b u z=>?_) (fun b z=>?_) fun _=>hk
  ·by_cases hb2:b∈ts
   ·exact .inr (.inl ⟨hb2,if_pos hb2⟩)
   ·by_cases hb:b=a
    ·exact .inr (.inr ⟨hb2,_,_,(if_neg hb2).trans (if_pos hb)⟩)
    ·exact .inl ((if_neg hb2).trans (if_neg hb))
  ·by_cases hb2:b∈ts
   ·have z':=(if_pos hb2).symm.trans z;cases z';exact eT b hb2
   ·by_cases hb:b=a
    ·have z':=((if_neg hb2).trans (if_pos hb)).symm.trans z;cases z';subst hb;exact⟨ha,by rw[aa'];exact hl,vs,_,rv,ha⟩
    ·have z':=((if_neg hb2).trans (if_neg hb)).symm.trans z;cases z'
  ·by_cases hb2:b∈ts
   ·exact .inr hb2
   ·by_cases hb:b=a
    ·exact .inl hb
    ·exact absurd ((if_neg hb2).trans (if_neg hb)) z
theorem fn_{K:F__}{T:Addr}(h:T∉K.map (·.1)):K.lookup T=none:=by
 induction K with
 |nil=>rfl
 |cons p K ih=>
  obtain⟨b,o⟩:=p;simp only[ar',ah',not_or] at h;rw[aP',show (T == b)=false by simpa using h.1];exact ih h.2
theorem walk_ofT{l:PySem.W.OpenLaw}{n k:Nat}{q:Program}{loose:List Str}{XP:(Str->Option Value)->Heap->Prop}{d:DefRec}{K:Params->F__}{as ts:List Addr}{eas:∀P:Params,as=(K P).map (·.1)}{CX:World->CXT}{sp:World->Sp}{x:Str}
  (hn:l.most=some n) (hn2:n<=sizeLine) (hdf:d.params.defaults=[]) (hr:Room k callerA)
  (hts:(ts.all fun T=>!as.contains T)=true)
  (F:∀(w:World) (mg:Str->Option Value) (fa:Addr) (h:Heap),(K w.params).In h->h.Ns mainGlobals mg->mg d.name=some (.ref fa)->
   ∃fd:FuncData,(∀(s:Shared) (u:Value),BindsTo s fd ⟨[u],[]⟩ [(x,u)])/\(∀T∈ts,isCodeTable h T) /\
    ∀base:Heap,(K w.params).In base->base.Ns mainGlobals mg->(∀T∈ts,base.BuiltinsAt mg T)->FnOk l.prog w (K w.params) mg base (CX w) k fa fd [x] (sp w))
  (hsp:∀(w:World) (H:Hp) (a:Addr) (ns:List Int),ns.length<=n->(∀T∈ts,H T=some (.tbl #[]))->SqL (K w.params) H a (ns.map V.int)->sp w [.ref a] H (fun v _=>v=.bl true) fun _ _ _=>False)
  (hCX:∀(w:World) (H:Hp) (s:Shared) (e:Value) (s':Shared),CX w [] H s (fun _ _ _=>False) e s'->False) :
  PySem.W.WalkO q loose XP (kmHook K as eas ts).says l.row.toRowW d [] (fun f vs=>PySem.call f vs):=by
 refine Att.attach_call hn hdf fun w s₀ s₁ mg mb fa o pm cd doc a vs ns G Y ho hd hcd hmg hobj hints hlen hg=>?_;have KX:(K w.params).In s₁.heap:=km_in_of Y;have eT:∀T∈ts,s₁.heap.get? T=some (tabObj #[]):=Y.2;obtain⟨fd,hb,hct,hF⟩:=F w mg fa _ KX G.T.g hmg;refine gk_ (fun T h=>fn_ ?_) eT hct KX G.T.g G.T.b G.T.builtins G.T.nolimit hg hobj hints (aW' hlen hn2) hr G.T.bmain hF hb (fun H hO hS=>hsp w H a ns hlen hO hS) fun H e s'=>hCX w H s₁ e s';have:=List.all_eq_true.mp hts T h;rw[<- eas w.params];simpa using this
end L2
namespace L2
open PySem PySem.Spec PyProof.Rows
section
variable{X:Cx}
end
open PySem.W in
def bH':List (Pos × Addr)->List Value
 |[]=>[]
 |(p,c)::es=>rawInt p.line::rawInt p.col::.ref c::bH' es
def bu'(H:Hp)(T:Addr)(qual:Str):Prop:=∃es:List (Pos × Addr),H T=some (.tbl (bH' es).toArray)/\∀e∈es,H e.2=some (cL' e.2 qual)
theorem bu'.same{H H':Hp}{T:Addr}{qual:Str}(s:Same H H')(h:bu' H T qual):bu' H' T qual:=by
 obtain⟨es,a,b⟩:=h;exact⟨es,s _ _ a,fun e he=>s _ _ (b e he)⟩
theorem f5_:∀es:List (Pos × Addr),TriplesOk (bH' es)
 |[]=>trivial
 |(p,c)::es=>by
  have:=f5_ es;simp[bH',TriplesOk,rawInt,this]
theorem e5_:∀(es:List (Pos × Addr)) (p:Pos) (c:Addr),bH' (es++[(p,c)])=bH' es++[rawInt p.line,rawInt p.col,.ref c]
 |[],p,c=>rfl
 |(p',c')::es,p,c=>by
  show rawInt p'.line::rawInt p'.col::.ref c'::bH' (es++[(p,c)])=_;rw[e5_ es p c];rfl
theorem cA_(pos:Pos):∀es:List (Pos × Addr),codeAmong pos (bH' es)=none∨∃e∈es,codeAmong pos (bH' es)=some (.ref e.2)
 |[]=>.inl rfl
 |(p,c)::es=>by
  by_cases h:codeAmong pos (bH' ((p,c)::es))=some (.ref c)
  ·exact .inr ⟨(p,c),aj',h⟩
  ·have e:codeAmong pos (bH' ((p,c)::es))=codeAmong pos (bH' es):=by
    show codeAmong pos (rawInt p.line::rawInt p.col::.ref c::bH' es)=_;have h:¬codeAmong pos (rawInt p.line::rawInt p.col::.ref c::bH' es)=some (.ref c):=h;simp only[codeAmong,rawInt] at h ⊢;split at h
    ·exact absurd rfl h
    ·rename_i q
     rw[if_neg q]
   rcases cA_ pos es with q|⟨x,hx,q⟩
   ·exact .inl (e.trans q)
   ·exact .inr ⟨x,ag' _ hx,e.trans q⟩
end L2
namespace L2
open PySem PySem.Spec PyProof.Rows PySem.W EvS
section
variable{X:Cx}{pins:List (Addr × Obj)}{σ:St}{H:Hp}{s:Shared}
theorem Inv.trackL{h':Heap}{t':Nat}{fp:List Addr}{T:Addr}{ys:List V}{its:List Value}{n:Nat}(I:Inv X pins σ H s)(k:∀b o,b∉fp->s.heap.get? b=some o->h'.get? b=some o)(hf:∀b∈fp,FpOk X pins H b)
  (hT:T∈fp) (hz:ys.length<=sizeLine) (r:Vals ys its) (ht:h'.get? T=some { cls:=.type "list",data:=.seq its.toArray n }):Inv X pins σ (upd H T (.lst ys)) { s with heap:=h',toks:=t' }:=by
 have fT:H T=none:=(hf T hT).1;have nf:∀b u,H b=some u->b∉fp:=fun b u e hb=>by rw[(hf b hb).1] at e;cases e
 have old:∀{b u},H b=some u->upd H T (.lst ys) b=some u:=fun e=>by rw[a4_ (a6_ e fT)];exact e
 refine I.step (g':=s.gens) (d':=s.drawn) (ch:=fp) (fun b hb=>?_) (fun b o _ _ hc e _=>k b o hc e) (fun b o _ _ hc e _=>⟨o.slots,k b o hc e⟩) (fun b o hc e n=>?_)
  (fun b o hc e=>⟨o,k b o hc e⟩) (fun b ys e=>old e) (fun b o u e=>old e) (fun b ps e=>⟨#[],by rw[Array.append_empty];exact old e⟩) (fun m hm=>?_) (fun b u e=>?_) I.bare
 ·obtain⟨f0,f1,f2,f3,f4,f5⟩:=hf b hb;exact⟨f3,f1,f4,f5⟩
 ·rw[a4_ (fun z=>hc (by rw[z];exact hT))];exact n
 ·obtain⟨o,es,ep,ho,r⟩:=hm;exact⟨o,es,ep,k _ o (fun hb=>(hf _ hb).2.1 rfl) ho,r⟩
 ·by_cases z:b=T
  ·subst z;rw[a1_] at e;cases e;exact⟨hz,its,n,r,ht⟩
  ·rw[a4_ z] at e;refine (I.hok b u e).stay (fun c v hc q=>k c v ?_ q) (fun _ q=>old q) fun _ _ q=>old q;rcases hc with z|z
   ·rw[z];exact nf b u e
   ·exact nf c _ z
theorem FpOk.at{H':Hp}{b:Addr}(f:FpOk X pins H b)(n:H' b=none):FpOk X pins H' b:=⟨n,f.2⟩
def KeyOf(X:Cx)(σ:St)(B:Around)(fv:Value)(H0:Hp)(kf:V->List Key)(xs:List V):Prop:=
 ∀(pins:List (Addr × Obj)) (H:Hp) (s:Shared) (x:V) (u:Value),Inv X pins σ H s->Same H0 H->x∈xs->RelV x u->
  wpAny (model X.prog X.w) B (call fv [u]) (EP X pins σ fun v H'=>Same H H'/\∃t,v=.ref t/\H' t=some (.tup ((kf x).map kV))) (fun _ _=>False) s
theorem jv_{B:Around}{fv:Value}{a kS:Addr}{e1:Nat}{H0:Hp}{kf:V->List Key}{all:List V}{Q:PUnit->Shared->Prop}{E:Value->Shared->Prop}{body:Value->PUnit->Sem (ForInStep PUnit)}(hne:a≠kS)(call1:KeyOf X σ B fv H0 kf all)
  (hb:∀(u:Value) (s:Shared) (Qb:ForInStep PUnit->Shared->Prop),wpAny (model X.prog X.w) B (call fv [u]) (fun k s'=>wpAny (model X.prog X.w) B (Builtin.List.listUpdate (.ref kS) (·.push k)) (fun _ s''=>Qb (.yield ⟨⟩) s'') E s') (fun _ _=>False) s->wpAny (model X.prog X.w) B (body u ⟨⟩) Qb E s) :
  ∀(xs:List V) (us:List Value) (ks:List V) (kvs:List Value) (kk:List (List Key)) (H:Hp) (s:Shared) (c:Nat),Vals xs us->(∀x∈xs,x∈all)->Inv X pins σ H s->Same H0 H->FpOk X pins H a->FpOk X pins H kS->s.heap.get? a=some (seqObj "list" #[] e1)->s.heap.get? kS=some (seqObj "list" kvs.toArray c)->
   Vals ks kvs->a5' X.K H ks kk->kvs.length+us.length<64->
   (∀H' s' kvs' c',Inv X pins σ H' s'->Same H0 H'->FpOk X pins H' a->FpOk X pins H' kS->s'.heap.get? a=some (seqObj "list" #[] e1)->s'.heap.get? kS=some (seqObj "list" kvs'.toArray c')->kvs'.length=kvs.length+us.length->(∃ks',Vals ks' kvs'/\a5' X.K H' ks' (kk++xs.map kf))->Q ⟨⟩ s')->
   wpAny (model X.prog X.w) B (forIn us PUnit.unit body) Q E s:=by
 intro xs
 induction xs with
 |nil=>
  intro us ks kvs kk H s c rv _ I sm fa fk ha hk r t _ q;cases rv;rw[List.forIn_nil];exact wpAny_pure (q H s kvs c I sm fa fk ha hk (by simp) ⟨ks,r,by simpa using t⟩)
 |cons x xs ih=>
  intro us ks kvs kk H s c rv hx I sm fa fk ha hk r t hz q
  obtain⟨u,us,rfl,ru,rr⟩:∃u us',us=u::us'/\RelV x u/\Vals xs us':=by
   cases rv with
   |cons h t=>exact⟨_,_,rfl,h,t⟩
  rw[List.forIn_cons];rw[aC'] at hz;refine wpAny_bind (hb u s _ ?_)
  have hf:∀b∈[a,kS],FpOk X pins H b:=fun b hb=>by
   rcases ah'.mp hb with rfl|hb
   ·exact fa
   ·obtain rfl:b=kS:=by simpa using hb
    exact fk
  have I1:=I.pinned (fp:=[a,kS]) hf (fun b hb=>by
   rcases ah'.mp hb with rfl|hb
   ·exact⟨_,ha,fun v z=>by cases z⟩
   ·obtain rfl:b=kS:=by simpa using hb
    exact⟨_,hk,fun v z=>by cases z⟩)
  refine wpAny_mono (call1 _ H s x u I1 sm (hx x aj') ru) (fun k s1 ⟨v,H1,J,rv,s01,tk,ev,etk⟩=>?_) fun _ _ z=>z
  have pa:(a,seqObj "list" #[] e1)∈bL' [a,kS] s.heap:=by
   unfold bL';exact aN'.mpr ⟨a,by simp,by rw[ha];rfl⟩
  have pk:(kS,seqObj "list" kvs.toArray c)∈bL' [a,kS] s.heap:=by
   unfold bL';exact aN'.mpr ⟨kS,by simp,by rw[hk];rfl⟩
  obtain⟨ha1,na1,_⟩:=J.pin _ (aA' _ (aA' _ pa));obtain⟨hk1,nk1,_⟩:=J.pin _ (aA' _ (aA' _ pk));have ha1:s1.heap.get? a=some (seqObj "list" #[] e1):=ha1;have hk1:s1.heap.get? kS=some (seqObj "list" kvs.toArray c):=hk1;have J0:=J.unpinned;have fa1:=fa.at (H':=H1) na1;have fk1:=fk.at (H':=H1) nk1;have l64:kvs.length<64:=by omega
  refine listUpdate_at hk1 rfl ?_ (by rw[ai',sizeLine_eq];omega) (aW' (Nat.le_of_eq (Array.size_push ..)) (by rw[ai',sizeLine_eq];omega));have oth:∀b o,b∉[kS]->s1.heap.get? b=some o->(s1.heap.update kS (Obj.mapSeq (·.push k))).get? b=some o:=fun b o hb e=>(Heap.get?_update_other _ _ (fun z=>hb (by simp[z]))).trans e;have ea:kvs.toArray.push k=(kvs++[k]).toArray:=by simp
  obtain⟨c2,hc2⟩:∃c2,(s1.heap.update kS (Obj.mapSeq (·.push k))).get? kS=some (seqObj "list" (kvs++[k]).toArray c2):=⟨_,by rw[<- ea];exact get?_update_seq hk1 (·.push k)⟩
  have I2:Inv X pins σ H1 { s1 with heap:=s1.heap.update kS (Obj.mapSeq (·.push k)) }:=J0.turnedF (t':=s1.toks) (fp:=[kS]) oth (fun b hb=>by
   obtain rfl:b=kS:=by simpa using hb
   exact fk1)
  subst ev;refine ih us (ks++[.ref tk]) (kvs++[k]) (kk++[kf x]) H1 _ c2 rr (fun y hy=>hx y (ag' _ hy)) I2 (sm.trans s01) fa1 fk1 ?_ hc2 (r.append (.cons rv .nil)) ?_ (by rw[ap',List.length_singleton];omega) fun H' s' kvs' c' a1 a2 a3 a4 a5 a6 a7 a8=>?_
  ·exact oth a _ (by simpa using hne) ha1
  ·exact Paired.snoc (t.same s01) ⟨tk,rfl,etk⟩
  ·refine q H' s' kvs' c' a1 a2 a3 a4 a5 a6 (by rw[a7,ap',List.length_singleton,aC'];omega) ?_;obtain⟨ks',b1,b2⟩:=a8;exact⟨ks',b1,by simpa using b2⟩
end
section
variable{X:Cx}{pins:List (Addr × Obj)}{σ:St}{H:Hp}{s:Shared}{B:Around}
theorem jt_{xs zs:List V}{kf:V->List Key}{p:Array Nat}(g:Good xs.length p)(up:Up (fun i j=>lexK ((xs.map kf).getD i []) ((xs.map kf).getD j [])) p xs.length)(ez:zs=p.toList.map fun i=>xs.getD i .non):zs.Perm xs/\zs.map kf=sortKs (xs.map kf):=by
 have gk:Good (xs.map kf).length p:=by rw[aa'];exact g
 have asc:=ep_ (ks:=xs.map kf) (fun i j _ _=>rfl) gk (by rw[aa'];exact up)
 have perm:(p.toList.map fun i=>(xs.map kf).getD i []).Perm (xs.map kf):=by
  have:=b9_ gk fun i=>(xs.map kf).getD i [];rwa [aZ_] at this
 have es:=cy_ perm asc;refine⟨?_,?_⟩
 ·have:=b9_ (n:=xs.length) g fun i=>xs.getD i .non;rw[aZ_] at this;rw[ez];exact this
 ·rw[<- es,ez,ao'];refine aF' fun i hi=>?_;have m:i∈(List.range xs.length).toArray:=g.mem_iff.mp (by simpa using hi);have m:i<xs.length:=by simpa using m
  show kf (xs.getD i .non)=(xs.map kf).getD i [];simp[List.getD,m]
theorem gL_{f a:Addr}{xs:List V}{us:List Value}{n:Nat}{P:PySem.Fin->Shared->Prop}{E:Value->Shared->Prop}{kf:V->List Key}{sh:List Bool}(I:Inv X pins σ H s)(fa:FpOk X pins H a)(ho:s.heap.get? a=some (seqObj "list" us.toArray n))(r:Vals xs us)(h64:us.length<64)(al:cz' (xs.map kf) sh)(call1:KeyOf X σ B (.ref f) H kf xs)
  (h:∀zs H' s',Inv X pins σ (upd H' a (.lst zs)) s'->Same H H'->H' a=none->zs.Perm xs->zs.map kf=sortKs (xs.map kf)->P (.done (.ret .none)) s'):wpAny (model X.prog X.w) B (ksk_tree a (.ref f) false) P E s:=by
 have lx:=r.length;obtain⟨e1,ho1⟩:∃e1,(s.heap.update a (Obj.mapSeq fun _=>(#[]:Array Value))).get? a=some (seqObj "list" #[] e1):=⟨_,get?_update_seq ho fun _=>#[]⟩;have oth:∀b o,b∉[a]->s.heap.get? b=some o->(s.heap.update a (Obj.mapSeq fun _=>(#[]:Array Value))).get? b=some o:=fun b o hb e=>(Heap.get?_update_other _ _ (fun z=>hb (by simp[z]))).trans e
 have I1:Inv X pins σ H { s with heap:=s.heap.update a (Obj.mapSeq fun _=>(#[]:Array Value)) }:=I.turnedF (t':=s.toks) (fp:=[a]) oth (fun b hb=>by
  obtain rfl:b=a:=by simpa using hb
  exact fa)
 unfold ksk_tree;refine wpAny_bind (listItems_at ho rfl ?_);refine wpAny_bind (listUpdate_at ho rfl ?_ (by rw[ai',sizeLine_eq];omega) (aE' _));refine wpAny_bind (seqEpoch_at ho1 rfl ?_);refine wpAny_bind (wpAny_newTuple ?_ (by show us.length<=_;rw[sizeLine_eq];omega));refine wpAny_bind (wpAny_newList ?_ (aE' _));refine wpAny_holding ?_;have I2:Inv X pins σ H { s with heap:=(s.heap.update a (Obj.mapSeq fun _=>(#[]:Array Value))).push (seqObj "tuple" us.toArray 0) }:=I1.kept (t':=s.toks) fun b u e=>Heap.get?_push_of_some _ e;have I3:Inv X pins σ H { s with heap:=((s.heap.update a (Obj.mapSeq fun _=>(#[]:Array Value))).push (seqObj "tuple" us.toArray 0)).push (seqObj "list" #[] 0) }:=I2.kept (t':=s.toks) fun b u e=>Heap.get?_push_of_some _ e;have fk:FpOk X pins H ((s.heap.update a (Obj.mapSeq fun _=>(#[]:Array Value))).push (seqObj "tuple" us.toArray 0)).objs.size:=I2.fpOk (af' _) (I2.hok.fresh (af' _));have ha3:(((s.heap.update a (Obj.mapSeq fun _=>(#[]:Array Value))).push (seqObj "tuple" us.toArray 0)).push (seqObj "list" #[] 0)).get? a=some (seqObj "list" #[] e1):=Heap.get?_push_of_some _ (Heap.get?_push_of_some _ ho1);have hk3:(((s.heap.update a (Obj.mapSeq fun _=>(#[]:Array Value))).push (seqObj "tuple" us.toArray 0)).push (seqObj "list" #[] 0)).get? ((s.heap.update a (Obj.mapSeq fun _=>(#[]:Array Value))).push (seqObj "tuple" us.toArray 0)).objs.size=some (seqObj "list" #[] 0):=Heap.get?_push_size _ rfl;have hne:a≠((s.heap.update a (Obj.mapSeq fun _=>(#[]:Array Value))).push (seqObj "tuple" us.toArray 0)).objs.size:=av' (Heap.lt_size (Heap.get?_push_of_some (seqObj "tuple" us.toArray 0) ho1));show wpAny (model X.prog X.w) B (ksk_rest a (.ref f) false us.toArray e1 (.ref ((s.heap.update a (Obj.mapSeq fun _=>(#[]:Array Value))).push (seqObj "tuple" us.toArray 0)).objs.size)) P E { s with heap:=((s.heap.update a (Obj.mapSeq fun _=>(#[]:Array Value))).push (seqObj "tuple" us.toArray 0)).push (seqObj "list" #[] 0) };generalize ((s.heap.update a (Obj.mapSeq fun _=>(#[]:Array Value))).push (seqObj "tuple" us.toArray 0)).objs.size=kS at fk hk3 hne ⊢;generalize ((s.heap.update a (Obj.mapSeq fun _=>(#[]:Array Value))).push (seqObj "tuple" us.toArray 0)).push (seqObj "list" #[] 0)=h3 at I3 ha3 hk3 ⊢;clear I2 I1 oth;unfold ksk_rest;refine wpAny_bind (wpAny_rule ?_);rw[List.forIn_toArray];refine wpAny_bind (jv_ (pins:=pins) (E:=E) (e1:=e1) hne call1 (fun u s4 Qb hq=>?_) xs us [] [] [] H _ 0 r (fun x hx=>hx) I3 (Same.refl H) fa fk ha3 hk3 .nil .nil (by simpa using h64) fun H5 s5 kvs c5 I5 sm5 fa5 fk5 ha5 hk5 lk ⟨ks,rk,tk⟩=>?_)
 ·refine wpAny_bind (wpAny_attempt (wpAny_mono hq (fun k s'' hk=>?_) fun _ _ hF=>hF.elim));exact wpAny_bind (wpAny_mono hk (fun _ s6 h6=>wpAny_pure h6) fun _ _ z=>z)
 rw[List.nil_append] at tk;rw[a1',Nat.zero_add] at lk;refine wpAny_bind (listItems_at hk5 rfl ?_)
 have tail:∀(p:Array Nat) (st:SortSt),Good xs.length p->Up (fun i j=>lexK ((xs.map kf).getD i []) ((xs.map kf).getD j [])) p xs.length->(arrOf st).map (·.2)=(bI' p us).toArray->failedOf st=none->wpAny (model X.prog X.w) B (ksk_tail a false e1 (.ref kS) st) P E s5:=fun p st g up hout hfl=>by
  have gu:Good us.length p:=by rw[<- lx];exact g
  have hz:(bI' p us).length=us.length:=by
   unfold bI';rw[aa',aL'];exact gu.size
  have s1:=Heap.SameBut.update s5.heap kS (Obj.mapSeq fun _=>(#[]:Array Value));have ha6:(s5.heap.update kS (Obj.mapSeq fun _=>(#[]:Array Value))).get? a=some (seqObj "list" #[] e1):=(Heap.get?_update_other _ _ (Ne.symm hne)).trans ha5;unfold ksk_tail;dsimp only;rw[hout];refine wpAny_bind (listUpdate_at hk5 rfl ?_ (by rw[ai',sizeLine_eq];omega) (aE' _));refine wpAny_bind (wpAny_letGo ?_);refine wpAny_bind (seqEpoch_at ha6 rfl ?_);simp only[aT',if_false];refine wpAny_bind (listUpdate_at ha6 rfl ?_ (aE' _) (by rw[ai',hz,sizeLine_eq];omega));rw[hfl];simp only[bne_self_eq_false,aT',if_false]
  have zl:(p.toList.map fun i=>xs.getD i .non).length<=sizeLine:=by
   rw[aa',aL',g.size,sizeLine_eq];omega
  obtain⟨pz,ek⟩:=jt_ (zs:=p.toList.map fun i=>xs.getD i .non) g up rfl;refine wpAny_pure (h _ H5 _ (I5.trackL (t':=s5.toks) (fp:=[a,kS]) (T:=a) (fun b o hb e=>?_) (fun b hb=>?_) (by simp) zl (dp_ r gu) (get?_update_seq ha6 _)) sm5 fa5.1 pz ek)
  ·have n1:b≠a:=fun z=>hb (by simp[z]);have n2:b≠kS:=fun z=>hb (by simp[z]);exact (Heap.get?_update_other _ _ (Ne.symm n1)).trans ((Heap.get?_update_other _ _ (Ne.symm n2)).trans e)
  ·rcases ah'.mp hb with rfl|hb
   ·exact fa5
   ·obtain rfl:b=kS:=by simpa using hb
    exact fk5
 unfold ksk_end;dsimp only;simp only[aT',if_false];by_cases h2:us.toArray.size<2
 ·rw[if_pos h2,if_pos h2];refine wpAny_bind (wpAny_pure ?_);rw[StateT.run_pure];refine wpAny_bind (wpAny_pure (tail (List.range xs.length).toArray _ (Array.Perm.refl _) (fun i j hij hj=>?_) ?_ rfl))
  ·have e:i=j:=by
    simp only[ai'] at h2;omega
   subst e;exact bU_ _
  ·show ((kvs.toArray.zip us.toArray).map fun x:Keyed=>x.2)=_;rw[show xs.length=us.length from lx,cF_];apply Array.ext';simp[List.map_snd_zip,lk]
 ·rw[if_neg h2,if_neg h2]
  have h2':2<=us.length:=by
   simp only[ai'] at h2;omega
  obtain⟨κ,hk,hc⟩:=dH_ (A:=B) (s':=s5) I5 rk tk al (by omega) (fun _ _ e=>e);refine wpAny_bind (wpAny_mono (hk (fun k s'=>k=κ/\s'=s5) ⟨rfl,rfl⟩) (fun k s7 hks=>?_) fun _ _ x=>x.elim);obtain⟨rfl,rfl⟩:=hks;have O:Ord (fun i j=>lexK ((xs.map kf).getD i []) ((xs.map kf).getD j [])):=di_ _
  refine wpAny_bind (wpAny_mono (kat_run (ks:=kvs) (vs:=us) (G:=fun p s'=>s'=s7/\Good us.length p/\Up (fun i j=>lexK ((xs.map kf).getD i []) ((xs.map kf).getD j [])) p us.length)
   (Q:=fun st' s'=>∃p:Array Nat,arrOf st'=p.map (kas_item (kvs.toArray.zip us.toArray))/\failedOf st'=none/\s'=s7/\Good us.length p/\Up (fun i j=>lexK ((xs.map kf).getD i []) ((xs.map kf).getD j [])) p us.length)
   lk h2' h64 (fun p st' s' _ q1 q2 q3=>⟨p,q1,q2,q3⟩) (Ok.wp (n:=us.length) (fun i j C hi hj=>hc i j C (by omega) (by omega)) (fun p q=>⟨rfl,q⟩) (fS_ O (by omega)))) ?_ fun _ _ x=>x)
  rintro⟨⟨⟩,st'⟩ s' ⟨p,har,hf,hs',g,u⟩;subst hs';rw[<- lx] at g u;exact tail p st' g u (kat_snds lk har) hf
end
end L2
namespace L2
open PySem PySem.Spec PyProof.Rows PySem.W EvS
section
variable{X:Cx}{pins:List (Addr × Obj)}{σ:St}{H:Hp}{s:Shared}
theorem Inv.cellsAre{fvs:List Str}{cl:List (Str × Addr)}{is:List Nat}{gs:List V}(I:Inv X pins σ H s)(hin:∀q∈cl,X.env.cells.lookup q.1=some q.2)(hcl:∀x∈fvs,∃c,cl.lookup x=some c)(hkd:∀x∈fvs,X.env.scope.names.lookup x=some .cell)(hN:is.map (fun i=>X.N[i]?)=fvs.map some)
  (hgs:is.map (fun i=>σ[i]?)=gs.map (fun v=>some (some v))):gs.length=fvs.length/\b3' fvs cl gs s.heap/\∀x c,cl.lookup x=some c->H c=none:=by
 have lk:∀{x c},cl.lookup x=some c->(x,c)∈cl:=fun e=>PySem.mem_of_lookup e;refine⟨?_,⟨fun a b c h1 h2=>I.ok.inj a b c (hin _ (lk h1)) (hin _ (lk h2)),hcl,fun a c h1=>I.cell a c (hin _ (lk h1)),fun j a v h1 h2=>?_⟩,fun x c e=>I.freeC x c (hin _ (lk e))⟩
 ·have a:=congrArg List.length hgs;have b:=congrArg List.length hN;simp only[aa'] at a b;omega
 ·obtain⟨c,hc⟩:=hcl a (ae' h1);have e1:(is.map fun i=>X.N[i]?)[j]? = some (some a):=by rw[hN,al',h1];rfl
  have e2:(is.map fun i=>σ[i]?)[j]? = some (some (some v)):=by rw[hgs,al',h2];rfl
  rw[al'] at e1 e2;obtain⟨i,hi,e1⟩:=Option.map_eq_some_iff.mp e1;rw[hi] at e2;have e2:σ[i]? = some (some v):=Option.some.inj e2;obtain⟨m,_,hl⟩:=I.loc;have kd:=hkd a (ae' h1);obtain⟨u,ru,lo⟩:=hl i a v e1 e2 (.inr (.inl kd));rcases lo with⟨z,_⟩|⟨_,c2,e3,o,e4,e5⟩
  ·have z:X.env.scope.names.lookup a=some .local:=z;rw[kd] at z;cases z
  ·rw[hin _ (lk hc)] at e3;cases e3;exact⟨c,u,hc,ru,o,e4,e5⟩
theorem jD_{B:Around}{k:Nat}{qual:Str}{params:Arguments}{body:PySem.Expr}{scope:Scope}{p:Str}{fvs:List Str}{sp:List V->List V->Hp->VK->XK->Prop}{f c':Addr}{cl:List (Str × Addr)}{is:List Nat}{gs xs:List V}{kf:V->List Key}{H0:Hp}(F:LamOk X.prog X.w X.K X.mg X.base k qual params body scope [p] fvs sp)(hr:Room k B)(hB:B.frames=X.A.frames)
  (hf:H0 f=some (lamH f qual params body scope cl c')) (hc:H0 c'=some (cL' c' qual)) (hin:∀q∈cl,X.env.cells.lookup q.1=some q.2) (hcl:∀x∈fvs,∃c,cl.lookup x=some c) (hkd:∀x∈fvs,X.env.scope.names.lookup x=some .cell) (hN:is.map (fun i=>X.N[i]?)=fvs.map some) (hgs:is.map (fun i=>σ[i]?)=gs.map (fun v=>some (some v)))
  (hsp:∀H x,Same H0 H->x∈xs->sp [x] gs H (fun v H'=>Same H H'/\∃t,v=.ref t/\H' t=some (.tup ((kf x).map kV))) (fun _ _ _=>False)):KeyOf X σ B (.ref f) H0 kf xs:=by
 intro pins H s x u I sm hx ru;obtain⟨⟨pm,ctv,ef⟩,_⟩:=I.hok f _ (sm _ _ hf);obtain⟨⟨oc,vs',t,ec,d1,d2⟩,_⟩:=I.hok c' _ (sm _ _ hc);obtain⟨hg,C,fc⟩:=I.cellsAre hin hcl hkd hN hgs;have e0:=I.env0;refine wpAny_call (codeAny_mono (F B X.stack s H f c' pm ctv cl [u] [x] gs _ _ hr ⟨hB.trans e0.frames,e0.mod,e0.bs,e0.bsz,e0.funs,e0.frf,e0.hok,e0.bare⟩ ef ⟨c',oc,vs',t,rfl,ec,d1,d2⟩ rfl hg (.cons ru .nil) C fc (hsp H x sm hx)) fun r s' hq=>?_);cases r with
 |error e=>
  obtain⟨a,cls,H',B,a0,dd,rfl,os,bare,un,hok,fl,i,hE⟩:=hq;exact hE.elim
 |ok fl=>
  cases fl with
  |ret u=>exact I.after hq
  |next=>exact False.elim hq
  |brk=>exact False.elim hq
  |cont=>exact False.elim hq
theorem sortedK{f:Addr}{x:Value}{xs:List V}{kf:V->List Key}{sh:List Bool}{Q:VK}{E:Value->Shared->Prop}(I:Inv X pins σ H s)(h64:xs.length<64)(al:cz' (xs.map kf) sh)(call1:KeyOf X σ X.A.in1.in1 (.ref f) H kf xs)
  (hcol:∀R:List Value->Shared->Prop,(∀vs s1,Inv X pins σ H s1->Vals xs vs->R vs s1)->wpAny (model X.prog X.w) X.A.in1 (collect x) R E s)
  (q:∀l zs H',Same H H'->H' l=none->H l=none->zs.Perm xs->zs.map kf=sortKs (xs.map kf)->Q (.ref l) (upd H' l (.lst zs))):wpAny (model X.prog X.w) X.A (call (.builtin "sorted") [x] [(Str.ofString "key",.ref f)]) (EP X pins σ Q) E s:=by
 refine call_function_entry_kw kind_sorted plain_sorted entry_sorted (ksk_s1 _ _) ?_;unfold Builtin.«sorted»;refine wpAny_bind (m:=checkCount "sorted" 1 1 _) (wpAny_pure ?_);refine wpAny_bind (hcol _ fun vs s1 I1 r=>?_);have lv:=r.length;refine wpAny_bind (wpAny_newList ?_ (by rw[sizeLine_eq];omega));have hoL:(s1.heap.push (seqObj "list" vs.toArray 0)).get? s1.heap.objs.size=some (seqObj "list" vs.toArray 0):=Heap.get?_push_size _ rfl;have I2:Inv X pins σ H { s1 with heap:=s1.heap.push (seqObj "list" vs.toArray 0) }:=I1.kept (t':=s1.toks) fun b u e=>Heap.get?_push_of_some _ e;have fa:FpOk X pins H s1.heap.objs.size:=I1.fpOk (af' _) (I1.hok.fresh (af' _));have nl:H s1.heap.objs.size=none:=I1.hok.fresh (af' _);refine wpAny_bind (wpAny_holding (wpAny_call_entry_kw slot_list_sort ⟨_,hoL,rfl⟩ entry_list_sort ?body (ksk_l1 _ _)))
 case body=>
  show wpAny (model X.prog X.w) X.A.in1.in1 (Builtin.«list.sort» ⟨[.ref s1.heap.objs.size],[(Str.ofString "key",.ref f)]⟩) _ _ _;rw[ksk_t1];refine gL_ (s:={ s1 with heap:=s1.heap.push (seqObj "list" vs.toArray 0) }) I2 fa hoL r (by omega) al call1 fun zs H' s' I' sm na pz ek=>?_;exact⟨_,rfl,wpAny_pure ⟨_,rfl,.ref _,_,I',rfl,q _ zs H' sm na nl pz ek⟩⟩
end
def SrcK(K:F__)(H:Hp)(x:V)(xs:List V):Prop:=(∃l,x=.ref l/\SqL K H l xs)∨∃d kvs,x=.ref d/\H d=some (.dK kvs)/\xs=kvs.map fun kv=>kV kv.1
def tSortK(K:F__)(qual:Str)(params:Arguments)(body:PySem.Expr)(scope:Scope)(cl:List (Str × Addr))(is:List Nat)(sp:List V->List V->Hp->VK->XK->Prop)(t tk:TA):TE:=fun σ H Q=>t σ H fun vs H1=>tk σ H1 fun ws H2=>∃x f c' xs kf sh gs,vs=[x]/\ws=[.ref f]/\H2 f=some (lamH f qual params body scope cl c')/\H2 c'=some (cL' c' qual)/\SrcK K H2 x xs/\xs.length<64/\cz' (xs.map kf) sh /\
 is.map (fun i=>σ[i]?)=gs.map (fun v=>some (some v))/\(∀H x,Same H2 H->x∈xs->sp [x] gs H (fun v H'=>Same H H'/\∃t,v=.ref t/\H' t=some (.tup ((kf x).map kV))) (fun _ _ _=>False)) /\
 ∀l zs H',Same H2 H'->H' l=none->H2 l=none->zs.Perm xs->zs.map kf=sortKs (xs.map kf)->Q (.ref l) (upd H' l (.lst zs))
theorem h3_{X:Cx}{e:PySem.Expr}{t tk:TA}{p pos kp lpos:Pos}{k:Nat}{params:Arguments}{body:PySem.Expr}{scope:Scope}{px:Str}{fvs:List Str}{qual:Str}{sp:List V->List V->Hp->VK->XK->Prop}{cl:List (Str × Addr)}{is:List Nat}(hc:X.calm=true)(hg:Gl X "sorted")(hm:X.mg "sorted"=none)(ha:PA X [e] t)(hkw:PK X [⟨some "key",.Lambda params body scope lpos,kp⟩] tk)
  (F:LamOk X.prog X.w X.K X.mg X.base k qual params body scope [px] fvs sp) (hr:Room (k+2) X.A) (hin:∀q∈cl,X.env.cells.lookup q.1=some q.2) (hcl:∀x∈fvs,∃c,cl.lookup x=some c) (hkd:∀x∈fvs,X.env.scope.names.lookup x=some .cell) (hN:is.map (fun i=>X.N[i]?)=fvs.map some)
  (he:starEach [e] X.env=[(false,eval e X.env)]:=by rfl) (hall:(backToKw pos (keywordEach [⟨some "key",.Lambda params body scope lpos,kp⟩] X.env)).all (·.1.isSome)=true:=by rfl) (hks:(backToKw pos (keywordEach [⟨some "key",.Lambda params body scope lpos,kp⟩] X.env)).filterMap (·.1)=[Str.ofString "key"]:=by rfl)
  (hkn:(backToKw pos (keywordEach [⟨some "key",.Lambda params body scope lpos,kp⟩] X.env)).any (·.1.isNone)=false:=by rfl):PE X (.Call (.Name "sorted" p) [e] [⟨some "key",.Lambda params body scope lpos,kp⟩] pos) (tSortK X.K qual params body scope cl is sp t tk):=by
 intro pins s σ H Q I h;refine wpAny_Call_Name_kw (bH_ I hg hm PyProof.Rows.Boot.«sorted» ?_);have hA:=ha pos pins s σ H _ I h;rw[he] at hA ⊢;refine callWith_builtin_kwB (first:=[]) rfl hkn (evalArgs_kwB hall (thn hA fun us s1 ⟨vs,H1,I1,r1,q1⟩=>?_));refine thn (hkw pos pins s1 σ H1 _ I1 q1) fun ws s2 ⟨zs,H2,I2,rz,x,f,c',xs,kf,sh,gs,ev,ez,hf,hcd,src,h64,al,hgs,hsp,q⟩=>?_;subst ev ez;obtain⟨u,rfl,ru⟩:=Vals.one r1;obtain⟨fv,rfl,rf⟩:=Vals.one rz;cases rf;rw[hks];have hd:X.A.in1.handled=none:=I.ok.hd hc;refine sortedK I2 h64 al (jD_ F hr.in1.in1 rfl hf hcd hin hcl hkd hN hgs hsp) (fun R hR=>?_) q;rcases src with⟨l,rfl,hl⟩|⟨d,kvs,rfl,hd2,rfl⟩
 ·cases ru;exact d7_ I2 hl (by omega) hR
 ·cases ru;exact if_ hd I2 (.inl hd2) hR
end L2
namespace L2
open PySem PySem.Spec PyProof.Rows
structure FunC (K:F__) (x qual:Str) (st:Stmt) (f c:Addr) (fd:FuncData):Prop where
 ex:∃(oc:Value) (od:Option Addr) (kV doc pm:Value) (an:Option Addr) (ct:Value) (osl:Array (Option Value)),
  fd=PySem.W.fnOf x qual (bd' st) (bb' st) (a3' st) .none kV doc pm an (.ref c) ct/\K.lookup f=some ⟨oc,od,.func fd,osl⟩/\PySem.W.codeIn K (.ref c) qual=true
 kp:PySem.W.keepIn K (.ref f)=true
theorem FunC.fn{K:F__}{x qual:Str}{st:Stmt}{f c:Addr}{fd:FuncData}(F:FunC K x qual st f c fd):Fun K x qual st f fd:=by
 obtain⟨oc,od,kV,doc,pm,an,ct,osl,e,l,h⟩:=F.ex;exact⟨⟨oc,od,kV,doc,pm,an,.ref c,ct,osl,e,l,h⟩,F.kp⟩
theorem FunC.ok{P:Program}{w:World}{K:F__}{mg:Str->Option Value}{base:Heap}{x qual:Str}{st:Stmt}{f c:Addr}{fd:FuncData}{N ps:List Str}{k:Nat}{sp:Sp}(F:FunC K x qual st f c fd)(S:a4' N ps (a3' st))(len:∀vs H Q E,sp vs H Q E->vs.length=ps.length)
  (hbody:∀(A:Around) (outer:List Env) (s:Shared) (H:Hp) (vs:List V) (Q:VK) (E:XK),Room k (A.deeper (envOfC qual (a3' st) s.heap.objs.size f (.ref c)))->sp vs H Q E->
   ∃t,PSs (cxOf CX0 P w K mg base N qual (a3' st) f (.ref c) A outer s H E).nox (bb' st) t/\t { nx:=fun _ H'=>Q .non H',rt:=Q } (start N vs) H):FnOk P w K mg base CX0 (k+1) f fd ps sp:=by
 obtain⟨oc,od,kV,doc,pm,an,ct,osl,rfl,lk,hcd⟩:=F.ex;refine iG_ lk hcd S len fun A outer s H vs Q E hr hsp=>?_;obtain⟨t,h,q⟩:=hbody A outer s H vs Q E hr hsp;exact⟨t,h.nox,q⟩
end L2
namespace Ev
open PySem L2
def NT(H G:Hp):Prop:=∀b o,H b=some o->(∀vs,o≠.tbl vs)->G b=some o
theorem NT.of{H G:Hp}(s:Same H G):NT H G:=fun b o e _=>s b o e
theorem NT.refl(H:Hp):NT H H:=NT.of (Same.refl H)
theorem NT.trans{H G J:Hp}(s:NT H G)(t:NT G J):NT H J:=fun b o e n=>t b o (s b o e n) n
theorem But.nt{T:Addr}{H G:Hp}{vs:Array Value}(b:But T H G)(hT:H T=some (.tbl vs)):NT H G:=fun c o e n=>b c o e (fun z=>by
 rw[z,hT] at e;exact n _ (Option.some.inj e).symm)
theorem NT.tup{H G:Hp}(s:NT H G){a:Addr}{xs:List V}(h:H a=some (.tup xs)):G a=some (.tup xs):=s _ _ h nofun
theorem NT.lst{H G:Hp}(s:NT H G){a:Addr}{xs:List V}(h:H a=some (.lst xs)):G a=some (.lst xs):=s _ _ h nofun
theorem NT.dK{H G:Hp}(s:NT H G){a:Addr}{xs:List (Key × V)}(h:H a=some (.dK xs)):G a=some (.dK xs):=s _ _ h nofun
theorem NT.ins{H G:Hp}(s:NT H G){a C dx:Addr}{fs:List (Str × V)}(h:H a=some (.ins C dx fs)):G a=some (.ins C dx fs):=s _ _ h nofun
section
variable{K:F__}{H G:Hp}{v:V}
theorem a5'.nt{ys:List V}{ks:List (List Key)}(h:a5' K H ys ks)(s:NT H G):a5' K G ys ks:=Paired.mapP h fun y k ⟨a,z,q⟩=>⟨a,z,s.tup q⟩
theorem bl'.nt{C p:Addr}{hs:Xa}{ts:Xb}{fp:List Addr}(W:bl' K C H p hs ts fp)(s:NT H G):bl' K C G p hs ts fp:=by
 obtain⟨dx,d1,l2,d3,zs,as,rfl,h1,h2,h3,h4,h5,h6,h7⟩:=W.ex;exact⟨dx,d1,l2,d3,zs,as,rfl,s _ _ h1 nofun,s.dK h2,s.lst h3,a5'.nt h4 s,s.dK h5,h6,fun i n a e1 e2=>s.lst (h7 i n a e1 e2)⟩
theorem WyAt.nt{o:Option (Xb)}(h:WyAt K H v o)(s:NT H G):WyAt K G v o:=by
 cases o with
 |none=>exact h
 |some ws=>
  obtain⟨a,ys,e,ha,t⟩:=h;exact⟨a,ys,e,s.lst ha,a5'.nt t s⟩
theorem ba'.nt{CG CW g p:Addr}{hs:Xa}{ts:Xb}{qs:List Pc}{fp:List Addr}(h:ba' K CG CW H g p hs ts qs fp)(s:NT H G):ba' K CG CW G g p hs ts qs fp:=by
 obtain⟨dx,dw,dy,vs,fpw,h1,h2,h3,h4,h5,r⟩:=h.ex;exact⟨dx,dw,dy,vs,fpw,s _ _ h1 nofun,h2.nt s,s.dK h3,s.dK h4,Paired.mapP h5 fun v q h=>h.nt s,r⟩
end
theorem jR_{H:Hp}{T:Addr}{qual q':Str}{a a':Arguments}{b b':Expr}{sc sc':Scope}{ps:Pos}{cl:List (Str × Addr)}{σ:St}{Q:VK}(h:bu' H T qual)(e1:q'=qual)(e2:a'=a)(e3:b'=b)(e4:sc'=sc)(q:∀f c' H1,But T H H1->bu' H1 T qual->H1 f=some (lamH f qual a b sc cl c')->H1 c'=some (cL' c' qual)->Q (.ref f) H1):tLam T q' a' b' sc' ps cl σ H Q:=by
 subst e1 e2 e3 e4;obtain⟨es,h,hes⟩:=h;refine⟨_,h,f5_ es,?_⟩;rcases cA_ ps es with e|⟨e,he,q1⟩
 ·refine .inl ⟨e,fun c' f n1 n2 n3=>?_⟩;have nT1:T≠c':=a6_ h n1;have nT2:T≠f:=a6_ h n2
  have B:But T H (upd (upd (upd H T (.tbl ((bH' es).toArray++#[rawInt ps.line,rawInt ps.col,.ref c']))) c' (cL' c' q')) f (lamH f q' a' b' sc' cl c')):=fun b o e n=>by
   rw[a4_ (a6_ e n2),a4_ (a6_ e n1),a4_ n];exact e
  refine q f c' _ B ⟨es++[(ps,c')],?_,fun x hx=>?_⟩ a1_ ?_
  ·rw[a4_ nT2,a4_ nT1,a1_,e5_];simp
  ·rcases au'.mp hx with hx|hx
   ·exact B _ _ (hes x hx) (fun z=>by have:=hes x hx;rw[z,h] at this;cases this)
   ·rw[aB'.mp hx];show upd _ f _ c'=_;rw[a4_ n3,a1_]
  ·rw[a4_ n3,a1_]
 ·refine .inr ⟨e.2,q1,fun f hf=>?_⟩;have s:=Same.new (o:=lamH f q' a' b' sc' cl e.2) hf;exact q f e.2 _ (But.of s) ⟨es,s _ _ h,fun x hx=>s _ _ (hes x hx)⟩ a1_ (s _ _ (hes e he))
theorem gA_{H:Hp}{T:Addr}{qual:Str}(h:bu' H T qual):∃vs,H T=some (.tbl vs):=by
 obtain⟨es,e,_⟩:=h;exact⟨_,e⟩
def lamS:Expr->Scope
 |.Lambda _ _ s _=>s
 |_=>a3' sLaw
def lamB:Expr->Expr
 |.Lambda _ b _ _=>b
 |e=>e
def lamA:Expr->Arguments
 |.Lambda a _ _ _=>a
 |_=>bd' sLaw
def kwE:Expr->Expr
 |.Call _ _ (k::_) _=>k.value
 |e=>e
def nthS(l:List Stmt)(i:Nat):Stmt:=l.getD i (.Pass ⟨0,0,0,0⟩)
def forI:Stmt->Expr
 |.For _ i _ _ _=>i
 |_=>.Constant .none 0 ⟨0,0,0,0⟩
end Ev
namespace Ev
open PySem L2
theorem nilG{σ:St}{H:Hp}{k:List V->Hp->Prop}(h:k [] H):tNil σ H k:=h
theorem consG{te:TE}{t:TA}{σ:St}{H:Hp}{k:List V->Hp->Prop}(h:te σ H fun x H1=>t σ H1 fun xs H2=>k (x::xs) H2):tCons te t σ H k:=h
abbrev wtN(qs:List Pc)(n:Str):Int:=strOf (qs.map wOf) n
def kN(qs:List Pc)(n:Str):List Key:=[.inl (-(wtN qs n)),.inr n]
def sndK:List Key->Str
 |[_,.inr n]=>n
 |_=>⟨#[]⟩
def hvL(qs:List Pc):List Str:=(sortKs ((qs.map (·.1)).map (kN qs))).map sndK
def kfW(qs:List Pc):V->List Key
 |.str n=>kN qs n
 |_=>[]
theorem gQ_{zs:List V}{ns:List Str}(p:zs.Perm (ns.map V.str)):∃ms:List Str,zs=ms.map V.str/\ms.Perm ns:=by
 have all:∀z∈zs,∃n,z=V.str n:=fun z hz=>by
  obtain⟨n,_,e⟩:=ad'.mp (p.mem_iff.mp hz);exact⟨n,e.symm⟩
 have mk:∀l:List V,(∀z∈l,∃n,z=V.str n)->∃ms:List Str,l=ms.map V.str:=fun l=>by
  induction l with
  |nil=>intro _;exact⟨[],rfl⟩
  |cons a r ih=>
   intro h;obtain⟨n,rfl⟩:=h a aj';obtain⟨ms,rfl⟩:=ih fun z hz=>h z (ag' _ hz);exact⟨n::ms,rfl⟩
 obtain⟨ms,rfl⟩:=mk zs all;refine⟨ms,rfl,?_⟩;have:=p.map (fun v:V=>match v with | .str n=>n|_=>(⟨#[]⟩:Str));rw[ao',ao'] at this;simpa [Function.comp_def] using this
theorem ks_{qs:List Pc}{zs:List V}(p:zs.Perm ((qs.map (·.1)).map V.str))(e:zs.map (kfW qs)=sortKs (((qs.map (·.1)).map V.str).map (kfW qs))):zs=(hvL qs).map V.str:=by
 obtain⟨ms,rfl,_⟩:=gQ_ p;have e1:(ms.map V.str).map (kfW qs)=ms.map (kN qs):=by rw[ao'];rfl
 have e2:((qs.map (·.1)).map V.str).map (kfW qs)=(qs.map (·.1)).map (kN qs):=by
  rw[ao'];rfl
 rw[e1,e2] at e
 have em:(ms.map (kN qs)).map sndK=ms:=by
  rw[ao'];exact List.map_id' ms
 unfold hvL;rw[<- e,em]
theorem cl_(qs:List Pc):(hvL qs).Perm (qs.map (·.1)):=by
 unfold hvL;have p:=(al_ ((qs.map (·.1)).map (kN qs))).map sndK
 have e:((qs.map (·.1)).map (kN qs)).map sndK=qs.map (·.1):=by
  generalize qs.map (·.1)=ns;rw[ao'];exact List.map_id' _
 rw[e] at p;exact p
def hvAt(qs:List Pc)(f:Str->Str)(h:Str):List Str:=(hvL qs).filter fun n=>decide (f n=h)
abbrev qHF:Str:="heaviest_first.<locals>.<lambda>"
def lamW:Expr:=kwE (forI (nthS (bb' sHvF) 1))
abbrev fvW:List Str:=["goods"]
theorem freeW:∀y∈(lamS lamW).names,y.2=.free->y.1∈fvW:=by decide +kernel
theorem scLamW:b2' ["name"] fvW (lamS lamW):=⟨by decide +kernel,rfl,rfl,rfl,by decide +kernel,by decide +kernel,fun x h=>freeW (x,.free) (PySem.mem_of_lookup h) rfl,by decide +kernel⟩
section
variable{P:Program}{w:World}{K:F__}{mg:Str->Option Value}{base:Heap}
def spLamW(K:F__)(CG CW:Addr):List V->List V->Hp->VK->XK->Prop:=fun vs gs H Q _=>∃(g p:Addr) (q:Pc) (hs:Xa) (ts:Xb) (qs:List Pc) (fp:List Addr),vs=[.str q.1]/\gs=[.ref g]/\ba' K CG CW H g p hs ts qs fp/\(qs.map (·.1)).Nodup/\q∈qs/\0<=q.2.1/\q.2.1<=1000000000/\∀t,H t=none->Q (.ref t) (upd H t (.tup [.int (-q.2.1),.str q.1]))
theorem jd_{CG CW CP:Addr}(T:TxtG K CG)(cW:CalX P w K mg base CG 2 "weight" ["self","piece"] (bC' K CG CW CP)):LamOk P w K mg base 3 qHF (lamA lamW) (lamB lamW) (lamS lamW) ["name"] fvW (spLamW K CG CW):=by
 refine lamOk scLamW (fun pm c' ctv cl us hl=>?_) (fun A outer s H f cd cl vs gs Q E hr h hp=>?_)
 ·match us,hl with
  |[_],_=>rfl
 ·obtain⟨g,p,q,hs,ts,qs,fp,rfl,rfl,G,nd,hq,w0,w1,k⟩:=h;obtain⟨dx,dw,dy,vs,fpw,h1,h2,_⟩:=id G.ex;refine⟨_,aL_ (a0_ (kr_ km_ (i5_ cW T.cl hr (pv 1) (a0_ (pv 0) a3_))) (a0_ (pv 0) a3_)),?_⟩;have hno:(gflds p dw dy).lookup ("weight":Str)=none:=be_ _ _ _ (by decide +kernel) (by decide +kernel) (by decide +kernel);refine⟨_,rfl,g,dx,_,rfl,h1,hno,_,rfl,g,p,.str q.1,some q.1,hs,ts,qs,fp,rfl,G,nd,rfl,.inl ⟨q,hq,rfl,?_⟩⟩;exact⟨_,rfl,_,rfl,by show 2<=sizeLine;decide,fun t ht=>k t ht⟩
def clW(L:Addr):List (Str × Addr):=[("goods",L+1)]
theorem cloW{L f:Addr}{cd:Value}:closureFor (lamS lamW) (PyProof.Rows.envOfC "heaviest_first" (a3' sHvF) L f cd)=pure (clW L):=by rfl
theorem celW{L f:Addr}{cd:Value}:∀q∈clW L,(PyProof.Rows.envOfC "heaviest_first" (a3' sHvF) L f cd).cells.lookup q.1=some q.2:=by
 intro q hq;simp only[clW,ah',aV',or_false] at hq;rcases hq with rfl;rfl
theorem lclW{L:Addr}:∀x∈fvW,∃c,(clW L).lookup x=some c:=by
 intro x hx;simp only[fvW,ah',aV',or_false] at hx;rcases hx with rfl;exact⟨_,rfl⟩
theorem lkdW:∀x∈fvW,(a3' sHvF).names.lookup x=some .cell:=by decide +kernel
theorem scHvF:a4' ["goods","placed","found","piece"] ["goods","placed"] (a3' sHvF):=f__
def LsAt(H:Hp)(ns:List Str)(ad:Str->Addr)(g:Str->List Str):Prop:=(∀h∈ns,H (ad h)=some (.lst ((g h).map V.str)))/\∀h∈ns,∀h'∈ns,ad h=ad h'->h=h'
def spHvF(K:F__)(CG CW T:Addr):Sp:=fun vs H Q _=>∃(g p d:Addr) (hs:Xa) (ts:Xb) (qs:List Pc) (fp:List Addr) (f:Str->Str),vs=[.ref g,.ref d]/\bW' K CG CW H g p d hs ts qs fp f/\(∀q∈qs,0<=q.2.1/\q.2.1<=1000000000)/\bu' H T qHF /\
 ∀d' ad H',But T H H'->bu' H' T qHF->H d'=none->H' d'=some (.dK (mKV (a6' hs) fun h=>.ref (ad h)))->LsAt H' (a6' hs) ad (hvAt qs f)->(∀h∈a6' hs,H (ad h)=none)->Q (.ref d') H'
theorem bu'.putL{H:Hp}{T a:Addr}{q:Str}{xs:List V}{o:HO}(h:bu' H T q)(ha:H a=some (.lst xs)):bu' (upd H a o) T q:=by
 obtain⟨es,e,c⟩:=h;refine⟨es,by rw[a4_ (ax_ e ha nofun)];exact e,fun x hx=>?_⟩;rw[a4_ (fun z=>by have:=c x hx;rw[z,ha] at this;cases this)];exact c x hx
theorem dgR{H:Hp}{d:Addr}{ns:List Str}{g:Str->V}{n:Str}(h:H d=some (.dK (mKV ns g)))(m:n∈ns):DGet H d (.str n) (some (g n)):=by
 have:=DGet.k (k:=Sum.inr n) h;rw[do_ m] at this;exact this
theorem e1_{qs:List Pc}(nd:(qs.map (·.1)).Nodup){q:Pc}(h:q∈qs):wtN qs q.1=q.2.1:=by
 refine eT_ ?_ (ad'.mpr ⟨q,h,rfl⟩);rw[ao'];exact nd
set_option maxHeartbeats 3200000 in
theorem jN_{f0 c0 CG CW CP T:Addr}{fd:FuncData}(F:FunC K "heaviest_first" "heaviest_first" sHvF f0 c0 fd)(B:Bi mg)(TG:TxtG K CG)(TW:Txt K mg CW)(hC:PySem.W.CodeHd base c0 T)(hbm:base.BuiltinsAt mg T)(cH:CalM P w K mg base CW 1 "hands" ["self"] (cq' K CW))(cW:CalX P w K mg base CG 2 "weight" ["self","piece"] (bC' K CG CW CP)) :
  FnOk P w K mg base CX0 6 f0 fd ["goods","placed"] (spHvF K CG CW T):=by
 refine F.ok scHvF (fun vs H Q E h=>?_) (fun A outer s H vs Q E hr h=>?_)
 ·obtain⟨g,p,d,hs,ts,qs,fp,f,rfl,_⟩:=h;rfl
 ·obtain⟨g,p,d,hs,ts,qs,fp,f,rfl,Pl,wq,tab,k⟩:=h;have hu:=b5_ hr;have sz:=sizeLine_eq;have hr1:Room 1 _:=hr.mono (by decide);refine' ⟨_,a2_ ?s1 (a2_ ?s2 (a5_ ?s3)),?kk⟩
  case' s1=>refine' aa_ (i:=2) scHvF.nd rfl (Or.inl rfl) (aw_ (aR_ rfl) (by rfl) B.dict PyProof.Rows.Boot.«dict» (a0_ (aN_ ["hand"] 1 [] (ak_ (cZ_ cH TW.cl hr1 (aF_ (pv 0) rfl))) (fun fp s H=>a8_ (i:=0) (show (["hand"]:List Str).Nodup by decide +kernel) rfl (Or.inl rfl)) (fun fp s H=>aS_) (fun fp s H=>?e1)) a3_))
  case e1=>exact aL_ (a0_ (pv 0) (a0_ (ar_ a3_) a3_))
  case' s2=>refine' aK_ PassesOwn.never rfl (ak_ ?l2) (a8_ (i:=3) scHvF.nd rfl (Or.inl rfl)) (a5_ ?b2)
  case l2=>exact h3_ (px:="name") (fvs:=fvW) (cl:=clW s.heap.objs.size) (is:=[0]) (k:=3) rfl (by rfl) B.sorted (a0_ (pv 1) a3_) (ji_ (k3_ (P:=T) (c:=c0) rfl cloW rfl hC hbm) jS_) (jd_ TG cW) hr celW lclW lkdW rfl
  case b2=>exact b4_ (bK_ PySem.F.plainAttrs_list PySem.F.slot_list_append PySem.F.type_list_append aT_ (ag_ hu (pv 2) (ag_ hu (pv 1) (pv 3) (fun _ _=>rfl)) (fun _ _=>rfl)) (a0_ (pv 3) a3_))
  case s3=>exact ab_ (pv 2)
  case' kk=>skip
  have nd:=Pl.Gd.nnd;have n8:(a6' hs).length<=8:=by have:=Pl.Gd.nlen;have:=Pl.Gd.h8;omega
  obtain⟨dx,dw,dy,vs,fpw,h1,h2,h3,h4,h5,m1,m2,m3,m4,m5⟩:=id Pl.G.ex;obtain⟨dxw,d1,l2,d3,zs0,as,ef,w1,_⟩:=id h2.ex;have hnw:(flds d1 l2 d3).lookup ("hands":Str)=none:=b0_ _ _ _ (by decide +kernel) (by decide +kernel) (by decide +kernel);refine⟨_,rfl,g,CG,dx,_,_,rfl,h1,TG.cl,TG.nW,bf_ _ _ _,p,dxw,_,rfl,w1,hnw,p,hs,ts,fpw,rfl,h2,fun lh nh=>?_⟩;obtain⟨s1,e1⟩:=nw__ (o:=.lst ((a6' hs).map V.str)) nh;generalize upd H lh (.lst ((a6' hs).map V.str))=H1 at s1 e1 ⊢;refine⟨lh,rfl,⟨_,.of e1⟩,fun D hD=>?_⟩;refine aI_ (own:=1) (fv:=[]) (xs:=(a6' hs).map V.str) rfl gok1 (fun i out H'=>∃ad:Str->Addr,Same H1 H'/\H' D=some (.lst out)/\be' K H' out (mKV ((a6' hs).take i) fun h=>.ref (ad h))/\LsAt H' ((a6' hs).take i) ad (fun _=>[])/\∀h∈(a6' hs).take i,H1 (ad h)=none/\ad h≠D) ⟨fun _=>D,Same.new hD,a1_,.nil,⟨by simp,by simp⟩,by simp⟩ (fun i out H' _ ⟨_,sm,_⟩=>.of (sm _ _ e1)) (fun out H2 ⟨ad,s2,hD2,pa,ls,fr⟩=>?_) (fun i x out H' hx ⟨ad,sm,hd,pa,ls,fr⟩=>?_);rotate_left
  ·obtain⟨n,hn,rfl⟩:=aq_ hx;have nn:n∉(a6' hs).take i:=bY_ nd hn;refine⟨_,rfl,rfl,fun Nx hN=>yesT ?_⟩;refine⟨_,rfl,by show 0<=sizeLine;decide,fun l nl=>?_⟩;obtain⟨s3,e3⟩:=nw__ (o:=.lst []) nl;generalize upd H' l (.lst [])=H3 at s3 e3 ⊢;refine⟨by show 2<=sizeLine;decide,fun t nt=>?_⟩;obtain⟨s4,e4⟩:=nw__ (o:=.tup [.str n,.ref l]) nt;generalize upd H3 t (.tup [.str n,.ref l])=H4 at s4 e4 ⊢;have s34:=s3.trans s4;have hD4:=s34 _ _ hd;have lD:l≠D:=fun z=>by rw[z,hd] at nl;cases nl
   have adl:∀h∈(a6' hs).take i,ad h≠l:=fun h hh z=>by
    have:=ls.1 h hh;rw[z,nl] at this;cases this
   have lo:=Paired.length pa;rw[aE_,ak'] at lo
   have pD:∀{b:Addr} {zs:List V},H4 b=some (.tup zs)->b≠D:=fun hb z=>by
    rw[z,hD4] at hb;cases hb
   have ne:∀h∈(a6' hs).take i,h≠n:=fun h hh z=>nn (z▸hh);refine⟨out,hD4,by omega,hN (out++[.ref t]) _ ⟨fun m=>if m=n then l else ad m,ao_ (sm.trans s34) hD,a1_,?_,⟨fun h hh=>?_,fun h hh h' hh' z=>?_⟩,fun h hh=>?_⟩⟩
   ·have e:mKV ((a6' hs).take (i+1)) (fun h=>.ref (if h=n then l else ad h))=mKV ((a6' hs).take i) (fun h=>.ref (ad h))++[(Sum.inr n,.ref l)]:=by
     rw[av_ hn];unfold mKV;rw[an',ar',List.map_nil];dsimp only;rw[if_pos rfl];congr 1;exact aF' fun m hm=>by rw[if_neg (ne m hm)]
    rw[e];exact aD_ (Paired.mapP pa fun y kv ⟨b,z,hb⟩=>⟨b,z,by rw[a4_ (pD (s34 _ _ hb))];exact s34 _ _ hb⟩) (.cons ⟨t,rfl,by rw[a4_ (pD e4)];exact e4⟩ .nil)
   ·rw[av_ hn] at hh;rcases au'.mp hh with hh|hh
    ·dsimp only;rw[if_neg (ne h hh),a4_ (fr h hh).2];exact s34 _ _ (ls.1 h hh)
    ·obtain rfl:h=n:=by simpa using hh
     dsimp only;rw[if_pos rfl,a4_ lD];exact s4 _ _ e3
   ·rw[av_ hn] at hh hh';dsimp only at z;rcases au'.mp hh with a1|a1<;>rcases au'.mp hh' with a2|a2
    ·rw[if_neg (ne h a1),if_neg (ne h' a2)] at z;exact ls.2 h a1 h' a2 z
    ·have a2:h'=n:=by simpa using a2
     rw[if_neg (ne h a1),if_pos a2] at z;exact absurd z (adl h a1)
    ·have a1:h=n:=by simpa using a1
     rw[if_neg (ne h' a2),if_pos a1] at z;exact absurd z.symm (adl h' a2)
    ·rw[show h=n by simpa using a1,show h'=n by simpa using a2]
   ·rw[av_ hn] at hh;dsimp only;rcases au'.mp hh with hh|hh
    ·rw[if_neg (ne h hh)];exact fr h hh
    ·obtain rfl:h=n:=by simpa using hh
     rw[if_pos rfl];exact⟨sm.free nl,lD⟩
  rw[aa',am'] at pa ls fr;refine⟨D,out,_,rfl,hD2,pa,by rw[aE_];omega,fun df ndf=>?_⟩
  have ndk:((mKV (a6' hs) fun h=>V.ref (ad h)).map (·.1)).Nodup:=by
   rw[bZ_,ay',aH'];exact nd.imp fun n e=>n (Sum.inr.inj e)
  rw[aX_ ndk];obtain⟨s3,e3⟩:=nw__ (o:=.dK (mKV (a6' hs) fun h=>V.ref (ad h))) ndf;refine setG ?_;dsimp only;generalize upd H2 df (.dK (mKV (a6' hs) fun h=>V.ref (ad h)))=H3 at s3 e3 ⊢;have s03:=(s1.trans s2).trans s3;have ndf0:H df=none:=(s1.trans s2).free ndf;have fr0:∀h∈a6' hs,H (ad h)=none:=fun h hh=>s1.free (fr h hh).1;have ls3:∀h∈a6' hs,H3 (ad h)=some (.lst []):=fun h hh=>s3 _ _ (ls.1 h hh);have inj:=ls.2;clear s1 s2 s3 e1 pa ls fr hD2 nh hD ndf;refine⟨_,rfl,nilG (consG ?_)⟩;refine jR_ (tab.same s03) rfl rfl rfl rfl fun fl c' H4 b4 tab4 hfl hc'=>?_;obtain⟨tv,hT⟩:=gA_ tab
  have neT:∀{b:Addr} {o:HO},H3 b=some o->(∀vs,o≠.tbl vs)->b≠T:=fun {b o} e n z=>by
   rw[z,s03 _ _ hT] at e;exact n _ (Option.some.inj e).symm
  have nt4:NT H H4:=fun b o e n=>b4 _ _ (s03 _ _ e) (neT (s03 _ _ e) n);have ls4:∀h∈a6' hs,H4 (ad h)=some (.lst []):=fun h hh=>b4 _ _ (ls3 h hh) (neT (ls3 h hh) nofun);have e4:=b4 _ _ e3 (neT e3 nofun);have b04:But T H H4:=fun b o e n=>b4 _ _ (s03 _ _ e) n;refine⟨.ref d,fl,c',(qs.map (·.1)).map V.str,kfW qs,[false,true],[.ref g],rfl,rfl,hfl,hc',.inr ⟨d,_,rfl,nt4.dK Pl.hd,?_⟩,by rw[aa',aa'];exact Pl.h64,⟨by decide,fun k hk=>?_⟩,rfl,fun H' x sm hx=>?_,fun l zs H5 s5 nl nl4 pz ek=>?_⟩
  ·show _=((qs.map (·.1)).map _).map _;generalize qs.map (·.1)=ns';rw[ao'];rfl
  ·obtain⟨v,hv,rfl⟩:=ad'.mp hk;obtain⟨n,_,rfl⟩:=ad'.mp hv;rfl
  ·obtain⟨n,hn,rfl⟩:=ad'.mp hx;obtain⟨q,hq,rfl⟩:=ad'.mp hn;refine⟨g,p,q,hs,ts,qs,fp,rfl,rfl,(Pl.G.nt nt4).same sm,Pl.nd,hq,(wq q hq).1,(wq q hq).2,fun t nt=>⟨Same.new nt,t,rfl,?_⟩⟩;rw[a1_];show _=some (HO.tup [.int (-(wtN qs q.1)),.str q.1]);rw[e1_ Pl.nd hq]
  rw[ks_ pz ek];have hl:upd H5 l (.lst ((hvL qs).map V.str)) l=some (.lst ((hvL qs).map V.str)):=a1_;have s6:Same H4 (upd H5 l (.lst ((hvL qs).map V.str))):=s5.trans (Same.new nl)
  have lne:∀h∈a6' hs,ad h≠l:=fun h hh z=>by
   have:=ls4 h hh;rw[z,nl4] at this;cases this
  generalize upd H5 l (.lst ((hvL qs).map V.str))=H6 at hl s6 ⊢
  have len64:(hvL qs).length<64:=by
   rw[(cl_ qs).length_eq,aa'];exact Pl.h64
  have dT:d≠T:=fun z=>by
   have:=Pl.hd;rw[z,hT] at this;cases this
  refine⟨l,rfl,⟨_,.of hl⟩,as_ (K:=K) (a:=l) (xs:=(hvL qs).map V.str) (fun i σ H'=>∃v3:Option V,σ=[some (.ref g),some (.ref d),some (.ref df),v3]/\But T H H'/\bu' H' T qHF/\H' df=some (.dK (mKV (a6' hs) fun h=>V.ref (ad h)))/\H' l=some (.lst ((hvL qs).map V.str))/\LsAt H' (a6' hs) ad (fun h=>((hvL qs).take i).filter fun n=>decide (f n=h))) ⟨none,rfl,fun b o e n=>s6 _ _ (b04 b o e n),tab4.same s6,s6 _ _ e4,hl,fun h hh=>s6 _ _ (ls4 h hh),inj⟩ (fun i σ H' _ ⟨_,_,_,_,_,z,_⟩=>.of z) ?_ ?_⟩
  ·rintro i x σ H' hx ⟨v3,rfl,bT,tab',hdf,hl',ls⟩;obtain⟨n,hn,rfl⟩:=aq_ hx;have nm:n∈qs.map (·.1):=(cl_ qs).mem_iff.mp (ae' hn);have fm:f n∈a6' hs:=(au_ hs).mem_iff.mpr (Pl.at_ n nm);have hd':=bT _ _ Pl.hd dT;have la:=ls.1 (f n) fm;refine setG ?_;dsimp only;refine⟨_,rfl,_,rfl,_,rfl,d,_,rfl,dgR hd' nm,df,_,rfl,dgR hdf fm,.inl ⟨rfl,_,.of la⟩,_,rfl,ad (f n),_,_,rfl,rfl,la,?_,?_⟩
   ·rw[aa'];have:=List.length_filter_le (fun n'=>decide (f n'=f n)) ((hvL qs).take i);rw[ak'] at this;dsimp only;omega
   refine⟨_,rfl,fun b o e ne=>?_,bu'.putL tab' la,?_,?_,fun h hh=>?_,inj⟩
   ·rw[a4_ (a6_ e (fr0 _ fm))];exact bT b o e ne
   ·rw[a4_ (ax_ hdf la nofun)];exact hdf
   ·rw[a4_ (lne _ fm).symm];exact hl'
   ·by_cases z:h=f n
    ·subst z;dsimp only;rw[a1_,av_ hn,List.filter_append,List.filter_cons_of_pos (by simp),List.filter_nil,an'];rfl
    ·dsimp only;rw[a4_ (fun y=>z (inj h hh _ fm y)),av_ hn,List.filter_append,List.filter_cons_of_neg (by simpa using fun y=>z y.symm),List.filter_nil,aJ'];exact ls.1 h hh
  ·rintro σ H' ⟨v3,rfl,bT,tab',hdf,hl',ls⟩;rw[aa',am'] at ls;exact⟨_,rfl,k df ad H' bT tab' ndf0 hdf ls fr0⟩
end
end Ev
namespace Ev
open PySem L2
abbrev sSInit:Stmt:=bf' c2' 0
abbrev sLead:Stmt:=bf' c2' 1
abbrev sJoint:Stmt:=bf' c2' 2
abbrev sRisN:Stmt:=bf' c2' 3
def sflds(g dl dv dp:Addr):List (Str × V):=putF "pieces_by_hand" (.ref dp) (putF "level_by_hand" (.ref dv) (putF "load_by_hand" (.ref dl) (putF "wares" (.ref g) [])))
theorem sf_g(g dl dv dp:Addr):(sflds g dl dv dp).lookup ("wares":Str)=some (.ref g):=by
 unfold sflds;rw[a9_,a9_,a9_,a9_,if_neg (by decide +kernel),if_neg (by decide +kernel),if_neg (by decide +kernel),if_pos rfl]
theorem sf_l(g dl dv dp:Addr):(sflds g dl dv dp).lookup ("load_by_hand":Str)=some (.ref dl):=by
 unfold sflds;rw[a9_,a9_,a9_,if_neg (by decide +kernel),if_neg (by decide +kernel),if_pos rfl]
theorem sf_p(g dl dv dp:Addr):(sflds g dl dv dp).lookup ("pieces_by_hand":Str)=some (.ref dp):=by
 unfold sflds;rw[a9_,if_pos rfl]
theorem kq_(g dl dv dp:Addr){m:Str}(h1:¬m="wares")(h2:¬m="load_by_hand")(h3:¬m="level_by_hand")(h4:¬m="pieces_by_hand"):(sflds g dl dv dp).lookup m=none:=by
 unfold sflds;rw[a9_,a9_,a9_,a9_,if_neg h4,if_neg h3,if_neg h2,if_neg h1];rfl
structure TxtS (K:F__) (CS:Addr):Prop where
 cl:Cls K CS
 nW:bp' K CS "wares"
 nL:bp' K CS "load_by_hand"
 nV:bp' K CS "level_by_hand"
 nP:bp' K CS "pieces_by_hand"
structure Wd (hs:Xa) (ts:Xb) (qs:List Pc) (f:Str->Str):Prop where
 Gd:Good hs ts
 nd:(qs.map (·.1)).Nodup
 h64:qs.length<64
 at_:∀n∈qs.map (·.1),f n∈hs.map (·.1)
 wq:∀q∈qs,0<=q.2.1/\q.2.1<=1000000000
structure bo' (K:F__) (CS CG CW:Addr) (H:Hp) (v g p:Addr) (hs:Xa) (ts:Xb) (qs:List Pc) (fp:List Addr) (f:Str->Str):Prop where
 ex:∃(dx dl dv dp:Addr) (ad:Str->Addr),H v=some (.ins CS dx (sflds g dl dv dp))/\ba' K CG CW H g p hs ts qs fp/\H dl=some (.dK (ldV hs qs f))/\H dv=some (.dK (mKV (a6' hs) fun h=>.int (lvF hs qs f h)))/\H dp=some (.dK (mKV (a6' hs) fun h=>.ref (ad h)))/\∀h∈a6' hs,H (ad h)=some (.lst ((hvAt qs f h).map V.str))
theorem bo'.nt{K:F__}{CS CG CW:Addr}{H G:Hp}{v g p:Addr}{hs:Xa}{ts:Xb}{qs:List Pc}{fp:List Addr}{f:Str->Str}(S:bo' K CS CG CW H v g p hs ts qs fp f)(s:NT H G):bo' K CS CG CW G v g p hs ts qs fp f:=by
 obtain⟨dx,dl,dv,dp,ad,h1,h2,h3,h4,h5,h6⟩:=S.ex;exact⟨dx,dl,dv,dp,ad,s.ins h1,h2.nt s,s.dK h3,s.dK h4,s.dK h5,fun h hh=>s.lst (h6 h hh)⟩
theorem bo'.same{K:F__}{CS CG CW:Addr}{H G:Hp}{v g p:Addr}{hs:Xa}{ts:Xb}{qs:List Pc}{fp:List Addr}{f:Str->Str}(S:bo' K CS CG CW H v g p hs ts qs fp f)(s:Same H G):bo' K CS CG CW G v g p hs ts qs fp f:=S.nt (NT.of s)
abbrev lo(qs:List Pc)(f:Str->Str)(h:Str):Int:=ld f (qs.map wOf) h
def bU'(hs:Xa)(qs:List Pc)(f:Str->Str)(a b:Str):Int:=lo qs f a * strOf hs b - lo qs f b * strOf hs a
def bF'(hs:Xa)(a b:Str):Int:=strOf hs a+strOf hs b
section
variable{P:Program}{w:World}{K:F__}{mg:Str->Option Value}{base:Heap}
theorem scSInit:a4' ["self","goods","placed"] ["self","goods","placed"] (a3' sSInit):=f__
def spSInit(K:F__)(CS CG CW T:Addr):Sp:=fun vs H Q _=>∃(v dx g p d:Addr) (hs:Xa) (ts:Xb) (qs:List Pc) (fp:List Addr) (f:Str->Str),vs=[.ref v,.ref g,.ref d]/\H v=some (.ins CS dx [])/\v∉fp/\bW' K CG CW H g p d hs ts qs fp f/\Wd hs ts qs f/\bu' H T qHF /\
 ∀H',(∀b o,H b=some o->b≠v->b≠T->H' b=some o)->bu' H' T qHF->bo' K CS CG CW H' v g p hs ts qs fp f->Q .non H'
set_option maxHeartbeats 1600000 in
theorem i3_{f0 CS CG CW T:Addr}{fd:FuncData}(F:Fun K "__init__" "Sight.__init__" sSInit f0 fd)(TS:TxtS K CS)(cLA:Cal P w K mg base 3 "loads_at" ["goods","placed"] (b7' K CG CW))(cLv:Cal P w K mg base 4 "levels_at" ["goods","placed"] (c4' K CG CW))(cHF:Cal P w K mg base 6 "heaviest_first" ["goods","placed"] (spHvF K CG CW T)) :
  FnOk P w K mg base CX0 7 f0 fd ["self","goods","placed"] (spSInit K CS CG CW T):=by
 refine F.ok scSInit (fun vs H Q E h=>?_) (fun cdv A outer s H vs Q E hr h=>?_)
 ·obtain⟨v,dx,g,p,d,hs,ts,qs,fp,f,rfl,_⟩:=h;rfl
 ·obtain⟨v,dx,g,p,d,hs,ts,qs,fp,f,rfl,hv,vfp,Pl,W,tab,k⟩:=h;have hr3:Room 3 _:=hr.mono (by decide);have hr4:Room 4 _:=hr.mono (by decide);refine' ⟨_,a2_ ?s1 (a2_ ?s2 (a2_ ?s3 (a5_ ?s4))),?kk⟩
  case s1=>exact bG_ (pv 0) (pv 1) rfl
  case s2=>exact bG_ (pv 0) (af_ cLA hr3 (a0_ (pv 1) (a0_ (pv 2) a3_))) rfl
  case s3=>exact bG_ (pv 0) (af_ cLv hr4 (a0_ (pv 1) (a0_ (pv 2) a3_))) rfl
  case s4=>exact bG_ (pv 0) (af_ cHF hr (a0_ (pv 1) (a0_ (pv 2) a3_))) rfl
  case' kk=>skip
  have dv:d≠v:=ax_ Pl.hd hv nofun;have keepP:∀{G:Hp},(∀b o,H b=some o->b≠v->G b=some o)->bW' K CG CW G g p d hs ts qs fp f:=fun {G} up=>⟨Pl.G.keep (fun b hb o e=>up b o e (fun z=>vfp (z▸hb))) (fun b xs e=>up b _ e (ax_ e hv nofun)),Pl.Gd,Pl.dfp,up _ _ Pl.hd dv,Pl.at_,Pl.nd,Pl.h64⟩;refine⟨_,rfl,_,rfl,v,CS,dx,_,rfl,hv,TS.cl,TS.nW,by show 0<1000;decide,?_⟩;have up1:∀b o,H b=some o->b≠v->upd H v (.ins CS dx (putF "wares" (.ref g) [])) b=some o:=fun b o e n=>by rw[a4_ n];exact e
  have hv1:upd H v (.ins CS dx (putF "wares" (.ref g) [])) v=some (.ins CS dx (putF "wares" (.ref g) [])):=a1_;have fr1:∀{b},upd H v (.ins CS dx (putF "wares" (.ref g) [])) b=none->b≠v:=fun {b} e z=>by rw[z,a1_] at e;cases e
  generalize upd H v (.ins CS dx (putF "wares" (.ref g) []))=H1 at up1 hv1 fr1 ⊢;refine⟨_,rfl,_,rfl,g,p,d,hs,ts,qs,fp,f,rfl,keepP up1,fun dl H2 s2 nl hl=>?_⟩;have hv2:=s2 _ _ hv1;have lv:dl≠v:=fr1 nl;refine⟨_,rfl,v,CS,dx,_,rfl,hv2,TS.cl,TS.nL,by show 1<1000;decide,?_⟩;have up3:∀b o,H b=some o->b≠v->upd H2 v (.ins CS dx (putF "load_by_hand" (.ref dl) (putF "wares" (.ref g) []))) b=some o:=fun b o e n=>by rw[a4_ n];exact s2 _ _ (up1 b o e n)
  have hv3:upd H2 v (.ins CS dx (putF "load_by_hand" (.ref dl) (putF "wares" (.ref g) []))) v=some (.ins CS dx (putF "load_by_hand" (.ref dl) (putF "wares" (.ref g) []))):=a1_;have fr3:∀{b},upd H2 v (.ins CS dx (putF "load_by_hand" (.ref dl) (putF "wares" (.ref g) []))) b=none->b≠v:=fun {b} e z=>by rw[z,a1_] at e;cases e
  have hl3:upd H2 v (.ins CS dx (putF "load_by_hand" (.ref dl) (putF "wares" (.ref g) []))) dl=some (.dK (ldV hs qs f)):=by rw[a4_ lv];exact hl
  generalize upd H2 v (.ins CS dx (putF "load_by_hand" (.ref dl) (putF "wares" (.ref g) [])))=H3 at up3 hv3 fr3 hl3 ⊢;refine⟨_,rfl,_,rfl,g,p,d,hs,ts,qs,fp,f,rfl,keepP up3,W.wq,fun de H4 s4 ne he=>?_⟩;have hv4:=s4 _ _ hv3;have ev:de≠v:=fr3 ne;refine⟨_,rfl,v,CS,dx,_,rfl,hv4,TS.cl,TS.nV,by show 2<1000;decide,?_⟩;have up5:∀b o,H b=some o->b≠v->upd H4 v (.ins CS dx (putF "level_by_hand" (.ref de) (putF "load_by_hand" (.ref dl) (putF "wares" (.ref g) [])))) b=some o:=fun b o e n=>by rw[a4_ n];exact s4 _ _ (up3 b o e n)
  have hv5:upd H4 v (.ins CS dx (putF "level_by_hand" (.ref de) (putF "load_by_hand" (.ref dl) (putF "wares" (.ref g) [])))) v=some (.ins CS dx (putF "level_by_hand" (.ref de) (putF "load_by_hand" (.ref dl) (putF "wares" (.ref g) [])))):=a1_;have fr5:∀{b},upd H4 v (.ins CS dx (putF "level_by_hand" (.ref de) (putF "load_by_hand" (.ref dl) (putF "wares" (.ref g) [])))) b=none->b≠v:=fun {b} e z=>by rw[z,a1_] at e;cases e
  have hl5:upd H4 v (.ins CS dx (putF "level_by_hand" (.ref de) (putF "load_by_hand" (.ref dl) (putF "wares" (.ref g) [])))) dl=some (.dK (ldV hs qs f)):=by rw[a4_ lv];exact s4 _ _ hl3
  have he5:upd H4 v (.ins CS dx (putF "level_by_hand" (.ref de) (putF "load_by_hand" (.ref dl) (putF "wares" (.ref g) [])))) de=some (.dK (mKV (a6' hs) fun h=>.int (lvF hs qs f h))):=by rw[a4_ ev];exact he
  generalize upd H4 v (.ins CS dx (putF "level_by_hand" (.ref de) (putF "load_by_hand" (.ref dl) (putF "wares" (.ref g) []))))=H5 at up5 hv5 fr5 hl5 he5 ⊢;obtain⟨es,hT,hcs⟩:=id tab;have Tv:T≠v:=ax_ hT hv nofun;have tab5:bu' H5 T qHF:=⟨es,up5 _ _ hT Tv,fun e he=>up5 _ _ (hcs e he) (fun z=>by have:=hcs e he;rw[z,hv] at this;cases this)⟩;have Pl5:=keepP up5;refine⟨_,rfl,_,rfl,g,p,d,hs,ts,qs,fp,f,rfl,Pl5,W.wq,tab5,fun dp ad H6 b6 tab6 np hp ls fra=>?_⟩;have nt6:NT H5 H6:=b6.nt (up5 _ _ hT Tv);have hv6:=nt6.ins hv5;have pv':dp≠v:=fr5 np;have av:∀h∈a6' hs,ad h≠v:=fun h hh=>fr5 (fra h hh);refine⟨_,rfl,v,CS,dx,_,rfl,hv6,TS.cl,TS.nP,by show 3<1000;decide,?_⟩;refine k _ (fun b o e n1 n2=>?_) ?_ ⟨dx,dl,de,dp,ad,a1_,(Pl5.G.nt nt6).keep (fun b hb o e=>?_) (fun b xs e=>?_),?_,?_,?_,fun h hh=>?_⟩
  ·rw[a4_ n1];exact b6 _ _ (up5 b o e n1) n2
  ·obtain⟨es,e1,e2⟩:=tab6;exact⟨es,by rw[a4_ (ax_ e1 hv6 nofun)];exact e1,fun e he=>by rw[a4_ (fun z=>by have:=e2 e he;rw[z,hv6] at this;cases this)];exact e2 e he⟩
  ·rw[a4_ (fun z:b=v=>vfp (z▸hb))];exact e
  ·rw[a4_ (ax_ e hv6 nofun)];exact e
  ·rw[a4_ lv];exact nt6.dK hl5
  ·rw[a4_ ev];exact nt6.dK he5
  ·rw[a4_ pv'];exact hp
  ·rw[a4_ (av h hh)];exact ls.1 h hh
theorem scLead:a4' ["self","one","other","web"] ["self","one","other"] (a3' sLead):=f__
def spLead(K:F__)(CS CG CW:Addr):Sp:=fun vs H Q _=>∃(v g p:Addr) (a b:Str) (hs:Xa) (ts:Xb) (qs:List Pc) (fp:List Addr) (f:Str->Str),vs=[.ref v,.str a,.str b]/\bo' K CS CG CW H v g p hs ts qs fp f/\Wd hs ts qs f/\a∈a6' hs/\b∈a6' hs/\Q (.int (bU' hs qs f a b)) H
theorem j7_{f0 CS CG CW:Addr}{fd:FuncData}(F:Fun K "lead" "Sight.lead" sLead f0 fd)(TS:TxtS K CS)(TG:TxtG K CG)(TW:Txt K mg CW)(cS:CalM P w K mg base CW 2 "strength" ["self","hand"] (bv' K CW)):FnOk P w K mg base CX0 3 f0 fd ["self","one","other"] (spLead K CS CG CW):=by
 refine F.ok scLead (fun vs H Q E h=>?_) (fun cdv A outer s H vs Q E hr h=>?_)
 ·obtain⟨v,g,p,a,b,hs,ts,qs,fp,f,rfl,_⟩:=h;rfl
 ·obtain⟨v,g,p,a,b,hs,ts,qs,fp,f,rfl,S,W,ha,hb,k⟩:=h;have hu:=b5_ hr;refine' ⟨_,a2_ ?s1 (a5_ ?s2),?kk⟩
  case s1=>exact aa_ (i:=3) scLead.nd rfl (Or.inl rfl) (aF_ (aF_ (pv 0) rfl) rfl)
  case s2=>exact ab_ (aj_ in_ (aj_ b6_ (ag_ hu (aF_ (pv 0) rfl) (pv 1) (fun _ _=>rfl)) (bs_ cS TW.cl hr (pv 3) (a0_ (pv 2) a3_))) (aj_ b6_ (ag_ hu (aF_ (pv 0) rfl) (pv 2) (fun _ _=>rfl)) (bs_ cS TW.cl hr (pv 3) (a0_ (pv 1) a3_))))
  case' kk=>skip
  obtain⟨dx,dl,dv,dp,ad,h1,G,h3,h4,h5,h6⟩:=S.ex;obtain⟨dxg,dw,dy,vs,fpw,g1,g2,_⟩:=id G.ex;obtain⟨dxw,d1,l2,d3,zs0,as,ef,w1,_⟩:=id g2.ex;have hnw:(flds d1 l2 d3).lookup ("strength":Str)=none:=b0_ _ _ _ (by decide +kernel) (by decide +kernel) (by decide +kernel);have la:=h4_ W.wq W.h64 f a;have lb:=h4_ W.wq W.h64 f b;refine⟨_,rfl,v,CS,dx,_,_,rfl,h1,TS.cl,TS.nW,sf_g _ _ _ _,g,CG,dxg,_,_,rfl,g1,TG.cl,TG.nW,bf_ _ _ _,?_⟩;refine setG ?_;dsimp only;refine⟨_,rfl,v,CS,dx,_,_,rfl,h1,TS.cl,TS.nL,sf_l _ _ _ _,_,rfl,dl,_,rfl,dgR h3 ha,_,rfl,p,dxw,_,rfl,w1,hnw,_,rfl,p,b,strOf hs b,hs,ts,fpw,rfl,g2,W.Gd.hnd,b3_ ((au_ hs).mem_iff.mp hb),?_⟩;refine⟨_,_,rfl,rfl,.inl ⟨by omega,by omega⟩,?_⟩;refine⟨_,rfl,v,CS,dx,_,_,rfl,h1,TS.cl,TS.nL,sf_l _ _ _ _,_,rfl,dl,_,rfl,dgR h3 hb,_,rfl,p,dxw,_,rfl,w1,hnw,_,rfl,p,a,strOf hs a,hs,ts,fpw,rfl,g2,W.Gd.hnd,b3_ ((au_ hs).mem_iff.mp ha),?_⟩;exact⟨_,_,rfl,rfl,.inl ⟨by omega,by omega⟩,_,_,rfl,rfl,k⟩
theorem scJoint:a4' ["self","one","other"] ["self","one","other"] (a3' sJoint):=f__
def spJoint(K:F__)(CS CG CW:Addr):Sp:=fun vs H Q _=>∃(v g p:Addr) (a b:Str) (hs:Xa) (ts:Xb) (qs:List Pc) (fp:List Addr) (f:Str->Str),vs=[.ref v,.str a,.str b]/\bo' K CS CG CW H v g p hs ts qs fp f/\Wd hs ts qs f/\a∈a6' hs/\b∈a6' hs/\Q (.int (bF' hs a b)) H
theorem hR_{f0 CS CG CW:Addr}{fd:FuncData}(F:Fun K "joint_strength" "Sight.joint_strength" sJoint f0 fd)(TS:TxtS K CS)(TG:TxtG K CG)(TW:Txt K mg CW)(cS:CalM P w K mg base CW 2 "strength" ["self","hand"] (bv' K CW)):FnOk P w K mg base CX0 3 f0 fd ["self","one","other"] (spJoint K CS CG CW):=by
 refine F.ok scJoint (fun vs H Q E h=>?_) (fun cdv A outer s H vs Q E hr h=>?_)
 ·obtain⟨v,g,p,a,b,hs,ts,qs,fp,f,rfl,_⟩:=h;rfl
 ·obtain⟨v,g,p,a,b,hs,ts,qs,fp,f,rfl,S,W,ha,hb,k⟩:=h;refine' ⟨_,a5_ ?s2,?kk⟩
  case s2=>exact ab_ (aj_ b1_ (bs_ cS TW.cl hr (aF_ (aF_ (pv 0) rfl) rfl) (a0_ (pv 1) a3_)) (bs_ cS TW.cl hr (aF_ (aF_ (pv 0) rfl) rfl) (a0_ (pv 2) a3_)))
  case' kk=>skip
  obtain⟨dx,dl,dv,dp,ad,h1,G,h3,h4,h5,h6⟩:=S.ex;obtain⟨dxg,dw,dy,vs,fpw,g1,g2,_⟩:=id G.ex;obtain⟨dxw,d1,l2,d3,zs0,as,ef,w1,_⟩:=id g2.ex;have hnw:(flds d1 l2 d3).lookup ("strength":Str)=none:=b0_ _ _ _ (by decide +kernel) (by decide +kernel) (by decide +kernel);refine⟨_,rfl,v,CS,dx,_,_,rfl,h1,TS.cl,TS.nW,sf_g _ _ _ _,g,CG,dxg,_,_,rfl,g1,TG.cl,TG.nW,bf_ _ _ _,p,dxw,_,rfl,w1,hnw,_,rfl,p,a,strOf hs a,hs,ts,fpw,rfl,g2,W.Gd.hnd,b3_ ((au_ hs).mem_iff.mp ha),?_⟩;refine⟨_,rfl,v,CS,dx,_,_,rfl,h1,TS.cl,TS.nW,sf_g _ _ _ _,g,CG,dxg,_,_,rfl,g1,TG.cl,TG.nW,bf_ _ _ _,p,dxw,_,rfl,w1,hnw,_,rfl,p,b,strOf hs b,hs,ts,fpw,rfl,g2,W.Gd.hnd,b3_ ((au_ hs).mem_iff.mp hb),?_⟩;exact⟨_,_,rfl,rfl,k⟩
end
end Ev
namespace Ev
open PySem L2
theorem db_(a b:Str):decide (V.str a=V.str b)=decide (a=b):=by
 by_cases z:a=b
 ·simp[z]
 ·have:¬(V.str a=V.str b):=fun e=>z (V.str.inj e);simp[z,this]
abbrev nb(hs:Xa)(ts:Xb)(h:Str):List Str:=near (a6' hs) (tsOf ts) h
abbrev qRN:Str:="Sight.rising_neighbours.<locals>.<lambda>"
section
variable{P:Program}{w:World}{K:F__}{mg:Str->Option Value}{base:Heap}
theorem scFits:a4' ["guard","lead","burden"] ["guard","lead","burden"] (a3' sFits):=f__
def fitB(g:Str)(a b:Int):Bool:=if g="high" then decide (0<a) else if g="fall" then decide (b<2 * a) else decide (b<=a)
def spFits:Sp:=fun vs H Q _=>∃(g:Str) (a b:Int),vs=[.str g,.int a,.int b]/\Q (.bl (fitB g a b)) H
theorem iv_{f0:Addr}{fd:FuncData}(F:Fun K "fits" "fits" sFits f0 fd):FnOk P w K mg base CX0 1 f0 fd ["guard","lead","burden"] spFits:=by
 refine F.ok scFits (fun vs H Q E h=>?_) (fun cdv A outer s H vs Q E hr h=>?_)
 ·obtain⟨g,a,b,rfl,_⟩:=h;rfl
 ·obtain⟨g,a,b,rfl,k⟩:=h;refine' ⟨_,a2_ ?s1 (a2_ ?s2 (a5_ ?s3)),?kk⟩
  case s1=>exact aB_ (an_ cP_ (pv 0) aC_ (nomark _)) (a5_ (ab_ (aG_ dr_ (pv 1) a7_ (nomark _)))) ae_
  case s2=>exact aB_ (an_ cP_ (pv 0) aC_ (nomark _)) (a5_ (ab_ (aG_ dr_ (aj_ b6_ a7_ (pv 1)) (pv 2) (nomark _)))) ae_
  case s3=>exact ab_ (aG_ jX_ (pv 1) (pv 2) (nomark _))
  case' kk=>skip
  unfold fitB at k;refine⟨_,rfl,rfl,_,rfl,?_⟩;rw[db_];refine ite2 (fun c=>?_) (fun c=>?_)
  ·have c:g="high":=of_decide_eq_true c;rw[if_pos c] at k;exact⟨_,rfl,_,_,rfl,rfl,k⟩
  ·have c:¬g="high":=fun z=>c (decide_eq_true z);rw[if_neg c] at k;refine⟨_,rfl,rfl,_,rfl,?_⟩;rw[db_];refine ite2 (fun c=>?_) (fun c=>?_)
   ·have c:g="fall":=of_decide_eq_true c;rw[if_pos c] at k;exact⟨_,rfl,_,_,rfl,rfl,.inl ⟨by decide,by decide⟩,_,rfl,_,_,rfl,rfl,k⟩
   ·have c:¬g="fall":=fun z=>c (decide_eq_true z);rw[if_neg c] at k;exact⟨_,rfl,_,rfl,_,_,rfl,rfl,k⟩
end
end Ev
namespace Ev
open PySem L2
abbrev Mv:=Str × Str × Str
def kM(m:Mv):List Key:=[.inr m.1,.inr m.2.1,.inr m.2.2]
def wyN(qs:List Pc)(n:Str):Option (Xb):=match qs.find? fun q=>decide (q.1=n) with
 |some q=>q.2.2
 |none=>none
theorem hD_{qs:List Pc}(nd:(qs.map (·.1)).Nodup){q:Pc}(h:q∈qs):wyN qs q.1=q.2.2:=by
 unfold wyN;cases e:qs.find? fun p=>decide (p.1=q.1) with
 |none=>
  have:=List.find?_eq_none.mp e q h;simp at this
 |some p=>
  have a:=List.mem_of_find?_eq_some e;have b:=List.find?_some e;have b:p.1=q.1:=of_decide_eq_true b;rw[cu_ nd a h b]
def mayN(hs:Xa)(ts:Xb)(qs:List Pc)(n a b:Str):Bool:=goB hs ts (wyN qs n) (some a) (some b)
def hmP(hs:Xa)(ts:Xb)(qs:List Pc)(f:Str->Str)(gd:Str)(gv:List Str)(a b n:Str):Bool:=!decide (n∈gv)&&(fitB gd (bU' hs qs f a b) (wtN qs n * bF' hs a b)&&mayN hs ts qs n a b)
def hmv(hs:Xa)(ts:Xb)(qs:List Pc)(f:Str->Str)(gd:Str)(gv:List Str)(a b:Str):List Mv:=match (hvAt qs f a).find? (hmP hs ts qs f gd gv a b) with
 |some n=>[(n,a,b)]
 |none=>[]
theorem gc_{α:Type}{p:α->Bool}:∀{l:List α} {i:Nat} {x:α},l[i]? = some x->p x=true->(∀y∈l.take i,p y=false)->l.find? p=some x
 |a::l,0,x,h,hp,_=>by
  cases h;rw[List.find?_cons_of_pos hp]
 |a::l,i+1,x,h,hp,hn=>by
  have na:¬p a=true:=by rw[hn a (by simp)];decide
  rw[List.find?_cons_of_neg na];exact gc_ (by simpa using h) hp fun y hy=>hn y (by simp[hy])
 |[],i,x,h,_,_=>by simp at h
theorem gY_{qs:List Pc}{f:Str->Str}{h n:Str}(m:n∈hvAt qs f h):n∈qs.map (·.1)/\f n=h:=by
 obtain⟨a,b⟩:=a0'.mp m;exact⟨(cl_ qs).mem_iff.mp a,of_decide_eq_true b⟩
section
variable{P:Program}{w:World}{K:F__}{mg:Str->Option Value}{base:Heap}
theorem scHvM:a4' ["sight","one","other","guard","given","lead","joint","piece"] ["sight","one","other","guard","given"] (a3' sHvM):=f__
def spHvM(K:F__)(CS CG CW:Addr):Sp:=fun vs H Q _=>∃(v g p lg:Addr) (a b gd:Str) (gv:List Str) (hs:Xa) (ts:Xb) (qs:List Pc) (fp:List Addr) (f:Str->Str),vs=[.ref v,.str a,.str b,.str gd,.ref lg]/\bo' K CS CG CW H v g p hs ts qs fp f/\Wd hs ts qs f/\a∈a6' hs/\b∈a6' hs/\H lg=some (.lst (gv.map V.str)) /\
 ∀l ys H',Same H H'->H l=none->H' l=some (.lst ys)->a5' K H' ys ((hmv hs ts qs f gd gv a b).map kM)->Q (.ref l) H'
set_option maxHeartbeats 1600000 in
theorem jG_{f0 CS CG CW CP:Addr}{fd:FuncData}(F:Fun K "heaviest_move" "heaviest_move" sHvM f0 fd)(TS:TxtS K CS)(TG:TxtG K CG)(cL:CalM P w K mg base CS 3 "lead" ["self","one","other"] (spLead K CS CG CW))(cJ:CalM P w K mg base CS 3 "joint_strength" ["self","one","other"] (spJoint K CS CG CW))(cF:Cal P w K mg base 1 "fits" ["guard","lead","burden"] spFits)(cW:CalX P w K mg base CG 2 "weight" ["self","piece"] (bC' K CG CW CP))(cM:CalX P w K mg base CG 3 "may_go" ["self","piece","one","other"] (spGMay K CG CW CP)) :
  FnOk P w K mg base CX0 4 f0 fd ["sight","one","other","guard","given"] (spHvM K CS CG CW):=by
 refine F.ok scHvM (fun vs H Q E h=>?_) (fun cdv A outer s H vs Q E hr h=>?_)
 ·obtain⟨v,g,p,lg,a,b,gd,gv,hs,ts,qs,fp,f,rfl,_⟩:=h;rfl
 ·obtain⟨v,g,p,lg,a,b,gd,gv,hs,ts,qs,fp,f,rfl,S,W,ha,hb,hg,k⟩:=h;have hu:=b5_ hr;have sz:=sizeLine_eq;have hr1:Room 1 _:=hr.mono (by decide);have hr2:Room 2 _:=hr.mono (by decide);refine' ⟨_,?r0,?kk⟩
  case' r0=>refine' a2_ ?s1 ?r1
  case' r1=>refine' a2_ ?s2 ?r2
  case' r2=>refine' a2_ ?s3 (a5_ ?s4)
  case s1=>exact aa_ (i:=5) scHvM.nd rfl (Or.inl rfl) (bs_ cL TS.cl hr (pv 0) (a0_ (pv 1) (a0_ (pv 2) a3_)))
  case s2=>exact aa_ (i:=6) scHvM.nd rfl (Or.inl rfl) (bs_ cJ TS.cl hr (pv 0) (a0_ (pv 1) (a0_ (pv 2) a3_)))
  case' s3=>refine' aK_ PassesOwn.never rfl (ak_ (ag_ hu (aF_ (pv 0) rfl) (pv 1) (fun _ _=>rfl))) (a8_ (i:=7) scHvM.nd rfl (Or.inl rfl)) (a5_ ?b3)
  case' b3=>refine' aB_ (PW.pt (d0_ ?c1 (cH_ ?c2))) (a5_ ?b4) ae_
  case c1=>exact an_ (cE_ cmpS (cc' hr 0)) (pv 7) (pv 4) (by with_unfolding_all rfl)
  case c2=>exact aJ_ (af_ cF hr1 (a0_ (pv 3) (a0_ (pv 5) (a0_ (aj_ b6_ (i5_ cW TG.cl hr2 (aF_ (pv 0) rfl) (a0_ (pv 7) a3_)) (pv 6)) a3_))))
  case b4=>exact aB_ (aJ_ (i5_ cM TG.cl hr (aF_ (pv 0) rfl) (a0_ (pv 7) (a0_ (pv 1) (a0_ (pv 2) a3_))))) (a5_ (ab_ (ar_ (a0_ (aL_ (a0_ (pv 7) (a0_ (pv 1) (a0_ (pv 2) a3_)))) a3_)))) ae_
  case s4=>exact ab_ (ar_ a3_)
  case' kk=>skip
  obtain⟨dx,dl,dv,dp,ad,h1,G,h3,h4,h5,h6⟩:=S.ex;have no:∀{m:Str},¬m="wares"->¬m="load_by_hand"->¬m="level_by_hand"->¬m="pieces_by_hand"->(sflds g dl dv dp).lookup m=none:=fun a b c d=>kq_ _ _ _ _ a b c d;refine⟨_,rfl,v,dx,_,rfl,h1,no (by decide +kernel) (by decide +kernel) (by decide +kernel) (by decide +kernel),_,rfl,_,rfl,v,g,p,a,b,hs,ts,qs,fp,f,rfl,S,W,ha,hb,?_⟩;refine setG ?_;dsimp only;refine⟨_,rfl,v,dx,_,rfl,h1,no (by decide +kernel) (by decide +kernel) (by decide +kernel) (by decide +kernel),_,rfl,_,rfl,v,g,p,a,b,hs,ts,qs,fp,f,rfl,S,W,ha,hb,?_⟩;refine setG ?_;dsimp only;have hl:=h6 a ha;refine⟨_,rfl,v,CS,dx,_,_,rfl,h1,TS.cl,TS.nP,sf_p _ _ _ _,_,rfl,dp,_,rfl,dgR h5 ha,ad a,rfl,⟨_,.of hl⟩,as_ (K:=K) (a:=ad a) (xs:=(hvAt qs f a).map V.str) (fun i σ H'=>∃v7:Option V,σ=[some (.ref v),some (.str a),some (.str b),some (.str gd),some (.ref lg),some (.int (bU' hs qs f a b)),some (.int (bF' hs a b)),v7]/\Same H H'/\∀n∈(hvAt qs f a).take i,hmP hs ts qs f gd gv a b n=false) ⟨none,rfl,Same.refl H,by simp⟩ (fun i σ H' _ ⟨_,_,sm,_⟩=>.of (sm _ _ hl)) ?_ ?_⟩
  ·rintro i x σ H' hx ⟨v7,rfl,sm,nf⟩;obtain⟨n,hn,rfl⟩:=aq_ hx;obtain⟨nm,fn⟩:=gY_ (ae' hn);obtain⟨q,hq,rfl⟩:=ad'.mp nm;have G':=G.same sm;have h1':=sm _ _ h1;obtain⟨dxg,dw,dy,vs,fpw,g1,g2,_⟩:=id G'.ex;have hwt:(gflds p dw dy).lookup ("weight":Str)=none:=be_ _ _ _ (by decide +kernel) (by decide +kernel) (by decide +kernel);have hmy:(gflds p dw dy).lookup ("may_go":Str)=none:=be_ _ _ _ (by decide +kernel) (by decide +kernel) (by decide +kernel);have wq:=W.wq q hq;have ew:=e1_ W.nd hq;have ey:=hD_ W.nd hq
   have go:∀{H2:Hp},Same H' H2->hmP hs ts qs f gd gv a b q.1=false->∃v7:Option V,[some (V.ref v),some (V.str a),some (V.str b),some (V.str gd),some (V.ref lg),some (V.int (bU' hs qs f a b)),some (V.int (bF' hs a b)),some (V.str q.1)]=[some (V.ref v),some (V.str a),some (V.str b),some (V.str gd),some (V.ref lg),some (V.int (bU' hs qs f a b)),some (V.int (bF' hs a b)),v7]/\Same H H2/\∀n∈(hvAt qs f a).take (i+1),hmP hs ts qs f gd gv a b n=false:=fun {H2} s2 e=>⟨_,rfl,sm.trans s2,fun m hm=>by
    rw[av_ hn] at hm;rcases au'.mp hm with hm|hm
    ·exact nf m hm
    ·rw[aB'.mp hm];exact e⟩
   refine setG ?_;dsimp only;refine⟨_,rfl,_,rfl,q.1,gv,rfl,⟨lg,_,rfl,.of (sm _ _ hg),bW_ gv⟩,_,rfl,?_⟩;rw[if_pos rfl];refine ite2 (fun c=>?_) (fun c=>?_)
   ·have c:¬q.1∈gv:=by simpa using c
    refine⟨_,rfl,_,rfl,_,rfl,v,CS,dx,_,_,rfl,h1',TS.cl,TS.nW,sf_g _ _ _ _,g,dxg,_,rfl,g1,hwt,_,rfl,g,p,.str q.1,some q.1,hs,ts,qs,fp,rfl,G',W.nd,rfl,.inl ⟨q,hq,rfl,?_⟩⟩;refine⟨_,rfl,_,_,rfl,rfl,.inl ⟨by omega,by omega⟩,gd,bU' hs qs f a b,q.2.1 * bF' hs a b,rfl,_,rfl,?_⟩;refine ite2 (fun c2=>?_) (fun c2=>?_)
    ·refine⟨_,rfl,v,CS,dx,_,_,rfl,h1',TS.cl,TS.nW,sf_g _ _ _ _,g,dxg,_,rfl,g1,hmy,_,rfl,_,rfl,_,rfl,g,p,.str q.1,.str a,.str b,some q.1,some a,some b,hs,ts,qs,fp,rfl,G',W.nd,W.Gd.nnd,rfl,.inl ⟨q,hq,rfl,rfl,rfl,fun H2 s2=>⟨_,rfl,?_⟩⟩⟩;refine ite2 (fun c3=>?_) (fun c3=>?_)
     ·have pt:hmP hs ts qs f gd gv a b q.1=true:=by
       unfold hmP mayN;rw[ew,ey,c2,decide_eq_false c];simpa using c3
      refine⟨_,rfl,_,rfl,_,rfl,by show 3<=sizeLine;decide,fun t nt=>?_⟩;obtain⟨s3,e3⟩:=nw__ (o:=.tup [.str q.1,.str a,.str b]) nt;generalize upd H2 t (.tup [.str q.1,.str a,.str b])=H3 at s3 e3 ⊢;refine⟨by show 1<=sizeLine;decide,fun l nl=>?_⟩;have s4:=Same.new (o:=.lst [.ref t]) nl;have s04:=(sm.trans s2).trans s3;refine k l [.ref t] _ (s04.trans s4) (s04.free nl) a1_ ?_;unfold hmv;rw[gc_ hn pt nf];exact .cons ⟨t,rfl,s4 _ _ e3⟩ .nil
     ·refine go s2 ?_;unfold hmP mayN;rw[ew,ey,c2];have c3:goB hs ts q.2.2 (some a) (some b)=false:=by simpa using c3
      rw[c3,aS',aS']
    ·refine go (Same.refl H') ?_;unfold hmP;rw[ew,show fitB gd (bU' hs qs f a b) (q.2.1 * bF' hs a b)=false by simpa using c2,aZ',aS']
   ·have c:q.1∈gv:=by simpa using c
    refine go (Same.refl H') ?_;unfold hmP;rw[decide_eq_true c];rfl
  ·rintro σ H' ⟨v7,rfl,sm,nf⟩;rw[aa',am'] at nf;refine⟨by show 0<=sizeLine;decide,fun l nl=>?_⟩;refine k l [] _ (sm.trans (Same.new nl)) (sm.free nl) a1_ ?_;unfold hmv;rw[List.find?_eq_none.mpr fun n hn=>by rw[nf n hn];decide];exact .nil
end
end Ev
namespace Ev
open PySem L2
theorem c6_(hs:Xa)(ts:Xb)(qs:List Pc)(f:Str->Str)(gd:Str)(gv:List Str)(a b:Str):(hmv hs ts qs f gd gv a b).length<=1:=by
 unfold hmv;split
 ·exact af' 1
 ·exact aE' 1
section
variable{P:Program}{w:World}{K:F__}{mg:Str->Option Value}{base:Heap}
end
end Ev
namespace Ev
open PySem L2
structure CalC (P:Program) (w:World) (K:F__) (mg:Str->Option Value) (base:Heap) (C:Addr) (k:Nat) (x:Str) (ps:List Str) (sp:Sp):Prop where
 ex:∃f fd,FnOk P w K mg base CX0 k f fd ps sp/\Mk K C f/\mg x=some (.ref C)/\bV' K fd ps []
theorem j5_{X:Cx}{C:Addr}{k:Nat}{x:Str}{ps:List Str}{sp:Sp}{p pos:Pos}{e:Expr}{es:List Expr}{t:TA}(c:CalC X.prog X.w X.K X.mg X.base C k x ps sp)(hr:Room (k+1) X.A)(ha:PA X (e::es) t)(hg:Gl X x:=by rfl)(hdb:(x == ("__debug__":Str))=false:=by decide)
  (he:starEach (e::es) X.env=(false,eval e X.env)::starEach es X.env:=by rfl) (hpl:(backTo pos (starEach es X.env)).any (·.1)=false:=by rfl):PE X (.Call (.Name x p) (e::es) [] pos) (tMake C sp [] E0 t):=by
 obtain⟨f,fd,F,M,m,b⟩:=c.ex;exact iP_ M F hr hg m b .nil pass0 ha hdb he hpl
section
variable{P:Program}{w:World}{K:F__}{mg:Str->Option Value}{base:Heap}
theorem scWholeF:a4' ["thing","least"] ["thing","least"] (a3' cN'):=f__
def c8':Sp:=fun vs H Q _=>∃i a:Int,vs=[.int i,.int a]/\Q (.bl (decide (a<=i))) H
theorem gH_{f0:Addr}{fd:FuncData}(F:Fun K "is_whole_from" "is_whole_from" cN' f0 fd)(cI:Cal P w K mg base 1 "is_whole" ["thing"] spIsW):FnOk P w K mg base CX0 2 f0 fd ["thing","least"] c8':=by
 refine F.ok scWholeF (fun vs H Q E h=>?_) (fun cdv A outer s H vs Q E hr h=>?_)
 ·obtain⟨i,a,rfl,_⟩:=h;rfl
 ·obtain⟨i,a,rfl,k⟩:=h;refine⟨_,a5_ (ab_ (br_ (af_ cI hr (a0_ (pv 0) a3_)) (bd_ (aG_ eo_ (pv 1) (pv 0) (nomark _))))),?_⟩;exact⟨_,rfl,i,rfl,_,rfl,iteT ⟨_,rfl,_,rfl,_,_,rfl,rfl,k⟩⟩
theorem dj':a4' ["thing"] ["thing"] (a3' b6'):=f__
def ce':Sp:=fun vs H Q _=>∃i:Int,vs=[.int i]/\0<=i/\Q (.int i) H
theorem eq_{f0:Addr}{fd:FuncData}(F:Fun K "checked_moments" "checked_moments" b6' f0 fd)(cI:Cal P w K mg base 2 "is_whole_from" ["thing","least"] c8'):FnOk P w K mg base CX0 3 f0 fd ["thing"] ce':=by
 refine F.ok dj' (fun vs H Q E h=>?_) (fun cdv A outer s H vs Q E hr h=>?_)
 ·obtain⟨i,rfl,_⟩:=h;rfl
 ·obtain⟨i,rfl,h0,k⟩:=h;refine⟨_,a2_ (aB_ (aQ_ (aJ_ (af_ cI hr (a0_ (pv 0) (a0_ a7_ a3_))))) ah_ ae_) (a5_ (ab_ (pv 0))),?_⟩;refine⟨_,rfl,i,0,rfl,_,rfl,?_⟩;rw[decide_eq_true h0];exact iteF ⟨_,rfl,k⟩
theorem scCStart:a4' ["goods","stand","rule"] ["goods","stand","rule"] (a3' cT'):=f__
def de'(K:F__)(CG CW:Addr):Sp:=fun vs H Q E=>∃(g d:V),∃r∈rl,vs=[g,d,.str r.1]/\cg' K CG CW [g,d] H Q E
theorem go_{f0 CG CW:Addr}{fd:FuncData}(F:Fun K "checked_start" "checked_start" cT' f0 fd)(cWo:Cal P w K mg base 2 "checked_words" ["rule"] (cJ' K))(cS:Cal P w K mg base 2 "checked_stand" ["goods","stand"] (cg' K CG CW)):FnOk P w K mg base CX0 3 f0 fd ["goods","stand","rule"] (de' K CG CW):=by
 refine F.ok scCStart (fun vs H Q E h=>?_) (fun cdv A outer s H vs Q E hr h=>?_)
 ·obtain⟨g,d,r,hr,rfl,_⟩:=h;rfl
 ·obtain⟨g,d,r,hr',rfl,h⟩:=h;refine⟨_,a2_ (b4_ (af_ cWo hr (a0_ (pv 2) a3_))) (a5_ (ab_ (af_ cS hr (a0_ (pv 0) (a0_ (pv 1) a3_))))),?_⟩;exact⟨_,rfl,r,hr',rfl,fun a _=>⟨_,rfl,_,rfl,h⟩⟩
structure Stn (K:F__) (CG CW:Addr) (H:Hp) (g p d:Addr) (hs:Xa) (ts:Xb) (qs:List Pc) (fp:List Addr) (ns:List Str) (f:Str->Str):Prop where
 G:ba' K CG CW H g p hs ts qs fp
 dfp:d∉fp
 hd:H d=some (.dK (stF ns f))
 so:StandOk hs qs ns f
 has:∀b∈fp,∃o,H b=some o/\∀vs,o≠.tbl vs
theorem Stn.nt{CG CW g p d:Addr}{H G:Hp}{hs:Xa}{ts:Xb}{qs:List Pc}{fp:List Addr}{ns:List Str}{f:Str->Str}(S:Stn K CG CW H g p d hs ts qs fp ns f)(s:NT H G):Stn K CG CW G g p d hs ts qs fp ns f:=⟨S.G.nt s,S.dfp,s.dK S.hd,S.so,fun b hb=>by
 obtain⟨o,e,n⟩:=S.has b hb;exact⟨o,s _ _ e n,n⟩⟩
structure Tb (H:Hp) (T1 T2:Addr):Prop where
 a:bu' H T1 qHF
 b:bu' H T2 qRN
 ne:T1≠T2
theorem cy':a4' ["goods","stand","rule","moment","placed"] ["goods","stand","rule","moment"] (a3' co'):=f__
end
end Ev
namespace Ev
open PySem L2
def hit(t u:Str × Str):Bool:=(decide (u.1=t.1) || decide (u.2=t.1)) || (decide (u.1=t.2) || decide (u.2=t.2))
def a9'(rs:List Xb)(t:Str × Str):Nat:=rs.findIdx fun r=>!r.any (hit t)
def bq'(K:F__)(H:Hp)(l:Addr)(as:List Addr)(rs:List Xb):Prop:=H l=some (.lst (as.map V.ref))/\Paired (fun a r=>∃zs,H a=some (.lst zs)/\a5' K H zs (r.map kT)) as rs
theorem bq'.same{K:F__}{H H':Hp}{l:Addr}{as:List Addr}{rs:List Xb}(h:bq' K H l as rs)(s:Same H H'):bq' K H' l as rs:=⟨s _ _ h.1,Paired.mapP h.2 fun a r ⟨zs,e,t⟩=>⟨zs,s _ _ e,t.same s⟩⟩
section
variable{P:Program}{w:World}{K:F__}{mg:Str->Option Value}{base:Heap}
theorem scRow:a4' ["rows","tie","place","row"] ["rows","tie"] (a3' b8'):=f__
def spRow(K:F__):Sp:=fun vs H Q _=>∃(l t:Addr) (as:List Addr) (rs:List Xb) (tt:Str × Str),vs=[.ref l,.ref t]/\bq' K H l as rs/\H t=some (.tup ((kT tt).map kV))/\(∀r∈rs,r.length<=1000)/\∀H',Same H H'->Q (.int (a9' rs tt)) H'
theorem k2_{f:Addr}{fd:FuncData}(F:Fun K "first_row_without" "first_row_without" b8' f fd)(B:Bi mg):FnOk P w K mg base CX0 1 f fd ["rows","tie"] (spRow K):=by
 refine F.ok scRow (fun vs H Q E h=>?_) (fun cdv A outer s H vs Q E hr h=>?_)
 ·obtain⟨l,t,as,rs,tt,rfl,_⟩:=h;rfl
 ·obtain⟨l,t,as,rs,tt,rfl,R,ht,h1000,k⟩:=h;have sz:=sizeLine_eq
  refine⟨_,a2_ (aK_ PassesOwn.never rfl (gx_ (by rfl) B.enum (a0_ (pv 0) a3_)) (b8_ rfl (ad_ (a8_ (i:=2) scRow.nd rfl (Or.inl rfl)) (ad_ (a8_ (i:=3) scRow.nd rfl (Or.inl rfl)) aO_)))
    (a5_ (aB_ (aQ_ (aJ_ (ac_ (eL_ rfl) (by rfl) B.any PyProof.Rows.Boot.«any» (a0_
     (aN_ ["there","tie"] 1 [1] (ak_ (pv 3)) (fun fp s H=>a8_ (i:=0) (show (["there","tie"]:List Str).Nodup by decide +kernel) rfl (Or.inl rfl)) (fun fp s H=>aS_)
      (fun fp s H=>fg_ (aG_ (opK (K:=K) (fun K=>rIn K false) bS_) (az_ (ixK (K:=K) rIxT aM_) (pv 1) a7_ (fun _ _=>rfl)) (pv 0) (by with_unfolding_all rfl)) (bd_ (aG_ (opK (K:=K) (fun K=>rIn K false) bS_) (az_ (ixK (K:=K) rIxT aM_) (pv 1) a7_ (fun _ _=>rfl)) (pv 0) (by with_unfolding_all rfl))))) a3_)))) (a5_ (ab_ (pv 2))) ae_)))
   (a5_ (ab_ (ac_ ai_ (by rfl) B.len PySem.boot_len (a0_ (pv 0) a3_)))),?_⟩
  have la:=Paired.length R.2;refine⟨_,rfl,l,rfl,⟨_,.of R.1⟩,ex_ (K:=K) (a:=l) (xs:=as.map V.ref) (fun i σ H2=>∃(v2 v3:Option V),σ=[some (.ref l),some (.ref t),v2,v3]/\Same H H2/\∀r∈rs.take i,r.any (hit tt)=true) ⟨none,none,rfl,Same.refl H,by simp⟩ (fun i σ H2 _ ⟨_,_,_,s2,_⟩=>.of (s2 _ _ R.1)) ?_ ?_⟩
  ·rintro i x σ H2 hx ⟨v2,v3,rfl,s2,past⟩ u hu
   have hi:i<as.length:=by
    have:=(ab'.mp hx).1;rwa [aa'] at this
   have ex:x=.ref as[i]:=by
    rw[al',ac' hi] at hx;exact (Option.some.inj hx).symm
   subst ex;have hri:i<rs.length:=by omega
   obtain⟨zs,hzs,tz⟩:=paired_get R.2 i hi hri;have s3:Same H (upd H2 u (.tup [.int i,.ref as[i]])):=s2.trans (Same.new hu);have hu3:upd H2 u (.tup [.int i,.ref as[i]]) u=some (.tup [.int i,.ref as[i]]):=a1_;generalize upd H2 u (.tup [.int i,.ref as[i]])=H3 at s3 hu3 ⊢;refine⟨u,_,rfl,.of hu3,rfl,_,_,rfl,_,_,rfl,rfl,?_⟩;refine⟨_,rfl,as[i],rfl,⟨_,.of (s3 _ _ hzs)⟩,fun D hD=>?_⟩;have lz:=Paired.length tz;rw[aa'] at lz;have lr:=h1000 rs[i] (az' hri);refine aI_ (own:=1) (fv:=[some (.ref t)]) (xs:=zs) rfl gok1 (fun j out H'=>Same H3 H'/\H' D=some (.lst out)/\out=((rs[i].take j).map (hit tt)).map V.bl) ⟨Same.new hD,a1_,rfl⟩ (fun j out H' _ ⟨sm,_,_⟩=>.of (sm _ _ (s3 _ _ hzs))) (fun out H4 ⟨s4,hD4,eo⟩=>?_) (fun j y out H' hy ⟨sm,hD',eo⟩=>?_)
   ·rw[lz,am'] at eo;subst eo;refine⟨D,rs[i].map (hit tt),rfl,.of hD4,⟨_,rfl,?_⟩⟩;have eany:(rs[i].map (hit tt)).any id=rs[i].any (hit tt):=by rw[List.any_map];rfl
    refine ite2 (fun c=>?_) (fun c=>?_)
    ·have c:rs[i].any (hit tt)=false:=by
      have:(!(rs[i].map (hit tt)).any id)=true:=c;rw[eany] at this;simpa using this
     have e:a9' rs tt=i:=by
      unfold a9';rw[List.findIdx_eq hri];refine⟨by rw[c];rfl,fun j hj=>?_⟩;have:=past (rs[j]'(by omega)) (List.mem_iff_getElem?.mpr ⟨j,by rw[List.getElem?_take_of_lt hj,ac' (by omega)]⟩);rw[this];rfl
     refine⟨_,rfl,?_⟩;have:=k H4 (s3.trans s4);rw[e] at this;exact this
    ·have c:rs[i].any (hit tt)=true:=by
      have:¬(!(rs[i].map (hit tt)).any id)=true:=c;rw[eany] at this;simpa using this
     refine⟨_,_,rfl,s3.trans s4,fun r hr=>?_⟩;rw[aw',ac' hri] at hr;rcases au'.mp hr with hr|hr
     ·exact past r hr
     ·obtain rfl:r=rs[i]:=by simpa using hr
      exact c
   ·obtain⟨q,hq,a,rfl,ha⟩:=am_ tz hy;have ha':=sm _ _ (s3 _ _ (hpT ha));have ht':=sm _ _ (s3 _ _ (hpT ht))
    have lo:out.length<sizeLine:=by
     rw[eo,aa',aa',ak'];omega
    refine⟨_,rfl,rfl,fun Nx hN=>yesT ?_⟩;have nx:Nx (upd H' D (.lst (out++[.bl (hit tt q)]))):=hN _ _ ⟨ao_ sm hD,a1_,by rw[aW_ _ hq,an',eo];rfl⟩;refine⟨_,rfl,t,_,_,_,rfl,rfl,.of ht',rfl,_,rfl,a,_,rfl,.inr (.of ha'),rfl,rfl,_,rfl,?_⟩;refine ite2 (fun c=>?_) (fun c=>?_)
    ·have c:(decide (q.1=tt.1) || decide (q.2=tt.1))=true:=by rw[<- cS_];exact c
     refine⟨out,hD',lo,?_⟩;rwa [show hit tt q=true by unfold hit;rw[c];rfl] at nx
    ·have c:(decide (q.1=tt.1) || decide (q.2=tt.1))=false:=by
      rw[<- cS_];simpa using c
     refine⟨_,rfl,t,_,_,_,rfl,rfl,.of ht',rfl,_,rfl,a,_,rfl,.inr (.of ha'),rfl,rfl,out,hD',lo,?_⟩;rw[show hit tt q=inV (.str tt.2) [.str q.1,.str q.2] by unfold hit;rw[c,Bool.false_or,cS_]] at nx;exact nx
  ·rintro σ H2 ⟨v2,v3,rfl,s2,past⟩;rw[aa',la,am'] at past;refine⟨_,rfl,l,_,rfl,.inl (.of (s2 _ _ R.1)),?_⟩
   have e:a9' rs tt=rs.length:=by
    unfold a9';rw[List.findIdx_eq_length];intro r hr;rw[past r hr];rfl
   have:=k H2 s2;rw[e] at this;rw[aa',la];exact this
end
end Ev
namespace Ev
open PySem L2
abbrev sTurns:Stmt:=bf' sWeb 8
theorem bO_{α β:Type}{F:α->β->Prop}:∀{l:List α} {m:List β},l.length=m.length->(∀(i:Nat) (h1:i<l.length) (h2:i<m.length),F l[i] m[i])->Paired F l m
 |[],[],_,_=>.nil
 |[],_::_,h,_=>by cases h
 |_::_,[],h,_=>by cases h
 |a::l,b::m,h,f=>.cons (f 0 (by simp) (by simp)) (bO_ (by simpa using h) fun i h1 h2=>f (i+1) (by simpa using h1) (by simpa using h2))
def bc'(rs:List Xb)(t:Str × Str):List Xb:=if h:a9' rs t<rs.length then rs.set (a9' rs t) (rs[a9' rs t]++[t]) else rs++[[t]]
def turnsOf(ts:Xb):List Xb:=ts.foldl bc' []
theorem eR_(rs:List Xb)(t:Str × Str):a9' rs t<=rs.length:=List.findIdx_le_length
theorem bA_(rs:List Xb)(t:Str × Str):(bc' rs t).length<=rs.length+1:=by
 unfold bc';split
 ·rw[List.length_set];omega
 ·rw[ap'];exact af' _
theorem bC_{rs:List Xb}{t:Str × Str}{n:Nat}(h:∀r∈rs,r.length<=n):∀r∈bc' rs t,r.length<=n+1:=by
 unfold bc';intro r hr;split at hr
 ·rename_i hlt
  rcases List.mem_or_eq_of_mem_set hr with m|rfl
  ·have:=h r m;omega
  ·have:=h rs[a9' rs t] (az' hlt);rw[ap'];show rs[a9' rs t].length+1<=n+1;omega
 ·rcases au'.mp hr with m|m
  ·have:=h r m;omega
  ·obtain rfl:r=[t]:=by simpa using m
   simp
theorem bq'.add{K:F__}{H H':Hp}{l a:Addr}{as:List Addr}{rs:List Xb}{t:Str × Str}{zs:List V}(h:bq' K H l as rs)(nd:as.Nodup){p:Nat}(hp:p<rs.length)(ha:as[p]? = some a)(hl:H' l=some (.lst (as.map V.ref)))(hz:H' a=some (.lst zs))(tz:a5' K H' zs ((rs[p]++[t]).map kT))
  (k:∀b o,H b=some o->b≠l->b≠a->H' b=some o) (hla:∀b∈as,b≠l) (kt:∀b xs,H b=some (.tup xs)->H' b=some (.tup xs)):bq' K H' l as (rs.set p (rs[p]++[t])):=by
 have la:=Paired.length h.2;refine⟨hl,bO_ (by rw[List.length_set,la]) fun i h1 h2=>?_⟩;rw[List.length_set] at h2;obtain⟨hpa,ea⟩:=ab'.mp ha;by_cases e:p=i
 ·subst e;rw[List.getElem_set_self,ea];exact⟨zs,hz,tz⟩
 ·rw[List.getElem_set_ne e];obtain⟨zs2,e2,t2⟩:=paired_get h.2 i h1 h2;have ne:as[i]≠a:=fun q=>e ((List.getElem_inj nd).mp (ea.trans q.symm));exact⟨zs2,k _ _ e2 (hla _ (az' h1)) ne,Paired.mapP t2 fun y q ⟨c,z,e⟩=>⟨c,z,kt _ _ e⟩⟩
theorem cq_{α β:Type}{F:α->β->Prop}{l:List α}{m:List β}{a:α}{b:β}(h:Paired F l m)(f:F a b):Paired F (l++[a]) (m++[b]):=Paired.snoc h f
section
variable{P:Program}{w:World}{K:F__}{mg:Str->Option Value}{base:Heap}
theorem cs':a4' ["self","rows","tie","place"] ["self"] (a3' sTurns):=f__
def spTurns(K:F__)(C:Addr):Sp:=fun vs H Q _=>∃(p:Addr) (hs:Xa) (ts:Xb) (fp:List Addr),vs=[.ref p]/\bl' K C H p hs ts fp/\ts.length<64 /\
 ∀(l:Addr) (as:List Addr) (H':Hp),Same H H'->H l=none->(∀a∈as,H a=none)->(∀a∈as,a≠l)->as.Nodup->bq' K H' l as (turnsOf (tsOf ts))->Q (.ref l) H'
theorem h0_{f C:Addr}{fd:FuncData}(F:Fun K "turns" "Web.turns" sTurns f fd)(B:Bi mg)(T:Txt K mg C)(cT:CalM P w K mg base C 2 "ties" ["self"] (spTiesM K C))(cR:Cal P w K mg base 1 "first_row_without" ["rows","tie"] (spRow K)):FnOk P w K mg base CX0 3 f fd ["self"] (spTurns K C):=by
 refine F.ok cs' (fun vs H Q E h=>?_) (fun cdv A outer s H vs Q E hr h=>?_)
 ·obtain⟨p,hs,ts,fp,rfl,_⟩:=h;rfl
 ·obtain⟨p,hs,ts,fp,rfl,W,h64,k⟩:=h;have sz:=sizeLine_eq;have hr1:Room 1 _:=hr.mono (by decide);obtain⟨dx,d1,l2,d3,zs0,as0,efp,h1,_⟩:=id W.ex;have noT:(flds d1 l2 d3).lookup ("ties":Str)=none:=b0_ _ _ _ (by decide +kernel) (by decide +kernel) (by decide +kernel)
  refine⟨_,a2_ (aa_ (i:=1) cs'.nd rfl (Or.inl rfl) (ar_ a3_))
   (a2_ (aK_ PassesOwn.never rfl (ak_ (cZ_ cT T.cl hr (pv 0))) (a8_ (i:=2) cs'.nd rfl (Or.inl rfl))
    (a2_ (aa_ (i:=3) cs'.nd rfl (Or.inl rfl) (af_ cR hr1 (a0_ (pv 1) (a0_ (pv 2) a3_))))
    (a2_ (aB_ (an_ cP_ (pv 3) (ac_ ai_ (by rfl) B.len PySem.boot_len (a0_ (pv 1) a3_)) (nomark _))
     (a5_ (b4_ (bK_ PySem.F.plainAttrs_list PySem.F.slot_list_append PySem.F.type_list_append aT_ (pv 1) (a0_ (ar_ a3_) a3_)))) ae_)
    (a5_ (b4_ (bK_ PySem.F.plainAttrs_list PySem.F.slot_list_append PySem.F.type_list_append aT_ (az_ aH_ (pv 1) (pv 3) (fun _ _=>rfl)) (a0_ (pv 2) a3_)))))))
   (a5_ (ab_ (pv 1)))),?_⟩
  refine⟨by show 0<=sizeLine;decide,fun lr hlr=>?_⟩;have s0:Same H (upd H lr (.lst [])):=Same.new hlr;have hlr0:upd H lr (.lst []) lr=some (.lst []):=a1_;generalize upd H lr (.lst [])=H0 at s0 hlr0 ⊢;refine⟨_,rfl,p,dx,_,rfl,s0 _ _ h1,noT,p,hs,ts,fp,rfl,W.same s0,h64,fun lt zs H1 s1 hlt hlt1 tz=>?_⟩;have nlt:lt≠lr:=(a6_ hlr0 hlt).symm;have lz:=Paired.length tz;rw[aa',bo_] at lz;have ltl:=bo_ ts
  refine⟨lt,rfl,⟨_,.of hlt1⟩,as_ (K:=K) (a:=lt) (xs:=zs) (fun i σ H2=>∃(v2 v3:Option V) (as:List Addr),σ=[some (.ref p),some (.ref lr),v2,v3]/\But lr H1 H2/\(∀a∈as,H1 a=none/\a≠lr)/\as.Nodup/\bq' K H2 lr as (turnsOf ((tsOf ts).take i))/\(turnsOf ((tsOf ts).take i)).length<=i/\∀r∈turnsOf ((tsOf ts).take i),r.length<=i)
   ⟨none,none,[],rfl,But.refl _ _,by simp,.nil,⟨s1 _ _ hlr0,.nil⟩,af' _,by intro r hr;simp[turnsOf] at hr⟩ (fun i σ H2 _ ⟨_,_,_,_,b,_⟩=>.of (b _ _ hlt1 nlt)) ?_ ?_⟩
  ·rintro i y σ H2 hy ⟨v2,v3,as,rfl,b2,fa,nd,R,l1,l2'⟩;obtain⟨t,ht,a,rfl,ha⟩:=am_ tz hy;have hi:i<(tsOf ts).length:=(ab'.mp ht).1;have hlr1:=s1 _ _ hlr0;have nal:a≠lr:=ax_ ha hlr1 nofun;have ha2:=b2 _ _ ha nal;have la:=Paired.length R.2
   have est:turnsOf ((tsOf ts).take (i+1))=bc' (turnsOf ((tsOf ts).take i)) t:=by
    unfold turnsOf;rw[aw',ht,List.foldl_append];rfl
   generalize turnsOf ((tsOf ts).take i)=rs at R l1 l2' la est;refine⟨_,rfl,_,rfl,lr,a,as,rs,t,rfl,R,ha2,fun r hr=>by have:=l2' r hr;omega,fun H3 s3=>?_⟩;have R3:=R.same s3;have ha3:=s3 _ _ ha2;have b3:But lr H1 H3:=b2.trans (But.of s3);have f3:∀a∈as,H1 a=none/\a≠lr:=fa;refine⟨_,rfl,_,rfl,lr,_,rfl,.inl (.of R3.1),rfl,_,rfl,?_⟩;refine ite2 (fun c=>?_) (fun c=>?_)
   ·have c:a9' rs t=rs.length:=by
     have:V.int (a9' rs t)=V.int ((as.map V.ref).length:Nat):=by simpa using c
     rw[aa',la] at this;have:=V.int.inj this;omega
    refine⟨_,rfl,.inl ⟨rfl,_,.of R3.1⟩,by show 0<=sizeLine;decide,fun ln hln=>?_⟩;obtain⟨s4,hln4⟩:=nw__ (o:=.lst []) hln;have nlr:ln≠lr:=(a6_ R3.1 hln).symm;refine⟨lr,_,_,rfl,rfl,s4 _ _ R3.1,by rw[aa'];omega,?_⟩
    have fln:H1 ln=none:=by
     cases z:H1 ln with
     |none=>rfl
     |some o=>
      have:=b3 _ _ z nlr;rw[hln] at this;cases this
    have nin:ln∉as:=fun m=>by
     obtain⟨j,hj,e⟩:=aD' m;obtain⟨zz,e2,_⟩:=paired_get R3.2 j hj (by omega);rw[e,hln] at e2;cases e2
    have atl:atI (as.map V.ref++[V.ref ln]) (a9' rs t:Int)=some (.ref ln):=by
     rw[bg' (by omega) (by rw[ap',aa'];show ((a9' rs t:Nat):Int)<((as.length+1:Nat):Int);omega),Int.toNat_natCast,c,aI' (by rw[aa'];omega),aa',la,Nat.sub_self];rfl
    have hlr5:upd (upd H3 ln (.lst [])) lr (.lst (as.map V.ref++[.ref ln])) lr=some (.lst (as.map V.ref++[.ref ln])):=a1_;have hln5:upd (upd H3 ln (.lst [])) lr (.lst (as.map V.ref++[.ref ln])) ln=some (.lst []):=by rw[a4_ nlr];exact hln4
    have k5:∀{b o},H3 b=some o->b≠lr->upd (upd H3 ln (.lst [])) lr (.lst (as.map V.ref++[.ref ln])) b=some o:=fun e ne=>by rw[a4_ ne];exact s4 _ _ e
    generalize upd (upd H3 ln (.lst [])) lr (.lst (as.map V.ref++[.ref ln]))=H5 at hlr5 hln5 k5 ⊢;refine⟨_,rfl,_,rfl,lr,_,_,_,rfl,rfl,.of hlr5,atl,.inl ⟨rfl,_,.of hln5⟩,_,rfl,ln,_,_,rfl,rfl,hln5,by show 0<sizeLine;decide,?_⟩;have k6:∀{b o},H3 b=some o->b≠lr->upd H5 ln (.lst ([]++[.ref a])) b=some o:=fun e ne=>by rw[a4_ (a6_ e hln)];exact k5 e ne
    have hln6:upd H5 ln (.lst ([]++[.ref a])) ln=some (.lst [.ref a]):=a1_;have hlr6:upd H5 ln (.lst ([]++[.ref a])) lr=some (.lst (as.map V.ref++[.ref ln])):=by rw[a4_ nlr.symm];exact hlr5
    generalize upd H5 ln (.lst ([]++[.ref a]))=H6 at k6 hln6 hlr6 ⊢;have kt:∀b xs,H3 b=some (.tup xs)->H6 b=some (.tup xs):=fun b xs e=>k6 e (ax_ e R3.1 nofun)
    have ep:bc' rs t=rs++[[t]]:=by
     unfold bc';rw[dif_neg (by omega)]
    refine⟨_,_,as++[ln],rfl,fun b o e ne=>k6 (b3 _ _ e ne) ne,fun x hx=>?_,?_,?_,?_,?_⟩
    ·rcases au'.mp hx with m|m
     ·exact fa x m
     ·obtain rfl:x=ln:=by simpa using m
      exact⟨fln,nlr⟩
    ·rw[List.nodup_append]
     exact⟨nd,by simp,fun x hx z hz=>by
      obtain rfl:z=ln:=by simpa using hz
      exact fun q=>nin (q▸hx)⟩
    ·rw[est,ep];refine⟨by rw[an'];exact hlr6,cq_ (bO_ la fun j h1 h2=>?_) ⟨_,hln6,.cons ⟨a,rfl,kt _ _ ha3⟩ .nil⟩⟩;obtain⟨zz,e,tt⟩:=paired_get R3.2 j h1 h2;exact⟨zz,k6 e (fa _ (az' h1)).2,Paired.mapP tt fun y q ⟨c,z,e⟩=>⟨c,z,kt _ _ e⟩⟩
    ·rw[est];have:=bA_ rs t;omega
    ·rw[est];exact bC_ l2'
   ·have c:a9' rs t<rs.length:=by
     have h1:=eR_ rs t
     have:¬a9' rs t=rs.length:=fun e=>c (by
      rw[aa',la,e];simp)
     omega
    have hpa:a9' rs t<as.length:=by omega
    have nl:as[a9' rs t]≠lr:=(fa _ (az' hpa)).2;obtain⟨zz,ez,tzz⟩:=paired_get R3.2 (a9' rs t) hpa c;have lzz:=Paired.length tzz;rw[aa'] at lzz;have lrow:=l2' _ (az' c)
    have atl:atI (as.map V.ref) (a9' rs t:Int)=some (.ref as[a9' rs t]):=by
     rw[bg' (by omega) (by rw[aa'];omega),Int.toNat_natCast,al',ac' hpa];rfl
    refine⟨_,rfl,_,rfl,lr,_,_,_,rfl,rfl,.of R3.1,atl,.inl ⟨rfl,_,.of ez⟩,_,rfl,_,_,_,rfl,rfl,ez,by omega,?_⟩;have k6:∀{b o},H3 b=some o->b≠as[a9' rs t]->upd H3 as[a9' rs t] (.lst (zz++[.ref a])) b=some o:=fun e ne=>by rw[a4_ ne];exact e
    have h6:upd H3 as[a9' rs t] (.lst (zz++[.ref a])) as[a9' rs t]=some (.lst (zz++[.ref a])):=a1_;generalize upd H3 as[a9' rs t] (.lst (zz++[.ref a]))=H6 at k6 h6 ⊢;have kt:∀b xs,H3 b=some (.tup xs)->H6 b=some (.tup xs):=fun b xs e=>k6 e (ax_ e ez nofun)
    have ep:bc' rs t=rs.set (a9' rs t) (rs[a9' rs t]++[t]):=by
     unfold bc';rw[dif_pos c]
    refine⟨_,_,as,rfl,fun b o e ne=>k6 (b3 _ _ e ne) (a6_ e (fa _ (az' hpa)).1),fa,nd,?_,?_,?_⟩
    ·rw[est,ep];refine R3.add nd c (ac' hpa) (k6 R3.1 nl.symm) h6 ?_ (fun b o e _ ne=>k6 e ne) (fun b hb=>(fa b hb).2) kt;rw[an'];exact ba_ (Paired.mapP tzz fun y q ⟨c,z,e⟩=>⟨c,z,kt _ _ e⟩) (kt _ _ ha3)
    ·rw[est];have:=bA_ rs t;omega
    ·rw[est];exact bC_ l2'
  ·rintro σ H2 ⟨v2,v3,as,rfl,b2,fa,nd,R,_,_⟩;rw[lz,<- ltl,am'] at R;have s2:Same H H2:=fun b o e=>b2 _ _ (s1 _ _ (s0 _ _ e)) (a6_ e hlr);exact⟨_,rfl,k lr as H2 s2 hlr (fun a ha=>(s0.trans s1).free (fa a ha).1) (fun a ha=>(fa a ha).2) nd R⟩
end
end Ev
namespace L2
open PySem PyProof.Rows
section
variable{X:Cx}
def rEqNil(K:F__):V->V->Hp->VK->Prop:=fun x y H Q=>∃a b xs,x=.ref a/\y=.ref b/\SqL K H a xs/\SqL K H b []/\Q (.bl xs.isEmpty) H
theorem hu_(hu:X.A.units+0+1<cLine):OpR X (compareOp .Eq) (rEqNil X.K):=by
 intro pins s σ H x y v u Q I rx ry h;obtain⟨a,b,xs,rfl,rfl,t,t',hq⟩:=h;cases xs with
 |nil=>exact kn_ cmpS hu pins s σ H (.ref a) (.ref b) v u Q I rx ry ⟨[],[],⟨a,[],rfl,t,.nil⟩,⟨b,[],rfl,t',.nil⟩,hq⟩
 |cons z zs=>
  cases rx;cases ry;obtain⟨us,r,pl,_⟩:=I.list t;obtain⟨vs,r',pl',_⟩:=I.list t';have l1:=r.length;have l2:=r'.length;exact SeqAt.eq_list_lengthsAt pl.isList pl'.isList (by simp only[ai',bne_iff_ne];simp at l1 l2;omega) (by omega) ⟨.bl false,H,I,rfl,hq⟩
end
end L2
namespace Ev
open PySem L2
def a8'(ts:Xb)(m:Int):Xb:=((turnsOf (tsOf ts))[(m % ((turnsOf (tsOf ts)).length:Int)).toNat]?).getD []
def bm'(hs:Xa)(ts:Xb)(qs:List Pc)(f:Str->Str)(gd:Str)(t:Str × Str):List Mv:=hmv hs ts qs f gd [] t.1 t.2++hmv hs ts qs f gd [] t.2 t.1
def bx'(hs:Xa)(ts:Xb)(qs:List Pc)(f:Str->Str)(gd:Str)(m:Int):List Mv:=(a8' ts m).flatMap (bm' hs ts qs f gd)
theorem fc_{rs:List Xb}{t u:Str × Str}{r:Xb}(hr:r∈bc' rs t)(hu:u∈r):u=t∨∃r'∈rs,u∈r':=by
 unfold bc' at hr;split at hr
 ·rename_i hlt
  rcases List.mem_or_eq_of_mem_set hr with m|rfl
  ·exact .inr ⟨r,m,hu⟩
  ·rcases au'.mp hu with h|h
   ·exact .inr ⟨_,az' hlt,h⟩
   ·exact .inl (by simpa using h)
 ·rcases au'.mp hr with m|m
  ·exact .inr ⟨r,m,hu⟩
  ·obtain rfl:r=[t]:=by simpa using m
   exact .inl (by simpa using hu)
theorem dY_{u:Str × Str}:∀(ts:Xb) (rs:List Xb) {r:Xb},r∈ts.foldl bc' rs->u∈r->u∈ts∨∃r'∈rs,u∈r'
 |[],rs,r,hr,hu=>.inr ⟨r,hr,hu⟩
 |t::ts,rs,r,hr,hu=>by
  rw[List.foldl_cons] at hr;rcases dY_ ts (bc' rs t) hr hu with h|⟨r',h1,h2⟩
  ·exact .inl (ag' _ h)
  ·rcases fc_ h1 h2 with rfl|h
   ·exact .inl aj'
   ·exact .inr h
theorem cM_:∀(ts:Xb) (rs:List Xb),(ts.foldl bc' rs).length<=rs.length+ts.length
 |[],rs=>af' _
 |t::ts,rs=>by
  rw[List.foldl_cons,aC'];have h1:=cM_ ts (bc' rs t);have h2:=bA_ rs t;omega
theorem dL_{n:Nat}:∀(ts:Xb) (rs:List Xb),(∀r∈rs,r.length<=n)->∀r∈ts.foldl bc' rs,r.length<=n+ts.length
 |[],rs,h,r,hr=>h r hr
 |t::ts,rs,h,r,hr=>by
  rw[List.foldl_cons] at hr;have:=dL_ (n:=n+1) ts (bc' rs t) (bC_ h) r hr;rw[aC'];omega
theorem bb_{ts:Xb}{m:Int}{u:Str × Str}(h:u∈a8' ts m):u∈tsOf ts:=by
 unfold a8' at h;cases e:(turnsOf (tsOf ts))[(m % ((turnsOf (tsOf ts)).length:Int)).toNat]? with
 |none=>rw[e] at h;cases h
 |some r=>
  rw[e] at h;rcases dY_ (tsOf ts) [] (ae' e) h with z|⟨_,z,_⟩
  ·exact z
  ·cases z
theorem bI_{hs:Xa}{ts:Xb}(G:Good hs ts)(m:Int):(a8' ts m).length<64:=by
 unfold a8';cases e:(turnsOf (tsOf ts))[(m % ((turnsOf (tsOf ts)).length:Int)).toNat]? with
 |none=>show 0<64;decide
 |some r=>
  have:=dL_ (n:=0) (tsOf ts) [] (by simp) r (ae' e);rw[bo_] at this;have:=G.t64;show r.length<64;omega
theorem ct_{hs:Xa}{ts:Xb}(G:Good hs ts){u:Str × Str}(h:u∈tsOf ts):u.1∈a6' hs/\u.2∈a6' hs:=by
 have k:kT u∈(tsOf ts).map kT:=ad'.mpr ⟨u,h,rfl⟩;rw[bg_,(al_ _).mem_iff] at k;obtain⟨t,ht,e⟩:=ad'.mp k;have e:=cU_ e;obtain⟨h1,h2⟩:=G.tin t ht;have n1:=(au_ hs).mem_iff.mpr h1;have n2:=(au_ hs).mem_iff.mpr h2;rw[<- e];unfold ord2;split
 ·exact⟨n1,n2⟩
 ·exact⟨n2,n1⟩
theorem cp_{α β:Type}{g:α->List β}{n:Nat}(h:∀x,(g x).length<=n):∀l:List α,(l.flatMap g).length<=n * l.length
 |[]=>aE' _
 |a::l=>by
  have h1:=h a;have h2:=cp_ h l;rw[List.flatMap_cons,ap',aC',Nat.mul_succ];omega
theorem cd_(hs:Xa)(ts:Xb)(qs:List Pc)(f:Str->Str)(gd:Str)(t:Str × Str):(bm' hs ts qs f gd t).length<=2:=by
 unfold bm';rw[ap'];have h1:=c6_ hs ts qs f gd [] t.1 t.2;have h2:=c6_ hs ts qs f gd [] t.2 t.1;omega
section
variable{P:Program}{w:World}{K:F__}{mg:Str->Option Value}{base:Heap}
theorem bE':a4' ["sight","guard","moment","rows","moves","one","other"] ["sight","guard","moment"] (a3' cr'):=f__
def cx'(K:F__)(CS CG CW:Addr):Sp:=fun vs H Q _=>∃(v g p:Addr) (gd:Str) (m:Int) (hs:Xa) (ts:Xb) (qs:List Pc) (fp:List Addr) (f:Str->Str),vs=[.ref v,.str gd,.int m]/\0<=m/\bo' K CS CG CW H v g p hs ts qs fp f/\Wd hs ts qs f /\
 ∀l ys H',Same H H'->H l=none->H' l=some (.lst ys)->a5' K H' ys ((bx' hs ts qs f gd m).map kM)->Q (.ref l) H'
set_option maxHeartbeats 1600000 in
theorem fj_{f0 CS CG CW:Addr}{fd:FuncData}(F:Fun K "moves_by_turns" "moves_by_turns" cr' f0 fd)(B:Bi mg)(TS:TxtS K CS)(TG:TxtG K CG)(TW:Txt K mg CW)(cT:CalM P w K mg base CW 3 "turns" ["self"] (spTurns K CW))(cH:Cal P w K mg base 4 "heaviest_move" ["sight","one","other","guard","given"] (spHvM K CS CG CW)):FnOk P w K mg base CX0 5 f0 fd ["sight","guard","moment"] (cx' K CS CG CW):=by
 refine F.ok bE' (fun vs H Q E h=>?_) (fun cdv A outer s H vs Q E hr h=>?_)
 ·obtain⟨v,g,p,gd,m,hs,ts,qs,fp,f,rfl,_⟩:=h;rfl
 ·obtain⟨v,g,p,gd,m,hs,ts,qs,fp,f,rfl,m0,S,W,k⟩:=h;have sz:=sizeLine_eq;have hr3:Room 3 _:=hr.mono (by decide);refine' ⟨_,?r0,?kk⟩
  case' r0=>refine' a2_ ?s1 ?r1
  case' r1=>refine' a2_ ?s2 ?r2
  case' r2=>refine' a2_ ?s3 (a2_ ?s4 (a5_ ?s5))
  case s1=>exact aa_ (i:=3) bE'.nd rfl (Or.inl rfl) (cZ_ cT TW.cl hr3 (aF_ (aF_ (pv 0) rfl) rfl))
  case s2=>exact aB_ (an_ (hu_ (cc' hr 0)) (pv 3) (ar_ a3_) (nomark _)) (a5_ (ab_ (ar_ a3_))) ae_
  case s3=>exact aa_ (i:=4) bE'.nd rfl (Or.inl rfl) (ar_ a3_)
  case' s4=>refine' aK_ PassesOwn.never rfl (ak_ (az_ aH_ (pv 3) (aj_ bw_ (pv 2) (ac_ ai_ (by rfl) B.len PySem.boot_len (a0_ (pv 3) a3_))) (fun _ _=>rfl))) (b8_ rfl (ad_ (a8_ (i:=5) bE'.nd rfl (Or.inl rfl)) (ad_ (a8_ (i:=6) bE'.nd rfl (Or.inl rfl)) aO_))) (a2_ ?b1 (a5_ ?b2))
  case b1=>exact b4_ (bK_ PySem.F.plainAttrs_list PySem.F.slot_list_extend PySem.F.type_list_extend dw_ (pv 4) (a0_ (af_ cH hr (a0_ (pv 0) (a0_ (pv 5) (a0_ (pv 6) (a0_ (pv 1) (a0_ (ar_ a3_) a3_)))))) a3_))
  case b2=>exact b4_ (bK_ PySem.F.plainAttrs_list PySem.F.slot_list_extend PySem.F.type_list_extend dw_ (pv 4) (a0_ (af_ cH hr (a0_ (pv 0) (a0_ (pv 6) (a0_ (pv 5) (a0_ (pv 1) (a0_ (ar_ a3_) a3_)))))) a3_))
  case s5=>exact ab_ (pv 4)
  case' kk=>skip
  obtain⟨dx,dl,dv,dp,ad,h1,G,h3,h4,h5,h6⟩:=S.ex;obtain⟨dxg,dw,dy,vs,fpw,g1,g2,_⟩:=id G.ex;obtain⟨dxw,d1,l2,d3,zs0,as0,ef,w1,_⟩:=id g2.ex;have hnw:(flds d1 l2 d3).lookup ("turns":Str)=none:=b0_ _ _ _ (by decide +kernel) (by decide +kernel) (by decide +kernel);refine⟨_,rfl,v,CS,dx,_,_,rfl,h1,TS.cl,TS.nW,sf_g _ _ _ _,g,CG,dxg,_,_,rfl,g1,TG.cl,TG.nW,bf_ _ _ _,p,dxw,_,rfl,w1,hnw,p,hs,ts,fpw,rfl,g2,W.Gd.t64,fun lr as H1 s1 nr _ _ _ R=>?_⟩;refine setG ?_;dsimp only;have la:=Paired.length R.2;refine⟨_,rfl,by show 0<=sizeLine;decide,fun le ne=>?_⟩;obtain⟨s12,e2⟩:=nw__ (o:=.lst []) ne;generalize upd H1 le (.lst [])=H2 at s12 e2 ⊢;have s2:=s1.trans s12;have R2:=R.same s12;refine⟨lr,le,_,rfl,rfl,.of R2.1,.of e2,_,rfl,?_⟩;refine ite2 (fun c=>?_) (fun c=>?_)
  ·have z:as=[]:=by simpa using c
   have z:turnsOf (tsOf ts)=[]:=by
    rw[z] at la;exact List.length_eq_zero_iff.mp la.symm
   refine⟨by show 0<=sizeLine;decide,fun l nl=>?_⟩;refine k l [] _ (s2.trans (Same.new nl)) (s2.free nl) a1_ ?_;unfold bx' a8';rw[z];exact .nil
  ·have z:as≠[]:=by simpa using c
   have pos:0<as.length:=List.length_pos_iff.mpr z;refine⟨by show 0<=sizeLine;decide,fun lm nm=>?_⟩;refine setG ?_;dsimp only;obtain⟨s23,e3⟩:=nw__ (o:=.lst []) nm;generalize upd H2 lm (.lst [])=H3 at s23 e3 ⊢;have s3:=s2.trans s23;have nm0:H lm=none:=s2.free nm;have R3:=R2.same s23
   have lt:(m % ((turnsOf (tsOf ts)).length:Int)).toNat<as.length:=by
    have h1:=aX' m (show ((as.length:Nat):Int)≠0 by omega);have h2:=aU' m (show 0<((as.length:Nat):Int) by omega);rw[<- la];omega
   have lt':(m % ((turnsOf (tsOf ts)).length:Int)).toNat<(turnsOf (tsOf ts)).length:=by omega
   obtain⟨zs,hz,tz⟩:=paired_get R2.2 _ lt lt'
   have er:a8' ts m=(turnsOf (tsOf ts))[(m % ((turnsOf (tsOf ts)).length:Int)).toNat]:=by
    unfold a8';rw[ac' lt'];rfl
   rw[<- er] at tz;have lm63:=bI_ W.Gd m;have rin:∀u∈a8' ts m,u.1∈a6' hs/\u.2∈a6' hs:=fun u hu=>ct_ W.Gd (bb_ hu);have h0:=aX' m (show (((turnsOf (tsOf ts)).length:Nat):Int)≠0 by omega)
   have ix:atI (as.map V.ref) (m % ((as.map V.ref).length:Int))=some (.ref (as[(m % ((turnsOf (tsOf ts)).length:Int)).toNat])):=by
    rw[aa',la,bg' h0 (by rw[aa'];omega),al',ac' lt];rfl
   generalize as[(m % ((turnsOf (tsOf ts)).length:Int)).toNat]=ar at hz ix;have lz:=Paired.length tz;rw[aa'] at lz;have arlm:ar≠lm:=a6_ hz nm;replace hz:=s23 _ _ hz;replace tz:=tz.same s23;refine⟨_,rfl,_,rfl,_,rfl,lr,_,rfl,.inl (.of R3.1),_,_,rfl,rfl,by rw[aa'];omega,lr,_,_,_,rfl,rfl,.of R3.1,ix,ar,rfl,⟨_,.of hz⟩,as_ (K:=K) (a:=ar) (xs:=zs) (fun i σ H'=>∃(v5 v6:Option V) (ys:List V),σ=[some (.ref v),some (.str gd),some (.int m),some (.ref lr),some (.ref lm),v5,v6]/\Same H H'/\But lm H3 H'/\H' lm=some (.lst ys)/\a5' K H' ys ((((a8' ts m).take i).flatMap (bm' hs ts qs f gd)).map kM)) ⟨none,none,[],rfl,s3,But.refl _ _,e3,.nil⟩ (fun i σ H' _ ⟨_,_,_,_,_,b,_⟩=>.of (b _ _ hz arlm)) ?_ ?_⟩
   ·rintro i x σ H4 hx ⟨v5,v6,ys,rfl,s4,b4,m4,t4⟩;obtain⟨u,hu,a,rfl,ha⟩:=am_ tz hx;have hi:i<(a8' ts m).length:=(ab'.mp hu).1;obtain⟨n1,n2⟩:=rin u (ae' hu);have ha4:H4 a=some (.tup [.str u.1,.str u.2]):=b4 _ _ ha (ax_ ha e3 nofun);refine⟨a,_,rfl,.of ha4,rfl,_,_,rfl,_,_,rfl,rfl,?_⟩;dsimp only;have ly:=Paired.length t4;rw[aa'] at ly;have bl:=cp_ (cd_ hs ts qs f gd) ((a8' ts m).take i);rw[ak'] at bl;have l1:=c6_ hs ts qs f gd [] u.1 u.2;have l2':=c6_ hs ts qs f gd [] u.2 u.1;refine⟨_,rfl,.inl ⟨rfl,_,.of m4⟩,_,rfl,_,rfl,_,rfl,_,rfl,by show 0<=sizeLine;decide,fun lg ng=>?_⟩;obtain⟨s45,e5⟩:=nw__ (o:=.lst []) ng;generalize upd H4 lg (.lst [])=H5 at s45 e5 ⊢;refine⟨v,g,p,lg,u.1,u.2,gd,[],hs,ts,qs,fp,f,rfl,S.same (s4.trans s45),W,n1,n2,e5,fun l6 z6 H6 s56 n6 e6 t6=>?_⟩;have s46:=s45.trans s56;have m6:=s46 _ _ m4;have lz6:=Paired.length t6;rw[aa'] at lz6;refine⟨lm,l6,ys,z6,rfl,rfl,m6,e6,by omega,?_⟩;have s7:Same H (upd H6 lm (.lst (ys++z6))):=ao_ (s4.trans s46) nm0;have b7:But lm H3 (upd H6 lm (.lst (ys++z6))):=fun b o e n=>by rw[a4_ n];exact s46 _ _ (b4 _ _ e n)
    have e7:upd H6 lm (.lst (ys++z6)) lm=some (.lst (ys++z6)):=a1_
    have t7:a5' K (upd H6 lm (.lst (ys++z6))) (ys++z6) ((((a8' ts m).take i).flatMap (bm' hs ts qs f gd)++hmv hs ts qs f gd [] u.1 u.2).map kM):=by
     rw[an'];exact aD_ (b7_ (t4.same s46) m6) (b7_ t6 m6)
    generalize upd H6 lm (.lst (ys++z6))=H7 at s7 b7 e7 t7 ⊢;dsimp only;refine⟨_,rfl,.inl ⟨rfl,_,.of e7⟩,_,rfl,_,rfl,_,rfl,_,rfl,by show 0<=sizeLine;decide,fun lg2 ng2=>?_⟩;obtain⟨s78,e8⟩:=nw__ (o:=.lst []) ng2;generalize upd H7 lg2 (.lst [])=H8 at s78 e8 ⊢;refine⟨v,g,p,lg2,u.2,u.1,gd,[],hs,ts,qs,fp,f,rfl,S.same (s7.trans s78),W,n2,n1,e8,fun l9 z9 H9 s89 n9 e9 t9=>?_⟩;have s79:=s78.trans s89;have m9:=s79 _ _ e7;have lz9:=Paired.length t9;have ly7:(ys++z6).length=ys.length+z6.length:=ap';rw[aa'] at lz9;refine⟨lm,l9,ys++z6,z9,rfl,rfl,m9,e9,by omega,?_⟩;refine⟨_,_,(ys++z6)++z9,rfl,ao_ (s7.trans s79) nm0,fun b o e n=>by rw[a4_ n];exact s79 _ _ (b7 _ _ e n),a1_,?_⟩;rw[show (a8' ts m).take (i+1)=(a8' ts m).take i++[u] by rw[aw',hu];rfl,List.flatMap_append,List.flatMap_cons,List.flatMap_nil,aJ'];unfold bm';rw[<- List.append_assoc,an'];exact aD_ (b7_ (t7.same s79) m9) (b7_ t9 m9)
   ·rintro σ H4 ⟨v5,v6,ys,rfl,s4,b4,m4,t4⟩;rw[lz,am'] at t4;exact⟨_,rfl,k lm ys H4 s4 nm0 m4 t4⟩
theorem scSeen':a4' ["sight","rule","moment","words","moves","hand"] ["sight","rule","moment"] (a3' sSeen):=f__
def spSeenT(K:F__)(CS CG CW:Addr):Sp:=fun vs H Q _=>∃(v g p:Addr) (m:Int) (gd:Str) (hs:Xa) (ts:Xb) (qs:List Pc) (fp:List Addr) (f:Str->Str),∃r∈rl,vs=[.ref v,.str r.1,.int m]/\r.2.1="turns"/\r.2.2.2=some gd/\0<=m/\bo' K CS CG CW H v g p hs ts qs fp f/\Wd hs ts qs f /\
 ∀l ys H',Same H H'->H l=none->H' l=some (.lst ys)->a5' K H' ys ((bx' hs ts qs f gd m).map kM)->Q (.ref l) H'
theorem h6_{f0 CS CG CW:Addr}{fd:FuncData}(F:Fun K "moves_seen" "moves_seen" sSeen f0 fd)(cWo:Cal P w K mg base 2 "checked_words" ["rule"] (cJ' K))(cT:Cal P w K mg base 5 "moves_by_turns" ["sight","guard","moment"] (cx' K CS CG CW)):FnOk P w K mg base CX0 6 f0 fd ["sight","rule","moment"] (spSeenT K CS CG CW):=by
 refine F.ok scSeen' (fun vs H Q E h=>?_) (fun cdv A outer s H vs Q E hr h=>?_)
 ·obtain⟨v,g,p,m,gd,hs,ts,qs,fp,f,r,hr,rfl,_⟩:=h;rfl
 ·obtain⟨v,g,p,m,gd,hs,ts,qs,fp,f,r,hr',rfl,le,eg,m0,S,W,k⟩:=h;have hr2:Room 2 _:=hr.mono (by decide);refine' ⟨_,a2_ ?s1 (a2_ ?s2 ah_),?kk⟩
  case s1=>exact aa_ (i:=3) scSeen'.nd rfl (Or.inl rfl) (af_ cWo hr2 (a0_ (pv 1) a3_))
  case s2=>exact aB_ (an_ cP_ (az_ aM_ (pv 3) a7_ (fun _ _=>rfl)) aC_ (nomark _)) (a5_ (ab_ (af_ cT hr (a0_ (pv 0) (a0_ (az_ aM_ (pv 3) a7_ (fun _ _=>rfl)) (a0_ (pv 2) a3_)))))) ae_
  case' kk=>skip
  refine⟨_,rfl,r,hr',rfl,fun aw ha=>?_⟩;refine setG ?_;dsimp only;refine⟨_,rfl,aw,_,_,_,rfl,rfl,ha _,rfl,rfl,_,rfl,?_⟩;rw[db_,decide_eq_true le];refine iteT ?_;refine⟨_,rfl,_,rfl,aw,_,_,.str gd,rfl,rfl,ha _,?_,_,rfl,v,g,p,gd,m,hs,ts,qs,fp,f,rfl,m0,S,W,k⟩;rw[eg];rfl
end
end Ev
namespace Ev
open PySem L2
section
variable{P:Program}{w:World}{K:F__}{mg:Str->Option Value}{base:Heap}
def cf'(K:F__)(CG CW T1 T2:Addr):Sp:=fun vs H Q _=>∃(g p d:Addr) (m:Int) (gd:Str) (hs:Xa) (ts:Xb) (qs:List Pc) (fp:List Addr) (ns:List Str) (f:Str->Str),∃r∈rl,vs=[.ref g,.ref d,.str r.1,.int m]/\r.2.1="turns"/\r.2.2.2=some gd/\0<=m/\Stn K CG CW H g p d hs ts qs fp ns f/\Wd hs ts qs f/\Tb H T1 T2 /\
 ∀l ys H',NT H H'->Tb H' T1 T2->H l=none->H' l=some (.lst ys)->a5' K H' ys ((bx' hs ts qs f gd m).map kM)->Q (.ref l) H'
set_option maxHeartbeats 1600000 in
theorem en_{f0 CS CG CW T1 T2:Addr}{fd:FuncData}(F:Fun K "moves_of" "moves_of" co' f0 fd)(cSt:Cal P w K mg base 3 "checked_start" ["goods","stand","rule"] (de' K CG CW))(cMk:CalC P w K mg base CS 7 "Sight" ["self","goods","placed"] (spSInit K CS CG CW T1))(cSe:Cal P w K mg base 6 "moves_seen" ["sight","rule","moment"] (spSeenT K CS CG CW))(cMo:Cal P w K mg base 3 "checked_moments" ["thing"] ce') :
  FnOk P w K mg base CX0 9 f0 fd ["goods","stand","rule","moment"] (cf' K CG CW T1 T2):=by
 refine F.ok cy' (fun vs H Q E h=>?_) (fun cdv A outer s H vs Q E hr h=>?_)
 ·obtain⟨g,p,d,m,gd,hs,ts,qs,fp,ns,f,r,hr,rfl,_⟩:=h;rfl
 ·obtain⟨g,p,d,m,gd,hs,ts,qs,fp,ns,f,r,hr',rfl,le,eg,m0,S,W,tb,k⟩:=h;have hr3:Room 3 _:=hr.mono (by decide);have hr6:Room 6 _:=hr.mono (by decide);refine' ⟨_,a2_ ?s1 (a5_ ?s2),?kk⟩
  case s1=>exact aa_ (i:=4) cy'.nd rfl (Or.inl rfl) (af_ cSt hr3 (a0_ (pv 0) (a0_ (pv 1) (a0_ (pv 2) a3_))))
  case s2=>exact ab_ (af_ cSe hr6 (a0_ (j5_ cMk hr (a0_ (pv 0) (a0_ (pv 4) a3_))) (a0_ (pv 2) (a0_ (af_ cMo hr3 (a0_ (pv 3) a3_)) a3_))))
  case' kk=>skip
  refine⟨_,rfl,_,rfl,_,rfl,_,_,r,hr',rfl,g,p,d,hs,ts,qs,fp,ns,f,rfl,S.G,S.dfp,S.hd,S.so,W.nd,W.h64,fun dp H1 s1 n1 e1=>?_⟩;refine setG ?_;dsimp only
  have d1fp:dp∉fp:=fun hm=>by
   obtain⟨o,e,_⟩:=S.has dp hm;rw[e] at n1;cases n1
  have Pl:bW' K CG CW H1 g p dp hs ts qs fp f:=⟨S.G.same s1,W.Gd,d1fp,e1,W.at_,W.nd,W.h64⟩;refine⟨_,rfl,_,rfl,fun v dx hv hdx ne=>?_⟩;have s2:Same H1 (upd (upd H1 dx (.own v)) v (.ins CS dx [])):=(Same.new hdx).trans (Same.new (by rw[a4_ ne.symm];exact hv));have e2:upd (upd H1 dx (.own v)) v (.ins CS dx []) v=some (.ins CS dx []):=a1_;generalize upd (upd H1 dx (.own v)) v (.ins CS dx [])=H2 at s2 e2 ⊢
  have vfp:v∉fp:=fun hm=>by
   obtain⟨o,e,_⟩:=S.has v hm;rw[s1 _ _ e] at hv;cases hv
  have s02:=s1.trans s2;have Pl2:bW' K CG CW H2 g p dp hs ts qs fp f:=⟨Pl.G.same s2,W.Gd,d1fp,s2 _ _ e1,W.at_,W.nd,W.h64⟩;refine⟨v,dx,g,p,dp,hs,ts,qs,fp,f,rfl,e2,vfp,Pl2,W,tb.a.same s02,fun H3 k3 tab3 S3=>⟨rfl,?_⟩⟩;obtain⟨tv1,hT1⟩:=gA_ tb.a
  have nv:∀{b:Addr} {o:HO},H b=some o->b≠v:=fun e z=>by
   rw[z] at e;rw[s1 _ _ e] at hv;cases hv
  have k03:∀b o,H b=some o->b≠T1->H3 b=some o:=fun b o e n=>k3 b o (s02 _ _ e) (nv e) n;have nt3:NT H H3:=fun b o e n=>k03 b o e (fun z=>by rw[z,hT1] at e;exact n _ (Option.some.inj e).symm)
  have tb2:bu' H3 T2 qRN:=by
   obtain⟨es,a1,a2⟩:=tb.b;exact⟨es,k03 _ _ a1 tb.ne.symm,fun x hx=>nt3 _ _ (a2 x hx) nofun⟩
  refine⟨_,rfl,_,rfl,m,rfl,m0,?_⟩;refine⟨v,g,p,m,gd,hs,ts,qs,fp,f,r,hr',rfl,le,eg,m0,S3,W,fun l ys H4 s4 nl hl tu=>?_⟩;refine k l ys H4 (nt3.trans (NT.of s4)) ⟨tab3.same s4,tb2.same s4,tb.ne⟩ ?_ hl tu;cases z:H l with
  |none=>rfl
  |some o=>
   by_cases y:l=T1
   ·obtain⟨es,a1,_⟩:=tab3;rw[y,a1] at nl;cases nl
   ·rw[k03 _ _ z y] at nl;cases nl
end
end Ev
namespace Ev
open PySem L2
section
variable{P:Program}{w:World}{K:F__}{mg:Str->Option Value}{base:Heap}
theorem scWeightL:a4' ["_law_state_here","_law_great"] ["_law_state_here","_law_great"] (a3' ck'):=f__
def cA':Sp:=fun vs H Q _=>∃(l:Addr) (g:Int),vs=[.ref l,.int g]/\0<=g/\g<4/\stt H l/\∀r H',1<=r->r<=1000000000->But l H H'->stt H' l->Q (.int r) H'
theorem fw_{f:Addr}{fd:FuncData}(F:Fun K "_law_weight" "_law_weight" ck' f fd)(cD:Cal P w K mg base 2 "_law_digit" ["_law_state_here","_law_base"] bJ'):FnOk P w K mg base CX0 3 f fd ["_law_state_here","_law_great"] cA':=by
 refine F.ok scWeightL (fun vs H Q E h=>?_) (fun cdv A outer s H vs Q E hr h=>?_)
 ·obtain⟨l,g,rfl,_⟩:=h;rfl
 ·obtain⟨l,g,rfl,g0,g4,st,k⟩:=h;refine' ⟨_,a2_ ?s1 (a5_ ?s2),?kk⟩
  case s1=>exact aB_ (an_ cP_ (pv 1) a7_ (nomark _)) (a5_ (ab_ (az_ aH_ (ar_ (a0_ (aj_ ib_ a7_ a7_) (a0_ (aj_ b1_ a7_ (af_ cD hr (a0_ (pv 0) (a0_ (aj_ ib_ a7_ a7_) a3_)))) a3_))) (af_ cD hr (a0_ (pv 0) (a0_ a7_ a3_))) (fun _ _=>rfl)))) ae_
  case s2=>exact ab_ (aj_ b1_ a7_ (af_ cD hr (a0_ (pv 0) (a0_ (az_ aH_ (ar_ (a0_ a7_ (a0_ a7_ (a0_ a7_ a3_)))) (pv 1) (fun _ _=>rfl)) a3_))))
  case' kk=>skip
  refine⟨_,rfl,rfl,_,rfl,?_⟩;refine ite2 (fun c=>?_) (fun c=>?_)
  ·refine⟨_,_,rfl,rfl,⟨by decide,by decide,by decide⟩,_,rfl,_,_,rfl,rfl,⟨by decide,by decide,by decide⟩,l,(10:Int) ^ (9:Int).toNat,rfl,by decide,by decide,st,fun r1 H1 q0 q1 b1 st1=>⟨_,_,rfl,rfl,?_⟩⟩;have q1:r1<1000000000:=q1;refine⟨by show 2<=sizeLine;decide,fun lx nx=>?_⟩;obtain⟨s2,e2⟩:=nw__ (o:=.lst [.int ((10:Int) ^ (9:Int).toNat),.int (1+r1)]) nx;have xl:=st1.ne nx;generalize upd H1 lx (.lst [.int ((10:Int) ^ (9:Int).toNat),.int (1+r1)])=H2 at s2 e2 ⊢;refine⟨_,rfl,l,2,rfl,by decide,by decide,st1.same s2,fun r2 H3 u0 u1 b3 st3=>?_⟩
   obtain⟨v,hv,x,rfl,x1,x2⟩:=hitL (p:=fun v:V=>∃x:Int,v=V.int x/\1<=x/\x<=1000000000) (xs:=[V.int ((10:Int) ^ (9:Int).toNat),.int (1+r1)]) (n:=2) rfl u0 u1 (fun v hv=>by
    simp only[ah',aV',or_false] at hv;rcases hv with rfl|rfl
    ·exact⟨_,rfl,by decide,by decide⟩
    ·exact⟨_,rfl,by omega,by omega⟩)
   exact⟨lx,_,_,_,rfl,rfl,.of (b3 _ _ e2 xl),hv,k x H3 x1 x2 ((b1.trans (But.of s2)).trans b3) st3⟩
  ·have g3:g<3:=by
    have:¬g=3:=fun z=>c (by rw[z];rfl);omega
   refine⟨_,rfl,by show 3<=sizeLine;decide,fun lx nx=>?_⟩;obtain⟨s2,e2⟩:=nw__ (o:=.lst [.int 3,.int 12,.int 1000]) nx;generalize upd H lx (.lst [.int 3,.int 12,.int 1000])=H2 at s2 e2 ⊢
   obtain⟨v,hv,x,rfl,x1,x2⟩:=hitL (p:=fun v:V=>∃x:Int,v=V.int x/\1<=x/\x<=1000) (xs:=[V.int 3,.int 12,.int 1000]) (n:=3) rfl g0 g3 (fun v hv=>by
    simp only[ah',aV',or_false] at hv;rcases hv with rfl|rfl|rfl
    ·exact⟨_,rfl,by decide,by decide⟩
    ·exact⟨_,rfl,by decide,by decide⟩
    ·exact⟨_,rfl,by decide,by decide⟩)
   refine⟨_,rfl,lx,_,_,_,rfl,rfl,.of e2,hv,l,x,rfl,by omega,by omega,st.same s2,fun r1 H3 q0 q1 b3 st3=>⟨_,_,rfl,rfl,?_⟩⟩;exact k (1+r1) H3 (by omega) (by omega) ((But.of s2).trans b3) st3
theorem bT':a4' ["_law_state_here","_law_ties","_law_found","_law_one","_law_other","_law_pair"] ["_law_state_here","_law_ties"] (a3' sWaysL):=f__
def spWaysL(K:F__):Sp:=fun vs H Q _=>∃(l lt:Addr) (zs:List V) (ts:Xb),vs=[.ref l,.ref lt]/\stt H l/\H lt=some (.lst zs)/\lt≠l/\a5' K H zs (ts.map kT)/\ts.length<64/\(∀t∈ts,cS' t)/\(ts.map kO).Nodup /\
 ∀lw ys ws H',But l H H'->stt H' l->H lw=none->H' lw=some (.lst ys)->a5' K H' ys (ws.map kT)->cd' ts ws->Q (.ref lw) H'
set_option maxHeartbeats 1600000 in
theorem hz_{f:Addr}{fd:FuncData}(F:Fun K "_law_ways" "_law_ways" sWaysL f fd)(B:Bi mg)(cD:Cal P w K mg base 2 "_law_digit" ["_law_state_here","_law_base"] bJ'):FnOk P w K mg base CX0 3 f fd ["_law_state_here","_law_ties"] (spWaysL K):=by
 refine F.ok bT' (fun vs H Q E h=>?_) (fun cdv A outer s H vs Q E hr h=>?_)
 ·obtain⟨l,lt,zs,ts,rfl,_⟩:=h;rfl
 ·obtain⟨l,lt,zs,ts,rfl,st,hlt,ltl,tt,h64,good,nd,k⟩:=h;have sz:=sizeLine_eq;refine' ⟨_,a2_ ?s1 (a2_ ?s2 (a5_ ?s3)),?kk⟩
  case s1=>exact aa_ (i:=2) bT'.nd rfl (Or.inl rfl) (ar_ a3_)
  case' s2=>refine' aK_ PassesOwn.never rfl (ak_ (pv 1)) (b8_ rfl (ad_ (a8_ (i:=3) bT'.nd rfl (Or.inl rfl)) (ad_ (a8_ (i:=4) bT'.nd rfl (Or.inl rfl)) aO_))) (a2_ ?b1 (a5_ ?b2))
  case b1=>exact aa_ (i:=5) bT'.nd rfl (Or.inl rfl) (az_ aH_ (ar_ (a0_ (aL_ (a0_ (pv 3) (a0_ (pv 4) a3_))) (a0_ (aL_ (a0_ (pv 4) (a0_ (pv 3) a3_))) a3_))) (af_ cD hr (a0_ (pv 0) (a0_ a7_ a3_))) (fun _ _=>rfl))
  case b2=>exact aa_ (i:=2) bT'.nd rfl (Or.inl rfl) (aj_ dX_ (pv 2) (aj_ ic_ (ar_ (a0_ (pv 5) a3_)) (aw_ bR_ (by rfl) B.int PyProof.Rows.Boot.«int» (a0_ (aG_ dr_ (af_ cD hr (a0_ (pv 0) (a0_ a7_ a3_))) a7_ (nomark _)) a3_))))
  case s3=>exact ab_ (pv 2)
  case' kk=>skip
  have lz:=Paired.length tt;rw[aa'] at lz;refine⟨by show 0<=sizeLine;decide,fun lw0 nw0=>?_⟩;obtain⟨s1,e1⟩:=nw__ (o:=.lst []) nw0;have w0l:=st.ne nw0;refine setG ?_;dsimp only;generalize upd H lw0 (.lst [])=H1 at s1 e1 ⊢;refine⟨_,rfl,lt,rfl,⟨_,.of (s1 _ _ hlt)⟩,as_ (K:=K) (a:=lt) (xs:=zs) (fun i σ H'=>∃(lw:Addr) (v3 v4 v5:Option V) (ys:List V) (ws us:Xb),σ=[some (.ref l),some (.ref lt),some (.ref lw),v3,v4,v5]/\But l H H'/\stt H' l/\H lw=none/\lw≠l/\H' lw=some (.lst ys)/\a5' K H' ys (ws.map kT)/\us.Sublist (ts.take i)/\Paired (fun w u=>w=u∨w=(u.2,u.1)) ws us) ⟨lw0,none,none,none,[],[],[],rfl,But.of s1,st.same s1,nw0,w0l,e1,.nil,List.Sublist.refl _,.nil⟩ (fun i σ H' _ ⟨_,_,_,_,_,_,_,_,b,_⟩=>.of (b _ _ hlt ltl)) ?_ ?_⟩
  ·rintro i x σ H2 hx ⟨lw,v3,v4,v5,ys,ws,us,rfl,b2,st2,nw,wl,hw,tw,sub,pr⟩;obtain⟨t,ht,a,rfl,ha⟩:=am_ tt hx;obtain⟨xs0,hl0⟩:=st.some;have ha2:=b2 _ _ (hpT ha) (ax_ (hpT ha) hl0 nofun);refine⟨a,_,rfl,.of ha2,rfl,_,_,rfl,_,_,rfl,rfl,?_⟩;dsimp only
   have lu:us.length<=i:=by
    have:=sub.length_le;rw[ak'] at this;omega
   have lws:=Paired.length pr;have ly:=Paired.length tw;rw[aa'] at ly
   have hi:i<ts.length:=by
    have:=(ab'.mp ht).1;omega
   refine seqG (fun σ H'=>∃(q:Addr) (qq:Str × Str),σ=[some (.ref l),some (.ref lt),some (.ref lw),some (.str t.1),some (.str t.2),some (.ref q)]/\But l H H'/\stt H' l/\H' lw=some (.lst ys)/\a5' K H' ys (ws.map kT)/\H' q=some (.tup ((kT qq).map kV))/\(qq=t∨qq=(t.2,t.1))) ?m2 ?m1
   case m1=>
    intro N hN;refine⟨_,rfl,_,rfl,by show 2<=sizeLine;decide,fun t1 ht1=>?_⟩;obtain⟨s11,e11⟩:=nw__ (o:=.tup [.str t.1,.str t.2]) ht1;generalize upd H2 t1 (.tup [.str t.1,.str t.2])=H3 at s11 e11 ⊢;refine⟨_,rfl,_,rfl,by show 2<=sizeLine;decide,fun t2 ht2=>?_⟩;obtain⟨s12,e12⟩:=nw__ (o:=.tup [.str t.2,.str t.1]) ht2;generalize upd H3 t2 (.tup [.str t.2,.str t.1])=H4 at s12 e12 ⊢;refine⟨by show 2<=sizeLine;decide,fun lx hlx=>?_⟩;obtain⟨s13,e13⟩:=nw__ (o:=.lst [.ref t1,.ref t2]) hlx;have xl:=((st2.same s11).same s12).ne hlx;generalize upd H4 lx (.lst [.ref t1,.ref t2])=H5 at s13 e13 ⊢;have s25:=(s11.trans s12).trans s13;have st5:=st2.same s25;obtain⟨xs5,hl5⟩:=st5.some;refine⟨_,rfl,l,2,rfl,by decide,by decide,st5,fun r5 H6 q4 q5 b6 st6=>?_⟩;have tup6:∀{b:Addr} {zs:List V},H5 b=some (.tup zs)->H6 b=some (.tup zs):=fun e=>b6 _ _ e (ax_ e hl5 nofun)
    have pick:∃(q:Addr) (qq:Str × Str),atI [V.ref t1,V.ref t2] r5=some (.ref q)/\H6 q=some (.tup ((kT qq).map kV))/\(qq=t∨qq=(t.2,t.1)):=by
     rcases hit2 (a:=V.ref t1) (b:=V.ref t2) q4 q5 with e|e
     ·exact⟨t1,t,e,tup6 (s13 _ _ (s12 _ _ e11)),.inl rfl⟩
     ·exact⟨t2,(t.2,t.1),e,tup6 (s13 _ _ e12),.inr rfl⟩
    obtain⟨q,qq,et,hqq,hor⟩:=pick;have b26:But l H2 H6:=(But.of s25).trans b6;exact⟨lx,_,_,_,rfl,rfl,.of (b6 _ _ e13 xl),et,hN _ _ ⟨q,qq,rfl,b2.trans b26,st6,b26 _ _ hw wl,aV_ (tw.same s25) b6 hl5,hqq,hor⟩⟩
   rintro σ H6 ⟨q,qq,rfl,b6,st6,hw6,tw6,hqq,hor⟩;refine⟨_,rfl,_,rfl,by show 1<=sizeLine;decide,fun lx hlx=>?_⟩;obtain⟨s7,e7⟩:=nw__ (o:=.lst [.ref q]) hlx;have xl:=st6.ne hlx;generalize upd H6 lx (.lst [.ref q])=H7 at s7 e7 ⊢;have st7:=st6.same s7;obtain⟨xs7,hl7⟩:=st7.some;refine⟨_,rfl,l,3,rfl,by decide,by decide,st7,fun r6 H8 q6 q7 b8 st8=>⟨_,_,rfl,rfl,.inr ⟨_,rfl,?_⟩⟩⟩;have hw8:=b8 _ _ (s7 _ _ hw6) wl;have e8:=b8 _ _ e7 xl;have tw8:=aV_ (tw6.same s7) b8 hl7;have hq8:=b8 _ _ (s7 _ _ hqq) (ax_ (s7 _ _ hqq) hl7 nofun);have b08:But l H H8:=b6.trans ((But.of s7).trans b8);refine⟨lx,_,_,rfl,rfl,e8,?_,?_,?_,fun p hp=>?_⟩
   ·by_cases c:decide (0<r6)=true
    ·rw[if_pos c];decide
    ·rw[if_neg c];decide
   ·by_cases c:decide (0<r6)=true
    ·rw[if_pos c];decide
    ·rw[if_neg c];decide
   ·by_cases c:decide (0<r6)=true
    ·rw[if_pos c];show 1 * 1<=sizeLine;decide
    ·rw[if_neg c];show 1 * 0<=sizeLine;decide
   obtain⟨s9,e9⟩:=nw__ (o:=.lst (List.replicate (if decide (0<r6)=true then (1:Int) else 0).toNat [V.ref q]).flatten) hp;generalize upd H8 p (.lst (List.replicate (if decide (0<r6)=true then (1:Int) else 0).toNat [V.ref q]).flatten)=H9 at s9 e9 ⊢;refine⟨lw,p,_,_,rfl,rfl,s9 _ _ hw8,e9,?_,fun u hu=>?_⟩
   ·by_cases c:decide (0<r6)=true
    ·rw[if_pos c];show ys.length+1<=sizeLine;omega
    ·rw[if_neg c];show ys.length+0<=sizeLine;omega
   have s10:=Same.new (o:=.lst (ys++(List.replicate (if decide (0<r6)=true then (1:Int) else 0).toNat [V.ref q]).flatten)) hu;have s90:=s9.trans s10;have b0u:But l H (upd H9 u (.lst (ys++(List.replicate (if decide (0<r6)=true then (1:Int) else 0).toNat [V.ref q]).flatten))):=b08.trans (But.of s90);have st9:=st8.same s9;refine⟨u,_,_,_,_,if decide (0<r6)=true then ws++[qq] else ws,if decide (0<r6)=true then us++[t] else us,rfl,b0u,st8.same s90,(b08.trans (But.of s9)).free st9 hu,st9.ne hu,a1_,?_,?_,?_⟩
   ·by_cases c:decide (0<r6)=true
    ·rw[if_pos c,if_pos c];show a5' K _ (ys++[V.ref q]) ((ws++[qq]).map kT);rw[an'];rw[if_pos c] at s90;exact ba_ (tw8.same s90) (s90 _ _ hq8)
    ·rw[if_neg c,if_neg c];show a5' K _ (ys++[]) (ws.map kT);rw[aJ'];rw[if_neg c] at s90;have:=tw8.same s90;simpa using this
   ·have e:ts.take (i+1)=ts.take i++[t]:=by rw[aw',ht];rfl
    rw[e];by_cases c:decide (0<r6)=true
    ·rw[if_pos c];exact sub.append (List.Sublist.refl _)
    ·rw[if_neg c];exact sub.trans (List.sublist_append_left _ _)
   ·by_cases c:decide (0<r6)=true
    ·rw[if_pos c,if_pos c];exact aD_ pr (.cons hor .nil)
    ·rw[if_neg c,if_neg c];exact pr
  ·rintro σ H2 ⟨lw,v3,v4,v5,ys,ws,us,rfl,b2,st2,nw,wl,hw,tw,sub,pr⟩;rw[lz,am'] at sub;exact⟨_,rfl,k lw ys ws H2 b2 st2 nw hw tw (iB_ good nd sub pr)⟩
end
end Ev
namespace Ev
open PySem L2
theorem f4_{K:F__}{H:Hp}{a l:Addr}{ys:List V}{ks:List (List Key)}(t:a5' K H ys ks)(ha:H a=some (.lst ys))(st:stt H l):a≠l:=fun e=>by
 subst e;obtain⟨x,y,z,e⟩:=st;rw[ha] at e;have e:ys=_:=HO.lst.inj (Option.some.inj e);subst e;cases t with
 |cons h _=>
  obtain⟨b,z,_⟩:=h;cases z
theorem WyAt.mv{K:F__}{H H':Hp}{l:Addr}{v:V}{o:Option (Xb)}(h:WyAt K H v o)(b:But l H H')(st:stt H l):WyAt K H' v o:=by
 cases o with
 |none=>exact h
 |some ws=>
  obtain⟨a,ys,e,ha,t⟩:=h;obtain⟨xs,hl⟩:=st.some;exact⟨a,ys,e,b _ _ ha (f4_ t ha st),aV_ t b hl⟩
def PcI(K:F__)(H:Hp)(lp:Addr)(y:V)(p:Pc):Prop:=∃t v,y=.ref t/\H t=some (.tup [.str p.1,.int p.2.1,v])/\WyAt K H v p.2.2/\v≠.ref lp
structure GI (K:F__) (H0 H:Hp) (l ln lp d:Addr) (ns:List Str) (hs:Xa) (ts:Xb) (i j:Nat):Prop where
 but:But l H0 H
 st:stt H l
 hn:H ln=some (.lst (ns.map V.str))
 pcs:∃yp ps,H lp=some (.lst yp)/\Paired (PcI K H lp) yp ps/\ps.map (·.1)=ns.take i/\∀q∈ps,cO' ts q
 std:∃f:Str->Str,H d=some (.dK (stF (ns.take j) f))/\∀n∈ns.take j,f n∈hs.map (·.1)
 nl:ln≠l
 pl:lp≠l
 dl:d≠l
 np:ln≠lp
 fp:H0 lp=none
 fd:H0 d=none
section
variable{K:F__}{H0 H G:Hp}{l ln lp d:Addr}{ns:List Str}{hs:Xa}{ts:Xb}{i j:Nat}
theorem GI.mv(W:GI K H0 H l ln lp d ns hs ts i j)(b:But l H G)(st:stt G l):GI K H0 G l ln lp d ns hs ts i j:=by
 obtain⟨yp,ps,h1,h2,h3,h4⟩:=W.pcs;obtain⟨f,d1,d2⟩:=W.std;obtain⟨xs,hl⟩:=W.st.some;exact⟨W.but.trans b,st,b _ _ W.hn W.nl,⟨yp,ps,b _ _ h1 W.pl,Paired.mapP h2 fun y p ⟨t,v,e,ht,wy,n⟩=>⟨t,v,e,b _ _ ht (ax_ ht hl nofun),wy.mv b W.st,n⟩,h3,h4⟩,⟨f,b _ _ d1 W.dl,d2⟩,W.nl,W.pl,W.dl,W.np,W.fp,W.fd⟩
theorem GI.same(W:GI K H0 H l ln lp d ns hs ts i j)(s:Same H G):GI K H0 G l ln lp d ns hs ts i j:=W.mv (But.of s) (W.st.same s)
theorem GI.piece(W:GI K H0 H l ln lp d ns hs ts i j){n:Str}{x:Int}{v:V}{o:Option (Xb)}{t:Addr}{yp:List V}(hn:ns[i]? = some n)(hp:H lp=some (.lst yp))(ht:H t=some (.tup [.str n,.int x,v]))(wy:WyAt K H v o)(nv:v≠.ref lp)(g:cO' ts (n,x,o)):GI K H0 (upd H lp (.lst (yp++[.ref t]))) l ln lp d ns hs ts (i+1) j:=by
 obtain⟨yp',ps,h1,h2,h3,h4⟩:=W.pcs;obtain⟨f,d1,d2⟩:=W.std;rw[hp] at h1;cases h1;refine⟨fun b o e ne=>by rw[a4_ (a6_ e W.fp)];exact W.but b o e ne,?_,by rw[a4_ W.np];exact W.hn,⟨_,ps++[(n,x,o)],a1_,aD_ (Paired.mapP h2 fun y p ⟨t,v,e,ht,wy,n⟩=>⟨t,v,e,by rw[a4_ (ax_ ht hp nofun)];exact ht,wy.put hp n,n⟩) (.cons ⟨t,v,rfl,by rw[a4_ (ax_ ht hp nofun)];exact ht,wy.put hp nv,nv⟩ .nil),?_,fun q hq=>?_⟩,⟨f,by rw[a4_ (ax_ d1 hp nofun)];exact d1,d2⟩,W.nl,W.pl,W.dl,W.np,W.fp,W.fd⟩
 ·exact W.st.upd W.pl
 ·rw[an',h3,av_ hn];rfl
 ·rcases au'.mp hq with hq|hq
  ·exact h4 q hq
  ·rw[aB'.mp hq];exact g
theorem GI.put(W:GI K H0 H l ln lp d ns hs ts i j)(nd:ns.Nodup){n h:Str}{f:Str->Str}(hn:ns[j]? = some n)(hd:H d=some (.dK (stF (ns.take j) f)))(fm:∀n∈ns.take j,f n∈hs.map (·.1))(hh:h∈hs.map (·.1)):GI K H0 (upd H d (.dK (putK (stF (ns.take j) f) (Sum.inr n) (.str h)))) l ln lp d ns hs ts i (j+1):=by
 obtain⟨yp,ps,h1,h2,h3,h4⟩:=W.pcs;have nn:=bY_ nd hn;have pd:∀{b:Addr} {zs:List V},H b=some (.tup zs)->b≠d:=fun e z=>by rw[z,hd] at e;cases e
 have ld:∀{b:Addr} {zs:List V},H b=some (.lst zs)->b≠d:=fun e z=>by rw[z,hd] at e;cases e
 refine⟨fun b o e ne=>by rw[a4_ (a6_ e W.fd)];exact W.but b o e ne,W.st.upd W.dl,by rw[a4_ (ld W.hn)];exact W.hn,⟨yp,ps,by rw[a4_ (ld h1)];exact h1,Paired.mapP h2 fun y p ⟨t,v,e,ht,wy,n⟩=>⟨t,v,e,by rw[a4_ (pd ht)];exact ht,?_,n⟩,h3,h4⟩,⟨fun m=>if m=n then h else f m,?_,fun m hm=>?_⟩,W.nl,W.pl,W.dl,W.np,W.fp,W.fd⟩
 ·cases o:p.2.2 with
  |none=>rw[o] at wy;exact wy
  |some ws=>
   rw[o] at wy;obtain⟨a,ys,e,ha,tu⟩:=wy;exact⟨a,ys,e,by rw[a4_ (ld ha)];exact ha,Paired.mapP tu fun y k ⟨b,z,q⟩=>⟨b,z,by rw[a4_ (pd q)];exact q⟩⟩
 ·rw[a1_,dd_ nn,av_ hn];refine congrArg (fun x=>some (HO.dK x)) (bv_ fun m hm=>?_);dsimp only;by_cases z:m=n
  ·simp only[if_pos z]
  ·simp only[if_neg z]
 ·dsimp only;rw[av_ hn] at hm;by_cases z:m=n
  ·rw[if_pos z];exact hh
  ·rw[if_neg z];rcases au'.mp hm with hm|hm
   ·exact fm m hm
   ·exact absurd (aB'.mp hm) z
end
section
variable{P:Program}{w:World}{K:F__}{mg:Str->Option Value}{base:Heap}
abbrev gN:List Str:=["_law_state_here","_law_hands","_law_ties","_law_many","_law_great","_law_free","_law_heap","_law_pieces","_law_stand","_law_name","_law_ways_here","_law_at"]
theorem bj':a4' gN ["_law_state_here","_law_hands","_law_ties"] (a3' cX'):=f__
def c9'(K:F__):Sp:=fun vs H Q _=>∃(l lh lt:Addr) (yh zs:List V) (hs:Xa) (ts:Xb),vs=[.ref l,.ref lh,.ref lt]/\stt H l/\H lh=some (.lst yh)/\lh≠l/\a5' K H yh (hs.map kH)/\H lt=some (.lst zs)/\lt≠l/\a5' K H zs (ts.map kT)/\Good hs ts /\
 ∀(t lp d:Addr) (yp:List V) (ps:List Pc) (f:Str->Str) (H':Hp),But l H H'->stt H' l->H' t=some (.tup [.ref lp,.ref d])->H lp=none->H d=none->lp≠l->d≠l->H' lp=some (.lst yp)->dh' K H' yp ps->H' d=some (.dK (stF (ps.map (·.1)) f))->(∀q∈ps,cO' ts q)->(ps.map (·.1)).Nodup->ps.length<=30->(∀n∈ps.map (·.1),f n∈hs.map (·.1))->Q (.ref t) H'
set_option maxHeartbeats 3200000 in
theorem fY_{f0:Addr}{fd:FuncData}(F:Fun K "_law_goods" "_law_goods" cX' f0 fd)(B:Bi mg)(cD:Cal P w K mg base 2 "_law_digit" ["_law_state_here","_law_base"] bJ')(cN:Cal P w K mg base 3 "_law_named" ["_law_state_here","_law_many"] cV')(cW:Cal P w K mg base 3 "_law_weight" ["_law_state_here","_law_great"] cA')(cY:Cal P w K mg base 3 "_law_ways" ["_law_state_here","_law_ties"] (spWaysL K)):FnOk P w K mg base CX0 4 f0 fd ["_law_state_here","_law_hands","_law_ties"] (c9' K):=by
 refine F.ok bj' (fun vs H Q E h=>?_) (fun cdv A outer s H vs Q E hr h=>?_)
 ·obtain⟨l,lh,lt,yh,zs,hs,ts,rfl,_⟩:=h;rfl
 ·obtain⟨l,lh,lt,yh,zs,hs,ts,rfl,st,hlh,lhl,th,hlt,ltl,tt,Gd,k⟩:=h;have sz:=sizeLine_eq;have hu:=b5_ hr;have hr2:Room 2 _:=hr.mono (by decide);refine' ⟨_,?r0,?kk⟩
  case' r0=>refine' a2_ ?s1 ?r1
  case' r1=>refine' a2_ ?s2 ?r2
  case' r2=>refine' a2_ ?s3 ?r3
  case' r3=>refine' a2_ ?s4 ?r4
  case' r4=>refine' a2_ ?s5 ?r5
  case' r5=>refine' a2_ ?s6 ?r6
  case' r6=>refine' a2_ ?s7 (a5_ ?s8)
  case s1=>exact aa_ (i:=3) bj'.nd rfl (Or.inl rfl) (az_ aH_ (ar_ (a0_ (af_ cD hr2 (a0_ (pv 0) (a0_ a7_ a3_))) (a0_ (af_ cD hr2 (a0_ (pv 0) (a0_ a7_ a3_))) a3_))) (af_ cD hr2 (a0_ (pv 0) (a0_ a7_ a3_))) (fun _ _=>rfl))
  case s2=>exact aa_ (i:=4) bj'.nd rfl (Or.inl rfl) (af_ cD hr2 (a0_ (pv 0) (a0_ a7_ a3_)))
  case s3=>exact aa_ (i:=5) bj'.nd rfl (Or.inl rfl) (af_ cD hr2 (a0_ (pv 0) (a0_ a7_ a3_)))
  case s4=>exact aa_ (i:=6) bj'.nd rfl (Or.inl rfl) (af_ cD hr2 (a0_ (pv 0) (a0_ a7_ a3_)))
  case s5=>exact aa_ (i:=7) bj'.nd rfl (Or.inl rfl) (ar_ a3_)
  case s6=>exact aa_ (i:=8) bj'.nd rfl (Or.inl rfl) bk_
  case' s7=>refine' aK_ PassesOwn.never rfl (ak_ (af_ cN hr (a0_ (pv 0) (a0_ (pv 3) a3_)))) (a8_ (i:=9) bj'.nd rfl (Or.inl rfl)) ?b0
  case' b0=>refine' a2_ ?b1 ?c1
  case' c1=>refine' a2_ ?b2 ?c2
  case' c2=>refine' a2_ ?b3 ?c3
  case' c3=>refine' a2_ ?b4 (a5_ ?b5)
  case b1=>exact aa_ (i:=10) bj'.nd rfl (Or.inl rfl) d3_
  case b2=>exact aB_ (PW.pt (d0_ (an_ cP_ (pv 5) a7_ (nomark _)) (cH_ (an_ dr_ (af_ cD hr2 (a0_ (pv 0) (a0_ a7_ a3_))) a7_ (nomark _))))) (a5_ (aa_ (i:=10) bj'.nd rfl (Or.inl rfl) (af_ cY hr (a0_ (pv 0) (a0_ (pv 2) a3_))))) ae_
  case b3=>exact b4_ (bK_ PySem.F.plainAttrs_list PySem.F.slot_list_append PySem.F.type_list_append aT_ (pv 7) (a0_ (aL_ (a0_ (pv 9) (a0_ (af_ cW hr (a0_ (pv 0) (a0_ (pv 4) a3_))) (a0_ (pv 10) a3_)))) a3_))
  case b4=>exact aa_ (i:=11) bj'.nd rfl (Or.inl rfl) (af_ cD hr2 (a0_ (pv 0) (a0_ (ac_ ai_ (by rfl) B.len PySem.boot_len (a0_ (pv 1) a3_)) a3_)))
  case' b5=>refine' bc_ hu (pv 8) (pv 9) (az_ aM_ (az_ aH_ (pv 1) ?ix (fun _ _=>rfl)) a7_ (fun _ _=>rfl)) rfl
  case ix=>exact aj_ b6_ (pv 11) (aw_ bR_ (by rfl) B.int PyProof.Rows.Boot.«int» (a0_ (fg_ (aG_ cP_ (pv 6) a7_ (nomark _)) (bd_ (aG_ cP_ (af_ cD hr2 (a0_ (pv 0) (a0_ a7_ a3_))) a7_ (nomark _)))) a3_))
  case s8=>exact ab_ (aL_ (a0_ (pv 7) (a0_ (pv 8) a3_)))
  case' kk=>skip
  have lyh:=Paired.length th;rw[aa'] at lyh;have h1':=Gd.h1;have h8':=Gd.h8;refine⟨_,rfl,l,9,rfl,by decide,by decide,st,fun a1 H1 p0 p1 b1 st1=>?_⟩;refine⟨_,rfl,l,31,rfl,by decide,by decide,st1,fun a2 H2 p2 p3 b2 st2=>?_⟩;refine⟨by show 2<=sizeLine;decide,fun lx nx=>?_⟩;obtain⟨s3,e3⟩:=nw__ (o:=.lst [.int a1,.int a2]) nx;have xl:=st2.ne nx;generalize upd H2 lx (.lst [.int a1,.int a2])=H3 at s3 e3 ⊢;refine⟨_,rfl,l,2,rfl,by decide,by decide,st2.same s3,fun a3 H4 p4 p5 b4 st4=>?_⟩
  obtain⟨v,hv,m,rfl,m0,m30⟩:=hitL (p:=fun v:V=>∃x:Int,v=V.int x/\0<=x/\x<=30) (xs:=[V.int a1,.int a2]) (n:=2) rfl p4 p5 (fun v hv=>by
   simp only[ah',aV',or_false] at hv;rcases hv with rfl|rfl
   ·exact⟨_,rfl,by omega,by omega⟩
   ·exact⟨_,rfl,by omega,by omega⟩)
  obtain⟨m,rfl⟩:=aG' m0;refine⟨lx,_,_,_,rfl,rfl,.of (b4 _ _ e3 xl),hv,?_⟩;have b04:But l H H4:=(b1.trans b2).trans ((But.of s3).trans b4);refine setG ?_;dsimp only;clear b1 b2 b4 s3 e3 hv nx st1 st2;refine⟨_,rfl,l,4,rfl,by decide,by decide,st4,fun gr H5 g0 g4 b5 st5=>?_⟩;refine setG ?_;dsimp only;refine⟨_,rfl,l,2,rfl,by decide,by decide,st5,fun fr H6 f0 f2 b6 st6=>?_⟩;refine setG ?_;dsimp only;refine⟨_,rfl,l,2,rfl,by decide,by decide,st6,fun hp H7 q0 q2 b7 st7=>?_⟩;refine setG ?_;dsimp only;have b07:But l H H7:=b04.trans (b5.trans (b6.trans b7));clear b04 b5 b6 b7 st4 st5 st6;refine⟨by show 0<=sizeLine;decide,fun lp np=>?_⟩;refine setG ?_;dsimp only;obtain⟨s8,e8⟩:=nw__ (o:=.lst []) np;have lpl:=st7.ne np;have fp0:H lp=none:=b07.free st7 np;generalize upd H7 lp (.lst [])=H8 at s8 e8 ⊢;have st8:=st7.same s8;have b08:=b07.trans (But.of s8);refine fun d nd=>?_;refine setG ?_;dsimp only;obtain⟨s9,e9⟩:=nw__ (o:=.dK []) nd;have dl:=st8.ne nd;have fd0:H d=none:=b08.free st8 nd;generalize upd H8 d (.dK [])=H9 at s9 e9 ⊢;have st9:=st8.same s9;have b09:=b08.trans (But.of s9);refine⟨_,rfl,_,rfl,l,m,rfl,by omega,st9,fun ln ns H10 b10 st10 nn hn N=>?_⟩;have lnl:ln≠l:=st9.ne nn;have W0:GI K H H10 l ln lp d ns hs ts 0 0:=⟨b09.trans b10,st10,hn,⟨[],[],b10 _ _ (s9 _ _ e8) lpl,.nil,rfl,by simp⟩,⟨fun _=>"",b10 _ _ e9 dl,by simp⟩,lnl,lpl,dl,(a6_ (s9 _ _ e8) nn).symm,fp0,fd0⟩;clear b07 b08 b09 b10 st7 st8 st9 st10 s8 s9 e8 e9 np nd nn hn;have n30:ns.length<=30:=by rw[N.len];omega
  refine⟨ln,rfl,⟨_,.of W0.hn⟩,as_ (K:=K) (a:=ln) (xs:=ns.map V.str) (fun i σ H'=>∃(v9 v10 v11:Option V),σ=[some (.ref l),some (.ref lh),some (.ref lt),some (.int m),some (.int gr),some (.int fr),some (.int hp),some (.ref lp),some (.ref d),v9,v10,v11]/\GI K H H' l ln lp d ns hs ts i i) ⟨none,none,none,rfl,W0⟩ (fun i σ H' _ ⟨_,_,_,_,W⟩=>.of W.hn) ?_ ?_⟩
  ·rintro i x σ H2 hx ⟨v9,v10,v11,rfl,W⟩;obtain⟨n,hn,rfl⟩:=aq_ hx;have hi:i<ns.length:=(ab'.mp hn).1;refine setG ?_;dsimp only;refine setG (i:=10) (v:=.non) ?_;dsimp only;refine seqG (fun σ H'=>∃(wv:V) (o:Option (Xb)),σ=[some (.ref l),some (.ref lh),some (.ref lt),some (.int m),some (.int gr),some (.int fr),some (.int hp),some (.ref lp),some (.ref d),some (.str n),some wv,v11]/\GI K H H' l ln lp d ns hs ts i i/\WyAt K H' wv o/\wv≠.ref lp/\∀ws,o=some ws->cd' ts ws) ?m2 ?m1
   case m1=>
    intro N1 hN;have none':∀{H3:Hp},GI K H H3 l ln lp d ns hs ts i i->N1 [some (.ref l),some (.ref lh),some (.ref lt),some (.int m),some (.int gr),some (.int fr),some (.int hp),some (.ref lp),some (.ref d),some (.str n),some .non,v11] H3:=fun W3=>hN _ _ ⟨.non,none,rfl,W3,rfl,(fun z=>by cases z),fun ws e=>by cases e⟩;refine⟨_,rfl,rfl,_,rfl,?_⟩;refine ite2 (fun c=>?_) (fun c=>?_)
    ·refine⟨_,rfl,l,3,rfl,by decide,by decide,W.st,fun r1 H3 u0 u1 b3 st3=>⟨_,_,rfl,rfl,_,rfl,?_⟩⟩;have W3:=W.mv b3 st3;refine ite2 (fun c2=>?_) (fun c2=>?_)
     ·refine⟨_,rfl,_,rfl,l,lt,zs,ts,rfl,st3,W3.but _ _ hlt ltl,ltl,?_,Gd.t64,Gd.tok,Gd.tnd,fun lw ys ws H4 b4 st4 nw hw tw wo=>?_⟩
      ·obtain⟨xs0,hl0⟩:=st.some;exact aV_ tt W3.but hl0
      have W4:=W3.mv b4 st4;refine hN _ _ ⟨.ref lw,some ws,rfl,W4,⟨lw,ys,rfl,hw,tw⟩,fun z=>?_,fun ws' e=>by cases e;exact wo⟩;obtain⟨yp,ps,h1,_⟩:=W3.pcs;cases z;rw[h1] at nw;cases nw
     ·exact none' W3
    ·exact none' W
   rintro σ H3 ⟨wv,o,rfl,W3,wy,nv,gw⟩;refine seqG (fun σ H'=>σ=[some (.ref l),some (.ref lh),some (.ref lt),some (.int m),some (.int gr),some (.int fr),some (.int hp),some (.ref lp),some (.ref d),some (.str n),some wv,v11]/\GI K H H' l ln lp d ns hs ts (i+1) i) ?m4 ?m3
   case m3=>
    intro N1 hN;obtain⟨yp,ps,h1,h2,h3,h4⟩:=W3.pcs;refine⟨_,rfl,.inl ⟨rfl,_,.of h1⟩,_,rfl,_,rfl,_,rfl,l,gr,rfl,g0,g4,W3.st,fun x H4 x1 x2 b4 st4=>?_⟩;have W4:=W3.mv b4 st4;have wy4:=wy.mv b4 W3.st;refine⟨_,rfl,by show 3<=sizeLine;decide,fun t nt=>?_⟩;obtain⟨s5,e5⟩:=nw__ (o:=.tup [.str n,.int x,wv]) nt;generalize upd H4 t (.tup [.str n,.int x,wv])=H5 at s5 e5 ⊢;have hp5:=s5 _ _ (b4 _ _ h1 W3.pl);have ly:=Paired.length h2;have lps:=congrArg List.length h3;rw[aa',ak'] at lps;refine⟨lp,_,_,rfl,rfl,hp5,by omega,hN _ _ ⟨rfl,(W4.same s5).piece hn hp5 e5 (wy4.same s5) nv ⟨N.ok n (ae' hn),x1,x2,gw⟩⟩⟩
   rintro σ H4 ⟨rfl,W4⟩;refine⟨_,rfl,_,rfl,lh,_,rfl,.inl (.of (W4.but _ _ hlh lhl)),l,_,rfl,by omega,by omega,W4.st,fun at' H5 a0 a1 b5 st5=>?_⟩;have W5:=W4.mv b5 st5;refine setG ?_;dsimp only
   have fin:∀{H6:Hp} {b:Bool},GI K H H6 l ln lp d ns hs ts (i+1) i->∃v,atI yh (at' * (if b=true then 1 else 0))=some v/\∃h∈hs,∃a,v=.ref a/\H6 a=some (.tup [.str h.1,.int h.2]):=fun {H6 b} W6=>by
    have:0<=at' * (if b=true then 1 else 0)/\at' * (if b=true then 1 else 0)<(yh.length:Int):=by
     cases b
     ·simp;omega
     ·simp;omega
    refine hitL (n:=yh.length) (p:=fun v:V=>∃h∈hs,∃a,v=.ref a/\H6 a=some (.tup [.str h.1,.int h.2])) rfl this.1 this.2 fun v hv=>?_;obtain⟨jj,hj⟩:=List.mem_iff_getElem?.mp hv;obtain⟨h,hh,a,e,ha⟩:=am_ th hj;obtain⟨xs0,hl0⟩:=st.some;have ha:H a=some (.tup [.str h.1,.int h.2]):=ha;exact⟨h,ae' hh,a,e,W6.but _ _ ha (ax_ ha hl0 nofun)⟩
   refine⟨_,rfl,_,rfl,_,rfl,rfl,_,rfl,?_⟩;refine ite2 (fun c=>?_) (fun c=>?_)
   ·refine .inr ⟨_,rfl,_,_,rfl,rfl,.inl ⟨by omega,by omega⟩,?_⟩;obtain⟨v,ev,h,hh,a,ea,ha⟩:=fin (b:=true) W5;subst ea;obtain⟨f,d1,d2⟩:=W5.std;refine⟨lh,_,_,_,rfl,rfl,.of (W5.but _ _ hlh lhl),ev,a,_,_,_,rfl,rfl,.of ha,rfl,_,rfl,_,rfl,d,_,rfl,.k (k:=Sum.inr n) d1 (by rw[aE_,ak'];omega),?_⟩;exact⟨_,_,_,rfl,W5.put N.nd hn d1 d2 (ad'.mpr ⟨h,hh,rfl⟩)⟩
   ·refine⟨_,rfl,l,4,rfl,by decide,by decide,W5.st,fun r1 H6 u0 u1 b6 st6=>⟨rfl,?_⟩⟩;have W6:=W5.mv b6 st6;refine .inr ⟨_,rfl,_,_,rfl,rfl,.inl ⟨by omega,by omega⟩,?_⟩;obtain⟨v,ev,h,hh,a,ea,ha⟩:=fin (b:=decide (V.int r1=V.int 0)) W6;subst ea;obtain⟨f,d1,d2⟩:=W6.std;refine⟨lh,_,_,_,rfl,rfl,.of (W6.but _ _ hlh lhl),ev,a,_,_,_,rfl,rfl,.of ha,rfl,_,rfl,_,rfl,d,_,rfl,.k (k:=Sum.inr n) d1 (by rw[aE_,ak'];omega),?_⟩;exact⟨_,_,_,rfl,W6.put N.nd hn d1 d2 (ad'.mpr ⟨h,hh,rfl⟩)⟩
  ·rintro σ H2 ⟨v9,v10,v11,rfl,W⟩;rw[aa'] at W;obtain⟨yp,ps,h1,h2,h3,h4⟩:=W.pcs;obtain⟨f,d1,d2⟩:=W.std;rw[am'] at h3 d1 d2;refine⟨_,rfl,_,rfl,by show 2<=sizeLine;decide,fun t nt=>?_⟩;have s3:=Same.new (o:=.tup [.ref lp,.ref d]) nt;have W3:=W.same s3;refine k t lp d yp ps f _ W3.but W3.st a1_ W.fp W.fd W.pl W.dl (s3 _ _ h1) (Paired.mapP h2 fun y p ⟨t,v,e,ht,wy,_⟩=>⟨t,v,e,s3 _ _ ht,wy.same s3⟩) ?_ h4 ?_ ?_ ?_
   ·rw[h3];exact s3 _ _ d1
   ·rw[h3];exact N.nd
   ·have:=congrArg List.length h3;rw[aa'] at this;omega
   ·rw[h3];exact d2
end
end Ev
namespace Ev
open PySem L2
def nbT(h:Str)(t:Str × Str):List Str:=(if t.1=h then [t.2] else [])++if t.2=h then [t.1] else []
def nbL(ts:Xb)(h:Str):List Str:=ts.flatMap (nbT h)
def wldK(ds dn lt dh dy:Addr):List (Key × V):=[(.inr "strength",.ref ds),(.inr "near",.ref dn),(.inr "ties",.ref lt),(.inr "heavy",.ref dh),(.inr "ways",.ref dy)]
structure WldE (K:F__) (H:Hp) (w ds dn lt dh dy:Addr) (ad:Str->Addr) (gy:Str->V) (hs:Xa) (ts:Xb) (ps:List Pc):Prop where
 top:H w=some (.dK (wldK ds dn lt dh dy))
 sg:H ds=some (.dK (mKV (hs.map (·.1)) fun n=>.int (strOf hs n)))
 nr:H dn=some (.dK (mKV (hs.map (·.1)) fun n=>.ref (ad n)))
 ls:∀h∈hs.map (·.1),H (ad h)=some (.lst ((nbL ts h).map V.str))
 hv:H dh=some (.dK (mKV (ps.map (·.1)) fun n=>.int (wtN ps n)))
 wy:H dy=some (.dK (mKV (ps.map (·.1)) gy))
 wv:∀q∈ps,WyAt K H (gy q.1) q.2.2
 tl:∃zs,H lt=some (.lst zs)/\a5' K H zs (ts.map kT)
def bO'(K:F__)(H:Hp)(w:Addr)(hs:Xa)(ts:Xb)(ps:List Pc):Prop:=∃(ds dn lt dh dy:Addr) (ad:Str->Addr) (gy:Str->V),WldE K H w ds dn lt dh dy ad gy hs ts ps
theorem WldE.nt{K:F__}{H G:Hp}{w ds dn lt dh dy:Addr}{ad:Str->Addr}{gy:Str->V}{hs:Xa}{ts:Xb}{ps:List Pc}(W:WldE K H w ds dn lt dh dy ad gy hs ts ps)(s:NT H G):WldE K G w ds dn lt dh dy ad gy hs ts ps:=
 ⟨s _ _ W.top nofun,s _ _ W.sg nofun,s _ _ W.nr nofun,fun h hh=>s _ _ (W.ls h hh) nofun,s _ _ W.hv nofun,s _ _ W.wy nofun,fun q hq=>(W.wv q hq).nt s,let ⟨zs,a,b⟩:=W.tl;⟨zs,s.lst a,a5'.nt b s⟩⟩
theorem WldE.same{K:F__}{H G:Hp}{w ds dn lt dh dy:Addr}{ad:Str->Addr}{gy:Str->V}{hs:Xa}{ts:Xb}{ps:List Pc}(W:WldE K H w ds dn lt dh dy ad gy hs ts ps)(s:Same H G):WldE K G w ds dn lt dh dy ad gy hs ts ps:=W.nt (NT.of s)
theorem bO'.nt{K:F__}{H G:Hp}{w:Addr}{hs:Xa}{ts:Xb}{ps:List Pc}(W:bO' K H w hs ts ps)(s:NT H G):bO' K G w hs ts ps:=by
 obtain⟨ds,dn,lt,dh,dy,ad,gy,W⟩:=W;exact⟨ds,dn,lt,dh,dy,ad,gy,W.nt s⟩
section
variable{H:Hp}{w ds dn lt dh dy:Addr}{K:F__}{ad:Str->Addr}{gy:Str->V}{hs:Xa}{ts:Xb}{ps:List Pc}
theorem WldE.gS(W:WldE K H w ds dn lt dh dy ad gy hs ts ps):DGet H w (.str "strength") (some (.ref ds)):=DGet.k (k:=Sum.inr "strength") W.top
theorem WldE.gN(W:WldE K H w ds dn lt dh dy ad gy hs ts ps):DGet H w (.str "near") (some (.ref dn)):=DGet.k (k:=Sum.inr "near") W.top
theorem WldE.gH(W:WldE K H w ds dn lt dh dy ad gy hs ts ps):DGet H w (.str "heavy") (some (.ref dh)):=DGet.k (k:=Sum.inr "heavy") W.top
theorem WldE.gW(W:WldE K H w ds dn lt dh dy ad gy hs ts ps):DGet H w (.str "ways") (some (.ref dy)):=DGet.k (k:=Sum.inr "ways") W.top
theorem hK_:putK (putK (bs' [] [((.inr "strength":Key),V.ref ds),(.inr "near",.ref dn),(.inr "ties",.ref lt)]) (.inr "heavy") (.ref dh)) (.inr "ways") (.ref dy)=wldK ds dn lt dh dy:=rfl
end
structure NrI (H0 H:Hp) (dn:Addr) (ad:Str->Addr) (ns:List Str) (g:Str->List Str):Prop where
 sm:Same H0 H
 nr:H dn=some (.dK (mKV ns fun n=>.ref (ad n)))
 ls:LsAt H ns ad g
 fn:H0 dn=none
 fr:∀h∈ns,H0 (ad h)=none
theorem NrI.same{H0 H G:Hp}{dn:Addr}{ad:Str->Addr}{ns:List Str}{g:Str->List Str}(N:NrI H0 H dn ad ns g)(s:Same H G):NrI H0 G dn ad ns g:=⟨N.sm.trans s,s _ _ N.nr,⟨fun h hh=>s _ _ (N.ls.1 h hh),N.ls.2⟩,N.fn,N.fr⟩
theorem NrI.app{H0 H:Hp}{dn:Addr}{ad:Str->Addr}{ns:List Str}{g:Str->List Str}(N:NrI H0 H dn ad ns g){n m:Str}(hn:n∈ns):NrI H0 (upd H (ad n) (.lst ((g n).map V.str++[.str m]))) dn ad ns (fun h=>if h=n then g h++[m] else g h):=by
 have la:=N.ls.1 n hn;refine⟨ao_ N.sm (N.fr n hn),by rw[a4_ (ax_ N.nr la nofun)];exact N.nr,⟨fun h hh=>?_,N.ls.2⟩,N.fn,N.fr⟩;dsimp only;by_cases z:h=n
 ·subst z;rw[if_pos rfl,a1_,an'];rfl
 ·rw[if_neg z,a4_ fun y=>z (N.ls.2 h hh n hn y)];exact N.ls.1 h hh
theorem NrI.to{H0 H:Hp}{dn:Addr}{ad:Str->Addr}{ns:List Str}{g g':Str->List Str}(N:NrI H0 H dn ad ns g)(e:∀h,g h=g' h):NrI H0 H dn ad ns g':=by
 obtain rfl:g=g':=funext e;exact N
theorem fA_(ts:Xb)(h:Str):(nbL ts h).length<=2 * ts.length:=by
 induction ts with
 |nil=>exact aE' _
 |cons t ts ih=>
  have:(nbT h t).length<=2:=by
   unfold nbT;rw[ap'];have h1:(if t.1=h then [t.2] else []).length<=1:=by split<;>simp
   have h2:(if t.2=h then [t.1] else []).length<=1:=by split<;>simp
   omega
  unfold nbL at ih ⊢;rw[List.flatMap_cons,ap',aC'];omega
theorem hW_{ts:Xb}{i:Nat}{t:Str × Str}(ht:ts[i]? = some t)(h:Str):nbL (ts.take (i+1)) h=(nbL (ts.take i) h++if h=t.1 then [t.2] else [])++if h=t.2 then [t.1] else []:=by
 unfold nbL;rw[aw',ht,Option.toList_some,List.flatMap_append,List.flatMap_cons,List.flatMap_nil,aJ',List.append_assoc];unfold nbT;congr 1;congr 1
 ·by_cases z:h=t.1
  ·rw[if_pos z,if_pos z.symm]
  ·rw[if_neg z,if_neg fun y=>z y.symm]
 ·by_cases z:h=t.2
  ·rw[if_pos z,if_pos z.symm]
  ·rw[if_neg z,if_neg fun y=>z y.symm]
theorem dS_{α β γ δ:Type}{F:α->γ->Prop}{G:α->δ->Prop}{g:β->γ}{k:β->δ}:∀{ys:List α} {ts:List β},Paired F ys (ts.map g)->(∀y t,F y (g t)->G y (k t))->Paired G ys (ts.map k)
 |_,[],t,_=>by rw[List.map_nil] at t;cases t;exact .nil
 |_,b::ts,t,f=>by
  rw[ar'] at t;cases t with
  |cons h r=>rw[ar'];exact .cons (f _ _ h) (dS_ r f)
theorem hsK{hs:Xa}(nd:(hs.map (·.1)).Nodup):(hs.map fun h=>((Sum.inr h.1:Key),V.int h.2))=mKV (hs.map (·.1)) fun n=>.int (strOf hs n):=by
 unfold mKV;rw[ao']
 exact aF' fun h hh=>by
  show _=((Sum.inr h.1:Key),V.int (strOf hs h.1));rw[eT_ nd (show (h.1,h.2)∈hs from hh)]
theorem fO_{ns:List Str}(nd:ns.Nodup)(g:Str->V):((mKV ns g).map (·.1)).Nodup:=by
 rw[bZ_,ay',aH'];exact nd.imp fun n e=>n (Sum.inr.inj e)
section
variable{P:Program}{w:World}{K:F__}{mg:Str->Option Value}{base:Heap}
abbrev wN:List Str:=["_law_hands","_law_ties","_law_pieces","_law_near","_law_one","_law_other","_law_ways_here","_law_heavy","_law_name","_law_weight_here","_law_told","_law_found"]
theorem bt':a4' wN ["_law_hands","_law_ties","_law_pieces"] (a3' sWorld):=f__
def spWorld(K:F__):Sp:=fun vs H Q _=>∃(lh lt lp:Addr) (yh zs yp:List V) (hs:Xa) (ts:Xb) (ps:List Pc),vs=[.ref lh,.ref lt,.ref lp]/\H lh=some (.lst yh)/\a5' K H yh (hs.map kH)/\H lt=some (.lst zs)/\a5' K H zs (ts.map kT)/\H lp=some (.lst yp)/\dh' K H yp ps/\Good hs ts/\(ps.map (·.1)).Nodup/\ps.length<=30 /\
 ∀w H',Same H H'->H w=none->bO' K H' w hs ts ps->Q (.ref w) H'
set_option maxHeartbeats 3200000 in
theorem h8_{f0:Addr}{fd:FuncData}(F:Fun K "_law_world" "_law_world" sWorld f0 fd)(B:Bi mg):FnOk P w K mg base CX0 1 f0 fd ["_law_hands","_law_ties","_law_pieces"] (spWorld K):=by
 refine F.ok bt' (fun vs H Q E h=>?_) (fun cdv A outer s H vs Q E hr h=>?_)
 ·obtain⟨lh,lt,lp,yh,zs,yp,hs,ts,ps,rfl,_⟩:=h;rfl
 ·obtain⟨lh,lt,lp,yh,zs,yp,hs,ts,ps,rfl,hlh,th,hlt,tt,hlp,pc,Gd,pnd,p30,k⟩:=h;have sz:=sizeLine_eq;have hu:=b5_ hr;refine' ⟨_,?r0,?kk⟩
  case' r0=>refine' a2_ ?s1 ?r1
  case' r1=>refine' a2_ ?s2 ?r2
  case' r2=>refine' a2_ ?s3 ?r3
  case' r3=>refine' a2_ ?s4 ?r4
  case' r4=>refine' a2_ ?s5 ?r5
  case' r5=>refine' a2_ ?s6 ?r6
  case' r6=>refine' a2_ ?s7 (a2_ ?s8 (a5_ ?s9))
  case s1=>exact aa_ (i:=3) bt'.nd rfl (Or.inl rfl) (aw_ (aR_ rfl) (by rfl) B.dict PyProof.Rows.Boot.«dict» (a0_ (aN_ ["_law_name","_law_strength"] 2 [] (ak_ (pv 0)) (fun fp s H=>du_ (n:=2) (ad_ (a8_ (i:=0) (show (["_law_name","_law_strength"]:List Str).Nodup by decide +kernel) rfl (Or.inl rfl)) (ad_ (a8_ (i:=1) (show (["_law_name","_law_strength"]:List Str).Nodup by decide +kernel) rfl (Or.inl rfl)) aO_))) (fun fp s H=>aS_) (fun fp s H=>aL_ (a0_ (pv 0) (a0_ (ar_ a3_) a3_)))) a3_))
  case' s2=>refine' aK_ PassesOwn.never rfl (ak_ (pv 1)) (b8_ rfl (ad_ (a8_ (i:=4) bt'.nd rfl (Or.inl rfl)) (ad_ (a8_ (i:=5) bt'.nd rfl (Or.inl rfl)) aO_))) (a2_ ?b1 (a5_ ?b2))
  case b1=>exact b4_ (bK_ PySem.F.plainAttrs_list PySem.F.slot_list_append PySem.F.type_list_append aT_ (ag_ hu (pv 3) (pv 4) (fun _ _=>rfl)) (a0_ (pv 5) a3_))
  case b2=>exact b4_ (bK_ PySem.F.plainAttrs_list PySem.F.slot_list_append PySem.F.type_list_append aT_ (ag_ hu (pv 3) (pv 5) (fun _ _=>rfl)) (a0_ (pv 4) a3_))
  case s3=>exact aa_ (i:=6) bt'.nd rfl (Or.inl rfl) bk_
  case s4=>exact aa_ (i:=7) bt'.nd rfl (Or.inl rfl) bk_
  case' s5=>refine' aK_ PassesOwn.never rfl (ak_ (pv 2)) (b8_ rfl (ad_ (a8_ (i:=8) bt'.nd rfl (Or.inl rfl)) (ad_ (a8_ (i:=9) bt'.nd rfl (Or.inl rfl)) (ad_ (a8_ (i:=10) bt'.nd rfl (Or.inl rfl)) aO_)))) (a2_ ?c1 (a5_ ?c2))
  case c1=>exact bc_ hu (pv 6) (pv 8) (pv 10) rfl
  case c2=>exact bc_ hu (pv 7) (pv 8) (pv 9) rfl
  case s6=>exact aa_ (i:=11) bt'.nd rfl (Or.inl rfl) (iE_ (df_ aC_ (aw_ (aR_ rfl) (by rfl) B.dict PyProof.Rows.Boot.«dict» (a0_ (pv 0) a3_)) (df_ aC_ (pv 3) (df_ aC_ (pv 1) j6_))) rfl rfl nofun (by decide))
  case s7=>exact bc_ hu (pv 11) aC_ (pv 7) rfl
  case s8=>exact bc_ hu (pv 11) aC_ (pv 6) rfl
  case s9=>exact ab_ (pv 11)
  case' kk=>skip
  have nd:=Gd.hnd;have h8:=Gd.h8;have lyh:=Paired.length th;rw[aa'] at lyh;refine⟨_,rfl,lh,rfl,⟨_,.of hlh⟩,fun D hD=>?_⟩;refine aI_ (own:=2) (fv:=[]) (xs:=yh) rfl gok2 (fun i out H'=>∃ad:Str->Addr,Same H H'/\H' D=some (.lst out)/\be' K H' out (mKV ((hs.map (·.1)).take i) fun h=>.ref (ad h))/\LsAt H' ((hs.map (·.1)).take i) ad (fun _=>[])/\∀h∈(hs.map (·.1)).take i,H (ad h)=none/\ad h≠D) ⟨fun _=>D,Same.new hD,a1_,.nil,⟨by simp,by simp⟩,by simp⟩ (fun i out H' _ ⟨_,sm,_⟩=>.of (sm _ _ hlh)) (fun out H2 ⟨ad,s2,hD2,pa,ls,fr⟩=>?_) (fun i x out H' hx ⟨ad,sm,hd,pa,ls,fr⟩=>?_);rotate_left
  ·obtain⟨h0,hh0,a,rfl,ha⟩:=am_ th hx;have hn:(hs.map (·.1))[i]? = some h0.1:=by rw[al',hh0];rfl
   have nn:h0.1∉(hs.map (·.1)).take i:=bY_ nd hn;refine⟨_,⟨a,_,_,rfl,.of (sm _ _ (hpH ha)),rfl⟩,rfl,fun Nx hN=>yesT ?_⟩;refine⟨_,rfl,by show 0<=sizeLine;decide,fun l nl=>?_⟩;obtain⟨s3,e3⟩:=nw__ (o:=.lst []) nl;generalize upd H' l (.lst [])=H3 at s3 e3 ⊢;refine⟨by show 2<=sizeLine;decide,fun t nt=>?_⟩;obtain⟨s4,e4⟩:=nw__ (o:=.tup [.str h0.1,.ref l]) nt;generalize upd H3 t (.tup [.str h0.1,.ref l])=H4 at s4 e4 ⊢;have s34:=s3.trans s4;have hD4:=s34 _ _ hd;have lD:l≠D:=fun z=>by rw[z,hd] at nl;cases nl
   have adl:∀h∈(hs.map (·.1)).take i,ad h≠l:=fun h hh z=>by
    have:=ls.1 h hh;rw[z,nl] at this;cases this
   have lo:=Paired.length pa;rw[aE_,ak',aa'] at lo
   have pD:∀{b:Addr} {zs:List V},H4 b=some (.tup zs)->b≠D:=fun hb z=>by
    rw[z,hD4] at hb;cases hb
   have ne:∀h∈(hs.map (·.1)).take i,h≠h0.1:=fun h hh z=>nn (z▸hh);refine⟨out,hD4,by omega,hN (out++[.ref t]) _ ⟨fun m=>if m=h0.1 then l else ad m,ao_ (sm.trans s34) hD,a1_,?_,⟨fun h hh=>?_,fun h hh h' hh' z=>?_⟩,fun h hh=>?_⟩⟩
   ·have e:mKV ((hs.map (·.1)).take (i+1)) (fun h=>.ref (if h=h0.1 then l else ad h))=mKV ((hs.map (·.1)).take i) (fun h=>.ref (ad h))++[(Sum.inr h0.1,.ref l)]:=by
     rw[av_ hn];unfold mKV;rw[an',ar',List.map_nil];dsimp only;rw[if_pos rfl];congr 1;exact aF' fun m hm=>by rw[if_neg (ne m hm)]
    rw[e];exact aD_ (Paired.mapP pa fun y kv ⟨b,z,hb⟩=>⟨b,z,by rw[a4_ (pD (s34 _ _ hb))];exact s34 _ _ hb⟩) (.cons ⟨t,rfl,by rw[a4_ (pD e4)];exact e4⟩ .nil)
   ·rw[av_ hn] at hh;rcases au'.mp hh with hh|hh
    ·dsimp only;rw[if_neg (ne h hh),a4_ (fr h hh).2];exact s34 _ _ (ls.1 h hh)
    ·have z:=aB'.mp hh;dsimp only;rw[if_pos z,a4_ lD];exact s4 _ _ e3
   ·rw[av_ hn] at hh hh';dsimp only at z;rcases au'.mp hh with a1|a1<;>rcases au'.mp hh' with a2|a2
    ·rw[if_neg (ne h a1),if_neg (ne h' a2)] at z;exact ls.2 h a1 h' a2 z
    ·have a2:h'=h0.1:=by simpa using a2
     rw[if_neg (ne h a1),if_pos a2] at z;exact absurd z (adl h a1)
    ·have a1:h=h0.1:=by simpa using a1
     rw[if_neg (ne h' a2),if_pos a1] at z;exact absurd z.symm (adl h' a2)
    ·rw[show h=h0.1 by simpa using a1,show h'=h0.1 by simpa using a2]
   ·rw[av_ hn] at hh;dsimp only;rcases au'.mp hh with hh|hh
    ·rw[if_neg (ne h hh)];exact fr h hh
    ·have z:=aB'.mp hh;rw[if_pos z];exact⟨sm.free nl,lD⟩
  rw[show yh.length=(hs.map (·.1)).length by rw[aa',lyh],am'] at pa ls fr;have n8:(hs.map (·.1)).length<=8:=by rw[aa'];exact h8
  refine⟨D,out,_,rfl,hD2,pa,by rw[aE_];omega,fun dn ndn=>?_⟩;rw[aX_ (fO_ nd _)];refine setG ?_;dsimp only;have s3:=Same.new (o:=.dK (mKV (hs.map (·.1)) fun h=>V.ref (ad h))) ndn;have N0:NrI H (upd H2 dn (.dK (mKV (hs.map (·.1)) fun h=>V.ref (ad h)))) dn ad (hs.map (·.1)) (nbL (ts.take 0)):=⟨s2.trans s3,a1_,⟨fun h hh=>s3 _ _ (ls.1 h hh),ls.2⟩,s2.free ndn,fun h hh=>(fr h hh).1⟩;generalize upd H2 dn (.dK (mKV (hs.map (·.1)) fun h=>V.ref (ad h)))=H3 at N0 ⊢;clear s2 s3 hD2 pa ls fr hD ndn;refine seqG (fun σ H'=>∃(v4 v5:Option V),σ=[some (.ref lh),some (.ref lt),some (.ref lp),some (.ref dn),v4,v5,none,none,none,none,none,none]/\NrI H H' dn ad (hs.map (·.1)) (nbL ts)) ?m2 ?m1
  case m1=>
   intro N1 hN;have lz:=Paired.length tt;rw[aa'] at lz;have t64:=Gd.t64;refine⟨_,rfl,lt,rfl,⟨_,.of (N0.sm _ _ hlt)⟩,as_ (K:=K) (a:=lt) (xs:=zs) (fun i σ H'=>∃(v4 v5:Option V),σ=[some (.ref lh),some (.ref lt),some (.ref lp),some (.ref dn),v4,v5,none,none,none,none,none,none]/\NrI H H' dn ad (hs.map (·.1)) (nbL (ts.take i))) ⟨none,none,rfl,N0⟩ (fun i σ H' _ ⟨_,_,_,N⟩=>.of (N.sm _ _ hlt)) ?_ ?_⟩
   ·rintro i x σ H4 hx ⟨v4,v5,rfl,N⟩;obtain⟨t,ht,a,rfl,ha⟩:=am_ tt hx;have m12:=Gd.tin t (ae' ht);have tne:=(Gd.tok t (ae' ht)).2.2;refine⟨a,_,rfl,.of (N.sm _ _ (hpT ha)),rfl,_,_,rfl,_,_,rfl,rfl,?_⟩;dsimp only;have hi:i<ts.length:=(ab'.mp ht).1;have l1:=fA_ (ts.take i) t.1;have l2:=fA_ (ts.take i) t.2;rw[ak'] at l1 l2;have e1:=N.ls.1 _ m12.1;have N2:=N.app (m:=t.2) m12.1;have e2:=N2.ls.1 _ m12.2;refine⟨_,rfl,_,rfl,dn,_,rfl,dgR N.nr m12.1,.inl ⟨rfl,_,.of e1⟩,_,rfl,ad t.1,_,_,rfl,rfl,e1,by rw[aa'];omega,?_⟩;refine⟨_,rfl,_,rfl,dn,_,rfl,dgR N2.nr m12.2,.inl ⟨rfl,_,.of e2⟩,_,rfl,ad t.2,_,_,rfl,rfl,e2,?_,?_⟩
    ·have z:¬t.2=t.1:=fun z=>tne z.symm;rw[aa'];simp only[if_neg z];omega
    refine⟨_,_,rfl,(N2.app (m:=t.1) m12.2).to fun h=>?_⟩;show (if h=t.2 then (if h=t.1 then nbL (ts.take i) h++[t.2] else nbL (ts.take i) h)++[t.1] else if h=t.1 then nbL (ts.take i) h++[t.2] else nbL (ts.take i) h)=_;rw[hW_ ht];by_cases z1:h=t.1
    ·rw[if_neg (c:=h=t.2) (fun z=>tne (z1.symm.trans z)),if_pos z1,if_neg (c:=h=t.2) (fun z=>tne (z1.symm.trans z)),if_pos z1,aJ']
    ·by_cases z2:h=t.2
     ·rw[if_pos z2,if_neg z1,if_pos z2,if_neg z1,aJ']
     ·rw[if_neg z2,if_neg z1,if_neg z2,if_neg z1,aJ',aJ']
   ·rintro σ H4 ⟨v4,v5,rfl,N⟩;rw[lz,am'] at N;exact hN _ _ ⟨_,_,rfl,N⟩
  rintro σ H4 ⟨v4,v5,rfl,N⟩;refine fun dy ny=>?_;refine setG ?_;dsimp only;obtain⟨s5,e5⟩:=nw__ (o:=.dK []) ny;generalize upd H4 dy (.dK [])=H5 at s5 e5 ⊢;refine fun dh nh=>?_;refine setG ?_;dsimp only;obtain⟨s6,e6⟩:=nw__ (o:=.dK []) nh;generalize upd H5 dh (.dK [])=H6 at s6 e6 ⊢;have N6:=(N.same s5).same s6;have hy:dh≠dy:=fun z=>by rw[z,e5] at nh;cases nh
  have fy:H dy=none:=N.sm.free ny;have fh:H dh=none:=(N.sm.trans s5).free nh;have ye:=s6 _ _ e5;have ney:∀{b:Addr} {o:HO},H4 b=some o->b≠dy:=fun e z=>by rw[z,ny] at e;cases e
  have neh:∀{b:Addr} {o:HO},H4 b=some o->b≠dh:=fun e z=>by rw[z] at e;have:=s5 _ _ e;rw[nh] at this;cases this
  refine seqG (fun σ H'=>∃(v4 v5 v8 v9 v10:Option V) (gy:Str->V),σ=[some (.ref lh),some (.ref lt),some (.ref lp),some (.ref dn),v4,v5,some (.ref dy),some (.ref dh),v8,v9,v10,none]/\Same H4 H'/\H' dh=some (.dK (mKV (ps.map (·.1)) fun n=>.int (wtN ps n)))/\H' dy=some (.dK (mKV (ps.map (·.1)) gy))/\∀q∈ps,WyAt K H' (gy q.1) q.2.2) ?m4 ?m3
  case m3=>
   intro N1 hN;have lz:=Paired.length pc;refine⟨_,rfl,lp,rfl,⟨_,.of (N6.sm _ _ hlp)⟩,as_ (K:=K) (a:=lp) (xs:=yp) (fun i σ H'=>∃(v8 v9 v10:Option V) (gy:Str->V),σ=[some (.ref lh),some (.ref lt),some (.ref lp),some (.ref dn),v4,v5,some (.ref dy),some (.ref dh),v8,v9,v10,none]/\Same H4 H'/\H' dh=some (.dK (mKV ((ps.map (·.1)).take i) fun n=>.int (wtN ps n)))/\H' dy=some (.dK (mKV ((ps.map (·.1)).take i) gy))/\∀q∈ps.take i,WyAt K H (gy q.1) q.2.2) ⟨none,none,none,fun _=>.non,rfl,s5.trans s6,e6,ye,by simp⟩ (fun i σ H' _ ⟨_,_,_,_,_,sm,_⟩=>.of (sm _ _ (N.sm _ _ hlp))) ?_ ?_⟩
   ·rintro i x σ H7 hx ⟨v8,v9,v10,gy,rfl,sm,dh7,dy7,wy⟩;obtain⟨q,hq,a,v,rfl,ha,wv⟩:=am_ (g:=id) (by rw[List.map_id];exact pc) hx;have hn:(ps.map (·.1))[i]? = some q.1:=by rw[al',hq];rfl
    have hi:i<ps.length:=(ab'.mp hq).1;have nn:=bY_ pnd hn;have ne:∀m∈(ps.map (·.1)).take i,m≠q.1:=fun m hm z=>nn (z▸hm);refine⟨a,_,rfl,.of (sm _ _ (N.sm _ _ ha)),rfl,_,_,rfl,_,_,rfl,_,_,rfl,rfl,?_⟩;dsimp only;refine⟨_,rfl,_,rfl,_,rfl,dy,_,rfl,.k (k:=Sum.inr q.1) dy7 (by rw[aE_,ak',aa'];omega),?_⟩;have dh8:upd H7 dy (.dK (putK (mKV ((ps.map (·.1)).take i) gy) (Sum.inr q.1) v)) dh=some (.dK (mKV ((ps.map (·.1)).take i) fun n=>.int (wtN ps n))):=by rw[a4_ hy];exact dh7
    refine⟨_,rfl,_,rfl,_,rfl,dh,_,rfl,.k (k:=Sum.inr q.1) dh8 (by rw[aE_,ak',aa'];omega),?_⟩;refine⟨_,_,_,fun m=>if m=q.1 then v else gy m,rfl,fun b o e=>?_,?_,?_,fun q' hq'=>?_⟩
    ·rw[a4_ (neh e),a4_ (ney e)];exact sm _ _ e
    ·rw[a1_,dd_ nn,av_ hn];refine congrArg (fun x=>some (HO.dK x)) (bv_ fun m hm=>?_);by_cases z:m=q.1
     ·rw[if_pos z,z,e1_ pnd (ae' hq)];rfl
     ·rw[if_neg z]
    ·rw[a4_ hy.symm,a1_,dd_ nn,av_ hn]
    ·dsimp only;rw[aw',hq,Option.toList_some] at hq';rcases au'.mp hq' with hq'|hq'
     ·rw[if_neg (ne _ (by rw[<- List.map_take];exact ad'.mpr ⟨_,hq',rfl⟩))];exact wy q' hq'
     ·obtain rfl:=aB'.mp hq';rw[if_pos rfl];exact wv
   ·rintro σ H7 ⟨v8,v9,v10,gy,rfl,sm,dh7,dy7,wy⟩;rw[lz] at dh7 dy7 wy;rw[aQ' (by rw[aa'];exact af' _)] at dh7 dy7;rw[am'] at wy;exact hN _ _ ⟨_,_,_,_,_,gy,rfl,sm,dh7,dy7,fun q hq=>(wy q hq).same (N.sm.trans sm)⟩
  rintro σ H7 ⟨v4,v5,v8,v9,v10,gy,rfl,sm,dh7,dy7,wy⟩;refine fun wa nw=>?_;obtain⟨s8,e8⟩:=nw__ (o:=.dK []) nw;generalize upd H7 wa (.dK [])=H8 at s8 e8 ⊢;have s08:=(N.sm.trans sm).trans s8
  have kvs:be' K H8 yh (hs.map fun h=>((Sum.inr h.1:Key),V.int h.2)):=by
   exact dS_ th fun y h ⟨b,z,q⟩=>⟨b,z,s08 _ _ (hpH q)⟩
  refine⟨_,rfl,lh,yh,_,rfl,s08 _ _ hlh,kvs,by rw[aa'];omega,fun ds nds=>?_⟩;rw[hsK nd,aX_ (fO_ nd _)];obtain⟨s9,e9⟩:=nw__ (o:=.dK (mKV (hs.map (·.1)) fun n=>V.int (strOf hs n))) nds;generalize upd H8 ds (.dK (mKV (hs.map (·.1)) fun n=>V.int (strOf hs n)))=H9 at s9 e9 ⊢;refine⟨_,rfl,_,rfl,s9 _ _ e8,[((.inr "strength":Key),V.ref ds),(.inr "near",.ref dn),(.inr "ties",.ref lt)],rfl,by show 3<=15;decide,?_⟩;refine setG ?_;dsimp only;refine⟨_,rfl,_,rfl,wa,_,rfl,.k (k:=Sum.inr "heavy") a1_ (by show 3<sizeLine;decide),?_⟩;refine⟨_,rfl,_,rfl,wa,_,rfl,.k (k:=Sum.inr "ways") a1_ (by show 4<sizeLine;decide),?_⟩;have nw0:H wa=none:=(N.sm.trans sm).free nw;have new:∀{b:Addr} {o:HO},H7 b=some o->b≠wa:=fun e z=>by rw[z,nw] at e;cases e
  have dsw:ds≠wa:=fun z=>by rw[z,e8] at nds;cases nds
  have up:∀{b:Addr} {o:HO},H7 b=some o->upd (upd (upd H9 wa (.dK (bs' [] [((.inr "strength":Key),V.ref ds),(.inr "near",.ref dn),(.inr "ties",.ref lt)]))) wa (.dK (putK (bs' [] [((.inr "strength":Key),V.ref ds),(.inr "near",.ref dn),(.inr "ties",.ref lt)]) (Sum.inr "heavy") (.ref dh)))) wa (.dK (putK (putK (bs' [] [((.inr "strength":Key),V.ref ds),(.inr "near",.ref dn),(.inr "ties",.ref lt)]) (Sum.inr "heavy") (.ref dh)) (Sum.inr "ways") (.ref dy))) b=some o:=fun {b o} e=>by
   rw[a4_ (new e),a4_ (new e),a4_ (new e)];exact s9 _ _ (s8 _ _ e)
  refine⟨_,rfl,k wa _ (fun b o e=>up (sm _ _ (N.sm _ _ e))) nw0 ⟨ds,dn,lt,dh,dy,ad,gy,?_,?_,up (sm _ _ N.nr),fun h hh=>up (sm _ _ (N.ls.1 h hh)),up dh7,up dy7,fun q hq=>?_,zs,up (sm _ _ (N.sm _ _ hlt)),Paired.mapP tt fun y k ⟨b,z,q⟩=>⟨b,z,up (sm _ _ (N.sm _ _ q))⟩⟩⟩
  ·rw[a1_,hK_]
  ·rw[a4_ dsw,a4_ dsw,a4_ dsw];exact e9
  ·exact (wy q hq).same fun b o e=>up e
end
end Ev
namespace L2
open PySem PySem.Spec PyProof.Rows PySem.W
theorem eC_{d:Addr}{o:Obj}{kvs:List (Key × V)}{g:TG}{tb:TS}{D:Ends}{σ:St}{H:Hp}(Pv:Nat->St->Hp->Prop)(h0:Pv 0 σ H)(hl:∀i σ H,i<=kvs.length->Pv i σ H->H d=some (.frz o (.dK kvs)))
  (hs:∀i k x σ H,kvs[i]? = some (k,x)->Pv i σ H->g (kV k) σ H fun σ2 H2=>tb { D with nx:=Pv (i+1),ct:=Pv (i+1),bk:=D.nx } σ2 H2) (hd:∀σ H,Pv kvs.length σ H->D.nx σ H) :
  ∃W:Nat->Nat->St->Hp->Prop,(∃m,W 0 m σ H)/\∀i m σ H,W i m σ H->
   ((Itk d o kvs).stop i H/\D.nx σ H)∨((Itk d o kvs).go i H/\∃N:St->Hp->Prop,(∀σ' H',N σ' H'->∃m',m'<m/\W (i+1) m' σ' H')/\∀x H',(Itk d o kvs).yld i H x H'->g x σ H' fun σ2 H2=>tb { D with nx:=N,ct:=N,bk:=D.nx } σ2 H2):=by
 refine⟨fun i m σ H=>m=kvs.length - i/\i<=kvs.length/\Pv i σ H,⟨kvs.length,by simp,aE' _,h0⟩,?_⟩;rintro i m σ H ⟨rfl,hi,p⟩;have q:=hl i σ H hi p;by_cases hlt:i<kvs.length
 ·refine .inr ⟨⟨q,hlt⟩,Pv (i+1),fun σ' H' p'=>⟨kvs.length - (i+1),by omega,rfl,hlt,p'⟩,fun x H' y=>?_⟩;obtain⟨rfl,k,v,hx,rfl⟩:=y;exact hs i k v σ _ hx p
 ·have e:i=kvs.length:=by omega
  subst e;exact .inl ⟨⟨q,af' _⟩,hd σ H p⟩
section
variable{prog:Program}{w:World}{A:Around}
end
end L2
namespace L2
open PySem PySem.Spec PyProof.Rows PySem.W
section
variable{X:Cx}
theorem eu_:∀{xs:List V} {us:List Value},Vals xs us->xs.all bY'=true->∀(k:V) (j:Nat) (h:j<us.length),∃h2:j<xs.length,eqU k us[j]=eqV xs[j] k
 |_,_,.nil,_,k,j,h=>absurd h (Nat.not_lt_zero _)
 |y::xs,u::us,.cons r t,f,k,j,h=>by
  rw[List.all_cons,aY'] at f;cases j with
  |zero=>exact⟨Nat.zero_lt_succ _,fB_ r f.1⟩
  |succ j=>
   obtain⟨h2,e⟩:=eu_ t f.2 k j (Nat.lt_of_succ_lt_succ h);exact⟨Nat.succ_lt_succ h2,e⟩
def rIndexF:V->List V->Hp->VK->Prop:=fun x vs H Q=>∃(l:Addr) (xs:List V) (k:V) (j:Nat),x=.ref l/\vs=[k]/\H l=some (.lst xs)/\bY' k=true/\xs.all bY'=true/\j<1000/\(∃y,xs[j]? = some y/\eqV y k=true)/\(∀i y,i<j->xs[i]? = some y->eqV y k=false)/\Q (.int (j:Int)) H
theorem g1_:MtM X "list.index" rIndexF:=by
 intro pins s σ H x vs v us Q I rx rv h;obtain⟨l,xs,k,j,rfl,rfl,hH,fk,fx,hj,⟨y,hy,ey⟩,no,q⟩:=h;cases rx;obtain⟨u,rfl,ru⟩:=rv.one;obtain⟨z,its,n,r,hl,e⟩:=I.lstM hH;obtain⟨hjx,ejx⟩:=ab'.mp hy;refine call_meets PySem.F.slot_list_index ⟨_,e,rfl⟩ PySem.F.entry_list_index (PySem.F.args_list_index_2 _ _) (SeqAt.list_indexAt l its.toArray n none _ u (eqU k) j (by show j<its.length;omega) (by omega) ?_ ?_) ⟨e,fun y hy=>cm_ ru fk r fx y (by simpa using hy),⟨.int _,H,I.tok _,⟨_,rfl⟩,q⟩⟩
 ·obtain⟨h2,e2⟩:=eu_ r fx k j (by omega);show eqU k its[j]=true;rw[e2,ejx];exact ey
 ·intro m hm lt;obtain⟨h2,e2⟩:=eu_ r fx k m (by simpa using hm);show eqU k its[m]=false;rw[e2];exact no m _ lt (ac' h2)
end
end L2
namespace Ev
open PySem L2
theorem gp_{H:Hp}{d:Addr}{ns:List Str}{g:Str->V}{n:Str}(r:Rd H d (.dK (mKV ns g)))(h:n∈ns):DGet H d (.str n) (some (g n)):=by
 rw[<- do_ (g:=g) h];exact .inl ⟨_,Sum.inr n,r,rfl,rfl⟩
structure Pw (hs:Xa) (ts:Xb) (ps:List Pc) (f:Str->Str):Prop where
 Gd:Good hs ts
 gp:∀q∈ps,cO' ts q
 nd:(ps.map (·.1)).Nodup
 p30:ps.length<=30
 at_:∀n∈ps.map (·.1),f n∈hs.map (·.1)
abbrev hld(ps:List Pc)(f:Str->Str)(n:Str):Int:=ld f (ps.map wOf) n
theorem Pw.hld_ok{hs:Xa}{ts:Xb}{ps:List Pc}{f:Str->Str}(W:Pw hs ts ps f)(n:Str):0<=hld ps f n/\hld ps f n<=64000000000:=h4_ (fun q hq=>⟨by have:=(W.gp q hq).w1;omega,(W.gp q hq).w2⟩) (by have:=W.p30;omega) f n
theorem Pw.str_ok{hs:Xa}{ts:Xb}{ps:List Pc}{f:Str->Str}(W:Pw hs ts ps f){n:Str}(h:n∈hs.map (·.1)):1<=strOf hs n/\strOf hs n<=1000:=(W.Gd.hok _ (b3_ h)).2
theorem Pw.wt{hs:Xa}{ts:Xb}{ps:List Pc}{f:Str->Str}(W:Pw hs ts ps f){n:Str}(h:n∈ps.map (·.1)):1<=wtN ps n/\wtN ps n<=1000000000:=by
 obtain⟨q,hq,rfl⟩:=ad'.mp h;rw[e1_ W.nd hq];exact⟨(W.gp q hq).w1,(W.gp q hq).w2⟩
theorem jL_{ps:List Pc}{f:Str->Str}{n:Str}{kvs:List (Key × V)}(hn:n∈ps.map (·.1))(h:∀x∈kvs,∃a,x.2=V.ref a)(e:kvs=stF (ps.map (·.1)) f):False:=by
 have m:((Sum.inr n:Key),V.str (f n))∈kvs:=by
  rw[e];exact ad'.mpr ⟨n,hn,rfl⟩
 obtain⟨a,z⟩:=h _ m;cases z
theorem jF_{ns:List Str}{f:Str->Str}{g:Str->Int}{n:Str}(hn:n∈ns)(e:mKV ns (fun n=>.int (g n))=stF ns f):False:=by
 have m:((Sum.inr n:Key),V.str (f n))∈mKV ns (fun n=>.int (g n)):=by
  rw[e];exact ad'.mpr ⟨n,hn,rfl⟩
 obtain⟨k,_,z⟩:=ad'.mp m;cases (Prod.mk.inj z).2
section
variable{P:Program}{w:World}{K:F__}{mg:Str->Option Value}{base:Heap}
abbrev hdN:List Str:=["_law_world_here","_law_stand","_law_found","_law_piece"]
theorem scHeld:a4' hdN ["_law_world_here","_law_stand"] (a3' sHeld):=f__
def spHeld(K:F__):Sp:=fun vs H Q _=>∃(wa sd:Addr) (hs:Xa) (ts:Xb) (ps:List Pc) (f:Str->Str),vs=[.ref wa,.ref sd]/\bO' K H wa hs ts ps/\Pw hs ts ps f/\H sd=some (.dK (stF (ps.map (·.1)) f)) /\
 ∀d H',Same H H'->H d=none->H' d=some (.dK (mKV (hs.map (·.1)) fun n=>.int (hld ps f n)))->Q (.ref d) H'
set_option maxHeartbeats 1600000 in
theorem jb_{f0:Addr}{fd:FuncData}(F:Fun K "_law_held" "_law_held" sHeld f0 fd)(B:Bi mg):FnOk P w K mg base CX0 1 f0 fd ["_law_world_here","_law_stand"] (spHeld K):=by
 refine F.ok scHeld (fun vs H Q E h=>?_) (fun cdv A outer s H vs Q E hr h=>?_)
 ·obtain⟨wa,sd,hs,ts,ps,f,rfl,_⟩:=h;rfl
 ·obtain⟨wa,sd,hs,ts,ps,f,rfl,⟨ds,dn,lt,dh,dy,ad,gy,W⟩,Pp,hsd,k⟩:=h;have sz:=sizeLine_eq;have hu:=b5_ hr;refine' ⟨_,a2_ ?s1 (a2_ ?s2 (a5_ ?s3)),?kk⟩
  case s1=>exact cD_ (aa_ (i:=2) scHeld.nd rfl (Or.inl rfl) (aw_ (aR_ rfl) (by rfl) B.dict PyProof.Rows.Boot.«dict» (a0_ (aN_ ["_law_name"] 1 [] (ed_ (ag_ hu (pv 0) aC_ (fun _ _=>rfl))) (fun fp s H=>a8_ (i:=0) (show (["_law_name"]:List Str).Nodup by decide +kernel) rfl (Or.inl rfl)) (fun fp s H=>aS_) (fun fp s H=>aL_ (a0_ (pv 0) (a0_ a7_ a3_)))) a3_)))
  case s2=>exact cD_ (aK_ PassesOwn.never rfl (ed_ (pv 1)) (a8_ (i:=3) scHeld.nd rfl (Or.inl rfl)) (a5_ (iO_ hu (pv 2) (ag_ hu (pv 1) (pv 3) (fun _ _=>rfl)) (ag_ hu (ag_ hu (pv 0) aC_ (fun _ _=>rfl)) (pv 3) (fun _ _=>rfl)) k4_ (fun _ _ _=>rfl))))
  case s3=>exact ab_ (pv 2)
  case' kk=>skip
  have hnd:=Pp.Gd.hnd;have h8:(hs.map (·.1)).length<=8:=by rw[aa'];exact Pp.Gd.h8
  refine⟨ds,_,W.sg,?_⟩;refine⟨_,rfl,wa,_,rfl,W.gS,ds,_,rfl,W.sg,fun o D hD=>?_⟩
  have Dds:D≠ds:=by
   intro z;rw[z,a1_] at hD;cases hD
  have hD1:H D=none:=by rw[a4_ Dds] at hD;exact hD
  refine gG_ (own:=1) (fv:=[]) rfl gok1 (fun i out H'=>Fz ds o (mKV (hs.map (·.1)) fun n=>.int (strOf hs n)) H H'/\H' D=some (.lst out)/\be' K H' out (mKV ((hs.map (·.1)).take i) fun _=>.int 0)) ⟨Fz.start.put hD1 Dds,a1_,.nil⟩ (fun i out H' _ ⟨z,_,_⟩=>z.at_) (fun out H2 ⟨fz,hD2,pa⟩=>?_) (fun i ky x out H' hx ⟨fz,hD',pa⟩=>?_);rotate_left 1
  ·obtain⟨n,hn,rfl,rfl⟩:=d6_ hx;have hi:i<(hs.map (·.1)).length:=(ab'.mp hn).1;refine⟨_,rfl,rfl,fun Nx hN=>yesT ?_⟩;refine⟨_,rfl,by show 2<=sizeLine;decide,fun t ht=>?_⟩;have s5:=Same.new (o:=.tup [.str n,.int 0]) ht;have lo:=Paired.length pa;rw[aE_,ak'] at lo;refine⟨out,s5 _ _ hD',by omega,hN _ _ ⟨(fz.step s5).put hD1 Dds,a1_,?_⟩⟩;have ht5:upd H' t (.tup [.str n,.int 0]) t=some (.tup [.str n,.int 0]):=a1_;have pD:∀{b:Addr} {ys:List V},upd H' t (.tup [.str n,.int 0]) b=some (.tup ys)->b≠D:=fun hb=>ax_ hb (s5 _ _ hD') nofun;rw[av_ hn];show be' K _ _ (((hs.map (·.1)).take i++[n]).map _);rw[an'];exact aD_ (Paired.mapP pa fun y kv ⟨b,z,hb⟩=>⟨b,z,by rw[a4_ (pD (s5 _ _ hb))];exact s5 _ _ hb⟩) (.cons ⟨t,rfl,by rw[a4_ (pD ht5)];exact ht5⟩ .nil)
  rw[aE_,am'] at pa;refine⟨D,out,_,rfl,hD2,pa,by rw[aE_];omega,fun df ndf=>?_⟩;rw[aX_ (fO_ hnd _)];have dfds:df≠ds:=fun z=>by rw[z,fz.at_] at ndf;cases ndf
  have ndf0:H df=none:=by
   cases e:H df with
   |none=>rfl
   |some u=>have:=fz.sm _ _ dfds e;rw[ndf] at this;cases this
  have fz3:Fz ds o (mKV (hs.map (·.1)) fun n=>.int (strOf hs n)) H (upd H2 df (.dK (mKV (hs.map (·.1)) fun _=>.int 0))):=fz.put ndf0 dfds;refine setG ?_;dsimp only;refine⟨o,fz3.at_,?_⟩;have s3:=fz3.thaw W.sg;have e3:upd (upd H2 df (.dK (mKV (hs.map (·.1)) fun _=>.int 0))) ds (.dK (mKV (hs.map (·.1)) fun n=>.int (strOf hs n))) df=some (.dK (mKV (hs.map (·.1)) fun _=>.int 0)):=by rw[a4_ dfds,a1_]
  generalize upd (upd H2 df (.dK (mKV (hs.map (·.1)) fun _=>.int 0))) ds (.dK (mKV (hs.map (·.1)) fun n=>.int (strOf hs n)))=H3 at s3 e3 ⊢;clear fz3 fz pa hD2 hD hD1 ndf dfds Dds;have W3:=W.same s3;have hsd3:=s3 _ _ hsd;have dfsd:df≠sd:=(a6_ hsd ndf0).symm;have dwd:wa≠df:=a6_ W.top ndf0;have dhd:dh≠df:=a6_ W.hv ndf0;refine⟨sd,_,hsd3,?_⟩;refine⟨_,rfl,sd,_,rfl,hsd3,fun o2=>?_⟩;refine eC_ (fun i σ H'=>∃v3:Option V,σ=[some (.ref wa),some (.ref sd),some (.ref df),v3]/\H' sd=some (.frz o2 (.dK (stF (ps.map (·.1)) f)))/\(∀b u,b≠sd->b≠df->H3 b=some u->H' b=some u)/\H' df=some (.dK (mKV (hs.map (·.1)) fun n=>.int (ld f ((ps.take i).map wOf) n)))) ⟨none,rfl,a1_,fun b u n1 n2 e=>by rw[a4_ n1];exact e,by rw[a4_ dfsd];exact e3⟩ (fun i σ H' _ ⟨_,_,z,_⟩=>z) ?_ ?_
  ·rintro i ky x σ H4 hx ⟨v3,rfl,fz,kp,hdf⟩;obtain⟨n,hn,rfl,rfl⟩:=d6_ hx;have nm:=ae' hn;rw[al',Option.map_eq_some_iff] at hn;obtain⟨q,hq,rfl⟩:=hn;have hqm:=ae' hq;have fm:=Pp.at_ _ nm;have top4:H4 wa=some (.dK (wldK ds dn lt dh dy)):=kp _ _ (fun z=>jL_ (ps:=ps) (f:=f) nm (fun x hx=>by simp only[wldK,ah',aV',or_false] at hx;rcases hx with rfl|rfl|rfl|rfl|rfl<;>exact⟨_,rfl⟩) (HO.dK.inj (Option.some.inj ((z▸W3.top).symm.trans hsd3)))) dwd W3.top
   have hv4:H4 dh=some (.dK (mKV (ps.map (·.1)) fun n=>.int (wtN ps n))):=kp _ _ (fun z=>jF_ nm (HO.dK.inj (Option.some.inj ((z▸W3.hv).symm.trans hsd3)))) dhd W3.hv;refine setG ?_;dsimp only;refine⟨_,rfl,_,rfl,_,rfl,sd,_,rfl,gp_ (.inr ⟨o2,fz⟩) nm,df,_,rfl,dgR hdf fm,?_⟩;refine⟨_,rfl,wa,_,rfl,DGet.k (k:=Sum.inr "heavy") top4,_,rfl,dh,_,rfl,dgR hv4 nm,?_⟩;refine⟨_,_,rfl,rfl,_,.k (k:=Sum.inr (f q.1)) hdf (by rw[aE_];omega),?_⟩;refine⟨_,rfl,by rw[a4_ dfsd.symm];exact fz,fun b u n1 n2 e=>by rw[a4_ n2];exact kp b u n1 n2 e,?_⟩;rw[a1_,ga_ fm];refine congrArg (fun x=>some (HO.dK x)) (bv_ fun m hm=>?_);rw[aw',hq,Option.toList_some,an',ar',List.map_nil,fZ_];by_cases z:m=f q.1
   ·rw[if_pos z,if_pos (show m=f (wOf q).1 from z),z,e1_ Pp.nd hqm];rfl
   ·rw[if_neg z,if_neg (show ¬m=f (wOf q).1 from z)]
  ·rintro σ H4 ⟨v3,rfl,fz,kp,hdf⟩;rw[aE_,aa',am'] at hdf;refine⟨o2,fz,_,rfl,k df _ (fun b u e=>?_) ndf0 (by rw[a4_ dfsd];exact hdf)⟩;by_cases z:b=sd
   ·rw[z] at e ⊢;rw[hsd] at e;rw[a1_];exact e
   ·rw[a4_ z];exact kp b u z (a6_ e ndf0) (s3 _ _ e)
def cw'(hs:Xa)(ps:List Pc)(f:Str->Str)(a b:Str):Int:=hld ps f a * strOf hs b - hld ps f b * strOf hs a
theorem scDrop:a4' ["_law_world_here","_law_held_here","_law_one","_law_other","_law_strength"] ["_law_world_here","_law_held_here","_law_one","_law_other"] (a3' sDrop):=f__
def spDrop(K:F__):Sp:=fun vs H Q _=>∃(wa d:Addr) (a b:Str) (hs:Xa) (ts:Xb) (ps:List Pc) (f:Str->Str),vs=[.ref wa,.ref d,.str a,.str b]/\bO' K H wa hs ts ps/\Pw hs ts ps f/\H d=some (.dK (mKV (hs.map (·.1)) fun n=>.int (hld ps f n)))/\a∈hs.map (·.1)/\b∈hs.map (·.1)/\Q (.int (cw' hs ps f a b)) H
theorem iu_{f0:Addr}{fd:FuncData}(F:Fun K "_law_drop" "_law_drop" sDrop f0 fd):FnOk P w K mg base CX0 1 f0 fd ["_law_world_here","_law_held_here","_law_one","_law_other"] (spDrop K):=by
 refine F.ok scDrop (fun vs H Q E h=>?_) (fun cdv A outer s H vs Q E hr h=>?_)
 ·obtain⟨wa,d,a,b,hs,ts,ps,f,rfl,_⟩:=h;rfl
 ·obtain⟨wa,d,a,b,hs,ts,ps,f,rfl,⟨ds,dn,lt,dh,dy,ad,gy,W⟩,Pp,hd,ha,hb,k⟩:=h;have hu:=b5_ hr;refine' ⟨_,a2_ ?s1 (a5_ ?s2),?kk⟩
  case s1=>exact aa_ (i:=4) scDrop.nd rfl (Or.inl rfl) (ag_ hu (pv 0) aC_ (fun _ _=>rfl))
  case s2=>exact ab_ (aj_ in_ (aj_ b6_ (ag_ hu (pv 1) (pv 2) (fun _ _=>rfl)) (ag_ hu (pv 4) (pv 3) (fun _ _=>rfl))) (aj_ b6_ (ag_ hu (pv 1) (pv 3) (fun _ _=>rfl)) (ag_ hu (pv 4) (pv 2) (fun _ _=>rfl))))
  case' kk=>skip
  have h1:=Pp.hld_ok a;have h2:=Pp.hld_ok b;have e1:=Pp.str_ok ha;have e2:=Pp.str_ok hb;refine⟨_,rfl,wa,_,rfl,W.gS,?_⟩;refine setG ?_;dsimp only;refine⟨_,rfl,_,rfl,d,_,rfl,dgR hd ha,_,rfl,_,rfl,ds,_,rfl,dgR W.sg hb,_,_,rfl,rfl,.inr ⟨by omega,by omega⟩,?_⟩;exact⟨_,rfl,_,rfl,d,_,rfl,dgR hd hb,_,rfl,_,rfl,ds,_,rfl,dgR W.sg ha,_,_,rfl,rfl,.inr ⟨by omega,by omega⟩,_,_,rfl,rfl,k⟩
def mayL(ts:Xb)(ps:List Pc)(n a b:Str):Bool:=decide (b∈nbL ts a)&&match wyN ps n with
 |none=>true
 |some ws=>decide ((a,b)∈ws) || decide ((b,a)∈ws)
theorem scMayL:a4' ["_law_world_here","_law_piece","_law_one","_law_other","_law_ways_here"] ["_law_world_here","_law_piece","_law_one","_law_other"] (a3' sMayL):=f__
def spMayL(K:F__):Sp:=fun vs H Q _=>∃(wa:Addr) (n a b:Str) (hs:Xa) (ts:Xb) (ps:List Pc) (f:Str->Str),vs=[.ref wa,.str n,.str a,.str b]/\bO' K H wa hs ts ps/\Pw hs ts ps f/\n∈ps.map (·.1)/\a∈hs.map (·.1)/\∀H',Same H H'->Q (.bl (mayL ts ps n a b)) H'
set_option maxHeartbeats 800000 in
theorem j1_{f0:Addr}{fd:FuncData}(F:Fun K "_law_may" "_law_may" sMayL f0 fd):FnOk P w K mg base CX0 1 f0 fd ["_law_world_here","_law_piece","_law_one","_law_other"] (spMayL K):=by
 refine F.ok scMayL (fun vs H Q E h=>?_) (fun cdv A outer s H vs Q E hr h=>?_)
 ·obtain⟨wa,n,a,b,hs,ts,ps,f,rfl,_⟩:=h;rfl
 ·obtain⟨wa,n,a,b,hs,ts,ps,f,rfl,⟨ds,dn,lt,dh,dy,ad,gy,W⟩,Pp,hn,ha,k⟩:=h;have hu:=b5_ hr;refine' ⟨_,a2_ ?s1 (a2_ ?s2 (a5_ ?s3)),?kk⟩
  case s1=>exact aa_ (i:=4) scMayL.nd rfl (Or.inl rfl) (ag_ hu (ag_ hu (pv 0) aC_ (fun _ _=>rfl)) (pv 1) (fun _ _=>rfl))
  case s2=>exact aB_ (an_ (cE_ cmpS (cc' hr 0)) (pv 3) (ag_ hu (ag_ hu (pv 0) aC_ (fun _ _=>rfl)) (pv 2) (fun _ _=>rfl)) (by with_unfolding_all rfl)) (a5_ (ab_ el_)) ae_
  case s3=>exact ab_ (fg_ (aG_ id_ (pv 4) d3_ (nomark _)) (fg_ (aG_ (dZ_ (cmp2 cmpS cmpS) (cc' hr _)) (aL_ (a0_ (pv 2) (a0_ (pv 3) a3_))) (pv 4) (by with_unfolding_all rfl)) (bd_ (aG_ (dZ_ (cmp2 cmpS cmpS) (cc' hr _)) (aL_ (a0_ (pv 3) (a0_ (pv 2) a3_))) (pv 4) (by with_unfolding_all rfl)))))
  case' kk=>skip
  obtain⟨q,hq,rfl⟩:=ad'.mp hn;have wv:=W.wv q hq;have wn:=hD_ Pp.nd hq;refine⟨_,rfl,wa,_,rfl,W.gW,_,rfl,dy,_,rfl,dgR W.wy hn,?_⟩;refine setG ?_;dsimp only;refine⟨_,rfl,_,rfl,wa,_,rfl,W.gN,_,rfl,dn,_,rfl,dgR W.nr ha,b,nbL ts a,rfl,⟨ad a,_,rfl,.of (W.ls a ha),bW_ _⟩,_,rfl,?_⟩;have fin:∀{H1:Hp} {r:Bool},Same H H1->mayL ts ps q.1 a b=r->Q (.bl r) H1:=fun s e=>e▸k _ s;refine ite2 (fun c=>?_) (fun c=>?_)
  ·refine fin (Same.refl H) ?_;unfold mayL;have c:¬b∈nbL ts a:=by simpa using c
   rw[decide_eq_false c,aZ']
  ·have c:b∈nbL ts a:=by simpa using c
   have ml:mayL ts ps q.1 a b=match q.2.2 with
    |none=>true
    |some ws=>decide ((a,b)∈ws) || decide ((b,a)∈ws):=by
    unfold mayL;rw[decide_eq_true c,Bool.true_and,wn]
   cases o:q.2.2 with
   |none=>
    rw[o] at wv ml;have wv:gy q.1=.non:=wv;refine⟨_,rfl,rfl,_,rfl,?_⟩;rw[wv];exact fin (Same.refl H) ml
   |some ws=>
    rw[o] at wv ml;obtain⟨aw,ys,e,hw,tw⟩:=wv;refine⟨_,rfl,rfl,_,rfl,?_⟩;rw[e];refine⟨_,rfl,_,rfl,by show 2<=sizeLine;decide,fun t1 n1=>?_⟩;obtain⟨s1,e1⟩:=nw__ (o:=.tup [.str a,.str b]) n1;generalize upd H t1 (.tup [.str a,.str b])=H1 at s1 e1 ⊢;refine⟨_,rfl,(a,b),ws,⟨t1,_,_,rfl,.of e1,rfl,rfl⟩,⟨aw,ys,rfl,.of (s1 _ _ hw),cJ_ (tw.same s1)⟩,_,rfl,?_⟩;refine ite2 (fun c2=>?_) (fun c2=>?_)
    ·refine fin s1 (ml.trans ?_);have c2:(a,b)∈ws:=by simpa using c2
     simp[c2]
    ·refine⟨_,rfl,_,rfl,by show 2<=sizeLine;decide,fun t2 n2=>?_⟩;obtain⟨s2,e2⟩:=nw__ (o:=.tup [.str b,.str a]) n2;generalize upd H1 t2 (.tup [.str b,.str a])=H2 at s2 e2 ⊢;refine⟨_,rfl,(b,a),ws,⟨t2,_,_,rfl,.of e2,rfl,rfl⟩,⟨aw,ys,rfl,.of (s2 _ _ (s1 _ _ hw)),cJ_ (tw.same (s1.trans s2))⟩,fin (s1.trans s2) (ml.trans ?_)⟩;have c2:¬(a,b)∈ws:=by simpa using c2
     simp[c2]
theorem scIsFit:a4' ["_law_guard","_law_drop_here","_law_much"] ["_law_guard","_law_drop_here","_law_much"] (a3' sIsFit):=f__
def spIsFit:Sp:=fun vs H Q _=>∃(g:Str) (a b:Int),vs=[.str g,.int a,.int b]/\g∈(["high","fall","calm"]:List Str)/\-(2 ^ 63)<a/\a<2 ^ 63/\∀H',Same H H'->Q (.bl (fitB g a b)) H'
theorem hP_{f0:Addr}{fd:FuncData}(F:Fun K "_law_is_fit" "_law_is_fit" sIsFit f0 fd):FnOk P w K mg base CX0 1 f0 fd ["_law_guard","_law_drop_here","_law_much"] spIsFit:=by
 refine F.ok scIsFit (fun vs H Q E h=>?_) (fun cdv A outer s H vs Q E hr h=>?_)
 ·obtain⟨g,a,b,rfl,_⟩:=h;rfl
 ·obtain⟨g,a,b,rfl,hg,a1,a2,k⟩:=h;refine' ⟨_,a5_ (ab_ (az_ aH_ (ar_ (a0_ (aG_ dr_ (pv 1) a7_ (nomark _)) (a0_ (aG_ dr_ (aj_ b6_ a7_ (pv 1)) (pv 2) (nomark _)) (a0_ (aG_ jX_ (pv 1) (pv 2) (nomark _)) a3_)))) (bK_ PySem.F.plainAttrs_list PySem.F.slot_list_index PySem.F.type_list_index g1_ (ar_ (a0_ aC_ (a0_ aC_ (a0_ aC_ a3_)))) (a0_ (pv 0) a3_)) (fun _ _=>rfl))),?kk⟩
  case' kk=>skip
  refine⟨_,rfl,_,_,rfl,rfl,_,rfl,_,_,rfl,rfl,.inl ⟨by decide,by decide⟩,_,rfl,_,_,rfl,rfl,_,rfl,_,rfl,_,_,rfl,rfl,by show 3<=sizeLine;decide,fun l1 n1=>?_⟩;obtain⟨s1,e1⟩:=nw__ (o:=.lst [.bl (decide (0<a)),.bl (decide (b<2 * a)),.bl (decide (b<=a))]) n1;generalize upd H l1 (.lst [.bl (decide (0<a)),.bl (decide (b<2 * a)),.bl (decide (b<=a))])=H1 at s1 e1 ⊢;refine⟨by show 3<=sizeLine;decide,fun l2 n2=>?_⟩;obtain⟨s2,e2⟩:=nw__ (o:=.lst [.str "high",.str "fall",.str "calm"]) n2;generalize upd H1 l2 (.lst [.str "high",.str "fall",.str "calm"])=H2 at s2 e2 ⊢;refine⟨.inl ⟨rfl,_,.of e2⟩,_,rfl,?_⟩;have e3:=s2 _ _ e1;have k:=k H2 (s1.trans s2);simp only[ah',aV',or_false] at hg;rcases hg with rfl|rfl|rfl
  ·exact⟨l2,_,_,0,rfl,rfl,e2,rfl,rfl,by decide,⟨_,rfl,by decide +kernel⟩,fun i y h _=>absurd h (Nat.not_lt_zero _),l1,_,_,_,rfl,rfl,.of e3,rfl,k⟩
  ·refine⟨l2,_,_,1,rfl,rfl,e2,rfl,rfl,by decide,⟨_,rfl,by decide +kernel⟩,fun i y h e=>?_,l1,_,_,_,rfl,rfl,.of e3,rfl,k⟩;obtain rfl:i=0:=by omega
   cases e;decide +kernel
  ·refine⟨l2,_,_,2,rfl,rfl,e2,rfl,rfl,by decide,⟨_,rfl,by decide +kernel⟩,fun i y h e=>?_,l1,_,_,_,rfl,rfl,.of e3,rfl,k⟩;rcases (show i=0∨i=1 by omega) with rfl|rfl
   ·cases e;decide +kernel
   ·cases e;decide +kernel
end
end Ev
namespace Ev
open PySem L2
def hstep(ps:List Pc)(o:Option Str)(n:Str):Option Str:=match o with
 |none=>some n
 |some m=>if wtN ps m<wtN ps n then some n else some m
def hvyL(ps:List Pc)(ns:List Str):Option Str:=(sortS ns).foldl (hstep ps) none
theorem f1_{ps:List Pc}:∀{l:List Str} {o:Option Str} {m:Str},l.foldl (hstep ps) o=some m->m∈l∨o=some m
 |[],o,m,h=>.inr h
 |n::l,o,m,h=>by
  rw[List.foldl_cons] at h;rcases f1_ h with h|h
  ·exact .inl (ag' _ h)
  ·unfold hstep at h;cases o with
   |none=>cases h;exact .inl aj'
   |some k=>
    dsimp only at h;split at h
    ·cases h;exact .inl aj'
    ·exact .inr h
theorem WldE.but{K:F__}{H G:Hp}{w ds dn lt dh dy sd:Addr}{ad:Str->Addr}{gy:Str->V}{hs:Xa}{ts:Xb}{ps:List Pc}{f:Str->Str}{n:Str}(W:WldE K H w ds dn lt dh dy ad gy hs ts ps)(hsd:H sd=some (.dK (stF (ps.map (·.1)) f)))(hn:n∈ps.map (·.1))(kp:∀b u,b≠sd->H b=some u->G b=some u):WldE K G w ds dn lt dh dy ad gy hs ts ps:=by
 have kl:∀{b:Addr} {xs:List V},H b=some (.lst xs)->G b=some (.lst xs):=fun e=>kp _ _ (fun z=>by rw[z,hsd] at e;cases e) e;have kt:∀{b:Addr} {xs:List V},H b=some (.tup xs)->G b=some (.tup xs):=fun e=>kp _ _ (fun z=>by rw[z,hsd] at e;cases e) e
 have kd:∀{b:Addr} {kvs:List (Key × V)},H b=some (.dK kvs)->(∀x∈kvs,∀y,x=((Sum.inr n:Key),V.str y)->False)->G b=some (.dK kvs):=fun {b kvs} e h=>kp _ _ (fun z=>by
  have:kvs=stF (ps.map (·.1)) f:=HO.dK.inj (Option.some.inj (e.symm.trans (z▸hsd)));exact h ((Sum.inr n:Key),V.str (f n)) (by rw[this];exact ad'.mpr ⟨n,hn,rfl⟩) _ rfl) e
 refine⟨kd W.top fun x hx y z=>?_,kd W.sg fun x hx y z=>?_,kd W.nr fun x hx y z=>?_,fun h hh=>kl (W.ls h hh),kd W.hv fun x hx y z=>?_,kd W.wy fun x hx y z=>?_,fun q hq=>?_,let ⟨zs,a,b⟩:=W.tl;⟨zs,kl a,Paired.mapP b fun y k ⟨b,z,q⟩=>⟨b,z,kt q⟩⟩⟩
 ·rw[z] at hx;simp[wldK] at hx
 ·rw[z] at hx;obtain⟨_,_,z⟩:=ad'.mp hx;cases (Prod.mk.inj z).2
 ·rw[z] at hx;obtain⟨_,_,z⟩:=ad'.mp hx;cases (Prod.mk.inj z).2
 ·rw[z] at hx;obtain⟨_,_,z⟩:=ad'.mp hx;cases (Prod.mk.inj z).2
 ·rw[z] at hx;obtain⟨m,hm,z⟩:=ad'.mp hx;obtain⟨q,hq,rfl⟩:=ad'.mp hm;have wv:=W.wv q hq;rw[(Prod.mk.inj z).2] at wv;cases o:q.2.2 with
  |none=>rw[o] at wv;cases wv
  |some ws=>
   rw[o] at wv;obtain⟨a,ys,e,_⟩:=wv;cases e
 ·have wv:=W.wv q hq;cases o:q.2.2 with
  |none=>rw[o] at wv;exact wv
  |some ws=>
   rw[o] at wv;obtain⟨a,ys,e,ha,t⟩:=wv;exact⟨a,ys,e,kl ha,Paired.mapP t fun y k ⟨b,z,q⟩=>⟨b,z,kt q⟩⟩
def bB'(hs:Xa)(ts:Xb)(ps:List Pc)(f:Str->Str)(gd:Str)(gv:List Str)(a b n:Str):Bool:=decide (f n=a)&&(!decide (n∈gv)&&(mayL ts ps n a b&&fitB gd (cw' hs ps f a b) ((strOf hs a+strOf hs b) * wtN ps n)))
def bestL(hs:Xa)(ts:Xb)(ps:List Pc)(f:Str->Str)(gd:Str)(gv:List Str)(a b:Str):Option Str:=hvyL ps ((ps.map (·.1)).filter (bB' hs ts ps f gd gv a b))
section
variable{P:Program}{w:World}{K:F__}{mg:Str->Option Value}{base:Heap}
theorem scHvL:a4' ["_law_world_here","_law_pieces","_law_found","_law_piece"] ["_law_world_here","_law_pieces"] (a3' sHvL):=f__
def spHvL(K:F__):Sp:=fun vs H Q _=>∃(wa l:Addr) (ns:List Str) (hs:Xa) (ts:Xb) (ps:List Pc),vs=[.ref wa,.ref l]/\bO' K H wa hs ts ps/\H l=some (.lst (ns.map V.str))/\(∀n∈ns,n∈ps.map (·.1))/\ns.length<64/\∀H',Same H H'->Q (optV (hvyL ps ns)) H'
set_option maxHeartbeats 800000 in
theorem k0_{f0:Addr}{fd:FuncData}(F:Fun K "_law_heaviest" "_law_heaviest" sHvL f0 fd)(B:Bi mg):FnOk P w K mg base CX0 1 f0 fd ["_law_world_here","_law_pieces"] (spHvL K):=by
 refine F.ok scHvL (fun vs H Q E h=>?_) (fun cdv A outer s H vs Q E hr h=>?_)
 ·obtain⟨wa,l,ns,hs,ts,ps,rfl,_⟩:=h;rfl
 ·obtain⟨wa,l,ns,hs,ts,ps,rfl,⟨ds,dn,lt,dh,dy,ad,gy,W⟩,hl,sub,n64,k⟩:=h;have hu:=b5_ hr;refine' ⟨_,a2_ ?s1 (a2_ ?s2 (a5_ ?s3)),?kk⟩
  case s1=>exact aa_ (i:=2) scHvL.nd rfl (Or.inl rfl) d3_
  case' s2=>refine' aK_ PassesOwn.never rfl (ak_ (ac_ fd_ (by rfl) B.sorted PyProof.Rows.Boot.«sorted» (a0_ (pv 1) a3_))) (a8_ (i:=3) scHvL.nd rfl (Or.inl rfl)) (a5_ ?b1)
  case b1=>exact aB_ (PW.pt (dv_ (an_ id_ (pv 2) d3_ (nomark _)) (ce_ (an_ dr_ (ag_ hu (ag_ hu (pv 0) aC_ (fun _ _=>rfl)) (pv 3) (fun _ _=>rfl)) (ag_ hu (ag_ hu (pv 0) aC_ (fun _ _=>rfl)) (pv 2) (fun _ _=>rfl)) (nomark _))))) (a5_ (aa_ (i:=2) scHvL.nd rfl (Or.inl rfl) (pv 3))) ae_
  case s3=>exact ab_ (pv 2)
  case' kk=>skip
  refine setG ?_;dsimp only;refine⟨_,rfl,l,ns,rfl,.of hl,n64,fun lx nx=>?_⟩;obtain⟨s1,e1⟩:=nw__ (o:=.lst ((sortS ns).map V.str)) nx;generalize upd H lx (.lst ((sortS ns).map V.str))=H1 at s1 e1 ⊢;have W1:=W.same s1;refine⟨lx,rfl,⟨_,.of e1⟩,as_ (K:=K) (a:=lx) (xs:=(sortS ns).map V.str) (fun i σ H'=>∃v3:Option V,σ=[some (.ref wa),some (.ref l),some (optV (((sortS ns).take i).foldl (hstep ps) none)),v3]/\H'=H1) ⟨none,rfl,rfl⟩ (fun i σ H' _ ⟨_,_,z⟩=>z▸.of e1) ?_ ?_⟩
  ·rintro i x σ H' hx ⟨v3,rfl,rfl⟩;obtain⟨n,hn,rfl⟩:=aq_ hx;have nm:n∈ps.map (·.1):=sub n ((ap_ ns).mem_iff.mp (ae' hn));have st:((sortS ns).take (i+1)).foldl (hstep ps) none=hstep ps (((sortS ns).take i).foldl (hstep ps) none) n:=by rw[av_ hn,List.foldl_append];rfl
   have inn:∀m,((sortS ns).take i).foldl (hstep ps) none=some m->m∈ps.map (·.1):=fun m hm=>by
    rcases f1_ hm with h|h
    ·exact sub m ((ap_ ns).mem_iff.mp (List.mem_of_mem_take h))
    ·cases h
   generalize ((sortS ns).take i).foldl (hstep ps) none=o at st inn ⊢;rw[st];refine setG ?_;dsimp only;cases o with
   |none=>
    refine⟨_,rfl,rfl,_,rfl,?_⟩;refine ite2 (fun c=>?_) (fun c=>absurd rfl c);refine ite2 (fun c=>?_) (fun c=>absurd rfl c);exact⟨_,rfl,_,rfl,rfl⟩
   |some m=>
    refine⟨_,rfl,rfl,_,rfl,?_⟩;refine ite2 (fun c=>by simp[optV] at c) (fun c=>?_);refine⟨_,rfl,wa,_,rfl,W1.gH,_,rfl,dh,_,rfl,dgR W1.hv nm,_,rfl,wa,_,rfl,W1.gH,_,rfl,dh,_,rfl,dgR W1.hv (inn m rfl),_,_,rfl,rfl,_,rfl,?_⟩;refine ite2 (fun c=>?_) (fun c=>?_)
    ·refine⟨_,rfl,some (.str n),?_,rfl⟩;have c:wtN ps m<wtN ps n:=by simpa using c
     unfold hstep;dsimp only;rw[if_pos c];rfl
    ·refine⟨some (.str n),?_,rfl⟩;have c:¬wtN ps m<wtN ps n:=by simpa using c
     unfold hstep;dsimp only;rw[if_neg c];rfl
  ·rintro σ H' ⟨v3,rfl,rfl⟩;rw[aa',am'];exact⟨_,rfl,k _ s1⟩
abbrev btN:List Str:=["_law_world_here","_law_stand","_law_pair","_law_guard","_law_given","_law_one","_law_other","_law_drop_here","_law_both","_law_fit","_law_piece"]
theorem b9':a4' btN ["_law_world_here","_law_stand","_law_pair","_law_guard","_law_given"] (a3' sBest):=f__
def spBest(K:F__):Sp:=fun vs H Q _=>∃(wa sd t lg:Addr) (a b gd:Str) (gv:List Str) (hs:Xa) (ts:Xb) (ps:List Pc) (f:Str->Str),vs=[.ref wa,.ref sd,.ref t,.str gd,.ref lg]/\bO' K H wa hs ts ps/\Pw hs ts ps f/\H sd=some (.dK (stF (ps.map (·.1)) f))/\H t=some (.tup [.str a,.str b])/\a∈hs.map (·.1)/\b∈hs.map (·.1)/\gd∈(["high","fall","calm"]:List Str)/\H lg=some (.lst (gv.map V.str)) /\
 ∀H',Same H H'->Q (optV (bestL hs ts ps f gd gv a b)) H'
set_option maxHeartbeats 1600000 in
theorem iX_{f0:Addr}{fd:FuncData}(F:Fun K "_law_best" "_law_best" sBest f0 fd)(cD:Cal P w K mg base 1 "_law_drop" ["_law_world_here","_law_held_here","_law_one","_law_other"] (spDrop K))(cH:Cal P w K mg base 1 "_law_held" ["_law_world_here","_law_stand"] (spHeld K))(cM:Cal P w K mg base 1 "_law_may" ["_law_world_here","_law_piece","_law_one","_law_other"] (spMayL K))(cF:Cal P w K mg base 1 "_law_is_fit" ["_law_guard","_law_drop_here","_law_much"] spIsFit)(cV:Cal P w K mg base 1 "_law_heaviest" ["_law_world_here","_law_pieces"] (spHvL K)) :
  FnOk P w K mg base CX0 2 f0 fd ["_law_world_here","_law_stand","_law_pair","_law_guard","_law_given"] (spBest K):=by
 refine F.ok b9' (fun vs H Q E h=>?_) (fun cdv A outer s H vs Q E hr h=>?_)
 ·obtain⟨wa,sd,t,lg,a,b,gd,gv,hs,ts,ps,f,rfl,_⟩:=h;rfl
 ·obtain⟨wa,sd,t,lg,a,b,gd,gv,hs,ts,ps,f,rfl,WA,Pp,hsd,ht,ha,hb,hgd,hlg,k⟩:=h;obtain⟨ds,dn,lt,dh,dy,ad,gy,W⟩:=id WA;have hu:=b5_ hr;have sz:=sizeLine_eq;refine' ⟨_,?r0,?kk⟩
  case' r0=>refine' a2_ ?s1 ?r1
  case' r1=>refine' a2_ ?s2 ?r2
  case' r2=>refine' a2_ ?s3 ?r3
  case' r3=>refine' a2_ ?s4 (a2_ ?s5 (a5_ ?s6))
  case s1=>exact dx_ (pv 2) (b8_ rfl (ad_ (a8_ (i:=5) b9'.nd rfl (Or.inl rfl)) (ad_ (a8_ (i:=6) b9'.nd rfl (Or.inl rfl)) aO_)))
  case s2=>exact aa_ (i:=7) b9'.nd rfl (Or.inl rfl) (af_ cD hr (a0_ (pv 0) (a0_ (af_ cH hr (a0_ (pv 0) (a0_ (pv 1) a3_))) (a0_ (pv 5) (a0_ (pv 6) a3_)))))
  case s3=>exact aa_ (i:=8) b9'.nd rfl (Or.inl rfl) (aj_ b1_ (ag_ hu (ag_ hu (pv 0) aC_ (fun _ _=>rfl)) (pv 5) (fun _ _=>rfl)) (ag_ hu (ag_ hu (pv 0) aC_ (fun _ _=>rfl)) (pv 6) (fun _ _=>rfl)))
  case s4=>exact aa_ (i:=9) b9'.nd rfl (Or.inl rfl) (ar_ a3_)
  case' s5=>refine' cD_ (aK_ PassesOwn.never rfl (ed_ (pv 1)) (a8_ (i:=10) b9'.nd rfl (Or.inl rfl)) (a5_ (aB_ ?t5 (a5_ (aB_ ?t6 (a5_ ?b6) ae_)) ae_)))
  case t5=>exact PW.pt (d0_ (an_ cP_ (ag_ hu (pv 1) (pv 10) (fun _ _=>rfl)) (pv 5) (nomark _)) (d0_ (an_ (cE_ cmpS (cc' hr 0)) (pv 10) (pv 4) (by with_unfolding_all rfl)) (cH_ (aJ_ (af_ cM hr (a0_ (pv 0) (a0_ (pv 10) (a0_ (pv 5) (a0_ (pv 6) a3_)))))))))
  case t6=>exact aJ_ (af_ cF hr (a0_ (pv 3) (a0_ (pv 7) (a0_ (aj_ b6_ (pv 8) (ag_ hu (ag_ hu (pv 0) aC_ (fun _ _=>rfl)) (pv 10) (fun _ _=>rfl))) a3_))))
  case b6=>exact b4_ (bK_ PySem.F.plainAttrs_list PySem.F.slot_list_append PySem.F.type_list_append aT_ (pv 9) (a0_ (pv 10) a3_))
  case s6=>exact ab_ (af_ cV hr (a0_ (pv 0) (a0_ (pv 9) a3_)))
  case' kk=>skip
  have h1:=Pp.hld_ok a;have h2:=Pp.hld_ok b;have e1:=Pp.str_ok ha;have e2:=Pp.str_ok hb;refine⟨_,rfl,t,_,rfl,.of ht,rfl,_,_,rfl,_,_,rfl,rfl,?_⟩;dsimp only;refine⟨_,rfl,_,rfl,_,rfl,wa,sd,hs,ts,ps,f,rfl,WA,Pp,hsd,fun dd H1 s1 nd1 e1'=>?_⟩;refine⟨_,rfl,_,rfl,wa,dd,a,b,hs,ts,ps,f,rfl,WA.nt (NT.of s1),Pp,e1',ha,hb,?_⟩;refine setG ?_;dsimp only;have W1:=W.same s1;refine⟨_,rfl,wa,_,rfl,W1.gS,_,rfl,ds,_,rfl,dgR W1.sg ha,_,rfl,wa,_,rfl,W1.gS,_,rfl,ds,_,rfl,dgR W1.sg hb,_,_,rfl,rfl,?_⟩;refine setG ?_;dsimp only;refine⟨by show 0<=sizeLine;decide,fun lf nf=>?_⟩;refine setG ?_;dsimp only;have s2:=s1.trans (Same.new (o:=.lst []) nf);have e3:upd H1 lf (.lst []) lf=some (.lst []):=a1_;have nf0:H lf=none:=s1.free nf;generalize upd H1 lf (.lst [])=H2 at s2 e3 ⊢
  have db:-(2 ^ 63)<cw' hs ps f a b/\cw' hs ps f a b<2 ^ 63:=by
   unfold cw';have m1:=Int.mul_nonneg h1.1 (show 0<=strOf hs b by omega);have m2:=Int.mul_le_mul h1.2 e2.2 (by omega) (by omega);have m3:=Int.mul_nonneg h2.1 (show 0<=strOf hs a by omega);have m4:=Int.mul_le_mul h2.2 e1.2 (by omega) (by omega);constructor<;>omega
  have jo:0<=strOf hs a+strOf hs b/\strOf hs a+strOf hs b<=2000:=⟨by omega,by omega⟩;generalize hdp:cw' hs ps f a b=dp at db ⊢;generalize hjn:strOf hs a+strOf hs b=jn at jo ⊢;have hsd2:=s2 _ _ hsd;have lfs:lf≠sd:=(a6_ hsd nf0).symm;refine⟨sd,_,hsd2,?_⟩;refine⟨_,rfl,sd,_,rfl,hsd2,fun o=>?_⟩;refine eC_ (fun i σ H'=>∃v10:Option V,σ=[some (.ref wa),some (.ref sd),some (.ref t),some (.str gd),some (.ref lg),some (.str a),some (.str b),some (.int dp),some (.int jn),some (.ref lf),v10]/\H' sd=some (.frz o (.dK (stF (ps.map (·.1)) f)))/\(∀b u,b≠sd->H b=some u->H' b=some u)/\H' lf=some (.lst ((((ps.map (·.1)).take i).filter (bB' hs ts ps f gd gv a b)).map V.str))) ⟨none,rfl,a1_,fun b u n1 e=>by rw[a4_ n1];exact s2 _ _ e,by rw[a4_ lfs];exact e3⟩ (fun i σ H' _ ⟨_,_,z,_⟩=>z) ?_ ?_
  ·rintro i ky x σ H4 hx ⟨v10,rfl,fz,kp,hlf⟩;obtain⟨n,hn,rfl,rfl⟩:=d6_ hx;have nm:=ae' hn;have hi:i<(ps.map (·.1)).length:=(ab'.mp hn).1;rw[aa'] at hi;have p30:=Pp.p30;have W4:=W.but hsd nm kp;have wn:=Pp.wt nm
   have no:∀{H5:Hp},Same H4 H5->bB' hs ts ps f gd gv a b n=false->∃v10:Option V,[some (V.ref wa),some (.ref sd),some (.ref t),some (.str gd),some (.ref lg),some (.str a),some (.str b),some (.int dp),some (.int jn),some (.ref lf),some (.str n)]=[some (V.ref wa),some (.ref sd),some (.ref t),some (.str gd),some (.ref lg),some (.str a),some (.str b),some (.int dp),some (.int jn),some (.ref lf),v10]/\H5 sd=some (.frz o (.dK (stF (ps.map (·.1)) f)))/\(∀b u,b≠sd->H b=some u->H5 b=some u)/\H5 lf=some (.lst ((((ps.map (·.1)).take (i+1)).filter (bB' hs ts ps f gd gv a b)).map V.str)):=fun s5 e=>⟨_,rfl,s5 _ _ fz,fun b u n1 e=>s5 _ _ (kp b u n1 e),by
    rw[av_ hn,List.filter_append,List.filter_cons_of_neg (by rw[e];exact aq'),List.filter_nil,aJ'];exact s5 _ _ hlf⟩
   refine setG ?_;dsimp only;refine⟨_,rfl,_,rfl,sd,_,rfl,gp_ (.inr ⟨o,fz⟩) nm,_,rfl,rfl,_,rfl,?_⟩;refine ite2 (fun c1=>?_) (fun c1=>?_)
   ·have c1:f n=a:=by simpa using c1
    refine⟨_,rfl,_,rfl,n,gv,rfl,⟨lg,_,rfl,.of (kp _ _ (fun z=>by rw[z,hsd] at hlg;cases hlg) hlg),bW_ gv⟩,_,rfl,?_⟩;rw[if_pos rfl];refine ite2 (fun c2=>?_) (fun c2=>?_)
    ·have c2:¬n∈gv:=by simpa using c2
     refine⟨_,rfl,_,rfl,_,rfl,_,rfl,wa,n,a,b,hs,ts,ps,f,rfl,⟨ds,dn,lt,dh,dy,ad,gy,W4⟩,Pp,nm,ha,fun H5 s5=>⟨_,rfl,?_⟩⟩;have W5:=W4.same s5;refine ite2 (fun c3=>?_) (fun c3=>?_)
     ·refine⟨_,rfl,_,rfl,_,rfl,_,rfl,wa,_,rfl,W5.gH,_,rfl,dh,_,rfl,dgR W5.hv nm,_,_,rfl,rfl,.inl ⟨by omega,by omega⟩,gd,dp,jn * wtN ps n,rfl,hgd,db.1,db.2,fun H6 s6=>⟨_,rfl,?_⟩⟩;refine ite2 (fun c4=>?_) (fun c4=>?_)
      ·have pt:bB' hs ts ps f gd gv a b n=true:=by
        unfold bB';rw[decide_eq_true c1,decide_eq_false c2,c3,hdp,hjn,c4];rfl
       have lf6:=s6 _ _ (s5 _ _ hlf);refine⟨_,rfl,.inl ⟨rfl,_,.of lf6⟩,_,rfl,lf,_,_,rfl,rfl,lf6,?_,?_⟩
       ·rw[aa'];have:=List.length_filter_le (bB' hs ts ps f gd gv a b) ((ps.map (·.1)).take i);rw[ak'] at this;omega
       ·refine⟨_,rfl,by rw[a4_ lfs.symm];exact s6 _ _ (s5 _ _ fz),fun b u n1 e=>by rw[a4_ (a6_ e nf0)];exact s6 _ _ (s5 _ _ (kp b u n1 e)),?_⟩;rw[a1_,av_ hn,List.filter_append,List.filter_cons_of_pos (by exact pt),List.filter_nil,an'];rfl
      ·refine no (s5.trans s6) ?_;unfold bB';rw[hdp,hjn,show fitB gd dp (jn * wtN ps n)=false by simpa using c4,aS',aS',aS']
     ·refine no s5 ?_;unfold bB';rw[show mayL ts ps n a b=false by simpa using c3,aZ',aS',aS']
    ·refine no (Same.refl H4) ?_;have c2:n∈gv:=by simpa using c2
     unfold bB';rw[decide_eq_true c2,Bool.not_true,aZ',aS']
   ·refine no (Same.refl H4) ?_;have c1:¬f n=a:=by simpa using c1
    unfold bB';rw[decide_eq_false c1,aZ']
  ·rintro σ H4 ⟨v10,rfl,fz,kp,hlf⟩;rw[aE_,am'] at hlf
   have s4:Same H (upd H4 sd (.dK (stF (ps.map (·.1)) f))):=fun b u e=>by
    by_cases z:b=sd
    ·rw[z] at e ⊢;rw[hsd] at e;rw[a1_];exact e
    ·rw[a4_ z];exact kp b u z e
   have lf4:upd H4 sd (.dK (stF (ps.map (·.1)) f)) lf=some (.lst (((ps.map (·.1)).filter (bB' hs ts ps f gd gv a b)).map V.str)):=by rw[a4_ lfs];exact hlf
   refine⟨o,fz,?_⟩;generalize upd H4 sd (.dK (stF (ps.map (·.1)) f))=H5 at s4 lf4 ⊢;refine⟨_,rfl,_,rfl,wa,lf,_,hs,ts,ps,rfl,WA.nt (NT.of s4),lf4,fun n hn=>(a0'.mp hn).1,?_,fun H6 s6=>k _ (s4.trans s6)⟩;have:=List.length_filter_le (bB' hs ts ps f gd gv a b) (ps.map (·.1));have p30:=Pp.p30;rw[aa'] at this;omega
end
end Ev
namespace L2
open PySem
variable{X:Cx}
end L2
namespace Ev
open PySem L2
section
variable{P:Program}{w:World}{K:F__}{mg:Str->Option Value}{base:Heap}
end
end Ev
namespace Ev
open PySem L2
section
variable{P:Program}{w:World}{K:F__}{mg:Str->Option Value}{base:Heap}
end
end Ev
namespace Ev
open PySem L2
theorem cH'{h x:Str}{t:Str × Str}:x∈nbT h t ↔ t=(h,x)∨t=(x,h):=by
 obtain⟨a,b⟩:=t;unfold nbT;rw[au'];constructor
 ·rintro (m|m)
  ·split at m
   ·rename_i z
    have z:a=h:=z;exact .inl (by rw[aB'.mp m,z])
   ·cases m
  ·split at m
   ·rename_i z
    have z:b=h:=z;exact .inr (by rw[aB'.mp m,z])
   ·cases m
 ·rintro (e|e)
  ·obtain⟨rfl,rfl⟩:=Prod.mk.inj e;exact .inl (by rw[if_pos rfl];exact aB'.mpr rfl)
  ·obtain⟨rfl,rfl⟩:=Prod.mk.inj e;exact .inr (by rw[if_pos rfl];exact aB'.mpr rfl)
theorem iA_{ts:Xb}{h x:Str}:x∈nbL ts h ↔ (h,x)∈ts∨(x,h)∈ts:=by
 unfold nbL;rw[List.mem_flatMap];constructor
 ·rintro⟨t,ht,m⟩;rcases cH'.mp m with rfl|rfl
  ·exact .inl ht
  ·exact .inr ht
 ·rintro (m|m)
  ·exact⟨_,m,cH'.mpr (.inl rfl)⟩
  ·exact⟨_,m,cH'.mpr (.inr rfl)⟩
theorem k7_{hs:Xa}{ts:Xb}(G:Good hs ts){h x:Str}:x∈nb hs ts h ↔ x∈nbL ts h:=by
 show x∈(a6' hs).filter _ ↔ _;rw[a0',decide_eq_true_eq,b1',iA_];constructor
 ·rintro⟨_,⟨a,b⟩,ht,e⟩;rcases gu_ (a:=a) (b:=b) (c:=h) (d:=x) (by show kT (ord2 a b)=kT (ord2 h x);rw[<- e]) with⟨rfl,rfl⟩|⟨rfl,rfl⟩
  ·exact .inl ht
  ·exact .inr ht
 ·rintro (m|m)
  ·exact⟨(au_ hs).mem_iff.mpr (G.tin _ m).2,_,m,rfl⟩
  ·exact⟨(au_ hs).mem_iff.mpr (G.tin _ m).1,_,m,bT_ _ _⟩
section
variable{hs:Xa}{ts:Xb}{ps qs:List Pc}{f:Str->Str}
theorem ik_(W:Pw hs ts ps f)(Q:Qs ps qs)(n:Str):hld ps f n=lo qs f n:=(iM_ f (Q.ws W.nd) n).symm
theorem iH_(W:Pw hs ts ps f)(Q:Qs ps qs)(a b:Str):cw' hs ps f a b=bU' hs qs f a b:=by
 unfold cw' bU';rw[ik_ W Q,ik_ W Q]
theorem lex2(x y:Int)(a b:Str):lexK [.inl x,.inr a] [.inl y,.inr b]=if x=y then ltS a b else decide (x<y):=by
 by_cases h:x=y
 ·subst h;rw[if_pos rfl];show (if (Sum.inl x:Key)=Sum.inl x then (if (Sum.inr a:Key)=Sum.inr b then false else ltS a b) else _)=_;rw[if_pos rfl];by_cases z:a=b
  ·subst z;rw[if_pos rfl,gy_]
  ·rw[if_neg fun e=>z (Sum.inr.inj e)]
 ·rw[if_neg h];show (if (Sum.inl x:Key)=Sum.inl y then _ else kLt (Sum.inl x) (Sum.inl y))=_;rw[if_neg fun e=>h (Sum.inl.inj e)];rfl
theorem ir_{x y:Int}{a b:Str}(h:y<x∨(y<=x/\ltS a b=false)):lexK [.inl x,.inr a] [.inl y,.inr b]=false:=by
 rw[lex2];by_cases z:x=y
 ·rw[if_pos z];rcases h with h|h
  ·omega
  ·exact h.2
 ·rw[if_neg z];exact decide_eq_false (by omega)
end
end Ev
namespace Ev
open PySem L2
section
variable{hs:Xa}{ts:Xb}{ps qs:List Pc}{f:Str->Str}
theorem kb_(Q:Qs ps qs){n:Str}(h:n∈ps.map (·.1)):∃p∈ps,p.1=n/\nrm p∈qs:=by
 have m:n∈qs.map (·.1):=by
  rw[Q.nms];exact (ap_ _).mem_iff.mpr h
 obtain⟨q,hq,rfl⟩:=ad'.mp m;obtain⟨p,hp,e⟩:=Q.mem q hq;exact⟨p,hp,by rw[e];rfl,by rw[<- e];exact hq⟩
theorem wt_q(W:Pw hs ts ps f)(Q:Qs ps qs){n:Str}(h:n∈ps.map (·.1)):wtN qs n=wtN ps n:=by
 obtain⟨p,hp,rfl,hq⟩:=kb_ Q h;rw[e1_ W.nd hp];exact e1_ (q:=nrm p) (Q.nd W.nd) hq
theorem wy_q(W:Pw hs ts ps f)(Q:Qs ps qs){n:Str}(h:n∈ps.map (·.1)):wyN qs n=(wyN ps n).map tsOf:=by
 obtain⟨p,hp,rfl,hq⟩:=kb_ Q h;rw[hD_ W.nd hp];exact hD_ (q:=nrm p) (Q.nd W.nd) hq
theorem way_mem{ws:Xb}{a b:Str}:ord2 a b∈tsOf ws ↔ (a,b)∈ws∨(b,a)∈ws:=by
 rw[b1'];constructor
 ·rintro⟨⟨x,y⟩,ht,e⟩;rcases gu_ (a:=x) (b:=y) (c:=a) (d:=b) (by show kT (ord2 x y)=kT (ord2 a b);rw[<- e]) with⟨rfl,rfl⟩|⟨rfl,rfl⟩
  ·exact .inl ht
  ·exact .inr ht
 ·rintro (m|m)
  ·exact⟨_,m,rfl⟩
  ·exact⟨_,m,bT_ _ _⟩
theorem jO_(W:Pw hs ts ps f)(Q:Qs ps qs){n a b:Str}(h:n∈ps.map (·.1))(ha:a∈hs.map (·.1))(hb:b∈hs.map (·.1)):mayL ts ps n a b=mayN hs ts qs n a b:=by
 unfold mayL mayN goB;rw[bE_,decide_eq_true ha,decide_eq_true hb,Bool.true_and,Bool.true_and,wy_q W Q h,decide_eq_decide.mpr (k7_ W.Gd)];congr 1;cases wyN ps n with
 |none=>rfl
 |some ws=>
  show (decide ((a,b)∈ws) || decide ((b,a)∈ws))=decide (ord2 a b∈tsOf ws);rw[Bool.eq_iff_iff,Bool.or_eq_true,decide_eq_true_eq,decide_eq_true_eq,decide_eq_true_eq];exact way_mem.symm
theorem i9_(W:Pw hs ts ps f)(Q:Qs ps qs){gd:Str}{gv:List Str}{n a b:Str}(h:n∈ps.map (·.1))(ha:a∈hs.map (·.1))(hb:b∈hs.map (·.1)):bB' hs ts ps f gd gv a b n=(decide (f n=a)&&hmP hs ts qs f gd gv a b n):=by
 unfold bB' hmP bF';rw[jO_ W Q h ha hb,iH_ W Q,wt_q W Q h,Int.mul_comm,Bool.and_comm (mayN hs ts qs n a b)]
theorem ez_{R:Str->Bool}{k:Str->List Key}{n:Str}:∀{l:List Str},Asc (l.map k)->l.find? R=some n->∀m∈l,R m=true->lexK (k m) (k n)=false
 |x::l,as,e,m,hm,r=>by
  rw[ar'] at as;have as':(∀z∈l.map k,lexK z (k x)=false)/\Asc (l.map k):=aO'.mp as;cases c:R x with
  |true=>
   rw[List.find?_cons_of_pos c] at e;cases e;rcases ah'.mp hm with rfl|hm
   ·exact bU_ _
   ·exact as'.1 _ (ad'.mpr ⟨m,hm,rfl⟩)
  |false=>
   rw[List.find?_cons_of_neg (by rw[c];exact aq')] at e;rcases ah'.mp hm with rfl|hm
   ·rw[c] at r;cases r
   ·exact ez_ as'.2 e m hm r
theorem iK_(qs:List Pc):Asc ((hvL qs).map (kN qs)):=by
 unfold hvL;rw[ao']
 have e:∀k∈sortKs ((qs.map (·.1)).map (kN qs)),(kN qs ∘ sndK) k=id k:=fun k hk=>by
  obtain⟨n,_,rfl⟩:=ad'.mp ((al_ _).mem_iff.mp hk);rfl
 rw[aF' e,List.map_id];exact c4_ _
theorem hfold:∀(l:List Str) (a:Str),SAsc (a::l)->∃m,l.foldl (hstep ps) (some a)=some m/\m∈a::l/\∀x∈a::l,lexK (kN ps x) (kN ps m)=false
 |[],a,_=>⟨a,rfl,aj',fun x hx=>by rw[aB'.mp hx];exact bU_ _⟩
 |y::l,a,as=>by
  have as':(∀z∈y::l,ltS z a=false)/\SAsc (y::l):=aO'.mp as;have as2:(∀z∈l,ltS z y=false)/\SAsc l:=aO'.mp as'.2;have e:(y::l).foldl (hstep ps) (some a)=l.foldl (hstep ps) (if wtN ps a<wtN ps y then some y else some a):=rfl;rw[e];by_cases c:wtN ps a<wtN ps y
  ·rw[if_pos c];obtain⟨m,e,hm,mn⟩:=hfold l y as'.2;refine⟨m,e,ag' _ hm,fun x hx=>?_⟩;rcases ah'.mp hx with rfl|hx
   ·exact bB_ (mn y aj') (ir_ (.inl (by omega)))
   ·exact mn x hx
  ·rw[if_neg c];obtain⟨m,e,hm,mn⟩:=hfold l a (aO'.mpr ⟨fun z hz=>as'.1 z (ag' _ hz),as2.2⟩);refine⟨m,e,?_,fun x hx=>?_⟩
   ·rcases ah'.mp hm with rfl|hm
    ·exact aj'
    ·simp[hm]
   ·rcases ah'.mp hx with rfl|hx
    ·exact mn x aj'
    ·rcases ah'.mp hx with rfl|hx
     ·exact bB_ (mn a aj') (ir_ (.inr ⟨by omega,as'.1 x aj'⟩))
     ·exact mn x (ag' _ hx)
theorem i0_(ps:List Pc)(S:List Str):(S=[]/\hvyL ps S=none)∨∃m,hvyL ps S=some m/\m∈S/\∀x∈S,lexK (kN ps x) (kN ps m)=false:=by
 have p:=ap_ S;have as:=g0_ S;unfold hvyL;generalize sortS S=T at p as;cases T with
 |nil=>exact .inl ⟨List.nil_perm.mp p,rfl⟩
 |cons a l=>
  obtain⟨m,e,hm,mn⟩:=hfold (ps:=ps) l a as;exact .inr ⟨m,e,p.mem_iff.mp hm,fun x hx=>mn x (p.mem_iff.mpr hx)⟩
theorem jr_(W:Pw hs ts ps f)(Q:Qs ps qs){gd:Str}{gv:List Str}{a b:Str}(ha:a∈hs.map (·.1))(hb:b∈hs.map (·.1)):bestL hs ts ps f gd gv a b=(hvAt qs f a).find? (hmP hs ts qs f gd gv a b):=by
 have nm:∀{n:Str},n∈hvL qs ↔ n∈ps.map (·.1):=fun {n}=>by
  rw[(cl_ qs).mem_iff,Q.nms,(ap_ _).mem_iff]
 have kq:∀{n:Str},n∈ps.map (·.1)->kN qs n=kN ps n:=fun {n} h=>by
  unfold kN;rw[wt_q W Q h]
 unfold bestL hvAt;rw[List.find?_filter]
 have sm:∀n,n∈(ps.map (·.1)).filter (bB' hs ts ps f gd gv a b) ↔ n∈hvL qs/\(decide (f n=a)&&hmP hs ts qs f gd gv a b n)=true:=fun n=>by
  rw[a0',nm];constructor
  ·rintro⟨h1,h2⟩;exact⟨h1,by rw[<- i9_ W Q h1 ha hb];exact h2⟩
  ·rintro⟨h1,h2⟩;exact⟨h1,by rw[i9_ W Q h1 ha hb];exact h2⟩
 rcases i0_ ps ((ps.map (·.1)).filter (bB' hs ts ps f gd gv a b)) with⟨e,h⟩|⟨m,h,hm,mn⟩
 ·rw[h];symm;rw[List.find?_eq_none];intro x hx r;have:=(sm x).mpr ⟨hx,by simpa using r⟩;rw[e] at this;cases this
 ·rw[h];obtain⟨m1,m2⟩:=(sm m).mp hm;cases e:(hvL qs).find? fun x=>decide ((decide (f x=a))=true/\hmP hs ts qs f gd gv a b x=true) with
  |none=>
   have:=List.find?_eq_none.mp e m m1;exact absurd (by simpa using m2) this
  |some n=>
   have n1:=List.mem_of_find?_eq_some e;have n2:=List.find?_some e;have nS:=(sm n).mpr ⟨n1,by simpa using n2⟩;have h1:=mn n nS;have h2:=ez_ (iK_ qs) e m m1 (by simpa using m2);rw[kq (nm.mp m1),kq (nm.mp n1)] at h2;have:=co_ h1 h2;have:sndK (kN ps n)=sndK (kN ps m):=by rw[this]
   exact congrArg some this.symm
end
end Ev
namespace L2
open PySem PySem.Spec PyProof.Rows PySem.Builtin PySem.Builtin.Str
section
variable{X:Cx}
theorem vals3{x y z:V}{us:List Value}(r:Vals [x,y,z] us):∃u v w,us=[u,v,w]/\RelV x u/\RelV y v/\RelV z w:=by
 cases r with
 |cons r1 r=>
  obtain⟨v,w,rfl,r2,r3⟩:=vals2 r;exact⟨_,v,w,rfl,r1,r2,r3⟩
theorem cmp3{n:Nat}{D1 D2 D3:Type}[DecidableEq D1][DecidableEq D2][DecidableEq D3]{R1:Rp D1}{R2:Rp D2}{R3:Rp D3}(c1:Cmp X n R1)(c2:Cmp X n R2)(c3:Cmp X n R3):Cmp X (n+1) (r3 X.K R1 R2 R3) where
 one:=fun {pins σ H s x d e} I hx hy=>by
  obtain⟨a,u,v,w,rfl,t,q1,q2,q3⟩:=hx;obtain⟨b,u',v',w',e0,t',q1',q2',q3'⟩:=hy;cases e0;have e1:=I.tuple_inj t t';cases e1;exact Prod.ext (c1.one I q1 q1') (Prod.ext (c2.one I q2 q2') (c3.one I q3 q3'))
 eq:=fun {pins σ H s A x y u v d e} I ru rv hx hy hu=>by
  obtain⟨a,x1,x2,x3,rfl,t,q1,q2,q3⟩:=hx;obtain⟨b,y1,y2,y3,rfl,t',q1',q2',q3'⟩:=hy;cases ru;cases rv;by_cases hab:a=b
  ·subst hab;have e1:=I.tuple_inj t t';cases e1;have:d=e:=Prod.ext (c1.one I q1 q1') (Prod.ext (c2.one I q2 q2') (c3.one I q3 q3'));rw[decide_eq_true this];exact SeqAt.EqAt.same _
  ·obtain⟨its,r,it,_⟩:=I.tuple t;obtain⟨its',r',it',_⟩:=I.tuple t';obtain⟨u1,u2,u3,rfl,r1,r2,r3⟩:=vals3 r;obtain⟨w1,w2,w3,rfl,r1',r2',r3'⟩:=vals3 r'
   have key:=SeqAt.EqAt.of_refs hab (SeqAt.RcAt.tuples (A:=A) (s:=s) (e:=fun j=>if j=0 then decide (d.1=e.1) else if j=1 then decide (d.2.1=e.2.1) else decide (d.2.2=e.2.2)) (by_ it) (by_ it') (by omega) fun j h1 h2=>by
    match j,h1,h2 with
    |0,_,_=>exact c1.eq I r1 r1' q1 q1' (by show A.units+1+n<cLine;omega)
    |1,_,_=>exact c2.eq I r2 r2' q2 q2' (by show A.units+1+n<cLine;omega)
    |2,_,_=>exact c3.eq I r3 r3' q3 q3' (by show A.units+1+n<cLine;omega))
   have e3:((List.range (min [u1,u2,u3].toArray.size [w1,w2,w3].toArray.size)).all (fun j=>if j=0 then decide (d.1=e.1) else if j=1 then decide (d.2.1=e.2.1) else decide (d.2.2=e.2.2))&&[u1,u2,u3].toArray.size == [w1,w2,w3].toArray.size)=decide (d=e):=by
    show (decide (d.1=e.1)&&(decide (d.2.1=e.2.1)&&(decide (d.2.2=e.2.2)&&true))&&true)=_;by_cases h1:d.1=e.1
    ·by_cases h2:d.2.1=e.2.1
     ·by_cases h3:d.2.2=e.2.2
      ·have:d=e:=Prod.ext h1 (Prod.ext h2 h3);simp[this]
      ·have:¬d=e:=fun z=>h3 (by rw[z]);simp[h1,h2,h3,this]
     ·have:¬d=e:=fun z=>h2 (by rw[z]);simp[h1,h2,this]
    ·have:¬d=e:=fun z=>h1 (by rw[z]);simp[h1,this]
   rw[e3] at key;exact key
end
end L2
namespace Ev
open PySem L2
theorem bl'.firm{K:F__}{C:Addr}{H:Hp}{p:Addr}{hs:Xa}{ts:Xb}{fp:List Addr}(W:bl' K C H p hs ts fp){b:Addr}(hb:b∈fp):∃o,H b=some o/\∀vs,o≠.tbl vs:=by
 obtain⟨dx,d1,l2,d3,zs,as,rfl,h1,h2,h3,h4,h5,h6,h7⟩:=W.ex;simp only[ah'] at hb;rcases hb with rfl|rfl|rfl|rfl|hb
 ·exact⟨_,h1,by intro vs z;cases z⟩
 ·exact⟨_,h2,by intro vs z;cases z⟩
 ·exact⟨_,h3,by intro vs z;cases z⟩
 ·exact⟨_,h5,by intro vs z;cases z⟩
 ·obtain⟨i,hi,e⟩:=aD' hb;exact⟨_,h7 i ((a6' hs)[i]'(by omega)) b (ac' (by omega)) (by rw[<- e];exact ac' hi),by intro vs z;cases z⟩
theorem ba'.firm{K:F__}{CG CW:Addr}{H:Hp}{g p:Addr}{hs:Xa}{ts:Xb}{qs:List Pc}{fp:List Addr}(G:ba' K CG CW H g p hs ts qs fp):∃fp',ba' K CG CW H g p hs ts qs fp'/\(∀b∈fp',b∈fp)/\∀b∈fp',∃o,H b=some o/\∀vs,o≠.tbl vs:=by
 obtain⟨dx,dw,dy,vs,fpw,h1,h2,h3,h4,h5,m1,m2,m3,m4,m5⟩:=G.ex;refine⟨g::dw::dy::(fpw++vs.filterMap fun v=>match v with | .ref a=>some a|_=>none),⟨dx,dw,dy,vs,fpw,h1,h2,h3,h4,h5,by simp,by simp,by simp,fun b hb=>by simp[hb],fun v hv a z=>?_⟩,fun b hb=>?_,fun b hb=>?_⟩
 ·have:a∈vs.filterMap fun v=>match v with | .ref a=>some a|_=>none:=aN'.mpr ⟨v,hv,by rw[z]⟩;simp only[ah',au'];exact .inr (.inr (.inr (.inr this)))
 ·simp only[ah',au'] at hb;rcases hb with rfl|rfl|rfl|hb|hb
  ·exact m1
  ·exact m2
  ·exact m3
  ·exact m4 b hb
  ·obtain⟨v,hv,e⟩:=aN'.mp hb;cases v with
   |ref a=>cases e;exact m5 _ hv _ rfl
   |_=>cases e
 ·simp only[ah',au'] at hb;rcases hb with rfl|rfl|rfl|hb|hb
  ·exact⟨_,h1,by intro vs z;cases z⟩
  ·exact⟨_,h3,by intro vs z;cases z⟩
  ·exact⟨_,h4,by intro vs z;cases z⟩
  ·exact h2.firm hb
  ·obtain⟨v,hv,e⟩:=aN'.mp hb;obtain⟨i,hi,ev⟩:=aD' hv;have le:=Paired.length h5;have w:=paired_get h5 i hi (by omega);rw[ev] at w;cases o:(qs[i]'(by omega)).2.2 with
   |none=>
    rw[o] at w;rw[show v=.non from w] at e;cases e
   |some ws=>
    rw[o] at w;obtain⟨a,ys,ea,ha,_⟩:=w;rw[ea] at e;cases e;exact⟨_,ha,by intro vs z;cases z⟩
theorem ke_{K:F__}{H H':Hp}{a:Addr}{xs:List V}(s:NT H H')(h:SqL K H a xs):SqL K H' a xs:=by
 rcases h with (h|⟨o,h⟩)|h
 ·exact .inl (.inl (s.lst h))
 ·exact .inl (.inr ⟨o,s _ _ h nofun⟩)
 ·exact .inr h
theorem But.same{l:Addr}{H H1 H2:Hp}(b:But l H1 H2)(n:H l=none)(s:Same H H1):Same H H2:=fun c o e=>b c o (s c o e) (a6_ e n)
theorem Tb.same{H G:Hp}{T1 T2:Addr}(t:Tb H T1 T2)(s:Same H G):Tb G T1 T2:=⟨t.a.same s,t.b.same s,t.ne⟩
theorem reps3{K:F__}{H:Hp}:∀{ms:List Mv} {ys:List V},a5' K H ys (ms.map kM)->Paired (r3 K rS rS rS H) ys ms
 |[],_,h=>by rw[List.map_nil] at h;cases h;exact .nil
 |m::ms,_,h=>by
  rw[ar'] at h;cases h with
  |cons a t=>
   obtain⟨b,e,hb⟩:=a;exact .cons ⟨b,_,_,_,e,.of hb,rfl,rfl,rfl⟩ (reps3 t)
theorem bO'.mv{K:F__}{H G:Hp}{wa l:Addr}{hs:Xa}{ts:Xb}{ps:List Pc}(W:bO' K H wa hs ts ps)(b:But l H G)(st:stt H l):bO' K G wa hs ts ps:=by
 obtain⟨ds,dn,lt,dh,dy,ad,gy,W⟩:=W;obtain⟨xs,hl⟩:=st.some;have kd:∀{c:Addr} {kvs:List (Key × V)},H c=some (.dK kvs)->G c=some (.dK kvs):=fun e=>b _ _ e (ax_ e hl nofun);refine⟨ds,dn,lt,dh,dy,ad,gy,kd W.top,kd W.sg,kd W.nr,fun h hh=>b _ _ (W.ls h hh) fun z=>?_,kd W.hv,kd W.wy,fun q hq=>(W.wv q hq).mv b st,let ⟨zs,e,t⟩:=W.tl;⟨zs,b _ _ e (f4_ t e st),aV_ t b hl⟩⟩;obtain⟨x,y,w,e⟩:=st;have e2:=W.ls h hh;rw[z,e] at e2;have e2:=HO.lst.inj (Option.some.inj e2);cases c:nbL ts h with
 |nil=>rw[c] at e2;cases e2
 |cons a t=>
  rw[c] at e2;have:=(List.cons.inj e2).1;cases this
theorem Stn.mv{K:F__}{CG CW g p d l:Addr}{H G:Hp}{hs:Xa}{ts:Xb}{qs:List Pc}{fp:List Addr}{ns:List Str}{f:Str->Str}(S:Stn K CG CW H g p d hs ts qs fp ns f)(b:But l H G)(st:stt H l)(n:l∉fp)(dl:d≠l):Stn K CG CW G g p d hs ts qs fp ns f:=by
 obtain⟨xs,hl⟩:=st.some;have kb:∀c∈fp,∀o,H c=some o->G c=some o:=fun c hc o e=>b c o e (fun z=>n (z▸hc));refine⟨S.G.keep kb fun c zs e=>b _ _ e (ax_ e hl nofun),S.dfp,b _ _ S.hd dl,S.so,fun c hc=>?_⟩;obtain⟨o,e,q⟩:=S.has c hc;exact⟨o,kb c hc o e,q⟩
end Ev
namespace L2
open PySem PySem.Spec PyProof.Rows PySem.W
section
variable{prog:Program}{w:World}{A:Around}{E:Value->Shared->Prop}{s:Shared}
theorem jz_{x y:Str}{t u:Tok}{Q:Value->Shared->Prop}(h:Q (.bool (decide (y.cps.toList<x.cps.toList))) s):wpAny (model prog w) A (richCompare .Gt (.str x t) (.str y u)) Q E s:=
 richCompare_gives (op:=.Gt) (typeIs_str s x t) (typeIs_str s y u) PySem.F.slot_str_gt PySem.F.entry_str_gt (PySem.F.args_str_gt_2 _ _) (gives_str_gt x y t u) (fun e=>nomatch e) h
theorem jo_{x y:Str}{t u:Tok}{Q:Value->Shared->Prop}(h:Q (.bool (decide (x.cps.toList<y.cps.toList))) s):wpAny (model prog w) A (richCompare .Lt (.str x t) (.str y u)) Q E s:=
 richCompare_gives (op:=.Lt) (typeIs_str s x t) (typeIs_str s y u) PySem.F.slot_str_lt PySem.F.entry_str_lt (PySem.F.args_str_lt_2 _ _) (gives_str_lt x y t u) (fun e=>nomatch e) h
def txt2(x y:Str)(i:Nat):Str:=if i=0 then x else y
theorem c5_{x y:Str}{t u:Tok}{i:Nat}{v:Value}(h:(#[Value.str x t,.str y u]:Array Value)[i]? = some v):∃tk,v=.str (txt2 x y i) tk:=by
 match i,h with
 |0,h=>exact⟨t,by simpa [txt2] using h.symm⟩
 |1,h=>exact⟨u,by simpa [txt2] using h.symm⟩
 |_+2,h=>simp at h
end
end L2
namespace L2
open PySem PySem.Spec PyProof.Rows PySem.W
section
variable{prog:Program}{w:World}{A:Around}{E:Value->Shared->Prop}{s:Shared}
theorem jB_{p:Addr}{a b:Str}{t u:Tok}{Q:Value->Shared->Prop}(hh:A.handled=none)(hT:s.heap.IsTuple p #[.str a t,.str b u])
  (h:∀h' tk tk2,(∀c o,s.heap.get? c=some o->h'.get? c=some o)->Q (.str (if a.cps.toList<b.cps.toList then b else a) tk2) { s with heap:=h',toks:=tk }):wpAny (model prog w) A (call (.builtin "max") [.ref p]) Q E s:=by
 have pl:p<s.heap.objs.size:=by
  obtain⟨o,ho,_⟩:=id hT;exact Heap.lt_size ho
 refine call_max_walk (wpAny_pyIter_tuple hT ⟨_,[_,p],[_],_,_,_,fun i j=>decide ((txt2 a b j).cps.toList<(txt2 a b i).cps.toList),rfl,Walks.tuple (A:=A.in1) hh s.heap.objs.size p (av' pl) #[.str a t,.str b u],⟨⟨_,Heap.get?_push_size _ rfl,rfl,rfl⟩,hT.push _⟩,fun c hc=>?_,by simp,fun i j vi vj s' Q' E' hi hj h'=>?_,fun v h' tk hP hk=>?_⟩)
 ·show c<(s.heap.push _).objs.size;rw[Heap.size_push];rcases ah'.mp hc with e1|hc
  ·rw[e1];exact Nat.lt_succ_self _
  ·rw[aB'.mp hc];exact Nat.lt_succ_of_lt pl
 ·obtain⟨_,rfl⟩:=c5_ hi;obtain⟨_,rfl⟩:=c5_ hj;exact jz_ h'
 ·have hold:∀c o,s.heap.get? c=some o->h'.get? c=some o:=fun c o e=>by
   refine hk c o (fun hm=>?_) (Heap.get?_push_of_some _ e);have q:=Heap.lt_size e;rw[aB'.mp hm] at q;exact a2' _ q
  obtain⟨tk2,rfl⟩:=c5_ hP
  have e:txt2 a b (argBest (fun i j=>decide ((txt2 a b j).cps.toList<(txt2 a b i).cps.toList)) ((#[Value.str a t,.str b u]:Array Value).size - 1))=if a.cps.toList<b.cps.toList then b else a:=by
   show txt2 a b (if decide (a.cps.toList<b.cps.toList)=true then 1 else 0)=_;by_cases c:a.cps.toList<b.cps.toList
   ·rw[if_pos (decide_eq_true c),if_pos c];rfl
   ·rw[if_neg (by simpa using c),if_neg c];rfl
  rw[e];exact h h' tk tk2 hold
theorem jg_{p:Addr}{a b:Str}{t u:Tok}{Q:Value->Shared->Prop}(hh:A.handled=none)(hT:s.heap.IsTuple p #[.str a t,.str b u])
  (h:∀h' tk tk2,(∀c o,s.heap.get? c=some o->h'.get? c=some o)->Q (.str (if b.cps.toList<a.cps.toList then b else a) tk2) { s with heap:=h',toks:=tk }):wpAny (model prog w) A (call (.builtin "min") [.ref p]) Q E s:=by
 have pl:p<s.heap.objs.size:=by
  obtain⟨o,ho,_⟩:=id hT;exact Heap.lt_size ho
 refine call_min_walk (wpAny_pyIter_tuple hT ⟨_,[_,p],[_],_,_,_,fun i j=>decide ((txt2 a b i).cps.toList<(txt2 a b j).cps.toList),rfl,Walks.tuple (A:=A.in1) hh s.heap.objs.size p (av' pl) #[.str a t,.str b u],⟨⟨_,Heap.get?_push_size _ rfl,rfl,rfl⟩,hT.push _⟩,fun c hc=>?_,by simp,fun i j vi vj s' Q' E' hi hj h'=>?_,fun v h' tk hP hk=>?_⟩)
 ·show c<(s.heap.push _).objs.size;rw[Heap.size_push];rcases ah'.mp hc with e1|hc
  ·rw[e1];exact Nat.lt_succ_self _
  ·rw[aB'.mp hc];exact Nat.lt_succ_of_lt pl
 ·obtain⟨_,rfl⟩:=c5_ hi;obtain⟨_,rfl⟩:=c5_ hj;exact jo_ h'
 ·have hold:∀c o,s.heap.get? c=some o->h'.get? c=some o:=fun c o e=>by
   refine hk c o (fun hm=>?_) (Heap.get?_push_of_some _ e);have q:=Heap.lt_size e;rw[aB'.mp hm] at q;exact a2' _ q
  obtain⟨tk2,rfl⟩:=c5_ hP
  have e:txt2 a b (argBest (fun i j=>decide ((txt2 a b i).cps.toList<(txt2 a b j).cps.toList)) ((#[Value.str a t,.str b u]:Array Value).size - 1))=if b.cps.toList<a.cps.toList then b else a:=by
   show txt2 a b (if decide (b.cps.toList<a.cps.toList)=true then 1 else 0)=_;by_cases c:b.cps.toList<a.cps.toList
   ·rw[if_pos (decide_eq_true c),if_pos c];rfl
   ·rw[if_neg (by simpa using c),if_neg c];rfl
  rw[e];exact h h' tk tk2 hold
end
def rMax1T(K:F__):List V->Hp->VK->Prop:=fun xs H Q=>∃p a b,xs=[.ref p]/\SqT K H p [.str a,.str b]/\Q (.str (if a.cps.toList<b.cps.toList then b else a)) H
def rMin1T(K:F__):List V->Hp->VK->Prop:=fun xs H Q=>∃p a b,xs=[.ref p]/\SqT K H p [.str a,.str b]/\Q (.str (if b.cps.toList<a.cps.toList then b else a)) H
theorem eK_{a b:Str}{its:List Value}(r:Vals [.str a,.str b] its):∃t u,its=[.str a t,.str b u]:=by
 cases r with
 |cons h r=>
  obtain⟨t,rfl⟩:=h;cases r with
  |cons h r=>
   obtain⟨u,rfl⟩:=h;cases r;exact⟨t,u,rfl⟩
theorem fq_{X:Cx}(hc:X.calm=true):br' X (.builtin "max") (rMax1T X.K):=by
 intro pins s σ H xs us Q I r h;obtain⟨p,a,b,rfl,hp,q⟩:=h;obtain⟨v,rfl,rv⟩:=vals1 r;cases rv;obtain⟨its,r',hT,_⟩:=I.tuple hp;obtain⟨t,u,rfl⟩:=eK_ r';exact jB_ (I.ok.hd hc) hT fun h' tk tk2 k=>⟨V.str _,H,I.kept k,⟨_,rfl⟩,q⟩
theorem fu_{X:Cx}(hc:X.calm=true):br' X (.builtin "min") (rMin1T X.K):=by
 intro pins s σ H xs us Q I r h;obtain⟨p,a,b,rfl,hp,q⟩:=h;obtain⟨v,rfl,rv⟩:=vals1 r;cases rv;obtain⟨its,r',hT,_⟩:=I.tuple hp;obtain⟨t,u,rfl⟩:=eK_ r';exact jg_ (I.ok.hd hc) hT fun h' tk tk2 k=>⟨V.str _,H,I.kept k,⟨_,rfl⟩,q⟩
end L2
namespace Ev
open PySem L2
theorem hh_{K:F__}{H H':Hp}{lr ln a:Addr}{as:List Addr}{rs:List Xb}{t:Str × Str}(R:bq' K H lr as rs)(fa:∀b∈as,b≠lr)(e1:H' lr=some (.lst (as.map V.ref++[.ref ln])))(e2:H' ln=some (.lst [.ref a]))(e3:H' a=some (.tup [.str t.1,.str t.2]))(k:∀b o,H b=some o->b≠lr->H' b=some o):bq' K H' lr (as++[ln]) (rs++[[t]]):=by
 have la:=Paired.length R.2;have kt:∀b xs,H b=some (.tup xs)->H' b=some (.tup xs):=fun b xs e=>k b _ e (ax_ e R.1 nofun);refine⟨by rw[an'];exact e1,cq_ (bO_ la fun j h1 h2=>?_) ⟨_,e2,.cons ⟨a,rfl,e3⟩ .nil⟩⟩;obtain⟨zz,e,tt⟩:=paired_get R.2 j h1 h2;exact⟨zz,k _ _ e (fa _ (az' h1)),Paired.mapP tt fun y q ⟨c,z,e⟩=>⟨c,z,kt _ _ e⟩⟩
theorem hQ_(a b:Str):(if ltS b a=true then b else a,if ltS a b=true then b else a)=ord2 a b∨a=b:=by
 unfold ord2;by_cases c:ltS a b=true
 ·have n:¬ltS b a=true:=fun z=>by
   have:=dz_ c;rw[z] at this;cases this
  rw[if_pos c,if_pos c,if_neg n];exact .inl rfl
 ·by_cases d:ltS b a=true
  ·rw[if_pos d,if_neg c,if_neg c];exact .inl rfl
  ·exact .inr (gU_ (by simpa using c) (by simpa using d))
section
variable{P:Program}{w:World}{K:F__}{mg:Str->Option Value}{base:Heap}
abbrev rwN:List Str:=["_law_world_here","_law_rows_here","_law_one","_law_other","_law_at"]
theorem bS':a4' rwN ["_law_world_here"] (a3' sRowsL):=f__
def cE'(K:F__):Sp:=fun vs H Q _=>∃(wa:Addr) (hs:Xa) (ts:Xb) (ps:List Pc),vs=[.ref wa]/\bO' K H wa hs ts ps/\Good hs ts /\
 ∀(l:Addr) (as:List Addr) (H':Hp),Same H H'->H l=none->(∀a∈as,H a=none)->bq' K H' l as (turnsOf (tsOf ts))->Q (.ref l) H'
set_option maxHeartbeats 1600000 in
theorem hG_{f0:Addr}{fd:FuncData}(F:Fun K "_law_rows" "_law_rows" sRowsL f0 fd)(B:Bi mg):FnOk P w K mg base CX0 1 f0 fd ["_law_world_here"] (cE' K):=by
 refine F.ok bS' (fun vs H Q E h=>?_) (fun cdv A outer s H vs Q E hr h=>?_)
 ·obtain⟨wa,hs,ts,ps,rfl,_⟩:=h;rfl
 ·obtain⟨wa,hs,ts,ps,rfl,⟨ds,dn,lt,dh,dy,ad,gy,W⟩,Gd,k⟩:=h;have hu:=b5_ hr;have sz:=sizeLine_eq;refine' ⟨_,a2_ ?s1 (a2_ ?s2 (a5_ ?s3)),?kk⟩
  case s1=>exact aa_ (i:=1) bS'.nd rfl (Or.inl rfl) (ar_ a3_)
  case' s2=>refine' aK_ PassesOwn.never rfl (ak_ (ac_ fm_ (by rfl) B.sorted PyProof.Rows.Boot.«sorted» (a0_ ?c0 a3_))) (b8_ rfl (ad_ (a8_ (i:=2) bS'.nd rfl (Or.inr rfl)) (ad_ (a8_ (i:=3) bS'.nd rfl (Or.inr rfl)) aO_))) ?b0
  case' c0=>refine' aN_ ["_law_pair"] 1 [] (ak_ (ag_ hu (pv 0) aC_ (fun _ _=>rfl))) (fun fp s H=>a8_ (i:=0) (show (["_law_pair"]:List Str).Nodup by decide +kernel) rfl (Or.inl rfl)) (fun fp s H=>aS_) ?c1
  case c1=>exact fun fp s H=>aL_ (a0_ (ac_ (callK (K:=K) rMin1T (fu_ rfl)) (by rfl) B.min PyProof.Rows.Boot.«min» (a0_ (pv 0) a3_)) (a0_ (ac_ (callK (K:=K) rMax1T (fq_ rfl)) (by rfl) B.max PyProof.Rows.Boot.«max» (a0_ (pv 0) a3_)) a3_))
  case' b0=>refine' a2_ ?b1 (a2_ ?b2 (a2_ ?b3 (a5_ ?b4)))
  case b1=>exact aa_ (i:=4) bS'.nd rfl (Or.inl rfl) a7_
  case' b2=>refine' eB_ PassesOwn.never (PW.pt (d0_ ?w1 (cH_ ?w2))) (a5_ ?w3)
  case w1=>exact an_ je_ (pv 4) (ac_ ai_ (by rfl) B.len PySem.boot_len (a0_ (pv 1) a3_)) (nomark _)
  case' w2=>refine' aJ_ (ac_ (eL_ rfl) (by rfl) B.any PyProof.Rows.Boot.«any» (a0_ ?w4 a3_))
  case' w4=>refine' aN_ ["_law_row","_law_one","_law_other"] 1 [2,3] (ak_ (az_ aH_ (pv 1) (pv 4) (fun _ _=>rfl))) (fun fp s H=>a8_ (i:=0) (show (["_law_row","_law_one","_law_other"]:List Str).Nodup by decide +kernel) rfl (Or.inl rfl)) (fun fp s H=>aS_) ?w5
  case w5=>exact fun fp s H=>fg_ (aG_ (opK (K:=K) (fun K=>rIn K false) bS_) (pv 1) (pv 0) (by with_unfolding_all rfl)) (bd_ (aG_ (opK (K:=K) (fun K=>rIn K false) bS_) (pv 2) (pv 0) (by with_unfolding_all rfl)))
  case w3=>exact aa_ (i:=4) bS'.nd rfl (Or.inl rfl) (aj_ b1_ (pv 4) a7_)
  case b3=>exact aB_ (an_ cP_ (pv 4) (ac_ ai_ (by rfl) B.len PySem.boot_len (a0_ (pv 1) a3_)) (nomark _)) (a5_ (b4_ (bK_ PySem.F.plainAttrs_list PySem.F.slot_list_append PySem.F.type_list_append aT_ (pv 1) (a0_ (ar_ a3_) a3_)))) ae_
  case b4=>exact b4_ (bK_ PySem.F.plainAttrs_list PySem.F.slot_list_append PySem.F.type_list_append aT_ (az_ aH_ (pv 1) (pv 4) (fun _ _=>rfl)) (a0_ (aL_ (a0_ (pv 2) (a0_ (pv 3) a3_))) a3_))
  case s3=>exact ab_ (pv 1)
  case' kk=>skip
  obtain⟨zt,hlt,tt⟩:=W.tl;have t64:=Gd.t64;have lzt:=Paired.length tt;rw[aa'] at lzt;refine⟨by show 0<=sizeLine;decide,fun lr nr=>?_⟩;refine setG ?_;dsimp only;obtain⟨s1,e1⟩:=nw__ (o:=.lst []) nr;generalize upd H lr (.lst [])=H1 at s1 e1 ⊢;have W1:=W.same s1;have gT:DGet H1 wa (.str "ties") (some (.ref lt)):=DGet.k (k:=Sum.inr "ties") W1.top;refine⟨_,rfl,wa,_,rfl,gT,lt,rfl,⟨_,.of (s1 _ _ hlt)⟩,fun D hD=>?_⟩;refine aI_ (own:=1) (fv:=[]) (xs:=zt) rfl gok1 (fun j out H'=>Same H1 H'/\H' D=some (.lst out)/\a5' K H' out ((ts.take j).map fun t=>kT (ord2 t.1 t.2))) ⟨Same.new hD,a1_,.nil⟩ (fun j out H' _ ⟨sm,_⟩=>.of (sm _ _ (s1 _ _ hlt))) (fun out H2 ⟨s12,d2,t2⟩=>?_) (fun j x out H' hx ⟨sm,hd,to⟩=>?_);rotate_left
  ·obtain⟨t,ht,a,rfl,ha⟩:=am_ tt hx;have hj:j<ts.length:=(ab'.mp ht).1;have ne:=(Gd.tok t (ae' ht)).2.2;have ha':H' a=some (.tup [.str t.1,.str t.2]):=sm _ _ (s1 _ _ ha);have lo:=Paired.length to;rw[aa',ak'] at lo;refine⟨_,rfl,rfl,fun Nx hN=>yesT ?_⟩;refine⟨_,rfl,a,t.1,t.2,rfl,.of ha',_,rfl,a,t.1,t.2,rfl,.of ha',by show 2<=sizeLine;decide,fun u nu=>?_⟩
   have po:((if t.2.cps.toList<t.1.cps.toList then t.2 else t.1),(if t.1.cps.toList<t.2.cps.toList then t.2 else t.1))=ord2 t.1 t.2:=by
    rcases hQ_ t.1 t.2 with h|h
    ·rw[<- h];unfold ltS;simp only[decide_eq_true_eq]
    ·exact absurd h ne
   have o1:=congrArg Prod.fst po;have o2:=congrArg Prod.snd po;dsimp only at o1 o2;rw[o1,o2];obtain⟨s3,e3⟩:=nw__ (o:=.tup [.str (ord2 t.1 t.2).1,.str (ord2 t.1 t.2).2]) nu;generalize upd H' u (.tup [.str (ord2 t.1 t.2).1,.str (ord2 t.1 t.2).2])=H3 at s3 e3 ⊢;refine⟨out,s3 _ _ hd,by omega,hN _ _ ⟨ao_ (sm.trans s3) hD,a1_,?_⟩⟩;rw[show ts.take (j+1)=ts.take j++[t] by rw[aw',ht];rfl,an'];exact b7_ (ba_ (to.same s3) e3) (s3 _ _ hd)
  rw[lzt,am'] at t2;have len2:=Paired.length t2;rw[aa'] at len2
  refine⟨D,out,_,[true,true],rfl,.of d2,t2,⟨by decide,fun k hk=>by
   obtain⟨t,_,rfl⟩:=ad'.mp hk;rfl⟩,by rw[aa'];exact t64,fun ls zs nls tz pz=>?_⟩
  rw[<- bg_] at tz;obtain⟨s3',e3⟩:=nw__ (o:=.lst zs) nls;have t3:=a5'.same tz s3';have sls:lr≠ls:=a6_ (s12 _ _ e1) nls;have r3:=s3' _ _ (s12 _ _ e1);have s3:=(s1.trans s12).trans s3';generalize upd H2 ls (.lst zs)=H3 at s3 e3 t3 r3 ⊢;clear s1 s12 s3' d2 t2 e1 hD tz nls;have lz:=Paired.length t3;rw[aa'] at lz;have ltl:=bo_ ts;refine⟨ls,rfl,⟨_,.of e3⟩,as_ (K:=K) (a:=ls) (xs:=zs) (fun i σ H'=>∃(v2 v3 v4:Option V) (as:List Addr),σ=[some (.ref wa),some (.ref lr),v2,v3,v4]/\But lr H3 H'/\(∀a∈as,H3 a=none/\a≠lr)/\as.Nodup/\bq' K H' lr as (turnsOf ((tsOf ts).take i))/\(turnsOf ((tsOf ts).take i)).length<=i/\∀r∈turnsOf ((tsOf ts).take i),r.length<=i) ⟨none,none,none,[],rfl,But.refl _ _,by simp,.nil,⟨r3,.nil⟩,af' _,by intro r hr;simp[turnsOf] at hr⟩ (fun i σ H' _ ⟨_,_,_,_,_,b,_⟩=>.of (b _ _ e3 sls.symm)) ?_ ?_⟩
  ·rintro i x σ H4 hx ⟨v2,v3,v4,as,rfl,b4,fa,nd,R,l1,l2⟩;obtain⟨t,ht,a,rfl,ha⟩:=am_ t3 hx;have hi:i<(tsOf ts).length:=(ab'.mp ht).1;have ha4:H4 a=some (.tup [.str t.1,.str t.2]):=b4 _ _ ha (ax_ ha r3 nofun);have la:=Paired.length R.2
   have est:turnsOf ((tsOf ts).take (i+1))=bc' (turnsOf ((tsOf ts).take i)) t:=by
    unfold turnsOf;rw[aw',ht,List.foldl_append];rfl
   generalize turnsOf ((tsOf ts).take i)=rs at R l1 l2 la est;refine⟨a,_,rfl,.of ha4,rfl,_,_,rfl,_,_,rfl,rfl,?_⟩;dsimp only;refine setG (i:=4) (v:=.int 0) ?_;dsimp only;refine seqG (fun σ H'=>σ=[some (.ref wa),some (.ref lr),some (.str t.1),some (.str t.2),some (.int (a9' rs t))]/\Same H4 H') ?q2 ?q1
   case q1=>
    intro N1 hN1;refine⟨fun m σ H'=>∃j:Nat,σ=[some (.ref wa),some (.ref lr),some (.str t.1),some (.str t.2),some (.int j)]/\Same H4 H'/\j<=rs.length/\m=rs.length - j/\∀r∈rs.take j,r.any (hit t)=true,⟨_,0,rfl,Same.refl _,aE' _,rfl,by simp⟩,?_⟩;rintro m σ H5 ⟨j,rfl,s5,jl,rfl,past⟩;have R5:=R.same s5;refine⟨_,rfl,_,rfl,lr,_,rfl,.inl (.of R5.1),_,_,rfl,rfl,_,rfl,?_⟩;rw[aa',la];refine ite2 (fun c=>?_) (fun c=>?_)
    ·have c:j<rs.length:=by simpa using c
     have hja:j<as.length:=by omega
     obtain⟨zr,hz,tz⟩:=paired_get R5.2 j hja c;have lzr:=Paired.length tz;rw[aa'] at lzr;have lr1:=l2 rs[j] (az' c);have atl:atI (as.map V.ref) (j:Int)=some (.ref as[j]):=L2.bg' (by rw[al',ac' hja];rfl);refine⟨_,rfl,_,rfl,lr,_,_,_,rfl,rfl,.of R5.1,atl,as[j],rfl,⟨_,.of hz⟩,fun D hD=>?_⟩;refine aI_ (own:=1) (fv:=[some (.str t.1),some (.str t.2)]) (xs:=zr) rfl gok1 (fun q out H'=>Same H5 H'/\H' D=some (.lst out)/\out=((rs[j].take q).map (hit t)).map V.bl) ⟨Same.new hD,a1_,rfl⟩ (fun q out H' _ ⟨sm,_,_⟩=>.of (sm _ _ hz)) (fun out H6 ⟨s6,hD6,eo⟩=>?_) (fun q y out H' hy ⟨sm,hD',eo⟩=>?_)
     ·rw[lzr,am'] at eo;subst eo;refine⟨D,rs[j].map (hit t),rfl,.of hD6,⟨_,rfl,?_⟩⟩;have eany:(rs[j].map (hit t)).any id=rs[j].any (hit t):=by rw[List.any_map];rfl
      refine ite2 (fun c2=>?_) (fun c2=>?_)
      ·have c2:rs[j].any (hit t)=true:=by rw[<- eany];exact c2
       refine⟨fun σ H'=>∃j':Nat,rs.length - j'<rs.length - j/\σ=[some (.ref wa),some (.ref lr),some (.str t.1),some (.str t.2),some (.int j')]/\Same H4 H'/\j'<=rs.length/\∀r∈rs.take j',r.any (hit t)=true,fun σ' H' ⟨j',q0,q1,q2,q3,q4⟩=>⟨_,q0,j',q1,q2,q3,rfl,q4⟩,?_⟩;refine⟨_,rfl,_,_,rfl,rfl,?_⟩;refine setG ?_;dsimp only;refine⟨j+1,by omega,rfl,s5.trans s6,c,fun r hr=>?_⟩;rw[aw',ac' c] at hr;rcases au'.mp hr with hr|hr
       ·exact past r hr
       ·obtain rfl:r=rs[j]:=by simpa using hr
        exact c2
      ·have c2:rs[j].any (hit t)=false:=by
        rw[<- eany];simpa using c2
       have e:a9' rs t=j:=by
        unfold a9';rw[List.findIdx_eq c];refine⟨by rw[c2];rfl,fun j' hj=>?_⟩;have:=past (rs[j']'(by omega)) (List.mem_iff_getElem?.mpr ⟨j',by rw[List.getElem?_take_of_lt hj,ac' (by omega)]⟩);rw[this];rfl
       exact hN1 _ _ ⟨by rw[e],s5.trans s6⟩
     ·obtain⟨u,hu',b,rfl,hb⟩:=am_ tz hy;have hb':H' b=some (.tup [.str u.1,.str u.2]):=sm _ _ hb
      have lo:out.length<sizeLine:=by
       rw[eo,aa',aa',ak'];omega
      refine⟨_,rfl,rfl,fun Nx hN=>yesT ?_⟩;have nx:Nx (upd H' D (.lst (out++[.bl (hit t u)]))):=hN _ _ ⟨ao_ sm hD,a1_,by rw[aW_ _ hu',an',eo];rfl⟩;refine⟨_,rfl,_,rfl,b,_,rfl,.inr (.of hb'),rfl,rfl,_,rfl,?_⟩;refine ite2 (fun c=>?_) (fun c=>?_)
      ·have c:(decide (u.1=t.1) || decide (u.2=t.1))=true:=by rw[<- cS_];exact c
       refine⟨out,hD',lo,?_⟩;rwa [show hit t u=true by unfold hit;rw[c];rfl] at nx
      ·have c:(decide (u.1=t.1) || decide (u.2=t.1))=false:=by
        rw[<- cS_];simpa using c
       refine⟨_,rfl,_,rfl,b,_,rfl,.inr (.of hb'),rfl,rfl,out,hD',lo,?_⟩;rw[show hit t u=inV (.str t.2) [.str u.1,.str u.2] by unfold hit;rw[c,cS_];rfl] at nx;exact nx
    ·have c:j=rs.length:=by
      have:¬j<rs.length:=by simpa using c
      omega
     have e:a9' rs t=j:=by
      unfold a9';rw[c,List.findIdx_eq_length];intro r hr;rw[c,am'] at past;rw[past r hr];rfl
     exact hN1 _ _ ⟨by rw[e],s5⟩
   rintro σ H5 ⟨rfl,s5⟩;have R5:=R.same s5;have b5:But lr H3 H5:=b4.trans (But.of s5);have rle:=eR_ rs t
   have fin:∀(H6:Hp) (as':List Addr),But lr H3 H6->(∀a∈as',H3 a=none/\a≠lr)->as'.Nodup->bq' K H6 lr as' (bc' rs t)->∃(v2 v3 v4:Option V) (as:List Addr),[some (V.ref wa),some (V.ref lr),some (V.str t.1),some (V.str t.2),some (V.int (a9' rs t))]=[some (V.ref wa),some (V.ref lr),v2,v3,v4]/\But lr H3 H6/\(∀a∈as,H3 a=none/\a≠lr)/\as.Nodup/\bq' K H6 lr as (turnsOf ((tsOf ts).take (i+1)))/\(turnsOf ((tsOf ts).take (i+1))).length<=i+1/\∀r∈turnsOf ((tsOf ts).take (i+1)),r.length<=i+1:=fun H6 as' b f n r=>by
    rw[est];exact⟨_,_,_,as',rfl,b,f,n,r,by have:=bA_ rs t;omega,bC_ l2⟩
   refine⟨_,rfl,_,rfl,lr,_,rfl,.inl (.of R5.1),rfl,_,rfl,?_⟩;refine ite2 (fun c=>?_) (fun c=>?_)
   ·have c:a9' rs t=rs.length:=by
     have:V.int (a9' rs t)=V.int ((as.map V.ref).length:Nat):=by simpa using c
     rw[aa',la] at this;have:=V.int.inj this;omega
    refine⟨_,rfl,.inl ⟨rfl,_,.of R5.1⟩,by show 0<=sizeLine;decide,fun ln hln=>?_⟩;obtain⟨s56,e6⟩:=nw__ (o:=.lst []) hln;generalize upd H5 ln (.lst [])=H6 at s56 e6 ⊢;have nlr:ln≠lr:=(a6_ R5.1 hln).symm;refine⟨lr,_,_,rfl,rfl,s56 _ _ R5.1,by rw[aa'];omega,?_⟩
    have fln:H3 ln=none:=by
     cases z:H3 ln with
     |none=>rfl
     |some o=>
      have:=b5 _ _ z nlr;rw[hln] at this;cases this
    have nin:ln∉as:=fun m=>by
     obtain⟨j,hj,e⟩:=aD' m;obtain⟨zz,e2,_⟩:=paired_get R5.2 j hj (by omega);rw[e,hln] at e2;cases e2
    have atl:atI (as.map V.ref++[V.ref ln]) (a9' rs t:Int)=some (.ref ln):=L2.bg' (by rw[c,aI' (by rw[aa'];omega),aa',la,Nat.sub_self];rfl);have e7:upd H6 lr (.lst (as.map V.ref++[.ref ln])) lr=some (.lst (as.map V.ref++[.ref ln])):=a1_;have n7:upd H6 lr (.lst (as.map V.ref++[.ref ln])) ln=some (.lst []):=(a4_ nlr).trans e6;have k7:∀{b o},H5 b=some o->b≠lr->upd H6 lr (.lst (as.map V.ref++[.ref ln])) b=some o:=fun e ne=>(a4_ ne).trans (s56 _ _ e);generalize upd H6 lr (.lst (as.map V.ref++[.ref ln]))=H7 at e7 n7 k7 ⊢;dsimp only;refine⟨_,rfl,_,rfl,lr,_,_,_,rfl,rfl,.of e7,atl,.inl ⟨rfl,_,.of n7⟩,_,rfl,_,rfl,by show 2<=sizeLine;decide,fun u nu=>?_⟩;obtain⟨s78,e8⟩:=nw__ (o:=.tup [.str t.1,.str t.2]) nu;generalize upd H7 u (.tup [.str t.1,.str t.2])=H8 at s78 e8 ⊢;have n8:=s78 _ _ n7;refine⟨ln,_,_,rfl,rfl,n8,by show 0<sizeLine;decide,?_⟩;have uln:u≠ln:=fun z=>by rw[z,n7] at nu;cases nu
    have k9:∀b o,H5 b=some o->b≠lr->upd H8 ln (.lst ([]++[.ref u])) b=some o:=fun b o e ne=>(a4_ (a6_ e hln)).trans (s78 _ _ (k7 e ne));refine fin _ (as++[ln]) (fun b o e ne=>k9 b o (b5 _ _ e ne) ne) (fun x hx=>?_) ?_ ?_
    ·rcases au'.mp hx with m|m
     ·exact fa x m
     ·obtain rfl:x=ln:=by simpa using m
      exact⟨fln,nlr⟩
    ·rw[List.nodup_append]
     exact⟨nd,by simp,fun x hx z hz=>by
      obtain rfl:z=ln:=by simpa using hz
      exact fun q=>nin (q▸hx)⟩
    ·have ep:bc' rs t=rs++[[t]]:=by
      unfold bc';rw[dif_neg (by omega)]
     rw[ep];exact hh_ R5 (fun b hb=>(fa b hb).2) ((a4_ nlr.symm).trans (s78 _ _ e7)) a1_ ((a4_ uln).trans e8) k9
   ·have c:a9' rs t<rs.length:=by
     have:¬a9' rs t=rs.length:=fun e=>c (by
      rw[aa',la,e];simp)
     omega
    have hpa:a9' rs t<as.length:=by omega
    have nl:as[a9' rs t]≠lr:=(fa _ (az' hpa)).2;obtain⟨zz,ez,tzz⟩:=paired_get R5.2 (a9' rs t) hpa c;have lzz:=Paired.length tzz;rw[aa'] at lzz;have lrow:=l2 _ (az' c);have atl:atI (as.map V.ref) (a9' rs t:Int)=some (.ref as[a9' rs t]):=L2.bg' (by rw[al',ac' hpa];rfl);refine⟨_,rfl,_,rfl,lr,_,_,_,rfl,rfl,.of R5.1,atl,.inl ⟨rfl,_,.of ez⟩,_,rfl,_,rfl,by show 2<=sizeLine;decide,fun u nu=>?_⟩;obtain⟨s56,e6⟩:=nw__ (o:=.tup [.str t.1,.str t.2]) nu;generalize upd H5 u (.tup [.str t.1,.str t.2])=H6 at s56 e6 ⊢;have ez6:=s56 _ _ ez;refine⟨_,_,_,rfl,rfl,ez6,by omega,?_⟩;have k7:∀{b o},H5 b=some o->b≠as[a9' rs t]->upd H6 as[a9' rs t] (.lst (zz++[.ref u])) b=some o:=fun e ne=>(a4_ ne).trans (s56 _ _ e);have h7:upd H6 as[a9' rs t] (.lst (zz++[.ref u])) as[a9' rs t]=some (.lst (zz++[.ref u])):=a1_;have u7:upd H6 as[a9' rs t] (.lst (zz++[.ref u])) u=some (.tup [.str t.1,.str t.2]):=(a4_ (ax_ e6 ez6 nofun)).trans e6;generalize upd H6 as[a9' rs t] (.lst (zz++[.ref u]))=H7 at k7 h7 u7 ⊢;have kt:∀b xs,H5 b=some (.tup xs)->H7 b=some (.tup xs):=fun b xs e=>k7 e (ax_ e ez nofun);refine fin _ as (fun b o e ne=>k7 (b5 _ _ e ne) (a6_ e (fa _ (az' hpa)).1)) fa nd ?_
    have ep:bc' rs t=rs.set (a9' rs t) (rs[a9' rs t]++[t]):=by
     unfold bc';rw[dif_pos c]
    rw[ep];refine R5.add nd c (ac' hpa) (k7 R5.1 nl.symm) h7 ?_ (fun b o e _ ne=>k7 e ne) (fun b hb=>(fa b hb).2) kt;rw[an'];exact ba_ (Paired.mapP tzz fun y q ⟨c,z,e⟩=>⟨c,z,kt _ _ e⟩) u7
  ·rintro σ H4 ⟨v2,v3,v4,as,rfl,b4,fa,nd,R,_,_⟩;rw[lz,am'] at R;have s4:Same H H4:=fun b o e=>b4 _ _ (s3 _ _ e) (a6_ e nr);exact⟨_,rfl,k lr as H4 s4 nr (fun a ha=>s3.free (fa a ha).1) R⟩
end
end Ev
namespace Ev
open PySem L2
theorem iU_{K:F__}{H:Hp}{lr le:Addr}{as:List Addr}{ts:Xb}{m:Int}(R:bq' K H lr as (turnsOf (tsOf ts)))(he:H le=some (.lst [])):∃ar zs,atI (as.map V.ref++[V.ref le]) (m % (if ((as.map V.ref).length:Int) > 1 then ((as.map V.ref).length:Int) else 1))=some (.ref ar)/\H ar=some (.lst zs)/\a5' K H zs ((a8' ts m).map kT)/\(ar∈as∨ar=le):=by
 have la:=Paired.length R.2;rw[aa'];by_cases c:as.length=0
 ·have z:turnsOf (tsOf ts)=[]:=List.length_eq_zero_iff.mp (by omega);have z2:as=[]:=List.length_eq_zero_iff.mp c;subst z2;rw[if_neg (by simp),Int.emod_one];refine⟨le,[],rfl,he,?_,.inr rfl⟩;unfold a8';rw[z];exact .nil
 ·have e:(if ((as.length:Nat):Int) > 1 then ((as.length:Nat):Int) else 1)=((turnsOf (tsOf ts)).length:Int):=by
   by_cases d:((as.length:Nat):Int) > 1
   ·rw[if_pos d,la]
   ·rw[if_neg d];omega
  rw[e];have h0:=aX' m (show (((turnsOf (tsOf ts)).length:Nat):Int)≠0 by omega);have h1:=aU' m (show 0<(((turnsOf (tsOf ts)).length:Nat):Int) by omega);have lt:(m % ((turnsOf (tsOf ts)).length:Int)).toNat<as.length:=by omega
  have lt':(m % ((turnsOf (tsOf ts)).length:Int)).toNat<(turnsOf (tsOf ts)).length:=by omega
  obtain⟨zs,hz,tz⟩:=paired_get R.2 _ lt lt'
  have er:a8' ts m=(turnsOf (tsOf ts))[(m % ((turnsOf (tsOf ts)).length:Int)).toNat]:=by
   unfold a8';rw[ac' lt'];rfl
  refine⟨_,zs,?_,hz,by rw[er];exact tz,.inl (az' lt)⟩;rw[bg' h0 (by rw[ap',aa'];show _<((as.length+1:Nat):Int);omega),aM' (by rw[aa'];exact lt),al',ac' lt];rfl
section
variable{P:Program}{w:World}{K:F__}{mg:Str->Option Value}{base:Heap}
abbrev byN:List Str:=["_law_world_here","_law_stand","_law_moment","_law_guard","_law_rows_here","_law_found","_law_one","_law_other","_law_pair","_law_piece"]
theorem bz':a4' byN ["_law_world_here","_law_stand","_law_moment","_law_guard"] (a3' cM'):=f__
def c6'(K:F__):Sp:=fun vs H Q _=>∃(wa sd:Addr) (m:Int) (gd:Str) (hs:Xa) (ts:Xb) (ps qs:List Pc) (f:Str->Str),vs=[.ref wa,.ref sd,.int m,.str gd]/\bO' K H wa hs ts ps/\Pw hs ts ps f/\Qs ps qs/\H sd=some (.dK (stF (ps.map (·.1)) f))/\gd∈(["high","fall","calm"]:List Str) /\
 ∀l ys H',Same H H'->H l=none->H' l=some (.lst ys)->a5' K H' ys ((bx' hs ts qs f gd m).map kM)->Q (.ref l) H'
theorem jq_{hs:Xa}{ts:Xb}{ps qs:List Pc}{f:Str->Str}(W:Pw hs ts ps f)(Q:Qs ps qs){gd a b:Str}(ha:a∈hs.map (·.1))(hb:b∈hs.map (·.1)):hmv hs ts qs f gd [] a b=match bestL hs ts ps f gd [] a b with
  |some n=>[(n,a,b)]
  |none=>[]:=by
 rw[jr_ W Q ha hb];rfl
set_option maxHeartbeats 1600000 in
theorem fG_{f0:Addr}{fd:FuncData}(F:Fun K "_law_by_turn" "_law_by_turn" cM' f0 fd)(B:Bi mg)(cR:Cal P w K mg base 1 "_law_rows" ["_law_world_here"] (cE' K))(cB:Cal P w K mg base 2 "_law_best" ["_law_world_here","_law_stand","_law_pair","_law_guard","_law_given"] (spBest K)):FnOk P w K mg base CX0 3 f0 fd ["_law_world_here","_law_stand","_law_moment","_law_guard"] (c6' K):=by
 refine F.ok bz' (fun vs H Q E h=>?_) (fun cdv A outer s H vs Q E hr h=>?_)
 ·obtain⟨wa,sd,m,gd,hs,ts,ps,qs,f,rfl,_⟩:=h;rfl
 ·obtain⟨wa,sd,m,gd,hs,ts,ps,qs,f,rfl,WA,Pp,Qq,hsd,hgd,k⟩:=h;have sz:=sizeLine_eq;have hr1:Room 1 _:=hr.mono (by decide);refine' ⟨_,a2_ ?s1 (a2_ ?s2 (a2_ ?s3 (a5_ ?s4))),?kk⟩
  case s1=>exact aa_ (i:=4) bz'.nd rfl (Or.inl rfl) (af_ cR hr1 (a0_ (pv 0) a3_))
  case s2=>exact aa_ (i:=5) bz'.nd rfl (Or.inl rfl) (ar_ a3_)
  case' s3=>refine' aK_ PassesOwn.never rfl (ak_ (az_ aH_ ?x1 ?x2 (fun _ _=>rfl))) (b8_ rfl (ad_ (a8_ (i:=6) bz'.nd rfl (Or.inl rfl)) (ad_ (a8_ (i:=7) bz'.nd rfl (Or.inl rfl)) aO_))) (a5_ ?b0)
  case x1=>exact aj_ dX_ (pv 4) (ar_ (a0_ (ar_ a3_) a3_))
  case x2=>exact aj_ bw_ (pv 2) (ac_ (gz_ rfl) (by rfl) B.max PyProof.Rows.Boot.«max» (a0_ a7_ (a0_ (ac_ ai_ (by rfl) B.len PySem.boot_len (a0_ (pv 4) a3_)) a3_)))
  case' b0=>refine' aK_ PassesOwn.never rfl (ak_ (ar_ (a0_ (aL_ (a0_ (pv 6) (a0_ (pv 7) a3_))) (a0_ (aL_ (a0_ (pv 7) (a0_ (pv 6) a3_))) a3_)))) (a8_ (i:=8) bz'.nd rfl (Or.inl rfl)) (a2_ ?b1 (a5_ ?b2))
  case b1=>exact aa_ (i:=9) bz'.nd rfl (Or.inl rfl) (af_ cB hr (a0_ (pv 0) (a0_ (pv 1) (a0_ (pv 8) (a0_ (pv 3) (a0_ (ar_ a3_) a3_))))))
  case b2=>exact aB_ (an_ iW_ (pv 9) d3_ (nomark _)) (a5_ (b4_ (bK_ PySem.F.plainAttrs_list PySem.F.slot_list_append PySem.F.type_list_append aT_ (pv 5) (a0_ (aL_ (a0_ (pv 9) (a0_ (az_ aM_ (pv 8) a7_ (fun _ _=>rfl)) (a0_ (az_ aM_ (pv 8) a7_ (fun _ _=>rfl)) a3_)))) a3_)))) ae_
  case s4=>exact ab_ (pv 5)
  case' kk=>skip
  refine⟨_,rfl,wa,hs,ts,ps,rfl,WA,Pp.Gd,fun lr as H1 s1 nlr _ R=>?_⟩;refine setG ?_;dsimp only;refine⟨by show 0<=sizeLine;decide,fun lf nf=>?_⟩;refine setG ?_;dsimp only;obtain⟨s12,e2⟩:=nw__ (o:=.lst []) nf;generalize upd H1 lf (.lst [])=H2 at s12 e2 ⊢;have s2:=s1.trans s12;have nf0:H lf=none:=s1.free nf;refine⟨_,rfl,by show 0<=sizeLine;decide,fun le ne=>?_⟩;obtain⟨s23,e3⟩:=nw__ (o:=.lst []) ne;generalize upd H2 le (.lst [])=H3 at s23 e3 ⊢;refine⟨by show 1<=sizeLine;decide,fun lo no=>?_⟩;obtain⟨s34,e4⟩:=nw__ (o:=.lst [.ref le]) no;generalize upd H3 lo (.lst [.ref le])=H4 at s34 e4 ⊢;have R4:=((R.same s12).same s23).same s34;have la:=Paired.length R4.2;have tl:=cM_ (tsOf ts) [];rw[bo_] at tl;have t64:=Pp.Gd.t64
  have lr64:(turnsOf (tsOf ts)).length<64:=by
   show ((tsOf ts).foldl bc' []).length<64;rw[a1'] at tl;omega
  refine⟨lr,lo,_,_,rfl,rfl,R4.1,e4,by rw[aa'];show as.length+1<=_;omega,fun lc nc=>?_⟩;obtain⟨s45,e5⟩:=nw__ (o:=.lst (as.map V.ref++[.ref le])) nc;generalize upd H4 lc (.lst (as.map V.ref++[.ref le]))=H5 at s45 e5 ⊢;have s25:=(s23.trans s34).trans s45;have R5:=R4.same s45;have s5:=s2.trans s25;have f5:=s25 _ _ e2;obtain⟨ar,zs,at5,hz,tz,hor⟩:=iU_ (m:=m) R5 ((s34.trans s45) _ _ e3)
  have arf:lf≠ar:=by
   rcases hor with h|h
   ·obtain⟨j,hj,e⟩:=aD' h;obtain⟨zz,e2',_⟩:=paired_get R.2 j hj (by omega);rw[e] at e2';exact (a6_ e2' nf).symm
   ·rw[h];exact a6_ e2 ne
  have mp:0<(if ((as.map V.ref).length:Int) > 1 then ((as.map V.ref).length:Int) else 1):=by split<;>omega
  refine⟨_,rfl,_,rfl,lr,_,rfl,.inl (.of R5.1),_,_,rfl,_,_,rfl,rfl,mp,lc,_,_,_,rfl,rfl,.of e5,at5,ar,rfl,⟨_,.of hz⟩,?_⟩;have lz:=Paired.length tz;rw[aa'] at lz;have r64:=bI_ Pp.Gd m;have rin:∀u∈a8' ts m,u.1∈hs.map (·.1)/\u.2∈hs.map (·.1):=fun u hu=>⟨(au_ hs).mem_iff.mp (ct_ Pp.Gd (bb_ hu)).1,(au_ hs).mem_iff.mp (ct_ Pp.Gd (bb_ hu)).2⟩;clear e5 at5 R R4 R5 e3 e4 s12 s23 s34 s45 s25 hor e2;refine as_ (K:=K) (a:=ar) (xs:=zs) (fun i σ H'=>∃(v6 v7 v8 v9:Option V) (ys:List V),σ=[some (.ref wa),some (.ref sd),some (.int m),some (.str gd),some (.ref lr),some (.ref lf),v6,v7,v8,v9]/\Same H H'/\But lf H5 H'/\H' lf=some (.lst ys)/\a5' K H' ys ((((a8' ts m).take i).flatMap (bm' hs ts qs f gd)).map kM)) ⟨none,none,none,none,[],rfl,s5,But.refl _ _,f5,.nil⟩ (fun i σ H' _ ⟨_,_,_,_,_,_,_,b,_⟩=>.of (b _ _ hz arf.symm)) ?_ ?_
  ·rintro i x σ H6 hx ⟨v6,v7,v8,v9,ys,rfl,s6,b6,f6,t6⟩;obtain⟨u,hu,a,rfl,ha⟩:=am_ tz hx;have hi:i<(a8' ts m).length:=(ab'.mp hu).1;obtain⟨n1,n2⟩:=rin u (ae' hu);have ha6:H6 a=some (.tup [.str u.1,.str u.2]):=b6 _ _ ha (ax_ ha f5 nofun);refine⟨a,_,rfl,.of ha6,rfl,_,_,rfl,_,_,rfl,rfl,?_⟩;dsimp only;have ly:=Paired.length t6;rw[aa'] at ly;have bl:=cp_ (cd_ hs ts qs f gd) ((a8' ts m).take i);rw[ak'] at bl;refine⟨_,rfl,_,rfl,by show 2<=sizeLine;decide,fun t1 m1=>?_⟩;obtain⟨s67,e7⟩:=nw__ (o:=.tup [.str u.1,.str u.2]) m1;generalize upd H6 t1 (.tup [.str u.1,.str u.2])=H7 at s67 e7 ⊢;refine⟨_,rfl,_,rfl,by show 2<=sizeLine;decide,fun t2 m2=>?_⟩;obtain⟨s78,e8⟩:=nw__ (o:=.tup [.str u.2,.str u.1]) m2;generalize upd H7 t2 (.tup [.str u.2,.str u.1])=H8 at s78 e8 ⊢;refine⟨by show 2<=sizeLine;decide,fun lp np=>?_⟩;obtain⟨s89,e9⟩:=nw__ (o:=.lst [.ref t1,.ref t2]) np;generalize upd H8 lp (.lst [.ref t1,.ref t2])=H9 at s89 e9 ⊢;have s69:=(s67.trans s78).trans s89;have s9:=s6.trans s69;have f9:=s69 _ _ f6;have t9:=t6.same s69;have a9:=(s78.trans s89) _ _ e7;have c9:=s89 _ _ e8;have lpf:lp≠lf:=fun z=>by rw[z,(s67.trans s78) _ _ f6] at np;cases np
   have b9:But lf H5 H9:=fun b o e n=>s69 _ _ (b6 _ _ e n);clear s67 s78 s89 s69 e7 e8 f6 t6;refine⟨lp,rfl,⟨_,.of e9⟩,as_ (K:=K) (a:=lp) (xs:=[.ref t1,.ref t2]) (fun j σ H'=>∃(v8 v9:Option V) (ys:List V),σ=[some (.ref wa),some (.ref sd),some (.int m),some (.str gd),some (.ref lr),some (.ref lf),some (.str u.1),some (.str u.2),v8,v9]/\Same H H'/\But lf H9 H'/\H' lf=some (.lst ys)/\a5' K H' ys ((((a8' ts m).take i).flatMap (bm' hs ts qs f gd)++(([(u.1,u.2),(u.2,u.1)]:Xb).take j).flatMap fun p=>hmv hs ts qs f gd [] p.1 p.2).map kM)/\ys.length<=128+j) ⟨_,_,ys,rfl,s9,But.refl _ _,f9,by simpa using t9,by omega⟩ (fun j σ H' _ ⟨_,_,_,_,_,b,_⟩=>.of (b _ _ e9 lpf)) ?_ ?_⟩
   ·rintro j x σ HA hx ⟨v8,v9,ys,rfl,sA,bA,fA,tA,lA⟩
    obtain⟨p,tp,rfl,hp,htp,pj⟩:∃(p:Str × Str) (tp:Addr),x=.ref tp/\(p.1∈hs.map (·.1)/\p.2∈hs.map (·.1))/\H9 tp=some (.tup [.str p.1,.str p.2])/\([(u.1,u.2),(u.2,u.1)]:Xb)[j]? = some p:=by
     match j,hx with
     |0,hx=>exact⟨(u.1,u.2),t1,(Option.some.inj hx).symm,⟨n1,n2⟩,a9,rfl⟩
     |1,hx=>exact⟨(u.2,u.1),t2,(Option.some.inj hx).symm,⟨n2,n1⟩,c9,rfl⟩
     |_+2,hx=>cases hx
    have hj2:j<2:=(ab'.mp pj).1;have htA:=bA _ _ htp (ax_ htp f9 nofun)
    have st:(([(u.1,u.2),(u.2,u.1)]:Xb).take (j+1)).flatMap (fun p=>hmv hs ts qs f gd [] p.1 p.2)=(([(u.1,u.2),(u.2,u.1)]:Xb).take j).flatMap (fun p=>hmv hs ts qs f gd [] p.1 p.2)++hmv hs ts qs f gd [] p.1 p.2:=by
     rw[aw',pj,Option.toList_some,List.flatMap_append,List.flatMap_cons,List.flatMap_nil,aJ']
    rw[st,<- List.append_assoc];have bm:=jq_ Pp Qq (gd:=gd) hp.1 hp.2;refine setG ?_;dsimp only;refine⟨_,rfl,_,rfl,_,rfl,_,rfl,by show 0<=sizeLine;decide,fun lg ng=>?_⟩;obtain⟨sAB,eB⟩:=nw__ (o:=.lst []) ng;generalize upd HA lg (.lst [])=HB at sAB eB ⊢;have sB:=sA.trans sAB;refine⟨wa,sd,tp,lg,p.1,p.2,gd,[],hs,ts,ps,f,rfl,WA.nt (NT.of sB),Pp,sB _ _ hsd,sAB _ _ htA,hp.1,hp.2,hgd,eB,fun HC sBC=>?_⟩;refine setG ?_;dsimp only;have sAC:=sAB.trans sBC;have fC:=sAC _ _ fA;have tC:=tA.same sAC;have bC:But lf H9 HC:=fun b o e n=>sAC _ _ (bA _ _ e n);refine⟨_,rfl,rfl,_,rfl,?_⟩;cases eb:bestL hs ts ps f gd [] p.1 p.2 with
    |none=>
     rw[eb] at bm;dsimp only at bm;refine ite2 (fun c=>by simp[optV] at c) (fun c=>?_);rw[bm,aJ'];exact⟨_,_,ys,rfl,sA.trans sAC,bC,fC,tC,by omega⟩
    |some n=>
     rw[eb] at bm;dsimp only at bm;refine ite2 (fun c=>?_) (fun c=>by simp[optV] at c);rw[bm,show optV (some n)=V.str n from rfl];have htC:HC tp=some (.tup [.str p.1,.str p.2]):=sAC _ _ htA;refine⟨_,rfl,.inl ⟨rfl,_,.of fC⟩,_,rfl,_,rfl,tp,_,0,.str p.1,rfl,rfl,.of htC,L2.bg' (j:=0) rfl,_,rfl,tp,_,1,.str p.2,rfl,rfl,.of htC,L2.bg' (j:=1) rfl,by show 3<=sizeLine;decide,fun t nt=>?_⟩;obtain⟨sCD,eD⟩:=nw__ (o:=.tup [.str n,.str p.1,.str p.2]) nt;generalize upd HC t (.tup [.str n,.str p.1,.str p.2])=HD at sCD eD ⊢;have fD:=sCD _ _ fC;refine⟨lf,_,_,rfl,rfl,fD,by omega,?_⟩;refine⟨_,_,ys++[.ref t],rfl,ao_ (sA.trans (sAC.trans sCD)) nf0,fun b o e n=>(a4_ n).trans (sCD _ _ (bC _ _ e n)),a1_,?_,by rw[ap'];show ys.length+1<=_;omega⟩;rw[an'];exact b7_ (ba_ (tC.same sCD) eD) fD
   ·rintro σ HA ⟨v8,v9,ys,rfl,sA,bA,fA,tA,lA⟩;refine⟨_,_,_,_,ys,rfl,sA,fun b o e n=>bA _ _ (b9 _ _ e n) n,fA,?_⟩
    have e:((a8' ts m).take (i+1)).flatMap (bm' hs ts qs f gd)=((a8' ts m).take i).flatMap (bm' hs ts qs f gd)++(([(u.1,u.2),(u.2,u.1)]:Xb).take 2).flatMap fun p=>hmv hs ts qs f gd [] p.1 p.2:=by
     rw[aw',hu,Option.toList_some,List.flatMap_append];simp[bm']
    rw[e];exact tA
  ·rintro σ H6 ⟨v6,v7,v8,v9,ys,rfl,s6,b6,f6,t6⟩;rw[lz,am'] at t6;exact⟨_,rfl,k lf ys H6 s6 nf0 f6 t6⟩
end
end Ev
namespace EvD
open PySem PySem.Spec PySem.Calls PyProof.Rows PySem.W
section
variable{prog:Program}{w:World}{A:Around}
theorem d8_{K:Type}[DecidableEq K]{knd:PySem.KeyKind prog w K}{h h':Heap}{a:Addr}{S:K->Bool}{n:Nat}(x:Heap.SetOf knd h a S n)(k:∀o,h.get? a=some o->h'.get? a=some o):Heap.SetOf knd h' a S n:=by
 obtain⟨o,es,ep,t,ho,r⟩:=x;exact⟨o,es,ep,t,k _ ho,r⟩
theorem kj_{K:Type}[DecidableEq K]{knd:PySem.KeyKind prog w K}{it l S:Addr}(hil:l≠it)(hdi:S≠it)(hdl:S≠l)(hh:A.handled=none){its:List Value}{ss:List K}(nd:ss.Nodup)(hss:Paired (fun v x=>knd.is x v=true/\v.scannable=true) its ss)(hz:ss.length<=1000)(rest:List Value):∀(i:Nat) (s:Shared) (R:Result->Shared->Prop),its.drop i=rest->i<=its.length->
  s.heap.IsListIter it l i->s.heap.IsList l its.toArray->Heap.SetOf knd s.heap S (fun k=>decide (k∈ss.take i)) i->
  (∀h' tk',Heap.SetOf knd h' S (fun k=>decide (k∈ss)) ss.length->(∀b o,b≠S->b≠it->s.heap.get? b=some o->h'.get? b=some o)->R (.ok (.ret .none)) { s with heap:=h',toks:=tk' })->
  codeAny (model prog w) A (.builtin "set.update.loop" ⟨[.ref S,.ref it],[]⟩) R s:=by
 have len:=Paired.length hss
 induction rest with
 |nil=>
  intro i s R e il hit hl hd hR
  have hlen:i=its.length:=by
   have:=congrArg List.length e;simp only[List.length_drop,a1'] at this;omega
  have hi:its.toArray[i]? = none:=by
   simp;omega
  refine codeAny_builtin PyProof.Rows.F.entry_set_update_loop ?_;rw[Around.under_plainId PyProof.Rows.F.plain_set_update_loop _];unfold Builtin.«set.update.loop»;refine wpAny_bind (wpAny_pyNext_list_end hh hit hl hi fun h' he=>?_);refine wpAny_pure (hR h' s.toks ?_ fun b o _ hb q=>he b o hb q);rw[hlen,len,am'] at hd;exact d8_ hd fun o q=>he _ _ hdi q
 |cons v rest ih=>
  intro i s R e il hit hl hd hR
  have q0:its[i]? = some v:=by
   have q:(its.drop i)[0]? = some v:=by rw[e];rfl
   rw[List.getElem?_drop] at q;simpa using q
  have hi:its.toArray[i]? = some v:=by simpa using q0
  have e':its.drop (i+1)=rest:=by
   rw[<- List.drop_drop,e];rfl
  obtain⟨lt,ev⟩:=ab'.mp q0;have lt':i<ss.length:=by omega
  obtain⟨hk,hsc⟩:=L2.paired_get hss i lt lt';rw[ev] at hk hsc;have hx:ss[i]? = some ss[i]:=ac' lt';generalize ss[i]=x at hk hx
  have nx:¬x∈ss.take i:=fun m=>by
   obtain⟨j,hj,ej⟩:=aD' m;rw[ak'] at hj;rw[List.getElem_take] at ej;have:=(List.getElem_inj nd).mp (ej.trans (ab'.mp hx).2.symm);omega
  refine codeAny_builtin PyProof.Rows.F.entry_set_update_loop ?_;rw[Around.under_plainId PyProof.Rows.F.plain_set_update_loop _];unfold Builtin.«set.update.loop»;refine wpAny_bind (wpAny_pyNext_list_item hit hl hi fun h1 hit1 hs1=>?_);refine wpAny_bind (wpAny_holding ?_);unfold setAdd;refine wpAny_holding (wpAny_bind (knd.pyHash hk (wpAny_setAddHashed_of hk hsc (d8_ hd fun o q=>hs1.extBut _ _ hdi q) (Nat.lt_of_le_of_lt (show i+1<=2000 by omega) (by decide)) fun h2 sb hs2=>?_)));rw[decide_eq_false nx] at hs2
  have hs3:Heap.SetOf knd h2 S (fun k=>decide (k∈ss.take (i+1))) (i+1):=by
   have:(fun k=>decide (k∈ss.take (i+1)))=fun k=>decide (k∈ss.take i) || decide (k=x):=funext fun k=>by
    rw[aw',hx];simp[Bool.decide_or]
   rw[this];exact hs2
  refine wpAny_pure ⟨plainId_quiet PyProof.Rows.F.plain_set_update_loop _,?_⟩;exact ih (i+1) _ R e' (by omega) (hit1.extBut sb.extBut (Ne.symm hdi)) (hl.at fun o q=>sb.extBut _ _ (Ne.symm hdl) (hs1.extBut _ _ hil q)) hs3 fun h' tk' a b=>hR h' tk' a fun c o n1 n2 q=>b c o n1 n2 (sb.extBut _ _ n1 (hs1.extBut _ _ n2 q))
theorem fT_{K:Type}[DecidableEq K]{knd:PySem.KeyKind prog w K}(h:Heap)(led:Bool):Heap.SetOf knd (h.push { cls:=.type "set",data:=.set #[] 0 (SetTable.fresh 0 0 led) }) h.objs.size (fun _=>false) 0:=
 ⟨_,#[],0,_,Heap.get?_push_size _ rfl,⟨rfl,rfl,rfl⟩,rfl,fun e he=>by simp at he,fun k=>by simp,by decide,by cases led<;>decide,rfl⟩
theorem call_set_of{K:Type}[DecidableEq K]{knd:PySem.KeyKind prog w K}{E:Value->Shared->Prop}{s:Shared}{l:Addr}{its:List Value}{n:Nat}{ss:List K}{Q:Value->Shared->Prop}(hh:A.handled=none)(ho:s.heap.get? l=some (seqObj "list" its.toArray n))(nd:ss.Nodup)(hss:Paired (fun v x=>knd.is x v=true/\v.scannable=true) its ss)(hz:ss.length<=1000)
  (h:∀h' tk',Heap.SetOf knd h' s.heap.objs.size (fun k=>decide (k∈ss)) ss.length->(∀b o,s.heap.get? b=some o->h'.get? b=some o)->Q (.ref s.heap.objs.size) { s with heap:=h',toks:=tk' }) :
  wpAny (model prog w) A (call (.type "set") [.ref l]) Q E s:=by
 refine wpAny_call (codeAny_of_tree ?_);refine wpAny_pure ⟨Code.quiet_builtin _ (by decide +kernel),codeAny_builtin entry_typeCall ?_⟩;unfold Builtin.«type.__call__»;refine wpAny_ite_false rfl ?_;refine wpAny_ite_false F.called_set.canCreate ?_;refine wpAny_bind (wpAny_of_eq (F.typeCall_set_1 _) ?_);obtain⟨c,tl,hmro⟩:=F.called_set.mro;refine wpAny_bind (wpAny_of_eq hmro (wpAny_ite_false rfl ?_));refine wpAny_bind (wpAny_of_eq F.called_set.made (wpAny_bind (wpAny_pure ?_)));refine wpAny_bind (wpAny_holding (wpAny_call (code_set_new_1 _ fun led=>?_)));have hnew:=fT_ (knd:=knd) s.heap led;have hl1:(s.heap.push { cls:=.type "set",data:=.set #[] 0 (SetTable.fresh 0 0 led) }).get? l=some (seqObj "list" its.toArray n):=Heap.get?_push_of_some _ ho;have hs1:(s.heap.push { cls:=.type "set",data:=.set #[] 0 (SetTable.fresh 0 0 led) }).get? s.heap.objs.size=some { cls:=.type "set",data:=.set #[] 0 (SetTable.fresh 0 0 led) }:=Heap.get?_push_size _ rfl;have sz:(s.heap.push { cls:=.type "set",data:=.set #[] 0 (SetTable.fresh 0 0 led) }).objs.size=s.heap.objs.size+1:=Heap.size_push ..;have all:∀b o,s.heap.get? b=some o->(s.heap.push { cls:=.type "set",data:=.set #[] 0 (SetTable.fresh 0 0 led) }).get? b=some o:=fun b o q=>Heap.get?_push_of_some _ q;generalize s.heap.push { cls:=.type "set",data:=.set #[] 0 (SetTable.fresh 0 0 led) }=h1 at *;have hT:∀t,Shared.TypeIs { s with heap:=h1,toks:=t } (.ref s.heap.objs.size) "set":=fun t=>⟨_,hs1,rfl⟩;refine wpAny_bind (wpAny_isInstance (hT _) F.called_set.sub (wpAny_ite_false rfl (wpAny_bind (wpAny_holding ?_))));unfold callSpecial?;refine wpAny_bind (wpAny_specialOf (hT _) F.slot_set_init.lookup ?_);refine wpAny_holding (wpAny_bind (wpAny_of_eq (F.slot_set_init.bind _) ?_));refine wpAny_bind (wpAny_call (codeAny_call_builtin F.slot_set_init.plain F.entry_set_init (check_set_init_1 (hT _) ?_)));unfold Builtin.«set.__init__»;refine wpAny_bind (wpAny_ite_true rfl (wpAny_pure ?_));refine wpAny_bind ?_;unfold typeNameOfCut;refine wpAny_bind ?_;unfold shownTypeOf;refine wpAny_bind (wpAny_typeOf (T:="set") (hT _) ?_);refine wpAny_ite_false rfl (wpAny_pure (wpAny_pure ?_));refine wpAny_bind (wpAny_of_eq (show checkCount _ 0 1 1=pure () from rfl) ?_);refine wpAny_bind (wpAny_pure (wpAny_bind ?_));unfold setUsed setState;refine wpAny_bind (wpAny_bind (wpAny_load hs1 ?_));refine wpAny_ite_false (by cases led<;>rfl) (wpAny_pure (wpAny_pure ?_))
 refine wpAny_ite_false (by cases led<;>rfl) ?_
 refine (show wpAny _ _ (Builtin.Frozenset.updateFrom "set.__init__" s.heap.objs.size (.ref l) >>= fun _=>ret Value.none) _ _ _ from wpAny_bind ?_);unfold Builtin.Frozenset.updateFrom Builtin.Frozenset.isAnySet;have tl:∀t,Shared.TypeIs { s with heap:=h1,toks:=t } (.ref l) "list":=fun t=>⟨_,hl1,rfl⟩;refine wpAny_bind ?_;unfold orM;refine wpAny_bind (wpAny_isInstance (tl _) (b:=false) (by kernel_rfl) ?_);refine (show wpAny _ _ (isInstance (.ref l) (.type "frozenset")) _ _ _ from wpAny_isInstance (tl _) (b:=false) (by kernel_rfl) ?_);refine wpAny_ite_false rfl (wpAny_bind (wpAny_typeOf (T:="list") (tl _) (wpAny_ite_false rfl ?_)));refine wpAny_bind (wpAny_pyIter_list ⟨_,hl1,rfl,_,rfl⟩ ?_);refine wpAny_bind (wpAny_runValue ?_);have lz:l<s.heap.objs.size:=Heap.lt_size ho;refine kj_ (knd:=knd) (its:=its) (ss:=ss) (it:=h1.objs.size) (l:=l) (S:=s.heap.objs.size) (av' (by rw[sz];exact Nat.lt_succ_of_lt lz)) (av' (by rw[sz];exact Nat.lt_succ_self _)) (Nat.ne_of_gt lz) (by exact hh) nd hss hz its 0 { s with heap:=h1.push { cls:=Value.type "list_iterator",data:=Data.fields #[Value.ref l,Value.int 0 0] } } _ rfl (aE' _) ⟨_,Heap.get?_push_size _ rfl,rfl,rfl⟩ ⟨_,Heap.get?_push_of_some _ hl1,rfl,_,rfl⟩ (d8_ (by simpa using hnew) fun o q=>Heap.get?_push_of_some _ q) fun h' tk' hs' kp=>?_;refine wpAny_pure (wpAny_pure (wpAny_pure ?_));refine (show wpAny _ _ (ret (Value.ref s.heap.objs.size)) _ _ _ from wpAny_pure (h h' tk' hs' fun b o q=>?_));have bl:b<s.heap.objs.size:=Heap.lt_size q;exact kp b o (av' bl) (av' (by rw[sz];exact Nat.lt_succ_of_lt bl)) (Heap.get?_push_of_some _ (all b o q))
end
end EvD
namespace L2
open PySem PySem.Spec PySem.Calls PyProof.Rows PySem.W EvD
theorem ew_{prog:Program}{w:World}:∀{ss:List Str} {its:List Value},Vals (ss.map V.str) its->Paired (fun v x=>(PySem.strKind prog w).is x v=true/\v.scannable=true) its ss
 |[],its,h=>by
  rw[List.map_nil] at h;cases h;exact .nil
 |x::ss,its,h=>by
  rw[ar'] at h;cases h with
  |cons a r=>
   obtain⟨t,rfl⟩:=a;exact .cons ⟨by rw[PySem.strKind_is],rfl⟩ (ew_ r)
def tLenSet(te:TE):TE:=fun σ H Q=>te σ H fun x H1=>∃(l:Addr) (ss:List Str),x=.ref l/\H1 l=some (.lst (ss.map V.str))/\ss.Nodup/\ss.length<=1000/\Q (.int ss.length) H1
theorem gE_{X:Cx}{e:Expr}{te:TE}{p1 p2 pos1 pos2:Pos}(gL:Gl X "len")(mL:X.mg "len"=none)(gS:Gl X "set")(mS:X.mg "set"=none)(he:PE X e te)(hc:X.calm=true:=by rfl)
  (h1:starEach [e] X.env=(false,eval e X.env)::starEach [] X.env:=by rfl) (h2:starEach [.Call (.Name "set" p2) [e] [] pos2] X.env=(false,eval (.Call (.Name "set" p2) [e] [] pos2) X.env)::starEach [] X.env:=by rfl)
  (h3:(backTo pos1 (starEach [] X.env)).any (·.1)=false:=by rfl) (h4:(backTo pos2 (starEach [] X.env)).any (·.1)=false:=by rfl):PE X (.Call (.Name "len" p1) [.Call (.Name "set" p2) [e] [] pos2] [] pos1) (tLenSet te):=by
 intro pins s σ H Q I h;refine wpAny_Call_Name_kw (bH_ I gL mL PySem.boot_len ?_ (by decide) (by decide));refine PyProof.Rows.callWith_builtin1 ?_ h2 h3;rw[h2];show wpAny _ _ (spliced ((false,eval (.Call (.Name "set" p2) [e] [] pos2) X.env)::backTo pos1 (starEach [] X.env))) _ _ s;refine Calls.spliced_cons ?_;refine wpAny_Call_Name_kw (bH_ I gS mS PyProof.Rows.Boot.«set» ?_ (by decide) (by decide));refine PyProof.Rows.callWith_type1 ?_ h1 h4;rw[h1];show wpAny _ _ (spliced ((false,eval e X.env)::backTo pos2 (starEach [] X.env))) _ _ s;refine Calls.spliced_cons (thn (he pins s σ H _ I h) fun u s1 ⟨x,H1,I1,r1,l,ss,ex,hl,nd,len,q⟩=>Calls.spliced_nil ?_);subst ex;cases r1;obtain⟨z,its,n,r,hlen,e'⟩:=I1.lstM hl;refine EvD.call_set_of (knd:=PySem.strKind X.prog X.w) (I1.ok.hd hc) e' nd (ew_ r) len fun h' tk' hs kp=>?_;refine Calls.spliced_nil ?_;obtain⟨o,es,ep,t,ho,ex,hd,_,_,_,fit,hn⟩:=hs;refine PySem.call_len_set ho ex hd fit (by omega) ?_;rw[hn];exact⟨.int _,H1,(I1.kept (t':=tk') kp).tok _,⟨_,rfl⟩,q⟩
end L2
namespace L2
open PySem PySem.Spec PySem.Calls PyProof.Rows PySem.W
def rgL(n:Nat):List V:=(List.range n).map fun i=>V.int (i:Nat)
def tListR(te:TE):TE:=fun σ H Q=>te σ H fun x H1=>∃n:Nat,x=.int n/\n<=10000/\∀l,H1 l=none->Q (.ref l) (upd H1 l (.lst (rgL n)))
theorem jf_{acc:Array Value}{n:Nat}(h:ItemsOf (fun i v=>∃t,v=Value.int (0+(i:Int) * 1) t) acc n):Vals (rgL n) acc.toList:=by
 obtain⟨h1,h2⟩:=h
 have key:∀(k:Nat) (l:List Value),(∀j v,l[j]? = some v->∃t,v=Value.int (((k+j:Nat):Int)) t)->Vals ((List.range' k l.length).map fun i=>V.int (i:Nat)) l:=by
  intro k l
  induction l generalizing k with
  |nil=>intro _;exact .nil
  |cons v l ih=>
   intro h;obtain⟨t,rfl⟩:=h 0 v rfl;refine .cons ⟨t,rfl⟩ (ih (k+1) fun j u hu=>?_);obtain⟨t',e⟩:=h (j+1) u (by simpa using hu);exact⟨t',by rw[e];congr 1;omega⟩
 have:=key 0 acc.toList fun j v hv=>by
  obtain⟨t,e⟩:=h2 j v (by simpa using hv);exact⟨t,by rw[e];congr 1;omega⟩
 unfold rgL;rw[List.range_eq_range',<- h1];simpa using this
theorem hr_{X:Cx}{e:Expr}{te:TE}{p1 p2 pos1 pos2:Pos}(gL:Gl X "list")(mL:X.mg "list"=none)(gS:Gl X "range")(mS:X.mg "range"=none)(he:PE X e te)(hc:X.calm=true:=by rfl)
  (h1:starEach [e] X.env=(false,eval e X.env)::starEach [] X.env:=by rfl) (h2:starEach [.Call (.Name "range" p2) [e] [] pos2] X.env=(false,eval (.Call (.Name "range" p2) [e] [] pos2) X.env)::starEach [] X.env:=by rfl)
  (h3:(backTo pos1 (starEach [] X.env)).any (·.1)=false:=by rfl) (h4:(backTo pos2 (starEach [] X.env)).any (·.1)=false:=by rfl):PE X (.Call (.Name "list" p1) [.Call (.Name "range" p2) [e] [] pos2] [] pos1) (tListR te):=by
 intro pins s σ H Q I h;refine wpAny_Call_Name_kw (bH_ I gL mL PyProof.Rows.Boot.«list» ?_ (by decide) (by decide));refine PyProof.Rows.callWith_type1 ?_ h2 h3;rw[h2];show wpAny _ _ (spliced ((false,eval (.Call (.Name "range" p2) [e] [] pos2) X.env)::backTo pos1 (starEach [] X.env))) _ _ s;refine Calls.spliced_cons ?_;refine wpAny_Call_Name_kw (bH_ I gS mS PyProof.Rows.Boot.«range» ?_ (by decide) (by decide));refine PyProof.Rows.callWith_type1 ?_ h1 h4;rw[h1];show wpAny _ _ (spliced ((false,eval e X.env)::backTo pos2 (starEach [] X.env))) _ _ s;refine Calls.spliced_cons (thn (he pins s σ H _ I h) fun u s1 ⟨x,H1,I1,r1,n,ex,hn,q⟩=>Calls.spliced_nil ?_);subst ex;obtain⟨t,rfl⟩:=r1;refine call_range_1 ?_;refine Calls.spliced_nil ?_;have I2:Inv X pins σ H1 { s1 with heap:=s1.heap.push { cls:=.type "range",data:=.fields #[.int 0 s1.toks,.int n t,.int 1 (s1.toks+1)] },toks:=s1.toks+1+1 }:=I1.kept fun b o e=>Heap.get?_push_of_some _ e;refine call_list_range (n:=n) (I1.ok.hd hc) (Heap.get?_push_size _ rfl) (small_one (by decide) (by decide) (by omega) (by omega)) (by rw[rangeSize_one];split<;>omega) (by omega) fun h' tk acc' c' kp hl it=>?_
 have r:=jf_ it
 have hz:(rgL n).length<=sizeLine:=by
  unfold rgL;rw[aa',List.length_range];have:=sizeLine_eq;omega
 exact⟨.ref _,_,I2.laid (t':=tk) kp (af' _) (show bh' X.prog X.w _ h' _ (.lst (rgL n)) from ⟨hz,acc'.toList,c',r,hl⟩),rfl,q _ (I2.hok.fresh (af' _))⟩
end L2
namespace Ev
open PySem L2
theorem k6_{rs:List Xb}{t:Str × Str}(h:∀r∈rs,r.Pairwise fun u v=>hit v u=false):∀r∈bc' rs t,r.Pairwise fun u v=>hit v u=false:=by
 intro r hr;unfold bc' at hr;split at hr
 ·rename_i hlt
  rcases List.mem_or_eq_of_mem_set hr with m|rfl
  ·exact h r m
  ·rw[List.pairwise_append];refine⟨h _ (az' hlt),List.pairwise_singleton ..,fun u hu v hv=>?_⟩;obtain rfl:v=t:=by simpa using hv
   have:=@List.findIdx_getElem _ (fun r:Xb=>!r.any (hit v)) rs hlt;have this:(!(rs[a9' rs v].any (hit v)))=true:=this;have this:rs[a9' rs v].any (hit v)=false:=by simpa using this
   have:=List.any_eq_false.mp this u hu;simpa using this
 ·rcases au'.mp hr with m|m
  ·exact h r m
  ·obtain rfl:r=[t]:=by simpa using m
   exact List.pairwise_singleton ..
theorem eW_:∀(ts:Xb) (rs:List Xb),(∀r∈rs,r.Pairwise fun u v=>hit v u=false)->∀r∈ts.foldl bc' rs,r.Pairwise fun u v=>hit v u=false
 |[],rs,h=>h
 |t::ts,rs,h=>by
  rw[List.foldl_cons];exact eW_ ts _ (k6_ h)
theorem fv_(ts:Xb)(m:Int):(a8' ts m).Pairwise fun u v=>hit v u=false:=by
 unfold a8';cases e:(turnsOf (tsOf ts))[(m % ((turnsOf (tsOf ts)).length:Int)).toNat]? with
 |none=>exact .nil
 |some r=>exact eW_ (tsOf ts) [] (by simp) r (ae' e)
theorem iy_{gd:Str}{a b:Int}(h:fitB gd a b=true)(hb:1<=b):0<a:=by
 unfold fitB at h;split at h
 ·simpa using h
 ·split at h
  ·have:b<2 * a:=by simpa using h
   omega
  ·have:b<=a:=by simpa using h
   omega
section
variable{hs:Xa}{ts:Xb}{qs:List Pc}{f:Str->Str}
theorem eh_(W:Wd hs ts qs f)(hw:∀n∈qs.map (·.1),1<=wtN qs n){gd a b:Str}(ha:a∈a6' hs)(hb:b∈a6' hs){m:Mv}(h:m∈hmv hs ts qs f gd [] a b):m.2=(a,b)/\0<bU' hs qs f a b:=by
 unfold hmv at h;cases e:(hvAt qs f a).find? (hmP hs ts qs f gd [] a b) with
 |none=>rw[e] at h;cases h
 |some n=>
  rw[e] at h;obtain rfl:m=(n,a,b):=by simpa using h
  refine⟨rfl,?_⟩;have p:=List.find?_some e;unfold hmP at p;have p:=(Bool.and_eq_true_iff.mp (Bool.and_eq_true_iff.mp p).2).1;have n1:=hw n (gY_ (List.mem_of_find?_eq_some e)).1;have h1:=str_ok W.Gd ha;have h2:=str_ok W.Gd hb;have j:1<=bF' hs a b:=by unfold bF';omega
  refine iy_ p ?_;have:=Int.mul_le_mul n1 j (by decide) (by omega);omega
theorem i4_(a b:Str):bU' hs qs f b a=-(bU' hs qs f a b):=by
 unfold bU';omega
theorem hX_(W:Wd hs ts qs f)(hw:∀n∈qs.map (·.1),1<=wtN qs n){gd:Str}{u:Str × Str}(h1:u.1∈a6' hs)(h2:u.2∈a6' hs):bm' hs ts qs f gd u=[]∨∃m:Mv,bm' hs ts qs f gd u=[m]/\(m.2=u∨m.2=(u.2,u.1)):=by
 unfold bm';have l1:=c6_ hs ts qs f gd [] u.1 u.2;have l2:=c6_ hs ts qs f gd [] u.2 u.1;cases e1:hmv hs ts qs f gd [] u.1 u.2 with
 |nil=>
  cases e2:hmv hs ts qs f gd [] u.2 u.1 with
  |nil=>exact .inl rfl
  |cons m r=>
   rw[e2,aC'] at l2;obtain rfl:r=[]:=List.length_eq_zero_iff.mp (by omega);exact .inr ⟨m,rfl,.inr (eh_ W hw h2 h1 (by rw[e2];exact aj')).1⟩
 |cons m r=>
  rw[e1,aC'] at l1;obtain rfl:r=[]:=List.length_eq_zero_iff.mp (by omega);obtain⟨q1,q2⟩:=eh_ W hw h1 h2 (show m∈hmv hs ts qs f gd [] u.1 u.2 by rw[e1];exact aj');cases e2:hmv hs ts qs f gd [] u.2 u.1 with
  |nil=>exact .inr ⟨m,rfl,.inl q1⟩
  |cons m' r'=>
   have q3:=(eh_ W hw h2 h1 (show m'∈hmv hs ts qs f gd [] u.2 u.1 by rw[e2];exact aj')).2;rw[i4_] at q3;omega
def apart(m m':Mv):Prop:=m.2.1≠m'.2.1/\m.2.1≠m'.2.2/\m.2.2≠m'.2.1/\m.2.2≠m'.2.2
theorem cz_(W:Wd hs ts qs f)(hw:∀n∈qs.map (·.1),1<=wtN qs n){gd:Str}:∀{r:Xb},(∀u∈r,u.1∈a6' hs/\u.2∈a6' hs/\u.1≠u.2)->(r.Pairwise fun u v=>hit v u=false)->(r.flatMap (bm' hs ts qs f gd)).Pairwise apart/\∀m∈r.flatMap (bm' hs ts qs f gd),m.2.1≠m.2.2/\∃u∈r,m.2=u∨m.2=(u.2,u.1)
 |[],_,_=>⟨.nil,fun m hm=>by cases hm⟩
 |u::r,hin,pw=>by
  obtain⟨p1,p2⟩:=aO'.mp pw;obtain⟨h1,h2,h3⟩:=hin u aj';obtain⟨i1,i2⟩:=cz_ W hw (gd:=gd) (fun v hv=>hin v (ag' _ hv)) p2;rw[List.flatMap_cons]
  have up:∀m∈r.flatMap (bm' hs ts qs f gd),m.2.1≠m.2.2/\∃v∈u::r,m.2=v∨m.2=(v.2,v.1):=fun m hm=>by
   obtain⟨q1,v,hv,q2⟩:=i2 m hm;exact⟨q1,v,ag' _ hv,q2⟩
  rcases hX_ W hw (gd:=gd) h1 h2 with e|⟨m,e,hm⟩
  ·rw[e,List.nil_append];exact⟨i1,up⟩
  ·rw[e,List.singleton_append,aO'];refine⟨⟨fun m' hm'=>?_,i1⟩,fun m' hm'=>?_⟩
   ·obtain⟨_,v,hv,q⟩:=i2 m' hm';have hh:=p1 v hv;unfold hit at hh;simp only[Bool.or_eq_false_iff,decide_eq_false_iff_not] at hh;obtain⟨⟨a1,a2⟩,a3,a4⟩:=hh;unfold apart;rcases hm with hm|hm<;>rcases q with q|q<;>rw[hm,q]
    ·exact⟨a1,a3,a2,a4⟩
    ·exact⟨a3,a1,a4,a2⟩
    ·exact⟨a2,a4,a1,a3⟩
    ·exact⟨a4,a2,a3,a1⟩
   ·rcases ah'.mp hm' with rfl|hm'
    ·refine⟨?_,u,aj',hm⟩;rcases hm with hm|hm<;>rw[hm]
     ·exact h3
     ·exact fun z=>h3 z.symm
    ·exact up m' hm'
theorem ki_{M:List Mv}(h:M.Pairwise apart)(hd:∀m∈M,m.2.1≠m.2.2):(M.map (·.2.1)++M.map (·.2.2)).Nodup:=by
 rw[List.nodup_append];refine⟨?_,?_,?_⟩
 ·rw[ay',aH'];exact h.imp fun q=>q.1
 ·rw[ay',aH'];exact h.imp fun q=>q.2.2.2
 ·intro x hx y hy;obtain⟨m,hm,rfl⟩:=ad'.mp hx;obtain⟨m',hm',rfl⟩:=ad'.mp hy
  have key:∀{L:List Mv},L.Pairwise apart->(∀m∈L,m.2.1≠m.2.2)->∀m∈L,∀m'∈L,m.2.1≠m'.2.2:=by
   intro L
   induction L with
   |nil=>intro _ _ m hm;cases hm
   |cons a l ih=>
    intro pw hd m hm m' hm';obtain⟨p1,p2⟩:=aO'.mp pw;rcases ah'.mp hm with e|hm1
    ·rcases ah'.mp hm' with e'|hm1'
     ·rw[e,e'];exact hd _ aj'
     ·rw[e];exact (p1 m' hm1').2.1
    ·rcases ah'.mp hm' with e'|hm1'
     ·rw[e'];exact fun z=>(p1 m hm1).2.2.1 z.symm
     ·exact ih p2 (fun x hx=>hd x (ag' _ hx)) m hm1 m' hm1'
  exact key h hd m hm m' hm'
theorem ky_(G:Good hs ts){u:Str × Str}(h:u∈tsOf ts):u.1≠u.2:=by
 have k:kT u∈(tsOf ts).map kT:=ad'.mpr ⟨u,h,rfl⟩;rw[bg_,(al_ _).mem_iff] at k;obtain⟨t,ht,e⟩:=ad'.mp k;have e:=cU_ e;have ne:=(G.tok t ht).2.2;rw[<- e];unfold ord2;split
 ·exact ne
 ·exact fun z=>ne z.symm
theorem gZ_(W:Wd hs ts qs f)(hw:∀n∈qs.map (·.1),1<=wtN qs n)(gd:Str)(m:Int):((bx' hs ts qs f gd m).map (·.2.1)++(bx' hs ts qs f gd m).map (·.2.2)).Nodup:=by
 obtain⟨h1,h2⟩:=cz_ W hw (gd:=gd) (r:=a8' ts m) (fun u hu=>⟨(ct_ W.Gd (bb_ hu)).1,(ct_ W.Gd (bb_ hu)).2,ky_ W.Gd (bb_ hu)⟩) (fv_ ts m);exact ki_ h1 fun m hm=>(h2 m hm).1
theorem hT_(W:Wd hs ts qs f)(gd:Str)(m:Int):(bx' hs ts qs f gd m).length<=128:=by
 have h1:=cp_ (cd_ hs ts qs f gd) (a8' ts m);have h2:=bI_ W.Gd m;show ((a8' ts m).flatMap _).length<=128;omega
end
end Ev
namespace Ev
open PySem L2
theorem he_:∀gd∈(["high","fall","calm"]:List Str),(∃r∈rl,r.1=("turns ":Str)++gd/\r.2.1="turns"/\r.2.2.2=some gd)/\("turns ":Str).length+gd.length<=100:=by decide +kernel
section
variable{P:Program}{w:World}{K:F__}{mg:Str->Option Value}{base:Heap}{CG CW T1 T2:Addr}
abbrev lwN:List Str:=["_law_script","_law_k","_law_state_here","_law_hands","_law_ties","_law_pieces","_law_stand","_law_guard","_law_goods_here","_law_world_here","_law_many","_law_moment","_law_found","_law_met"]
theorem bP':a4' lwN ["_law_script"] (a3' sLaw):=f__
def spLaw(K:F__)(T1 T2:Addr):Sp:=fun vs H Q _=>∃(a:Addr) (ns:List Int),vs=[.ref a]/\Tb H T1 T2/\SqL K H a (ns.map V.int)/\ns.length<=63/\∀H',Q (.bl true) H'
set_option maxHeartbeats 3200000 in
theorem kk_{f0:Addr}{fd:FuncData}(F:Fun K "law" "law" sLaw f0 fd)(B:Bi mg)(bS:mg "set"=none)(cC:Cal P w K mg base 1 "_law_cell_at" ["_law_script","_law_k"] (spCell K))(cSt:Cal P w K mg base 1 "_law_state" ["_law_cell","_law_k"] spState)(cD:Cal P w K mg base 2 "_law_digit" ["_law_state_here","_law_base"] bJ')(cL:Cal P w K mg base 4 "_law_web" ["_law_state_here"] (spLWeb K))(cGo:Cal P w K mg base 4 "_law_goods" ["_law_state_here","_law_hands","_law_ties"] (c9' K))(cWd:Cal P w K mg base 1 "_law_world" ["_law_hands","_law_ties","_law_pieces"] (spWorld K))(cR:Cal P w K mg base 1 "_law_rows" ["_law_world_here"] (cE' K))(cBy:Cal P w K mg base 3 "_law_by_turn" ["_law_world_here","_law_stand","_law_moment","_law_guard"] (c6' K))
  (cMk:CalC P w K mg base CW 5 "Web" ["self","hands","ties"] (spInit K CW)) (cGd:CalC P w K mg base CG 7 "Goods" ["self","web","pieces"] (spGInit K CG CW)) (cMv:Cal P w K mg base 9 "moves_of" ["goods","stand","rule","moment"] (cf' K CG CW T1 T2)):FnOk P w K mg base CX0 10 f0 fd ["_law_script"] (spLaw K T1 T2):=by
 refine F.ok bP' (fun vs H Q E h=>?_) (fun cdv A outer s H vs Q E hr h=>?_)
 ·obtain⟨a,ns,rfl,_⟩:=h;rfl
 ·obtain⟨ls,ns,rfl,tb,hls,h63,k⟩:=h;have sz:=sizeLine_eq;have hu:=b5_ hr;have hr1:Room 1 _:=hr.mono (by decide);have hr2:Room 2 _:=hr.mono (by decide);have hr3:Room 3 _:=hr.mono (by decide);have hr4:Room 4 _:=hr.mono (by decide);have hr6:Room 6 _:=hr.mono (by decide);have hr8:Room 8 _:=hr.mono (by decide);refine' ⟨_,a2_ ?s1 (a5_ (ab_ el_)),?kk⟩
  case' s1=>refine' aK_ PassesOwn.never rfl ?i3 (a8_ (i:=1) bP'.nd rfl (Or.inl rfl)) ?b0
  case i3=>exact bP_ (by rfl) B.range (a0_ (aj_ b1_ a7_ (ac_ (gm_ rfl) (by rfl) B.min PyProof.Rows.Boot.«min» (a0_ (ac_ ai_ (by rfl) B.len PySem.boot_len (a0_ (pv 0) a3_)) (a0_ a7_ a3_)))) a3_)
  case' b0=>refine' a2_ ?b1 ?c1
  case' c1=>refine' a2_ ?b2 ?c2
  case' c2=>refine' a2_ ?b3 ?c3
  case' c3=>refine' a2_ ?b4 ?c4
  case' c4=>refine' a2_ ?b5 ?c5
  case' c5=>refine' a2_ ?b6 ?c6
  case' c6=>refine' a2_ ?b7 ?c7
  case' c7=>refine' a5_ ?b8
  case b1=>exact aa_ (i:=2) bP'.nd rfl (Or.inl rfl) (af_ cSt hr1 (a0_ (af_ cC hr1 (a0_ (pv 0) (a0_ (pv 1) a3_))) (a0_ (pv 1) a3_)))
  case b2=>exact dx_ (af_ cL hr4 (a0_ (pv 2) a3_)) (b8_ rfl (ad_ (a8_ (i:=3) bP'.nd rfl (Or.inl rfl)) (ad_ (a8_ (i:=4) bP'.nd rfl (Or.inl rfl)) aO_)))
  case b3=>exact dx_ (af_ cGo hr4 (a0_ (pv 2) (a0_ (pv 3) (a0_ (pv 4) a3_)))) (b8_ rfl (ad_ (a8_ (i:=5) bP'.nd rfl (Or.inl rfl)) (ad_ (a8_ (i:=6) bP'.nd rfl (Or.inl rfl)) aO_)))
  case b4=>exact aa_ (i:=7) bP'.nd rfl (Or.inl rfl) (az_ aH_ (ar_ (a0_ aC_ (a0_ aC_ (a0_ aC_ a3_)))) (af_ cD hr2 (a0_ (pv 2) (a0_ a7_ a3_))) (fun _ _=>rfl))
  case b5=>exact aa_ (i:=8) bP'.nd rfl (Or.inl rfl) (j5_ cGd hr8 (a0_ (j5_ cMk hr6 (a0_ (pv 3) (a0_ (pv 4) a3_))) (a0_ (pv 5) a3_)))
  case b6=>exact aa_ (i:=9) bP'.nd rfl (Or.inl rfl) (af_ cWd hr1 (a0_ (pv 3) (a0_ (pv 4) (a0_ (pv 5) a3_))))
  case b7=>exact aa_ (i:=10) bP'.nd rfl (Or.inl rfl) (ac_ ai_ (by rfl) B.len PySem.boot_len (a0_ (af_ cR hr1 (a0_ (pv 9) a3_)) a3_))
  case' b8=>refine' aK_ PassesOwn.never rfl (ak_ (aj_ dX_ ?x1 ?x2)) (a8_ (i:=11) bP'.nd rfl (Or.inl rfl)) (a2_ ?d1 (a2_ ?d2 (a5_ ?d3)))
  case x1=>exact hr_ (by rfl) B.list (by rfl) B.range (aj_ b1_ (aj_ b6_ a7_ (pv 10)) a7_)
  case x2=>exact ar_ (a0_ (af_ cD hr2 (a0_ (pv 2) (a0_ a7_ a3_))) a3_)
  case d1=>exact aa_ (i:=12) bP'.nd rfl (Or.inl rfl) (af_ cMv hr (a0_ (pv 8) (a0_ (pv 6) (a0_ (aj_ bx_ aC_ (pv 7)) (a0_ (pv 11) a3_)))))
  case' d2=>refine' aa_ (i:=13) bP'.nd rfl (Or.inl rfl) (aj_ dX_ (aN_ ["_law_move"] 1 [] (ak_ (pv 12)) (fun fp s H=>a8_ (i:=0) (show (["_law_move"]:List Str).Nodup by decide +kernel) rfl (Or.inl rfl)) (fun fp s H=>aS_) (fun fp s H=>az_ (ixK (K:=K) rIxT aM_) (pv 0) a7_ (fun _ _=>rfl))) (aN_ ["_law_move"] 1 [] (ak_ (pv 12)) (fun fp s H=>a8_ (i:=0) (show (["_law_move"]:List Str).Nodup by decide +kernel) rfl (Or.inl rfl)) (fun fp s H=>aS_) (fun fp s H=>az_ (ixK (K:=K) rIxT aM_) (pv 0) a7_ (fun _ _=>rfl))))
  case' d3=>refine' aB_ (PW.pt (dv_ ?e1 (ce_ ?e2))) ah_ ae_
  case e1=>exact an_ (jQ_ (cmp3 cmpS cmpS cmpS) (cc' hr _)) (pv 12) (af_ cBy hr3 (a0_ (pv 9) (a0_ (pv 6) (a0_ (pv 11) (a0_ (pv 7) a3_))))) (nomark _)
  case e2=>exact an_ ej_ (gE_ (by rfl) B.len (by rfl) bS (pv 13)) (ac_ ai_ (by rfl) B.len PySem.boot_len (a0_ (pv 13) a3_)) (nomark _)
  case' kk=>skip
  have hln:(ns.map V.int).length<=63:=by rw[aa'];exact h63
  refine seqG (fun σ H'=>True) (fun σ H' _=>k _) (fun N hN=>?_)
  obtain⟨cnt,c4,ec⟩:∃c:Nat,c<=4/\(1+(if (2:Int)<((ns.map V.int).length:Int) then (2:Int) else ((ns.map V.int).length:Int)))=(c:Int):=by
   by_cases c:(2:Int)<((ns.map V.int).length:Int)
   ·rw[if_pos c];exact⟨3,by decide,rfl⟩
   ·rw[if_neg c];exact⟨1+(ns.map V.int).length,by omega,by omega⟩
  refine⟨_,rfl,ls,_,rfl,.inl hls,_,_,rfl,_,_,rfl,rfl,(cnt:Int),congrArg (fun z=>[V.int z]) ec,by omega,by omega,?_⟩;refine gI_ (fun i σ H'=>NT H H'/\Tb H' T1 T2/\∃v1 v2 v3 v4 v5 v6 v7 v8 v9 v10 v11 v12 v13:Option V,σ=[some (.ref ls),v1,v2,v3,v4,v5,v6,v7,v8,v9,v10,v11,v12,v13]) ⟨NT.refl H,tb,none,none,none,none,none,none,none,none,none,none,none,none,none,rfl⟩ ?_ (fun σ H' _=>hN _ _ trivial);rintro i σ H0 hi ⟨nt0,tb0,v1,v2,v3,v4,v5,v6,v7,v8,v9,v10,v11,v12,v13,rfl⟩;refine setG ?_;dsimp only;rw[Int.toNat_natCast] at hi;refine seqG (fun σ H'=>∃l,Same H0 H'/\H0 l=none/\stt H' l/\σ=[some (.ref ls),some (.int i),some (.ref l),v3,v4,v5,v6,v7,v8,v9,v10,v11,v12,v13]) ?m2 (fun N1 hN1=>?m1)
  case m1=>
   refine⟨_,rfl,_,rfl,ls,ns,_,rfl,by omega,ke_ nt0 hls,fun c=>?_⟩;refine⟨_,rfl,c,i,by rw[Int.zero_add];rfl,by omega,fun l H1 s1 nl st=>hN1 _ _ ⟨l,s1,nl,st,?_⟩⟩;show [some (V.ref ls),some (V.int (0+(i:Int))),some (V.ref l),v3,v4,v5,v6,v7,v8,v9,v10,v11,v12,v13]=_;rw[Int.zero_add]
  rintro σ H1 ⟨l,s1,nl,st1,rfl⟩;refine seqG (fun σ H'=>∃(lh lt:Addr) (ys zs:List V) (hs:Xa) (ts:Xb),Same H0 H'/\stt H' l/\lh≠l/\lt≠l/\H' lh=some (.lst ys)/\a5' K H' ys (hs.map kH)/\H' lt=some (.lst zs)/\a5' K H' zs (ts.map kT)/\Good hs ts/\σ=[some (.ref ls),some (.int i),some (.ref l),some (.ref lh),some (.ref lt),v5,v6,v7,v8,v9,v10,v11,v12,v13]) ?m4 (fun N1 hN1=>?m3)
  case m3=>
   refine⟨_,rfl,l,rfl,st1,fun t lh lt ys zs hs ts H2 b2 st2 ht fh ft nht nhl ntl h1 h2 h3 h4 G=>?_⟩;exact⟨t,_,rfl,.of ht,rfl,_,_,rfl,_,_,rfl,rfl,hN1 _ _ ⟨lh,lt,ys,zs,hs,ts,b2.same nl s1,st2,nhl,ntl,h1,h2,h3,h4,G,rfl⟩⟩
  rintro σ H2 ⟨lh,lt,yh,zt,hs,ts,s2,st2,nhl,ntl,h1,h2,h3,h4,G,rfl⟩;refine seqG (fun σ H'=>∃(lp d:Addr) (yp:List V) (ps:List Pc) (f:Str->Str),Same H0 H'/\stt H' l/\lp≠l/\d≠l/\H' lh=some (.lst yh)/\a5' K H' yh (hs.map kH)/\H' lt=some (.lst zt)/\a5' K H' zt (ts.map kT)/\H' lp=some (.lst yp)/\dh' K H' yp ps/\H' d=some (.dK (stF (ps.map (·.1)) f))/\Pw hs ts ps f/\σ=[some (.ref ls),some (.int i),some (.ref l),some (.ref lh),some (.ref lt),some (.ref lp),some (.ref d),v7,v8,v9,v10,v11,v12,v13]) ?m6 (fun N1 hN1=>?m5)
  case m5=>
   refine⟨_,rfl,_,rfl,_,rfl,l,lh,lt,yh,zt,hs,ts,rfl,st2,h1,nhl,h2,h3,ntl,h4,G,fun t lp d yp ps f H3 b3 st3 ht fp fd npl ndl h5 h6 h7 gp nd p30 at_=>?_⟩;obtain⟨xs0,hl0⟩:=st2.some;exact⟨t,_,rfl,.of ht,rfl,_,_,rfl,_,_,rfl,rfl,hN1 _ _ ⟨lp,d,yp,ps,f,b3.same nl s2,st3,npl,ndl,b3 _ _ h1 nhl,aV_ h2 b3 hl0,b3 _ _ h3 ntl,aV_ h4 b3 hl0,h5,h6,h7,⟨G,gp,nd,p30,at_⟩,rfl⟩⟩
  clear h1 h2 h3 h4 st1 st2 s1 s2;rintro σ H3 ⟨lp,d,yp,ps,f,s3,st3,npl,ndl,h1,h2,h3,h4,h5,h6,h7,Pp,rfl⟩;refine⟨by show 3<=sizeLine;decide,fun lg ng=>?_⟩;obtain⟨sg,eg⟩:=nw__ (o:=.lst [.str "high",.str "fall",.str "calm"]) ng;have lgl:=st3.ne ng;generalize upd H3 lg (.lst [.str "high",.str "fall",.str "calm"])=Hg at sg eg ⊢;refine⟨_,rfl,l,3,rfl,by decide,by decide,st3.same sg,fun a3 Hd p4 p5 bd std=>?_⟩
  obtain⟨v,hv,gd,rfl,hgd⟩:=hitL (p:=fun v:V=>∃gd:Str,v=V.str gd/\gd∈(["high","fall","calm"]:List Str)) (xs:=[V.str "high",.str "fall",.str "calm"]) (n:=3) rfl p4 p5 (fun v hv=>by
   simp only[ah',aV',or_false] at hv;rcases hv with rfl|rfl|rfl
   ·exact⟨_,rfl,by simp⟩
   ·exact⟨_,rfl,by simp⟩
   ·exact⟨_,rfl,by simp⟩)
  refine⟨lg,_,_,_,rfl,rfl,.of (bd _ _ eg lgl),hv,?_⟩;refine setG ?_;dsimp only;obtain⟨xs3,hl3⟩:=(st3.same sg).some;have s3':Same H0 Hd:=bd.same nl (s3.trans sg);replace h1:=bd _ _ (sg _ _ h1) nhl;replace h2:=aV_ (h2.same sg) bd hl3;replace h3:=bd _ _ (sg _ _ h3) ntl;replace h4:=aV_ (h4.same sg) bd hl3;replace h5:=bd _ _ (sg _ _ h5) npl;replace h6:dh' K Hd yp ps:=Paired.mapP h6 fun y q ⟨t,v,e,ht,wy⟩=>⟨t,v,e,bd _ _ (sg _ _ ht) (ax_ (sg _ _ ht) hl3 nofun),(wy.same sg).mv bd (st3.same sg)⟩;replace h7:=bd _ _ (sg _ _ h7) ndl;have st3':=std;clear bd sg eg lgl hl3 st3 s3 ng hv p4 p5;revert h1 h2 h3 h4 h5 h6 h7 st3' s3';generalize Hd=H3;intro s3 h1 h2 h3 h4 h5 h6 h7 st3;refine seqG (fun σ H'=>∃(g p:Addr) (qs:List Pc) (fp:List Addr),Same H3 H'/\Stn K CG CW H' g p d hs ts qs fp (ps.map (·.1)) f/\Qs ps qs/\l∉fp/\σ=[some (.ref ls),some (.int i),some (.ref l),some (.ref lh),some (.ref lt),some (.ref lp),some (.ref d),some (.str gd),some (.ref g),v9,v10,v11,v12,v13]) ?m8 (fun N1 hN1=>?m7)
  case m7=>
   refine⟨_,rfl,_,rfl,fun p dx hp hdx ne=>?_⟩;have s4:Same H3 (upd (upd H3 dx (.own p)) p (.ins CW dx [])):=(Same.new hdx).trans (Same.new (by rw[a4_ ne.symm];exact hp));refine⟨p,dx,lh,lt,yh,zt,hs,ts,rfl,a1_,s4 _ _ h1,h2.same s4,s4 _ _ h3,h4.same s4,G,fun fpw H5 kp W fr=>⟨rfl,?_⟩⟩;have s35:Same H3 H5:=fun b o e=>kp b o (s4 _ _ e) (a6_ e hp)
   have dfw:d∉fpw:=fun m=>by
    rcases fr d m with z|z
    ·rw[z] at h7;rw[h7] at hp;cases hp
    ·rw[s4 _ _ h7] at z;cases z
   refine⟨_,rfl,fun g dx2 hg hdx2 ne2=>?_⟩;have s6:Same H5 (upd (upd H5 dx2 (.own g)) g (.ins CG dx2 [])):=(Same.new hdx2).trans (Same.new (by rw[a4_ ne2.symm];exact hg));have s36:=s35.trans s6;have e6:upd (upd H5 dx2 (.own g)) g (.ins CG dx2 []) g=some (.ins CG dx2 []):=a1_
   have gfw:g∉fpw:=fun m=>by
    obtain⟨o,e,_⟩:=W.firm m;rw[e] at hg;cases hg
   generalize upd (upd H5 dx2 (.own g)) g (.ins CG dx2 [])=H6 at s6 e6 s36 ⊢;refine⟨g,dx2,p,lp,yp,ps,hs,ts,fpw,rfl,e6,W.same s6,gfw,G,s36 _ _ h5,Paired.mapP h6 fun y q x=>x.same s36,Pp.gp,Pp.nd,by have:=Pp.p30;omega,fun qs fp H7 kg GA Qq fg=>⟨rfl,?_⟩⟩;have s37:Same H3 H7:=fun b o e=>kg b o (s36 _ _ e) (fun z=>by rw[z] at e;rw[s35 _ _ e] at hg;cases hg)
   have dfp:d∉fp:=fun m=>by
    rcases fg d m with z|z|z
    ·rw[z] at h7;rw[s35 _ _ h7] at hg;cases hg
    ·exact dfw z
    ·rw[s36 _ _ h7] at z;cases z
   obtain⟨xs3,hl3⟩:=st3.some
   have lfp:l∉fp:=fun m=>by
    rcases fg l m with z|z|z
    ·rw[z] at hl3;rw[s35 _ _ hl3] at hg;cases hg
    ·rcases fr l z with z|z
     ·rw[z] at hl3;rw[hl3] at hp;cases hp
     ·rw[s4 _ _ hl3] at z;cases z
    ·rw[s36 _ _ hl3] at z;cases z
   obtain⟨fp',GA',sub,has⟩:=GA.firm;refine hN1 _ _ ⟨g,p,qs,fp',s37,⟨GA',fun m=>dfp (sub d m),s37 _ _ h7,⟨?_,fun n hn=>Pp.at_ n hn⟩,has⟩,Qq,fun m=>lfp (sub l m),rfl⟩;rw[Qq.nms];exact (ap_ _).symm
  rintro σ H4 ⟨g,p,qs,fp,s34,S,Qq,lfp,rfl⟩
  have wd:Wd hs ts qs f:=⟨G,Qq.nd Pp.nd,by rw[Qq.len];have:=Pp.p30;omega,fun n hn=>Pp.at_ n (by rw[Qq.nms] at hn;exact (ap_ _).mem_iff.mp hn),fun q hq=>by
   obtain⟨p,hp,e⟩:=Qq.mem q hq;have:=Pp.gp p hp;rw[e];exact⟨by have:=this.w1;show 0<=p.2.1;omega,this.w2⟩⟩
  refine⟨_,rfl,_,rfl,_,rfl,lh,lt,lp,yh,zt,yp,hs,ts,ps,rfl,s34 _ _ h1,h2.same s34,s34 _ _ h3,h4.same s34,s34 _ _ h5,Paired.mapP h6 fun y q x=>x.same s34,G,Pp.nd,Pp.p30,fun wa H5 s45 nwa WA=>?_⟩;refine setG ?_;dsimp only;have st5:=st3.same (s34.trans s45);refine⟨_,rfl,wa,hs,ts,ps,rfl,WA,G,fun lr as H6 s56 nlr _ R=>?_⟩;refine⟨lr,_,rfl,.inl (.of R.1),?_⟩;rw[aa'];refine setG ?_;dsimp only;have la:=Paired.length R.2;have tl:=cM_ (tsOf ts) [];rw[bo_] at tl;have t64:=G.t64
  have lr64:(turnsOf (tsOf ts)).length<64:=by
   show ((tsOf ts).foldl bc' []).length<64;rw[a1'] at tl;omega
  refine⟨_,rfl,_,_,rfl,rfl,.inl ⟨by decide,by decide⟩,_,_,rfl,rfl,2 * as.length+1,rfl,by omega,fun l1 nl1=>?_⟩;obtain⟨s67,e7⟩:=nw__ (o:=.lst (rgL (2 * as.length+1))) nl1;have st6:=st5.same s56;have l1l:=st6.ne nl1;generalize upd H6 l1 (.lst (rgL (2 * as.length+1)))=H7 at s67 e7 ⊢;have st7:=st6.same s67;refine⟨_,rfl,l,3001,rfl,by decide,by decide,st7,fun mo H8 mo0 mo1 b8 st8=>?_⟩;obtain⟨xs7,hl7⟩:=st7.some;have s47:=(s45.trans s56).trans s67;have tb8:Tb H8 T1 T2:=tb0.same (b8.same nl ((s3.trans s34).trans s47));have nt08:NT H H8:=nt0.trans (NT.of (b8.same nl ((s3.trans s34).trans s47)));have S8:=(S.nt (NT.of s47)).mv b8 st7 lfp ndl;have WA8:=(WA.nt (NT.of (s56.trans s67))).mv b8 st7;have e8:=b8 _ _ e7 l1l;refine⟨by show 1<=sizeLine;decide,fun l2 nl2=>?_⟩;obtain⟨s89,e9⟩:=nw__ (o:=.lst [.int mo]) nl2;generalize upd H8 l2 (.lst [.int mo])=H9 at s89 e9 ⊢
  have lr1:(rgL (2 * as.length+1)).length=2 * as.length+1:=by
   unfold rgL;rw[aa',List.length_range]
  refine⟨l1,l2,_,_,rfl,rfl,s89 _ _ e8,e9,by rw[lr1];show 2 * as.length+1+1<=_;omega,fun l3 nl3=>?_⟩;obtain⟨sA,eA⟩:=nw__ (o:=.lst (rgL (2 * as.length+1)++[.int mo])) nl3;generalize upd H9 l3 (.lst (rgL (2 * as.length+1)++[.int mo]))=HA at sA eA ⊢;have s8A:=s89.trans sA;have tbA:=tb8.same s8A;have nt0A:=nt08.trans (NT.of s8A);have SA:=S8.nt (NT.of s8A);have WAA:=WA8.nt (NT.of s8A)
  have hw:∀n∈qs.map (·.1),1<=wtN qs n:=fun n hn=>by
   obtain⟨q,hq,rfl⟩:=ad'.mp hn;obtain⟨p,hp,e⟩:=Qq.mem q hq;rw[e1_ (Qq.nd Pp.nd) hq,e];exact (Pp.gp p hp).w1
  obtain⟨⟨ra,ha,a1,a2,a3⟩,rlen⟩:=he_ gd hgd;clear S WA WA8 S8 b8 st3 st5 st6 st7 st8 s3 s34 s45 s56 s67 s47 s89 sA e7 e8 e9 h1 h2 h3 h4 h5 h6 h7 hl7 tb8 nt08 R
  have mpos:∀{j:Nat} {x:V},(rgL (2 * as.length+1)++[V.int mo])[j]? = some x->∃m:Int,x=.int m/\0<=m:=by
   intro j x hx;rcases au'.mp (ae' hx) with z|z
   ·obtain⟨q,_,rfl⟩:=ad'.mp z;exact⟨_,rfl,by omega⟩
   ·exact⟨mo,by simpa using z,mo0⟩
  refine⟨l3,rfl,⟨_,.of eA⟩,as_ (K:=K) (a:=l3) (xs:=rgL (2 * as.length+1)++[.int mo]) (fun j σ H'=>∃v11 v12 v13:Option V,σ=[some (.ref ls),some (.int i),some (.ref l),some (.ref lh),some (.ref lt),some (.ref lp),some (.ref d),some (.str gd),some (.ref g),some (.ref wa),some (.int as.length),v11,v12,v13]/\NT HA H'/\Tb H' T1 T2) ⟨v11,v12,v13,rfl,NT.refl _,tbA⟩ (fun j σ H' _ ⟨_,_,_,_,z,_⟩=>.of (z.lst eA)) ?_ ?_⟩
  ·rintro j x σ HB hx ⟨v11,v12,v13,rfl,ntB,tbB⟩;obtain⟨m,rfl,m0⟩:=mpos hx;clear hx mpos;refine setG ?_;dsimp only;refine⟨_,rfl,_,rfl,_,rfl,_,_,rfl,rfl,by omega,_,rfl,g,p,d,m,gd,hs,ts,qs,fp,ps.map (·.1),f,ra,ha,(by rw[a1];rfl),a2,a3,m0,SA.nt ntB,wd,tbB,fun lm ym H6 nt6 tb6 nlm elm tm=>?_⟩;have nd:=gZ_ wd hw gd m;have ml:=hT_ wd gd m;generalize eM:bx' hs ts qs f gd m=M at tm nd ml;have lym:=Paired.length tm;rw[aa'] at lym;refine setG ?_;dsimp only;refine seqG (fun σ H'=>∃D:Addr,σ=[some (.ref ls),some (.int i),some (.ref l),some (.ref lh),some (.ref lt),some (.ref lp),some (.ref d),some (.str gd),some (.ref g),some (.ref wa),some (.int as.length),some (.int m),some (.ref lm),some (.ref D)]/\Same H6 H'/\H' D=some (.lst ((M.map (·.2.1)++M.map (·.2.2)).map V.str))) ?n2 ?n1
   case n1=>
    intro N1 hN1;refine⟨_,rfl,lm,rfl,⟨_,.of elm⟩,fun D hD=>?_⟩;refine aI_ (own:=1) (fv:=[]) (xs:=ym) rfl gok1 (fun j out H'=>Same H6 H'/\H' D=some (.lst out)/\out=((M.map (·.2.1)).take j).map V.str) ⟨Same.new hD,a1_,rfl⟩ (fun j out H' _ ⟨sm,_⟩=>.of (sm _ _ elm)) (fun out H7 ⟨s7,d7,eo⟩=>?_) (fun j x out H' hx ⟨sm,hd,eo⟩=>?_)
    ·rw[lym,aQ' (by rw[aa'];exact af' _)] at eo;subst eo;have elm7:=s7 _ _ elm;refine⟨_,rfl,lm,rfl,⟨_,.of elm7⟩,fun D2 hD2=>?_⟩;refine aI_ (own:=1) (fv:=[]) (xs:=ym) rfl gok1 (fun j out H'=>Same H7 H'/\H' D2=some (.lst out)/\out=((M.map (·.2.2)).take j).map V.str) ⟨Same.new hD2,a1_,rfl⟩ (fun j out H' _ ⟨sm,_⟩=>.of (sm _ _ elm7)) (fun out H8 ⟨s8,d8,eo⟩=>?_) (fun j x out H' hx ⟨sm,hd,eo⟩=>?_)
     ·rw[lym,aQ' (by rw[aa'];exact af' _)] at eo;subst eo;refine⟨D,D2,_,_,rfl,rfl,s8 _ _ d7,d8,by simp only[aa'];omega,fun D3 hD3=>?_⟩;exact hN1 _ _ ⟨D3,rfl,(s7.trans s8).trans (Same.new hD3),by rw[an'];exact a1_⟩
     ·obtain⟨q,hq,a,rfl,ha'⟩:=am_ (tm.same s7) hx;have hj:j<M.length:=(ab'.mp hq).1;refine⟨_,rfl,rfl,fun Nx hN=>yesT ?_⟩;refine⟨_,rfl,a,_,2,.str q.2.2,rfl,rfl,.of (sm _ _ ha'),L2.bg' (j:=2) rfl,out,hd,?_,hN (out++[.str q.2.2]) _ ⟨ao_ sm hD2,a1_,?_⟩⟩
      ·rw[eo,aa',ak'];omega
      ·rw[eo,av_ (show (M.map (·.2.2))[j]? = some q.2.2 by rw[al',hq];rfl),an'];rfl
    ·obtain⟨q,hq,a,rfl,ha'⟩:=am_ tm hx;have hj:j<M.length:=(ab'.mp hq).1;refine⟨_,rfl,rfl,fun Nx hN=>yesT ?_⟩;refine⟨_,rfl,a,_,1,.str q.2.1,rfl,rfl,.of (sm _ _ ha'),L2.bg' (j:=1) rfl,out,hd,?_,hN (out++[.str q.2.1]) _ ⟨ao_ sm hD,a1_,?_⟩⟩
     ·rw[eo,aa',ak'];omega
     ·rw[eo,av_ (show (M.map (·.2.1))[j]? = some q.2.1 by rw[al',hq];rfl),an'];rfl
   rintro σ H7 ⟨D,rfl,s7,d7⟩;have ntA7:NT HA H7:=(ntB.trans nt6).trans (NT.of s7);refine⟨_,rfl,_,rfl,_,rfl,_,rfl,_,rfl,wa,d,m,gd,hs,ts,ps,qs,f,rfl,WAA.nt ntA7,Pp,Qq,ntA7.dK SA.hd,hgd,fun lz yz H8 s8 nlz ez tz=>?_⟩;rw[eM] at tz;refine⟨_,_,⟨lm,ym,rfl,.of (s8 _ _ (s7 _ _ elm)),reps3 ((tm.same s7).same s8)⟩,⟨lz,yz,rfl,.of ez,reps3 tz⟩,_,rfl,?_⟩;refine ite2 (fun c=>by simp at c) (fun c=>?_);have d8:=s8 _ _ d7
   have l8:(M.map (·.2.1)++M.map (·.2.2)).length=2 * M.length:=by
    rw[ap',aa',aa'];omega
   refine⟨_,rfl,D,_,rfl,d8,nd,by omega,_,rfl,D,_,rfl,.inl (.of d8),rfl,_,rfl,?_⟩;refine ite2 (fun c=>by simp at c) (fun c=>?_);exact⟨_,_,_,rfl,ntA7.trans (NT.of s8),(tb6.same s7).same s8⟩
  ·rintro σ HB ⟨v11,v12,v13,rfl,ntB,tbB⟩;exact⟨nt0A.trans ntB,tbB,_,_,_,_,_,_,_,_,_,_,_,_,_,rfl⟩
end
end Ev
namespace Ev
open PySem L2
structure Fd (K:F__) (mg:Str->Option Value) (x:Str) (st:Stmt):Prop where
 ex:∃f fd,Fun K x x st f fd/\mg x=some (.ref f)/\PySem.W.keepIn K (.ref f)=true
theorem fd_mk{K:F__}{h:Heap}{mg:Str->Option Value}{x:Str}{st:Stmt}(X:K.In h)(G:h.Ns mainGlobals mg){f:Addr}{oc:Value}{od an:Option Addr}{osl:Array (Option Value)}{kV doc pm cdv ct:Value}(a:PySem.W.nsIn K mainGlobals x=some (some (.ref f)))
  (l:K.lookup f=some ⟨oc,od,.func (PySem.W.fnOf x x (bd' st) (bb' st) (a3' st) .none kV doc pm an cdv ct),osl⟩) (c:PySem.W.codeIn K cdv x=true) (k:PySem.W.keepIn K (.ref f)=true):Fd K mg x st:=⟨_,_,gM_ l c k,PySem.W.mg_of X G a,k⟩
structure Md (K:F__) (C:Addr) (m qual:Str) (st:Stmt):Prop where
 ex:∃f fd,Fun K m qual st f fd/\Meth K C m f
theorem md_mk{K:F__}{C:Addr}{m qual:Str}{st:Stmt}{f:Addr}{oc:Value}{od an:Option Addr}{osl:Array (Option Value)}{kV doc pm cdv ct:Value}(a:PySem.W.findIn K (.ref C) m=some (some (.ref f)))(i:PySem.W.isFn K (.ref f)=true)
  (l:K.lookup f=some ⟨oc,od,.func (PySem.W.fnOf m qual (bd' st) (bb' st) (a3' st) .none kV doc pm an cdv ct),osl⟩) (c:PySem.W.codeIn K cdv qual=true) (k:PySem.W.keepIn K (.ref f)=true):Md K C m qual st:=⟨_,_,gM_ l c k,a,i,k⟩
theorem cal{P:Program}{w:World}{K:F__}{mg:Str->Option Value}{base:Heap}{x:Str}{st:Stmt}{k:Nat}{ps:List Str}{sp:Sp}(d:Fd K mg x st)(ok:∀f fd,Fun K x x st f fd->FnOk P w K mg base CX0 k f fd ps sp)
  (h:∀(kV doc pm:Value) (an:Option Addr) (cdv ct:Value) (us:List Value),us.length=ps.length->bindArgs (PySem.W.fnOf x x (bd' st) (bb' st) (a3' st) .none kV doc pm an cdv ct) ⟨us,[]⟩=pure (ps.zip us)):Cal P w K mg base k x ps sp:=by
 obtain⟨f,fd,F,m,kp⟩:=d.ex;exact⟨f,fd,ok f fd F,m,kp,F.binds h⟩
theorem calM{P:Program}{w:World}{K:F__}{mg:Str->Option Value}{base:Heap}{C:Addr}{m qual:Str}{st:Stmt}{k:Nat}{ps:List Str}{sp:Sp}(d:Md K C m qual st)(ok:∀f fd,Fun K m qual st f fd->FnOk P w K mg base CX0 k f fd ps sp)
  (h:∀(kV doc pm:Value) (an:Option Addr) (cdv ct:Value) (us:List Value),us.length=ps.length->bindArgs (PySem.W.fnOf m qual (bd' st) (bb' st) (a3' st) .none kV doc pm an cdv ct) ⟨us,[]⟩=pure (ps.zip us)):CalM P w K mg base C k m ps sp:=by
 obtain⟨f,fd,F,m⟩:=d.ex;exact⟨f,fd,ok f fd F,m,F.binds h⟩
theorem calX{P:Program}{w:World}{K:F__}{mg:Str->Option Value}{base:Heap}{C:Addr}{m qual:Str}{st:Stmt}{k:Nat}{ps:List Str}{sp:Sp}(d:Md K C m qual st)(ok:∀f fd,Fun K m qual st f fd->FnOk P w K mg base (CX1 P w) k f fd ps sp)
  (h:∀(kV doc pm:Value) (an:Option Addr) (cdv ct:Value) (us:List Value),us.length=ps.length->bindArgs (PySem.W.fnOf m qual (bd' st) (bb' st) (a3' st) .none kV doc pm an cdv ct) ⟨us,[]⟩=pure (ps.zip us)):CalX P w K mg base C k m ps sp:=by
 obtain⟨f,fd,F,m⟩:=d.ex;exact⟨f,fd,ok f fd F,m,F.binds h⟩
theorem calC{P:Program}{w:World}{K:F__}{mg:Str->Option Value}{base:Heap}{C:Addr}{x qual:Str}{st:Stmt}{k:Nat}{ps:List Str}{sp:Sp}(d:Md K C "__init__" qual st)(hx:mg x=some (.ref C))(mk:PySem.W.makesIn K C=true)(kc:PySem.W.keepIn K (.ref C)=true)(ok:∀f fd,Fun K "__init__" qual st f fd->FnOk P w K mg base CX0 k f fd ps sp)
  (h:∀(kV doc pm:Value) (an:Option Addr) (cdv ct:Value) (us:List Value),us.length=ps.length->bindArgs (PySem.W.fnOf "__init__" qual (bd' st) (bb' st) (a3' st) .none kV doc pm an cdv ct) ⟨us,[]⟩=pure (ps.zip us)):CalC P w K mg base C k x ps sp:=by
 obtain⟨f,fd,F,m⟩:=d.ex;exact⟨f,fd,ok f fd F,⟨mk,m.1,m.2,kc⟩,hx,F.binds h⟩
theorem tup3{K:F__}{a:Addr}{od:Option Addr}{p q:Str}{x y:Tok}{z:Value}{u:V}{n:Nat}{sl:Array (Option Value)}(h:K.lookup a=some ⟨.type "tuple",od,.seq #[.str p x,.str q y,z] n,sl⟩)(r:RelV u z):∀H,SqT K H a [.str p,.str q,u]:=fun H=>
 .inr ⟨_,_,_,h,rfl,rfl,(show 3<=sizeLine by decide),.cons ⟨x,rfl⟩ (.cons ⟨y,rfl⟩ (.cons r .nil))⟩
theorem rules_at{K:F__}{w:World}{mg:Str->Option Value}{d:Addr}{es:Array DictEntry}{ep:Nat}{t0 t1 t2 t3 t4 t5 t6 t7 t8 t9 t10 t11 t12 t13 t14 t15 t16:Tok}{b0 b1 b2 b3 b4 b5 b6 b7 b8 b9 b10 b11 b12 b13 b14 b15 b16:Addr}
  {od0 od1 od2 od3 od4 od5 od6 od7 od8 od9 od10 od11 od12 od13 od14 od15 od16:Option Addr} {x0 y0 n0 v0 x1 y1 n1 v1 x2 y2 n2 v2 x3 y3 n3 v3 x4 y4 n4 v4 x5 y5 n5 v5 x6 y6 n6 v6 x7 y7 n7 v7 x8 y8 n8 v8 x9 y9 n9 v9 x10 y10 n10 v10 x11 y11 n11 v11 x12 y12 n12 x13 y13 n13 x14 y14 n14 v14 x15 y15 n15 v15 x16 y16 n16 v16:Nat} {sl0 sl1 sl2 sl3 sl4 sl5 sl6 sl7 sl8 sl9 sl10 sl11 sl12 sl13 sl14 sl15 sl16:Array (Option Value)}
  (m:mg "RULES"=some (.ref d)) (hs:(d == sysModules)=false) (hl:K.lookup d=some ⟨.type "dict",none,.dict es ep,#[]⟩) (he:es.toList=c5' w [("least one high",t0,.ref b0),("least one fall",t1,.ref b1),("least one calm",t2,.ref b2),("least all high",t3,.ref b3),("least all fall",t4,.ref b4),("least all calm",t5,.ref b5),("below one high",t6,.ref b6),("below one fall",t7,.ref b7),("below one calm",t8,.ref b8),("below all high",t9,.ref b9),("below all fall",t10,.ref b10),("below all calm",t11,.ref b11),("shares one",t12,.ref b12),("shares all",t13,.ref b13),("turns high",t14,.ref b14),("turns fall",t15,.ref b15),("turns calm",t16,.ref b16)])
  (u0:K.lookup b0=some ⟨.type "tuple",od0,.seq #[.str "least" x0,.str "one" y0,.str "high" v0] n0,sl0⟩)
  (u1:K.lookup b1=some ⟨.type "tuple",od1,.seq #[.str "least" x1,.str "one" y1,.str "fall" v1] n1,sl1⟩)
  (u2:K.lookup b2=some ⟨.type "tuple",od2,.seq #[.str "least" x2,.str "one" y2,.str "calm" v2] n2,sl2⟩)
  (u3:K.lookup b3=some ⟨.type "tuple",od3,.seq #[.str "least" x3,.str "all" y3,.str "high" v3] n3,sl3⟩)
  (u4:K.lookup b4=some ⟨.type "tuple",od4,.seq #[.str "least" x4,.str "all" y4,.str "fall" v4] n4,sl4⟩)
  (u5:K.lookup b5=some ⟨.type "tuple",od5,.seq #[.str "least" x5,.str "all" y5,.str "calm" v5] n5,sl5⟩)
  (u6:K.lookup b6=some ⟨.type "tuple",od6,.seq #[.str "below" x6,.str "one" y6,.str "high" v6] n6,sl6⟩)
  (u7:K.lookup b7=some ⟨.type "tuple",od7,.seq #[.str "below" x7,.str "one" y7,.str "fall" v7] n7,sl7⟩)
  (u8:K.lookup b8=some ⟨.type "tuple",od8,.seq #[.str "below" x8,.str "one" y8,.str "calm" v8] n8,sl8⟩)
  (u9:K.lookup b9=some ⟨.type "tuple",od9,.seq #[.str "below" x9,.str "all" y9,.str "high" v9] n9,sl9⟩)
  (u10:K.lookup b10=some ⟨.type "tuple",od10,.seq #[.str "below" x10,.str "all" y10,.str "fall" v10] n10,sl10⟩)
  (u11:K.lookup b11=some ⟨.type "tuple",od11,.seq #[.str "below" x11,.str "all" y11,.str "calm" v11] n11,sl11⟩)
  (u12:K.lookup b12=some ⟨.type "tuple",od12,.seq #[.str "shares" x12,.str "one" y12,.none] n12,sl12⟩)
  (u13:K.lookup b13=some ⟨.type "tuple",od13,.seq #[.str "shares" x13,.str "all" y13,.none] n13,sl13⟩)
  (u14:K.lookup b14=some ⟨.type "tuple",od14,.seq #[.str "turns" x14,.str "all" y14,.str "high" v14] n14,sl14⟩)
  (u15:K.lookup b15=some ⟨.type "tuple",od15,.seq #[.str "turns" x15,.str "all" y15,.str "fall" v15] n15,sl15⟩)
  (u16:K.lookup b16=some ⟨.type "tuple",od16,.seq #[.str "turns" x16,.str "all" y16,.str "calm" v16] n16,sl16⟩) :
  cm' K w mg d [b0,b1,b2,b3,b4,b5,b6,b7,b8,b9,b10,b11,b12,b13,b14,b15,b16]:=by
 refine⟨m,rfl,⟨hs,?_,[("least one high",t0,.ref b0),("least one fall",t1,.ref b1),("least one calm",t2,.ref b2),("least all high",t3,.ref b3),("least all fall",t4,.ref b4),("least all calm",t5,.ref b5),("below one high",t6,.ref b6),("below one fall",t7,.ref b7),("below one calm",t8,.ref b8),("below all high",t9,.ref b9),("below all fall",t10,.ref b10),("below all calm",t11,.ref b11),("shares one",t12,.ref b12),("shares all",t13,.ref b13),("turns high",t14,.ref b14),("turns fall",t15,.ref b15),("turns calm",t16,.ref b16)],_,es,ep,hl,⟨rfl,rfl,rfl⟩,rfl,he,?_⟩,?_⟩
 ·rw[dV_ rfl];exact fX_
 ·exact .cons ⟨rfl,rfl⟩ (.cons ⟨rfl,rfl⟩ (.cons ⟨rfl,rfl⟩ (.cons ⟨rfl,rfl⟩ (.cons ⟨rfl,rfl⟩ (.cons ⟨rfl,rfl⟩ (.cons ⟨rfl,rfl⟩ (.cons ⟨rfl,rfl⟩ (.cons ⟨rfl,rfl⟩ (.cons ⟨rfl,rfl⟩ (.cons ⟨rfl,rfl⟩ (.cons ⟨rfl,rfl⟩ (.cons ⟨rfl,rfl⟩ (.cons ⟨rfl,rfl⟩ (.cons ⟨rfl,rfl⟩ (.cons ⟨rfl,rfl⟩ (.cons ⟨rfl,rfl⟩ (.nil)))))))))))))))))
 ·exact .cons (tup3 u0 ⟨_,rfl⟩) (.cons (tup3 u1 ⟨_,rfl⟩) (.cons (tup3 u2 ⟨_,rfl⟩) (.cons (tup3 u3 ⟨_,rfl⟩) (.cons (tup3 u4 ⟨_,rfl⟩) (.cons (tup3 u5 ⟨_,rfl⟩) (.cons (tup3 u6 ⟨_,rfl⟩) (.cons (tup3 u7 ⟨_,rfl⟩) (.cons (tup3 u8 ⟨_,rfl⟩) (.cons (tup3 u9 ⟨_,rfl⟩) (.cons (tup3 u10 ⟨_,rfl⟩) (.cons (tup3 u11 ⟨_,rfl⟩) (.cons (tup3 u12 rfl) (.cons (tup3 u13 rfl) (.cons (tup3 u14 ⟨_,rfl⟩) (.cons (tup3 u15 ⟨_,rfl⟩) (.cons (tup3 u16 ⟨_,rfl⟩) (.nil)))))))))))))))))
structure Tg (P:Program) (w:World) (b:Heap):Prop where
theorem caQ{P:Program}{w:World}{K:F__}{mg:Str->Option Value}{base:Heap}{x:Str}{st:Stmt}{k:Nat}{ps:List Str}{sp:Sp}(q:Tg P w base)(d:Fd K mg x st)(ok:∀f fd,Fun K x x st f fd->FnOk P w K mg base CX0 k f fd ps sp)(h:∀(kV doc pm:Value) (an:Option Addr) (cdv ct:Value) (us:List Value),us.length=ps.length->bindArgs (PySem.W.fnOf x x (bd' st) (bb' st) (a3' st) .none kV doc pm an cdv ct) ⟨us,[]⟩=pure (ps.zip us):=by first|(exact fun _ _ _ _ _ _ us (hl:us.length=1)=>match us,hl with | [_],_=>rfl)|(exact fun _ _ _ _ _ _ us (hl:us.length=2)=>match us,hl with | [_,_],_=>rfl)|(exact fun _ _ _ _ _ _ us (hl:us.length=3)=>match us,hl with | [_,_,_],_=>rfl)|(exact fun _ _ _ _ _ _ us (hl:us.length=4)=>match us,hl with | [_,_,_,_],_=>rfl)|(exact fun _ _ _ _ _ _ us (hl:us.length=5)=>match us,hl with | [_,_,_,_,_],_=>rfl)):Cal P w K mg base k x ps sp:=cal d ok h
theorem caM{P:Program}{w:World}{K:F__}{mg:Str->Option Value}{base:Heap}{C:Addr}{m qual:Str}{st:Stmt}{k:Nat}{ps:List Str}{sp:Sp}(q:Tg P w base)(d:Md K C m qual st)(ok:∀f fd,Fun K m qual st f fd->FnOk P w K mg base CX0 k f fd ps sp)(h:∀(kV doc pm:Value) (an:Option Addr) (cdv ct:Value) (us:List Value),us.length=ps.length->bindArgs (PySem.W.fnOf m qual (bd' st) (bb' st) (a3' st) .none kV doc pm an cdv ct) ⟨us,[]⟩=pure (ps.zip us):=by first|(exact fun _ _ _ _ _ _ us (hl:us.length=1)=>match us,hl with | [_],_=>rfl)|(exact fun _ _ _ _ _ _ us (hl:us.length=2)=>match us,hl with | [_,_],_=>rfl)|(exact fun _ _ _ _ _ _ us (hl:us.length=3)=>match us,hl with | [_,_,_],_=>rfl)|(exact fun _ _ _ _ _ _ us (hl:us.length=4)=>match us,hl with | [_,_,_,_],_=>rfl)|(exact fun _ _ _ _ _ _ us (hl:us.length=5)=>match us,hl with | [_,_,_,_,_],_=>rfl)):CalM P w K mg base C k m ps sp:=calM d ok h
theorem caX{P:Program}{w:World}{K:F__}{mg:Str->Option Value}{base:Heap}{C:Addr}{m qual:Str}{st:Stmt}{k:Nat}{ps:List Str}{sp:Sp}(q:Tg P w base)(d:Md K C m qual st)(ok:∀f fd,Fun K m qual st f fd->FnOk P w K mg base (CX1 P w) k f fd ps sp)(h:∀(kV doc pm:Value) (an:Option Addr) (cdv ct:Value) (us:List Value),us.length=ps.length->bindArgs (PySem.W.fnOf m qual (bd' st) (bb' st) (a3' st) .none kV doc pm an cdv ct) ⟨us,[]⟩=pure (ps.zip us):=by first|(exact fun _ _ _ _ _ _ us (hl:us.length=1)=>match us,hl with | [_],_=>rfl)|(exact fun _ _ _ _ _ _ us (hl:us.length=2)=>match us,hl with | [_,_],_=>rfl)|(exact fun _ _ _ _ _ _ us (hl:us.length=3)=>match us,hl with | [_,_,_],_=>rfl)|(exact fun _ _ _ _ _ _ us (hl:us.length=4)=>match us,hl with | [_,_,_,_],_=>rfl)|(exact fun _ _ _ _ _ _ us (hl:us.length=5)=>match us,hl with | [_,_,_,_,_],_=>rfl)):CalX P w K mg base C k m ps sp:=calX d ok h
theorem caC{P:Program}{w:World}{K:F__}{mg:Str->Option Value}{base:Heap}{C:Addr}{x qual:Str}{st:Stmt}{k:Nat}{ps:List Str}{sp:Sp}(q:Tg P w base)(d:Md K C "__init__" qual st)(hx:mg x=some (.ref C))(mk:PySem.W.makesIn K C=true)(kc:PySem.W.keepIn K (.ref C)=true)(ok:∀f fd,Fun K "__init__" qual st f fd->FnOk P w K mg base CX0 k f fd ps sp)(h:∀(kV doc pm:Value) (an:Option Addr) (cdv ct:Value) (us:List Value),us.length=ps.length->bindArgs (PySem.W.fnOf "__init__" qual (bd' st) (bb' st) (a3' st) .none kV doc pm an cdv ct) ⟨us,[]⟩=pure (ps.zip us):=by first|(exact fun _ _ _ _ _ _ us (hl:us.length=1)=>match us,hl with | [_],_=>rfl)|(exact fun _ _ _ _ _ _ us (hl:us.length=2)=>match us,hl with | [_,_],_=>rfl)|(exact fun _ _ _ _ _ _ us (hl:us.length=3)=>match us,hl with | [_,_,_],_=>rfl)|(exact fun _ _ _ _ _ _ us (hl:us.length=4)=>match us,hl with | [_,_,_,_],_=>rfl)|(exact fun _ _ _ _ _ _ us (hl:us.length=5)=>match us,hl with | [_,_,_,_,_],_=>rfl)):CalC P w K mg base C k x ps sp:=calC d hx mk kc ok h
set_option maxHeartbeats 3200000 in
theorem all_mk{l:PySem.W.OpenLaw}{w:World}{K:F__}{h:Heap}{mg:Str->Option Value}{fa CW CG CS CP d fl fh fr c1 c2 T1 T2:Addr}{as:List Addr}(X:K.In h)(G:h.Ns mainGlobals mg)(hfa:mg "law"=some (.ref fa))
  (f0:Fd K mg "is_whole" sIsW)
  (f1:Fd K mg "is_whole_from" cN')
  (f2:Fd K mg "is_whole_within" sWhole)
  (f3:Fd K mg "is_name" sName)
  (f4:Fd K mg "lesser_first" cG')
  (f5:Fd K mg "is_pair_of_names" sPair)
  (f6:Fd K mg "sorted_ties" cI')
  (f7:Fd K mg "greatest_divisor" sGd)
  (f8:Fd K mg "least_multiple" sLM)
  (f9:Fd K mg "is_hand_with_strength" sHand)
  (f10:Fd K mg "checked_strengths" sStr)
  (f11:Fd K mg "checked_ties" sTies)
  (f12:Fd K mg "neighbours_of_all" sNear)
  (f13:Fd K mg "checked_ways" sCWays)
  (f14:Fd K mg "checked_piece" cQ')
  (f15:Fd K mg "checked_pieces" cn')
  (f16:Fd K mg "checked_stand" cD')
  (f17:Fd K mg "loads_at" ci')
  (f18:Fd K mg "multiple_of_strengths" sMult)
  (f19:Fd K mg "levels_at" cR')
  (f20:Fd K mg "is_rule" cP')
  (f21:Fd K mg "checked_words" sWords)
  (f22:Fd K mg "fits" sFits)
  (f23:Fd K mg "heaviest_move" sHvM)
  (f24:Fd K mg "ties_anew" sAnew)
  (f25:Fd K mg "first_row_without" b8')
  (f26:Fd K mg "moves_by_turns" cr')
  (f27:Fd K mg "moves_seen" sSeen)
  (f28:Fd K mg "checked_start" cT')
  (f29:Fd K mg "checked_moments" b6')
  (f30:Fd K mg "moves_of" co')
  (f31:Fd K mg "_law_cell_at" sCell)
  (f32:Fd K mg "_law_mixed" sMixed)
  (f33:Fd K mg "_law_state" sState)
  (f34:Fd K mg "_law_digit" sDigit)
  (f35:Fd K mg "_law_named" sNamed)
  (f36:Fd K mg "_law_web" sLWeb)
  (f37:Fd K mg "_law_weight" ck')
  (f38:Fd K mg "_law_ways" sWaysL)
  (f39:Fd K mg "_law_goods" cX')
  (f40:Fd K mg "_law_world" sWorld)
  (f41:Fd K mg "_law_held" sHeld)
  (f42:Fd K mg "_law_drop" sDrop)
  (f43:Fd K mg "_law_may" sMayL)
  (f44:Fd K mg "_law_is_fit" sIsFit)
  (f45:Fd K mg "_law_heaviest" sHvL)
  (f46:Fd K mg "_law_best" sBest)
  (f47:Fd K mg "_law_rows" sRowsL)
  (f48:Fd K mg "_law_by_turn" cM')
  (m0:Md K CW "__init__" "Web.__init__" sInit)
  (m1:Md K CW "has_hand" "Web.has_hand" sHas)
  (m2:Md K CW "hands" "Web.hands" sHands)
  (m3:Md K CW "strength" "Web.strength" ca')
  (m4:Md K CW "neighbours" "Web.neighbours" sNeigh)
  (m5:Md K CW "are_tied" "Web.are_tied" sTied)
  (m6:Md K CW "ties" "Web.ties" sTiesM)
  (m7:Md K CW "turns" "Web.turns" sTurns)
  (m8:Md K CG "__init__" "Goods.__init__" sGInit)
  (m9:Md K CG "has_piece" "Goods.has_piece" sGHas)
  (m10:Md K CG "names" "Goods.names" cW')
  (m11:Md K CG "weight" "Goods.weight" cj')
  (m12:Md K CG "may_go" "Goods.may_go" sGMay)
  (m13:Md K CS "__init__" "Sight.__init__" sSInit)
  (m14:Md K CS "lead" "Sight.lead" sLead)
  (m15:Md K CS "joint_strength" "Sight.joint_strength" sJoint)
  {ocl kVl dcl pml ctl:Value} {odl anl:Option Addr} {sll:Array (Option Value)} {och kVh dch pmh cth:Value} {odh anh:Option Addr} {slh:Array (Option Value)} {ocr kVr dcr pmr ctr:Value} {odr anr:Option Addr} {slr:Array (Option Value)} {cdl:Value} {t8 t9 t10 t11:Tok}
  (al:PySem.W.nsIn K mainGlobals "law"=some (some (.ref fl))) (ll:K.lookup fl=some ⟨ocl,odl,.func (PySem.W.fnOf "law" "law" (bd' sLaw) (bb' sLaw) (a3' sLaw) .none kVl dcl pml anl cdl ctl),sll⟩) (cl:PySem.W.codeIn K cdl "law"=true) (kl:PySem.W.keepIn K (.ref fl)=true) (ah:PySem.W.nsIn K mainGlobals "heaviest_first"=some (some (.ref fh))) (lh:K.lookup fh=some ⟨och,odh,.func (PySem.W.fnOf "heaviest_first" "heaviest_first" (bd' sHvF) (bb' sHvF) (a3' sHvF) .none kVh dch pmh anh (.ref c1) cth),slh⟩) (hcd:PySem.W.codeIn K (.ref c1) "heaviest_first"=true) (kh:PySem.W.keepIn K (.ref fh)=true) (h1:PySem.W.codeHdIn K c1 T1=true) (aW:PySem.W.nsIn K mainGlobals "Web"=some (some (.ref CW))) (aG:PySem.W.nsIn K mainGlobals "Goods"=some (some (.ref CG))) (aS:PySem.W.nsIn K mainGlobals "Sight"=some (some (.ref CS))) (eP:PySem.W.nsIn K mainGlobals "NoPiece"=some (some (.ref CP))) (xP:PySem.W.excIn K CP [.type "ValueError",.type "Exception",.type "BaseException",.type "object"] "ValueError.__new__"=true) (ar:PySem.W.findIn K (.ref CS) "rising_neighbours"=some (some (.ref fr))) (lr:K.lookup fr=some ⟨ocr,odr,.func (PySem.W.fnOf "rising_neighbours" "Sight.rising_neighbours" (bd' sRisN) (bb' sRisN) (a3' sRisN) .none kVr dcr pmr anr (.ref c2) ctr),slr⟩) (h2:PySem.W.codeHdIn K c2 T2=true) (c8_:PySem.W.nsIn K mainGlobals "MOST_LETTERS"=some (some (.int 8 t8))) (c9_:PySem.W.nsIn K mainGlobals "MOST_HANDS"=some (some (.int 8 t9))) (c10_:PySem.W.nsIn K mainGlobals "MOST_STRENGTH"=some (some (.int 1000 t10))) (c11_:PySem.W.nsIn K mainGlobals "MOST_WEIGHT"=some (some (.int 1000000000 t11))) (wpg:PySem.W.plainGet K CW Str.empty=true) (whd:PySem.W.hasDictIn K CW=true) (wpo:PySem.W.plainOver K CW=true) (wsa:PySem.W.findIn K (.ref CW) "__setattr__"=some (some (.builtin "object.__setattr__"))) (wmk:PySem.W.makesIn K CW=true) (wkc:PySem.W.keepIn K (.ref CW)=true) (wn0:PySem.W.findIn K (.ref CW) "strength_by_hand"=some none) (wn1:PySem.W.findIn K (.ref CW) "sorted_pairs"=some none) (wn2:PySem.W.findIn K (.ref CW) "neighbours_by_hand"=some none) (gpg:PySem.W.plainGet K CG Str.empty=true) (ghd:PySem.W.hasDictIn K CG=true) (gpo:PySem.W.plainOver K CG=true) (gsa:PySem.W.findIn K (.ref CG) "__setattr__"=some (some (.builtin "object.__setattr__"))) (gmk:PySem.W.makesIn K CG=true) (gkc:PySem.W.keepIn K (.ref CG)=true) (gn0:PySem.W.findIn K (.ref CG) "web"=some none) (gn1:PySem.W.findIn K (.ref CG) "weight_by_name"=some none) (gn2:PySem.W.findIn K (.ref CG) "ways_by_name"=some none) (spg:PySem.W.plainGet K CS Str.empty=true) (shd:PySem.W.hasDictIn K CS=true) (spo:PySem.W.plainOver K CS=true) (ssa:PySem.W.findIn K (.ref CS) "__setattr__"=some (some (.builtin "object.__setattr__"))) (smk:PySem.W.makesIn K CS=true) (skc:PySem.W.keepIn K (.ref CS)=true) (sn0:PySem.W.findIn K (.ref CS) "wares"=some none) (sn1:PySem.W.findIn K (.ref CS) "load_by_hand"=some none) (sn2:PySem.W.findIn K (.ref CS) "level_by_hand"=some none) (sn3:PySem.W.findIn K (.ref CS) "pieces_by_hand"=some none) (iha:PySem.W.findIn K (.ref CW) "__class__"=some (some (.builtin "object.__class__"))) (ihn:PySem.W.specialIn K (.builtin "object.__class__") "__get__"=some (some (.builtin "getset_descriptor.__get__"))) (itk:PySem.W.takesIn K (.builtin "object.__class__")=some true) (imo:PySem.W.mroIn K CW (.type "object")=some true) (zS:PySem.W.nsIn K mainGlobals "set"=some none) (z0:PySem.W.nsIn K mainGlobals "isinstance"=some none) (z1:PySem.W.nsIn K mainGlobals "int"=some none) (z2:PySem.W.nsIn K mainGlobals "bool"=some none) (z3:PySem.W.nsIn K mainGlobals "str"=some none) (z4:PySem.W.nsIn K mainGlobals "tuple"=some none) (z5:PySem.W.nsIn K mainGlobals "list"=some none) (z6:PySem.W.nsIn K mainGlobals "dict"=some none) (z7:PySem.W.nsIn K mainGlobals "len"=some none) (z8:PySem.W.nsIn K mainGlobals "all"=some none) (z9:PySem.W.nsIn K mainGlobals "sorted"=some none) (z10:PySem.W.nsIn K mainGlobals "max"=some none) (z11:PySem.W.nsIn K mainGlobals "range"=some none) (z12:PySem.W.nsIn K mainGlobals "any"=some none) (z13:PySem.W.nsIn K mainGlobals "enumerate"=some none) (z14:PySem.W.nsIn K mainGlobals "min"=some none) (z15:PySem.W.nsIn K mainGlobals "abs"=some none) (R:cm' K w mg d as) :
  ∃fd:FuncData,(∀(s:Shared) (v:Value),BindsTo s fd ⟨[v],[]⟩ [("_law_script",v)])/\(∀T'∈[T2,T1],isCodeTable h T')/\∀base:Heap,K.In base->base.Ns mainGlobals mg->(∀T'∈[T2,T1],base.BuiltinsAt mg T')->FnOk l.prog w K mg base CX0 10 fa fd ["_law_script"] (spLaw K T1 T2):=by
 have e:=hfa.symm.trans (PySem.W.mg_of X G al);cases e;have B:Bi mg:=⟨PySem.W.mg_none_of X G z0,PySem.W.mg_none_of X G z1,PySem.W.mg_none_of X G z2,PySem.W.mg_none_of X G z3,PySem.W.mg_none_of X G z4,PySem.W.mg_none_of X G z5,PySem.W.mg_none_of X G z6,PySem.W.mg_none_of X G z7,PySem.W.mg_none_of X G z8,PySem.W.mg_none_of X G z9,PySem.W.mg_none_of X G z10,PySem.W.mg_none_of X G z11,PySem.W.mg_none_of X G z12,PySem.W.mg_none_of X G z13,PySem.W.mg_none_of X G z14,PySem.W.mg_none_of X G z15⟩;have TW:Txt K mg CW:=⟨⟨wpg,whd,wpo,wsa⟩,wn0,wn1,wn2⟩;have TG:TxtG K CG:=⟨⟨gpg,ghd,gpo,gsa⟩,gn0,gn1,gn2⟩;have TS:TxtS K CS:=⟨⟨spg,shd,spo,ssa⟩,sn0,sn1,sn2,sn3⟩;have IW:InsK K CW:=⟨iha,ihn,itk,imo⟩;have RP:Ref K mg "NoPiece" CP:=⟨PySem.W.mg_of X G eP,xP⟩;have FL:=gM_ (st:=sLaw) ll cl kl;have FH:FunC K "heaviest_first" "heaviest_first" sHvF fh c1 _:=⟨⟨_,_,_,_,_,_,_,_,rfl,lh,hcd⟩,kh⟩;refine⟨PySem.W.fnOf "law" "law" (bd' sLaw) (bb' sLaw) (a3' sLaw) .none kVl dcl pml anl cdl ctl,fun s v=>.of_eq rfl,fun T' hT'=>?_,fun base KB _ hbm=>?_⟩
 ·have hT':T'=T2∨T'=T1:=by simpa using hT'
  rcases hT'.symm with rfl|rfl
  ·obtain⟨o,vs',file,tf,flags,tg,inF,text,tt,q1,q2,q3,q4,_⟩:=PySem.W.codeHd_of_K X h1;exact⟨c1,o,vs',q1,q2,q3,q4⟩
  ·obtain⟨o,vs',file,tf,flags,tg,inF,text,tt,q1,q2,q3,q4,_⟩:=PySem.W.codeHd_of_K X h2;exact⟨c2,o,vs',q1,q2,q3,q4⟩
 have q:Tg l.prog w base:=⟨⟩;have cIsW:=caQ q f0 fun _ _ F=>jT_ F B;have cWhole:=caQ q f2 fun _ _ F=>hH_ F cIsW;have cWhF:=caQ q f1 fun _ _ F=>gH_ F cIsW;have cName:=caQ q f3 fun _ _ F=>jm_ F B (PySem.W.mg_of X G c8_);have cLsr:=caQ q f4 fun _ _ F=>gs_ F;have cPair:=caQ q f5 fun _ _ F=>jy_ F B cName;have cSort:=caQ q f6 fun _ _ F=>fQ_ F B cPair cLsr;have cHand:=caQ q f9 fun _ _ F=>iQ_ F B cName cWhole (PySem.W.mg_of X G c10_);have cStr:=caQ q f10 fun _ _ F=>kl_ F B cHand (PySem.W.mg_of X G c9_);have cTies:=caQ q f11 fun _ _ F=>jA_ F B cSort;have cNear:=caQ q f12 fun _ _ F=>jw_ F cLsr;have cWeb:=caC q m0 (PySem.W.mg_of X G aW) wmk wkc fun _ _ F=>is_ F TW B cStr cTies cNear;have mHas:=caM q m1 fun _ _ F=>k5_ F TW B;have mHasA:=caM q m1 fun _ _ F=>iz_ F TW B;have mHands:=caM q m2 fun _ _ F=>hM_ F TW B;have mStr:=caM q m3 fun _ _ F=>e9_ F TW mHas;have mNei:=caM q m4 fun _ _ F=>i1_ F TW B mHas;have mTied:=caM q m5 fun _ _ F=>hO_ F TW mHasA;have cCWy:=caQ q f13 fun _ _ F=>hZ_ F TW cSort mTied;have cCP:=caQ q f14 fun _ _ F=>gO_ F B cName cWhole cCWy (PySem.W.mg_of X G c11_);have cCPs:=caQ q f15 fun _ _ F=>fb_ F B cCP;have cGoods:=caC q m8 (PySem.W.mg_of X G aG) gmk gkc fun _ _ F=>ho_ F TG TW IW B (PySem.W.mg_of X G aW) cCPs;have gHas:=caM q m9 fun _ _ F=>jh_ (CW:=CW) F TG B;have gNames:=caM q m10 fun _ _ F=>gf_ (CW:=CW) F TG B;have gWeight:=caX q m11 fun _ _ F=>fe_ F TG RP gHas;have gMay:=caX q m12 fun _ _ F=>jj_ F TG TW RP gHas mTied cLsr;have cGd:=caQ q f7 fun _ _ F=>kw_ F;have cLM:=caQ q f8 fun _ _ F=>kx_ F cGd;have cCS:=caQ q f16 fun _ _ F=>fM_ F B TG TW gHas mHas gNames;have cLA:=caQ q f17 fun _ _ F=>f9_ F B TG TW mHands gWeight;have cMu:=caQ q f18 fun _ _ F=>it_ F TW cLM mHands mStr;have cLv:=caQ q f19 fun _ _ F=>fN_ F TG TW cLA cMu mStr;have cHF:Cal l.prog w K mg base 6 "heaviest_first" ["goods","placed"] (spHvF K CG CW T1):=⟨_,_,jN_ FH B TG TW (PySem.W.codeHd_of_K KB h1) (hbm T1 (by simp)) mHands gWeight,PySem.W.mg_of X G ah,kh,FH.fn.binds (fun _ _ _ _ _ _ us (hl:us.length=2)=>match us,hl with | [_,_],_=>rfl)⟩;have cSight:=caC q m13 (PySem.W.mg_of X G aS) smk skc fun _ _ F=>i3_ F TS cLA cLv cHF;have sLd:=caM q m14 fun _ _ F=>j7_ F TS TG TW mStr;have sJn:=caM q m15 fun _ _ F=>hR_ F TS TG TW mStr;have cIR:=caQ q f20 fun _ _ F=>fy_ F B R;have cWs:=caQ q f21 fun _ _ F=>hy_ F R cIR;have cFi:=caQ q f22 fun _ _ F=>iv_ F;have cHM:=caQ q f23 fun _ _ F=>jG_ F TS TG sLd sJn cFi gWeight gMay;have cAn:=caQ q f24 fun _ _ F=>ju_ F;have mTi:=caM q m6 fun _ _ F=>hA_ F TW cAn;have cRo:=caQ q f25 fun _ _ F=>k2_ F B;have mTu:=caM q m7 fun _ _ F=>h0_ F B TW mTi cRo;have cBT:=caQ q f26 fun _ _ F=>fj_ F B TS TG TW mTu cHM;have cSe:=caQ q f27 fun _ _ F=>h6_ F cWs cBT;have cSta:=caQ q f28 fun _ _ F=>go_ F cWs cCS;have cMo:=caQ q f29 fun _ _ F=>eq_ F cWhF;have cMv:=caQ q f30 fun _ _ F=>en_ (T2:=T2) F cSta cSight cSe cMo;have cCell:=caQ q f31 fun _ _ F=>j8_ F B;have cMx:=caQ q f32 fun _ _ F=>hE_ F;have cStt:=caQ q f33 fun _ _ F=>hn_ F;have cDig:=caQ q f34 fun _ _ F=>hI_ F cMx;have cNm:=caQ q f35 fun _ _ F=>hU_ F B cDig;have cLW:=caQ q f36 fun _ _ F=>j0_ F B cDig cNm;have cWt:=caQ q f37 fun _ _ F=>fw_ F cDig;have cWy:=caQ q f38 fun _ _ F=>hz_ F B cDig;have cGo:=caQ q f39 fun _ _ F=>fY_ F B cDig cNm cWt cWy;have cWd:=caQ q f40 fun _ _ F=>h8_ F B;have cHe:=caQ q f41 fun _ _ F=>jb_ F B;have cDr:=caQ q f42 fun _ _ F=>iu_ F;have cMa:=caQ q f43 fun _ _ F=>j1_ F;have cIF:=caQ q f44 fun _ _ F=>hP_ F;have cHL:=caQ q f45 fun _ _ F=>k0_ F B;have cBe:=caQ q f46 fun _ _ F=>iX_ F cDr cHe cMa cIF cHL;have cRw:=caQ q f47 fun _ _ F=>hG_ F B;have cByT:=caQ q f48 fun _ _ F=>fG_ F B cRw cBe;exact kk_ FL B (PySem.W.mg_none_of X G zS) cCell cStt cDig cLW cGo cWd cRw cByT cWeb cGoods cMv
theorem gv_{H:Hp}{T:Addr}{q:Str}(h:H T=some (.tbl #[])):bu' H T q:=⟨[],h,fun e he=>by cases he⟩
theorem walk{l:PySem.W.OpenLaw}{q:Program}{loose:List Str}{XP:(Str->Option Value)->Heap->Prop}{d:DefRec}{K:Params->F__}{as:List Addr}{T1 T2:Addr}{eas:∀P:Params,as=(K P).map (·.1)}(hn:l.most=some 63)(hdf:d.params.defaults=[])(hts:([T2,T1].all fun T=>!as.contains T)=true)(ne:T1≠T2)
  (F:∀(w:World) (mg:Str->Option Value) (fa:Addr) (h:Heap),(K w.params).In h->h.Ns mainGlobals mg->mg d.name=some (.ref fa)->
   ∃fd:FuncData,(∀(s:Shared) (u:Value),BindsTo s fd ⟨[u],[]⟩ [("_law_script",u)])/\(∀T'∈[T2,T1],isCodeTable h T')/\∀base:Heap,(K w.params).In base->base.Ns mainGlobals mg->(∀T'∈[T2,T1],base.BuiltinsAt mg T')->FnOk l.prog w (K w.params) mg base CX0 10 fa fd ["_law_script"] (spLaw (K w.params) T1 T2)) :
  PySem.W.WalkO q loose XP (PySem.W.kmHook K as eas [T2,T1]).says l.row.toRowW d [] (fun f vs=>PySem.call f vs):=
 L2.walk_ofT (n:=63) (k:=10) (x:="_law_script") (CX:=fun _=>CX0) (sp:=fun w=>spLaw (K w.params) T1 T2) hn (by decide) hdf ⟨rfl,by decide,by decide⟩ hts F (fun _ _ a ns hl hT hS=>⟨a,ns,rfl,⟨gv_ (hT T1 (by simp)),gv_ (hT T2 (by simp)),ne⟩,hS,hl,fun _=>rfl⟩) fun _ _ _ _ _ z=>z
end Ev
namespace PySem.W.Fast
def tw5130378208274247072:=()
def tw12118378796844473856:=()
def tw4382328447975420449:=()
def tw10860251229384216225:=()
def tw9068946582181274305:=()
def tw13760541132456573283:=()
def tw10502190749455578630:=()
def tw1461443060281103910:=()
def tw13883310746073432806:=()
def tw7146568820535325670:=()
def tw3497683162193679816:=()
def tw413942766099821192:=()
def tw6524050501862721289:=()
def tw17790001155447125769:=()
def tw2436949166403830220:=()
def tw12976526960922571789:=()
def tw10925916041375959853:=()
def tw1939815762981986125:=()
def tw7190643418517901745:=()
def tw17762059152572417716:=()
def tw9616138630524263188:=()
def tw10128271052562358037:=()
def tw1077896823181082581:=()
def tw10599492769235865014:=()
def tw2407806837904662102:=()
def tw137795625561350487:=()
def tw2679471813284949272:=()
def tw691291317216979066:=()
def tw16237809423891690778:=()
def tw6968645448334726907:=()
def tw4394764217359670652:=()
def tw406553873334152892:=()
def tw6708077717396514716:=()
def tw7271767824963500285:=()
def tw13380533133508906365:=()
def tw10949671287903892253:=()
def tw1642509222004990909:=()
def tw9096778898825924862:=()
def tw9662338417208181054:=()
def tw4763776942483929823:=()
def tw11010262523229276127:=()
def tw6820020500289531053:=()
def tw16481588153894381044:=()
def tw8846853469634213951:=()
def tw4461791183117316687:=()
def tw2872542928614328265:=()
def tw14419840807082190614:=()
def tw4040118884236228969:=()
def tw12320053166079693204:=()
def tw15082093943669387197:=()
def tw6094911805208111783:=()
def tw2406675884733869026:=()
def tw17156627084731094103:=()
def tw14717098073295665968:=()
def tw2233927769291234348:=()
def tw13273919212937547040:=()
def tw13074142019514370221:=()
def tw17426575490581165251:=()
def tw7164162237602497877:=()
def tw11848934262723180665:=()
def tw8676865078237689407:=()
def tw8946381983944429648:=()
def tw14735141847105000143:=()
def tw15683638568399980627:=()
def tw16336095971926252477:=()
def tw10402884767460923601:=()
def tw12618736077226356238:=()
def tw5389147524362636203:=()
def tw18441344677694891512:=()
def tw7581777147109730974:=()
def tw14889220776229655710:=()
def tw11369395717634384800:=()
def tw7052363606631673013:=()
def tw598535501138913788:=()
def tw8422845557980561112:=()
def tw9418232713752559795:=()
def tw12583009108844042291:=()
def tw3662488072571868785:=()
def tw4321376078878231974:=()
def tw284961874705018641:=()
def tw582878736358435025:=()
def tw16714967358874591234:=()
def tw10548740760445998365:=()
def tw14446246431794427256:=()
def tw15724576197213692825:=()
def tw16052955046248536778:=()
def tw12710234408593139753:=()
def tw11929777340164798049:=()
def tw15861940802552008792:=()
def tw13804908407251343150:=()
def tw82345611010588225:=()
def tw5102327270126068172:=()
def tw15929747800658203570:=()
def tw17181301251250294167:=()
def tw17883048711350791040:=()
def tw3549899738252711975:=()
def tw5971440763013289920:=()
def tw6794396327876391428:=()
def tw16829296501518171917:=()
def tw6983762702956928465:=()
def tw13425755410642811142:=()
def tw14768187726652014030:=()
def tw4630834226443674986:=()
def tw13548742780474187822:=()
def tw3339920974535175924:=()
def tw12364396489674807542:=()
def tw3902311054563066112:=()
def tw7170060112604103265:=()
def tw1408075276084546500:=()
def tw7638680158660265884:=()
def tw6925937621817075039:=()
def tw14113932705408303684:=()
def tw7506263262646589687:=()
def tw3546759538268680976:=()
def tw1573998246922021856:=()
def tw8246022971527686923:=()
def tw13737663581348163537:=()
def tw13216933638087950865:=()
def tw5001253311884643642:=()
def tw9368355996365712853:=()
def tw12194718091930299139:=()
def tw14434394614180059489:=()
def tw8521076613979402414:=()
def tw11509494893138086330:=()
def tw16451785151605548455:=()
def tw9436277665946613284:=()
def tw7366811929079551621:=()
def tw1492809410865010125:=()
def tw9984022481300435436:=()
def tw16157579173259494290:=()
def tw5528027188905532320:=()
def tw14577301485718772970:=()
def tw6624734254484526126:=()
def tw1750192100620310606:=()
def tw15374214880033620195:=()
def tw10972998356694673355:=()
def tw2161023412648927304:=()
def tw4762075424386340843:=()
def tw15322558878327899099:=()
def tw1632736954129549333:=()
def tw11447006195388870374:=()
def tw555453603460611916:=()
def tw8878230074353824465:=()
def tw9408018948293854440:=()
def tw14732934677933913516:=()
def tw10090169545437604091:=()
def tw10595898163880985096:=()
def tw171228454615941570:=()
def tw8376150555326840520:=()
def tw275328069436655184:=()
def tw9685568363987122111:=()
def tw15254367812029077601:=()
def tw16806602269787144467:=()
def tw18316851231525253812:=()
def tw8859839176002787762:=()
def tw4405060946688419810:=()
def tw6143641097277057935:=()
def tw10305260520256134224:=()
def tw7223870831606695541:=()
def tw13529122015801983393:=()
def tw15703808573161659980:=()
def tw16197254197000570368:=()
def tw142906452276913838:=()
def tw1023416933093636472:=()
def tw6899301062559025758:=()
def tw15336516174269686676:=()
def tw15503377145074854254:=()
def tw4937167116809784626:=()
def tw11323557269263953343:=()
def tw3977081375397284591:=()
def tw976958975802602513:=()
def tw12100578694061476239:=()
def tw16545702517774124980:=()
def tw5385035686068900170:=()
def tw2382442298011614428:=()
def tw10637530635798645844:=()
def tw570911833677024708:=()
def tw8146869920894672075:=()
def tw3052874734884547429:=()
def tw3756536031767844312:=()
def tw5398629831531042635:=()
def tw15304315104303575049:=()
def tw16348341708241584917:=()
def tw15260984266677595038:=()
def tw8896804256260440635:=()
def tw6023657766848035696:=()
def tw10247356419283856922:=()
def tw1565803306920588577:=()
def tw1536264491112373441:=()
def tw13692988013259557350:=()
def tw7444860055583975119:=()
def tw14892673268003638428:=()
def tw8796147395316355214:=()
def tw18440778188716885138:=()
def tw7352777500653343839:=()
def tw17211623088460306523:=()
def tw3337451196755390060:=()
def tw16583448181882083571:=()
def tw11000081171432350556:=()
def tw9422286354553554599:=()
def tw8695821037036445057:=()
def tw16555327747116658858:=()
def tw3963714453677592728:=()
def tw11280011855292839816:=()
def tw337016673927447289:=()
def tw18339245505227461663:=()
def tw17604852956740773273:=()
def tw9803322873067647144:=()
def tw73487008673597850:=()
def tw3122849326441196174:=()
def tw16851572625007543512:=()
def tw11316918088731209837:=()
def tw1758462119393510377:=()
def tw2529229803235943384:=()
def tw7335825159713120124:=()
def tw5467992483402408844:=()
def tw15148647670484460012:=()
def tw9460477919555382768:=()
def tw11228813130114732905:=()
def tw17487356639132363620:=()
def tw12557742183076443301:=()
def tw5216099686515606724:=()
def tw7340956904092268133:=()
def tw10290691066083678379:=()
def tw1823780871747192153:=()
def tw13431870101384762837:=()
def tw11759677330697754872:=()
def tw11652840122100336356:=()
def tw2853711856359472039:=()
def tw13123446753347749309:=()
def tw7855367843381692840:=()
def tw15604158276813713980:=()
def tw14473044549122458220:=()
def tw8578805136400040558:=()
def tw11848657421987863935:=()
def tw5913386513057732667:=()
def tw7137619232741739691:=()
def tw11635513991671917455:=()
def tw8081145054031997595:=()
def tw10159191704659039426:=()
def tw7700280481203852787:=()
def tw10800447155513481353:=()
def tw9017025416552330725:=()
def tw14157146952670129408:=()
def tw15034050879021702342:=()
def tw14900507226761278948:=()
def tw16360353637773919411:=()
def tw15981226330057369581:=()
def tw15890759975196565113:=()
def tw10086668572815886305:=()
def tw10632156959486811114:=()
def tw17202054407166365942:=()
def tw13854402931478366963:=()
def tw1439134783427770122:=()
def tw18235855535933327585:=()
def tw9724972389971321894:=()
def tw14587736344442113511:=()
def tw17527625901050680795:=()
def tw16257234843672269239:=()
def tw15955533218560840186:=()
def tw7703617943101293417:=()
def tw15697694897044724638:=()
def tw14667606860051060924:=()
def tw6827731005501433415:=()
def tw11161050171121247286:=()
def tw12178153668545631122:=()
def tw14851329899295281618:=()
def tw14372932133087430872:=()
def tw10731446179215197963:=()
def tw15909227495263631889:=()
def tw14087625560287608351:=()
def tw7988822156410486205:=()
def tw2936618125866257718:=()
def tw459345413686799609:=()
def tw6183852817037648212:=()
def tw4550776998064537006:=()
def tw9863080467769263672:=()
def tw4871815363181099840:=()
def tw687169279940784147:=()
def tw8386427066030478176:=()
def tw12924866387228676535:=()
def tw12419514989069137945:=()
def tw7908865628305967934:=()
def tw2739157587836222626:=()
def tw12304282734622914080:=()
def tw3573192474690122741:=()
def tw3577394353730665646:=()
def tw17761941345621714946:=()
def tw12151307144033899286:=()
def tw10100361663881799862:=()
def tw17342761744554362248:=()
def tw5831515081164134387:=()
def tw8624169770917046450:=()
def tw10644292682445081730:=()
def tw7378400297090157522:=()
def tw14900486982685327684:=()
def tw6463158260570052995:=()
def tw11811117435352483874:=()
def tw17417020254624245492:=()
def tw407331135383830806:=()
def tw15382264268872165109:=()
def tw14650653484403242126:=()
def tw17132558977422304370:=()
def tw3924933093507846342:=()
def tw2488587177421113048:=()
def tw6238049345226690729:=()
def tw4680571180599879849:=()
def tw5712891636685176164:=()
def tw1859177637110568936:=()
def tw4661890892690323201:=()
def tw8754362117878964082:=()
def tw13322706554919108008:=()
def tw2908316233717158373:=()
def tw13911188147009316786:=()
def tw12165426922386609546:=()
def tw16928149507823489127:=()
def tw8945456343664844153:=()
def tw11919079870021185741:=()
def tw10883852641950208551:=()
def tw4293985136517855849:=()
def tw905964185868067660:=()
def tw9173076203343618743:=()
def tw9570286057974325455:=()
def tw662434077960769182:=()
def tw13053101680705473601:=()
def tw1249793031558605016:=()
def tw15586171997331373873:=()
def tw8243925860211209443:=()
def tw3456828308148154808:=()
def tw14572223552069943179:=()
def tw17559831696220843833:=()
def tw10102338795257195329:=()
def tw3351615250400188190:=()
def tw11360970374877823788:=()
def tw12358085136094508645:=()
def tw14654924070671418290:=()
def tw8539075809388119428:=()
def tw13420148389085519678:=()
def tw7019731649491004232:=()
def tw15161461349197429808:=()
def tw473901534382476669:=()
def tw6517754539295360542:=()
def tw13999220133483380975:=()
def tw2529095891826385091:=()
def tw16368260686740297616:=()
def tw10846427578132860876:=()
def tw2215554750371635735:=()
def tw8407212363324407107:=()
def tw3428718993099534563:=()
def tw17852729108490215676:=()
def tw1442526031817844045:=()
def tw13712552072117914692:=()
def tw3670354417999925381:=()
def tw3154544032752165221:=()
def tw11387538084398897966:=()
def tw16344759871957601153:=()
def tw17794272995655283009:=()
def tw9978181013351135010:=()
def tw5664791914671686633:=()
def tw2736489858726796231:=()
def tw4561666721661732456:=()
def tw1507682121140412029:=()
def tw5387119587030151120:=()
def tw6871689764156738853:=()
def tw7548921065031204735:=()
def tw2664847762242640227:=()
def tw15703735097978628317:=()
def tw16047171992223505214:=()
def tw5969443113103267933:=()
def tw8559551301885256340:=()
def tw15159832838967975452:=()
def tw8558600544106923563:=()
def tw4843831797134099450:=()
def tw10739397286003230796:=()
def tw3407262173589633879:=()
def tw9269217483817838187:=()
def tw11054558911668297196:=()
def tw1918380690445327159:=()
def tw14572583296548937796:=()
def tw8106651275023437048:=()
def tw7773702941310672635:=()
def tw8691098731928284923:=()
def tw9431637034434358133:=()
def tw11551428015058530344:=()
def tw10498587035344159207:=()
def tw14202587867771521462:=()
def tw2280719766610918643:=()
def tw14036744537534526976:=()
def tw407380715735996899:=()
def tw5131998816947687480:=()
def tw8575946183431418127:=()
def tw768626264119954757:=()
def tw4986343000780472393:=()
def tw12425183436486079452:=()
def tw9853680735013288085:=()
def tw688057316863834364:=()
def tw9124933140777076944:=()
def tw13418639839741644627:=()
def tw3456026188455744746:=()
def tw12420255745820486937:=()
def tw7854647447673214240:=()
def tw1010967531925060504:=()
def tw14184224941786291858:=()
def tw9609707618407170206:=()
def tw2455604738413339859:=()
def tw4703820199130929567:=()
def tw6363508770099923816:=()
def tw7300685696971743052:=()
def tw15815104316157861111:=()
def tw18130274024819687253:=()
def tw8319732451515905820:=()
def tw13109384592859335718:=()
def tw557307855738671212:=()
def tw12214408659669725795:=()
def tw16533021325431194041:=()
def tw13477048132302571794:=()
def tw8143031366524585433:=()
def tw8978303123848440439:=()
def tw2713132143041799858:=()
def tw15215852889913697571:=()
def tw669269803862288573:=()
def tw15890009083508083667:=()
def tw9236760272894032844:=()
def tw17220495858574414902:=()
def tw18302880989337778870:=()
def tw16999638470186395248:=()
def tw10617744510455001767:=()
def tw17278575622615348439:=()
def tw12175598809940296870:=()
def tw13857594634851131975:=()
def tw988823073673128983:=()
def tw17878974193896065249:=()
def tw17003669678188152414:=()
def tw33865992513685436:=()
def tw11911060771586824866:=()
def tw16711602693277123058:=()
def tw12092937133003084587:=()
def tw2759944683826497393:=()
def tw6644981206508845640:=()
def tw997072943953721801:=()
def tw4526100536679175601:=()
def tw1847033942040608752:=()
def tw12744893660249326844:=()
def tw1806488737746132050:=()
def tw15931633004804672679:=()
def tw5212344747397402376:=()
def tw7058940917448964166:=()
def tw3518323609733586879:=()
def tw1626652651643238970:=()
def tw7866753887965742995:=()
def tw6879651246608113971:=()
def tw5950050650325353346:=()
def tw16150971080871531154:=()
def tw12313962138708949148:=()
def tw4115698766470193350:=()
def tw1381532787680321221:=()
def tw2316539725957357866:=()
def tw14371174643033475581:=()
def tw8705522875279169052:=()
def tw14363846145414975945:=()
def tw3814373725543131657:=()
def tw17782821869451738861:=()
def tw6169650720729474281:=()
def tw15803573451533157808:=()
def tw2846733898688502143:=()
def tw11522107977044939168:=()
def tw8209462922521825098:=()
def tw4542051605570488422:=()
def tw1615732664114608587:=()
def tw5344548964959739557:=()
def tw17663458293238437211:=()
def tw6669243210595660759:=()
def tw3502019588800319455:=()
def tw5542155451023521168:=()
def tw11280221729828196508:=()
def tw12467514683250096473:=()
def tw6701849435071661231:=()
def tw11454627000053468026:=()
def tw10039439222726576698:=()
def tw8444878657870398265:=()
def tw15201042582130349377:=()
def tw17911726497040411937:=()
def tw6592215675501212355:=()
def tw2059603841712710765:=()
def tw16925175806432786642:=()
def tw18211844709121266121:=()
def tw11683164147743923170:=()
def tw9301601772461116215:=()
def tw8615552693844882487:=()
def tw196218603852284868:=()
def tw14972183750610506381:=()
def tw7027072843611778791:=()
def tw6419827598438289762:=()
def tw11606755231400317504:=()
def tw12878920061418179305:=()
def tw7220794185939978022:=()
def tw17779444968582333194:=()
def tw14901171740942456570:=()
def tw964513000897212646:=()
def tw15232742247515051582:=()
def tw7455291516675474253:=()
def tw9152556494455813949:=()
def tw10290428984085532020:=()
def tw17823088187011505841:=()
def tw3242835437858839065:=()
def tw8929502630831642111:=()
def tw15114415794203961953:=()
def tw12388342477883535769:=()
def tw10083015367145758925:=()
def tw1492680251821252403:=()
def tw12481369002971056024:=()
def tw10617039100108909836:=()
def tw11256513915857459695:=()
def tw9375357785469973103:=()
def tw13444860333087079481:=()
def tw4704843139321435347:=()
def tw17863360963684725476:=()
def tw15371451822344967601:=()
def tw719864157043298453:=()
def tw8696739612989067358:=()
def tw9943702123204062140:=()
def tw11106835396128605278:=()
def tw842993387841314417:=()
def tw15520156054230528336:=()
def tw14334829572946174578:=()
def tw10702786847313057089:=()
def tw8721141901622134093:=()
def tw15327316980686010793:=()
def tw15234373188764688895:=()
def tw9821131223804030606:=()
def tw6925292102758280531:=()
def tw17740357510881410167:=()
def tw10914531686187051818:=()
def tw1513682616047529712:=()
def tw3134996339074580347:=()
def tw16349624502811141325:=()
def tw13351468660653323613:=()
def tw17152168677591256428:=()
def tw8005785487321871260:=()
def tw16567762603033941182:=()
def tw13249541212144558443:=()
def tw7207191512220446970:=()
def tw15151221749110485794:=()
def tw7927982080089433948:=()
def tw14705044893607018518:=()
def tw16607759592585597851:=()
def tw11877323973774260158:=()
def tw13573859023295840710:=()
def tw173292781389962156:=()
def tw14945121942034528430:=()
def tw1141016062286212958:=()
def tw6077780925518083073:=()
def tw16725292003630100908:=()
def tw18352481519185773578:=()
def tw1757267404539591467:=()
def tw15326943055122362031:=()
def tw8064710852888912161:=()
def tw15471410412857023330:=()
def tw9524347967350458515:=()
def tw3035605174137774716:=()
def tw13941999902083236457:=()
def tw2913448617757976792:=()
def tw10602501658566245271:=()
def tw15208644406708490215:=()
def tw1320209192184597459:=()
def tw7806438191367119786:=()
def tw11577817330268087217:=()
def tw12972571765244616236:=()
def tw1716222285301610640:=()
def tw9890898718657830696:=()
def tw14735641984791606957:=()
def tw9906109787273122777:=()
def tw14757168014570968480:=()
def tw5403960679885523687:=()
def tw10721361890080715215:=()
def tw16789016371200704660:=()
def tw1664440544897506582:=()
def tw12681424449778310343:=()
def tw7070120082948184010:=()
def tw5562841398956151456:=()
def tw12635291482922917122:=()
def tw12092123815232983906:=()
def tw8935759822817946256:=()
def tw6261955682283948972:=()
def tw17998307485940658741:=()
def tw5133239357588315983:=()
def tw10355547261078586874:=()
def tw8440204728702193476:=()
def tw13364155847574037869:=()
def tw14122767504100124664:=()
def tw2979086756073432715:=()
def tw15831578228486996390:=()
def tw16537288849800418339:=()
def tw12654488668697207006:=()
def tw2374319783097705308:=()
def tw13514511292298937900:=()
def tw10082270730338537880:=()
def tw6037065585297597550:=()
def tw16395768976810322279:=()
def tw18133560944814376283:=()
def tw2009150379946583443:=()
def tw443381956922719969:=()
def tw6242323827361247270:=()
def tw6052457189269178074:=()
def tw18081203727552890183:=()
def tw8694171513840344649:=()
def tw15287475392166644457:=()
def tw13849176702702530225:=()
def tw10053736873272205863:=()
def tw10442280714943736814:=()
def tw7751859510943601624:=()
def tw5246704590391195877:=()
def tw1504849729996886094:=()
def tw16875643215993733316:=()
def tw17003885184686272365:=()
def tw13615207971569361924:=()
def tw8368009496217313369:=()
def tw15037869356030408090:=()
def tw14850313602173071938:=()
def tw10664635544218003024:=()
def tw13038292597264772215:=()
def tw4091980996549706220:=()
def tw7891324755704692392:=()
def tw980130199893458181:=()
def tw17553976431547336030:=()
def tw8429293028756577436:=()
def tw13445168760648535667:=()
def tw8813370952200247777:=()
def tw11234361761561759318:=()
def tw8132390262188977604:=()
def tw8162330871985321848:=()
def tw10580767208713915621:=()
def tw17697592533678899942:=()
def tw2004847951153219360:=()
def tw10462358438344877409:=()
def tw16429477624944186620:=()
def tw1441271970850080351:=()
def tw9883717991329935129:=()
def tw7794451185542622805:=()
def tw7947276080407965441:=()
def tw6296084146086009990:=()
def tw2109134559742475646:=()
def tw5340776384741118214:=()
def tw11153951081686625063:=()
end PySem.W.Fast
open PySem PySem.W PyProof.Rows
set_option maxRecDepth 100000 in
set_option maxHeartbeats 0 in
theorem PySem.Challenge.cw_evenpieces_k30_what_turns_give_holds : PySem.Challenge.rw_evenpieces_k30_what_turns_give.Holds := by
 w_on;o_law;k_head;(case hw=>w_witness2)
 k_fill
 refine Ev.walk (l:=PySem.Challenge.rw_evenpieces_k30_what_turns_give) rfl rfl (by rfl) (by decide) ?F
 case F=>
  intro w mg fa h KX G hmg;refine' Ev.all_mk KX G hmg (Ev.fd_mk KX G ?_ ?_ ?_ ?_) (Ev.fd_mk KX G ?_ ?_ ?_ ?_) (Ev.fd_mk KX G ?_ ?_ ?_ ?_) (Ev.fd_mk KX G ?_ ?_ ?_ ?_) (Ev.fd_mk KX G ?_ ?_ ?_ ?_) (Ev.fd_mk KX G ?_ ?_ ?_ ?_) (Ev.fd_mk KX G ?_ ?_ ?_ ?_) (Ev.fd_mk KX G ?_ ?_ ?_ ?_) (Ev.fd_mk KX G ?_ ?_ ?_ ?_) (Ev.fd_mk KX G ?_ ?_ ?_ ?_) (Ev.fd_mk KX G ?_ ?_ ?_ ?_) (Ev.fd_mk KX G ?_ ?_ ?_ ?_) (Ev.fd_mk KX G ?_ ?_ ?_ ?_) (Ev.fd_mk KX G ?_ ?_ ?_ ?_) (Ev.fd_mk KX G ?_ ?_ ?_ ?_) (Ev.fd_mk KX G ?_ ?_ ?_ ?_) (Ev.fd_mk KX G ?_ ?_ ?_ ?_) (Ev.fd_mk KX G ?_ ?_ ?_ ?_) (Ev.fd_mk KX G ?_ ?_ ?_ ?_) (Ev.fd_mk KX G ?_ ?_ ?_ ?_) (Ev.fd_mk KX G ?_ ?_ ?_ ?_) (Ev.fd_mk KX G ?_ ?_ ?_ ?_) (Ev.fd_mk KX G ?_ ?_ ?_ ?_) (Ev.fd_mk KX G ?_ ?_ ?_ ?_) (Ev.fd_mk KX G ?_ ?_ ?_ ?_) (Ev.fd_mk KX G ?_ ?_ ?_ ?_) (Ev.fd_mk KX G ?_ ?_ ?_ ?_) (Ev.fd_mk KX G ?_ ?_ ?_ ?_) (Ev.fd_mk KX G ?_ ?_ ?_ ?_) (Ev.fd_mk KX G ?_ ?_ ?_ ?_) (Ev.fd_mk KX G ?_ ?_ ?_ ?_) (Ev.fd_mk KX G ?_ ?_ ?_ ?_) (Ev.fd_mk KX G ?_ ?_ ?_ ?_) (Ev.fd_mk KX G ?_ ?_ ?_ ?_) (Ev.fd_mk KX G ?_ ?_ ?_ ?_) (Ev.fd_mk KX G ?_ ?_ ?_ ?_) (Ev.fd_mk KX G ?_ ?_ ?_ ?_) (Ev.fd_mk KX G ?_ ?_ ?_ ?_) (Ev.fd_mk KX G ?_ ?_ ?_ ?_) (Ev.fd_mk KX G ?_ ?_ ?_ ?_) (Ev.fd_mk KX G ?_ ?_ ?_ ?_) (Ev.fd_mk KX G ?_ ?_ ?_ ?_) (Ev.fd_mk KX G ?_ ?_ ?_ ?_) (Ev.fd_mk KX G ?_ ?_ ?_ ?_) (Ev.fd_mk KX G ?_ ?_ ?_ ?_) (Ev.fd_mk KX G ?_ ?_ ?_ ?_) (Ev.fd_mk KX G ?_ ?_ ?_ ?_) (Ev.fd_mk KX G ?_ ?_ ?_ ?_) (Ev.fd_mk KX G ?_ ?_ ?_ ?_) (Ev.md_mk ?_ ?_ ?_ ?_ ?_) (Ev.md_mk ?_ ?_ ?_ ?_ ?_) (Ev.md_mk ?_ ?_ ?_ ?_ ?_) (Ev.md_mk ?_ ?_ ?_ ?_ ?_) (Ev.md_mk ?_ ?_ ?_ ?_ ?_) (Ev.md_mk ?_ ?_ ?_ ?_ ?_) (Ev.md_mk ?_ ?_ ?_ ?_ ?_) (Ev.md_mk ?_ ?_ ?_ ?_ ?_) (Ev.md_mk ?_ ?_ ?_ ?_ ?_) (Ev.md_mk ?_ ?_ ?_ ?_ ?_) (Ev.md_mk ?_ ?_ ?_ ?_ ?_) (Ev.md_mk ?_ ?_ ?_ ?_ ?_) (Ev.md_mk ?_ ?_ ?_ ?_ ?_) (Ev.md_mk ?_ ?_ ?_ ?_ ?_) (Ev.md_mk ?_ ?_ ?_ ?_ ?_) (Ev.md_mk ?_ ?_ ?_ ?_ ?_) ?_ ?_ ?_ ?_ ?_ ?_ ?_ ?_ ?h1 ?aW ?aG ?aS ?eP ?xP ?_ ?_ ?h2 ?_ ?_ ?_ ?_ ?_ ?_ ?_ ?_ ?_ ?_ ?_ ?_ ?_ ?_ ?_ ?_ ?_ ?_ ?_ ?_ ?_ ?_ ?_ ?_ ?_ ?_ ?_ ?_ ?_ ?_ ?_ ?_ ?_ ?_ ?_ ?_ ?_ ?_ ?_ ?_ ?_ ?_ ?_ ?_ ?_ ?_ ?_ ?_ ?_ ?_ ?_ ?_ ?_ (Ev.rules_at ?rm ?rs ?rl ?re ?_ ?_ ?_ ?_ ?_ ?_ ?_ ?_ ?_ ?_ ?_ ?_ ?_ ?_ ?_ ?_ ?_)
  (case aW=>k_is);(case aG=>k_is);(case aS=>k_is);(case eP=>k_is)
  any_goals k_is
  (case h1=>kernel_rfl);(case xP=>k_exc);(case h2=>kernel_rfl)
  case' rm=>refine' PySem.W.mg_of KX G ?rmn
  (first|(case rmn=>k_is)|(case rm=>k_is))
  (try (case rl=>k_is))
  (case rs=>rfl)
  (case re=>rfl)
  any_goals k_is

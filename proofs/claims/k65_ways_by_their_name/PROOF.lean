import PyProof.Rows.All
import Wide.All
import OpenK.AllK
import Wide.FinOn
import Lean
import PyProof.EqAt
import PyProof.EqKinds
import PyProof.TupleCall
import PyProof.NeKinds
import PySem.Challenge.RW_evenpieces_k65_ways_by_their_name
set_option maxHeartbeats 0
set_option Elab.async false
set_option linter.all false
abbrev Xa:=List (PySem.Str × Int)
abbrev Xb:=List (PySem.Str × PySem.Str)
set_option maxRecDepth 100000
abbrev Aa:=PySem.Value
theorem a__:type_of% @PySem.wpAny_bind:=@PySem.wpAny_bind
theorem a_0:type_of% @PySem.Heap.get?_push_of_some:=@PySem.Heap.get?_push_of_some
abbrev Ab:=PySem.Shared
theorem a_1:type_of% @PySem.wpAny_pure:=@PySem.wpAny_pure
theorem a_2:type_of% @decide_eq_true:=@decide_eq_true
theorem a_3:type_of% @PySem.Heap.lt_size:=@PySem.Heap.lt_size
theorem a_4:type_of% @PySem.Heap.get?_push_size:=@PySem.Heap.get?_push_size
theorem a_5:type_of% @PySem.Paired.length:=@PySem.Paired.length
abbrev Ad:=PySem.Program
theorem a_6:type_of% @if_neg:=@if_neg
abbrev Ae:=PySem.FuncData
theorem a_7:type_of% @decide_eq_false:=@decide_eq_false
theorem a_8:type_of% @Option.some.inj:=@Option.some.inj
theorem a_9:type_of% @if_pos:=@if_pos
theorem b__:type_of% @PySem.sizeLine_eq:=@PySem.sizeLine_eq
abbrev Af:=PySem.World
theorem b_0:type_of% @PySem.PassesOwn.never:=@PySem.PassesOwn.never
theorem b_1:type_of% @PySem.W.mg_none_of:=@PySem.W.mg_none_of
abbrev Ag:=PySem.Around
theorem b_2:type_of% @PySem.F.plainAttrs_list:=@PySem.F.plainAttrs_list
theorem b_3:type_of% @Sum.inr.inj:=@Sum.inr.inj
theorem b_4:type_of% @PySem.wpAny_loadPart':=@PySem.wpAny_loadPart'
theorem b_5:type_of% @PySem.boot_len:=@PySem.boot_len
theorem b_6:type_of% @PySem.mem_of_lookup:=@PySem.mem_of_lookup
theorem b_7:type_of% @congrArg:=@congrArg
theorem b_8:type_of% @PySem.W.kia_one:=@PySem.W.kia_one
theorem b_9:type_of% @PySem.W.mg_of:=@PySem.W.mg_of
theorem c__:type_of% @PySem.wpAny_truthy_bool:=@PySem.wpAny_truthy_bool
theorem c_0:type_of% @PySem.wpAny_newObj_type:=@PySem.wpAny_newObj_type
theorem Z0{p:Prop}[Decidable p](h:decide p=true:=by decide +kernel):p:=of_decide_eq_true h
theorem Z1{p:Prop}(h:p:=by omega):p:=h
theorem Z2{p:Prop}(h:p:=by simp):p:=h
abbrev F__:=PySem.W.Frag
theorem aa':type_of% @List.length_map:=@List.length_map
theorem ab':type_of% @List.getElem?_eq_some_iff:=@List.getElem?_eq_some_iff
theorem ac':type_of% @List.getElem?_eq_getElem:=@List.getElem?_eq_getElem
theorem ad':type_of% @Nat.le_refl:=@Nat.le_refl
theorem ae':type_of% @List.size_toArray:=@List.size_toArray
theorem af':type_of% @List.mem_map:=@List.mem_map
theorem ag':type_of% @List.mem_cons_of_mem:=@List.mem_cons_of_mem
theorem ah':type_of% @List.map_map:=@List.map_map
theorem ai':type_of% @List.mem_of_getElem?:=@List.mem_of_getElem?
theorem aj':type_of% @List.mem_cons:=@List.mem_cons
theorem ak':type_of% @List.length_take:=@List.length_take
theorem am':type_of% @List.getElem?_map:=@List.getElem?_map
theorem an':type_of% @List.mem_cons_self:=@List.mem_cons_self
theorem ao':type_of% @Bool.false_ne_true:=@Bool.false_ne_true
theorem ap':type_of% @List.mem_append_right:=@List.mem_append_right
theorem aq':type_of% @List.map_append:=@List.map_append
theorem ar':type_of% @List.length_append:=@List.length_append
theorem au':type_of% @List.map_cons:=@List.map_cons
theorem av':type_of% @Nat.lt_of_lt_of_le:=@Nat.lt_of_lt_of_le
theorem aw':type_of% @Nat.ne_of_lt:=@Nat.ne_of_lt
theorem ax':type_of% @List.take_length:=@List.take_length
theorem ay':type_of% @List.mem_append:=@List.mem_append
theorem az':type_of% @List.map_congr_left:=@List.map_congr_left
theorem aA':type_of% @List.nodup_iff_pairwise_ne:=@List.nodup_iff_pairwise_ne
theorem aB':type_of% @Int.eq_ofNat_of_zero_le:=@Int.eq_ofNat_of_zero_le
theorem aC':type_of% @Nat.zero_le:=@Nat.zero_le
theorem aD':type_of% @List.getElem_of_mem:=@List.getElem_of_mem
theorem aE':type_of% @List.take_add_one:=@List.take_add_one
theorem aF':type_of% @List.pairwise_map:=@List.pairwise_map
theorem aG':type_of% @List.nodup_cons:=@List.nodup_cons
theorem aH':type_of% @List.mem_filterMap:=@List.mem_filterMap
theorem aI':type_of% @List.length_cons:=@List.length_cons
theorem aJ':type_of% @List.lookup_cons:=@List.lookup_cons
theorem aK':type_of% @List.take_of_length_le:=@List.take_of_length_le
theorem aL':type_of% @Array.length_toList:=@Array.length_toList
theorem aM':type_of% @List.length_replicate:=@List.length_replicate
theorem aN':type_of% @List.mem_singleton:=@List.mem_singleton
theorem aO':type_of% @List.find?_cons:=@List.find?_cons
theorem aP':type_of% @Nat.lt_irrefl:=@Nat.lt_irrefl
theorem aQ':type_of% @Nat.le_trans:=@Nat.le_trans
theorem aR':type_of% @Nat.ne_of_gt:=@Nat.ne_of_gt
namespace L2
open PySem PySem.Spec PyProof.Rows
abbrev Key:=Sum Int Str
def cl':Key->Aa->Bool
 |.inl k,v=>Value.isInt k v
 |.inr x,v=>Value.isStrOf x v
def keyH(w:Af):Key->Int
 |.inl k=>hashInt k
 |.inr x=>hashStr w x
theorem an_:∀{k:Key} {v:Aa},cl' k v=true->(∃i t,k=Sum.inl i/\v=Value.int i t)∨(∃x t,k=Sum.inr x/\v=Value.str x t)
 |.inl i,v,h=>by
  obtain⟨t,e⟩:=Value.isInt_shape (k:=i) (v:=v) h;exact .inl ⟨i,t,rfl,e⟩
 |.inr x,v,h=>by
  obtain⟨t,e⟩:=Value.isStrOf_shape (x:=x) (v:=v) h;exact .inr ⟨x,t,rfl,e⟩
theorem ga_(i:Int)(t:Tok):cl' (.inl i) (.int i t)=true:=by simp[cl',Value.isInt]
theorem f7_(x:Str)(t:Tok):cl' (.inr x) (.str x t)=true:=by simp[cl',Value.isStrOf]
theorem ip_(a b:Int):decide ((Sum.inl a:Key)=Sum.inl b)=(a == b):=by
 by_cases e:a=b
 ·subst e;simp
 ·have h:¬(Sum.inl a:Key)=Sum.inl b:=λq=>e (Sum.inl.inj q);rw[a_7 h];exact (beq_eq_false_iff_ne.mpr e).symm
theorem iD_(a b:Str):decide ((Sum.inr a:Key)=Sum.inr b)=decide (a=b):=by
 by_cases e:a=b
 ·subst e;simp
 ·have h:¬(Sum.inr a:Key)=Sum.inr b:=λq=>e (b_3 q);rw[a_7 h,a_7 e]
theorem ir_(a:Int)(b:Str):decide ((Sum.inl a:Key)=Sum.inr b)=false:=a_7 (λq=>nomatch q)
theorem ik_(a:Str)(b:Int):decide ((Sum.inr a:Key)=Sum.inl b)=false:=a_7 (λq=>nomatch q)
def aV'(prog:Ad)(w:Af):PySem.KeyKind prog w Key where
 is:=cl'
 hash:=keyH w
 inj:=λv a b ha hb=>by
  rcases an_ ha with⟨i,t,rfl,rfl⟩|⟨x,t,rfl,rfl⟩
  ·rcases an_ hb with⟨j,u,rfl,e⟩|⟨y,u,rfl,e⟩
   ·injection e with e1 _;rw[e1]
   ·exact nomatch e
  ·rcases an_ hb with⟨j,u,rfl,e⟩|⟨y,u,rfl,e⟩
   ·exact nomatch e
   ·injection e with e1 _;rw[e1]
 byValue:=λk v h=>by
  rcases an_ h with⟨i,t,rfl,rfl⟩|⟨x,t,rfl,rfl⟩<;>rfl
 pyHash:=λhv h=>by
  rcases an_ hv with⟨i,t,rfl,rfl⟩|⟨x,t,rfl,rfl⟩
  ·exact wpAny_pyHash_int h
  ·exact wpAny_pyHash_str h
 eqBool:=λhu hv h=>by
  rcases an_ hu with⟨i,t,rfl,rfl⟩|⟨x,t,rfl,rfl⟩
  ·rcases an_ hv with⟨j,u,rfl,rfl⟩|⟨y,u,rfl,rfl⟩
   ·rw[ip_] at h;exact wpAny_eqBool_int h
   ·rw[ir_] at h;exact SeqAt.EqAt.int_str i t y u _ _ _ _ h
  ·rcases an_ hv with⟨j,u,rfl,rfl⟩|⟨y,u,rfl,rfl⟩
   ·rw[ik_] at h;exact SeqAt.EqAt.str_int x t j u _ _ _ _ h
   ·rw[iD_] at h;exact wpAny_eqBool_str h
 «strs»:=λk x t v h=>by
  rcases an_ h with⟨i,u,rfl,e⟩|⟨y,u,rfl,e⟩
  ·exact nomatch e
  ·injection e with e1 _
   subst e1;cases v<;>rfl
theorem dI_(prog:Ad)(w:Af)(i:Int)(t:Tok):(aV' prog w).is (.inl i) (.int i t)=true:=ga_ i t
theorem by_(prog:Ad)(w:Af)(x:Str)(t:Tok):(aV' prog w).is (.inr x) (.str x t)=true:=f7_ x t
inductive V where
 |non|bl (b:Bool)|int (i:Int)|str (x:Str)|byt (b:Array UInt8)|flt (b:UInt64)|ref (a:Addr)|ty (n:String)
 deriving DecidableEq
def RelV:V->Aa->Prop
 |.non,u=>u=Value.none
 |.bl b,u=>u=Value.bool b
 |.int i,u=>∃t,u=Value.int i t
 |.str x,u=>∃t,u=Value.str x t
 |.byt b,u=>∃t,u=Value.bytes b t
 |.flt b,u=>∃t,u=Value.float b t
 |.ref a,u=>u=Value.ref a
 |.ty n,u=>u=Value.type n
abbrev Vals:List V->List Aa->Prop:=Paired RelV
theorem Vals.length{xs:List V}{us:List Aa}(r:Vals xs us):xs.length=us.length:=a_5 r
theorem Vals.get:∀{xs:List V} {us:List Aa} {i:Nat} {x:V},Vals xs us->xs[i]? = some x->∃u,us[i]? = some u/\RelV x u
 |_,_,_,_,.nil,e=>by simp at e
 |_,_,0,_,.cons r _,e=>by simp at e;subst e;exact⟨_,rfl,r⟩
 |_,_,i+1,x,.cons _ t,e=>by
  obtain⟨u,h1,h2⟩:=Vals.get (i:=i) (x:=x) t (by simpa using e);exact⟨u,by simpa using h1,h2⟩
theorem Vals.set{x:V}{u:Aa}(r:RelV x u):∀{xs:List V} {us:List Aa} (i:Nat),Vals xs us->Vals (xs.set i x) (us.set i u)
 |_,_,_,.nil=>.nil
 |_,_,0,.cons _ t=>.cons r t
 |_,_,i+1,.cons q t=>.cons q (Vals.set r i t)
theorem Vals.append:∀{xs ys:List V} {us ws:List Aa},Vals xs us->Vals ys ws->Vals (xs++ys) (us++ws)
 |_,_,_,_,.nil,s=>s
 |_,_,_,_,.cons r t,s=>.cons r (Vals.append t s)
theorem Vals.take:∀{xs:List V} {us:List Aa} (n:Nat),Vals xs us->Vals (xs.take n) (us.take n)
 |_,_,0,_=>.nil
 |_,_,_+1,.nil=>.nil
 |_,_,n+1,.cons r t=>.cons r (Vals.take n t)
theorem Vals.drop:∀{xs:List V} {us:List Aa} (n:Nat),Vals xs us->Vals (xs.drop n) (us.drop n)
 |_,_,0,r=>r
 |_,_,_+1,.nil=>.nil
 |_,_,n+1,.cons _ t=>Vals.drop n t
def RelO:Option V->Option Aa->Prop
 |some v,some u=>RelV v u
 |none,none=>True
 |_,_=>False
def KV{κ:Type}:List (κ × V)->List (κ × Aa)->Prop:=Paired λ(p:κ × V) (q:κ × Aa)=>p.1=q.1/\RelV p.2 q.2
def kV:Key->V
 |.inl i=>.int i
 |.inr x=>.str x
inductive HO where
  |lst (xs:List V)
  |tup (xs:List V)
  |dK (kvs:List (Key × V))|dT (kvs:List (List Key × V))
  |set (S:Int->Bool) (n:Nat)
  |ins (C dx:Addr) (fs:List (Str × V))
  |own (x:Addr)
  |xd (fs:List (Str × V))
  |met (f x:Addr)
  |rng (lo hi:Int)
  |frz (o:Obj) (u:HO)
  |tbl (ps:Array Aa)
  |ext (φ:Heap->Prop)
abbrev Hp:=Addr->Option HO
def upd(H:Hp)(a:Addr)(o:HO):Hp:=λb=>if b=a then some o else H b
variable{a:Addr}
theorem a1_{H:Hp}{o:HO}:upd H a o a=some o:=by unfold upd;rw[a_9 rfl]
variable{b:Addr}
theorem a5_{H:Hp}{o:HO}(h:b≠a):upd H a o b=H b:=by unfold upd;rw[a_6 h]
theorem hR_{H:Hp}{o u:HO}:upd (upd H a o) a u=upd H a u:=by
 funext b;unfold upd;split<;>rfl
theorem ac_{H:Hp}{o u:HO}(h:H a=some o)(h':H b=some u)(d:o≠u):a≠b:=by
 intro e;subst e;rw[h] at h';exact d (a_8 h')
theorem a7_{H:Hp}{o:HO}(h:H a=some o)(h':H b=none):a≠b:=by
 intro e;subst e;rw[h] at h';cases h'
section
variable(P:Ad)(w:Af)
def a0'(H:Hp)(h:Heap)(a:Addr):HO->Prop
 |.lst xs=>xs.length<=sizeLine/\∃(its:List Aa) (n:Nat),Vals xs its/\h.get? a=some { cls:=.type "list",data:=.seq its.toArray n }
 |.tup xs=>xs.length<=sizeLine/\∃its:List Aa,Vals xs its/\IsTup h a its.toArray/\∃o,h.get? a=some o/\o.dict=none
 |.dK kvs=>kvs.length<=sizeLine/\(a == sysModules)=false/\∃vs,KV kvs vs/\h.DictOf (aV' P w) a vs
 |.dT kvs=>kvs.length<=sizeLine/\(a == sysModules)=false/\∃xs:List (List Key × Addr × Aa),
   Paired (λ(p:List Key × V) (q:List Key × Addr × Aa)=>p.1=q.1/\H q.2.1=some (.tup (p.1.map kV))/\RelV p.2 q.2.2) kvs xs /\
   ∃o es ep,h.get? a=some o/\o.ExactDict/\o.data=.dict es ep/\es.toList=xs.map (entryOfKey (tupleKind (aV' P w)))/\(xs.map (·.1)).Nodup
 |.set S n=>h.SetOf (intKind P w) a S n
 |.ins C dx fs=>H dx=some (.own a)/\fs.length<=1000/\dx≠a/\h.get? a=some (PySem.W.instObj C dx) /\
   ∃mA,h.Ns1 dx mA/\(∀f,RelO (fs.lookup f) (mA f))/\PySem.Within mA (fs.map (·.1))
 |.own _=>∃o,h.get? a=some o
 |.xd fs=>∃mA,h.Ns1 a mA/\∀f,RelO (fs.lookup f) (mA f)
 |.rng lo hi=>∃t u v,h.get? a=some { cls:=.type "range",data:=.fields #[.int lo t,.int hi u,.int 1 v] }
 |.frz o u=>h.get? a=some o/\a0' H h a u
 |.tbl ps=>h.get? a=some { cls:=.none,data:=.fields ps }
 |.met f x=>h.get? a=some (PySem.W.methodObj (.ref f) (.ref x))
 |.ext φ=>φ h/\(∃o,h.get? a=some o)/\∀h1 h2:Heap,φ h1->(∀o,h1.get? a=some o->h2.get? a=some o)->φ h2
def HOk(H:Hp)(h:Heap):Prop:=∀a o,H a=some o->a0' P w H h a o
end
section
variable{P:Ad}{w:Af}{H H':Hp}{h h':Heap}{a:Addr}{o:HO}
theorem a0'.lt(x:a0' P w H h a o):a<h.objs.size:=by
 cases o with
 |lst xs=>obtain⟨_,_,_,_,e⟩:=x;exact a_3 e
 |tup xs=>obtain⟨_,_,_,p,_⟩:=x;exact p.lt
 |dK kvs=>obtain⟨_,_,_,_,o,_,_,e,_⟩:=x;exact a_3 e
 |dT kvs=>obtain⟨_,_,_,_,o,_,_,e,_⟩:=x;exact a_3 e
 |set S n=>obtain⟨o,_,_,_,e,_⟩:=x;exact a_3 e
 |ins C dx fs=>obtain⟨_,_,_,e,_⟩:=x;exact a_3 e
 |own y=>obtain⟨_,e⟩:=x;exact a_3 e
 |xd fs=>obtain⟨_,⟨_,_,_,e,_⟩,_⟩:=x;exact a_3 e
 |rng lo hi=>obtain⟨_,_,_,e⟩:=x;exact a_3 e
 |frz ob u=>obtain⟨e,_⟩:=x;exact a_3 e
 |tbl ps=>exact a_3 (show h.get? a=some _ from x)
 |met f y=>exact a_3 (show h.get? a=some _ from x)
 |ext φ=>obtain⟨_,⟨_,e⟩,_⟩:=x;exact a_3 e
theorem Paired.mapP{α β:Type}{F G:α->β->Prop}:∀{l₁:List α} {l₂:List β},Paired F l₁ l₂->(∀a b,F a b->G a b)->Paired G l₁ l₂
 |_,_,.nil,_=>.nil
 |_,_,.cons r t,f=>.cons (f _ _ r) (Paired.mapP t f)
theorem a0'.stay(x:a0' P w H h a o)(k:∀b u,(b=a∨H b=some (.own a))->h.get? b=some u->h'.get? b=some u)
  (ho:∀b,H b=some (.own a)->H' b=some (.own a)) (ht:∀b xs,H b=some (.tup xs)->H' b=some (.tup xs)):a0' P w H' h' a o:=by
 induction o with
 |lst xs=>obtain⟨z,its,n,r,e⟩:=x;exact⟨z,its,n,r,k _ _ (.inl rfl) e⟩
 |tup xs=>obtain⟨z,its,r,⟨ob,e,c⟩,o2,e2,c2⟩:=x;exact⟨z,its,r,⟨ob,k _ _ (.inl rfl) e,c⟩,o2,k _ _ (.inl rfl) e2,c2⟩
 |dK kvs=>obtain⟨z,y,vs,r,ob,es,ep,e,c⟩:=x;exact⟨z,y,vs,r,ob,es,ep,k _ _ (.inl rfl) e,c⟩
 |dT kvs=>
  obtain⟨z,y,xs,r,ob,es,ep,e,c⟩:=x;exact⟨z,y,xs,Paired.mapP r λp q z=>⟨z.1,ht _ _ z.2.1,z.2.2⟩,ob,es,ep,k _ _ (.inl rfl) e,c⟩
 |set S n=>obtain⟨ob,es,ep,t,e,c⟩:=x;exact⟨ob,es,ep,t,k _ _ (.inl rfl) e,c⟩
 |ins C dx fs=>
  obtain⟨d,z,ne,e,mA,⟨od,es,ep,e2,c⟩,r⟩:=x;exact⟨ho _ d,z,ne,k _ _ (.inl rfl) e,mA,⟨od,es,ep,k _ _ (.inr d) e2,c⟩,r⟩
 |own y=>obtain⟨ob,e⟩:=x;exact⟨ob,k _ _ (.inl rfl) e⟩
 |xd fs=>obtain⟨mA,⟨od,es,ep,e,c⟩,r⟩:=x;exact⟨mA,⟨od,es,ep,k _ _ (.inl rfl) e,c⟩,r⟩
 |rng lo hi=>obtain⟨t,u,v,e⟩:=x;exact⟨t,u,v,k _ _ (.inl rfl) e⟩
 |frz ob u ih=>obtain⟨e,q⟩:=x;exact⟨k _ _ (.inl rfl) e,ih q⟩
 |tbl ps=>
  have e:h.get? a=some { cls:=.none,data:=.fields ps }:=x;show h'.get? a=some { cls:=.none,data:=.fields ps };exact k a _ (.inl rfl) e
 |met f y=>
  have e:h.get? a=some (PySem.W.methodObj (.ref f) (.ref y)):=x;show h'.get? a=some (PySem.W.methodObj (.ref f) (.ref y));exact k a _ (.inl rfl) e
 |ext φ=>obtain⟨p,⟨o,e⟩,st⟩:=x;exact⟨st _ _ p λo q=>k _ _ (.inl rfl) q,⟨o,k _ _ (.inl rfl) e⟩,st⟩
theorem HOk.lt(x:HOk P w H h)(e:H a=some o):a<h.objs.size:=(x a o e).lt
theorem HOk.fresh(x:HOk P w H h)(e:h.objs.size<=a):H a=none:=by
 cases q:H a with
 |none=>rfl
 |some u=>exact absurd (av' (x.lt q) e) (aP' _)
theorem HOk.kept(x:HOk P w H h)(k:∀b u,h.get? b=some u->h'.get? b=some u):HOk P w H h':=λa o e=>
 (x a o e).stay (λb u _ q=>k b u q) (λ_ q=>q) λ_ _ q=>q
theorem HOk.laid(x:HOk P w H h)(k:∀b u,h.get? b=some u->h'.get? b=some u)(hp:h.objs.size<=a)(new:a0' P w (upd H a o) h' a o):HOk P w (upd H a o) h':=λb u e=>by
 have hn:=x.fresh hp;by_cases hb:b=a
 ·subst hb;rw[a1_] at e;cases e;exact new
 ·rw[a5_ hb] at e;exact (x b u e).stay (λc v _ q=>k c v q) (λc q=>by rw[a5_ (a7_ q hn)];exact q) λc xs q=>by rw[a5_ (a7_ q hn)];exact q
end
def Rd(H:Hp)(a:Addr)(u:HO):Prop:=H a=some u∨∃o,H a=some (.frz o u)
theorem Rd.of{H:Hp}{u:HO}(h:H a=some u):Rd H a u:=.inl h
variable{P:Ad}{h:Heap}
theorem Rd.ok{w:Af}{H:Hp}{u:HO}(r:Rd H a u)(x:HOk P w H h):a0' P w H h a u:=by
 rcases r with r|⟨o,r⟩
 ·exact x a u r
 ·obtain⟨_,q⟩:=x a _ r;exact q
def Mut:Option HO->Prop
 |some (.lst _)=>True
 |some (.dK _)=>True
 |some (.dT _)=>True
 |some (.set _ _)=>True
 |some (.ins _ _ _)=>True
 |some (.ext _)=>True
 |_=>False
section
variable{P:Ad}{w:Af}{H:Hp}{h h':Heap}{x e:Addr}{o':HO}
theorem HOk.write(ok:HOk P w H h)(mu:Mut (H x))(he:e=x∨H e=some (.own x))(k:∀b u,b≠e->h.get? b=some u->h'.get? b=some u)(heo:∃u,h'.get? e=some u)
  (new:a0' P w (upd H x o') h' x o'):HOk P w (upd H x o') h':=λb u q=>by
 have nown:∀c y,H c=some (.own y)->c≠x:=λc y r z=>by subst z;rw[r] at mu;exact mu
 have ntup:∀c xs,H c=some (.tup xs)->c≠x:=λc xs r z=>by subst z;rw[r] at mu;exact mu
 by_cases hb:b=x
 ·subst hb;rw[a1_] at q;cases q;exact new
 ·rw[a5_ hb] at q;by_cases hbe:b=e
  ·have q':H b=some (.own x):=by
    rcases he with z|z
    ·exact absurd (hbe.trans z) hb
    ·rw[hbe];exact z
   rw[q] at q';cases q';obtain⟨v,hv⟩:=heo;exact⟨v,by rw[hbe];exact hv⟩
  ·refine (ok b u q).stay (λc v hc r=>k c v ?_ r) (λc r=>by rw[a5_ (nown c b r)];exact r) λc xs r=>by rw[a5_ (ntup c xs r)];exact r
   rcases hc with rfl|hc
   ·exact hbe
   ·rintro rfl;rcases he with z|z
    ·exact nown c b hc z
    ·rw[hc] at z;cases z;exact hb rfl
end
structure Un (fs ex:List Addr) (H H':Hp) (h h':Heap):Prop where
 keep:∀b o,h.get? b=some o->H b=none->b∉fs->b∉ex->h'.get? b=some o
 slot:∀b o,h.get? b=some o->H b=none->b∈fs->b∉ex->∃sl,h'.get? b=some { o with slots:=sl }
 free:∀b o,h.get? b=some o->H b=none->b∉ex->H' b=none
 there:∀b o,h.get? b=some o->b∉ex->∃o',h'.get? b=some o'
 tups:∀b xs,H b=some (.tup xs)->H' b=some (.tup xs)
 frzs:∀b o u,H b=some (.frz o u)->H' b=some (.frz o u)
 tbls:∀b ps,H b=some (.tbl ps)->∃more,H' b=some (.tbl (ps++more))
section
variable{fs fs' ex ex':List Addr}{H H1 H2:Hp}{h h1 h2 h':Heap}{a x e:Addr}{o:HO}
theorem Un.any(u:Un fs ex H H1 h h1){ob:Obj}(q:h.get? b=some ob)(n:H b=none)(hx:b∉ex):∃sl,h1.get? b=some { ob with slots:=sl }:=by
 by_cases hb:b∈fs
 ·exact u.slot b ob q n hb hx
 ·exact⟨ob.slots,u.keep b ob q n hb hx⟩
theorem Un.kept(k:∀b u,h.get? b=some u->h'.get? b=some u):Un fs ex H H h h':=
 ⟨λb ob q _ _ _=>k b ob q,λb ob q _ _ _=>⟨ob.slots,k b ob q⟩,λ_ _ _ n _=>n,λb ob q _=>⟨ob,k b ob q⟩,λ_ _ q=>q,λ_ _ _ q=>q,λ_ ps q=>⟨#[],by rw[q];simp⟩⟩
theorem Un.refl:Un fs ex H H h h:=Un.kept λ_ _ q=>q
theorem Un.laid(k:∀b u,h.get? b=some u->h'.get? b=some u)(hp:h.objs.size<=a)(hn:H a=none):Un fs ex H (upd H a o) h h' where
 keep:=λb u q _ _ _=>k b u q
 slot:=λb u q _ _ _=>⟨u.slots,k b u q⟩
 free:=λb u q n _=>by rw[a5_ (aw' (av' (a_3 q) hp))];exact n
 there:=λb u q _=>⟨u,k b u q⟩
 tups:=λb xs q=>by rw[a5_ (a7_ q hn)];exact q
 frzs:=λb u xs q=>by rw[a5_ (a7_ q hn)];exact q
 tbls:=λb ps q=>⟨#[],by rw[a5_ (a7_ q hn),q];simp⟩
theorem Un.write(mu:Mut (H x))(he:e=x∨H e=some (.own x))(k:∀b u,b≠e->h.get? b=some u->h'.get? b=some u)(heo:∃u,h'.get? e=some u):Un fs ex H (upd H x o) h h':=by
 have hx:∀b,H b=none->b≠x:=λb n z=>by subst z;rw[n] at mu;exact mu
 have hb:∀b,H b=none->b≠e:=λb n z=>by
  subst z;rcases he with r|r
  ·exact hx b n r
  ·rw[n] at r;cases r
 have hm:∀b u,H b=some u->¬Mut (some u)->b≠x:=λb u q nm z=>by subst z;rw[q] at mu;exact nm mu
 refine⟨λb u q n _ _=>k b u (hb b n) q,λb u q n _ _=>⟨u.slots,k b u (hb b n) q⟩,λb u q n _=>by rw[a5_ (hx b n)];exact n,λb u q _=>?_,
  λb xs q=>by rw[a5_ (hm b _ q λz=>z)];exact q,λb u xs q=>by rw[a5_ (hm b _ q λz=>z)];exact q,λb ps q=>⟨#[],by rw[a5_ (hm b _ q λz=>z),q];simp⟩⟩
 by_cases hbe:b=e
 ·subst hbe;exact heo
 ·exact⟨u,k b u hbe q⟩
end
def trk(h:Heap)(H:Hp):List Addr:=(List.range h.objs.size).filter λa=>(H a).isSome
def hidT(h:Heap)(H:Hp):Heap:=PySem.W.hideAll h (trk h H)
theorem fz_(h:Heap)(H:Hp):(hidT h H).objs.size=h.objs.size:=PySem.W.hideAll_size _ _
variable{o:Obj}
theorem gJ_{H:Hp}(e:h.get? b=some o)(n:H b=none):(hidT h H).get? b=some o:=
 PySem.W.hideAll_get _ e λhm=>by
  have q:(H b).isSome=true:=(List.mem_filter.mp hm).2;rw[n] at q;simp at q
theorem hq_{H:Hp}(e:(hidT h H).get? b=some o):h.get? b=some o/\H b=none:=by
 have e':h.get? b=some o:=PySem.W.of_hideAll (trk h H) e;refine⟨e',?_⟩;cases q:H b with
 |none=>rfl
 |some x=>
  have hm:b∈trk h H:=List.mem_filter.mpr ⟨List.mem_range.mpr (a_3 e'),by simp[q]⟩;have z:(hidT h H).get? b=none:=PySem.W.hideAll_none (trk h H) hm;rw[z] at e;cases e
structure Mod (K:F__) (mg:Str->Option Aa) (base:Heap):Prop where
 kin:K.In base
 glob:base.Ns mainGlobals mg
 blt:∃mb,base.Ns builtinsNs mb/\∀x:Str,x≠"__name__"->mb x=bootBuiltins x
 nolimit:base.NoLimit
structure Cx where
 prog:Ad
 w:Af
 K:F__
 mg:Str->Option Aa
 base:Heap
 A:Ag
 N:List Str
 s₀:Ab
 H₀:Hp
 env:Env
 outer:List Env
 stack:List Env
 ex:List Addr
 fn:Str->Bool
 calm:Bool
 pn:List (Addr × Obj)
 xe:Aa->Ab->Prop
def frs(l:List Env):List Addr:=l.filterMap (·.frame)
abbrev Cx.fs(X:Cx):List Addr:=frs X.outer
def Vis(sc:Scope)(x:Str):Prop:=sc.names.lookup x=some .local∨sc.names.lookup x=some .cell∨sc.names.lookup x=some .free
def Loc(sc:Scope)(x:Str):Prop:=sc.names.lookup x=some .local∨sc.names.lookup x=some .cell
def Look(env:Env)(h:Heap)(m:Str->Option Aa)(x:Str)(u:Aa):Prop:=
 (env.kindOf x=some .local/\m x=some u)∨((env.kindOf x=some .cell∨env.kindOf x=some .free)/\∃c,env.cells.lookup x=some c/\h.IsCell c (some u))
structure Cx.Ok (X:Cx):Prop where
 mod:Mod X.K X.mg X.base
 kind:X.env.scope.kind=.function
 glob:X.env.globals=mainGlobals
 blt:X.env.builtins=builtinsNs
 above:X.s₀.heap.objs.size<=X.env.locals
 inj:∀x y c,X.env.cells.lookup x=some c->X.env.cells.lookup y=some c->x=y
 has:∀x,(X.env.kindOf x=some .cell∨X.env.kindOf x=some .free)->∃c,X.env.cells.lookup x=some c
 cab:∀x c,X.fn x=true->X.env.cells.lookup x=some c->X.s₀.heap.objs.size<=c
 hd:X.calm=true->X.A.handled=none
 frames:X.A.frames=some X.stack
 stk:X.stack=X.outer∨(X.stack=X.env::X.outer/\X.env.frame=some X.env.locals)
 exf:∀b∈X.ex,b≠X.env.locals/\∀x c,X.env.cells.lookup x=some c->c≠b
 bs:∀b o,X.base.get? b=some o->X.s₀.heap.get? b=some o/\X.H₀ b=none
 bsz:X.base.objs.size<=X.s₀.heap.objs.size
 noex:∀b o,X.base.get? b=some o->b∉X.ex
 exfs:∀b∈X.ex,b∉X.fs
 funs:X.s₀.heap.FunFrames X.base X.outer
 frf:∀b∈X.fs,X.H₀ b=none
structure Inv (X:Cx) (pins:List (Addr × Obj)) (σ:List (Option V)) (H:Hp) (s:Ab):Prop where
 ok:X.Ok
 os:s.os=X.s₀.os
 bare:AllBare s.gens
 base:Un X.fs X.ex X.H₀ H X.s₀.heap s.heap
 loc:∃m,s.heap.Ns X.env.locals m/\∀(i:Nat) (x:Str) (v:V),X.N[i]? = some x->σ[i]? = some (some v)->Vis X.env.scope x->∃u,RelV v u/\Look X.env s.heap m x u
 cell:∀x c,X.env.cells.lookup x=some c->∃v,s.heap.IsCell c v
 free:H X.env.locals=none
 freeC:∀x c,X.env.cells.lookup x=some c->H c=none
 pin:∀p∈X.pn++pins,s.heap.get? p.1=some p.2/\H p.1=none/\p.1≠X.env.locals/\p.1∉X.fs/\∀v,p.2.data≠.cell v
 hok:HOk X.prog X.w H s.heap
 len:σ.length=X.N.length
section
variable{X:Cx}{pins:List (Addr × Obj)}{σ:List (Option V)}{H H':Hp}{s:Ab}{h':Heap}
theorem Cx.Ok.nofr(ok:X.Ok)(e:X.base.get? b=some o):b∉X.fs:=λhb=>by
 have:=(ok.funs.mem hb).1;rw[e] at this;cases this
theorem Inv.bs(I:Inv X pins σ H s):∀b o,X.base.get? b=some o->s.heap.get? b=some o/\H b=none:=λb o e=>
 ⟨I.base.keep b o (I.ok.bs b o e).1 (I.ok.bs b o e).2 (I.ok.nofr e) (I.ok.noex b o e),I.base.free b o (I.ok.bs b o e).1 (I.ok.bs b o e).2 (I.ok.noex b o e)⟩
theorem Inv.bk(I:Inv X pins σ H s):∀b o,X.base.get? b=some o->s.heap.get? b=some o:=λb o e=>(I.bs b o e).1
theorem Inv.mod(I:Inv X pins σ H s):Mod X.K X.mg X.base:=I.ok.mod
theorem Inv.kIn(I:Inv X pins σ H s):X.K.In s.heap:=I.ok.mod.kin.keeps I.bk
theorem Inv.lt(I:Inv X pins σ H s):X.env.locals<s.heap.objs.size:=let ⟨_,hn,_⟩:=I.loc;hn.lt
theorem Inv.sz(I:Inv X pins σ H s):X.s₀.heap.objs.size<=s.heap.objs.size:=aQ' I.ok.above (Nat.le_of_lt I.lt)
theorem Inv.nofs(I:Inv X pins σ H s)(h:s.heap.objs.size<=a):a∉X.fs:=λhb=>by
 obtain⟨_,o,ho,_⟩:=I.ok.funs.mem hb;exact absurd (av' (a_3 ho) (aQ' I.sz h)) (aP' _)
theorem Inv.cne(I:Inv X pins σ H s):∀x c,X.env.cells.lookup x=some c->c≠X.env.locals:=λx c e z=>by
 obtain⟨v,o,ho,hd⟩:=I.cell x c e;obtain⟨m,⟨o',es,ep,ho',hd',_⟩,_⟩:=I.loc;rw[z,ho'] at ho;cases ho;rw[hd'] at hd;cases hd
theorem Inv.funs(I:Inv X pins σ H s):s.heap.FunFrames X.base X.outer:=by
 have all:∀(l:List Env),(∀b∈frs l,b∈X.fs)->X.s₀.heap.FunFrames X.base l->s.heap.FunFrames X.base l:=by
  intro l
  induction l with
  |nil=>intro _ _;trivial
  |cons env r ih=>
   intro hs hl;obtain⟨hk,⟨L,o,hf,hn,ho,hd⟩,hr⟩:=hl;have hL:L∈X.fs:=hs L (by unfold frs;rw[List.filterMap_cons,hf];exact an');obtain⟨sl,e⟩:=I.base.slot L o ho (I.ok.frf L hL) hL λz=>I.ok.exfs L z hL;exact⟨hk,⟨L,_,hf,hn,e,hd⟩,ih (λb hb=>hs b (by unfold frs;rw[List.filterMap_cons,hf];exact ag' _ hb)) hr⟩
 exact all X.outer (λ_ hb=>hb) I.ok.funs
theorem Inv.stack(I:Inv X pins σ H s):s.heap.FunFrames X.base X.stack:=by
 rcases I.ok.stk with e|⟨e,hf⟩
 ·rw[e];exact I.funs
 ·rw[e];obtain⟨m,hn,_⟩:=I.loc;refine .cons (by rw[I.ok.kind];decide) hf hn ?_ I.funs;exact Heap.get?_none_of_le (aQ' I.ok.bsz I.ok.above)
theorem Inv.stkSub(I:Inv X pins σ H s):∀b∈frs X.stack,b∈X.env.locals::X.fs:=λb hb=>by
 rcases I.ok.stk with e|⟨e,hf⟩
 ·rw[e] at hb;exact ag' _ hb
 ·rw[e] at hb;unfold frs at hb;rw[List.filterMap_cons,hf] at hb;exact hb
theorem Inv.stkFree(I:Inv X pins σ H s):∀b∈frs X.stack,H b=none:=λb hb=>by
 rcases aj'.mp (I.stkSub b hb) with e|hb
 ·rw[e];exact I.free
 ·obtain⟨_,o,ho,_⟩:=I.ok.funs.mem hb;exact I.base.free b o ho (I.ok.frf b hb) λz=>I.ok.exfs b z hb
theorem Inv.step{g':Array GenState}{t':Nat}{d':Drawn}{ch:List Addr}(I:Inv X pins σ H s)
  (hch:∀b∈ch,(b∈X.ex∨X.s₀.heap.objs.size<=b)/\b≠X.env.locals/\(∀x c,X.env.cells.lookup x=some c->c≠b)/\∀p∈X.pn++pins,p.1≠b)
  (keep:∀b o,b≠X.env.locals->b∉X.fs->b∉ch->s.heap.get? b=some o->H b=none->h'.get? b=some o)
  (slot:∀b o,b≠X.env.locals->b∈X.fs->b∉ch->s.heap.get? b=some o->H b=none->∃sl,h'.get? b=some { o with slots:=sl }) (free:∀b o,b∉ch->s.heap.get? b=some o->H b=none->H' b=none)
  (there:∀b o,b∉ch->s.heap.get? b=some o->∃o',h'.get? b=some o')
  (tups:∀b xs,H b=some (.tup xs)->H' b=some (.tup xs)) (frzs:∀b o u,H b=some (.frz o u)->H' b=some (.frz o u)) (tbls:∀b ps,H b=some (.tbl ps)->∃more,H' b=some (.tbl (ps++more)))
  (ns:∀m,s.heap.Ns X.env.locals m->h'.Ns X.env.locals m) (hok:HOk X.prog X.w H' h') (hg:AllBare g') :
  Inv X pins σ H' { s with heap:=h',gens:=g',drawn:=d',toks:=t' }:=by
 have neL:∀b o,X.s₀.heap.get? b=some o->b≠X.env.locals:=λb o e=>aw' (av' (a_3 e) I.ok.above)
 have neC:∀b o,X.s₀.heap.get? b=some o->b∉X.ex->b∉ch:=λb o e hx hb=>by
  rcases (hch b hb).1 with z|z
  ·exact hx z
  ·exact absurd (av' (a_3 e) z) (aP' _)
 have cellK:∀x c,X.env.cells.lookup x=some c->∀v,s.heap.IsCell c v->h'.IsCell c v:=λx c e v ⟨o,ho,hd⟩=>by
  have nch:c∉ch:=λz=>(hch c z).2.2.1 x c e rfl;by_cases hc:c∈X.fs
  ·obtain⟨sl,q⟩:=slot c o (I.cne x c e) hc nch ho (I.freeC x c e);exact⟨_,q,hd⟩
  ·exact⟨o,keep c o (I.cne x c e) hc nch ho (I.freeC x c e),hd⟩
 refine⟨I.ok,I.os,hg,⟨λb o e n hb hx=>?_,λb o e n hb hx=>?_,λb o e n hx=>?_,λb o e hx=>?_,λb xs e=>tups b xs (I.base.tups b xs e),λb o xs e=>frzs b o xs (I.base.frzs b o xs e),λb ps e=>?_⟩,?_,λx c e=>?_,?_,λx c e=>?_,λp hp=>?_,hok,I.len⟩
 ·exact keep b o (neL b o e) hb (neC b o e hx) (I.base.keep b o e n hb hx) (I.base.free b o e n hx)
 ·obtain⟨sl,e1⟩:=I.base.slot b o e n hb hx;obtain⟨sl',e2⟩:=slot b _ (neL b o e) hb (neC b o e hx) e1 (I.base.free b o e n hx);exact⟨sl',e2⟩
 ·obtain⟨o',e1⟩:=I.base.there b o e hx;exact free b o' (neC b o e hx) e1 (I.base.free b o e n hx)
 ·obtain⟨o',e1⟩:=I.base.there b o e hx;exact there b o' (neC b o e hx) e1
 ·obtain⟨m1,e1⟩:=I.base.tbls b ps e;obtain⟨m2,e2⟩:=tbls b _ e1;exact⟨m1++m2,by rw[e2,Array.append_assoc]⟩
 ·obtain⟨m,hn,hl⟩:=I.loc;refine⟨m,ns m hn,λi x v e1 e2 e3=>?_⟩;obtain⟨u,r,l⟩:=hl i x v e1 e2 e3;refine⟨u,r,?_⟩;rcases l with l|⟨k,c,e,z⟩
  ·exact .inl l
  ·exact .inr ⟨k,c,e,cellK x c e _ z⟩
 ·obtain⟨v,z⟩:=I.cell x c e;exact⟨v,cellK x c e v z⟩
 ·obtain⟨m,⟨o,_,_,ho,_⟩,_⟩:=I.loc;exact free _ o (λz=>(hch _ z).2.1 rfl) ho I.free
 ·obtain⟨v,o,ho,hd⟩:=I.cell x c e;exact free c o (λz=>(hch c z).2.2.1 x c e rfl) ho (I.freeC x c e)
 ·obtain⟨e,n,ne,nf,d⟩:=I.pin p hp;have nch:p.1∉ch:=λz=>(hch p.1 z).2.2.2 p hp rfl;exact⟨keep p.1 p.2 ne nf nch e n,free p.1 p.2 nch e n,ne,nf,d⟩
theorem Inv.un{t':Nat}(I:Inv X pins σ H s)(u:Un X.fs [] H H' s.heap h')(hok:HOk X.prog X.w H' h'):Inv X pins σ H' { s with heap:=h',toks:=t' }:=by
 obtain⟨m,⟨o,es,ep,ho,r⟩,_⟩:=id I.loc;obtain⟨sl,hL⟩:=u.any ho I.free Z2
 exact I.step (g':=s.gens) (d':=s.drawn) (ch:=[]) (λ_ z=>nomatch z) (λb o _ hb _ e n=>u.keep b o e n hb Z2) (λb o _ hb _ e n=>u.slot b o e n hb Z2) (λb o _ e n=>u.free b o e n Z2) (λb o _ e=>u.there b o e Z2) u.tups u.frzs u.tbls (λm' hm=>by
  obtain⟨o',es',ep',ho',r'⟩:=hm;rw[ho] at ho';cases ho';exact⟨_,es',ep',hL,r'⟩) hok I.bare
theorem Inv.call{g':Array GenState}{t':Nat}{d':Drawn}{ch:List Addr}(I:Inv X pins σ H s)(u:Un (frs X.stack) ch H H' s.heap h')(hok:HOk X.prog X.w H' h')(hg:AllBare g')
  (hch:∀b∈ch,(b∈X.ex∨X.s₀.heap.objs.size<=b)/\b≠X.env.locals/\(∀x c,X.env.cells.lookup x=some c->c≠b)/\∀p∈X.pn++pins,p.1≠b) :
  Inv X pins σ H' { s with heap:=h',gens:=g',drawn:=d',toks:=t' }:=by
 obtain⟨m,⟨o,es,ep,ho,r⟩,_⟩:=id I.loc;obtain⟨sl,hL⟩:=u.any ho I.free λz=>(hch _ z).2.1 rfl
 exact I.step (ch:=ch) hch (λb o hL hb hc e n=>u.keep b o e n (λz=>(aj'.mp (I.stkSub b z)).elim hL hb) hc) (λb o _ _ hc e n=>u.any e n hc) (λb o hc e n=>u.free b o e n hc) (λb o hc e=>u.there b o e hc) u.tups u.frzs u.tbls (λm' hm=>by
  obtain⟨o',es',ep',ho',r'⟩:=hm;rw[ho] at ho';cases ho';exact⟨_,es',ep',hL,r'⟩) hok hg
theorem Inv.turned{t':Nat}{it:Addr}(I:Inv X pins σ H s)(k:∀b o,b≠it->s.heap.get? b=some o->h'.get? b=some o)(hn:H it=none)(hL:it≠X.env.locals)
  (h1:it∈X.ex∨X.s₀.heap.objs.size<=it) (h2:∀x c,X.env.cells.lookup x=some c->c≠it) (h3:∀p∈X.pn++pins,p.1≠it):Inv X pins σ H { s with heap:=h',toks:=t' }:=by
 have nit:∀b u,H b=some u->b≠it:=λb u e z=>by rw[z,hn] at e;cases e
 refine I.step (g':=s.gens) (d':=s.drawn) (ch:=[it]) (λb hb=>?_) (λb o _ _ hc e _=>k b o (λz=>hc (by simp[z])) e) (λb o _ _ hc e _=>⟨o.slots,k b o (λz=>hc (by simp[z])) e⟩) (λ_ _ _ _ n=>n)
  (λb o hc e=>⟨o,k b o (λz=>hc (by simp[z])) e⟩) (λ_ _ e=>e) (λ_ _ _ e=>e) (λb ps e=>⟨#[],by rw[e];simp⟩) (λm hm=>?_) (λb u e=>?_) I.bare
 ·have e:b=it:=by simpa using hb
  subst e;exact⟨h1,hL,h2,h3⟩
 ·obtain⟨o,es,ep,ho,r⟩:=hm;exact⟨o,es,ep,k _ o (Ne.symm hL) ho,r⟩
 ·refine (I.hok b u e).stay (λc v hc q=>k c v ?_ q) (λ_ q=>q) λ_ _ q=>q;rcases hc with z|z
  ·rw[z];exact nit b u e
  ·exact nit c _ z
theorem Inv.tok(I:Inv X pins σ H s)(t:Nat):Inv X pins σ H { s with toks:=t }:=I.un (h':=s.heap) (t':=t) Un.refl I.hok
theorem Inv.kept{t':Nat}(I:Inv X pins σ H s)(k:∀b u,s.heap.get? b=some u->h'.get? b=some u):Inv X pins σ H { s with heap:=h',toks:=t' }:=I.un (Un.kept k) (I.hok.kept k)
theorem Inv.laid{o:HO}{t':Nat}(I:Inv X pins σ H s)(k:∀b u,s.heap.get? b=some u->h'.get? b=some u)(hp:s.heap.objs.size<=a)(new:a0' X.prog X.w (upd H a o) h' a o) :
  Inv X pins σ (upd H a o) { s with heap:=h',toks:=t' }:=I.un (Un.laid k hp (I.hok.fresh hp)) (I.hok.laid k hp new)
theorem Inv.write{x e:Addr}{o:HO}{t':Nat}(I:Inv X pins σ H s)(mu:Mut (H x))(he:e=x∨H e=some (.own x))(k:∀b u,b≠e->s.heap.get? b=some u->h'.get? b=some u)(heo:∃u,h'.get? e=some u)
  (new:a0' X.prog X.w (upd H x o) h' x o):Inv X pins σ (upd H x o) { s with heap:=h',toks:=t' }:=I.un (Un.write mu he k heo) (I.hok.write mu he k heo new)
theorem Inv.pins_of{pins':List (Addr × Obj)}(I:Inv X pins σ H s)(h:∀p∈pins',s.heap.get? p.1=some p.2/\H p.1=none/\p.1≠X.env.locals/\p.1∉X.fs/\∀v,p.2.data≠.cell v):Inv X pins' σ H s:=
 ⟨I.ok,I.os,I.bare,I.base,I.loc,I.cell,I.free,I.freeC,λp hp=>(ay'.mp hp).elim (λz=>I.pin p (List.mem_append_left _ z)) (h p),I.hok,I.len⟩
theorem eg_{N:List Str}(hN:N.Nodup){i j:Nat}{x:Str}(a:N[i]? = some x)(b:N[j]? = some x):i=j:=by
 obtain⟨h1,e1⟩:=ab'.mp a;obtain⟨h2,e2⟩:=ab'.mp b;exact (List.getElem_inj hN).mp (e1.trans e2.symm)
theorem df_{M:Model}{A:Ag}{E:Aa->Ab->Prop}{i:Nat}{x:Str}{v:V}{u:Aa}{Q:Unit->Ab->Prop}(I:Inv X pins σ H s)(hN:X.N.Nodup)(hi:X.N[i]? = some x)(hx:Loc X.env.scope x)(r:RelV v u)
  (h:∀s',Inv X pins (σ.set i (some v)) H s'->(∃a,Heap.SameBut a s.heap s'.heap/\(a=X.env.locals∨X.env.cells.lookup x=some a))->Q () s') (hf:X.fn x=true∨X.env.scope.names.lookup x=some .local:=by first|exact .inl rfl|exact .inr rfl|assumption):wpAny M A (storeName X.env x u) Q E s:=by
 obtain⟨m,hn,hl⟩:=id I.loc;have hcls:(X.env.scope.kind == .class || (X.env.scope.kind == .module&&X.env.locals != X.env.globals))=false:=by rw[I.ok.kind];rfl
 have hiσ:i<σ.length:=by rw[I.len];exact (ab'.mp hi).1
 have cne:=I.cne
 have tracked:∀{a:Addr} {h':Heap},(∃o,s.heap.get? a=some o/\H a=none)->Heap.SameBut a s.heap h'->HOk X.prog X.w H h':=λ{a h'} ha hs b ob e=>by
  obtain⟨_,_,hfree⟩:=ha;refine (I.hok b ob e).stay (λc w' hc q=>(hs.2 c ?_).trans q) (λ_ q=>q) λ_ _ q=>q;rintro rfl;rcases hc with rfl|hc
  ·rw[hfree] at e;cases e
  ·rw[hfree] at hc;cases hc
 rcases hx with hk|hk
 ·refine wpAny_storeName_local hk hn (λh' hn' hs=>?_) hcls;obtain⟨oL,_,_,hoL,_⟩:=id hn;refine h _ ⟨I.ok,I.os,I.bare,⟨λb o e n hb hx=>?_,λb o e n hb hx=>?_,I.base.free,λb o e hx=>?_,I.base.tups,I.base.frzs,I.base.tbls⟩,⟨_,hn',λj y v' e1 e2 e3=>?_⟩,λy c e=>?_,I.free,I.freeC,λp hp=>?_,tracked ⟨oL,hoL,I.free⟩ hs,by simpa using I.len⟩ ⟨_,hs,.inl rfl⟩
  ·exact (hs.2 b (aw' (av' (a_3 e) I.ok.above))).trans (I.base.keep b o e n hb hx)
  ·obtain⟨sl,e1⟩:=I.base.slot b o e n hb hx;exact⟨sl,(hs.2 b (aw' (av' (a_3 e) I.ok.above))).trans e1⟩
  ·obtain⟨o',e1⟩:=I.base.there b o e hx;exact⟨o',(hs.2 b (aw' (av' (a_3 e) I.ok.above))).trans e1⟩
  ·by_cases hj:j=i
   ·subst hj;rw[hi] at e1;cases e1;rw[List.getElem?_set_self hiσ] at e2;cases e2;exact⟨u,r,.inl ⟨hk,by simp⟩⟩
   ·rw[List.getElem?_set_ne (Ne.symm hj)] at e2;obtain⟨u',r',q⟩:=hl j y v' e1 e2 e3;refine⟨u',r',?_⟩;rcases q with⟨k,e⟩|⟨k,c,e,z⟩
    ·refine .inl ⟨k,?_⟩;have:y≠x:=λe=>hj (eg_ hN e1 (e▸hi));simp[this,e]
    ·exact .inr ⟨k,c,e,z.sameBut hs (cne y c e)⟩
  ·obtain⟨w',z⟩:=I.cell y c e;exact⟨w',z.sameBut hs (cne y c e)⟩
  ·obtain⟨e,n,ne,nf,d⟩:=I.pin p hp;exact⟨(hs.2 p.1 ne).trans e,n,ne,nf,d⟩
 ·have hfn:X.fn x=true:=by
   rcases hf with z|z
   ·exact z
   ·rw[z] at hk;cases hk
  obtain⟨c,hc⟩:=I.ok.has x (.inl hk);obtain⟨w',z⟩:=I.cell x c hc;refine wpAny_storeName_cell I.ok.kind hk hc z (λh' hc' hs=>?_);obtain⟨oc,hoc,hocd⟩:=id z;refine h { s with heap:=h' } ⟨I.ok,I.os,I.bare,⟨λb o e n hb hx=>?_,λb o e n hb hx=>?_,I.base.free,λb o e hx=>?_,I.base.tups,I.base.frzs,I.base.tbls⟩,⟨m,hn.sameBut hs (Ne.symm (cne x c hc)),λj y v' e1 e2 e3=>?_⟩,λy c' e=>?_,I.free,I.freeC,λp hp=>?_,tracked ⟨oc,hoc,I.freeC x c hc⟩ hs,by simpa using I.len⟩ ⟨c,hs,.inr hc⟩
  ·exact (hs.2 b (aw' (av' (a_3 e) (I.ok.cab x c hfn hc)))).trans (I.base.keep b o e n hb hx)
  ·obtain⟨sl,e1⟩:=I.base.slot b o e n hb hx;exact⟨sl,(hs.2 b (aw' (av' (a_3 e) (I.ok.cab x c hfn hc)))).trans e1⟩
  ·obtain⟨o',e1⟩:=I.base.there b o e hx;exact⟨o',(hs.2 b (aw' (av' (a_3 e) (I.ok.cab x c hfn hc)))).trans e1⟩
  ·by_cases hj:j=i
   ·subst hj;rw[hi] at e1;cases e1;rw[List.getElem?_set_self hiσ] at e2;cases e2;exact⟨u,r,.inr ⟨.inl hk,c,hc,hc'⟩⟩
   ·rw[List.getElem?_set_ne (Ne.symm hj)] at e2;obtain⟨u',r',q⟩:=hl j y v' e1 e2 e3;refine⟨u',r',?_⟩;rcases q with q|⟨k,c',e,z'⟩
    ·exact .inl q
    ·refine .inr ⟨k,c',e,z'.sameBut hs ?_⟩;rintro rfl;exact hj (eg_ hN e1 (I.ok.inj _ _ _ e hc▸hi))
  ·by_cases hcc:c'=c
   ·subst hcc;exact⟨_,hc'⟩
   ·obtain⟨w2,z2⟩:=I.cell y c' e;exact⟨w2,z2.sameBut hs hcc⟩
  ·obtain⟨e,n,ne,nf,d⟩:=I.pin p hp;refine⟨(hs.2 p.1 ?_).trans e,n,ne,nf,d⟩;intro q;rw[q,hoc] at e;have q':oc=p.2:=a_8 e;exact d w' (by rw[<- q'];exact hocd)
theorem ej_{M:Model}{A:Ag}{E:Aa->Ab->Prop}{i:Nat}{x:Str}{v:V}{u:Aa}{Q:Unit->Ab->Prop}(I:Inv X pins σ H s)(hN:X.N.Nodup)(hi:X.N[i]? = some x)(hx:Loc X.env.scope x)(r:RelV v u)
  (h:∀s',Inv X pins (σ.set i (some v)) H s'->Q () s') (hf:X.fn x=true∨X.env.scope.names.lookup x=some .local:=by first|exact .inl rfl|exact .inr rfl|assumption):wpAny M A (storeName X.env x u) Q E s:=
 df_ I hN hi hx r (λs' I' _=>h s' I') hf
theorem Inv.call'{s':Ab}{ch:List Addr}(I:Inv X pins σ H s)(ho:s'.os=s.os)(u:Un (frs X.stack) ch H H' s.heap s'.heap)(hok:HOk X.prog X.w H' s'.heap)(hg:AllBare s'.gens)
  (hch:∀b∈ch,(b∈X.ex∨X.s₀.heap.objs.size<=b)/\b≠X.env.locals/\(∀x c,X.env.cells.lookup x=some c->c≠b)/\∀p∈X.pn++pins,p.1≠b):Inv X pins σ H' s':=by
 obtain⟨h',g',d',t',o'⟩:=s';have e:o'=s.os:=ho;subst e;exact I.call (g':=g') (t':=t') (d':=d') u hok hg hch
end
abbrev XK:=Aa->Option Addr->Hp->Prop
abbrev St:=List (Option V)
abbrev VK:=V->Hp->Prop
abbrev TE:=St->Hp->VK->Prop
abbrev TT:=St->Hp->(Bool->Hp->Prop)->Prop
abbrev TA:=St->Hp->(List V->Hp->Prop)->Prop
structure Ends where
 nx:St->Hp->Prop
 rt:VK
 bk:St->Hp->Prop:=λ_ _=>False
 ct:St->Hp->Prop:=λ_ _=>False
abbrev TS:=Ends->St->Hp->Prop
def EP(X:Cx)(pins:List (Addr × Obj))(σ:St)(Q:VK)(u:Aa)(s':Ab):Prop:=∃v H',Inv X pins σ H' s'/\RelV v u/\Q v H'
def TP(X:Cx)(pins:List (Addr × Obj))(σ:St)(Q:Bool->Hp->Prop)(b:Bool)(s':Ab):Prop:=∃H',Inv X pins σ H' s'/\Q b H'
def AP(X:Cx)(pins:List (Addr × Obj))(σ:St)(Q:List V->Hp->Prop)(us:List Aa)(s':Ab):Prop:=∃vs H',Inv X pins σ H' s'/\Vals vs us/\Q vs H'
def SP(X:Cx)(pins:List (Addr × Obj))(D:Ends)(f:Flow)(s':Ab):Prop:=
 match f with
 |.next=>∃σ' H',Inv X pins σ' H' s'/\D.nx σ' H'
 |.brk=>∃σ' H',Inv X pins σ' H' s'/\D.bk σ' H'
 |.cont=>∃σ' H',Inv X pins σ' H' s'/\D.ct σ' H'
 |.ret u=>∃v σ' H',Inv X pins σ' H' s'/\RelV v u/\D.rt v H'
def PE(X:Cx)(e:Expr)(t:TE):Prop:=
 ∀(pins:List (Addr × Obj)) (s:Ab) (σ:St) (H:Hp) (Q:VK),Inv X pins σ H s->t σ H Q->wpAny (model X.prog X.w) X.A (eval e X.env) (EP X pins σ Q) X.xe s
def PT(X:Cx)(e:Expr)(t:TT):Prop:=
 ∀(pins:List (Addr × Obj)) (s:Ab) (σ:St) (H:Hp) (Q:Bool->Hp->Prop),Inv X pins σ H s->t σ H Q->wpAny (model X.prog X.w) X.A (isTrue e X.env (eval e X.env)) (TP X pins σ Q) X.xe s
def PW(X:Cx)(e:Expr)(t:TT):Prop:=
 ∀(whole:Sem Aa) (pins:List (Addr × Obj)) (s:Ab) (σ:St) (H:Hp) (Q:Bool->Hp->Prop),Inv X pins σ H s->t σ H Q->wpAny (model X.prog X.w) X.A (isTrue e X.env whole) (TP X pins σ Q) X.xe s
theorem PW.pt{X:Cx}{e:Expr}{t:TT}(h:PW X e t):PT X e t:=h _
def PA(X:Cx)(es:List Expr)(t:TA):Prop:=
 ∀(pos:Pos) (pins:List (Addr × Obj)) (s:Ab) (σ:St) (H:Hp) (Q:List V->Hp->Prop),Inv X pins σ H s->t σ H Q->wpAny (model X.prog X.w) X.A (spliced (backTo pos (starEach es X.env))) (AP X pins σ Q) X.xe s
def PS(X:Cx)(st:Stmt)(t:TS):Prop:=
 ∀(pins:List (Addr × Obj)) (s:Ab) (σ:St) (H:Hp) (D:Ends),Inv X pins σ H s->t D σ H->wpAny (model X.prog X.w) X.A (exec st X.env) (SP X pins D) X.xe s
def PSs(X:Cx)(st:List Stmt)(t:TS):Prop:=
 ∀(pins:List (Addr × Obj)) (s:Ab) (σ:St) (H:Hp) (D:Ends),Inv X pins σ H s->t D σ H->wpAny (model X.prog X.w) X.A (execs st X.env) (SP X pins D) X.xe s
variable{M:Model}
theorem thn{α:Type}{t:Sem α}{Q Q':α->Ab->Prop}{A:Ag}{E:Aa->Ab->Prop}{s:Ab}(h:wpAny M A t Q E s)(hQ:∀a s,Q a s->Q' a s):wpAny M A t Q' E s:=wpAny_mono h hQ λ_ _ x=>x
section
variable{X:Cx}
inductive tVar (i:Nat) (σ:St) (H:Hp) (Q:VK):Prop
 |mk:∀v,σ[i]? = some (some v)->Q v H->tVar i σ H Q
def tC(v:V):TE:=λ_ H Q=>Q v H
theorem is_{i:Nat}{x:Str}{pos:Pos}(hN:X.N[i]? = some x)(hv:Vis X.env.scope x)(hd:(x == ("__debug__":Str))=false:=by decide)(hcd:(x == ("__classdict__":Str))=false:=by decide):PE X (.Name x pos) (tVar i):=by
 intro pins s σ H Q I h;obtain⟨v,e,h⟩:=h;obtain⟨m,hn,hl⟩:=I.loc;obtain⟨u,r,l⟩:=hl i x v hN e hv;have fin:EP X pins σ Q u s:=⟨v,H,I,r,h⟩;rcases l with⟨hk,hm⟩|⟨hk,c,hc,hcell⟩
 ·exact wpAny_Name (wpAny_loadName_local I.ok.kind hk hn hm fin) hd
 ·rcases hk with hk|hk
  ·exact wpAny_Name (wpAny_loadName_cell I.ok.kind hk hc hcell fin) hd
  ·exact wpAny_Name (wpAny_loadName_free I.ok.kind hk hc hcell fin hcd) hd
theorem a8_{i j pos}:PE X (.Constant (.int i) j pos) (tC (.int i)):=λ_ _ _ H _ I h=>wpAny_Constant_int ⟨.int i,H,I.tok _,⟨_,rfl⟩,h⟩
theorem h0_{b j pos}:PE X (.Constant (.bool b) j pos) (tC (.bl b)):=λ_ _ _ H _ I h=>Constant_bool ⟨.bl b,H,I,rfl,h⟩
theorem d0_{j pos}:PE X (.Constant .none j pos) (tC .non):=λ_ _ _ H _ I h=>Constant_none ⟨.non,H,I,rfl,h⟩
theorem bv_{x j pos}:PE X (.Constant (.str x) j pos) (tC (.str x)):=λ_ _ _ H _ I h=>Calls.Constant_str ⟨.str x,H,I.tok _,⟨_,rfl⟩,h⟩
def Gl(X:Cx)(x:Str):Prop:=X.env.kindOf x=some .globalImplicit
theorem cQ_{E:Aa->Ab->Prop}{pins:List (Addr × Obj)}{s:Ab}{σ:St}{H:Hp}{x:Str}{u:Aa}{pos:Pos}{Q:Aa->Ab->Prop}(I:Inv X pins σ H s)(hg:Gl X x)(hm:X.mg x=some u)(h:Q u s)
  (hd:(x == ("__debug__":Str))=false:=by decide):wpAny (model X.prog X.w) X.A (eval (.Name x pos) X.env) Q E s:=
 Calls.Name_function_global I.ok.kind hg (Calls.loadGlobal_global (by rw[I.ok.glob];exact I.mod.glob.keeps I.bk) hm h) hd
theorem dr_{E:Aa->Ab->Prop}{pins:List (Addr × Obj)}{s:Ab}{σ:St}{H:Hp}{x:Str}{u:Aa}{pos:Pos}{Q:Aa->Ab->Prop}(I:Inv X pins σ H s)(hg:Gl X x)(hm:X.mg x=none)(hv:bootBuiltins x=some u)(h:Q u s)
  (hn:x≠"__name__":=by decide) (hd:(x == ("__debug__":Str))=false:=by decide):wpAny (model X.prog X.w) X.A (eval (.Name x pos) X.env) Q E s:=by
 obtain⟨mb,h1,h2⟩:=I.mod.blt;exact Calls.Name_function_global I.ok.kind hg (Calls.loadGlobal_builtin (by rw[I.ok.glob];exact I.mod.glob.keeps I.bk) hm (by rw[I.ok.blt];exact h1.keeps I.bk) ((h2 x hn).trans hv) h) hd
theorem bj_{x:Str}{v:V}{u:Aa}{pos:Pos}(hg:Gl X x)(hm:X.mg x=some u)(r:RelV v u)(hd:(x == ("__debug__":Str))=false:=by decide):PE X (.Name x pos) (tC v):=
 λ_ _ _ H _ I h=>cQ_ I hg hm ⟨v,H,I,r,h⟩ hd
theorem aN_{x:Str}{v:V}{u:Aa}{pos:Pos}(hg:Gl X x)(hm:X.mg x=none)(hv:bootBuiltins x=some u)(r:RelV v u)(hn:x≠"__name__":=by decide)(hd:(x == ("__debug__":Str))=false:=by decide):PE X (.Name x pos) (tC v):=
 λ_ _ _ H _ I h=>dr_ I hg hm hv ⟨v,H,I,r,h⟩ hn hd
variable{a b:Expr}{ta tb:TE}{pos:Pos}
def PC(X:Cx)(op:CmpOp)(a b:Expr)(t:TE):Prop:=
 ∀(pins:List (Addr × Obj)) (s:Ab) (σ:St) (H:Hp) (Q:VK),Inv X pins σ H s->t σ H Q->
  wpAny (model X.prog X.w) X.A (eval a X.env) (λv s₁=>wpAny (model X.prog X.w) X.A (eval b X.env) (λu s₂=>wpAny (model X.prog X.w) X.A (compareOp op v u) (EP X pins σ Q) X.xe s₂) X.xe s₁) X.xe s
theorem nobehind(b:Expr){op:CmpOp}(h:op≠.In)(h2:op≠.NotIn):behindInMarks op b=false:=by
 have e1:(op == CmpOp.In)=false:=by cases op<;>first|rfl|exact absurd rfl h
 have e2:(op == CmpOp.NotIn)=false:=by cases op<;>first|rfl|exact absurd rfl h2
 cases b<;>simp[behindInMarks,e1,e2]
def tIsN(ta:TE):TE:=λσ H Q=>ta σ H λx H1=>Q (.bl (decide (x=.non))) H1
def tNotN(ta:TE):TE:=λσ H Q=>ta σ H λx H1=>Q (.bl (!decide (x=.non))) H1
theorem RelV.none_iff{x:V}{v:Aa}(r:RelV x v):(v == Value.none)=decide (x=.non):=by
 cases x with
 |non=>cases r;rfl
 |bl _=>cases r;rfl
 |int _=>obtain⟨t,rfl⟩:=r;rfl
 |str _=>obtain⟨t,rfl⟩:=r;rfl
 |byt _=>obtain⟨t,rfl⟩:=r;rfl
 |flt _=>obtain⟨t,rfl⟩:=r;rfl
 |ref _=>cases r;rfl
 |ty _=>cases r;rfl
theorem cv_{j pos'}(ha:PE X a ta):PC X .Is a (.Constant .none j pos') (tIsN ta):=by
 intro pins s σ H Q I h;refine thn (ha pins s σ H _ I h) λv s1 ⟨x,H1,I1,r1,q1⟩=>?_;exact Constant_none (is_none_gen ⟨.bl _,H1,I1,by rw[r1.none_iff];rfl,q1⟩)
theorem hw_{j pos'}(ha:PE X a ta):PC X .IsNot a (.Constant .none j pos') (tNotN ta):=by
 intro pins s σ H Q I h;refine thn (ha pins s σ H _ I h) λv s1 ⟨x,H1,I1,r1,q1⟩=>?_;exact Constant_none (isnot_none_gen ⟨.bl _,H1,I1,by rw[r1.none_iff];rfl,q1⟩)
inductive tBR (Q:Bool->Hp->Prop) (x:V) (H1:Hp):Prop
 |mk:∀c,x=.bl c->Q c H1->tBR Q x H1
def tB(t:TE):TT:=λσ H Q=>t σ H λx H1=>tBR Q x H1
theorem cB_{op:CmpOp}{t:TE}(h:PC X op a b t)(h1:behindInMarks op b=false:=by first|exact nobehind _ (by decide) (by decide)|rfl):PE X (.Compare a [op] [b] pos) t:=λpins s σ H Q I hw=>wpAny_Compare1 (h pins s σ H Q I hw) h1
theorem bl_{op:CmpOp}{t:TE}(h:PC X op a b t)(h1:behindInMarks op b=false:=by first|exact nobehind _ (by decide) (by decide)|rfl):PT X (.Compare a [op] [b] pos) (tB t):=by
 intro pins s σ H Q I hw;refine wpAny_isTrue_Compare1 (thn (h pins s σ H _ I hw) λv s1 h1=>thn h1 λu s2 h2=>thn h2 λc s3 ⟨x,H1,I1,r1,q1⟩=>?_) h1;obtain⟨d,rfl,q⟩:=q1;cases r1;exact c__ ⟨H1,I1,q⟩
theorem aJ_{e:Expr}{t:TE}(h:PE X e t)(he:∀whole,isTrue e X.env whole=(do let v <- whole;standAt e.pos;holding [v] (truthy v)):=by intro _;rfl):PT X e (tB t):=by
 intro pins s σ H Q I hw;refine isTrue_plain (thn (h pins s σ H _ I hw) λv s1 ⟨x,H1,I1,r1,q1⟩=>?_) (he _);obtain⟨d,rfl,q⟩:=q1;cases r1;exact c__ ⟨H1,I1,q⟩
variable{tA tB':TT}{rest:List Expr}
def tOr(t u:TT):TT:=λσ H Q=>t σ H λc H1=>if c=true then Q true H1 else u σ H1 Q
def tNot(t:TT):TT:=λσ H Q=>t σ H λc H1=>Q (!c) H1
theorem cd_(ha:PT X a tA):PW X (.BoolOp .Or [a] pos) tA:=by
 intro wh pins s σ H Q I h;refine isTrue_or (thn (ha pins s σ H Q I h) λc s1 e=>?_);cases c with
 |false=>exact isTrue_or_nil e
 |true=>exact e
theorem dO_(ha:PT X a tA)(hb:PW X (.BoolOp .Or (b::rest) pos) tB'):PW X (.BoolOp .Or (a::b::rest) pos) (tOr tA tB'):=by
 intro wh pins s σ H Q I h;refine isTrue_or (thn (ha pins s σ H _ I h) λc s1 ⟨H1,I1,q1⟩=>?_);cases c with
 |true=>exact⟨H1,I1,q1⟩
 |false=>exact hb wh pins s1 σ H1 Q I1 q1
theorem aE_(ha:PT X a tA):PT X (.UnaryOp .Not a pos) (tNot tA):=by
 intro pins s σ H Q I h;exact isTrue_not (ha pins s σ H (λc H1=>Q (!c) H1) I h)
inductive tAndVR (tb:TE) (σ:St) (Q:VK) (x:V) (H1:Hp):Prop
 |mk:∀c,x=.bl c->(if c=true then tb σ H1 Q else Q (.bl false) H1)->tAndVR tb σ Q x H1
def tAndV(ta tb:TE):TE:=λσ H Q=>ta σ H λx H1=>tAndVR tb σ Q x H1
inductive tNotVR (Q:VK) (x:V) (H1:Hp):Prop
 |mk:∀c,x=.bl c->Q (.bl (!c)) H1->tNotVR Q x H1
def tNotV(ta:TE):TE:=λσ H Q=>ta σ H λx H1=>tNotVR Q x H1
theorem bu_{op}{t:TE}(h:PE X a t):PE X (.BoolOp op [a] pos) t:=λpins s σ H Q I hw=>BoolOp_one (h pins s σ H Q I hw)
theorem b1_(ha:PE X a ta)(hb:PE X (.BoolOp .And (b::rest) pos) tb):PE X (.BoolOp .And (a::b::rest) pos) (tAndV ta tb):=by
 intro pins s σ H Q I h;refine BoolOp_and (thn (ha pins s σ H _ I h) λv s1 ⟨x,H1,I1,r1,q1⟩=>?_);obtain⟨c,rfl,q1⟩:=q1;cases r1;refine c__ ?_;cases c with
 |true=>exact hb pins s1 σ H1 Q I1 q1
 |false=>exact⟨.bl false,H1,I1,rfl,q1⟩
theorem ia_(ha:PE X a ta):PE X (.UnaryOp .Not a pos) (tNotV ta):=by
 intro pins s σ H Q I h;refine UnaryOp_ (thn (ha pins s σ H _ I h) λv s1 ⟨x,H1,I1,r1,q1⟩=>?_);obtain⟨c,rfl,q1⟩:=q1;cases r1;exact not_of (c__ ⟨.bl (!c),H1,I1,rfl,q1⟩)
def tIf(t:TT)(ta tb:TE):TE:=λσ H Q=>t σ H λc H1=>if c=true then ta σ H1 Q else tb σ H1 Q
theorem e4_{c:Expr}(hc:PT X c tA)(ha:PE X a ta)(hb:PE X b tb):PE X (.IfExp c a b pos) (tIf tA ta tb):=by
 intro pins s σ H Q I h;refine wpAny_IfExp (thn (hc pins s σ H _ I h) λd s1 ⟨H1,I1,q1⟩=>?_);cases d with
 |true=>exact ha pins s1 σ H1 Q I1 q1
 |false=>exact hb pins s1 σ H1 Q I1 q1
end
def SqL(K:F__)(H:Hp)(a:Addr)(xs:List V):Prop:=
 Rd H a (.lst xs) ∨
  ∃(o:Obj) (its:Array Aa) (n:Nat),K.lookup a=some o/\o.cls=.type "list"/\o.dict=none/\o.data=.seq its n/\its.size<=sizeLine/\Vals xs its.toList
def SqT(K:F__)(H:Hp)(a:Addr)(xs:List V):Prop:=
 Rd H a (.tup xs) ∨
  ∃(o:Obj) (its:Array Aa) (n:Nat),K.lookup a=some o/\o.cls=.type "tuple"/\o.data=.seq its n/\its.size<=sizeLine/\Vals xs its.toList
def absV:Aa->Option V
 |.none=>some .non
 |.bool b=>some (.bl b)
 |.int i _=>some (.int i)
 |.str x _=>some (.str x)
 |.bytes b _=>some (.byt b)
 |.float b _=>some (.flt b)
 |.ref a=>some (.ref a)
 |.type n=>some (.ty n)
 |_=>none
theorem RelV.abs{x:V}{u:Aa}(r:RelV x u):absV u=some x:=by
 cases x with
 |non=>cases r;rfl
 |bl _=>cases r;rfl
 |int _=>obtain⟨t,rfl⟩:=r;rfl
 |str _=>obtain⟨t,rfl⟩:=r;rfl
 |byt _=>obtain⟨t,rfl⟩:=r;rfl
 |flt _=>obtain⟨t,rfl⟩:=r;rfl
 |ref _=>cases r;rfl
 |ty _=>cases r;rfl
theorem RelV.inj{x y:V}{u:Aa}(r:RelV x u)(q:RelV y u):x=y:=a_8 (r.abs.symm.trans q.abs)
theorem Vals.inj:∀{xs ys:List V} {us:List Aa},Vals xs us->Vals ys us->xs=ys
 |_,_,_,.nil,.nil=>rfl
 |_,_,_,.cons r t,.cons r' t'=>by rw[r.inj r',Vals.inj t t']
section
variable{X:Cx}{pins:List (Addr × Obj)}{σ:St}{H:Hp}{s:Ab}{a:Addr}{xs ys:List V}
theorem SqL.of{K:F__}(h:H a=some (.lst xs)):SqL K H a xs:=.inl (.inl h)
theorem SqT.of{K:F__}(h:H a=some (.tup xs)):SqT K H a xs:=.inl (.inl h)
theorem Inv.list(I:Inv X pins σ H s)(h:SqL X.K H a xs):∃its:List Aa,Vals xs its/\PlainL s.heap a its.toArray/\xs.length<=sizeLine:=by
 rcases h with h|⟨o,its,n,hk,hc,hd,hs,hz,r⟩
 ·obtain⟨z,its,n,r,e⟩:=h.ok I.hok;exact⟨its,r,⟨_,n,e,rfl,rfl,rfl⟩,z⟩
 ·refine⟨its.toList,r,⟨o,n,I.kIn a o hk,hc,hd,by simpa using hs⟩,?_⟩;have e:=r.length;simp only[aL'] at e;omega
theorem Inv.tuple(I:Inv X pins σ H s)(h:SqT X.K H a xs):∃its:List Aa,Vals xs its/\IsTup s.heap a its.toArray/\xs.length<=sizeLine:=by
 rcases h with h|⟨o,its,n,hk,hc,hs,hz,r⟩
 ·obtain⟨z,its,r,p,_⟩:=h.ok I.hok;exact⟨its,r,p,z⟩
 ·refine⟨its.toList,r,⟨o,I.kIn a o hk,hc,n,by simpa using hs⟩,?_⟩;have e:=r.length;simp only[aL'] at e;omega
theorem Inv.list_inj(I:Inv X pins σ H s)(h:SqL X.K H a xs)(h':SqL X.K H a ys):xs=ys:=by
 obtain⟨its,r,⟨o,n,e,_,_,d⟩,_⟩:=I.list h;obtain⟨its',r',⟨o',n',e',_,_,d'⟩,_⟩:=I.list h';rw[e] at e';cases e';rw[d] at d'
 injection d' with d1 _
 have:its=its':=by simpa using b_7 Array.toList d1
 subst this;exact r.inj r'
theorem Inv.tuple_inj(I:Inv X pins σ H s)(h:SqT X.K H a xs)(h':SqT X.K H a ys):xs=ys:=by
 obtain⟨its,r,⟨o,e,_,n,d⟩,_⟩:=I.tuple h;obtain⟨its',r',⟨o',e',_,n',d'⟩,_⟩:=I.tuple h';rw[e] at e';cases e';rw[d] at d'
 injection d' with d1 _
 have:its=its':=by simpa using b_7 Array.toList d1
 subst this;exact r.inj r'
end
abbrev Cx.wish(X:Cx)(E:Aa->Ab->Prop):Cx:={ X with xe:=E }
abbrev Cx.nox(X:Cx):Cx:=X.wish λ_ _=>False
theorem Cx.Ok.wish{X:Cx}(ok:X.Ok)(E:Aa->Ab->Prop):(X.wish E).Ok:=
 ⟨ok.mod,ok.kind,ok.glob,ok.blt,ok.above,ok.inj,ok.has,ok.cab,ok.hd,ok.frames,ok.stk,ok.exf,ok.bs,ok.bsz,ok.noex,ok.exfs,ok.funs,ok.frf⟩
theorem Cx.Ok.unwish{X:Cx}{E:Aa->Ab->Prop}(ok:(X.wish E).Ok):X.Ok:=
 ⟨ok.mod,ok.kind,ok.glob,ok.blt,ok.above,ok.inj,ok.has,ok.cab,ok.hd,ok.frames,ok.stk,ok.exf,ok.bs,ok.bsz,ok.noex,ok.exfs,ok.funs,ok.frf⟩
section
variable{X:Cx}{pins:List (Addr × Obj)}{σ:St}{H:Hp}{s:Ab}{E:Aa->Ab->Prop}
theorem Inv.wish(I:Inv X pins σ H s)(E:Aa->Ab->Prop):Inv (X.wish E) pins σ H s:=⟨I.ok.wish E,I.os,I.bare,I.base,I.loc,I.cell,I.free,I.freeC,I.pin,I.hok,I.len⟩
theorem Inv.unwish(I:Inv (X.wish E) pins σ H s):Inv X pins σ H s:=⟨I.ok.unwish,I.os,I.bare,I.base,I.loc,I.cell,I.free,I.freeC,I.pin,I.hok,I.len⟩
theorem SP.unwish{D:Ends}{f:Flow}{s':Ab}(h:SP (X.wish E) pins D f s'):SP X pins D f s':=by
 cases f with
 |next=>obtain⟨σ',H',I,q⟩:=h;exact⟨σ',H',I.unwish,q⟩
 |brk=>obtain⟨σ',H',I,q⟩:=h;exact⟨σ',H',I.unwish,q⟩
 |cont=>obtain⟨σ',H',I,q⟩:=h;exact⟨σ',H',I.unwish,q⟩
 |ret u=>obtain⟨v,σ',H',I,r,q⟩:=h;exact⟨v,σ',H',I.unwish,r,q⟩
theorem PSs.nox{st:List Stmt}{t:TS}(h:PSs X.nox st t):PSs X st t:=λpins s σ H D I hw=>
 wpAny_mono (h pins s σ H D (I.wish _) hw) (λ_ _ q=>q.unwish) λ_ _ z=>False.elim z
end
section
variable{X:Cx}{st:Stmt}{rest:List Stmt}{t u:TS}{e:Expr}{te:TE}{pos:Pos}
def tNext:TS:=λD σ H=>D.nx σ H
def tSeq(t u:TS):TS:=λD σ H=>t { D with nx:=u D } σ H
theorem ab_:PSs X [] tNext:=λ_ _ σ H _ I h=>wpAny_execs_nil ⟨σ,H,I,h⟩
theorem a2_(h1:PS X st t)(h2:PSs X rest u):PSs X (st::rest) (tSeq t u):=by
 intro pins s σ H D I h;refine wpAny_execs_cons (thn (h1 pins s σ H { D with nx:=u D } I h) λf s1 q=>?_);cases f with
 |next=>
  obtain⟨σ',H',I',q⟩:=q;exact h2 pins s1 σ' H' D I' q
 |ret v=>exact q
 |brk=>exact q
 |cont=>exact q
theorem a6_(h1:PS X st t):PSs X [st] t:=by
 intro pins s σ H D I h;refine wpAny_execs_cons (thn (h1 pins s σ H D I h) λf s1 q=>?_);cases f with
 |next=>exact wpAny_execs_nil q
 |ret v=>exact q
 |brk=>exact q
 |cont=>exact q
theorem Inv.quiet{pins:List (Addr × Obj)}{σ:St}{H:Hp}{s:Ab}(I:Inv X pins σ H s):interactive X.env=false:=by simp[interactive,I.ok.kind]
def tDrop(te:TE):TS:=λD σ H=>te σ H λ_ H1=>D.nx σ H1
theorem aq_(he:PE X e te)(hs:swapsWith e none pos.line X.env=pure false:=by rfl):PS X (.Expr e pos) (tDrop te):=by
 intro pins s σ H D I h;exact wpAny_Expr_any (thn (he pins s σ H _ I h) λv s1 ⟨x,H1,I1,r1,q1⟩=>⟨σ,H1,I1,q1⟩) I.quiet hs
def tRet(te:TE):TS:=λD σ H=>te σ H D.rt
theorem ae_(he:PE X e te):PS X (.Return (some e) pos) (tRet te):=by
 intro pins s σ H D I h;exact wpAny_Return_some (thn (he pins s σ H _ I h) λv s1 ⟨x,H1,I1,r1,q1⟩=>⟨x,σ,H1,I1,r1,q1⟩)
def tIfS(c:TT)(t u:TS):TS:=λD σ H=>c σ H λb H1=>if b=true then t D σ H1 else u D σ H1
theorem au_{c:Expr}{a b:List Stmt}{tc:TT}(hc:PT X c tc)(ha:PSs X a t)(hb:PSs X b u):PS X (.If c a b pos) (tIfS tc t u):=by
 intro pins s σ H D I h;refine wpAny_If (thn (hc pins s σ H _ I h) λd s1 ⟨H1,I1,q1⟩=>?_);cases d with
 |true=>exact ha pins s1 σ H1 D I1 q1
 |false=>exact hb pins s1 σ H1 D I1 q1
def tNever:TS:=λ_ _ _=>False
theorem gq_:PS X st tNever:=λ_ _ _ _ _ _ h=>h.elim
theorem af_{sts:List Stmt}:PSs X sts tNever:=λ_ _ _ _ _ _ h=>h.elim
end
abbrev TG:=V->St->Hp->(St->Hp->Prop)->Prop
abbrev TGs:=List V->St->Hp->(St->Hp->Prop)->Prop
def PG(X:Cx)(target:Expr)(t:TG):Prop:=
 ∀(pins:List (Addr × Obj)) (s:Ab) (σ:St) (H:Hp) (v:V) (u:Aa) (Q:St->Hp->Prop),Inv X pins σ H s->RelV v u->t v σ H Q->
  wpAny (model X.prog X.w) X.A (assign target X.env u) (λ_ s'=>∃σ' H',Inv X pins σ' H' s'/\Q σ' H') X.xe s
def PGs(X:Cx)(ts:List Expr)(t:TGs):Prop:=
 ∀(pins:List (Addr × Obj)) (s:Ab) (σ:St) (H:Hp) (vs:List V) (us:List Aa) (Q:St->Hp->Prop),Inv X pins σ H s->Vals vs us->t vs σ H Q->
  wpAny (model X.prog X.w) X.A (assignInOrder ((assignEach ts X.env).map (·.2)) us) (λ_ s'=>∃σ' H',Inv X pins σ' H' s'/\Q σ' H') X.xe s
abbrev TSet:=V->V->V->Hp->(Hp->Prop)->Prop
def PSet(X:Cx)(t:TSet):Prop:=
 ∀(pins:List (Addr × Obj)) (s:Ab) (σ:St) (H:Hp) (o i v:V) (ov iv u:Aa) (Q:Hp->Prop),Inv X pins σ H s->RelV o ov->RelV i iv->RelV v u->t o i v H Q->
  wpAny (model X.prog X.w) X.A (setItem ov iv u) (λ_ s'=>∃H',Inv X pins σ H' s'/\Q H') X.xe s
section
variable{X:Cx}{pos:Pos}
def bD'(i:Nat):TG:=λv σ H Q=>Q (σ.set i (some v)) H
theorem aa_{i:Nat}{x:Str}(hN:X.N.Nodup)(hi:X.N[i]? = some x)(hx:Loc X.env.scope x)(hf:X.fn x=true∨X.env.scope.names.lookup x=some .local:=by first|exact .inl rfl|exact .inr rfl|assumption):PG X (.Name x pos) (bD' i):=by
 intro pins s σ H v u Q I r h;exact wpAny_assign_Name (ej_ I hN hi hx r (λs' I'=>⟨_,H,I',h⟩) hf)
def gNil:TGs:=λvs σ H Q=>vs=[]/\Q σ H
inductive bZ' (t:TG) (u:TGs) (vs:List V) (σ:St) (H:Hp) (Q:St->Hp->Prop):Prop
 |mk:∀v r,vs=v::r->(t v σ H λσ' H'=>u r σ' H' Q)->bZ' t u vs σ H Q
theorem aZ_:PGs X [] gNil:=by
 intro pins s σ H vs us Q I r h;obtain⟨e,h⟩:=h;subst e;cases r;exact assignInOrder_nil ⟨σ,H,I,h⟩
theorem ah_{e:Expr}{es:List Expr}{t:TG}{u:TGs}(h1:PG X e t)(h2:PGs X es u)
  (hs:(assignEach (e::es) X.env).map (·.2)=assign e X.env::(assignEach es X.env).map (·.2):=by rfl):PGs X (e::es) (bZ' t u):=by
 intro pins s σ H vs us Q I r h;obtain⟨v,vr,e1,h⟩:=h;subst e1;cases r with
 |cons r rr=>
  rw[hs];refine assignInOrder_cons (thn (h1 pins s σ H _ _ _ I r h) λ_ s1 ⟨σ1,H1,I1,q1⟩=>?_);exact h2 pins s1 σ1 H1 _ _ Q I1 rr q1
inductive gTup (K:F__) (n:Nat) (t:TGs) (v:V) (σ:St) (H:Hp) (Q:St->Hp->Prop):Prop
 |mk:∀a xs,v=.ref a->SqT K H a xs->xs.length=n->t xs σ H Q->gTup K n t v σ H Q
theorem co_{es:List Expr}{k:Nat}{t:TGs}{n:Nat}(hc:X.calm=true)(h:PGs X es t)
  (hn:(assignEach es X.env).length=n:=by rfl) (hst:(assignEach es X.env).findIdx? (·.1)=none:=by rfl):PG X (.Tuple es k pos) (gTup X.K n t):=by
 intro pins s σ H v u Q I r hw;obtain⟨a,xs,e1,hq,hl,hw⟩:=hw;subst e1;cases r;obtain⟨its,rv,ht,hz⟩:=I.tuple hq;refine assign_Tuple_tuple (I.ok.hd hc) ht (by simp[hn,<- hl,rv.length]) hst λh' hx=>?_;have I1:Inv X pins σ H { s with heap:=h' }:=I.kept (t':=s.toks) λb o e=>hx b o (aw' (a_3 e)) e;exact h pins _ σ H xs _ Q I1 (by simpa using rv) hw
def gSub(to ti:TE)(t:TSet):TG:=λv σ H Q=>to σ H λo H1=>ti σ H1 λi H2=>t o i v H2 λH3=>Q σ H3
theorem fR_{o i:Expr}{to ti:TE}{t:TSet}(ho:PE X o to)(hi:PE X i ti)(hs:PSet X t)
  (ha:∀v,assign (.Subscript o i pos) X.env v=(do
   let ov <- holding [v] (eval o X.env)
   let iv <- holding [v,ov] (eval i X.env)
   standAt pos
   holding [v,ov,iv] (setItem ov iv v)
   release [v,ov,iv] []):=by intro _;rfl):PG X (.Subscript o i pos) (gSub to ti t):=by
 intro pins s σ H v u Q I r h;rw[ha];refine a__ (wpAny_holding (thn (ho pins s σ H _ I h) λov s1 ⟨x,H1,I1,r1,q1⟩=>?_));refine a__ (wpAny_holding (thn (hi pins s1 σ H1 _ I1 q1) λiv s2 ⟨y,H2,I2,r2,q2⟩=>?_));refine a__ (wpAny_standAt (a__ (wpAny_holding (thn (hs pins s2 σ H2 x y v ov iv u _ I2 r1 r2 r q2) λ_ s3 ⟨H3,I3,q3⟩=>?_))));exact wpAny_release ⟨σ,H3,I3,q3⟩
def tAsg(te:TE)(g:TG):TS:=λD σ H=>te σ H λx H1=>g x σ H1 D.nx
theorem ed_{tg e:Expr}{te:TE}{g:TG}(he:PE X e te)(hg:PG X tg g)(hs:swapsWithSole [tg] e pos.line X.env=pure false:=by rfl)(hw:swappedStores [tg] e X.env=pure none:=by rfl)
  (h1:(assignEach [tg] X.env).map (·.2)=[assign tg X.env]:=by rfl):PS X (.Assign [tg] e pos) (tAsg te g):=by
 intro pins s σ H D I h;refine wpAny_Assign_stores (thn (he pins s σ H _ I h) λv s1 ⟨x,H1,I1,r1,q1⟩=>?_) hs hw;rw[h1];exact thn (hg pins s1 σ H1 x v _ I1 r1 q1) λ_ s2 q=>q
theorem ad_{i:Nat}{x:Str}{e:Expr}{te:TE}{pos':Pos}(hN:X.N.Nodup)(hi:X.N[i]? = some x)(hx:Loc X.env.scope x)(he:PE X e te)(hs:swapsWith e (some (.Name x pos')) pos.line X.env=pure false:=by rfl)(hf:X.fn x=true∨X.env.scope.names.lookup x=some .local:=by first|exact .inl rfl|exact .inr rfl|assumption) :
  PS X (.Assign [.Name x pos'] e pos) (tAsg te (bD' i)):=by
 intro pins s σ H D I h;refine wpAny_Assign_Name (thn (he pins s σ H _ I h) λv s1 ⟨y,H1,I1,r1,q1⟩=>?_) hs;exact ej_ I1 hN hi hx r1 (λs2 I2=>⟨_,H1,I2,q1⟩) hf
end
section
variable{X:Cx}{pos:Pos}
def tWhile(c:TT)(tb:TS):TS:=λD σ H=>∃W:Nat->St->Hp->Prop,(∃m,W m σ H)/\∀m σ H,W m σ H->
 c σ H λb H1=>if b=true then ∃N:St->Hp->Prop,(∀σ' H',N σ' H'->∃m',m'<m/\W m' σ' H')/\tb { D with nx:=N,ct:=N,bk:=D.nx } σ H1 else D.nx σ H1
theorem gR_{c:Expr}{body:List Stmt}{tc:TT}{tb:TS}(hp:PassesOwn (model X.prog X.w) X.A X.env X.xe)(hc:PT X c tc)(hb:PSs X body tb):PS X (.While c body [] pos) (tWhile tc tb):=by
 intro pins s σ H D I h;obtain⟨W,⟨m0,w0⟩,turn⟩:=h;refine wpAny_While (codeAny_whileLoop (λn s'=>∃σ' H',Inv X pins σ' H' s'/\W n σ' H') ?_ m0 ⟨σ,H,I,w0⟩);rintro n s1 ⟨σ1,H1,I1,w1⟩;refine wpAny_passesOwn hp (thn (hc pins s1 σ1 H1 _ I1 (turn n σ1 H1 w1)) λb s2 ⟨H2,I2,q2⟩=>?_);cases b with
 |true=>
  obtain⟨N,hN,q2⟩:=q2;rw[a_9 rfl];refine wpAny_passesOwn hp (thn (hb pins s2 σ1 H2 _ I2 q2) λf s3 q3=>?_);cases f with
  |next=>
   obtain⟨σ3,H3,I3,n3⟩:=q3;obtain⟨m',hm,w3⟩:=hN σ3 H3 n3;exact⟨m',hm,σ3,H3,I3,w3⟩
  |cont=>
   obtain⟨σ3,H3,I3,n3⟩:=q3;obtain⟨m',hm,w3⟩:=hN σ3 H3 n3;exact⟨m',hm,σ3,H3,I3,w3⟩
  |brk=>exact q3
  |ret v=>exact q3
 |false=>
  rw[a_6 ao'];exact wpAny_execs_nil ⟨σ1,H2,I2,q2⟩
end
structure It where
 go:Nat->Hp->Prop
 yld:Nat->Hp->V->Hp->Prop
 stop:Nat->Hp->Prop
def FpOk(X:Cx)(pins:List (Addr × Obj))(H:Hp)(b:Addr):Prop:=
 H b=none/\b≠X.env.locals/\b∉X.fs/\(b∈X.ex∨X.s₀.heap.objs.size<=b)/\(∀x c,X.env.cells.lookup x=some c->c≠b)/\∀p∈X.pn++pins,p.1≠b
variable{σ:St}
theorem Inv.fpOk{X:Cx}{pins:List (Addr × Obj)}{H H':Hp}{s:Ab}(I:Inv X pins σ H s)(hb:s.heap.objs.size<=b)(hn:H' b=none):FpOk X pins H' b:=by
 refine⟨hn,aR' (av' I.lt hb),I.nofs hb,.inr (aQ' I.sz hb),λx c e z=>?_,λp hp z=>?_⟩
 ·obtain⟨v,q⟩:=I.cell x c e;exact absurd (av' q.lt (by rw[z];exact hb)) (aP' _)
 ·exact absurd (av' (a_3 (I.pin p hp).1) (by rw[z];exact hb)) (aP' _)
structure Turn (P:Ad) (w:Af) (K:F__) (tg:Expr) (J:It) (fp:List Addr) (it:Addr) (tn:Nat->Heap->Prop):Prop where
 mem:it∈fp
 obj:∀i h,tn i h->∀b∈fp,∃o,h.get? b=some o/\∀v,o.data≠.cell v
 keep:∀i h h',tn i h->(∀b∈fp,∀o,h.get? b=some o->h'.get? b=some o)->tn i h'
 item:∀(X:Cx),X.prog=P->X.w=w->X.K=K->X.calm=true->∀(i:Nat) (pins:List (Addr × Obj)) (s:Ab) (σ:St) (H:Hp) (E:Aa->Ab->Prop),Inv X pins σ H s->(∀b∈fp,FpOk X pins H b)->tn i s.heap->J.go i H->
  wpAny (model P w) X.A (pyNext (.ref it)) (λr s1=>∃u,r=some u /\
   wpAny (model P w) X.A (letOwnedTupleGo tg (.ref it) u) (λ_ s2=>∃x H',Inv X pins σ H' s2/\RelV x u/\J.yld i H x H'/\tn (i+1) s2.heap/\∀b∈fp,H' b=none) E s1) E s
 done:∀(X:Cx),X.prog=P->X.w=w->X.K=K->X.calm=true->∀(i:Nat) (pins:List (Addr × Obj)) (s:Ab) (σ:St) (H:Hp) (E:Aa->Ab->Prop),Inv X pins σ H s->(∀b∈fp,FpOk X pins H b)->tn i s.heap->J.stop i H->
  wpAny (model P w) X.A (pyNext (.ref it)) (λr s1=>r=none/\Inv X pins σ H s1) E s
 self:∀(A:Ag) (i:Nat) (s:Ab) (Q:Aa->Ab->Prop) (E:Aa->Ab->Prop),tn i s.heap->Q (.ref it) s->wpAny (model P w) A (pyIter (.ref it)) Q E s
abbrev TI:=St->Hp->(It->Hp->Prop)->Prop
def PIE(X:Cx)(pins:List (Addr × Obj))(σ:St)(tg:Expr)(R:It->Hp->Prop)(itv:Aa)(s2:Ab):Prop:=
 ∃(it:Addr) (fp:List Addr) (tn:Nat->Heap->Prop) (J:It) (H':Hp),itv=.ref it/\Inv X pins σ H' s2/\Turn X.prog X.w X.K tg J fp it tn/\tn 0 s2.heap/\(∀b∈fp,FpOk X pins H' b)/\R J H'
def PI(X:Cx)(tg iter:Expr)(wi:TI):Prop:=
 ∀(pins:List (Addr × Obj)) (s:Ab) (σ:St) (H:Hp) (R:It->Hp->Prop),Inv X pins σ H s->wi σ H R->
  wpAny (model X.prog X.w) X.A (eval iter X.env) (λv s1=>wpAny (model X.prog X.w) X.A (pyIter v) (PIE X pins σ tg R) X.xe s1) X.xe s
variable{u:Aa}{tg:Expr}
theorem eJ_{A:Ag}{E:Aa->Ab->Prop}{s:Ab}{it:Addr}{n:String}{vs:Array Aa}{Q:Unit->Ab->Prop}(ho:s.heap.get? it=some o)(hc:o.cls=.type n)(hd:o.data=.fields vs)(hn:["enumerate","zip","dict_itemiterator","dict_reverseitemiterator","odict_iterator","itertools.zip_longest","itertools.pairwise"].contains n=false)(hQ:Q () s):wpAny M A (letOwnedTupleGo tg (.ref it) u) Q E s:=by
 unfold letOwnedTupleGo
 cases tg<;>first
  |exact a_1 hQ
  |(cases u<;>first
    |exact a_1 hQ
    |(refine a__ (wpAny_load ho ?_)
      rw[hc,hd];show wpAny M A (if (["enumerate","zip","dict_itemiterator","dict_reverseitemiterator","odict_iterator","itertools.zip_longest","itertools.pairwise"].contains n&&vs[0]? == some (rawInt _))=true then _ else _) Q E s;rw[a_6 (by intro h;rw[hn,Bool.false_and] at h;cases h)];exact a_1 hQ))
def Itl(K:F__)(a:Addr):It:=
 ⟨λi H=>∃xs x,SqL K H a xs/\xs[i]? = some x,λi H x H'=>H'=H/\∀xs,SqL K H a xs->xs[i]? = some x,λi H=>∃xs,SqL K H a xs/\xs.length<=i⟩
def Itr(lo:Int)(n:Nat):It:=⟨λi _=>i<n,λi H x H'=>H'=H/\x=.int (lo+i),λi _=>n<=i⟩
variable{w:Af}
theorem f5_{K:F__}(a it:Addr):Turn P w K tg (Itl K a) [it] it (λi h=>h.IsListIter it a i) where
 mem:=by simp
 obj:=λi h st b hb=>by
  have e:b=it:=by simpa using hb
  subst e;obtain⟨o,e,c,d⟩:=st;exact⟨o,e,λv z=>by rw[d] at z;cases z⟩
 keep:=λi h h' st k=>st.at λo e=>k it Z2 o e
 item:=by
  intro X hP hw hK hc i pins s σ H E I hf st hg;subst hP hw hK;obtain⟨xs,x,hq,hx⟩:=hg;obtain⟨its,rv,p,hz⟩:=I.list hq;obtain⟨u,hu,ru⟩:=rv.get hx;obtain⟨f0,f1,f2,f3,f4,f5⟩:=hf it Z2;refine wpAny_pyNext_list_item st p.isList (x:=u) (by simpa using hu) λh' st' sb=>?_;have I1:Inv X pins σ H { s with heap:=h' }:=I.turned (t':=s.toks) (λb o hb e=>(sb.2 b hb).trans e) f0 f1 f3 f4 f5;obtain⟨o,e,c,d⟩:=id st';exact⟨u,rfl,eJ_ (s:={ s with heap:=h' }) e c d (by decide) ⟨x,H,I1,ru,⟨rfl,λys hy=>by rw[I.list_inj hy hq];exact hx⟩,st',λb hb=>(hf b hb).1⟩⟩
 done:=by
  intro X hP hw hK hc i pins s σ H E I hf st hg;subst hP hw hK;obtain⟨xs,hq,hx⟩:=hg;obtain⟨its,rv,p,hz⟩:=I.list hq;obtain⟨f0,f1,f2,f3,f4,f5⟩:=hf it Z2;have hl:=rv.length;exact wpAny_pyNext_list_end (I.ok.hd hc) st p.isList (by simp;omega) λh' eb=>⟨rfl,I.turned (t':=s.toks) (λb o hb e=>eb b o hb e) f0 f1 f3 f4 f5⟩
 self:=λ_ _ _ _ _ st h=>wpAny_pyIter_listiter st h
theorem eG_{K:F__}(it:Addr)(lo:Int)(n:Nat):Turn P w K tg (Itr lo n) [it] it (λi h=>IsRangeIter h it (lo+(i:Nat) * 1) ((n:Int) - (i:Nat)) 1) where
 mem:=by simp
 obj:=λi h st b hb=>by
  have e:b=it:=by simpa using hb
  subst e
  exact⟨_,st,λv z=>by
   have z':Data.fields _=Data.cell v:=z;cases z'⟩
 keep:=λi h h' st k=>k it Z2 _ st
 item:=by
  intro X hP hw hK hc i pins s σ H E I hf st hg;subst hP hw hK;obtain⟨f0,f1,f2,f3,f4,f5⟩:=hf it Z2;have W:=Walks.range (prog:=X.prog) (w:=X.w) (I.ok.hd hc) it lo 1 n;refine W.item i s _ _ hg st λv h' tk hv st' kk=>?_;obtain⟨t,rfl⟩:=hv;have I1:Inv X pins σ H { s with heap:=h',toks:=tk }:=I.turned (λb o hb e=>kk b o (by simpa using hb) e) f0 f1 f3 f4 f5;refine⟨_,rfl,eJ_ (s:={ s with heap:=h',toks:=tk }) (n:="range_iterator") st' rfl rfl (by decide) ⟨.int (lo+i),H,I1,⟨t,?_⟩,⟨rfl,rfl⟩,st',λb hb=>(hf b hb).1⟩⟩;rw[Int.mul_one]
 done:=by
  intro X hP hw hK hc i pins s σ H E I hf st hg;subst hP hw hK;obtain⟨f0,f1,f2,f3,f4,f5⟩:=hf it Z2;exact wpAny_pyNext_range_end (I.ok.hd hc) st (by have:n<=i:=hg;omega) λh' eb=>⟨rfl,I.turned (t':=s.toks) (λb o hb e=>eb b o hb e) f0 f1 f3 f4 f5⟩
 self:=λ_ _ _ _ _ st h=>wpAny_pyIter_rangeiter st h
inductive iListR (K:F__) (R:It->Hp->Prop) (x:V) (H1:Hp):Prop
 |mk:∀a,x=.ref a->(∃xs,SqL K H1 a xs)->R (Itl K a) H1->iListR K R x H1
def iList(K:F__)(tl:TE):TI:=λσ H R=>tl σ H λx H1=>iListR K R x H1
variable{X:Cx}
theorem av_{l:Expr}{tl:TE}(hl:PE X l tl):PI X tg l (iList X.K tl):=by
 intro pins s σ H R I h;refine thn (hl pins s σ H _ I h) λv s1 ⟨x,H1,I1,r1,q1⟩=>?_;obtain⟨a,e,⟨xs,hq⟩,q⟩:=q1;subst e;cases r1;obtain⟨its,rv,p,hz⟩:=I1.list hq;refine wpAny_pyIter_list p.isList ?_;refine⟨s1.heap.objs.size,[s1.heap.objs.size],_,_,H1,rfl,I1.kept (t':=s1.toks) λb o e=>a_0 _ e,f5_ a _,⟨_,a_4 _ rfl,rfl,rfl⟩,λb hb=>?_,q⟩;have e:b=s1.heap.objs.size:=by simpa using hb
 subst e;exact I1.fpOk (ad' _) (I1.hok.fresh (ad' _))
variable{pins:List (Addr × Obj)}{lo:Int}
theorem gm_{H:Hp}{s:Ab}{R:It->Hp->Prop}{E:Aa->Ab->Prop}{hi:Int}{t u v:Tok}{tk:Nat}(I:Inv X pins σ H s)(h1:-(2 ^ 62)<=lo)(h2:lo<2 ^ 62)(h3:-(2 ^ 62)<=hi)(h4:hi<2 ^ 62)(q:R (Itr lo (hi - lo).toNat) H):wpAny (model X.prog X.w) X.A (pyIter (.ref s.heap.objs.size)) (PIE X pins σ tg R) E { s with heap:=s.heap.push { cls:=.type "range",data:=.fields #[.int lo t,.int hi u,.int 1 v] },toks:=tk }:=by
 refine wpAny_pyIter_range (IsRange.new ..) (small_one h1 h2 h3 h4) ?_;have I1:Inv X pins σ H { s with heap:=s.heap.push { cls:=.type "range",data:=.fields #[.int lo t,.int hi u,.int 1 v] },toks:=tk }:=I.kept λb o e=>a_0 _ e
 refine⟨(s.heap.push { cls:=.type "range",data:=.fields #[.int lo t,.int hi u,.int 1 v] }).objs.size,[(s.heap.push { cls:=.type "range",data:=.fields #[.int lo t,.int hi u,.int 1 v] }).objs.size],_,_,H,rfl,
  I1.kept (t':=tk) λb o e=>a_0 _ e,eG_ _ lo (hi - lo).toNat,?_,λb hb=>?_,q⟩
 ·have e1:lo+((0:Nat):Int) * 1=lo:=by simp
  have e2:(((hi - lo).toNat:Nat):Int) - ((0:Nat):Int)=Builtin.Range.rangeSize lo hi 1:=by rw[rangeSize_one];split<;>omega
  show IsRangeIter _ _ (lo+((0:Nat):Int) * 1) ((((hi - lo).toNat:Nat):Int) - ((0:Nat):Int)) 1;rw[e1,e2];exact a_4 _ rfl
 ·have e:b=(s.heap.push { cls:=.type "range",data:=.fields #[.int lo t,.int hi u,.int 1 v] }).objs.size:=by simpa using hb
  subst e;exact I1.fpOk (ad' _) (I1.hok.fresh (ad' _))
inductive iRng1R (R:It->Hp->Prop) (vs:List V) (H1:Hp):Prop
 |mk:∀j:Int,vs=[.int j]->-(2 ^ 62)<=j->j<2 ^ 62->R (Itr 0 j.toNat) H1->iRng1R R vs H1
def iRng1(ta:TA):TI:=λσ H R=>ta σ H λvs H1=>iRng1R R vs H1
variable{p pos:Pos}
theorem d9_{a:Expr}{ta:TA}(hg:Gl X "range")(hm:X.mg "range"=none)(ha:PA X [a] ta)(hs:starEach [a] X.env=[(false,eval a X.env)]:=by rfl):PI X tg (.Call (.Name "range" p) [a] [] pos) (iRng1 ta):=by
 intro pins s σ H R I h;refine Call_ (dr_ I hg hm boot_range (PyProof.Rows.callWith_type1 (thn (ha pos pins s σ H _ I h) λus s1 ⟨vs,H1,I1,r1,q1⟩=>?_) hs rfl));obtain⟨j,e,q1,q2,q⟩:=q1;subst e;cases r1 with
 |cons r rr=>
  cases rr;obtain⟨t,rfl⟩:=r;exact call_range_1 (gm_ I1 Z1 Z1 q1 q2 (by simpa using q))
def tFor(wi:TI)(g:TG)(tb:TS):TS:=λD σ H=>wi σ H λJ H1=>∃W:Nat->Nat->St->Hp->Prop,(∃m,W 0 m σ H1)/\∀i m σ H,W i m σ H->
 (J.stop i H/\D.nx σ H)∨(J.go i H/\∃N:St->Hp->Prop,(∀σ' H',N σ' H'->∃m',m'<m/\W (i+1) m' σ' H')/\∀x H',J.yld i H x H'->g x σ H' λσ2 H2=>tb { D with nx:=N,ct:=N,bk:=D.nx } σ2 H2)
def cv'(fp:List Addr)(h:Heap):List (Addr × Obj):=fp.filterMap λb=>(h.get? b).map λo=>(b,o)
variable{fp:List Addr}
theorem bt_(hb:b∈fp)(e:h.get? b=some o):(b,o)∈cv' fp h:=aH'.mpr ⟨b,hb,by rw[e];rfl⟩
theorem f1_{p:Addr × Obj}(hp:p∈cv' fp h):p.1∈fp/\h.get? p.1=some p.2:=by
 obtain⟨b,hb,e⟩:=aH'.mp hp;cases q:h.get? b with
 |none=>rw[q] at e;cases e
 |some o=>
  rw[q] at e;have e':(b,o)=p:=a_8 e;subst e';exact⟨hb,q⟩
theorem Inv.pinned{H:Hp}{s:Ab}(I:Inv X pins σ H s)(hf:∀b∈fp,FpOk X pins H b)(ho:∀b∈fp,∃o,s.heap.get? b=some o/\∀v,o.data≠.cell v):Inv X (pins++cv' fp s.heap) σ H s:=
 I.pins_of λp hp=>(ay'.mp hp).elim (λz=>I.pin p (ap' _ z)) λz=>by
  obtain⟨hb,e⟩:=f1_ z;obtain⟨f0,f1,f2,_⟩:=hf p.1 hb;obtain⟨o,e',d⟩:=ho p.1 hb;rw[e] at e';cases e';exact⟨e,f0,f1,f2,d⟩
theorem Inv.unpinned{pl:List (Addr × Obj)}{H:Hp}{s:Ab}(I:Inv X (pins++pl) σ H s):Inv X pins σ H s:=I.pins_of λp hp=>I.pin p (ap' _ (List.mem_append_left _ hp))
variable{body:List Stmt}{tb:TS}
theorem aP_{iter:Expr}{wi:TI}{g:TG}(hp:PassesOwn (model X.prog X.w) X.A X.env X.xe)(hc:X.calm=true)(hi:PI X tg iter wi)(hg:PG X tg g)(hb:PSs X body tb)(hs:∀x,foldedSetIterable iter X.env x=pure x:=by intro _;rfl):PS X (.For tg iter body [] pos) (tFor wi g tb):=by
 intro pins s σ H D I h;refine wpAny_For (thn (hi pins s σ H _ I h) λv s1 h1=>thn h1 λitv s2 h2=>?_) hs;obtain⟨it,fp,tn,J,H2,e,I2,T,st2,f2,W,⟨m0,w0⟩,turn⟩:=h2;subst e;have stat:∀{H':Hp},(∀b∈fp,H' b=none)->∀b∈fp,FpOk X pins H' b:=λhn b hb=>⟨hn b hb,(f2 b hb).2⟩;refine codeAny_forLoop_any (λn s'=>∃i σ' H',Inv X pins σ' H' s'/\tn i s'.heap/\(∀b∈fp,H' b=none)/\W i n σ' H') ?_ m0 ⟨0,σ,H2,I2,st2,λb hb=>(f2 b hb).1,w0⟩;rintro n s3 ⟨i,σ3,H3,I3,st3,fr3,w3⟩;rcases turn i n σ3 H3 w3 with⟨stop,qn⟩|⟨go,N,hN,step⟩
 ·refine wpAny_passesOwn hp (thn (T.done X rfl rfl rfl hc i pins s3 σ3 H3 X.xe I3 (stat fr3) st3 stop) λr s4 ⟨hr,I4⟩=>?_);subst hr;exact wpAny_execs_nil ⟨σ3,H3,I4,qn⟩
 ·refine wpAny_passesOwn hp (thn (T.item X rfl rfl rfl hc i pins s3 σ3 H3 X.xe I3 (stat fr3) st3 go) λr s4 ⟨u,hr,h4⟩=>?_);subst hr;refine wpAny_passesOwn hp (thn h4 λ_ s5 ⟨x,H5,I5,r5,y5,st5,fr5⟩=>?_);have I5':=I5.pinned (stat fr5) (T.obj _ _ st5);refine wpAny_passesOwn hp (thn (hg _ s5 σ3 H5 x u _ I5' r5 (step x H5 y5)) λ_ s6 ⟨σ6,H6,I6,q6⟩=>?_);refine wpAny_passesOwn hp (thn (hb _ s6 σ6 H6 _ I6 q6) λf s7 q7=>?_)
  have again:∀{σ7:St} {H7:Hp},Inv X (pins++cv' fp s5.heap) σ7 H7 s7->N σ7 H7->∃m,m<n/\∃i σ' H',Inv X pins σ' H' s7/\tn i s7.heap/\(∀b∈fp,H' b=none)/\W i m σ' H':=λ{σ7 H7} I7 n7=>by
   obtain⟨m',hm,w7⟩:=hN σ7 H7 n7;refine⟨m',hm,i+1,σ7,H7,I7.unpinned,T.keep _ _ _ st5 λb hb o e=>(I7.pin (b,o) (ap' _ (ap' _ (bt_ hb e)))).1,λb hb=>?_,w7⟩;obtain⟨o,e,d⟩:=T.obj _ _ st5 b hb;exact (I7.pin (b,o) (ap' _ (ap' _ (bt_ hb e)))).2.1
  cases f with
  |next=>obtain⟨σ7,H7,I7,n7⟩:=q7;exact again I7 n7
  |cont=>obtain⟨σ7,H7,I7,n7⟩:=q7;exact again I7 n7
  |brk=>obtain⟨σ7,H7,I7,q7⟩:=q7;exact⟨σ7,H7,I7.unpinned,q7⟩
  |ret v=>obtain⟨x7,σ7,H7,I7,r7,q7⟩:=q7;exact⟨x7,σ7,H7,I7.unpinned,r7,q7⟩
theorem aH_{K:F__}{xs:List V}{g:TG}{D:Ends}{H:Hp}(Pv:Nat->St->Hp->Prop)(h0:Pv 0 σ H)(hl:∀i σ H,i<=xs.length->Pv i σ H->SqL K H a xs)(hs:∀i x σ H,xs[i]? = some x->Pv i σ H->g x σ H λσ2 H2=>tb { D with nx:=Pv (i+1),ct:=Pv (i+1),bk:=D.nx } σ2 H2)(hd:∀σ H,Pv xs.length σ H->D.nx σ H) :
  ∃W:Nat->Nat->St->Hp->Prop,(∃m,W 0 m σ H)/\∀i m σ H,W i m σ H->
   ((Itl K a).stop i H/\D.nx σ H)∨((Itl K a).go i H/\∃N:St->Hp->Prop,(∀σ' H',N σ' H'->∃m',m'<m/\W (i+1) m' σ' H')/\∀x H',(Itl K a).yld i H x H'->g x σ H' λσ2 H2=>tb { D with nx:=N,ct:=N,bk:=D.nx } σ2 H2):=by
 refine⟨λi m σ H=>m=xs.length - i/\i<=xs.length/\Pv i σ H,⟨xs.length,by simp,aC' _,h0⟩,?_⟩;rintro i m σ H ⟨rfl,hi,p⟩;have q:=hl i σ H hi p;by_cases hlt:i<xs.length
 ·refine .inr ⟨⟨xs,xs[i],q,by simp[hlt]⟩,Pv (i+1),λσ' H' p'=>⟨xs.length - (i+1),by omega,rfl,hlt,p'⟩,λx H' y=>?_⟩;obtain⟨e,y⟩:=y;subst e;exact hs i x σ _ (y xs q) p
 ·have e:i=xs.length:=by omega
  subst e;exact .inl ⟨⟨xs,q,ad' _⟩,hd σ H p⟩
variable{n:Nat}
theorem d2_{g:TG}{D:Ends}{H:Hp}(Pv:Nat->St->Hp->Prop)(h0:Pv 0 σ H)(hs:∀i σ H,i<n->Pv i σ H->g (.int (lo+i)) σ H λσ2 H2=>tb { D with nx:=Pv (i+1),ct:=Pv (i+1),bk:=D.nx } σ2 H2)(hd:∀σ H,Pv n σ H->D.nx σ H) :
  ∃W:Nat->Nat->St->Hp->Prop,(∃m,W 0 m σ H)/\∀i m σ H,W i m σ H->
   ((Itr lo n).stop i H/\D.nx σ H)∨((Itr lo n).go i H/\∃N:St->Hp->Prop,(∀σ' H',N σ' H'->∃m',m'<m/\W (i+1) m' σ' H')/\∀x H',(Itr lo n).yld i H x H'->g x σ H' λσ2 H2=>tb { D with nx:=N,ct:=N,bk:=D.nx } σ2 H2):=by
 refine⟨λi m σ H=>m=n - i/\i<=n/\Pv i σ H,⟨n,by simp,aC' _,h0⟩,?_⟩;rintro i m σ H ⟨rfl,hi,p⟩;by_cases hlt:i<n
 ·refine .inr ⟨hlt,Pv (i+1),λσ' H' p'=>⟨n - (i+1),by omega,rfl,hlt,p'⟩,λx H' y=>?_⟩;obtain⟨e,y⟩:=y;subst e y;exact hs i σ _ hlt p
 ·have e:i=n:=by omega
  subst e;exact .inl ⟨ad' _,hd σ H p⟩
theorem h6_{c:TT}{D:Ends}{H:Hp}(Pv:St->Hp->Prop)(μ:St->Hp->Nat)(h0:Pv σ H)(hs:∀σ H,Pv σ H->c σ H λb H1=>if b=true then tb { D with nx:=λσ' H'=>Pv σ' H'/\μ σ' H'<μ σ H,ct:=λσ' H'=>Pv σ' H'/\μ σ' H'<μ σ H,bk:=D.nx } σ H1 else D.nx σ H1)(mono:∀σ H Q Q',(∀b H1,Q b H1->Q' b H1)->c σ H Q->c σ H Q'):tWhile c tb D σ H:=by
 refine⟨λm σ H=>m=μ σ H/\Pv σ H,⟨_,rfl,h0⟩,?_⟩;rintro m σ H ⟨rfl,p⟩;refine mono σ H _ _ (λb H1 q=>?_) (hs σ H p);cases b with
 |true=>exact⟨_,λσ' H' ⟨p',l⟩=>⟨_,l,rfl,p'⟩,q⟩
 |false=>exact q
abbrev R2:=V->V->Hp->VK->Prop
def OpR(X:Cx)(f:Aa->Aa->Sem Aa)(r:R2):Prop:=
 ∀(pins:List (Addr × Obj)) (s:Ab) (σ:St) (H:Hp) (x y:V) (v u:Aa) (Q:VK),Inv X pins σ H s->RelV x v->RelV y u->r x y H Q->
  wpAny (model X.prog X.w) X.A (f v u) (EP X pins σ Q) X.xe s
def UnR(X:Cx)(f:Aa->Sem Aa)(r:V->Hp->VK->Prop):Prop:=
 ∀(pins:List (Addr × Obj)) (s:Ab) (σ:St) (H:Hp) (x:V) (v:Aa) (Q:VK),Inv X pins σ H s->RelV x v->r x H Q->
  wpAny (model X.prog X.w) X.A (f v) (EP X pins σ Q) X.xe s
def bd'(X:Cx)(f:Aa)(r:List V->Hp->VK->Prop):Prop:=
 ∀(pins:List (Addr × Obj)) (s:Ab) (σ:St) (H:Hp) (xs:List V) (us:List Aa) (Q:VK),Inv X pins σ H s->Vals xs us->r xs H Q->
  wpAny (model X.prog X.w) X.A (call f us) (EP X pins σ Q) X.xe s
def tOp(r:R2)(ta tb:TE):TE:=λσ H Q=>ta σ H λx H1=>tb σ H1 λy H2=>r x y H2 Q
def tUn(r:V->Hp->VK->Prop)(ta:TE):TE:=λσ H Q=>ta σ H λx H1=>r x H1 Q
inductive rI (C:Int->Int->Prop) (g:Int->Int->V) (x:V) (y:V) (H:Hp) (Q:VK):Prop
 |mk:∀i j,x=.int i->y=.int j->C i j->Q (g i j) H->rI C g x y H Q
inductive rI0 (g:Int->Int->V) (x:V) (y:V) (H:Hp) (Q:VK):Prop
 |mk:∀i j,x=.int i->y=.int j->Q (g i j) H->rI0 g x y H Q
inductive rU (g:Int->V) (x:V) (H:Hp) (Q:VK):Prop
 |mk:∀i,x=.int i->Q (g i) H->rU g x H Q
section
variable{X:Cx}{a b c:Expr}{ta tb tc:TE}{pos:Pos}
theorem binT(ha:PE X a ta)(hb:PE X b tb){s:Ab}{H:Hp}{R:V->V->Hp->Prop}(I:Inv X pins σ H s)(h:ta σ H λx H1=>tb σ H1 λy H2=>R x y H2){Q:Aa->Ab->Prop}{f:Aa->Aa->Sem Aa}(hf:∀v u s2 x y H2,Inv X pins σ H2 s2->RelV x v->RelV y u->R x y H2->wpAny (model X.prog X.w) X.A (f v u) Q X.xe s2) :
  wpAny (model X.prog X.w) X.A (eval a X.env) (λv s₁=>wpAny (model X.prog X.w) X.A (eval b X.env) (λu s₂=>wpAny (model X.prog X.w) X.A (f v u) Q X.xe s₂) X.xe s₁) X.xe s:=by
 refine thn (ha pins s σ H _ I h) λv s1 ⟨x,H1,I1,r1,q1⟩=>?_;refine thn (hb pins s1 σ H1 _ I1 q1) λu s2 ⟨y,H2,I2,r2,q2⟩=>?_;exact hf v u s2 x y H2 I2 r1 r2 q2
theorem as_{op:Operator}{r:R2}(ho:OpR X (binaryOp op) r)(ha:PE X a ta)(hb:PE X b tb):PE X (.BinOp a op b pos) (tOp r ta tb):=by
 intro pins s σ H Q I h;exact wpAny_BinOp (binT ha hb I h λv u s2 x y H2 I2 rx ry q=>ho pins s2 σ H2 x y v u Q I2 rx ry q)
theorem iI_{op:UnaryOp}{r:V->Hp->VK->Prop}(ho:UnR X (unaryOp op) r)(ha:PE X a ta):PE X (.UnaryOp op a pos) (tUn r ta):=by
 intro pins s σ H Q I h;exact UnaryOp_ (thn (ha pins s σ H _ I h) λv s1 ⟨x,H1,I1,r1,q1⟩=>ho pins s1 σ H1 x v Q I1 r1 q1)
theorem opI{f:Aa->Aa->Sem Aa}{C:Int->Int->Prop}{g:Int->Int->Int}
  (rule:∀(i j:Int) (t u:Tok) (s:Ab) (Q:Aa->Ab->Prop) (E:Aa->Ab->Prop),C i j->Q (.int (g i j) s.toks) { s with toks:=s.toks+1 }->wpAny (model X.prog X.w) X.A (f (.int i t) (.int j u)) Q E s) :
  OpR X f (rI C λi j=>.int (g i j)):=by
 intro pins s σ H x y v u Q I rx ry h;obtain⟨i,j,rfl,rfl,hc,q⟩:=h;obtain⟨t,rfl⟩:=rx;obtain⟨t',rfl⟩:=ry;exact rule i j t t' s _ _ hc ⟨.int (g i j),H,I.tok _,⟨_,rfl⟩,q⟩
theorem opI0{f:Aa->Aa->Sem Aa}{g:Int->Int->Int}
  (rule:∀(i j:Int) (t u:Tok) (s:Ab) (Q:Aa->Ab->Prop) (E:Aa->Ab->Prop),Q (.int (g i j) s.toks) { s with toks:=s.toks+1 }->wpAny (model X.prog X.w) X.A (f (.int i t) (.int j u)) Q E s) :
  OpR X f (rI0 λi j=>.int (g i j)):=by
 intro pins s σ H x y v u Q I rx ry h;obtain⟨i,j,rfl,rfl,q⟩:=h;obtain⟨t,rfl⟩:=rx;obtain⟨t',rfl⟩:=ry;exact rule i j t t' s _ _ ⟨.int (g i j),H,I.tok _,⟨_,rfl⟩,q⟩
theorem opB0{f:Aa->Aa->Sem Aa}{g:Int->Int->Bool}
  (rule:∀(i j:Int) (t u:Tok) (s:Ab) (Q:Aa->Ab->Prop) (E:Aa->Ab->Prop),Q (.bool (g i j)) s->wpAny (model X.prog X.w) X.A (f (.int i t) (.int j u)) Q E s) :
  OpR X f (rI0 λi j=>.bl (g i j)):=by
 intro pins s σ H x y v u Q I rx ry h;obtain⟨i,j,rfl,rfl,q⟩:=h;obtain⟨t,rfl⟩:=rx;obtain⟨t',rfl⟩:=ry;exact rule i j t t' s _ _ ⟨.bl (g i j),H,I,rfl,q⟩
def CDiv(i j:Int):Prop:=0<j/\j<1073741824
def CPow(i j:Int):Prop:=0<=j/\j<=1000000/\i.natAbs<2 ^ 64
def CMul(i j:Int):Prop:=(-(2 ^ 64)<i/\i<2 ^ 64)∨(-(2 ^ 64)<j/\j<2 ^ 64)
theorem CMul.ok{i j:Int}(h:CMul i j):IntMulOk i j:=by
 rcases h with⟨h1,h2⟩|⟨h1,h2⟩
 ·exact .of_left (intBits_le_64 h1 h2)
 ·exact .of_right (intBits_le_64 h1 h2)
theorem b3_:OpR X (binaryOp .Add) (rI0 λi j=>.int (i+j)):=opI0 λ_ _ _ _ _ _ _ q=>add_int q
theorem iy_:OpR X (binaryOp .Sub) (rI0 λi j=>.int (i - j)):=opI0 λ_ _ _ _ _ _ _ q=>sub_int q
theorem cu_:OpR X (binaryOp .Mult) (rI CMul λi j=>.int (i * j)):=opI λ_ _ _ _ _ _ _ hc q=>mul_int q hc.ok
theorem b9_:OpR X (binaryOp .FloorDiv) (rI CDiv λi j=>.int (i / j)):=opI λi j _ _ _ _ _ hc q=>by
 have h1:(0:Int)<j:=hc.1;have h2:j<1073741824:=hc.2;exact floordiv_int Z1 (by rw[Int.fdiv_eq_ediv_of_nonneg i Z1];exact q) (.inl (PyProof.noPylong_small Z1))
theorem bZ_:OpR X (binaryOp .Mod) (rI (λ_ j=>0<j) λi j=>.int (i % j)):=opI λi j _ _ _ _ _ hc q=>by
 have h1:(0:Int)<j:=hc;exact mod_int' Z1 (by rw[Int.fmod_eq_emod_of_nonneg i Z1];exact q)
theorem hj_:OpR X (binaryOp .Pow) (rI CPow λi j=>.int (i ^ j.toNat)):=opI λ_ _ _ _ _ _ _ hc q=>pow_int_small hc.1 hc.2.1 hc.2.2 q
theorem unI{f:Aa->Sem Aa}{g:Int->Int}
  (rule:∀(i:Int) (t:Tok) (s:Ab) (Q:Aa->Ab->Prop) (E:Aa->Ab->Prop),Q (.int (g i) s.toks) { s with toks:=s.toks+1 }->wpAny (model X.prog X.w) X.A (f (.int i t)) Q E s) :
  UnR X f (rU λi=>.int (g i)):=by
 intro pins s σ H x v Q I rx h;obtain⟨i,rfl,q⟩:=h;obtain⟨t,rfl⟩:=rx;exact rule i t s _ _ ⟨.int (g i),H,I.tok _,⟨_,rfl⟩,q⟩
theorem il_:UnR X (unaryOp .USub) (rU λi=>.int (-i)):=unI λ_ _ _ _ _ q=>neg_int q
end
def scal:V->V->Bool
 |.non,.non=>true | .non,.int _=>true | .int _,.non=>true | .non,.bl _=>true | .bl _,.non=>true | .non,.str _=>true | .str _,.non=>true
 |.int _,.int _=>true | .bl _,.bl _=>true | .str _,.str _=>true | .byt _,.byt _=>true
 |.int _,.str _=>true | .str _,.int _=>true | .bl _,.str _=>true | .str _,.bl _=>true
 |_,_=>false
def rEq:R2:=λx y H Q=>scal x y=true/\Q (.bl (decide (x=y))) H
def rNe:R2:=λx y H Q=>scal x y=true/\Q (.bl (!decide (x=y))) H
theorem fZ_{i j:Int}:decide (V.int i=V.int j)=(i == j):=by
 rw[Bool.eq_iff_iff];simp
theorem ha_{i j:Bool}:decide (V.bl i=V.bl j)=(i == j):=by
 rw[Bool.eq_iff_iff];simp
theorem f6_{i j:Str}:decide (V.str i=V.str j)=(i == j):=by
 rw[Bool.eq_iff_iff];simp
theorem g5_{i j:Array UInt8}:decide (V.byt i=V.byt j)=(i.toList == j.toList):=by
 rw[Bool.eq_iff_iff];cases i;cases j;simp
section
variable{X:Cx}{a b c:Expr}{ta tb tc:TE}{pos:Pos}
theorem ap_{H:Hp}{s:Ab}{Q:VK}{k k':Bool}(I:Inv X pins σ H s)(q:Q (.bl k) H)(e:k=k'):EP X pins σ Q (.bool k') s:=by
 subst e;exact⟨.bl k,H,I,rfl,q⟩
theorem ck_:OpR X (compareOp .Eq) rEq:=by
 intro pins s σ H x y v u Q I rx ry h;obtain⟨hs,q⟩:=h;cases x with
 |non=>
  cases rx;cases y with
  |non=>cases ry;exact PySem.EqNone.eq_none_none (ap_ I q Z2)
  |bl j=>cases ry;exact PySem.EqNone.eq_none_bool (ap_ I q Z2)
  |int j=>obtain⟨t',rfl⟩:=ry;exact PySem.EqNone.eq_none_int (ap_ I q Z2)
  |str j=>obtain⟨t',rfl⟩:=ry;exact PySem.EqNone.eq_none_str (ap_ I q Z2)
  |_=>exact absurd (show false=true from hs) ao'
 |bl i=>
  cases rx;cases y with
  |non=>cases ry;exact PySem.EqNone.eq_bool_none (ap_ I q Z2)
  |bl j=>cases ry;exact eq_bool (ap_ I q ha_)
  |str j=>obtain⟨t',rfl⟩:=ry;exact PySem.EqMixed.eq_bool_str (ap_ I q Z2)
  |_=>exact absurd (show false=true from hs) ao'
 |int i=>
  obtain⟨t,rfl⟩:=rx;cases y with
  |non=>cases ry;exact PySem.EqNone.eq_int_none (ap_ I q Z2)
  |int j=>obtain⟨t',rfl⟩:=ry;exact eq_int (ap_ I q fZ_)
  |str j=>obtain⟨t',rfl⟩:=ry;exact PySem.EqMixed.eq_int_str (ap_ I q Z2)
  |_=>exact absurd (show false=true from hs) ao'
 |str i=>
  obtain⟨t,rfl⟩:=rx;cases y with
  |non=>cases ry;exact PySem.EqNone.eq_str_none (ap_ I q Z2)
  |bl j=>cases ry;exact PySem.EqMixed.eq_str_bool (ap_ I q Z2)
  |int j=>obtain⟨t',rfl⟩:=ry;exact PySem.EqMixed.eq_str_int (ap_ I q Z2)
  |str j=>obtain⟨t',rfl⟩:=ry;exact eq_str (ap_ I q f6_)
  |_=>exact absurd (show false=true from hs) ao'
 |byt i=>
  obtain⟨t,rfl⟩:=rx;cases y with
  |byt j=>obtain⟨t',rfl⟩:=ry;exact PySem.W.eq_bytes (ap_ I q g5_)
  |_=>exact absurd (show false=true from hs) ao'
 |_=>cases y<;>exact absurd (show false=true from hs) ao'
theorem fi_:OpR X (compareOp .NotEq) rNe:=by
 intro pins s σ H x y v u Q I rx ry h;obtain⟨hs,q⟩:=h;cases x with
 |non=>
  cases rx;cases y with
  |non=>cases ry;exact PySem.EqNone.ne_none_none (ap_ I q Z2)
  |bl j=>cases ry;exact PySem.EqNone.ne_none_bool (ap_ I q Z2)
  |int j=>obtain⟨t',rfl⟩:=ry;exact PySem.EqNone.ne_none_int (ap_ I q Z2)
  |str j=>obtain⟨t',rfl⟩:=ry;exact PySem.EqNone.ne_none_str (ap_ I q Z2)
  |_=>exact absurd (show false=true from hs) ao'
 |bl i=>
  cases rx;cases y with
  |non=>cases ry;exact PySem.EqNone.ne_bool_none (ap_ I q Z2)
  |bl j=>cases ry;exact ne_bool (ap_ I q (b_7 not ha_))
  |str j=>obtain⟨t',rfl⟩:=ry;exact PySem.EqMixed.ne_bool_str (ap_ I q Z2)
  |_=>exact absurd (show false=true from hs) ao'
 |int i=>
  obtain⟨t,rfl⟩:=rx;cases y with
  |non=>cases ry;exact PySem.EqNone.ne_int_none (ap_ I q Z2)
  |int j=>obtain⟨t',rfl⟩:=ry;exact ne_int (ap_ I q (b_7 not fZ_))
  |str j=>obtain⟨t',rfl⟩:=ry;exact PySem.EqMixed.ne_int_str (ap_ I q Z2)
  |_=>exact absurd (show false=true from hs) ao'
 |str i=>
  obtain⟨t,rfl⟩:=rx;cases y with
  |non=>cases ry;exact PySem.EqNone.ne_str_none (ap_ I q Z2)
  |bl j=>cases ry;exact PySem.EqMixed.ne_str_bool (ap_ I q Z2)
  |int j=>obtain⟨t',rfl⟩:=ry;exact PySem.EqMixed.ne_str_int (ap_ I q Z2)
  |str j=>obtain⟨t',rfl⟩:=ry;exact ne_str (ap_ I q (b_7 not f6_))
  |_=>exact absurd (show false=true from hs) ao'
 |byt i=>
  obtain⟨t,rfl⟩:=rx;cases y with
  |byt j=>obtain⟨t',rfl⟩:=ry;exact PySem.W.ne_bytes (ap_ I q (b_7 not g5_))
  |_=>exact absurd (show false=true from hs) ao'
 |_=>cases y<;>exact absurd (show false=true from hs) ao'
theorem iO_:OpR X (compareOp .Lt) (rI0 λi j=>.bl (decide (i<j))):=opB0 λ_ _ _ _ _ _ _ q=>lt_int q
theorem ev_:OpR X (compareOp .LtE) (rI0 λi j=>.bl (decide (i<=j))):=opB0 λ_ _ _ _ _ _ _ q=>le_int q
theorem id_:OpR X (compareOp .Gt) (rI0 λi j=>.bl (decide (j<i))):=opB0 λ_ _ _ _ _ _ _ q=>gt_int q
theorem ib_:OpR X (compareOp .GtE) (rI0 λi j=>.bl (decide (j<=i))):=opB0 λ_ _ _ _ _ _ _ q=>ge_int q
inductive b0' (x:V) (y:V) (H:Hp) (Q:VK):Prop
 |mk:∀i j,x=.str i->y=.str j->Q (.bl (decide (i.cps.toList<j.cps.toList))) H->b0' x y H Q
theorem fE_:OpR X (compareOp .Lt) b0':=by
 intro pins s σ H x y v u Q I rx ry h;obtain⟨i,j,rfl,rfl,q⟩:=h;obtain⟨t,rfl⟩:=rx;obtain⟨t',rfl⟩:=ry;exact lt_str (ap_ I q rfl)
theorem OpR.or{f:Aa->Aa->Sem Aa}{r r':R2}(h:OpR X f r)(h':OpR X f r'):OpR X f (λx y H Q=>r x y H Q∨r' x y H Q):=by
 intro pins s σ H x y v u Q I rx ry q;rcases q with q|q
 ·exact h pins s σ H x y v u Q I rx ry q
 ·exact h' pins s σ H x y v u Q I rx ry q
theorem nomark(b:Expr){op:CmpOp}(h:op≠.In:=by decide)(h2:op≠.NotIn:=by decide):behindInMarks op b=false:=by
 have e1:(op == CmpOp.In)=false:=by cases op<;>first|rfl|exact absurd rfl h
 have e2:(op == CmpOp.NotIn)=false:=by cases op<;>first|rfl|exact absurd rfl h2
 cases b<;>simp[behindInMarks,e1,e2]
theorem bP_{op:CmpOp}{r:R2}(ho:OpR X (compareOp op) r)(ha:PE X a ta)(hb:PE X b tb)(hm:behindInMarks op b=false):PE X (.Compare a [op] [b] pos) (tOp r ta tb):=by
 intro pins s σ H Q I h;exact wpAny_Compare1 (binT ha hb I h λv u s2 x y H2 I2 rx ry q=>ho pins s2 σ H2 x y v u Q I2 rx ry q) hm
inductive tTestR (Q:Bool->Hp->Prop) (x:V) (H':Hp):Prop
 |mk:∀k,x=.bl k->Q k H'->tTestR Q x H'
def tTest(t:TE):TT:=λσ H Q=>t σ H λx H'=>tTestR Q x H'
theorem ar_{op:CmpOp}{r:R2}(ho:OpR X (compareOp op) r)(ha:PE X a ta)(hb:PE X b tb)(hm:behindInMarks op b=false):PT X (.Compare a [op] [b] pos) (tTest (tOp r ta tb)):=by
 intro pins s σ H Q I h
 refine wpAny_isTrue_Compare1 (thn (ha pins s σ H _ I h) λv s1 ⟨x,H1,I1,r1,q1⟩=>thn (hb pins s1 σ H1 _ I1 q1) λu s2 ⟨y,H2,I2,r2,q2⟩=>
  thn (ho pins s2 σ H2 x y v u _ I2 r1 r2 q2) λc s3 ⟨z,H3,I3,r3,k,e,q3⟩=>?_) hm
 subst e;cases r3;exact c__ ⟨H3,I3,q3⟩
inductive tChainR (r':R2) (tc:TE) (σ:St) (Q:VK) (y:V) (z:V) (H3:Hp):Prop
 |mk:∀k,z=.bl k->(if k=true then tc σ H3 λw' H4=>r' y w' H4 Q else Q (.bl false) H3)->tChainR r' tc σ Q y z H3
def tChain(r r':R2)(ta tb tc:TE):TE:=λσ H Q=>ta σ H λx H1=>tb σ H1 λy H2=>r x y H2 λz H3=>tChainR r' tc σ Q y z H3
theorem e9_{op op':CmpOp}{r r':R2}(ho:OpR X (compareOp op) r)(ho':OpR X (compareOp op') r')(ha:PE X a ta)(hb:PE X b tb)(hc:PE X c tc)
  (hm:lastMarks [op,op'] [b,c]=false:=by with_unfolding_all rfl):PE X (.Compare a [op,op'] [b,c] pos) (tChain r r' ta tb tc):=by
 intro pins s σ H Q I h
 refine Compare_chain (thn (ha pins s σ H _ I h) λv s1 ⟨x,H1,I1,r1,q1⟩=>chain_link (thn (hb pins s1 σ H1 _ I1 q1) λu s2 ⟨y,H2,I2,r2,q2⟩=>
  thn (ho pins s2 σ H2 x y v u _ I2 r1 r2 q2) λd s3 ⟨z,H3,I3,r3,k,e,q3⟩=>?_)) hm
 subst e;cases r3;refine c__ ?_;cases k with
 |false=>exact ite_ff ⟨.bl false,H3,I3,rfl,q3⟩
 |true=>exact ite_tt (chain_last (thn (hc pins s3 σ H3 _ I3 q3) λw' s4 ⟨z',H4,I4,r4,q4⟩=>ho' pins s4 σ H4 y z' u w' Q I4 r2 r4 q4))
theorem e7_{op op':CmpOp}{r r':R2}(ho:OpR X (compareOp op) r)(ho':OpR X (compareOp op') r')(ha:PE X a ta)(hb:PE X b tb)(hc:PE X c tc)
  (hm:lastMarks [op,op'] [b,c]=false:=by with_unfolding_all rfl):PT X (.Compare a [op,op'] [b,c] pos) (tTest (tChain r r' ta tb tc)):=by
 intro pins s σ H Q I h
 refine isTrue_chain (thn (ha pins s σ H _ I h) λv s1 ⟨x,H1,I1,r1,q1⟩=>test_link (thn (hb pins s1 σ H1 _ I1 q1) λu s2 ⟨y,H2,I2,r2,q2⟩=>
  thn (ho pins s2 σ H2 x y v u _ I2 r1 r2 q2) λd s3 ⟨z,H3,I3,r3,k,e,q3⟩=>?_)) hm
 subst e;cases r3;refine c__ ?_;cases k with
 |false=>
  obtain⟨k',e',q'⟩:=q3;cases e';exact ite_ff ⟨H3,I3,q'⟩
 |true=>
  refine ite_tt (test_last (thn (hc pins s3 σ H3 _ I3 q3) λw' s4 ⟨z',H4,I4,r4,q4⟩=>thn (ho' pins s4 σ H4 y z' u w' _ I4 r2 r4 q4) λd' s5 ⟨z2,H5,I5,r5,k2,e2,q5⟩=>?_));subst e2;cases r5;exact c__ ⟨H5,I5,q5⟩
theorem line63:(sizeLine:Nat)<2 ^ 63:=by rw[b__];decide
inductive bV' (x:V) (y:V) (H:Hp) (Q:VK):Prop
 |mk:∀i j,x=.str i->y=.str j->i.length+j.length<=sizeLine->Q (.str (i++j)) H->bV' x y H Q
theorem bW_:OpR X (binaryOp .Add) bV':=by
 intro pins s σ H x y v u Q I rx ry h;obtain⟨i,j,rfl,rfl,hz,q⟩:=h;obtain⟨t,rfl⟩:=rx;obtain⟨t',rfl⟩:=ry;exact add_str (λt' tk=>⟨.str (i++j),H,I.tok _,⟨_,rfl⟩,q⟩) hz
theorem vals1{x:V}{us:List Aa}(r:Vals [x] us):∃u,us=[u]/\RelV x u:=by
 cases r with
 |cons r1 r2=>cases r2;exact⟨_,rfl,r1⟩
theorem vals2{x y:V}{us:List Aa}(r:Vals [x,y] us):∃u w',us=[u,w']/\RelV x u/\RelV y w':=by
 cases r with
 |cons r1 r2=>
  cases r2 with
  |cons r3 r4=>cases r4;exact⟨_,_,rfl,r1,r3⟩
theorem fH_:bd' X (.type "int") (λxs H Q=>(∃i,xs=[.int i]/\Q (.int i) H)∨∃k,xs=[.bl k]/\Q (.int (if k then 1 else 0)) H):=by
 intro pins s σ H xs us Q I r h;rcases h with⟨i,rfl,q⟩|⟨k,rfl,q⟩
 ·obtain⟨u,rfl,t,rfl⟩:=vals1 r;exact call_int_int ⟨.int i,H,I,⟨_,rfl⟩,q⟩
 ·obtain⟨u,rfl,r1⟩:=vals1 r;cases r1;exact call_int_bool ⟨.int (if k then 1 else 0),H,I.tok _,⟨_,rfl⟩,q⟩
end
structure ObjM (h:Heap) (x dx C:Addr) (mA:Str->Option Aa):Prop where
 obj:h.get? x=some (PySem.W.instObj C dx)
 ns:h.Ns1 dx mA
 ne:dx≠x
variable{mA:Str->Option Aa}
theorem g4_{dx:Addr}(n:h.Ns1 dx mA):∃od,h.get? dx=some od/\∀name,PySem.W.lookIn name od=some (mA name):=by
 obtain⟨o,es,ep,ho,hd,hk,_,hm⟩:=n;refine⟨o,ho,λname=>?_⟩;have e:=hm name;unfold nsFind findBy at e;rw[<- Array.find?_toList] at e;unfold PySem.W.lookIn;rw[hd];dsimp only;split
 ·rename_i y q
  rw[q] at e;exact b_7 some e
 ·rename_i q
  rw[q] at e
  have a:es.toList.any (·.refKey)=false:=by
   rw[List.any_eq_false];intro y hy;obtain⟨z,t,hkey⟩:=hk y (Array.mem_toList_iff.mp hy);simp[DictEntry.refKey,hkey]
  have a':¬es.toList.any (·.refKey)=true:=by rw[a];exact ao'
  rw[a_6 a'];exact b_7 some e
theorem ObjM.look{x dx C:Addr}(I:ObjM h x dx C mA):∃od,PySem.W.InstAt h x (PySem.W.instObj C dx) C (some od)/\∀name,PySem.W.lookIn name od=some (mA name):=
 let ⟨od,ho,hl⟩:=g4_ I.ns
 ⟨od,⟨I.obj,rfl,rfl,ho⟩,hl⟩
section
variable{prog:Ad}{w:Af}{A:Ag}{E:Aa->Ab->Prop}{s:Ab}{K:F__}{x dx C f:Addr}{mA:Str->Option Aa}{name:Str}{v:Aa}
theorem hx_{expr:Bool}{Q:Aa->Ab->Prop}(X:K.In s.heap)(I:ObjM s.heap x dx C mA)(hg:PySem.W.plainGet K C name=true)(hh:PySem.W.hasDictIn K C=true)
  (ha:PySem.W.findIn K (.ref C) name=some none) (hv:mA name=some v) (hv':PySem.W.handedIn v=true) (h:Q v { s with toks:=s.toks+1 }) :
  wpAny (model prog w) A (getAttr (.ref x) name expr) Q E s:=by
 obtain⟨od,J,hl⟩:=I.look;exact PySem.W.get_value X J (PySem.W.plainGet_of hg).1 (PySem.W.findObj_own hh ha rfl (by rw[hl,hv])) hv' h
theorem gw_{pl:Sem Bool}{Q:Aa × List Aa->Ab->Prop}(X:K.In s.heap)(I:ObjM s.heap x dx C mA)(hg:PySem.W.plainGet K C name=true)
  (hf:PySem.W.findIn K (.ref C) name=some (some (.ref f))) (ht:PySem.W.isFn K (.ref f)=true) (hv:mA name=none) (h:Q (.ref f,[.ref x]) s) :
  wpAny (model prog w) A (getMethod (.ref x) name pl) Q E s:=by
 obtain⟨od,J,hl⟩:=I.look;exact PySem.W.method_fn X J (PySem.W.plainGet_of hg).1 (PySem.W.plainGet_of hg).2 hf (beq_iff_eq.mp ht) (by show (PySem.W.lookIn name od).map (·.isSome)=some false;rw[hl,hv];rfl) h
theorem i5_{ns:List Str}{Q:Unit->Ab->Prop}(X:K.In s.heap)(I:ObjM s.heap x dx C mA)
  (hs:PySem.W.findIn K (.ref C) "__setattr__"=some (some (.builtin "object.__setattr__"))) (hp:PySem.W.plainOver K C=true) (ht:PySem.W.takerIn K C name=some none) (hh:PySem.W.hasDictIn K C=true)
  (hw:PySem.Within mA ns) (hsz:ns.length<=sizeLine)
  (h:∀h',ObjM h' x dx C (λy=>if y=name then some v else mA y)->Heap.SameBut dx s.heap h'->Q () { s with heap:=h',toks:=s.toks+2 }) :
  wpAny (model prog w) A (setAttr (.ref x) name v) Q E s:=by
 obtain⟨od,J,hl⟩:=I.look;refine PySem.W.set_plain X J hs (PySem.W.osa_open (s:={ s with toks:=s.toks+1 }) (r:=none) X J hp ht λb=>?_);obtain⟨cd,hc,hd'⟩:=PySem.W.any_some hh;have hx:s.heap.get? x=some ⟨.ref C,some dx,.plain,#[]⟩:=I.obj;refine a__ (a_1 (a__ (a__ (wpAny_loadPart hx (a__ (PySem.W.Looks.here (s:={ s with toks:=s.toks+1 }) (PySem.W.looks_clsIn X hc) ?_))))));rw[hd'];refine a_1 (a:=some dx) (a__ (a_1 (a__ ?_)));refine wpAny_nsSet1 (s:={ s with toks:=s.toks+1 }) I.ns λh' hn2 hs2=>?_;obtain⟨oD,esD,epD,hoD,hdD,hcD⟩:=hn2.count (PySem.Within.cons name v hw);refine a__ (wpAny_lookBehind hoD (by rw[hdD];exact pastItsLine_dict (aQ' hcD (by rw[aI'];omega))) ?_);exact a_1 (h _ ⟨(hs2.2 _ (Ne.symm I.ne)).trans I.obj,hn2,I.ne⟩ hs2)
theorem gF_{R:Result->Ab->Prop}{vs:List Aa}{kw:List (Str × Aa)}(X:K.In s.heap)(hm:PySem.W.makesIn K C=true)
  (hi:PySem.W.findIn K (.ref C) "__init__"=some (some (.ref f))) (hf:PySem.W.typeIn K (.ref f)=some (.type "function"))
  (h:codeAny (model prog w) (A.under (.builtin "type.__call__" ⟨.ref C::vs,kw⟩)) (.call (.ref f) ⟨.ref (s.heap.objs.size+1)::vs,kw⟩) (PySem.W.InitBack (s.heap.objs.size+1) R)
   { s with heap:=(s.heap.push PySem.W.emptyDict).push (PySem.W.instObj C s.heap.objs.size) }) :
  codeAny (model prog w) A (.call (.ref C) ⟨vs,kw⟩) R s:=by
 obtain⟨hh,g,d,t,os⟩:=s;exact PySem.W.make_core (PySem.W.makes_of X hm) (PySem.W.looks_findIn X hi) (λself=>PySem.W.bind_fn X self hf) (.inl rfl) h
end
def putF(f:Str)(v:V):List (Str × V)->List (Str × V)
 |[]=>[(f,v)]
 |(g,x)::r=>if g=f then (g,v)::r else (g,x)::putF f v r
theorem a4_(f g:Str)(v:V):∀fs:List (Str × V),(putF f v fs).lookup g=if g=f then some v else fs.lookup g
 |[]=>by
  show List.lookup g [(f,v)]=_;by_cases h:g=f
  ·have hb:(g == f)=true:=beq_iff_eq.mpr h;simp only[List.lookup,hb,a_9 h]
  ·have hb:(g == f)=false:=beq_eq_false_iff_ne.mpr h;simp only[List.lookup,hb,a_6 h]
 |(k,x)::r=>by
  have ih:=a4_ f g v r;rw[show putF f v ((k,x)::r)=(if k=f then (k,v)::r else (k,x)::putF f v r) from rfl];by_cases hk:k=f
  ·rw[a_9 hk];by_cases h:g=k
   ·have hb:(g == k)=true:=beq_iff_eq.mpr h;simp only[List.lookup,hb,a_9 (h.trans hk)]
   ·have hb:(g == k)=false:=beq_eq_false_iff_ne.mpr h;simp only[List.lookup,hb,a_6 (λe:g=f=>h (e.trans hk.symm))]
  ·rw[a_6 hk];by_cases h:g=k
   ·have hb:(g == k)=true:=beq_iff_eq.mpr h;simp only[List.lookup,hb,a_6 (λe:g=f=>hk (h.symm.trans e))]
   ·have hb:(g == k)=false:=beq_eq_false_iff_ne.mpr h;simp only[List.lookup,hb];exact ih
theorem cc_(f:Str)(v:V):∀fs:List (Str × V),f∈(putF f v fs).map (·.1)/\∀g,g∈fs.map (·.1)->g∈(putF f v fs).map (·.1)
 |[]=>⟨by simp[putF],λg h=>by simp at h⟩
 |(k,x)::r=>by
  obtain⟨i1,i2⟩:=cc_ f v r;rw[show putF f v ((k,x)::r)=(if k=f then (k,v)::r else (k,x)::putF f v r) from rfl];by_cases hk:k=f
  ·rw[a_9 hk];subst hk;exact⟨by simp,λg h=>by simpa using h⟩
  ·rw[a_6 hk];refine⟨?_,λg h=>?_⟩
   ·rw[au'];exact ag' _ i1
   ·rw[au'] at h ⊢;rcases aj'.mp h with e|e
    ·exact aj'.mpr (.inl e)
    ·exact ag' _ (i2 g e)
theorem be_(f:Str)(v:V):∀fs:List (Str × V),(putF f v fs).length<=fs.length+1
 |[]=>by simp[putF]
 |(k,x)::r=>by
  have ih:=be_ f v r;rw[show putF f v ((k,x)::r)=(if k=f then (k,v)::r else (k,x)::putF f v r) from rfl];by_cases hk:k=f
  ·rw[a_9 hk,aI',aI'];omega
  ·rw[a_6 hk,aI',aI'];omega
variable{o:Option Aa}{v:V}
theorem RelO.some_of(r:RelO (some v) o):∃u,o=some u/\RelV v u:=by
 cases o with
 |none=>exact (show False from r).elim
 |some u=>exact⟨u,rfl,r⟩
theorem RelO.none_of(r:RelO none o):o=none:=by
 cases o with
 |none=>rfl
 |some u=>exact (show False from r).elim
theorem fy_(r:RelV v u):PySem.W.handedIn u=true:=by
 cases v with
 |non=>cases (show u=Value.none from r);rfl
 |bl b=>cases (show u=Value.bool b from r);rfl
 |int i=>obtain⟨t,e⟩:=(show ∃t,u=Value.int i t from r);cases e;rfl
 |str x=>obtain⟨t,e⟩:=(show ∃t,u=Value.str x t from r);cases e;rfl
 |byt b=>obtain⟨t,e⟩:=(show ∃t,u=Value.bytes b t from r);cases e;rfl
 |flt b=>obtain⟨t,e⟩:=(show ∃t,u=Value.float b t from r);cases e;rfl
 |ref a=>cases (show u=Value.ref a from r);rfl
 |ty n=>cases (show u=Value.type n from r);rfl
section
variable{P:Ad}{w:Af}{H H':Hp}{h h':Heap}{a C dx:Addr}{fs fs':List (Str × V)}
theorem cZ_(hok:HOk P w H h)(e:H a=some (.ins C dx fs)):∃mA,ObjM h a dx C mA/\(∀f,RelO (fs.lookup f) (mA f))/\PySem.Within mA (fs.map (·.1))/\fs.length<=1000/\H dx=some (.own a):=by
 obtain⟨d,z,ne,ob,mA,n,r,q⟩:=(show a0' P w H h a (.ins C dx fs) from hok a _ e);exact⟨mA,⟨ob,n,ne⟩,r,q,z,d⟩
end
structure Cls (K:F__) (C:Addr):Prop where
 pg:PySem.W.plainGet K C Str.empty=true
 hd:PySem.W.hasDictIn K C=true
 po:PySem.W.plainOver K C=true
 sa:PySem.W.findIn K (.ref C) "__setattr__"=some (some (.builtin "object.__setattr__"))
theorem Cls.get{K:F__}{C:Addr}(c:Cls K C)(f:Str):PySem.W.plainGet K C f=true:=c.pg
def a5'(K:F__)(C:Addr)(f:Str):Prop:=PySem.W.findIn K (.ref C) f=some none
theorem a5'.taker{K:F__}{C:Addr}{f:Str}(n:a5' K C f):PySem.W.takerIn K C f=some none:=by
 unfold PySem.W.takerIn;rw[show PySem.W.findIn K (.ref C) f=some none from n];rfl
structure Con (K:F__) (C:Addr) (f:Str) (v:V) (u:Aa):Prop where
 at_:PySem.W.findIn K (.ref C) f=some (some u)
 rel:RelV v u
 get:PySem.W.specialIn K u "__get__"=some none
 cp:PySem.W.copiedNames.contains f=false
structure Meth (K:F__) (C:Addr) (m:Str) (f:Addr):Prop where
 at_:PySem.W.findIn K (.ref C) m=some (some (.ref f))
 fn:PySem.W.isFn K (.ref f)=true
 kp:PySem.W.keepIn K (.ref f)=true
section
variable{X:Cx}{pins:List (Addr × Obj)}{σ:St}{H:Hp}{s:Ab}{a C dx:Addr}{fs:List (Str × V)}{f:Str}{v:V}{A:Ag}{E:Aa->Ab->Prop}
theorem eI_{b:Bool}{Q:Aa->Ab->Prop}(I:Inv X pins σ H s)(e:H a=some (.ins C dx fs))(c:Cls X.K C)(n:a5' X.K C f)(l:fs.lookup f=some v)
  (h:∀u s',Inv X pins σ H s'->RelV v u->Q u s'):wpAny (model X.prog X.w) A (getAttr (.ref a) f b) Q E s:=by
 obtain⟨mA,O,r,_,_,_⟩:=cZ_ I.hok e;obtain⟨u,hu,ru⟩:=RelO.some_of (v:=v) (o:=mA f) (by rw[<- l];exact r f);exact hx_ I.kIn O (c.get f) c.hd n hu (fy_ ru) (h u _ (I.tok _) ru)
theorem bV_{m:Str}{g:Addr}{pl:Sem Bool}{Q:Aa × List Aa->Ab->Prop}(I:Inv X pins σ H s)(e:H a=some (.ins C dx fs))(c:Cls X.K C)(k:Meth X.K C m g)(l:fs.lookup m=none)
  (h:Q (.ref g,[.ref a]) s):wpAny (model X.prog X.w) A (getMethod (.ref a) m pl) Q E s:=by
 obtain⟨mA,O,r,_,_,_⟩:=cZ_ I.hok e;have hn:mA m=none:=RelO.none_of (by rw[<- l];exact r m);exact gw_ I.kIn O (c.get m) k.at_ k.fn hn h
theorem es_{y:V}{Q:Unit->Ab->Prop}(I:Inv X pins σ H s)(e:H a=some (.ins C dx fs))(c:Cls X.K C)(n:a5' X.K C f)(hl:fs.length<1000)(ry:RelV y u)(h:∀s',Inv X pins σ (upd H a (.ins C dx (putF f y fs))) s'->Q () s'):wpAny (model X.prog X.w) A (setAttr (.ref a) f u) Q E s:=by
 obtain⟨mA,O,r,wi,_,ho⟩:=cZ_ I.hok e;have hz:(fs.map (·.1)).length<=sizeLine:=by rw[aa',b__];omega
 refine i5_ I.kIn O c.sa c.po n.taker c.hd wi hz λh' O' sb=>h _ ?_;have hd:∃o,h'.get? dx=some o:=let ⟨o,_,_,e',_⟩:=O'.ns;⟨o,e'⟩;refine I.write (x:=a) (e:=dx) (by rw[e];exact True.intro) (.inr ho) (λb q hb z=>(sb.2 b hb).trans z) hd ?_;refine⟨by rw[a5_ O.ne];exact ho,?_,O.ne,O'.obj,_,O'.ns,λg=>?_,λg hg=>?_⟩
 ·have:=be_ f y fs;omega
 ·show RelO ((putF f y fs).lookup g) (if g=f then some u else mA g);rw[a4_];by_cases q:g=f
  ·rw[a_9 q,a_9 q];exact ry
  ·rw[a_6 q,a_6 q];exact r g
 ·by_cases q:g=f
  ·rw[q];exact (cc_ f y fs).1
  ·refine (cc_ f y fs).2 g (wi g λz=>hg ?_);show (if g=f then some u else mA g)=none;rw[a_6 q];exact z
theorem Inv.made(I:Inv X pins σ H s):Inv X pins σ (upd (upd H s.heap.objs.size (.own (s.heap.objs.size+1))) (s.heap.objs.size+1) (.ins C s.heap.objs.size []))
  { s with heap:=(s.heap.push PySem.W.emptyDict).push (PySem.W.instObj C s.heap.objs.size) }:=by
 have e1:(s.heap.push PySem.W.emptyDict).get? s.heap.objs.size=some PySem.W.emptyDict:=a_4 s.heap rfl
 have e2:((s.heap.push PySem.W.emptyDict).push (PySem.W.instObj C s.heap.objs.size)).get? (s.heap.objs.size+1)=some (PySem.W.instObj C s.heap.objs.size):=by
  have:=a_4 (s.heap.push PySem.W.emptyDict) (o:=PySem.W.instObj C s.heap.objs.size) rfl;rwa [Heap.size_push] at this
 have e3:(s.heap.push PySem.W.emptyDict).Ns s.heap.objs.size (λ_=>none):=⟨PySem.W.emptyDict,#[],_,e1,rfl,(λe he=>absurd he Z2),λ_=>rfl⟩;have I1:=I.laid (a:=s.heap.objs.size) (o:=.own (s.heap.objs.size+1)) (h':=s.heap.push PySem.W.emptyDict) (t':=s.toks) (λb u q=>a_0 _ q) (ad' _) ⟨_,e1⟩;refine I1.laid (a:=s.heap.objs.size+1) (o:=.ins C s.heap.objs.size []) (t':=s.toks) (λb u q=>a_0 _ q) (Nat.le_of_eq (Heap.size_push _ _)) ?_;have ne:s.heap.objs.size≠s.heap.objs.size+1:=aw' (Nat.lt_succ_self _);refine⟨by rw[a5_ ne,a1_],aC' _,ne,e2,λ_=>none,(Heap.Ns1.of_empty e3).at λo q=>a_0 _ q,λ_=>True.intro,λy hy=>absurd rfl hy⟩
theorem hu_{prog:Ad}{env:Env}{e:Expr}{f:Str}{s:Ab}{Q:Aa->Ab->Prop}(hb:attributeBase e f env (eval e env)=eval e env)(h:wpAny (model prog w) A (eval e env) (λo s₁=>wpAny (model prog w) A (getAttr o f true) Q E s₁) E s):wpAny (model prog w) A (eval (.Attribute e f pos) env) Q E s:=
 Attribute_any_ h (by rw[arm_eval_Attribute,hb])
end
inductive tFldR (K:F__) (f:Str) (Q:VK) (x:V) (H1:Hp):Prop
 |mk:∀a C dx fs v,x=.ref a->H1 a=some (.ins C dx fs)->Cls K C->a5' K C f->fs.lookup f=some v->Q v H1->tFldR K f Q x H1
def tFld(K:F__)(ta:TE)(f:Str):TE:=λσ H Q=>ta σ H λx H1=>tFldR K f Q x H1
inductive sFldR (K:F__) (f:Str) (D:Ends) (σ:St) (y:V) (x:V) (H2:Hp):Prop
 |mk:∀a C dx fs,x=.ref a->H2 a=some (.ins C dx fs)->Cls K C->a5' K C f->fs.length<1000->D.nx σ (upd H2 a (.ins C dx (putF f y fs)))->sFldR K f D σ y x H2
def sFld(K:F__)(ta tv:TE)(f:Str):TS:=λD σ H=>tv σ H λy H1=>ta σ H1 λx H2=>sFldR K f D σ y x H2
section
variable{X:Cx}{o e value:Expr}{f:Str}{pos pos' tpos:Pos}{ta tv:TE}
theorem az_(he:PE X e ta)(hb:attributeBase e f X.env (eval e X.env)=eval e X.env):PE X (.Attribute e f pos) (tFld X.K ta f):=by
 intro pins s σ H Q I h;refine hu_ hb (thn (he pins s σ H _ I h) λu s1 ⟨x,H1,I1,rx,a,C,dx,fs,v,ex,ea,c,n,l,q⟩=>?_);subst ex;obtain rfl:u=Value.ref a:=rx;exact eI_ I1 ea c n l λu' s2 I2 ru=>⟨v,H1,I2,ru,q⟩
theorem aX_(ha:PE X o ta)(hv:PE X value tv)(hs:swapsWith value (some (.Attribute o f pos')) pos.line X.env=pure false):PS X (.Assign [.Attribute o f pos'] value pos) (sFld X.K ta tv f):=by
 intro pins s σ H D I h;refine plainObj_wpAny_Assign_Attribute (thn (hv pins s σ H _ I h) λu s1 ⟨y,H1,I1,ry,q⟩=>thn (ha pins s1 σ H1 _ I1 q) λov s2 ⟨x,H2,I2,rx,a,C,dx,fs,ex,ea,c,n,l,q2⟩=>?_) hs;subst ex;obtain rfl:ov=Value.ref a:=rx;exact es_ I2 ea c n l ry λs3 I3=>⟨σ,_,I3,q2⟩
end
section
variable{X:Cx}{pins:List (Addr × Obj)}{σ:St}{H:Hp}{s:Ab}{A:Ag}{E:Aa->Ab->Prop}{Q:Aa->Ab->Prop}{c:Aa}{b:Bool}
inductive TyOf (K:F__) (H:Hp):V->Aa->Prop where
 |non:TyOf K H .non (.type "NoneType")
 |bl (x:Bool):TyOf K H (.bl x) (.type "bool")
 |int (i:Int):TyOf K H (.int i) (.type "int")
 |str (x:Str):TyOf K H (.str x) (.type "str")
 |flt (x:UInt64):TyOf K H (.flt x) (.type "float")
 |lst {a:Addr} {xs:List V} (e:H a=some (.lst xs)):TyOf K H (.ref a) (.type "list")
 |frz {a:Addr} {o:Obj} {xs:List V} (e:H a=some (.frz o (.lst xs))):TyOf K H (.ref a) (.type "list")
 |tup {a:Addr} {xs:List V} (e:H a=some (.tup xs)):TyOf K H (.ref a) (.type "tuple")
 |dK {a:Addr} {kvs:List (Key × V)} (e:H a=some (.dK kvs)):TyOf K H (.ref a) (.type "dict")
 |dT {a:Addr} {kvs:List (List Key × V)} (e:H a=some (.dT kvs)):TyOf K H (.ref a) (.type "dict")
 |ins {a C dx:Addr} {fs:List (Str × V)} (e:H a=some (.ins C dx fs)) (cl:Cls K C) (ha:PySem.W.findIn K (.ref C) "__class__"=some (some (.builtin "object.__class__")))
   (hn:PySem.W.specialIn K (.builtin "object.__class__") "__get__"=some (some (.builtin "getset_descriptor.__get__"))) (htk:PySem.W.takesIn K (.builtin "object.__class__")=some true)
   (hm:PySem.W.mroIn K C (.type "object")=some true):TyOf K H (.ref a) (.ref C)
theorem db_{x:V}{t:Aa}(I:Inv X pins σ H s)(rx:RelV x u)(ty:TyOf X.K H x t)(e:PySem.W.kitOne X.K t c=some b)(h:∀tk,Q (.bool b) { s with toks:=tk }) :
  wpAny (model X.prog X.w) A (call (.builtin "isinstance") [u,c]) Q E s:=by
 cases ty with
 |non=>cases (show u=Value.none from rx);exact b_8 PySem.W.kitx_none I.kIn True.intro e nofun h
 |bl y=>cases (show u=Value.bool y from rx);exact b_8 PySem.W.kitx_bool I.kIn True.intro e nofun h
 |int i=>obtain⟨t,q⟩:=(show ∃t,u=Value.int i t from rx);cases q;exact b_8 PySem.W.kitx_int I.kIn True.intro e nofun h
 |str y=>obtain⟨t,q⟩:=(show ∃t,u=Value.str y t from rx);cases q;exact b_8 PySem.W.kitx_str I.kIn True.intro e nofun h
 |flt y=>obtain⟨t,q⟩:=(show ∃t,u=Value.float y t from rx);cases q;exact b_8 PySem.W.kitx_float I.kIn True.intro e nofun h
 |@lst a xs ea=>
  cases (show u=Value.ref a from rx);obtain⟨_,_,n,_,h1⟩:=(show a0' X.prog X.w H s.heap a (.lst xs) from I.hok a _ ea);exact b_8 PySem.W.kitx_list I.kIn ⟨_,h1,rfl⟩ e nofun h
 |@frz a ob xs ea=>
  cases (show u=Value.ref a from rx);obtain⟨_,_,_,n,_,h1⟩:=(show a0' X.prog X.w H s.heap a (.frz ob (.lst xs)) from I.hok a _ ea);exact b_8 PySem.W.kitx_list I.kIn ⟨_,h1,rfl⟩ e nofun h
 |@tup a xs ea=>
  cases (show u=Value.ref a from rx);obtain⟨_,_,_,p,_⟩:=(show a0' X.prog X.w H s.heap a (.tup xs) from I.hok a _ ea);obtain⟨o,h1,h2,_⟩:=p;exact b_8 PySem.W.kitx_tuple I.kIn ⟨o,h1,h2⟩ e nofun h
 |@dK a kvs ea=>
  cases (show u=Value.ref a from rx);obtain⟨_,_,vs,_,p⟩:=(show a0' X.prog X.w H s.heap a (.dK kvs) from I.hok a _ ea);obtain⟨o,es,ep,h1,h2,_⟩:=p;exact b_8 PySem.W.kitx_dict I.kIn ⟨o,h1,h2.1⟩ e nofun h
 |@dT a kvs ea=>
  cases (show u=Value.ref a from rx);obtain⟨_,_,xs,_,o,es,ep,h1,h2,_⟩:=(show a0' X.prog X.w H s.heap a (.dT kvs) from I.hok a _ ea);exact b_8 PySem.W.kitx_dict I.kIn ⟨o,h1,h2.1⟩ e nofun h
 |@ins a C dx fs ea cl ha hn htk hm=>
  cases (show u=Value.ref a from rx);obtain⟨mA,O,_⟩:=cZ_ I.hok ea;obtain⟨od,J,_⟩:=O.look;exact b_8 (PySem.W.kitx_own (cl.get _) cl.hd ha hn htk hm) I.kIn J e nofun h
end
structure Room (k:Nat) (A:Ag):Prop where
 hd:A.handled=none
 dp:A.depth+3 * k+5<recursionLimit
 un:A.units+16 * k+200<cLine
variable{k:Nat}
theorem Room.mono{j:Nat}{A:Ag}(r:Room k A)(h:j<=k):Room j A:=⟨r.hd,by have:=r.dp;omega,by have:=r.un;omega⟩
theorem Room.deeper{A:Ag}(r:Room (k+1) A)(env:Env):Room k (A.deeper env):=
 ⟨r.hd,by have:=r.dp;show A.depth+1+3 * k+5<_;omega,by have:=r.un;show A.units+3+16 * k+200<_;omega⟩
variable{kw:List (Str × Aa)}
theorem eM_{A:Ag}{C:Addr}{us:List Aa}:(A.under (.builtin "type.__call__" ⟨.ref C::us,kw⟩)).depth=A.depth+1:=by
 first|rfl|simp[Around.under,Code.weight,Code.isCreation,Code.isGuard,Code.isCaller,Code.frames,Code.isFrame,guardIds]
theorem eE_{A:Ag}{C:Addr}{us:List Aa}:(A.under (.builtin "type.__call__" ⟨.ref C::us,kw⟩)).units=A.units+1:=by
 first|rfl|simp[Around.under,Code.cUnits,Code.frames,Code.isFrame]
theorem Room.make{A:Ag}(r:Room (k+1) A)(C:Addr)(us:List Aa)(kw:List (Str × Aa)):Room k (A.under (.builtin "type.__call__" ⟨.ref C::us,kw⟩)):=
 ⟨r.hd,by have:=r.dp;rw[eM_];omega,by have:=r.un;rw[eE_];omega⟩
theorem Room.depth{A:Ag}(r:Room k A):A.depth<recursionLimit:=by have:=r.dp;omega
theorem Room.units{A:Ag}(r:Room k A):A.units+64<cLine:=by have:=r.un;omega
def tNil:TA:=λ_ H Q=>Q [] H
def cq'(ta:TE)(tr:TA):TA:=λσ H Q=>ta σ H λx H1=>tr σ H1 λxs H2=>Q (x::xs) H2
section
variable{X:Cx}{e:Expr}{es:List Expr}{te:TE}{t:TA}{pos:Pos}
theorem a3_:PA X [] tNil:=λ_ _ _ _ H Q I h=>Calls.spliced_nil ⟨[],H,I,.nil,h⟩
theorem a0_(ha:PE X e te)(hr:PA X es t)(hs:starEach (e::es) X.env=(false,eval e X.env)::starEach es X.env:=by rfl):PA X (e::es) (cq' te t):=by
 intro pos pins s σ H Q I h;rw[hs];show wpAny _ _ (spliced ((false,eval e X.env)::backTo pos (starEach es X.env))) _ _ s;refine Calls.spliced_cons (thn (ha pins s σ H _ I h) λu s1 ⟨x,H1,I1,r1,q1⟩=>?_);exact thn (hr pos pins s1 σ H1 _ I1 q1) λus s2 ⟨xs,H2,I2,r2,q2⟩=>⟨x::xs,H2,I2,.cons r1 r2,q2⟩
def tTup(t:TA):TE:=λσ H Q=>t σ H λxs H1=>xs.length<=sizeLine/\∀p,H1 p=none->Q (.ref p) (upd H1 p (.tup xs))
def tLst(t:TA):TE:=λσ H Q=>t σ H λxs H1=>xs.length<=sizeLine/\∀p,H1 p=none->Q (.ref p) (upd H1 p (.lst xs))
theorem aL_{x1}(h:PA X es t):PE X (.Tuple es x1 pos) (tTup t):=by
 intro pins s σ H Q I hq;refine wpAny_Tuple_spliced (thn (h pos pins s σ H _ I hq) λus s1 ⟨xs,H1,I1,r,z,q⟩=>⟨by rw[<- r.length];exact z,?_⟩);have hf:H1 s1.heap.objs.size=none:=I1.hok.fresh (ad' _);refine⟨.ref s1.heap.objs.size,upd H1 s1.heap.objs.size (.tup xs),I1.laid (t':=s1.toks) (λb u e=>a_0 _ e) (ad' _) ?_,rfl,q _ hf⟩;exact⟨z,us,r,⟨_,a_4 _ rfl,rfl,_,rfl⟩,_,a_4 _ rfl,rfl⟩
theorem bn_(h:PA X es t):PE X (.List es pos) (tLst t):=by
 intro pins s σ H Q I hq;refine wpAny_List_spliced (thn (h pos pins s σ H _ I hq) λus s1 ⟨xs,H1,I1,r,z,q⟩=>⟨by rw[<- r.length];exact z,?_⟩);have hf:H1 s1.heap.objs.size=none:=I1.hok.fresh (ad' _);refine⟨.ref s1.heap.objs.size,upd H1 s1.heap.objs.size (.lst xs),I1.laid (t':=s1.toks) (λb u e=>a_0 _ e) (ad' _) ?_,rfl,q _ hf⟩;exact⟨z,us,0,r,a_4 _ rfl⟩
end
abbrev Sp:=List V->Hp->VK->XK->Prop
abbrev CXT:=List Env->Hp->Ab->XK->Aa->Ab->Prop
structure Env0 (P:Ad) (w:Af) (K:F__) (mg:Str->Option Aa) (base:Heap) (A:Ag) (outer:List Env) (s:Ab) (H:Hp):Prop where
 frames:A.frames=some outer
 mod:Mod K mg base
 bs:∀b o,base.get? b=some o->s.heap.get? b=some o/\H b=none
 bsz:base.objs.size<=s.heap.objs.size
 funs:s.heap.FunFrames base outer
 frf:∀b∈frs outer,H b=none
 hok:HOk P w H s.heap
 bare:AllBare s.gens
def CE(outer:List Env)(P:Ad)(w:Af)(H:Hp)(s:Ab)(Q:VK)(u:Aa)(s':Ab):Prop:=
 ∃v H',s'.os=s.os/\AllBare s'.gens/\Un (frs outer) [] H H' s.heap s'.heap/\HOk P w H' s'.heap/\RelV v u/\Q v H'
def CR(CX:CXT)(outer:List Env)(P:Ad)(w:Af)(H:Hp)(s:Ab)(Q:VK)(E:XK)(r:Result)(s':Ab):Prop:=
 match r with
 |.ok (.ret u)=>CE outer P w H s Q u s'
 |.ok _=>False
 |.error e=>CX outer H s E e s'
structure FnOk (P:Ad) (w:Af) (K:F__) (mg:Str->Option Aa) (base:Heap) (CX:CXT) (k:Nat) (f:Addr) (fd:Ae) (ps:List Str) (sp:Sp):Prop where
 len:∀vs H Q E,sp vs H Q E->vs.length=ps.length
 run:∀(A:Ag) (outer:List Env) (s:Ab) (H:Hp) (args:Args) (us:List Aa) (vs:List V) (Q:VK) (E:XK),Room k A->Env0 P w K mg base A outer s H->BindsTo s fd args (ps.zip us)->Vals vs us->sp vs H Q E->
  codeAny (model P w) A (.call (.ref f) args) (CR CX outer P w H s Q E) s
variable{H:Hp}{A:Ag}{K:F__}{mg:Str->Option Aa}{base:Heap}{outer:List Env}
theorem Env0.make{s:Ab}(e:Env0 P w K mg base A outer s H)(C:Addr)(us:List Aa)(kw:List (Str × Aa)) :
  Env0 P w K mg base (A.under (.builtin "type.__call__" ⟨.ref C::us,kw⟩)) outer s H:=⟨by first|exact e.frames|(simpa [Around.under,Code.envs,Code.isFrame,pushEnvs] using e.frames),e.mod,e.bs,e.bsz,e.funs,e.frf,e.hok,e.bare⟩
section
variable{X:Cx}{pins:List (Addr × Obj)}{σ:St}{H:Hp}{s s':Ab}
theorem Inv.env0(I:Inv X pins σ H s):Env0 X.prog X.w X.K X.mg X.base X.A X.stack s H:=
 ⟨I.ok.frames,I.ok.mod,I.bs,aQ' I.ok.bsz I.sz,I.stack,I.stkFree,I.hok,I.bare⟩
theorem Inv.after{Q:VK}(I:Inv X pins σ H s)(h:CE X.stack X.prog X.w H s Q u s'):EP X pins σ Q u s':=by
 obtain⟨v,H',os,bare,un,hok,r,q⟩:=h;obtain⟨hh,g,d,t,os'⟩:=s';obtain rfl:os'=s.os:=os;exact⟨v,H',I.call (h':=hh) (g':=g) (d':=d) (t':=t) (ch:=[]) un hok bare (λb z=>absurd z Z2),r,q⟩
end
def tCall(sp:Sp)(dvs:List V)(E:XK)(t:TA):TE:=λσ H Q=>t σ H λvs H1=>sp (vs++dvs) H1 Q E
inductive tMethR (C:Addr) (m:Str) (sp:Sp) (dvs:List V) (E:XK) (t:TA) (σ:St) (Q:VK) (x:V) (H1:Hp):Prop
 |mk:∀a dx fs,x=.ref a->H1 a=some (.ins C dx fs)->fs.lookup m=none->(t σ H1 λvs H2=>sp (x::(vs++dvs)) H2 Q E)->tMethR C m sp dvs E t σ Q x H1
def cL'(C:Addr)(m:Str)(sp:Sp)(dvs:List V)(E:XK)(ta:TE)(t:TA):TE:=λσ H Q=>ta σ H λx H1=>tMethR C m sp dvs E t σ Q x H1
def tMake(C:Addr)(sp:Sp)(dvs:List V)(E:XK)(t:TA):TE:=λσ H Q=>t σ H λvs H1=>∀x dx,H1 x=none->H1 dx=none->dx≠x->
 sp (.ref x::(vs++dvs)) (upd (upd H1 dx (.own x)) x (.ins C dx [])) (λv H2=>v=.non/\Q (.ref x) H2) E
def bn'(K:F__)(fd:Ae)(ps:List Str)(ds:List Aa):Prop:=
 ∀(s:Ab) (us:List Aa),K.In s.heap->(us++ds).length=ps.length->BindsTo s fd ⟨us,[]⟩ (ps.zip (us++ds))
variable{fd:Ae}{ps:List Str}
theorem bn'.all(h:∀us:List Aa,us.length=ps.length->bindArgs fd ⟨us,[]⟩=pure (ps.zip us)):bn' K fd ps []:=λs us _ hl=>by
 rw[List.append_nil] at hl ⊢;exact .of_eq (h us hl)
def br'(CX:CXT)(X:Cx)(E:XK):Prop:=∀(pins:List (Addr × Obj)) (σ:St) (H:Hp) (s:Ab) (e:Aa) (s':Ab),Inv X pins σ H s->CX X.stack H s E e s'->X.xe e s'
variable{E:XK}{Q:VK}{f:Addr}{dvs vs:List V}{CX:CXT}{sp:Sp}{ds:List Aa}
theorem fd_{s:Ab}{us:List Aa}(F:FnOk X.prog X.w X.K X.mg X.base CX k f fd ps sp)(hr:Room k X.A)(hb:bn' X.K fd ps ds)(hd:Vals dvs ds)(hx:br' CX X E)(I:Inv X pins σ H s)(r:Vals vs us)(h:sp (vs++dvs) H Q E):wpAny (model X.prog X.w) X.A (call (.ref f) us) (EP X pins σ Q) X.xe s:=by
 have r2:Vals (vs++dvs) (us++ds):=r.append hd;have hl:(us++ds).length=ps.length:=by rw[<- r2.length];exact F.len _ _ _ _ h
 refine wpAny_call (codeAny_mono (F.run X.A X.stack s H ⟨us,[]⟩ (us++ds) (vs++dvs) Q E hr I.env0 (hb s us I.kIn hl) r2 h) λr s' hq=>?_);cases r with
 |error e=>exact hx pins σ H s e s' I hq
 |ok fl=>
  cases fl with
  |ret u=>exact I.after hq
  |next=>exact False.elim hq
  |brk=>exact False.elim hq
  |cont=>exact False.elim hq
variable{x:Str}{e:Expr}{t:TA}{es:List Expr}
theorem hE_(F:FnOk X.prog X.w X.K X.mg X.base CX k f fd ps sp)(hr:Room k X.A)(hg:Gl X x)(hm:X.mg x=some (.ref f))(hk:PySem.W.keepIn X.K (.ref f)=true)(hb:bn' X.K fd ps ds)(hd:Vals dvs ds)(hx:br' CX X E)
  (ha:PA X (e::es) t) (hdb:(x == ("__debug__":Str))=false:=by decide) (he:starEach (e::es) X.env=(false,eval e X.env)::starEach es X.env:=by rfl) (hpl:(backTo pos (starEach es X.env)).any (·.1)=false:=by rfl) :
  PE X (.Call (.Name x p) (e::es) [] pos) (tCall sp dvs E t):=by
 intro pins s σ H Q I h;refine wpAny_Call_Name_kw (cQ_ I hg hm ?_ hdb);refine PySem.W.callWith_K (h₀:=X.base) I.ok.mod.kin hk (thn (ha pos pins s σ H _ I h) λus s1 ⟨vs,H1,I1,r,q⟩=>⟨I1.kIn,?_⟩) he hpl;exact fd_ F hr hb hd hx I1 r q
variable{o:Expr}{ta:TE}{pl:Sem Bool}{C:Addr}{m:Str}{apos:Pos}
theorem cJ_(he:PE X o ta)(c:Cls X.K C)(hm:Meth X.K C m f)(F:FnOk X.prog X.w X.K X.mg X.base CX k f fd ps sp)(hr:Room k X.A)(hb:bn' X.K fd ps ds)(hd:Vals dvs ds)(hx:br' CX X E)(ha:PA X (e::es) t)(hst:starEach (e::es) X.env=(false,eval e X.env)::starEach es X.env:=by rfl)(hpl:(backTo pos (starEach es X.env)).any (·.1)=false:=by rfl)(ht:eval (.Call (.Attribute o m apos) (e::es) [] pos) X.env=(do
   let ov <- eval o X.env
   standAt apos.atName
   let (f,first) <- holding [ov] (getMethod ov m pl)
   callWith pos f first (backTo pos (starEach (e::es) X.env)) (backToKw pos (keywordEach [] X.env))):=by rfl) :
  PE X (.Call (.Attribute o m apos) (e::es) [] pos) (cL' C m sp dvs E ta t):=by
 intro pins s σ H Q I h;refine PySem.W.methodCall_KW (pl:=pl) (thn (he pins s σ H _ I h) λu s1 ⟨x,H1,I1,rx,a,dx,fs,ex,ea,l,q⟩=>?_) ht;subst ex;obtain rfl:u=Value.ref a:=rx;refine bV_ I1 ea c hm l ?_;refine PySem.W.callWith_K (first:=[.ref a]) (h₀:=X.base) I.ok.mod.kin hm.kp (thn (ha pos pins s1 σ H1 _ I1 q) λus s2 ⟨vs,H2,I2,r,q2⟩=>⟨I2.kIn,?_⟩) hst hpl;exact fd_ (us:=.ref a::us) (vs:=.ref a::vs) F hr hb hd hx I2 (.cons rfl r) q2
theorem gW_(he:PE X o ta)(c:Cls X.K C)(hm:Meth X.K C m f)(F:FnOk X.prog X.w X.K X.mg X.base CX k f fd ps sp)(hr:Room k X.A)(hb:bn' X.K fd ps ds)(hd:Vals dvs ds)(hx:br' CX X E)(ht:eval (.Call (.Attribute o m apos) [] [] pos) X.env=(do
   let ov <- eval o X.env
   standAt apos.atName
   let (f,first) <- holding [ov] (getMethod ov m pl)
   callWith pos f first (backTo pos (starEach [] X.env)) (backToKw pos (keywordEach [] X.env))):=by rfl) :
  PE X (.Call (.Attribute o m apos) [] [] pos) (cL' C m sp dvs E ta tNil):=by
 intro pins s σ H Q I h;refine PySem.W.methodCall_KW (pl:=pl) (thn (he pins s σ H _ I h) λu s1 ⟨x,H1,I1,rx,a,dx,fs,ex,ea,l,q⟩=>?_) ht;subst ex;obtain rfl:u=Value.ref a:=rx;refine bV_ I1 ea c hm l ?_;exact PySem.W.callWith_K0 (first:=[.ref a]) I1.kIn hm.kp (fd_ (us:=[.ref a]) (vs:=[.ref a]) F hr hb hd hx I1 (.cons rfl .nil) q)
structure Mk (K:F__) (C f:Addr):Prop where
 makes:PySem.W.makesIn K C=true
 init:PySem.W.findIn K (.ref C) "__init__"=some (some (.ref f))
 fn:PySem.W.isFn K (.ref f)=true
 kp:PySem.W.keepIn K (.ref C)=true
theorem ge_{s:Ab}{us:List Aa}(M:Mk X.K C f)(F:FnOk X.prog X.w X.K X.mg X.base CX k f fd ps sp)(hr:Room (k+1) X.A)(hb:bn' X.K fd ps ds)(hd:Vals dvs ds)(hx:br' CX X E)(I:Inv X pins σ H s)(r:Vals vs us)(h:∀x dx,H x=none->H dx=none->dx≠x->sp (.ref x::(vs++dvs)) (upd (upd H dx (.own x)) x (.ins C dx [])) (λv H2=>v=.non/\Q (.ref x) H2) E) :
  wpAny (model X.prog X.w) X.A (call (.ref C) us) (EP X pins σ Q) X.xe s:=by
 have hq:=h (s.heap.objs.size+1) s.heap.objs.size (I.hok.fresh (Nat.le_succ _)) (I.hok.fresh (ad' _)) (aw' (Nat.lt_succ_self _));have I2:=Inv.made (C:=C) I;have r2:Vals (V.ref (s.heap.objs.size+1)::(vs++dvs)) (Value.ref (s.heap.objs.size+1)::(us++ds)):=.cons rfl (r.append hd)
 have hl:(Value.ref (s.heap.objs.size+1)::us++ds).length=ps.length:=by
  have e:=r2.length;rw[F.len _ _ _ _ hq] at e;exact e.symm
 refine wpAny_call (gF_ (f:=f) I.kIn M.makes M.init (beq_iff_eq.mp M.fn) (codeAny_mono (F.run _ X.stack _ _ ⟨Value.ref (s.heap.objs.size+1)::us,[]⟩ (Value.ref (s.heap.objs.size+1)::(us++ds)) _ _ E (hr.make C us [])
  (I2.env0.make C us []) (hb _ (Value.ref (s.heap.objs.size+1)::us) I2.kIn hl) r2 hq) λr s' hq'=>?_))
 cases r with
 |error e=>exact hx pins σ _ _ e s' I2 hq'
 |ok fl=>
  cases fl with
  |ret u=>
   obtain⟨v,H',I3,rv,ev,q3⟩:=I2.after hq';subst ev;exact⟨rv,⟨V.ref (s.heap.objs.size+1),H',I3,rfl,q3⟩⟩
  |next=>exact False.elim hq'
  |brk=>exact False.elim hq'
  |cont=>exact False.elim hq'
theorem hn_(M:Mk X.K C f)(F:FnOk X.prog X.w X.K X.mg X.base CX k f fd ps sp)(hr:Room (k+1) X.A)(hg:Gl X x)(hm:X.mg x=some (.ref C))(hb:bn' X.K fd ps ds)(hd:Vals dvs ds)(hx:br' CX X E)
  (ha:PA X (e::es) t) (hdb:(x == ("__debug__":Str))=false:=by decide) (he:starEach (e::es) X.env=(false,eval e X.env)::starEach es X.env:=by rfl) (hpl:(backTo pos (starEach es X.env)).any (·.1)=false:=by rfl) :
  PE X (.Call (.Name x p) (e::es) [] pos) (tMake C sp dvs E t):=by
 intro pins s σ H Q I h;refine wpAny_Call_Name_kw (cQ_ I hg hm ?_ hdb);refine PySem.W.callWith_K (h₀:=X.base) I.ok.mod.kin M.kp (thn (ha pos pins s σ H _ I h) λus s1 ⟨vs,H1,I1,r,q⟩=>⟨I1.kIn,?_⟩) he hpl;exact ge_ M F hr hb hd hx I1 r q
def PK(X:Cx)(kws:List Keyword)(t:TA):Prop:=
 ∀(pos:Pos) (pins:List (Addr × Obj)) (s:Ab) (σ:St) (H:Hp) (Q:List V->Hp->Prop),Inv X pins σ H s->t σ H Q->wpAny (model X.prog X.w) X.A (evalAll ((backToKw pos (keywordEach kws X.env)).map (·.2))) (AP X pins σ Q) X.xe s
theorem hc_:PK X [] tNil:=λ_ _ _ _ H Q I h=>wpAny_evalAll_nil ⟨[],H,I,.nil,h⟩
variable{te:TE}{kpos:Pos}{kws:List Keyword}{nm:Option Str}
theorem fN_(ha:PE X e te)(hr:PK X kws t):PK X (⟨nm,e,kpos⟩::kws) (cq' te t):=by
 intro pos pins s σ H Q I h;show wpAny _ _ (evalAll ((do let v <- eval e X.env;standAt pos;pure v)::(backToKw pos (keywordEach kws X.env)).map (·.2))) _ _ s;refine wpAny_evalAll_cons (a__ (thn (ha pins s σ H _ I h) λu s1 ⟨x,H1,I1,r1,q1⟩=>a__ (wpAny_standAt (a_1 ?_))));exact thn (hr pos pins s1 σ H1 _ I1 q1) λus s2 ⟨xs,H2,I2,r2,q2⟩=>⟨x::xs,H2,I2,.cons r1 r2,q2⟩
structure cO' (K:F__) (fd:Ae) (ps ks:List Str) (g:List Aa->List Aa->List Aa) (gV:List V->List V->List V):Prop where
 to:∀(s:Ab) (us ws:List Aa),K.In s.heap->(g us ws).length=ps.length->BindsTo s fd ⟨us,ks.zip ws⟩ (ps.zip (g us ws))
 rel:∀{vs:List V} {us:List Aa} {zs:List V} {ws:List Aa},Vals vs us->Vals zs ws->Vals (gV vs zs) (g us ws)
variable{us:List Aa}{s:Ab}{g:List Aa->List Aa->List Aa}{ks:List Str}{gV:List V->List V->List V}
theorem hW_{ws:List Aa}{zs:List V}(F:FnOk X.prog X.w X.K X.mg X.base CX k f fd ps sp)(hr:Room k X.A)(hb:cO' X.K fd ps ks g gV)(hx:br' CX X E)(I:Inv X pins σ H s)(r:Vals vs us)(rz:Vals zs ws)(h:sp (gV vs zs) H Q E):wpAny (model X.prog X.w) X.A (call (.ref f) us (ks.zip ws)) (EP X pins σ Q) X.xe s:=by
 have r2:=hb.rel r rz;have hl:(g us ws).length=ps.length:=by rw[<- r2.length];exact F.len _ _ _ _ h
 refine wpAny_call (codeAny_mono (F.run X.A X.stack s H ⟨us,ks.zip ws⟩ (g us ws) (gV vs zs) Q E hr I.env0 (hb.to s us ws I.kIn hl) r2 h) λr s' hq=>?_);cases r with
 |error e=>exact hx pins σ H s e s' I hq
 |ok fl=>
  cases fl with
  |ret u=>exact I.after hq
  |next=>exact False.elim hq
  |brk=>exact False.elim hq
  |cont=>exact False.elim hq
structure aT' (N P:List Str) (sc:Scope):Prop where
 kind:sc.kind=.function
 co:sc.isCoroutine=false
 gen:sc.isGenerator=false
 nd:N.Nodup
 pre:N.take P.length=P
 par:∀x∈P,sc.names.lookup x=some .local∨sc.names.lookup x=some .cell
 nofree:∀y∈sc.names,y.2≠.free
theorem d3_{kindOf:Str->Option NameKind}{x:Str}:∀{binds:List (Str × Aa)} {m:Str->Option Aa},(∀v,(x,v)∉binds)->bindL kindOf binds m x=m x
 |[],_,_=>rfl
 |(n,v)::r,m,h=>by
  unfold bindL;rw[d3_ λw hw=>h w (ag' _ hw)];split
  ·have:x≠n:=by rintro rfl;exact h v an'
   simp[this]
  ·rfl
theorem dl_{kindOf:Str->Option NameKind}{x:Str}:∀{binds:List (Str × Aa)} {m:Str->Option Aa},(∀v,(x,v)∉binds)->bindC kindOf binds m x=m x
 |[],_,_=>rfl
 |(n,v)::r,m,h=>by
  unfold bindC;rw[dl_ λw hw=>h w (ag' _ hw)];split
  ·rfl
  ·have:x≠n:=by rintro rfl;exact h v an'
   simp[this]
theorem dc_{kindOf:Str->Option NameKind}{x:Str}{v:Aa}:∀{P:List Str} {vs:List Aa} {i:Nat} {m:Str->Option Aa},P.Nodup->P[i]? = some x->vs[i]? = some v->kindOf x=some .local->
  bindL kindOf (P.zip vs) m x=some v
 |[],_,_,_,_,h,_,_=>by simp at h
 |_::_,[],_,_,_,_,h,_=>by simp at h
 |p::P,w::vs,0,m,nd,h1,h2,hk=>by
  simp at h1 h2;subst h1;subst h2;show bindL kindOf ((p,w)::P.zip vs) m p=_;unfold bindL;rw[d3_ λv hv=>(aG'.mp nd).1 (List.of_mem_zip hv).1,a_9 hk];simp
 |p::P,w::vs,i+1,m,nd,h1,h2,hk=>by
  show bindL kindOf ((p,w)::P.zip vs) m x=_;unfold bindL;exact dc_ (i:=i) (aG'.mp nd).2 (by simpa using h1) (by simpa using h2) hk
theorem dg_{kindOf:Str->Option NameKind}{x:Str}{v:Aa}:∀{P:List Str} {vs:List Aa} {i:Nat} {m:Str->Option Aa},P.Nodup->P[i]? = some x->vs[i]? = some v->kindOf x≠some .local->
  bindC kindOf (P.zip vs) m x=some v
 |[],_,_,_,_,h,_,_=>by simp at h
 |_::_,[],_,_,_,_,h,_=>by simp at h
 |p::P,w::vs,0,m,nd,h1,h2,hk=>by
  simp at h1 h2;subst h1;subst h2;show bindC kindOf ((p,w)::P.zip vs) m p=_;unfold bindC;rw[dl_ λv hv=>(aG'.mp nd).1 (List.of_mem_zip hv).1,a_6 hk];simp
 |p::P,w::vs,i+1,m,nd,h1,h2,hk=>by
  show bindC kindOf ((p,w)::P.zip vs) m x=_;unfold bindC;exact dg_ (i:=i) (aG'.mp nd).2 (by simpa using h1) (by simpa using h2) hk
def start(N:List Str)(vs:List V):St:=vs.map some++List.replicate (N.length - vs.length) none
def cxOf(CX:CXT)(P:Ad)(w:Af)(K:F__)(mg:Str->Option Aa)(base:Heap)(N:List Str)(qual:Str)(scope:Scope)(f:Addr)(cd:Aa)(A:Ag)(outer:List Env)(s:Ab)(H:Hp)(E:XK):Cx where
 prog:=P
 w:=w
 K:=K
 mg:=mg
 base:=base
 A:=A.deeper (envOfC qual scope s.heap.objs.size f cd)
 N:=N
 s₀:=s
 H₀:=H
 env:=envOfC qual scope s.heap.objs.size f cd
 outer:=outer
 stack:=envOfC qual scope s.heap.objs.size f cd::outer
 ex:=[]
 calm:=true
 fn:=λ_=>true
 pn:=[]
 xe:=λe s'=>wpAny (model P w) (A.deeper (envOfC qual scope s.heap.objs.size f cd)) (leaving (envOfC qual scope s.heap.objs.size f cd) e) (λ_ s''=>CX outer H s E e s'') (λe' s''=>CX outer H s E e' s'') s'
theorem e6_{sc:Scope}(h:sc.names.lookup x=some .cell):∃c,(cellsFrom n sc.names []).lookup x=some c:=by
 have q:=PySem.W.cellsFrom_some sc.names n [] (.inl h);exact Option.isSome_iff_exists.mp q
variable{N:List Str}{qual:Str}{scope:Scope}
theorem fA_{cd:Aa}{s1:Ab}(S:aT' N ps scope)(hd:A.handled=none)(e0:Env0 P w K mg base A outer s H)(hl:vs.length=ps.length)(r:Vals vs us)(x:InCallC s s.heap.objs.size (bindL (envOfC qual scope s.heap.objs.size f cd).kindOf (ps.zip us) λ_=>none) (cellsFrom (s.heap.objs.size+1) scope.names []) (bindC (envOfC qual scope s.heap.objs.size f cd).kindOf (ps.zip us) λ_=>none) s1) :
  Inv (cxOf CX P w K mg base N qual scope f cd A outer s H E) [] (start N vs) H s1:=by
 have hpl:ps.length<=N.length:=by have:=b_7 List.length S.pre;rw[ak'] at this;omega
 obtain⟨h1,tk,rfl,hk⟩:=x.done;have noA:∀b:Addr,b∉(cxOf CX P w K mg base N qual scope f cd A outer s H E).ex:=λb z=>absurd (show b∈([]:List Addr) from z) Z2
 refine⟨⟨e0.mod,S.kind,rfl,rfl,ad' _,λy z c h1 h2=>?_,λy hy=>?_,λy c _ h=>?_,λ_=>hd,Around.frames_deeper e0.frames,.inr ⟨rfl,rfl⟩,λb z=>absurd z (noA b),e0.bs,e0.bsz,λb _ _=>noA b,λb z=>absurd z (noA b),e0.funs,e0.frf⟩,
  rfl,e0.bare,Un.kept hk,⟨_,x.toInCall.ns,λi y v h1 h2 h3=>?_⟩,λy c h=>⟨_,x.cell y c h⟩,e0.hok.fresh (ad' _),λy c h=>?_,λp hp=>absurd (show p∈([]:List (Addr × Obj)) from hp) Z2,e0.hok.kept hk,?_⟩
 ·exact name_of_addr x.apart (b_6 h1) (b_6 h2)
 ·have hy:scope.names.lookup y=some .cell∨scope.names.lookup y=some .free:=hy;rcases hy with hy|hy
  ·exact e6_ hy
  ·exact absurd rfl (S.nofree _ (b_6 hy))
 ·exact Nat.le_of_lt (x.above y c (b_6 h))
 ·have hi:i<vs.length:=by
   unfold start at h2;by_cases hi:i<vs.length
   ·exact hi
   ·rw[List.getElem?_append_right (by simpa using hi)] at h2;rw[List.getElem?_replicate] at h2;split at h2<;>cases h2
  have ha:vs[i]? = some v:=by
   unfold start at h2;rw[List.getElem?_append_left (by simpa using hi),am'] at h2;cases e:vs[i]? with
   |none=>rw[e] at h2;cases h2
   |some a=>rw[e] at h2;cases h2;rfl
  obtain⟨u,hu,rv⟩:=r.get ha
  have hp:ps[i]? = some y:=by
   rw[<- S.pre,List.getElem?_take_of_lt Z1];exact h1
  have ndP:ps.Nodup:=by rw[<- S.pre];exact S.nd.sublist (List.take_sublist _ _)
  refine⟨u,rv,?_⟩;rcases S.par y (ai' hp) with k|k
  ·exact .inl ⟨k,dc_ ndP hp hu k⟩
  ·obtain⟨c,e⟩:=e6_ (n:=s.heap.objs.size+1) k;refine .inr ⟨.inl k,c,e,?_⟩;have q:=x.cell y c e;rw[dg_ ndP hp hu (by show scope.names.lookup y≠_;rw[k];decide)] at q;exact q
 ·exact e0.hok.fresh (Nat.le_of_lt (x.above y c (b_6 h)))
 ·unfold start;show _=N.length;rw[ar',aa',aM'];omega
theorem hS_{name:Str}{params:Arguments}{dV kV doc pm cdv ct oc:Aa}{an od:Option Addr}{osl:Array (Option Aa)}(lk:K.lookup f=some ⟨oc,od,.func (PySem.W.fnOf name qual params body scope dV kV doc pm an cdv ct),osl⟩)(hcd:PySem.W.codeIn K cdv qual=true)(S:aT' N ps scope)(len:∀vs H Q E,sp vs H Q E->vs.length=ps.length)(hbody:∀(A:Ag) (outer:List Env) (s:Ab) (H:Hp) (vs:List V) (Q:VK) (E:XK),Room k (A.deeper (envOfC qual scope s.heap.objs.size f cdv))->sp vs H Q E->
   ∃t,PSs (cxOf CX P w K mg base N qual scope f cdv A outer s H E) body t/\t { nx:=λ_ H'=>Q .non H',rt:=Q } (start N vs) H) :
  FnOk P w K mg base CX (k+1) f (PySem.W.fnOf name qual params body scope dV kV doc pm an cdv ct) ps sp:=by
 refine⟨len,λA outer s H args us vs Q E hr e0 hb r hsp=>?_⟩;have hl:=len _ _ _ _ hsp;have KX:K.In s.heap:=e0.mod.kin.keeps λb o e=>(e0.bs b o e).1;have lim:s.heap.NoLimit:=e0.mod.nolimit.keeps λb o e=>(e0.bs b o e).1
 have hkind:∀y∈ps.zip us,scope.names.lookup y.1=some .local∨(scope.names.lookup y.1=some .cell/\((cellsFrom (s.heap.objs.size+1) scope.names []).lookup y.1).isSome=true):=λ⟨n,v⟩ hy=>by
  rcases S.par n (List.of_mem_zip hy).1 with q|q
  ·exact .inl q
  ·exact .inr ⟨q,PySem.W.cellsFrom_some _ _ _ (.inl q)⟩
 refine codeAny_call_function hr.depth (KX _ _ lk) rfl S.co S.gen rfl (PySem.W.codeRec_of KX hcd) (hb _ _ _ _ ?_);refine wpAny_newFunctionEnv_cells S.kind hkind λenv he s1 x=>?_;subst he;refine⟨lim.keeps x.toInCall.keep,codeAny_func ?_⟩;obtain⟨t,ht,hq⟩:=hbody A outer s H vs Q E (hr.deeper _) hsp;have I:Inv (cxOf CX P w K mg base N qual scope f cdv A outer s H E) [] (start N vs) H s1:=fA_ S hr.hd e0 hl r x;refine wpAny_mono (ht [] s1 (start N vs) H _ I hq) (λfl s' hs=>?_) λe s' hs=>hs
 have fin:∀{σ':St} {H':Hp} {v:V} {u:Aa},Inv (cxOf CX P w K mg base N qual scope f cdv A outer s H E) [] σ' H' s'->RelV v u->Q v H'->CE outer P w H s Q u s':=
  λ{σ' H' v u} J rv q=>⟨v,H',J.os,J.bare,J.base,J.hok,rv,q⟩
 cases fl with
 |ret u=>
  obtain⟨v,σ',H',J,rv,q⟩:=hs;exact fin J rv q
 |next=>
  obtain⟨σ',H',J,q⟩:=hs;exact fin (v:=V.non) (u:=Value.none) J rfl q
 |brk=>
  obtain⟨_,_,_,q⟩:=hs;exact False.elim q
 |cont=>
  obtain⟨_,_,_,q⟩:=hs;exact False.elim q
def tCB(r:List V->Hp->VK->Prop)(t:TA):TE:=λσ H Q=>t σ H λvs H1=>r vs H1 Q
variable{r:List V->Hp->VK->Prop}{id:String}
theorem a9_(hc:bd' X (.builtin id) r)(hg:Gl X x)(hm:X.mg x=none)(hv:bootBuiltins x=some (.builtin id))(ha:PA X (e::es) t)(hn:x≠"__name__":=by decide)(hdb:(x == ("__debug__":Str))=false:=by decide)
  (he:starEach (e::es) X.env=(false,eval e X.env)::starEach es X.env:=by rfl) (hpl:(backTo pos (starEach es X.env)).any (·.1)=false:=by rfl):PE X (.Call (.Name x p) (e::es) [] pos) (tCB r t):=by
 intro pins s σ H Q I h;refine wpAny_Call_Name_kw (dr_ I hg hm hv ?_ hn hdb);exact PyProof.Rows.callWith_builtin1 (thn (ha pos pins s σ H _ I h) λus s1 ⟨vs,H1,I1,r1,q1⟩=>hc pins s1 σ H1 vs us Q I1 r1 q1) he hpl
variable{T:String}
theorem aw_(hc:bd' X (.type T) r)(hg:Gl X x)(hm:X.mg x=none)(hv:bootBuiltins x=some (.type T))(ha:PA X (e::es) t)(hn:x≠"__name__":=by decide)(hdb:(x == ("__debug__":Str))=false:=by decide)
  (he:starEach (e::es) X.env=(false,eval e X.env)::starEach es X.env:=by rfl) (hpl:(backTo pos (starEach es X.env)).any (·.1)=false:=by rfl):PE X (.Call (.Name x p) (e::es) [] pos) (tCB r t):=by
 intro pins s σ H Q I h;refine wpAny_Call_Name_kw (dr_ I hg hm hv ?_ hn hdb);exact PyProof.Rows.callWith_type1 (thn (ha pos pins s σ H _ I h) λus s1 ⟨vs,H1,I1,r1,q1⟩=>hc pins s1 σ H1 vs us Q I1 r1 q1) he hpl
end L2
namespace HT
open PySem PyProof.Rows
section
open PySem.SeqAt
open PySem.AutoSeq1 (wpAny_loadPart')
open PySem.MeetsSeq PySem.MeetsSeq2 PySem.MeetsSeq3
end
def sIx(n d:Nat):Option Int->Nat
 |none=>d
 |some v=>if v<0 then (v+(n:Int)).toNat else min v.toNat n
theorem sIx_none(n d:Nat):sIx n d none=d:=rfl
theorem sIx_nat(n d k:Nat):sIx n d (some (k:Int))=min k n:=by
 show (if (k:Int)<0 then ((k:Int)+(n:Int)).toNat else min (k:Int).toNat n)=min k n;rw[a_6 Z1,Int.toNat_natCast]
end HT
namespace L2
open PySem PySem.Spec PyProof.Rows
abbrev TO:=St->Hp->(Option Int->Hp->Prop)->Prop
def PO(X:Cx)(e:Option Expr)(t:TO):Prop:=
 ∀(pins:List (Addr × Obj)) (s:Ab) (σ:St) (H:Hp) (Q:Option Int->Hp->Prop),Inv X pins σ H s->t σ H Q->
  wpAny (model X.prog X.w) X.A (evalPart e X.env) (λu s'=>∃o H',Inv X pins σ H' s'/\IsPart u o/\Q o H') X.xe s
def tNoPart:TO:=λ_ H Q=>Q none H
inductive tPartR (Q:Option Int->Hp->Prop) (x:V) (H1:Hp):Prop
 |mk:∀i,x=.int i->Q (some i) H1->tPartR Q x H1
def tPart(t:TE):TO:=λσ H Q=>t σ H λx H1=>tPartR Q x H1
section
variable{X:Cx}{e:Expr}{te:TE}{lo hi:Option Expr}{tl th:TO}{pos p2:Pos}
theorem dC_:PO X none tNoPart:=by
 intro pins s σ H Q I h;rw[evalPart_none];exact a_1 ⟨none,H,I,.none,h⟩
theorem dQ_(h:PE X e te):PO X (some e) (tPart te):=by
 intro pins s σ H Q I hw;rw[evalPart_some];refine thn (h pins s σ H _ I hw) λu s1 ⟨x,H1,I1,r1,q1⟩=>?_;obtain⟨i,rfl,q⟩:=q1;obtain⟨t,rfl⟩:=r1;exact⟨some i,H1,I1,.int i t,q⟩
def SlR(X:Cx)(r:V->Option Int->Option Int->Hp->VK->Prop):Prop:=
 ∀(pins:List (Addr × Obj)) (s:Ab) (σ:St) (H:Hp) (x:V) (v vl vu:Aa) (lo hi:Option Int) (sl:Addr) (Q:VK),Inv X pins σ H s->RelV x v->s.heap.IsSliceOf sl vl vu .none->IsPart vl lo->IsPart vu hi->r x lo hi H Q->
  ∃T id,typeLookup (.type T) "__getitem__"=pure (some (.builtin id))/\s.TypeIs v T/\wpAny (model X.prog X.w) X.A (getItem v (.ref sl)) (EP X pins σ Q) X.xe s
def tSl(r:V->Option Int->Option Int->Hp->VK->Prop)(te:TE)(tl th:TO):TE:=λσ H Q=>te σ H λx H1=>tl σ H1 λl H2=>th σ H2 λu H3=>r x l u H3 Q
theorem cL_{r:V->Option Int->Option Int->Hp->VK->Prop}(hr:SlR X r)(he:PE X e te)(hl:PO X lo tl)(hu:PO X hi th):PE X (.Subscript e (.Slice lo hi none p2) pos) (tSl r te tl th):=by
 intro pins s σ H Q I h;refine Subscript_ (thn (he pins s σ H _ I h) λv s1 ⟨x,H1,I1,r1,q1⟩=>?_);refine wpAny_Slice (thn (hl pins s1 σ H1 _ I1 q1) λvl s2 ⟨l,H2,I2,pl,q2⟩=>thn (hu pins s2 σ H2 _ I2 q2) λvu s3 ⟨u,H3,I3,pu,q3⟩=>?_);rw[evalPart_none];refine a_1 ?_;have I4:Inv X pins σ H3 { s3 with heap:=s3.heap.push { cls:=.type "slice",data:=.fields #[vl,vu,.none] } }:=I3.kept (t':=s3.toks) λb ob q=>a_0 _ q;obtain⟨T,id,hT,ht,hg⟩:=hr pins { s3 with heap:=s3.heap.push { cls:=.type "slice",data:=.fields #[vl,vu,.none] } } σ H3 x v vl vu l u s3.heap.objs.size Q I4 r1 (Heap.IsSliceOf.new ..) pl pu q3;show wpAny (model X.prog X.w) X.A (subscriptTail e (.Slice lo hi none p2) v (.ref s3.heap.objs.size)) (EP X pins σ Q) X.xe { s3 with heap:=s3.heap.push { cls:=.type "slice",data:=.fields #[vl,vu,.none] } };exact tail_any (ops:=[.ref s3.heap.objs.size,v]) ht hT hg (by with_unfolding_all rfl)
def cutV(xs:List V)(lo hi:Option Int):List V:=(xs.drop (HT.sIx xs.length 0 lo)).take (HT.sIx xs.length xs.length hi - HT.sIx xs.length 0 lo)
theorem dL_(xs:List V)(lo hi:Option Int):(cutV xs lo hi).length<=xs.length:=by
 unfold cutV;rw[ak',List.length_drop];omega
end
def ixN(n:Nat)(i:Int):Option Nat:=if 0<=i then (if i<n then some i.toNat else none) else if -(n:Int)<=i then some (i+n).toNat else none
def atI{α:Type}(xs:List α)(i:Int):Option α:=(ixN xs.length i).bind λj=>xs[j]?
variable{n:Nat}
theorem fv_{i:Int}{j:Nat}(h:ixN n i=some j):seqIndex? i n=some j/\j<n/\-(n:Int)<=i/\i<n:=by
 unfold ixN at h;by_cases h0:0<=i
 ·rw[a_9 h0] at h;by_cases h1:i<n
  ·rw[a_9 h1] at h;have e:i.toNat=j:=a_8 h;exact⟨by rw[seqIndex_of h0 h1,e],by omega,by omega,h1⟩
  ·rw[a_6 h1] at h;cases h
 ·rw[a_6 h0] at h;by_cases h1:-(n:Int)<=i
  ·rw[a_9 h1] at h;have e:(i+n).toNat=j:=a_8 h;exact⟨by rw[seqIndex_neg Z1 h1,e],by omega,h1,by omega⟩
  ·rw[a_6 h1] at h;cases h
theorem dP_{α:Type}{xs:List α}{i:Int}{v:α}(h:atI xs i=some v):∃j,seqIndex? i xs.length=some j/\xs[j]? = some v/\j<xs.length/\-(xs.length:Int)<=i/\i<xs.length:=by
 unfold atI at h;cases e:ixN xs.length i with
 |none=>rw[e] at h;cases h
 |some j=>
  rw[e] at h;obtain⟨h1,h2,h3,h4⟩:=fv_ e;exact⟨j,h1,h,h2,h3,h4⟩
def PlainIx(b:Expr):Prop:=∀o i,subscripted b false o i=operate [o,i] (getItem o i)
def IxR(X:Cx)(r:R2):Prop:=
 ∀(value slice:Expr) (pins:List (Addr × Obj)) (s:Ab) (σ:St) (H:Hp) (x y:V) (v u:Aa) (Q:VK),Inv X pins σ H s->RelV x v->RelV y u->r x y H Q->
  subscripted slice false v u=operate [v,u] (getItem v u)->wpAny (model X.prog X.w) X.A (subscriptTail value slice v u) (EP X pins σ Q) X.xe s
def MtR(X:Cx)(id:String)(r:V->List V->Hp->VK->Prop):Prop:=
 ∀(pins:List (Addr × Obj)) (s:Ab) (σ:St) (H:Hp) (x:V) (xs:List V) (v:Aa) (us:List Aa) (Q:VK),Inv X pins σ H s->RelV x v->Vals xs us->r x xs H Q->
  wpAny (model X.prog X.w) X.A (call (.builtin id) (v::us)) (EP X pins σ Q) X.xe s
section
variable{X:Cx}{a b:Expr}{ta tb:TE}{pos:Pos}
theorem aA_{r:R2}(hr:IxR X r)(ha:PE X a ta)(hb:PE X b tb)(hs:PlainIx b):PE X (.Subscript a b pos) (tOp r ta tb):=by
 intro pins s σ H Q I h;exact Subscript_ (binT ha hb I h λv u s2 x y H2 I2 rx ry q=>hr a b pins s2 σ H2 x y v u Q I2 rx ry q (hs _ _))
inductive rIxL (K:F__) (x:V) (y:V) (H:Hp) (Q:VK):Prop
 |mk:∀p xs i v,x=.ref p->y=.int i->SqL K H p xs->atI xs i=some v->Q v H->rIxL K x y H Q
inductive rIxT (K:F__) (x:V) (y:V) (H:Hp) (Q:VK):Prop
 |mk:∀p xs i v,x=.ref p->y=.int i->SqT K H p xs->atI xs i=some v->Q v H->rIxT K x y H Q
inductive rIxS (x:V) (y:V) (H:Hp) (Q:VK):Prop
 |mk:∀z i c,x=.str z->y=.int i->z.length<=sizeLine->atI z.cps.toList i=some c->Q (.str ⟨#[c]⟩) H->rIxS x y H Q
theorem aG_:IxR X (rIxL X.K):=by
 intro value slice pins s σ H x y v u Q I rx ry h hs;obtain⟨p,xs,i,z,rfl,rfl,hq,he,q⟩:=h;cases rx;obtain⟨t,rfl⟩:=ry;obtain⟨its,r,pl,hz⟩:=I.list hq;obtain⟨j,h1,h2,h3,h4,h5⟩:=dP_ he;obtain⟨w,ew,rw'⟩:=r.get h2;have hl:=r.length;have hn:=line63;have fin:EP X pins σ Q w s:=⟨z,H,I,rw',q⟩;by_cases h0:0<=i
 ·have hj:i.toNat=j:=by
   rw[seqIndex_of h0 h5] at h1;exact a_8 h1
  exact item_listR pl.isList h0 Z1 (by rw[hj];simpa using ew) fin hs
 ·have hj:(i+(its.toArray.size:Int)).toNat=j:=by
   rw[seqIndex_neg Z1 h4] at h1;rw[ae',<- hl];exact a_8 h1
  exact subscriptTail_builtinR (x:=w) pl.isList.typeIs slot_list_getitem.lookup
   (wpAny_getItem_list_neg (Q:=λr s'=>r=w/\EP X pins σ Q r s') pl.isList Z1 (by rw[ae']<;>omega) Z1 (by rw[hj];simpa using ew) ⟨rfl,fin⟩) hs
theorem aI_:IxR X (rIxT X.K):=by
 intro value slice pins s σ H x y v u Q I rx ry h hs;obtain⟨p,xs,i,z,rfl,rfl,hq,he,q⟩:=h;cases rx;obtain⟨t,rfl⟩:=ry;obtain⟨its,r,pl,hz⟩:=I.tuple hq;obtain⟨j,h1,h2,h3,h4,h5⟩:=dP_ he;obtain⟨w,ew,rw'⟩:=r.get h2;have hl:=r.length;have hn:=line63;have fin:EP X pins σ Q w s:=⟨z,H,I,rw',q⟩
 exact subscriptTail_builtinR (x:=w) pl.typeIs slot_tuple_getitem.lookup
  (getItem_tuple (j:=j) (Q:=λr s'=>r=w/\EP X pins σ Q r s') pl Z1 Z1 (by rw[ae',<- hl];exact h1) (by simpa using ew) ⟨rfl,fin⟩) hs
theorem fO_:IxR X rIxS:=by
 intro value slice pins s σ H x y v u Q I rx ry h hs;obtain⟨z,i,c,rfl,rfl,hz,he,q⟩:=h;obtain⟨t,rfl⟩:=rx;obtain⟨t',rfl⟩:=ry;obtain⟨j,h1,h2,h3,h4,h5⟩:=dP_ he;have hl:z.cps.toList.length=z.length:=by simp[Str.length]
 rw[hl] at h1 h4 h5;have hn:=line63
 exact tail_any (typeIs_str s z t) slot_str_getitem.lookup (getItem_str (c:=c) (by
  have e1:decide (i < -(2 ^ 63:Int))=false:=a_7 Z1;have e2:decide (i ≥ 2 ^ 63)=false:=a_7 Z1;rw[e1,e2,Bool.or_false]) (by rw[h1];simpa using h2) ⟨.str ⟨#[c]⟩,H,I.tok _,⟨_,rfl⟩,q⟩) hs
theorem eu_(its:List Aa)(n j:Nat)(u:Aa):Obj.mapSeq (·.setIfInBounds j u) { cls:=.type "list",data:=.seq its.toArray n }={ cls:=.type "list",data:=.seq (its.set j u).toArray n }:=by
 simp[Obj.mapSeq]
theorem Inv.lst{pins:List (Addr × Obj)}{σ:St}{H:Hp}{s:Ab}{p:Addr}{xs:List V}(I:Inv X pins σ H s)(h:H p=some (.lst xs)) :
  ∃(its:List Aa) (n:Nat),Vals xs its/\s.heap.get? p=some { cls:=.type "list",data:=.seq its.toArray n }/\xs.length<=sizeLine:=by
 obtain⟨z,its,n,r,e⟩:=I.hok p _ h;exact⟨its,n,r,e,z⟩
theorem Inv.lstUpd{pins:List (Addr × Obj)}{σ:St}{H:Hp}{s:Ab}{p:Addr}{xs ys:List V}{its its':List Aa}{n':Nat}{f:Obj->Obj}(I:Inv X pins σ H s)(h:H p=some (.lst xs))(ho:s.heap.get? p=some { cls:=.type "list",data:=.seq its.toArray n })(hf:f { cls:=.type "list",data:=.seq its.toArray n }={ cls:=.type "list",data:=.seq its'.toArray n' })(r:Vals ys its')(hz:ys.length<=sizeLine)(t:Nat) :
  Inv X pins σ (upd H p (.lst ys)) { s with heap:=s.heap.update p f,toks:=t }:=by
 have e:(s.heap.update p f).get? p=some { cls:=.type "list",data:=.seq its'.toArray n' }:=by
  rw[Heap.get?_update_self f ho (by rw[hf]<;>rfl),hf]
 refine I.write (x:=p) (e:=p) (by rw[h];trivial) (.inl rfl) (λb u hb q=>(Heap.get?_update_other _ _ (Ne.symm hb)).trans q) ⟨_,e⟩ ?_;exact⟨hz,its',n',r,e⟩
inductive rSetL (o:V) (i:V) (v:V) (H:Hp) (Q:Hp->Prop):Prop
 |mk:∀p xs k j,o=.ref p->i=.int k->H p=some (.lst xs)->ixN xs.length k=some j->Q (upd H p (.lst (xs.set j v)))->rSetL o i v H Q
theorem cK_:PSet X rSetL:=by
 intro pins s σ H o i v ov iv u Q I ro ri rv h;obtain⟨p,xs,k,j,rfl,rfl,hp,hj,q⟩:=h;cases ro;obtain⟨t,rfl⟩:=ri;obtain⟨its,n,r,ho,hz⟩:=I.lst hp;obtain⟨h1,h2,h3,h4⟩:=fv_ hj;have hl:=r.length;have hn:=line63
 have I':Inv X pins σ (upd H p (.lst (xs.set j v))) { s with heap:=s.heap.update p (Obj.mapSeq (·.setIfInBounds j u)) }:=
  I.lstUpd hp ho (eu_ its n j u) (r.set rv j) (by rw[List.length_set];exact hz) s.toks
 by_cases h0:0<=k
 ·have hk:k.toNat=j:=by
   rw[seqIndex_of h0 h4] at h1;exact a_8 h1
  exact PySem.W.ki_setAt ho h0 Z1 (by rw[ae',<- hl];exact h4) (by rw[hk];exact⟨_,I',q⟩)
 ·have hk:(k+(its.toArray.size:Int)).toNat=j:=by
   rw[seqIndex_neg Z1 h3] at h1;rw[ae',<- hl];exact a_8 h1
  exact PySem.W.ki_setBack ho Z1 (by rw[ae',<- hl];exact h3) Z1 (by rw[hk];exact⟨_,I',q⟩)
theorem dz_(lo hi:Option Int)(n:Nat):(sliceBounds lo hi none n).1=((HT.sIx n 0 lo:Nat):Int)/\(sliceBounds lo hi none n).2.1=((HT.sIx n n hi:Nat):Int)/\(sliceBounds lo hi none n).2.2=1:=by
 refine⟨?_,?_,rfl⟩
 ·cases lo with
  |none=>simp[sliceBounds,HT.sIx]
  |some i=>
   simp only[sliceBounds,HT.sIx,Option.getD_none,show (1:Int) > 0 by decide,if_true];by_cases h:i<0
   ·simp only[h,if_true]<;>omega
   ·simp only[h,if_false]<;>omega
 ·cases hi with
  |none=>simp[sliceBounds,HT.sIx]
  |some i=>
   simp only[sliceBounds,HT.sIx,Option.getD_none,show (1:Int) > 0 by decide,if_true];by_cases h:i<0
   ·simp only[h,if_true]<;>omega
   ·simp only[h,if_false]<;>omega
theorem cX_(its:List Aa)(lo hi:Option Int):slicePick its.toArray lo hi none=((its.drop (HT.sIx its.length 0 lo)).take (HT.sIx its.length its.length hi - HT.sIx its.length 0 lo)).toArray:=by
 obtain⟨h1,h2,h3⟩:=dz_ lo hi its.toArray.size;unfold slicePick;rw[h1,h2,h3];simp only[sliceRange_one,pick_run,ae']<;>rfl
inductive rSlL (K:F__) (x:V) (lo:Option Int) (hi:Option Int) (H:Hp) (Q:VK):Prop
 |mk:∀a xs,x=.ref a->SqL K H a xs->(∀p,H p=none->Q (.ref p) (upd H p (.lst (cutV xs lo hi))))->rSlL K x lo hi H Q
theorem dH_:SlR X (rSlL X.K):=by
 intro pins s σ H x v vl vu lo hi sl Q I rx hs pl pu h;obtain⟨a,xs,rfl,hx,q⟩:=h;cases rx;obtain⟨its,r,ht,hz⟩:=I.list hx;have hlen:=r.length;refine⟨"list",_,slot_list_getitem.lookup,ht.isList.typeIs,?_⟩;refine wpAny_getItem_list_slice ht.isList hs pl pu .none Z2 ?_ (by rw[ae']<;>omega)
 rw[cX_,<- hlen];refine⟨.ref s.heap.objs.size,_,I.laid (t':=s.toks) (o:=.lst (cutV xs lo hi)) (λb ob q=>a_0 _ q) (ad' _) ?_,rfl,q _ (I.hok.fresh (ad' _))⟩;exact⟨aQ' (dL_ xs lo hi) hz,_,0,(r.drop (HT.sIx xs.length 0 lo)).take (HT.sIx xs.length xs.length hi - HT.sIx xs.length 0 lo),a_4 _ rfl⟩
def flatV:V->Bool
 |.non=>true
 |.bl _=>true
 |.int _=>true
 |.str _=>true
 |_=>false
def eqV:V->V->Bool
 |.non,.non=>true
 |.bl a,.bl b=>a == b
 |.bl a,.int b=>(if a then 1 else 0) == b
 |.int a,.bl b=>a == (if b then 1 else 0)
 |.int a,.int b=>a == b
 |.str a,.str b=>a == b
 |_,_=>false
theorem en_{A:Ag}{s:Ab}{y x:V}{u v:Aa}(ry:RelV y u)(rx:RelV x v)(fy:flatV y=true)(fx:flatV x=true):SeqAt.EqAt A s u v (eqV y x):=by
 cases y with
 |non=>
  cases ry;cases x with
  |non=>cases rx;exact SeqAt.EqAt.same _
  |bl b=>cases rx;exact SeqAt.EqAt.none_bool b
  |int b=>obtain⟨t,rfl⟩:=rx;exact SeqAt.EqAt.none_int b t
  |str b=>obtain⟨t,rfl⟩:=rx;exact SeqAt.EqAt.none_str b t
  |_=>exact absurd (show false=true from fx) ao'
 |bl a=>
  cases ry;cases x with
  |non=>cases rx;exact SeqAt.EqAt.bool_none a
  |bl b=>cases rx;exact SeqAt.EqAt.bool_bool a b
  |int b=>obtain⟨t,rfl⟩:=rx;exact SeqAt.EqAt.bool_int a b t
  |str b=>obtain⟨t,rfl⟩:=rx;exact SeqAt.EqAt.bool_str a b t
  |_=>exact absurd (show false=true from fx) ao'
 |int a=>
  obtain⟨t',rfl⟩:=ry;cases x with
  |non=>cases rx;exact SeqAt.EqAt.int_none a t'
  |bl b=>cases rx;exact SeqAt.EqAt.int_bool a t' b
  |int b=>obtain⟨t,rfl⟩:=rx;exact SeqAt.EqAt.int_int a t' b t
  |str b=>obtain⟨t,rfl⟩:=rx;exact SeqAt.EqAt.int_str a t' b t
  |_=>exact absurd (show false=true from fx) ao'
 |str a=>
  obtain⟨t',rfl⟩:=ry;cases x with
  |non=>cases rx;exact SeqAt.EqAt.str_none a t'
  |bl b=>cases rx;exact SeqAt.EqAt.str_bool a t' b
  |int b=>obtain⟨t,rfl⟩:=rx;exact SeqAt.EqAt.str_int a t' b t
  |str b=>obtain⟨t,rfl⟩:=rx;exact SeqAt.EqAt.str_str a t' b t
  |_=>exact absurd (show false=true from fx) ao'
 |_=>exact absurd (show false=true from fy) ao'
inductive bC' (K:F__) (xs:List V) (H:Hp) (Q:VK):Prop
 |mk:∀p ys,xs=[.ref p]->(SqL K H p ys∨SqT K H p ys)->Q (.int ys.length) H->bC' K xs H Q
theorem am_:bd' X (.builtin "len") (bC' X.K):=by
 intro pins s σ H xs us Q I r h;obtain⟨p,ys,rfl,hq,q⟩:=h;obtain⟨u,rfl,rx⟩:=vals1 r;cases rx;have hn:=line63;rcases hq with hq|hq
 ·obtain⟨its,r',pl,hz⟩:=I.list hq;have hlen:=r'.length;exact Calls.call_len_list pl.isList (by simp only[ae']<;>omega) ⟨.int ys.length,H,I.tok _,⟨s.toks+1,by rw[ae',hlen]⟩,q⟩
 ·obtain⟨its,r',pl,hz⟩:=I.tuple hq;have hlen:=r'.length;exact len_tuple pl (by simp only[ae']<;>omega) ⟨.int ys.length,H,I.tok _,⟨s.toks+1,by rw[ae',hlen]⟩,q⟩
inductive bu' (xs:List V) (H:Hp) (Q:VK):Prop
 |mk:∀z,xs=[.str z]->z.length<=sizeLine->Q (.int z.length) H->bu' xs H Q
theorem d6_:bd' X (.builtin "len") bu':=by
 intro pins s σ H xs us Q I r h;obtain⟨z,rfl,hz,q⟩:=h;obtain⟨u,rfl,t,rfl⟩:=vals1 r;have hn:=line63;exact len_str Z1 ⟨.int z.length,H,I.tok _,⟨_,rfl⟩,q⟩
inductive bh' (K:F__) (xs:List V) (H:Hp) (Q:VK):Prop
 |mk:∀p ys,xs=[.ref p]->(SqL K H p ys∨SqT K H p ys)->(∀l,H l=none->Q (.ref l) (upd H l (.lst ys)))->bh' K xs H Q
theorem dn_:bd' X (.type "list") (bh' X.K):=by
 intro pins s σ H xs us Q I r h;obtain⟨p,ys,rfl,hq,q⟩:=h;obtain⟨u,rfl,rx⟩:=vals1 r;cases rx
 have fin:∀(its:List Aa),Vals ys its->ys.length<=sizeLine->∀(h':Heap) (c':Nat),(∀b o',s.heap.get? b=some o'->h'.get? b=some o')->
   h'.get? s.heap.objs.size=some { cls:=.type "list",dict:=none,data:=.seq its.toArray c',slots:=#[] }->EP X pins σ Q (.ref s.heap.objs.size) { s with heap:=h' }:=λits r' hz h' c' kp e=>
  ⟨.ref s.heap.objs.size,_,I.laid (t':=s.toks) kp (ad' _) (show a0' X.prog X.w _ h' _ (.lst ys) from ⟨hz,its,c',r',e⟩),rfl,q _ (I.hok.fresh (ad' _))⟩
 rcases hq with hq|hq
 ·obtain⟨its,r',pl,hz⟩:=I.list hq;have hlen:=r'.length;obtain⟨o,ho,hc,n,hd⟩:=pl.isList;exact call_list_seq p (.inl rfl) ho hc hd (λh' c' kp e=>fin its r' hz h' c' kp e) (by simp only[ae']<;>omega)
 ·obtain⟨its,r',pl,hz⟩:=I.tuple hq;have hlen:=r'.length;obtain⟨o,ho,hc,n,hd⟩:=pl;exact call_list_seq p (.inr rfl) ho hc hd (λh' c' kp e=>fin its r' hz h' c' kp e) (by simp only[ae']<;>omega)
inductive bf' (K:F__) (xs:List V) (H:Hp) (Q:VK):Prop
 |mk:∀p ys,xs=[.ref p]->((SqL K H p ys/\∀l,H l=none->Q (.ref l) (upd H l (.tup ys)))∨(SqT K H p ys/\Q (.ref p) H))->bf' K xs H Q
theorem cM_:bd' X (.type "tuple") (bf' X.K):=by
 intro pins s σ H xs us Q I r h;obtain⟨p,ys,rfl,h⟩:=h;obtain⟨u,rfl,rx⟩:=vals1 r;cases rx;rcases h with⟨hq,q⟩|⟨hq,q⟩
 ·obtain⟨its,r',pl,hz⟩:=I.list hq;have hlen:=r'.length;refine call_tuple_list pl.isList (λh' kp=>?_) (by simp only[ae']<;>omega)
  have I1:Inv X pins σ H { s with heap:=h' }:=I.kept (t':=s.toks) kp
  have I2:Inv X pins σ (upd H h'.objs.size (.tup ys)) { s with heap:=h'.push { cls:=.type "tuple",data:=.seq its.toArray } }:=
   I1.laid (t':=s.toks) (λb o e=>a_0 _ e) (ad' _) (show a0' X.prog X.w _ _ _ (.tup ys) from ⟨hz,its,r',IsTup.new _ _,_,a_4 _ rfl,rfl⟩)
  exact⟨.ref h'.objs.size,_,I2,rfl,q _ (I1.hok.fresh (ad' _))⟩
 ·obtain⟨its,r',pl,hz⟩:=I.tuple hq;exact call_tuple_same pl ⟨.ref p,H,I,rfl,q⟩
def tyV(K:F__)(T:String)(x:V)(H:Hp):Prop:=match x with
 |.str _=>T="str"
 |.int _=>T="int"
 |.ref p=>(T="list"/\∃xs,SqL K H p xs)∨(T="tuple"/\∃o,K.lookup p=some o/\o.cls=.type "tuple"/\o.dict=none) ∨
   (T="dict"/\((∃kvs,H p=some (.dK kvs))∨∃kvs,H p=some (.dT kvs)))∨(T="set"/\∃S n,H p=some (.set S n))
 |_=>False
theorem h9_{pins:List (Addr × Obj)}{σ:St}{H:Hp}{s:Ab}{T:String}{x:V}{v:Aa}(I:Inv X pins σ H s)(r:RelV x v)(ty:tyV X.K T x H) :
  s.TypeIs v T/\∀a,v=.ref a->∃ob,s.heap.get? a=some ob/\ob.dict=none:=by
 cases x with
 |str z=>
  obtain⟨t,rfl⟩:=r;cases (show T="str" from ty);exact⟨typeIs_str s z t,λ_ e=>nomatch e⟩
 |int i=>
  obtain⟨t,rfl⟩:=r;cases (show T="int" from ty);exact⟨typeIs_int s i t,λ_ e=>nomatch e⟩
 |ref p=>
  cases r;rcases ty with⟨rfl,xs,hq⟩|⟨rfl,o,hk,hc,hd⟩|⟨rfl,hk⟩|⟨rfl,S,n,hk⟩
  ·obtain⟨its,_,pl,_⟩:=I.list hq;refine⟨pl.isList.typeIs,λa e=>?_⟩;cases e;obtain⟨o,n,e,c,hd,_⟩:=pl;exact⟨o,e,hd⟩
  ·refine⟨⟨o,I.kIn p o hk,hc⟩,λa e=>?_⟩;cases e;exact⟨o,I.kIn _ o hk,hd⟩
  ·have z:∃o,s.heap.get? p=some o/\o.ExactDict:=by
    rcases hk with⟨kvs,hk⟩|⟨kvs,hk⟩
    ·obtain⟨_,_,_,_,o,_,_,e,ex,_⟩:=I.hok p _ hk;exact⟨o,e,ex⟩
    ·obtain⟨_,_,_,_,o,_,_,e,ex,_⟩:=I.hok p _ hk;exact⟨o,e,ex⟩
   obtain⟨o,e,ex⟩:=z;refine⟨⟨o,e,ex.1⟩,λa e2=>?_⟩;cases e2;exact⟨o,e,ex.2.1⟩
  ·obtain⟨o,_,_,_,e,ex,_⟩:=I.hok p _ hk;refine⟨⟨o,e,ex.1⟩,λa e2=>?_⟩;cases e2;exact⟨o,e,ex.2.1⟩
 |_=>exact False.elim ty
def tBM0(K:F__)(T:String)(r:V->List V->Hp->VK->Prop)(to:TE):TE:=λσ H Q=>to σ H λx H1=>tyV K T x H1/\r x [] H1 Q
def tBM(K:F__)(T:String)(r:V->List V->Hp->VK->Prop)(to:TE)(t:TA):TE:=λσ H Q=>to σ H λx H1=>tyV K T x H1/\t σ H1 λxs H2=>r x xs H2 Q
variable{o e:Expr}{es:List Expr}{to:TE}{t:TA}{name:Str}{apos cpos:Pos}{T id:String}{r:V->List V->Hp->VK->Prop}
theorem dx_(pa:PlainAttrs T)(slot:Slot T name id)(hty:typeOf (.builtin id)=pure (.type "method_descriptor"))(hm:MtR X id r)(ho:PE X o to)
  (hbase:attributeBase o name X.env (eval o X.env)=eval o X.env:=by rfl) (hline:(apos.endLine == cpos.line)=true:=by rfl):PE X (.Call (.Attribute o name apos) [] [] cpos) (tBM0 X.K T r to):=by
 intro pins s σ H Q I h;refine wpAny_Call_method0_late hbase hline (thn (ho pins s σ H _ I h) λv s1 ⟨x,H1,I1,r1,ty,q1⟩=>?_);obtain⟨h1,h2⟩:=h9_ I1 r1 ty;exact⟨T,id,pa,slot,hty,h1,h2,Calls.callWith_builtin rfl (PySem.evalArgs_none (hm pins s1 σ H1 x [] v [] Q I1 r1 .nil q1))⟩
theorem dA_(pa:PlainAttrs T)(slot:Slot T name id)(hty:typeOf (.builtin id)=pure (.type "method_descriptor"))(hm:MtR X id r)(ho:PE X o to)(ha:PA X (e::es) t)
  (hbase:attributeBase o name X.env (eval o X.env)=eval o X.env:=by rfl)
  (hfew:((backTo cpos (starEach (e::es) X.env)).all (λx=>!x.1)&&(backToKw cpos (keywordEach [] X.env)).all (λx=>x.1.isSome)
   && decide ((e::es).length+([]:List Keyword).length+(if ([]:List Keyword).isEmpty then 0 else 1)<30))=true:=by rfl)
  (hline:(apos.endLine == cpos.line)=true:=by rfl) (hs:starEach (e::es) X.env=(false,eval e X.env)::starEach es X.env:=by rfl) (hplain:(backTo cpos (starEach es X.env)).any (·.1)=false:=by rfl) :
  PE X (.Call (.Attribute o name apos) (e::es) [] cpos) (tBM X.K T r to t):=by
 intro pins s σ H Q I h;refine wpAny_Call_method_late hbase hfew hline rfl (thn (ho pins s σ H _ I h) λv s1 ⟨x,H1,I1,r1,ty,q1⟩=>?_);obtain⟨h1,h2⟩:=h9_ I1 r1 ty;refine⟨T,id,pa,slot,hty,h1,h2,?_⟩;have hA:=ha cpos pins s1 σ H1 _ I1 q1;rw[hs] at hA ⊢;refine Calls.callWith_builtin (by show (false || (backTo cpos (starEach es X.env)).any (·.1))=false;rw[hplain]<;>rfl) (Calls.evalArgs_plain ?_)
 exact thn hA λus s2 ⟨vs,H2,I2,r2,q2⟩=>hm pins s2 σ H2 x vs v us Q I2 r1 r2 q2
end
def MtM(X:Cx)(id:String)(r:V->List V->Hp->VK->Prop):Prop:=
 ∀(pins:List (Addr × Obj)) (s:Ab) (σ:St) (H:Hp) (x:V) (xs:List V) (v:Aa) (us:List Aa) (Q:VK),Inv X pins σ H s->RelV x v->Vals xs us->r x xs H Q->
  wpAny (model X.prog X.w) X.A (call (.builtin id) (v::us)) (EP X pins σ Q) X.xe s
theorem Vals.one:∀{x:V} {us:List Aa},Vals [x] us->∃u,us=[u]/\RelV x u
 |_,_,.cons r .nil=>⟨_,rfl,r⟩
theorem Vals.two:∀{x y:V} {us:List Aa},Vals [x,y] us->∃u v,us=[u,v]/\RelV x u/\RelV y v
 |_,_,_,.cons r (.cons q .nil)=>⟨_,_,rfl,r,q⟩
theorem Vals.zero:∀{us:List Aa},Vals [] us->us=[]
 |_,.nil=>rfl
theorem Vals.reverse{xs:List V}{us:List Aa}(h:Vals xs us):Vals xs.reverse us.reverse:=by
 induction h with
 |nil=>exact .nil
 |cons r t ih=>rw[List.reverse_cons,List.reverse_cons];exact Vals.append ih (.cons r .nil)
section
variable{X:Cx}{pins:List (Addr × Obj)}{σ:St}{H:Hp}{s:Ab}{l b:Addr}{xs ys zs:List V}
theorem Inv.lset{its its':List Aa}{f:Array Aa->Array Aa}{t':Nat}(I:Inv X pins σ H s)(hH:H l=some (.lst xs))(e:s.heap.get? l=some { cls:=.type "list",data:=.seq its.toArray n })(hf:f its.toArray=its'.toArray)(hv:Vals ys its')(hz:ys.length<=sizeLine) :
  Inv X pins σ (upd H l (.lst ys)) { s with heap:=s.heap.update l (Obj.mapSeq f),toks:=t' }:=by
 have q:=PySem.IsL.update e f;rw[hf] at q;refine I.write (x:=l) (e:=l) (by rw[hH];exact trivial) (.inl rfl) (λb' u hb hu=>(Heap.get?_update_other s.heap (Obj.mapSeq f) (Ne.symm hb)).trans hu) ⟨_,q⟩ ?_;exact⟨hz,its',_,hv,q⟩
theorem Inv.lnew{its:List Aa}{t':Nat}(I:Inv X pins σ H s)(hv:Vals ys its)(hz:ys.length<=sizeLine) :
  Inv X pins σ (upd H s.heap.objs.size (.lst ys)) { s with heap:=s.heap.push { cls:=.type "list",data:=.seq its.toArray },toks:=t' }:=
 I.laid (λ_ _ q=>a_0 _ q) (ad' _) ⟨hz,its,0,hv,a_4 _ rfl⟩
theorem Inv.fresh(I:Inv X pins σ H s):H s.heap.objs.size=none:=I.hok.fresh (ad' _)
theorem Inv.lstM(I:Inv X pins σ H s)(hH:H l=some (.lst xs)):xs.length<=sizeLine/\∃(its:List Aa) (n:Nat),Vals xs its/\xs.length=its.length/\s.heap.get? l=some { cls:=.type "list",data:=.seq its.toArray n }:=by
 obtain⟨z,its,n,r,e⟩:=I.hok l _ hH;exact⟨z,its,n,r,r.length,e⟩
theorem notLongL(h:n<=sizeLine):Builtin.List.listTooLong n=false:=by
 unfold Builtin.List.listTooLong;exact a_7 Z1
end
inductive rAppend (x:V) (vs:List V) (H:Hp) (Q:VK):Prop
 |mk:∀l xs y,x=.ref l->vs=[y]->H l=some (.lst xs)->xs.length<sizeLine->Q .non (upd H l (.lst (xs++[y])))->rAppend x vs H Q
variable{X:Cx}
theorem b4_:MtM X "list.append" rAppend:=by
 intro pins s σ H x vs v us Q I rx rv h;obtain⟨l,xs,y,rfl,rfl,hH,hz,q⟩:=h;cases rx;obtain⟨u,rfl,ru⟩:=rv.one;obtain⟨z,its,n,r,hl,e⟩:=I.lstM hH;refine call_meets F.slot_list_append ⟨_,e,rfl⟩ F.entry_list_append (F.args_list_append_2 _ _) (PySem.list_append l its.toArray n u (by rw[ae'];omega)) ⟨e,?_⟩;refine⟨.non,_,I.lset (its':=its++[u]) hH e Z2 (r.append (.cons ru .nil)) ?_,rfl,q⟩;rw[ar',List.length_singleton];omega
inductive rExtend (x:V) (vs:List V) (H:Hp) (Q:VK):Prop
 |mk:∀l b xs zs,x=.ref l->vs=[.ref b]->H l=some (.lst xs)->H b=some (.lst zs)->xs.length+zs.length<=sizeLine->Q .non (upd H l (.lst (xs++zs)))->rExtend x vs H Q
theorem eY_:MtM X "list.extend" rExtend:=by
 intro pins s σ H x vs v us Q I rx rv h;obtain⟨l,b,xs,zs,rfl,rfl,hH,hB,hz,q⟩:=h;cases rx;obtain⟨u,rfl,ru⟩:=rv.one;cases ru;obtain⟨z,its,n,r,hl,e⟩:=I.lstM hH;obtain⟨z2,its2,n2,r2,hl2,e2⟩:=I.lstM hB;have hsz:its.toArray.size+its2.toArray.size<=sizeLine:=by rw[ae',ae'];omega
 have hlong:¬(!its.toArray.isEmpty&&Builtin.List.listTooLong (its.toArray.size+its2.toArray.size))=true:=by
  rw[notLongL hsz,Bool.and_false];exact ao'
 refine call_meets F.slot_list_extend ⟨_,e,rfl⟩ F.entry_list_extend (F.args_list_extend_2 _ _)
  (AutoSeq1.list_extend_list_list_0 l its.toArray n b its2.toArray n2 hlong (by rw[ae'];omega) Z1) ⟨e,e2,?_⟩
 refine⟨.non,_,I.lset (its':=its++its2) hH e Z2 (r.append r2) ?_,rfl,q⟩;rw[ar'];omega
inductive cZ' (x:V) (vs:List V) (H:Hp) (Q:VK):Prop
 |mk:∀l xs,x=.ref l->vs=[]->H l=some (.lst xs)->Q .non (upd H l (.lst xs.reverse))->cZ' x vs H Q
theorem eK_:MtM X "list.reverse" cZ':=by
 intro pins s σ H x vs v us Q I rx rv h;obtain⟨l,xs,rfl,rfl,hH,q⟩:=h;cases rx;have hus:=rv.zero;subst hus;obtain⟨z,its,n,r,hl,e⟩:=I.lstM hH;refine call_meets F.slot_list_reverse ⟨_,e,rfl⟩ F.entry_list_reverse (F.args_list_reverse_1 _) (AutoSeq1.list_reverse_list_0 l its.toArray n (by rw[ae'];omega)) ⟨e,?_⟩;refine⟨.non,_,I.lset (its':=its.reverse) hH e Z2 r.reverse ?_,rfl,q⟩;rw[List.length_reverse];omega
inductive rClear (x:V) (vs:List V) (H:Hp) (Q:VK):Prop
 |mk:∀l xs,x=.ref l->vs=[]->H l=some (.lst xs)->Q .non (upd H l (.lst []))->rClear x vs H Q
theorem gX_:MtM X "list.clear" rClear:=by
 intro pins s σ H x vs v us Q I rx rv h;obtain⟨l,xs,rfl,rfl,hH,q⟩:=h;cases rx;have hus:=rv.zero;subst hus;obtain⟨z,its,n,r,hl,e⟩:=I.lstM hH;refine call_meets F.slot_list_clear ⟨_,e,rfl⟩ F.entry_list_clear (F.args_list_clear_1 _) (AutoSeq1.list_clear_list_0 l its.toArray n (by rw[ae'];omega)) ⟨e,?_⟩;exact⟨.non,_,I.lset (its':=[]) (ys:=[]) hH e rfl .nil (aC' _),rfl,q⟩
inductive rCat (x:V) (y:V) (H:Hp) (Q:VK):Prop
 |mk:∀l b xs zs,x=.ref l->y=.ref b->H l=some (.lst xs)->H b=some (.lst zs)->xs.length+zs.length<=sizeLine->(∀p,H p=none->Q (.ref p) (upd H p (.lst (xs++zs))))->rCat x y H Q
theorem iC_:OpR X (binaryOp .Add) rCat:=by
 intro pins s σ H x y v u Q I rx ry h;obtain⟨l,b,xs,zs,rfl,rfl,hH,hB,hz,q⟩:=h;cases rx;cases ry;obtain⟨z,its,n,r,hl,e⟩:=I.lstM hH;obtain⟨z2,its2,n2,r2,hl2,e2⟩:=I.lstM hB;refine PySem.P.add_list e e2 ?_ (by rw[ae',ae'];omega);have ea:its.toArray++its2.toArray=(its++its2).toArray:=by simp
 rw[ea];exact⟨.ref _,_,I.lnew (t':=s.toks) (r.append r2) (by rw[ar'];omega),rfl,q _ I.fresh⟩
section
variable{κ:Type}[DecidableEq κ]
def valV(kvs:List (κ × V))(k:κ):Option V:=(kvs.find? λkv=>decide (kv.1=k)).map (·.2)
def putK(kvs:List (κ × V))(k:κ)(v:V):List (κ × V):=
 if (kvs.any λkv=>decide (kv.1=k))=true then kvs.map (λkv=>if kv.1=k then (kv.1,v) else kv) else kvs++[(k,v)]
theorem bg_{p:κ × V}{r:List (κ × V)}{k:κ}(e:p.1=k):valV (p::r) k=some p.2:=by simp[valV,aO',e]
theorem bf_{p:κ × V}{r:List (κ × V)}{k:κ}(e:¬p.1=k):valV (p::r) k=valV r k:=by simp[valV,aO',e]
theorem bH_(k:κ):∀kvs:List (κ × V),(kvs.any λkv=>decide (kv.1=k))=(valV kvs k).isSome
 |[]=>rfl
 |p::r=>by
  rw[List.any_cons];by_cases e:p.1=k
  ·simp only[bg_ e,a_2 e,Bool.true_or,Option.isSome_some]
  ·rw[bf_ e,a_7 e,Bool.false_or];exact bH_ k r
theorem bA_(kvs:List (κ × V))(k:κ)(v:V):(putK kvs k v).length<=kvs.length+1:=by
 unfold putK;split
 ·rw[aa'];omega
 ·rw[ar',aI',List.length_nil];omega
theorem bd_{kvs:List (κ × V)}{k:κ}(v:V)(h:valV kvs k=none):putK kvs k v=kvs++[(k,v)]:=by
 unfold putK;rw[bH_,h];exact a_6 (by decide)
theorem RelO.isSome_eq{o:Option V}{u:Option Aa}(r:RelO o u):o.isSome=u.isSome:=by
 cases o with
 |none=>cases u with
  |none=>rfl
  |some _=>exact (show False from r).elim
 |some _=>cases u with
  |none=>exact (show False from r).elim
  |some _=>rfl
theorem KV.val{kvs:List (κ × V)}{vs:List (κ × Aa)}(r:KV kvs vs)(k:κ):RelO (valV kvs k) (valueAt vs k):=by
 unfold KV at r
 induction r with
 |nil=>exact True.intro
 |@cons p q ps qs h t ih=>
  obtain⟨h1,h2⟩:=h;by_cases e:p.1=k
  ·have e':q.1=k:=h1.symm.trans e;have b:valueAt (q::qs) k=some q.2:=by simp[valueAt,aO',e']
   rw[bg_ e,b];exact h2
  ·have e':¬q.1=k:=λz=>e (h1.trans z);have b:valueAt (q::qs) k=valueAt qs k:=by simp[valueAt,aO',e']
   rw[bf_ e,b];exact ih
theorem KV.any{kvs:List (κ × V)}{vs:List (κ × Aa)}(r:KV kvs vs)(k:κ):(kvs.any λkv=>decide (kv.1=k))=vs.any λkv=>decide (kv.1=k):=by
 unfold KV at r
 induction r with
 |nil=>rfl
 |cons h t ih=>rw[List.any_cons,List.any_cons,ih,h.1]
theorem KV.repl{kvs:List (κ × V)}{vs:List (κ × Aa)}(r:KV kvs vs)(k:κ){y:V}{u:Aa}(ry:RelV y u) :
  KV (kvs.map λkv=>if kv.1=k then (kv.1,y) else kv) (vs.map λkv=>if kv.1=k then (kv.1,u) else kv):=by
 unfold KV at r ⊢
 induction r with
 |nil=>exact .nil
 |@cons p q ps qs h t ih=>
  rw[au',au'];refine .cons ?_ ih;obtain⟨h1,h2⟩:=h;by_cases e:p.1=k
  ·rw[a_9 e,a_9 (h1.symm.trans e)];exact⟨h1,ry⟩
  ·rw[a_6 e,a_6 (λz=>e (h1.trans z))];exact⟨h1,h2⟩
theorem KV.put{kvs:List (κ × V)}{vs:List (κ × Aa)}(r:KV kvs vs)(k:κ){y:V}{u:Aa}(ry:RelV y u):KV (putK kvs k y) (stored vs k u):=by
 unfold putK stored;rw[r.any k];by_cases e:(vs.any λkv=>decide (kv.1=k))=true
 ·rw[a_9 e,a_9 e];exact r.repl k ry
 ·rw[a_6 e,a_6 e];exact Paired.snoc r ⟨rfl,ry⟩
theorem KV.keys{kvs:List (κ × V)}{vs:List (κ × Aa)}(r:KV kvs vs):kvs.map (·.1)=vs.map (·.1):=by
 unfold KV at r
 induction r with
 |nil=>rfl
 |cons h t ih=>rw[au',au',ih,h.1]
theorem KV.length{kvs:List (κ × V)}{vs:List (κ × Aa)}(r:KV kvs vs):kvs.length=vs.length:=a_5 r
end
variable{u:Aa}{P:Ad}{w:Af}
theorem dy_{k:Key}(r:RelV (kV k) u):(aV' P w).is k u=true:=by
 cases k with
 |inl i=>obtain⟨t,e⟩:=(show ∃t,u=Value.int i t from r);subst e;exact dI_ P w i t
 |inr x=>obtain⟨t,e⟩:=(show ∃t,u=Value.str x t from r);subst e;exact by_ P w x t
theorem d1_{P:Ad}{w:Af}:∀{ks:List Key} {us:List Aa},Vals (ks.map kV) us->ItemsAre (aV' P w) ks us
 |[],_,r=>by rw[List.map_nil] at r;cases r;exact .nil
 |k::ks,_,r=>by
  rw[au'] at r;cases r with
  |cons h t=>exact .cons (dy_ h) (d1_ t)
abbrev KT(H:Hp):List (List Key × V)->List (List Key × Addr × Aa)->Prop:=Paired λp q=>p.1=q.1/\H q.2.1=some (.tup (p.1.map kV))/\RelV p.2 q.2.2
variable{H:Hp}{xs:List (List Key × Addr × Aa)}{kvs:List (List Key × V)}
theorem KT.val(r:KT H kvs xs)(k:List Key):RelO (valV kvs k) ((atKey xs k).map (·.2)):=by
 induction r with
 |nil=>exact True.intro
 |@cons p q ps qs h t ih=>
  obtain⟨h1,_,h2⟩:=h;by_cases e:p.1=k
  ·have e':q.1=k:=h1.symm.trans e;have b:atKey (q::qs) k=some q.2:=by simp[atKey,aO',e']
   rw[bg_ e,b];exact h2
  ·have e':¬q.1=k:=λz=>e (h1.trans z);have b:atKey (q::qs) k=atKey qs k:=by simp[atKey,aO',e']
   rw[bf_ e,b];exact ih
theorem KT.repl(r:KT H kvs xs)(k:List Key){y:V}(ry:RelV y u) :
  KT H (kvs.map λkv=>if kv.1=k then (kv.1,y) else kv) (xs.map (putAt k u)):=by
 induction r with
 |nil=>exact .nil
 |@cons p q ps qs h t ih=>
  rw[au',au'];refine .cons ?_ ih;obtain⟨h1,h2,h3⟩:=h;unfold putAt;by_cases e:p.1=k
  ·rw[a_9 e,a_9 (h1.symm.trans e)];exact⟨h1,h2,ry⟩
  ·rw[a_6 e,a_6 (λz=>e (h1.trans z))];exact⟨h1,h2,h3⟩
variable{b:Addr}
theorem KT.put(r:KT H kvs xs)(k:List Key){y:V}(hb:H b=some (.tup (k.map kV)))(ry:RelV y u) :
  KT H (putK kvs k y) (storedH xs k b u):=by
 have e:(kvs.any λkv=>decide (kv.1=k))=(atKey xs k).isSome:=by
  rw[bH_,(r.val k).isSome_eq,Option.isSome_map]
 unfold putK storedH;rw[e];by_cases q:(atKey xs k).isSome=true
 ·rw[a_9 q,a_9 q];exact r.repl k ry
 ·rw[a_6 q,a_6 q];exact Paired.snoc r ⟨rfl,hb,ry⟩
variable{H':Hp}
theorem KT.keeps(r:KT H kvs xs)(ht:∀b ys,H b=some (.tup ys)->H' b=some (.tup ys)):KT H' kvs xs:=
 Paired.mapP r λ_ _ z=>⟨z.1,ht _ _ z.2.1,z.2.2⟩
variable{h:Heap}{a:Addr}
theorem io_{u:HO}(ok:HOk P w H h)(e:Rd H a u):a0' P w H h a u:=e.ok ok
theorem bF_{kvs:List (Key × V)}(ok:HOk P w H h)(e:Rd H a (.dK kvs)):kvs.length<=sizeLine/\(a == sysModules)=false/\∃vs,KV kvs vs/\h.DictOf (aV' P w) a vs:=
 show a0' P w H h a (.dK kvs) from io_ ok e
theorem dk_{kvs:List (Key × V)}(ok:HOk P w H h)(e:H a=some (.dK kvs)):kvs.length<=sizeLine/\(a == sysModules)=false/\∃vs,KV kvs vs/\h.DictOf (aV' P w) a vs:=bF_ ok (.inl e)
theorem dt_{ks:List Key}(ok:HOk P w H h)(e:H a=some (.tup (ks.map kV))):(tupleKind (aV' P w)).is h ks a:=by
 obtain⟨_,its,r,⟨o,h1,h2,n,h3⟩,_⟩:=(show a0' P w H h a (.tup (ks.map kV)) from ok a _ e);exact⟨o,its.toArray,n,h1,h2,h3,by simpa using d1_ r⟩
theorem eB_(ok:HOk P w H h)(e:Rd H a (.dT kvs)):kvs.length<=sizeLine/\(a == sysModules)=false /\
  ∃xs,KT H kvs xs/\h.DictOfH (tupleKind (aV' P w)) a xs:=by
 obtain⟨z,y,xs,r,o,es,ep,h1,h2,h3,h4,h5⟩:=(show a0' P w H h a (.dT kvs) from io_ ok e);refine⟨z,y,xs,r,o,es,ep,h1,h2,h3,h4,λx hx=>?_,h5⟩
 have all:∀{l:List (List Key × V)} {m:List (List Key × Addr × Aa)},KT H l m->∀x∈m,(tupleKind (aV' P w)).is h x.1 x.2.1:=by
  intro l m q
  induction q with
  |nil=>intro x hx;exact nomatch hx
  |@cons p q ps qs hq t ih=>
   intro x hx;rcases aj'.mp hx with e|hx
   ·subst e;exact dt_ ok (by rw[<- hq.1];exact hq.2.1)
   ·exact ih x hx
 exact all r x hx
theorem iL_(ok:HOk P w H h)(e:H a=some (.dT kvs)):kvs.length<=sizeLine/\(a == sysModules)=false /\
  ∃xs,KT H kvs xs/\h.DictOfH (tupleKind (aV' P w)) a xs:=eB_ ok (.inl e)
def DGet(H:Hp)(a:Addr)(y:V)(r:Option V):Prop:=
 (∃kvs k,Rd H a (.dK kvs)/\y=kV k/\r=valV kvs k)∨∃kvs k b,Rd H a (.dT kvs)/\y=.ref b/\H b=some (.tup (k.map kV))/\r=valV kvs k
def DPut(H:Hp)(a:Addr)(y v:V)(H':Hp):Prop:=
 (∃kvs k,H a=some (.dK kvs)/\y=kV k/\kvs.length<sizeLine/\H'=upd H a (.dK (putK kvs k v))) ∨
 ∃kvs k b,H a=some (.dT kvs)/\y=.ref b/\H b=some (.tup (k.map kV))/\kvs.length<sizeLine/\H'=upd H a (.dT (putK kvs k v))
theorem DGet.k{kvs:List (Key × V)}{k:Key}(e:H a=some (.dK kvs)):DGet H a (kV k) (valV kvs k):=.inl ⟨kvs,k,.inl e,rfl,rfl⟩
theorem DGet.t{k:List Key}(e:H a=some (.dT kvs))(eb:H b=some (.tup (k.map kV))):DGet H a (.ref b) (valV kvs k):=.inr ⟨kvs,k,b,.inl e,rfl,eb,rfl⟩
variable{kvs:List (Key × V)}
theorem DPut.k{k:Key}{v:V}(e:H a=some (.dK kvs))(hl:kvs.length<sizeLine):DPut H a (kV k) v (upd H a (.dK (putK kvs k v))):=.inl ⟨kvs,k,e,rfl,hl,rfl⟩
theorem DPut.t{kvs:List (List Key × V)}{k:List Key}{v:V}(e:H a=some (.dT kvs))(eb:H b=some (.tup (k.map kV)))(hl:kvs.length<sizeLine) :
  DPut H a (.ref b) v (upd H a (.dT (putK kvs k v))):=.inr ⟨kvs,k,b,e,rfl,eb,hl,rfl⟩
section
variable{X:Cx}{pins:List (Addr × Obj)}{σ:St}{H:Hp}{s:Ab}{a:Addr}{y v:V}{u r:Aa}{o:Option V}{A:Ag}{E:Aa->Ab->Prop}
theorem Inv.big(I:Inv X pins σ H s):sysModules<s.heap.objs.size:=by
 have h:mainGlobals<s.heap.objs.size:=(I.mod.glob.keeps I.bk).lt;exact Nat.lt_trans (by decide) h
theorem fY_{Q:Aa->Ab->Prop}(hu:A.units+1<cLine)(I:Inv X pins σ H s)(g:DGet H a y (some v))(ry:RelV y u)(h:∀w' s',Inv X pins σ H s'->RelV v w'->Q w' s') :
  wpAny (model X.prog X.w) A (getItem (.ref a) u) Q E s:=by
 rcases g with⟨kvs,k,e,ey,l⟩|⟨kvs,k,b,e,ey,eb,l⟩
 ·subst ey;obtain⟨z,hd,vs,rel,dd⟩:=bF_ I.hok e;obtain⟨w',hw,rw'⟩:=RelO.some_of (v:=v) (o:=valueAt vs k) (by rw[l];exact rel.val k);exact wpAny_getItem_of (dy_ ry) dd.mapOf hw (h w' _ (I.tok _) rw')
 ·subst ey;cases (show u=Value.ref b from ry);obtain⟨z,hd,xs,rel,dd⟩:=eB_ I.hok e;obtain⟨w',hw,rw'⟩:=RelO.some_of (v:=v) (o:=(atKey xs k).map (·.2)) (by rw[l];exact rel.val k);obtain⟨p,hp,hp2⟩:=Option.map_eq_some_iff.mp hw;refine wpAny_getItem_heap (tupleKind_room_in1 hu) (dt_ I.hok eb) dd hp ?_;rw[hp2];exact h w' _ (I.tok _) rw'
theorem d_in{Q:Aa->Ab->Prop}(hu:A.units+1<cLine)(I:Inv X pins σ H s)(g:DGet H a y o)(ry:RelV y u)(h:∀s',Inv X pins σ H s'->Q (.bool o.isSome) s') :
  wpAny (model X.prog X.w) A (compareOp .In u (.ref a)) Q E s:=by
 rcases g with⟨kvs,k,e,ey,l⟩|⟨kvs,k,b,e,ey,eb,l⟩
 ·subst ey;obtain⟨z,hd,vs,rel,dd⟩:=bF_ I.hok e;refine wpAny_in_of (dy_ ry) hd dd.mapOf ?_;rw[<- (rel.val k).isSome_eq,<- l];exact h _ (I.tok _)
 ·subst ey;cases (show u=Value.ref b from ry);obtain⟨z,hd,xs,rel,dd⟩:=eB_ I.hok e;refine wpAny_in_heap (tupleKind_room_in1 hu) (dt_ I.hok eb) hd dd ?_;have q:=(rel.val k).isSome_eq;rw[Option.isSome_map] at q;rw[<- q,<- l];exact h _ (I.tok _)
theorem hC_{Q:Aa->Ab->Prop}(hu:A.units+1<cLine)(I:Inv X pins σ H s)(g:DGet H a y o)(ry:RelV y u)(h:∀s',Inv X pins σ H s'->Q (.bool (!o.isSome)) s') :
  wpAny (model X.prog X.w) A (compareOp .NotIn u (.ref a)) Q E s:=by
 rcases g with⟨kvs,k,e,ey,l⟩|⟨kvs,k,b,e,ey,eb,l⟩
 ·subst ey;obtain⟨z,hd,vs,rel,dd⟩:=bF_ I.hok e;refine wpAny_notIn_of (dy_ ry) hd dd.mapOf ?_;rw[<- (rel.val k).isSome_eq,<- l];exact h _ (I.tok _)
 ·subst ey;cases (show u=Value.ref b from ry);obtain⟨z,hd,xs,rel,dd⟩:=eB_ I.hok e;refine wpAny_notIn_heap (tupleKind_room_in1 hu) (dt_ I.hok eb) hd dd ?_;have q:=(rel.val k).isSome_eq;rw[Option.isSome_map] at q;rw[<- q,<- l];exact h _ (I.tok _)
theorem dT_{h':Heap}{t':Nat}{ob:HO}(I:Inv X pins σ H s)(mu:Mut (H a))(hs:Heap.SameBut a s.heap h')(he:∃q,h'.get? a=some q)(new:a0' X.prog X.w (upd H a ob) h' a ob) :
  Inv X pins σ (upd H a ob) { s with heap:=h',toks:=t' }:=
 I.write (x:=a) (e:=a) mu (.inl rfl) (λb q hb z=>(hs.2 b hb).trans z) he new
theorem g3_{h':Heap}{vs:List (Key × Aa)}(z:kvs.length<=sizeLine)(hd:(a == sysModules)=false)(rel:KV kvs vs)(dd:h'.DictOf (aV' P w) a vs) :
  a0' P w H' h' a (.dK kvs):=⟨z,hd,vs,rel,dd⟩
theorem fh_{Q:Unit->Ab->Prop}(hu:A.units+1<cLine)(I:Inv X pins σ H s)(g:DPut H a y v H')(ry:RelV y u)(rv:RelV v r)(h:∀s',Inv X pins σ H' s'->Q () s') :
  wpAny (model X.prog X.w) A (setItem (.ref a) u r) Q E s:=by
 rcases g with⟨kvs,k,e,ey,l,eH⟩|⟨kvs,k,b,e,ey,eb,l,eH⟩
 ·subst ey eH;obtain⟨z,hd,vs,rel,dd⟩:=dk_ I.hok e;have hz:vs.length<=sizeLine:=by rw[<- rel.length];exact z
  have hl:(putK kvs k v).length<=sizeLine:=by have:=bA_ kvs k v;omega
  refine wpAny_setItem_pairs (hsz:=hz) (dy_ ry) dd λh' dd' hs=>h _ ?_;have he:∃q,h'.get? a=some q:=let ⟨q,_,_,hq,_⟩:=dd';⟨q,hq⟩;exact dT_ I (by rw[e];exact True.intro) hs he (g3_ hl hd (rel.put k rv) dd')
 ·subst ey eH;cases (show u=Value.ref b from ry);obtain⟨z,hd,xs,rel,dd⟩:=iL_ I.hok e;have hz:xs.length<=sizeLine:=by rw[<- a_5 rel];exact z
  have hl:(putK kvs k v).length<=sizeLine:=by have:=bA_ kvs k v;omega
  refine wpAny_setItem_heap (hsz:=hz) (tupleKind_room_in1 hu) (dt_ I.hok eb) dd λh' dd' hs=>h _ ?_;obtain⟨q,es,ep,hq,h2,h3,h4,_,h5⟩:=dd';refine dT_ I (by rw[e];exact True.intro) hs ⟨q,hq⟩ ⟨hl,hd,_,(rel.put k eb rv).keeps λc ys ec=>?_,q,es,ep,hq,h2,h3,h4,h5⟩;rw[a5_ (ac_ ec e nofun)];exact ec
end
variable{pins:List (Addr × Obj)}{σ:St}{s:Ab}{A:Ag}{E:Aa->Ab->Prop}
theorem hs_{Q:Aa->Ab->Prop}(I:Inv X pins σ H s)(e:H a=some (.dK kvs))(h:∀s',Inv X pins σ (upd H a (.dK [])) s'->Q .none s'):wpAny (model X.prog X.w) A (call (.builtin "dict.clear") [.ref a]) Q E s:=by
 obtain⟨z,hd,vs,rel,dd⟩:=dk_ I.hok e;refine call_meetsIn PySem.F.slot_dict_clear dd.typeIs PySem.F.entry_dict_clear (PySem.F.args_dict_clear_1 _) (meets_dict_clear (aV' X.prog X.w) a) ⟨vs,dd,by rw[<- rel.length];exact z,λh' dd' hs=>h _ ?_⟩;have he:∃q,h'.get? a=some q:=let ⟨q,_,_,hq,_⟩:=dd';⟨q,hq⟩;exact dT_ (t':=s.toks) I (by rw[e];exact True.intro) hs he (g3_ (aC' _) hd .nil dd')
theorem iJ_{Q:Aa->Ab->Prop}(I:Inv X pins σ H s)(e:Rd H a (.dK kvs))(h:∀t s',Inv X pins σ H s'->Q (.int kvs.length t) s'):wpAny (model X.prog X.w) A (call (.builtin "len") [.ref a]) Q E s:=by
 obtain⟨z,hd,vs,rel,dd⟩:=bF_ I.hok e;refine call_len_dict hd dd (by rw[<- rel.length];rw[b__] at z;omega) ?_;rw[<- rel.length];exact h _ _ (I.tok _)
def NoSl(i:Expr):Prop:=∀ov iv,subscripted i false ov iv=operate [ov,iv] (getItem ov iv)
variable{value:Expr}{pos:Pos}
theorem fQ_{prog:Ad}{env:Env}{slice:Expr}{T id:String}{Q:Aa->Ab->Prop}(hl:typeLookup (.type T) "__getitem__"=pure (some (.builtin id)))(hs:NoSl slice)(h:wpAny (model prog w) A (eval value env) (λo s₁=>wpAny (model prog w) A (eval slice env) (λi s₂=>s₂.TypeIs o T/\wpAny (model prog w) A (getItem o i) Q E s₂) E s₁) E s) :
  wpAny (model prog w) A (eval (.Subscript value slice pos) env) Q E s:=by
 refine Subscript_ (wpAny_mono h (λo s₁ h₁=>wpAny_mono h₁ (λi s₂ h₂=>?_) λ_ _ x=>x) λ_ _ x=>x);obtain⟨hT,h₂⟩:=h₂;unfold subscriptTail;refine a__ ?_;rw[getitemInPython_of_ne hT.not_modules];refine a__ (wpAny_specialOf hT hl ?_)
 have fin:wpAny (model prog w) A (subscripted slice false o i) (λr s₃=>wpAny (model prog w) A (letTemporaryGo value o r >>= λ_=>pure r) Q E s₃) E s₂:=by
  rw[hs o i];exact wpAny_operating (wpAny_mono h₂ (λr s₃ h₃=>a__ (wpAny_letTemporaryGo (a_1 h₃))) λ_ _ x=>x)
 first
  |exact a_1 (a__ fin)
  |exact a__ (a_1 (a__ fin))
  |exact a__ fin
theorem dD_{y:V}{o:Option V}(I:Inv X pins σ H s)(g:DGet H a y o):s.TypeIs (.ref a) "dict":=by
 rcases g with⟨kvs,k,e,_,_⟩|⟨kvs,k,b,e,_,_,_⟩
 ·obtain⟨_,_,vs,_,dd⟩:=bF_ I.hok e;exact dd.typeIs
 ·obtain⟨_,_,xs,_,dd⟩:=eB_ I.hok e;exact dd.typeIs
inductive tDGetR (Q:VK) (x:V) (y:V) (H2:Hp):Prop
 |mk:∀a v,x=.ref a->DGet H2 a y (some v)->Q v H2->tDGetR Q x y H2
def tDGet(td ty:TE):TE:=λσ H Q=>td σ H λx H1=>ty σ H1 λy H2=>tDGetR Q x y H2
inductive tDInR (Q:VK) (y:V) (x:V) (H2:Hp):Prop
 |mk:∀a o,x=.ref a->DGet H2 a y o->Q (.bl o.isSome) H2->tDInR Q y x H2
def tDIn(ty td:TE):TE:=λσ H Q=>ty σ H λy H1=>td σ H1 λx H2=>tDInR Q y x H2
inductive cX' (Q:VK) (y:V) (x:V) (H2:Hp):Prop
 |mk:∀a o,x=.ref a->DGet H2 a y o->Q (.bl (!o.isSome)) H2->cX' Q y x H2
def tDNotIn(ty td:TE):TE:=λσ H Q=>ty σ H λy H1=>td σ H1 λx H2=>cX' Q y x H2
inductive sDPutR (D:Ends) (σ:St) (v:V) (x:V) (y:V) (H3:Hp):Prop
 |mk:∀a H4,x=.ref a->DPut H3 a y v H4->D.nx σ H4->sDPutR D σ v x y H3
def sDPut(td ty tv:TE):TS:=λD σ H=>tv σ H λv H1=>td σ H1 λx H2=>ty σ H2 λy H3=>sDPutR D σ v x y H3
variable{i o:Expr}{td ty:TE}
theorem bw_(hu:X.A.units+1<cLine)(ho:PE X o td)(hi:PE X i ty)(hs:NoSl i):PE X (.Subscript o i pos) (tDGet td ty):=by
 intro pins s σ H Q I h;refine fQ_ PySem.F.slot_dict_getitem.lookup hs (thn (ho pins s σ H _ I h) λu s1 ⟨x,H1,I1,rx,q1⟩=>thn (hi pins s1 σ H1 _ I1 q1) λiv s2 ⟨y,H2,I2,ry,a,v,ex,g,q2⟩=>?_);subst ex;obtain rfl:u=Value.ref a:=rx;exact⟨dD_ I2 g,fY_ hu I2 g ry λw' s3 I3 rw'=>⟨v,H2,I3,rw',q2⟩⟩
theorem ch_(hu:X.A.units+1<cLine)(hi:PE X i ty)(ho:PE X o td):PC X .In i o (tDIn ty td):=by
 intro pins s σ H Q I h;refine thn (hi pins s σ H _ I h) λiv s1 ⟨y,H1,I1,ry,q1⟩=>thn (ho pins s1 σ H1 _ I1 q1) λu s2 ⟨x,H2,I2,rx,a,ov,ex,g,q2⟩=>?_;subst ex;obtain rfl:u=Value.ref a:=rx;exact d_in hu I2 g ry λs3 I3=>⟨.bl ov.isSome,H2,I3,rfl,q2⟩
theorem dw_(hu:X.A.units+1<cLine)(hi:PE X i ty)(ho:PE X o td):PC X .NotIn i o (tDNotIn ty td):=by
 intro pins s σ H Q I h;refine thn (hi pins s σ H _ I h) λiv s1 ⟨y,H1,I1,ry,q1⟩=>thn (ho pins s1 σ H1 _ I1 q1) λu s2 ⟨x,H2,I2,rx,a,ov,ex,g,q2⟩=>?_;subst ex;obtain rfl:u=Value.ref a:=rx;exact hC_ hu I2 g ry λs3 I3=>⟨.bl (!ov.isSome),H2,I3,rfl,q2⟩
variable{pos':Pos}{tv:TE}
theorem aY_(hu:X.A.units+1<cLine)(ho:PE X o td)(hi:PE X i ty)(hv:PE X value tv)(hs:swapsWith value (some (.Subscript o i pos')) pos.line X.env=pure false) :
  PS X (.Assign [.Subscript o i pos'] value pos) (sDPut td ty tv):=by
 intro pins s σ H D I h;refine wpAny_Assign_Subscript (thn (hv pins s σ H _ I h) λr s1 ⟨v,H1,I1,rv,q1⟩=>thn (ho pins s1 σ H1 _ I1 q1) λu s2 ⟨x,H2,I2,rx,q2⟩=>thn (hi pins s2 σ H2 _ I2 q2) λiv s3 ⟨y,H3,I3,ry,a,H4,ex,g,q3⟩=>?_) hs;subst ex;obtain rfl:u=Value.ref a:=rx;exact fh_ hu I3 g ry rv λs4 I4=>⟨σ,H4,I4,q3⟩
theorem gy_(h:Heap)(hb:sysModules<h.objs.size):a0' P w H (h.push { cls:=.type "dict",data:=.dict #[] }) h.objs.size (.dK []):=
 ⟨aC' _,beq_eq_false_iff_ne.mpr (Ne.symm (aw' hb)),[],.nil,Heap.DictOf.new h⟩
theorem gP_(h:Heap)(hb:sysModules<h.objs.size):a0' P w H (h.push { cls:=.type "dict",data:=.dict #[] }) h.objs.size (.dT []):=
 ⟨aC' _,beq_eq_false_iff_ne.mpr (Ne.symm (aw' hb)),[],.nil,_,#[],0,a_4 _ rfl,⟨rfl,rfl,rfl⟩,rfl,rfl,List.nodup_nil⟩
def tDNewK:TE:=λ_ H Q=>∀p,H p=none->Q (.ref p) (upd H p (.dK []))
def tDNewT:TE:=λ_ H Q=>∀p,H p=none->Q (.ref p) (upd H p (.dT []))
theorem aW_:PE X (.Dict [] [] pos) tDNewK:=λpins s σ H Q I h=>
 wpAny_Dict_empty ⟨.ref s.heap.objs.size,_,I.laid (a:=s.heap.objs.size) (o:=.dK []) (t':=s.toks) (λ_ _ q=>a_0 _ q) (ad' _) (gy_ s.heap I.big),rfl,h _ (I.hok.fresh (ad' _))⟩
theorem gA_:PE X (.Dict [] [] pos) tDNewT:=λpins s σ H Q I h=>
 wpAny_Dict_empty ⟨.ref s.heap.objs.size,_,I.laid (a:=s.heap.objs.size) (o:=.dT []) (t':=s.toks) (λ_ _ q=>a_0 _ q) (ad' _) (gP_ s.heap I.big),rfl,h _ (I.hok.fresh (ad' _))⟩
def bY'(kvs more:List (Key × V)):List (Key × V):=more.foldl (λacc kv=>putK acc kv.1 kv.2) kvs
theorem bK_:∀(more kvs:List (Key × V)),(bY' kvs more).length<=kvs.length+more.length
 |[],kvs=>by show kvs.length<=kvs.length+0;omega
 |p::r,kvs=>by
  have h1:=bK_ r (putK kvs p.1 p.2);have h2:=bA_ kvs p.1 p.2;show (bY' (putK kvs p.1 p.2) r).length<=_;rw[aI'];omega
structure M1 (X:Cx) (o:Expr) (m:Str) (apos:Pos) (e:Expr) (cpos:Pos):Prop where
 base:attributeBase o m X.env (eval o X.env)=eval o X.env
 few:((backTo cpos (starEach [e] X.env)).all (λx=>!x.1)&&(backToKw cpos (keywordEach [] X.env)).all (λx=>x.1.isSome)
  && decide (([e]:List Expr).length+([]:List Keyword).length+(if ([]:List Keyword).isEmpty then 0 else 1)<30))=true
 line:(apos.endLine == cpos.line)=true
 trees:backTo cpos (starEach [e] X.env)=[(false,eval e X.env)]
structure M2 (X:Cx) (o:Expr) (m:Str) (apos:Pos) (e f:Expr) (cpos:Pos):Prop where
 base:attributeBase o m X.env (eval o X.env)=eval o X.env
 few:((backTo cpos (starEach [e,f] X.env)).all (λx=>!x.1)&&(backToKw cpos (keywordEach [] X.env)).all (λx=>x.1.isSome)
  && decide (([e,f]:List Expr).length+([]:List Keyword).length+(if ([]:List Keyword).isEmpty then 0 else 1)<30))=true
 line:(apos.endLine == cpos.line)=true
 trees:backTo cpos (starEach [e,f] X.env)=[(false,eval e X.env),(false,eval f X.env)]
def IsD(H:Hp)(a:Addr):Prop:=(∃kvs,Rd H a (.dK kvs))∨∃kvs,Rd H a (.dT kvs)
theorem hd_(I:Inv X pins σ H s)(d:IsD H a) :
  s.TypeIs (.ref a) "dict"/\(∀b,Value.ref a=.ref b->∃ob,s.heap.get? b=some ob/\ob.dict=none)/\(a == sysModules)=false:=by
 rcases d with⟨kvs,e⟩|⟨kvs,e⟩
 ·obtain⟨_,hd,vs,_,dd⟩:=bF_ I.hok e;refine⟨dd.typeIs,λb q=>?_,hd⟩;cases q;obtain⟨ob,_,_,h1,h2,_⟩:=dd;exact⟨ob,h1,h2.2.1⟩
 ·obtain⟨_,hd,xs,_,dd⟩:=eB_ I.hok e;refine⟨dd.typeIs,λb q=>?_,hd⟩;cases q;obtain⟨ob,_,_,h1,h2,_⟩:=dd;exact⟨ob,h1,h2.2.1⟩
end L2
namespace Att
open PySem PySem.W PySem.Calls PyProof.Rows
variable{P:Params}{h:Heap}
theorem c6_:∀(ns:List Int) (vs:List Aa),WellAll P h vs (ns.map WData.int)->IntsAre vs ns:=by
 intro ns
 induction ns with
 |nil=>
  intro vs w;rw[List.map_nil] at w;cases w;exact .nil
 |cons n ns ih=>
  intro vs w;rw[au'] at w;cases w with
  |cons a b=>
   cases a;exact .cons _ _ (ih _ b)
variable{l:OpenLaw}{n:Nat}
theorem fW_(hn:l.most=some n){args:List WData}{vals:List Aa}(hpre:l.row.toRowW.claim.pre args=true)(hwl:WellAll P h vals args) :
  ∃a vs ns,vals=[Value.ref a]/\args=[WData.list (ns.map WData.int)]/\h.get? a=some { cls:=.type "list",data:=.seq vs.toArray }/\IntsAre vs ns/\ns.length<=n:=by
 have hsh:WShape.hasAll [] args [.list .int]=true:=(pre_splitW hpre).1;have hc:l.pre.holds [] { args:=args }=true:=(pre_splitW hpre).2;obtain⟨d,r,rfl,h1,h2⟩:=hasAllW_cons hsh;obtain rfl:=hasAllW_nil h2;obtain⟨xs,rfl,h3⟩:=hasW_list h1;obtain⟨ns,rfl⟩:=items_int h3
 have hlen:ns.length<=n:=by
  unfold OpenLaw.pre at hc
  have h4:(WTm.not (.lt (.lit (.int (n:Int))) (.len (.arg 0)))).holds [] { args:=[.list (ns.map .int)] }=true:=by
   have h4:=(holds_andW hc).1;rw[hn] at h4;exact h4
  have h5:=condW_of h4 (w_not (w_lt w_lit (w_len_list (w_arg rfl))));rw[aa'] at h5;refine Nat.le_of_not_lt λq=>?_;have q':(n:Int)<((ns.length:Nat):Int):=by omega
  first
   |(rw[a_2 q'] at h5;exact absurd h5 (by decide))
   |(simp at h5;omega)
 cases hwl with
 |cons w1 w2=>
  cases w2;cases w1 with
  |list ho hall=>exact⟨_,_,ns,rfl,rfl,ho,c6_ ns _ hall,hlen⟩
theorem fC_(l:OpenLaw)(args:List WData):l.row.toRowW.claim.post args (.bool true) args=true:=
 postW_of (r:=l.row.toRowW) (X:=(true == true))
  (show WShape.has [] (.bool true) .bool=true by first|rfl|decide|simp[WShape.has,WShape.arms,WShape.armsAll])
  (show (WTm.eq .res (.lit (.bool true))).value [] { args:=args,res:=some (.bool true),after:=args }=some (.bool (true == true)) from w_eq_bool (w_res rfl) w_lit) rfl
theorem attach_call{q:Ad}{loose:List Str}{XP:(Str->Option Aa)->Heap->Prop}{YP:Af->Heap->Prop}{d:DefRec}(hn:l.most=some n)(hdf:d.params.defaults=[])(call:∀(w:Af) (s₀ s₁:Ab) (mg mb:Str->Option Aa) (fa:Addr) (o:Obj) (pm cd doc:Aa) (a:Addr) (vs:List Aa) (ns:List Int),
   Ground q loose [] XP w s₀ mg mb s₁.heap->YP w s₁.heap->
   s₁.heap.get? fa=some o->o.data=.func (docDef d.name d.params d.body d.scope pm cd doc)->s₁.heap.CodeRec cd d.name->mg d.name=some (.ref fa)->
   s₁.heap.get? a=some { cls:=.type "list",data:=.seq vs.toArray }->IntsAre vs ns->ns.length<=n->s₁.gens=#[]->
   codeAny (model l.prog w) callerA (.call (.ref fa) ⟨[.ref a],[]⟩) (λr s'=>r=.ok (.ret (.bool true))/\OldK s₁.heap s'.heap/\s'.os=s₁.os/\AllBare s'.gens) s₁) :
  WalkO q loose XP YP l.row.toRowW d [] (λf vs=>PySem.call f vs):=by
 intro w s₀ s₁ mg mb G Y fa o pm cd doc dV kV ho hd hcd hD hmg hg args vals as hpre hlay hrd hwl hlo;obtain rfl:dV=.none:=Dflts.none hD hdf;obtain rfl:kV=.none:=Dflts.noKw hD;obtain⟨a,vs,ns,rfl,rfl,hobj,hints,hlen⟩:=fW_ hn hpre hwl;refine enter_call (codeAny_mono (call w s₀ s₁ mg mb fa o pm cd doc a vs ns G Y ho (fd_plain hd) hcd hmg hobj hints hlen hg) λr s' hq=>?_);obtain⟨rfl,h2,h3,h4⟩:=hq;exact⟨.inl ⟨.bool true,.bool true,[],rfl,λ_=>rfl,.bool true,fC_ l _,λ_=>⟨List.Pairwise.nil,λ_ hm=>(nomatch hm)⟩⟩,h2,h3,h4⟩
end Att
namespace L2
open PySem PySem.Spec PyProof.Rows
theorem dd_:∀{vs:List Aa} {ns:List Int},IntsAre vs ns->Vals (ns.map V.int) vs
 |_,_,.nil=>.nil
 |_,_,.cons n t h=>.cons ⟨t,rfl⟩ (dd_ h)
def Only(H:Hp):Prop:=∀b,H b=none∨∃o xs,H b=some (.frz o (.lst xs))
variable{k:Nat}{a:Addr}{fd:Ae}{sp:Sp}
theorem gY_{P:Ad}{w:Af}{K:F__}{mg mb:Str->Option Aa}{CX:CXT}{fa:Addr}{x:Str}{s₁:Ab}{vs:List Aa}{ns:List Int}(KX:K.In s₁.heap)(hns:s₁.heap.Ns mainGlobals mg)(hb:s₁.heap.Ns builtinsNs mb)(hbb:∀x:Str,x≠"__name__"->mb x=bootBuiltins x)(hlim:s₁.heap.NoLimit)(hg:s₁.gens=#[])(ha:s₁.heap.get? a=some { cls:=.type "list",data:=.seq vs.toArray })(hi:IntsAre vs ns)(hl:ns.length<=sizeLine)(hr:Room k callerA)(F:∀base:Heap,K.In base->base.Ns mainGlobals mg->FnOk P w K mg base CX k fa fd [x] sp)(hbind:∀(s:Ab) (u:Aa),BindsTo s fd ⟨[u],[]⟩ [(x,u)])(hsp:∀H:Hp,Only H->SqL K H a (ns.map V.int)->sp [.ref a] H (λv _=>v=.bl true) λ_ _ _=>False)(hCX:∀H e s',CX [] H s₁ (λ_ _ _=>False) e s'->False) :
  codeAny (model P w) callerA (.call (.ref fa) ⟨[.ref a],[]⟩) (λr s'=>r=.ok (.ret (.bool true))/\OldK s₁.heap s'.heap/\s'.os=s₁.os/\AllBare s'.gens) s₁:=by
 have rv:=dd_ hi;have lenV:=hi.length
 have core:∀H:Hp,Only H->SqL K H a (ns.map V.int)->HOk P w H s₁.heap->(∀b,H b≠none->b=a)->(H a≠none->K.lookup a=none)->
   codeAny (model P w) callerA (.call (.ref fa) ⟨[.ref a],[]⟩) (λr s'=>r=.ok (.ret (.bool true))/\OldK s₁.heap s'.heap/\s'.os=s₁.os/\AllBare s'.gens) s₁:=by
  intro H hO hS hok hA hK;have base_of:∀{b:Addr} {o:Obj},s₁.heap.get? b=some o->H b=none->(hidT s₁.heap H).get? b=some o:=λe n=>gJ_ e n
  have noA:∀{b:Addr} {o:Obj} {es:Array DictEntry} {ep:Nat},s₁.heap.get? b=some o->o.data=.dict es ep->H b=none:=λ{b o es ep} e d=>by
   cases q:H b with
   |none=>rfl
   |some u=>
    have e':b=a:=hA b (by rw[q];simp);subst e';rw[ha] at e;cases e;have d':Data.seq vs.toArray _=Data.dict es ep:=d;cases d'
  have nsK:∀{b:Addr} {m:Str->Option Aa},s₁.heap.Ns b m->(hidT s₁.heap H).Ns b m:=λ{b m} ⟨o,es,ep,e,d,r⟩=>⟨o,es,ep,base_of e (noA e d),d,r⟩
  have hKb:K.In (hidT s₁.heap H):=λb o e=>base_of (KX b o e) (by
   cases q:H b with
   |none=>rfl
   |some u=>
    have e':b=a:=hA b (by rw[q];simp);subst e';rw[hK (by rw[q];simp)] at e;cases e)
  have hM:Mod K mg (hidT s₁.heap H):=⟨hKb,nsK hns,⟨mb,nsK hb,hbb⟩,let ⟨mc,h1,h2⟩:=hlim;⟨mc,nsK h1,h2⟩⟩;have e0:Env0 P w K mg (hidT s₁.heap H) callerA [] s₁ H:=⟨rfl,hM,λb o e=>hq_ e,Nat.le_of_eq (fz_ _ _),trivial,λb hb=>absurd (show b∈([]:List Addr) from hb) Z2,hok,.of_eq hg⟩;refine codeAny_mono ((F _ hKb (nsK hns)).run callerA [] s₁ H ⟨[.ref a],[]⟩ [.ref a] [.ref a] _ _ hr e0 (hbind s₁ (.ref a)) (.cons rfl .nil) (hsp H hO hS)) λr s' h=>?_;cases r with
  |error e=>exact (hCX H e s' h).elim
  |ok fl=>
   cases fl with
   |next=>exact False.elim h
   |brk=>exact False.elim h
   |cont=>exact False.elim h
   |ret u=>
    obtain⟨v,H',os,bare,un,hok',r',q⟩:=h;have q':v=.bl true:=q;subst q';obtain rfl:u=Value.bool true:=r';refine⟨rfl,OldK.of_keep λb o e=>?_,os,bare⟩;cases q:H b with
    |none=>exact un.keep b o e q (by intro z;exact absurd (show b∈([]:List Addr) from z) Z2) Z2
    |some u=>
     rcases hO b with z|⟨ob,xs,z⟩
     ·rw[q] at z;cases z
     ·have z2:=un.frzs b ob _ z;obtain⟨e1,_⟩:=hok b _ z;obtain⟨e2,_⟩:=hok' b _ z2;rw[e] at e1;cases e1;exact e2
 cases hk:K.lookup a with
 |some o=>
  have e:=KX a o hk;rw[ha] at e;cases e;refine core (λ_=>none) (λ_=>.inl rfl) (.inr ⟨_,vs.toArray,_,hk,rfl,rfl,rfl,by rw[ae',lenV];exact hl,by simpa using rv⟩) (λb u z=>by have z':(none:Option HO)=some u:=z;cases z') (λb z=>absurd rfl z) λz=>absurd rfl z
 |none=>
  refine core (λb=>if b=a then some (.frz { cls:=.type "list",data:=.seq vs.toArray } (.lst (ns.map V.int))) else none) (λb=>?_) (.inl (.inr ⟨{ cls:=.type "list",data:=.seq vs.toArray },a_9 rfl⟩)) (λb u z=>?_) (λb z=>?_) λ_=>hk
  ·by_cases hb:b=a
   ·exact .inr ⟨_,_,a_9 hb⟩
   ·exact .inl (a_6 hb)
  ·by_cases hb:b=a
   ·have z':=(a_9 hb).symm.trans z;cases z';subst hb;exact⟨ha,by rw[aa'];exact hl,vs,_,rv,ha⟩
   ·have z':=(a_6 hb).symm.trans z;cases z'
  ·by_cases hb:b=a
   ·exact hb
   ·exact absurd (a_6 hb) z
theorem walk_of{l:PySem.W.OpenLaw}{n:Nat}{q:Ad}{loose:List Str}{XP:(Str->Option Aa)->Heap->Prop}{YP:Af->Heap->Prop}{d:DefRec}{K:Params->F__}{CX:Af->CXT}{sp:Af->Sp}{x:Str}(hn:l.most=some n)(hn2:n<=sizeLine)(hdf:d.params.defaults=[])(hr:Room k callerA)(hY:∀(w:Af) (h:Heap),YP w h->(K w.params).In h)(F:∀(w:Af) (mg:Str->Option Aa) (fa:Addr) (h:Heap),(K w.params).In h->h.Ns mainGlobals mg->mg d.name=some (.ref fa)->
   ∃fd:Ae,(∀(s:Ab) (u:Aa),BindsTo s fd ⟨[u],[]⟩ [(x,u)]) /\
    ∀base:Heap,(K w.params).In base->base.Ns mainGlobals mg->FnOk l.prog w (K w.params) mg base (CX w) k fa fd [x] (sp w))(hsp:∀(w:Af) (H:Hp) (a:Addr) (ns:List Int),ns.length<=n->Only H->SqL (K w.params) H a (ns.map V.int)->sp w [.ref a] H (λv _=>v=.bl true) λ_ _ _=>False)(hCX:∀(w:Af) (H:Hp) (s:Ab) (e:Aa) (s':Ab),CX w [] H s (λ_ _ _=>False) e s'->False) :
  PySem.W.WalkO q loose XP YP l.row.toRowW d [] (λf vs=>PySem.call f vs):=by
 refine Att.attach_call hn hdf λw s₀ s₁ mg mb fa o pm cd doc a vs ns G Y ho hd hcd hmg hobj hints hlen hg=>?_;have KX:=hY w _ Y;obtain⟨fd,hb,hF⟩:=F w mg fa _ KX G.T.g hmg;exact gY_ KX G.T.g G.T.b G.T.builtins G.T.nolimit hg hobj hints (aQ' hlen hn2) hr hF hb (λH hO hS=>hsp w H a ns hlen hO hS) λH e s'=>hCX w H s₁ e s'
def aY'(s:Stmt)(j:Nat):Stmt:=match s with
 |.ClassDef _ _ _ body _ _ _ _ _ _ _=>body.getD j (.Pass ⟨0,0,0,0⟩)
 |_=>.Pass ⟨0,0,0,0⟩
def a6'(s:Stmt):Arguments:=match s with
 |.FunctionDef _ a _ _ _ _ _ _ _ _=>a
 |_=>{ posonlyargs:=[],args:=[],vararg:=none,kwonlyargs:=[],kw_defaults:=[],kwarg:=none,defaults:=[] }
def aZ'(s:Stmt):List Stmt:=match s with
 |.FunctionDef _ _ b _ _ _ _ _ _ _=>b
 |_=>[]
def aS'(s:Stmt):Scope:=match s with
 |.FunctionDef _ _ _ _ _ _ sc _ _ _=>sc
 |_=>{ kind:=.function,names:=[],isGenerator:=false,isCoroutine:=false }
abbrev CX0:CXT:=λ_ _ _ _ _ _=>False
abbrev E0:XK:=λ_ _ _=>False
variable{X:Cx}
theorem pass0:br' CX0 X E0:=λ_ _ _ _ _ _ _ h=>h.elim
structure Fun (K:F__) (x qual:Str) (st:Stmt) (f:Addr) (fd:Ae):Prop where
 ex:∃(oc:Aa) (od:Option Addr) (kV doc pm:Aa) (an:Option Addr) (cdv ct:Aa) (osl:Array (Option Aa)),
  fd=PySem.W.fnOf x qual (a6' st) (aZ' st) (aS' st) .none kV doc pm an cdv ct/\K.lookup f=some ⟨oc,od,.func fd,osl⟩/\PySem.W.codeIn K cdv qual=true
 kp:PySem.W.keepIn K (.ref f)=true
section
variable{P:Ad}{w:Af}{K:F__}{mg:Str->Option Aa}{base:Heap}
theorem Fun.ok{x qual:Str}{st:Stmt}{f:Addr}{N ps:List Str}(F:Fun K x qual st f fd)(S:aT' N ps (aS' st))(len:∀vs H Q E,sp vs H Q E->vs.length=ps.length)(hbody:∀(cdv:Aa) (A:Ag) (outer:List Env) (s:Ab) (H:Hp) (vs:List V) (Q:VK) (E:XK),Room k (A.deeper (envOfC qual (aS' st) s.heap.objs.size f cdv))->sp vs H Q E->
   ∃t,PSs (cxOf CX0 P w K mg base N qual (aS' st) f cdv A outer s H E).nox (aZ' st) t/\t { nx:=λ_ H'=>Q .non H',rt:=Q } (start N vs) H):FnOk P w K mg base CX0 (k+1) f fd ps sp:=by
 obtain⟨oc,od,kV,doc,pm,an,cdv,ct,osl,rfl,lk,hcd⟩:=F.ex;refine hS_ lk hcd S len λA outer s H vs Q E hr hsp=>?_;obtain⟨t,h,q⟩:=hbody cdv A outer s H vs Q E hr hsp;exact⟨t,h.nox,q⟩
theorem Fun.binds{x qual:Str}{st:Stmt}{f:Addr}{ps:List Str}(F:Fun K x qual st f fd)(h:∀(kV doc pm:Aa) (an:Option Addr) (cdv ct:Aa) (us:List Aa),us.length=ps.length->bindArgs (PySem.W.fnOf x qual (a6' st) (aZ' st) (aS' st) .none kV doc pm an cdv ct) ⟨us,[]⟩=pure (ps.zip us)):bn' K fd ps []:=by
 obtain⟨oc,od,kV,doc,pm,an,cdv,ct,osl,rfl,lk,hcd⟩:=F.ex;exact .all (h kV doc pm an cdv ct)
theorem f3_{x qual:Str}{st:Stmt}{f:Addr}{oc:Aa}{od an:Option Addr}{osl:Array (Option Aa)}{kV doc pm cdv ct:Aa}(l:K.lookup f=some ⟨oc,od,.func (PySem.W.fnOf x qual (a6' st) (aZ' st) (aS' st) .none kV doc pm an cdv ct),osl⟩)
  (c:PySem.W.codeIn K cdv qual=true) (k:PySem.W.keepIn K (.ref f)=true):Fun K x qual st f (PySem.W.fnOf x qual (a6' st) (aZ' st) (aS' st) .none kV doc pm an cdv ct):=⟨⟨oc,od,kV,doc,pm,an,cdv,ct,osl,rfl,l,c⟩,k⟩
end
theorem bi_{A:Ag}(hr:Room k A):A.units+1<cLine:=Nat.lt_of_le_of_lt (Nat.add_le_add_left (by decide:1<=64) _) hr.units
variable{pos:Pos}
theorem pv(i:Nat){x:Str}(hN:X.N[i]? = some x:=by rfl)(hv:Vis X.env.scope x:=by first|exact Or.inl rfl|exact Or.inr (Or.inl rfl)|exact Or.inr (Or.inr rfl))(hd:(x == ("__debug__":Str))=false:=by decide)(hcd:(x == ("__classdict__":Str))=false:=by decide):PE X (.Name x pos) (tVar i):=is_ hN hv hd hcd
inductive b1' (xs:List V) (H:Hp) (Q:VK):Prop
 |mk:∀a kvs,xs=[V.ref a]->H a=some (.dK kvs)->Q (.int kvs.length) H->b1' xs H Q
theorem ci_:bd' X (.builtin "len") b1':=by
 intro pins s σ H xs us Q I r h;obtain⟨a,kvs,rfl,ha,q⟩:=h;obtain⟨u,rfl,ru⟩:=vals1 r;cases ru;exact iJ_ I (.inl ha) λt s' I'=>⟨.int kvs.length,H,I',⟨t,rfl⟩,q⟩
variable{A B:Prop}
theorem iteF(h:B):if false=true then A else B:=by
 rw[a_6 ao'];exact h
theorem iteT(h:A):if true=true then A else B:=by
 rw[a_9 rfl];exact h
variable{c:Prop}
theorem ite2[Decidable c](h1:c->A)(h2:¬c->B):if c then A else B:=by
 by_cases h:c
 ·rw[a_9 h];exact h1 h
 ·rw[a_6 h];exact h2 h
theorem iteNS[Decidable c](hc:c)(h:B):if (!decide c)=true then A else B:=by
 rw[a_2 hc];exact iteF h
def Same(H H':Hp):Prop:=∀b o,H b=some o->H' b=some o
theorem Same.refl(H:Hp):Same H H:=λ_ _ h=>h
variable{H1:Hp}
theorem Same.trans{H H2:Hp}(a:Same H H1)(b:Same H1 H2):Same H H2:=λc o h=>b c o (a c o h)
theorem Same.free{H H':Hp}(e:Same H H'){l:Addr}(h:H' l=Option.none):H l=Option.none:=by
 cases q:H l with
 |none=>rfl
 |some o=>
  rw[e l o q] at h;cases h
section
variable{κ:Type}[DecidableEq κ]
theorem hB_{kvs:List (κ × V)}{k:κ}{v:V}(h:valV kvs k=some v):k∈kvs.map (·.1):=by
 have q:(kvs.any λkv=>decide (kv.1=k))=true:=by
  rw[bH_,h]
  all_goals rfl
 obtain⟨p,hp,e⟩:=List.any_eq_true.mp q;exact af'.mpr ⟨p,hp,of_decide_eq_true e⟩
theorem eX_:∀{l:List κ} {k:κ},l.Nodup->¬k∈l->(l++[k]).Nodup
 |[],k,_,_=>by simp
 |a::r,k,h,hk=>by
  obtain⟨h1,h2⟩:=aG'.mp h;show (a::(r++[k])).Nodup;refine aG'.mpr ⟨λm=>?_,eX_ h2 λm=>hk (aj'.mpr (Or.inr m))⟩;rcases ay'.mp m with q|q
  ·exact h1 q
  ·exact hk (aj'.mpr (Or.inl (aN'.mp q).symm))
end
def a7'(env:Env):List (Str × NameKind)->List (Str × Addr)->List (Str × Addr)
 |[],cs=>cs
 |(n,k)::r,cs=>a7' env r (if k == .free then (n,(env.cells.lookup n).getD 0)::cs else cs)
theorem bb_{env:Env}(f:Str × NameKind->List (Str × Addr)->Sem (ForInStep (List (Str × Addr))))
  (hf:∀n k cs,f (n,k) cs=if (k == .free)=true then (do let a <- cellOf env n;pure (.yield ((n,a)::cs))) else pure (.yield cs)) :
  ∀(names:List (Str × NameKind)) (cs:List (Str × Addr)),(∀x∈names,x.2=.free->∃c,env.cells.lookup x.1=some c)->forIn names cs f=(pure (a7' env names cs):Sem _)
 |[],cs,_=>by rw[List.forIn_nil];rfl
 |(n,k)::r,cs,h=>by
  rw[List.forIn_cons,hf];have hr:∀x∈r,x.2=.free->∃c,env.cells.lookup x.1=some c:=λx hx=>h x (ag' _ hx);unfold a7';by_cases hk:(k == NameKind.free)=true
  ·obtain⟨c,hc⟩:=h (n,k) an' (by simpa using hk);have hc:env.cells.lookup n=some c:=hc;rw[a_9 hk,a_9 hk];have e:cellOf env n=pure c:=by unfold cellOf;rw[hc]
   rw[e];simp only[pure_bind];rw[bb_ f hf r _ hr,hc];rfl
  ·rw[a_6 hk,a_6 hk];simp only[pure_bind];exact bb_ f hf r _ hr
variable{scope:Scope}{env:Env}
theorem bE_(h:∀x∈scope.names,x.2=.free->∃c,env.cells.lookup x.1=some c):closureFor scope env=pure (a7' env scope.names []):=by
 simp only[closureFor];rw[bb_ (env:=env) _ (λn k cs=>by by_cases hk:(k == NameKind.free)=true<;>simp[hk]) scope.names [] h]
 simp only[pure_bind]
theorem cD_{env:Env}:∀{names:List (Str × NameKind)} {cs:List (Str × Addr)} {x:Str} {c:Addr},(x,c)∈a7' env names cs->(x,c)∈cs∨((x,NameKind.free)∈names/\c=(env.cells.lookup x).getD 0)
 |[],cs,x,c,h=>.inl h
 |(n,k)::r,cs,x,c,h=>by
  unfold a7' at h;rcases cD_ h with h|⟨h,e⟩
  ·by_cases hk:(k == NameKind.free)=true
   ·rw[a_9 hk] at h;rcases aj'.mp h with q|q
    ·cases q;have:k=.free:=by simpa using hk
     subst this;exact .inr ⟨an',rfl⟩
    ·exact .inl q
   ·rw[a_6 hk] at h;exact .inl h
  ·exact .inr ⟨ag' _ h,e⟩
theorem bN_{env:Env}:∀{names:List (Str × NameKind)} {cs:List (Str × Addr)} {x:Str},(x,NameKind.free)∈names∨(∃c,(x,c)∈cs)->∃c,(x,c)∈a7' env names cs
 |[],cs,x,h=>by
  rcases h with h|h
  ·cases h
  ·exact h
 |(n,k)::r,cs,x,h=>by
  unfold a7';refine bN_ ?_;rcases h with h|⟨c,h⟩
  ·rcases aj'.mp h with e|h
   ·cases e;exact .inr ⟨(env.cells.lookup n).getD 0,by rw[a_9 (by decide)];exact an'⟩
   ·exact .inl h
  ·refine .inr ⟨c,?_⟩;split
   ·exact ag' _ h
   ·exact h
theorem b8_:∀(names:List (Str × NameKind)) (n:Nat) (acc cl:List (Str × Addr)),cellsFrom n names (acc++cl)=cellsFrom n names acc++cl
 |[],_,_,_=>rfl
 |(x,k)::r,n,acc,cl=>by
  unfold cellsFrom;split
  ·exact b8_ r (n+1) ((x,n)::acc) cl
  ·exact b8_ r n acc cl
theorem ba_:∀{names:List (Str × NameKind)} {n:Nat} {acc:List (Str × Addr)} {x:Str} {c:Addr},(x,c)∈cellsFrom n names acc->(x,c)∈acc∨(x,NameKind.cell)∈names
 |[],_,_,_,_,h=>.inl h
 |(y,k)::r,n,acc,x,c,h=>by
  unfold cellsFrom at h;by_cases hk:(k == NameKind.cell)=true
  ·rw[a_9 hk] at h;rcases ba_ h with h|h
   ·rcases aj'.mp h with e|h
    ·cases e;have:k=.cell:=by simpa using hk
     subst this;exact .inr an'
    ·exact .inl h
   ·exact .inr (ag' _ h)
  ·rw[a_6 hk] at h;rcases ba_ h with h|h
   ·exact .inl h
   ·exact .inr (ag' _ h)
theorem bh_{α:Type}:∀{l:List (Str × α)} {x:Str} {c:α},(x,c)∈l->∃c',l.lookup x=some c'
 |(k,v)::r,x,c,h=>by
  rw[aJ'];cases hb:x == k with
  |true=>exact⟨v,rfl⟩
  |false=>
   rcases aj'.mp h with e|h
   ·cases e;simp at hb
   ·exact bh_ h
def cpEnv(scope:Scope)(C:Addr)(env:Env):Env:=
 { scope:=relabel scope env,locals:=C,globals:=env.globals,cells:=cellsFrom (C+1) scope.names (a7' env scope.names []),qual:=env.qual,func:=none,code:=env.code,frame:=env.frame,builtins:=env.builtins }
theorem c7_{M:Model}{A:Ag}{E:Aa->Ab->Prop}{s:Ab}{cl:List (Str × Addr)}{Q:Env->Ab->Prop}(h:Q { scope:=scope,locals:=s.heap.objs.size,globals:=env.globals,cells:=cellsFrom (s.heap.objs.size+1) scope.names cl,qual:=env.qual,func:=none,code:=env.code,frame:=env.frame,builtins:=env.builtins }
   { s with heap:=pushCells (s.heap.push { cls:=.type "dict",data:=.dict #[] }) scope.names }) :
  wpAny M A (newFunctionEnv scope env.globals cl [] env.qual none .none (some env)) Q E s:=by
 simp only[newFunctionEnv,Option.isSome_some,if_true];refine a__ (wpAny_alloc ?_);refine a__ (wpAny_layCells _ (λname kind cells=>by cases hkc:kind == NameKind.cell<;>simp[hkc]) _ _ _ _ ?_)
 rw[show ({ s with heap:=s.heap.push { cls:=.type "dict",data:=.dict #[] } }:Ab).heap.objs.size=s.heap.objs.size+1 from Heap.size_push ..];rw[List.forIn_nil];exact a__ (a_1 (a_1 h))
def b6'(PN:List Str)(ps:Scope)(N:List Str)(own:Nat)(fr:List Nat)(scope:Scope):Bool:=
 decide (scope.kind=.function)&&decide N.Nodup&&decide (own+fr.length=N.length)
 && (scope.names.all λy=>decide (scope.names.lookup y.1=some y.2))
 && (scope.names.all λy=>if y.2=.free then decide (ps.names.lookup y.1=some .cell) || decide (ps.names.lookup y.1=some .free) else true)
 && ((fr.map λj=>PN[j]?) == (N.drop own).map some)
 && ((N.drop own).all λx=>decide (scope.names.lookup x=some .free))
structure CpOk (PN:List Str) (ps:Scope) (N:List Str) (own:Nat) (fr:List Nat) (scope:Scope):Prop where
 kind:scope.kind=.function
 nd:N.Nodup
 len:own+fr.length=N.length
 look:∀y∈scope.names,scope.names.lookup y.1=some y.2
 par:∀y∈scope.names,y.2=.free->ps.names.lookup y.1=some .cell∨ps.names.lookup y.1=some .free
 frs:(fr.map λj=>PN[j]?)=(N.drop own).map some
 frk:∀x∈N.drop own,scope.names.lookup x=some .free
variable{N:List Str}{own:Nat}
theorem CpOk.of{PN:List Str}{ps:Scope}{fr:List Nat}(h:b6' PN ps N own fr scope=true):CpOk PN ps N own fr scope:=by
 unfold b6' at h;simp only[Bool.and_eq_true,decide_eq_true_eq,List.all_eq_true,beq_iff_eq] at h;obtain⟨⟨⟨⟨⟨⟨h1,h2⟩,h3⟩,h4⟩,h5⟩,h6⟩,h7⟩:=h;refine⟨h1,h2,h3,h4,λy hy e=>?_,h6,h7⟩;have q:=h5 y hy;rw[a_9 e] at q;simpa using q
def bt'(own:Nat)(fr:List Nat)(σ:St):St:=List.replicate own none++fr.map λj=>(σ[j]?).join
def a2'(X:Cx)(N:List Str)(scope:Scope)(fp:List Addr)(s:Ab)(H:Hp):Cx where
 prog:=X.prog
 w:=X.w
 K:=X.K
 mg:=X.mg
 base:=X.base
 A:=X.A
 N:=N
 s₀:=s
 H₀:=H
 env:=cpEnv scope s.heap.objs.size X.env
 outer:=X.stack
 stack:=X.stack
 ex:=fp
 fn:=λx=>decide (scope.names.lookup x=some .local) || decide (scope.names.lookup x=some .cell)
 calm:=X.calm
 pn:=[]
 xe:=λ_ _=>False
theorem c0_{ps:Scope}{env:Env}(he:env.scope=ps){x:Str}:∀{names:List (Str × NameKind)} {k:NameKind},names.lookup x=some k->
  (names.map λ(n,k)=>if (k == NameKind.free&&env.scope.kind == .function&&env.kindOf n == some .cell) then (n,NameKind.cell) else (n,k)).lookup x =
   some (if (k == NameKind.free&&env.scope.kind == .function&&env.kindOf x == some .cell) then .cell else k)
 |(n,k')::r,k,h=>by
  rw[aJ'] at h;rw[au'];cases hb:x == n with
  |true=>
   rw[hb] at h;cases h;have e:x=n:=by simpa using hb
   subst e;dsimp only;split<;>simp[aJ']
  |false=>
   rw[hb] at h;have ih:=c0_ he (env:=env) h;dsimp only;split<;>(rw[aJ',hb];exact ih)
theorem bU_{env:Env}{x:Str}:∀{names:List (Str × NameKind)} {k:NameKind},(names.map λ(n,k)=>if (k == NameKind.free&&env.scope.kind == .function&&env.kindOf n == some .cell) then (n,NameKind.cell) else (n,k)).lookup x=some k->∃k',names.lookup x=some k'/\(k'=k∨(k'=.free/\k=.cell))
 |(n,k')::r,k,h=>by
  rw[au'] at h;rw[aJ'];dsimp only at h;cases hb:x == n with
  |true=>
   refine⟨k',rfl,?_⟩;by_cases hc:(k' == NameKind.free&&env.scope.kind == .function&&env.kindOf n == some .cell)=true
   ·rw[a_9 hc,aJ',hb] at h;cases h;simp only[Bool.and_eq_true,beq_iff_eq] at hc;exact .inr ⟨hc.1.1,rfl⟩
   ·rw[a_6 hc,aJ',hb] at h;cases h;exact .inl rfl
  |false=>
   have h':(r.map λ(n,k)=>if (k == NameKind.free&&env.scope.kind == .function&&env.kindOf n == some .cell) then (n,NameKind.cell) else (n,k)).lookup x=some k:=by
    split at h<;>(rw[aJ',hb] at h;exact h)
   exact bU_ h'
theorem cV_{α:Type}{x:Str}{c:α}:∀{l r:List (Str × α)},(l++r).lookup x=some c->(x,c)∈l∨(x,c)∈r:=λh=>ay'.mp (b_6 h)
section
variable{X:Cx}{pins:List (Addr × Obj)}{σ:St}{H:Hp}{s:Ab}{N:List Str}{own:Nat}{fr:List Nat}{scope:Scope}{fp:List Addr}
theorem cV'(I:Inv X pins σ H s)(S:CpOk X.N X.env.scope N own fr scope){x:Str}{c:Addr}(h:(x,c)∈a7' X.env scope.names []):X.env.cells.lookup x=some c/\(x,NameKind.free)∈scope.names:=by
 rcases cD_ h with h|⟨h,e⟩
 ·cases h
 ·obtain⟨c',hc⟩:=I.ok.has x (S.par _ h rfl);refine⟨?_,h⟩;rw[e,hc];rfl
theorem Inv.block(I:Inv X pins σ H s)(S:CpOk X.N X.env.scope N own fr scope)(hfp:∀b∈fp,FpOk X pins H b)(hfo:∀b∈fp,∃o,s.heap.get? b=some o) :
  Inv (a2' X N scope fp s H) [] (bt' own fr σ) H { s with heap:=pushCells (s.heap.push { cls:=.type "dict",data:=.dict #[] }) scope.names }:=by
 have kept:∀b o,s.heap.get? b=some o->(pushCells (s.heap.push { cls:=.type "dict",data:=.dict #[] }) scope.names).get? b=some o:=λb o e=>pushCells_keeps _ _ b o (a_0 _ e);have cok:=cellsFrom_ok scope.names (s.heap.push { cls:=.type "dict",data:=.dict #[] }) (s.heap.objs.size+1) [] ⟨λ_ _ hm=>(nomatch hm),List.Pairwise.nil⟩ (by rw[Heap.size_push];exact ad' _);rw[Heap.size_push] at cok;have ecs:cellsFrom (s.heap.objs.size+1) scope.names (a7' X.env scope.names [])=cellsFrom (s.heap.objs.size+1) scope.names []++a7' X.env scope.names []:=b8_ _ _ [] _
 have lookC:∀{x c},(cellsFrom (s.heap.objs.size+1) scope.names (a7' X.env scope.names [])).lookup x=some c->((x,c)∈cellsFrom (s.heap.objs.size+1) scope.names []/\(x,NameKind.cell)∈scope.names/\s.heap.objs.size+1<=c)∨(X.env.cells.lookup x=some c/\(x,NameKind.free)∈scope.names):=λ{x c} h=>by
  rw[ecs] at h;rcases cV_ h with h|h
  ·refine .inl ⟨h,?_,(cok.empty _ _ h).2⟩;rcases ba_ h with q|q
   ·cases q
   ·exact q
  ·exact .inr (cV' I S h)
 have oldC:∀{x c},X.env.cells.lookup x=some c->c<s.heap.objs.size:=λ{x c} h=>by
  obtain⟨v,hv⟩:=I.cell x c h;exact hv.lt
 have hb:∀b∈fp,b<s.heap.objs.size:=λb hb=>let ⟨o,e⟩:=hfo b hb;a_3 e
 refine⟨⟨I.ok.mod,S.kind,I.ok.glob,I.ok.blt,ad' _,λx y c h1 h2=>?_,λx hx=>?_,λx c hf h=>?_,I.ok.hd,I.ok.frames,.inl rfl,λb hb'=>⟨aw' (hb b hb'),λx c h=>?_⟩,I.bs,?_,λb o e hb'=>?_,λb hb' hs=>?_,I.stack,I.stkFree⟩,
  rfl,I.bare,Un.kept kept,⟨_,(Heap.Ns.new s.heap (.type "dict")).keeps (pushCells_keeps _ _),λi x v h1 h2 h3=>?_⟩,λx c h=>?_,I.hok.fresh (ad' _),λx c h=>?_,λp hp=>absurd (show p∈([]:List (Addr × Obj)) from hp) Z2,I.hok.kept kept,?_⟩
 ·-- inj
  rcases lookC h1 with⟨m1,k1,l1⟩|⟨m1,k1⟩<;>rcases lookC h2 with⟨m2,k2,l2⟩|⟨m2,k2⟩
  ·exact name_of_addr cok.apart m1 m2
  ·exact absurd (oldC m2) (Nat.not_lt.mpr (Nat.le_of_succ_le l1))
  ·exact absurd (oldC m1) (Nat.not_lt.mpr (Nat.le_of_succ_le l2))
  ·exact I.ok.inj x y c m1 m2
 ·-- has
  have key:(x,NameKind.cell)∈scope.names∨(x,NameKind.free)∈scope.names:=by
   rcases hx with hx|hx
   ·obtain⟨k',e,q⟩:=bU_ (env:=X.env) (show _=some NameKind.cell from hx);have m:=b_6 e;rcases q with q|⟨q,_⟩
    ·exact .inl (q▸m)
    ·exact .inr (q▸m)
   ·obtain⟨k',e,q⟩:=bU_ (env:=X.env) (show _=some NameKind.free from hx);have m:=b_6 e;rcases q with q|⟨_,q⟩
    ·exact .inr (q▸m)
    ·cases q
  show ∃c,(cellsFrom (s.heap.objs.size+1) scope.names (a7' X.env scope.names [])).lookup x=some c
  have:((cellsFrom (s.heap.objs.size+1) scope.names (a7' X.env scope.names [])).lookup x).isSome=true:=by
   refine PySem.W.cellsFrom_some _ _ _ ?_;rcases key with q|q
   ·exact .inl (S.look _ q)
   ·obtain⟨c,m⟩:=bN_ (env:=X.env) (names:=scope.names) (cs:=[]) (x:=x) (.inl q);obtain⟨c',e⟩:=bh_ m;exact .inr (by rw[e];rfl)
  exact Option.isSome_iff_exists.mp this
 ·-- cab
  rcases lookC h with⟨_,_,l⟩|⟨_,k⟩
  ·exact Nat.le_of_succ_le l
  ·have e:=S.look _ k;have hf:(decide (scope.names.lookup x=some .local) || decide (scope.names.lookup x=some .cell))=true:=hf;rw[show scope.names.lookup x=some .free from e] at hf;exact absurd hf (by decide)
 ·rcases lookC h with⟨_,_,l⟩|⟨q,_⟩
  ·exact aR' (av' (hb b hb') (Nat.le_of_succ_le l))
  ·exact (hfp b hb').2.2.2.2.1 x c q
 ·exact aQ' I.ok.bsz I.sz
 ·rcases (hfp b hb').2.2.2.1 with q|q
  ·exact I.ok.noex b o e q
  ·exact absurd (av' (a_3 e) I.ok.bsz) Z1
 ·rcases aj'.mp (I.stkSub b hs) with q|q
  ·exact (hfp b hb').2.1 q
  ·exact (hfp b hb').2.2.1 q
 ·-- names
  have hi:own<=i:=by
   refine Nat.le_of_not_lt λhlt=>?_;unfold bt' at h2;rw[List.getElem?_append_left (by rw[aM'];exact hlt),List.getElem?_replicate,a_9 hlt] at h2;cases h2
  have h2':(fr.map λj=>(σ[j]?).join)[i - own]? = some (some v):=by
   unfold bt' at h2;rw[List.getElem?_append_right (by rw[aM'];exact hi),aM'] at h2;exact h2
  have h1:N[i]? = some x:=h1;have hx:(N.drop own)[i - own]? = some x:=by rw[List.getElem?_drop,show own+(i - own)=i by omega];exact h1
  rw[am'] at h2';cases ej:fr[i - own]? with
  |none=>rw[ej] at h2';cases h2'
  |some j=>
   rw[ej] at h2';have h2':(σ[j]?).join=some v:=a_8 h2'
   have hσ:σ[j]? = some (some v):=by
    cases q:σ[j]? with
    |none=>rw[q] at h2';cases h2'
    |some o=>rw[q] at h2';exact b_7 some h2'
   have hN:X.N[j]? = some x:=by
    have q:=b_7 (λl=>l[i - own]?) S.frs;simp only[am',ej,hx,Option.map_some] at q;exact a_8 q
   have kf:=S.frk x (ai' hx);have mf:=b_6 kf;obtain⟨m,hm,hv⟩:=I.loc;have pk:=S.par _ mf rfl;obtain⟨u,ru,lk⟩:=hv j x v hN hσ (pk.elim (λq=>.inr (.inl q)) λq=>.inr (.inr q));refine⟨u,ru,?_⟩;have pk':X.env.kindOf x=some .cell∨X.env.kindOf x=some .free:=pk;rcases lk with⟨k,_⟩|⟨_,c,hc,hcell⟩
   ·rw[k] at pk';rcases pk' with q|q<;>cases q
   ·obtain⟨c',m1⟩:=bN_ (env:=X.env) (names:=scope.names) (cs:=[]) (x:=x) (.inl mf);have e1:=(cV' I S m1).1;rw[hc] at e1;cases e1;refine .inr ⟨?_,c,?_,hcell.keeps kept⟩
    ·have q:=c0_ (env:=X.env) rfl kf;show (relabel scope X.env).names.lookup x=some .cell∨(relabel scope X.env).names.lookup x=some .free;unfold relabel;rw[q];split
     ·exact .inl rfl
     ·exact .inr rfl
    ·obtain⟨c2,e2⟩:=Option.isSome_iff_exists.mp (PySem.W.cellsFrom_some (x:=x) scope.names (s.heap.objs.size+1) (a7' X.env scope.names []) (.inr (by obtain⟨c',e⟩:=bh_ m1;rw[e];rfl)));show (cellsFrom (s.heap.objs.size+1) scope.names (a7' X.env scope.names [])).lookup x=some c;rcases lookC e2 with⟨_,q,_⟩|⟨q,_⟩
     ·have:=S.look _ q;rw[show scope.names.lookup x=some .free from kf] at this;cases this
     ·rw[hc] at q;cases q;exact e2
 ·-- cells
  rcases lookC h with⟨q,_,_⟩|⟨q,_⟩
  ·exact⟨_,(cok.empty _ _ q).1⟩
  ·obtain⟨v,hv⟩:=I.cell x c q;exact⟨v,hv.keeps kept⟩
 ·rcases lookC h with⟨q,_,l⟩|⟨q,_⟩
  ·exact I.hok.fresh Z1
  ·exact I.freeC x c q
 ·show (bt' own fr σ).length=N.length;unfold bt';rw[ar',aM',aa'];exact S.len
end
def PTs(X:Cx)(ifs:List Expr)(t:TT):Prop:=
 ∀(pins:List (Addr × Obj)) (s:Ab) (σ:St) (H:Hp) (Q:Bool->Hp->Prop),Inv X pins σ H s->t σ H Q->
  wpAny (model X.prog X.w) X.A (forIn ifs true λc r=>if r=true then do let ok <- isTrue c X.env (eval c X.env);pure (ForInStep.yield ok) else pure (ForInStep.yield r)) (TP X pins σ Q) X.xe s
def tYes:TT:=λ_ H Q=>Q true H
variable{σ:St}
theorem yesT{H:Hp}{A B:Hp->Prop}(h:A H):tYes σ H λb H4=>if b=true then A H4 else B H4:=by
 unfold tYes;exact iteT h
theorem aV_:PTs X [] tYes:=λ_ _ _ H _ I h=>wpAny_tests_nil ⟨H,I,h⟩
theorem hV_{c:Expr}{t:TT}(h:PT X c t):PTs X [c] t:=λpins s σ H Q I q=>wpAny_tests_one (h pins s σ H Q I q)
def c4'(J:It)(g:TG)(tc:TT)(te:TE)(σ0:St)(D:Addr)(H1:Hp)(Q:VK):Prop:=∃W:Nat->Nat->St->Hp->Prop,
 (∃m,W 0 m σ0 (upd H1 D (.lst [])))/\∀i m σ' H',W i m σ' H'->(J.stop i H'/\Q (.ref D) H') ∨
  (J.go i H'/\∃Nx:St->Hp->Prop,(∀σ2 H2,Nx σ2 H2->∃m',m'<m/\W (i+1) m' σ2 H2) /\
   ∀x H2,J.yld i H' x H2->g x σ' H2 λσ3 H3=>tc σ3 H3 λb H4=>if b=true then te σ3 H4 λy H5=>∃out,H5 D=some (.lst out)/\out.length<sizeLine/\Nx σ3 (upd H5 D (.lst (out++[y]))) else Nx σ3 H4)
def tComp(wi:TI)(own:Nat)(fr:List Nat)(g:TG)(tc:TT)(te:TE):TE:=λσ H Q=>wi σ H λJ H1=>∀D,H1 D=none->c4' J g tc te (bt' own fr σ) D H1 Q
variable{Q:VK}{J:It}{D:Addr}{elt iter tg:Expr}{ifs:List Expr}{g:TG}{tc:TT}{te:TE}
theorem eQ_{R:Result->Ab->Prop}{fr:List Nat}{pins:List (Addr × Obj)}{s2:Ab}{it:Addr}{fp:List Addr}{tn:Nat->Heap->Prop}(S:CpOk X.N X.env.scope N own fr scope)(hc:X.calm=true)(hg:∀fp s H,PG (a2' X N scope fp s H) tg g)(ht:∀fp s H,PTs (a2' X N scope fp s H) ifs tc)(he:∀fp s H,PE (a2' X N scope fp s H) elt te)(I3:Inv X pins σ (upd H1 D (.lst [])) s2)(T:Turn X.prog X.w X.K tg J fp it tn)(st:tn 0 s2.heap)(f2:∀b∈fp,FpOk X pins (upd H1 D (.lst [])) b)(k:c4' J g tc te (bt' own fr σ) D H1 Q)(hR:∀H' s',Inv X pins σ H' s'->(∃m,s'.heap.Ns s2.heap.objs.size m)->H' s2.heap.objs.size=none->Q (.ref D) H'->R (.ok .next) s') :
  codeAny (model X.prog X.w) X.A (.compStart (.ListComp elt [⟨tg,iter,ifs,0⟩] scope pos) 0 (.ref it) (.ref D) (cpEnv scope s2.heap.objs.size X.env)) R
   { s2 with heap:=pushCells (s2.heap.push { cls:=.type "dict",data:=.dict #[] }) scope.names }:=by
 obtain⟨W,⟨m0,w0⟩,turn⟩:=k;have I4:=I3.block (N:=N) S f2 (λb hb=>let ⟨o,e,_⟩:=T.obj _ _ st b hb;⟨o,e⟩);have kept:∀b o,s2.heap.get? b=some o->(pushCells (s2.heap.push { cls:=.type "dict",data:=.dict #[] }) scope.names).get? b=some o:=λb o e=>pushCells_keeps _ _ b o (a_0 _ e);have st4:tn 0 (pushCells (s2.heap.push { cls:=.type "dict",data:=.dict #[] }) scope.names):=T.keep _ _ _ st λb hb o e=>kept b o e
 have fx:∀{H':Hp},(∀b∈fp,H' b=none)->∀b∈fp,FpOk (a2' X N scope fp s2 (upd H1 D (.lst []))) [] H' b:=λhn b hb=>
  ⟨hn b hb,(I4.ok.exf b hb).1,I4.ok.exfs b hb,.inl hb,(I4.ok.exf b hb).2,λp hp=>absurd (show p∈([]:List (Addr × Obj)) from hp) Z2⟩
 have loop:codeAny (model X.prog X.w) X.A (.compLoop (.ListComp elt [⟨tg,iter,ifs,0⟩] scope pos) 0 (.ref it) (.ref D) (cpEnv scope s2.heap.objs.size X.env)) R
   { s2 with heap:=pushCells (s2.heap.push { cls:=.type "dict",data:=.dict #[] }) scope.names }:=by
  refine codeAny_loop rfl (λn s'=>∃i σ' H',Inv (a2' X N scope fp s2 (upd H1 D (.lst []))) [] σ' H' s'/\tn i s'.heap/\(∀b∈fp,H' b=none)/\W i n σ' H') (λn s' hI=>?_) m0 ⟨0,_,_,I4,st4,λb hb=>(f2 b hb).1,w0⟩;obtain⟨i,σ',H',I5,st5,fr5,w5⟩:=hI;show wpAny _ X.A ((compTurn (.ListComp elt [⟨tg,iter,ifs,0⟩] scope pos) 0 (.ref it) (.ref D) (cpEnv scope s2.heap.objs.size X.env)).onRaise (λx=>do noteFrame x (cpEnv scope s2.heap.objs.size X.env);theTreesLotGoes x)) _ _ s';refine wpAny_noted (wpAny_mono (E:=λ_ _=>False) ?_ (λ_ _ q=>q) λ_ _ q=>q.elim);rw[compTurn_list];refine a__ (wpAny_standAt (a__ ?_));rcases turn i n σ' H' w5 with⟨stop,q⟩|⟨go,Nx,hN,step⟩
  ·refine thn (T.done (a2' X N scope fp s2 (upd H1 D (.lst []))) rfl rfl rfl hc i [] s' σ' H' _ I5 (fx fr5) st5 stop) λr s6 ⟨hr,I6⟩=>?_;subst hr;refine a_1 (hR H' s6 (I3.call' I6.os I6.base I6.hok I6.bare λb hb=>?_) ?_ I6.free q)
   ·exact⟨(f2 b hb).2.2.2.1,(f2 b hb).2.1,(f2 b hb).2.2.2.2.1,(f2 b hb).2.2.2.2.2⟩
   ·obtain⟨m,hm,_⟩:=I6.loc;exact⟨m,hm⟩
  ·refine thn (T.item (a2' X N scope fp s2 (upd H1 D (.lst []))) rfl rfl rfl hc i [] s' σ' H' _ I5 (fx fr5) st5 go) λr s6 ⟨u,hr,h6⟩=>?_;subst hr;refine a__ (thn h6 λ_ s7 ⟨x,H7,I7,r7,y7,st7,fr7⟩=>?_);have I7':=I7.pinned (fx fr7) (T.obj _ _ st7)
   have back:∀{σ8:St} {H8:Hp} {s8:Ab},Inv (a2' X N scope fp s2 (upd H1 D (.lst []))) ([]++cv' fp s7.heap) σ8 H8 s8->Nx σ8 H8->∃m,m<n/\∃i σ' H',Inv (a2' X N scope fp s2 (upd H1 D (.lst []))) [] σ' H' s8/\tn i s8.heap/\(∀b∈fp,H' b=none)/\W i m σ' H':=λ{σ8 H8 s8} I8 n8=>by
    obtain⟨m',hm,w8⟩:=hN σ8 H8 n8;refine⟨m',hm,i+1,σ8,H8,I8.unpinned,T.keep _ _ _ st7 λb hb o e=>(I8.pin (b,o) (ap' _ (ap' _ (bt_ hb e)))).1,λb hb=>?_,w8⟩;obtain⟨o,e,d⟩:=T.obj _ _ st7 b hb;exact (I8.pin (b,o) (ap' _ (ap' _ (bt_ hb e)))).2.1
   refine a__ (thn (hg fp s2 (upd H1 D (.lst [])) _ s7 σ' H7 x u _ I7' r7 (step x H7 y7)) λ_ s8 ⟨σ8,H8,I8,q8⟩=>?_);refine a__ (thn (ht fp s2 (upd H1 D (.lst [])) _ s8 σ8 H8 _ I8 q8) λb s9 ⟨H9,I9,q9⟩=>?_);cases b with
   |false=>
    simp only[Bool.false_eq_true,if_false] at q9 ⊢;exact a_1 ⟨rfl,back I9 q9⟩
   |true=>
    simp only[if_true] at q9 ⊢;refine a__ (a__ (thn (he fp s2 (upd H1 D (.lst [])) _ s9 σ8 H9 _ I9 q9) λy s10 ⟨yv,H10,I10,r10,out,hD,hz,q10⟩=>?_));refine a__ (thn (b4_ (X:=a2' X N scope fp s2 (upd H1 D (.lst []))) _ s10 σ8 H10 (.ref D) [yv] (.ref D) [y] (λ_ H'=>Nx σ8 H') I10 rfl (.cons r10 .nil) ⟨D,out,yv,rfl,rfl,hD,hz,q10⟩) λ_ s11 ⟨_,H11,I11,_,q11⟩=>?_);exact a_1 (a_1 ⟨rfl,back I11 q11⟩)
 exact codeAny_compStart_list loop (T.self _ 0 _ _ _ st4 loop)
variable{wi:TI}
theorem aT_(N:List Str)(own:Nat)(fr:List Nat)(hi:PI X tg iter wi)(hg:∀fp s H,PG (a2' X N scope fp s H) tg g)(ht:∀fp s H,PTs (a2' X N scope fp s H) ifs tc)(he:∀fp s H,PE (a2' X N scope fp s H) elt te)
  (S:b6' X.N X.env.scope N own fr scope=true:=by kernel_rfl) (hc:X.calm=true:=by rfl) (hs:∀x,foldedSetIterable iter X.env x=pure x:=by intro _;rfl) :
  PE X (.ListComp elt [⟨tg,iter,ifs,0⟩] scope pos) (tComp wi own fr g tc te):=by
 intro pins s σ H Q I h;have S':=CpOk.of S;rw[eval_ListComp];have hclos:closureFor scope X.env=pure (a7' X.env scope.names []):=bE_ λx hx e=>I.ok.has x.1 (S'.par x hx e);refine wpAny_comprehension_free (use:=none) rfl hs hclos S'.kind (λx hx e=>by rw[S'.look x hx,e]) (thn (hi pins s σ H _ I h) λv s1 h1=>thn h1 λitv s2 h2=>?_);obtain⟨it,fp,tn,J,H1,rfl,I2,T,st2,f2,k⟩:=h2;refine c_0 (c7_ ?_);have hD:H1 s2.heap.objs.size=none:=I2.fresh;have I3:=I2.lnew (ys:=[]) (its:=[]) (t':=s2.toks) .nil (aC' _);have kept:∀b o,s2.heap.get? b=some o->(s2.heap.push { cls:=.type "list",data:=.seq ([]:List Aa).toArray }).get? b=some o:=λb o e=>a_0 _ e;refine eQ_ (own:=own) (fr:=fr) (Q:=Q) S' hc hg ht he I3 T (T.keep _ _ _ st2 λb hb o e=>kept b o e) (λb hb=>?_) (k _ hD) ?_
 ·refine⟨?_,(f2 b hb).2⟩;obtain⟨o,e,_⟩:=T.obj _ _ st2 b hb;rw[a5_ (aw' (a_3 e))];exact (f2 b hb).1
 ·rintro H' s' I' ⟨m,hm⟩ hn q;refine⟨m,hm,λh' hs'=>⟨.ref s2.heap.objs.size,H',?_,rfl,q⟩⟩
  exact I'.turned (t':=s'.toks) (λb o hb e=>hs'.extBut b o hb e) hn (aR' I3.lt) (.inr I3.sz) (λx c hcx e=>by
   obtain⟨v,hv⟩:=I3.cell x c hcx
   exact absurd hv.lt (by rw[e];exact aP' _)) λp hp e=>by
    have:=(I3.pin p hp).1;rw[e] at this;exact absurd (a_3 this) (aP' _)
def tAsgC(i:Nat)(te:TE):TS:=λD σ H=>te σ H λx H1=>D.nx (σ.set i (some x)) H1
theorem hY_{i:Nat}{x:Str}{px:Pos}(N:List Str)(own:Nat)(fr:List Nat)(hN:X.N.Nodup)(hi':X.N[i]? = some x)(hx:Loc X.env.scope x)
  (hi:PI X tg iter wi) (hg:∀fp s H,PG (a2' X N scope fp s H) tg g) (ht:∀fp s H,PTs (a2' X N scope fp s H) ifs tc) (he:∀fp s H,PE (a2' X N scope fp s H) elt te) {pos':Pos}
  (S:b6' X.N X.env.scope N own fr scope=true:=by kernel_rfl) (hc:X.calm=true:=by rfl) (hs:∀x,foldedSetIterable iter X.env x=pure x:=by intro _;rfl)
  (hf:X.fn x=true∨X.env.scope.names.lookup x=some .local:=by first|exact .inl rfl|exact .inr rfl|assumption)
  (hsw:swapsWith (.ListComp elt [⟨tg,iter,ifs,0⟩] scope pos) (some (.Name x px)) pos'.line X.env=pure true:=by rfl) :
  PS X (.Assign [.Name x px] (.ListComp elt [⟨tg,iter,ifs,0⟩] scope pos) pos') (tAsgC i (tComp wi own fr g tc te)):=by
 intro pins s σ H E I h;have S':=CpOk.of S;rw[exec_Assign_Name_used _ _ _ _ hsw];refine a__ (wpAny_standAt (a__ ?_));show wpAny _ X.A (do let _ <- comprehension (.ListComp elt [⟨tg,iter,ifs,0⟩] scope pos) scope X.env _ (newList []) false (eval iter X.env) (some (assign (.Name x px) X.env))) _ _ s;have hclos:closureFor scope X.env=pure (a7' X.env scope.names []):=bE_ λx hx e=>I.ok.has x.1 (S'.par x hx e)
 refine a__ (wpAny_mono (wpAny_comprehension_free (use:=some (assign (.Name x px) X.env)) (Q:=λ_ s'=>SP X pins E .next s') rfl hs hclos S'.kind (λx hx e=>by rw[S'.look x hx,e]) (thn (hi pins s σ H _ I h) λv s1 h1=>thn h1 λitv s2 h2=>?_))
  (λ_ s' hq=>a_1 (a_1 hq)) λ_ _ e=>e)
 obtain⟨it,fp,tn,J,H1,rfl,I2,T,st2,f2,k⟩:=h2;refine c_0 (c7_ ?_);have hD:H1 s2.heap.objs.size=none:=I2.fresh;have I3:=I2.lnew (ys:=[]) (its:=[]) (t':=s2.toks) .nil (aC' _);have kept:∀b o,s2.heap.get? b=some o->(s2.heap.push { cls:=.type "list",data:=.seq ([]:List Aa).toArray }).get? b=some o:=λb o e=>a_0 _ e;refine eQ_ (own:=own) (fr:=fr) (Q:=λx H1=>E.nx (σ.set i (some x)) H1) S' hc hg ht he I3 T (T.keep _ _ _ st2 λb hb o e=>kept b o e) (λb hb=>?_) (k _ hD) ?_
 ·refine⟨?_,(f2 b hb).2⟩;obtain⟨o,e,_⟩:=T.obj _ _ st2 b hb;rw[a5_ (aw' (a_3 e))];exact (f2 b hb).1
 ·rintro H' s' I' ⟨m,hm⟩ hn q
  have cne:∀y c,X.env.cells.lookup y=some c->c≠(s2.heap.push { cls:=.type "list",data:=.seq ([]:List Aa).toArray }).objs.size:=λy c hcx e=>by
   obtain⟨v,hv⟩:=I3.cell y c hcx;exact absurd hv.lt (by rw[e];exact aP' _)
  show wpAny _ X.A (assign (.Name x px) X.env (.ref s2.heap.objs.size)) _ _ s';refine wpAny_assign_Name (df_ (v:=V.ref s2.heap.objs.size) I' hN hi' hx rfl (λs'' I'' ⟨a,hs2,ha⟩=>?_) hf)
  have hCa:(s2.heap.push { cls:=.type "list",data:=.seq ([]:List Aa).toArray }).objs.size≠a:=by
   rcases ha with e|e
   ·rw[e];exact aR' I3.lt
   ·exact (cne x a e).symm
  refine⟨m,hm.sameBut hs2 hCa,λh' hs'=>⟨_,H',?_,q⟩⟩
  exact I''.turned (t':=s''.toks) (λb o hb e=>hs'.extBut b o hb e) hn (aR' I3.lt) (.inr I3.sz) cne λp hp e=>by
    have:=(I3.pin p hp).1;rw[e] at this;exact absurd (a_3 this) (aP' _)
def GOk(g:TG)(own:Nat)(fv:List (Option V))(dec:V->Hp->List (Option V)->Prop):Prop:=
 ∀(x:V) (o:List (Option V)) (H:Hp) (k:St->Hp->Prop) (o3:List (Option V)),o.length=own->dec x H o3->k (o3++fv) H->g x (o++fv) H k
variable{fv:List (Option V)}
theorem gok1:GOk (bD' 0) 1 fv (λx _ o3=>o3=[some x]):=λx o H k o3 hl e h=>by
 subst e
 match o,hl with
 |[a],_=>exact h
inductive dec2 (K:F__) (x:V) (H:Hp) (o3:List (Option V)):Prop
 |mk:∀p u v,x=.ref p->SqT K H p [u,v]->o3=[some u,some v]->dec2 K x H o3
inductive dec3 (K:F__) (x:V) (H:Hp) (o3:List (Option V)):Prop
 |mk:∀p u v w,x=.ref p->SqT K H p [u,v,w]->o3=[some u,some v,some w]->dec3 K x H o3
variable{K:F__}
theorem gok2:GOk (gTup K 2 (bZ' (bD' 0) (bZ' (bD' 1) gNil))) 2 fv (dec2 K):=λx o H k o3 hl e h=>by
 obtain⟨p,u,v,rfl,hp,rfl⟩:=e
 match o,hl with
 |[a,b],_=>exact⟨p,[u,v],rfl,hp,rfl,u,[v],rfl,v,[],rfl,rfl,h⟩
theorem gok3:GOk (gTup K 3 (bZ' (bD' 0) (bZ' (bD' 1) (bZ' (bD' 2) gNil)))) 3 fv (dec3 K):=λx o H k o3 hl e h=>by
 obtain⟨p,u,v,w,rfl,hp,rfl⟩:=e
 match o,hl with
 |[a,b,c],_=>exact⟨p,[u,v,w],rfl,hp,rfl,u,[v,w],rfl,v,[w],rfl,w,[],rfl,rfl,h⟩
variable{H:Hp}{dec:V->Hp->List (Option V)->Prop}{σ0:St}
theorem cN_(hσ:σ0=List.replicate own none++fv)(G:GOk g own fv dec)(n:Nat)(Pv:Nat->List V->Hp->Prop)(h0:Pv 0 [] (upd H D (.lst [])))(hstop:∀out H',Pv n out H'->J.stop n H'/\Q (.ref D) H')(hgo:∀i out H',i<n->Pv i out H'->J.go i H'/\∀x H2,J.yld i H' x H2->∃o3,dec x H2 o3/\o3.length=own/\∀Nx:Hp->Prop,(∀out' H2,Pv (i+1) out' H2->Nx H2)->
   tc (o3++fv) H2 λb H4=>if b=true then te (o3++fv) H4 λy H5=>∃out2,H5 D=some (.lst out2)/\out2.length<sizeLine/\Nx (upd H5 D (.lst (out2++[y]))) else Nx H4) :
  c4' J g tc te σ0 D H Q:=by
 subst hσ;refine⟨λi m σ' H'=>m=n - i/\i<=n/\(∃o:List (Option V),σ'=o++fv/\o.length=own)/\∃out,Pv i out H',⟨n,by simp,aC' _,⟨_,rfl,aM'⟩,_,h0⟩,?_⟩;rintro i m σ' H' ⟨rfl,hi,⟨o,rfl,ho⟩,out,p⟩;by_cases hlt:i<n
 ·obtain⟨go,k⟩:=hgo i out H' hlt p;refine .inr ⟨go,λσ2 H2=>(∃o:List (Option V),σ2=o++fv/\o.length=own)/\∃out,Pv (i+1) out H2,λσ2 H2 q=>⟨n - (i+1),by omega,rfl,hlt,q⟩,λx H2 y=>?_⟩;obtain⟨o3,d,l3,q⟩:=k x H2 y;exact G x o H2 _ o3 ho d (q (λH2=>(∃o:List (Option V),o3++fv=o++fv/\o.length=own)/\∃out,Pv (i+1) out H2) λout' H2 z=>⟨⟨o3,rfl,l3⟩,out',z⟩)
 ·have e:i=n:=by omega
  subst e;exact .inl (hstop out H' p)
theorem aQ_{xs:List V}(hσ:σ0=List.replicate own none++fv)(G:GOk g own fv dec)(Pv:Nat->List V->Hp->Prop)(h0:Pv 0 [] (upd H D (.lst [])))(hl:∀i out H',i<=xs.length->Pv i out H'->SqL K H' a xs)(hd:∀out H',Pv xs.length out H'->Q (.ref D) H')(hgo:∀i x out H',xs[i]? = some x->Pv i out H'->∃o3,dec x H' o3/\o3.length=own/\∀Nx:Hp->Prop,(∀out' H2,Pv (i+1) out' H2->Nx H2)->
   tc (o3++fv) H' λb H4=>if b=true then te (o3++fv) H4 λy H5=>∃out2,H5 D=some (.lst out2)/\out2.length<sizeLine/\Nx (upd H5 D (.lst (out2++[y]))) else Nx H4) :
  c4' (Itl K a) g tc te σ0 D H Q:=by
 refine cN_ hσ G xs.length Pv h0 (λout H' p=>⟨⟨xs,hl _ _ _ (ad' _) p,ad' _⟩,hd out H' p⟩) λi out H' hi p=>?_;have q:=hl i out H' (Nat.le_of_lt hi) p;refine⟨⟨xs,xs[i],q,by simp[hi]⟩,λx H2 y=>?_⟩;obtain⟨e,y⟩:=y;subst e;exact hgo i x out _ (y xs q) p
end L2
namespace EvS
open PySem PySem.W PyProof.Rows
def Ok{α:Type}(f:Nat->Nat->Bool)(n:Nat):KasT α->(α->Prop)->Prop
 |.ret a,Q=>Q a
 |.ask i j k,Q=>i<n/\j<n/\Ok f n (k (f i j)) Q
theorem Ok.bind{α β:Type}{f:Nat->Nat->Bool}{n:Nat}{g:α->KasT β}{Q:β->Prop}:∀{t:KasT α} {R:α->Prop},Ok f n t R->(∀a,R a->Ok f n (g a) Q)->Ok f n (t.bind g) Q
 |.ret a,R,h,k=>k a h
 |.ask i j t,R,h,k=>⟨h.1,h.2.1,Ok.bind h.2.2 k⟩
theorem Ok.imp{α:Type}{f:Nat->Nat->Bool}{n:Nat}{Q R:α->Prop}(k:∀a,Q a->R a):∀{t:KasT α},Ok f n t Q->Ok f n t R
 |.ret a,h=>k a h
 |.ask i j t,h=>⟨h.1,h.2.1,Ok.imp k h.2.2⟩
theorem Ok.wp{α:Type}{f:Nat->Nat->Bool}{n:Nat}{cmp:Nat->Nat->(Bool->Ab->Prop)->Ab->Prop}{s:Ab}(hc:∀i j C,i<n->j<n->C (f i j) s->cmp i j C s){Q:α->Prop}{G:α->Ab->Prop}(k:∀a,Q a->G a s) :
  ∀{t:KasT α},Ok f n t Q->t.kasWp cmp G s
 |.ret a,h=>k a h
 |.ask i j t,h=>hc i j _ h.1 h.2.1 (Ok.wp hc k h.2.2)
structure Ord (f:Nat->Nat->Bool):Prop where
 rfl':∀i,f i i=false
 trans:∀{i j k},f j i=false->f k j=false->f k i=false
 tot:∀{i j},f i j=true->f j i=false
section
variable{f:Nat->Nat->Bool}(O:Ord f){N:Nat}
abbrev at'(p:Array Nat)(i:Nat):Nat:=p.getD i 0
def Up(f:Nat->Nat->Bool)(p:Array Nat)(k:Nat):Prop:=∀i j,i<=j->j<k->f (at' p j) (at' p i)=false
def Down(f:Nat->Nat->Bool)(p:Array Nat)(k:Nat):Prop:=∀i j,i<=j->j<k->f (at' p i) (at' p j)=false
def Like(f:Nat->Nat->Bool)(p:Array Nat)(lo k:Nat):Prop:=∀i,lo<=i->i<k->f (at' p i) (at' p (k - 1))=false/\f (at' p (k - 1)) (at' p i)=false
def Good(N:Nat)(p:Array Nat):Prop:=p.Perm (List.range N).toArray
theorem Good.size{p:Array Nat}(h:Good N p):p.size=N:=by
 have:=h.size_eq;simpa using this
theorem Good.lt{p:Array Nat}(h:Good N p)(hN:0<N)(i:Nat):at' p i<N:=by
 unfold at';by_cases hi:i<p.size
 ·have e:p.getD i 0=p[i]:=by simp[Array.getD,hi]
  rw[e];have m:p[i]∈(List.range N).toArray:=h.mem_iff.mp (Array.getElem_mem hi);simpa using m
 ·have e:p.getD i 0=0:=by simp[Array.getD,hi]
  rw[e];exact hN
theorem Good.rev{p:Array Nat}(h:Good N p)(i j:Nat):Good N (kas_rev p i j):=(mirror_perm _ _ _ _).trans h
theorem Good.bub{p:Array Nat}(h:Good N p)(i j:Nat):Good N (bubble p i j):=(bubble_perm _ _ _).trans h
theorem c3_{p q:Array Nat}{i j:Nat}(h:p[i]? = q[j]?):at' p i=at' q j:=by
 unfold at';rw[Array.getD_eq_getD_getElem?,Array.getD_eq_getD_getElem?,h]
theorem cr_{p:Array Nat}{i j:Nat}(hj:j<=p.size)(k:Nat):at' (kas_rev p i j) k=if i<=k/\k<j then at' p (i+j - 1 - k) else at' p k:=by
 have e:=getElem?_mirror_all (i:=i) hj k;unfold kas_rev;split
 ·rename_i c
  rw[a_9 c] at e;exact c3_ e
 ·rename_i c
  rw[a_6 c] at e;exact c3_ e
theorem hg_{p:Array Nat}{k l:Nat}(hk:k<p.size)(hl:l<=k)(i:Nat):at' (bubble p k (k - l)) i=if i=l then at' p k else if l<i/\i<=k then at' p (i - 1) else at' p i:=by
 have e:=getElem?_bubble hk (k - l) Z1 i;rw[show k - (k - l)=l by omega] at e;by_cases c:i=l
 ·rw[a_9 c] at e ⊢;exact c3_ e
 ·rw[a_6 c] at e ⊢;split
  ·rename_i d
   rw[a_9 d] at e;exact c3_ e
  ·rename_i d
   rw[a_6 d] at e;exact c3_ e
include O
theorem Up.more{p:Array Nat}{n:Nat}(h:Up f p n)(h1:1<=n)(c:f (at' p n) (at' p (n - 1))=false):Up f p (n+1):=λi j hij hj=>by
 by_cases e:j<n
 ·exact h i j hij e
 ·have e:j=n:=by omega
  subst e;by_cases e2:i=j
  ·subst e2;exact O.rfl' _
  ·exact O.trans (h i (j - 1) Z1 Z1) c
theorem Down.more{p:Array Nat}{n:Nat}(h:Down f p n)(h1:1<=n)(c:f (at' p (n - 1)) (at' p n)=false):Down f p (n+1):=λi j hij hj=>by
 by_cases e:j<n
 ·exact h i j hij e
 ·have e:j=n:=by omega
  subst e;by_cases e2:i=j
  ·subst e2;exact O.rfl' _
  ·exact O.trans c (h i (j - 1) Z1 Z1)
theorem f4_{p:Array Nat}(g:Good N p)(hN:0<N):∀(m n:Nat),1<=n->Up f p n->Ok f N (kas_asc p m n) λr=>n<=r/\r<=n+m/\Up f p r/\(r<n+m->f (at' p r) (at' p (r - 1))=true)
 |0,n,_,h=>⟨ad' _,ad' _,h,λq=>absurd q Z1⟩
 |m+1,n,h1,h=>by
  refine⟨g.lt hN _,g.lt hN _,?_⟩;dsimp only;by_cases c:f (at' p n) (at' p (n - 1))=true
  ·rw[a_9 c];exact⟨ad' _,by omega,h,λ_=>c⟩
  ·rw[a_6 c];refine (f4_ g hN m (n+1) Z1 (h.more O h1 (by simpa using c))).imp λr ⟨a,b,u,z⟩=>⟨by omega,by omega,u,λq=>z Z1⟩
theorem Like.rev{p:Array Nat}{lo k:Nat}(h:Like f p lo k)(hk:k<=p.size)(i:Nat):f (at' (kas_rev p lo k) i) (at' p i)=false/\f (at' p i) (at' (kas_rev p lo k) i)=false:=by
 rw[cr_ hk];split
 ·rename_i c
  obtain⟨a1,a2⟩:=h i c.1 c.2;obtain⟨b1,b2⟩:=h (lo+k - 1 - i) Z1 Z1;exact⟨O.trans a2 b1,O.trans b2 a1⟩
 ·exact⟨O.rfl' _,O.rfl' _⟩
theorem Down.rev{p:Array Nat}{lo k n:Nat}(h:Down f p n)(l:Like f p lo k)(hk:k<=p.size):Down f (kas_rev p lo k) n:=λi j hij hj=>by
 obtain⟨a1,_⟩:=l.rev O hk i;obtain⟨_,b2⟩:=l.rev O hk j;exact O.trans (O.trans b2 (h i j hij hj)) a1
theorem cU_(hN:0<N):∀(m:Nat) (p:Array Nat) (n q:Nat),Good N p->1<=n->q+1<=n->n+m<=N->Down f p n->Like f p (n - (q+1)) n->
  Ok f N (kas_desc m p n q) λr=>Good N r.1/\n<=r.2.1/\r.2.1<=n+m/\Down f r.1 r.2.1/\r.2.2+1<=r.2.1/\Like f r.1 (r.2.1 - (r.2.2+1)) r.2.1
 |0,p,n,q,g,h1,hq,hn,d,l=>⟨g,ad' _,ad' _,d,hq,l⟩
 |m+1,p,n,q,g,h1,hq,hn,d,l=>by
  refine⟨g.lt hN _,g.lt hN _,?_⟩;dsimp only;by_cases c:f (at' p n) (at' p (n - 1))=true
  ·rw[a_9 c];have d2:Down f p (n+1):=d.more O h1 (O.tot c)
   have one:∀p':Array Nat,Like f p' (n+1 - (0+1)) (n+1):=λp' i h2 h3=>by
    have e:i=n+1 - 1:=by omega
    subst e;exact⟨O.rfl' _,O.rfl' _⟩
   by_cases hq0:q > 0
   ·rw[a_9 hq0];have hk:n<=p.size:=by rw[g.size];omega
    exact (cU_ hN m _ (n+1) 0 (g.rev _ _) Z1 Z1 Z1 (d2.rev O l hk) (one _)).imp λr ⟨a,b,b2,z⟩=>⟨a,by omega,by omega,z⟩
   ·rw[a_6 hq0];exact (cU_ hN m _ (n+1) 0 g Z1 Z1 Z1 d2 (one _)).imp λr ⟨a,b,b2,z⟩=>⟨a,by omega,by omega,z⟩
  ·rw[a_6 c];refine⟨g.lt hN _,g.lt hN _,?_⟩;dsimp only;have c:f (at' p n) (at' p (n - 1))=false:=by simpa using c
   by_cases e:f (at' p (n - 1)) (at' p n)=true
   ·rw[a_9 e];exact⟨g,ad' _,by show n<=n+(m+1);omega,d,hq,l⟩
   ·rw[a_6 e];have e:f (at' p (n - 1)) (at' p n)=false:=by simpa using e
    refine (cU_ hN m p (n+1) (q+1) g Z1 Z1 Z1 (d.more O h1 e) λi h2 h3=>?_).imp λr ⟨a,b,b2,z⟩=>⟨a,by omega,by omega,z⟩;show f (at' p i) (at' p n)=false/\f (at' p n) (at' p i)=false;by_cases ei:i=n
    ·subst ei;exact⟨O.rfl' _,O.rfl' _⟩
    ·obtain⟨a1,a2⟩:=l i Z1 Z1;exact⟨O.trans e a1,O.trans a2 c⟩
def cw'(f:Nat->Nat->Bool)(N nrem:Nat)(r:Nat × Array Nat):Prop:=Good N r.2/\1<=r.1/\r.1<=nrem/\Up f r.2 r.1
theorem fs_(hN:0<N){p:Array Nat}{n nrem:Nat}(g:Good N p)(h1:1<=n)(hn:n<=nrem)(hr:nrem<=N)(d:Down f p n):Ok f N (kas_tail3 n nrem p) (cw' f N nrem):=by
 unfold kas_tail3
 have u:Up f (kas_rev p 0 n) n:=λi j hij hj=>by
  rw[cr_ (by rw[g.size];omega),cr_ (by rw[g.size];omega),a_9 Z1,a_9 Z1];exact d _ _ Z1 Z1
 exact (f4_ O (g.rev _ _) hN (nrem - n) n h1 u).bind λm ⟨a,b,u,_⟩=>⟨g.rev _ _,by show 1<=m;omega,by show m<=nrem;omega,u⟩
theorem cq_(hN:0<N){p:Array Nat}{n nrem:Nat}(g:Good N p)(hn:n+1<=nrem)(hr:nrem<=N)(d:Down f p (n+1)):Ok f N (kas_descPart n nrem p) (cw' f N nrem):=by
 unfold kas_descPart;refine (cU_ O hN (nrem - (n+1)) p (n+1) 0 g Z1 Z1 Z1 d λi h2 h3=>?_).bind λr ⟨g',a,b,d',hq,l⟩=>?_
 ·have e:i=n+1 - 1:=by omega
  subst e;exact⟨O.rfl' _,O.rfl' _⟩
 ·split
  ·exact fs_ O hN (g'.rev _ _) Z1 Z1 hr (d'.rev O l (by rw[g'.size];omega))
  ·exact fs_ O hN g' Z1 Z1 hr d'
theorem gS_(hN:0<N){p:Array Nat}{nrem:Nat}(g:Good N p)(h1:1<=nrem)(hr:nrem<=N):Ok f N (kas_count nrem p) (cw' f N nrem):=by
 unfold kas_count;refine (f4_ O g hN (nrem - 1) 1 (ad' _) λi j hij hj=>?_).bind λn ⟨a,b,u,st⟩=>?_
 ·have e:i=j:=by omega
  subst e;exact O.rfl' _
 ·by_cases e:(n == nrem)=true
  ·rw[a_9 e];exact⟨g,a,by show n<=nrem;omega,u⟩
  ·rw[a_6 e];have e:n≠nrem:=by simpa using e
   have c:=st Z1;by_cases h2:n > 1
   ·rw[a_9 h2];refine⟨g.lt hN _,g.lt hN _,?_⟩;dsimp only;by_cases c2:f (at' p 0) (at' p (n - 1))=true
    ·rw[a_9 c2];exact⟨g,a,by show n<=nrem;omega,u⟩
    ·rw[a_6 c2];have c2:f (at' p 0) (at' p (n - 1))=false:=by simpa using c2
     refine cq_ O hN (g.rev _ _) Z1 hr λi j hij hj=>?_;by_cases ej:j<n
     ·rw[cr_ (by rw[g.size];omega),cr_ (by rw[g.size];omega),a_9 Z1,a_9 Z1];exact u _ _ Z1 Z1
     ·have ej:j=n:=by omega
      subst ej;by_cases ei:i=j
      ·subst ei;exact O.rfl' _
      ·rw[cr_ (by rw[g.size];omega),cr_ (by rw[g.size];omega),a_9 Z1,a_6 Z1];exact O.trans (O.trans (O.tot c) c2) (u 0 _ Z1 Z1)
   ·rw[a_6 h2];have e1:n=1:=by omega
    subst e1;refine cq_ O hN g Z1 hr λi j hij hj=>?_;by_cases ei:i=j
    ·subst ei;exact O.rfl' _
    ·have q1:i=0:=by omega
     have q2:j=1:=by omega
     subst q1;subst q2;exact O.tot c
theorem cY_(hN:0<N){p:Array Nat}{k:Nat}(g:Good N p)(u:Up f p k):∀(m l r:Nat),r - l<=m->l<=r->r<=k->(∀i,i<l->f (at' p k) (at' p i)=false)->(∀i,r<=i->i<k->f (at' p k) (at' p i)=true)->
  Ok f N (kas_place p k m l r) λx=>x<=k/\(∀i,i<x->f (at' p k) (at' p i)=false)/\∀i,x<=i->i<k->f (at' p k) (at' p i)=true
 |0,l,r,hm,hl,hr,h1,h2=>by
  have e:l=r:=by omega
  subst e;exact⟨hr,h1,h2⟩
 |m+1,l,r,hm,hl,hr,h1,h2=>by
  unfold kas_place;by_cases e:l ≥ r
  ·rw[a_9 e];have e:l=r:=by omega
   subst e;exact⟨hr,h1,h2⟩
  ·rw[a_6 e];refine⟨g.lt hN _,g.lt hN _,?_⟩;dsimp only;by_cases c:f (at' p k) (at' p ((l+r) / 2))=true
   ·rw[a_9 c];refine cY_ hN g u m l _ Z1 Z1 Z1 h1 λi h3 h4=>?_;by_cases ei:f (at' p k) (at' p i)=true
    ·exact ei
    ·have ei:f (at' p k) (at' p i)=false:=by simpa using ei
     have:=O.trans (u _ i h3 h4) ei;rw[c] at this;cases this
   ·rw[a_6 c];have c:f (at' p k) (at' p ((l+r) / 2))=false:=by simpa using c
    exact cY_ hN g u m _ r Z1 Z1 hr (λi h3=>O.trans (u i _ Z1 Z1) c) h2
theorem hk_(hN:0<N):∀(m:Nat) (p:Array Nat) (k:Nat),Good N p->k+m=N->Up f p k->Ok f N (kas_bin m p k) λr=>Good N r/\Up f r N
 |0,p,k,g,e,u=>by
  have e:k=N:=by omega
  subst e;exact⟨g,u⟩
 |m+1,p,k,g,e,u=>by
  unfold kas_bin;refine (cY_ O hN g u k 0 k Z1 Z1 (ad' _) (λi h=>absurd h Z1) λi h1 h2=>absurd h2 Z1).bind λl ⟨hl,h1,h2⟩=>?_;have hk:k<p.size:=by rw[g.size];omega
  refine hk_ hN m _ (k+1) (g.bub _ _) Z1 λi j hij hj=>?_;rw[hg_ hk hl,hg_ hk hl];by_cases ej:j=l
  ·rw[a_9 ej];by_cases ei:i=l
   ·rw[a_9 ei];exact O.rfl' _
   ·rw[a_6 ei,a_6 Z1];exact h1 i Z1
  ·rw[a_6 ej];by_cases ej2:l<j/\j<=k
   ·rw[a_9 ej2];by_cases ei:i=l
    ·rw[a_9 ei];exact O.tot (h2 (j - 1) Z1 Z1)
    ·rw[a_6 ei];by_cases ei2:l<i/\i<=k
     ·rw[a_9 ei2];exact u _ _ Z1 Z1
     ·rw[a_6 ei2];exact u _ _ Z1 Z1
   ·rw[a_6 ej2];rw[a_6 (show ¬i=l by omega),a_6 (show ¬(l<i/\i<=k) by omega)];exact u _ _ Z1 Z1
theorem hy_(hN:0<N):Ok f N (kas_sort N) λp=>Good N p/\Up f p N:=by
 unfold kas_sort;refine (gS_ O hN (p:=(List.range N).toArray) (Array.Perm.refl _) hN (ad' _)).bind λr ⟨g,h1,h2,u⟩=>?_;split
 ·rename_i c
  rw[show max r.1 1=r.1 by omega];exact hk_ O hN _ _ _ g Z1 u
 ·rename_i c
  have e:r.1=N:=by omega
  exact⟨g,e▸u⟩
end
def Asks(prog:Ad)(w:Af)(A:Ag)(f:Nat->Nat->Bool)(vs:List Aa)(s:Ab):Prop:=
 ∃κ,(∀Q:SortKind->Ab->Prop,Q κ s->wpAny (model prog w) A (keyKind' vs.toArray) Q (λ_ _=>False) s)/\∀i j C,i<vs.length->j<vs.length->C (f i j) s->kas_ask prog w A κ vs i j C s
def bS'(a:Addr)(h h':Heap):Prop:=∀b o,b≠a->h.get? b=some o->h'.get? b=some o
def bI'(p:Array Nat)(vs:List Aa):List Aa:=p.toList.map λi=>vs.getD i Value.none
theorem dJ_(vs:List Aa):bI' (List.range vs.length).toArray vs=vs:=by
 unfold bI';apply List.ext_getElem?;intro i;simp only[am'];by_cases h:i<vs.length
 ·simp[h]
 ·simp[Nat.le_of_not_lt h]
variable{f:Nat->Nat->Bool}{prog:Ad}{w:Af}{A:Ag}{E:Aa->Ab->Prop}{s:Ab}
theorem gC_{a:Addr}{vs:List Aa}{n:Nat}{P:Fin->Ab->Prop}(O:Ord f)(ho:s.heap.get? a=some (seqObj "list" vs.toArray n))(h64:vs.length<64)(hask:2<=vs.length->∀h',bS' a s.heap h'->Asks prog w A f vs { s with heap:=h' })(h:∀(p:Array Nat) (h':Heap) (e:Nat),Good vs.length p->Up f p vs.length->h'.get? a=some (seqObj "list" (bI' p vs).toArray e)->bS' a s.heap h'->P (.done (.ret .none)) { s with heap:=h' }) :
  wpAny (model prog w) A (Builtin.«list.sort» ⟨[.ref a],[]⟩) P E s:=by
 have haz:a<s.heap.objs.size:=a_3 ho;obtain⟨e1,ho1⟩:∃e1,(s.heap.update a (Obj.mapSeq λ_=>(#[]:Array Aa))).get? a=some (seqObj "list" #[] e1):=⟨_,get?_update_seq ho (λ_=>#[])⟩
 have l64:vs.length<=sizeLine:=by
  have:=b__;omega
 rw[list_sort_plain];refine a__ (listItems_at ho rfl (a__ (listUpdate_at ho rfl (a__ (seqEpoch_at ho1 rfl (a__ (wpAny_newTuple (a__ (wpAny_newList (wpAny_holding ?_) (aC' _))) l64)))) (by simpa using l64) (aC' _))))
 have keep:∀g:Array Aa->Array Aa,bS' a s.heap ((((s.heap.update a (Obj.mapSeq λ_=>(#[]:Array Aa))).push (seqObj "tuple" vs.toArray 0)).push (seqObj "list" #[] 0)).update a (Obj.mapSeq g)):=λg b o hb e=>by
  refine (Heap.get?_update_other _ _ (Ne.symm hb)).trans (a_0 _ (a_0 _ ?_));exact (Heap.get?_update_other _ _ (Ne.symm hb)).trans e
 have keep0:bS' a s.heap (((s.heap.update a (Obj.mapSeq λ_=>(#[]:Array Aa))).push (seqObj "tuple" vs.toArray 0)).push (seqObj "list" #[] 0)):=λb o hb e=>
  a_0 _ (a_0 _ ((Heap.get?_update_other _ _ (Ne.symm hb)).trans e))
 have hoB:(((s.heap.update a (Obj.mapSeq λ_=>(#[]:Array Aa))).push (seqObj "tuple" vs.toArray 0)).push (seqObj "list" #[] 0)).get? a=some (seqObj "list" #[] e1):=a_0 _ (a_0 _ ho1);show wpAny (model prog w) A _ P E { s with heap:=((s.heap.update a (Obj.mapSeq λ_=>(#[]:Array Aa))).push (seqObj "tuple" vs.toArray 0)).push (seqObj "list" #[] 0) };dsimp only;by_cases h2:vs.toArray.size<2
 ·rw[a_9 h2,a_9 h2];refine a__ (a_1 ?_);rw[StateT.run_pure]
  have eout:((vs.toArray.zip vs.toArray).map λx:Keyed=>x.2)=(bI' (List.range vs.length).toArray vs).toArray:=by
   rw[dJ_];apply Array.ext';simp[List.map_snd_zip]
  refine a__ (a_1 (a__ (seqEpoch_at hoB rfl (a__ (listUpdate_at hoB rfl ?_ (aC' _) ?_)))))
  ·simp only[bne_self_eq_false,Bool.false_eq_true,if_false];refine a_1 (h (List.range vs.length).toArray _ _ (Array.Perm.refl _) (λi j hij hj=>?_) ((get?_update_seq hoB _).trans (b_7 (λz=>some (seqObj "list" z _)) eout)) (keep _))
   ·have e:i=j:=by
     simp only[ae'] at h2;omega
    subst e;exact O.rfl' _
  ·have e:((vs.toArray.zip vs.toArray).map λx:Keyed=>x.2).size<=sizeLine+1:=by
    simp only[Array.size_map,Array.size_zip,ae'];omega
   exact e
 ·rw[a_6 h2,a_6 h2]
  have h2':2<=vs.length:=by
   simp only[ae'] at h2;omega
  obtain⟨κ,hk,hc⟩:=hask h2' _ keep0;refine a__ (wpAny_mono (hk (λk s'=>k=κ/\s'=_) ⟨rfl,rfl⟩) (λk s' hks=>?_) λ_ _ x=>x.elim);obtain⟨rfl,rfl⟩:=hks
  refine a__ (wpAny_mono (kat_run (ks:=vs) (vs:=vs) (G:=λp s'=>s'={ s with heap:=((s.heap.update a (Obj.mapSeq λ_=>(#[]:Array Aa))).push (seqObj "tuple" vs.toArray 0)).push (seqObj "list" #[] 0) }/\Good vs.length p/\Up f p vs.length)
   (Q:=λst' s'=>∃p:Array Nat,arrOf st'=p.map (kas_item (vs.toArray.zip vs.toArray))/\failedOf st'=none/\s'={ s with heap:=((s.heap.update a (Obj.mapSeq λ_=>(#[]:Array Aa))).push (seqObj "tuple" vs.toArray 0)).push (seqObj "list" #[] 0) }/\Good vs.length p/\Up f p vs.length)
   rfl h2' h64 (λp st' s' _ q1 q2 q3=>⟨p,q1,q2,q3⟩) (Ok.wp hc (λp q=>⟨rfl,q⟩) (hy_ O Z1))) ?_ λ_ _ x=>x)
  rintro⟨⟨⟩,st'⟩ s' ⟨p,har,hf,hs',g,u⟩;have hs':s'={ s with heap:=((s.heap.update a (Obj.mapSeq λ_=>(#[]:Array Aa))).push (seqObj "tuple" vs.toArray 0)).push (seqObj "list" #[] 0) }:=hs';subst hs'
  have eout:((arrOf st').map λx:Keyed=>x.2)=(bI' p vs).toArray:=by
   rw[har];apply Array.ext';unfold bI';simp only[Array.map_map,Array.toList_map,List.toList_toArray];refine az' λi _=>?_;show (kas_item (vs.toArray.zip vs.toArray) i).2=_;unfold kas_item;by_cases hi:i<vs.length
   ·simp[Array.getD,hi]
   ·simp[Array.getD,hi,Nat.le_of_not_lt hi]
  have esz:((arrOf st').map λx:Keyed=>x.2).size=vs.length:=by
   rw[eout];unfold bI';simp only[ae',aa',aL'];exact g.size
  refine a__ (seqEpoch_at hoB rfl (a__ (listUpdate_at hoB rfl ?_ (aC' _) (by rw[esz];omega))));rw[hf];simp only[bne_self_eq_false,Bool.false_eq_true,if_false];exact a_1 (h p _ _ g u ((get?_update_seq hoB _).trans (b_7 (λz=>some (seqObj "list" z _)) eout)) (keep _))
theorem cz_{x:Aa}{Q:Aa->Ab->Prop}(O:Ord f)(hcol:wpAny (model prog w) A.in1 (collect x) (λvs s1=>vs.length<64/\(2<=vs.length->∀h':Heap,(∀b o,s1.heap.get? b=some o->h'.get? b=some o)->Asks prog w A.in1.in1 f vs { s1 with heap:=h' }) /\
   ∀(p:Array Nat) (h':Heap) (e:Nat),Good vs.length p->Up f p vs.length->h'.get? s1.heap.objs.size=some (seqObj "list" (bI' p vs).toArray e)->(∀b o,s1.heap.get? b=some o->h'.get? b=some o)->Q (.ref s1.heap.objs.size) { s1 with heap:=h' }) E s) :
  wpAny (model prog w) A (call (.builtin "sorted") [x]) Q E s:=by
 refine Calls.call_function_entry kind_sorted plain_sorted entry_sorted (args_sorted1 _) ?_;unfold Builtin.«sorted»;refine a__ (m:=checkCount "sorted" 1 1 _) (a_1 (a__ (wpAny_mono hcol (λvs s1 q=>?_) λ_ _ z=>z)));obtain⟨h64,hask,hQ⟩:=q;refine a__ (wpAny_newList ?_ (by have:=b__;omega));have hn:(s1.heap.push (seqObj "list" vs.toArray 0)).get? s1.heap.objs.size=some (seqObj "list" vs.toArray 0):=a_4 _ rfl
 have old:∀h',bS' s1.heap.objs.size (s1.heap.push (seqObj "list" vs.toArray 0)) h'->∀b o,s1.heap.get? b=some o->h'.get? b=some o:=λh' k b o e=>
  k b o (aw' (a_3 e)) (a_0 _ e)
 refine a__ (wpAny_holding (wpAny_call_entry slot_list_sort ⟨_,hn,rfl⟩ entry_list_sort (gC_ O hn h64 (λh2 h' k=>hask h2 h' (old h' k)) λp h' e g u q k=>⟨_,rfl,?_⟩) (args_list_sort _)));exact a_1 ⟨_,rfl,hQ p h' e g u q (old h' k)⟩
end EvS
namespace L2
open PySem PySem.Spec PyProof.Rows PySem.W EvS
def kLt:Key->Key->Bool
 |.inl i,.inl j=>decide (i<j)
 |.inl _,.inr _=>true
 |.inr _,.inl _=>false
 |.inr x,.inr y=>decide (x.cps.toList<y.cps.toList)
def lexK:List Key->List Key->Bool
 |[],[]=>false
 |[],_::_=>true
 |_::_,[]=>false
 |a::r,b::q=>if a=b then lexK r q else kLt a b
theorem g7_:∀a:Key,kLt a a=false
 |.inl i=>by simp[kLt]
 |.inr x=>by simp[kLt,List.lt_irrefl]
theorem dv_:∀{a b:Key},kLt a b=true->kLt b a=false
 |.inl i,.inl j,h=>by
  simp only[kLt,decide_eq_true_eq,decide_eq_false_iff_not] at *;omega
 |.inl _,.inr _,_=>rfl
 |.inr _,.inl _,h=>by cases h
 |.inr x,.inr y,h=>by
  simp only[kLt,decide_eq_true_eq,decide_eq_false_iff_not] at *;exact λq=>List.lt_irrefl _ (List.lt_trans h q)
theorem fK_:∀{a b:Key},kLt a b=false->kLt b a=false->a=b
 |.inl i,.inl j,h,h2=>by
  simp only[kLt,decide_eq_false_iff_not] at *;rw[show i=j by omega]
 |.inl _,.inr _,h,_=>by cases h
 |.inr _,.inl _,_,h=>by cases h
 |.inr x,.inr y,h,h2=>by
  simp only[kLt,decide_eq_false_iff_not] at *;rw[ext_toList (List.le_antisymm (List.not_lt.mp h2) (List.not_lt.mp h))]
theorem fb_:∀{a b c:Key},kLt a b=true->kLt b c=true->kLt a c=true
 |.inl i,.inl j,.inl k,h,h2=>by
  simp only[kLt,decide_eq_true_eq] at *;omega
 |.inl _,.inl _,.inr _,_,_=>rfl
 |.inl _,.inr _,.inr _,_,_=>rfl
 |.inl _,.inr _,.inl _,_,h=>by cases h
 |.inr _,.inl _,_,h,_=>by cases h
 |.inr _,.inr _,.inl _,_,h=>by cases h
 |.inr x,.inr y,.inr z,h,h2=>by
  simp only[kLt,decide_eq_true_eq] at *;exact List.lt_trans h h2
theorem eq_:∀a:List Key,lexK a a=false
 |[]=>rfl
 |a::r=>by
  unfold lexK;rw[a_9 rfl];exact eq_ r
theorem bT_:∀{a b:List Key},lexK a b=true->lexK b a=false
 |[],[],h=>by cases h
 |[],_::_,_=>rfl
 |_::_,[],h=>by cases h
 |a::r,b::q,h=>by
  unfold lexK at h ⊢;by_cases e:a=b
  ·rw[a_9 e] at h;rw[a_9 e.symm];exact bT_ h
  ·rw[a_6 e] at h;rw[a_6 (Ne.symm e)];exact dv_ h
theorem cS_:∀{a b:List Key},lexK a b=false->lexK b a=false->a=b
 |[],[],_,_=>rfl
 |[],_::_,h,_=>by cases h
 |_::_,[],_,h=>by cases h
 |a::r,b::q,h,h2=>by
  unfold lexK at h h2;by_cases e:a=b
  ·rw[a_9 e] at h;rw[a_9 e.symm] at h2;rw[e,cS_ h h2]
  ·rw[a_6 e] at h;rw[a_6 (Ne.symm e)] at h2;exact absurd (fK_ h h2) e
theorem c1_:∀{a b c:List Key},lexK a b=true->lexK b c=true->lexK a c=true
 |[],_,[],h,h2=>by
  rename_i b
  cases b with
  |nil=>cases h
  |cons _ _=>cases h2
 |[],_,_::_,_,_=>rfl
 |_::_,[],_,h,_=>by cases h
 |_::_,_::_,[],_,h=>by cases h
 |a::r,b::q,c::t,h,h2=>by
  unfold lexK at h h2 ⊢;by_cases e:a=b
  ·subst e;rw[a_9 rfl] at h;by_cases e2:a=c
   ·rw[a_9 e2] at h2 ⊢;exact c1_ h h2
   ·rw[a_6 e2] at h2 ⊢;exact h2
  ·rw[a_6 e] at h;by_cases e2:b=c
   ·subst e2;rw[a_6 e];exact h
   ·rw[a_6 e2] at h2;have h3:=fb_ h h2;rw[a_6 (λq=>by rw[q,g7_] at h3;cases h3)];exact h3
theorem cF_{a b c:List Key}(h:lexK b a=false)(h2:lexK c b=false):lexK c a=false:=by
 cases e:lexK c a with
 |false=>rfl
 |true=>
  by_cases e1:lexK a b=true
  ·have:=c1_ e e1;rw[h2] at this;cases this
  ·have e1:lexK a b=false:=by simpa using e1
   have:=cS_ e1 h;subst this;rw[h2] at e;cases e
def Asc(ks:List (List Key)):Prop:=ks.Pairwise λa b=>lexK b a=false
theorem bQ_:∀{a b:List (List Key)},a.Perm b->Asc a->Asc b->a=b
 |[],b,p,_,_=>by
  have:=p.length_eq;cases b with
  |nil=>rfl
  |cons _ _=>cases this
 |x::r,[],p,_,_=>by
  have:=p.length_eq;cases this
 |x::r,y::q,p,h1,h2=>by
  obtain⟨a1,a2⟩:=List.pairwise_cons.mp h1;obtain⟨b1,b2⟩:=List.pairwise_cons.mp h2
  have e:x=y:=by
   rcases aj'.mp (p.mem_iff.mp an') with m|m
   ·exact m
   ·rcases aj'.mp (p.mem_iff.mpr an') with m2|m2
    ·exact m2.symm
    ·exact cS_ (b1 _ m) (a1 _ m2)
  subst e;rw[bQ_ ((List.perm_cons _).mp p) a2 b2]
def sortKs(ks:List (List Key)):List (List Key):=ks.mergeSort λa b=>!lexK b a
theorem ag_(ks:List (List Key)):(sortKs ks).Perm ks:=List.mergeSort_perm _ _
theorem bq_(ks:List (List Key)):Asc (sortKs ks):=by
 have:=List.pairwise_mergeSort (le:=λa b=>!lexK b a) (λa b c h1 h2=>by
  simp only[Bool.not_eq_true'] at *;exact cF_ h1 h2) (λa b=>by
  simp only[Bool.or_eq_true,Bool.not_eq_true'];by_cases e:lexK b a=true
  ·exact .inr (bT_ e)
  ·exact .inl (by simpa using e)) ks
 exact this.imp λh=>by simpa using h
variable{ks:List (List Key)}
theorem cg_{ks':List (List Key)}(p:ks'.Perm ks)(h:Asc ks'):ks'=sortKs ks:=bQ_ (p.trans (ag_ ks).symm) h (bq_ ks)
variable{p:Array Nat}
theorem bm_{α:Type}{n:Nat}(g:Good n p)(F:Nat->α):(p.toList.map F).Perm ((List.range n).map F):=by
 have e:p.toList.Perm (List.range n):=by
  have:=Array.perm_iff_toList_perm.mp g;simpa using this
 exact e.map F
theorem f2_{f:Nat->Nat->Bool}(hf:∀i j,i<ks.length->j<ks.length->f i j=lexK (ks.getD i []) (ks.getD j []))(g:Good ks.length p)(u:Up f p ks.length):Asc (p.toList.map λi=>ks.getD i []):=by
 unfold Asc;rw[aF',List.pairwise_iff_getElem];intro i j hi hj hij;have hs:=g.size;rw[aL'] at hi hj;have hj':j<ks.length:=by omega
 have q:=u i j (Nat.le_of_lt hij) hj';have hN:0<ks.length:=by omega
 rw[hf _ _ (g.lt hN _) (g.lt hN _)] at q;have e1:at' p i=p.toList[i]:=by simp[at',Array.getD,hi]
 have e2:at' p j=p.toList[j]:=by simp[at',Array.getD,hj]
 rw[e1,e2] at q;exact q
theorem ee_(ks:List (List Key)):Ord λi j=>lexK (ks.getD i []) (ks.getD j []):=⟨λ_=>eq_ _,λh h2=>cF_ h h2,λh=>bT_ h⟩
theorem b0_{α:Type}(d:α)(l:List α):((List.range l.length).map λi=>l.getD i d)=l:=by
 apply List.ext_getElem?;intro i;simp only[am'];by_cases h:i<l.length
 ·simp[h]
 ·simp[Nat.le_of_not_lt h]
variable{ys:List V}{vs:List Aa}
theorem ei_(r:Vals ys vs)(g:Good vs.length p):Vals (p.toList.map λi=>ys.getD i .non) (bI' p vs):=by
 unfold bI'
 have key:∀l:List Nat,(∀i∈l,i<vs.length)->Vals (l.map λi=>ys.getD i .non) (l.map λi=>vs.getD i Value.none):=λl=>by
  induction l with
  |nil=>exact λ_=>.nil
  |cons i l ih=>
   intro h;refine .cons ?_ (ih λj hj=>h j (ag' _ hj));have hi:=h i an';have hy:i<ys.length:=by rw[r.length];exact hi
   obtain⟨u,hu,ru⟩:=r.get (ac' hy);have e1:ys.getD i .non=ys[i]:=by simp[hy]
   have e2:vs.getD i Value.none=u:=by simp[hu]
   show RelV (ys.getD i .non) (vs.getD i Value.none);rw[e1,e2];exact ru
 refine key p.toList λi hi=>?_;have m:i∈(List.range vs.length).toArray:=g.mem_iff.mp (by simpa using hi);simpa using m
theorem fF_:∀{ss:List Str} {vs:List Aa},Vals (ss.map V.str) vs->StrsAre vs ss
 |[],_,.nil=>.nil
 |x::r,_,.cons h t=>by
  obtain⟨tk,rfl⟩:=h;exact .cons x tk (fF_ t)
def a4'(ss:List Str):List Str:=(sortKs (ss.map λx=>[Sum.inr x])).map λk=>match k with
 |[.inr x]=>x
 |_=>⟨#[]⟩
def keyS(x:Str):List Key:=[Sum.inr x]
variable{prog:Ad}{w:Af}{A:Ag}{s:Ab}
theorem eP_{ss:List Str}(r:StrsAre vs ss)(h2:2<=vs.length):Asks prog w A (λi j=>lexK ((ss.map keyS).getD i []) ((ss.map keyS).getD j [])) vs s:=by
 refine⟨oneType',λQ q=>?_,λi j C hi hj hC=>?_⟩
 ·match vs,h2 with
  |v₁::v₂::t,_=>
   rw[keyKind_strs r];exact a_1 q
 ·unfold kas_ask;rw[keyLt'_oneType]
  have look:∀k,k<vs.length->∃x t,vs.getD k Value.none=.str x t/\(ss.map keyS).getD k []=[Sum.inr x]:=λk hk=>by
   have e:=r.strs;obtain⟨x,t,q⟩:=r.all vs[k] (List.getElem_mem hk);refine⟨x,t,by simp[hk,q],?_⟩
   have hk':k<ss.length:=by
    rw[<- e,aa'];exact hk
   have e2:ss[k]=x:=by
    have e3:(vs.map strOf)[k]? = ss[k]?:=by rw[e]
    rw[am',ac' hk,ac' hk',q] at e3;exact (a_8 e3).symm
   simp[hk',e2,keyS]
  obtain⟨x,t,e1,e2⟩:=look i hi;obtain⟨y,u,e3,e4⟩:=look j hj;rw[e1,e3];dsimp only at hC;rw[e2,e4] at hC;refine oneLt_str ?_;unfold lexK at hC;by_cases e:x=y
  ·subst e;rw[a_9 rfl] at hC;have:decide (x.cps.toList<x.cps.toList)=false:=by simp[List.lt_irrefl]
   rw[this];exact hC
  ·rw[a_6 (λq=>e (b_3 q))] at hC;exact hC
def isS:Key->Bool
 |.inl _=>false
 |.inr _=>true
variable{a b:Key}
theorem fk_{E:Aa->Ab->Prop}{c:Bool}{p q:Aa}{Q:Bool->Ab->Prop}(ra:RelV (kV a) p)(rb:RelV (kV b) q)(hk:isS a=isS b)(h:Q (kLt a b) s) :
  wpAny (model prog w) A (oneLt' c p q) Q E s:=by
 cases a with
 |inl i=>
  cases b with
  |inr y=>cases hk
  |inl j=>
   obtain⟨t,rfl⟩:=ra;obtain⟨u,rfl⟩:=rb;cases c with
   |true=>exact oneLt_int h
   |false=>exact kat_one _ _ (lt_int (show PySem.W.BoolBack Q (.bool _) s from h))
 |inr x=>
  cases b with
  |inl j=>cases hk
  |inr y=>
   obtain⟨t,rfl⟩:=ra;obtain⟨u,rfl⟩:=rb;cases c with
   |true=>exact oneLt_str h
   |false=>exact kat_one _ _ (PyProof.Rows.lt_str (show PySem.W.BoolBack Q (.bool _) s from h))
theorem hr_(hk:isS a=isS b):eqV (kV a) (kV b)=decide (a=b):=by
 cases a with
 |inl i=>
  cases b with
  |inr y=>cases hk
  |inl j=>
   show (i == j)=_;by_cases e:i=j
   ·subst e;simp
   ·rw[a_7 (λq=>e (Sum.inl.inj q))];simpa using e
 |inr x=>
  cases b with
  |inl j=>cases hk
  |inr y=>
   show (x == y)=_;by_cases e:x=y
   ·subst e;simp
   ·rw[a_7 (λq=>e (b_3 q))];simpa using e
theorem eb_(a:Key):flatV (kV a)=true:=by cases a<;>rfl
theorem cn_{prog:Ad}{w:Af}{A:Ag}{s:Ab}{Q:Bool->Ab->Prop}:∀{k1 k2:List Key} {us vs:List Aa} (i:Nat),Vals (k1.map kV) us->Vals (k2.map kV) vs->k1.map isS=k2.map isS->Q (lexK k1 k2) s->KatLex prog w A true false Q (us.zip vs) i s
 |[],[],_,_,i,.nil,.nil,_,h=>h
 |[],_::_,_,_,_,_,_,h,_=>by cases h
 |_::_,[],_,_,_,_,_,h,_=>by cases h
 |a::k1,b::k2,u::us,v::vs,i,.cons ra r1,.cons rb r2,hk,h=>by
  obtain⟨e1,e2⟩:=List.cons.inj hk;refine kat_cons ?_;refine en_ ra rb (eb_ a) (eb_ b) prog w _ _ ?_;rw[hr_ e1];unfold lexK at h;by_cases e:a=b
  ·rw[a_9 e] at h;rw[a_2 e];exact kat_yes (cn_ (i+1) r1 r2 e2 h)
  ·rw[a_6 e] at h;rw[a_7 e];exact kat_no (fk_ ra rb e1 h)
def aU'(K:F__)(H:Hp):List V->List (List Key)->Prop:=Paired λy k=>∃a,y=V.ref a/\H a=some (.tup (k.map kV))
def Alike(ks:List (List Key))(sh:List Bool):Prop:=sh≠[]/\∀k∈ks,k.map isS=sh
theorem eV_{X:Cx}{pins:List (Addr × Obj)}{σ:St}{H:Hp}{s':Ab}{sh:List Bool}(I:Inv X pins σ H s)(r:Vals ys vs)(t:aU' X.K H ys ks)(al:Alike ks sh)(h2:2<=vs.length)(kp:∀b o,s.heap.get? b=some o->s'.heap.get? b=some o):Asks X.prog X.w A (λi j=>lexK (ks.getD i []) (ks.getD j [])) vs s':=by
 have look:∀k,k<vs.length->∃a its,vs.getD k Value.none=.ref a/\Vals ((ks.getD k []).map kV) its/\IsTup s'.heap a its.toArray/\ks.getD k []∈ks:=λk hk=>by
  have hy:k<ys.length:=by rw[r.length];exact hk
  have hk2:k<ks.length:=by rw[<- a_5 t];exact hy
  obtain⟨u,hu,ru⟩:=r.get (ac' hy)
  have gen:∀{ys:List V} {ks:List (List Key)} (k:Nat) (hy:k<ys.length) (hk2:k<ks.length),aU' X.K H ys ks->∃a,ys[k]=V.ref a/\H a=some (.tup (ks[k].map kV)):=λ{ys ks} k hy hk2 t=>by
   induction t generalizing k with
   |nil=>exact absurd hy Z2
   |cons h t ih=>
    cases k with
    |zero=>exact h
    |succ k=>exact ih k (by simpa using hy) (by simpa using hk2)
  obtain⟨a,e,sq⟩:=gen k hy hk2 t;obtain⟨its,ri,ti,_⟩:=I.tuple (SqT.of sq);rw[e] at ru;cases ru;have e2:ks.getD k []=ks[k]:=by simp[hk2]
  refine⟨a,its,by simp[hu],by rw[e2];exact ri,ti.keeps kp,?_⟩;rw[e2];exact List.getElem_mem hk2
 obtain⟨hne,hal⟩:=al
 obtain⟨c,sh',rfl⟩:∃c sh',sh=c::sh':=by
  cases sh with
  |nil=>exact absurd rfl hne
  |cons c sh'=>exact⟨c,sh',rfl⟩
 refine⟨tuples' true,λQ q=>?_,λi j C hi hj hC=>?_⟩
 ·have firsts:∀l:List Aa,(∀v∈l,∃(a:Addr) (its:List Aa) (k:List Key),v=.ref a/\Vals (k.map kV) its/\IsTup s'.heap a its.toArray/\k.map isS=c::sh')->∃fs,KatTups s'.heap l fs/\fs.length=l.length/\∀v∈fs,Looks (model X.prog X.w) s'.heap (typeOf v) (.type (if c then "str" else "int")):=λl=>by
   induction l with
   |nil=>exact λ_=>⟨[],.nil,rfl,λ_ h=>nomatch h⟩
   |cons v l ih=>
    intro h;obtain⟨fs,h1,h2,h3⟩:=ih λv hv=>h v (ag' _ hv);obtain⟨a,its,k,rfl,rv,⟨o,ho,hc,n,hd⟩,hk⟩:=h v an'
    match k,its,rv,hk with
    |k0::k,u::its,.cons r0 _,hk=>
     refine⟨u::fs,.cons ho hc hd Z2 h1,by simp[h2],λv hv=>?_⟩;rcases aj'.mp hv with e|hv
     ·subst e;have e0:=(List.cons.inj hk).1;cases k0 with
      |inl i=>
       obtain⟨t,rfl⟩:=r0;rw[<- e0];exact .now
      |inr x=>
       obtain⟨t,rfl⟩:=r0;rw[<- e0];exact .now
     ·exact h3 v hv
  obtain⟨fs,h1,h3,h4⟩:=firsts vs λv hv=>by
   obtain⟨k,hk,rfl⟩:=aD' hv;obtain⟨a,its,e,rv,ti,m⟩:=look k hk;refine⟨a,its,_,?_,rv,ti,hal _ m⟩;rw[<- e];simp[hk]
  refine kat_kind h1 Z1 h4 (by cases c<;>decide) ?_
  have e:((Value.type (if c then "str" else "int")) != Value.type "tuple")=true:=by cases c<;>decide
  rw[e];exact q
 ·unfold kas_ask;obtain⟨a,its,e1,r1,⟨o,ho,_,n,hd⟩,m1⟩:=look i hi;obtain⟨b,its2,e2,r2,⟨o2,ho2,_,n2,hd2⟩,m2⟩:=look j hj;rw[e1,e2];refine kat_lt ho hd ho2 hd2 ?_;have l1:=r1.length;have l2:=r2.length;have l3:=b_7 List.length ((hal _ m1).trans (hal _ m2).symm);simp only[aa'] at l1 l2 l3;rw[show decide (its.toArray.size<its2.toArray.size)=false by simp;omega];exact cn_ 0 r1 r2 ((hal _ m1).trans (hal _ m2).symm) hC
end L2
namespace EvD
open PySem PySem.W PyProof.Rows
def Raw(h:Heap)(d:Addr)(es:Array DictEntry)(ep:Nat):Prop:=∃o,h.get? d=some o/\o.ExactDict/\o.data=.dict es ep
variable{h h':Heap}{d:Addr}{es:Array DictEntry}{ep:Nat}
theorem Raw.stay(x:Raw h d es ep)(k:∀o,h.get? d=some o->h'.get? d=some o):Raw h' d es ep:=let ⟨o,e,r⟩:=x;⟨o,k o e,r⟩
variable{s:Ab}
theorem Raw.ty(x:Raw s.heap d es ep):s.TypeIs (.ref d) "dict":=let ⟨o,e,c,_⟩:=x;⟨o,e,c.1⟩
variable{prog:Ad}{w:Af}{A:Ag}{E:Aa->Ab->Prop}
theorem gG_{Q:Aa->Ab->Prop}(hd:(d == sysModules)=false)(x:Raw s.heap d es ep)(q:Q (.ref s.heap.objs.size) { s with heap:=s.heap.push { cls:=.type "dict_keyiterator",data:=.fields #[.ref d,.int 0 0,.int es.size 0,.int ep 0] } }) :
  wpAny (model prog w) A (pyIter (.ref d)) Q E s:=by
 obtain⟨o,ho,hc,hdat⟩:=id x;refine wpAny_pyIter_slot x.ty F.slot_dict_iter (wpAny_call_entry F.slot_dict_iter x.ty F.entry_dict_iter ?_ (F.args_dict_iter_1 _));unfold Builtin.«dict.__iter__» Builtin.Dict.dictSlotNone;refine a__ (a__ (wpAny_notOrdered_dict x.ty (show wpAny _ _ (pure (Value.ref d)) _ _ s from a_1 (show wpAny _ _ (Builtin.Dict.showsAll d >>= _) _ _ s from ?_))));unfold Builtin.Dict.showsAll;rw[a_6 (by rw[hd];decide)];refine a__ (a_1 (a__ (wpAny_dictEntries ho hdat (a__ (wpAny_dictEpoch ho hdat (a__ (c_0 (a_1 ⟨_,rfl,"dict_keyiterator",_,⟨_,a_4 _ rfl,rfl⟩,F.slot_dict_keyiterator_next.lookup,?_⟩))))))));exact q
variable{Q:Option Aa->Ab->Prop}{it:Addr}{i:Nat}
theorem gc_(hit:s.heap.IsKeyIter it d i es.size ep)(x:Raw s.heap d es ep)(hi:i<es.size)(q:∀h',h'.IsKeyIter it d (i+1) es.size ep->Heap.SameBut it s.heap h'->Q (some es[i].key) { s with heap:=h' }):wpAny (model prog w) A (pyNext (.ref it)) Q E s:=by
 obtain⟨o,ho,hc,hd⟩:=id hit;obtain⟨od,hod,hcd,hdd⟩:=id x;unfold pyNext;refine a__ (wpAny_attempt (wpAny_callSpecial?_slot (name:=Str.ofString "__next__") hit.typeIs F.slot_dict_keyiterator_next (wpAny_call_entry F.slot_dict_keyiterator_next hit.typeIs F.entry_dict_keyiterator_next ?_ (F.args_dict_keyiterator_next_1 _))));refine a__ (a_1 (a__ (a__ ?_)))
 first|refine a__ (wpAny_typeNameOfWhole_keyiter hit.typeIs (a_1 (a__ (wpAny_fieldsOf ho hd ?_))))|refine a__ (wpAny_typeNameOf_keyiter hit.typeIs (a_1 (a__ (wpAny_fieldsOf ho hd ?_))))
 simp only[show Builtin.Dict_items.ownsTuple "dict_keyiterator"=false by decide,Bool.false_eq_true,if_false];refine (show wpAny _ _ (if (Value.ref d == Value.none)=true then _ else _) _ _ s from ?_);rw[a_6 (λz=>by cases z)];refine a__ (a_1 (a__ (wpAny_dictEntries hod hdd ?_)));rw[a_6 Z2];refine a__ (a_1 (a__ (wpAny_dictEpoch hod hdd ?_)));rw[a_6 Z2];refine a_1 ?_;simp only[show ¬((i:Int)<0) from by omega,if_false,Int.toNat_natCast,Array.getElem?_eq_getElem hi];refine a__ ?_
 first|refine a__ (wpAny_typeNameOfWhole_keyiter hit.typeIs (a_1 (a__ (wpAny_isOneOf_keyiter hit.typeIs ?_))))|refine a__ (wpAny_typeNameOf_keyiter hit.typeIs (a_1 (a__ (wpAny_isOneOf_keyiter hit.typeIs ?_))))
 refine (show wpAny _ _ (setField (.ref it) 1 (rawInt ((i:Int)+1)) >>= _) _ _ s from a__ (wpAny_setField ho hd Z2 ?_))
 have turned:(s.heap.update it (Obj.mapFields (·.setIfInBounds 1 (rawInt ((i:Int)+1))))).IsKeyIter it d (i+1) es.size ep:=
  ⟨_,Heap.get?_update_self _ ho (Obj.isFreed_of_fields (Obj.data_mapFields hd _)),(Obj.cls_mapFields ..).trans hc,by rw[Obj.data_mapFields hd];simp[rawInt]⟩
 refine a__ (wpAny_holding (a__ (wpAny_isOneOf_keyiter (s:={ s with heap:=s.heap.update it (Obj.mapFields (·.setIfInBounds 1 (rawInt ((i:Int)+1)))) }) turned.typeIs ?_)));exact (show wpAny _ _ (pure es[i].key) _ _ _ from a_1 (a_1 ⟨_,rfl,a_1 (q _ turned (Heap.SameBut.update ..))⟩))
theorem gt_(hh:A.handled=none)(hit:s.heap.IsKeyIter it d es.size es.size ep)(x:Raw s.heap d es ep)(q:∀h',Heap.ExtBut it s.heap h'->Q none { s with heap:=h' }):wpAny (model prog w) A (pyNext (.ref it)) Q E s:=by
 obtain⟨o,ho,hc,hd⟩:=id hit;obtain⟨od,hod,hcd,hdd⟩:=id x;unfold pyNext;refine a__ (wpAny_attempt (wpAny_callSpecial?_slot (name:=Str.ofString "__next__") hit.typeIs F.slot_dict_keyiterator_next (wpAny_call_entry F.slot_dict_keyiterator_next hit.typeIs F.entry_dict_keyiterator_next ?_ (F.args_dict_keyiterator_next_1 _))));refine a__ (a_1 (a__ (a__ ?_)))
 first|refine a__ (wpAny_typeNameOfWhole_keyiter hit.typeIs (a_1 (a__ (wpAny_fieldsOf ho hd ?_))))|refine a__ (wpAny_typeNameOf_keyiter hit.typeIs (a_1 (a__ (wpAny_fieldsOf ho hd ?_))))
 simp only[show Builtin.Dict_items.ownsTuple "dict_keyiterator"=false by decide,Bool.false_eq_true,if_false];refine (show wpAny _ _ (if (Value.ref d == Value.none)=true then _ else _) _ _ s from ?_);rw[a_6 (λz=>by cases z)];refine a__ (a_1 (a__ (wpAny_dictEntries hod hdd ?_)));rw[a_6 Z2];refine a__ (a_1 (a__ (wpAny_dictEpoch hod hdd ?_)));rw[a_6 Z2];refine a_1 ?_;simp only[show ¬((es.size:Int)<0) from by omega,if_false,Int.toNat_natCast,Array.getElem?_eq_none (ad' _)];refine a__ ?_
 first|refine a__ (wpAny_typeNameOfWhole_keyiter hit.typeIs (a_1 ?g))|refine a__ (wpAny_typeNameOf_keyiter hit.typeIs (a_1 ?g))
 refine (show wpAny _ _ (setField (.ref it) 0 .none >>= _) _ _ s from a__ (wpAny_setField ho hd Z2 (show wpAny _ _ (newExc (.type "StopIteration") [] >>= _) _ _ _ from a__ ?_)));simp only[newExc,newTuple];refine a__ (c_0 (a__ (m:=firstArgMember _ _) (wpAny_of_eq (a:=Value.none) (by first|rfl|(simp only[firstArgMember];rfl)) (c_0 ?_ (by size_fits)))) (by size_fits));simp only[raiseNew];refine a__ (wpAny_handled ?_);rw[show A.in1.handled=none from hh];refine a__ (a_1 (wpAny_throw ?_));exact a__ (wpAny_isInstance (T:="StopIteration") (b:=true) ⟨_,a_4 _ rfl,rfl⟩ isSubtype_stop (a_1 (q _ (((Heap.SameBut.update ..).extBut.push _).push _))))
theorem g8_(hh:A.handled=none)(I d:Addr)(hne:d≠I)(es:Array DictEntry)(ep:Nat) :
  Walks prog w A I [I,d] [I] es.size (λi v=>∃h:i<es.size,v=es[i].key) (λi h=>h.IsKeyIter I d i es.size ep/\Raw h d es ep) where
 sub:=λb hb=>by simp only[aN'] at hb;simp[hb]
 frame:=λ_ _ _ st k=>⟨st.1.at λo e=>k I Z2 o e,st.2.stay λo e=>k d Z2 o e⟩
 item:=λi s Q E hi st hQ=>gc_ st.1 st.2 hi λh' hit' hs'=>hQ _ h' s.toks ⟨hi,rfl⟩ ⟨hit',st.2.stay λo e=>hs'.extBut d o hne e⟩ λb o hb e=>hs'.extBut b o (λh=>hb (by simp[h])) e
 done:=λs Q E st hQ=>gt_ hh st.1 st.2 λh' he'=>hQ h' s.toks λb o hb e=>he' b o (λh=>hb (by simp[h])) e
 self:=λ_ _ _ _ st hQ=>wpAny_pyIter_keyiter st.1 hQ
theorem hP_(lo:(d == sysModules)=false):KdlSrc prog w "dict" d d es.size (λi v=>∃h:i<es.size,v=es[i].key) (λh=>Raw h d es ep) where
 type:=λs x=>x.ty
 there:=λh x=>let ⟨o,e,_⟩:=x;⟨a_3 e,a_3 e⟩
 keep:=λh h' x k=>x.stay λo e=>k d (.inl rfl) o e
 notList:=by decide
 notTuple:=by decide
 hint:=λ_ _ s _ x q=>kdl_hint_dict x.ty q
 iter:=λA s hh x=>⟨_,_,λE Q q=>gG_ lo x q,g8_ hh _ d (let ⟨o,e,_⟩:=x;aw' (a_3 e)) es ep,⟨⟨_,a_4 _ rfl,rfl,rfl⟩,x.stay λo e=>a_0 _ e⟩⟩
theorem cs_:typeLookup (.type "list") "keys"=pure none:=by rw[typeLookup_type,builtinLookup_eq_fast];kernel_rfl
variable{a:Addr}{xs:Array Aa}{k:Nat}{tk:Tok}{R:Result->Ab->Prop}
theorem gb_(hx:s.heap.get? a=some (seqObj "list" xs k))(h:raisesAttr (.ref a) "keys" A R s) :
  codeAny (model prog w) A (.call (.builtin "list.__getattribute__") ⟨[.ref a,.str "keys" tk],[]⟩) R s:=by
 refine codeAny_call_builtin F.slot_list_getattribute.plain am_entry_list_getattribute (F.slot_list_getattribute.check _ _ _ _ _ _ _ _ ⟨_,hx,rfl⟩ (F.args_list_getattribute_2 _ _) ?_);exact meets_getattribute_miss_list a xs k #[] "keys" tk cs_ (by decide) (by size_fits) prog w A R s ⟨hx,h⟩
theorem noKeys(hx:s.heap.get? a=some (seqObj "list" xs k))(hA:A.handled=none)(h:∀h' tk,(∀b o,s.heap.get? b=some o->h'.get? b=some o)->Q none { s with heap:=h',toks:=tk }):wpAny (model prog w) A (getAttr? (.ref a) "keys") Q E s:=by
 obtain⟨hp,g,d,tk,os⟩:=s;have ty:∀tk',(⟨hp,g,d,tk',os⟩:Ab).TypeIs (.ref a) "list":=λ_=>⟨_,hx,rfl⟩;have f1:=sub_AttributeError;have f2:=F.slot_list_getattribute.lookup;have f3:=F.slot_list_getattribute.bind (.ref a);have f4:=am_list_getattr_none;unfold getAttr? getAttrBy? getAttrBy
 repeat (any_goals (first|assumption|exact ty _|wp_step))
 refine gb_ hx ⟨hA,λh' tk' e hx'=>?_⟩;obtain⟨t',u',he⟩:=hx'.there;show wpAny _ _ (getattributeRaised _ _ _ _ _ _ _) _ _ _;unfold getattributeRaised
 repeat (any_goals (first|assumption|wp_step))
 exact h _ _ hx'.keeps
theorem du_:entryFor table "dict.update.loop"=some Builtin.«dict.update.loop»:=entryFor_of_tree (by kernel_rfl)
theorem bG_:plainId "dict.update.loop"=true:=by decide +kernel
theorem h8_(d it:Addr)(i:Int)(tk:Tok):Builtin.«dict.update.loop» ⟨[.ref d,.ref it,.int i tk,.none],[]⟩=(do
  let r <- pyNext (.ref it)
  match r with
  |none=>do Builtin.Dict.addKeywords d [];ret .none
  |some item=>do
   holding [item] (do
    let pair <- (Builtin.Dict.pairItems item).tryCatch λe=>do
     if !(<- isInstance e (.type "TypeError")) then throw e
     rule "dict.update.element-no-sequence"
     raiseError "TypeError" s!"cannot convert dictionary update sequence element #{i} to a sequence"
    match pair with
    |[k,v]=>holding [k,v] (dictSet d k v)
    |l=>do
     rule "dict.update.element-length"
     raiseError "ValueError" s!"dictionary update sequence element #{i} has length {l.length}; 2 is required")
   again (.builtin "dict.update.loop" ⟨[.ref d,.ref it,rawInt (i+1),.none],[]⟩)):=by
 unfold Builtin.«dict.update.loop»;refine b_7 (λf=>pyNext (.ref it) >>= f) (funext λr=>?_);cases r<;>rfl
section
variable{prog:Ad}{w:Af}{K:Type}[DecidableEq K]{knd:PySem.KeyKind prog w K}{A:Ag}
def cM'(knd:PySem.KeyKind prog w K)(h:Heap):List Aa->List (K × Aa)->Prop:=Paired λv p=>∃a key,v=.ref a/\IsTup h a #[key,p.2]/\knd.is p.1 key=true
def mergeP(kvs:List (K × Aa))(ps:List (K × Aa)):List (K × Aa):=ps.foldl (λacc p=>stored acc p.1 p.2) kvs
theorem ew_(kvs:List (K × Aa))(k:K)(v:Aa):(stored kvs k v).length<=kvs.length+1:=by
 unfold stored;split
 ·simp
 ·simp
theorem c8_{b l:Addr}{ys:Array Aa}(t:IsTup h b ys)(q:h.IsListIter it l i):b≠it:=λz=>by
 obtain⟨o,ho,hc,_⟩:=t;obtain⟨o2,ho2,hc2,_⟩:=q;subst z;rw[ho] at ho2;cases ho2;rw[hc] at hc2;exact absurd hc2 (by decide)
theorem dR_{b:Addr}{ys:Array Aa}{kvs:List (K × Aa)}(t:IsTup h b ys)(q:h.DictOf knd d kvs):b≠d:=λz=>by
 obtain⟨o,ho,hc,_⟩:=t;obtain⟨o2,es,ep,ho2,hc2,_⟩:=q;subst z;rw[ho] at ho2;cases ho2;have hc3:=hc2.1;rw[hc] at hc3;exact absurd hc3 (by decide)
theorem do_{kvs:List (K × Aa)}(q:h.DictOf knd d kvs)(k:∀o,h.get? d=some o->h'.get? d=some o):h'.DictOf knd d kvs:=by
 obtain⟨o,es,ep,ho,r⟩:=q;exact⟨o,es,ep,k _ ho,r⟩
theorem gB_{l:Addr}{its:List Aa}{key x:Aa}{k:K}{kvs:List (K × Aa)}(hdi:d≠it)(hi:its.toArray[i]? = some (.ref a))(ht:IsTup s.heap a #[key,x])(hk:knd.is k key=true)(hit:s.heap.IsListIter it l i)(hl:s.heap.IsList l its.toArray)(hd:s.heap.DictOf knd d kvs)(hz:kvs.length<=1000)(hR:∀h2,h2.DictOf knd d (stored kvs k x)->(∀b o,b≠d->b≠it->s.heap.get? b=some o->h2.get? b=some o)->h2.IsListIter it l (i+1)->codeAny (model prog w) A (.builtin "dict.update.loop" ⟨[.ref d,.ref it,rawInt ((i:Int)+1),.none],[]⟩) R { s with heap:=h2,toks:=s.toks+1 }) :
  codeAny (model prog w) A (.builtin "dict.update.loop" ⟨[.ref d,.ref it,.int i tk,.none],[]⟩) R s:=by
 refine codeAny_builtin du_ ?_;rw[Around.under_plainId bG_ _,h8_];refine a__ (wpAny_pyNext_list_item hit hl hi λh1 hit1 hs1=>?_);obtain⟨ot,hot,hct,nt,hdt⟩:=id ht;have hot1:h1.get? a=some ot:=hs1.extBut _ _ (c8_ ht hit) hot;refine a__ (wpAny_holding (a__ (wpAny_tryCatch ?_)));unfold Builtin.Dict.pairItems;refine a__ (wpAny_typeOf (T:="tuple") ⟨ot,hot1,hct⟩ ?_);rw[a_9 (by decide)];unfold seqItems?;refine a__ (a__ (wpAny_load hot1 ?_));rw[hdt];refine a_1 (a_1 ?_);refine (show wpAny _ _ (holding [key,x] (dictSet d key x)) _ _ _ from wpAny_holding (wpAny_dictSet_pairs hk (do_ hd λo q=>hs1.extBut _ _ hdi q) (λh2 hd2 hs2=>?_) (by have:=b__;omega)));exact a_1 ⟨plainId_quiet bG_ _,hR h2 hd2 (λb o h3 h4 q=>hs2.extBut _ _ h3 (hs1.extBut _ _ h4 q)) (hit1.extBut hs2.extBut (Ne.symm hdi))⟩
theorem i1_{l:Addr}{its:List Aa}{kvs:List (K × Aa)}(hdi:d≠it)(hh:A.handled=none)(hi:its.toArray[i]? = none)(hit:s.heap.IsListIter it l i)(hl:s.heap.IsList l its.toArray)(hd:s.heap.DictOf knd d kvs)(hR:∀h',h'.DictOf knd d kvs->(∀b o,b≠it->s.heap.get? b=some o->h'.get? b=some o)->R (.ok (.ret .none)) { s with heap:=h' }) :
  codeAny (model prog w) A (.builtin "dict.update.loop" ⟨[.ref d,.ref it,.int i tk,.none],[]⟩) R s:=by
 refine codeAny_builtin du_ ?_;rw[Around.under_plainId bG_ _,h8_];refine a__ (wpAny_pyNext_list_end hh hit hl hi λh' he=>?_);exact a__ (m:=Builtin.Dict.addKeywords d []) (a_1 (a_1 (hR h' (do_ hd λo q=>he _ _ hdi q) λb o hb q=>he b o hb q)))
theorem iF_{l:Addr}(hil:l≠it)(hdi:d≠it)(hdl:d≠l)(hh:A.handled=none){its:List Aa}(rest:List Aa):∀(ps:List (K × Aa)) (i:Nat) (kvs:List (K × Aa)) (s:Ab) (R:Result->Ab->Prop) (tk:Tok),its.drop i=rest->cM' knd s.heap rest ps->
  s.heap.IsListIter it l i->s.heap.IsList l its.toArray->s.heap.DictOf knd d kvs->kvs.length+ps.length<=1000->
  (∀h' tk',h'.DictOf knd d (mergeP kvs ps)->(∀b o,b≠d->b≠it->s.heap.get? b=some o->h'.get? b=some o)->R (.ok (.ret .none)) { s with heap:=h',toks:=tk' })->
  codeAny (model prog w) A (.builtin "dict.update.loop" ⟨[.ref d,.ref it,.int i tk,.none],[]⟩) R s:=by
 induction rest with
 |nil=>
  intro ps i kvs s R tk e hp hit hl hd hz hR;cases hp
  have hi:its.toArray[i]? = none:=by
   have:=b_7 List.length e;simp only[List.length_drop,List.length_nil] at this;simp;omega
  exact i1_ hdi hh hi hit hl hd λh' hd' kp=>hR h' s.toks hd' λb o _ hb q=>kp b o hb q
 |cons v rest ih=>
  intro ps i kvs s R tk e hp hit hl hd hz hR;cases hp with
  |@cons _ p _ ps h0 hr=>
  obtain⟨a,key,hv,ht,hk⟩:=h0;obtain⟨k,x⟩:=p;subst hv
  have hi:its.toArray[i]? = some (.ref a):=by
   have q:(its.drop i)[0]? = some (.ref a):=by rw[e];rfl
   rw[List.getElem?_drop] at q;simpa using q
  have e':its.drop (i+1)=rest:=by
   rw[<- List.drop_drop,e];rfl
  simp only[aI'] at hz;refine gB_ hdi hi ht hk hit hl hd Z1 λh2 hd2 kp hit2=>?_;have c1:((i:Int)+1)=((i+1:Nat):Int):=by omega
  rw[c1];refine ih ps (i+1) (stored kvs k x) _ R 0 e' (L2.Paired.mapP hr λv p ⟨b,ky,e1,t1,k1⟩=>⟨b,ky,e1,?_,k1⟩) hit2 (hl.at λo q=>kp _ _ (Ne.symm hdl) hil q) hd2 (by have:=ew_ kvs k x;omega) λh' tk' hd' kp'=>hR h' tk' hd' λb o h3 h4 q=>kp' b o h3 h4 (kp b o h3 h4 q);obtain⟨o,ho,r⟩:=id t1;exact⟨o,kp _ _ (dR_ t1 hd) (c8_ t1 hit) ho,r⟩
theorem d8_{l:Addr}{its:List Aa}{n:Nat}{ps:List (K × Aa)}{Q:Aa->Ab->Prop}(hh:A.handled=none)(ho:s.heap.get? l=some (seqObj "list" its.toArray n))(hp:cM' knd s.heap its ps)(hz:ps.length<=1000)(h:∀h' tk',h'.DictOf knd s.heap.objs.size (mergeP [] ps)->(∀b o,s.heap.get? b=some o->h'.get? b=some o)->Q (.ref s.heap.objs.size) { s with heap:=h',toks:=tk' }) :
  wpAny (model prog w) A (call (.type "dict") [.ref l]) Q E s:=by
 refine callType_codes (Q₁:=λobj s₁=>obj=.ref s.heap.objs.size/\s₁={ s with heap:=s.heap.push { cls:=.type "dict",data:=.dict #[] } }) F.kt_called_dict (F.kt_typeCall_dict_1 _) F.entry_dict_init (kt_code_dict_new _ ⟨rfl,rfl⟩) ?_;rintro obj s₁ ⟨rfl,rfl⟩;have hnew:(s.heap.push { cls:=.type "dict",data:=.dict #[] }).DictOf knd s.heap.objs.size []:=Heap.DictOf.new s.heap;have hl1:(s.heap.push { cls:=.type "dict",data:=.dict #[] }).get? l=some (seqObj "list" its.toArray n):=a_0 _ ho;refine⟨hnew.typeIs,F.args_dict_init_2 _ _,?_⟩;unfold Builtin.«dict.__init__» Builtin.Dict.selfAndRest;refine a__ (a__ (wpAny_notOrdered_dict hnew.typeIs ?_));refine (show wpAny _ _ (pure (s.heap.objs.size,[Value.ref l])) _ _ _ from a_1 ?_);refine (show wpAny _ _ (Builtin.Dict.updateFrom "dict.__init__" s.heap.objs.size (.ref l) [] .none) _ _ _ from ?_);unfold Builtin.Dict.updateFrom;refine a__ (wpAny_typeOf (T:="list") ⟨_,hl1,rfl⟩ ?_);rw[a_9 (by decide)];refine a__ (noKeys hl1 hh λh2 tk2 k2=>?_);simp only[Option.isNone_none,if_true];have hl2:h2.get? l=some (seqObj "list" its.toArray n):=k2 _ _ hl1;refine a__ (wpAny_rule (a__ (wpAny_pyIter_list ⟨_,hl2,rfl,_,rfl⟩ ?_)));refine a_1 ⟨plainId_quiet bG_ _,?_⟩;have all:∀{b o},s.heap.get? b=some o->(h2.push { cls:=.type "list_iterator",data:=.fields #[.ref l,.int 0 0] }).get? b=some o:=λq=>a_0 _ (k2 _ _ (a_0 _ q))
 have hd2:h2.DictOf knd s.heap.objs.size []:=by
  obtain⟨o,es,ep,ho,r⟩:=hnew;exact⟨o,es,ep,k2 _ _ ho,r⟩
 have sz2:s.heap.objs.size<h2.objs.size:=by
  obtain⟨o,es,ep,ho,r⟩:=hd2;exact a_3 ho
 have lz:l<s.heap.objs.size:=a_3 ho
 refine iF_ (A:=A.in1) (knd:=knd) (its:=its) (it:=h2.objs.size) (l:=l) (d:=s.heap.objs.size) (aw' (Nat.lt_trans lz sz2)) (aw' sz2) (aR' lz) hh its ps 0 [] _ _ 0 rfl (L2.Paired.mapP hp λv p ⟨b,ky,e1,t1,k1⟩=>⟨b,ky,e1,t1.keeps λb o q=>all q,k1⟩)
  ⟨_,a_4 _ rfl,rfl,rfl⟩ ⟨_,a_0 _ hl2,rfl,_,rfl⟩ (by
   obtain⟨o,es,ep,ho,r⟩:=hd2;exact⟨o,es,ep,a_0 _ ho,r⟩) (by simpa using hz) λh' tk' hd' kp=>⟨rfl,h h' tk' hd' λb o q=>?_⟩
 have bl:b<s.heap.objs.size:=a_3 q;exact kp b o (aw' bl) (aw' (Nat.lt_trans bl sz2)) (all q)
end
end EvD
namespace L2
open PySem PySem.Spec PyProof.Rows PySem.W EvS EvD
variable{ys:List V}
theorem aU'.same{K:F__}{H H':Hp}{ks:List (List Key)}(t:aU' K H ys ks)(e:Same H H'):aU' K H' ys ks:=Paired.mapP t λy k ⟨a,z,q⟩=>⟨a,z,e _ _ q⟩
theorem Same.new{H:Hp}{l:Addr}{o:HO}(h:H l=none):Same H (upd H l o):=λb u e=>by rw[a5_ (a7_ e h)];exact e
section
variable{X:Cx}{pins:List (Addr × Obj)}{σ:St}{H H':Hp}{s:Ab}{h':Heap}{t':Nat}
theorem Inv.many(I:Inv X pins σ H s)(k:∀b o,s.heap.get? b=some o->h'.get? b=some o)(hold:Same H H')(hnew:∀b,H b=none->b<s.heap.objs.size->H' b=none)
  (hob:∀b o,H' b=some o->H b=none->∃xs its,o=.tup xs/\xs.length<=sizeLine/\Vals xs its/\IsTup h' b its.toArray/\∃o,h'.get? b=some o/\o.dict=none):Inv X pins σ H' { s with heap:=h',toks:=t' }:=by
 refine I.un ⟨λb o q _ _ _=>k b o q,λb o q _ _ _=>⟨o.slots,k b o q⟩,λb o q n _=>hnew b n (a_3 q),λb o q _=>⟨o,k b o q⟩,λb xs q=>hold b _ q,λb o u q=>hold b _ q,λb ps q=>⟨#[],by rw[Array.append_empty];exact hold b _ q⟩⟩ λb o q=>?_;cases e:H b with
 |some u=>
  have e2:=hold b u e;rw[q] at e2;cases e2;exact (I.hok b o e).stay (λc v _ z=>k c v z) (λc z=>hold c _ z) λc xs z=>hold c _ z
 |none=>
  obtain⟨xs,its,rfl,z,r,t⟩:=hob b o q e;exact⟨z,its,r,t⟩
end
section
variable{X:Cx}{pins:List (Addr × Obj)}{σ:St}{H:Hp}{s:Ab}{A:Ag}{E:Aa->Ab->Prop}
theorem e1_{p:Addr}{R:List Aa->Ab->Prop}(I:Inv X pins σ H s)(h:SqL X.K H p ys)(hz:ys.length<=100000)(q:∀vs s1,Inv X pins σ H s1->Vals ys vs->R vs s1):wpAny (model X.prog X.w) A (collect (.ref p)) R E s:=by
 obtain⟨its,r,pl,_⟩:=I.list h;have hl:=r.length;refine collect_list pl.isList (q its _ ?_ r) (by have:=b__;omega);refine I.kept (t':=s.toks) λb u e=>?_;have lt:b<s.heap.objs.size:=a_3 e;rw[Heap.get?_update_ne _ _ _ _ (aw' lt)];exact a_0 _ e
theorem bo_{P:Nat->Aa->Prop}{acc:Array Aa}(h:ItemsOf P acc ys.length)(hp:∀(j:Nat) v,P j v->∀y,ys[j]? = some y->RelV y v):Vals ys acc.toList:=by
 have gen:∀(ys:List V) (vs:List Aa),ys.length=vs.length->(∀(j:Nat) y v,ys[j]? = some y->vs[j]? = some v->RelV y v)->Vals ys vs:=λys=>by
  induction ys with
  |nil=>
   intro vs hl _;cases vs with
   |nil=>exact .nil
   |cons _ _=>cases hl
  |cons y ys ih=>
   intro vs hl h;cases vs with
   |nil=>cases hl
   |cons v vs=>exact .cons (h 0 y v rfl rfl) (ih vs (by simpa using hl) λj y v a b=>h (j+1) y v (by simpa using a) (by simpa using b))
 refine gen ys acc.toList (by rw[aL'];exact h.1.symm) λj y v a b=>hp j v (h.2 j v ?_) y a;rw[<- Array.getElem?_toList];exact b
theorem hi_{d:Addr}{kvs:List (Key × V)}(I:Inv X pins σ H s)(h:Rd H d (.dK kvs)):∃(P:Nat->Aa->Prop) (OK:Heap->Prop),KdlSrc X.prog X.w "dict" d d (kvs.map λkv=>kV kv.1).length P OK/\OK s.heap/\∀(j:Nat) v,P j v->∀y,(kvs.map λkv=>kV kv.1)[j]? = some y->RelV y v:=by
 obtain⟨z,hd,vs,rel,dd⟩:=bF_ I.hok h;obtain⟨ep,dat⟩:=dd.dictAt;have hl:=rel.length;refine⟨λi v=>∃k x,vs[i]? = some (k,x)/\(aV' X.prog X.w).is k v=true,λh=>h.DictAt (aV' X.prog X.w) d vs ep,(by rw[aa',hl];exact kdl_dict (knd:=aV' X.prog X.w) (kvs:=vs) (ep:=ep) hd),dat,λj v ⟨k,x,e,hk⟩ y hy=>?_⟩;rw[am'] at hy;have ek:kvs.map (·.1)=vs.map (·.1):=rel.keys;have e2:(kvs.map (·.1))[j]? = (vs.map (·.1))[j]?:=by rw[ek]
 rw[am',am',e] at e2;cases e3:kvs[j]? with
 |none=>rw[e3] at e2;cases e2
 |some kv=>
  rw[e3] at e2 hy;have e4:kv.1=k:=a_8 e2;have e5:kV kv.1=y:=a_8 hy;rw[<- e5,e4];have hk:cl' k v=true:=hk;rcases an_ hk with⟨i,t,rfl,rfl⟩|⟨x,t,rfl,rfl⟩
  ·exact⟨t,rfl⟩
  ·exact⟨t,rfl⟩
theorem iw_{d:Addr}{kvs:List (Key × V)}{R:List Aa->Ab->Prop}(hh:A.handled=none)(I:Inv X pins σ H s)(h:Rd H d (.dK kvs))(q:∀vs s1,Inv X pins σ H s1->Vals (kvs.map λkv=>kV kv.1) vs->R vs s1):wpAny (model X.prog X.w) A (collect (.ref d)) R E s:=by
 obtain⟨P,OK,S,ok,hp⟩:=hi_ I h;refine kdu_collect S hh ok ?_ λh' tk acc k a=>q _ _ (I.kept k) (bo_ a hp);rw[aa'];exact (bF_ I.hok h).1
theorem i9_{d:Addr}{kvs:List (List Key × V)}(I:Inv X pins σ H s)(h:Rd H d (.dT kvs)):∃(ys:List V) (P:Nat->Aa->Prop) (OK:Heap->Prop),aU' X.K H ys (kvs.map (·.1))/\ys.length<=sizeLine/\KdlSrc X.prog X.w "dict" d d ys.length P OK/\OK s.heap/\∀(j:Nat) v,P j v->∀y,ys[j]? = some y->RelV y v:=by
 obtain⟨z,hd,xs,rel,o,es,ep,ho,hc,hdat,hes,nd⟩:=h.ok I.hok
 have l1:es.size=xs.length:=by
  have:=b_7 List.length hes;simpa using this
 have l2:=a_5 rel;refine⟨xs.map λx=>V.ref x.2.1,λi v=>∃h:i<es.size,v=es[i].key,λh=>Raw h d es ep,?_,by rw[aa'];omega,(by rw[aa',<- l1];exact hP_ (es:=es) (ep:=ep) hd),⟨o,ho,hc,hdat⟩,λj v ⟨hj,e⟩ y hy=>?_⟩
 ·have gen:∀{kvs:List (List Key × V)} {xs:List (List Key × Addr × Aa)},KT H kvs xs->aU' X.K H (xs.map λx=>V.ref x.2.1) (kvs.map (·.1)):=λ{kvs xs} r=>by
   induction r with
   |nil=>exact .nil
   |cons h _ ih=>exact .cons ⟨_,rfl,h.2.1⟩ ih
  exact gen rel
 ·rw[am'] at hy;have hx:j<xs.length:=by omega
  rw[ac' hx] at hy;have e1:V.ref xs[j].2.1=y:=a_8 hy
  have e2:es[j]=entryOfKey (tupleKind (aV' X.prog X.w)) xs[j]:=by
   have e3:es.toList[j]? = (xs.map (entryOfKey (tupleKind (aV' X.prog X.w))))[j]?:=by rw[hes]
   rw[am',ac' hx,Array.getElem?_toList,Array.getElem?_eq_getElem hj] at e3;exact a_8 e3
  rw[<- e1,e,e2];rfl
theorem im_{d:Addr}{kvs:List (List Key × V)}{R:List Aa->Ab->Prop}(hh:A.handled=none)(I:Inv X pins σ H s)(h:Rd H d (.dT kvs))(q:∀ys vs s1,Inv X pins σ H s1->Vals ys vs->aU' X.K H ys (kvs.map (·.1))->R vs s1):wpAny (model X.prog X.w) A (collect (.ref d)) R E s:=by
 obtain⟨ys,P,OK,t,z,S,ok,hp⟩:=i9_ I h;exact kdu_collect S hh ok z λh' tk acc k a=>q ys _ _ (I.kept k) (bo_ a hp) t
def a8'(v d:Addr):HO:=.ext λh=>h.IsItemsView v d
def a3'(v d:Addr):HO:=.ext λh=>h.IsValuesView v d
def a9'(K:F__)(H:Hp):List V->List (Key × V)->Prop:=Paired λy p=>∃a,y=V.ref a/\H a=some (.tup [kV p.1,p.2])
theorem fr_{v d:Addr}{kvs:List (Key × V)}{R:List Aa->Ab->Prop}(hh:A.handled=none)(I:Inv X pins σ H s)(hv:H v=some (a8' v d))(h:Rd H d (.dK kvs))(q:∀H1 ys vs s1,Inv X pins σ H1 s1->Same H H1->Vals ys vs->a9' X.K H1 ys kvs->R vs s1) :
  wpAny (model X.prog X.w) A (collect (.ref v)) R E s:=by
 obtain⟨z,hd,vs,rel,dd⟩:=bF_ I.hok h;obtain⟨ep,dat⟩:=dd.dictAt;obtain⟨iv,_,_⟩:=I.hok v _ hv;have hl:=rel.length;refine kdx_collect (knd:=aV' X.prog X.w) (kvs:=vs) (ep:=ep) hh iv dat Z1 λh' tk as k la G=>?_;have up:∀b,b∈as->s.heap.objs.size<b:=G.above
 have at1:∀(j:Nat) b p,as[j]? = some b->kvs[j]? = some p->∃its,Vals [kV p.1,p.2] its/\IsTup h' b its.toArray/\∃o,h'.get? b=some o/\o.dict=none:=λj b p hj hp=>by
  obtain⟨key,kk,x,e1,e2,e3⟩:=G.pairs j b hj
  have gen:∀{kvs:List (Key × V)} {vs:List (Key × Aa)},KV kvs vs->∀(j:Nat),vs[j]? = some (kk,x)->kvs[j]? = some p->p.1=kk/\RelV p.2 x:=λ{kvs vs} r=>by
   induction r with
   |nil=>intro j e;simp at e
   |@cons p' q _ _ h _ ih=>
    intro j e e';cases j with
    |zero=>
     have e:q=(kk,x):=by simpa using e
     have e':p'=p:=by simpa using e'
     subst e';rw[e] at h;exact h
    |succ j=>exact ih j (by simpa using e) (by simpa using e')
  obtain⟨g1,g2⟩:=gen rel j e1 hp;refine⟨[key,x],.cons ?_ (.cons g2 .nil),⟨_,e3,rfl,_,rfl⟩,_,e3,rfl⟩;rw[g1];have e2:cl' kk key=true:=e2;rcases an_ e2 with⟨i,t,rfl,rfl⟩|⟨x,t,rfl,rfl⟩
  ·exact⟨t,rfl⟩
  ·exact⟨t,rfl⟩
 have look:∀{as:List Addr} {kvs:List (Key × V)},as.Pairwise (· < ·)->∀(j:Nat) b p,as[j]? = some b->kvs[j]? = some p->(as.zip kvs).lookup b=some p:=λ{as}=>by
  induction as with
  |nil=>intro kvs _ j b p e;simp at e
  |cons a as ih=>
   intro kvs pw j b p e e';cases kvs with
   |nil=>simp at e'
   |cons q kvs=>
    obtain⟨p1,p2⟩:=List.pairwise_cons.mp pw;show ((a,q)::as.zip kvs).lookup b=some p;cases j with
    |zero=>
     have e:a=b:=by simpa using e
     have e':q=p:=by simpa using e'
     subst e;subst e';rw[List.lookup_cons_self]
    |succ j=>
     have e:as[j]? = some b:=by simpa using e
     have e':kvs[j]? = some p:=by simpa using e'
     have lt:=p1 b (ai' e);rw[aJ',show (b == a)=false by simp only[beq_eq_false_iff_ne];exact aR' lt];exact ih p2 j b p e e'
 have lk:as.length=kvs.length:=by omega
 let H1:Hp:=λb=>if b∈as then ((as.zip kvs).lookup b).map λp=>HO.tup [kV p.1,p.2] else H b
 have h1in:∀(j:Nat) b p,as[j]? = some b->kvs[j]? = some p->H1 b=some (.tup [kV p.1,p.2]):=λj b p e e'=>by
  show (if b∈as then _ else _)=_;rw[a_9 (ai' e),look G.rise j b p e e'];rfl
 have h1out:∀b,b∉as->H1 b=H b:=λb hb=>a_6 hb;have old:∀b,b<s.heap.objs.size->b∉as:=λb hb m=>absurd (up b m) Z1;refine q H1 (as.map V.ref) _ _ (I.many (t':=tk) k (λb o e=>by rw[h1out b (old b (I.hok.lt e))];exact e) (λb e hb=>by rw[h1out b (old b hb)];exact e) λb o e e0=>?_) (λb o e=>by rw[h1out b (old b (I.hok.lt e))];exact e) ?_ ?_
 ·by_cases m:b∈as
  ·obtain⟨j,hj⟩:=List.mem_iff_getElem?.mp m
   have jl:j<kvs.length:=by
    have:=(ab'.mp hj).1;omega
   have e':=h1in j b kvs[j] hj (ac' jl);rw[e] at e';cases e';obtain⟨its,r,t⟩:=at1 j b _ hj (ac' jl);exact⟨_,its,rfl,by show 2<=sizeLine;decide,r,t⟩
  ·rw[h1out b m,e0] at e;cases e
 ·have gen:∀as:List Addr,Vals (as.map V.ref) (as.map Value.ref):=λas=>by
   induction as with
   |nil=>exact .nil
   |cons a as ih=>exact .cons rfl ih
  exact gen as
 ·have gen:∀(as':List Addr) (kvs':List (Key × V)),as'.length=kvs'.length->(∀(j:Nat) b p,as'[j]? = some b->kvs'[j]? = some p->H1 b=some (.tup [kV p.1,p.2]))->a9' X.K H1 (as'.map V.ref) kvs':=λas'=>by
   induction as' with
   |nil=>
    intro kvs' hl _;cases kvs' with
    |nil=>exact .nil
    |cons _ _=>cases hl
   |cons a as' ih=>
    intro kvs' hl h;cases kvs' with
    |nil=>cases hl
    |cons p kvs'=>exact .cons ⟨a,rfl,h 0 a p rfl rfl⟩ (ih kvs' (by simpa using hl) λj b p e e'=>h (j+1) b p (by simpa using e) (by simpa using e'))
  exact gen as kvs lk h1in
end
theorem ek_{a b:List Str}(h:a.map keyS=b.map keyS):a=b:=by
 induction a generalizing b with
 |nil=>
  cases b with
  |nil=>rfl
  |cons _ _=>cases h
 |cons x a ih=>
  cases b with
  |nil=>cases h
  |cons y b=>
   obtain⟨h1,h2⟩:=List.cons.inj h;have h1:[(Sum.inr x:Key)]=[Sum.inr y]:=h1;cases h1;rw[ih h2]
theorem bS_(ss:List Str):(a4' ss).map keyS=sortKs (ss.map keyS):=by
 have all:∀k∈sortKs (ss.map keyS),∃x,k=keyS x:=λk hk=>by
  obtain⟨x,_,e⟩:=af'.mp ((ag_ _).mem_iff.mp hk);exact⟨x,e.symm⟩
 have gen:∀l:List (List Key),(∀k∈l,∃x,k=keyS x)->(l.map λk=>match k with | [.inr x]=>x|_=>(⟨#[]⟩:Str)).map keyS=l:=λl=>by
  induction l with
  |nil=>exact λ_=>rfl
  |cons k l ih=>
   intro h;obtain⟨x,rfl⟩:=h k an';rw[au',au',ih λk hk=>h k (ag' _ hk)];rfl
 exact gen _ all
theorem aj_(ss:List Str):(a4' ss).Perm ss:=by
 have p:((a4' ss).map keyS).Perm (ss.map keyS):=by rw[bS_];exact ag_ _
 have back:∀l:List Str,(l.map keyS).map (λk=>match k with | [.inr x]=>x|_=>(⟨#[]⟩:Str))=l:=λl=>by
  rw[ah']
  induction l with
  |nil=>rfl
  |cons x l ih=>rw[au',ih];rfl
 have q:=p.map (λk=>match k with | [.inr x]=>x|_=>(⟨#[]⟩:Str));rwa [back,back] at q
section
variable{X:Cx}{pins:List (Addr × Obj)}{σ:St}{H:Hp}{s:Ab}
theorem bY_{u:Aa}{ss:List Str}{Q:VK}(h64:ss.length<64)(hcol:wpAny (model X.prog X.w) X.A.in1 (collect u) (λvs s1=>∃H1,Inv X pins σ H1 s1/\Vals (ss.map V.str) vs/\∀l,H1 l=none->Q (.ref l) (upd H1 l (.lst ((a4' ss).map V.str)))) X.xe s) :
  wpAny (model X.prog X.w) X.A (call (.builtin "sorted") [u]) (EP X pins σ Q) X.xe s:=by
 refine cz_ (ee_ (ss.map keyS)) (thn hcol λvs s1 ⟨H1,I1,r,q⟩=>?_);have hl:vs.length=ss.length:=by rw[<- r.length,aa']
 refine⟨by omega,λh2 h' _=>eP_ (fF_ r) h2,λp h' e g up hD kp=>?_⟩;have g':Good (ss.map keyS).length p:=by rw[aa',<- hl];exact g
 have asc:=f2_ (ks:=ss.map keyS) (λi j _ _=>rfl) g' (by rw[aa',<- hl];exact up)
 have perm:(p.toList.map λi=>(ss.map keyS).getD i []).Perm (ss.map keyS):=by
  have:=bm_ g' λi=>(ss.map keyS).getD i [];rwa [b0_] at this
 have es:=cg_ perm asc
 have inr:∀i∈p.toList,i<ss.length:=λi hi=>by
  have m:i∈(List.range vs.length).toArray:=g.mem_iff.mp (by simpa using hi);rw[hl] at m;simpa using m
 have e1:(p.toList.map λi=>ss.getD i ⟨#[]⟩)=a4' ss:=by
  refine ek_ ?_;rw[bS_,<- es,ah'];refine az' λi hi=>?_;have:=inr i hi;simp[this]
 have rv:=ei_ r g
 have e2:(p.toList.map λi=>(ss.map V.str).getD i .non)=(a4' ss).map V.str:=by
  rw[<- e1,ah'];refine az' λi hi=>?_;have:=inr i hi;simp[this]
 rw[e2] at rv;refine⟨.ref s1.heap.objs.size,_,I1.laid (t':=s1.toks) kp (ad' _) (show a0' X.prog X.w _ h' _ (.lst ((a4' ss).map V.str)) from ⟨?_,bI' p vs,e,rv,hD⟩),rfl,q _ (I1.hok.fresh (ad' _))⟩;rw[aa',(aj_ ss).length_eq];have:=b__;omega
theorem gN_{K:F__}{H:Hp}{ks:List (List Key)}(t:aU' K H ys ks):∀l:List Nat,(∀i∈l,i<ys.length)->aU' K H (l.map λi=>ys.getD i .non) (l.map λi=>ks.getD i []):=λl=>by
 induction l with
 |nil=>exact λ_=>.nil
 |cons i l ih=>
  intro h;refine .cons ?_ (ih λj hj=>h j (ag' _ hj));have hi:=h i an'
  have gen:∀{ys:List V} {ks:List (List Key)} (i:Nat),i<ys.length->aU' K H ys ks->∃a,ys.getD i .non=V.ref a/\H a=some (.tup ((ks.getD i []).map kV)):=λ{ys ks} i hy t=>by
   induction t generalizing i with
   |nil=>exact absurd hy Z2
   |cons h t ih=>
    cases i with
    |zero=>exact h
    |succ i=>exact ih i (by simpa using hy)
  exact gen i hi t
theorem bk_{u:Aa}{ks:List (List Key)}{sh:List Bool}{Q:VK}(h64:ks.length<64)(al:Alike ks sh)
  (hcol:wpAny (model X.prog X.w) X.A.in1 (collect u) (λvs s1=>∃H1 ys,Inv X pins σ H1 s1/\Vals ys vs/\aU' X.K H1 ys ks/\∀l zs,H1 l=none->aU' X.K H1 zs (sortKs ks)->zs.Perm ys->Q (.ref l) (upd H1 l (.lst zs))) X.xe s) :
  wpAny (model X.prog X.w) X.A (call (.builtin "sorted") [u]) (EP X pins σ Q) X.xe s:=by
 refine cz_ (ee_ ks) (thn hcol λvs s1 ⟨H1,ys,I1,r,t,q⟩=>?_);have l1:=r.length;have l2:=a_5 t;have hl:vs.length=ks.length:=by omega
 refine⟨by omega,λh2 h' k=>eV_ I1 r t al h2 k,λp h' e g up hD kp=>?_⟩;have g':Good ks.length p:=by rw[<- hl];exact g
 have asc:=f2_ (ks:=ks) (λi j _ _=>rfl) g' (by rw[<- hl];exact up)
 have perm:(p.toList.map λi=>ks.getD i []).Perm ks:=by
  have:=bm_ g' λi=>ks.getD i [];rwa [b0_] at this
 have es:=cg_ perm asc
 have inr:∀i∈p.toList,i<ys.length:=λi hi=>by
  have m:i∈(List.range vs.length).toArray:=g.mem_iff.mp (by simpa using hi);rw[<- l1] at m;simpa using m
 have tz:=gN_ t p.toList inr;rw[es] at tz;have rv:=ei_ r g
 have pz:(p.toList.map λi=>ys.getD i .non).Perm ys:=by
  have:=bm_ (n:=ys.length) (by rw[l1];exact g) λi=>ys.getD i .non;rwa [b0_] at this
 refine⟨.ref s1.heap.objs.size,_,I1.laid (t':=s1.toks) kp (ad' _) (show a0' X.prog X.w _ h' _ (.lst (p.toList.map λi=>ys.getD i .non)) from ⟨?_,bI' p vs,e,rv,hD⟩),rfl,q _ _ (I1.hok.fresh (ad' _)) tz pz⟩;rw[pz.length_eq];have:=b__;omega
end
inductive cP' (K:F__) (xs:List V) (H:Hp) (Q:VK):Prop
 |mk:∀p ss,xs=[.ref p]->SqL K H p (ss.map V.str)->ss.length<64->(∀l,H l=none->Q (.ref l) (upd H l (.lst ((a4' ss).map V.str))))->cP' K xs H Q
variable{X:Cx}
theorem cE_:bd' X (.builtin "sorted") (cP' X.K):=by
 intro pins s σ H xs us Q I r h;obtain⟨p,ss,rfl,hp,h64,q⟩:=h;obtain⟨u,rfl,ru⟩:=vals1 r;cases ru;exact bY_ h64 (e1_ I hp (by rw[aa'];omega) λvs s1 I1 r1=>⟨H,I1,r1,q⟩)
inductive rSortT (K:F__) (xs:List V) (H:Hp) (Q:VK):Prop
 |mk:∀p ys ks sh,xs=[.ref p]->SqL K H p ys->aU' K H ys ks->Alike ks sh->ks.length<64->(∀l zs,H l=none->aU' K H zs (sortKs ks)->zs.Perm ys->Q (.ref l) (upd H l (.lst zs)))->rSortT K xs H Q
theorem eD_:bd' X (.builtin "sorted") (rSortT X.K):=by
 intro pins s σ H xs us Q I r h;obtain⟨p,ys,ks,sh,rfl,hp,t,al,h64,q⟩:=h;obtain⟨u,rfl,ru⟩:=vals1 r;cases ru;have l:=a_5 t;exact bk_ h64 al (e1_ I hp Z1 λvs s1 I1 r1=>⟨H,ys,I1,r1,t,q⟩)
inductive rSortDT (K:F__) (xs:List V) (H:Hp) (Q:VK):Prop
 |mk:∀d kvs sh,xs=[.ref d]->H d=some (.dT kvs)->Alike (kvs.map (·.1)) sh->kvs.length<64->(∀l zs,H l=none->aU' K H zs (sortKs (kvs.map (·.1)))->Q (.ref l) (upd H l (.lst zs)))->rSortDT K xs H Q
theorem dK_(hc:X.calm=true):bd' X (.builtin "sorted") (rSortDT X.K):=by
 intro pins s σ H xs us Q I r h;obtain⟨d,kvs,sh,rfl,hd,al,h64,q⟩:=h;obtain⟨u,rfl,ru⟩:=vals1 r;cases ru;exact bk_ (by rw[aa'];exact h64) al (im_ (I.ok.hd hc) I (.inl hd) λys vs s1 I1 r1 t=>⟨H,ys,I1,r1,t,λl zs n t' _=>q l zs n t'⟩)
inductive rSortDS (xs:List V) (H:Hp) (Q:VK):Prop
 |mk:∀d kvs ss,xs=[.ref d]->H d=some (.dK kvs)->kvs.map (·.1)=ss.map Sum.inr->ss.length<64->(∀l,H l=none->Q (.ref l) (upd H l (.lst ((a4' ss).map V.str))))->rSortDS xs H Q
theorem dB_(hc:X.calm=true):bd' X (.builtin "sorted") rSortDS:=by
 intro pins s σ H xs us Q I r h;obtain⟨d,kvs,ss,rfl,hd,ek,h64,q⟩:=h;obtain⟨u,rfl,ru⟩:=vals1 r;cases ru;refine bY_ h64 (iw_ (I.ok.hd hc) I (.inl hd) λvs s1 I1 r1=>⟨H,I1,?_,q⟩)
 have e:(kvs.map λkv=>kV kv.1)=ss.map V.str:=by
  rw[show (kvs.map λkv=>kV kv.1)=(kvs.map (·.1)).map kV by rw[ah'];rfl,ek,ah'];rfl
 rwa [e] at r1
inductive rSortI (K:F__) (xs:List V) (H:Hp) (Q:VK):Prop
 |mk:∀(v d:Addr) (kvs:List (Key × V)) (ks:List (Key × Key)) (sh:List Bool),xs=[.ref v]->H v=some (a8' v d)->H d=some (.dK kvs)->kvs=ks.map (λk:Key × Key=>(k.1,kV k.2))->Alike (ks.map λk=>[k.1,k.2]) sh->ks.length<64->(∀l H1 zs,Same H H1->H1 l=none->aU' K H1 zs (sortKs (ks.map λk=>[k.1,k.2]))->Q (.ref l) (upd H1 l (.lst zs)))->rSortI K xs H Q
theorem ct_(hc:X.calm=true):bd' X (.builtin "sorted") (rSortI X.K):=by
 intro pins s σ H xs us Q I r h;obtain⟨v,d,kvs,ks,sh,rfl,hv,hd,ek,al,h64,q⟩:=h;obtain⟨u,rfl,ru⟩:=vals1 r;cases ru;refine bk_ (by rw[aa'];exact h64) al (fr_ (I.ok.hd hc) I hv (.inl hd) λH1 ys vs s1 I1 sm r1 t=>⟨H1,ys,I1,r1,?_,λl zs n t' _=>q l H1 zs sm n t'⟩);subst ek
 have gen:∀(ks:List (Key × Key)) (ys:List V),a9' X.K H1 ys (ks.map (λk:Key × Key=>(k.1,kV k.2)))->aU' X.K H1 ys (ks.map λk=>[k.1,k.2]):=λks=>by
  induction ks with
  |nil=>
   intro ys t;cases t;exact .nil
  |cons k ks ih=>
   intro ys t;cases t with
   |cons h t=>exact .cons h (ih _ t)
 exact gen ks ys t
inductive rListD (xs:List V) (H:Hp) (Q:VK):Prop
 |mk:∀d kvs,xs=[.ref d]->Rd H d (.dK kvs)->(∀l,H l=none->Q (.ref l) (upd H l (.lst (kvs.map λkv=>kV kv.1))))->rListD xs H Q
theorem bs_(hc:X.calm=true):bd' X (.type "list") rListD:=by
 intro pins s σ H xs us Q I r h;obtain⟨d,kvs,rfl,hd,q⟩:=h;obtain⟨u,rfl,ru⟩:=vals1 r;cases ru;obtain⟨P,OK,S,ok,hp⟩:=hi_ I hd;have z:=(bF_ I.hok hd).1;refine kdl_call S (I.ok.hd hc) ok (by rw[aa'];exact z) λh' tk acc c k hD a=>?_;refine⟨.ref s.heap.objs.size,_,I.laid (t':=tk) k (ad' _) (show a0' X.prog X.w _ h' _ (.lst (kvs.map λkv=>kV kv.1)) from ⟨by rw[aa'];exact z,acc.toList,c,bo_ a hp,by rw[Array.toArray_toList];exact hD⟩),rfl,q _ I.fresh⟩
theorem KV.mergeP{κ:Type}[DecidableEq κ]:∀{more:List (κ × V)} {rs:List (κ × Aa)} {kvs:List (κ × V)} {vs:List (κ × Aa)},KV more rs->KV kvs vs->KV (more.foldl (λacc kv=>putK acc kv.1 kv.2) kvs) (EvD.mergeP vs rs):=λ{more rs kvs vs} h=>by
 induction h generalizing kvs vs with
 |nil=>exact λh=>h
 |@cons p q _ _ h _ ih=>
  intro h2;obtain⟨k,y⟩:=p;obtain⟨k',u⟩:=q;obtain⟨h1,h3⟩:=h;have h1:k=k':=h1;subst h1;exact ih (h2.put k h3)
inductive rDictOf (K:F__) (xs:List V) (H:Hp) (Q:VK):Prop
 |mk:∀p ys kvs,xs=[.ref p]->H p=some (.lst ys)->a9' K H ys kvs->kvs.length<=1000->(∀l,H l=none->Q (.ref l) (upd H l (.dK (bY' [] kvs))))->rDictOf K xs H Q
theorem aU_(hc:X.calm=true):bd' X (.type "dict") (rDictOf X.K):=by
 intro pins s σ H xs us Q I r h;obtain⟨p,ys,kvs,rfl,hp,t,hz,q⟩:=h;obtain⟨u,rfl,ru⟩:=vals1 r;cases ru;obtain⟨z,its,n,rv,hl,ho⟩:=I.lstM hp
 have gen:∀{ys:List V} {its:List Aa} {kvs:List (Key × V)},Vals ys its->a9' X.K H ys kvs->∃ps,KV kvs ps/\cM' (aV' X.prog X.w) s.heap its ps:=λ{ys its kvs} rv t=>by
  induction t generalizing its with
  |nil=>
   cases rv;exact⟨[],.nil,.nil⟩
  |@cons y p ys kvs h t ih=>
   cases rv with
   |cons r0 rv=>
    obtain⟨ps,h1,h2⟩:=ih rv;obtain⟨a,e,sq⟩:=h;subst e;cases r0;obtain⟨tv,rt,it,_⟩:=I.tuple (SqT.of sq);obtain⟨key,x,e2,rk,rx⟩:=vals2 rt;subst e2;refine⟨(p.1,x)::ps,Paired.cons (show p.1=p.1/\RelV p.2 x from ⟨rfl,rx⟩) h1,Paired.cons (show ∃a' key',Value.ref a=.ref a'/\IsTup s.heap a' #[key',x]/\(aV' X.prog X.w).is p.1 key'=true from ⟨a,key,rfl,it,dy_ rk⟩) h2⟩
 obtain⟨ps,h1,h2⟩:=gen rv t;have lp:=KV.length h1;refine d8_ (knd:=aV' X.prog X.w) (I.ok.hd hc) ho h2 Z1 λh' tk hd kp=>?_;refine⟨.ref s.heap.objs.size,_,I.laid (t':=tk) kp (ad' _) (g3_ ?_ (beq_eq_false_iff_ne.mpr (Ne.symm (aw' I.big))) (KV.mergeP h1 .nil) hd),rfl,q _ I.fresh⟩;have:=bK_ kvs [];have:=b__;simp only[List.length_nil] at *;show (bY' [] kvs).length<=sizeLine;omega
theorem dV_:∀{bs:List Bool} {vs:List Aa},Vals (bs.map V.bl) vs->vs=bs.map Value.bool
 |[],_,.nil=>rfl
 |b::bs,_,.cons h t=>by
  cases h;rw[dV_ t];rfl
inductive rAll (K:F__) (g:List Bool->Bool) (xs:List V) (H:Hp) (Q:VK):Prop
 |mk:∀p bs,xs=[.ref p]->SqL K H p (bs.map V.bl)->Q (.bl (g bs)) H->rAll K g xs H Q
theorem cT_(hc:X.calm=true):bd' X (.builtin "all") (rAll X.K λbs=>bs.all id):=by
 intro pins s σ H xs us Q I r h;obtain⟨p,bs,rfl,hp,q⟩:=h;obtain⟨u,rfl,ru⟩:=vals1 r;cases ru;obtain⟨its,rv,pl,z⟩:=I.list hp;obtain rfl:=dV_ rv;have hl:=pl.isList;have lt:p<s.heap.objs.size:=by obtain⟨_,e,_⟩:=hl;exact a_3 e
 refine call_all_walk (wpAny_pyIter_list hl ⟨s.heap.objs.size,[s.heap.objs.size,p],[s.heap.objs.size],(bs.map Value.bool).toArray.size,_,_,λi=>(bs[i]?).getD true,rfl,Walks.list (A:=X.A.in1) (I.ok.hd hc) _ p (aw' lt) _,⟨⟨_,a_4 _ rfl,rfl,rfl⟩,hl.push _⟩,λi v s' Q' E' hP hQ=>?_,λh' tk hk=>?_⟩)
 ·have hP:(bs.map Value.bool).toArray[i]? = some v:=hP;simp only[List.getElem?_toArray,am'] at hP;cases e:bs[i]? with
  |none=>rw[e] at hP;cases hP
  |some b=>
   have hQ:Q' ((bs[i]?).getD true) s':=hQ;rw[e] at hP hQ;cases hP;exact c__ hQ
 ·have e:((List.range (bs.map Value.bool).toArray.size).all λi=>(bs[i]?).getD true)=bs.all id:=by
   rw[ae',aa'];exact LSm.range_all bs
  rw[e];exact⟨.bl _,H,I.kept (LSm.kept_iter hk),rfl,q⟩
end L2
namespace EvN
open PySem PySem.SeqAt PyProof.Rows
open AutoSeq1 (wpAny_loadPart')
open MeetsSeq MeetsSeq2 MeetsSeq3 SeqRoads2
theorem iM_(l b:Addr)(xs ys:Array Aa)(n m:Nat)(dl db:Option Addr)(sl sb:Array (Option Aa))(hs:xs.size=ys.size)(e:Nat->Bool)(k:Nat) :
  ∀i:Nat,xs.size - i=k->Meets (Builtin.«list.__eq__.loop» ⟨[.ref l,.ref b,rawInt i,rawInt 3],[]⟩)
   (λA R s=>(s.heap.get? l=some { cls:=.type "list",dict:=dl,data:=.seq xs n,slots:=sl }/\s.heap.get? b=some { cls:=.type "list",dict:=db,data:=.seq ys m,slots:=sb }) /\
    (∀j (h1:j<xs.size) (h2:j<ys.size),EqAt A.in1 s xs[j] ys[j] (e j))/\R (.ok (.ret (.bool (!((List.range xs.size).drop i).all e)))) s):=by
 induction k with
 |zero=>
  intro i hk prog w A R s ⟨⟨gl,gb⟩,he,h⟩;obtain⟨hp,g,d,tk,os⟩:=s
  wp_walk using b_4 gl,b_4 gb
  rw[show xs[((i:Nat):Int).toNat]? = none by simp;omega,show ys[((i:Nat):Int).toNat]? = none by simp;omega];rw[show (List.range xs.size).drop i=[] by simp;omega] at h
  wp_walk using b_4 gl,b_4 gb
  refine (show R (.ok (.ret (.bool (xs.size != ys.size)))) _ from ?_);rw[show (xs.size != ys.size)=false by simp[hs]];exact h
 |succ k ih=>
  intro i hk prog w A R s ⟨⟨gl,gb⟩,he,h⟩;obtain⟨hp,g,d,tk,os⟩:=s
  wp_walk using b_4 gl,b_4 gb
  have z1:i<xs.size:=by omega
  have z2:i<ys.size:=by omega
  have q1:xs[((i:Nat):Int).toNat]? = some xs[i]:=by simp[z1]
  have q2:ys[((i:Nat):Int).toNat]? = some ys[i]:=by simp[z2]
  rw[show (List.range xs.size).drop i=i::(List.range xs.size).drop (i+1) by simp[List.drop_eq_getElem_cons,z1],List.all_cons] at h;rw[q1,q2];refine a__ (he i z1 z2 prog w _ _ ?_);cases c:e i with
  |true=>
   rw[c] at h
   wp_walk
   rw[show ((i:Int)+1)=((i+1:Nat):Int) by omega];refine⟨plainId_quiet plain_eq_loop _,codeAny_builtin entry_eq_loop ?_⟩;rw[Around.under_plainId plain_eq_loop _];exact ih (i+1) Z1 prog w A R _ ⟨⟨gl,gb⟩,he,by simpa using h⟩
  |false=>
   rw[c] at h
   wp_walk using b_4 gl,b_4 gb
   rw[q1,q2]
   wp_walk
   simpa using h
theorem gT_(l b:Addr)(xs ys:Array Aa)(n m:Nat)(dl db:Option Addr)(sl sb:Array (Option Aa))(hs:xs.size=ys.size)(e:Nat->Bool) :
  Meets (Builtin.«list.__ne__» ⟨[.ref l,.ref b],[]⟩)
   (λA R s=>(s.heap.get? l=some { cls:=.type "list",dict:=dl,data:=.seq xs n,slots:=sl }/\s.heap.get? b=some { cls:=.type "list",dict:=db,data:=.seq ys m,slots:=sb }) /\
    (∀j (h1:j<xs.size) (h2:j<ys.size),EqAt A.in1 s xs[j] ys[j] (e j))/\R (.ok (.ret (.bool (!(List.range xs.size).all e)))) s):=by
 intro prog w A R s ⟨⟨gl,gb⟩,he,h⟩;obtain⟨hp,g,d,tk,os⟩:=s;have f3:=AutoSeq1.sub_list_list;have no:¬(xs.size != ys.size)=true:=by simp[hs]
 wp_walk using b_4 gl,b_4 gb
 refine⟨plainId_quiet plain_eq_loop _,codeAny_builtin entry_eq_loop ?_⟩;rw[Around.under_plainId plain_eq_loop _];exact iM_ l b xs ys n m dl db sl sb hs e _ 0 rfl prog w A R _ ⟨⟨gl,gb⟩,he,by simpa using h⟩
theorem gz_(l b:Addr)(xs ys:Array Aa)(n m:Nat)(dl db:Option Addr)(sl sb:Array (Option Aa))(hs:(xs.size != ys.size)=true) :
  Meets (Builtin.«list.__ne__» ⟨[.ref l,.ref b],[]⟩)
   (λA R s=>(s.heap.get? l=some { cls:=.type "list",dict:=dl,data:=.seq xs n,slots:=sl }/\s.heap.get? b=some { cls:=.type "list",dict:=db,data:=.seq ys m,slots:=sb })/\R (.ok (.ret (.bool true))) s):=
 .of_wp λprog w A R s ⟨⟨gl,gb⟩,h⟩=>by
  obtain⟨hp,g,d,tk,os⟩:=s;have f3:=AutoSeq1.sub_list_list
  wp_walk using b_4 gl,b_4 gb
  exact⟨_,rfl,h⟩
variable{b l:Addr}{xs ys:Array Aa}{E Q:Aa->Ab->Prop}{prog:Ad}{w:Af}{A:Ag}{s:Ab}
theorem ne_listAt{e:Nat->Bool}(hl:s.heap.IsList l xs)(hb:s.heap.IsList b ys)(hs:xs.size=ys.size)(hu:A.units<cLine)(he:∀j (h1:j<xs.size) (h2:j<ys.size),EqAt A.in1 s xs[j] ys[j] (e j))(h:Q (.bool (!(List.range xs.size).all e)) s):wpAny (model prog w) A (compareOp .NotEq (.ref l) (.ref b)) Q E s:=by
 obtain⟨⟨c1,d1,t1,l1⟩,o1,k1,n1,z1⟩:=id hl;obtain⟨⟨c2,d2,t2,l2⟩,o2,k2,n2,z2⟩:=id hb;simp only at k1 z1 k2 z2;subst k1 z1 k2 z2;exact richCompare_meets_room (op:=.NotEq) ⟨_,o1,rfl⟩ ⟨_,o2,rfl⟩ F.slot_list_ne F.entry_list_ne (F.args_list_ne_2 _ _) (gT_ l b xs ys n1 n2 d1 d2 l1 l2 hs e) ⟨⟨o1,o2⟩,he,show Value.bool (!(List.range xs.size).all e)≠Value.notImplemented/\Q (.bool (!(List.range xs.size).all e)) s from ⟨(λx=>nomatch x),h⟩⟩ hu
theorem ne_sizesAt(hl:s.heap.IsList l xs)(hb:s.heap.IsList b ys)(hs:(xs.size != ys.size)=true)(hu:A.units<cLine)(h:Q (.bool true) s):wpAny (model prog w) A (compareOp .NotEq (.ref l) (.ref b)) Q E s:=by
 obtain⟨⟨c1,d1,t1,l1⟩,o1,k1,n1,z1⟩:=id hl;obtain⟨⟨c2,d2,t2,l2⟩,o2,k2,n2,z2⟩:=id hb;simp only at k1 z1 k2 z2;subst k1 z1 k2 z2;exact richCompare_meets_room (op:=.NotEq) ⟨_,o1,rfl⟩ ⟨_,o2,rfl⟩ F.slot_list_ne F.entry_list_ne (F.args_list_ne_2 _ _) (gz_ l b xs ys n1 n2 d1 d2 l1 l2 hs) ⟨⟨o1,o2⟩,show Value.bool true≠Value.notImplemented/\Q (.bool true) s from ⟨(λx=>nomatch x),h⟩⟩ hu
end EvN
namespace L2
open PySem PySem.Spec PyProof.Rows PySem.W EvS EvD
abbrev Rp(D:Type):=Hp->V->D->Prop
structure Cmp (X:Cx) (n:Nat) {D:Type} [DecidableEq D] (R:Rp D):Prop where
 eq:∀{pins:List (Addr × Obj)} {σ:St} {H:Hp} {s:Ab} {A:Ag} {x y:V} {u v:Aa} {d e:D},Inv X pins σ H s->RelV x u->RelV y v->R H x d->R H y e->A.units+n<cLine->SeqAt.EqAt A s u v (decide (d=e))
 one:∀{pins:List (Addr × Obj)} {σ:St} {H:Hp} {s:Ab} {x:V} {d e:D},Inv X pins σ H s->R H x d->R H x e->d=e
def rS:Rp Str:=λ_ x d=>x=.str d
def rZ:Rp Int:=λ_ x d=>x=.int d
def r2(K:F__){D1 D2:Type}(R1:Rp D1)(R2:Rp D2):Rp (D1 × D2):=λH x d=>∃a u v,x=.ref a/\SqT K H a [u,v]/\R1 H u d.1/\R2 H v d.2
def rL(K:F__){D:Type}(R:Rp D):Rp (List D):=λH x ds=>∃a xs,x=.ref a/\SqL K H a xs/\Paired (R H) xs ds
variable{X:Cx}
theorem cmpS:Cmp X 0 rS where
 eq:=λ{pins σ H s A x y u v d e} I ru rv hx hy hu=>by
  have hx:x=.str d:=hx;have hy:y=.str e:=hy;subst hx;subst hy;have q:=en_ (A:=A) (s:=s) ru rv rfl rfl
  have e2:eqV (.str d) (.str e)=decide (d=e):=by
   show (d == e)=_;by_cases h:d=e
   ·subst h;simp
   ·simp[h]
  rwa [e2] at q
 one:=λ{pins σ H s x d e} I hx hy=>by
  have hx:x=.str d:=hx;have hy:x=.str e:=hy;rw[hx] at hy;exact V.str.inj hy
theorem cmpZ:Cmp X 0 rZ where
 eq:=λ{pins σ H s A x y u v d e} I ru rv hx hy hu=>by
  have hx:x=.int d:=hx;have hy:y=.int e:=hy;subst hx;subst hy;have q:=en_ (A:=A) (s:=s) ru rv rfl rfl
  have e2:eqV (.int d) (.int e)=decide (d=e):=by
   show (d == e)=_;by_cases h:d=e
   ·subst h;simp
   ·simp[h]
  rwa [e2] at q
 one:=λ{pins σ H s x d e} I hx hy=>by
  have hx:x=.int d:=hx;have hy:x=.int e:=hy;rw[hx] at hy;exact V.int.inj hy
theorem br_{h:Heap}{a:Addr}{its:Array Aa}(t:IsTup h a its):h.IsTuple a its:=t
variable{n:Nat}
theorem cmp2{m:Nat}{D1 D2:Type}[DecidableEq D1][DecidableEq D2]{R1:Rp D1}{R2:Rp D2}(c1:Cmp X n R1)(c2:Cmp X m R2):Cmp X (max n m+1) (r2 X.K R1 R2) where
 one:=λ{pins σ H s x d e} I hx hy=>by
  obtain⟨a,u,v,rfl,t,q1,q2⟩:=hx;obtain⟨b,u',v',e0,t',q1',q2'⟩:=hy;cases e0;have e1:=I.tuple_inj t t';cases e1;exact Prod.ext (c1.one I q1 q1') (c2.one I q2 q2')
 eq:=λ{pins σ H s A x y u v d e} I ru rv hx hy hu=>by
  have hx':=hx;have hy':=hy;obtain⟨a,x1,x2,rfl,t,q1,q2⟩:=hx;obtain⟨b,y1,y2,rfl,t',q1',q2'⟩:=hy;cases ru;cases rv;by_cases hab:a=b
  ·subst hab;have e1:=I.tuple_inj t t';cases e1;have:d=e:=Prod.ext (c1.one I q1 q1') (c2.one I q2 q2');rw[a_2 this];exact SeqAt.EqAt.same _
  ·obtain⟨its,r,it,_⟩:=I.tuple t;obtain⟨its',r',it',_⟩:=I.tuple t';obtain⟨u1,u2,rfl,r1,r2⟩:=vals2 r;obtain⟨w1,w2,rfl,r1',r2'⟩:=vals2 r'
   have key:=SeqAt.EqAt.of_refs hab (SeqAt.RcAt.tuples (A:=A) (s:=s) (e:=λj=>if j=0 then decide (d.1=e.1) else decide (d.2=e.2)) (br_ it) (br_ it') Z1 λj h1 h2=>by
    match j,h1,h2 with
    |0,_,_=>exact c1.eq I r1 r1' q1 q1' (by show A.units+1+n<cLine;omega)
    |1,_,_=>exact c2.eq I r2 r2' q2 q2' (by show A.units+1+m<cLine;omega))
   have e3:((List.range (min [u1,u2].toArray.size [w1,w2].toArray.size)).all (λj=>if j=0 then decide (d.1=e.1) else decide (d.2=e.2))&&[u1,u2].toArray.size == [w1,w2].toArray.size)=decide (d=e):=by
    show (decide (d.1=e.1)&&(decide (d.2=e.2)&&true)&&true)=_;by_cases h1:d.1=e.1
    ·by_cases h2:d.2=e.2
     ·have:d=e:=Prod.ext h1 h2;simp[this]
     ·have:¬d=e:=λz=>h2 (by rw[z]);simp[h1,h2,this]
    ·have:¬d=e:=λz=>h1 (by rw[z]);simp[h1,this]
   rw[e3] at key;exact key
theorem ak_{α β:Type}{F:α->β->Prop}:∀{l:List α} {m:List β},Paired F l m->∀(i:Nat) (h1:i<l.length) (h2:i<m.length),F l[i] m[i]
 |_,_,.cons h t,0,_,_=>h
 |_,_,.cons h t,i+1,h1,h2=>ak_ t i (by simpa using h1) (by simpa using h2)
theorem bX_{D:Type}[DecidableEq D]:∀{ds es:List D},ds.length=es.length->((List.range ds.length).all λj=>decide (ds[j]? = es[j]?))=decide (ds=es):=λ{ds es} hl=>by
 by_cases h:ds=es
 ·subst h;simp
 ·rw[a_7 h]
  have:∃i,i<ds.length/\ds[i]?≠es[i]?:=by
   refine Classical.byContradiction λhn=>h ?_;apply List.ext_getElem?;intro i;by_cases hi:i<ds.length
   ·exact Classical.byContradiction λq=>hn ⟨i,hi,q⟩
   ·rw[List.getElem?_eq_none Z1,List.getElem?_eq_none Z1]
  obtain⟨i,hi,q⟩:=this;rw[List.all_eq_false];exact⟨i,by simpa using hi,by simpa using q⟩
theorem bM_{D:Type}[DecidableEq D]{n:Nat}{R:Rp D}(c:Cmp X n R){pins:List (Addr × Obj)}{σ:St}{H:Hp}{s:Ab}(I:Inv X pins σ H s):∀{xs:List V} {ds es:List D},Paired (R H) xs ds->Paired (R H) xs es->ds=es
 |_,_,_,.nil,.nil=>rfl
 |_,_,_,.cons h t,.cons h' t'=>by rw[c.one I h h',bM_ c I t t']
variable{pins:List (Addr × Obj)}{σ:St}{s:Ab}{A:Ag}
theorem ec_{D:Type}[DecidableEq D]{R:Rp D}(c:Cmp X n R){H:Hp}(I:Inv X pins σ H s){xs ys:List V}{us vs:List Aa}{ds es:List D}(ru:Vals xs us)(rv:Vals ys vs)(hx:Paired (R H) xs ds)(hy:Paired (R H) ys es)(hu:A.units+n<cLine) :
  ∀j (h1:j<us.toArray.size) (h2:j<vs.toArray.size),SeqAt.EqAt A s us.toArray[j] vs.toArray[j] (decide (ds[j]? = es[j]?)):=λj h1 h2=>by
 have l1:=ru.length;have l2:=rv.length;have l3:=a_5 hx;have l4:=a_5 hy;simp only[ae'] at h1 h2;have q:=c.eq (A:=A) I (ak_ ru j Z1 h1) (ak_ rv j Z1 h2) (ak_ hx j Z1 Z1) (ak_ hy j Z1 Z1) hu
 have e:decide (ds[j]? = es[j]?)=decide (ds[j]' Z1=es[j]' Z1):=by
  rw[ac' Z1,ac' Z1];by_cases z:ds[j]' Z1=es[j]' Z1
  ·simp[z]
  ·simp[z]
 rw[e];exact q
theorem cmpL{D:Type}[DecidableEq D]{R:Rp D}(c:Cmp X n R):Cmp X (n+1) (rL X.K R) where
 one:=λ{pins σ H s x d e} I hx hy=>by
  obtain⟨a,xs,rfl,t,q⟩:=hx;obtain⟨b,ys,e0,t',q'⟩:=hy;cases e0;have e1:=I.list_inj t t';subst e1;exact bM_ c I q q'
 eq:=λ{pins σ H s A x y u v d e} I ru rv hx hy hu=>by
  obtain⟨a,xs,rfl,t,q⟩:=hx;obtain⟨b,ys,rfl,t',q'⟩:=hy;cases ru;cases rv;by_cases hab:a=b
  ·subst hab;have e1:=I.list_inj t t';subst e1;rw[a_2 (bM_ c I q q')];exact SeqAt.EqAt.same _
  ·obtain⟨us,r,pl,_⟩:=I.list t;obtain⟨vs,r',pl',_⟩:=I.list t';have l1:=r.length;have l2:=r'.length;have l3:=a_5 q;have l4:=a_5 q';by_cases hl:d.length=e.length
   ·have key:=SeqAt.EqAt.of_refs hab (SeqAt.RcAt.lists (A:=A) (s:=s) pl.isList pl'.isList (by simp only[ae'];omega) Z1 (ec_ c I r r' q q' (A:=A.in1) (by show A.units+1+n<cLine;omega)));rw[show us.toArray.size=d.length by simp only[ae'];omega,bX_ hl] at key;exact key
   ·rw[a_7 (λz=>hl (by rw[z]))];refine SeqAt.EqAt.of_refs hab (SeqAt.RcAt.lists_lengths (A:=A) (s:=s) pl.isList pl'.isList ?_ Z1);simp only[ae',bne_iff_ne];omega
def rEqD{D:Type}[DecidableEq D](R:Rp D)(neg:Bool):V->V->Hp->VK->Prop:=λx y H Q=>∃d e,R H x d/\R H y e/\Q (.bl (if neg then !decide (d=e) else decide (d=e))) H
theorem iv_{D:Type}[DecidableEq D]{R:Rp D}(c:Cmp X n R)(hu:X.A.units+n+1<cLine):OpR X (compareOp .NotEq) (rEqD (rL X.K R) true):=by
 intro pins s σ H x y v u Q I rx ry h;obtain⟨d,e,⟨a,xs,rfl,t,q⟩,⟨b,ys,rfl,t',q'⟩,hq⟩:=h;cases rx;cases ry;obtain⟨us,r,pl,_⟩:=I.list t;obtain⟨vs,r',pl',_⟩:=I.list t';have l1:=r.length;have l2:=r'.length;have l3:=a_5 q;have l4:=a_5 q';have hq:Q (.bl (!decide (d=e))) H:=hq;by_cases hl:d.length=e.length
 ·refine EvN.ne_listAt pl.isList pl'.isList (by simp only[ae'];omega) Z1 (ec_ c I r r' q q' (A:=X.A.in1) (by show X.A.units+1+n<cLine;omega)) ⟨.bl _,H,I,rfl,?_⟩;rw[show us.toArray.size=d.length by simp only[ae'];omega,bX_ hl];exact hq
 ·refine EvN.ne_sizesAt pl.isList pl'.isList (by simp only[ae',bne_iff_ne];omega) Z1 ⟨.bl _,H,I,rfl,?_⟩;rwa [a_7 (λz=>hl (by rw[z]))] at hq
def rInD(K:F__){D:Type}[DecidableEq D](R:Rp D)(neg:Bool):V->V->Hp->VK->Prop:=λx y H Q=>∃d es,R H x d/\rL K R H y es/\Q (.bl (if neg then !decide (d∈es) else decide (d∈es))) H
theorem if_{D:Type}[DecidableEq D]{R:Rp D}(c:Cmp X n R){H:Hp}(I:Inv X pins σ H s){x:V}{u:Aa}{d:D}(ru:RelV x u)(hx:R H x d)(hu:A.units+n<cLine):∀{ys:List V} {vs:List Aa} {es:List D},Vals ys vs->Paired (R H) ys es->
  ∃f:Aa->Bool,(∀w∈vs,SeqAt.EqAt A s w u (f w))/\vs.any f=decide (d∈es):=λ{ys vs es} rv hy=>by
 let f:Aa->Bool:=λw=>@decide (∃y e,RelV y w/\R H y e/\e=d) (Classical.propDecidable _)
 have sound:∀y w e,RelV y w->R H y e->f w=decide (e=d):=λy w e h1 h2=>by
  by_cases z:e=d
  ·rw[a_2 z];exact @a_2 _ (Classical.propDecidable _) ⟨y,e,h1,h2,z⟩
  ·rw[a_7 z];refine @a_7 _ (Classical.propDecidable _) λ⟨y',e',g1,g2,g3⟩=>z ?_;have:y'=y:=RelV.inj g1 h1;subst this;rw[<- g3];exact c.one I h2 g2
 refine⟨f,?_,?_⟩
 ·induction rv generalizing es with
  |nil=>exact λw hw=>nomatch hw
  |cons h t ih=>
   cases hy with
   |cons g t'=>
    intro w hw;rcases aj'.mp hw with rfl|hw
    ·rw[sound _ _ _ h g];exact c.eq I h ru g hx hu
    ·exact ih t' w hw
 ·induction rv generalizing es with
  |nil=>
   cases hy;simp
  |cons h t ih=>
   cases hy with
   |@cons _ e _ es g t'=>
    rw[List.any_cons,ih t',sound _ _ _ h g];by_cases z:e=d
    ·subst z;simp
    ·by_cases z2:d∈es
     ·simp[z2]
     ·have:¬d∈e::es:=λq=>by
       rcases aj'.mp q with q|q
       ·exact z q.symm
       ·exact z2 q
      rw[a_7 z,a_7 z2,a_7 this];rfl
theorem he_{D:Type}[DecidableEq D]{R:Rp D}(c:Cmp X n R)(hu:X.A.units+n+1<cLine):OpR X (compareOp .In) (rInD X.K R false):=by
 intro pins s σ H x y v u Q I rx ry h;obtain⟨d,es,hx,⟨a,ys,rfl,t,q⟩,hq⟩:=h;cases ry;obtain⟨us,r,pl,_⟩:=I.list t;obtain⟨f,h1,h2⟩:=if_ c I (A:=X.A.in1) rx hx (by show X.A.units+1+n<cLine;omega) r q;refine SeqAt.in_listAt f pl.isList (λw hw=>h1 w (by simpa using hw)) ⟨.bl _,H,I,rfl,?_⟩;rw[show us.toArray.any f=us.any f by simp,h2];exact hq
inductive rIsi (K:F__) (xs:List V) (H:Hp) (Q:VK):Prop
 |mk:∀x T t b,xs=[x,.ty T]->TyOf K H x t->PySem.W.kitOne K t (.type T)=some b->Q (.bl b) H->rIsi K xs H Q
theorem aD_:bd' X (.builtin "isinstance") (rIsi X.K):=by
 intro pins s σ H xs us Q I r h;obtain⟨x,T,t,b,rfl,ty,e,q⟩:=h;obtain⟨u,w',rfl,ru,rw'⟩:=vals2 r;cases (show w'=Value.type T from rw');exact db_ I ru ty e λtk=>⟨.bl b,H,I.tok tk,rfl,q⟩
inductive b3' (x:V) (y:V) (H:Hp) (Q:VK):Prop
 |mk:∀i j,x=.str i->y=.str j->Q (.bl (!decide (j.cps.toList<i.cps.toList))) H->b3' x y H Q
theorem d5_:OpR X (compareOp .LtE) b3':=by
 intro pins s σ H x y v u Q I rx ry h;obtain⟨i,j,rfl,rfl,q⟩:=h;obtain⟨t,rfl⟩:=rx;obtain⟨t',rfl⟩:=ry;exact PySem.P.le_str ⟨.bl _,H,I,rfl,q⟩
theorem hz_{prog:Ad}{w':Af}{E:Aa->Ab->Prop}(l:Addr)(its:Array Aa)(n:Nat)(k:Int)(t:Tok)(w:Aa)(h1:¬(!Builtin.List.listFitsIndex k)=true)(h2:its.size<=sizeLine){Q:Aa->Ab->Prop}(e:s.heap.get? l=some { cls:=.type "list",data:=.seq its n })(f:Array Aa->Array Aa)(hf:f=λxs:Array Aa=>have k:=if k<0 then (k+((xs.size:Nat):Int)).toNat else min k.toNat xs.size;(xs.extract 0 k).push w++xs.extract k)(q:Q .none { s with heap:=s.heap.update l (Obj.mapSeq f) }):wpAny (model prog w') A (call (.builtin "list.insert") [.ref l,.int k t,w]) Q E s:=by
 subst hf;have hm:=@PySem.AutoListH.list_insert_list_int_val_1 l its n k t w h1 h2;have ty:s.TypeIs (.ref l) "list":=⟨_,e,rfl⟩;exact wpAny_call (codeAny_call_builtin F.slot_list_insert.plain F.entry_list_insert (F.slot_list_insert.check _ _ _ _ _ _ _ _ ty (F.args_list_insert_3 _ _ _) (hm prog w' A (wants Q E) s ⟨e,q⟩)))
inductive rInsert (x:V) (vs:List V) (H:Hp) (Q:VK):Prop
 |mk:∀(l:Addr) (k:Nat) (xs:List V) (y:V),x=.ref l->vs=[.int k,y]->H l=some (.lst xs)->k<=xs.length->xs.length<100000->Q .non (upd H l (.lst (xs.take k++y::xs.drop k)))->rInsert x vs H Q
theorem fo_:MtM X "list.insert" rInsert:=by
 intro pins s σ H x vs v us Q I rx rv h;obtain⟨l,k,xs,y,rfl,rfl,hH,hk,hz,q⟩:=h;cases rx;obtain⟨u,w,rfl,⟨t,rfl⟩,rw'⟩:=rv.two;obtain⟨z,its,n,r,hl,e⟩:=I.lstM hH;have sz:=b__
 have fit:Builtin.List.listFitsIndex (k:Int)=true:=by
  unfold Builtin.List.listFitsIndex;rw[a_2 Z1,a_2 Z1];rfl
 refine hz_ l its.toArray n (k:Int) t w (by rw[fit];exact ao') (by rw[ae'];omega) e _ rfl ?_
 ·refine⟨.non,_,I.lset (its':=its.take k++w::its.drop k) (f:=λxs=>have k':=if (k:Int)<0 then ((k:Int)+((xs.size:Nat):Int)).toNat else min (k:Int).toNat xs.size;(xs.extract 0 k').push w++xs.extract k') hH e ?_ (Vals.append (r.take k) (.cons rw' (r.drop k))) ?_,rfl,q⟩
  ·have e1:(if (k:Int)<0 then ((k:Int)+((its.toArray.size:Nat):Int)).toNat else min (k:Int).toNat its.toArray.size)=k:=by
    rw[a_6 Z1];simp;omega
   dsimp only;rw[e1];apply Array.ext';simp[aK']
  ·rw[ar',aI',ak',List.length_drop];omega
inductive tViewR (mk:Addr->Addr->HO) (Q:VK) (x:V) (H1:Hp):Prop
 |mk:∀d kvs,x=.ref d->H1 d=some (.dK kvs)->(∀v,H1 v=none->Q (.ref v) (upd H1 v (mk v d)))->tViewR mk Q x H1
def tView(mk:Addr->Addr->HO)(td:TE):TE:=λσ H Q=>td σ H λx H1=>tViewR mk Q x H1
variable{H:Hp}{d:Addr}
theorem fl_{cls:String}(I:Inv X pins σ H s)(φ:Heap->Prop)(hφ:φ (s.heap.push { cls:=.type cls,data:=.fields #[.ref d] }))(hs:∀h1 h2:Heap,φ h1->(∀o,h1.get? s.heap.objs.size=some o->h2.get? s.heap.objs.size=some o)->φ h2) :
  Inv X pins σ (upd H s.heap.objs.size (.ext φ)) { s with heap:=s.heap.push { cls:=.type cls,data:=.fields #[.ref d] } }:=
 I.laid (t':=s.toks) (λ_ _ q=>a_0 _ q) (ad' _) ⟨hφ,⟨_,a_4 _ rfl⟩,hs⟩
variable{o:Expr}{td:TE}{apos cpos:Pos}
theorem c2_(ho:PE X o td)(hbase:attributeBase o "items" X.env (eval o X.env)=eval o X.env:=by rfl)(hline:(apos.endLine == cpos.line)=true:=by rfl):PE X (.Call (.Attribute o "items" apos) [] [] cpos) (tView a8' td):=by
 intro pins s σ H Q I h;refine wpAny_Call_method0_late hbase hline (thn (ho pins s σ H _ I h) λv s1 ⟨x,H1,I1,r1,d,kvs,e,hd,q⟩=>?_);subst e;cases r1;obtain⟨t1,t2,t3⟩:=hd_ I1 (.inl ⟨kvs,.inl hd⟩);obtain⟨_,_,vs,rel,dd⟩:=dk_ I1.hok hd;refine⟨"dict","dict.items",PySem.F.plainAttrs_dict,PySem.F.slot_dict_items,PySem.F.type_dict_items,t1,t2,Calls.callWith_builtin rfl (PySem.evalArgs_none ?_)⟩;refine call_meetsIn PySem.F.slot_dict_items t1 PySem.F.entry_dict_items (PySem.F.args_dict_items_1 _) (meets_dict_items (aV' X.prog X.w) d t3) ⟨⟨vs,dd⟩,?_⟩;exact⟨.ref _,_,fl_ I1 _ ⟨_,a_4 _ rfl,rfl,rfl⟩ λh1 h2 ⟨o,e,r⟩ k=>⟨o,k o e,r⟩,rfl,q _ I1.fresh⟩
theorem cf_(ho:PE X o td)(hbase:attributeBase o "values" X.env (eval o X.env)=eval o X.env:=by rfl)(hline:(apos.endLine == cpos.line)=true:=by rfl):PE X (.Call (.Attribute o "values" apos) [] [] cpos) (tView a3' td):=by
 intro pins s σ H Q I h;refine wpAny_Call_method0_late hbase hline (thn (ho pins s σ H _ I h) λv s1 ⟨x,H1,I1,r1,d,kvs,e,hd,q⟩=>?_);subst e;cases r1;obtain⟨t1,t2,t3⟩:=hd_ I1 (.inl ⟨kvs,.inl hd⟩);obtain⟨_,_,vs,rel,dd⟩:=dk_ I1.hok hd;refine⟨"dict","dict.values",PySem.F.plainAttrs_dict,PySem.F.slot_dict_values,PySem.F.type_dict_values,t1,t2,Calls.callWith_builtin rfl (PySem.evalArgs_none ?_)⟩;refine call_meetsIn PySem.F.slot_dict_values t1 PySem.F.entry_dict_values (PySem.F.args_dict_values_1 _) (meets_dict_values (aV' X.prog X.w) d t3) ⟨⟨vs,dd⟩,?_⟩;exact⟨.ref _,_,fl_ I1 _ ⟨_,a_4 _ rfl,rfl,rfl⟩ λh1 h2 ⟨o,e,r⟩ k=>⟨o,k o e,r⟩,rfl,q _ I1.fresh⟩
variable{kvs:List (Key × V)}
theorem Inv.freeze(I:Inv X pins σ H s)(h:H d=some (.dK kvs)):∃o,s.heap.get? d=some o/\Inv X pins σ (upd H d (.frz o (.dK kvs))) s:=by
 obtain⟨z,hd,vs,rel,dd⟩:=dk_ I.hok h;obtain⟨o,es,ep,ho,r⟩:=id dd;have other:∀{b u},H b=some u->u≠.dK kvs->upd H d (.frz o (.dK kvs)) b=some u:=λ{b u} e ne=>by rw[a5_ (ac_ e h ne)];exact e
 refine⟨o,ho,I.un (h':=s.heap) (t':=s.toks) ⟨λb u q _ _ _=>q,λb u q _ _ _=>⟨u.slots,q⟩,λb u q n _=>?_,λb u q _=>⟨u,q⟩,λb xs q=>other q Z2,λb u v q=>other q Z2,λb ps q=>⟨#[],by rw[Array.append_empty];exact other q Z2⟩⟩ λb u q=>?_⟩
 ·by_cases e:b=d
  ·subst e;rw[h] at n;cases n
  ·rw[a5_ e];exact n
 ·by_cases e:b=d
  ·subst e;rw[a1_] at q;cases q;exact⟨ho,z,hd,vs,rel,dd⟩
  ·rw[a5_ e] at q;exact (I.hok b u q).stay (λc v _ z=>z) (λc z=>other z Z2) λc xs z=>other z Z2
variable{o:Obj}
theorem Inv.thaw(I:Inv X pins σ H s)(h:H d=some (.frz o (.dK kvs)))(h0:∀o u,X.H₀ d≠some (.frz o u)):Inv X pins σ (upd H d (.dK kvs)) s:=by
 have other:∀{b u},H b=some u->(∀o v,u≠.frz o v)->upd H d (.dK kvs) b=some u:=λ{b u} e ne=>by rw[a5_ (ac_ e h (ne _ _))];exact e
 have none':∀{b},H b=none->upd H d (.dK kvs) b=none:=λ{b} e=>by
  rw[a5_ (λz=>by subst z;rw[h] at e;cases e)];exact e
 refine⟨I.ok,I.os,I.bare,⟨I.base.keep,I.base.slot,λb u q n hx=>none' (I.base.free b u q n hx),I.base.there,λb xs q=>other (I.base.tups b xs q) Z2,λb u v q=>?_,λb ps q=>?_⟩,I.loc,I.cell,none' I.free,λx c e=>none' (I.freeC x c e),λp hp=>?_,λb u q=>?_,I.len⟩
 ·have:=I.base.frzs b u v q;rw[a5_ (λz=>by subst z;exact h0 _ _ q)];exact this
 ·obtain⟨more,e⟩:=I.base.tbls b ps q;exact⟨more,other e Z2⟩
 ·obtain⟨a1,a2,a3⟩:=I.pin p hp;exact⟨a1,none' a2,a3⟩
 ·by_cases e:b=d
  ·subst e;rw[a1_] at q;cases q;obtain⟨ho,z,hd,vs,rel,dd⟩:=I.hok b _ h;exact⟨z,hd,vs,rel,dd⟩
  ·rw[a5_ e] at q;exact (I.hok b u q).stay (λc v _ z=>z) (λc z=>other z Z2) λc xs z=>other z Z2
def tThaw(t:TE):TE:=λσ H Q=>∃d kvs,H d=some (.dK kvs)/\t σ H λv H1=>∃o,H1 d=some (.frz o (.dK kvs))/\Q v (upd H1 d (.dK kvs))
variable{e:Expr}
theorem fg_{t:TE}(h:PE X e t):PE X e (tThaw t):=by
 intro pins s σ H Q I q;obtain⟨d,kvs,hd,q⟩:=q;refine thn (h pins s σ H _ I q) λu s' ⟨v,H1,I1,r,o,hf,q1⟩=>⟨v,_,I1.thaw hf (λo u z=>?_),r,q1⟩;have:=I.base.frzs _ _ _ z;rw[hd] at this;cases this
def Itv(d:Addr)(o:Obj)(kvs:List (Key × V)):It:=⟨λi H=>H d=some (.frz o (.dK kvs))/\i<kvs.length,λi H x H'=>H'=H/\∃k,kvs[i]? = some (k,x),λi H=>H d=some (.frz o (.dK kvs))/\kvs.length<=i⟩
variable{es:Array DictEntry}{ep:Nat}
theorem aS_(I:Inv X pins σ H s)(h:H d=some (.frz o (.dK kvs)))(ho:o.data=.dict es ep):∃vs,KV kvs vs/\s.heap.DictAt (aV' X.prog X.w) d vs ep:=by
 obtain⟨e,z,hd,vs,rel,o',es',ep',e',c',d',r⟩:=I.hok d _ h;rw[e] at e';cases e';rw[ho] at d';cases d';exact⟨vs,rel,o,es,e,c',ho,r⟩
theorem em_{κ:Type}{kvs:List (κ × V)}{vs:List (κ × Aa)}(r:KV kvs vs):∀(i:Nat) {k:κ} {x:V},kvs[i]? = some (k,x)->∃u,vs[i]? = some (k,u)/\RelV x u:=by
 induction r with
 |nil=>intro i k x e;simp at e
 |@cons p q _ _ h _ ih=>
  intro i k x e;cases i with
  |zero=>
   have e:p=(k,x):=by simpa using e
   subst e;refine⟨q.2,?_,h.2⟩;rw[List.getElem?_cons_zero];have h1:k=q.1:=h.1;rw[h1]
  |succ i=>exact ih i (by simpa using e)
variable{P:Ad}{w:Af}{K:F__}{tg:Expr}
theorem fn_(d it:Addr)(o:Obj)(kvs:List (Key × V))(ho:o.data=.dict es ep):Turn P w K tg (Itv d o kvs) [it] it (λi h=>h.IsValIter it d i kvs.length ep) where
 mem:=by simp
 obj:=λi h st b hb=>by
  obtain rfl:b=it:=by simpa using hb
  obtain⟨o,e,c,d⟩:=st;exact⟨o,e,λv z=>by rw[d] at z;cases z⟩
 keep:=λi h h' st k=>st.at λo e=>k it Z2 o e
 item:=by
  intro X hP hw hK hc i pins s σ H E I hf st hg;subst hP hw hK;obtain⟨hd,hi⟩:=hg;obtain⟨vs,rel,dat⟩:=aS_ I hd ho;obtain⟨⟨k,x⟩,hx⟩:∃p,kvs[i]? = some p:=⟨kvs[i],by simp[hi]⟩;obtain⟨u,hu,ru⟩:=em_ rel i hx;obtain⟨f0,f1,f2,f3,f4,f5⟩:=hf it Z2;rw[rel.length] at st;refine wpAny_pyNext_values_item st dat hu λh' st' sb=>?_;have I1:Inv X pins σ H { s with heap:=h' }:=I.turned (t':=s.toks) (λb o hb e=>(sb.2 b hb).trans e) f0 f1 f3 f4 f5;obtain⟨o',e,c,dd⟩:=id st';refine⟨u,rfl,eJ_ (s:={ s with heap:=h' }) e c dd (by decide) ⟨x,H,I1,ru,⟨rfl,k,hx⟩,?_,λb hb=>(hf b hb).1⟩⟩;show h'.IsValIter it d (i+1) kvs.length ep;rw[rel.length];exact st'
 done:=by
  intro X hP hw hK hc i pins s σ H E I hf st hg;subst hP hw hK;obtain⟨hd,hi⟩:=hg;obtain⟨vs,rel,dat⟩:=aS_ I hd ho;obtain⟨f0,f1,f2,f3,f4,f5⟩:=hf it Z2;rw[rel.length] at st hi;exact wpAny_pyNext_values_end (I.ok.hd hc) st dat (by simp;omega) λh' eb=>⟨rfl,I.turned (t':=s.toks) (λb o hb e=>eb b o hb e) f0 f1 f3 f4 f5⟩
 self:=λ_ _ _ _ _ st h=>wpAny_pyIter_valiter st h
inductive iValsR (R:It->Hp->Prop) (x:V) (H1:Hp):Prop
 |mk:∀v d kvs,x=.ref v->H1 v=some (a3' v d)->H1 d=some (.dK kvs)->(∀o,R (Itv d o kvs) (upd H1 d (.frz o (.dK kvs))))->iValsR R x H1
def iVals(tv:TE):TI:=λσ H R=>tv σ H λx H1=>iValsR R x H1
theorem fB_{tv:TE}(he:PE X e tv):PI X tg e (iVals tv):=by
 intro pins s σ H R I h;refine thn (he pins s σ H _ I h) λu s1 ⟨x,H1,I1,r1,v,d,kvs,ex,hv,hd,q⟩=>?_;subst ex;cases r1;obtain⟨iv,_,_⟩:=I1.hok v _ hv;obtain⟨o,ho,I2⟩:=I1.freeze hd;obtain⟨z,_,vs,rel,o',es,ep,ho',c',dt,r⟩:=dk_ I1.hok hd;rw[ho] at ho';cases ho';have hne:v≠d:=ac_ hv hd nofun;refine wpAny_pyIter_values (knd:=aV' X.prog X.w) (kvs:=vs) (ep:=ep) iv ⟨o,es,ho,c',dt,r⟩ ?_;refine⟨s1.heap.objs.size,[s1.heap.objs.size],_,_,_,rfl,I2.kept (t':=s1.toks) λb o e=>a_0 _ e,fn_ d _ o kvs dt,?_,λb hb=>?_,q o⟩
 ·rw[rel.length];exact⟨_,a_4 _ rfl,rfl,rfl⟩
 ·obtain rfl:b=s1.heap.objs.size:=by simpa using hb
  exact I2.fpOk (ad' _) (I2.hok.fresh (ad' _))
def Its(x:Str):It:=⟨λi _=>i<x.cps.size,λi H v H'=>H'=H/\∃c,x.cps[i]? = some c/\v=.str ⟨#[c]⟩,λi _=>x.cps.size<=i⟩
theorem eA_(it:Addr)(x:Str)(t:Tok):Turn P w K tg (Its x) [it] it (λi h=>i<=x.cps.size/\h.IsStrIter it "str_ascii_iterator" x t i) where
 mem:=by simp
 obj:=λi h st b hb=>by
  obtain rfl:b=it:=by simpa using hb
  obtain⟨o,e,c,d⟩:=st.2;exact⟨o,e,λv z=>by rw[d] at z;cases z⟩
 keep:=λi h h' st k=>⟨st.1,let ⟨o,ho,r⟩:=st.2;⟨o,k it Z2 o ho,r⟩⟩
 item:=by
  intro X hP hw hK hc i pins s σ H E I hf st hg;subst hP hw hK;have hg:i<x.cps.size:=hg;obtain⟨f0,f1,f2,f3,f4,f5⟩:=hf it Z2;refine wpAny_pyNext_ascii_item st.2 (c:=x.cps[i]) (by simp[hg]) λh' st' sb=>?_;have I1:Inv X pins σ H { s with heap:=h',toks:=s.toks+1 }:=I.turned (t':=s.toks+1) (λb o hb e=>(sb.2 b hb).trans e) f0 f1 f3 f4 f5;obtain⟨o',e,c,dd⟩:=id st';exact⟨_,rfl,eJ_ (s:={ s with heap:=h',toks:=s.toks+1 }) e c dd (by decide) ⟨.str ⟨#[x.cps[i]]⟩,H,I1,⟨_,rfl⟩,⟨rfl,_,by simp[hg],rfl⟩,⟨hg,st'⟩,λb hb=>(hf b hb).1⟩⟩
 done:=by
  intro X hP hw hK hc i pins s σ H E I hf st hg;subst hP hw hK;have hg:x.cps.size<=i:=hg;obtain⟨f0,f1,f2,f3,f4,f5⟩:=hf it Z2;exact wpAny_pyNext_ascii_end (I.ok.hd hc) st.2 (by simp[hg]) λh' eb=>⟨rfl,I.turned (t':=s.toks) (λb o hb e=>eb b o hb e) f0 f1 f3 f4 f5⟩
 self:=λ_ _ _ _ _ st h=>wpAny_pyIter_striter_ascii st.2 h
theorem g1_(it:Addr)(x:Str)(t:Tok):Turn P w K tg (Its x) [it] it (λi h=>i<=x.cps.size/\h.IsStrIter it "str_iterator" x t i) where
 mem:=by simp
 obj:=λi h st b hb=>by
  obtain rfl:b=it:=by simpa using hb
  obtain⟨o,e,c,d⟩:=st.2;exact⟨o,e,λv z=>by rw[d] at z;cases z⟩
 keep:=λi h h' st k=>⟨st.1,let ⟨o,ho,r⟩:=st.2;⟨o,k it Z2 o ho,r⟩⟩
 item:=by
  intro X hP hw hK hc i pins s σ H E I hf st hg;subst hP hw hK;have hg:i<x.cps.size:=hg;obtain⟨f0,f1,f2,f3,f4,f5⟩:=hf it Z2;refine wpAny_pyNext_wide_item st.2 (c:=x.cps[i]) (by simp[hg]) λh' st' sb=>?_;have I1:Inv X pins σ H { s with heap:=h',toks:=s.toks+1 }:=I.turned (t':=s.toks+1) (λb o hb e=>(sb.2 b hb).trans e) f0 f1 f3 f4 f5;obtain⟨o',e,c,dd⟩:=id st';exact⟨_,rfl,eJ_ (s:={ s with heap:=h',toks:=s.toks+1 }) e c dd (by decide) ⟨.str ⟨#[x.cps[i]]⟩,H,I1,⟨_,rfl⟩,⟨rfl,_,by simp[hg],rfl⟩,⟨hg,st'⟩,λb hb=>(hf b hb).1⟩⟩
 done:=by
  intro X hP hw hK hc i pins s σ H E I hf st hg;subst hP hw hK;have hg:x.cps.size<=i:=hg;obtain⟨f0,f1,f2,f3,f4,f5⟩:=hf it Z2;exact wpAny_pyNext_wide_end (I.ok.hd hc) st.2 (by simp[hg]) λh' eb=>⟨rfl,I.turned (t':=s.toks) (λb o hb e=>eb b o hb e) f0 f1 f3 f4 f5⟩
 self:=λ_ _ _ _ _ st h=>wpAny_pyIter_striter_wide st.2 h
inductive iStrR (R:It->Hp->Prop) (v:V) (H1:Hp):Prop
 |mk:∀x,v=.str x->R (Its x) H1->iStrR R v H1
def iStr(tl:TE):TI:=λσ H R=>tl σ H λv H1=>iStrR R v H1
theorem iG_{l:Expr}{tl:TE}(hl:PE X l tl):PI X tg l (iStr tl):=by
 intro pins s σ H R I h;refine thn (hl pins s σ H _ I h) λv s1 ⟨y,H1,I1,r1,x,e,q⟩=>?_;subst e;obtain⟨t,rfl⟩:=r1
 have fp:∀b∈[s1.heap.objs.size],FpOk X pins H1 b:=λb hb=>by
  obtain rfl:b=s1.heap.objs.size:=by simpa using hb
  exact I1.fpOk (ad' _) (I1.hok.fresh (ad' _))
 cases ha:x.cps.all (· < 128)
 ·refine wpAny_pyIter_wide ha ?_;exact⟨s1.heap.objs.size,[s1.heap.objs.size],_,_,H1,rfl,I1.kept (t':=s1.toks) λb o e=>a_0 _ e,g1_ _ x t,⟨aC' _,_,a_4 _ rfl,rfl,rfl⟩,fp,q⟩
 ·refine wpAny_pyIter_ascii ha ?_;exact⟨s1.heap.objs.size,[s1.heap.objs.size],_,_,H1,rfl,I1.kept (t':=s1.toks) λb o e=>a_0 _ e,eA_ _ x t,⟨aC' _,_,a_4 _ rfl,rfl,rfl⟩,fp,q⟩
theorem opK{f:Aa->Aa->Sem Aa}(r:F__->R2)(h:OpR X f (r X.K))(hK:X.K=K:=by rfl):OpR X f (r K):=by
 subst hK;exact h
theorem callK{f:Aa}(r:F__->List V->Hp->VK->Prop)(h:bd' X f (r X.K))(hK:X.K=K:=by rfl):bd' X f (r K):=by
 subst hK;exact h
theorem ixK(r:F__->R2)(h:IxR X (r X.K))(hK:X.K=K:=by rfl):IxR X (r K):=by
 subst hK;exact h
abbrev cN'(K:F__):=bh' K
abbrev rTupOf(K:F__):=bf' K
theorem cListOf(hK:X.K=K:=by rfl):bd' X (.type "list") (cN' K):=callK cN' dn_ hK
theorem cTupOf(hK:X.K=K:=by rfl):bd' X (.type "tuple") (rTupOf K):=callK rTupOf cM_ hK
theorem cW_{N:List Str}{scope:Scope}{fp:List Addr}{es:List Expr}{k:Nat}{pos:Pos}{t:TGs}(h:PGs (a2' X N scope fp s H) es t)(hc:X.calm=true:=by rfl)(hn:(assignEach es (a2' X N scope fp s H).env).length=n:=by rfl)(hst:(assignEach es (a2' X N scope fp s H).env).findIdx? (·.1)=none:=by rfl):PG (a2' X N scope fp s H) (.Tuple es k pos) (gTup X.K n t):=co_ (X:=a2' X N scope fp s H) hc h hn hst
end L2
namespace Ev
open PySem L2
def top(i:Nat):Stmt:=PySem.Challenge.pw_evenpieces_k65_ways_by_their_name.main.body.getD i (.Pass ⟨0,0,0,0⟩)
abbrev sIsW:Stmt:=top 11
abbrev sWhole:Stmt:=top 13
abbrev sName:Stmt:=top 14
abbrev cy':Stmt:=top 15
abbrev sPair:Stmt:=top 16
abbrev cB':Stmt:=top 17
abbrev sAnew:Stmt:=top 18
abbrev sHand:Stmt:=top 25
abbrev sStr:Stmt:=top 26
abbrev sTies:Stmt:=top 27
abbrev sNear:Stmt:=top 28
abbrev sWeb:Stmt:=top 30
def ltS(a b:Str):Bool:=decide (a.cps.toList<b.cps.toList)
def ord2(a b:Str):Str × Str:=if ltS a b=true then (a,b) else (b,a)
section
variable{P:Ad}{w:Af}{K:F__}{mg:Str->Option Aa}{base:Heap}
theorem f__{N p:List Str}{c:Scope}(h:aT' N p c:=by exact⟨rfl,rfl,rfl,by decide +kernel,rfl,by decide +kernel,by decide +kernel⟩):aT' N p c:=h
theorem scLesser:aT' ["one","other"] ["one","other"] (aS' cy'):=f__
def bJ':Sp:=λvs H Q _=>∃a b,vs=[.str a,.str b]/\∀t,H t=none->Q (.ref t) (upd H t (.tup [.str (ord2 a b).1,.str (ord2 a b).2]))
theorem fx_{f:Addr}{fd:Ae}(F:Fun K "lesser_first" "lesser_first" cy' f fd):FnOk P w K mg base CX0 1 f fd ["one","other"] bJ':=by
 refine F.ok scLesser (λvs H Q E h=>?_) (λcdv A outer s H vs Q E hr h=>?_)
 ·obtain⟨a,b,rfl,_⟩:=h;rfl
 ·obtain⟨a,b,rfl,k⟩:=h;refine⟨_,a6_ (ae_ (e4_ (ar_ fE_ (pv 0) (pv 1) (nomark _)) (aL_ (a0_ (pv 0) (a0_ (pv 1) a3_))) (aL_ (a0_ (pv 1) (a0_ (pv 0) a3_))))),?_⟩;refine⟨_,rfl,_,rfl,a,b,rfl,rfl,_,rfl,?_⟩;refine ite2 (λc=>?_) (λc=>?_)
  ·refine⟨_,rfl,_,rfl,by show 2<=sizeLine;decide,λt ht=>?_⟩;have:=k t ht;rwa [show ord2 a b=(a,b) from a_9 c] at this
  ·refine⟨_,rfl,_,rfl,by show 2<=sizeLine;decide,λt ht=>?_⟩;have:=k t ht;rwa [show ord2 a b=(b,a) from a_6 c] at this
theorem scWhole:aT' ["thing","least","most"] ["thing","least","most"] (aS' sWhole):=f__
def b7':Sp:=λvs H Q _=>∃i a b:Int,vs=[.int i,.int a,.int b]/\Q (.bl (decide (a<=i)&&decide (i<=b))) H
structure Bi (mg:Str->Option Aa):Prop where
 isi:mg "isinstance"=none
 int:mg "int"=none
 bool:mg "bool"=none
 str:mg "str"=none
 tuple:mg "tuple"=none
 list:mg "list"=none
 dict:mg "dict"=none
 len:mg "len"=none
 all:mg "all"=none
 sorted:mg "sorted"=none
 max:mg "max"=none
 range:mg "range"=none
 any:mg "any"=none
 enum:mg "enumerate"=none
structure Cal (P:Ad) (w:Af) (K:F__) (mg:Str->Option Aa) (base:Heap) (k:Nat) (x:Str) (ps:List Str) (sp:Sp):Prop where
 ex:∃f fd,FnOk P w K mg base CX0 k f fd ps sp/\mg x=some (.ref f)/\PySem.W.keepIn K (.ref f)=true/\bn' K fd ps []
theorem ai_{X:Cx}{k:Nat}{x:Str}{ps:List Str}{sp:Sp}{p pos:Pos}{e:Expr}{es:List Expr}{t:TA}(c:Cal X.prog X.w X.K X.mg X.base k x ps sp)(hr:Room k X.A)(ha:PA X (e::es) t)(hg:Gl X x:=by rfl)(hdb:(x == ("__debug__":Str))=false:=by decide)
  (he:starEach (e::es) X.env=(false,eval e X.env)::starEach es X.env:=by rfl) (hpl:(backTo pos (starEach es X.env)).any (·.1)=false:=by rfl):PE X (.Call (.Name x p) (e::es) [] pos) (tCall sp [] E0 t):=by
 obtain⟨f,fd,F,m,kp,b⟩:=c.ex;exact hE_ F hr hg m kp b .nil pass0 ha hdb he hpl
theorem scIsW:aT' ["thing"] ["thing"] (aS' sIsW):=f__
def spIsW:Sp:=λvs H Q _=>∃i:Int,vs=[.int i]/\Q (.bl true) H
theorem iE_{f:Addr}{fd:Ae}(F:Fun K "is_whole" "is_whole" sIsW f fd)(B:Bi mg):FnOk P w K mg base CX0 1 f fd ["thing"] spIsW:=by
 refine F.ok scIsW (λvs H Q E h=>?_) (λcdv A outer s H vs Q E hr h=>?_)
 ·obtain⟨i,rfl,_⟩:=h;rfl
 ·obtain⟨i,rfl,k⟩:=h;refine⟨_,a6_ (ae_ (b1_ (a9_ aD_ (by rfl) B.isi PyProof.Rows.Boot.«isinstance» (a0_ (pv 0) (a0_ (aN_ (v:=.ty "int") (by rfl) B.int PyProof.Rows.Boot.«int» rfl) a3_))) (bu_ (ia_ (a9_ aD_ (by rfl) B.isi PyProof.Rows.Boot.«isinstance» (a0_ (pv 0) (a0_ (aN_ (v:=.ty "bool") (by rfl) B.bool PyProof.Rows.Boot.«bool» rfl) a3_))))))),?_⟩;exact⟨_,rfl,_,_,_,_,rfl,.int i,rfl,_,rfl,iteT ⟨_,rfl,_,_,_,_,rfl,.int i,rfl,_,rfl,k⟩⟩
theorem gZ_{f:Addr}{fd:Ae}(F:Fun K "is_whole_within" "is_whole_within" sWhole f fd)(cI:Cal P w K mg base 1 "is_whole" ["thing"] spIsW):FnOk P w K mg base CX0 2 f fd ["thing","least","most"] b7':=by
 refine F.ok scWhole (λvs H Q E h=>?_) (λcdv A outer s H vs Q E hr h=>?_)
 ·obtain⟨i,a,b,rfl,_⟩:=h;rfl
 ·obtain⟨i,a,b,rfl,k⟩:=h;refine⟨_,a6_ (ae_ (b1_ (ai_ cI hr (a0_ (pv 0) a3_)) (bu_ (e9_ ev_ ev_ (pv 1) (pv 0) (pv 2))))),?_⟩;refine⟨_,rfl,i,rfl,_,rfl,iteT ?_⟩;refine⟨_,rfl,_,rfl,_,_,rfl,rfl,_,rfl,?_⟩;refine ite2 (λc=>?_) (λc=>?_)
  ·refine⟨_,rfl,_,_,rfl,rfl,?_⟩;rw[c] at k;exact k
  ·rw[show decide (a<=i)=false by simpa using c] at k;exact k
def okc(c:Nat):Bool:=decide (97<=c)&&decide (c<=122)
def be'(x:Str):Bool:=decide (1<=x.length)&&decide (x.length<=8)&&x.cps.toList.all okc
theorem scName:aT' ["thing"] ["thing"] (aS' sName):=f__
def cp':Sp:=λvs H Q _=>∃x:Str,vs=[.str x]/\x.length<=100000/\∀H',Same H H'->Q (.bl (be' x)) H'
theorem i6_{c:Nat}:(!decide ((⟨#[c]⟩:Str).cps.toList<("a":Str).cps.toList))=decide (97<=c):=by
 have e:("a":Str).cps.toList=[97]:=by decide +kernel
 rw[e];show (!decide ([c] < [97]))=decide (97<=c);by_cases h:97<=c
 ·have:¬[c] < [97]:=by simp[List.cons_lt_cons_iff];omega
  simp[this,h]
 ·have:[c] < [97]:=by simp[List.cons_lt_cons_iff];omega
  simp[this,h]
theorem hZ_{c:Nat}:(!decide (("z":Str).cps.toList<(⟨#[c]⟩:Str).cps.toList))=decide (c<=122):=by
 have e:("z":Str).cps.toList=[122]:=by decide +kernel
 rw[e];show (!decide ([122] < [c]))=decide (c<=122);by_cases h:c<=122
 ·have:¬[122] < [c]:=by simp[List.cons_lt_cons_iff];omega
  simp[this,h]
 ·have:[122] < [c]:=by simp[List.cons_lt_cons_iff];omega
  simp[this,h]
theorem hv_{f:Addr}{fd:Ae}(F:Fun K "is_name" "is_name" sName f fd)(B:Bi mg){t8:Tok}(m8:mg "MOST_LETTERS"=some (.int 8 t8)):FnOk P w K mg base CX0 1 f fd ["thing"] cp':=by
 refine F.ok scName (λvs H Q E h=>?_) (λcdv A outer s H vs Q E hr h=>?_)
 ·obtain⟨x,rfl,_⟩:=h;rfl
 ·obtain⟨x,rfl,hz,k⟩:=h;have sz:=b__
  refine⟨_,a2_ (au_ (dO_ (aE_ (aJ_ (a9_ aD_ (by rfl) B.isi PyProof.Rows.Boot.«isinstance» (a0_ (pv 0) (a0_ (aN_ (v:=.ty "str") (by rfl) B.str PyProof.Rows.Boot.«str» rfl) a3_)))))
    (cd_ (aE_ (e7_ ev_ ev_ a8_ (a9_ d6_ (by rfl) B.len b_5 (a0_ (pv 0) a3_)) (bj_ (v:=.int 8) (by rfl) m8 ⟨t8,rfl⟩))))).pt (a6_ (ae_ h0_)) ab_)
   (a6_ (ae_ (a9_ (cT_ rfl) (by rfl) B.all PyProof.Rows.Boot.«all» (a0_
    (aT_ ["letter"] 1 [] (iG_ (pv 0)) (λfp s H=>aa_ (i:=0) (show (["letter"]:List Str).Nodup by decide +kernel) rfl (Or.inl rfl)) (λfp s H=>aV_) (λfp s H=>e9_ d5_ d5_ bv_ (pv 0) bv_)) a3_)))),?_⟩
  refine⟨_,rfl,_,_,_,_,rfl,.str x,rfl,_,rfl,?_⟩;refine iteF ?_;refine⟨_,rfl,x,rfl,by omega,_,_,rfl,rfl,_,rfl,?_⟩
  have fin:(decide (1<=x.length)&&decide (x.length<=8))=false->∀H',Same H H'->Q (.bl false) H':=λe H' sm=>by
   have:=k H' sm;rwa [show be' x=false by unfold be';rw[e];rfl] at this
  refine ite2 (λc=>?_) (λc=>?_)
  ·have c1:1<=x.length:=by
    have:(1:Int)<=(x.length:Int):=by simpa using c
    omega
   refine⟨_,_,rfl,rfl,_,rfl,?_⟩;refine ite2 (λc2=>?_) (λc2=>?_)
   ·-- too long
    have c3:¬x.length<=8:=by
     have:¬((x.length:Int)<=8):=by simpa using c2
     omega
    exact fin (by rw[a_7 c3,Bool.and_false]) H (Same.refl H)
   ·have c3:x.length<=8:=by
     have:(x.length:Int)<=8:=by simpa using c2
     omega
    refine⟨_,rfl,x,rfl,λD hD=>?_⟩;refine cN_ (own:=1) (fv:=[]) rfl gok1 x.cps.size (λi out H'=>H'=upd H D (.lst out)/\out=((x.cps.toList.take i).map okc).map V.bl) ⟨rfl,by simp⟩ (λout H' ⟨e1,e2⟩=>?_) (λi out H' hi ⟨e1,e2⟩=>?_)
    ·refine⟨ad' _,D,x.cps.toList.map okc,rfl,.of ?_,?_⟩
     ·rw[e1,a1_,e2,aK' Z2]
     ·have:=k H' (by rw[e1];exact Same.new hD);rwa [show be' x=(x.cps.toList.map okc).all id by unfold be';rw[a_2 c1,a_2 c3,List.all_map];rfl] at this
    ·refine⟨hi,λv H2 y=>?_⟩;obtain⟨eH,c,hc,rfl⟩:=y;subst eH;refine⟨_,rfl,rfl,λNx hN=>yesT ?_⟩
     have lo:out.length<sizeLine:=by
      rw[e2];have hs:x.length=x.cps.size:=rfl;simp only[aa',ak',aL'];omega
     have nx:Nx (upd H2 D (.lst (out++[V.bl (okc c)]))):=hN (out++[V.bl (okc c)]) _ ⟨by rw[e1,hR_],by
      rw[e2,aE'];simp[hc]⟩
     have atD:H2 D=some (.lst out):=by rw[e1,a1_]
     refine⟨_,rfl,_,_,rfl,rfl,_,rfl,?_⟩;rw[i6_];refine ite2 (λc2=>?_) (λc2=>?_)
     ·refine⟨_,_,rfl,rfl,out,atD,lo,?_⟩;rw[hZ_];rwa [show okc c=decide (c<=122) by unfold okc;rw[c2];rfl] at nx
     ·refine⟨out,atD,lo,?_⟩;rwa [show okc c=false by unfold okc;rw[show decide (97<=c)=false by simpa using c2];rfl] at nx
  ·have c1:¬1<=x.length:=by
    have:¬((1:Int)<=(x.length:Int)):=by simpa using c
    omega
   exact⟨_,rfl,iteT (fin (by rw[a_7 c1];rfl) H (Same.refl H))⟩
end
def kT(t:Str × Str):List Key:=[.inr t.1,.inr t.2]
def ct'(t:Str × Str):Prop:=be' t.1=true/\be' t.2=true/\t.1≠t.2
theorem bD_{x:Str}(h:be' x=true):x.length<=8:=by
 unfold be' at h;simp only[Bool.and_eq_true,decide_eq_true_eq] at h;exact h.1.2
theorem hpT{H:Hp}{p:Addr}{t:Str × Str}(h:H p=some (.tup ((kT t).map kV))):H p=some (.tup [.str t.1,.str t.2]):=h
section
variable{P:Ad}{w:Af}{K:F__}{mg:Str->Option Aa}{base:Heap}
theorem scPair:aT' ["thing"] ["thing"] (aS' sPair):=f__
def spPair:Sp:=λvs H Q _=>∃(p:Addr) (a b:Str),vs=[.ref p]/\H p=some (.tup [.str a,.str b])/\a.length<=100000/\b.length<=100000/\∀H',Same H H'->Q (.bl (be' a&&be' b&&!decide (a=b))) H'
theorem hH_{f:Addr}{fd:Ae}(F:Fun K "is_pair_of_names" "is_pair_of_names" sPair f fd)(B:Bi mg)(cN:Cal P w K mg base 1 "is_name" ["thing"] cp'):FnOk P w K mg base CX0 2 f fd ["thing"] spPair:=by
 refine F.ok scPair (λvs H Q E h=>?_) (λcdv A outer s H vs Q E hr h=>?_)
 ·obtain⟨p,a,b,rfl,_⟩:=h;rfl
 ·obtain⟨p,a,b,rfl,hp,la,lb,k⟩:=h
  refine⟨_,a2_ (au_ (dO_ (aE_ (aJ_ (a9_ aD_ (by rfl) B.isi PyProof.Rows.Boot.«isinstance» (a0_ (pv 0) (a0_ (aN_ (v:=.ty "tuple") (by rfl) B.tuple PyProof.Rows.Boot.«tuple» rfl) a3_)))))
    (cd_ (ar_ fi_ (a9_ am_ (by rfl) B.len b_5 (a0_ (pv 0) a3_)) a8_ (nomark _)))).pt (a6_ (ae_ h0_)) ab_)
   (a6_ (ae_ (b1_ (ai_ cN hr (a0_ (aA_ aI_ (pv 0) a8_ (λ_ _=>rfl)) a3_)) (b1_ (ai_ cN hr (a0_ (aA_ aI_ (pv 0) a8_ (λ_ _=>rfl)) a3_))
    (bu_ (bP_ fi_ (aA_ aI_ (pv 0) a8_ (λ_ _=>rfl)) (aA_ aI_ (pv 0) a8_ (λ_ _=>rfl)) (nomark _))))))),?_⟩
  refine⟨_,rfl,_,_,_,_,rfl,.tup hp,rfl,_,rfl,iteF ?_⟩;refine⟨_,rfl,p,_,rfl,.inr (.of hp),rfl,_,rfl,?_⟩;refine iteNS (show V.int ((2:Nat):Int)=V.int 2 from rfl) ?_;refine⟨_,rfl,p,_,_,_,rfl,rfl,.of hp,rfl,a,rfl,la,λH1 s1=>⟨_,rfl,?_⟩⟩;have hp1:=s1 _ _ hp;refine ite2 (λc=>?_) (λc=>?_)
  ·refine⟨_,rfl,p,_,_,_,rfl,rfl,.of hp1,rfl,b,rfl,lb,λH2 s2=>⟨_,rfl,?_⟩⟩;have hp2:=s2 _ _ hp1;have kk:=k H2 (s1.trans s2);refine ite2 (λc2=>?_) (λc2=>?_)
   ·refine⟨_,rfl,p,_,_,_,rfl,rfl,.of hp2,rfl,_,rfl,p,_,_,_,rfl,rfl,.of hp2,rfl,rfl,?_⟩;rw[c,c2] at kk
    have e:decide (V.str a=V.str b)=decide (a=b):=by
     by_cases z:a=b
     ·simp[z]
     ·simp[z]
    show Q (.bl (!decide (V.str a=V.str b))) H2;rw[e];exact kk
   ·rw[c,show be' b=false by simpa using c2] at kk;exact kk
  ·have kk:=k H1 s1;rw[show be' a=false by simpa using c] at kk;exact kk
theorem bL':aT' ["ties","found","pair","tie"] ["ties"] (aS' cB'):=f__
def bO'(K:F__):Sp:=λvs H Q _=>∃(l:Addr) (ys:List V) (ts:Xb),vs=[.ref l]/\H l=some (.lst ys)/\aU' K H ys (ts.map kT)/\(∀t∈ts,ct' t)/\(ts.map λt=>kT (ord2 t.1 t.2)).Nodup/\ts.length<64 /\
 ∀l' zs H',Same H H'->H l'=none->H' l'=some (.lst zs)->aU' K H' zs (sortKs (ts.map λt=>kT (ord2 t.1 t.2)))->Q (.ref l') H'
theorem aM_{α β γ:Type}{F:α->γ->Prop}{g:β->γ}{ys:List α}{ts:List β}(t:Paired F ys (ts.map g)){i:Nat}{y:α}(h:ys[i]? = some y):∃x,ts[i]? = some x/\F y (g x):=by
 have hi:i<ys.length:=(ab'.mp h).1;have hl:=a_5 t;rw[aa'] at hl;have:=ak_ t i hi (by rw[aa'];omega);rw[List.getElem_map] at this;refine⟨ts[i],ac' Z1,?_⟩;rw[(ab'.mp h).2] at this;exact this
theorem ao_{κ:Type}[DecidableEq κ]{kvs:List (κ × V)}{k:κ}(h:k∉kvs.map (·.1)):valV kvs k=none:=by
 cases e:valV kvs k with
 |none=>rfl
 |some v=>exact absurd (hB_ e) h
theorem ax_{α β:Type}(g:α->β){ts:List α}{i:Nat}{x:α}(h:ts[i]? = some x):(ts.take (i+1)).map g=(ts.take i).map g++[g x]:=by
 rw[aE',h,aq'];rfl
theorem b2_{α β:Type}{g:α->β}{ts:List α}{i:Nat}{x:α}(h:(ts.map g).Nodup)(hx:ts[i]? = some x):g x∉(ts.take i).map g:=by
 intro m;have hi:i<ts.length:=(ab'.mp hx).1;obtain⟨y,hy,e⟩:=af'.mp m;obtain⟨j,hj,e2⟩:=aD' hy;rw[ak'] at hj;rw[List.getElem_take] at e2;rw[aA',aF',List.pairwise_iff_getElem] at h;refine h j i Z1 hi Z1 ?_;rw[e2,e,(ab'.mp hx).2]
theorem fV_{f:Addr}{fd:Ae}(F:Fun K "sorted_ties" "sorted_ties" cB' f fd)(B:Bi mg)(cP:Cal P w K mg base 2 "is_pair_of_names" ["thing"] spPair)(cL:Cal P w K mg base 1 "lesser_first" ["one","other"] bJ'):FnOk P w K mg base CX0 3 f fd ["ties"] (bO' K):=by
 refine F.ok bL' (λvs H Q E h=>?_) (λcdv A outer s H vs Q E hr h=>?_)
 ·obtain⟨l,ys,ts,rfl,_⟩:=h;rfl
 ·obtain⟨l,ys,ts,rfl,hl,tu,good,nd,h64,k⟩:=h;have hu:=bi_ hr;have hr1:Room 1 _:=hr.mono (by decide);have sz:=b__
  refine⟨_,a2_ (au_ (aE_ (aJ_ (a9_ aD_ (by rfl) B.isi PyProof.Rows.Boot.«isinstance» (a0_ (pv 0) (a0_ (aN_ (v:=.ty "list") (by rfl) B.list PyProof.Rows.Boot.«list» rfl) a3_))))) af_ ab_)
   (a2_ (ad_ (i:=1) bL'.nd rfl (Or.inl rfl) gA_)
   (a2_ (aP_ b_0 rfl (av_ (pv 0)) (aa_ (i:=2) bL'.nd rfl (Or.inl rfl))
    (a2_ (au_ (aE_ (aJ_ (ai_ cP hr (a0_ (pv 2) a3_)))) af_ ab_)
    (a2_ (ad_ (i:=3) bL'.nd rfl (Or.inl rfl) (ai_ cL hr1 (a0_ (aA_ aI_ (pv 2) a8_ (λ_ _=>rfl)) (a0_ (aA_ aI_ (pv 2) a8_ (λ_ _=>rfl)) a3_))))
    (a2_ (au_ (bl_ (ch_ hu (pv 3) (pv 1))) af_ ab_)
    (a6_ (aY_ hu (pv 1) (pv 3) h0_ rfl))))))
   (a6_ (ae_ (a9_ (dK_ rfl) (by rfl) B.sorted PyProof.Rows.Boot.«sorted» (a0_ (pv 1) a3_)))))),?_⟩
  refine⟨_,rfl,_,_,_,_,rfl,.lst hl,rfl,_,rfl,iteF ?_⟩;intro d hd;have s0:Same H (upd H d (.dT [])):=Same.new hd;refine⟨_,rfl,l,rfl,⟨_,.of (s0 _ _ hl)⟩,aH_ (K:=K) (a:=l) (xs:=ys) (λi σ H2=>∃(v3 v4:Option V),σ=[some (.ref l),some (.ref d),v3,v4]/\Same H H2/\H2 d=some (.dT ((ts.take i).map λt=>(kT (ord2 t.1 t.2),V.bl true)))) ⟨none,none,rfl,s0,a1_⟩ (λi σ H2 _ ⟨_,_,_,s2,_⟩=>.of (s2 _ _ hl)) ?_ ?_⟩
  ·rintro i y σ H2 hy ⟨v3,v4,rfl,s2,hd2⟩;obtain⟨t,ht,a,rfl,ha⟩:=aM_ tu hy;obtain⟨g1,g2,g3⟩:=good t (ai' ht);have ha2:=s2 _ _ (hpT ha);refine⟨_,rfl,a,t.1,t.2,rfl,ha2,by have:=bD_ g1;omega,by have:=bD_ g2;omega,λH3 s3=>⟨_,rfl,?_⟩⟩;have ha3:=s3 _ _ ha2;have hd3:=s3 _ _ hd2;rw[g1,g2,a_7 g3];refine iteF ?_;refine⟨_,rfl,a,_,_,_,rfl,rfl,.of ha3,rfl,_,rfl,a,_,_,_,rfl,rfl,.of ha3,rfl,t.1,t.2,rfl,λb hb=>?_⟩;have s4:Same H3 (upd H3 b (.tup [.str (ord2 t.1 t.2).1,.str (ord2 t.1 t.2).2])):=Same.new hb;have hd4:=s4 _ _ hd3;have hb4:upd H3 b (.tup [.str (ord2 t.1 t.2).1,.str (ord2 t.1 t.2).2]) b=some (.tup ((kT (ord2 t.1 t.2)).map kV)):=a1_
   have nov:valV ((ts.take i).map λt=>(kT (ord2 t.1 t.2),V.bl true)) (kT (ord2 t.1 t.2))=none:=ao_ (by
    rw[ah'];exact b2_ (g:=λt=>kT (ord2 t.1 t.2)) nd ht)
   refine⟨_,rfl,_,rfl,d,_,rfl,.t (k:=kT (ord2 t.1 t.2)) hd4 hb4,_,rfl,?_⟩;rw[nov];refine iteF ?_;refine⟨_,rfl,_,rfl,d,_,rfl,.t (k:=kT (ord2 t.1 t.2)) hd4 hb4 (by rw[aa',ak'];omega),?_⟩;refine⟨_,_,rfl,λc o e=>?_,?_⟩
   ·rw[a5_ (a7_ e hd)];exact s4 _ _ (s3 _ _ (s2 _ _ e))
   ·rw[a1_,bd_ _ nov,ax_ _ ht]
  ·rintro σ H2 ⟨v3,v4,rfl,s2,hd2⟩;have le:=a_5 tu;rw[aa'] at le;rw[le,ax'] at hd2;refine⟨_,rfl,d,_,[true,true],rfl,hd2,⟨by decide,λk hk=>?_⟩,by rw[aa'];exact h64,λl' zs hn tz=>?_⟩
   ·rw[ah'] at hk;obtain⟨t,_,rfl⟩:=af'.mp hk;rfl
   ·rw[ah'] at tz;exact k l' zs _ (s2.trans (Same.new hn)) (s2.free hn) a1_ (tz.same (Same.new hn))
theorem scAnew:aT' ["ties"] ["ties"] (aS' sAnew):=f__
def spAnew(K:F__):Sp:=λvs H Q _=>∃(l:Addr) (ys:List V) (ts:Xb),vs=[.ref l]/\H l=some (.lst ys)/\aU' K H ys (ts.map kT)/\ts.length<=1000 /\
 ∀l' zs H',Same H H'->H l'=none->H' l'=some (.lst zs)->aU' K H' zs (ts.map kT)->Q (.ref l') H'
theorem bC_{K:F__}{H:Hp}{ys:List V}{ks:List (List Key)}{a:Addr}{k:List Key}(t:aU' K H ys ks)(h:H a=some (.tup (k.map kV))):aU' K H (ys++[.ref a]) (ks++[k]):=Paired.snoc t ⟨a,rfl,h⟩
theorem ay_{H H1:Hp}{D:Addr}{o:HO}(h:Same H H1)(hD:H D=none):Same H (upd H1 D o):=λb u e=>by rw[a5_ (a7_ e hD)];exact h b u e
theorem bp_{K:F__}{H:Hp}{ys:List V}{ks:List (List Key)}{D:Addr}{o:HO}{xs:List V}(t:aU' K H ys ks)(hD:H D=some (.lst xs)):aU' K (upd H D o) ys ks:=Paired.mapP t λy k ⟨a,z,q⟩=>⟨a,z,by rw[a5_ (ac_ q hD nofun)];exact q⟩
theorem hG_{f:Addr}{fd:Ae}(F:Fun K "ties_anew" "ties_anew" sAnew f fd):FnOk P w K mg base CX0 1 f fd ["ties"] (spAnew K):=by
 refine F.ok scAnew (λvs H Q E h=>?_) (λcdv A outer s H vs Q E hr h=>?_)
 ·obtain⟨l,ys,ts,rfl,_⟩:=h;rfl
 ·obtain⟨l,ys,ts,rfl,hl,tu,hz,k⟩:=h;have sz:=b__
  refine⟨_,a6_ (ae_ (aT_ ["one","other"] 2 [] (av_ (pv 0)) (λfp s H=>cW_ (n:=2) (ah_ (aa_ (i:=0) (show (["one","other"]:List Str).Nodup by decide +kernel) rfl (Or.inl rfl)) (ah_ (aa_ (i:=1) (show (["one","other"]:List Str).Nodup by decide +kernel) rfl (Or.inl rfl)) aZ_)))
   (λfp s H=>aV_) (λfp s H=>aL_ (a0_ (pv 0) (a0_ (pv 1) a3_))))),?_⟩
  refine⟨_,rfl,l,rfl,⟨_,.of hl⟩,λD hD=>?_⟩;have le:=a_5 tu;rw[aa'] at le;refine aQ_ (own:=2) (fv:=[]) (xs:=ys) rfl gok2 (λi out H'=>Same H H'/\H' D=some (.lst out)/\aU' K H' out ((ts.take i).map kT)) ⟨Same.new hD,a1_,.nil⟩ (λi out H' _ ⟨sm,_,_⟩=>.of (sm _ _ hl)) (λout H' ⟨sm,hd,tz⟩=>?_) (λi x out H' hx ⟨sm,hd,tz⟩=>?_)
  ·rw[le,ax'] at tz;exact k D out H' sm hD hd tz
  ·obtain⟨t,ht,a,rfl,ha⟩:=aM_ tu hx;refine⟨_,⟨a,_,_,rfl,.of (sm _ _ (hpT ha)),rfl⟩,rfl,λNx hN=>yesT ?_⟩;refine⟨_,rfl,_,rfl,by show 2<=sizeLine;decide,λp hp=>⟨out,(Same.new hp) _ _ hd,?_,?_⟩⟩
   ·have:=a_5 tz;rw[aa',ak'] at this;omega
   ·have hp2:upd H' p (.tup [.str t.1,.str t.2]) p=some (.tup ((kT t).map kV)):=a1_;refine hN (out++[.ref p]) _ ⟨ay_ (sm.trans (Same.new hp)) hD,a1_,?_⟩;rw[ax_ _ ht];exact bp_ (bC_ (tz.same (Same.new hp)) hp2) ((Same.new hp) _ _ hd)
end
def kH(h:Str × Int):List Key:=[.inr h.1,.inl h.2]
def goodH(h:Str × Int):Prop:=be' h.1=true/\1<=h.2/\h.2<=1000
def kvOf:List Key->Key × V
 |[k,v]=>(k,kV v)
 |_=>(.inl 0,.non)
def sortH(hs:Xa):List (Key × V):=(sortKs (hs.map kH)).map kvOf
theorem hpH{H:Hp}{p:Addr}{t:Str × Int}(h:H p=some (.tup ((kH t).map kV))):H p=some (.tup [.str t.1,.int t.2]):=h
theorem cy_:∀(more kvs:List (Key × V)),(kvs.map (·.1)++more.map (·.1)).Nodup->bY' kvs more=kvs++more
 |[],kvs,_=>by
  show kvs=kvs++[];rw[List.append_nil]
 |p::more,kvs,h=>by
  show bY' (putK kvs p.1 p.2) more=kvs++p::more
  have hn:valV kvs p.1=none:=ao_ λm=>by
   rw[au',List.nodup_append] at h;exact h.2.2 p.1 m p.1 an' rfl
  rw[bd_ _ hn,cy_ more (kvs++[(p.1,p.2)])]
  ·simp
  ·simpa using h
theorem b5_{more:List (Key × V)}(h:(more.map (·.1)).Nodup):bY' [] more=more:=by
 rw[cy_ more [] (by simpa using h)];rfl
theorem cA_(hs:Xa):((sortH hs).map (·.1)).Perm (hs.map λh=>Sum.inr h.1):=by
 unfold sortH;rw[ah'];have p:=(ag_ (hs.map kH)).map λk=>(kvOf k).1;rw[ah'] at p;exact p
theorem cb_{hs:Xa}(h:(hs.map (·.1)).Nodup):((sortH hs).map (·.1)).Nodup:=by
 refine (cA_ hs).nodup_iff.mpr ?_;have:(hs.map λh=>(Sum.inr h.1:Key))=(hs.map (·.1)).map Sum.inr:=by rw[ah'];rfl
 rw[this,aA',aF'];exact h.imp λn e=>n (b_3 e)
variable{k:Nat}
theorem cK'{A:Ag}(hr:Room k A)(n:Nat)(h:n+1<=64:=by decide):A.units+n+1<cLine:=by
 have:=hr.units;omega
section
variable{P:Ad}{w:Af}{K:F__}{mg:Str->Option Aa}{base:Heap}
theorem scHand:aT' ["thing"] ["thing"] (aS' sHand):=f__
def spHand:Sp:=λvs H Q _=>∃(p:Addr) (a:Str) (n:Int),vs=[.ref p]/\H p=some (.tup [.str a,.int n])/\a.length<=100000/\∀H',Same H H'->Q (.bl (be' a&&(decide (1<=n)&&decide (n<=1000)))) H'
theorem ho_{f:Addr}{fd:Ae}(F:Fun K "is_hand_with_strength" "is_hand_with_strength" sHand f fd)(B:Bi mg)(cN:Cal P w K mg base 1 "is_name" ["thing"] cp')(cW:Cal P w K mg base 2 "is_whole_within" ["thing","least","most"] b7'){tk:Tok}(mS:mg "MOST_STRENGTH"=some (.int 1000 tk)) :
  FnOk P w K mg base CX0 3 f fd ["thing"] spHand:=by
 refine F.ok scHand (λvs H Q E h=>?_) (λcdv A outer s H vs Q E hr h=>?_)
 ·obtain⟨p,a,b,rfl,_⟩:=h;rfl
 ·obtain⟨p,a,n,rfl,hp,la,k⟩:=h;have hr1:Room 1 _:=hr.mono (by decide)
  refine⟨_,a2_ (au_ (dO_ (aE_ (aJ_ (a9_ aD_ (by rfl) B.isi PyProof.Rows.Boot.«isinstance» (a0_ (pv 0) (a0_ (aN_ (v:=.ty "tuple") (by rfl) B.tuple PyProof.Rows.Boot.«tuple» rfl) a3_)))))
    (cd_ (ar_ fi_ (a9_ am_ (by rfl) B.len b_5 (a0_ (pv 0) a3_)) a8_ (nomark _)))).pt (a6_ (ae_ h0_)) ab_)
   (a6_ (ae_ (b1_ (ai_ cN hr1 (a0_ (aA_ aI_ (pv 0) a8_ (λ_ _=>rfl)) a3_)) (bu_ (ai_ cW hr (a0_ (aA_ aI_ (pv 0) a8_ (λ_ _=>rfl)) (a0_ a8_ (a0_ (bj_ (v:=.int 1000) (by rfl) mS ⟨tk,rfl⟩) a3_)))))))),?_⟩
  refine⟨_,rfl,_,_,_,_,rfl,.tup hp,rfl,_,rfl,iteF ?_⟩;refine⟨_,rfl,p,_,rfl,.inr (.of hp),rfl,_,rfl,?_⟩;refine iteNS (show V.int ((2:Nat):Int)=V.int 2 from rfl) ?_;refine⟨_,rfl,p,_,_,_,rfl,rfl,.of hp,rfl,a,rfl,la,λH1 s1=>⟨_,rfl,?_⟩⟩;have hp1:=s1 _ _ hp;have kk:=k H1 s1;refine ite2 (λc=>?_) (λc=>?_)
  ·refine⟨_,rfl,p,_,_,_,rfl,rfl,.of hp1,rfl,n,1,1000,rfl,?_⟩;rw[c] at kk;exact kk
  ·rw[show be' a=false by simpa using c] at kk;exact kk
theorem scStr:aT' ["hands","found","hand"] ["hands"] (aS' sStr):=f__
def spStr(K:F__):Sp:=λvs H Q _=>∃(l:Addr) (ys:List V) (hs:Xa),vs=[.ref l]/\H l=some (.lst ys)/\aU' K H ys (hs.map kH)/\(∀h∈hs,goodH h)/\(hs.map (·.1)).Nodup/\1<=hs.length/\hs.length<=8 /\
 ∀d H',Same H H'->H d=none->H' d=some (.dK (sortH hs))->Q (.ref d) H'
theorem in_{f:Addr}{fd:Ae}(F:Fun K "checked_strengths" "checked_strengths" sStr f fd)(B:Bi mg)(cH:Cal P w K mg base 3 "is_hand_with_strength" ["thing"] spHand){tk:Tok}(mH:mg "MOST_HANDS"=some (.int 8 tk)):FnOk P w K mg base CX0 4 f fd ["hands"] (spStr K):=by
 refine F.ok scStr (λvs H Q E h=>?_) (λcdv A outer s H vs Q E hr h=>?_)
 ·obtain⟨l,ys,hs,rfl,_⟩:=h;rfl
 ·obtain⟨l,ys,hs,rfl,hl,tu,good,nd,h1,h8,k⟩:=h;have hu:=bi_ hr;have sz:=b__;have le:=a_5 tu;rw[aa'] at le
  refine⟨_,a2_ (au_ (dO_ (aE_ (aJ_ (a9_ aD_ (by rfl) B.isi PyProof.Rows.Boot.«isinstance» (a0_ (pv 0) (a0_ (aN_ (v:=.ty "list") (by rfl) B.list PyProof.Rows.Boot.«list» rfl) a3_)))))
    (cd_ (aE_ (e7_ ev_ ev_ a8_ (a9_ am_ (by rfl) B.len b_5 (a0_ (pv 0) a3_)) (bj_ (v:=.int 8) (by rfl) mH ⟨tk,rfl⟩))))).pt af_ ab_)
   (a2_ (ad_ (i:=1) scStr.nd rfl (Or.inl rfl) aW_)
   (a2_ (aP_ b_0 rfl (av_ (pv 0)) (aa_ (i:=2) scStr.nd rfl (Or.inl rfl))
    (a2_ (au_ (aE_ (aJ_ (ai_ cH hr (a0_ (pv 2) a3_)))) af_ ab_)
    (a2_ (au_ (bl_ (ch_ hu (aA_ aI_ (pv 2) a8_ (λ_ _=>rfl)) (pv 1))) af_ ab_)
    (a6_ (aY_ hu (pv 1) (aA_ aI_ (pv 2) a8_ (λ_ _=>rfl)) (aA_ aI_ (pv 2) a8_ (λ_ _=>rfl)) rfl)))))
   (a6_ (ae_ (aw_ (aU_ rfl) (by rfl) B.dict PyProof.Rows.Boot.«dict» (a0_ (a9_ (ct_ rfl) (by rfl) B.sorted PyProof.Rows.Boot.«sorted» (a0_ (c2_ (pv 1)) a3_)) a3_)))))),?_⟩
  refine⟨_,rfl,_,_,_,_,rfl,.lst hl,rfl,_,rfl,iteF ?_⟩;refine⟨_,rfl,l,_,rfl,.inl (.of hl),_,_,rfl,rfl,_,rfl,?_⟩;rw[a_2 (show (1:Int)<=(ys.length:Int) by omega)];refine iteT ⟨_,_,rfl,rfl,_,rfl,?_⟩;rw[a_2 (show (ys.length:Int)<=8 by omega)];refine iteF ?_;intro d hd;have s0:Same H (upd H d (.dK [])):=Same.new hd;refine⟨_,rfl,l,rfl,⟨_,.of (s0 _ _ hl)⟩,aH_ (K:=K) (a:=l) (xs:=ys) (λi σ H2=>∃(v2:Option V),σ=[some (.ref l),some (.ref d),v2]/\Same H H2/\H2 d=some (.dK ((hs.take i).map λh=>(Sum.inr h.1,V.int h.2)))) ⟨none,rfl,s0,a1_⟩ (λi σ H2 _ ⟨_,_,s2,_⟩=>.of (s2 _ _ hl)) ?_ ?_⟩
  ·rintro i y σ H2 hy ⟨v2,rfl,s2,hd2⟩;obtain⟨t,ht,a,rfl,ha⟩:=aM_ tu hy;obtain⟨g1,g2,g3⟩:=good t (ai' ht);have ha2:=s2 _ _ (hpH ha);refine⟨_,rfl,a,t.1,t.2,rfl,ha2,by have:=bD_ g1;omega,λH3 s3=>⟨_,rfl,?_⟩⟩;have ha3:=s3 _ _ ha2;have hd3:=s3 _ _ hd2;rw[g1,a_2 g2,a_2 g3];refine iteF ?_
   have nov:valV ((hs.take i).map λh=>((Sum.inr h.1:Key),V.int h.2)) (Sum.inr t.1)=none:=ao_ (by
    rw[ah'];have q:=b2_ (g:=λh:Str × Int=>h.1) nd ht;intro m;obtain⟨h,hh,e⟩:=af'.mp m;exact q (af'.mpr ⟨h,hh,b_3 e⟩))
   refine⟨_,rfl,a,_,_,_,rfl,rfl,.of ha3,rfl,_,rfl,d,_,rfl,.k (k:=Sum.inr t.1) hd3,_,rfl,?_⟩;rw[nov];refine iteF ?_;refine⟨_,rfl,a,_,_,_,rfl,rfl,.of ha3,rfl,_,rfl,_,rfl,a,_,_,_,rfl,rfl,.of ha3,rfl,d,_,rfl,.k (k:=Sum.inr t.1) hd3 (by rw[aa',ak'];omega),?_⟩;refine⟨_,rfl,λc o e=>?_,?_⟩
   ·rw[a5_ (a7_ e hd)];exact s3 _ _ (s2 _ _ e)
   ·rw[a1_,bd_ _ nov,ax_ _ ht]
  ·rintro σ H2 ⟨v2,rfl,s2,hd2⟩;rw[le,ax'] at hd2;refine⟨_,rfl,d,_,rfl,hd2,λv hv=>?_⟩;have s3:Same H2 (upd H2 v (a8' v d)):=Same.new hv;refine⟨v,d,_,hs.map λh=>(Sum.inr h.1,Sum.inl h.2),[true,false],rfl,a1_,s3 _ _ hd2,by rw[ah'];rfl,⟨by decide,λq hq=>?_⟩,by rw[aa'];omega,λl' H4 zs s4 hn tz=>?_⟩
   ·rw[ah'] at hq;obtain⟨h,_,rfl⟩:=af'.mp hq;rfl
   ·have ez:((hs.map λh=>((Sum.inr h.1:Key),(Sum.inl h.2:Key))).map λk=>[k.1,k.2])=hs.map kH:=by rw[ah'];rfl
    rw[ez] at tz
    have pz:a9' K (upd H4 l' (.lst zs)) zs (sortH hs):=by
     have shape:∀k∈sortKs (hs.map kH),∃a b,k=[a,b]:=λk hk=>by
      obtain⟨h,_,e⟩:=af'.mp ((ag_ _).mem_iff.mp hk);exact⟨_,_,e.symm⟩
     have gen:∀(ks:List (List Key)) (zs:List V),(∀k∈ks,∃a b,k=[a,b])->aU' K (upd H4 l' (.lst zs)) zs ks->a9' K (upd H4 l' (.lst zs)) zs (ks.map kvOf):=λks=>by
      intro zs;generalize upd H4 l' (.lst zs)=HH;intro sh t
      induction t with
      |nil=>exact .nil
      |cons h t ih=>
       obtain⟨a,b,rfl⟩:=sh _ an';exact .cons h (ih λk hk=>sh k (ag' _ hk))
     exact gen _ _ shape (tz.same (Same.new hn))
    refine⟨l',zs,_,rfl,a1_,pz,?_,λd' hd'=>?_⟩
    ·have:=(cA_ hs).length_eq;simp only[aa'] at this;omega
    ·rw[b5_ (cb_ nd)];have sAll:Same H (upd H4 l' (.lst zs)):=(s2.trans (s3.trans s4)).trans (Same.new hn);exact k d' _ (sAll.trans (Same.new hd')) (sAll.free hd') a1_
theorem cY':aT' ["ties","strengths","found","one","other"] ["ties","strengths"] (aS' sTies):=f__
inductive cU' (K:F__) (vs:List V) (H:Hp) (Q:VK) (E:XK):Prop
 |mk:∀(l d:Addr) (ys:List V) (ts:Xb) (kvs:List (Key × V)),vs=[.ref l,.ref d]->H l=some (.lst ys)->aU' K H ys (ts.map kT)->(∀t∈ts,ct' t)->(ts.map λt=>kT (ord2 t.1 t.2)).Nodup->ts.length<64->H d=some (.dK kvs)->(∀t∈ts,(valV kvs (Sum.inr t.1)).isSome=true/\(valV kvs (Sum.inr t.2)).isSome=true)->(∀l' zs H',Same H H'->H l'=none->H' l'=some (.lst zs)->aU' K H' zs (sortKs (ts.map λt=>kT (ord2 t.1 t.2)))->Q (.ref l') H')->cU' K vs H Q E
theorem bz_(a b:Str):ord2 a b=(a,b)∨ord2 a b=(b,a):=by
 unfold ord2;split
 ·exact .inl rfl
 ·exact .inr rfl
theorem hI_{f:Addr}{fd:Ae}(F:Fun K "checked_ties" "checked_ties" sTies f fd)(B:Bi mg)(cS:Cal P w K mg base 3 "sorted_ties" ["ties"] (bO' K)):FnOk P w K mg base CX0 4 f fd ["ties","strengths"] (cU' K):=by
 refine F.ok cY' (λvs H Q E h=>?_) (λcdv A outer s H vs Q E hr h=>?_)
 ·obtain⟨l,d,ys,ts,kvs,rfl,_⟩:=h;rfl
 ·obtain⟨l,d,ys,ts,kvs,rfl,hl,tu,good,nd,h64,hd,there,k⟩:=h;have hu:=bi_ hr
  refine⟨_,a2_ (ad_ (i:=2) cY'.nd rfl (Or.inl rfl) (ai_ cS hr (a0_ (pv 0) a3_)))
   (a2_ (au_ (bl_ (cv_ (pv 2))) af_ ab_)
   (a2_ (aP_ b_0 rfl (av_ (pv 2)) (co_ rfl (ah_ (aa_ (i:=3) cY'.nd rfl (Or.inl rfl)) (ah_ (aa_ (i:=4) cY'.nd rfl (Or.inl rfl)) aZ_)))
    (a6_ (au_ (dO_ (bl_ (dw_ hu (pv 3) (pv 1))) (cd_ (bl_ (dw_ hu (pv 4) (pv 1))))).pt af_ ab_)))
   (a6_ (ae_ (pv 2))))),?_⟩
  refine⟨_,rfl,l,ys,ts,rfl,hl,tu,good,nd,h64,λl' zs H1 s1 hf hl1 tz=>?_⟩;refine⟨_,rfl,_,rfl,iteF ?_⟩;refine⟨_,rfl,l',rfl,⟨_,.of hl1⟩,aH_ (K:=K) (a:=l') (xs:=zs) (λi σ H2=>∃(v3 v4:Option V),σ=[some (.ref l),some (.ref d),some (.ref l'),v3,v4]/\H2=H1) ⟨none,none,rfl,rfl⟩ (λi σ H2 _ ⟨_,_,_,e⟩=>by subst e;exact .of hl1) ?_ ?_⟩
  ·rintro i y σ H2 hy ⟨v3,v4,rfl,rfl⟩;have ez:=a_5 tz;have hi:i<zs.length:=(ab'.mp hy).1;obtain⟨a,e,ha⟩:=ak_ tz i hi Z1;rw[(ab'.mp hy).2] at e;subst e;obtain⟨t,ht,e⟩:=af'.mp ((ag_ _).mem_iff.mp (List.getElem_mem (show i<(sortKs (ts.map λt=>kT (ord2 t.1 t.2))).length by omega)));rw[<- e] at ha;obtain⟨t1,t2⟩:=there t ht
   have both:(valV kvs (Sum.inr (ord2 t.1 t.2).1)).isSome=true/\(valV kvs (Sum.inr (ord2 t.1 t.2).2)).isSome=true:=by
    rcases bz_ t.1 t.2 with q|q
    ·rw[q];exact⟨t1,t2⟩
    ·rw[q];exact⟨t2,t1⟩
   have hd1:=s1 _ _ hd;refine⟨a,_,rfl,.of (hpT ha),rfl,_,_,rfl,_,_,rfl,rfl,?_⟩;refine⟨_,rfl,_,rfl,d,_,rfl,.k (k:=Sum.inr (ord2 t.1 t.2).1) hd1,_,rfl,?_⟩;rw[both.1];refine iteF ?_;refine⟨_,rfl,_,rfl,d,_,rfl,.k (k:=Sum.inr (ord2 t.1 t.2).2) hd1,_,rfl,?_⟩;rw[both.2];refine iteF ?_;exact⟨_,_,rfl,rfl⟩
  ·rintro σ H2 ⟨v3,v4,rfl,rfl⟩;exact⟨_,rfl,k l' zs _ s1 hf hl1 tz⟩
def near(ns:List Str)(ts:Xb)(n:Str):List Str:=ns.filter λo=>decide (ord2 n o∈ts)
theorem scNear:aT' ["names","ties","found","hand"] ["names","ties"] (aS' sNear):=f__
def bq'(ns:List Str)(as:List Addr):List (Key × V):=(ns.zip as).map λp=>(Sum.inr p.1,V.ref p.2)
inductive cT' (K:F__) (vs:List V) (H:Hp) (Q:VK) (E:XK):Prop
 |mk:∀(l1 l2:Addr) (ns:List Str) (zs:List V) (ts:Xb),vs=[.ref l1,.ref l2]->H l1=some (.lst (ns.map V.str))->H l2=some (.lst zs)->aU' K H zs (ts.map kT)->ns.Nodup->ns.length<=1000->l1≠l2->(∀d as H',Same H H'->H d=none->as.length=ns.length->H' d=some (.dK (bq' ns as))->(∀(i:Nat) n a,ns[i]? = some n->as[i]? = some a->H a=none/\H' a=some (.lst ((near ns ts n).map V.str)))->Q (.ref d) H')->cT' K vs H Q E
theorem f9_{K:F__}{H:Hp}:∀{ts:Xb} {zs:List V},aU' K H zs (ts.map kT)->Paired (r2 K rS rS H) zs ts
 |[],_,.nil=>.nil
 |t::ts,_,.cons ⟨a,e,h⟩ r=>.cons ⟨a,_,_,e,.of (hpT h),rfl,rfl⟩ (f9_ r)
theorem aB_{ns:List Str}{i:Nat}{x:V}(h:(ns.map V.str)[i]? = some x):∃n,ns[i]? = some n/\x=.str n:=by
 rw[am'] at h;cases e:ns[i]? with
 |none=>rw[e] at h;cases h
 |some n=>rw[e] at h;exact⟨n,rfl,(a_8 h).symm⟩
theorem cp_{α:Type}(p:α->Bool){l:List α}{i:Nat}{x:α}(h:l[i]? = some x):(l.take (i+1)).filter p=(l.take i).filter p++(if p x then [x] else []):=PySem.take_succ_filter p l i x h
theorem hQ_{f:Addr}{fd:Ae}(F:Fun K "neighbours_of_all" "neighbours_of_all" sNear f fd)(cL:Cal P w K mg base 1 "lesser_first" ["one","other"] bJ'):FnOk P w K mg base CX0 2 f fd ["names","ties"] (cT' K):=by
 refine F.ok scNear (λvs H Q E h=>?_) (λcdv A outer s H vs Q E hr h=>?_)
 ·obtain⟨l1,l2,ns,zs,ts,rfl,_⟩:=h;rfl
 ·obtain⟨l1,l2,ns,zs,ts,rfl,hl1,hl2,tz,nd,h8,hne,k⟩:=h;have hu:=bi_ hr;have hu3:=hr.units;have sz:=b__
  refine⟨_,a2_ (ad_ (i:=2) scNear.nd rfl (Or.inl rfl) aW_)
   (a2_ (aP_ b_0 rfl (av_ (pv 0)) (aa_ (i:=3) scNear.nd rfl (Or.inr rfl))
    (a6_ (aY_ hu (pv 2) (pv 3) (aT_ ["other","hand","ties"] 1 [3,1] (av_ (pv 0)) (λfp s H=>aa_ (i:=0) (show (["other","hand","ties"]:List Str).Nodup by decide +kernel) rfl (Or.inl rfl))
     (λfp s H=>hV_ (ar_ (opK (K:=K) (λK=>rInD K (r2 K rS rS) false) (he_ (cmp2 cmpS cmpS) (cK' hr _))) (ai_ cL hr (a0_ (pv 1) (a0_ (pv 0) a3_))) (pv 2) (by with_unfolding_all rfl))) (λfp s H=>pv 0)) rfl)))
   (a6_ (ae_ (pv 2)))),?_⟩
  intro d hd;have s0:Same H (upd H d (.dK [])):=Same.new hd
  refine⟨_,rfl,l1,rfl,⟨_,.of (s0 _ _ hl1)⟩,aH_ (K:=K) (a:=l1) (xs:=ns.map V.str) (λi σ H2=>∃(v3:Option V) (as:List Addr),σ=[some (.ref l1),some (.ref l2),some (.ref d),v3]/\Same H H2/\as.length=i/\H2 d=some (.dK (bq' (ns.take i) as)) /\
   ∀(j:Nat) n a,ns[j]? = some n->as[j]? = some a->H a=none/\a≠d/\H2 a=some (.lst ((near ns ts n).map V.str))) ⟨none,[],rfl,s0,rfl,a1_,λj n a _ e=>by simp at e⟩ (λi σ H2 _ ⟨_,_,_,s2,_⟩=>.of (s2 _ _ hl1)) ?_ ?_⟩
  ·rintro i y σ H2 hy ⟨v3,as,rfl,s2,la,hd2,lists⟩;obtain⟨n,hn,rfl⟩:=aB_ hy;have hi:i<ns.length:=(ab'.mp hn).1
   have lk:(bq' (ns.take i) as).length=i:=by
    unfold bq';rw[aa',List.length_zip,ak'];omega
   refine⟨_,rfl,l1,rfl,⟨_,.of (s2 _ _ hl1)⟩,λD hD=>?_⟩;refine aQ_ (own:=1) (fv:=[some (.str n),some (.ref l2)]) (xs:=ns.map V.str) rfl gok1 (λj out H'=>Same H2 H'/\H' D=some (.lst out)/\out=((ns.take j).filter λo=>decide (ord2 n o∈ts)).map V.str) ⟨Same.new hD,a1_,rfl⟩ (λj out H' _ ⟨sm,_,_⟩=>.of (sm _ _ (s2 _ _ hl1))) (λout H' ⟨sm,hD',eo⟩=>?_) (λj x out H' hx ⟨sm,hD',eo⟩=>?_)
   ·rw[aa',ax'] at eo
    have nov:valV (bq' (ns.take i) as) (Sum.inr n)=none:=ao_ λm=>by
     unfold bq' at m;rw[ah'] at m;obtain⟨p,hp,e⟩:=af'.mp m;have e:p.1=n:=b_3 e;have q:=b2_ (g:=id) (by rw[List.map_id];exact nd) hn;rw[List.map_id] at q;exact q (e▸(List.of_mem_zip hp).1)
    have neD:D≠d:=λz=>by subst z;rw[hD] at hd2;cases hd2
    refine⟨_,rfl,_,rfl,d,_,rfl,.k (k:=Sum.inr n) (sm _ _ hd2) Z1,?_⟩;refine⟨_,as++[D],rfl,λc o e=>?_,by rw[ar',la];rfl,?_,λj n' a hn' ha=>?_⟩
    ·rw[a5_ (a7_ e hd)];exact sm _ _ (s2 _ _ e)
    ·rw[a1_,bd_ _ nov];congr 2;unfold bq';rw[aE',hn,List.zip_append (by rw[ak'];omega),aq'];rfl
    ·by_cases hj:j<as.length
     ·rw[List.getElem?_append_left hj] at ha;obtain⟨q1,q2,q3⟩:=lists j n' a hn' ha;refine⟨q1,q2,?_⟩;rw[a5_ q2];exact sm _ _ q3
     ·have hj2:j=i:=by
       have:=(ab'.mp ha).1;rw[ar'] at this;simp only[List.length_singleton] at this;omega
      subst hj2;rw[List.getElem?_append_right Z1,la,Nat.sub_self] at ha;have ha:D=a:=by simpa using ha
      subst ha;rw[hn] at hn';cases hn';refine⟨s2.free hD,neD,?_⟩;rw[a5_ neD,hD',eo];rfl
   ·obtain⟨o,ho,rfl⟩:=aB_ hx;refine⟨_,rfl,rfl,λNx hN=>?_⟩;refine⟨_,rfl,_,rfl,n,o,rfl,λt ht=>?_⟩;have s3:Same H' (upd H' t (.tup [.str (ord2 n o).1,.str (ord2 n o).2])):=Same.new ht;have tz':=((tz.same s2).same sm).same s3
    have lo:out.length<sizeLine:=by
     rw[eo,aa'];have:=List.length_filter_le (λo=>decide (ord2 n o∈ts)) (ns.take j);rw[ak'] at this;omega
    refine⟨_,rfl,ord2 n o,ts,⟨t,_,_,rfl,.of a1_,rfl,rfl⟩,⟨l2,zs,rfl,.of (s3 _ _ (sm _ _ (s2 _ _ hl2))),f9_ tz'⟩,_,rfl,?_⟩;refine ite2 (λc=>?_) (λc=>?_)
    ·refine⟨_,rfl,out,s3 _ _ hD',lo,hN _ _ ⟨ay_ (sm.trans s3) hD,a1_,?_⟩⟩;have c:decide (ord2 n o∈ts)=true:=by simpa using c
     rw[cp_ _ ho,a_9 c,aq',eo];rfl
    ·refine hN _ _ ⟨sm.trans s3,s3 _ _ hD',?_⟩;have c:¬decide (ord2 n o∈ts)=true:=by simpa using c
     rw[cp_ _ ho,a_6 c,List.append_nil,eo]
  ·rintro σ H2 ⟨v3,as,rfl,s2,la,hd2,lists⟩;rw[aa'] at la hd2;rw[ax'] at hd2;exact⟨_,rfl,k d as _ s2 hd la hd2 λj n a h1 h2=>⟨(lists j n a h1 h2).1,(lists j n a h1 h2).2.2⟩⟩
end
abbrev sInit:Stmt:=aY' sWeb 0
abbrev sHas:Stmt:=aY' sWeb 1
abbrev sHands:Stmt:=aY' sWeb 2
abbrev bU':Stmt:=aY' sWeb 3
abbrev sTied:Stmt:=aY' sWeb 5
def fstK:List Key->Str
 |.inr a::_=>a
 |_=>⟨#[]⟩
def twoK:List Key->Str × Str
 |[.inr a,.inr b]=>(a,b)
 |_=>(⟨#[]⟩,⟨#[]⟩)
def aW'(hs:Xa):List Str:=(sortKs (hs.map kH)).map fstK
def tsOf(ts:Xb):Xb:=(sortKs (ts.map λt=>kT (ord2 t.1 t.2))).map twoK
theorem b6_(ts:Xb):(tsOf ts).map kT=sortKs (ts.map λt=>kT (ord2 t.1 t.2)):=by
 unfold tsOf;rw[ah']
 have all:∀k∈sortKs (ts.map λt=>kT (ord2 t.1 t.2)),∃t:Str × Str,k=kT t:=λk hk=>by
  obtain⟨t,_,e⟩:=af'.mp ((ag_ _).mem_iff.mp hk);exact⟨_,e.symm⟩
 generalize sortKs (ts.map λt=>kT (ord2 t.1 t.2))=l at all
 induction l with
 |nil=>rfl
 |cons k l ih=>
  obtain⟨t,rfl⟩:=all k an';rw[au',ih λk hk=>all k (ag' _ hk)];rfl
theorem cx_(hs:Xa):∀k∈sortKs (hs.map kH),∃h:Str × Int,h∈hs/\k=kH h:=λk hk=>by
 obtain⟨t,ht,e⟩:=af'.mp ((ag_ _).mem_iff.mp hk);exact⟨t,ht,e.symm⟩
theorem eh_(hs:Xa):((sortH hs).map λkv=>kV kv.1)=(aW' hs).map V.str:=by
 unfold sortH aW';rw[ah',ah'];refine az' λk hk=>?_;obtain⟨h,_,rfl⟩:=cx_ hs k hk;rfl
theorem e5_(hs:Xa):(sortH hs).map (·.1)=(aW' hs).map Sum.inr:=by
 unfold sortH aW';rw[ah',ah'];refine az' λk hk=>?_;obtain⟨h,_,rfl⟩:=cx_ hs k hk;rfl
theorem aC_(hs:Xa):(aW' hs).Perm (hs.map (·.1)):=by
 unfold aW';have p:=(ag_ (hs.map kH)).map fstK;rw[ah'] at p;exact p
theorem dp_{κ:Type}[DecidableEq κ]{kvs:List (κ × V)}{k:κ}(h:k∈kvs.map (·.1)):(valV kvs k).isSome=true:=by
 rw[<- bH_];obtain⟨p,hp,e⟩:=af'.mp h;exact List.any_eq_true.mpr ⟨p,hp,a_2 e⟩
theorem cI_{hs:Xa}{n:Str}:(valV (sortH hs) (Sum.inr n)).isSome=decide (n∈hs.map (·.1)):=by
 by_cases h:n∈hs.map (·.1)
 ·rw[a_2 h];refine dp_ ?_;rw[e5_];exact af'.mpr ⟨n,(aC_ hs).mem_iff.mpr h,rfl⟩
 ·rw[a_7 h,ao_]
  ·rfl
  ·rw[e5_];intro m;obtain⟨x,hx,e⟩:=af'.mp m;cases e;exact h ((aC_ hs).mem_iff.mp hx)
theorem n12:¬(("strength_by_hand":Str)="sorted_pairs"):=by decide +kernel
theorem n13:¬(("strength_by_hand":Str)="neighbours_by_hand"):=by decide +kernel
def flds(d1 l2 d3:Addr):List (Str × V):=putF "neighbours_by_hand" (.ref d3) (putF "sorted_pairs" (.ref l2) (putF "strength_by_hand" (.ref d1) []))
theorem er_(d1 l2 d3:Addr):(flds d1 l2 d3).lookup ("strength_by_hand":Str)=some (.ref d1):=by
 unfold flds;rw[a4_,a_6 n13,a4_,a_6 n12,a4_,a_9 rfl]
theorem ig_(d1 l2 d3:Addr):(flds d1 l2 d3).lookup ("neighbours_by_hand":Str)=some (.ref d3):=by
 unfold flds;rw[a4_,a_9 rfl]
variable{m:Str}
theorem bc_(d1 l2 d3:Addr)(h1:¬m="strength_by_hand")(h2:¬m="sorted_pairs")(h3:¬m="neighbours_by_hand"):(flds d1 l2 d3).lookup m=none:=by
 unfold flds;rw[a4_,a_6 h3,a4_,a_6 h2,a4_,a_6 h1]
 all_goals rfl
structure ba' (K:F__) (C:Addr) (H:Hp) (p:Addr) (hs:Xa) (ts:Xb) (fp:List Addr):Prop where
 ex:∃(dx d1 l2 d3:Addr) (zs:List V) (as:List Addr),fp=p::d1::l2::d3::as/\H p=some (.ins C dx (flds d1 l2 d3))/\H d1=some (.dK (sortH hs))/\H l2=some (.lst zs)/\aU' K H zs ((tsOf ts).map kT)/\H d3=some (.dK (bq' (aW' hs) as))/\as.length=(aW' hs).length /\
  ∀(i:Nat) n a,(aW' hs)[i]? = some n->as[i]? = some a->H a=some (.lst ((near (aW' hs) (tsOf ts) n).map V.str))
variable{H':Hp}
theorem ba'.keep{K:F__}{C:Addr}{H:Hp}{p:Addr}{hs:Xa}{ts:Xb}{fp:List Addr}(W:ba' K C H p hs ts fp)(k:∀b∈fp,∀o,H b=some o->H' b=some o)(kt:∀b xs,H b=some (.tup xs)->H' b=some (.tup xs)):ba' K C H' p hs ts fp:=by
 obtain⟨dx,d1,l2,d3,zs,as,rfl,h1,h2,h3,h4,h5,h6,h7⟩:=W.ex;refine⟨dx,d1,l2,d3,zs,as,rfl,k _ Z2 _ h1,k _ Z2 _ h2,k _ Z2 _ h3,Paired.mapP h4 λy q ⟨a,e,z⟩=>⟨a,e,kt _ _ z⟩,k _ Z2 _ h5,h6,λi n a e1 e2=>k _ ?_ _ (h7 i n a e1 e2)⟩;have:=ai' e2;simp[this]
theorem ba'.same{K:F__}{C:Addr}{H:Hp}{p:Addr}{hs:Xa}{ts:Xb}{fp:List Addr}(W:ba' K C H p hs ts fp)(s:Same H H'):ba' K C H' p hs ts fp:=W.keep (λb _ o e=>s b o e) λb xs e=>s b _ e
structure Good (hs:Xa) (ts:Xb):Prop where
 hok:∀h∈hs,goodH h
 hnd:(hs.map (·.1)).Nodup
 h1:1<=hs.length
 h8:hs.length<=8
 tok:∀t∈ts,ct' t
 tnd:(ts.map λt=>kT (ord2 t.1 t.2)).Nodup
 t64:ts.length<64
 tin:∀t∈ts,t.1∈hs.map (·.1)/\t.2∈hs.map (·.1)
theorem Good.nnd{hs:Xa}{ts:Xb}(G:Good hs ts):(aW' hs).Nodup:=(aC_ hs).nodup_iff.mpr G.hnd
theorem Good.nlen{hs:Xa}{ts:Xb}(G:Good hs ts):(aW' hs).length=hs.length:=by
 rw[(aC_ hs).length_eq,aa']
theorem gv_(ts:Xb):(tsOf ts).length=ts.length:=by
 unfold tsOf;rw[aa',(ag_ _).length_eq,aa']
structure Txt (K:F__) (mg:Str->Option Aa) (C:Addr):Prop where
 cl:Cls K C
 nS:a5' K C "strength_by_hand"
 nP:a5' K C "sorted_pairs"
 nN:a5' K C "neighbours_by_hand"
section
variable{P:Ad}{w:Af}{K:F__}{mg:Str->Option Aa}{base:Heap}
theorem scInit:aT' ["self","hands","ties","strengths","checked"] ["self","hands","ties"] (aS' sInit):=f__
inductive cQ' (K:F__) (C:Addr) (vs:List V) (H:Hp) (Q:VK) (E:XK):Prop
 |mk:∀(p dx lh lt:Addr) (ys zs:List V) (hs:Xa) (ts:Xb),vs=[.ref p,.ref lh,.ref lt]->H p=some (.ins C dx [])->H lh=some (.lst ys)->aU' K H ys (hs.map kH)->H lt=some (.lst zs)->aU' K H zs (ts.map kT)->Good hs ts->(∀fp H',(∀b o,H b=some o->b≠p->H' b=some o)->ba' K C H' p hs ts fp->(∀b∈fp,b=p∨H b=none)->Q .non H')->cQ' K C vs H Q E
theorem hF_{f C:Addr}{fd:Ae}(F:Fun K "__init__" "Web.__init__" sInit f fd)(T:Txt K mg C)(B:Bi mg)(cS:Cal P w K mg base 4 "checked_strengths" ["hands"] (spStr K))(cT:Cal P w K mg base 4 "checked_ties" ["ties","strengths"] (cU' K))(cN:Cal P w K mg base 2 "neighbours_of_all" ["names","ties"] (cT' K)) :
  FnOk P w K mg base CX0 5 f fd ["self","hands","ties"] (cQ' K C):=by
 refine F.ok scInit (λvs H Q E h=>?_) (λcdv A outer s H vs Q E hr h=>?_)
 ·obtain⟨p,dx,lh,lt,ys,zs,hs,ts,rfl,_⟩:=h;rfl
 ·obtain⟨p,dx,lh,lt,ys,zs,hs,ts,rfl,hp,hlh,th,hlt,tt,G,k⟩:=h;have hr3:Room 3 _:=hr.mono (by decide);have hr2:Room 2 _:=hr.mono (by decide)
  refine⟨_,a2_ (ad_ (i:=3) scInit.nd rfl (Or.inl rfl) (ai_ cS hr (a0_ (pv 1) a3_)))
   (a2_ (ad_ (i:=4) scInit.nd rfl (Or.inl rfl) (ai_ cT hr (a0_ (pv 2) (a0_ (pv 3) a3_))))
   (a2_ (aX_ (pv 0) (pv 3) rfl) (a2_ (aX_ (pv 0) (pv 4) rfl)
   (a6_ (aX_ (pv 0) (ai_ cN hr2 (a0_ (aw_ (bs_ rfl) (by rfl) B.list PyProof.Rows.Boot.«list» (a0_ (pv 3) a3_)) (a0_ (pv 4) a3_))) rfl))))),?_⟩
  refine⟨_,rfl,lh,ys,hs,rfl,hlh,th,G.hok,G.hnd,G.h1,G.h8,λd1 H1 s1 f1 hd1=>?_⟩;refine⟨_,rfl,_,rfl,lt,d1,zs,ts,_,rfl,s1 _ _ hlt,tt.same s1,G.tok,G.tnd,G.t64,hd1,λt ht=>?_,λl2 zs2 H2 s2 f2 hl2 tz=>?_⟩
  ·rw[cI_,cI_];exact⟨a_2 (G.tin t ht).1,a_2 (G.tin t ht).2⟩
  have hd12:=s2 _ _ hd1;have hp2:=s2 _ _ (s1 _ _ hp);have p1:p≠d1:=ac_ hp2 hd12 nofun;have p2:p≠l2:=ac_ hp2 hl2 nofun;refine⟨_,rfl,_,rfl,p,C,dx,[],rfl,hp2,T.cl,T.nS,by show 0<1000;decide,?_⟩;refine⟨_,rfl,_,rfl,p,C,dx,_,rfl,a1_,T.cl,T.nP,by show 1<1000;decide,?_⟩
  let H3:Hp:=upd (upd H2 p (.ins C dx (putF "strength_by_hand" (.ref d1) []))) p (.ins C dx (putF "sorted_pairs" (.ref l2) (putF "strength_by_hand" (.ref d1) [])))
  have h3:∀{b o},H2 b=some o->b≠p->H3 b=some o:=λe ne=>by
   show upd (upd H2 p _) p _ _=_;rw[a5_ ne,a5_ ne];exact e
  have h3p:H3 p=some (.ins C dx (putF "sorted_pairs" (.ref l2) (putF "strength_by_hand" (.ref d1) []))):=a1_
  have none3:∀{b},H3 b=none->H2 b=none:=λ{b} e=>by
   by_cases z:b=p
   ·subst z;rw[h3p] at e;cases e
   ·have e:upd (upd H2 p _) p _ b=none:=e;rw[a5_ z,a5_ z] at e;exact e
  have tz3:aU' K H3 zs2 ((tsOf ts).map kT):=by
   rw[b6_];exact Paired.mapP tz λy q ⟨a,e,z⟩=>⟨a,e,h3 z (ac_ z hp2 nofun)⟩
  refine⟨_,rfl,d1,_,rfl,.inl (h3 hd12 p1.symm),λl1 hl1=>?_⟩;rw[eh_];have s4:Same H3 (upd H3 l1 (.lst ((aW' hs).map V.str))):=Same.new hl1;have ne12:l1≠l2:=(a7_ (H:=H3) (h3 hl2 p2.symm) hl1).symm;refine⟨_,rfl,l1,l2,aW' hs,zs2,tsOf ts,rfl,a1_,s4 _ _ (h3 hl2 p2.symm),tz3.same s4,G.nnd,by rw[G.nlen];have:=G.h8;omega,ne12,λd3 as H5 s5 f5 la hd3 lists=>?_⟩;have hp5:=s5 _ _ (s4 _ _ h3p);refine⟨_,rfl,p,C,dx,_,rfl,hp5,T.cl,T.nN,by show 2<1000;decide,?_⟩
  have up:∀{b o},H2 b=some o->b≠p->upd H5 p (.ins C dx (flds d1 l2 d3)) b=some o:=λe ne=>by
   rw[a5_ ne];exact s5 _ _ (s4 _ _ (h3 e ne))
  have fr5:∀{b},upd H3 l1 (.lst ((aW' hs).map V.str)) b=none->H b=none:=λe=>s1.free (s2.free (none3 (s4.free e)));have hd3p:d3≠p:=(a7_ (s4 _ _ h3p) f5).symm;refine k (p::d1::l2::d3::as) _ (λb o e ne=>up (s2 _ _ (s1 _ _ e)) ne) ⟨dx,d1,l2,d3,zs2,as,rfl,a1_,up hd12 p1.symm,up hl2 p2.symm,?_,?_,la,λi n a e1 e2=>?_⟩ λb hb=>?_
  ·exact Paired.mapP (tz3.same (s4.trans s5)) λy q ⟨a,e,z⟩=>⟨a,e,by rw[a5_ (ac_ z hp5 nofun)];exact z⟩
  ·rw[a5_ hd3p];exact hd3
  ·obtain⟨q1,q2⟩:=lists i n a e1 e2;rw[a5_ (ac_ q2 hp5 nofun)];exact q2
  ·simp only[aj'] at hb;rcases hb with rfl|rfl|rfl|rfl|hb
   ·exact .inl rfl
   ·exact .inr f1
   ·exact .inr (s1.free f2)
   ·exact .inr (fr5 f5)
   ·obtain⟨i,hi,e⟩:=aD' hb;have e1:as[i]? = some b:=by rw[ac' hi,e]
    have hn:i<(aW' hs).length:=by omega
    exact .inr (fr5 (lists i _ b (ac' hn) e1).1)
end
structure CalM (P:Ad) (w:Af) (K:F__) (mg:Str->Option Aa) (base:Heap) (C:Addr) (k:Nat) (m:Str) (ps:List Str) (sp:Sp):Prop where
 ex:∃f fd,FnOk P w K mg base CX0 k f fd ps sp/\Meth K C m f/\bn' K fd ps []
variable{X:Cx}{ps:List Str}{sp:Sp}{apos pos:Pos}{o:Expr}{ta:TE}{pl:Sem Bool}
theorem ce_{C:Addr}{e:Expr}{es:List Expr}{t:TA}(c:CalM X.prog X.w X.K X.mg X.base C k m ps sp)(cl:Cls X.K C)(hr:Room k X.A)(he:PE X o ta)(ha:PA X (e::es) t)(hst:starEach (e::es) X.env=(false,eval e X.env)::starEach es X.env:=by rfl)(hpl:(backTo pos (starEach es X.env)).any (·.1)=false:=by rfl)(ht:eval (.Call (.Attribute o m apos) (e::es) [] pos) X.env=(do
   let ov <- eval o X.env
   standAt apos.atName
   let (f,first) <- holding [ov] (getMethod ov m pl)
   callWith pos f first (backTo pos (starEach (e::es) X.env)) (backToKw pos (keywordEach [] X.env))):=by rfl) :
  PE X (.Call (.Attribute o m apos) (e::es) [] pos) (cL' C m sp [] E0 ta t):=by
 obtain⟨f,fd,F,hm,b⟩:=c.ex;exact cJ_ he cl hm F hr b .nil pass0 ha hst hpl ht
theorem aK_{C:Addr}(c:CalM X.prog X.w X.K X.mg X.base C k m ps sp)(cl:Cls X.K C)(hr:Room k X.A)(he:PE X o ta)(ht:eval (.Call (.Attribute o m apos) [] [] pos) X.env=(do
   let ov <- eval o X.env
   standAt apos.atName
   let (f,first) <- holding [ov] (getMethod ov m pl)
   callWith pos f first (backTo pos (starEach [] X.env)) (backToKw pos (keywordEach [] X.env))):=by rfl) :
  PE X (.Call (.Attribute o m apos) [] [] pos) (cL' C m sp [] E0 ta tNil):=by
 obtain⟨f,fd,F,hm,b⟩:=c.ex;exact gW_ he cl hm F hr b .nil pass0 ht
theorem eH_{hs:Xa}(nd:(hs.map (·.1)).Nodup){x:Str}{n:Int}(h:(x,n)∈hs):valV (sortH hs) (Sum.inr x)=some (.int n):=by
 have m:((Sum.inr x:Key),V.int n)∈sortH hs:=by
  unfold sortH;refine af'.mpr ⟨kH (x,n),(ag_ _).mem_iff.mpr (af'.mpr ⟨_,h,rfl⟩),rfl⟩
 have nk:=cb_ nd;generalize sortH hs=kvs at m nk
 induction kvs with
 |nil=>cases m
 |cons p r ih=>
  obtain⟨n1,n2⟩:=aG'.mp nk;rcases aj'.mp m with e|m
  ·rw[<- e];exact bg_ rfl
  ·rw[bf_ (λe:p.1=Sum.inr x=>n1 (af'.mpr ⟨_,m,e.symm⟩))];exact ih m n2
variable{as:List Addr}
theorem eW_{ns:List Str}(nd:ns.Nodup)(la:as.length=ns.length){i:Nat}{n:Str}(hn:ns[i]? = some n):∃a,as[i]? = some a/\valV (bq' ns as) (Sum.inr n)=some (.ref a):=by
 induction ns generalizing as i with
 |nil=>simp at hn
 |cons x ns ih=>
  cases as with
  |nil=>cases la
  |cons b as=>
   obtain⟨n1,n2⟩:=aG'.mp nd;cases i with
   |zero=>
    have e:x=n:=by simpa using hn
    subst e;exact⟨b,rfl,bg_ rfl⟩
   |succ i=>
    have hn:ns[i]? = some n:=by simpa using hn
    obtain⟨a,h1,h2⟩:=ih n2 (by simpa using la) hn;refine⟨a,by simpa using h1,?_⟩;show valV ((Sum.inr x,V.ref b)::bq' ns as) (Sum.inr n)=_;rw[bf_ λe=>n1 (by rw[show x=n from b_3 e];exact ai' hn)];exact h2
section
variable{P:Ad}{w:Af}{K:F__}{mg:Str->Option Aa}{base:Heap}
theorem scHas:aT' ["self","thing"] ["self","thing"] (aS' sHas):=f__
inductive spHas (K:F__) (C:Addr) (vs:List V) (H:Hp) (Q:VK) (E:XK):Prop
 |mk:∀(p:Addr) (x:Str) (hs:Xa) (ts:Xb) (fp:List Addr),vs=[.ref p,.str x]->ba' K C H p hs ts fp->Q (.bl (decide (x∈hs.map (·.1)))) H->spHas K C vs H Q E
theorem iq_{f C:Addr}{fd:Ae}(F:Fun K "has_hand" "Web.has_hand" sHas f fd)(T:Txt K mg C)(B:Bi mg):FnOk P w K mg base CX0 1 f fd ["self","thing"] (spHas K C):=by
 refine F.ok scHas (λvs H Q E h=>?_) (λcdv A outer s H vs Q E hr h=>?_)
 ·obtain⟨p,x,hs,ts,fp,rfl,_⟩:=h;rfl
 ·obtain⟨p,x,hs,ts,fp,rfl,W,k⟩:=h;have hu:=bi_ hr;obtain⟨dx,d1,l2,d3,zs,as,rfl,h1,h2,h3,h4,h5,h6,h7⟩:=W.ex;refine⟨_,a6_ (ae_ (b1_ (a9_ aD_ (by rfl) B.isi PyProof.Rows.Boot.«isinstance» (a0_ (pv 1) (a0_ (aN_ (v:=.ty "str") (by rfl) B.str PyProof.Rows.Boot.«str» rfl) a3_))) (bu_ (cB_ (ch_ hu (pv 1) (az_ (pv 0) rfl)))))),?_⟩;refine⟨_,rfl,_,_,_,_,rfl,.str x,rfl,_,rfl,iteT ?_⟩;refine⟨_,rfl,_,rfl,p,C,dx,_,_,rfl,h1,T.cl,T.nS,er_ _ _ _,d1,_,rfl,.k (k:=Sum.inr x) h2,?_⟩;rw[cI_];exact k
theorem scHands:aT' ["self"] ["self"] (aS' sHands):=f__
inductive bX' (K:F__) (C:Addr) (vs:List V) (H:Hp) (Q:VK) (E:XK):Prop
 |mk:∀(p:Addr) (hs:Xa) (ts:Xb) (fp:List Addr),vs=[.ref p]->ba' K C H p hs ts fp->(∀l,H l=none->Q (.ref l) (upd H l (.lst ((aW' hs).map V.str))))->bX' K C vs H Q E
theorem gd_{f C:Addr}{fd:Ae}(F:Fun K "hands" "Web.hands" sHands f fd)(T:Txt K mg C)(B:Bi mg):FnOk P w K mg base CX0 1 f fd ["self"] (bX' K C):=by
 refine F.ok scHands (λvs H Q E h=>?_) (λcdv A outer s H vs Q E hr h=>?_)
 ·obtain⟨p,hs,ts,fp,rfl,_⟩:=h;rfl
 ·obtain⟨p,hs,ts,fp,rfl,W,k⟩:=h;obtain⟨dx,d1,l2,d3,zs,as,rfl,h1,h2,h3,h4,h5,h6,h7⟩:=W.ex;refine⟨_,a6_ (ae_ (aw_ (bs_ rfl) (by rfl) B.list PyProof.Rows.Boot.«list» (a0_ (az_ (pv 0) rfl) a3_))),?_⟩;refine⟨_,rfl,p,C,dx,_,_,rfl,h1,T.cl,T.nS,er_ _ _ _,d1,_,rfl,.inl h2,λl hl=>?_⟩;rw[eh_];exact k l hl
theorem c2':aT' ["self","hand"] ["self","hand"] (aS' bU'):=f__
inductive bc' (K:F__) (C:Addr) (vs:List V) (H:Hp) (Q:VK) (E:XK):Prop
 |mk:∀(p:Addr) (x:Str) (n:Int) (hs:Xa) (ts:Xb) (fp:List Addr),vs=[.ref p,.str x]->ba' K C H p hs ts fp->(hs.map (·.1)).Nodup->(x,n)∈hs->Q (.int n) H->bc' K C vs H Q E
theorem dG_{f C:Addr}{fd:Ae}(F:Fun K "strength" "Web.strength" bU' f fd)(T:Txt K mg C)(cH:CalM P w K mg base C 1 "has_hand" ["self","thing"] (spHas K C)):FnOk P w K mg base CX0 2 f fd ["self","hand"] (bc' K C):=by
 refine F.ok c2' (λvs H Q E h=>?_) (λcdv A outer s H vs Q E hr h=>?_)
 ·obtain⟨p,x,n,hs,ts,fp,rfl,_⟩:=h;rfl
 ·obtain⟨p,x,n,hs,ts,fp,rfl,W,nd,hx,k⟩:=h;have hu:=bi_ hr;obtain⟨dx,d1,l2,d3,zs,as,rfl,h1,h2,h3,h4,h5,h6,h7⟩:=id W.ex;refine⟨_,a2_ (au_ (aE_ (aJ_ (ce_ cH T.cl hr (pv 0) (a0_ (pv 1) a3_)))) af_ ab_) (a6_ (ae_ (bw_ hu (az_ (pv 0) rfl) (pv 1) (λ_ _=>rfl)))),?_⟩;refine⟨_,rfl,p,dx,_,rfl,h1,bc_ _ _ _ Z0 Z0 Z0,_,rfl,p,x,hs,ts,_,rfl,W,_,rfl,?_⟩;rw[a_2 (af'.mpr ⟨_,hx,rfl⟩)];refine iteF ?_;refine⟨_,rfl,p,C,dx,_,_,rfl,h1,T.cl,T.nS,er_ _ _ _,_,rfl,d1,_,rfl,?_,k⟩;rw[<- eH_ nd hx];exact .k (k:=Sum.inr x) h2
theorem ie_{H:Hp}{hs:Xa}{ts:Xb}{x:Str}(nd:(aW' hs).Nodup)(hx:x∈hs.map (·.1))(la:as.length=(aW' hs).length)(h7:∀(i:Nat) n a,(aW' hs)[i]? = some n->as[i]? = some a->H a=some (.lst ((near (aW' hs) (tsOf ts) n).map V.str))):∃a,valV (bq' (aW' hs) as) (Sum.inr x)=some (.ref a)/\H a=some (.lst ((near (aW' hs) (tsOf ts) x).map V.str)):=by
 obtain⟨i,hi,e⟩:=aD' ((aC_ hs).mem_iff.mpr hx);have hn:(aW' hs)[i]? = some x:=by rw[ac' hi,e]
 obtain⟨a,h1,h2⟩:=eW_ nd la hn;exact⟨a,h2,h7 i x a hn h1⟩
theorem scTied:aT' ["self","one","other"] ["self","one","other"] (aS' sTied):=f__
theorem cO_{H:Hp}:∀ns:List Str,Paired (rS H) (ns.map V.str) ns
 |[]=>.nil
 |_::ns=>.cons rfl (cO_ ns)
end
end Ev
namespace L2
open PySem PySem.Spec PyProof.Rows PySem.W
def Ite(K:F__)(a:Addr):It:=
 ⟨λi H=>∃xs x,SqL K H a xs/\xs[i]? = some x,λi H y H'=>∃t x,y=.ref t/\H t=none/\(∀xs,SqL K H a xs->xs[i]? = some x)/\H'=upd H t (.tup [.int i,x]),λi H=>∃xs,SqL K H a xs/\xs.length=i⟩
variable{X:Cx}{pins:List (Addr × Obj)}{σ:St}{s:Ab}{h':Heap}{t':Nat}{fp:List Addr}
theorem Inv.turnedN{H:Hp}{T:Addr}{xs:List V}{its:List Aa}(I:Inv X pins σ H s)(k:∀b o,b∉fp->s.heap.get? b=some o->h'.get? b=some o)(hf:∀b∈fp,FpOk X pins H b)(hT:s.heap.objs.size<=T)(hz:xs.length<=sizeLine)(r:Vals xs its)(ht:IsTup h' T its.toArray/\∃o,h'.get? T=some o/\o.dict=none):Inv X pins σ (upd H T (.tup xs)) { s with heap:=h',toks:=t' }:=by
 have fT:H T=none:=I.hok.fresh hT;have nf:∀b u,H b=some u->b∉fp:=λb u e hb=>by rw[(hf b hb).1] at e;cases e
 have old:∀{b u},H b=some u->upd H T (.tup xs) b=some u:=λe=>by rw[a5_ (a7_ e fT)];exact e
 refine I.step (g':=s.gens) (d':=s.drawn) (ch:=fp) (λb hb=>?_) (λb o _ _ hc e _=>k b o hc e) (λb o _ _ hc e _=>⟨o.slots,k b o hc e⟩) (λb o _ e n=>?_)
  (λb o hc e=>⟨o,k b o hc e⟩) (λb ys e=>old e) (λb o u e=>old e) (λb ps e=>⟨#[],by rw[Array.append_empty];exact old e⟩) (λm hm=>?_) (λb u e=>?_) I.bare
 ·obtain⟨f0,f1,f2,f3,f4,f5⟩:=hf b hb;exact⟨f3,f1,f4,f5⟩
 ·rw[a5_ (λz=>by subst z;exact absurd (a_3 e) (Nat.not_lt.mpr hT))];exact n
 ·obtain⟨o,es,ep,ho,r⟩:=hm;exact⟨o,es,ep,k _ o (λhb=>(hf _ hb).2.1 rfl) ho,r⟩
 ·by_cases z:b=T
  ·subst z;rw[a1_] at e;cases e;exact⟨hz,its,r,ht⟩
  ·rw[a5_ z] at e;refine (I.hok b u e).stay (λc v hc q=>k c v ?_ q) (λ_ q=>old q) λ_ _ q=>old q;rcases hc with z|z
   ·rw[z];exact nf b u e
   ·exact nf c _ z
theorem Inv.turnedF{H:Hp}(I:Inv X pins σ H s)(k:∀b o,b∉fp->s.heap.get? b=some o->h'.get? b=some o)(hf:∀b∈fp,FpOk X pins H b):Inv X pins σ H { s with heap:=h',toks:=t' }:=by
 have nf:∀b u,H b=some u->b∉fp:=λb u e hb=>by rw[(hf b hb).1] at e;cases e
 refine I.step (g':=s.gens) (d':=s.drawn) (ch:=fp) (λb hb=>?_) (λb o _ _ hc e _=>k b o hc e) (λb o _ _ hc e _=>⟨o.slots,k b o hc e⟩) (λb o _ e n=>n)
  (λb o hc e=>⟨o,k b o hc e⟩) (λb ys e=>e) (λb o u e=>e) (λb ps e=>⟨#[],by rw[Array.append_empty];exact e⟩) (λm hm=>?_) (λb u e=>?_) I.bare
 ·obtain⟨f0,f1,f2,f3,f4,f5⟩:=hf b hb;exact⟨f3,f1,f4,f5⟩
 ·obtain⟨o,es,ep,ho,r⟩:=hm;exact⟨o,es,ep,k _ o (λhb=>(hf _ hb).2.1 rfl) ho,r⟩
 ·refine (I.hok b u e).stay (λc v hc q=>k c v ?_ q) (λ_ q=>q) λ_ _ q=>q;rcases hc with z|z
  ·rw[z];exact nf b u e
  ·exact nf c _ z
variable{P:Ad}{w:Af}{elts:List Expr}{k:Nat}{pos:Pos}
theorem fp_{K:F__}(a e it:Addr)(h1:e≠it)(h2:a≠e)(h3:a≠it):Turn P w K (.Tuple elts k pos) (Ite K a) [e,it] e (λi h=>(∃old,IsEnum h e it i old)/\h.IsListIter it a i) where
 mem:=by simp
 obj:=λi h st b hb=>by
  obtain⟨⟨old,q⟩,o,e2,c,d⟩:=st;rcases aj'.mp hb with rfl|hb
  ·exact⟨_,q,λv z=>by cases z⟩
  ·obtain rfl:b=it:=by simpa using hb
   exact⟨o,e2,λv z=>by rw[d] at z;cases z⟩
 keep:=λi h h' st kk=>by
  obtain⟨⟨old,q⟩,st2⟩:=st;exact⟨⟨old,kk e Z2 _ q⟩,st2.at λo q2=>kk it Z2 o q2⟩
 item:=by
  intro X hP hw hK hc i pins s σ H E I hf st hg;subst hP hw hK;obtain⟨xs,x,hq,hx⟩:=hg;obtain⟨its,rv,p,hz⟩:=I.list hq;obtain⟨u,hu,ru⟩:=rv.get hx;have W:=WalksT.enumerate (prog:=X.prog) (w:=X.w) (A:=X.A) (I.ok.hd hc) e it a h1 h2 h3 its.toArray
  have hi:i<its.toArray.size:=by
   simp only[ae'];exact (ab'.mp hu).1
  obtain⟨old,he⟩:=st.1;have hit:=st.2;refine wpAny_pyNext_enum_item he hit p.isList (x:=u) (by rw[List.getElem?_toArray];exact hu) h1 λh' ho hit' hTo hsz hk=>?_;have helt:e<s.heap.objs.size:=a_3 he;have hilt:it<s.heap.objs.size:=by obtain⟨_,x,_⟩:=hit;exact a_3 x
  have mid:(∃x,IsEnumOut h' e it ((i:Int)+1) x s.heap.objs.size)/\h'.IsListIter it a (i+1)/\h'.IsList a its.toArray/\s.heap.objs.size≠e/\s.heap.objs.size≠it:=⟨⟨_,ho⟩,hit',p.isList.at λo x=>hk a o h2 h3 x,aR' helt,aR' hilt⟩;have kk:∀b o,b∉[e,it]->s.heap.get? b=some o->h'.get? b=some o:=λb o hb x=>hk b o (λe'=>hb (by simp[e'])) (λe'=>hb (by simp[e'])) x;have isT:h'.IsTuple s.heap.objs.size #[.int i s.toks,u]:=⟨_,hTo,rfl,_,rfl⟩;obtain⟨T,eT⟩:∃T,T=s.heap.objs.size:=⟨_,rfl⟩;obtain⟨t,et⟩:∃t,t=s.toks:=⟨_,rfl⟩;obtain⟨tk,htk⟩:∃tk,tk=s.toks+1:=⟨_,rfl⟩;rw[<- eT] at isT mid hTo ⊢;have hT:s.heap.objs.size<=T:=Nat.le_of_eq eT.symm;rw[<- et] at isT hTo;rw[<- htk];refine⟨_,rfl,W.go elts k pos i T { s with heap:=h',toks:=tk } _ _ mid λh2' st' kk2=>?_⟩;have nT:T∉[e,it]:=W.apart i T h' mid
  have isT2:h2'.IsTuple T #[.int i t,u]:=by
   obtain⟨o,q,r⟩:=isT;exact⟨o,kk2 T o nT q,r⟩
  have I1:Inv X pins σ (upd H T (.tup [.int i,x])) { s with heap:=h2',toks:=tk }:=I.turnedN (t':=tk) (fp:=[e,it]) (its:=[.int i t,u]) (λb o hb q=>kk2 b o hb (kk b o hb q)) hf hT (by show 2<=sizeLine;decide) (.cons ⟨t,rfl⟩ (.cons ru .nil)) ⟨isT2,_,kk2 T _ nT hTo,rfl⟩;refine⟨.ref T,_,I1,rfl,⟨T,x,rfl,I.hok.fresh hT,λys hy=>by rw[I.list_inj hy hq];exact hx,rfl⟩,⟨?_,st'.2.1⟩,λb hb=>?_⟩
  ·obtain⟨old,q⟩:=st'.1;exact⟨old,by simpa using q⟩
  ·rw[a5_ (λz:b=T=>nT (by rw[<- z];exact hb))];exact (hf b hb).1
 done:=by
  intro X hP hw hK hc i pins s σ H E I hf st hg;subst hP hw hK;obtain⟨xs,hq,hx⟩:=hg;obtain⟨its,rv,p,hz⟩:=I.list hq;have W:=WalksT.enumerate (prog:=X.prog) (w:=X.w) (A:=X.A) (I.ok.hd hc) e it a h1 h2 h3 its.toArray
  have hn:its.toArray.size=i:=by
   have:=rv.length;simp only[ae'];omega
  refine W.done s _ _ (by rw[hn];exact⟨st.1,st.2,p.isList⟩) λh' tk kk=>⟨rfl,I.turnedF (t':=tk) (fp:=[e,it]) kk hf⟩
 self:=λA i s Q E st h=>by
  obtain⟨old,q⟩:=st.1;exact wpAny_pyIter_enum q h
inductive iEnumR (K:F__) (R:It->Hp->Prop) (vs:List V) (H1:Hp):Prop
 |mk:∀a,vs=[.ref a]->(∃xs,SqL K H1 a xs)->R (Ite K a) H1->iEnumR K R vs H1
def iEnum(K:F__)(ta:TA):TI:=λσ H R=>ta σ H λvs H1=>iEnumR K R vs H1
theorem hp_{kk:Nat}{p2:Pos}{a:Expr}{ta:TA}{p:Pos}(hg:Gl X "enumerate")(hm:X.mg "enumerate"=none)(ha:PA X [a] ta)(hs:starEach [a] X.env=[(false,eval a X.env)]:=by rfl):PI X (.Tuple elts kk p2) (.Call (.Name "enumerate" p) [a] [] pos) (iEnum X.K ta):=by
 intro pins s σ H R I h;refine Call_ (dr_ I hg hm boot_enumerate (PyProof.Rows.callWith_type1 (thn (ha pos pins s σ H _ I h) λus s1 ⟨vs,H1,I1,r1,q1⟩=>?_) hs rfl));obtain⟨l,e,⟨xs,hq⟩,q⟩:=q1;subst e;cases r1 with
 |cons r rr=>
  cases rr;cases r;obtain⟨its,rv,pl,hz⟩:=I1.list hq;have ll:l<s1.heap.objs.size:=by obtain⟨_,e,_⟩:=pl.isList;exact a_3 e
  refine call_enumerate_list pl.isList λh' he hi hn kp=>?_;refine wpAny_pyIter_enum he ?_;refine⟨s1.heap.objs.size+1,[s1.heap.objs.size+1,s1.heap.objs.size],_,_,H1,rfl,I1.kept (t':=s1.toks) kp,fp_ l _ _ (Nat.succ_ne_self _) (aw' (Nat.lt_succ_of_lt ll)) (aw' ll),⟨⟨_,he⟩,hi⟩,λb hb=>?_,q⟩
  have e:s1.heap.objs.size<=b:=by
   rcases aj'.mp hb with rfl|hb
   ·exact Nat.le_succ _
   ·obtain rfl:b=s1.heap.objs.size:=by simpa using hb
    exact ad' _
  exact I1.fpOk e (I1.hok.fresh e)
variable{a:Addr}
theorem gn_{K:F__}{xs:List V}{g:TG}{tb:TS}{D:Ends}{H:Hp}(Pv:Nat->St->Hp->Prop)(h0:Pv 0 σ H)(hl:∀i σ H,i<=xs.length->Pv i σ H->SqL K H a xs)(hs:∀i x σ H,xs[i]? = some x->Pv i σ H->∀t,H t=none->g (.ref t) σ (upd H t (.tup [.int i,x])) λσ2 H2=>tb { D with nx:=Pv (i+1),ct:=Pv (i+1),bk:=D.nx } σ2 H2)(hd:∀σ H,Pv xs.length σ H->D.nx σ H) :
  ∃W:Nat->Nat->St->Hp->Prop,(∃m,W 0 m σ H)/\∀i m σ H,W i m σ H->
   ((Ite K a).stop i H/\D.nx σ H)∨((Ite K a).go i H/\∃N:St->Hp->Prop,(∀σ' H',N σ' H'->∃m',m'<m/\W (i+1) m' σ' H')/\∀x H',(Ite K a).yld i H x H'->g x σ H' λσ2 H2=>tb { D with nx:=N,ct:=N,bk:=D.nx } σ2 H2):=by
 refine⟨λi m σ H=>m=xs.length - i/\i<=xs.length/\Pv i σ H,⟨xs.length,by simp,aC' _,h0⟩,?_⟩;rintro i m σ H ⟨rfl,hi,p⟩;have q:=hl i σ H hi p;by_cases hlt:i<xs.length
 ·refine .inr ⟨⟨xs,xs[i],q,by simp[hlt]⟩,Pv (i+1),λσ' H' p'=>⟨xs.length - (i+1),by omega,rfl,hlt,p'⟩,λx H' y=>?_⟩;obtain⟨t,x,rfl,ht,y,rfl⟩:=y;exact hs i x σ H (y xs q) p t ht
 ·have e:i=xs.length:=by omega
  subst e;exact .inl ⟨⟨xs,q,rfl⟩,hd σ H p⟩
variable{h:Heap}
theorem a0'.here{H:Hp}{o:HO}(x:a0' P w H h a o):∃u,h.get? a=some u:=by
 cases o with
 |lst xs=>obtain⟨_,_,_,_,e⟩:=x;exact⟨_,e⟩
 |tup xs=>obtain⟨_,_,_,⟨o,e,_⟩,_⟩:=x;exact⟨_,e⟩
 |dK kvs=>obtain⟨_,_,_,_,o,_,_,e,_⟩:=x;exact⟨_,e⟩
 |dT kvs=>obtain⟨_,_,_,_,o,_,_,e,_⟩:=x;exact⟨_,e⟩
 |set S n=>obtain⟨o,_,_,_,e,_⟩:=x;exact⟨_,e⟩
 |ins C dx fs=>obtain⟨_,_,_,e,_⟩:=x;exact⟨_,e⟩
 |own y=>exact x
 |xd fs=>obtain⟨_,⟨_,_,_,e,_⟩,_⟩:=x;exact⟨_,e⟩
 |rng lo hi=>obtain⟨_,_,_,e⟩:=x;exact⟨_,e⟩
 |frz ob u=>obtain⟨e,_⟩:=x;exact⟨_,e⟩
 |tbl ps=>exact⟨_,show h.get? a=some _ from x⟩
 |met f y=>exact⟨_,show h.get? a=some _ from x⟩
 |ext φ=>obtain⟨_,e,_⟩:=x;exact e
def InB(B:Heap)(l:List Env)(H:Hp)(h0 h:Heap):Prop:=
 ∀b o,h.get? b=some o->b∉frs l->((H b).isSome=true∨∃o0,h0.get? b=some o0)->B.get? b=some o
section
variable{P:Ad}{w:Af}{H H':Hp}{B h0 h h1:Heap}{l:List Env}
theorem fe_(hok:HOk P w H' h)(fr:∀b∈frs l,H' b=none)(i:InB B l H' h0 h)(st:B.StaysIn h1):HOk P w H' h1:=λb o e=>
 (hok b o e).stay (λc u hc q=>by
  have hs:∃x,H' c=some x:=by
   rcases hc with z|z
   ·exact⟨o,z▸e⟩
   ·exact⟨_,z⟩
  obtain⟨x,hx⟩:=hs;exact st c u (i c u q (λm=>by rw[fr c m] at hx;cases hx) (.inl (by rw[hx];rfl)))) (λ_ q=>q) (λ_ _ q=>q)
theorem gK_(un:Un (frs l) [] H H' h0 h)(ff:h.FunFrames B l)(i:InB B l H' h0 h)(st:B.StaysIn h1)(up:h.UpToSlots h1):Un (frs l) [] H H' h0 h1 where
 keep:=λb o q n hb hx=>st b o (i b o (un.keep b o q n hb hx) hb (.inr ⟨o,q⟩))
 slot:=λb o q n hb hx=>by
  obtain⟨sl,e⟩:=un.slot b o q n hb hx;obtain⟨_,o',e',d⟩:=ff.mem hb;rw[e] at e';cases e';obtain⟨sl2,e2⟩:=up b _ e d;exact⟨sl2,e2⟩
 free:=un.free
 there:=λb o q hx=>by
  obtain⟨o',e⟩:=un.there b o q hx;by_cases hb:b∈frs l
  ·obtain⟨_,o2,e',d⟩:=ff.mem hb;rw[e] at e';cases e';obtain⟨sl2,e2⟩:=up b _ e d;exact⟨_,e2⟩
  ·exact⟨o',st b o' (i b o' e hb (.inr ⟨o,q⟩))⟩
 tups:=un.tups
 frzs:=un.frzs
 tbls:=un.tbls
theorem gr_(hok:HOk P w H' h)(un:Un (frs l) [] H H' h0 h)(i:InB B l H' h0 h)(st:B.StaysIn h1):InB B l H' h0 h1:=λb o e hb c=>by
 have:∃u,h.get? b=some u:=by
  rcases c with z|⟨o0,z⟩
  ·obtain⟨x,hx⟩:=Option.isSome_iff_exists.mp z;exact (hok b x hx).here
  ·exact un.there b o0 z Z2
 obtain⟨u,hu⟩:=this;have q:=i b u hu hb c;have:=st b u q;rw[e] at this;cases this;exact q
end
def CX1(P:Ad)(w:Af):CXT:=λl H s E e s'=>
 ∃a cls H' B a0,e=Value.ref a/\s'.os=s.os/\AllBare s'.gens/\Un (frs l) [] H H' s.heap s'.heap/\HOk P w H' s'.heap/\Heap.FlyingW B l a cls a0 s'.heap/\InB B l H' s.heap s'.heap/\E cls none H'
section
variable{X:Cx}{pins:List (Addr × Obj)}{σ:St}{H H':Hp}{s s1:Ab}{B h:Heap}{a:Addr}{cls a0:Aa}{E:XK}
theorem gD_(I:Inv X pins σ H s)(un:Un (frs X.stack) [] H H' s.heap h):∀b∈frs X.stack,H' b=none:=λb hb=>by
 obtain⟨_,o,ho,_⟩:=I.stack.mem hb;exact un.free b o ho (I.stkFree b hb) Z2
theorem eS_(I:Inv X pins σ H s)(hex:X.ex=[])(os:s1.os=s.os)(bare:AllBare s1.gens)(un:Un (frs X.stack) [] H H' s.heap h)(hok:HOk X.prog X.w H' h)(i:InB B X.stack H' s.heap h)(ff:h.FunFrames B X.stack)(up:h.UpToSlots s1.heap)
  (fl:Heap.FlyingW B X.outer a cls a0 s1.heap) (hE:E cls none H'):CX1 X.prog X.w X.outer X.H₀ X.s₀ E (.ref a) s1:=by
 have un1:=gK_ un ff i fl.1 up;have hok1:=fe_ hok (gD_ I un) i fl.1;have I1:Inv X pins σ H' s1:=I.call' os un1 hok1 bare (λb z=>absurd z Z2);have bs:=I1.base;rw[hex] at bs;refine⟨a,cls,H',B,a0,rfl,I1.os,I1.bare,bs,I1.hok,fl,λb o e hb c=>?_,hE⟩
 have nL:b≠X.env.locals:=by
  rcases c with z|⟨o0,z⟩
  ·intro q;rw[q,I1.free] at z;cases z
  ·exact aw' (av' (a_3 z) I.ok.above)
 refine gr_ hok un i fl.1 b o e (λhm=>?_) (c.imp id λ⟨o0,z⟩=>I.base.there b o0 z (by rw[hex];simp));rcases aj'.mp (I.stkSub b hm) with z|z
 ·exact nL z
 ·exact hb z
end
section
variable{P:Ad}{w:Af}{K:F__}{mg:Str->Option Aa}{base:Heap}{N:List Str}{qual:Str}{scope:Scope}{f:Addr}{cd:Aa}{A:Ag}{outer:List Env}{s:Ab}{H:Hp}{E:XK}
def Raises(X:Cx)(E:XK):Prop:=∀(pins:List (Addr × Obj)) (σ:St) (H:Hp) (s:Ab) (h':Heap) (e:Addr) (cls:Aa) (vs:List Aa),Inv X pins σ H s->Heap.MadeExcOf s.heap h' e cls vs->E cls none H->X.xe (.ref e) { s with heap:=h' }
theorem raises1:Raises (cxOf (CX1 P w) P w K mg base N qual scope f cd A outer s H E) E:=by
 intro pins σ H1 s1 h' e cls vs I hx hE;have ff:=PySem.W.funFrames_hide (as:=frs (cxOf (CX1 P w) P w K mg base N qual scope f cd A outer s H E).stack) I.stack (λenv he b hb=>aH'.mpr ⟨env,he,hb⟩);refine wpAny_leaves_madeW (base:=PySem.W.hideAll s1.heap (frs (cxOf (CX1 P w) P w K mg base N qual scope f cd A outer s H E).stack)) (h:=s1.heap) I.ok.frames rfl (λb o q=>PySem.W.of_hideAll _ q) ff hx λh1 t fl tup nt up=>?_;exact eS_ (s1:={ s1 with heap:=h1 }) I rfl rfl I.bare Un.refl I.hok (λb o q hb _=>PySem.W.hideAll_get _ q hb) ff ((Heap.UpToSlots.of_keeps hx.keeps).trans up) fl hE
end
variable{x:Str}{C:Addr}{newId:String}
theorem ic_{K:F__}{mg:Str->Option Aa}{bmB:List Aa}(X:K.In h)(hm:mg x=some (.ref C))(q:PySem.W.excIn K C bmB newId=true):OwnCls x C bmB newId mg h:=by
 refine⟨hm,?_⟩;unfold PySem.W.excIn at q;split at q
 ·rename_i dd cd sl ho
  split at q
  ·rename_i C' bm k0 k1 k2 k3 n k5 hm' hs
   simp only[Bool.and_eq_true,beq_iff_eq,Bool.not_eq_true'] at q;obtain⟨⟨⟨⟨⟨rfl,rfl⟩,hdel⟩,ht⟩,hok⟩,hni⟩:=q;obtain⟨nm,bs,mro,ns,qn,hd,sn,sub,ab,col,del⟩:=cd;dsimp only at hm' hdel hok hni;subst hm' hdel
   have hsl:sl=#[k0,k1,k2,k3,some (.builtin n),k5]:=by
    obtain⟨l⟩:=sl;simp only at hs;rw[hs]
   subst hsl;exact⟨bm,ns,nm,qn,bs,hd,sn,sub,ab,col,dd,k0,k1,k2,k3,k5,_,X _ _ ho,.of_isNs (PySem.W.isNs_of_in X hok),PySem.W.nsMap_none_of_in X hok hni,PySem.W.tail_of_in X ht⟩
  ·cases q
 ·cases q
def tRaise(cls:Aa)(E:XK)(t:TA):TS:=λ_ σ H=>t σ H λvs H1=>vs.length<=sizeLine/\E cls none H1
variable{bm:List Aa}{B initId:String}{cpos np:Pos}{e₀:Expr}{t:TA}{E:XK}
theorem e3_(hh:X.calm=true)(R:Raises X E)(hm:X.mg x=some (.ref C))(qx:PySem.W.excIn X.K C bm newId=true)(FB:ExcBaseFacts B newId initId bm)(hg:Gl X x)(ha:PA X [e₀] t)
  (he:starEach [e₀] X.env=(false,eval e₀ X.env)::starEach [] X.env:=by rfl) (hpl:(backTo cpos (starEach [e₀] X.env)).any (·.1)=false:=by rfl) (hd:(x == ("__debug__":Str))=false:=by decide) :
  PS X (.Raise (some (.Call (.Name x np) [e₀] [] cpos)) none pos) (tRaise (.ref C) E t):=by
 intro pins s σ H D I h;have O:=ic_ I.ok.mod.kin hm qx;obtain⟨tl,N,nm,q,bs,hdct,sn,sub,ab,col,dd,k0,k1,k2,k3,k5,mN,hC,hN,hni,T⟩:=O.obj
 refine wpAny_Raise_call_subT (C:=C) (nm:=nm) (q:=q) (N:=N) (bs:=bs) (bm:=tl) (hdct:=hdct) (sn:=sn) (sub:=sub) (ab:=ab) (col:=col) (dd:=dd) (k0:=k0) (k1:=k1) (k2:=k2) (k3:=k3) (k5:=k5)
  FB (mN:=mN) (T.hasType FB.hasBase) (I.ok.hd hh) hpl hni (cQ_ I hg O.bound ⟨rfl,?_⟩ hd)
 have ha':=ha cpos pins s σ H _ I h;rw[he] at ha' ⊢;refine Calls.evalArgs_plain (wpAny_mono ha' (λus s₂ ⟨vs,H1,I1,r,z,q⟩=>⟨rfl,by rw[<- r.length];exact z,I1.bk _ _ hC,hN.keeps I1.bk,T.keeps I1.bk,λh' e hm=>R pins σ H1 s₂ h' e _ _ I1 hm q⟩) λ_ _ y=>y)
section
variable{P:Ad}{w:Af}{K:F__}{mg:Str->Option Aa}{base:Heap}
theorem Fun.okX{qual:Str}{st:Stmt}{f:Addr}{fd:Ae}{N ps:List Str}{sp:Sp}(F:Fun K x qual st f fd)(S:aT' N ps (aS' st))(len:∀vs H Q E,sp vs H Q E->vs.length=ps.length)(hbody:∀(cdv:Aa) (A:Ag) (outer:List Env) (s:Ab) (H:Hp) (vs:List V) (Q:VK) (E:XK),Room k (A.deeper (envOfC qual (aS' st) s.heap.objs.size f cdv))->sp vs H Q E->
   ∃t,PSs (cxOf (CX1 P w) P w K mg base N qual (aS' st) f cdv A outer s H E) (aZ' st) t/\t { nx:=λ_ H'=>Q .non H',rt:=Q } (start N vs) H):FnOk P w K mg base (CX1 P w) (k+1) f fd ps sp:=by
 obtain⟨oc,od,kV,doc,pm,an,cdv,ct,osl,rfl,lk,hcd⟩:=F.ex;refine hS_ lk hcd S len λA outer s H vs Q E hr hsp=>?_;obtain⟨t,h,q⟩:=hbody cdv A outer s H vs Q E hr hsp;exact⟨t,h,q⟩
end
open PySem.Calls Builtin Builtin.ObjectAttr Builtin.Getset_descriptor
structure ExcK (K:F__) (C:Addr):Prop where
 cl:(clsIn K C).isSome=true
 ga:findIn K (.ref C) "__getattribute__"=some (some (.builtin "BaseException.__getattribute__"))
 ha:findIn K (.ref C) "__getattr__"=some none
 ca:findIn K (.ref C) "__class__"=some (some (.builtin "object.__class__"))
 gt:specialIn K (.builtin "object.__class__") "__get__"=some (some (.builtin "getset_descriptor.__get__"))
 tk:takesIn K (.builtin "object.__class__")=some true
 mo:mroIn K C (.type "object")=some true
 mb:mroIn K C (.type "BaseException")=some true
section
variable{prog:Ad}{w:Af}{A:Ag}{E:Aa->Ab->Prop}{s:Ab}{K:F__}{x C:Addr}
end
inductive rIsiC (K:F__) (xs:List V) (H:Hp) (Q:VK):Prop
 |mk:∀x C t b,xs=[x,.ref C]->TyOf K H x t->PySem.W.kitOne K t (.ref C)=some b->Q (.bl b) H->rIsiC K xs H Q
theorem fj_:bd' X (.builtin "isinstance") (rIsiC X.K):=by
 intro pins s σ H xs us Q I r h;obtain⟨x,C,t,b,rfl,ty,e,q⟩:=h;obtain⟨u,w',rfl,ru,rw'⟩:=vals2 r;cases (show w'=Value.ref C from rw');exact db_ I ru ty e λtk=>⟨.bl b,H,I.tok tk,rfl,q⟩
end L2
namespace Ev
open PySem L2
abbrev sCWays:Stmt:=top 33
abbrev cA':Stmt:=top 34
abbrev ce':Stmt:=top 35
abbrev b2':Stmt:=top 36
abbrev sCell:Stmt:=top 66
abbrev sDigit:Stmt:=top 67
abbrev sNames:Stmt:=top 68
abbrev sLWeb:Stmt:=top 69
abbrev sGd:Stmt:=top 19
abbrev sLM:Stmt:=top 20
abbrev cb':Stmt:=top 38
abbrev sMult:Stmt:=top 39
abbrev bF':Stmt:=top 41
abbrev sFrac:Stmt:=top 21
abbrev cG':Stmt:=top 46
abbrev sWords:Stmt:=top 47
abbrev cE':Stmt:=top 64
abbrev sTWays:Stmt:=top 70
abbrev sComes:Stmt:=top 71
abbrev sAlike:Stmt:=top 72
abbrev cJ':Stmt:=top 73
abbrev sLaw:Stmt:=top 74
def But(l:Addr)(H H':Hp):Prop:=∀b o,H b=some o->b≠l->H' b=some o
theorem But.refl(l:Addr)(H:Hp):But l H H:=λ_ _ e _=>e
variable{l:Addr}{H H1:Hp}
theorem But.trans{H2:Hp}(h:But l H H1)(h2:But l H1 H2):But l H H2:=λb o e n=>h2 b o (h b o e n) n
theorem But.of(h:Same H H1):But l H H1:=λb o e _=>h b o e
theorem But.upd{o:HO}:But l H (upd H l o):=λb u e n=>by rw[a5_ n];exact e
def stt(H:Hp)(l:Addr):Prop:=(∃n:Int,H l=some (.lst [.int n]))∨∃n m c:Int,H l=some (.lst [.int n,.int m,.int c])
theorem stt.some(h:stt H l):∃xs,H l=some (.lst xs):=by
 rcases h with⟨n,e⟩|⟨n,m,c,e⟩
 ·exact⟨_,e⟩
 ·exact⟨_,e⟩
variable{H':Hp}
theorem But.free{b:Addr}(h:But l H H')(s:stt H' l)(e:H' b=none):H b=none:=by
 cases z:H b with
 |none=>rfl
 |some o=>
  by_cases q:b=l
  ·subst q;obtain⟨xs,e2⟩:=s.some;rw[e] at e2;cases e2
  ·rw[h b o z q] at e;cases e
theorem cR_{α:Type}{xs:List α}{i:Int}(h0:0<=i)(h1:i<xs.length):atI xs i=xs[i.toNat]?:=by
 unfold atI ixN;rw[a_9 h0,a_9 h1];rfl
def bs':Sp:=λvs H Q _=>∃(l:Addr) (b:Int),vs=[.ref l,.int b]/\0<b/\b<1073741824/\stt H l/\∀r H',0<=r->r<b->But l H H'->stt H' l->Q (.int r) H'
theorem small(x:Int):-(2 ^ 64)<x % 2147483647/\x % 2147483647<2 ^ 64:=by
 have h1:=Int.emod_nonneg x (b:=2147483647) (by decide);have h2:=Int.emod_lt_of_pos x (b:=2147483647) (by decide);exact⟨by omega,by omega⟩
theorem dX_:("abcdefghijklmnopqrstuvwxyz":Str).cps.toList=[97,98,99,100,101,102,103,104,105,106,107,108,109,110,111,112,113,114,115,116,117,118,119,120,121,122]:=by decide +kernel
variable{r:Int}
theorem iH_(h0:0<=r)(h1:r<26):∃c,atI ("abcdefghijklmnopqrstuvwxyz":Str).cps.toList r=some c/\okc c=true:=by
 rw[dX_,cR_ h0 (by simpa using h1)];have hn:r.toNat<26:=by omega
 refine⟨_,ac' (by simpa using hn),?_⟩;have all:∀c∈[97,98,99,100,101,102,103,104,105,106,107,108,109,110,111,112,113,114,115,116,117,118,119,120,121,122],okc c=true:=by decide +kernel
 exact all _ (List.getElem_mem _)
def bQ'{α:Type}(l:List α)(k:Nat)(x:α):List α:=l.take k++x::l.drop k
theorem cw_{α:Type}(l:List α)(k:Nat)(x:α):(bQ' l k x).Perm (x::l):=by
 unfold bQ';refine List.perm_middle.trans ?_;rw[List.take_append_drop]
theorem fq_{α β:Type}(g:α->β)(l:List α)(k:Nat)(x:α):(bQ' l k x).map g=bQ' (l.map g) k (g x):=by
 unfold bQ';rw[aq',au',List.map_take,List.map_drop]
theorem cC_{α β:Type}{F:α->β->Prop}:∀{ys:List α} {ks:List β} (k:Nat) {y:α} {q:β},Paired F ys ks->F y q->Paired F (bQ' ys k y) (bQ' ks k q)
 |[],_,k,_,_,.nil,h=>by
  unfold bQ';simp only[List.take_nil,List.drop_nil,List.nil_append];exact .cons h .nil
 |y::ys,_,0,_,_,.cons a t,h=>.cons h (.cons a t)
 |y::ys,_,k+1,_,_,.cons a t,h=>.cons a (cC_ k t h)
theorem hit2{α:Type}{a b:α}(h0:0<=r)(h1:r<2):atI [a,b] r=some a∨atI [a,b] r=some b:=by
 have:r=0∨r=1:=by omega
 rcases this with rfl|rfl
 ·exact .inl rfl
 ·exact .inr rfl
variable{K:F__}
theorem al_{ys:List V}{ks:List (List Key)}(t:aU' K H ys ks)(b:But l H H'){xs:List V}(hl:H l=some (.lst xs)):aU' K H' ys ks:=Paired.mapP t λy k ⟨a,z,q⟩=>⟨a,z,b _ _ q (ac_ q hl nofun)⟩
variable{ns:List Str}
theorem de_{D:Addr}(h:H D=some (.lst (ns.map V.str))):rL K rS H (.ref D) ns:=⟨D,_,rfl,.of h,cO_ ns⟩
def kO(t:Str × Str):List Key:=kT (ord2 t.1 t.2)
structure TI (ns:List Str) (k j:Nat) (ts:Xb):Prop where
 at':∀t∈ts,∃(a b:Nat) (x y:Str),b<a/\(a<k∨(a=k/\b<j))/\ns[a]? = some x/\ns[b]? = some y/\(t=(x,y)∨t=(y,x))
 nd:(ts.map kO).Nodup
 len:ts.length<=7 * k+j
theorem e2_{a b:Str × Str}(h:kT a=kT b):a=b:=by
 unfold kT at h;obtain⟨h1,h2⟩:=List.cons.inj h;obtain⟨h2,_⟩:=List.cons.inj h2;exact Prod.ext (b_3 h1) (b_3 h2)
variable{i j:Nat}
theorem cj_(nd:ns.Nodup){x:Str}(h:ns[i]? = some x)(h2:ns[j]? = some x):i=j:=by
 obtain⟨hi,e1⟩:=ab'.mp h;obtain⟨hj,e2⟩:=ab'.mp h2;exact (List.getElem_inj nd).mp (e1.trans e2.symm)
theorem iu_{a b c d:Str}(h:kO (a,b)=kO (c,d)):(a=c/\b=d)∨(a=d/\b=c):=by
 have h:=e2_ h;dsimp only at h;rcases bz_ a b with e|e<;>rcases bz_ c d with e2|e2<;>rw[e,e2] at h<;>have h1:=(Prod.mk.inj h).1<;>have h2:=(Prod.mk.inj h).2
 ·exact .inl ⟨h1,h2⟩
 ·exact .inr ⟨h1,h2⟩
 ·exact .inr ⟨h2,h1⟩
 ·exact .inl ⟨h2,h1⟩
theorem stt.same(h:stt H l)(s:Same H H'):stt H' l:=by
 rcases h with⟨n,e⟩|⟨n,m,c,e⟩
 ·exact .inl ⟨n,s _ _ e⟩
 ·exact .inr ⟨n,m,c,s _ _ e⟩
theorem fU_(a:Str):ltS a a=false:=g7_ (Sum.inr a)
theorem ds_{a b:Str}(h:ltS a b=true):ltS b a=false:=dv_ (a:=Sum.inr a) (b:=Sum.inr b) h
theorem hM_{a b:Str}(h:ltS a b=false)(h2:ltS b a=false):a=b:=b_3 (fK_ (a:=Sum.inr a) (b:=Sum.inr b) h h2)
theorem lexS(a b:Str):lexK (keyS a) (keyS b)=ltS a b:=by
 show (if (Sum.inr a:Key)=Sum.inr b then false else ltS a b)=ltS a b;by_cases h:a=b
 ·subst h;rw[a_9 rfl,fU_]
 ·rw[a_6 λe=>h (b_3 e)]
def SAsc(ns:List Str):Prop:=ns.Pairwise λa b=>ltS b a=false
theorem SAsc.keys(h:SAsc ns):Asc (ns.map keyS):=by
 unfold Asc;rw[aF'];exact h.imp λq=>by rw[lexS];exact q
theorem c5_{a b:List Str}(p:a.Perm b)(h1:SAsc a)(h2:SAsc b):a=b:=ek_ (bQ_ (p.map keyS) h1.keys h2.keys)
theorem dm_(ss:List Str):SAsc (a4' ss):=by
 have h:=bq_ (ss.map keyS);rw[<- bS_] at h;unfold Asc at h;rw[aF'] at h;exact h.imp λq=>by rw[lexS] at q;exact q
theorem gO_(a b:Str):a4' [a,b]=[(ord2 a b).1,(ord2 a b).2]:=by
 refine c5_ ((aj_ _).trans ?_) (dm_ _) ?_
 ·rcases bz_ a b with e|e
  ·rw[e]
  ·rw[e];exact List.Perm.swap _ _ _
 ·unfold SAsc ord2;by_cases h:ltS a b=true
  ·rw[a_9 h]
   exact .cons (λx hx=>by
    obtain rfl:x=b:=by simpa using hx
    exact ds_ h) (.cons (λx hx=>by cases hx) .nil)
  ·rw[a_6 h]
   exact .cons (λx hx=>by
    obtain rfl:x=a:=by simpa using hx
    simpa using h) (.cons (λx hx=>by cases hx) .nil)
theorem c4_(a b:Str):ord2 a b=ord2 b a:=by
 unfold ord2;by_cases h:ltS a b=true
 ·rw[a_9 h,a_6 (by rw[ds_ h];decide)]
 ·by_cases h2:ltS b a=true
  ·rw[a_6 h,a_9 h2]
  ·have:=hM_ (by simpa using h) (by simpa using h2);subst this;rw[a_6 h]
theorem dj_{α β:Type}{f:α->β}:∀{l:List α},(l.map f).Nodup->∀{a b:α},a∈l->b∈l->f a=f b->a=b
 |[],_,_,_,h,_,_=>by cases h
 |x::l,nd,a,b,ha,hb,e=>by
  rw[au'] at nd;obtain⟨n1,n2⟩:=aG'.mp nd;rcases aj'.mp ha with ha'|ha'<;>rcases aj'.mp hb with hb'|hb'
  ·rw[ha',hb']
  ·exact absurd (af'.mpr ⟨b,hb',by rw[<- ha',e]⟩) n1
  ·exact absurd (af'.mpr ⟨a,ha',by rw[<- hb',e]⟩) n1
  ·exact dj_ n2 ha' hb' e
variable{ts:Xb}
theorem by'{x:Str × Str}:x∈tsOf ts ↔ ∃t∈ts,ord2 t.1 t.2=x:=by
 have e:kT x∈(tsOf ts).map kT ↔ x∈tsOf ts:=⟨λh=>by
  obtain⟨y,hy,e⟩:=af'.mp h;rw[<- e2_ e];exact hy,λh=>af'.mpr ⟨x,h,rfl⟩⟩
 rw[<- e,b6_,(ag_ _).mem_iff,af'];exact⟨λ⟨t,ht,q⟩=>⟨t,ht,e2_ q⟩,λ⟨t,ht,q⟩=>⟨t,ht,by rw[q]⟩⟩
theorem hK_(a b:Str):kO (a,b)=kO (b,a):=by
 show kT (ord2 a b)=kT (ord2 b a);rw[c4_]
theorem scCell:aT' ["_law_script","_law_k"] ["_law_script","_law_k"] (aS' sCell):=f__
def spCell(K:F__):Sp:=λvs H Q _=>∃(l:Addr) (ns:List Int) (k:Int),vs=[.ref l,.int k]/\0<=k/\SqL K H l (ns.map V.int)/\∀n,Q (.int n) H
variable{f:Addr}{fd:Ae}{P:Ad}{w:Af}{mg:Str->Option Aa}{base:Heap}
theorem hL_(F:Fun K "_law_cell_at" "_law_cell_at" sCell f fd)(B:Bi mg):FnOk P w K mg base CX0 1 f fd ["_law_script","_law_k"] (spCell K):=by
 refine F.ok scCell (λvs H Q E h=>?_) (λcdv A outer s H vs Q E hr h=>?_)
 ·obtain⟨l,ns,k,rfl,_⟩:=h;rfl
 ·obtain⟨l,ns,i,rfl,h0,hl,k⟩:=h;refine⟨_,a2_ (au_ (ar_ iO_ (pv 1) (a9_ am_ (by rfl) B.len b_5 (a0_ (pv 0) a3_)) (nomark _)) (a6_ (ae_ (aA_ aG_ (pv 0) (pv 1) (λ_ _=>rfl)))) ab_) (a6_ (ae_ a8_)),?_⟩;refine⟨_,rfl,_,rfl,l,_,rfl,.inl hl,_,_,rfl,rfl,_,rfl,?_⟩;refine ite2 (λc=>?_) (λc=>?_)
  ·have c:i<(ns.map V.int).length:=by simpa using c
   have e:atI (ns.map V.int) i=some (.int (ns[i.toNat]'(by rw[aa'] at c;omega))):=by
    rw[cR_ h0 c,am',ac' (by rw[aa'] at c;omega)];rfl
   exact⟨_,rfl,_,rfl,l,_,_,_,rfl,rfl,hl,e,k _⟩
  ·exact k 0
theorem bT':aT' ["_law_state","_law_base","_law_cell","_law_found","_law_number"] ["_law_state","_law_base"] (aS' sDigit):=f__
theorem pick2{n:Int}(b:Bool):∃m:Int,atI [V.int 0,V.int n] (if b then 1 else 0)=some (.int m):=by
 cases b
 ·exact⟨0,rfl⟩
 ·exact⟨n,rfl⟩
theorem gh_(F:Fun K "_law_digit" "_law_digit" sDigit f fd)(B:Bi mg):FnOk P w K mg base CX0 1 f fd ["_law_state","_law_base"] bs':=by
 refine F.ok bT' (λvs H Q E h=>?_) (λcdv A outer s H vs Q E hr h=>?_)
 ·obtain⟨l,b,rfl,_⟩:=h;rfl
 ·obtain⟨l,b,rfl,h0,h1,st,k⟩:=h
  refine⟨_,a2_ (au_ (ar_ ck_ (a9_ am_ (by rfl) B.len b_5 (a0_ (pv 0) a3_)) a8_ (nomark _))
    (a2_ (ad_ (i:=2) bT'.nd rfl (Or.inl rfl) (aA_ aG_ (pv 0) a8_ (λ_ _=>rfl)))
    (a2_ (ed_ (aA_ aG_ (bn_ (a0_ a8_ (a0_ (pv 2) a3_))) (aw_ fH_ (by rfl) B.int PyProof.Rows.Boot.«int» (a0_ (bP_ ib_ (pv 2) (as_ hj_ a8_ a8_) (nomark _)) a3_)) (λ_ _=>rfl)) (fR_ (pv 0) a8_ cK_))
    (a6_ (aq_ (dA_ b_2 PySem.F.slot_list_extend PySem.F.type_list_extend eY_ (pv 0) (a0_ (bn_ (a0_ (as_ bZ_ (pv 2) a8_) (a0_ a8_ a3_))) a3_)))))) ab_)
   (a2_ (au_ (ar_ id_ (aA_ aG_ (pv 0) a8_ (λ_ _=>rfl)) a8_ (nomark _))
    (a2_ (ad_ (i:=3) bT'.nd rfl (Or.inl rfl) (as_ bZ_ (aA_ aG_ (pv 0) a8_ (λ_ _=>rfl)) (pv 1)))
    (a2_ (ed_ (as_ b9_ (aA_ aG_ (pv 0) a8_ (λ_ _=>rfl)) (pv 1)) (fR_ (pv 0) a8_ cK_))
    (a6_ (ae_ (pv 3))))) ab_)
   (a2_ (ed_ (as_ b3_ (aA_ aG_ (pv 0) a8_ (λ_ _=>rfl)) a8_) (fR_ (pv 0) a8_ cK_))
   (a2_ (ad_ (i:=4) bT'.nd rfl (Or.inl rfl) (as_ bZ_ (as_ cu_ (as_ b3_ (as_ b3_ (aA_ aG_ (pv 0) a8_ (λ_ _=>rfl)) (as_ cu_ a8_ (aA_ aG_ (pv 0) a8_ (λ_ _=>rfl)))) a8_) a8_) a8_))
   (a2_ (ad_ (i:=4) bT'.nd rfl (Or.inl rfl) (as_ bZ_ (as_ cu_ (pv 4) (as_ b3_ (as_ b9_ (pv 4) a8_) a8_)) a8_))
   (a6_ (ae_ (as_ bZ_ (as_ bZ_ (as_ cu_ (pv 4) (as_ b3_ (as_ b9_ (pv 4) a8_) a8_)) a8_) (pv 1)))))))),?_⟩
  rcases st with⟨n,hl0⟩|⟨n,m,c,hl⟩
  case' inl=>
   refine⟨_,rfl,l,_,rfl,.inl (.of hl0),rfl,_,rfl,iteT ?_⟩;refine⟨_,rfl,l,_,_,_,rfl,rfl,.of hl0,rfl,?_⟩;refine⟨_,rfl,by show 2<=sizeLine;decide,λp hp=>?_⟩;have lp:l≠p:=a7_ hl0 hp;refine⟨_,rfl,_,_,rfl,rfl,⟨by decide,by decide,by decide⟩,_,_,rfl,rfl,.inr ⟨_,rfl,?_⟩⟩;obtain⟨n',hn'⟩:=pick2 (n:=n) (decide ((10:Int) ^ (18:Int).toNat<=n));refine⟨p,_,_,_,rfl,rfl,.of a1_,hn',?_⟩;refine⟨_,rfl,l,_,_,0,rfl,rfl,by rw[a5_ lp];exact hl0,rfl,?_⟩;have hl1:(upd (upd H p (.lst [.int 0,.int n])) l (.lst ([V.int n].set 0 (.int n')))) l=some (.lst [.int n']):=a1_;have bt1:But l H (upd (upd H p (.lst [.int 0,.int n])) l (.lst ([V.int n].set 0 (.int n')))):=(But.of (Same.new hp)).trans But.upd;generalize (upd (upd H p (.lst [.int 0,.int n])) l (.lst ([V.int n].set 0 (.int n'))))=Ha at hl1 bt1 ⊢;refine⟨_,rfl,.inl ⟨rfl,_,.of hl1⟩,_,rfl,_,_,rfl,rfl,by show (0:Int)<2147483647;decide,by show 2<=sizeLine;decide,λq hq=>?_⟩;refine⟨l,q,_,_,rfl,rfl,Same.new hq _ _ hl1,a1_,by show 1+2<=sizeLine;decide,?_⟩;have bt:But l H (upd (upd Ha q (.lst [.int (n % 2147483647),.int 0])) l (.lst ([.int n']++[.int (n % 2147483647),.int 0]))):=bt1.trans ((But.of (Same.new hq)).trans But.upd);have hl:(upd (upd Ha q (.lst [.int (n % 2147483647),.int 0])) l (.lst ([.int n']++[.int (n % 2147483647),.int 0]))) l=some (.lst [.int n',.int (n % 2147483647),.int 0]):=a1_;generalize (upd (upd Ha q (.lst [.int (n % 2147483647),.int 0])) l (.lst ([.int n']++[.int (n % 2147483647),.int 0])))=H1 at bt hl ⊢
  case' inr=>
   refine⟨_,rfl,l,_,rfl,.inl (.of hl),rfl,_,rfl,iteF ?_⟩;have bt:=But.refl l H
  all_goals
   refine⟨_,rfl,l,_,_,_,rfl,rfl,.of hl,rfl,_,_,rfl,rfl,_,rfl,?_⟩;refine ite2 (λc=>?_) (λc=>?_)
   ·refine⟨_,rfl,l,_,_,_,rfl,rfl,.of hl,rfl,_,rfl,_,_,rfl,rfl,h0,?_⟩;refine⟨_,rfl,l,_,_,_,rfl,rfl,.of hl,rfl,_,rfl,_,_,rfl,rfl,⟨h0,h1⟩,_,rfl,l,_,_,0,rfl,rfl,hl,rfl,?_⟩;exact⟨_,rfl,k _ _ (Int.emod_nonneg _ Z1) (Int.emod_lt_of_pos _ h0) (bt.trans But.upd) (.inr ⟨_,_,_,a1_⟩)⟩
   ·refine⟨_,rfl,l,_,_,_,rfl,rfl,.of hl,rfl,_,_,rfl,rfl,_,rfl,l,_,_,2,rfl,rfl,hl,rfl,?_⟩;refine⟨_,rfl,l,_,_,_,rfl,rfl,.of a1_,rfl,_,rfl,l,_,_,_,rfl,rfl,.of a1_,rfl,_,_,rfl,rfl,.inl ⟨by decide,by decide⟩,_,_,rfl,rfl,_,_,rfl,rfl,_,_,rfl,rfl,.inr ⟨by decide,by decide⟩,_,_,rfl,rfl,by show (0:Int)<2147483647;decide,?_⟩;refine⟨_,rfl,_,rfl,_,_,rfl,rfl,⟨by decide,by decide⟩,_,_,rfl,rfl,_,_,rfl,rfl,.inl (small _),_,_,rfl,rfl,by show (0:Int)<2147483647;decide,?_⟩;refine⟨_,rfl,_,rfl,_,_,rfl,rfl,⟨by decide,by decide⟩,_,_,rfl,rfl,_,_,rfl,rfl,.inl (small _),_,_,rfl,rfl,by show (0:Int)<2147483399;decide,_,rfl,_,_,rfl,rfl,h0,?_⟩;exact k _ _ (Int.emod_nonneg _ Z1) (Int.emod_lt_of_pos _ h0) (bt.trans But.upd) (.inr ⟨_,_,_,a1_⟩)
def wordsL:List Str:=["hand","tie","piece","yard","free","fixed","none","tick","come","go","rest","run","show","ok"]
structure Nm (m:Nat) (ns:List Str):Prop where
 len:ns.length=m
 nd:ns.Nodup
 ok:∀n∈ns,be' n=true
 end_:∀n∈ns,n∈wordsL∨∃k,k<m/\n.cps.toList.getLast? = some (97+k % 26)
theorem gi_(ns:List Str)(k:Nat)(h:k<=ns.length):cutV (ns.map V.str) (some (k:Int)) none=(ns.drop k).map V.str:=by
 unfold cutV;rw[HT.sIx_nat,HT.sIx_none,aa',Nat.min_eq_left h,List.map_drop,aK'];rw[List.length_drop,aa'];omega
def Tl(m k:Nat)(n:Str):Prop:=be' n=true/\∃w:List Nat,n.cps.toList=w++(if 26<m then [97+k / 26] else [])++[97+k % 26]
variable{m:Nat}
theorem ix_{n:Str}(hm:m<=676)(hi:i<m)(hj:j<m)(a:Tl m i n)(b:Tl m j n):i=j:=by
 obtain⟨_,w1,e1⟩:=a;obtain⟨_,w2,e2⟩:=b;rw[e1] at e2;have l:=b_7 List.getLast? e2;rw[List.getLast?_append,List.getLast?_append] at l;simp at l;by_cases h:26<m
 ·rw[a_9 h,a_9 h] at e2;have z:=List.append_inj' e2 rfl;have z2:=List.append_inj' z.1 rfl;have:=(List.cons.inj z2.2).1;omega
 ·omega
theorem go_(hm:m<=676)(hl:ns.length=m)(h:∀k n,ns[k]? = some n->Tl m k n):Nm m ns:=by
 refine⟨hl,?_,λn hn=>?_,λn hn=>?_⟩
 ·rw[aA',List.pairwise_iff_getElem];intro i j hi hj lt e;have a:=h i _ (ac' hi);have b:=h j _ (ac' hj);rw[e] at a;have:=ix_ hm Z1 Z1 a b;omega
 ·obtain⟨k,hk,e⟩:=aD' hn;exact (h k n (by rw[ac' hk,e])).1
 ·obtain⟨k,hk,e⟩:=aD' hn;obtain⟨_,w,e2⟩:=h k n (by rw[ac' hk,e]);refine .inr ⟨k,by omega,?_⟩;rw[e2,List.getLast?_append];rfl
variable{q:Nat}
theorem eO_(h:q<26):atI ("abcdefghijklmnopqrstuvwxyz":Str).cps.toList (q:Int)=some (97+q):=by
 rw[dX_,cR_ Z1 (by show (q:Int)<((26:Nat):Int);omega),Int.toNat_natCast];have all:∀i:Fin 26,[97,98,99,100,101,102,103,104,105,106,107,108,109,110,111,112,113,114,115,116,117,118,119,120,121,122][i.val]? = some (97+i.val):=by decide +kernel
 exact all ⟨q,h⟩
theorem bL_(x:Str)(c:Nat):(x++(⟨#[c]⟩:Str)).cps.toList=x.cps.toList++[c]:=PySem.W.KT.app_list _ _
theorem b7_(x:Str):x.length=x.cps.toList.length:=by rw[aL'];rfl
theorem fP_(h:q<26):okc (97+q)=true:=by
 unfold okc;rw[a_2 Z1,a_2 Z1];rfl
theorem bm':aT' ["_law_state","_law_many","_law_letters","_law_names_here","_law_k","_law_word","_law_j"] ["_law_state","_law_many"] (aS' sNames):=f__
def b9':Sp:=λvs H Q _=>∃(l:Addr) (m:Nat),vs=[.ref l,.int m]/\m<=30/\stt H l/\∀(a:Addr) (ns:List Str) (H':Hp),But l H H'->stt H' l->H a=none->H' a=some (.lst (ns.map V.str))->Nm m ns->Q (.ref a) H'
theorem h4_(F:Fun K "_law_names" "_law_names" sNames f fd)(B:Bi mg)(cD:Cal P w K mg base 1 "_law_digit" ["_law_state","_law_base"] bs'):FnOk P w K mg base CX0 2 f fd ["_law_state","_law_many"] b9':=by
 refine F.ok bm' (λvs H Q E h=>?_) (λcdv A outer s H vs Q E hr h=>?_)
 ·obtain⟨l,m,rfl,_⟩:=h;rfl
 ·obtain⟨l,m,rfl,m30,st,k⟩:=h;have sz:=b__;refine' ⟨_,?u0,?kk⟩
  case' u0=>refine' a2_ ?u1 ?u2
  case u1=>exact ad_ (i:=2) bm'.nd rfl (Or.inl rfl) bv_
  case' u2=>refine' a2_ ?u27 ?u28
  case u27=>exact ad_ (i:=3) bm'.nd rfl (Or.inl rfl) (bn_ a3_)
  case' u28=>refine' a2_ ?u29 ?u30
  case' u29=>refine' aP_ ?u31 ?u32 ?u33 ?u34 ?u35
  case u31=>exact b_0
  case u32=>exact rfl
  case u33=>exact d9_ (by rfl) B.range (a0_ (pv 1) a3_)
  case u34=>exact aa_ (i:=4) bm'.nd rfl (Or.inl rfl)
  case' u35=>refine' a2_ ?u36 ?u37
  case u36=>exact ad_ (i:=5) bm'.nd rfl (Or.inl rfl) bv_
  case' u37=>refine' a2_ ?u38 ?u39
  case' u38=>refine' aP_ ?u40 ?u41 ?u42 ?u43 ?u44
  case u40=>exact b_0
  case u41=>exact rfl
  case' u42=>refine' d9_ ?u45 ?u46 ?u47
  case u45=>exact by rfl
  case u46=>exact B.range
  case u47=>exact a0_ (ai_ cD hr (a0_ (pv 0) (a0_ (as_ iy_ a8_ (as_ b9_ (pv 1) a8_)) a3_))) a3_
  case u43=>exact aa_ (i:=6) bm'.nd rfl (Or.inl rfl)
  case' u44=>refine' a6_ ?u48
  first|(case' u48=>refine' ad_ (i:=5) ?u49 ?u50 ?u51 ?u52)|(case' u44=>refine' ad_ (i:=5) ?u49 ?u50 ?u51 ?u52)
  case u49=>exact bm'.nd
  case u50=>exact rfl
  case u51=>exact Or.inl rfl
  case u52=>exact as_ bW_ (pv 5) (aA_ fO_ (pv 2) (ai_ cD hr (a0_ (pv 0) (a0_ a8_ a3_))) (λ_ _=>rfl))
  case' u39=>refine' a2_ ?u53 ?u54
  case' u53=>refine' au_ ?u55 ?u56 ?u57
  case u55=>exact ar_ id_ (pv 1) a8_ (nomark _)
  case' u56=>refine' a6_ ?u58
  first|(case' u58=>refine' ad_ (i:=5) ?u59 ?u60 ?u61 ?u62)|(case' u56=>refine' ad_ (i:=5) ?u59 ?u60 ?u61 ?u62)
  case u59=>exact bm'.nd
  case u60=>exact rfl
  case u61=>exact Or.inl rfl
  case u62=>exact as_ bW_ (pv 5) (aA_ fO_ (pv 2) (as_ b9_ (pv 4) a8_) (λ_ _=>rfl))
  case u57=>exact ab_
  case' u54=>refine' a6_ ?u63
  first|(case' u63=>refine' aq_ ?u64)|(case' u54=>refine' aq_ ?u64)
  first|(case' u64=>refine' dA_ ?u65 ?u66 ?u67 ?u68 ?u69 ?u70)|(case' u63=>refine' dA_ ?u65 ?u66 ?u67 ?u68 ?u69 ?u70)
  case u65=>exact b_2
  case u66=>exact PySem.F.slot_list_append
  case u67=>exact PySem.F.type_list_append
  case u68=>exact b4_
  case u69=>exact pv 3
  case u70=>exact a0_ (as_ bW_ (pv 5) (aA_ fO_ (pv 2) (as_ bZ_ (pv 4) a8_) (λ_ _=>rfl))) a3_
  case u30=>exact a6_ (ae_ (pv 3))
  case' kk=>skip
  generalize hH:H=H1;have b1:But l H H1:=by rw[hH];exact But.refl l H1
  have st1:stt H1 l:=by rw[<- hH];exact st
  rw[<- hH] at b1;have b1:But l H H1:=by rw[hH];exact But.refl l H1
  all_goals
   refine⟨by show 0<=sizeLine;decide,λa ha=>?_⟩;have s2:=Same.new (o:=.lst []) ha;have b0:But l H H1:=b1;have ha0:H a=none:=b0.free st1 ha
   have hla:l≠a:=by
    obtain⟨xs,e⟩:=st1.some;exact a7_ e ha
   refine⟨_,rfl,_,rfl,by show (-(2 ^ 62):Int)<=(m:Int);omega,by show (m:Int)<(2 ^ 62:Int);omega,?_⟩
   refine d2_ (lo:=0) (n:=(m:Int).toNat) (λi σ H2=>∃(v6 v7 v8:Option V) (ns:List Str),σ=[some (.ref l),some (.int m),some (.str "abcdefghijklmnopqrstuvwxyz"),some (.ref a),v6,v7,v8]/\But l H H2/\stt H2 l/\H2 a=some (.lst (ns.map V.str))/\ns.length=i/\∀k n,ns[k]? = some n->Tl m k n)
    ⟨_,_,_,[],rfl,b0.trans (But.of s2),st1.same s2,a1_,rfl,λk n e=>by simp at e⟩ ?_ ?_
   ·rintro i σ H2 hi ⟨v6,v7,v8,ns,rfl,b2,st2,ha2,ln,tl⟩;rw[Int.zero_add];have hi:i<m:=by omega
    refine⟨_,rfl,_,rfl,_,_,rfl,rfl,⟨by decide,by decide⟩,_,_,rfl,rfl,l,8 - (m:Int) / 27,rfl,by omega,by omega,st2,λr H3 r0 rb b3 st3=>⟨_,rfl,by show (-(2 ^ 62):Int)<=r;omega,by show r<(2 ^ 62:Int);omega,?_⟩⟩
    refine d2_ (lo:=0) (n:=r.toNat) (λj σ H4=>∃(x:Str) (v8:Option V),σ=[some (.ref l),some (.int m),some (.str "abcdefghijklmnopqrstuvwxyz"),some (.ref a),some (.int i),some (.str x),v8]/\But l H H4/\stt H4 l/\H4 a=some (.lst (ns.map V.str))/\x.length=j/\x.cps.toList.all okc=true)
     ⟨"",_,rfl,b2.trans b3,st3,b3 _ _ ha2 hla.symm,rfl,rfl⟩ ?_ ?_
    ·rintro j σ H4 hj ⟨x,v8,rfl,b4,st4,ha4,hx,ho⟩;refine⟨_,rfl,_,rfl,_,rfl,l,26,rfl,by decide,by decide,st4,λq H5 q0 q26 b5 st5=>?_⟩;obtain⟨c,hc,oc⟩:=iH_ q0 q26;refine⟨_,_,_,rfl,rfl,by decide +kernel,hc,_,_,rfl,rfl,?_,_,_,rfl,b4.trans b5,st5,b5 _ _ ha4 hla.symm,?_,?_⟩
     ·have:(⟨#[c]⟩:Str).length=1:=rfl;omega
     ·rw[b7_,bL_,ar',<- b7_,hx];rfl
     ·rw[bL_,List.all_append,ho];simp[oc]
    ·rintro σ H4 ⟨x,v8,rfl,b4,st4,ha4,hx,ho⟩;refine⟨_,rfl,_,_,rfl,rfl,_,rfl,?_⟩;refine ite2 (λc3=>?_) (λc3=>?_)
     have c3:26<m:=by
      have:(26:Int)<(m:Int):=by simpa using c3
      omega
     have hc3:atI ("abcdefghijklmnopqrstuvwxyz":Str).cps.toList ((i:Int) / 26)=some (97+i / 26):=by
      have:=eO_ (q:=i / 26) Z1;rw[<- this];congr 1
     refine⟨_,rfl,_,rfl,_,rfl,_,_,rfl,rfl,⟨by decide,by decide⟩,_,_,_,rfl,rfl,by decide +kernel,hc3,_,_,rfl,rfl,by show x.length+1<=sizeLine;omega,?_⟩;have ex:(x++(⟨#[97+i / 26]⟩:Str)).cps.toList=x.cps.toList++(if 26<m then [97+i / 26] else []):=by rw[a_9 c3];exact bL_ _ _
     generalize x++(⟨#[97+i / 26]⟩:Str)=x' at ex ⊢;rotate_left 1
     have c3:¬26<m:=by
      have:¬(26:Int)<(m:Int):=by simpa using c3
      omega
     have ex:x.cps.toList=x.cps.toList++(if 26<m then [97+i / 26] else []):=by rw[a_6 c3,List.append_nil]
     obtain⟨x',hx'⟩:∃x':Str,x'=x:=⟨_,rfl⟩;rw[<- hx'];have ex:x'.cps.toList=x.cps.toList++(if 26<m then [97+i / 26] else []):=by rw[hx'];exact ex
     all_goals
      have hc4:atI ("abcdefghijklmnopqrstuvwxyz":Str).cps.toList ((i:Int) % 26)=some (97+i % 26):=by
       have:=eO_ (q:=i % 26) (Nat.mod_lt _ (by decide));rw[<- this];congr 1
      have lx:x'.length<=7:=by
       rw[b7_,ex,ar',<- b7_,hx];by_cases hm:26<m
       ·rw[a_9 hm];show r.toNat+1<=7;omega
       ·rw[a_6 hm];show r.toNat+0<=7;omega
      refine⟨_,rfl,.inl ⟨rfl,_,.of ha4⟩,_,rfl,_,rfl,_,rfl,_,_,rfl,rfl,by show (0:Int)<26;decide,_,_,_,rfl,rfl,by decide +kernel,hc4,_,_,rfl,rfl,?_,a,_,_,rfl,rfl,ha4,?_,?_⟩
      ·have:(⟨#[97+i % 26]⟩:Str).length=1:=rfl;omega
      ·rw[aa'];omega
      ·refine⟨_,_,_,ns++[x'++(⟨#[97+i % 26]⟩:Str)],rfl,λb o e ne=>?_,?_,?_,?_,λkk n hn=>?_⟩
       ·rw[a5_ (a7_ e ha0)];exact b4 _ _ e ne
       ·unfold stt;rw[a5_ hla];exact st4
       ·rw[a1_,aq'];rfl
       ·rw[ar',ln];rfl
       ·by_cases hk:kk<ns.length
        ·rw[List.getElem?_append_left hk] at hn;exact tl kk n hn
        ·have hk2:kk=i:=by
          have:=(ab'.mp hn).1;rw[ar'] at this;simp only[List.length_singleton] at this;omega
         subst hk2;rw[List.getElem?_append_right Z1,ln,Nat.sub_self] at hn;have hn:x'++(⟨#[97+kk % 26]⟩:Str)=n:=by simpa using hn
         subst hn;have ey:(x'++(⟨#[97+kk % 26]⟩:Str)).cps.toList=x'.cps.toList++[97+kk % 26]:=bL_ _ _;refine⟨?_,x.cps.toList,by rw[ey,ex]⟩;unfold be';rw[b7_,ey,ar',<- b7_,a_2 (by show 1<=x'.length+1;omega),a_2 (by show x'.length+1<=8;omega),List.all_append,ex,List.all_append,ho];have o1:([97+kk % 26]:List Nat).all okc=true:=by simp[fP_ (Nat.mod_lt kk (show 0<26 by decide))]
         have o2:(if 26<m then [97+kk / 26] else ([]:List Nat)).all okc=true:=by
          by_cases hm:26<m
          ·rw[a_9 hm];simp[fP_ (show kk / 26<26 by omega)]
          ·rw[a_6 hm];rfl
         rw[o1,o2];rfl
   ·rintro σ H2 ⟨v6,v7,v8,ns,rfl,b2,st2,ha2,ln,tl⟩;exact⟨_,rfl,k a ns H2 b2 st2 ha0 ha2 (go_ Z1 Z1 tl)⟩
theorem fu_(ys:List V)(k:Nat):cutV ys none (some (k:Int))=ys.take k:=by
 unfold cutV;rw[HT.sIx_none,HT.sIx_nat,List.drop_zero,Nat.sub_zero];by_cases h:k<=ys.length
 ·rw[Nat.min_eq_left h]
 ·rw[Nat.min_eq_right Z1,aK' (ad' _),aK' Z1]
theorem fc_(ys:List V)(k:Nat):cutV ys (some (k:Int)) none=ys.drop k:=by
 unfold cutV;rw[HT.sIx_nat,HT.sIx_none];by_cases h:k<=ys.length
 ·rw[Nat.min_eq_left h,aK' (by rw[List.length_drop];omega)]
 ·rw[Nat.min_eq_right Z1,List.drop_eq_nil_of_le (ad' _),List.drop_eq_nil_of_le Z1,List.take_nil]
theorem cl_{α β:Type}{F:α->β->Prop}:∀{ys:List α} {ks:List β} (n:Nat),Paired F ys ks->Paired F (ys.take n) (ks.take n)
 |_,_,0,_=>.nil
 |_,_,_+1,.nil=>.nil
 |_,_,n+1,.cons a t=>.cons a (cl_ n t)
theorem c9_{α β:Type}{F:α->β->Prop}:∀{ys:List α} {ks:List β} (n:Nat),Paired F ys ks->Paired F (ys.drop n) (ks.drop n)
 |_,_,0,h=>h
 |_,_,_+1,.nil=>.nil
 |_,_,n+1,.cons _ t=>c9_ n t
theorem aF_{α β:Type}{F:α->β->Prop}:∀{ys ys':List α} {ks ks':List β},Paired F ys ks->Paired F ys' ks'->Paired F (ys++ys') (ks++ks')
 |_,_,_,_,.nil,h=>h
 |_,_,_,_,.cons a t,h=>.cons a (aF_ t h)
theorem h3_{α:Type}(l:List α)(t:Nat):(l.drop t++l.take t).Perm l:=List.perm_append_comm.trans (by rw[List.take_append_drop])
theorem hit3{α:Type}{p:α->Prop}{a b c:α}(h0:0<=r)(h1:r<3)(ha:p a)(hb:p b)(hc:p c):∃x,atI [a,b,c] r=some x/\p x:=by
 have:r=0∨r=1∨r=2:=by omega
 rcases this with rfl|rfl|rfl
 ·exact⟨_,rfl,ha⟩
 ·exact⟨_,rfl,hb⟩
 ·exact⟨_,rfl,hc⟩
structure TJ (ns:List Str) (k q:Nat) (ts:Xb):Prop where
 at':∀t∈ts,∃(a b:Nat) (x y:Str),a<b/\(a<k∨(a=k/\b<k+1+q))/\ns[a]? = some x/\ns[b]? = some y/\(t=(x,y)∨t=(y,x))
 nd:(ts.map kO).Nodup
 len:ts.length<=7 * k+q
variable{k:Nat}
theorem TJ.skip(h:TJ ns k j ts):TJ ns k (j+1) ts:=
 ⟨λt ht=>let ⟨a,b,x,y,h1,h2,h3,h4,h5⟩:=h.at' t ht;⟨a,b,x,y,h1,by omega,h3,h4,h5⟩,h.nd,by have:=h.len;omega⟩
theorem TJ.next(h:TJ ns k q ts)(h7:q<=7):TJ ns (k+1) 0 ts:=
 ⟨λt ht=>let ⟨a,b,x,y,h1,h2,h3,h4,h5⟩:=h.at' t ht;⟨a,b,x,y,h1,by omega,h3,h4,h5⟩,h.nd,by have:=h.len;omega⟩
theorem TJ.add(h:TJ ns k q ts)(nd:ns.Nodup){x y:Str}{t:Str × Str}(hx:ns[k]? = some x)(hy:ns[k+1+q]? = some y)(ht:t=(x,y)∨t=(y,x)):TJ ns k (q+1) (ts++[t]):=by
 refine⟨λu hu=>?_,?_,by have:=h.len;rw[ar'];simp only[List.length_singleton];omega⟩
 ·rcases ay'.mp hu with hu|hu
  ·exact h.skip.at' u hu
  ·obtain rfl:u=t:=by simpa using hu
   exact⟨k,k+1+q,x,y,by omega,.inr ⟨rfl,by omega⟩,hx,hy,ht⟩
 ·rw[aq'];refine eX_ h.nd λm=>?_;obtain⟨u,hu,e⟩:=af'.mp m;obtain⟨a,b,c,d,h1,h2,h3,h4,h5⟩:=h.at' u hu
  have key:(c=x/\d=y)∨(c=y/\d=x):=by
   rcases h5 with rfl|rfl<;>rcases ht with rfl|rfl<;>rcases iu_ e with⟨q1,q2⟩|⟨q1,q2⟩<;>simp_all
  rcases key with⟨rfl,rfl⟩|⟨rfl,rfl⟩
  ·have:=cj_ nd h3 hx;have:=cj_ nd h4 hy;omega
  ·have:=cj_ nd h3 hy;have:=cj_ nd h4 hx;omega
theorem TJ.good(h:TJ ns k j ts)(nd:ns.Nodup)(ok:∀n∈ns,be' n=true):∀t∈ts,ct' t/\t.1∈ns/\t.2∈ns:=λt ht=>by
 obtain⟨a,b,x,y,h1,h2,h3,h4,h5⟩:=h.at' t ht;have mx:=ai' h3;have my:=ai' h4
 have ne:x≠y:=λe=>by
  subst e;have:=cj_ nd h3 h4;omega
 rcases h5 with rfl|rfl
 ·exact⟨⟨ok _ mx,ok _ my,ne⟩,mx,my⟩
 ·exact⟨⟨ok _ my,ok _ mx,ne.symm⟩,my,mx⟩
def EndB(m:Nat)(n:Str):Prop:=n∈wordsL∨∃k,k<m/\n.cps.toList.getLast? = some (97+k % 26)
theorem bA':aT' ["_law_state","_law_most","_law_names_here","_law_hands","_law_thin","_law_ties","_law_k","_law_one","_law_other","_law_turn"] ["_law_state","_law_most"] (aS' sLWeb):=f__
def spLWeb(K:F__):Sp:=λvs H Q _=>∃(l:Addr),vs=[.ref l,.int 5]/\stt H l/\∀(t lh lt:Addr) (ys zs:List V) (hs:Xa) (ts:Xb) (H':Hp),But l H H'->stt H' l->H' t=some (.tup [.ref lh,.ref lt])->H lh=none->H lt=none->lh≠lt->
 H' lh=some (.lst ys)->aU' K H' ys (hs.map kH)->H' lt=some (.lst zs)->aU' K H' zs (ts.map kT)->Good hs ts->(∀n∈hs.map (·.1),EndB 8 n)->Q (.ref t) H'
theorem i8_(F:Fun K "_law_web" "_law_web" sLWeb f fd)(B:Bi mg)(cD:Cal P w K mg base 1 "_law_digit" ["_law_state","_law_base"] bs')(cN:Cal P w K mg base 2 "_law_names" ["_law_state","_law_many"] b9'):FnOk P w K mg base CX0 3 f fd ["_law_state","_law_most"] (spLWeb K):=by
 refine F.ok bA' (λvs H Q E h=>?_) (λcdv A outer s H vs Q E hr h=>?_)
 ·obtain⟨l,rfl,_⟩:=h;rfl
 ·obtain⟨l,rfl,st,k⟩:=h;have sz:=b__;have hr1:Room 1 _:=hr.mono (by decide)
  refine' ⟨_,a2_ (ad_ (i:=2) bA'.nd rfl (Or.inl rfl) (ai_ cN hr (a0_ (pv 0) (a0_ (as_ b3_ a8_ (ai_ cD hr1 (a0_ (pv 0) (a0_ (pv 1) a3_)))) a3_))))
   (a2_ (hY_ (i:=3) ["_law_name","_law_state"] 1 [0] bA'.nd rfl (Or.inl rfl) (av_ (pv 2)) (λfp s H=>aa_ (i:=0) (show (["_law_name","_law_state"]:List Str).Nodup by decide +kernel) rfl (Or.inl rfl)) (λfp s H=>aV_)
    (λfp s H=>?he))
   (a2_ (ad_ (i:=4) bA'.nd rfl (Or.inl rfl) (as_ b3_ a8_ (ai_ cD hr1 (a0_ (pv 0) (a0_ a8_ a3_)))))
   (a2_ (ad_ (i:=5) bA'.nd rfl (Or.inl rfl) (bn_ a3_))
   (a2_ (aP_ b_0 rfl (hp_ (by rfl) B.enum (a0_ (pv 2) a3_)) (co_ rfl (ah_ (aa_ (i:=6) bA'.nd rfl (Or.inl rfl)) (ah_ (aa_ (i:=7) bA'.nd rfl (Or.inl rfl)) aZ_)))
    (a6_ (aP_ b_0 rfl (av_ (cL_ dH_ (pv 2) (dQ_ (as_ b3_ (pv 6) a8_)) dC_)) (aa_ (i:=8) bA'.nd rfl (Or.inl rfl))
     (a6_ (au_ (ar_ ck_ (ai_ cD hr1 (a0_ (pv 0) (a0_ (pv 4) a3_))) a8_ (nomark _))
      (a6_ (aq_ (dA_ b_2 PySem.F.slot_list_append PySem.F.type_list_append b4_ (pv 5) (a0_ (aA_ aG_ (bn_ (a0_ (aL_ (a0_ (pv 7) (a0_ (pv 8) a3_))) (a0_ (aL_ (a0_ (pv 8) (a0_ (pv 7) a3_))) a3_))) (ai_ cD hr1 (a0_ (pv 0) (a0_ a8_ a3_))) (λ_ _=>rfl)) a3_))))
      ab_)))))
   (a2_ (ad_ (i:=9) bA'.nd rfl (Or.inl rfl) (ai_ cD hr1 (a0_ (pv 0) (a0_ (a9_ am_ (by rfl) B.len b_5 (a0_ (pv 3) a3_)) a3_))))
   (a6_ (ae_ (aL_ (a0_ (as_ iC_ (cL_ dH_ (pv 3) (dQ_ (pv 9)) dC_) (cL_ dH_ (pv 3) dC_ (dQ_ (pv 9)))) (a0_ (pv 5) a3_)))))))))),?_⟩
  case he=>exact aL_ (a0_ (pv 0) (a0_ (as_ b3_ a8_ (ai_ cD hr1 (a0_ (pv 1) (a0_ (aA_ (ixK (K:=K) rIxL aG_) (bn_ (a0_ a8_ (a0_ a8_ (a0_ a8_ a3_)))) (ai_ cD hr1 (a0_ (pv 1) (a0_ a8_ a3_))) (λ_ _=>rfl)) a3_)))) a3_))
  refine⟨_,rfl,_,rfl,_,rfl,l,5,rfl,by decide,by decide,st,λr H1 r0 r8 b1 st1=>⟨_,_,rfl,rfl,?_⟩⟩;obtain⟨r,rfl⟩:=aB' r0;refine⟨l,1+r,by show [V.ref l,V.int (1+(r:Int))]=[V.ref l,V.int ((1+r:Nat):Int)];rw[Int.natCast_add];rfl,by omega,st1,λln ns H2 b2 st2 fn hn2 N=>?_⟩;have n8:ns.length<=8:=by rw[N.len];omega
  have n1:1<=ns.length:=by rw[N.len];omega
  have lnl:ln≠l:=λe=>by
   subst e;obtain⟨xs,e2⟩:=st1.some;rw[fn] at e2;cases e2
  refine⟨_,rfl,ln,rfl,⟨_,.of hn2⟩,λlh0 hlh0=>?_⟩
  have lh0l:lh0≠l:=by
   obtain⟨xs,e⟩:=st2.some;exact (a7_ e hlh0).symm
  refine aQ_ (own:=1) (fv:=[some (.ref l)]) (xs:=ns.map V.str) rfl gok1 (λi out H'=>∃hs:Xa,But l H2 H'/\stt H' l/\H' lh0=some (.lst out)/\aU' K H' out (hs.map kH)/\hs.map (·.1)=ns.take i/\∀h∈hs,1<=h.2/\h.2<=1000) ⟨[],But.of (Same.new hlh0),st2.same (Same.new hlh0),a1_,.nil,rfl,by simp⟩ (λi out H' _ ⟨_,b,_⟩=>.of (b _ _ hn2 lnl)) (λys0 H3 ⟨hs0,b3,st3,hh3,tu3,en,gh⟩=>?_) (λi x out H' hx ⟨hs,b,stx,hD,tu,en,gh⟩=>?_);rotate_left 1
  ·obtain⟨n,hn,rfl⟩:=aB_ hx
   have li:out.length=i:=by
    have h1:=a_5 tu;rw[aa'] at h1;have h2:=b_7 List.length en;rw[aa',ak'] at h2;have:=(ab'.mp hn).1;omega
   have hi:=(ab'.mp hn).1;refine⟨_,rfl,rfl,λNx hN=>yesT ?_⟩;refine⟨_,rfl,_,rfl,by show 3<=sizeLine;decide,λp hp=>?_⟩;have s4:=Same.new (o:=.lst [.int 3,.int 12,.int 1000]) hp
   have lp:p≠l:=by
    obtain⟨xs,e⟩:=stx.some;exact (a7_ e hp).symm
   refine⟨_,rfl,l,3,rfl,by decide,by decide,stx.same s4,λr1 H5 q0 q1 b5 st5=>?_⟩;obtain⟨y,hy,bb,eb,e1,e2⟩:=hit3 (p:=λy:V=>∃n:Int,y=.int n/\0<n/\n<=1000) (a:=V.int 3) (b:=.int 12) (c:=.int 1000) q0 q1 ⟨3,rfl,by decide,by decide⟩ ⟨12,rfl,by decide,by decide⟩ ⟨1000,rfl,by decide,by decide⟩;subst eb;refine⟨p,_,_,_,rfl,rfl,.of (b5 _ _ a1_ lp),hy,l,bb,rfl,e1,by omega,st5,λr2 H6 q2 q3 b6 st6=>⟨_,_,rfl,rfl,by show 2<=sizeLine;decide,λt ht=>?_⟩⟩;have b36:But l H' H6:=(But.of s4).trans (b5.trans b6);have hD6:=b36 _ _ hD lh0l;have s7:=Same.new (o:=.tup [.str n,.int (1+r2)]) ht;obtain⟨xs0,hlx⟩:=stx.some;have tu6:=al_ tu b36 hlx;have tt:upd H6 t (.tup [.str n,.int (1+r2)]) t=some (.tup ((kH (n,1+r2)).map kV)):=a1_;refine⟨out,s7 _ _ hD6,by omega,hN _ _ ⟨hs++[(n,1+r2)],λb' o e ne=>?_,?_,a1_,?_,?_,λh hh=>?_⟩⟩
   ·rw[a5_ (a7_ e hlh0)];exact s7 _ _ (b36 _ _ (b _ _ e ne) ne)
   ·have:=st6.same s7;unfold stt;rw[a5_ lh0l.symm];exact this
   ·rw[aq'];exact bp_ (bC_ (tu6.same s7) tt) (s7 _ _ hD6)
   ·rw[aq',en,aE',hn];rfl
   ·rcases ay'.mp hh with hh|hh
    ·exact gh h hh
    ·obtain rfl:h=(n,1+r2):=by simpa using hh
     exact⟨by show 1<=1+r2;omega,by show 1+r2<=1000;omega⟩
  rw[aa',ax'] at en;have ln3:=b3 _ _ hn2 lnl;have lh0n:H2 lh0=none:=hlh0;refine⟨_,rfl,l,4,rfl,by decide,by decide,st3,λr3 H4 q0 q1 b4 st4=>⟨_,_,rfl,rfl,?_⟩⟩;refine⟨by show 0<=sizeLine;decide,λa ha=>?_⟩;have s5:=Same.new (o:=.lst []) ha
  have hla:l≠a:=by
   obtain⟨xs,e⟩:=st4.some;exact a7_ e ha
  have ln4:=b4 _ _ ln3 lnl;have hh4:=b4 _ _ hh3 lh0l;have lna:ln≠a:=a7_ ln4 ha;have lha:lh0≠a:=a7_ hh4 ha;have B4:But l H H4:=b1.trans (b2.trans (b3.trans b4));have ha0:H a=none:=B4.free st4 ha;have hlh00:H lh0=none:=(b1.trans b2).free st2 hlh0;obtain⟨xs3,hl3⟩:=st3.some;have tu4:=al_ tu3 b4 hl3
  let Iv:Nat->Nat->Hp->Prop:=λkk q H'=>∃zs ts,But l H H'/\stt H' l/\H' ln=some (.lst (ns.map V.str))/\H' lh0=some (.lst ys0)/\aU' K H' ys0 (hs0.map kH)/\H' a=some (.lst zs)/\aU' K H' zs (ts.map kT)/\TJ ns kk q ts
  refine⟨_,rfl,ln,rfl,⟨_,.of (s5 _ _ ln4)⟩,gn_ (K:=K) (a:=ln) (xs:=ns.map V.str) (λi σ H'=>∃(v6 v7 v8 v9:Option V),σ=[some (.ref l),some (.int 5),some (.ref ln),some (.ref lh0),some (.int (1+r3)),some (.ref a),v6,v7,v8,v9]/\Iv i 0 H')
   ⟨none,none,none,none,rfl,[],[],B4.trans (But.of s5),st4.same s5,s5 _ _ ln4,s5 _ _ hh4,tu4.same s5,a1_,.nil,⟨by simp,.nil,aC' _⟩⟩ (λi σ H' _ ⟨_,_,_,_,_,_,_,_,_,q,_⟩=>.of q) ?_ ?_⟩
  ·rintro i x σ H6 hx ⟨v6,v7,v8,v9,rfl,zs6,ts6,b6,st6,hn6,hh6,th6,ha6,tu6,tj6⟩ u hu;obtain⟨one,hone,rfl⟩:=aB_ hx;have hi:i<ns.length:=(ab'.mp hone).1;have s7:Same H6 (upd H6 u (.tup [.int i,.str one])):=Same.new hu;have hu7:upd H6 u (.tup [.int i,.str one]) u=some (.tup [.int i,.str one]):=a1_;refine⟨u,_,rfl,.of hu7,rfl,_,_,rfl,_,_,rfl,rfl,?_⟩;generalize upd H6 u (.tup [.int i,.str one])=H7 at s7 hu7 ⊢;refine⟨_,rfl,_,rfl,_,_,rfl,rfl,_,rfl,ln,_,rfl,.of (s7 _ _ hn6),λp hp=>?_⟩;have ec:cutV (ns.map V.str) (some ((i:Int)+1)) none=(ns.drop (i+1)).map V.str:=gi_ ns (i+1) Z1;rw[ec];have s8:Same H7 (upd H7 p (.lst ((ns.drop (i+1)).map V.str))):=Same.new hp
   have lp:l≠p:=by
    obtain⟨xs,e⟩:=(st6.same s7).some;exact a7_ e hp
   have pa:p≠a:=(a7_ (s7 _ _ ha6) hp).symm;have s78:=s7.trans s8
   refine⟨p,rfl,⟨_,.of a1_⟩,aH_ (K:=K) (a:=p) (xs:=(ns.drop (i+1)).map V.str) (λj σ H'=>∃(v8 v9:Option V),σ=[some (.ref l),some (.int 5),some (.ref ln),some (.ref lh0),some (.int (1+r3)),some (.ref a),some (.int i),some (.str one),v8,v9]/\H' p=some (.lst ((ns.drop (i+1)).map V.str))/\Iv i j H')
    ⟨_,_,rfl,a1_,zs6,ts6,b6.trans (But.of s78),st6.same s78,s78 _ _ hn6,s78 _ _ hh6,th6.same s78,s78 _ _ ha6,tu6.same s78,tj6⟩ (λj σ H' _ ⟨_,_,_,q,_⟩=>.of q) ?_ ?_⟩
   ·rintro j y σ H9 hy ⟨v8,v9,rfl,hp9,zs9,ts9,b9,st9,hn9,hh9,th9,ha9,tu9,tj9⟩;obtain⟨o,ho,rfl⟩:=aB_ hy;rw[List.getElem?_drop] at ho;refine⟨_,rfl,_,rfl,l,1+r3,rfl,by omega,by omega,st9,λr4 H10 q2 q3 b10 st10=>⟨rfl,_,rfl,?_⟩⟩;obtain⟨xs9,hl9⟩:=st9.some;have hn10:=b10 _ _ hn9 lnl;have hh10:=b10 _ _ hh9 lh0l;have ha10:=b10 _ _ ha9 hla.symm;have hp10:=b10 _ _ hp9 lp.symm;have tu10:=al_ tu9 b10 hl9;have th10:=al_ th9 b10 hl9;refine ite2 (λc=>?_) (λc=>?_)
    ·refine⟨_,rfl,.inl ⟨rfl,_,.of ha10⟩,_,rfl,_,rfl,by show 2<=sizeLine;decide,λt1 ht1=>?_⟩;have s11:=Same.new (o:=.tup [.str one,.str o]) ht1;refine⟨_,rfl,_,rfl,by show 2<=sizeLine;decide,λt2 ht2=>?_⟩;have s12:=Same.new (o:=.tup [.str o,.str one]) ht2;refine⟨by show 2<=sizeLine;decide,λlx hlx=>?_⟩;have s13:=Same.new (o:=.lst [.ref t1,.ref t2]) hlx;have s14:=(s11.trans s12).trans s13;have st13:=st10.same s14;refine⟨_,rfl,l,2,rfl,by decide,by decide,st13,λr5 H14 q4 q5 b14 st14=>?_⟩
     have lxl:lx≠l:=by
      obtain⟨xs,e⟩:=(st10.same (s11.trans s12)).some;exact (a7_ e hlx).symm
     have hlx14:=b14 _ _ (show upd (upd (upd H10 t1 (.tup [.str one,.str o])) t2 (.tup [.str o,.str one])) lx (.lst [.ref t1,.ref t2]) lx=_ from a1_) lxl;obtain⟨xs13,hl13⟩:=st13.some;have ht1':=s13 _ _ (s12 _ _ (show upd H10 t1 (.tup [.str one,.str o]) t1=_ from a1_));have ht2':=s13 _ _ (show upd (upd H10 t1 (.tup [.str one,.str o])) t2 (.tup [.str o,.str one]) t2=_ from a1_);have ht1'':=b14 _ _ ht1' (ac_ ht1' hl13 nofun);have ht2'':=b14 _ _ ht2' (ac_ ht2' hl13 nofun)
     have pick:∃(t:Addr) (tt:Str × Str),atI [V.ref t1,V.ref t2] r5=some (.ref t)/\H14 t=some (.tup ((kT tt).map kV))/\(tt=(one,o)∨tt=(o,one)):=by
      rcases hit2 (a:=V.ref t1) (b:=V.ref t2) q4 q5 with e|e
      ·exact⟨t1,(one,o),e,ht1'',.inl rfl⟩
      ·exact⟨t2,(o,one),e,ht2'',.inr rfl⟩
     obtain⟨t,tt,et,ht,etc⟩:=pick;have b1014:But l H10 H14:=(But.of s14).trans b14;obtain⟨xs10,hl10⟩:=st10.some;have ha14:=b1014 _ _ ha10 hla.symm;have hn14:=b1014 _ _ hn10 lnl;have hh14:=b1014 _ _ hh10 lh0l;have hp14:=b1014 _ _ hp10 lp.symm;have tu14:=al_ tu10 b1014 hl10;have th14:=al_ th10 b1014 hl10;have lz:=a_5 tu9;rw[aa'] at lz;have tl:=tj9.len
     have hj:j<8:=by
      have:=(ab'.mp ho).1;omega
     refine⟨lx,_,_,_,rfl,rfl,.of hlx14,et,a,_,_,rfl,rfl,ha14,by omega,?_⟩;refine⟨_,_,rfl,by rw[a5_ pa];exact hp14,_,ts9++[tt],λb o e ne=>?_,?_,by rw[a5_ lna];exact hn14,by rw[a5_ lha];exact hh14,bp_ th14 ha14,a1_,?_,tj9.add N.nd hone ho etc⟩
     ·rw[a5_ (a7_ e ha0)];exact b1014 _ _ (b10 _ _ (b9 _ _ e ne) ne) ne
     ·unfold stt;rw[a5_ hla];exact st14
     ·rw[aq'];exact bp_ (bC_ tu14 ht) ha14
    ·exact⟨_,_,rfl,hp10,zs9,ts9,b9.trans b10,st10,hn10,hh10,th10,ha10,tu10,tj9.skip⟩
   ·rintro σ H9 ⟨v8,v9,rfl,hp9,zs9,ts9,b9,st9,hn9,hh9,th9,ha9,tu9,tj9⟩;exact⟨_,_,_,_,rfl,zs9,ts9,b9,st9,hn9,hh9,th9,ha9,tu9,tj9.next (by rw[aa',List.length_drop];omega)⟩
  ·rintro σ H6 ⟨v6,v7,v8,v9,rfl,zs6,ts6,b6,st6,hn6,hh6,th6,ha6,tu6,tj6⟩;rw[aa'] at tj6
   have ly:ys0.length=ns.length:=by
    have h1:=a_5 th6;rw[aa'] at h1;have h2:=b_7 List.length en;rw[aa'] at h2;omega
   refine⟨_,rfl,_,rfl,lh0,_,rfl,.inl (.of hh6),l,_,rfl,by show (0:Int)<(ys0.length:Int);omega,by show (ys0.length:Int)<1073741824;omega,st6,λtn H7 q0 q1 b7 st7=>?_⟩;obtain⟨tn,rfl⟩:=aB' q0;obtain⟨xs6,hl6⟩:=st6.some;have hh7:=b7 _ _ hh6 lh0l;have ha7:=b7 _ _ ha6 hla.symm;have tu7:=al_ tu6 b7 hl6;have th7:=al_ th6 b7 hl6;refine⟨_,rfl,_,rfl,_,rfl,lh0,_,rfl,.of hh7,λp1 hp1=>?_⟩;rw[fc_];have s8:=Same.new (o:=.lst (ys0.drop tn)) hp1;refine⟨_,rfl,_,rfl,_,rfl,lh0,_,rfl,.of (s8 _ _ hh7),λp2 hp2=>?_⟩;rw[fu_];have s9:=Same.new (o:=.lst (ys0.take tn)) hp2;refine⟨p1,p2,_,_,rfl,rfl,s9 _ _ a1_,a1_,by rw[List.length_drop,ak'];omega,λp3 hp3=>?_⟩;have s10:=Same.new (o:=.lst (ys0.drop tn++ys0.take tn)) hp3;have s710:=s8.trans (s9.trans s10);refine⟨_,rfl,by show 2<=sizeLine;decide,λt ht=>?_⟩;have s11:=Same.new (o:=.tup [.ref p3,.ref a]) ht;have s711:=s710.trans s11;have b67:=b6.trans b7;have perm:=h3_ hs0 tn;have pm:=perm.map (·.1);have gt:=tj6.good N.nd N.ok;have mem:∀n,n∈(hs0.drop tn++hs0.take tn).map (·.1) ↔ n∈ns:=λn=>by rw[pm.mem_iff,en]
   refine k t p3 a _ zs6 (hs0.drop tn++hs0.take tn) ts6 _ (b67.trans (But.of s711)) (st7.same s711) a1_ ((b67.trans (But.of (s8.trans s9))).free (st7.same (s8.trans s9)) hp3) ha0 (λe=>?_) (s11 _ _ a1_) ?_ (s711 _ _ ha7) (tu7.same s711) ⟨λh hh=>?_,?_,?_,?_,λt ht=>(gt t ht).1,tj6.nd,by have:=tj6.len;omega,λt ht=>⟨(mem _).mpr (gt t ht).2.1,(mem _).mpr (gt t ht).2.2⟩⟩ λn hn=>?_
   ·subst e;rw[(s8.trans s9) _ _ ha7] at hp3;cases hp3
   ·rw[aq',List.map_drop,List.map_take];have tt7:aU' K H7 (ys0.drop tn++ys0.take tn) ((hs0.map kH).drop tn++(hs0.map kH).take tn):=aF_ (c9_ tn th7) (cl_ tn th7);exact tt7.same s711
   ·have hm:=perm.mem_iff.mp hh;obtain⟨g1,g2⟩:=gh h hm;exact⟨N.ok _ (by rw[<- en];exact af'.mpr ⟨h,hm,rfl⟩),g1,g2⟩
   ·refine pm.nodup_iff.mpr ?_;rw[en];exact N.nd
   ·have:=pm.length_eq;rw[aa',en] at this;omega
   ·have:=pm.length_eq;rw[aa',en] at this;omega
   ·rcases N.end_ n ((mem n).mp hn) with z|⟨kk,h1,h2⟩
    ·exact .inl z
    ·exact .inr ⟨kk,by omega,h2⟩
end Ev
namespace HT
open PySem PySem.Spec PyProof.Rows
variable{prog:Ad}{w:Af}{A:Ag}{E:Aa->Ab->Prop}{s:Ab}
theorem getItem_rev2{t sl:Addr}{a b:Aa}{u:Tok}{Q:Aa->Ab->Prop}(ht:IsTup s.heap t #[a,b])(hs:s.heap.IsSliceOf sl .none .none (.int (-1) u))
  (h:Q (.ref s.heap.objs.size) { s with heap:=s.heap.push { cls:=.type "tuple",data:=.seq #[b,a] } }):wpAny (model prog w) A (getItem (.ref t) (.ref sl)) Q E s:=by
 have htake:sizeOk (.seq #[b,a]):=by
  show 2<=sizeLine;decide
 obtain⟨os,hos,hcs,hds⟩:=id hs;have hTs:s.TypeIs (.ref sl) "slice":=⟨os,hos,hcs⟩;unfold getItem
 try with_reducible refine wpAny_holding ?_
 first|refine a__ (a_1 ?_)|skip
 refine a__ (wpAny_sequenceKey ht.typeIs (by decide) ?_)
 refine a__ (wpAny_callSpecial?_slot (name:=Str.ofString "__getitem__") ht.typeIs PyProof.Rows.slot_tuple_getitem
  (wpAny_call_entry PyProof.Rows.slot_tuple_getitem ht.typeIs entry_tuple_getitem ?_ (args_tuple_getitem _ _)))
 show wpAny _ _ (Builtin.Tuple.tupleItemsOf (.ref t) >>= _) _ _ s;refine a__ (tupleItemsOf_ ht ?_);refine a__ (wpAny_typeOf hTs ?_);rw[a_9 (by decide)]
 have ap:∀{A':Ag} {E':Aa->Ab->Prop} {R:Int × Int × Nat->Ab->Prop},R (1,-1,2) s->wpAny (model prog w) A' (Builtin.Slice.sliceApplied (.ref sl) (pure ((#[a,b]:Array Aa).size:Int))) R E' s:=by
  intro A' E' R hR;unfold Builtin.Slice.sliceApplied Builtin.Slice.sliceFields;refine a__ (a__ (wpAny_field hos hds (x:=.none) rfl (a__ (wpAny_field hos hds (x:=.none) rfl (a__ (wpAny_field hos hds (x:=.int (-1) u) rfl (a_1 ?_)))))));refine a__ (slicePart_int ?_);show wpAny _ _ (if ((-1:Int) == 0)=true then _ else _) _ _ s;rw[a_6 (by decide)];exact a__ (slicePart_none (a__ (slicePart_none (a__ (a_1 (a_1 (by with_unfolding_all exact hR)))))))
 refine a__ (ap ?_);show wpAny _ _ (if ((1:Int) == 0&&(-1:Int) == 1&&(2:Nat) == 2)=true then _ else _) _ _ s;rw[a_6 (by decide)];have e:(List.filterMap (λ(k:Nat)=>(#[a,b]:Array Aa)[((1:Int)+(k:Int) * -1).toNat]?) (List.range 2)).toArray=#[b,a]:=by with_unfolding_all rfl
 rw[e]
 first
  |exact a__ (m:=Builtin.Tuple.tupleExact _) (c_0 (a_1 ⟨_,rfl,a_1 h⟩) htake)
  |exact a__ (m:=Builtin.Tuple.tupleExact _) (c_0 (a__ (a_1 (a_1 ⟨_,rfl,a_1 h⟩))) htake)
  |exact a__ (a__ (m:=Builtin.Tuple.tupleExact _) (c_0 (a_1 (a_1 ⟨_,rfl,a_1 h⟩)) htake))
  |exact a__ (a__ (m:=Builtin.Tuple.tupleExact _) (c_0 (a_1 ⟨_,rfl,a_1 h⟩) htake))
end HT
namespace L2
open PySem PySem.Spec PyProof.Rows
def tRev2(K:F__)(te ts:TE):TE:=λσ H Q=>te σ H λx H1=>ts σ H1 λy H2=>y=.int (-1)/\∃a u v,x=.ref a/\SqT K H2 a [u,v]/\∀p,H2 p=none->Q (.ref p) (upd H2 p (.tup [v,u]))
variable{X:Cx}{e st:Expr}{te ts:TE}{p2 pos:Pos}
theorem hT_(he:PE X e te)(hs:PE X st ts):PE X (.Subscript e (.Slice none none (some st) p2) pos) (tRev2 X.K te ts):=by
 intro pins s σ H Q I h;refine Subscript_ (thn (he pins s σ H _ I h) λv s1 ⟨x,H1,I1,r1,q1⟩=>?_);refine wpAny_Slice ?_;rw[evalPart_none];refine a_1 (a_1 ?_);rw[evalPart_some];refine thn (hs pins s1 σ H1 _ I1 q1) λvs s3 ⟨y,H3,I3,ry,ey,a,u,v',ex,hx,q⟩=>?_;subst ex ey;obtain⟨t,rfl⟩:=ry;cases r1;have I4:Inv X pins σ H3 { s3 with heap:=s3.heap.push { cls:=.type "slice",data:=.fields #[.none,.none,.int (-1) t] } }:=I3.kept (t':=s3.toks) λb ob q=>a_0 _ q;obtain⟨its,r,ht,hz⟩:=I4.tuple hx;obtain⟨x1,x2,rfl,rx1,rx2⟩:=Vals.two r;show wpAny (model X.prog X.w) X.A (subscriptTail e (.Slice none none (some st) p2) (.ref a) (.ref s3.heap.objs.size)) (EP X pins σ Q) X.xe { s3 with heap:=s3.heap.push { cls:=.type "slice",data:=.fields #[.none,.none,.int (-1) t] } };refine tail_any (ops:=[.ref a,.ref s3.heap.objs.size]) ht.typeIs PyProof.Rows.slot_tuple_getitem.lookup (HT.getItem_rev2 ht (Heap.IsSliceOf.new ..) ?_) (by with_unfolding_all rfl);refine⟨.ref _,upd H3 _ (.tup [v',u]),I4.laid (t':=s3.toks) (λb o e=>a_0 _ e) (ad' _) ?_,rfl,q _ (I4.hok.fresh (ad' _))⟩;exact⟨by show 2<=sizeLine;decide,[x2,x1],.cons rx2 (.cons rx1 .nil),⟨_,a_4 _ rfl,rfl,_,rfl⟩,_,a_4 _ rfl,rfl⟩
end L2
namespace Ev
open PySem L2
structure bl' (ts ws:Xb):Prop where
 good:∀w∈ws,ct' w
 nd:(ws.map kO).Nodup
 inn:∀w∈ws,kO w∈ts.map kO
 len:ws.length<=ts.length
def WyAt(K:F__)(H:Hp)(v:V):Option (Xb)->Prop
 |none=>v=.non
 |some ws=>∃a ys,v=.ref a/\H a=some (.lst ys)/\aU' K H ys (ws.map kT)
variable{H':Hp}
theorem WyAt.same{K:F__}{H:Hp}{v:V}{o:Option (Xb)}(h:WyAt K H v o)(s:Same H H'):WyAt K H' v o:=by
 cases o with
 |none=>exact h
 |some ws=>
  obtain⟨a,ys,e,ha,t⟩:=h;exact⟨a,ys,e,s _ _ ha,t.same s⟩
abbrev Pc:=Str × Int × Option (Xb)
def PcAt(K:F__)(H:Hp)(y:V)(p:Pc):Prop:=∃t v,y=.ref t/\H t=some (.tup [.str p.1,.int p.2.1,v])/\WyAt K H v p.2.2
abbrev PcsAt(K:F__)(H:Hp)(ys:List V)(ps:List Pc):Prop:=Paired (PcAt K H) ys ps
structure bG' (ts:Xb) (p:Pc):Prop where
 nm:be' p.1=true
 w1:1<=p.2.1
 w2:p.2.1<=1000000000
 ws:∀ws,p.2.2=some ws->bl' ts ws
theorem PcAt.same{K:F__}{H:Hp}{y:V}{p:Pc}(h:PcAt K H y p)(s:Same H H'):PcAt K H' y p:=by
 obtain⟨t,v,e,ht,hv⟩:=h;exact⟨t,v,e,s _ _ ht,hv.same s⟩
def StrV(K:F__)(H:Hp)(v:V):Option Str->Prop
 |some x=>v=.str x
 |none=>∃t,TyOf K H v t/\PySem.W.kitOne K t (.type "str")=some false
def inB(ns:List Str):Option Str->Bool
 |some x=>decide (x∈ns)
 |none=>false
def tiedB(hs:Xa)(ts:Xb):Option Str->Option Str->Bool
 |some x,some y=>decide (x∈hs.map (·.1))&&(decide (y∈hs.map (·.1))&&decide (y∈near (aW' hs) (tsOf ts) x))
 |_,_=>false
theorem bO_(hs:Xa)(ts:Xb)(x y:Str):tiedB hs ts (some x) (some y)=(decide (x∈hs.map (·.1))&&(decide (y∈hs.map (·.1))&&decide (y∈near (aW' hs) (tsOf ts) x))):=rfl
section
variable{P:Ad}{w:Af}{K:F__}{mg:Str->Option Aa}{base:Heap}
inductive cS' (K:F__) (C:Addr) (vs:List V) (H:Hp) (Q:VK) (E:XK):Prop
 |mk:∀(p:Addr) (v:V) (x:Option Str) (hs:Xa) (ts:Xb) (fp:List Addr),vs=[.ref p,v]->ba' K C H p hs ts fp->StrV K H v x->Q (.bl (inB (hs.map (·.1)) x)) H->cS' K C vs H Q E
theorem hD_{f C:Addr}{fd:Ae}(F:Fun K "has_hand" "Web.has_hand" sHas f fd)(T:Txt K mg C)(B:Bi mg):FnOk P w K mg base CX0 1 f fd ["self","thing"] (cS' K C):=by
 refine F.ok scHas (λvs H Q E h=>?_) (λcdv A outer s H vs Q E hr h=>?_)
 ·obtain⟨p,v,x,hs,ts,fp,rfl,_⟩:=h;rfl
 ·obtain⟨p,v,x,hs,ts,fp,rfl,W,sv,k⟩:=h;have hu:=bi_ hr;obtain⟨dx,d1,l2,d3,zs,as,rfl,h1,h2,h3,h4,h5,h6,h7⟩:=W.ex;refine⟨_,a6_ (ae_ (b1_ (a9_ aD_ (by rfl) B.isi PyProof.Rows.Boot.«isinstance» (a0_ (pv 1) (a0_ (aN_ (v:=.ty "str") (by rfl) B.str PyProof.Rows.Boot.«str» rfl) a3_))) (bu_ (cB_ (ch_ hu (pv 1) (az_ (pv 0) rfl)))))),?_⟩;cases x with
  |some x=>
   cases (show v=.str x from sv);refine⟨_,rfl,_,_,_,_,rfl,.str x,rfl,_,rfl,iteT ?_⟩;refine⟨_,rfl,_,rfl,p,C,dx,_,_,rfl,h1,T.cl,T.nS,er_ _ _ _,d1,_,rfl,.k (k:=Sum.inr x) h2,?_⟩;rw[cI_];exact k
  |none=>
   obtain⟨t,ty,e⟩:=sv;exact⟨_,rfl,_,_,_,_,rfl,ty,e,_,rfl,iteF k⟩
inductive cn' (K:F__) (C:Addr) (vs:List V) (H:Hp) (Q:VK) (E:XK):Prop
 |mk:∀(p:Addr) (v u:V) (x y:Option Str) (hs:Xa) (ts:Xb) (fp:List Addr),vs=[.ref p,v,u]->ba' K C H p hs ts fp->(aW' hs).Nodup->StrV K H v x->StrV K H u y->Q (.bl (tiedB hs ts x y)) H->cn' K C vs H Q E
theorem gH_{f C:Addr}{fd:Ae}(F:Fun K "are_tied" "Web.are_tied" sTied f fd)(T:Txt K mg C)(cH:CalM P w K mg base C 1 "has_hand" ["self","thing"] (cS' K C)):FnOk P w K mg base CX0 2 f fd ["self","one","other"] (cn' K C):=by
 refine F.ok scTied (λvs H Q E h=>?_) (λcdv A outer s H vs Q E hr h=>?_)
 ·obtain⟨p,v,u,x,y,hs,ts,fp,rfl,_⟩:=h;rfl
 ·obtain⟨p,v,u,x,y,hs,ts,fp,rfl,W,nd,sv,su,k⟩:=h;have hu:=bi_ hr;obtain⟨dx,d1,l2,d3,zs,as,rfl,h1,h2,h3,h4,h5,h6,h7⟩:=id W.ex;have hno:(flds d1 l2 d3).lookup ("has_hand":Str)=none:=bc_ _ _ _ Z0 Z0 Z0;refine⟨_,a6_ (ae_ (b1_ (ce_ cH T.cl hr (pv 0) (a0_ (pv 1) a3_)) (b1_ (ce_ cH T.cl hr (pv 0) (a0_ (pv 2) a3_)) (bu_ (bP_ (he_ cmpS (cK' hr 0)) (pv 2) (bw_ hu (az_ (pv 0) rfl) (pv 1) (λ_ _=>rfl)) (by with_unfolding_all rfl)))))),?_⟩;refine⟨_,rfl,p,dx,_,rfl,h1,hno,_,rfl,p,v,x,hs,ts,_,rfl,W,sv,_,rfl,?_⟩;cases x with
  |none=>exact iteF k
  |some x=>
   cases (show v=.str x from sv);refine ite2 (λc=>?_) (λc=>?_)
   ·have hx:x∈hs.map (·.1):=of_decide_eq_true c;obtain⟨a,e1,ha⟩:=ie_ nd hx h6 h7;refine⟨_,rfl,p,dx,_,rfl,h1,hno,_,rfl,p,u,y,hs,ts,_,rfl,W,su,_,rfl,?_⟩;cases y with
    |none=>exact iteF k
    |some y=>
     cases (show u=.str y from su);rw[bO_,a_2 hx,Bool.true_and] at k;refine ite2 (λc2=>?_) (λc2=>?_)
     ·have hy:y∈hs.map (·.1):=of_decide_eq_true c2;rw[a_2 hy,Bool.true_and] at k;refine⟨_,rfl,_,rfl,p,C,dx,_,_,rfl,h1,T.cl,T.nN,ig_ _ _ _,_,rfl,d3,.ref a,rfl,?_,y,_,rfl,⟨a,_,rfl,.of ha,cO_ _⟩,k⟩;rw[<- e1];exact .k (k:=Sum.inr x) h5
     ·have hy:¬y∈hs.map (·.1):=λz=>c2 (a_2 z);rw[a_7 hy,Bool.false_and] at k;exact k
   ·have hx:¬x∈hs.map (·.1):=λz=>c (a_2 z);cases y with
    |none=>exact k
    |some y=>
     rw[bO_,a_7 hx,Bool.false_and] at k;exact k
theorem h7_{hs:Xa}{ts ws:Xb}(G:Good hs ts)(W:bl' ts ws){t:Str × Str}(ht:t∈tsOf ws):tiedB hs ts (some t.1) (some t.2)=true:=by
 obtain⟨x,hx,ex⟩:=by'.mp ht;obtain⟨u,hu,eu⟩:=af'.mp (W.inn x hx);have eo:ord2 u.1 u.2=t:=(e2_ eu).trans ex
 have both:t.1∈hs.map (·.1)/\t.2∈hs.map (·.1)/\ord2 t.1 t.2=t:=by
  obtain⟨g1,g2⟩:=G.tin u hu;rcases bz_ u.1 u.2 with e|e
  ·rw[<- eo,e];exact⟨g1,g2,e⟩
  ·rw[<- eo,e];exact⟨g2,g1,(c4_ _ _).trans e⟩
 obtain⟨m1,m2,m3⟩:=both;have m4:t.2∈near (aW' hs) (tsOf ts) t.1:=List.mem_filter.mpr ⟨(aC_ hs).mem_iff.mpr m2,a_2 (by rw[m3];exact by'.mpr ⟨u,hu,eo⟩)⟩;rw[bO_,a_2 m1,a_2 m2,a_2 m4];rfl
theorem b8':aT' ["web","ways","found","one","other"] ["web","ways"] (aS' sCWays):=f__
inductive ch' (K:F__) (C:Addr) (vs:List V) (H:Hp) (Q:VK) (E:XK):Prop
 |mk:∀(p:Addr) (v:V) (o:Option (Xb)) (hs:Xa) (ts:Xb) (fp:List Addr),vs=[.ref p,v]->ba' K C H p hs ts fp->Good hs ts->WyAt K H v o->(∀ws,o=some ws->bl' ts ws)->(∀v' H',Same H H'->WyAt K H' v' (o.map tsOf)->(∀a,v'=.ref a->H a=none)->Q v' H')->ch' K C vs H Q E
theorem gp_{f C:Addr}{fd:Ae}(F:Fun K "checked_ways" "checked_ways" sCWays f fd)(T:Txt K mg C)(cS:Cal P w K mg base 3 "sorted_ties" ["ties"] (bO' K))(cT:CalM P w K mg base C 2 "are_tied" ["self","one","other"] (cn' K C)):FnOk P w K mg base CX0 4 f fd ["web","ways"] (ch' K C):=by
 refine F.ok b8' (λvs H Q E h=>?_) (λcdv A outer s H vs Q E hr h=>?_)
 ·obtain⟨p,v,o,hs,ts,fp,rfl,_⟩:=h;rfl
 ·obtain⟨p,v,o,hs,ts,fp,rfl,W,G,wy,gw,k⟩:=h;have hu:=bi_ hr;have hr2:Room 2 _:=hr.mono (by decide)
  refine⟨_,a2_ (au_ (bl_ (cv_ (pv 1))) (a6_ (ae_ d0_)) ab_)
   (a2_ (ad_ (i:=2) b8'.nd rfl (Or.inl rfl) (ai_ cS hr (a0_ (pv 1) a3_)))
   (a2_ (au_ (bl_ (cv_ (pv 2))) af_ ab_)
   (a2_ (aP_ b_0 rfl (av_ (pv 2)) (co_ rfl (ah_ (aa_ (i:=3) b8'.nd rfl (Or.inl rfl)) (ah_ (aa_ (i:=4) b8'.nd rfl (Or.inl rfl)) aZ_)))
    (a6_ (au_ (aE_ (aJ_ (ce_ cT T.cl hr2 (pv 0) (a0_ (pv 3) (a0_ (pv 4) a3_))))) af_ ab_)))
   (a6_ (ae_ (pv 2)))))),?_⟩
  cases o with
  |none=>
   cases (show v=.non from wy);exact⟨_,rfl,_,rfl,iteT (k .non H (Same.refl H) rfl (λa z=>by cases z))⟩
  |some ws=>
   obtain⟨a,ys,rfl,ha,tu⟩:=wy;have Wo:=gw ws rfl;refine⟨_,rfl,_,rfl,iteF ?_⟩;refine⟨_,rfl,a,ys,ws,rfl,ha,tu,Wo.good,Wo.nd,by have:=Wo.len;have:=G.t64;omega,λl' zs H1 s1 hf hl1 tz=>?_⟩;refine⟨_,rfl,_,rfl,iteF ?_⟩;have W1:=W.same s1;obtain⟨dx,d1,l2,d3,zs0,as,rfl,h1,h2,h3,h4,h5,h6,h7⟩:=id W1.ex;have hno:(flds d1 l2 d3).lookup ("are_tied":Str)=none:=bc_ _ _ _ Z0 Z0 Z0;rw[<- b6_] at tz;refine⟨_,rfl,l',rfl,⟨_,.of hl1⟩,aH_ (K:=K) (a:=l') (xs:=zs) (λi σ H2=>∃(v3 v4:Option V),σ=[some (.ref p),some (.ref a),some (.ref l'),v3,v4]/\H2=H1) ⟨none,none,rfl,rfl⟩ (λi σ H2 _ ⟨_,_,_,e⟩=>by subst e;exact .of hl1) ?_ ?_⟩
   ·rintro i y σ H2 hy ⟨v3,v4,rfl,rfl⟩;obtain⟨t,ht,q,rfl,hq⟩:=aM_ tz hy;refine⟨q,_,rfl,.of (hpT hq),rfl,_,_,rfl,_,_,rfl,rfl,?_⟩;refine⟨_,rfl,p,dx,_,rfl,h1,hno,_,rfl,_,rfl,p,_,_,some t.1,some t.2,hs,ts,_,rfl,W1,G.nnd,rfl,rfl,_,rfl,?_⟩;rw[h7_ G Wo (ai' ht)];refine iteF ?_;exact⟨_,_,rfl,rfl⟩
   ·rintro σ H2 ⟨v3,v4,rfl,rfl⟩;exact⟨_,rfl,k (.ref l') _ s1 ⟨l',zs,rfl,hl1,tz⟩ (λc z=>by cases z;exact hf)⟩
def nrm(p:Pc):Pc:=(p.1,p.2.1,p.2.2.map tsOf)
def bH'(K:F__)(H0 H:Hp)(y:V)(p:Pc):Prop:=∃t v,y=.ref t/\H t=some (.tup [.str p.1,.int p.2.1,v])/\WyAt K H v p.2.2/\∀a,v=.ref a->H0 a=none
theorem bH'.same{K:F__}{H0 H:Hp}{y:V}{p:Pc}(h:bH' K H0 H y p)(s:Same H H'):bH' K H0 H' y p:=by
 obtain⟨t,v,e,ht,hv,hn⟩:=h;exact⟨t,v,e,s _ _ ht,hv.same s,hn⟩
theorem WyAt.up{K:F__}{H:Hp}{D:Addr}{u:HO}{v:V}{o:Option (Xb)}(h:WyAt K H v o)(n1:∀xs,H D≠some (.lst xs))(n2:∀xs,H D≠some (.tup xs)):WyAt K (upd H D u) v o:=by
 cases o with
 |none=>exact h
 |some ws=>
  obtain⟨a,ys,e,ha,t⟩:=h;exact⟨a,ys,e,by rw[a5_ (λz:a=D=>n1 ys (z▸ha))];exact ha,Paired.mapP t λy k ⟨b,z,q⟩=>⟨b,z,by rw[a5_ (λz:b=D=>n2 _ (z▸q))];exact q⟩⟩
theorem bH'.up{K:F__}{H0 H:Hp}{D:Addr}{u:HO}{y:V}{p:Pc}(h:bH' K H0 H y p)(n1:∀xs,H D≠some (.lst xs))(n2:∀xs,H D≠some (.tup xs)):bH' K H0 (upd H D u) y p:=by
 obtain⟨t,v,e,ht,hv,hn⟩:=h;exact⟨t,v,e,by rw[a5_ (λz:t=D=>n2 _ (z▸ht))];exact ht,hv.up n1 n2,hn⟩
theorem cG_{ps:List Pc}{cs:List V}(nd:(ps.map (·.1)).Nodup)(hl:cs.length=ps.length):∀{j:Nat} {q:Pc} {c:V},ps[j]? = some q->cs[j]? = some c->valV ((ps.zip cs).map λq=>((Sum.inr q.1.1:Key),q.2)) (Sum.inr q.1)=some c:=by
 induction ps generalizing cs with
 |nil=>
  intro j q c h;simp at h
 |cons p ps ih=>
  intro j q c h1 h2;cases cs with
  |nil=>cases hl
  |cons b cs=>
   rw[au'] at nd;obtain⟨n1,n2⟩:=aG'.mp nd;cases j with
   |zero=>
    have e1:p=q:=by simpa using h1
    have e2:b=c:=by simpa using h2
    subst e1 e2;exact bg_ rfl
   |succ j=>
    have h1:ps[j]? = some q:=by simpa using h1
    have h2:cs[j]? = some c:=by simpa using h2
    show valV ((Sum.inr p.1,b)::((ps.zip cs).map λq=>((Sum.inr q.1.1:Key),q.2))) (Sum.inr q.1)=_;rw[bf_ λe=>n1 (by rw[show p.1=q.1 from b_3 e];exact af'.mpr ⟨q,ai' h1,rfl⟩)];exact ih n2 (by simpa using hl) h1 h2
theorem scCPiece:aT' ["web","piece"] ["web","piece"] (aS' cA'):=f__
inductive bx' (K:F__) (C:Addr) (vs:List V) (H:Hp) (Q:VK) (E:XK):Prop
 |mk:∀(p:Addr) (y:V) (q:Pc) (hs:Xa) (ts:Xb) (fp:List Addr),vs=[.ref p,y]->ba' K C H p hs ts fp->Good hs ts->PcAt K H y q->bG' ts q->(∀y' H',Same H H'->bH' K H H' y' (nrm q)->Q y' H')->bx' K C vs H Q E
theorem fL_{f C:Addr}{fd:Ae}(F:Fun K "checked_piece" "checked_piece" cA' f fd)(B:Bi mg)(cN:Cal P w K mg base 1 "is_name" ["thing"] cp')(cW:Cal P w K mg base 2 "is_whole_within" ["thing","least","most"] b7')(cC:Cal P w K mg base 4 "checked_ways" ["web","ways"] (ch' K C)){tk:Tok}(mW:mg "MOST_WEIGHT"=some (.int 1000000000 tk)) :
  FnOk P w K mg base CX0 5 f fd ["web","piece"] (bx' K C):=by
 refine F.ok scCPiece (λvs H Q E h=>?_) (λcdv A outer s H vs Q E hr h=>?_)
 ·obtain⟨p,y,q,hs,ts,fp,rfl,_⟩:=h;rfl
 ·obtain⟨p,y,q,hs,ts,fp,rfl,W,G,⟨t,v,rfl,ht,wy⟩,gp,k⟩:=h;have hr1:Room 1 _:=hr.mono (by decide);have hr2:Room 2 _:=hr.mono (by decide)
  refine⟨_,a2_ (au_ (dO_ (aE_ (aJ_ (a9_ aD_ (by rfl) B.isi PyProof.Rows.Boot.«isinstance» (a0_ (pv 1) (a0_ (aN_ (v:=.ty "tuple") (by rfl) B.tuple PyProof.Rows.Boot.«tuple» rfl) a3_)))))
    (cd_ (ar_ fi_ (a9_ am_ (by rfl) B.len b_5 (a0_ (pv 1) a3_)) a8_ (nomark _)))).pt af_ ab_)
   (a2_ (au_ (aE_ (aJ_ (ai_ cN hr1 (a0_ (aA_ aI_ (pv 1) a8_ (λ_ _=>rfl)) a3_)))) af_ ab_)
   (a2_ (au_ (aE_ (aJ_ (ai_ cW hr2 (a0_ (aA_ aI_ (pv 1) a8_ (λ_ _=>rfl)) (a0_ a8_ (a0_ (bj_ (v:=.int 1000000000) (by rfl) mW ⟨tk,rfl⟩) a3_)))))) af_ ab_)
   (a6_ (ae_ (aL_ (a0_ (aA_ aI_ (pv 1) a8_ (λ_ _=>rfl)) (a0_ (aA_ aI_ (pv 1) a8_ (λ_ _=>rfl)) (a0_ (ai_ cC hr (a0_ (pv 0) (a0_ (aA_ aI_ (pv 1) a8_ (λ_ _=>rfl)) a3_))) a3_)))))))),?_⟩
  refine⟨_,rfl,_,_,_,_,rfl,.tup ht,rfl,_,rfl,iteF ?_⟩;refine⟨_,rfl,t,_,rfl,.inr (.of ht),rfl,_,rfl,?_⟩;refine iteNS (show V.int ((3:Nat):Int)=V.int 3 from rfl) ?_;refine⟨_,rfl,t,_,_,_,rfl,rfl,.of ht,rfl,q.1,rfl,by have:=bD_ gp.nm;omega,λH1 s1=>⟨_,rfl,?_⟩⟩;rw[gp.nm];refine iteF ?_;have ht1:=s1 _ _ ht;refine⟨_,rfl,t,_,_,_,rfl,rfl,.of ht1,rfl,q.2.1,1,1000000000,rfl,_,rfl,?_⟩;rw[a_2 gp.w1,a_2 gp.w2];refine iteF ?_;refine⟨_,rfl,t,_,_,_,rfl,rfl,.of ht1,rfl,_,rfl,t,_,_,_,rfl,rfl,.of ht1,rfl,_,rfl,_,rfl,t,_,_,_,rfl,rfl,.of ht1,rfl,p,v,q.2.2,hs,ts,fp,rfl,W.same s1,G,wy.same s1,gp.ws,λv' H2 s2 wy2 hf=>?_⟩;refine⟨by show 3<=sizeLine;decide,λt' ht'=>?_⟩;exact k (.ref t') _ (s1.trans (s2.trans (Same.new ht'))) ⟨t',v',rfl,a1_,wy2.same (Same.new ht'),λa z=>s1.free (hf a z)⟩
theorem bB':aT' ["web","pieces","found","piece","checked"] ["web","pieces"] (aS' ce'):=f__
structure Qs (ps qs:List Pc):Prop where
 nms:qs.map (·.1)=a4' (ps.map (·.1))
 mem:∀q∈qs,∃p∈ps,q=nrm p
inductive bv' (K:F__) (C:Addr) (vs:List V) (H:Hp) (Q:VK) (E:XK):Prop
 |mk:∀(p l:Addr) (ys:List V) (ps:List Pc) (hs:Xa) (ts:Xb) (fp:List Addr),vs=[.ref p,.ref l]->ba' K C H p hs ts fp->Good hs ts->H l=some (.lst ys)->PcsAt K H ys ps->(∀q∈ps,bG' ts q)->(ps.map (·.1)).Nodup->ps.length<64->(∀l' zs qs H',Same H H'->H' l'=some (.lst zs)->Paired (bH' K H H') zs qs->Qs ps qs->Q (.ref l') H')->bv' K C vs H Q E
theorem nw__{H:Hp}{a:Addr}{o:HO}(n:H a=none):Same H (upd H a o)/\upd H a o a=some o:=⟨Same.new n,a1_⟩
theorem et_{f C:Addr}{fd:Ae}(F:Fun K "checked_pieces" "checked_pieces" ce' f fd)(B:Bi mg)(cP:Cal P w K mg base 5 "checked_piece" ["web","piece"] (bx' K C)):FnOk P w K mg base CX0 6 f fd ["web","pieces"] (bv' K C):=by
 refine F.ok bB' (λvs H Q E h=>?_) (λcdv A outer s H vs Q E hr h=>?_)
 ·obtain⟨p,l,ys,ps,hs,ts,fp,rfl,_⟩:=h;rfl
 ·obtain⟨p,l,ys,ps,hs,ts,fp,rfl,W,G,hl,pc,gp,nd,h64,k⟩:=h;have hu:=bi_ hr;have sz:=b__;have le:=a_5 pc
  refine⟨_,a2_ (au_ (aE_ (aJ_ (a9_ aD_ (by rfl) B.isi PyProof.Rows.Boot.«isinstance» (a0_ (pv 1) (a0_ (aN_ (v:=.ty "list") (by rfl) B.list PyProof.Rows.Boot.«list» rfl) a3_))))) af_ ab_)
   (a2_ (ad_ (i:=2) bB'.nd rfl (Or.inr rfl) aW_)
   (a2_ (aP_ b_0 rfl (av_ (pv 1)) (aa_ (i:=3) bB'.nd rfl (Or.inl rfl))
    (a2_ (ad_ (i:=4) bB'.nd rfl (Or.inl rfl) (ai_ cP hr (a0_ (pv 0) (a0_ (pv 3) a3_))))
    (a2_ (au_ (bl_ (ch_ hu (aA_ aI_ (pv 4) a8_ (λ_ _=>rfl)) (pv 2))) af_ ab_)
    (a6_ (aY_ hu (pv 2) (aA_ aI_ (pv 4) a8_ (λ_ _=>rfl)) (pv 4) rfl)))))
   (a6_ (ae_ (aT_ ["name","found"] 1 [2] (av_ (a9_ (dB_ rfl) (by rfl) B.sorted PyProof.Rows.Boot.«sorted» (a0_ (pv 2) a3_))) (λfp s H=>aa_ (i:=0) (show (["name","found"]:List Str).Nodup by decide +kernel) rfl (Or.inl rfl)) (λfp s H=>aV_)
    (λfp s H=>bw_ hu (pv 1) (pv 0) (λ_ _=>rfl))))))),?_⟩
  refine⟨_,rfl,_,_,_,_,rfl,.lst hl,rfl,_,rfl,iteF ?_⟩;intro d hd;have s0:Same H (upd H d (.dK [])):=Same.new hd;refine⟨_,rfl,l,rfl,⟨_,.of (s0 _ _ hl)⟩,aH_ (K:=K) (a:=l) (xs:=ys) (λi σ H2=>∃(v3 v4:Option V) (cs:List V),σ=[some (.ref p),some (.ref l),some (.ref d),v3,v4]/\Same H H2/\Paired (bH' K H H2) cs ((ps.take i).map nrm)/\H2 d=some (.dK (((ps.take i).zip cs).map λq=>(Sum.inr q.1.1,q.2)))) ⟨none,none,[],rfl,s0,.nil,a1_⟩ (λi σ H2 _ ⟨_,_,_,_,s2,_⟩=>.of (s2 _ _ hl)) ?_ ?_⟩
  ·rintro i y σ H2 hy ⟨v3,v4,cs,rfl,s2,pn,hd2⟩;have hi:i<ys.length:=(ab'.mp hy).1;have hq:ps[i]? = some (ps[i]' Z1):=ac' Z1;have py:=ak_ pc i hi Z1;rw[(ab'.mp hy).2] at py;generalize ps[i]' Z1=q at hq py;refine⟨_,rfl,_,rfl,p,y,q,hs,ts,fp,rfl,W.same s2,G,py.same s2,gp q (ai' hq),λy' H3 s3 pw=>?_⟩;obtain⟨t,v,rfl,ht,wy,hf⟩:=pw;have hd3:=s3 _ _ hd2;have lc:=a_5 pn;rw[aa',ak'] at lc
   have keys:((((ps.take i).zip cs).map λq=>((Sum.inr q.1.1:Key),q.2)).map (·.1))=((ps.take i).map (·.1)).map Sum.inr:=by
    rw[ah'];have:((λx:Key × V=>x.1) ∘ λq:Pc × V=>((Sum.inr q.1.1:Key),q.2))=(λp:Pc=>(Sum.inr p.1:Key)) ∘ Prod.fst:=rfl;rw[this,<- ah',List.map_fst_zip (by rw[ak'];omega),ah'];rfl
   have nov:valV (((ps.take i).zip cs).map λq=>((Sum.inr q.1.1:Key),q.2)) (Sum.inr q.1)=none:=ao_ (by
    rw[keys];intro m;obtain⟨x,hx,e⟩:=af'.mp m;cases e;exact b2_ (g:=λp:Pc=>p.1) nd hq hx)
   refine⟨_,rfl,t,_,_,_,rfl,rfl,.of ht,rfl,_,rfl,d,_,rfl,.k (k:=Sum.inr q.1) hd3,_,rfl,?_⟩;rw[nov];refine iteF ?_;refine⟨_,rfl,_,rfl,_,rfl,t,_,_,_,rfl,rfl,.of ht,rfl,d,_,rfl,.k (k:=Sum.inr q.1) hd3 (by rw[aa',List.length_zip,ak'];omega),?_⟩;have s23:=s2.trans s3;have n1:∀xs,H3 d≠some (.lst xs):=λxs z=>by rw[hd3] at z;cases z
   have n2:∀xs,H3 d≠some (.tup xs):=λxs z=>by rw[hd3] at z;cases z
   refine⟨_,_,cs++[.ref t],rfl,λc o e=>?_,?_,?_⟩
   ·rw[a5_ (a7_ e hd)];exact s23 _ _ e
   ·rw[aE',hq,aq'];exact aF_ (Paired.mapP pn λy q h=>(h.same s3).up n1 n2) (.cons (bH'.up ⟨t,v,rfl,ht,wy,λa z=>s2.free (hf a z)⟩ n1 n2) .nil)
   ·rw[a1_,bd_ _ nov,aE',hq,List.zip_append (by rw[ak'];omega),aq'];rfl
  ·rintro σ H2 ⟨v3,v4,cs,rfl,s2,pn,hd2⟩;rw[le,ax'] at pn hd2;have lc:=a_5 pn;rw[aa'] at lc
   have keys:(((ps.zip cs).map λq=>((Sum.inr q.1.1:Key),q.2)).map (·.1))=(ps.map (·.1)).map Sum.inr:=by
    rw[ah'];have:((λx:Key × V=>x.1) ∘ λq:Pc × V=>((Sum.inr q.1.1:Key),q.2))=(λp:Pc=>(Sum.inr p.1:Key)) ∘ Prod.fst:=rfl;rw[this,<- ah',List.map_fst_zip Z1,ah'];rfl
   refine⟨_,rfl,d,_,ps.map (·.1),rfl,hd2,keys,by rw[aa'];exact h64,λls hls=>?_⟩;obtain⟨s3,hl3⟩:=nw__ (o:=.lst ((a4' (ps.map (·.1))).map V.str)) hls;refine⟨ls,rfl,⟨_,.of hl3⟩,λD hD=>?_⟩;generalize upd H2 ls (.lst ((a4' (ps.map (·.1))).map V.str))=H3 at s3 hl3 hD ⊢;have lss:(a4' (ps.map (·.1))).length=ps.length:=by rw[(aj_ _).length_eq,aa']
   refine aQ_ (own:=1) (fv:=[some (.ref d)]) (xs:=(a4' (ps.map (·.1))).map V.str) rfl gok1 (λi out H'=>∃qs:List Pc,Same H3 H'/\H' D=some (.lst out)/\Paired (bH' K H H2) out qs/\qs.map (·.1)=(a4' (ps.map (·.1))).take i/\∀q∈qs,∃p∈ps,q=nrm p) ⟨[],Same.new hD,a1_,.nil,rfl,by simp⟩ (λi out H' _ ⟨_,sm,_⟩=>.of (sm _ _ hl3)) (λzs H4 ⟨qs,s4,hD4,pq,en,mem⟩=>?_) (λi x out H' hx ⟨qs,sm,hD',pq,en,mem⟩=>?_)
   ·rw[aa',ax'] at en;exact k D zs qs H4 (s2.trans (s3.trans s4)) hD4 (Paired.mapP pq λy q h=>h.same (s3.trans s4)) ⟨en,mem⟩
   ·obtain⟨n,hn,rfl⟩:=aB_ hx;have hm:n∈ps.map (·.1):=(aj_ _).mem_iff.mp (ai' hn);obtain⟨q,hq,eq⟩:=af'.mp hm;obtain⟨j,hj,ej⟩:=aD' hq;have hqj:ps[j]? = some q:=by rw[ac' hj,ej]
    have hcj:cs[j]? = some (cs[j]' Z1):=ac' Z1;have hv:=cG_ nd lc hqj hcj;have pj:=ak_ pn j Z1 (by rw[aa'];omega);rw[List.getElem_map,ej] at pj;generalize cs[j]' Z1=c at hcj hv pj;rw[eq] at hv;have lo:=a_5 pq;have lq:=b_7 List.length en;rw[aa',ak'] at lq;have hi:i<(a4' (ps.map (·.1))).length:=(ab'.mp hn).1;refine⟨_,rfl,rfl,λNx hN=>yesT ?_⟩;refine⟨_,rfl,_,rfl,d,c,rfl,?_,out,hD',by omega,hN _ _ ⟨qs++[nrm q],ay_ sm hD,a1_,?_,?_,?_⟩⟩
    ·rw[<- hv];exact .k (k:=Sum.inr n) (sm _ _ (s3 _ _ hd2))
    ·exact aF_ pq (.cons pj .nil)
    ·rw[aq',en,aE',hn,<- eq];rfl
    ·intro q' hq';rcases ay'.mp hq' with hq'|hq'
     ·exact mem q' hq'
     ·obtain rfl:q'=nrm q:=by simpa using hq'
      exact⟨q,hq,rfl⟩
end
abbrev sGInit:Stmt:=aY' b2' 0
abbrev sGHas:Stmt:=aY' b2' 1
abbrev cI':Stmt:=aY' b2' 2
abbrev b5':Stmt:=aY' b2' 3
abbrev sGWays:Stmt:=aY' b2' 4
abbrev sGFree:Stmt:=aY' b2' 6
def gflds(p dw dy:Addr):List (Str × V):=putF "ways_by_name" (.ref dy) (putF "weight_by_name" (.ref dw) (putF "web" (.ref p) []))
theorem g12:¬(("web":Str)="weight_by_name"):=by decide +kernel
theorem g13:¬(("web":Str)="ways_by_name"):=by decide +kernel
theorem g23:¬(("weight_by_name":Str)="ways_by_name"):=by decide +kernel
theorem fM_(p dw dy:Addr):(gflds p dw dy).lookup ("web":Str)=some (.ref p):=by
 unfold gflds;rw[a4_,a_6 g13,a4_,a_6 g12,a4_,a_9 rfl]
theorem dF_(p dw dy:Addr):(gflds p dw dy).lookup ("weight_by_name":Str)=some (.ref dw):=by
 unfold gflds;rw[a4_,a_6 g23,a4_,a_9 rfl]
theorem fI_(p dw dy:Addr):(gflds p dw dy).lookup ("ways_by_name":Str)=some (.ref dy):=by
 unfold gflds;rw[a4_,a_9 rfl]
theorem aO_(p dw dy:Addr){m:Str}(h1:¬m="web")(h2:¬m="weight_by_name")(h3:¬m="ways_by_name"):(gflds p dw dy).lookup m=none:=by
 unfold gflds;rw[a4_,a_6 h3,a4_,a_6 h2,a4_,a_6 h1]
 all_goals rfl
def wKV(qs:List Pc):List (Key × V):=qs.map λq=>(Sum.inr q.1,V.int q.2.1)
def yKV(qs:List Pc)(vs:List V):List (Key × V):=(qs.zip vs).map λx=>(Sum.inr x.1.1,x.2)
theorem dW_(qs:List Pc):(wKV qs).map (·.1)=(qs.map (·.1)).map Sum.inr:=by
 unfold wKV;rw[ah',ah'];rfl
variable{qs:List Pc}
theorem gx_{vs:List V}(h:vs.length=qs.length):(yKV qs vs).map (·.1)=(qs.map (·.1)).map Sum.inr:=by
 unfold yKV;rw[ah'];have:((λx:Key × V=>x.1) ∘ λq:Pc × V=>((Sum.inr q.1.1:Key),q.2))=(λp:Pc=>(Sum.inr p.1:Key)) ∘ Prod.fst:=rfl;rw[this,<- ah',List.map_fst_zip Z1,ah'];rfl
structure aX' (K:F__) (CG CW:Addr) (H:Hp) (g p:Addr) (hs:Xa) (ts:Xb) (qs:List Pc) (fp:List Addr):Prop where
 ex:∃(dx dw dy:Addr) (vs:List V) (fpw:List Addr),H g=some (.ins CG dx (gflds p dw dy))/\ba' K CW H p hs ts fpw/\H dw=some (.dK (wKV qs))/\H dy=some (.dK (yKV qs vs))/\Paired (λv (q:Pc)=>WyAt K H v q.2.2) vs qs /\
  g∈fp/\dw∈fp/\dy∈fp/\(∀b∈fpw,b∈fp)/\∀v∈vs,∀a,v=.ref a->a∈fp
theorem bx_{α β:Type}{F G:α->β->Prop}:∀{l:List α} {m:List β},Paired F l m->(∀a∈l,∀b,F a b->G a b)->Paired G l m
 |_,_,.nil,_=>.nil
 |_,_,.cons h t,f=>.cons (f _ an' _ h) (bx_ t λa ha=>f a (ag' _ ha))
theorem WyAt.keep{K:F__}{H:Hp}{v:V}{o:Option (Xb)}(h:WyAt K H v o)(k:∀a,v=.ref a->∀u,H a=some u->H' a=some u)(kt:∀b xs,H b=some (.tup xs)->H' b=some (.tup xs)):WyAt K H' v o:=by
 cases o with
 |none=>exact h
 |some ws=>
  obtain⟨a,ys,e,ha,t⟩:=h;exact⟨a,ys,e,k a e _ ha,Paired.mapP t λy q ⟨b,z,hb⟩=>⟨b,z,kt _ _ hb⟩⟩
variable{fp:List Addr}
theorem aX'.keep{K:F__}{CG CW:Addr}{H:Hp}{g p:Addr}{hs:Xa}{ts:Xb}(G:aX' K CG CW H g p hs ts qs fp)(k:∀b∈fp,∀o,H b=some o->H' b=some o)(kt:∀b xs,H b=some (.tup xs)->H' b=some (.tup xs)):aX' K CG CW H' g p hs ts qs fp:=by
 obtain⟨dx,dw,dy,vs,fpw,h1,h2,h3,h4,h5,m1,m2,m3,m4,m5⟩:=G.ex;exact⟨dx,dw,dy,vs,fpw,k _ m1 _ h1,h2.keep (λb hb o e=>k b (m4 b hb) o e) kt,k _ m2 _ h3,k _ m3 _ h4,bx_ h5 λv hv q h=>h.keep (λa z u e=>k a (m5 v hv a z) u e) kt,m1,m2,m3,m4,m5⟩
theorem aX'.same{K:F__}{CG CW:Addr}{H:Hp}{g p:Addr}{hs:Xa}{ts:Xb}(G:aX' K CG CW H g p hs ts qs fp)(s:Same H H'):aX' K CG CW H' g p hs ts qs fp:=G.keep (λb _ o e=>s b o e) λb xs e=>s b _ e
structure TxtG (K:F__) (CG:Addr):Prop where
 cl:Cls K CG
 nW:a5' K CG "web"
 nG:a5' K CG "weight_by_name"
 nY:a5' K CG "ways_by_name"
structure InsK (K:F__) (C:Addr):Prop where
 ha:PySem.W.findIn K (.ref C) "__class__"=some (some (.builtin "object.__class__"))
 hn:PySem.W.specialIn K (.builtin "object.__class__") "__get__"=some (some (.builtin "getset_descriptor.__get__"))
 tk:PySem.W.takesIn K (.builtin "object.__class__")=some true
 mo:PySem.W.mroIn K C (.type "object")=some true
theorem gM_(K:F__)(c:Aa):PySem.W.kitOne K c c=some true:=by
 unfold PySem.W.kitOne;rw[a_9 (beq_self_eq_true c)]
theorem el_{K:F__}{H0 H:Hp}:∀{zs:List V} {qs:List Pc},Paired (bH' K H0 H) zs qs->∃vs:List V,vs.length=qs.length/\Paired (λz (x:Pc × V)=>∃t,z=.ref t/\H t=some (.tup [.str x.1.1,.int x.1.2.1,x.2])) zs (qs.zip vs)/\Paired (λv (q:Pc)=>WyAt K H v q.2.2) vs qs/\∀v∈vs,∀a,v=.ref a->H0 a=none
 |_,_,.nil=>⟨[],rfl,.nil,.nil,by simp⟩
 |_,_,.cons ⟨t,v,e,ht,wy,hn⟩ r=>by
  obtain⟨vs,h1,h2,h3,h4⟩:=el_ r;refine⟨v::vs,by simp[h1],.cons ⟨t,e,ht⟩ h2,.cons wy h3,λu hu=>?_⟩;rcases aj'.mp hu with rfl|hu
  ·exact hn
  ·exact h4 u hu
theorem e8_{K:F__}{l D:Addr}{zs:List V}{xs:List (Pc × V)}{H:Hp}{Q:VK}{σ0:St}{j:Nat}(sel:Pc × V->V)(hj:∀x:Pc × V,[some (V.str x.1.1),some (V.int x.1.2.1),some x.2][j]? = some (some (sel x)))(hσ:σ0=[none,none,none])(hl:H l=some (.lst zs))
  (pz:Paired (λz (x:Pc × V)=>∃t,z=.ref t/\H t=some (.tup [.str x.1.1,.int x.1.2.1,x.2])) zs xs) (h1000:xs.length<=1000) (hD:H D=none)
  (q:∀H' out,Same H H'->H' D=some (.lst out)->a9' K H' out (xs.map λx=>(Sum.inr x.1.1,sel x))->Q (.ref D) H') :
  c4' (Itl K l) (gTup K 3 (bZ' (bD' 0) (bZ' (bD' 1) (bZ' (bD' 2) gNil)))) tYes (tTup (cq' (tVar 0) (cq' (tVar j) tNil))) σ0 D H Q:=by
 have sz:=b__;have le:=a_5 pz;refine aQ_ (own:=3) (fv:=[]) (xs:=zs) hσ gok3 (λi out H'=>Same H H'/\H' D=some (.lst out)/\a9' K H' out ((xs.take i).map λx=>(Sum.inr x.1.1,sel x))) ⟨Same.new hD,a1_,.nil⟩ (λi out H' _ ⟨sm,_,_⟩=>.of (sm _ _ hl)) (λout H4 ⟨sm,hD4,eo⟩=>?_) (λi y out H' hy ⟨sm,hD',eo⟩=>?_)
 ·rw[le,ax'] at eo;exact q _ _ sm hD4 eo
 ·have hi:i<zs.length:=(ab'.mp hy).1;have hx:xs[i]? = some (xs[i]' Z1):=ac' Z1;obtain⟨t,et,ht⟩:=ak_ pz i hi Z1;rw[(ab'.mp hy).2] at et;subst et;generalize xs[i]' Z1=x at hx ht;have lo:=a_5 eo;rw[aa',ak'] at lo;refine⟨_,⟨t,_,_,_,rfl,.of (sm _ _ ht),rfl⟩,rfl,λNx hN=>yesT ?_⟩;refine⟨_,rfl,_,hj x,by show 2<=sizeLine;decide,λp hp=>?_⟩;have s2:=Same.new (o:=.tup [.str x.1.1,sel x]) hp;refine⟨out,s2 _ _ hD',by omega,hN _ _ ⟨ay_ (sm.trans s2) hD,a1_,?_⟩⟩;rw[ax_ _ hx];have pD:∀{b:Addr} {ys:List V},upd H' p (.tup [.str x.1.1,sel x]) b=some (.tup ys)->b≠D:=λhb=>ac_ hb (s2 _ _ hD') nofun;refine aF_ (Paired.mapP eo λy kv ⟨b,z,hb⟩=>⟨b,z,by rw[a5_ (pD (s2 _ _ hb))];exact s2 _ _ hb⟩) (.cons ⟨p,rfl,?_⟩ .nil);have hp2:upd H' p (.tup [.str x.1.1,sel x]) p=some (.tup [.str x.1.1,sel x]):=a1_;rw[a5_ (pD hp2)];exact hp2
section
variable{P:Ad}{w:Af}{K:F__}{mg:Str->Option Aa}{base:Heap}
theorem scGInit:aT' ["self","web","pieces","checked"] ["self","web","pieces"] (aS' sGInit):=f__
inductive ck' (K:F__) (CG CW:Addr) (vs:List V) (H:Hp) (Q:VK) (E:XK):Prop
 |mk:∀(g dx p l:Addr) (ys:List V) (ps:List Pc) (hs:Xa) (ts:Xb) (fpw:List Addr),vs=[.ref g,.ref p,.ref l]->H g=some (.ins CG dx [])->ba' K CW H p hs ts fpw->g∉fpw->Good hs ts->H l=some (.lst ys)->PcsAt K H ys ps->(∀q∈ps,bG' ts q)->(ps.map (·.1)).Nodup->ps.length<64->(∀qs fp H',(∀b o,H b=some o->b≠g->H' b=some o)->aX' K CG CW H' g p hs ts qs fp->Qs ps qs->(∀b∈fp,b=g∨b∈fpw∨H b=none)->Q .non H')->ck' K CG CW vs H Q E
theorem h1_{f CG CW:Addr}{fd:Ae}(F:Fun K "__init__" "Goods.__init__" sGInit f fd)(T:TxtG K CG)(TW:Txt K mg CW)(IW:InsK K CW)(B:Bi mg)(mWeb:mg "Web"=some (.ref CW))(cP:Cal P w K mg base 6 "checked_pieces" ["web","pieces"] (bv' K CW)):FnOk P w K mg base CX0 7 f fd ["self","web","pieces"] (ck' K CG CW):=by
 refine F.ok scGInit (λvs H Q E h=>?_) (λcdv A outer s H vs Q E hr h=>?_)
 ·obtain⟨g,dx,p,l,ys,ps,hs,ts,fpw,rfl,_⟩:=h;rfl
 ·obtain⟨g,dx,p,l,ys,ps,hs,ts,fpw,rfl,hg,W,gw,G,hl,pc,gp,nd,h64,k⟩:=h
  refine⟨_,a2_ (au_ (aE_ (aJ_ (a9_ fj_ (by rfl) B.isi PyProof.Rows.Boot.«isinstance» (a0_ (pv 1) (a0_ (bj_ (v:=.ref CW) (by rfl) mWeb rfl) a3_))))) af_ ab_)
   (a2_ (ad_ (i:=3) scGInit.nd rfl (Or.inl rfl) (ai_ cP hr (a0_ (pv 1) (a0_ (pv 2) a3_))))
   (a2_ (aX_ (pv 0) (pv 1) rfl)
   (a2_ (aX_ (pv 0) (aw_ (aU_ rfl) (by rfl) B.dict PyProof.Rows.Boot.«dict» (a0_ (aT_ ["name","weight","ways"] 3 [] (av_ (pv 3)) (λfp s H=>cW_ (n:=3) (ah_ (aa_ (i:=0) (show (["name","weight","ways"]:List Str).Nodup by decide +kernel) rfl (Or.inl rfl)) (ah_ (aa_ (i:=1) (show (["name","weight","ways"]:List Str).Nodup by decide +kernel) rfl (Or.inl rfl)) (ah_ (aa_ (i:=2) (show (["name","weight","ways"]:List Str).Nodup by decide +kernel) rfl (Or.inl rfl)) aZ_)))) (λfp s H=>aV_) (λfp s H=>aL_ (a0_ (pv 0) (a0_ (pv 1) a3_)))) a3_)) rfl)
   (a6_ (aX_ (pv 0) (aw_ (aU_ rfl) (by rfl) B.dict PyProof.Rows.Boot.«dict» (a0_ (aT_ ["name","weight","ways"] 3 [] (av_ (pv 3)) (λfp s H=>cW_ (n:=3) (ah_ (aa_ (i:=0) (show (["name","weight","ways"]:List Str).Nodup by decide +kernel) rfl (Or.inl rfl)) (ah_ (aa_ (i:=1) (show (["name","weight","ways"]:List Str).Nodup by decide +kernel) rfl (Or.inl rfl)) (ah_ (aa_ (i:=2) (show (["name","weight","ways"]:List Str).Nodup by decide +kernel) rfl (Or.inl rfl)) aZ_)))) (λfp s H=>aV_) (λfp s H=>aL_ (a0_ (pv 0) (a0_ (pv 2) a3_)))) a3_)) rfl))))),?_⟩
  obtain⟨dxw,d1,l2,d3,zs0,as,ef,w1,_⟩:=id W.ex;refine⟨_,rfl,_,_,_,_,rfl,.ins w1 TW.cl IW.ha IW.hn IW.tk IW.mo,gM_ _ _,_,rfl,iteF ?_⟩;refine⟨_,rfl,_,rfl,p,l,ys,ps,hs,ts,fpw,rfl,W,G,hl,pc,gp,nd,h64,λlc zs qs H1 s1 hlc pn Qq=>?_⟩;obtain⟨vs,lv,pz,wys,vnew⟩:=el_ pn;have hg1:=s1 _ _ hg
  have lq:qs.length=ps.length:=by
   have:=b_7 List.length Qq.nms;rw[aa',(aj_ _).length_eq,aa'] at this;exact this
  have qnd:(qs.map (·.1)).Nodup:=by
   rw[Qq.nms];exact (aj_ _).nodup_iff.mpr nd
  refine⟨_,rfl,_,rfl,g,CG,dx,[],rfl,hg1,T.cl,T.nW,by show 0<1000;decide,?_⟩;have up1:∀{b o},H1 b=some o->b≠g->upd H1 g (.ins CG dx (putF "web" (.ref p) [])) b=some o:=λe ne=>by rw[a5_ ne];exact e
  have hg2:upd H1 g (.ins CG dx (putF "web" (.ref p) [])) g=some (.ins CG dx (putF "web" (.ref p) [])):=a1_
  have fr1:∀{b},upd H1 g (.ins CG dx (putF "web" (.ref p) [])) b=none->H1 b=none:=λ{b} e=>by
   by_cases z:b=g
   ·rw[z,a1_] at e;cases e
   ·rw[a5_ z] at e;exact e
  generalize upd H1 g (.ins CG dx (putF "web" (.ref p) []))=H2 at up1 hg2 fr1 ⊢;have lcg:lc≠g:=ac_ hlc hg1 nofun;have pz2:Paired (λz (x:Pc × V)=>∃t,z=.ref t/\H2 t=some (.tup [.str x.1.1,.int x.1.2.1,x.2])) zs (qs.zip vs):=Paired.mapP pz λz x ⟨t,e,ht⟩=>⟨t,e,up1 ht (ac_ ht hg1 nofun)⟩;have z1000:(qs.zip vs).length<=1000:=by rw[List.length_zip];omega
  refine⟨_,rfl,lc,rfl,⟨_,.of (up1 hlc lcg)⟩,λD hD=>?_⟩;refine e8_ (λx=>.int x.1.2.1) (λx=>rfl) rfl (up1 hlc lcg) pz2 z1000 hD λH3 out s3 hD3 pa3=>?_;refine⟨D,out,_,rfl,hD3,pa3,by rw[aa'];exact z1000,λdw hdw=>?_⟩
  have ekv:((qs.zip vs).map λx:Pc × V=>((Sum.inr x.1.1:Key),V.int x.1.2.1))=wKV qs:=by
   unfold wKV;have:(λx:Pc × V=>((Sum.inr x.1.1:Key),V.int x.1.2.1))=(λq:Pc=>((Sum.inr q.1:Key),V.int q.2.1)) ∘ Prod.fst:=rfl;rw[this,<- ah',List.map_fst_zip Z1]
  have ndk:(qs.map (·.1)).map (Sum.inr:Str->Key) |>.Nodup:=by
   rw[aA',aF'];exact qnd.imp λn e=>n (b_3 e)
  rw[ekv,b5_ (by rw[dW_];exact ndk)];have s4:=Same.new (o:=.dK (wKV qs)) hdw;have hg4:=s4 _ _ (s3 _ _ hg2);refine⟨_,rfl,g,CG,dx,_,rfl,hg4,T.cl,T.nG,by show 1<1000;decide,?_⟩;have s24:=s3.trans s4;have hdw4:upd H3 dw (.dK (wKV qs)) dw=some (.dK (wKV qs)):=a1_;have dwg:dw≠g:=(a7_ (s3 _ _ hg2) hdw).symm;have fr4:∀{b},upd H3 dw (.dK (wKV qs)) b=none->H2 b=none:=λe=>s24.free e;have dwn:H2 dw=none:=s3.free hdw;generalize upd H3 dw (.dK (wKV qs))=H4 at s4 hg4 s24 hdw4 fr4 ⊢;have up5:∀{b o},H4 b=some o->b≠g->upd H4 g (.ins CG dx (putF "weight_by_name" (.ref dw) (putF "web" (.ref p) []))) b=some o:=λe ne=>by rw[a5_ ne];exact e
  have hg5:upd H4 g (.ins CG dx (putF "weight_by_name" (.ref dw) (putF "web" (.ref p) []))) g=some (.ins CG dx (putF "weight_by_name" (.ref dw) (putF "web" (.ref p) []))):=a1_
  have fr5:∀{b},upd H4 g (.ins CG dx (putF "weight_by_name" (.ref dw) (putF "web" (.ref p) []))) b=none->H4 b=none:=λ{b} e=>by
   by_cases z:b=g
   ·rw[z,a1_] at e;cases e
   ·rw[a5_ z] at e;exact e
  generalize upd H4 g (.ins CG dx (putF "weight_by_name" (.ref dw) (putF "web" (.ref p) [])))=H5 at up5 hg5 fr5 ⊢;have up15:∀{b o},H1 b=some o->b≠g->H5 b=some o:=λe ne=>up5 (s24 _ _ (up1 e ne)) ne;have pz5:Paired (λz (x:Pc × V)=>∃t,z=.ref t/\H5 t=some (.tup [.str x.1.1,.int x.1.2.1,x.2])) zs (qs.zip vs):=Paired.mapP pz λz x ⟨t,e,ht⟩=>⟨t,e,up15 ht (ac_ ht hg1 nofun)⟩;refine⟨_,rfl,lc,rfl,⟨_,.of (up15 hlc lcg)⟩,λD2 hD2=>?_⟩;refine e8_ (λx=>x.2) (λx=>rfl) rfl (up15 hlc lcg) pz5 z1000 hD2 λH6 out2 s6 hD6 pa6=>?_;refine⟨D2,out2,_,rfl,hD6,pa6,by rw[aa'];exact z1000,λdy hdy=>?_⟩;rw[show ((qs.zip vs).map λx:Pc × V=>((Sum.inr x.1.1:Key),x.2))=yKV qs vs from rfl,b5_ (by rw[gx_ lv];exact ndk)];have s7:=Same.new (o:=.dK (yKV qs vs)) hdy;have s57:=s6.trans s7;have hg7:=s57 _ _ hg5;refine⟨_,rfl,g,CG,dx,_,rfl,hg7,T.cl,T.nY,by show 2<1000;decide,?_⟩;have hdy7:upd H6 dy (.dK (yKV qs vs)) dy=some (.dK (yKV qs vs)):=a1_;have dyg:dy≠g:=(a7_ (s6 _ _ hg5) hdy).symm;have dyn:H5 dy=none:=s6.free hdy;generalize upd H6 dy (.dK (yKV qs vs))=H7 at s7 s57 hg7 hdy7 ⊢
  have fin:∀{b o},H1 b=some o->b≠g->upd H7 g (.ins CG dx (gflds p dw dy)) b=some o:=λe ne=>by
   rw[a5_ ne];exact s57 _ _ (up15 e ne)
  have tupf:∀b xs,H1 b=some (.tup xs)->upd H7 g (.ins CG dx (gflds p dw dy)) b=some (.tup xs):=λb xs e=>fin e (ac_ e hg1 nofun);have nH:∀{b},H1 b=none->H b=none:=λe=>s1.free e;refine k qs (g::dw::dy::(fpw++vs.filterMap λv=>match v with | .ref a=>some a|_=>none)) _ (λb o e ne=>fin (s1 _ _ e) ne) ⟨dx,dw,dy,vs,fpw,a1_,?_,?_,?_,?_,by simp,by simp,by simp,λb hb=>by simp[hb],λv hv a z=>?_⟩ Qq λb hb=>?_
  ·exact W.keep (λb hb o e=>fin (s1 _ _ e) (λz=>gw (z▸hb))) λb xs e=>tupf b xs (s1 _ _ e)
  ·rw[a5_ dwg];exact s57 _ _ (up5 hdw4 dwg)
  ·rw[a5_ dyg];exact hdy7
  ·exact bx_ wys λv hv q h=>h.keep (λa z u e=>fin e (λzz=>by
    subst zz;have:=vnew v hv _ z;rw[hg] at this;cases this)) λb xs e=>tupf b xs e
  ·refine ag' _ (ag' _ (ag' _ (ap' _ (aH'.mpr ⟨v,hv,?_⟩))));rw[z]
  ·simp only[aj',ay',aH'] at hb;rcases hb with rfl|rfl|rfl|hb|⟨v,hv,e⟩
   ·exact .inl rfl
   ·exact .inr (.inr (nH (fr1 dwn)))
   ·exact .inr (.inr (nH (fr1 (s24.free (fr5 dyn)))))
   ·exact .inr (.inl hb)
   ·cases v with
    |ref a=>
     cases e;exact .inr (.inr (vnew _ hv _ rfl))
    |_=>cases e
end
end Ev
namespace L2
open PySem
theorem pass1{P:Ad}{w:Af}{X:Cx}:br' (CX1 P w) X E0:=λ_ _ _ _ _ _ _ h=>by
 obtain⟨_,_,_,_,_,_,_,_,_,_,_,_,z⟩:=h;exact z.elim
end L2
namespace Ev
open PySem L2
structure CalX (P:Ad) (w:Af) (K:F__) (mg:Str->Option Aa) (base:Heap) (C:Addr) (k:Nat) (m:Str) (ps:List Str) (sp:Sp):Prop where
 ex:∃f fd,FnOk P w K mg base (CX1 P w) k f fd ps sp/\Meth K C m f/\bn' K fd ps []
theorem gV_{X:Cx}{C:Addr}{k:Nat}{m:Str}{ps:List Str}{sp:Sp}{pos apos:Pos}{o e:Expr}{es:List Expr}{ta:TE}{t:TA}{pl:Sem Bool}(c:CalX X.prog X.w X.K X.mg X.base C k m ps sp)(cl:Cls X.K C)(hr:Room k X.A)(he:PE X o ta)(ha:PA X (e::es) t)
  (hst:starEach (e::es) X.env=(false,eval e X.env)::starEach es X.env:=by rfl) (hpl:(backTo pos (starEach es X.env)).any (·.1)=false:=by rfl)
  (ht:eval (.Call (.Attribute o m apos) (e::es) [] pos) X.env=(do
   let ov <- eval o X.env
   standAt apos.atName
   let (f,first) <- holding [ov] (getMethod ov m pl)
   callWith pos f first (backTo pos (starEach (e::es) X.env)) (backToKw pos (keywordEach [] X.env))):=by rfl) :
  PE X (.Call (.Attribute o m apos) (e::es) [] pos) (cL' C m sp [] E0 ta t):=by
 obtain⟨f,fd,F,hm,b⟩:=c.ex;exact cJ_ he cl hm F hr b .nil pass1 ha hst hpl ht
theorem dN_{kvs:List (Key × V)}{ns:List Str}(h:kvs.map (·.1)=ns.map Sum.inr)(x:Str):(valV kvs (Sum.inr x)).isSome=decide (x∈ns):=by
 by_cases hx:x∈ns
 ·rw[a_2 hx];refine dp_ ?_;rw[h];exact af'.mpr ⟨x,hx,rfl⟩
 ·rw[a_7 hx,ao_]
  ·rfl
  ·rw[h];intro m;obtain⟨y,hy,e⟩:=af'.mp m;cases e;exact hx hy
variable{q:Pc}
theorem iz_{qs:List Pc}(nd:(qs.map (·.1)).Nodup)(hq:q∈qs):valV (wKV qs) (Sum.inr q.1)=some (.int q.2.1):=by
 obtain⟨j,hj,e⟩:=aD' hq;have:=cG_ (ps:=qs) (cs:=qs.map λq=>V.int q.2.1) nd (by rw[aa']) (j:=j) (q:=q) (c:=.int q.2.1) (by rw[ac' hj,e]) (by rw[am',ac' hj,e];rfl)
 have e2:((qs.zip (qs.map λq=>V.int q.2.1)).map λq=>((Sum.inr q.1.1:Key),q.2))=wKV qs:=by
  unfold wKV;rw[List.zip_map_right,ah']
  have:qs.zip qs=qs.map λq=>(q,q):=by
   clear nd hq this hj e j
   induction qs with
   |nil=>rfl
   |cons a l ih=>rw[List.zip_cons_cons,ih,au']
  rw[this,ah'];rfl
 rwa [e2] at this
theorem it_{qs:List Pc}{vs:List V}(nd:(qs.map (·.1)).Nodup){K:F__}{H:Hp}(h:Paired (λv (q:Pc)=>WyAt K H v q.2.2) vs qs)(hq:q∈qs):∃v∈vs,valV (yKV qs vs) (Sum.inr q.1)=some v/\WyAt K H v q.2.2:=by
 obtain⟨j,hj,e⟩:=aD' hq;have hl:=a_5 h;have hv:j<vs.length:=by omega
 have p:=ak_ h j hv hj;rw[e] at p;exact⟨vs[j],List.getElem_mem hv,cG_ nd Z1 (by rw[ac' hj,e]) (ac' hv),p⟩
section
variable{P:Ad}{w:Af}{K:F__}{mg:Str->Option Aa}{base:Heap}
theorem scGHas:aT' ["self","thing"] ["self","thing"] (aS' sGHas):=f__
inductive cs' (K:F__) (CG CW:Addr) (vs:List V) (H:Hp) (Q:VK) (E:XK):Prop
 |mk:∀(g p:Addr) (v:V) (x:Option Str) (hs:Xa) (ts:Xb) (qs:List Pc) (fp:List Addr),vs=[.ref g,v]->aX' K CG CW H g p hs ts qs fp->StrV K H v x->Q (.bl (inB (qs.map (·.1)) x)) H->cs' K CG CW vs H Q E
theorem hX_{f CG CW:Addr}{fd:Ae}(F:Fun K "has_piece" "Goods.has_piece" sGHas f fd)(T:TxtG K CG)(B:Bi mg):FnOk P w K mg base CX0 1 f fd ["self","thing"] (cs' K CG CW):=by
 refine F.ok scGHas (λvs H Q E h=>?_) (λcdv A outer s H vs Q E hr h=>?_)
 ·obtain⟨g,p,v,x,hs,ts,qs,fp,rfl,_⟩:=h;rfl
 ·obtain⟨g,p,v,x,hs,ts,qs,fp,rfl,G,sv,k⟩:=h;have hu:=bi_ hr;obtain⟨dx,dw,dy,vs,fpw,h1,h2,h3,h4,h5,m1,m2,m3,m4,m5⟩:=G.ex;refine⟨_,a6_ (ae_ (b1_ (a9_ aD_ (by rfl) B.isi PyProof.Rows.Boot.«isinstance» (a0_ (pv 1) (a0_ (aN_ (v:=.ty "str") (by rfl) B.str PyProof.Rows.Boot.«str» rfl) a3_))) (bu_ (cB_ (ch_ hu (pv 1) (az_ (pv 0) rfl)))))),?_⟩;cases x with
  |some x=>
   cases (show v=.str x from sv);refine⟨_,rfl,_,_,_,_,rfl,.str x,rfl,_,rfl,iteT ?_⟩;refine⟨_,rfl,_,rfl,g,CG,dx,_,_,rfl,h1,T.cl,T.nG,dF_ _ _ _,dw,_,rfl,.k (k:=Sum.inr x) h3,?_⟩;rw[dN_ (dW_ qs)];exact k
  |none=>
   obtain⟨t,ty,e⟩:=sv;exact⟨_,rfl,_,_,_,_,rfl,ty,e,_,rfl,iteF k⟩
theorem scGNames:aT' ["self"] ["self"] (aS' cI'):=f__
inductive bw' (K:F__) (CG CW:Addr) (vs:List V) (H:Hp) (Q:VK) (E:XK):Prop
 |mk:∀(g p:Addr) (hs:Xa) (ts:Xb) (qs:List Pc) (fp:List Addr),vs=[.ref g]->aX' K CG CW H g p hs ts qs fp->(∀l,H l=none->Q (.ref l) (upd H l (.lst ((qs.map (·.1)).map V.str))))->bw' K CG CW vs H Q E
theorem g9_{f CG CW:Addr}{fd:Ae}(F:Fun K "names" "Goods.names" cI' f fd)(T:TxtG K CG)(B:Bi mg):FnOk P w K mg base CX0 1 f fd ["self"] (bw' K CG CW):=by
 refine F.ok scGNames (λvs H Q E h=>?_) (λcdv A outer s H vs Q E hr h=>?_)
 ·obtain⟨g,p,hs,ts,qs,fp,rfl,_⟩:=h;rfl
 ·obtain⟨g,p,hs,ts,qs,fp,rfl,G,k⟩:=h;obtain⟨dx,dw,dy,vs,fpw,h1,h2,h3,h4,h5,m1,m2,m3,m4,m5⟩:=G.ex;refine⟨_,a6_ (ae_ (aw_ (bs_ rfl) (by rfl) B.list PyProof.Rows.Boot.«list» (a0_ (az_ (pv 0) rfl) a3_))),?_⟩;refine⟨_,rfl,g,CG,dx,_,_,rfl,h1,T.cl,T.nG,dF_ _ _ _,dw,_,rfl,.inl h3,λl hl=>?_⟩
  have e:((wKV qs).map λkv=>kV kv.1)=(qs.map (·.1)).map V.str:=by
   unfold wKV;rw[ah',ah'];rfl
  rw[e];exact k l hl
structure Ref (K:F__) (mg:Str->Option Aa) (x:Str) (C:Addr):Prop where
 mg:mg x=some (.ref C)
 ex:PySem.W.excIn K C [.type "ValueError",.type "Exception",.type "BaseException",.type "object"] "ValueError.__new__"=true
theorem scGWeight:aT' ["self","piece"] ["self","piece"] (aS' b5'):=f__
inductive bo' (K:F__) (CG CW CP:Addr) (vs:List V) (H:Hp) (Q:VK) (E:XK):Prop
 |mk:∀(g p:Addr) (v:V) (x:Option Str) (hs:Xa) (ts:Xb) (qs:List Pc) (fp:List Addr),vs=[.ref g,v]->aX' K CG CW H g p hs ts qs fp->(qs.map (·.1)).Nodup->StrV K H v x->((∃q∈qs,x=some q.1/\Q (.int q.2.1) H)∨(inB (qs.map (·.1)) x=false/\E (.ref CP) none H))->bo' K CG CW CP vs H Q E
theorem eF_{f CG CW CP:Addr}{fd:Ae}(F:Fun K "weight" "Goods.weight" b5' f fd)(T:TxtG K CG)(R:Ref K mg "NoPiece" CP)(cH:CalM P w K mg base CG 1 "has_piece" ["self","thing"] (cs' K CG CW)):FnOk P w K mg base (CX1 P w) 2 f fd ["self","piece"] (bo' K CG CW CP):=by
 refine F.okX scGWeight (λvs H Q E h=>?_) (λcdv A outer s H vs Q E hr h=>?_)
 ·obtain⟨g,p,v,x,hs,ts,qs,fp,rfl,_⟩:=h;rfl
 ·obtain⟨g,p,v,x,hs,ts,qs,fp,rfl,G,nd,sv,k⟩:=h;have hu:=bi_ hr;obtain⟨dx,dw,dy,vs,fpw,h1,h2,h3,h4,h5,m1,m2,m3,m4,m5⟩:=id G.ex;have hno:(gflds p dw dy).lookup ("has_piece":Str)=none:=aO_ _ _ _ Z0 Z0 Z0;refine⟨_,a2_ (au_ (aE_ (aJ_ (ce_ cH T.cl hr (pv 0) (a0_ (pv 1) a3_)))) (a6_ (e3_ rfl raises1 R.mg R.ex PySem.F.excBase_ValueError (by rfl) (a0_ bv_ a3_))) ab_) (a6_ (ae_ (bw_ hu (az_ (pv 0) rfl) (pv 1) (λ_ _=>rfl)))),?_⟩;refine⟨_,rfl,g,dx,_,rfl,h1,hno,_,rfl,g,p,v,x,hs,ts,qs,fp,rfl,G,sv,_,rfl,?_⟩;rcases k with⟨q,hq,rfl,k⟩|⟨hb,k⟩
  ·cases (show v=.str q.1 from sv);rw[show inB (qs.map (·.1)) (some q.1)=true from a_2 (af'.mpr ⟨q,hq,rfl⟩)];refine iteF ?_;refine⟨_,rfl,g,CG,dx,_,_,rfl,h1,T.cl,T.nG,dF_ _ _ _,_,rfl,dw,_,rfl,?_,k⟩;rw[<- iz_ nd hq];exact .k (k:=Sum.inr q.1) h3
  ·rw[hb];exact iteT ⟨by show 1<=sizeLine;decide,k⟩
theorem scGWays:aT' ["self","piece","ties"] ["self","piece"] (aS' sGWays):=f__
inductive bR' (K:F__) (CG CW CP:Addr) (vs:List V) (H:Hp) (Q:VK) (E:XK):Prop
 |mk:∀(g p:Addr) (v:V) (x:Option Str) (hs:Xa) (ts:Xb) (qs:List Pc) (fp:List Addr),vs=[.ref g,v]->aX' K CG CW H g p hs ts qs fp->(qs.map (·.1)).Nodup->StrV K H v x->((∃q∈qs,x=some q.1/\(∀ws,q.2.2=some ws->ws.length<=1000)/\∀v' H',Same H H'->WyAt K H' v' q.2.2->(∀a,v'=.ref a->H a=none)->Q v' H')∨(inB (qs.map (·.1)) x=false/\E (.ref CP) none H))->bR' K CG CW CP vs H Q E
theorem gE_{f CG CW CP:Addr}{fd:Ae}(F:Fun K "ways" "Goods.ways" sGWays f fd)(T:TxtG K CG)(R:Ref K mg "NoPiece" CP)(cH:CalM P w K mg base CG 1 "has_piece" ["self","thing"] (cs' K CG CW))(cA:Cal P w K mg base 1 "ties_anew" ["ties"] (spAnew K)):FnOk P w K mg base (CX1 P w) 2 f fd ["self","piece"] (bR' K CG CW CP):=by
 refine F.okX scGWays (λvs H Q E h=>?_) (λcdv A outer s H vs Q E hr h=>?_)
 ·obtain⟨g,p,v,x,hs,ts,qs,fp,rfl,_⟩:=h;rfl
 ·obtain⟨g,p,v,x,hs,ts,qs,fp,rfl,G,nd,sv,k⟩:=h;have hu:=bi_ hr;obtain⟨dx,dw,dy,vs,fpw,h1,h2,h3,h4,h5,m1,m2,m3,m4,m5⟩:=id G.ex;have hno:(gflds p dw dy).lookup ("has_piece":Str)=none:=aO_ _ _ _ Z0 Z0 Z0
  refine⟨_,a2_ (au_ (aE_ (aJ_ (ce_ cH T.cl hr (pv 0) (a0_ (pv 1) a3_)))) (a6_ (e3_ rfl raises1 R.mg R.ex PySem.F.excBase_ValueError (by rfl) (a0_ bv_ a3_))) ab_)
   (a2_ (ad_ (i:=2) scGWays.nd rfl (Or.inl rfl) (bw_ hu (az_ (pv 0) rfl) (pv 1) (λ_ _=>rfl)))
   (a6_ (ae_ (e4_ (bl_ (cv_ (pv 2))) d0_ (ai_ cA hr (a0_ (pv 2) a3_)))))),?_⟩
  refine⟨_,rfl,g,dx,_,rfl,h1,hno,_,rfl,g,p,v,x,hs,ts,qs,fp,rfl,G,sv,_,rfl,?_⟩;rcases k with⟨q,hq,rfl,h1000,k⟩|⟨hb,k⟩
  ·cases (show v=.str q.1 from sv);rw[show inB (qs.map (·.1)) (some q.1)=true from a_2 (af'.mpr ⟨q,hq,rfl⟩)];refine iteF ?_;obtain⟨u,hu',eu,wy⟩:=it_ nd h5 hq;refine⟨_,rfl,g,CG,dx,_,_,rfl,h1,T.cl,T.nY,fI_ _ _ _,_,rfl,dy,u,rfl,?_,?_⟩
   ·rw[<- eu];exact .k (k:=Sum.inr q.1) h4
   ·refine⟨_,rfl,_,rfl,?_⟩;cases e:q.2.2 with
    |none=>
     rw[e] at wy k;cases (show u=.non from wy);exact iteT (k .non H (Same.refl H) rfl (λa z=>by cases z))
    |some ws=>
     rw[e] at wy k;obtain⟨a,ys,rfl,ha,tu⟩:=wy;refine iteF ⟨_,rfl,a,ys,ws,rfl,ha,tu,h1000 ws e,λl' zs H' sm hf hl' tz=>k (.ref l') H' sm ⟨l',zs,rfl,hl',tz⟩ (λc z=>by cases z;exact hf)⟩
  ·rw[hb];exact iteT ⟨by show 1<=sizeLine;decide,k⟩
theorem scGFree:aT' ["self"] ["self"] (aS' sGFree):=f__
inductive ci' (K:F__) (CG CW:Addr) (vs:List V) (H:Hp) (Q:VK) (E:XK):Prop
 |mk:∀(g p:Addr) (hs:Xa) (ts:Xb) (qs:List Pc) (fp:List Addr),vs=[.ref g]->aX' K CG CW H g p hs ts qs fp->qs.length<=1000->(∀H',Same H H'->Q (.bl (qs.all λq=>q.2.2.isNone)) H')->ci' K CG CW vs H Q E
theorem h5_{f CG CW:Addr}{fd:Ae}(F:Fun K "are_free" "Goods.are_free" sGFree f fd)(T:TxtG K CG)(B:Bi mg):FnOk P w K mg base CX0 1 f fd ["self"] (ci' K CG CW):=by
 refine F.ok scGFree (λvs H Q E h=>?_) (λcdv A outer s H vs Q E hr h=>?_)
 ·obtain⟨g,p,hs,ts,qs,fp,rfl,_⟩:=h;rfl
 ·obtain⟨g,p,hs,ts,qs,fp,rfl,G,h1000,k⟩:=h;have sz:=b__;obtain⟨dx,dw,dy,vs,fpw,h1,h2,h3,h4,h5,m1,m2,m3,m4,m5⟩:=G.ex;have lv:=a_5 h5
  refine⟨_,a6_ (ae_ (a9_ (cT_ rfl) (by rfl) B.all PyProof.Rows.Boot.«all» (a0_ (fg_ (aT_ ["ties"] 1 [] (fB_ (cf_ (az_ (pv 0) rfl))) (λfp s H=>aa_ (i:=0) (show (["ties"]:List Str).Nodup by decide +kernel) rfl (Or.inl rfl)) (λfp s H=>aV_)
   (λfp s H=>cB_ (cv_ (pv 0))))) a3_))),?_⟩
  refine⟨dy,_,h4,_,rfl,g,CG,dx,_,_,rfl,h1,T.cl,T.nY,fI_ _ _ _,dy,_,rfl,h4,λv hv=>?_⟩;have s1:Same H (upd H v (a3' v dy)):=Same.new hv;refine⟨v,dy,_,rfl,a1_,s1 _ _ h4,λo D hD=>?_⟩
  have lk:(yKV qs vs).length=qs.length:=by
   unfold yKV;rw[aa',List.length_zip];omega
  let bs:List Bool:=qs.map λq=>q.2.2.isNone
  have lb:bs.length=qs.length:=aa' _;refine cN_ (own:=1) (fv:=[]) rfl gok1 qs.length (λi out H'=>Same (upd (upd H v (a3' v dy)) dy (.frz o (.dK (yKV qs vs)))) H'/\H' D=some (.lst out)/\out=(bs.take i).map V.bl) ⟨Same.new hD,a1_,rfl⟩ (λout H' ⟨sm,hD',eo⟩=>?_) (λi out H' hi ⟨sm,hD',eo⟩=>?_)
  ·have hf:=sm _ _ (show upd (upd H v (a3' v dy)) dy (.frz o (.dK (yKV qs vs))) dy=some _ from a1_);have Dd:D≠dy:=ac_ hD' hf nofun;rw[<- lb,ax'] at eo;refine⟨⟨hf,by omega⟩,o,hf,D,bs,rfl,.of ?_,?_⟩
   ·rw[a5_ Dd,hD',eo]
   ·have:=k (upd H' dy (.dK (yKV qs vs))) (λb u e=>by
     by_cases z:b=dy
     ·subst z;rw[a1_,<- h4];exact e
     ·rw[a5_ z];exact sm _ _ (by rw[a5_ z];exact s1 _ _ e))
    show Q (.bl (bs.all id)) _;rwa [show bs.all id=qs.all λq=>q.2.2.isNone by show (qs.map λq=>q.2.2.isNone).all id=_;rw[List.all_map];rfl]
  ·have hf:=sm _ _ (show upd (upd H v (a3' v dy)) dy (.frz o (.dK (yKV qs vs))) dy=some _ from a1_);refine⟨⟨hf,by omega⟩,λx H2 y=>?_⟩;obtain⟨eH,kk,hk⟩:=y;subst eH
   have ex:x=vs[i]' Z1:=by
    unfold yKV at hk;rw[am',ac' (by rw[List.length_zip];omega),List.getElem_zip] at hk;exact (Prod.mk.inj (a_8 hk)).2.symm
   have wy:=ak_ h5 i Z1 hi;rw[<- ex] at wy
   have eb:decide (x=.non)=(qs[i]).2.2.isNone:=by
    cases e:(qs[i]).2.2 with
    |none=>
     rw[e] at wy;cases (show x=.non from wy);rfl
    |some ws=>
     rw[e] at wy;obtain⟨a,ys,e2,_⟩:=wy;rw[e2];rfl
   refine⟨_,rfl,rfl,λNx hN=>yesT ?_⟩;refine⟨_,rfl,out,hD',?_,?_⟩
   ·rw[eo,aa',ak'];omega
   ·rw[eb];refine hN _ _ ⟨ay_ sm hD,a1_,?_⟩;rw[ax_ _ (show bs[i]? = some (qs[i]).2.2.isNone by show (qs.map λq=>q.2.2.isNone)[i]? = _;rw[am',ac' hi];rfl),eo]
end
end Ev
namespace L2
open PySem PySem.Spec PyProof.Rows
def c0'(w:Af)(l:List (Str × Tok × Aa)):List DictEntry:=l.map λx=>⟨hashStr w x.1,.str x.1 x.2.1,x.2.2⟩
def KDict(K:F__)(w:Af)(d:Addr)(kvs:List (Str × V)):Prop:=
 (d == sysModules)=false/\(kvs.map (·.1)).Nodup/\∃(l:List (Str × Tok × Aa)) (o:Obj) (es:Array DictEntry) (ep:Nat),K.lookup d=some o/\o.ExactDict/\o.data=.dict es ep/\es.toList=c0' w l/\Paired (λ(p:Str × V) (x:Str × Tok × Aa)=>p.1=x.1/\RelV p.2 x.2.2) kvs l
theorem di_{P:Ad}{w:Af}:∀{l:List (Str × Tok × Aa)},Pairs (aV' P w) (c0' w l) (l.map λx=>((Sum.inr x.1:Key),x.2.2))
 |[]=>.nil
 |x::l=>.cons (by_ P w x.1 x.2.1) rfl (di_ (l:=l))
variable{kvs:List (Str × V)}{l:List (Str × Tok × Aa)}
theorem ea_(h:Paired (λ(p:Str × V) (x:Str × Tok × Aa)=>p.1=x.1/\RelV p.2 x.2.2) kvs l):kvs.map (·.1)=l.map (·.1):=by
 induction h with
 |nil=>rfl
 |cons a _ ih=>rw[au',au',ih,a.1]
theorem KDict.of{P:Ad}{K:F__}{w:Af}{d:Addr}{h:Heap}(k:KDict K w d kvs)(X:K.In h):∃l:List (Str × Tok × Aa),Paired (λ(p:Str × V) (x:Str × Tok × Aa)=>p.1=x.1/\RelV p.2 x.2.2) kvs l/\h.DictOf (aV' P w) d (l.map λx=>((Sum.inr x.1:Key),x.2.2)):=by
 obtain⟨_,nd,l,o,es,ep,ho,hx,hd,he,hp⟩:=k;refine⟨l,hp,o,es,ep,X _ _ ho,hx,hd,λe m=>?_,?_,?_⟩
 ·have m:e∈c0' w l:=by
   rw[<- he];simpa using m
  obtain⟨x,_,rfl⟩:=af'.mp m;exact⟨Sum.inr x.1,by_ P w x.1 x.2.1,rfl⟩
 ·rw[he];exact di_
 ·rw[ea_ hp] at nd;rw[ah',aA',aF'];rw[aA',aF'] at nd;exact nd.imp λn e=>n (b_3 e)
theorem i0_(h:Paired (λ(p:Str × V) (x:Str × Tok × Aa)=>p.1=x.1/\RelV p.2 x.2.2) kvs l)(nd:(kvs.map (·.1)).Nodup){z:Str}{v:V}(m:(z,v)∈kvs):∃u,valueAt (l.map λx=>((Sum.inr x.1:Key),x.2.2)) (Sum.inr z)=some u/\RelV v u:=by
 unfold valueAt
 induction h with
 |nil=>cases m
 |@cons p x kvs l a _ ih=>
  rw[au'] at nd ⊢;rw[aO'];obtain⟨n1,n2⟩:=aG'.mp nd;by_cases e:x.1=z
  ·rcases aj'.mp m with m|m
   ·subst m;refine⟨x.2.2,?_,a.2⟩;simp[e]
   ·exact absurd (by rw[a.1,e];exact af'.mpr ⟨_,m,rfl⟩) n1
  ·rcases aj'.mp m with m|m
   ·subst m;exact absurd a.1.symm e
   ·have:=ih n2 m;simp[e];simpa using this
theorem eN_(h:Paired (λ(p:Str × V) (x:Str × Tok × Aa)=>p.1=x.1/\RelV p.2 x.2.2) kvs l)(z:Str):(valueAt (l.map λx=>((Sum.inr x.1:Key),x.2.2)) (Sum.inr z)).isSome=decide (z∈kvs.map (·.1)):=by
 rw[ea_ h];unfold valueAt;rw[Option.isSome_map,List.isSome_find?];rw[Bool.eq_iff_iff,List.any_eq_true,decide_eq_true_iff];constructor
 ·rintro⟨kv,hm,e⟩;obtain⟨x,hx,rfl⟩:=af'.mp hm;have e:(Sum.inr x.1:Key)=Sum.inr z:=by simpa using e
  exact af'.mpr ⟨x,hx,b_3 e⟩
 ·intro m;obtain⟨x,hx,e⟩:=af'.mp m;exact⟨_,af'.mpr ⟨x,hx,rfl⟩,by simp[e]⟩
inductive tKInR (K:F__) (w:Af) (Q:VK) (y:V) (x:V) (H2:Hp):Prop
 |mk:∀d kvs z,x=.ref d->KDict K w d kvs->y=.str z->Q (.bl (decide (z∈kvs.map (·.1)))) H2->tKInR K w Q y x H2
def tKIn(K:F__)(w:Af)(ty td:TE):TE:=λσ H Q=>ty σ H λy H1=>td σ H1 λx H2=>tKInR K w Q y x H2
variable{X:Cx}{i o:Expr}{td ty:TE}
theorem iA_(hi:PE X i ty)(ho:PE X o td):PC X .In i o (tKIn X.K X.w ty td):=by
 intro pins s σ H Q I h;refine thn (hi pins s σ H _ I h) λiv s1 ⟨y,H1,I1,ry,q1⟩=>thn (ho pins s1 σ H1 _ I1 q1) λu s2 ⟨x,H2,I2,rx,d,kvs,z,ex,kd,ey,q2⟩=>?_;subst ex;subst ey;obtain rfl:u=Value.ref d:=rx;obtain⟨l,hp,dd⟩:=kd.of (P:=X.prog) I2.kIn;refine wpAny_in_of (dy_ (k:=Sum.inr z) ry) kd.1 dd.mapOf ?_;rw[eN_ hp];exact⟨.bl _,H2,I2.tok _,rfl,q2⟩
inductive tKGetR (K:F__) (w:Af) (Q:VK) (x:V) (y:V) (H2:Hp):Prop
 |mk:∀d kvs z v,x=.ref d->KDict K w d kvs->y=.str z->(z,v)∈kvs->Q v H2->tKGetR K w Q x y H2
def tKGet(K:F__)(w:Af)(td ty:TE):TE:=λσ H Q=>td σ H λx H1=>ty σ H1 λy H2=>tKGetR K w Q x y H2
variable{pos:Pos}
theorem i4_(ho:PE X o td)(hi:PE X i ty)(hs:NoSl i):PE X (.Subscript o i pos) (tKGet X.K X.w td ty):=by
 intro pins s σ H Q I h;refine fQ_ PySem.F.slot_dict_getitem.lookup hs (thn (ho pins s σ H _ I h) λu s1 ⟨x,H1,I1,rx,q1⟩=>thn (hi pins s1 σ H1 _ I1 q1) λiv s2 ⟨y,H2,I2,ry,d,kvs,z,v,ex,kd,ey,hm,q2⟩=>?_);subst ex;subst ey;obtain rfl:u=Value.ref d:=rx;obtain⟨l,hp,dd⟩:=kd.of (P:=X.prog) I2.kIn;obtain⟨w',hw,rw'⟩:=i0_ hp kd.2.1 hm;exact⟨dd.mapOf.typeIs,wpAny_getItem_of (dy_ (k:=Sum.inr z) ry) dd.mapOf hw ⟨v,H2,I2.tok _,rw',q2⟩⟩
end L2
namespace Ev
open PySem L2
abbrev Rl:=Str × Str × Str × Option Str
def rl:List Rl:=[("least one high","least","one",some "high"),("least one fall","least","one",some "fall"),("least one calm","least","one",some "calm"),("least all high","least","all",some "high"),("least all fall","least","all",some "fall"),("least all calm","least","all",some "calm"),("below one high","below","one",some "high"),("below one fall","below","one",some "fall"),("below one calm","below","one",some "calm"),("below all high","below","all",some "high"),("below all fall","below","all",some "fall"),("below all calm","below","all",some "calm"),("shares one","shares","one",none),("shares all","shares","all",none),("turns high","turns","all",some "high"),("turns fall","turns","all",some "fall"),("turns calm","turns","all",some "calm")]
def optV:Option Str->V
 |some x=>.str x
 |none=>.non
def rnames:List Str:=rl.map (·.1)
theorem fX_:rnames.Nodup:=by decide +kernel
def rkv(as:List Addr):List (Str × V):=List.zipWith (λ(r:Rl) a=>(r.1,V.ref a)) rl as
structure cg' (K:F__) (w:Af) (mg:Str->Option Aa) (d:Addr) (as:List Addr):Prop where
 mg:mg "RULES"=some (.ref d)
 len:as.length=17
 kd:KDict K w d (rkv as)
 tup:Paired (λa (r:Rl)=>∀H,SqT K H a [.str r.2.1,.str r.2.2.1,optV r.2.2.2]) as rl
variable{as:List Addr}
theorem dq_(h:as.length=17):(rkv as).map (·.1)=rnames:=by
 have:∀(rs:List Rl) (as:List Addr),as.length=rs.length->(List.zipWith (λ(r:Rl) a=>(r.1,V.ref a)) rs as).map (·.1)=rs.map (·.1):=by
  intro rs
  induction rs with
  |nil=>intro as _;rfl
  |cons r rs ih=>
   intro as e;cases as with
   |nil=>cases e
   |cons a as=>
    rw[List.zipWith_cons_cons,au',au',ih as (by simpa using e)]
 exact this rl as h
theorem hf_{K:F__}:∀{rs:List Rl} {as:List Addr},Paired (λa (r:Rl)=>∀H,SqT K H a [.str r.2.1,.str r.2.2.1,optV r.2.2.2]) as rs->∀r∈rs,∃a,(r.1,V.ref a)∈List.zipWith (λ(r:Rl) a=>(r.1,V.ref a)) rs as/\∀H,SqT K H a [.str r.2.1,.str r.2.2.1,optV r.2.2.2]
 |_,_,.nil,r,h=>by cases h
 |r0::rs,a::as,.cons h t,r,m=>by
  rw[List.zipWith_cons_cons];rcases aj'.mp m with rfl|m
  ·exact⟨a,an',h⟩
  ·obtain⟨b,hb,hs⟩:=hf_ t r m;exact⟨b,ag' _ hb,hs⟩
theorem scIsRule:aT' ["thing"] ["thing"] (aS' cG'):=f__
def cj':Sp:=λvs H Q _=>∃r∈rl,vs=[.str r.1]/\Q (.bl true) H
variable{d f:Addr}{fd:Ae}{P:Ad}{w:Af}{K:F__}{mg:Str->Option Aa}{base:Heap}
theorem g6_(F:Fun K "is_rule" "is_rule" cG' f fd)(B:Bi mg)(R:cg' K w mg d as):FnOk P w K mg base CX0 1 f fd ["thing"] cj':=by
 refine F.ok scIsRule (λvs H Q E h=>?_) (λcdv A outer s H vs Q E hr h=>?_)
 ·obtain⟨r,hr,rfl,_⟩:=h;rfl
 ·obtain⟨r,hr',rfl,k⟩:=h;refine⟨_,a6_ (ae_ (b1_ (a9_ aD_ (by rfl) B.isi PyProof.Rows.Boot.«isinstance» (a0_ (pv 0) (a0_ (aN_ (v:=.ty "str") (by rfl) B.str PyProof.Rows.Boot.«str» rfl) a3_))) (bu_ (cB_ (iA_ (pv 0) (bj_ (v:=.ref d) (by rfl) R.mg rfl)))))),?_⟩;refine⟨_,rfl,_,_,_,_,rfl,.str r.1,rfl,_,rfl,iteT ⟨_,rfl,d,_,r.1,rfl,R.kd,rfl,?_⟩⟩;rw[dq_ R.len,show decide (r.1∈rnames)=true from a_2 (af'.mpr ⟨r,hr',rfl⟩)];exact k
theorem scWords:aT' ["rule"] ["rule"] (aS' sWords):=f__
def cF'(K:F__):Sp:=λvs H Q _=>∃r∈rl,vs=[.str r.1]/\∀a,(∀H',SqT K H' a [.str r.2.1,.str r.2.2.1,optV r.2.2.2])->Q (.ref a) H
theorem gL_(F:Fun K "checked_words" "checked_words" sWords f fd)(R:cg' K w mg d as)(cI:Cal P w K mg base 1 "is_rule" ["thing"] cj'):FnOk P w K mg base CX0 2 f fd ["rule"] (cF' K):=by
 refine F.ok scWords (λvs H Q E h=>?_) (λcdv A outer s H vs Q E hr h=>?_)
 ·obtain⟨r,hr,rfl,_⟩:=h;rfl
 ·obtain⟨r,hr',rfl,k⟩:=h;refine⟨_,a2_ (au_ (aE_ (aJ_ (ai_ cI hr (a0_ (pv 0) a3_)))) (a6_ gq_) ab_) (a6_ (ae_ (i4_ (bj_ (v:=.ref d) (by rfl) R.mg rfl) (pv 0) (λ_ _=>rfl)))),?_⟩;obtain⟨a,ha,hs⟩:=hf_ R.tup r hr';exact⟨_,rfl,r,hr',rfl,_,rfl,iteF ⟨_,rfl,d,_,r.1,.ref a,rfl,R.kd,rfl,ha,k a hs⟩⟩
end Ev
namespace L2
open PySem PySem.Spec PyProof.Rows PySem.W
variable{P:Ad}{w:Af}
theorem eU_{k:Key}{key:Aa}(h:(aV' P w).is k key=true):RelV (kV k) key:=by
 have e2:cl' k key=true:=h;rcases an_ e2 with⟨i,t,rfl,rfl⟩|⟨x,t,rfl,rfl⟩
 ·exact⟨t,rfl⟩
 ·exact⟨t,rfl⟩
def Itm(d:Addr)(o:Obj)(kvs:List (Key × V)):It:=⟨λi H=>H d=some (.frz o (.dK kvs))/\i<kvs.length,λi H y H'=>∃t k x,y=.ref t/\H t=none/\kvs[i]? = some (k,x)/\H'=upd H t (.tup [kV k,x]),λi H=>H d=some (.frz o (.dK kvs))/\kvs.length<=i⟩
variable{K:F__}{elts:List Expr}{ep kk:Nat}{es:Array DictEntry}
theorem eL_{pos:Pos}(d it:Addr)(o:Obj)(kvs:List (Key × V))(ho:o.data=.dict es ep):Turn P w K (.Tuple elts kk pos) (Itm d o kvs) [it] it (λi h=>∃ok ov,IsItemIter h it d i kvs.length ep ok ov) where
 mem:=by simp
 obj:=λi h st b hb=>by
  obtain rfl:b=it:=by simpa using hb
  obtain⟨ok,ov,q⟩:=st;exact⟨_,q,λv z=>by cases z⟩
 keep:=λi h h' st k=>by
  obtain⟨ok,ov,q⟩:=st;exact⟨ok,ov,k it Z2 _ q⟩
 item:=by
  intro X hP hw hK hc i pins s σ H E I hf st hg;subst hP hw hK;obtain⟨hd,hi⟩:=hg;obtain⟨vs,rel,dat⟩:=aS_ I hd ho;obtain⟨⟨k,x⟩,hx⟩:∃p,kvs[i]? = some p:=⟨kvs[i],by simp[hi]⟩;obtain⟨u,hu,ru⟩:=em_ rel i hx;obtain⟨ok,ov,st⟩:=st;have itl:it<s.heap.objs.size:=a_3 st;rw[rel.length] at st;refine wpAny_pyNext_items_item st dat hu λkey h' hk out ht sz kp=>?_;refine⟨_,rfl,wpAny_letOwnedTupleGo_items (s:={ s with heap:=h' }) out λh2 st2 sb=>?_⟩;have nT:s.heap.objs.size≠it:=aR' itl;have I1:Inv X pins σ (upd H s.heap.objs.size (.tup [kV k,x])) { s with heap:=h2 }:=I.turnedN (t':=s.toks) (fp:=[it]) (its:=[key,u]) (λb o hb q=>(sb.2 b (by simpa using hb)).trans (kp b o (by simpa using hb) q)) hf (ad' _) (by show 2<=sizeLine;decide) (.cons (eU_ hk) (.cons ru .nil)) ⟨⟨_,(sb.2 _ nT).trans ht,rfl,_,rfl⟩,_,(sb.2 _ nT).trans ht,rfl⟩;refine⟨.ref _,_,I1,rfl,⟨_,k,x,rfl,I.hok.fresh (ad' _),hx,rfl⟩,⟨_,_,by rw[rel.length];exact st2⟩,λb hb=>?_⟩;have e:b=it:=by simpa using hb
  rw[a5_ (λz=>nT (z.symm.trans e))];exact (hf b hb).1
 done:=by
  intro X hP hw hK hc i pins s σ H E I hf st hg;subst hP hw hK;obtain⟨hd,hi⟩:=hg;obtain⟨vs,rel,dat⟩:=aS_ I hd ho;obtain⟨f0,f1,f2,f3,f4,f5⟩:=hf it Z2;obtain⟨ok,ov,st⟩:=st;rw[rel.length] at st hi;exact wpAny_pyNext_items_end (I.ok.hd hc) st dat (by simp;omega) λh' eb=>⟨rfl,I.turned (t':=s.toks) (λb o hb e=>eb b o hb e) f0 f1 f3 f4 f5⟩
 self:=λA i s Q E st h=>by
  obtain⟨ok,ov,q⟩:=st;exact kcp_self q h
inductive iItemsR (R:It->Hp->Prop) (x:V) (H1:Hp):Prop
 |mk:∀v d kvs,x=.ref v->H1 v=some (a8' v d)->H1 d=some (.dK kvs)->(∀o,R (Itm d o kvs) (upd H1 d (.frz o (.dK kvs))))->iItemsR R x H1
def iItems(tv:TE):TI:=λσ H R=>tv σ H λx H1=>iItemsR R x H1
variable{X:Cx}{e:Expr}{tv:TE}
theorem ep_{p2:Pos}(he:PE X e tv):PI X (.Tuple elts kk p2) e (iItems tv):=by
 intro pins s σ H R I h;refine thn (he pins s σ H _ I h) λu s1 ⟨x,H1,I1,r1,v,d,kvs,ex,hv,hd,q⟩=>?_;subst ex;cases r1;obtain⟨iv,_,_⟩:=I1.hok v _ hv;obtain⟨o,ho,I2⟩:=I1.freeze hd;obtain⟨z,_,vs,rel,o',es,ep,ho',c',dt,r⟩:=dk_ I1.hok hd;rw[ho] at ho';cases ho';refine wpAny_pyIter_items (knd:=aV' X.prog X.w) (kvs:=vs) (ep:=ep) iv ⟨o,es,ho,c',dt,r⟩ ?_;refine⟨s1.heap.objs.size,[s1.heap.objs.size],_,_,_,rfl,I2.kept (t':=s1.toks) λb o e=>a_0 _ e,eL_ d _ o kvs dt,?_,λb hb=>?_,q o⟩
 ·rw[rel.length];exact⟨.none,.none,a_4 _ rfl⟩
 ·obtain rfl:b=s1.heap.objs.size:=by simpa using hb
  exact I2.fpOk (ad' _) (I2.hok.fresh (ad' _))
variable{d:Addr}{o:Obj}{kvs:List (Key × V)}{g:TG}
theorem d7_{tb:TS}{D:Ends}{σ:St}{H:Hp}(Pv:Nat->St->Hp->Prop)(h0:Pv 0 σ H)(hl:∀i σ H,i<=kvs.length->Pv i σ H->H d=some (.frz o (.dK kvs)))(hs:∀i k x σ H,kvs[i]? = some (k,x)->Pv i σ H->∀t,H t=none->g (.ref t) σ (upd H t (.tup [kV k,x])) λσ2 H2=>tb { D with nx:=Pv (i+1),ct:=Pv (i+1),bk:=D.nx } σ2 H2)(hd:∀σ H,Pv kvs.length σ H->D.nx σ H) :
  ∃W:Nat->Nat->St->Hp->Prop,(∃m,W 0 m σ H)/\∀i m σ H,W i m σ H->
   ((Itm d o kvs).stop i H/\D.nx σ H)∨((Itm d o kvs).go i H/\∃N:St->Hp->Prop,(∀σ' H',N σ' H'->∃m',m'<m/\W (i+1) m' σ' H')/\∀x H',(Itm d o kvs).yld i H x H'->g x σ H' λσ2 H2=>tb { D with nx:=N,ct:=N,bk:=D.nx } σ2 H2):=by
 refine⟨λi m σ H=>m=kvs.length - i/\i<=kvs.length/\Pv i σ H,⟨kvs.length,by simp,aC' _,h0⟩,?_⟩;rintro i m σ H ⟨rfl,hi,p⟩;have q:=hl i σ H hi p;by_cases hlt:i<kvs.length
 ·refine .inr ⟨⟨q,hlt⟩,Pv (i+1),λσ' H' p'=>⟨kvs.length - (i+1),by omega,rfl,hlt,p'⟩,λx H' y=>?_⟩;obtain⟨t,k,x,rfl,ht,hx,rfl⟩:=y;exact hs i k x σ H hx p t ht
 ·have e:i=kvs.length:=by omega
  subst e;exact .inl ⟨⟨q,ad' _⟩,hd σ H p⟩
def Itk(d:Addr)(o:Obj)(kvs:List (Key × V)):It:=⟨λi H=>H d=some (.frz o (.dK kvs))/\i<kvs.length,λi H y H'=>H'=H/\∃k x,kvs[i]? = some (k,x)/\y=kV k,λi H=>H d=some (.frz o (.dK kvs))/\kvs.length<=i⟩
variable{tg:Expr}
theorem ft_(d it:Addr)(o:Obj)(kvs:List (Key × V))(ho:o.data=.dict es ep):Turn P w K tg (Itk d o kvs) [it] it (λi h=>h.IsKeyIter it d i kvs.length ep) where
 mem:=by simp
 obj:=λi h st b hb=>by
  obtain rfl:b=it:=by simpa using hb
  obtain⟨o,e,c,d⟩:=st;exact⟨o,e,λv z=>by rw[d] at z;cases z⟩
 keep:=λi h h' st k=>st.at λo e=>k it Z2 o e
 item:=by
  intro X hP hw hK hc i pins s σ H E I hf st hg;subst hP hw hK;obtain⟨hd,hi⟩:=hg;obtain⟨vs,rel,dat⟩:=aS_ I hd ho;obtain⟨⟨k,x⟩,hx⟩:∃p,kvs[i]? = some p:=⟨kvs[i],by simp[hi]⟩;obtain⟨u,hu,ru⟩:=em_ rel i hx;obtain⟨f0,f1,f2,f3,f4,f5⟩:=hf it Z2;rw[rel.length] at st;refine wpAny_pyNext_dict_item st dat hu λkey h' hk st' sb=>?_;have I1:Inv X pins σ H { s with heap:=h' }:=I.turned (t':=s.toks) (λb o hb e=>(sb.2 b hb).trans e) f0 f1 f3 f4 f5;obtain⟨o',e,c,dd⟩:=id st';refine⟨key,rfl,eJ_ (s:={ s with heap:=h' }) e c dd (by decide) ⟨kV k,H,I1,eU_ hk,⟨rfl,k,x,hx,rfl⟩,?_,λb hb=>(hf b hb).1⟩⟩;show h'.IsKeyIter it d (i+1) kvs.length ep;rw[rel.length];exact st'
 done:=by
  intro X hP hw hK hc i pins s σ H E I hf st hg;subst hP hw hK;obtain⟨hd,hi⟩:=hg;obtain⟨vs,rel,dat⟩:=aS_ I hd ho;obtain⟨f0,f1,f2,f3,f4,f5⟩:=hf it Z2;rw[rel.length] at st hi;exact wpAny_pyNext_dict_end (I.ok.hd hc) st dat (by simp;omega) λh' eb=>⟨rfl,I.turned (t':=s.toks) (λb o hb e=>eb b o hb e) f0 f1 f3 f4 f5⟩
 self:=λ_ _ _ _ _ st h=>wpAny_pyIter_keyiter st h
inductive iKeysR (R:It->Hp->Prop) (x:V) (H1:Hp):Prop
 |mk:∀d kvs,x=.ref d->H1 d=some (.dK kvs)->(∀o,R (Itk d o kvs) (upd H1 d (.frz o (.dK kvs))))->iKeysR R x H1
def iKeys(tv:TE):TI:=λσ H R=>tv σ H λx H1=>iKeysR R x H1
theorem hU_(he:PE X e tv):PI X tg e (iKeys tv):=by
 intro pins s σ H R I h;refine thn (he pins s σ H _ I h) λu s1 ⟨x,H1,I1,r1,d,kvs,ex,hd,q⟩=>?_;subst ex;cases r1;obtain⟨o,ho,I2⟩:=I1.freeze hd;obtain⟨z,hne,vs,rel,o',es,ep,ho',c',dt,r⟩:=dk_ I1.hok hd;rw[ho] at ho';cases ho';refine wpAny_pyIter_dict (knd:=aV' X.prog X.w) (kvs:=vs) (ep:=ep) hne ⟨o,es,ho,c',dt,r⟩ ?_;refine⟨s1.heap.objs.size,[s1.heap.objs.size],_,_,_,rfl,I2.kept (t':=s1.toks) λb o e=>a_0 _ e,ft_ d _ o kvs dt,?_,λb hb=>?_,q o⟩
 ·rw[rel.length];exact⟨_,a_4 _ rfl,rfl,rfl⟩
 ·obtain rfl:b=s1.heap.objs.size:=by simpa using hb
  exact I2.fpOk (ad' _) (I2.hok.fresh (ad' _))
theorem ff_{tc:TT}{te:TE}{own:Nat}{fv:List (Option V)}{dec:V->Hp->List (Option V)->Prop}{D:Addr}{H:Hp}{Q:VK}{σ0:St}(hσ:σ0=List.replicate own none++fv)(G:GOk g own fv dec)(Pv:Nat->List V->Hp->Prop)(h0:Pv 0 [] (upd H D (.lst [])))(hl:∀i out H',i<=kvs.length->Pv i out H'->H' d=some (.frz o (.dK kvs)))(hd:∀out H',Pv kvs.length out H'->Q (.ref D) H')(hgo:∀i k x out H',kvs[i]? = some (k,x)->Pv i out H'->∃o3,dec x H' o3/\o3.length=own/\∀Nx:Hp->Prop,(∀out' H2,Pv (i+1) out' H2->Nx H2)->
   tc (o3++fv) H' λb H4=>if b=true then te (o3++fv) H4 λy H5=>∃out2,H5 D=some (.lst out2)/\out2.length<sizeLine/\Nx (upd H5 D (.lst (out2++[y]))) else Nx H4) :
  c4' (Itv d o kvs) g tc te σ0 D H Q:=by
 refine cN_ hσ G kvs.length Pv h0 (λout H' p=>⟨⟨hl _ _ _ (ad' _) p,ad' _⟩,hd out H' p⟩) λi out H' hi p=>?_;have q:=hl i out H' (Nat.le_of_lt hi) p;refine⟨⟨q,hi⟩,λx H2 y=>?_⟩;obtain⟨e,k,hx⟩:=y;subst e;exact hgo i k x out _ hx p
inductive tThawS (t:TS) (D:Ends) (σ:St) (H:Hp):Prop
 |mk:∀d kvs,H d=some (.dK kvs)->t { nx:=λσ1 H1=>∃o,H1 d=some (.frz o (.dK kvs))/\D.nx σ1 (upd H1 d (.dK kvs)),rt:=λv H1=>∃o,H1 d=some (.frz o (.dK kvs))/\D.rt v (upd H1 d (.dK kvs)) } σ H->tThawS t D σ H
theorem g2_{st:Stmt}{t:TS}(h:PS X st t):PS X st (tThawS t):=by
 intro pins s σ H D I q;obtain⟨d,kvs,hd,q⟩:=q
 have nf:∀o u,X.H₀ d≠some (.frz o u):=λo u z=>by
  have:=I.base.frzs _ _ _ z;rw[hd] at this;cases this
 refine thn (h pins s σ H _ I q) λf s' p=>?_;cases f with
 |next=>
  obtain⟨σ1,H1,I1,o,hf,q1⟩:=p;exact⟨σ1,_,I1.thaw hf nf,q1⟩
 |brk=>
  obtain⟨σ1,H1,I1,q1⟩:=p;exact False.elim q1
 |cont=>
  obtain⟨σ1,H1,I1,q1⟩:=p;exact False.elim q1
 |ret u=>
  obtain⟨v,σ1,H1,I1,r,o,hf,q1⟩:=p;exact⟨v,σ1,_,I1.thaw hf nf,r,q1⟩
inductive rDClear (x:V) (vs:List V) (H:Hp) (Q:VK):Prop
 |mk:∀d kvs,x=.ref d->vs=[]->H d=some (.dK kvs)->Q .non (upd H d (.dK []))->rDClear x vs H Q
theorem ca_:MtM X "dict.clear" rDClear:=by
 intro pins s σ H x xs v us Q I r rs h;obtain⟨d,kvs,rfl,rfl,hd,q⟩:=h;cases r;cases rs;exact hs_ I hd λs' I'=>⟨.non,_,I',rfl,q⟩
end L2
namespace Ev
open PySem L2
structure Fz (d:Addr) (o:Obj) (kvs:List (Key × V)) (H H':Hp):Prop where
 at_:H' d=some (.frz o (.dK kvs))
 sm:∀b u,b≠d->H b=some u->H' b=some u
section
variable{d:Addr}{o:Obj}{kvs:List (Key × V)}{H H' H2:Hp}
theorem Fz.start:Fz d o kvs H (upd H d (.frz o (.dK kvs))):=⟨a1_,λb u ne e=>by rw[a5_ ne];exact e⟩
theorem Fz.step(f:Fz d o kvs H H')(s:Same H' H2):Fz d o kvs H H2:=⟨s _ _ f.at_,λb u ne e=>s _ _ (f.sm b u ne e)⟩
theorem Fz.thaw(f:Fz d o kvs H H')(hd:H d=some (.dK kvs)):Same H (upd H' d (.dK kvs)):=λb u e=>by
 by_cases z:b=d
 ·subst z;rw[hd] at e;cases e;exact a1_
 ·rw[a5_ z];exact f.sm b u z e
theorem Fz.goods{K:F__}{CG CW g p:Addr}{hs:Xa}{ts:Xb}{qs:List Pc}{fp:List Addr}(f:Fz d o kvs H H')(hd:H d=some (.dK kvs))(G:aX' K CG CW H g p hs ts qs fp)(nd:d∉fp):aX' K CG CW H' g p hs ts qs fp:=
 G.keep (λb hb u e=>f.sm b u (λz=>nd (z▸hb)) e) λb xs e=>f.sm b _ (ac_ e hd nofun) e
end
def mKV(ns:List Str)(g:Str->V):List (Key × V):=ns.map λn=>(Sum.inr n,g n)
theorem cP_(ns:List Str)(g:Str->V):(mKV ns g).map (·.1)=ns.map Sum.inr:=by
 unfold mKV;rw[ah'];rfl
theorem aR_(ns:List Str)(g:Str->V):(mKV ns g).length=ns.length:=aa' _
variable{ns:List Str}{n:Str}
theorem eT_{g:Str->V}(h:n∈ns):valV (mKV ns g) (Sum.inr n)=some (g n):=by
 induction ns with
 |nil=>cases h
 |cons m ns ih=>
  by_cases e:m=n
  ·subst e;exact bg_ rfl
  ·have:valV (mKV (m::ns) g) (Sum.inr n)=valV (mKV ns g) (Sum.inr n):=bf_ λz=>e (b_3 z);rw[this];rcases aj'.mp h with z|z
   ·exact absurd z.symm e
   ·exact ih z
theorem cm_{g k:Str->V}(h:∀n∈ns,g n=k n):mKV ns g=mKV ns k:=az' λn hn=>by rw[h n hn]
variable{v:V}
theorem ht_{g:Str->V}(h:n∈ns):putK (mKV ns g) (Sum.inr n) v=mKV ns λm=>if m=n then v else g m:=by
 unfold putK;rw[a_9]
 ·unfold mKV;rw[ah'];refine az' λm _=>?_;by_cases e:m=n
  ·subst e;simp
  ·have:¬((Sum.inr m:Key)=Sum.inr n):=λz=>e (b_3 z);simp[e]
 ·refine List.any_eq_true.mpr ⟨(Sum.inr n,g n),af'.mpr ⟨n,h,rfl⟩,by simp⟩
theorem dE_{g:Str->V}(h:n∉ns):putK (mKV ns g) (Sum.inr n) v=mKV (ns++[n]) λm=>if m=n then v else g m:=by
 rw[bd_ _ (ao_ (by
  rw[cP_];intro m;obtain⟨x,hx,e⟩:=af'.mp m;exact h (b_3 e▸hx)))]
 unfold mKV;rw[aq'];congr 1
 ·refine az' λm hm=>?_;have e:¬m=n:=λz=>h (z▸hm);simp[e]
 ·simp
variable{i:Nat}
theorem hb_{g:Str->V}{k:Key}{x:V}(h:(mKV ns g)[i]? = some (k,x)):∃n,ns[i]? = some n/\k=Sum.inr n/\x=g n:=by
 unfold mKV at h;rw[am'] at h;cases e:ns[i]? with
 |none=>rw[e] at h;cases h
 |some n=>
  rw[e] at h;have h:=a_8 h;exact⟨n,rfl,(b_7 Prod.fst h).symm,(b_7 Prod.snd h).symm⟩
theorem ef_(nd:ns.Nodup)(h:ns[i]? = some n):n∉ns.take i:=by
 have q:=b2_ (g:=id) (ts:=ns) (by rw[List.map_id];exact nd) h;rwa [List.map_id] at q
theorem bR_(h:ns[i]? = some n):ns.take (i+1)=ns.take i++[n]:=by
 rw[aE',h];rfl
abbrev stF(ns:List Str)(f:Str->Str):List (Key × V):=mKV ns λn=>.str (f n)
def wOf(q:Pc):Str × Int:=(q.1,q.2.1)
def ld(f:Str->Str)(ws:Xa)(h:Str):Int:=((ws.filter λx=>decide (f x.1=h)).map (·.2)).sum
theorem hO_(f:Str->Str)(ws:Xa)(x:Str × Int)(h:Str):ld f (ws++[x]) h=if h=f x.1 then ld f ws h+x.2 else ld f ws h:=by
 unfold ld;rw[List.filter_append];by_cases e:f x.1=h
 ·rw[a_9 e.symm,aq',List.sum_append];simp[e]
 ·rw[a_6 λz=>e z.symm];simp[e]
theorem f0_:∀{l:List Int},(∀x∈l,0<=x)->0<=l.sum
 |[],_=>by simp
 |x::l,h=>by
  rw[List.sum_cons];have:=h x an';have:=f0_ (l:=l) λy hy=>h y (ag' _ hy);omega
theorem ii_{f:Str->Str}{ws:Xa}{h:Str}(p:∀x∈ws,0<=x.2):0<=ld f ws h:=f0_ λx hx=>by
 obtain⟨y,hy,rfl⟩:=af'.mp hx;exact p y (List.mem_filter.mp hy).1
def strOf(hs:Xa)(n:Str):Int:=((hs.find? λh=>decide (h.1=n)).map (·.2)).getD 0
theorem bI_{hs:Xa}(h:n∈hs.map (·.1)):(n,strOf hs n)∈hs:=by
 unfold strOf;obtain⟨x,hx,e⟩:=af'.mp h;cases q:hs.find? λh=>decide (h.1=n) with
 |none=>
  have:=List.find?_eq_none.mp q x hx;simp[e] at this
 |some y=>
  have m:=List.mem_of_find?_eq_some q;have:=List.find?_some q;have e2:y.1=n:=by simpa using this
  show (n,y.2)∈hs;rw[<- e2];exact m
def fr(a b:Int):Int × Int:=(a / (Int.gcd a b:Int),b / (Int.gcd a b:Int))
variable{a b:Int}
theorem gu_(ha:0<=a)(h:0<b):Int.gcd b (a % b)=Int.gcd a b:=by
 obtain⟨m,rfl⟩:=aB' ha;obtain⟨n,rfl⟩:=aB' (Int.le_of_lt h);rw[<- Int.natCast_emod];show Nat.gcd n (m % n)=Nat.gcd m n;rw[Nat.gcd_comm n,<- Nat.gcd_rec,Nat.gcd_comm]
section
variable{P:Ad}{w:Af}{K:F__}{mg:Str->Option Aa}{base:Heap}
theorem scGd:aT' ["one","other","rest","divisor","left"] ["one","other"] (aS' sGd):=f__
def spGd:Sp:=λvs H Q _=>∃a b:Int,vs=[.int a,.int b]/\0<=a/\0<b/\Q (.int (Int.gcd a b)) H
theorem iK_{f:Addr}{fd:Ae}(F:Fun K "greatest_divisor" "greatest_divisor" sGd f fd):FnOk P w K mg base CX0 1 f fd ["one","other"] spGd:=by
 refine F.ok scGd (λvs H Q E h=>?_) (λcdv A outer s H vs Q E hr h=>?_)
 ·obtain⟨a,b,rfl,_⟩:=h;rfl
 ·obtain⟨a,b,rfl,ha,hb,k⟩:=h;refine' ⟨_,a2_ ?s1 (a2_ ?s2 (a2_ ?s3 ?s4)),?kk⟩
  case s1=>exact ad_ (i:=2) scGd.nd rfl (Or.inl rfl) (pv 0)
  case s2=>exact ad_ (i:=3) scGd.nd rfl (Or.inl rfl) (pv 1)
  case s3=>exact gR_ b_0 (ar_ fi_ (pv 2) a8_ (nomark _)) (a2_ (ad_ (i:=4) scGd.nd rfl (Or.inl rfl) (as_ bZ_ (pv 3) (pv 2))) (a2_ (ad_ (i:=3) scGd.nd rfl (Or.inl rfl) (pv 2)) (a6_ (ad_ (i:=2) scGd.nd rfl (Or.inl rfl) (pv 4)))))
  case s4=>exact a6_ (ae_ (pv 3))
  case' kk=>skip
  refine⟨_,rfl,_,rfl,?_⟩;refine h6_ (λσ H'=>H'=H/\∃(r d:Int) (v4:Option V),σ=[some (.int a),some (.int b),some (.int r),some (.int d),v4]/\0<=r/\0<d/\Int.gcd r d=Int.gcd a b) (λσ _=>match σ with | [_,_,some (.int r),_,_]=>r.toNat|_=>0) ⟨rfl,a,b,none,rfl,ha,hb,rfl⟩ ?_ ?_
  ·rintro σ H' ⟨rfl,r,d,v4,rfl,hr0,hd,e⟩;refine⟨_,rfl,rfl,_,rfl,?_⟩;refine ite2 (λc=>?_) (λc=>?_)
   ·have hr1:0<r:=by
     have:r≠0:=by
      intro z;subst z;simp at c
     omega
    refine⟨_,rfl,_,rfl,_,_,rfl,rfl,hr1,_,rfl,_,rfl,?_⟩;have h1:=Int.emod_nonneg d (Int.ne_of_gt hr1);have h2:=Int.emod_lt_of_pos d hr1;refine⟨⟨rfl,_,_,_,rfl,h1,hr1,?_⟩,?_⟩
    ·rw[<- e,Int.gcd_comm (d % r) r,gu_ (Int.le_of_lt hd) hr1,Int.gcd_comm]
    ·show (d % r).toNat<r.toNat;omega
   ·have hr1:r=0:=by simpa using c
    subst hr1;refine⟨_,rfl,?_⟩
    have e2:(Int.gcd a b:Int)=d:=by
     rw[<- e,Int.gcd_zero_left];omega
    rw[<- e2];exact k
  ·intro σ H' Q1 Q2 hq h;obtain⟨x,e,h1,c,h2,h3⟩:=h;exact⟨x,e,h1,c,h2,hq _ _ h3⟩
end
theorem ij_(hb:0<b)(hb2:b<=1000):0<(Int.gcd a b:Int)/\(Int.gcd a b:Int)<1073741824:=by
 have h1:0<Int.gcd a b:=Int.gcd_pos_of_ne_zero_right a Z1;have h2:(Int.gcd a b:Int) ∣ b:=Int.gcd_dvd_right a b;have h3:=Int.le_of_dvd hb h2;omega
section
variable{P:Ad}{w:Af}{K:F__}{mg:Str->Option Aa}{base:Heap}
theorem scFrac:aT' ["top","below","divisor"] ["top","below"] (aS' sFrac):=f__
def spFrac:Sp:=λvs H Q _=>∃a b:Int,vs=[.int a,.int b]/\0<=a/\0<b/\b<=1000/\∀t,H t=none->Q (.ref t) (upd H t (.tup [.int (fr a b).1,.int (fr a b).2]))
theorem hN_{f:Addr}{fd:Ae}(F:Fun K "fraction_of" "fraction_of" sFrac f fd)(cG:Cal P w K mg base 1 "greatest_divisor" ["one","other"] spGd):FnOk P w K mg base CX0 2 f fd ["top","below"] spFrac:=by
 refine F.ok scFrac (λvs H Q E h=>?_) (λcdv A outer s H vs Q E hr h=>?_)
 ·obtain⟨a,b,rfl,_⟩:=h;rfl
 ·obtain⟨a,b,rfl,ha,hb,hb2,k⟩:=h;have g:=ij_ (a:=a) hb hb2;refine⟨_,a2_ (ad_ (i:=2) scFrac.nd rfl (Or.inl rfl) (ai_ cG hr (a0_ (pv 0) (a0_ (pv 1) a3_)))) (a6_ (ae_ (aL_ (a0_ (as_ b9_ (pv 0) (pv 2)) (a0_ (as_ b9_ (pv 1) (pv 2)) a3_))))),?_⟩;refine⟨_,rfl,_,rfl,a,b,rfl,ha,hb,?_⟩;exact⟨_,rfl,_,rfl,_,_,rfl,rfl,g,_,rfl,_,rfl,_,_,rfl,rfl,g,by show 2<=sizeLine;decide,k⟩
end
variable{C:Addr}
theorem ba'.has{K:F__}{H:Hp}{p:Addr}{hs:Xa}{ts:Xb}{fp:List Addr}(W:ba' K C H p hs ts fp){b:Addr}(hb:b∈fp):∃o,H b=some o:=by
 obtain⟨dx,d1,l2,d3,zs,as,rfl,h1,h2,h3,h4,h5,h6,h7⟩:=W.ex;simp only[aj'] at hb;rcases hb with rfl|rfl|rfl|rfl|hb
 ·exact⟨_,h1⟩
 ·exact⟨_,h2⟩
 ·exact⟨_,h3⟩
 ·exact⟨_,h5⟩
 ·obtain⟨i,hi,e⟩:=aD' hb;exact⟨_,h7 i ((aW' hs)[i]' Z1) b (ac' Z1) (by rw[<- e];exact ac' hi)⟩
section
variable{d d2:Addr}{o:Obj}{kvs:List (Key × V)}{H H' H1:Hp}{u:HO}
theorem Fz.start'(s:Same H H1):Fz d o kvs H (upd H1 d (.frz o (.dK kvs))):=⟨a1_,λb u ne e=>by rw[a5_ ne];exact s _ _ e⟩
theorem Fz.put(f:Fz d o kvs H H')(hn:H d2=none)(ne:d2≠d):Fz d o kvs H (upd H' d2 u):=⟨by rw[a5_ ne.symm];exact f.at_,λb u nb e=>by rw[a5_ (a7_ e hn)];exact f.sm b u nb e⟩
end
def HtOk(H:Hp)(ns:List Str)(g:Str->V)(F:Str->Int × Int):Prop:=∀h∈ns,∃t,g h=.ref t/\H t=some (.tup [.int (F h).1,.int (F h).2])
theorem HtOk.same{H H':Hp}{g:Str->V}{F:Str->Int × Int}(h:HtOk H ns g F)(s:Same H H'):HtOk H' ns g F:=λx hx=>by
 obtain⟨t,e,ht⟩:=h x hx;exact⟨t,e,s _ _ ht⟩
section
variable{P:Ad}{w:Af}{K:F__}{mg:Str->Option Aa}{base:Heap}
theorem bz':aT' ["goods","placed","hand","found","piece"] ["goods","placed"] (aS' cb'):=f__
structure cR' (K:F__) (CG CW:Addr) (H:Hp) (g p d:Addr) (hs:Xa) (ts:Xb) (qs:List Pc) (fp:List Addr) (f:Str->Str):Prop where
 G:aX' K CG CW H g p hs ts qs fp
 Gd:Good hs ts
 dfp:d∉fp
 hd:H d=some (.dK (stF (qs.map (·.1)) f))
 at_:∀n∈qs.map (·.1),f n∈hs.map (·.1)
 nd:(qs.map (·.1)).Nodup
 h64:qs.length<64
abbrev ldV(hs:Xa)(qs:List Pc)(f:Str->Str):List (Key × V):=mKV (aW' hs) λh=>.int (ld f (qs.map wOf) h)
inductive bp' (K:F__) (CG CW:Addr) (vs:List V) (H:Hp) (Q:VK) (E:XK):Prop
 |mk:∀(g p d:Addr) (hs:Xa) (ts:Xb) (qs:List Pc) (fp:List Addr) (f:Str->Str),vs=[.ref g,.ref d]->cR' K CG CW H g p d hs ts qs fp f->(∀d' H',Same H H'->H d'=none->H' d'=some (.dK (ldV hs qs f))->Q (.ref d') H')->bp' K CG CW vs H Q E
theorem ex_{f CG CW CP:Addr}{fd:Ae}(F:Fun K "loads_at" "loads_at" cb' f fd)(B:Bi mg)(T:TxtG K CG)(TW:Txt K mg CW)(cH:CalM P w K mg base CW 1 "hands" ["self"] (bX' K CW))(cW:CalX P w K mg base CG 2 "weight" ["self","piece"] (bo' K CG CW CP)) :
  FnOk P w K mg base CX0 3 f fd ["goods","placed"] (bp' K CG CW):=by
 refine F.ok bz' (λvs H Q E h=>?_) (λcdv A outer s H vs Q E hr h=>?_)
 ·obtain⟨g,p,d,hs,ts,qs,fp,f,rfl,_⟩:=h;rfl
 ·obtain⟨g,p,d,hs,ts,qs,fp,f,rfl,Pl,k⟩:=h;have hu:=bi_ hr;have sz:=b__;have hr1:Room 1 _:=hr.mono (by decide);refine' ⟨_,?r0,?kk⟩
  case' r0=>refine' a2_ ?s1 ?r1
  case s1=>exact ad_ (i:=3) bz'.nd rfl (Or.inl rfl) (aw_ (aU_ rfl) (by rfl) B.dict PyProof.Rows.Boot.«dict» (a0_ (aT_ ["hand"] 1 [] (av_ (aK_ cH TW.cl hr1 (az_ (pv 0) rfl))) (λfp s H=>aa_ (i:=0) (show (["hand"]:List Str).Nodup by decide +kernel) rfl (Or.inl rfl)) (λfp s H=>aV_) (λfp s H=>aL_ (a0_ (pv 0) (a0_ a8_ a3_)))) a3_))
  case' r1=>refine' a2_ ?s2 ?r2
  case' s2=>refine' g2_ (aP_ b_0 rfl ?i2 ?g2 (a6_ ?b2))
  case i2=>exact ep_ (c2_ (pv 1))
  case g2=>exact co_ rfl (ah_ (aa_ (i:=4) bz'.nd rfl (Or.inl rfl)) (ah_ (aa_ (i:=2) bz'.nd rfl (Or.inl rfl)) aZ_))
  case b2=>exact aY_ hu (pv 3) (pv 2) (as_ b3_ (bw_ hu (pv 3) (pv 2) (λ_ _=>rfl)) (gV_ cW T.cl hr (pv 0) (a0_ (pv 4) a3_))) rfl
  case r2=>exact a6_ (ae_ (pv 3))
  case' kk=>skip
  have nl:=Pl.Gd.nlen;have h8:=Pl.Gd.h8;obtain⟨dx,dw,dy,vs,fpw,h1,h2,h3,h4,h5,m1,m2,m3,m4,m5⟩:=id Pl.G.ex;obtain⟨dxw,d1,l2,d3,zs0,as,ef,w1,_⟩:=id h2.ex;have hnw:(flds d1 l2 d3).lookup ("hands":Str)=none:=bc_ _ _ _ Z0 Z0 Z0;refine⟨_,rfl,g,CG,dx,_,_,rfl,h1,T.cl,T.nW,fM_ _ _ _,p,dxw,_,rfl,w1,hnw,p,hs,ts,fpw,rfl,h2,λlh hlh=>?_⟩;obtain⟨s1,e1⟩:=nw__ (o:=.lst ((aW' hs).map V.str)) hlh;generalize upd H lh (.lst ((aW' hs).map V.str))=H1 at s1 e1 ⊢;refine⟨lh,rfl,⟨_,.of e1⟩,λD hD=>?_⟩;refine aQ_ (own:=1) (fv:=[]) (xs:=(aW' hs).map V.str) rfl gok1 (λi out H'=>Same H1 H'/\H' D=some (.lst out)/\a9' K H' out (mKV ((aW' hs).take i) λ_=>.int 0)) ⟨Same.new hD,a1_,.nil⟩ (λi out H' _ ⟨sm,_,_⟩=>.of (sm _ _ e1)) (λout H5 ⟨sm,hD5,pa⟩=>?_) (λi y out H' hy ⟨sm,hD',pa⟩=>?_);rotate_left 1
  ·obtain⟨n,hn,rfl⟩:=aB_ hy;have hi:i<(aW' hs).length:=(ab'.mp hn).1;refine⟨_,rfl,rfl,λNx hN=>yesT ?_⟩;refine⟨_,rfl,by show 2<=sizeLine;decide,λt ht=>?_⟩;have s5:=Same.new (o:=.tup [.str n,.int 0]) ht;have lo:=a_5 pa;rw[aR_,ak'] at lo;refine⟨out,s5 _ _ hD',by omega,hN _ _ ⟨ay_ (sm.trans s5) hD,a1_,?_⟩⟩;have ht5:upd H' t (.tup [.str n,.int 0]) t=some (.tup [.str n,.int 0]):=a1_;have pD:∀{b:Addr} {ys:List V},upd H' t (.tup [.str n,.int 0]) b=some (.tup ys)->b≠D:=λhb=>ac_ hb (s5 _ _ hD') nofun;rw[bR_ hn];show a9' K _ _ (((aW' hs).take i++[n]).map _);rw[aq'];exact aF_ (Paired.mapP pa λy kv ⟨b,z,hb⟩=>⟨b,z,by rw[a5_ (pD (s5 _ _ hb))];exact s5 _ _ hb⟩) (.cons ⟨t,rfl,by rw[a5_ (pD ht5)];exact ht5⟩ .nil)
  rw[aa',ax'] at pa;refine⟨D,out,_,rfl,hD5,pa,by rw[aR_];omega,λd2 hd2=>?_⟩
  have ndk:((mKV (aW' hs) λ_=>V.int 0).map (·.1)).Nodup:=by
   rw[cP_,aA',aF'];exact Pl.Gd.nnd.imp λn e=>n (b_3 e)
  rw[b5_ ndk];have s2:=(s1.trans sm).trans (Same.new (o:=.dK (mKV (aW' hs) λ_=>V.int 0)) hd2);have e2:upd H5 d2 (.dK (mKV (aW' hs) λ_=>V.int 0)) d2=some (.dK (mKV (aW' hs) λ_=>V.int 0)):=a1_;have n2:H d2=none:=s1.free (sm.free hd2);show tSeq _ _ _ _ (upd H5 d2 (.dK (mKV (aW' hs) λ_=>V.int 0)));generalize upd H5 d2 (.dK (mKV (aW' hs) λ_=>V.int 0))=H6 at s2 e2 ⊢;have d2d:d2≠d:=(a7_ Pl.hd n2).symm;refine⟨d,_,s2 _ _ Pl.hd,?_⟩;refine⟨_,rfl,d,_,rfl,s2 _ _ Pl.hd,λv hv=>?_⟩;obtain⟨s3,hv1⟩:=nw__ (o:=a8' v d) hv;have e3:=s3 _ _ e2;have s03:=s2.trans s3;generalize upd H6 v (a8' v d)=H7 at s3 hv1 e3 s03 ⊢;refine⟨v,d,_,rfl,hv1,s03 _ _ Pl.hd,λo=>?_⟩;refine d7_ (λi σ H'=>∃(v2 v4:Option V),σ=[some (.ref g),some (.ref d),v2,some (.ref d2),v4]/\Fz d o (stF (qs.map (·.1)) f) H H'/\H' d2=some (.dK (mKV (aW' hs) λh=>.int (ld f ((qs.take i).map wOf) h)))) ⟨none,none,rfl,Fz.start' s03,by rw[a5_ d2d];exact e3⟩ (λi σ H' _ ⟨_,_,_,z,_⟩=>z.at_) ?_ ?_
  ·rintro i ky x σ H8 hx ⟨v2,v4,rfl,fz,e8⟩ t ht;obtain⟨n,hn,rfl,rfl⟩:=hb_ hx
   have hi:i<qs.length:=by
    have:=(ab'.mp hn).1;rwa [aa'] at this
   have hq:qs[i]? = some (qs[i]'hi):=ac' hi
   have en:n=(qs[i]'hi).1:=by
    rw[am',hq] at hn;exact (a_8 hn).symm
   have fm:f n∈aW' hs:=(aC_ hs).mem_iff.mpr (Pl.at_ n (ai' hn));generalize qs[i]'hi=q at hq en;have s8:=Same.new (o:=.tup [.str n,.str (f n)]) ht;have fz2:=fz.step s8;have e9:=s8 _ _ e8;have et:upd H8 t (.tup [.str n,.str (f n)]) t=some (.tup [.str n,.str (f n)]):=a1_;show gTup _ _ _ _ _ (upd H8 t (.tup [.str n,.str (f n)])) _;generalize upd H8 t (.tup [.str n,.str (f n)])=H9 at s8 fz2 e9 et ⊢;refine⟨t,_,rfl,.of et,rfl,_,_,rfl,_,_,rfl,rfl,?_⟩;have G9:=fz2.goods Pl.hd Pl.G Pl.dfp;obtain⟨dx,dw,dy,vs,fpw,h1,h2,h3,h4,h5,m1,m2,m3,m4,m5⟩:=id G9.ex;have hno:(gflds p dw dy).lookup ("weight":Str)=none:=aO_ _ _ _ Z0 Z0 Z0;refine⟨_,rfl,_,rfl,d2,.int (ld f ((qs.take i).map wOf) (f n)),rfl,?_,_,rfl,g,dx,_,rfl,h1,hno,_,rfl,g,p,.str n,some n,hs,ts,qs,fp,rfl,G9,Pl.nd,rfl,.inl ⟨q,ai' hq,b_7 some en,?_⟩⟩
   ·rw[<- eT_ (g:=λh=>V.int (ld f ((qs.take i).map wOf) h)) fm];exact .k (k:=Sum.inr (f n)) e9
   refine⟨_,_,rfl,rfl,_,rfl,_,rfl,d2,_,rfl,.k (k:=Sum.inr (f n)) e9 (by rw[aR_];omega),?_⟩;refine⟨_,_,rfl,fz2.put n2 d2d,?_⟩;rw[a1_,ht_ fm];congr 2;refine cm_ λm _=>?_
   have e5:(qs.take (i+1)).map wOf=(qs.take i).map wOf++[wOf q]:=by
    rw[aE',hq,aq'];rfl
   rw[e5,hO_];show (if m=f n then V.int (ld f ((qs.take i).map wOf) (f n)+q.2.1) else V.int (ld f ((qs.take i).map wOf) m))=V.int (if m=f q.1 then _ else _);rw[<- en];by_cases z:m=f n
   ·rw[a_9 z,a_9 z,z];rfl
   ·rw[a_6 z,a_6 z]
  rintro σ H8 ⟨v2,v4,rfl,fz,e8⟩;refine⟨o,fz.at_,?_⟩;rw[aR_,aa',ax'] at e8;exact⟨_,rfl,k d2 _ (fz.thaw Pl.hd) n2 (by rw[a5_ d2d];exact e8)⟩
theorem bi':aT' ["goods","placed","found","hand","load"] ["goods","placed"] (aS' bF'):=f__
abbrev htF(hs:Xa)(qs:List Pc)(f:Str->Str):Str->Int × Int:=λh=>fr (ld f (qs.map wOf) h) (strOf hs h)
inductive bk' (K:F__) (CG CW:Addr) (vs:List V) (H:Hp) (Q:VK) (E:XK):Prop
 |mk:∀(g p d:Addr) (hs:Xa) (ts:Xb) (qs:List Pc) (fp:List Addr) (f:Str->Str),vs=[.ref g,.ref d]->cR' K CG CW H g p d hs ts qs fp f->(∀q∈qs,0<=q.2.1)->(∀d' gg H',Same H H'->H d'=none->H' d'=some (.dK (mKV (aW' hs) gg))->HtOk H' (aW' hs) gg (htF hs qs f)->Q (.ref d') H')->bk' K CG CW vs H Q E
theorem d4_{f CG CW:Addr}{fd:Ae}(F:Fun K "heights_at" "heights_at" bF' f fd)(T:TxtG K CG)(TW:Txt K mg CW)(cL:Cal P w K mg base 3 "loads_at" ["goods","placed"] (bp' K CG CW))(cF:Cal P w K mg base 2 "fraction_of" ["top","below"] spFrac)(cS:CalM P w K mg base CW 2 "strength" ["self","hand"] (bc' K CW)) :
  FnOk P w K mg base CX0 4 f fd ["goods","placed"] (bk' K CG CW):=by
 refine F.ok bi' (λvs H Q E h=>?_) (λcdv A outer s H vs Q E hr h=>?_)
 ·obtain⟨g,p,d,hs,ts,qs,fp,f,rfl,_⟩:=h;rfl
 ·obtain⟨g,p,d,hs,ts,qs,fp,f,rfl,Pl,wp,k⟩:=h;have hu:=bi_ hr;have sz:=b__;have hr2:Room 2 _:=hr.mono (by decide);refine' ⟨_,?r0,?kk⟩
  case' r0=>refine' a2_ ?s1 ?r1
  case s1=>exact ad_ (i:=2) bi'.nd rfl (Or.inl rfl) aW_
  case' r1=>refine' a2_ ?s2 ?r2
  case' s2=>refine' aP_ b_0 rfl ?i2 ?g2 (a6_ ?b2)
  case i2=>exact ep_ (c2_ (ai_ cL hr (a0_ (pv 0) (a0_ (pv 1) a3_))))
  case g2=>exact co_ rfl (ah_ (aa_ (i:=3) bi'.nd rfl (Or.inl rfl)) (ah_ (aa_ (i:=4) bi'.nd rfl (Or.inl rfl)) aZ_))
  case b2=>exact aY_ hu (pv 2) (pv 3) (ai_ cF hr2 (a0_ (pv 4) (a0_ (ce_ cS TW.cl hr2 (az_ (pv 0) rfl) (a0_ (pv 3) a3_)) a3_))) rfl
  case r2=>exact a6_ (ae_ (pv 2))
  case' kk=>skip
  have nl:=Pl.Gd.nlen;have h8:=Pl.Gd.h8;intro d2 hd2;obtain⟨s1,e1⟩:=nw__ (o:=.dK []) hd2;show tSeq _ _ _ _ (upd H d2 (.dK []));generalize upd H d2 (.dK [])=H1 at s1 e1 ⊢;have Pl1:cR' K CG CW H1 g p d hs ts qs fp f:=⟨Pl.G.same s1,Pl.Gd,Pl.dfp,s1 _ _ Pl.hd,Pl.at_,Pl.nd,Pl.h64⟩;refine⟨_,rfl,_,rfl,g,p,d,hs,ts,qs,fp,f,rfl,Pl1,λdl H2 s2 hdl e2=>?_⟩;refine⟨dl,_,rfl,e2,λv hv=>?_⟩;obtain⟨s3,hv1⟩:=nw__ (o:=a8' v dl) hv;have e3:=s3 _ _ e2;have s13:=s2.trans s3;generalize upd H2 v (a8' v dl)=H3 at s3 hv1 e3 s13 ⊢;have ndl:H dl=none:=s1.free hdl;have d2l:d2≠dl:=a7_ e1 hdl;refine⟨v,dl,_,rfl,hv1,e3,λo=>?_⟩;refine d7_ (λi σ H'=>∃(v3 v4:Option V) (gg:Str->V),σ=[some (.ref g),some (.ref d),some (.ref d2),v3,v4]/\Same H H'/\H' dl=some (.frz o (.dK (ldV hs qs f)))/\H' d2=some (.dK (mKV ((aW' hs).take i) gg))/\HtOk H' ((aW' hs).take i) gg (htF hs qs f)) ⟨none,none,λ_=>.non,rfl,ay_ (s1.trans s13) ndl,a1_,by rw[a5_ d2l];exact s13 _ _ e1,λx hx=>by simp at hx⟩ (λi σ H' _ ⟨_,_,_,_,_,z,_⟩=>z) ?_ ?_
  ·rintro i ky x σ H8 hx ⟨v3,v4,gg,rfl,s8,f8,e8,ho⟩ t ht;obtain⟨n,hn,rfl,rfl⟩:=hb_ hx;have hi:i<(aW' hs).length:=(ab'.mp hn).1;have nm:n∈hs.map (·.1):=(aC_ hs).mem_iff.mp (ai' hn);have sm:=bI_ nm;have sg:=Pl.Gd.hok _ sm;have ss:=Same.new (o:=.tup [.str n,.int (ld f (qs.map wOf) n)]) ht;have s9:=s8.trans ss;have e9:=ss _ _ e8;have f9:=ss _ _ f8;have ho9:=ho.same ss;have et:upd H8 t (.tup [.str n,.int (ld f (qs.map wOf) n)]) t=some (.tup [.str n,.int (ld f (qs.map wOf) n)]):=a1_;show gTup _ _ _ _ _ (upd H8 t (.tup [.str n,.int (ld f (qs.map wOf) n)])) _;generalize upd H8 t (.tup [.str n,.int (ld f (qs.map wOf) n)])=H9 at ss s9 e9 f9 ho9 et ⊢;refine⟨t,_,rfl,.of et,rfl,_,_,rfl,_,_,rfl,rfl,?_⟩;have G9:=Pl.G.same s9;obtain⟨dx,dw,dy,vs,fpw,h1,h2,h3,h4,h5,m1,m2,m3,m4,m5⟩:=id G9.ex;obtain⟨dxw,d1,l2,d3,zs0,as,ef,w1,_⟩:=id h2.ex;have hnw:(flds d1 l2 d3).lookup ("strength":Str)=none:=bc_ _ _ _ Z0 Z0 Z0;refine⟨_,rfl,_,rfl,g,CG,dx,_,_,rfl,h1,T.cl,T.nW,fM_ _ _ _,p,dxw,_,rfl,w1,hnw,_,rfl,p,n,strOf hs n,hs,ts,fpw,rfl,h2,Pl.Gd.hnd,sm,?_⟩;refine⟨_,_,rfl,ii_ (λy hy=>?_),by have:=sg.2.1;omega,sg.2.2,λt2 ht2=>?_⟩
   ·obtain⟨q,hq,rfl⟩:=af'.mp hy;exact wp q hq
   have s10:=Same.new (o:=.tup [.int (fr (ld f (qs.map wOf) n) (strOf hs n)).1,.int (fr (ld f (qs.map wOf) n) (strOf hs n)).2]) ht2;have et2:upd H9 t2 (.tup [.int (fr (ld f (qs.map wOf) n) (strOf hs n)).1,.int (fr (ld f (qs.map wOf) n) (strOf hs n)).2]) t2=some (.tup [.int (htF hs qs f n).1,.int (htF hs qs f n).2]):=a1_;generalize upd H9 t2 (.tup [.int (fr (ld f (qs.map wOf) n) (strOf hs n)).1,.int (fr (ld f (qs.map wOf) n) (strOf hs n)).2])=H10 at s10 et2 ⊢;have e10:=s10 _ _ e9;refine⟨_,rfl,_,rfl,d2,_,rfl,.k (k:=Sum.inr n) e10 (by rw[aR_,ak'];omega),?_⟩;refine⟨_,_,λm=>if m=n then .ref t2 else gg m,rfl,ay_ (s9.trans s10) hd2,by rw[a5_ d2l.symm];exact s10 _ _ f9,?_,?_⟩
   ·rw[a1_,bR_ hn,dE_ (ef_ Pl.Gd.nnd hn)]
   ·have keep:∀{b xs},H10 b=some (.tup xs)->upd H10 d2 (.dK (putK (mKV ((aW' hs).take i) gg) (Sum.inr n) (.ref t2))) b=some (.tup xs):=λe=>by
     rw[a5_ (ac_ e e10 nofun)];exact e
    intro m hm;rw[bR_ hn] at hm;by_cases z:m=n
    ·subst z;exact⟨t2,a_9 rfl,keep et2⟩
    ·rcases ay'.mp hm with hm|hm
     ·obtain⟨t3,e3,ht3⟩:=ho9 m hm;exact⟨t3,(a_6 z).trans e3,keep (s10 _ _ ht3)⟩
     ·exact absurd (by simpa using hm) z
  rintro σ H8 ⟨v3,v4,gg,rfl,s8,f8,e8,ho⟩;rw[aR_,ax'] at e8 ho;exact⟨_,rfl,k d2 gg H8 s8 hd2 e8 ho⟩
end
variable{H:Hp}{σ:St}
theorem seqG{t u:TS}{D:Ends}(R:St->Hp->Prop)(later:∀σ H,R σ H->u D σ H)(now:∀N:St->Hp->Prop,(∀σ H,R σ H->N σ H)->t { D with nx:=N } σ H):tSeq t u D σ H:=now (u D) later
theorem setG{N:St->Hp->Prop}(h:N (σ.set i (some v)) H):bD' i v σ H N:=h
structure CalC (P:Ad) (w:Af) (K:F__) (mg:Str->Option Aa) (base:Heap) (C:Addr) (k:Nat) (x:Str) (ps:List Str) (sp:Sp):Prop where
 ex:∃f fd,FnOk P w K mg base CX0 k f fd ps sp/\Mk K C f/\mg x=some (.ref C)/\bn' K fd ps []
theorem hJ_{X:Cx}{k:Nat}{x:Str}{ps:List Str}{sp:Sp}{p pos:Pos}{e:Expr}{es:List Expr}{t:TA}(c:CalC X.prog X.w X.K X.mg X.base C k x ps sp)(hr:Room (k+1) X.A)(ha:PA X (e::es) t)(hg:Gl X x:=by rfl)(hdb:(x == ("__debug__":Str))=false:=by decide)(he:starEach (e::es) X.env=(false,eval e X.env)::starEach es X.env:=by rfl)(hpl:(backTo pos (starEach es X.env)).any (·.1)=false:=by rfl):PE X (.Call (.Name x p) (e::es) [] pos) (tMake C sp [] E0 t):=by
 obtain⟨f,fd,F,M,m,b⟩:=c.ex;exact hn_ M F hr hg m b .nil pass0 ha hdb he hpl
end Ev
namespace L2
open PySem PySem.Spec PyProof.Rows PySem.W
end L2
namespace Ev
open PySem L2
theorem fG_{A:Ag}{s:Ab}{ns:List Str}{f g:Str->Str}{vb:List (Key × Aa)}(rb:KV (stF ns g) vb):∀(ms:List Str) (va:List (Key × Aa)),KV (stF ms f) va->(∀m∈ms,m∈ns)->PySem.W.KeqHits A s vb va (ms.all λn=>decide (f n=g n))
 |[],va,r,_=>by
  cases r;exact .nil
 |m::ms,va,r,h=>by
  cases r with
  |@cons _ q _ va' h1 r=>
   have hm:=h m an';obtain⟨y,hy,ry⟩:=RelO.some_of (v:=.str (g m)) (o:=valueAt vb (Sum.inr m)) (by rw[<- eT_ (g:=λn=>V.str (g n)) hm];exact rb.val _);obtain⟨k,v⟩:=q;obtain⟨e1,e2⟩:=h1;have e1:(Sum.inr m:Key)=k:=e1;subst e1;obtain⟨t,rfl⟩:=(show ∃t,v=Value.str (f m) t from e2);obtain⟨u,rfl⟩:=(show ∃t,y=Value.str (g m) t from ry);have q:=SeqAt.EqAt.str_str (A:=A) (s:=s) (f m) t (g m) u;rw[show (f m == g m)=decide (f m=g m) by by_cases z:f m=g m<;>simp[z]] at q
   exact .hit hy q (fG_ rb ms va' r λx hx=>h x (ag' _ hx))
def lcmI(a n:Int):Int:=a / (Int.gcd a n:Int) * n
variable{n:Int}
theorem i7_{a:Int}(ha:0<a)(hn:0<n):lcmI a n=(Int.lcm a n:Int):=by
 obtain⟨p,rfl⟩:=aB' (Int.le_of_lt ha);obtain⟨q,rfl⟩:=aB' (Int.le_of_lt hn);show ((p:Int) / ((Nat.gcd p q:Nat):Int)) * (q:Int)=((Nat.lcm p q:Nat):Int);rw[<- Int.natCast_ediv,<- Int.natCast_mul,Nat.div_mul_right_comm (Nat.gcd_dvd_left p q)];rfl
def lcmL(ns:List Int):Int:=ns.foldl lcmI 1
theorem dZ_:∀(ns:List Int) (a:Int),0<a->(∀n∈ns,0<n)->0<ns.foldl lcmI a/\∀x:Int,0<=x->(ns.foldl lcmI a ∣ x ↔ a ∣ x/\∀n∈ns,n ∣ x)
 |[],a,ha,_=>⟨ha,λx _=>by simp⟩
 |n::ns,a,ha,h=>by
  have hn:=h n an';have e:=i7_ ha hn
  have p:0<lcmI a n:=by
   rw[e];have:=Nat.lcm_pos (m:=a.natAbs) (n:=n.natAbs) Z1 Z1;have:0<Int.lcm a n:=this;omega
  obtain⟨h1,h2⟩:=dZ_ ns (lcmI a n) p λm hm=>h m (ag' _ hm);refine⟨h1,λx hx=>(h2 x hx).trans ?_⟩;obtain⟨z,rfl⟩:=aB' hx;rw[e,Int.natCast_dvd_natCast,Int.lcm_dvd_iff];constructor
  ·rintro⟨⟨q1,q2⟩,q3⟩
   exact⟨q1,λm hm=>by
    rcases aj'.mp hm with rfl|hm
    ·exact q2
    ·exact q3 m hm⟩
  ·rintro⟨q1,q2⟩;exact⟨⟨q1,q2 n an'⟩,λm hm=>q2 m (ag' _ hm)⟩
variable{ns:List Int}
theorem gk_(h:∀n∈ns,0<n):0<lcmL ns:=(dZ_ ns 1 (by decide) h).1
def mulOf(hs:Xa):Int:=lcmL ((aW' hs).map (strOf hs))
theorem hh_{hs:Xa}{ts:Xb}(G:Good hs ts){n:Str}(h:n∈aW' hs):1<=strOf hs n/\strOf hs n<=1000:=(G.hok _ (bI_ ((aC_ hs).mem_iff.mp h))).2
section
variable{P:Ad}{w:Af}{K:F__}{mg:Str->Option Aa}{base:Heap}
theorem scLM:aT' ["numbers","found","number"] ["numbers"] (aS' sLM):=f__
def spLM(K:F__):Sp:=λvs H Q _=>∃(l:Addr) (ns:List Int),vs=[.ref l]/\SqL K H l (ns.map V.int)/\(∀n∈ns,1<=n/\n<=1000)/\Q (.int (lcmL ns)) H
theorem gf_{i:Nat}(h:ns[i]? = some n):lcmL (ns.take (i+1))=lcmI (lcmL (ns.take i)) n:=by
 unfold lcmL;rw[aE',h,List.foldl_append];rfl
theorem dS_{i:Nat}{y:V}(h:(ns.map V.int)[i]? = some y):∃n,ns[i]? = some n/\y=.int n:=by
 rw[am'] at h;cases e:ns[i]? with
 |none=>rw[e] at h;cases h
 |some n=>rw[e] at h;exact⟨n,rfl,(a_8 h).symm⟩
theorem iN_{f:Addr}{fd:Ae}(F:Fun K "least_multiple" "least_multiple" sLM f fd)(cG:Cal P w K mg base 1 "greatest_divisor" ["one","other"] spGd):FnOk P w K mg base CX0 2 f fd ["numbers"] (spLM K):=by
 refine F.ok scLM (λvs H Q E h=>?_) (λcdv A outer s H vs Q E hr h=>?_)
 ·obtain⟨l,ns,rfl,_⟩:=h;rfl
 ·obtain⟨l,ns,rfl,hl,b,k⟩:=h;refine' ⟨_,a2_ ?s1 (a2_ ?s2 (a6_ ?s3)),?kk⟩
  case s1=>exact ad_ (i:=1) scLM.nd rfl (Or.inl rfl) a8_
  case s2=>exact aP_ b_0 rfl (av_ (pv 0)) (aa_ (i:=2) scLM.nd rfl (Or.inl rfl)) (a6_ (ad_ (i:=1) scLM.nd rfl (Or.inl rfl) (as_ cu_ (as_ b9_ (pv 1) (ai_ cG hr (a0_ (pv 1) (a0_ (pv 2) a3_)))) (pv 2))))
  case s3=>exact ae_ (pv 1)
  case' kk=>skip
  refine⟨_,rfl,l,rfl,⟨_,hl⟩,aH_ (K:=K) (a:=l) (xs:=ns.map V.int) (λi σ H'=>H'=H/\∃(v2:Option V),σ=[some (.ref l),some (.int (lcmL (ns.take i))),v2]) ⟨rfl,none,rfl⟩ (λi σ H' _ ⟨e,_⟩=>by rw[e];exact hl) ?_ ?_⟩
  ·rintro i y σ H' hy ⟨rfl,v2,rfl⟩;obtain⟨n,hn,rfl⟩:=dS_ hy;have bn:=b n (ai' hn)
   have p:=gk_ (ns:=ns.take i) λm hm=>by
    have:=b m (List.take_subset _ _ hm);omega
   refine⟨_,rfl,_,rfl,_,rfl,_,_,rfl,Int.le_of_lt p,by omega,_,_,rfl,rfl,ij_ Z1 bn.2,_,rfl,_,_,rfl,rfl,.inr ⟨by omega,by omega⟩,rfl,some (.int n),?_⟩;rw[gf_ hn];rfl
  ·rintro σ H' ⟨rfl,v2,rfl⟩;refine⟨_,rfl,?_⟩;rw[aa',ax'];exact k
theorem scMult:aT' ["web"] ["web"] (aS' sMult):=f__
inductive cW' (K:F__) (C:Addr) (vs:List V) (H:Hp) (Q:VK) (E:XK):Prop
 |mk:∀(p:Addr) (hs:Xa) (ts:Xb) (fp:List Addr),vs=[.ref p]->ba' K C H p hs ts fp->Good hs ts->(∀H',Same H H'->Q (.int (mulOf hs)) H')->cW' K C vs H Q E
theorem i2_{f CW:Addr}{fd:Ae}(F:Fun K "multiple_of_strengths" "multiple_of_strengths" sMult f fd)(TW:Txt K mg CW)(cL:Cal P w K mg base 2 "least_multiple" ["numbers"] (spLM K))(cH:CalM P w K mg base CW 1 "hands" ["self"] (bX' K CW))(cS:CalM P w K mg base CW 2 "strength" ["self","hand"] (bc' K CW)):FnOk P w K mg base CX0 3 f fd ["web"] (cW' K CW):=by
 refine F.ok scMult (λvs H Q E h=>?_) (λcdv A outer s H vs Q E hr h=>?_)
 ·obtain⟨p,hs,ts,fp,rfl,_⟩:=h;rfl
 ·obtain⟨p,hs,ts,fp,rfl,W,G,k⟩:=h;have sz:=b__;have nl:=G.nlen;have h8:=G.h8;refine' ⟨_,a6_ (ae_ (ai_ cL hr (a0_ (aT_ ["hand","web"] 1 [0] (av_ (aK_ cH TW.cl (hr.mono (by decide)) (pv 0))) (λfp s H=>aa_ (i:=0) (show (["hand","web"]:List Str).Nodup by decide +kernel) rfl (Or.inl rfl)) (λfp s H=>aV_) (λfp s H=>?e1)) a3_))),?kk⟩
  case e1=>exact ce_ cS TW.cl hr (pv 1) (a0_ (pv 0) a3_)
  case' kk=>skip
  obtain⟨dxw,d1,l2,d3,zs0,as,ef,w1,_⟩:=id W.ex;refine⟨_,rfl,p,dxw,_,rfl,w1,bc_ _ _ _ Z0 Z0 Z0,p,hs,ts,fp,rfl,W,λlh hlh=>?_⟩;obtain⟨s1,e1⟩:=nw__ (o:=.lst ((aW' hs).map V.str)) hlh;generalize upd H lh (.lst ((aW' hs).map V.str))=H1 at s1 e1 ⊢;refine⟨lh,rfl,⟨_,.of e1⟩,λD hD=>?_⟩;refine aQ_ (own:=1) (fv:=[some (.ref p)]) (xs:=(aW' hs).map V.str) rfl gok1 (λi out H'=>Same H1 H'/\H' D=some (.lst out)/\out=(((aW' hs).take i).map (strOf hs)).map V.int) ⟨Same.new hD,a1_,rfl⟩ (λi out H' _ ⟨sm,_,_⟩=>.of (sm _ _ e1)) (λout H5 ⟨sm,hD5,eo⟩=>?_) (λi y out H' hy ⟨sm,hD',eo⟩=>?_)
  ·rw[aa',ax'] at eo;rw[eo] at hD5;refine⟨D,_,rfl,.of hD5,λn hn=>?_,k H5 (s1.trans sm)⟩;obtain⟨m,hm,rfl⟩:=af'.mp hn;exact hh_ G hm
  ·obtain⟨n,hn,rfl⟩:=aB_ hy;have hi:i<(aW' hs).length:=(ab'.mp hn).1;refine⟨_,rfl,rfl,λNx hN=>yesT ?_⟩;have W':=(W.same s1).same sm;obtain⟨dxw,d1,l2,d3,zs0,as,ef,w1,_⟩:=id W'.ex;refine⟨_,rfl,p,dxw,_,rfl,w1,bc_ _ _ _ Z0 Z0 Z0,_,rfl,p,n,strOf hs n,hs,ts,fp,rfl,W',G.hnd,bI_ ((aC_ hs).mem_iff.mp (ai' hn)),?_⟩;refine⟨out,hD',by rw[eo,aa',aa',ak'];omega,hN _ _ ⟨ay_ sm hD,a1_,?_⟩⟩;rw[bR_ hn,aq',aq',eo];rfl
end
end Ev
namespace L2
open PySem PySem.Spec PyProof.Rows
open PySem.Builtin PySem.Builtin.Str
open PySem.W
end L2
namespace EvD
open PySem PySem.W PyProof.Rows
end EvD
namespace L2
open PySem PySem.Spec PyProof.Rows PySem.W EvD
section
variable{X:Cx}{o i e value:Expr}{pos pos' tpos:Pos}{td ty tv:TE}
end
inductive rListV (xs:List V) (H:Hp) (Q:VK):Prop
 |mk:∀v d kvs,xs=[.ref v]->H v=some (a3' v d)->Rd H d (.dK kvs)->(∀l,H l=none->Q (.ref l) (upd H l (.lst (kvs.map (·.2)))))->rListV xs H Q
variable{X:Cx}
theorem ey_(hc:X.calm=true):bd' X (.type "list") rListV:=by
 intro pins s σ H xs us Q I r h;obtain⟨v,d,kvs,rfl,hv,hd,q⟩:=h;obtain⟨u,rfl,ru⟩:=vals1 r;cases ru;obtain⟨z,hdn,vs,rel,dd⟩:=bF_ I.hok hd;obtain⟨ep,dat⟩:=dd.dictAt;obtain⟨iv,_,_⟩:=I.hok v _ hv;have hl:=rel.length;refine kdl_call (kdl_values (knd:=aV' X.prog X.w) (kvs:=vs) (ep:=ep)) (I.ok.hd hc) ⟨iv,dat⟩ Z1 λh' tk acc c k hD a=>?_;have a':ItemsOf (λi v=>∃k,vs[i]? = some (k,v)) acc (kvs.map (·.2)).length:=by rw[aa',hl];exact a
 refine⟨.ref s.heap.objs.size,_,I.laid (t':=tk) k (ad' _) (show a0' X.prog X.w _ h' _ (.lst (kvs.map (·.2))) from ⟨by rw[aa'];exact z,acc.toList,c,bo_ a' λj v ⟨k,e⟩ y hy=>?_,by rw[Array.toArray_toList];exact hD⟩),rfl,q _ I.fresh⟩;rw[am'] at hy;cases e3:kvs[j]? with
 |none=>rw[e3] at hy;cases hy
 |some kv=>
  rw[e3] at hy;obtain⟨u,hu,ru⟩:=em_ rel j (k:=kv.1) (x:=kv.2) e3;rw[e] at hu;have hu:=a_8 hu;have g2:v=u:=b_7 Prod.snd hu;cases (a_8 hy:kv.2=y);rw[g2];exact ru
section
variable{X:Cx}{CX:CXT}{k:Nat}{f C:Addr}{fd:Ae}{ps ks:List Str}{sp:Sp}{E:XK}{m:Str}{pos apos:Pos}{e o:Expr}{es:List Expr}{kws:List Keyword}{ta:TE}{t tk:TA}{g:List Aa->List Aa->List Aa}{gV:List V->List V->List V}
inductive tMethKR (C:Addr) (m:Str) (sp:Sp) (gV:List V->List V->List V) (E:XK) (t:TA) (tk:TA) (σ:St) (Q:VK) (x:V) (H1:Hp):Prop
 |mk:∀a dx fs,x=.ref a->H1 a=some (.ins C dx fs)->fs.lookup m=none->(t σ H1 λvs H2=>tk σ H2 λzs H3=>sp (gV (x::vs) zs) H3 Q E)->tMethKR C m sp gV E t tk σ Q x H1
def tMethK(C:Addr)(m:Str)(sp:Sp)(gV:List V->List V->List V)(E:XK)(ta:TE)(t tk:TA):TE:=λσ H Q=>ta σ H λx H1=>tMethKR C m sp gV E t tk σ Q x H1
theorem h2_{pl:Sem Bool}(he:PE X o ta)(c:Cls X.K C)(hm:Meth X.K C m f)(F:FnOk X.prog X.w X.K X.mg X.base CX k f fd ps sp)(hr:Room k X.A)(hb:cO' X.K fd ps ks g gV)(hx:br' CX X E)
  (ha:PA X (e::es) t) (hkw:PK X kws tk) (hall:(backToKw pos (keywordEach kws X.env)).all (·.1.isSome)=true:=by rfl) (hks:(backToKw pos (keywordEach kws X.env)).filterMap (·.1)=ks:=by rfl)
  (hst:starEach (e::es) X.env=(false,eval e X.env)::starEach es X.env:=by rfl)
  (hpl:((backTo pos (starEach (e::es) X.env)).any (·.1) || (backToKw pos (keywordEach kws X.env)).any (·.1.isNone))=false:=by rfl)
  (ht:eval (.Call (.Attribute o m apos) (e::es) kws pos) X.env=(do
   let ov <- eval o X.env
   standAt apos.atName
   let (f,first) <- holding [ov] (getMethod ov m pl)
   callWith pos f first (backTo pos (starEach (e::es) X.env)) (backToKw pos (keywordEach kws X.env))):=by rfl) :
  PE X (.Call (.Attribute o m apos) (e::es) kws pos) (tMethK C m sp gV E ta t tk):=by
 intro pins s σ H Q I h;refine PySem.W.methodCall_KW (pl:=pl) (thn (he pins s σ H _ I h) λu s1 ⟨x,H1,I1,rx,a,dx,fs,ex,ea,l,q⟩=>?_) ht;subst ex;obtain rfl:u=Value.ref a:=rx;refine bV_ I1 ea c hm l ?_;refine PySem.W.callWith_KW (first:=[.ref a]) (h₀:=X.base) I.ok.mod.kin hm.kp hall (thn (ha pos pins s1 σ H1 _ I1 q) λus s2 ⟨vs,H2,I2,r,q2⟩=>?_) hpl hst;refine thn (hkw pos pins s2 σ H2 _ I2 q2) λws s3 ⟨zs,H3,I3,rz,q3⟩=>⟨I3.kIn,?_⟩;rw[hks];exact hW_ (us:=.ref a::us) (vs:=.ref a::vs) F hr hb hx I3 (.cons rfl r) rz q3
end
structure FunD (K:F__) (x qual:Str) (st:Stmt) (f:Addr) (fd:Ae):Prop where
 ex:∃(oc:Aa) (od:Option Addr) (T:Addr) (kV doc pm:Aa) (an:Option Addr) (cdv ct:Aa) (osl:Array (Option Aa)) (o:Obj) (n:Nat),
  fd=PySem.W.fnOf x qual (a6' st) (aZ' st) (aS' st) (.ref T) kV doc pm an cdv ct/\K.lookup f=some ⟨oc,od,.func fd,osl⟩/\PySem.W.codeIn K cdv qual=true/\K.lookup T=some o/\o.data=.seq #[.none] n
theorem FunD.ok{P:Ad}{w:Af}{K:F__}{mg:Str->Option Aa}{base:Heap}{x qual:Str}{st:Stmt}{f:Addr}{fd:Ae}{N ps:List Str}{k:Nat}{sp:Sp}(F:FunD K x qual st f fd)(S:aT' N ps (aS' st))(len:∀vs H Q E,sp vs H Q E->vs.length=ps.length)
  (hbody:∀(cdv:Aa) (A:Ag) (outer:List Env) (s:Ab) (H:Hp) (vs:List V) (Q:VK) (E:XK),Room k (A.deeper (envOfC qual (aS' st) s.heap.objs.size f cdv))->sp vs H Q E->
   ∃t,PSs (cxOf CX0 P w K mg base N qual (aS' st) f cdv A outer s H E).nox (aZ' st) t/\t { nx:=λ_ H'=>Q .non H',rt:=Q } (start N vs) H):FnOk P w K mg base CX0 (k+1) f fd ps sp:=by
 obtain⟨oc,od,T,kV,doc,pm,an,cdv,ct,osl,o,n,rfl,lk,hcd,_⟩:=F.ex;refine hS_ lk hcd S len λA outer s H vs Q E hr hsp=>?_;obtain⟨t,h,q⟩:=hbody cdv A outer s H vs Q E hr hsp;exact⟨t,h.nox,q⟩
end L2
namespace Ev
open PySem L2
abbrev sYInit:Stmt:=aY' cE' 0
abbrev bP':Stmt:=aY' cE' 1
abbrev ca':Stmt:=aY' cE' 3
abbrev cC':Stmt:=aY' cE' 6
abbrev cD':Stmt:=aY' cE' 7
abbrev cx':Stmt:=aY' cE' 8
abbrev bW':Stmt:=aY' cE' 9
structure TxtY (K:F__) (CY:Addr):Prop where
 cl:Cls K CY
 nW:a5' K CY "web"
 nR:a5' K CY "rule"
 nM:a5' K CY "moment"
 nP:a5' K CY "piece_by_name"
 nH:a5' K CY "hand_by_name"
 nD:a5' K CY "deeds"
 nB:a5' K CY "bound_in_parts"
def yMs:List Str:=["come","loosen","goods","stand","loads","heights"]
def yFs:List Str:=["web","rule","moment","piece_by_name","hand_by_name","deeds","bound_in_parts"]
theorem yMF:∀m∈yMs,∀f∈yFs,m≠f:=by decide +kernel
structure YF (fs:List (Str × V)) (p dp dh ld:Addr) (b:Int):Prop where
 w:fs.lookup ("web":Str)=some (.ref p)
 pn:fs.lookup ("piece_by_name":Str)=some (.ref dp)
 hn:fs.lookup ("hand_by_name":Str)=some (.ref dh)
 d:fs.lookup ("deeds":Str)=some (.ref ld)
 bp:fs.lookup ("bound_in_parts":Str)=some (.int b)
 no:∀m∈yMs,fs.lookup m=none
theorem YF.put{fs:List (Str × V)}{p dp dh ld:Addr}{b b':Int}(h:YF fs p dp dh ld b):YF (putF "bound_in_parts" (.int b') fs) p dp dh ld b':=by
 refine⟨?_,?_,?_,?_,?_,λm hm=>?_⟩
 ·rw[a4_,a_6 Z0];exact h.w
 ·rw[a4_,a_6 Z0];exact h.pn
 ·rw[a4_,a_6 Z0];exact h.hn
 ·rw[a4_,a_6 Z0];exact h.d
 ·rw[a4_,a_9 rfl]
 ·rw[a4_,a_6 (yMF m hm _ Z0)];exact h.no m hm
def yF0(p:Addr)(r:Str)(dp dh ld:Addr):List (Str × V):=putF "bound_in_parts" (.int 0) (putF "deeds" (.ref ld) (putF "hand_by_name" (.ref dh) (putF "piece_by_name" (.ref dp) (putF "moment" (.int 0) (putF "rule" (.str r) (putF "web" (.ref p) []))))))
theorem ih_(p:Addr)(r:Str)(dp dh ld:Addr):YF (yF0 p r dp dh ld) p dp dh ld 0:=by
 unfold yF0;refine⟨?_,?_,?_,?_,?_,λm hm=>?_⟩
 ·rw[a4_,a_6 Z0,a4_,a_6 Z0,a4_,a_6 Z0,a4_,a_6 Z0,a4_,a_6 Z0,a4_,a_6 Z0,a4_,a_9 rfl]
 ·rw[a4_,a_6 Z0,a4_,a_6 Z0,a4_,a_6 Z0,a4_,a_9 rfl]
 ·rw[a4_,a_6 Z0,a4_,a_6 Z0,a4_,a_9 rfl]
 ·rw[a4_,a_6 Z0,a4_,a_9 rfl]
 ·rw[a4_,a_9 rfl]
 ·have n:=yMF m hm;rw[a4_,a_6 (n _ Z0),a4_,a_6 (n _ Z0),a4_,a_6 (n _ Z0),a4_,a_6 (n _ Z0),a4_,a_6 (n _ Z0),a4_,a_6 (n _ Z0),a4_,a_6 (n _ Z0)];rfl
theorem lp{f:Str}{v:V}{fs:List (Str × V)}{k:Nat}(h:fs.length<=k):(putF f v fs).length<=k+1:=aQ' (be_ f v fs) Z1
def kvp(ps:List Pc)(yp:List V):List (Key × V):=List.zipWith (λ(q:Pc) v=>((Sum.inr q.1:Key),v)) ps yp
theorem bB_:∀{ps:List Pc} {yp:List V},yp.length=ps.length->(kvp ps yp).map (·.1)=(ps.map (·.1)).map Sum.inr
 |[],[],_=>rfl
 |q::ps,v::yp,h=>by
  show Sum.inr q.1::(kvp ps yp).map (·.1)=_;rw[bB_ (by simpa using h)];rfl
 |[],_::_,h=>by cases h
 |_::_,[],h=>by cases h
theorem dY_:∀{ps:List Pc} {yp:List V},yp.length=ps.length->(kvp ps yp).map (·.2)=yp
 |[],[],_=>rfl
 |q::ps,v::yp,h=>by
  show v::(kvp ps yp).map (·.2)=_;rw[dY_ (by simpa using h)]
 |[],_::_,h=>by cases h
 |_::_,[],h=>by cases h
variable{yp:List V}
theorem cH_{ps:List Pc}(h:yp.length=ps.length):(kvp ps yp).length=ps.length:=by
 rw[<- aa' (f:=(·.1)),bB_ h,aa',aa']
theorem f8_{ps:List Pc}{q:Pc}{v:V}(h:yp.length=ps.length)(n:q.1∉ps.map (·.1)):putK (kvp ps yp) (Sum.inr q.1) v=kvp (ps++[q]) (yp++[v]):=by
 rw[bd_ _ (ao_ (by
  rw[bB_ h];intro z;obtain⟨x,hx,e⟩:=af'.mp z;cases e;exact n hx))]
 unfold kvp;rw[List.zipWith_append h.symm];rfl
def PcY(K:F__)(H:Hp)(ld:Addr)(fp:List Addr)(v:V)(q:Pc):Prop:=∃t z,v=.ref t/\H t=some (.tup [.str q.1,.int q.2.1,z])/\WyAt K H z q.2.2/\∀a,z=.ref a->a∈fp/\a≠ld
structure a1' (K:F__) (CY CW:Addr) (H:Hp) (y p dp dh ld:Addr) (hs:Xa) (ts:Xb) (ps:List Pc) (f:Str->Str) (b:Int) (fp:List Addr):Prop where
 ex:∃dx fs,H y=some (.ins CY dx fs)/\YF fs p dp dh ld b/\fs.length<=10+ps.length
 W:∃fpw,ba' K CW H p hs ts fpw/\(∀c∈fpw,c∈fp)/\y∉fpw/\dp∉fpw/\dh∉fpw/\ld∉fpw
 P:∃yp,H dp=some (.dK (kvp ps yp))/\Paired (PcY K H ld fp) yp ps
 Hd:H dh=some (.dK (stF (ps.map (·.1)) f))
 D:∃ds,H ld=some (.lst ds)/\ds.length=ps.length
 nd:dp≠dh
 m:y∈fp/\dp∈fp/\dh∈fp/\ld∈fp
 has:∀c∈fp,∃o,H c=some o
variable{H':Hp}
theorem a1'.keep{K:F__}{CY CW:Addr}{H:Hp}{y p dp dh ld:Addr}{hs:Xa}{ts:Xb}{ps:List Pc}{f:Str->Str}{b:Int}{fp:List Addr}(Y:a1' K CY CW H y p dp dh ld hs ts ps f b fp)(k:∀c∈fp,∀o,H c=some o->H' c=some o)(kt:∀c xs,H c=some (.tup xs)->H' c=some (.tup xs)):a1' K CY CW H' y p dp dh ld hs ts ps f b fp:=by
 obtain⟨dx,fs,h1,h2,h3⟩:=Y.ex;obtain⟨fpw,w1,w2,w3⟩:=Y.W;obtain⟨yp,p1,p2⟩:=Y.P;obtain⟨ds,d1,d2⟩:=Y.D;obtain⟨m1,m2,m3,m4⟩:=Y.m;refine⟨⟨dx,fs,k _ m1 _ h1,h2,h3⟩,⟨fpw,w1.keep (λc hc o e=>k c (w2 c hc) o e) kt,w2,w3⟩,⟨yp,k _ m2 _ p1,Paired.mapP p2 λv q ⟨t,z,e,ht,wy,n⟩=>⟨t,z,e,kt _ _ ht,wy.keep (λa e u h=>k a (n a e).1 u h) kt,n⟩⟩,k _ m3 _ Y.Hd,⟨ds,k _ m4 _ d1,d2⟩,Y.nd,Y.m,λc hc=>let ⟨o,e⟩:=Y.has c hc;⟨o,k c hc o e⟩⟩
theorem a1'.same{K:F__}{CY CW:Addr}{H:Hp}{y p dp dh ld:Addr}{hs:Xa}{ts:Xb}{ps:List Pc}{f:Str->Str}{b:Int}{fp:List Addr}(Y:a1' K CY CW H y p dp dh ld hs ts ps f b fp)(s:Same H H'):a1' K CY CW H' y p dp dh ld hs ts ps f b fp:=Y.keep (λc _ o e=>s c o e) λc xs e=>s c _ e
theorem a1'.but{K:F__}{CY CW:Addr}{H:Hp}{l y p dp dh ld:Addr}{hs:Xa}{ts:Xb}{ps:List Pc}{f:Str->Str}{b:Int}{fp:List Addr}(Y:a1' K CY CW H y p dp dh ld hs ts ps f b fp)(bt:But l H H')(st:stt H l)(n:l∉fp):a1' K CY CW H' y p dp dh ld hs ts ps f b fp:=by
 obtain⟨xs0,hl⟩:=st.some;exact Y.keep (λc hc o e=>bt c o e λz=>n (z▸hc)) λc xs e=>bt c _ e (ac_ e hl nofun)
def Kp4(y dp dh ld:Addr)(H H':Hp):Prop:=∀c o,H c=some o->c≠y->c≠dp->c≠dh->c≠ld->H' c=some o
structure Stp (y:Addr) (H H':Hp):Prop where
 k:∀c o,H c=some o->c≠y->H' c=some o
 fr:∀c,H' c=none->H c=none
theorem Stp.refl(y:Addr)(H:Hp):Stp y H H:=⟨λ_ _ e _=>e,λ_ e=>e⟩
variable{o:HO}
theorem Stp.put{y:Addr}{H:Hp}{o':HO}(s:Stp y H H')(h:H' y=some o):Stp y H (upd H' y o'):=⟨λc u e n=>by rw[a5_ n];exact s.k c u e n,λc e=>by
 by_cases z:c=y
 ·rw[z,a1_] at e;cases e
 ·rw[a5_ z] at e;exact s.fr c e⟩
variable{a:Addr}
theorem Stp.new{y:Addr}{H:Hp}(s:Stp y H H')(h:H' a=none):Stp y H (upd H' a o):=⟨λc u e n=>by
 have q:=s.k c u e n;rw[a5_ (λz=>by rw[z,h] at q;cases q)];exact q,λc e=>by
 by_cases z:c=a
 ·rw[z,a1_] at e;cases e
 ·rw[a5_ z] at e;exact s.fr c e⟩
section
variable{P:Ad}{w:Af}{K:F__}{mg:Str->Option Aa}{base:Heap}
theorem scYInit:aT' ["self","web","rule"] ["self","web","rule"] (aS' sYInit):=f__
inductive cd' (K:F__) (CY CW:Addr) (vs:List V) (H:Hp) (Q:VK) (E:XK):Prop
 |mk:∀(y dx p:Addr) (r:Rl) (hs:Xa) (ts:Xb) (fpw:List Addr),r∈rl->vs=[.ref y,.ref p,.str r.1]->H y=some (.ins CY dx [])->ba' K CW H p hs ts fpw->y∉fpw->(∀dp dh ld fp f H',(∀c o,H c=some o->c≠y->H' c=some o)->a1' K CY CW H' y p dp dh ld hs ts [] f 0 fp->(∀c∈fp,c=y∨c∈fpw∨H c=none)->Q .non H')->cd' K CY CW vs H Q E
theorem gl_{f0 CY CW:Addr}{fd:Ae}(F:Fun K "__init__" "Yard.__init__" sYInit f0 fd)(T:TxtY K CY)(cWo:Cal P w K mg base 2 "checked_words" ["rule"] (cF' K)):FnOk P w K mg base CX0 3 f0 fd ["self","web","rule"] (cd' K CY CW):=by
 refine F.ok scYInit (λvs H Q E h=>?_) (λcdv A outer s H vs Q E hr h=>?_)
 ·obtain⟨y,dx,p,r,hs,ts,fpw,_,rfl,_⟩:=h;rfl
 ·obtain⟨y,dx,p,r,hs,ts,fpw,hr',rfl,hy,W,yw,k⟩:=h;refine' ⟨_,a2_ ?s1 ?r1,?kk⟩
  case' r1=>refine' a2_ ?s2 ?r2
  case' r2=>refine' a2_ ?s3 ?r3
  case' r3=>refine' a2_ ?s4 ?r4
  case' r4=>refine' a2_ ?s5 ?r5
  case' r5=>refine' a2_ ?s6 ?r6
  case' r6=>refine' a2_ ?s7 (a6_ ?s8)
  case s1=>exact aq_ (ai_ cWo hr (a0_ (pv 2) a3_))
  case s2=>exact aX_ (pv 0) (pv 1) rfl
  case s3=>exact aX_ (pv 0) (pv 2) rfl
  case s4=>exact aX_ (pv 0) a8_ rfl
  case s5=>exact aX_ (pv 0) aW_ rfl
  case s6=>exact aX_ (pv 0) aW_ rfl
  case s7=>exact aX_ (pv 0) (bn_ a3_) rfl
  case s8=>exact aX_ (pv 0) a8_ rfl
  case' kk=>skip
  refine⟨_,rfl,r,hr',rfl,λa _=>?_⟩;have s0:=Stp.refl y H;have y0:=hy;have l0:([]:List (Str × V)).length<=0:=ad' 0;refine⟨_,rfl,_,rfl,y,CY,dx,_,rfl,y0,T.cl,T.nW,by omega,?_⟩;have s1:=s0.put (o':=.ins CY dx (putF "web" (.ref p) [])) y0;have y1:upd H y (.ins CY dx (putF "web" (.ref p) [])) y=some (.ins CY dx (putF "web" (.ref p) [])):=a1_;have l1:(putF "web" (.ref p) []).length<=1:=lp l0;generalize upd H y (.ins CY dx (putF "web" (.ref p) []))=H1 at s1 y1  ⊢;refine⟨_,rfl,_,rfl,y,CY,dx,_,rfl,y1,T.cl,T.nR,by omega,?_⟩;have s2:=s1.put (o':=.ins CY dx (putF "rule" (.str r.1) (putF "web" (.ref p) []))) y1;have y2:upd H1 y (.ins CY dx (putF "rule" (.str r.1) (putF "web" (.ref p) []))) y=some (.ins CY dx (putF "rule" (.str r.1) (putF "web" (.ref p) []))):=a1_;have l2:(putF "rule" (.str r.1) (putF "web" (.ref p) [])).length<=2:=lp l1;generalize upd H1 y (.ins CY dx (putF "rule" (.str r.1) (putF "web" (.ref p) [])))=H2 at s2 y2  ⊢;refine⟨_,rfl,y,CY,dx,_,rfl,y2,T.cl,T.nM,by omega,?_⟩;have s3:=s2.put (o':=.ins CY dx (putF "moment" (.int 0) (putF "rule" (.str r.1) (putF "web" (.ref p) [])))) y2;have y3:upd H2 y (.ins CY dx (putF "moment" (.int 0) (putF "rule" (.str r.1) (putF "web" (.ref p) [])))) y=some (.ins CY dx (putF "moment" (.int 0) (putF "rule" (.str r.1) (putF "web" (.ref p) [])))):=a1_;have l3:(putF "moment" (.int 0) (putF "rule" (.str r.1) (putF "web" (.ref p) []))).length<=3:=lp l2;generalize upd H2 y (.ins CY dx (putF "moment" (.int 0) (putF "rule" (.str r.1) (putF "web" (.ref p) []))))=H3 at s3 y3  ⊢;intro dp ndp;have sn3:=s3.new (o:=.dK []) ndp;have dpy:dp≠y:=(a7_ y3 ndp).symm;have yn3:upd H3 dp (.dK []) y=_:=(a5_ dpy.symm).trans y3;have edp:upd H3 dp (.dK []) dp=some (.dK []):=a1_;generalize upd H3 dp (.dK [])=Hn3 at sn3 yn3 edp  ⊢;refine⟨_,rfl,y,CY,dx,_,rfl,yn3,T.cl,T.nP,by omega,?_⟩;have s4:=sn3.put (o':=.ins CY dx (putF "piece_by_name" (.ref dp) (putF "moment" (.int 0) (putF "rule" (.str r.1) (putF "web" (.ref p) []))))) yn3;have y4:upd Hn3 y (.ins CY dx (putF "piece_by_name" (.ref dp) (putF "moment" (.int 0) (putF "rule" (.str r.1) (putF "web" (.ref p) []))))) y=some (.ins CY dx (putF "piece_by_name" (.ref dp) (putF "moment" (.int 0) (putF "rule" (.str r.1) (putF "web" (.ref p) []))))):=a1_;have l4:(putF "piece_by_name" (.ref dp) (putF "moment" (.int 0) (putF "rule" (.str r.1) (putF "web" (.ref p) [])))).length<=4:=lp l3;have edpu:=(a5_ (H:=Hn3) (o:=.ins CY dx (putF "piece_by_name" (.ref dp) (putF "moment" (.int 0) (putF "rule" (.str r.1) (putF "web" (.ref p) []))))) dpy).trans edp;generalize upd Hn3 y (.ins CY dx (putF "piece_by_name" (.ref dp) (putF "moment" (.int 0) (putF "rule" (.str r.1) (putF "web" (.ref p) [])))))=H4 at s4 y4 edpu ⊢;have edp:=edpu;intro dh ndh;have sn4:=s4.new (o:=.dK []) ndh;have dhy:dh≠y:=(a7_ y4 ndh).symm;have yn4:upd H4 dh (.dK []) y=_:=(a5_ dhy.symm).trans y4;have edh:upd H4 dh (.dK []) dh=some (.dK []):=a1_;have dpdh:dp≠dh:=a7_ edp ndh;have edpn:=(a5_ (H:=H4) (o:=.dK []) dpdh).trans edp;generalize upd H4 dh (.dK [])=Hn4 at sn4 yn4 edh edpn ⊢;have edp:=edpn;refine⟨_,rfl,y,CY,dx,_,rfl,yn4,T.cl,T.nH,by omega,?_⟩;have s5:=sn4.put (o':=.ins CY dx (putF "hand_by_name" (.ref dh) (putF "piece_by_name" (.ref dp) (putF "moment" (.int 0) (putF "rule" (.str r.1) (putF "web" (.ref p) [])))))) yn4;have y5:upd Hn4 y (.ins CY dx (putF "hand_by_name" (.ref dh) (putF "piece_by_name" (.ref dp) (putF "moment" (.int 0) (putF "rule" (.str r.1) (putF "web" (.ref p) [])))))) y=some (.ins CY dx (putF "hand_by_name" (.ref dh) (putF "piece_by_name" (.ref dp) (putF "moment" (.int 0) (putF "rule" (.str r.1) (putF "web" (.ref p) [])))))):=a1_;have l5:(putF "hand_by_name" (.ref dh) (putF "piece_by_name" (.ref dp) (putF "moment" (.int 0) (putF "rule" (.str r.1) (putF "web" (.ref p) []))))).length<=5:=lp l4;have edpu:=(a5_ (H:=Hn4) (o:=.ins CY dx (putF "hand_by_name" (.ref dh) (putF "piece_by_name" (.ref dp) (putF "moment" (.int 0) (putF "rule" (.str r.1) (putF "web" (.ref p) [])))))) dpy).trans edp;have edhu:=(a5_ (H:=Hn4) (o:=.ins CY dx (putF "hand_by_name" (.ref dh) (putF "piece_by_name" (.ref dp) (putF "moment" (.int 0) (putF "rule" (.str r.1) (putF "web" (.ref p) [])))))) dhy).trans edh;generalize upd Hn4 y (.ins CY dx (putF "hand_by_name" (.ref dh) (putF "piece_by_name" (.ref dp) (putF "moment" (.int 0) (putF "rule" (.str r.1) (putF "web" (.ref p) []))))))=H5 at s5 y5 edpu edhu ⊢;have edp:=edpu;have edh:=edhu;refine⟨aC' _,λld nld=>?_⟩;have sn5:=s5.new (o:=.lst []) nld;have ldy:ld≠y:=(a7_ y5 nld).symm;have yn5:upd H5 ld (.lst []) y=_:=(a5_ ldy.symm).trans y5;have eld:upd H5 ld (.lst []) ld=some (.lst []):=a1_;have dpld:dp≠ld:=a7_ edp nld;have edpn:=(a5_ (H:=H5) (o:=.lst []) dpld).trans edp;have dhld:dh≠ld:=a7_ edh nld;have edhn:=(a5_ (H:=H5) (o:=.lst []) dhld).trans edh;generalize upd H5 ld (.lst [])=Hn5 at sn5 yn5 eld edpn edhn ⊢;have edp:=edpn;have edh:=edhn;refine⟨_,rfl,y,CY,dx,_,rfl,yn5,T.cl,T.nD,by omega,?_⟩;have s6:=sn5.put (o':=.ins CY dx (putF "deeds" (.ref ld) (putF "hand_by_name" (.ref dh) (putF "piece_by_name" (.ref dp) (putF "moment" (.int 0) (putF "rule" (.str r.1) (putF "web" (.ref p) []))))))) yn5;have y6:upd Hn5 y (.ins CY dx (putF "deeds" (.ref ld) (putF "hand_by_name" (.ref dh) (putF "piece_by_name" (.ref dp) (putF "moment" (.int 0) (putF "rule" (.str r.1) (putF "web" (.ref p) []))))))) y=some (.ins CY dx (putF "deeds" (.ref ld) (putF "hand_by_name" (.ref dh) (putF "piece_by_name" (.ref dp) (putF "moment" (.int 0) (putF "rule" (.str r.1) (putF "web" (.ref p) []))))))):=a1_;have l6:(putF "deeds" (.ref ld) (putF "hand_by_name" (.ref dh) (putF "piece_by_name" (.ref dp) (putF "moment" (.int 0) (putF "rule" (.str r.1) (putF "web" (.ref p) [])))))).length<=6:=lp l5;have edpu:=(a5_ (H:=Hn5) (o:=.ins CY dx (putF "deeds" (.ref ld) (putF "hand_by_name" (.ref dh) (putF "piece_by_name" (.ref dp) (putF "moment" (.int 0) (putF "rule" (.str r.1) (putF "web" (.ref p) []))))))) dpy).trans edp;have edhu:=(a5_ (H:=Hn5) (o:=.ins CY dx (putF "deeds" (.ref ld) (putF "hand_by_name" (.ref dh) (putF "piece_by_name" (.ref dp) (putF "moment" (.int 0) (putF "rule" (.str r.1) (putF "web" (.ref p) []))))))) dhy).trans edh;have eldu:=(a5_ (H:=Hn5) (o:=.ins CY dx (putF "deeds" (.ref ld) (putF "hand_by_name" (.ref dh) (putF "piece_by_name" (.ref dp) (putF "moment" (.int 0) (putF "rule" (.str r.1) (putF "web" (.ref p) []))))))) ldy).trans eld;generalize upd Hn5 y (.ins CY dx (putF "deeds" (.ref ld) (putF "hand_by_name" (.ref dh) (putF "piece_by_name" (.ref dp) (putF "moment" (.int 0) (putF "rule" (.str r.1) (putF "web" (.ref p) [])))))))=H6 at s6 y6 edpu edhu eldu ⊢;have edp:=edpu;have edh:=edhu;have eld:=eldu;refine⟨_,rfl,y,CY,dx,_,rfl,y6,T.cl,T.nB,by omega,?_⟩;have s7:=s6.put (o':=.ins CY dx (putF "bound_in_parts" (.int 0) (putF "deeds" (.ref ld) (putF "hand_by_name" (.ref dh) (putF "piece_by_name" (.ref dp) (putF "moment" (.int 0) (putF "rule" (.str r.1) (putF "web" (.ref p) [])))))))) y6;have y7:upd H6 y (.ins CY dx (putF "bound_in_parts" (.int 0) (putF "deeds" (.ref ld) (putF "hand_by_name" (.ref dh) (putF "piece_by_name" (.ref dp) (putF "moment" (.int 0) (putF "rule" (.str r.1) (putF "web" (.ref p) [])))))))) y=some (.ins CY dx (putF "bound_in_parts" (.int 0) (putF "deeds" (.ref ld) (putF "hand_by_name" (.ref dh) (putF "piece_by_name" (.ref dp) (putF "moment" (.int 0) (putF "rule" (.str r.1) (putF "web" (.ref p) [])))))))):=a1_;have l7:(putF "bound_in_parts" (.int 0) (putF "deeds" (.ref ld) (putF "hand_by_name" (.ref dh) (putF "piece_by_name" (.ref dp) (putF "moment" (.int 0) (putF "rule" (.str r.1) (putF "web" (.ref p) []))))))).length<=7:=lp l6;have edpu:=(a5_ (H:=H6) (o:=.ins CY dx (putF "bound_in_parts" (.int 0) (putF "deeds" (.ref ld) (putF "hand_by_name" (.ref dh) (putF "piece_by_name" (.ref dp) (putF "moment" (.int 0) (putF "rule" (.str r.1) (putF "web" (.ref p) [])))))))) dpy).trans edp;have edhu:=(a5_ (H:=H6) (o:=.ins CY dx (putF "bound_in_parts" (.int 0) (putF "deeds" (.ref ld) (putF "hand_by_name" (.ref dh) (putF "piece_by_name" (.ref dp) (putF "moment" (.int 0) (putF "rule" (.str r.1) (putF "web" (.ref p) [])))))))) dhy).trans edh;have eldu:=(a5_ (H:=H6) (o:=.ins CY dx (putF "bound_in_parts" (.int 0) (putF "deeds" (.ref ld) (putF "hand_by_name" (.ref dh) (putF "piece_by_name" (.ref dp) (putF "moment" (.int 0) (putF "rule" (.str r.1) (putF "web" (.ref p) [])))))))) ldy).trans eld;generalize upd H6 y (.ins CY dx (putF "bound_in_parts" (.int 0) (putF "deeds" (.ref ld) (putF "hand_by_name" (.ref dh) (putF "piece_by_name" (.ref dp) (putF "moment" (.int 0) (putF "rule" (.str r.1) (putF "web" (.ref p) []))))))))=H7 at s7 y7 edpu edhu eldu ⊢;have edp:=edpu;have edh:=edhu;have eld:=eldu;refine k dp dh ld (y::dp::dh::ld::fpw) (λn=>n) H7 s7.k ⟨⟨dx,_,y7,ih_ _ _ _ _ _,by omega⟩,⟨fpw,W.keep (λc hc o e=>s7.k c o e λz=>yw (z▸hc)) λc xs e=>s7.k c _ e (ac_ e hy nofun),λc hc=>by simp[hc],yw,λm=>?_,λm=>?_,λm=>?_⟩,⟨[],edp,.nil⟩,edh,⟨[],eld,rfl⟩,dpdh,by simp,λc hc=>?_⟩ λc hc=>?_
  ·obtain⟨o,e⟩:=W.has m;rw[s3.fr _ ndp] at e;cases e
  ·obtain⟨o,e⟩:=W.has m;rw[s4.fr _ ndh] at e;cases e
  ·obtain⟨o,e⟩:=W.has m;rw[s5.fr _ nld] at e;cases e
  ·simp only[aj'] at hc;rcases hc with rfl|rfl|rfl|rfl|hc
   ·exact⟨_,y7⟩
   ·exact⟨_,edp⟩
   ·exact⟨_,edh⟩
   ·exact⟨_,eld⟩
   ·obtain⟨o,e⟩:=W.has hc;exact⟨o,s7.k c o e λz=>yw (z▸hc)⟩
  ·simp only[aj'] at hc;rcases hc with rfl|rfl|rfl|rfl|hc
   ·exact .inl rfl
   ·exact .inr (.inr (s3.fr _ ndp))
   ·exact .inr (.inr (s4.fr _ ndh))
   ·exact .inr (.inr (s5.fr _ nld))
   ·exact .inr (.inl hc)
end
section
variable{P:Ad}{w:Af}{K:F__}{mg:Str->Option Aa}{base:Heap}
theorem c1':aT' ["self","weight","hand","parts"] ["self","weight","hand"] (aS' ca'):=f__
inductive bK' (K:F__) (CY CW:Addr) (vs:List V) (H:Hp) (Q:VK) (E:XK):Prop
 |mk:∀(y dx p dp dh ld:Addr) (fs:List (Str × V)) (b wt:Int) (h:Str) (hs:Xa) (ts:Xb) (fpw:List Addr),vs=[.ref y,.int wt,.str h]->H y=some (.ins CY dx fs)->YF fs p dp dh ld b->fs.length<1000->ba' K CW H p hs ts fpw->Good hs ts->h∈hs.map (·.1)->0<=wt->wt<=1000000000->(∀H1 b',Same H H1->Q .non (upd H1 y (.ins CY dx (putF "bound_in_parts" (.int b') fs))))->bK' K CY CW vs H Q E
theorem eR_{f0 CY CW:Addr}{fd:Ae}(F:Fun K "loosen" "Yard.loosen" ca' f0 fd)(T:TxtY K CY)(TW:Txt K mg CW)(cM:Cal P w K mg base 3 "multiple_of_strengths" ["web"] (cW' K CW))(cS:CalM P w K mg base CW 2 "strength" ["self","hand"] (bc' K CW)):FnOk P w K mg base CX0 4 f0 fd ["self","weight","hand"] (bK' K CY CW):=by
 refine F.ok c1' (λvs H Q E h=>?_) (λcdv A outer s H vs Q E hr h=>?_)
 ·obtain⟨y,dx,p,dp,dh,ld,fs,b,wt,h,hs,ts,fpw,rfl,_⟩:=h;rfl
 ·obtain⟨y,dx,p,dp,dh,ld,fs,b,wt,h,hs,ts,fpw,rfl,hy,yf,lf,W,Gd,hm,w0,w1,k⟩:=h;have hr2:Room 2 _:=hr.mono (by decide);refine' ⟨_,a2_ ?s1 (a6_ ?s2),?kk⟩
  case s1=>exact ad_ (i:=3) c1'.nd rfl (Or.inl rfl) (as_ b9_ (ai_ cM hr (a0_ (az_ (pv 0) rfl) a3_)) (ce_ cS TW.cl hr2 (az_ (pv 0) rfl) (a0_ (pv 2) a3_)))
  case s2=>exact aX_ (pv 0) (as_ b3_ (az_ (pv 0) rfl) (as_ cu_ (pv 1) (pv 3))) rfl
  case' kk=>skip
  have sm:=bI_ hm;have sg:=hh_ Gd ((aC_ hs).mem_iff.mpr hm);refine⟨_,rfl,y,CY,dx,fs,_,rfl,hy,T.cl,T.nW,yf.w,p,hs,ts,fpw,rfl,W,Gd,λH1 s1=>?_⟩;have W1:=W.same s1;obtain⟨dxw,d1,l2,d3,zs0,as,ef,w2,_⟩:=id W1.ex;have hnw:(flds d1 l2 d3).lookup ("strength":Str)=none:=bc_ _ _ _ Z0 Z0 Z0;refine⟨_,rfl,y,CY,dx,fs,_,rfl,s1 _ _ hy,T.cl,T.nW,yf.w,p,dxw,_,rfl,w2,hnw,_,rfl,p,h,strOf hs h,hs,ts,fpw,rfl,W1,Gd.hnd,sm,?_⟩;refine⟨_,_,rfl,rfl,⟨by omega,by omega⟩,?_⟩;refine setG ?_;dsimp only;refine⟨_,rfl,y,CY,dx,fs,_,rfl,s1 _ _ hy,T.cl,T.nB,yf.bp,_,rfl,_,rfl,_,_,rfl,rfl,.inl ⟨by omega,by omega⟩,_,_,rfl,rfl,?_⟩;exact⟨_,rfl,y,CY,dx,fs,rfl,s1 _ _ hy,T.cl,T.nB,lf,k H1 _ s1⟩
def refsV:V->List Addr
 |.ref a=>[a]
 |_=>[]
abbrev psC:List Str:=["self","name","weight","hand","ways"]
def gC{α:Type}(us ws:List α):List α:=match ws with
 |[v]=>us++[v]
 |_=>[]
structure CalY (P:Ad) (w:Af) (K:F__) (mg:Str->Option Aa) (base:Heap) (C:Addr) (k:Nat) (sp:Sp):Prop where
 ex:∃f fd,FnOk P w K mg base CX0 k f fd psC sp/\Meth K C "come" f/\bn' K fd psC []/\bn' K fd psC [.none]/\cO' K fd psC ["ways"] gC gC
theorem eC_{f:Addr}{fd:Ae}(F:FunD K "come" "Yard.come" bP' f fd):bn' K fd psC []/\bn' K fd psC [.none]/\cO' K fd psC ["ways"] gC gC:=by
 obtain⟨oc,od,T,kV,doc,pm,an,cdv,ct,osl,o,n,rfl,lk,hcd,ho,hs⟩:=F.ex;refine⟨λs us X hl=>?_,λs us X hl=>?_,⟨λs us ws X hl=>?_,λ{vs us zs ws} r rz=>?_⟩⟩
 ·rw[List.append_nil] at hl ⊢
  match us,hl with
  |[a,b,c,d,e],_=>exact PySem.W.binds_K X rfl ho hs rfl rfl
 ·have hl:us.length=4:=by simpa using hl
  match us,hl with
  |[a,b,c,d],_=>exact PySem.W.binds_K X rfl ho hs rfl rfl
 ·match ws,hl with
  |[v],hl=>
   have hl:us.length=4:=by simpa [gC] using hl
   match us,hl with
   |[a,b,c,d],_=>exact PySem.W.binds_K X rfl ho hs rfl rfl
  |[],hl=>cases hl
  |_::_::_,hl=>cases hl
 ·cases rz with
  |nil=>exact .nil
  |cons h t=>
   cases t with
   |nil=>exact r.append (.cons h .nil)
   |cons _ _=>exact .nil
theorem scCome:aT' ["self","name","weight","hand","ways","piece"] psC (aS' bP'):=f__
inductive cr' (K:F__) (CY CW:Addr) (vs:List V) (H:Hp) (Q:VK) (E:XK):Prop
 |mk:∀(y p dp dh ld:Addr) (v:V) (h:Str) (q:Pc) (hs:Xa) (ts:Xb) (ps:List Pc) (f:Str->Str) (b:Int) (fp:List Addr),vs=[.ref y,.str q.1,.int q.2.1,.str h,v]->a1' K CY CW H y p dp dh ld hs ts ps f b fp->Good hs ts->WyAt K H v q.2.2->bG' ts q->q.1∉ps.map (·.1)->h∈hs.map (·.1)->ps.length<30->(∀H' b' fp',Kp4 y dp dh ld H H'->a1' K CY CW H' y p dp dh ld hs ts (ps++[nrm q]) (λm=>if m=q.1 then h else f m) b' fp'->(∀c∈fp',c∈fp∨H c=none)->Q .non H')->cr' K CY CW vs H Q E
theorem i3_{f0 CY CW:Addr}{fd:Ae}(F:FunD K "come" "Yard.come" bP' f0 fd)(B:Bi mg)(T:TxtY K CY)(TW:Txt K mg CW)(cP:Cal P w K mg base 5 "checked_piece" ["web","piece"] (bx' K CW))(cH:CalM P w K mg base CW 1 "has_hand" ["self","thing"] (spHas K CW))(cL:CalM P w K mg base CY 4 "loosen" ["self","weight","hand"] (bK' K CY CW)){tk:Tok}(mM:mg "MOST_PIECES"=some (.int 30 tk)):FnOk P w K mg base CX0 6 f0 fd psC (cr' K CY CW):=by
 refine F.ok scCome (λvs H Q E h=>?_) (λcdv A outer s H vs Q E hr h=>?_)
 ·obtain⟨y,p,dp,dh,ld,v,h,q,hs,ts,ps,f,b,fp,rfl,_⟩:=h;rfl
 ·obtain⟨y,p,dp,dh,ld,v,h,q,hs,ts,ps,f,b,fp,rfl,Y,Gd,wy,gp,nq,hm,h30,k⟩:=h;have hu:=bi_ hr;have sz:=b__;have hr1:Room 1 _:=hr.mono (by decide);have hr4:Room 4 _:=hr.mono (by decide);refine' ⟨_,a2_ ?s1 ?r1,?kk⟩
  case' r1=>refine' a2_ ?s2 ?r2
  case' r2=>refine' a2_ ?s3 ?r3
  case' r3=>refine' a2_ ?s4 ?r4
  case' r4=>refine' a2_ ?s5 ?r5
  case' r5=>refine' a2_ ?s6 ?r6
  case' r6=>refine' a2_ ?s7 (a6_ ?s8)
  case s1=>exact ad_ (i:=5) scCome.nd rfl (Or.inl rfl) (ai_ cP hr (a0_ (az_ (pv 0) rfl) (a0_ (aL_ (a0_ (pv 1) (a0_ (pv 2) (a0_ (pv 4) a3_)))) a3_)))
  case s2=>exact au_ (bl_ (ch_ hu (pv 1) (az_ (pv 0) rfl))) af_ ab_
  case s3=>exact au_ (aE_ (aJ_ (ce_ cH TW.cl hr1 (az_ (pv 0) rfl) (a0_ (pv 3) a3_)))) af_ ab_
  case s4=>exact au_ (ar_ ib_ (a9_ ci_ (by rfl) B.len b_5 (a0_ (az_ (pv 0) rfl) a3_)) (bj_ (v:=.int 30) (by rfl) mM ⟨tk,rfl⟩) (nomark _)) af_ ab_
  case s5=>exact aY_ hu (az_ (pv 0) rfl) (pv 1) (pv 5) rfl
  case s6=>exact aY_ hu (az_ (pv 0) rfl) (pv 1) (pv 3) rfl
  case s7=>exact aq_ (ce_ cL T.cl hr4 (pv 0) (a0_ (pv 2) (a0_ (pv 3) a3_)))
  case s8=>exact aq_ (dA_ b_2 PySem.F.slot_list_append PySem.F.type_list_append b4_ (az_ (pv 0) rfl) (a0_ (aL_ (a0_ bv_ (a0_ (pv 1) (a0_ (pv 2) (a0_ (pv 3) a3_))))) a3_))
  case' kk=>skip
  obtain⟨dx,fs,hy,yf,lf⟩:=Y.ex;obtain⟨fpw,W,wf,wy',wdp,wdh,wld⟩:=Y.W;obtain⟨yp,hdp,py⟩:=Y.P;have hdh:=Y.Hd;obtain⟨ds,hld,lds⟩:=Y.D;have lyp:=a_5 py;refine⟨_,rfl,y,CY,dx,fs,_,rfl,hy,T.cl,T.nW,yf.w,_,rfl,_,rfl,_,rfl,by show 3<=sizeLine;decide,λt ht=>?_⟩;obtain⟨s1,e1⟩:=nw__ (o:=.tup [.str q.1,.int q.2.1,v]) ht;generalize upd H t (.tup [.str q.1,.int q.2.1,v])=H1 at s1 e1 ⊢;refine⟨p,.ref t,q,hs,ts,fpw,rfl,W.same s1,Gd,⟨t,v,rfl,e1,wy.same s1⟩,gp,λv' H2 s2 pn=>?_⟩;refine setG ?_;dsimp only;have s02:=s1.trans s2;have hy2:=s02 _ _ hy;have hdp2:=s02 _ _ hdp;have hdh2:=s02 _ _ hdh;have hld2:=s02 _ _ hld;have W2:=W.same s02;refine⟨_,rfl,_,rfl,y,CY,dx,fs,_,rfl,hy2,T.cl,T.nP,yf.pn,?_⟩
  have nov:valV (kvp ps yp) (Sum.inr q.1)=none:=ao_ (by
   rw[bB_ lyp];intro z;obtain⟨x,hx,e⟩:=af'.mp z;cases e;exact nq hx)
  refine⟨dp,none,rfl,?_,_,rfl,iteF ?_⟩
  ·rw[<- nov];exact .inl ⟨_,Sum.inr q.1,.inl hdp2,rfl,rfl⟩
  obtain⟨dxw,d1,l2,d3,zs0,as,ef,w2,_⟩:=id W2.ex;have hnw:(flds d1 l2 d3).lookup ("has_hand":Str)=none:=bc_ _ _ _ Z0 Z0 Z0;refine⟨_,rfl,y,CY,dx,fs,_,rfl,hy2,T.cl,T.nW,yf.w,p,dxw,_,rfl,w2,hnw,_,rfl,p,h,hs,ts,fpw,rfl,W2,_,rfl,?_⟩;rw[a_2 hm];refine iteF ?_;refine⟨_,rfl,y,CY,dx,fs,_,rfl,hy2,T.cl,T.nP,yf.pn,dp,_,rfl,hdp2,_,_,rfl,rfl,_,rfl,?_⟩;rw[cH_ lyp,a_7 (show ¬(ps.length:Int) ≥ 30 by omega)];refine iteF ?_;have ydp:y≠dp:=ac_ hy2 hdp2 nofun;have ydh:y≠dh:=ac_ hy2 hdh2 nofun;have yld:y≠ld:=ac_ hy2 hld2 nofun;have lddp:ld≠dp:=ac_ hld2 hdp2 nofun;have lddh:ld≠dh:=ac_ hld2 hdh2 nofun;refine⟨_,rfl,_,rfl,y,CY,dx,fs,_,rfl,hy2,T.cl,T.nP,yf.pn,_,rfl,dp,_,rfl,.k (k:=Sum.inr q.1) hdp2 (by rw[cH_ lyp];omega),?_⟩;rw[show putK (kvp ps yp) (Sum.inr q.1) v'=kvp (ps++[nrm q]) (yp++[v']) from f8_ (q:=nrm q) lyp nq];have k3:∀c o,H2 c=some o->c≠dp->upd H2 dp (.dK (kvp (ps++[nrm q]) (yp++[v']))) c=some o:=λc o e n=>by rw[a5_ n];exact e
  have hdp3:upd H2 dp (.dK (kvp (ps++[nrm q]) (yp++[v']))) dp=some (.dK (kvp (ps++[nrm q]) (yp++[v']))):=a1_;generalize upd H2 dp (.dK (kvp (ps++[nrm q]) (yp++[v'])))=H3 at k3 hdp3 ⊢;have hy3:=k3 _ _ hy2 ydp;refine⟨_,rfl,_,rfl,y,CY,dx,fs,_,rfl,hy3,T.cl,T.nH,yf.hn,_,rfl,dh,_,rfl,.k (k:=Sum.inr q.1) (k3 _ _ hdh2 Y.nd.symm) (by rw[aR_,aa'];omega),?_⟩
  have est:putK (stF (ps.map (·.1)) f) (Sum.inr q.1) (.str h)=stF ((ps++[nrm q]).map (·.1)) (λm=>if m=q.1 then h else f m):=by
   rw[show putK (stF (ps.map (·.1)) f) (Sum.inr q.1) (.str h)=_ from dE_ nq,aq'];refine cm_ λm _=>?_;by_cases z:m=q.1
   ·simp[z]
   ·simp[z]
  rw[est];have k4:∀c o,H3 c=some o->c≠dh->upd H3 dh (.dK (stF ((ps++[nrm q]).map (·.1)) (λm=>if m=q.1 then h else f m))) c=some o:=λc o e n=>by rw[a5_ n];exact e
  have hdh4:upd H3 dh (.dK (stF ((ps++[nrm q]).map (·.1)) (λm=>if m=q.1 then h else f m))) dh=some (.dK (stF ((ps++[nrm q]).map (·.1)) (λm=>if m=q.1 then h else f m))):=a1_;generalize upd H3 dh (.dK (stF ((ps++[nrm q]).map (·.1)) (λm=>if m=q.1 then h else f m)))=H4 at k4 hdh4 ⊢;have hy4:=k4 _ _ hy3 ydh;have hdp4:=k4 _ _ hdp3 Y.nd;have hld4:=k4 _ _ (k3 _ _ hld2 lddp) lddh;have k24:∀c o,H2 c=some o->c≠dp->c≠dh->H4 c=some o:=λc o e n1 n2=>k4 _ _ (k3 _ _ e n1) n2;have W4:ba' K CW H4 p hs ts fpw:=W2.keep (λc hc o e=>k24 c o e (λz=>wdp (z▸hc)) (λz=>wdh (z▸hc))) λc xs e=>k24 c _ e (ac_ e hdp2 nofun) (ac_ e hdh2 nofun);have w1:=gp.w1;have w2':=gp.w2;refine⟨_,rfl,y,dx,fs,rfl,hy4,yf.no _ Z0,_,rfl,_,rfl,y,dx,p,dp,dh,ld,fs,b,q.2.1,h,hs,ts,fpw,rfl,hy4,yf,by omega,W4,Gd,hm,by omega,by omega,λH5 b' s5=>?_⟩;have k6:∀c o,H5 c=some o->c≠y->upd H5 y (.ins CY dx (putF "bound_in_parts" (.int b') fs)) c=some o:=λc o e n=>by rw[a5_ n];exact e
  have hy6:upd H5 y (.ins CY dx (putF "bound_in_parts" (.int b') fs)) y=some (.ins CY dx (putF "bound_in_parts" (.int b') fs)):=a1_;generalize upd H5 y (.ins CY dx (putF "bound_in_parts" (.int b') fs))=H6 at k6 hy6 ⊢;have yf6:=yf.put (b':=b');have hld6:=k6 _ _ (s5 _ _ hld4) yld.symm;refine⟨_,rfl,y,CY,dx,_,_,rfl,hy6,T.cl,T.nD,yf6.d,.inl ⟨rfl,_,.of hld6⟩,_,rfl,_,rfl,_,rfl,by show 4<=sizeLine;decide,λt2 nt2=>?_⟩;have s7:=Same.new (o:=.tup [.str "come",.str q.1,.int q.2.1,.str h]) nt2;generalize upd H6 t2 (.tup [.str "come",.str q.1,.int q.2.1,.str h])=H7 at s7 ⊢;refine⟨ld,ds,_,rfl,rfl,s7 _ _ hld6,by omega,?_⟩;have k8:∀c o,H7 c=some o->c≠ld->upd H7 ld (.lst (ds++[.ref t2])) c=some o:=λc o e n=>by rw[a5_ n];exact e
  have hld8:upd H7 ld (.lst (ds++[.ref t2])) ld=some (.lst (ds++[.ref t2])):=a1_;generalize upd H7 ld (.lst (ds++[.ref t2]))=H8 at k8 hld8 ⊢;have k48:∀c o,H4 c=some o->c≠y->c≠ld->H8 c=some o:=λc o e n1 n2=>k8 _ _ (s7 _ _ (k6 _ _ (s5 _ _ e) n1)) n2;have k28:∀c o,H2 c=some o->c≠y->c≠dp->c≠dh->c≠ld->H8 c=some o:=λc o e n1 n2 n3 n4=>k48 _ _ (k24 _ _ e n2 n3) n1 n4;have kt:∀c xs,H2 c=some (.tup xs)->H8 c=some (.tup xs):=λc xs e=>k28 c _ e (ac_ e hy2 nofun) (ac_ e hdp2 nofun) (ac_ e hdh2 nofun) (ac_ e hld2 nofun);have kl:∀c xs,H2 c=some (.lst xs)->c≠ld->H8 c=some (.lst xs):=λc xs e n=>k28 c _ e (ac_ e hy2 nofun) (ac_ e hdp2 nofun) (ac_ e hdh2 nofun) n
  have kw:∀(z:V) (o:Option (Xb)),WyAt K H2 z o->(∀a,z=.ref a->a≠ld)->WyAt K H8 z o:=λz o wz nz=>by
   cases o with
   |none=>exact wz
   |some ws=>
    obtain⟨a,ys,e,ha,tu⟩:=wz;exact⟨a,ys,e,kl a ys ha (nz a e),Paired.mapP tu λx k ⟨c,e,hc⟩=>⟨c,e,kt _ _ hc⟩⟩
  obtain⟨t',z,rfl,ht',wz,zn⟩:=pn
  have zld:∀a,z=.ref a->a≠ld:=λa e q=>by
   have:=zn a e;rw[q,s1 _ _ hld] at this;cases this
  obtain⟨m1,m2,m3,m4⟩:=Y.m;refine k H8 b' (refsV z++fp) (λc o e n1 n2 n3 n4=>k28 c o (s02 _ _ e) n1 n2 n3 n4) ⟨⟨dx,_,k8 _ _ (s7 _ _ hy6) yld,yf6,?_⟩,⟨fpw,W2.keep (λc hc o e=>k28 c o e (λz=>wy' (z▸hc)) (λz=>wdp (z▸hc)) (λz=>wdh (z▸hc)) (λz=>wld (z▸hc))) kt,λc hc=>ap' _ (wf c hc),wy',wdp,wdh,wld⟩,⟨yp++[.ref t'],k48 _ _ hdp4 ydp.symm lddp.symm,aF_ ?_ ?_⟩,k48 _ _ hdh4 ydh.symm lddh.symm,⟨_,hld8,by rw[ar',ar',lds];rfl⟩,Y.nd,⟨ap' _ m1,ap' _ m2,ap' _ m3,ap' _ m4⟩,λc hc=>?_⟩ (λc hc=>?_)
  ·rw[ar'];have:=be_ "bound_in_parts" (.int b') fs;show _<=10+(ps.length+1);omega
  ·exact Paired.mapP py λv q ⟨t,z,e,ht,wz,n⟩=>⟨t,z,e,kt _ _ (s02 _ _ ht),kw z _ (wz.same s02) (λa e=>(n a e).2),λa e=>⟨ap' _ (n a e).1,(n a e).2⟩⟩
  ·exact .cons ⟨t',z,rfl,kt _ _ ht',kw z _ wz zld,λa e=>⟨List.mem_append_left _ (by rw[e];exact aN'.mpr rfl),zld a e⟩⟩ .nil
  ·by_cases c1:c=y
   ·exact⟨_,c1▸k8 _ _ (s7 _ _ hy6) yld⟩
   by_cases c2:c=dp
   ·exact⟨_,c2▸k48 _ _ hdp4 ydp.symm lddp.symm⟩
   by_cases c3:c=dh
   ·exact⟨_,c3▸k48 _ _ hdh4 ydh.symm lddh.symm⟩
   by_cases c4:c=ld
   ·exact⟨_,c4▸hld8⟩
   rcases ay'.mp hc with hc|hc
   ·cases z with
    |ref a=>
     rw[aN'.mp hc] at c1 c2 c3 c4 ⊢;cases eo:(nrm q).2.2 with
     |none=>
      rw[eo] at wz;cases (show V.ref a=.non from wz)
     |some ws=>
      rw[eo] at wz;obtain⟨a',ys,e,ha,_⟩:=wz;cases e;exact⟨_,kl a ys ha c4⟩
    |_=>cases hc
   ·obtain⟨o,e⟩:=Y.has c hc;exact⟨o,k28 c o (s02 _ _ e) c1 c2 c3 c4⟩
  ·rcases ay'.mp hc with hc|hc
   ·refine .inr ?_;cases z with
    |ref a=>
     rw[aN'.mp hc];exact s1.free (zn a rfl)
    |_=>cases hc
   ·exact .inl hc
end
theorem ez_{ns:List Str}(f:Str->Str):sortKs (ns.map λn=>kT (n,f n))=(a4' ns).map λn=>kT (n,f n):=by
 have form:∀k∈sortKs (ns.map λn=>kT (n,f n)),∃n,n∈ns/\k=kT (n,f n):=λk hk=>by
  obtain⟨n,hn,e⟩:=af'.mp ((ag_ _).mem_iff.mp hk);exact⟨n,hn,e.symm⟩
 have e1:sortKs (ns.map λn=>kT (n,f n))=((sortKs (ns.map λn=>kT (n,f n))).map fstK).map λn=>kT (n,f n):=by
  rw[ah']
  conv=>lhs;rw[<- List.map_id (sortKs (ns.map λn=>kT (n,f n)))]
  refine az' λk hk=>?_;obtain⟨n,_,rfl⟩:=form k hk;rfl
 rw[e1];congr 1;refine c5_ ?_ ?_ (dm_ _)
 ·have p:=(ag_ (ns.map λn=>kT (n,f n))).map fstK;rw[ah'] at p
  have e:ns.map (fstK ∘ λn=>kT (n,f n))=ns:=by
   conv=>rhs;rw[<- List.map_id ns]
   exact az' λn _=>rfl
  rw[e] at p;exact p.trans (aj_ _).symm
 ·unfold SAsc;rw[aF'];refine (bq_ (ns.map λn=>kT (n,f n))).imp_of_mem λ{a b} ha hb q=>?_;obtain⟨x,_,rfl⟩:=form a ha;obtain⟨y,_,rfl⟩:=form b hb;show ltS y x=false;by_cases h:y=x
  ·rw[h,fU_]
  ·have q:(if (Sum.inr y:Key)=Sum.inr x then lexK [Sum.inr (f y)] [Sum.inr (f x)] else ltS y x)=false:=q;rwa [a_6 λe=>h (b_3 e)] at q
theorem bJ_{K:F__}{H:Hp}{f:Str->Str}:∀{ms:List Str} {zs:List V},aU' K H zs (ms.map λn=>kT (n,f n))->a9' K H zs (stF ms f)
 |[],_,.nil=>.nil
 |_::_,_,.cons ⟨a,e,h⟩ t=>.cons ⟨a,e,h⟩ (bJ_ (K:=K) t)
variable{g:Addr}{qs:List Pc}
theorem aX'.slim2{K:F__}{CG CW:Addr}{H:Hp}{p:Addr}{hs:Xa}{ts:Xb}{fp:List Addr}(G:aX' K CG CW H g p hs ts qs fp):∃fp',aX' K CG CW H g p hs ts qs fp'/\(∀b∈fp',∃o,H b=some o)/\∀c∈fp',c∈fp:=by
 obtain⟨dx,dw,dy,vs,fpw,h1,h2,h3,h4,h5,m1,m2,m3,m4,m5⟩:=G.ex;refine⟨g::dw::dy::(fpw++vs.filterMap λv=>match v with | .ref a=>some a|_=>none),⟨dx,dw,dy,vs,fpw,h1,h2,h3,h4,h5,by simp,by simp,by simp,λb hb=>by simp[hb],λv hv a z=>?_⟩,λb hb=>?_,λb hb=>?_⟩
 ·have:a∈vs.filterMap λv=>match v with | .ref a=>some a|_=>none:=aH'.mpr ⟨v,hv,by rw[z]⟩;simp only[aj',ay'];exact .inr (.inr (.inr (.inr this)))
 ·simp only[aj',ay'] at hb;rcases hb with rfl|rfl|rfl|hb|hb
  ·exact⟨_,h1⟩
  ·exact⟨_,h3⟩
  ·exact⟨_,h4⟩
  ·exact h2.has hb
  ·obtain⟨v,hv,e⟩:=aH'.mp hb;obtain⟨i,hi,ev⟩:=aD' hv;have le:=a_5 h5;have w:=ak_ h5 i hi Z1;rw[ev] at w;cases o:(qs[i]' Z1).2.2 with
   |none=>
    rw[o] at w;rw[show v=.non from w] at e;cases e
   |some ws=>
    rw[o] at w;obtain⟨a,ys,ea,ha,_⟩:=w;rw[ea] at e;cases e;exact⟨_,ha⟩
 ·simp only[aj',ay'] at hb;rcases hb with rfl|rfl|rfl|hb|hb
  ·exact m1
  ·exact m2
  ·exact m3
  ·exact m4 b hb
  ·obtain⟨v,hv,e⟩:=aH'.mp hb;cases v with
   |ref a=>
    cases e;exact m5 _ hv _ rfl
   |_=>cases e
structure Pok (hs:Xa) (ts:Xb) (ps:List Pc) (f:Str->Str):Prop where
 Gd:Good hs ts
 gp:∀q∈ps,bG' ts q
 nd:(ps.map (·.1)).Nodup
 h30:ps.length<=30
 at_:∀n∈ps.map (·.1),f n∈hs.map (·.1)
theorem Qs.nds{ps:List Pc}(Qq:Qs ps qs)(nd:(ps.map (·.1)).Nodup):(qs.map (·.1)).Nodup:=by
 rw[Qq.nms];exact (aj_ _).nodup_iff.mpr nd
theorem Qs.lens{ps:List Pc}(Qq:Qs ps qs):qs.length=ps.length:=by
 have:=b_7 List.length Qq.nms;rw[aa',(aj_ _).length_eq,aa'] at this;exact this
section
variable{P:Ad}{w:Af}{K:F__}{mg:Str->Option Aa}{base:Heap}
theorem scYGoods:aT' ["self"] ["self"] (aS' cC'):=f__
inductive bj' (K:F__) (CY CG CW:Addr) (vs:List V) (H:Hp) (Q:VK) (E:XK):Prop
 |mk:∀(y p dp dh ld:Addr) (hs:Xa) (ts:Xb) (ps:List Pc) (f:Str->Str) (b:Int) (fp:List Addr),vs=[.ref y]->a1' K CY CW H y p dp dh ld hs ts ps f b fp->Pok hs ts ps f->(∀g qs fpg H',Same H H'->H g=none->aX' K CG CW H' g p hs ts qs fpg->Qs ps qs->(∀c∈fpg,∃o,H' c=some o)->(∀c∈fpg,c∈fp∨H c=none)->Q (.ref g) H')->bj' K CY CG CW vs H Q E
theorem fa_{f0 CY CG CW:Addr}{fd:Ae}(F:Fun K "goods" "Yard.goods" cC' f0 fd)(B:Bi mg)(T:TxtY K CY)(cG:CalC P w K mg base CG 7 "Goods" ["self","web","pieces"] (ck' K CG CW)):FnOk P w K mg base CX0 9 f0 fd ["self"] (bj' K CY CG CW):=by
 refine F.ok scYGoods (λvs H Q E h=>?_) (λcdv A outer s H vs Q E hr h=>?_)
 ·obtain⟨y,p,dp,dh,ld,hs,ts,ps,f,b,fp,rfl,_⟩:=h;rfl
 ·obtain⟨y,p,dp,dh,ld,hs,ts,ps,f,b,fp,rfl,Y,S,k⟩:=h;refine⟨_,a6_ (ae_ (hJ_ cG hr (a0_ (az_ (pv 0) rfl) (a0_ (aw_ (ey_ rfl) (by rfl) B.list PyProof.Rows.Boot.«list» (a0_ (cf_ (az_ (pv 0) rfl)) a3_)) a3_)))),?_⟩;obtain⟨dx,fs,hy,yf,lf⟩:=Y.ex;obtain⟨fpw,W,wf,_⟩:=Y.W;obtain⟨yp,hdp,py⟩:=Y.P;have lyp:=a_5 py;have h30:=S.h30;refine⟨_,rfl,y,CY,dx,fs,_,rfl,hy,T.cl,T.nW,yf.w,_,rfl,y,CY,dx,fs,_,rfl,hy,T.cl,T.nP,yf.pn,dp,_,rfl,hdp,λv hv=>?_⟩;obtain⟨s1,e1⟩:=nw__ (o:=a3' v dp) hv;generalize upd H v (a3' v dp)=H1 at s1 e1 ⊢;refine⟨v,dp,_,rfl,e1,.of (s1 _ _ hdp),λl hl=>?_⟩;rw[dY_ lyp];obtain⟨s2,e2⟩:=nw__ (o:=.lst yp) hl;generalize upd H1 l (.lst yp)=H2 at s2 e2 ⊢;have s02:=s1.trans s2;intro g dxg hg hdg ndg;have s10:Same H2 (upd (upd H2 dxg (.own g)) g (.ins CG dxg [])):=(Same.new hdg).trans (Same.new (by rw[a5_ ndg.symm];exact hg));have hg8:upd (upd H2 dxg (.own g)) g (.ins CG dxg []) g=some (.ins CG dxg []):=a1_;generalize upd (upd H2 dxg (.own g)) g (.ins CG dxg [])=H10 at s10 hg8 ⊢;have s010:=s02.trans s10
  have gw:g∉fpw:=λm=>by
   obtain⟨o,e⟩:=(W.same s02).has m;rw[hg] at e;cases e
  refine⟨g,dxg,p,l,yp,ps,hs,ts,fpw,rfl,hg8,W.same s010,gw,S.Gd,s10 _ _ e2,Paired.mapP py λv q ⟨t,z,e,ht,wy,_⟩=>⟨t,z,e,s010 _ _ ht,wy.same s010⟩,S.gp,S.nd,by omega,λqs fpg H11 keep GA Qq nf=>⟨rfl,?_⟩⟩;obtain⟨fp',G',has,sub⟩:=GA.slim2
  exact k g qs fp' H11 (λc o e=>keep c o (s010 _ _ e) (a7_ (s02 _ _ e) hg)) (s02.free hg) G' Qq has (λc hc=>by
   rcases nf c (sub c hc) with rfl|z|z
   ·exact .inr (s02.free hg)
   ·exact .inl (wf c z)
   ·exact .inr (s010.free z))
theorem scYStand:aT' ["self"] ["self"] (aS' cD'):=f__
inductive bg' (K:F__) (CY CW:Addr) (vs:List V) (H:Hp) (Q:VK) (E:XK):Prop
 |mk:∀(y p dp dh ld:Addr) (hs:Xa) (ts:Xb) (ps:List Pc) (f:Str->Str) (b:Int) (fp:List Addr),vs=[.ref y]->a1' K CY CW H y p dp dh ld hs ts ps f b fp->Pok hs ts ps f->(∀d H',Same H H'->H d=none->H' d=some (.dK (stF (a4' (ps.map (·.1))) f))->Q (.ref d) H')->bg' K CY CW vs H Q E
theorem fS_{f0 CY CW:Addr}{fd:Ae}(F:Fun K "stand" "Yard.stand" cD' f0 fd)(B:Bi mg)(T:TxtY K CY):FnOk P w K mg base CX0 1 f0 fd ["self"] (bg' K CY CW):=by
 refine F.ok scYStand (λvs H Q E h=>?_) (λcdv A outer s H vs Q E hr h=>?_)
 ·obtain⟨y,p,dp,dh,ld,hs,ts,ps,f,b,fp,rfl,_⟩:=h;rfl
 ·obtain⟨y,p,dp,dh,ld,hs,ts,ps,f,b,fp,rfl,Y,S,k⟩:=h;refine⟨_,a6_ (ae_ (aw_ (aU_ rfl) (by rfl) B.dict PyProof.Rows.Boot.«dict» (a0_ (a9_ (ct_ rfl) (by rfl) B.sorted PyProof.Rows.Boot.«sorted» (a0_ (c2_ (az_ (pv 0) rfl)) a3_)) a3_))),?_⟩;obtain⟨dx,fs,hy,yf,lf⟩:=Y.ex;have h30:=S.h30;have lns:(ps.map (·.1)).length<=30:=by rw[aa'];exact h30
  refine⟨_,rfl,y,CY,dx,fs,_,rfl,hy,T.cl,T.nH,yf.hn,dh,_,rfl,Y.Hd,λv hv=>?_⟩;obtain⟨s1,e1⟩:=nw__ (o:=a8' v dh) hv;generalize upd H v (a8' v dh)=H1 at s1 e1 ⊢;have ns1:=S.nd;refine⟨v,dh,_,(ps.map (·.1)).map λn=>(Sum.inr n,Sum.inr (f n)),[true,true],rfl,e1,s1 _ _ Y.Hd,?_,⟨by decide,λq hq=>?_⟩,by rw[aa'];omega,λl H2 zs s2 hn tz=>?_⟩
  ·show (ps.map (·.1)).map (λn=>((Sum.inr n:Key),V.str (f n)))=_;generalize ps.map (·.1)=ns;rw[ah'];rfl
  ·rw[ah'] at hq;obtain⟨n,_,rfl⟩:=af'.mp hq;rfl
  ·have ez:(((ps.map (·.1)).map λn=>((Sum.inr n:Key),(Sum.inr (f n):Key))).map λk=>[k.1,k.2])=(ps.map (·.1)).map λn=>kT (n,f n):=by generalize ps.map (·.1)=ns;rw[ah'];rfl
   rw[ez,ez_] at tz;obtain⟨s3,e3⟩:=nw__ (o:=.lst zs) hn;have pz:=bJ_ (tz.same s3);generalize upd H2 l (.lst zs)=H3 at s3 e3 pz ⊢;have ls:(a4' (ps.map (·.1))).length<=30:=by rw[(aj_ _).length_eq];exact lns
   refine⟨l,zs,_,rfl,e3,pz,by show (mKV _ _).length<=1000;rw[aR_];omega,λd hd=>?_⟩
   have ndk:((stF (a4' (ps.map (·.1))) f).map (·.1)).Nodup:=by
    rw[show (stF (a4' (ps.map (·.1))) f).map (·.1)=(a4' (ps.map (·.1))).map Sum.inr from cP_ ..,aA',aF'];exact ((aj_ _).nodup_iff.mpr ns1).imp λn e=>n (b_3 e)
   rw[b5_ ndk];have sAll:=(s1.trans s2).trans s3;exact k d _ (sAll.trans (Same.new hd)) (sAll.free hd) a1_
theorem da_{CG CW:Addr}{H:Hp}{p d:Addr}{hs:Xa}{ts:Xb}{ps:List Pc}{f:Str->Str}{fpg:List Addr}(S:Pok hs ts ps f)(s:Same H H')(G:aX' K CG CW H g p hs ts qs fpg)(Qq:Qs ps qs)(has:∀c∈fpg,∃o,H c=some o)(nd:H d=none)(hd:H' d=some (.dK (stF (a4' (ps.map (·.1))) f))):cR' K CG CW H' g p d hs ts qs fpg f:=by
 refine⟨G.same s,S.Gd,λm=>?_,by rw[Qq.nms];exact hd,λn hn=>?_,Qq.nds S.nd,?_⟩
 ·obtain⟨o,e⟩:=has d m;rw[nd] at e;cases e
 ·rw[Qq.nms] at hn;exact S.at_ n ((aj_ _).mem_iff.mp hn)
 ·have:=Qq.lens;have:=S.h30;omega
theorem scYLoads:aT' ["self"] ["self"] (aS' cx'):=f__
inductive bb' (K:F__) (CY CW:Addr) (vs:List V) (H:Hp) (Q:VK) (E:XK):Prop
 |mk:∀(y p dp dh ld:Addr) (hs:Xa) (ts:Xb) (ps:List Pc) (f:Str->Str) (b:Int) (fp:List Addr),vs=[.ref y]->a1' K CY CW H y p dp dh ld hs ts ps f b fp->Pok hs ts ps f->(∀d kvs H',Same H H'->H d=none->H' d=some (.dK kvs)->kvs.length=hs.length->Q (.ref d) H')->bb' K CY CW vs H Q E
theorem fJ_{f0 CY CG CW:Addr}{fd:Ae}(F:Fun K "loads" "Yard.loads" cx' f0 fd)(T:TxtY K CY)(cY:CalM P w K mg base CY 9 "goods" ["self"] (bj' K CY CG CW))(cS:CalM P w K mg base CY 1 "stand" ["self"] (bg' K CY CW))(cL:Cal P w K mg base 3 "loads_at" ["goods","placed"] (bp' K CG CW)):FnOk P w K mg base CX0 10 f0 fd ["self"] (bb' K CY CW):=by
 refine F.ok scYLoads (λvs H Q E h=>?_) (λcdv A outer s H vs Q E hr h=>?_)
 ·obtain⟨y,p,dp,dh,ld,hs,ts,ps,f,b,fp,rfl,_⟩:=h;rfl
 ·obtain⟨y,p,dp,dh,ld,hs,ts,ps,f,b,fp,rfl,Y,S,k⟩:=h;have hr1:Room 1 _:=hr.mono (by decide);have hr3:Room 3 _:=hr.mono (by decide);refine⟨_,a6_ (ae_ (ai_ cL hr3 (a0_ (aK_ cY T.cl hr (pv 0)) (a0_ (aK_ cS T.cl hr1 (pv 0)) a3_)))),?_⟩;obtain⟨dx,fs,hy,yf,lf⟩:=Y.ex;refine⟨_,rfl,y,dx,fs,rfl,hy,yf.no _ Z0,y,p,dp,dh,ld,hs,ts,ps,f,b,fp,rfl,Y,S,λg qs fpg H1 s1 hg G Qq has _=>?_⟩;refine⟨_,rfl,y,dx,fs,rfl,s1 _ _ hy,yf.no _ Z0,y,p,dp,dh,ld,hs,ts,ps,f,b,fp,rfl,Y.same s1,S,λd H2 s2 nd e2=>?_⟩;refine⟨g,p,d,hs,ts,qs,fpg,f,rfl,da_ S s2 G Qq has nd e2,λd2 H3 s3 n3 e3=>?_⟩;exact k d2 _ H3 ((s1.trans s2).trans s3) ((s1.trans s2).free n3) e3 (by show (mKV _ _).length=_;rw[aR_];exact (aC_ hs).length_eq.trans (aa' _))
theorem c3':aT' ["self"] ["self"] (aS' bW'):=f__
theorem dU_{f0 CY CG CW:Addr}{fd:Ae}(F:Fun K "heights" "Yard.heights" bW' f0 fd)(T:TxtY K CY)(cY:CalM P w K mg base CY 9 "goods" ["self"] (bj' K CY CG CW))(cS:CalM P w K mg base CY 1 "stand" ["self"] (bg' K CY CW))(cL:Cal P w K mg base 4 "heights_at" ["goods","placed"] (bk' K CG CW)):FnOk P w K mg base CX0 10 f0 fd ["self"] (bb' K CY CW):=by
 refine F.ok c3' (λvs H Q E h=>?_) (λcdv A outer s H vs Q E hr h=>?_)
 ·obtain⟨y,p,dp,dh,ld,hs,ts,ps,f,b,fp,rfl,_⟩:=h;rfl
 ·obtain⟨y,p,dp,dh,ld,hs,ts,ps,f,b,fp,rfl,Y,S,k⟩:=h;have hr1:Room 1 _:=hr.mono (by decide);have hr4:Room 4 _:=hr.mono (by decide);refine⟨_,a6_ (ae_ (ai_ cL hr4 (a0_ (aK_ cY T.cl hr (pv 0)) (a0_ (aK_ cS T.cl hr1 (pv 0)) a3_)))),?_⟩;obtain⟨dx,fs,hy,yf,lf⟩:=Y.ex;refine⟨_,rfl,y,dx,fs,rfl,hy,yf.no _ Z0,y,p,dp,dh,ld,hs,ts,ps,f,b,fp,rfl,Y,S,λg qs fpg H1 s1 hg G Qq has _=>?_⟩;refine⟨_,rfl,y,dx,fs,rfl,s1 _ _ hy,yf.no _ Z0,y,p,dp,dh,ld,hs,ts,ps,f,b,fp,rfl,Y.same s1,S,λd H2 s2 nd e2=>?_⟩;refine⟨g,p,d,hs,ts,qs,fpg,f,rfl,da_ S s2 G Qq has nd e2,λq hq=>?_,λd2 gg H3 s3 n3 e3 _=>?_⟩
  ·obtain⟨q',hq',rfl⟩:=Qq.mem q hq;have:=(S.gp q' hq').w1;show 0<=q'.2.1;omega
  ·exact k d2 _ H3 ((s1.trans s2).trans s3) ((s1.trans s2).free n3) e3 (by rw[aR_];exact (aC_ hs).length_eq.trans (aa' _))
end
theorem stt.ne{H:Hp}{l:Addr}(h:stt H l)(e:H a=none):a≠l:=by
 rintro rfl;obtain⟨xs,h⟩:=h.some;rw[e] at h;cases h
theorem But.snd{l:Addr}{H:Hp}(h:But l H H')(e:H a=none):But l H (L2.upd H' a o):=λb u q n=>by
 rw[a5_ (a7_ q e)];exact h b u q n
theorem dM_{H:Hp}{l d:Addr}{u:HO}(h:stt H l)(ne:d≠l):stt (upd H d u) l:=by
 rcases h with⟨n,e⟩|⟨n,m,c,e⟩
 ·exact .inl ⟨n,by rw[a5_ ne.symm];exact e⟩
 ·exact .inr ⟨n,m,c,by rw[a5_ ne.symm];exact e⟩
structure Wdr (ts ws:Xb) (i:Nat):Prop where
 good:∀w∈ws,ct' w
 us:∃us:Xb,us.Sublist (ts.take i)/\(ws.map kO).Perm (us.map kO)
variable{ws:Xb}
theorem Wdr.ways{ts:Xb}(W:Wdr ts ws ts.length)(nd:(ts.map kO).Nodup):bl' ts ws:=by
 obtain⟨us,sub,p⟩:=W.us;rw[ax'] at sub;refine⟨W.good,p.nodup_iff.mpr ((sub.map kO).nodup nd),λw hw=>?_,?_⟩
 ·exact (sub.map kO).subset (p.mem_iff.mp (List.mem_map_of_mem hw))
 ·have:=p.length_eq;rw[aa',aa'] at this;have:=sub.length_le;omega
variable{i:Nat}
theorem Wdr.len{ts:Xb}(W:Wdr ts ws i):ws.length<=ts.length:=by
 obtain⟨us,sub,p⟩:=W.us;have:=p.length_eq;rw[aa',aa'] at this;have:=sub.length_le;rw[ak'] at this;omega
theorem Wdr.skip{ts:Xb}(W:Wdr ts ws i):Wdr ts ws (i+1):=by
 obtain⟨us,sub,p⟩:=W.us;refine⟨W.good,us,sub.trans ?_,p⟩;rw[aE'];exact List.sublist_append_left _ _
variable{k:Nat}
theorem Wdr.add{ts:Xb}{t w:Str × Str}(W:Wdr ts ws i)(ht:ts[i]? = some t)(gt:ct' t)(hw:w=t∨w=(t.2,t.1)):Wdr ts (bQ' ws k w) (i+1):=by
 obtain⟨us,sub,p⟩:=W.us
 have kw:kO w=kO t:=by
  rcases hw with rfl|rfl
  ·rfl
  ·exact hK_ t.2 t.1
 refine⟨λx hx=>?_,us++[t],?_,?_⟩
 ·rcases aj'.mp ((cw_ ws k w).mem_iff.mp hx) with rfl|hx
  ·rcases hw with rfl|rfl
   ·exact gt
   ·exact⟨gt.2.1,gt.1,λe=>gt.2.2 e.symm⟩
  ·exact W.good x hx
 ·rw[aE',ht];exact sub.append (List.Sublist.refl _)
 ·have q:=(cw_ ws k w).map kO;rw[aq'];refine q.trans ?_;rw[au',kw];exact (List.Perm.cons _ p).trans (List.perm_append_comm (l₁:=[kO t]) (l₂:=us.map kO))
section
variable{P:Ad}{w:Af}{K:F__}{mg:Str->Option Aa}{base:Heap}
theorem cH':aT' ["_law_state","_law_ties","_law_found","_law_tie"] ["_law_state","_law_ties"] (aS' sTWays):=f__
inductive co' (K:F__) (vs:List V) (H:Hp) (Q:VK) (E:XK):Prop
 |mk:∀(l lt:Addr) (zs:List V) (ts:Xb),vs=[.ref l,.ref lt]->stt H l->H lt=some (.lst zs)->lt≠l->aU' K H zs (ts.map kT)->(∀t∈ts,ct' t)->(ts.map kO).Nodup->ts.length<64->(∀a ys ws H',But l H H'->stt H' l->H a=none->H' a=some (.lst ys)->aU' K H' ys (ws.map kT)->bl' ts ws->Q (.ref a) H')->co' K vs H Q E
theorem gg_{f0:Addr}{fd:Ae}(F:Fun K "_law_turned_ways" "_law_turned_ways" sTWays f0 fd)(B:Bi mg)(cD:Cal P w K mg base 1 "_law_digit" ["_law_state","_law_base"] bs'):FnOk P w K mg base CX0 2 f0 fd ["_law_state","_law_ties"] (co' K):=by
 refine F.ok cH' (λvs H Q E h=>?_) (λcdv A outer s H vs Q E hr h=>?_)
 ·obtain⟨l,lt,zs,ts,rfl,_⟩:=h;rfl
 ·obtain⟨l,lt,zs,ts,rfl,st,hlt,ltl,tu,good,nd,h64,k⟩:=h;have sz:=b__;have lz:=a_5 tu;rw[aa'] at lz;refine' ⟨_,a2_ ?s1 (a2_ ?s2 (a6_ (ae_ (pv 2)))),?kk⟩
  case s1=>exact ad_ (i:=2) cH'.nd rfl (Or.inl rfl) (bn_ a3_)
  case' s2=>refine' aP_ b_0 rfl (av_ (pv 1)) (aa_ (i:=3) cH'.nd rfl (Or.inl rfl)) (a6_ (au_ (ar_ ck_ (ai_ cD hr (a0_ (pv 0) (a0_ a8_ a3_))) a8_ (nomark _)) (a6_ (aq_ ?ins)) ab_))
  case ins=>exact dA_ b_2 PySem.F.slot_list_insert PySem.F.type_list_insert fo_ (pv 2) (a0_ (ai_ cD hr (a0_ (pv 0) (a0_ (as_ b3_ (a9_ am_ (by rfl) B.len b_5 (a0_ (pv 2) a3_)) a8_) a3_))) (a0_ (aA_ aG_ (bn_ (a0_ (pv 3) (a0_ (hT_ (pv 3) (iI_ il_ a8_)) a3_))) (ai_ cD hr (a0_ (pv 0) (a0_ a8_ a3_))) (λ_ _=>rfl)) a3_))
  case' kk=>skip
  refine⟨aC' _,λa ha=>?_⟩;obtain⟨s1,e1⟩:=nw__ (o:=.lst []) ha;have al:=st.ne ha;generalize upd H a (.lst [])=H1 at s1 e1 ⊢;refine setG ?_;dsimp only;have b1:But l H H1:=But.of s1;refine⟨_,rfl,lt,rfl,⟨_,.of (s1 _ _ hlt)⟩,aH_ (K:=K) (a:=lt) (xs:=zs) (λi σ H'=>∃(v3:Option V) (ys:List V) (ws:Xb),σ=[some (.ref l),some (.ref lt),some (.ref a),v3]/\But l H H'/\stt H' l/\H' a=some (.lst ys)/\aU' K H' ys (ws.map kT)/\Wdr ts ws i) ⟨none,[],[],rfl,b1,st.same s1,e1,.nil,⟨λw hw=>(by cases hw),[],List.nil_sublist _,List.Perm.refl _⟩⟩ (λi σ H' _ ⟨_,_,_,_,b,_⟩=>.of (b _ _ hlt ltl)) ?_ ?_⟩;rotate_left 1
  ·rintro σ H2 ⟨v3,ys,ws,rfl,b2,st2,e2,tu2,W⟩;rw[lz] at W;exact⟨_,rfl,k a ys ws H2 b2 st2 ha e2 tu2 (W.ways nd)⟩
  rintro i y σ H2 hy ⟨v3,ys,ws,rfl,b2,st2,e2,tu2,W⟩;obtain⟨xs0,hl0⟩:=st.some;obtain⟨t,ht,p,rfl,hp⟩:=aM_ tu hy;have hi:i<ts.length:=(ab'.mp ht).1;refine⟨_,rfl,l,2,rfl,by decide,by decide,st2,λr H3 r0 r1 b3 st3=>⟨rfl,_,rfl,?_⟩⟩;obtain⟨xs2,hl2⟩:=st2.some;have e3:=b3 _ _ e2 al;have tu3:=al_ tu2 b3 hl2;have b03:=b2.trans b3;refine ite2 (λc=>?_) (λc=>?_);rotate_left 1
  ·exact⟨_,ys,ws,rfl,b03,st3,e3,tu3,W.skip⟩
  have lw:=W.len;have lo:=a_5 tu3;rw[aa'] at lo;refine⟨_,rfl,.inl ⟨rfl,_,.of e3⟩,_,rfl,_,rfl,a,_,rfl,.inl (.of e3),_,_,rfl,rfl,l,(ys.length:Int)+1,rfl,by omega,by omega,st3,λr2 H4 q0 q1 b4 st4=>?_⟩;obtain⟨r2,rfl⟩:=aB' q0;have b04:=b03.trans b4;have hp4:=b04 _ _ hp (ac_ hp hl0 nofun);refine⟨_,rfl,_,rfl,_,rfl,rfl,p,_,_,rfl,.of (hpT hp4),λq hq=>?_⟩;obtain⟨s5,e5⟩:=nw__ (o:=.tup [.str t.2,.str t.1]) hq;generalize upd H4 q (.tup [.str t.2,.str t.1])=H5 at s5 e5 ⊢;refine⟨by show 2<=sizeLine;decide,λlx nlx=>?_⟩;obtain⟨s6,e6⟩:=nw__ (o:=.lst [.ref p,.ref q]) nlx;have lxl:=(st4.same s5).ne nlx;generalize upd H5 lx (.lst [.ref p,.ref q])=H6 at s6 e6 ⊢;have s46:=s5.trans s6;have st6:=st4.same s46;obtain⟨xs6,hl6⟩:=st6.some;refine⟨_,rfl,l,2,rfl,by decide,by decide,st6,λr3 H7 z0 z1 b7 st7=>?_⟩;have b47:But l H4 H7:=(But.of s46).trans b7;have hp7:=b7 _ _ (s46 _ _ hp4) (ac_ (s46 _ _ hp4) hl6 nofun);have hq7:=b7 _ _ (s6 _ _ e5) (ac_ (s6 _ _ e5) hl6 nofun);have e7:=b7 _ _ e6 lxl
  have pick:∃(c:Addr) (tt:Str × Str),atI [V.ref p,V.ref q] r3=some (.ref c)/\H7 c=some (.tup ((kT tt).map kV))/\(tt=t∨tt=(t.2,t.1)):=by
   rcases hit2 (a:=V.ref p) (b:=V.ref q) z0 z1 with e|e
   ·exact⟨p,t,e,hp7,.inl rfl⟩
   ·exact⟨q,(t.2,t.1),e,hq7,.inr rfl⟩
  obtain⟨c,tt,et,hc,etc⟩:=pick;obtain⟨xs3,hl3⟩:=st3.some;obtain⟨xs4,hl4⟩:=st4.some;have ea7:=b47 _ _ (b4 _ _ e3 al) al;have tu7:=al_ (al_ tu3 b4 hl3) b47 hl4;refine⟨lx,_,_,_,rfl,rfl,.of e7,et,a,r2,ys,_,rfl,rfl,ea7,by omega,by omega,?_⟩;refine⟨_,bQ' ys r2 (.ref c),bQ' ws r2 tt,rfl,(b04.trans b47).snd ha,dM_ st7 al,a1_,?_,W.add ht (good t (ai' ht)) etc⟩;rw[fq_];exact bp_ (cC_ r2 tu7 ⟨c,rfl,hc⟩) ea7
end
abbrev tOrd(K:F__):TE:=tCB (rTupOf K) (cq' (tCB (cP' K) (cq' (tCB (cN' K) (cq' (tVar 0) tNil)) tNil)) tNil)
abbrev tSrt(K:F__)(i:Nat):TE:=tCB (rSortT K) (cq' (tComp (iList K (tVar i)) 1 [] (bD' 0) tYes (tOrd K)) tNil)
theorem srtG{K:F__}{σ:St}{lt:Addr}{zs:List V}{ts:Xb}{H:Hp}{Q:VK}(hi:σ[i]? = some (some (.ref lt)))(hlt:H lt=some (.lst zs))(tt:aU' K H zs (ts.map kT))(h64:ts.length<64)(q:∀l zs' H',Same H H'->H l=none->H' l=some (.lst zs')->aU' K H' zs' ((tsOf ts).map kT)->Q (.ref l) H'):tSrt K i σ H Q:=by
 have sz:=b__;have lz:=a_5 tt;rw[aa'] at lz;refine⟨_,hi,lt,rfl,⟨_,.of hlt⟩,λD2 hD2=>?_⟩;refine aQ_ (own:=1) (fv:=[]) (xs:=zs) rfl gok1 (λi out H'=>Same H H'/\H' D2=some (.lst out)/\aU' K H' out ((ts.take i).map kO)) ⟨Same.new hD2,a1_,.nil⟩ (λi out H' _ ⟨sm,_,_⟩=>.of (sm _ _ hlt)) (λout H6 ⟨s6,hD6,t6⟩=>?_) (λj y out H' hy ⟨sm,hD',to⟩=>?_);rotate_left
 ·obtain⟨t,ht,a,rfl,ha⟩:=aM_ tt hy;refine⟨_,rfl,rfl,λNx hN=>yesT ?_⟩;have ha':=sm _ _ (hpT ha);refine⟨_,rfl,a,_,rfl,.inr (.of ha'),λla hla=>?_⟩;refine⟨la,[t.1,t.2],rfl,.of a1_,by show 2<64;decide,λlc hlc=>?_⟩;rw[gO_];refine⟨lc,_,rfl,.inl ⟨.of a1_,λtq htq=>?_⟩⟩;have sA:=((Same.new (o:=.lst [.str t.1,.str t.2]) hla).trans (Same.new (o:=.lst ([(ord2 t.1 t.2).1,(ord2 t.1 t.2).2].map V.str)) hlc)).trans (Same.new (o:=.tup ([(ord2 t.1 t.2).1,(ord2 t.1 t.2).2].map V.str)) htq);have lo:=a_5 to;rw[aa',ak'] at lo;refine⟨out,sA _ _ hD',by omega,hN _ _ ⟨ay_ (sm.trans sA) hD2,a1_,?_⟩⟩;rw[ax_ _ ht];exact bp_ (bC_ (to.same sA) a1_) (sA _ _ hD')
 rw[lz,ax'] at t6;refine⟨D2,out,ts.map kO,[true,true],rfl,.of hD6,t6,⟨by decide,λq hq=>?_⟩,by rw[aa'];exact h64,λl3 zs3 hl3 tz3 _=>?_⟩
 ·obtain⟨t,_,rfl⟩:=af'.mp hq;rfl
 have tz7:aU' K (upd H6 l3 (.lst zs3)) zs3 ((tsOf ts).map kT):=by
  rw[b6_];exact tz3.same (Same.new hl3)
 exact q l3 zs3 _ (s6.trans (Same.new hl3)) (s6.free hl3) a1_ tz7
variable{e o:Expr}{t:TA}{X:Cx}{C:Addr}{sp:Sp}{apos pos:Pos}{es:List Expr}{ta:TE}{pl:Sem Bool}
theorem eo_(c:CalY X.prog X.w X.K X.mg X.base C k sp)(cl:Cls X.K C)(hr:Room k X.A)(he:PE X o ta)(ha:PA X (e::es) t)
  (hst:starEach (e::es) X.env=(false,eval e X.env)::starEach es X.env:=by rfl) (hpl:(backTo pos (starEach es X.env)).any (·.1)=false:=by rfl)
  (ht:eval (.Call (.Attribute o "come" apos) (e::es) [] pos) X.env=(do
   let ov <- eval o X.env
   standAt apos.atName
   let (f,first) <- holding [ov] (getMethod ov "come" pl)
   callWith pos f first (backTo pos (starEach (e::es) X.env)) (backToKw pos (keywordEach [] X.env))):=by rfl) :
  PE X (.Call (.Attribute o "come" apos) (e::es) [] pos) (cL' C "come" sp [] E0 ta t):=by
 obtain⟨f,fd,F,hm,b,_⟩:=c.ex;exact cJ_ he cl hm F hr b .nil pass0 ha hst hpl ht
theorem gj_(c:CalY X.prog X.w X.K X.mg X.base C k sp)(cl:Cls X.K C)(hr:Room k X.A)(he:PE X o ta)(ha:PA X (e::es) t)
  (hst:starEach (e::es) X.env=(false,eval e X.env)::starEach es X.env:=by rfl) (hpl:(backTo pos (starEach es X.env)).any (·.1)=false:=by rfl)
  (ht:eval (.Call (.Attribute o "come" apos) (e::es) [] pos) X.env=(do
   let ov <- eval o X.env
   standAt apos.atName
   let (f,first) <- holding [ov] (getMethod ov "come" pl)
   callWith pos f first (backTo pos (starEach (e::es) X.env)) (backToKw pos (keywordEach [] X.env))):=by rfl) :
  PE X (.Call (.Attribute o "come" apos) (e::es) [] pos) (cL' C "come" sp [.non] E0 ta t):=by
 obtain⟨f,fd,F,hm,_,b,_⟩:=c.ex;exact cJ_ he cl hm F hr b (.cons rfl .nil) pass0 ha hst hpl ht
variable{tk:TA}{kws:List Keyword}
theorem e0_(c:CalY X.prog X.w X.K X.mg X.base C k sp)(cl:Cls X.K C)(hr:Room k X.A)(he:PE X o ta)(ha:PA X (e::es) t)(hkw:PK X kws tk)(hall:(backToKw pos (keywordEach kws X.env)).all (·.1.isSome)=true:=by rfl)(hks:(backToKw pos (keywordEach kws X.env)).filterMap (·.1)=(["ways"]:List Str):=by rfl)
  (hst:starEach (e::es) X.env=(false,eval e X.env)::starEach es X.env:=by rfl)
  (hpl:((backTo pos (starEach (e::es) X.env)).any (·.1) || (backToKw pos (keywordEach kws X.env)).any (·.1.isNone))=false:=by rfl)
  (ht:eval (.Call (.Attribute o "come" apos) (e::es) kws pos) X.env=(do
   let ov <- eval o X.env
   standAt apos.atName
   let (f,first) <- holding [ov] (getMethod ov "come" pl)
   callWith pos f first (backTo pos (starEach (e::es) X.env)) (backToKw pos (keywordEach kws X.env))):=by rfl) :
  PE X (.Call (.Attribute o "come" apos) (e::es) kws pos) (tMethK C "come" sp gC E0 ta t tk):=by
 obtain⟨f,fd,F,hm,_,_,b⟩:=c.ex;exact h2_ he cl hm F hr b pass0 ha hkw hall hks hst hpl ht
section
variable{P:Ad}{w:Af}{K:F__}{mg:Str->Option Aa}{base:Heap}
theorem bE':aT' ["_law_yard","_law_state","_law_name","_law_hand","_law_ties","_law_weight","_law_handed","_law_way","_law_due"] ["_law_yard","_law_state","_law_name","_law_hand","_law_ties"] (aS' sComes):=f__
def Aft(K:F__)(CY CW:Addr)(H H':Hp)(y p dp dh ld:Addr)(hs:Xa)(ts:Xb)(ps:List Pc)(f:Str->Str)(fp:List Addr)(n h:Str)(wt:Int)(due:V):Prop:=∃(q:Pc) (b':Int) (fp':List Addr),q.1=n/\q.2.1=wt/\bG' ts q/\a1' K CY CW H' y p dp dh ld hs ts (ps++[nrm q]) (λm=>if m=n then h else f m) b' fp'/\(∀c∈fp',c∈fp∨H c=none)/\WyAt K H' due (nrm q).2.2/\∀a,due=.ref a->a∉fp'
def Kp5(l y dp dh ld:Addr)(H H':Hp):Prop:=∀c o,H c=some o->c≠l->c≠y->c≠dp->c≠dh->c≠ld->H' c=some o
inductive b4' (K:F__) (CY CW:Addr) (vs:List V) (H:Hp) (Q:VK) (E:XK):Prop
 |mk:∀(l lt y p dp dh ld:Addr) (n h:Str) (zs:List V) (hs:Xa) (ts:Xb) (ps:List Pc) (f:Str->Str) (b:Int) (fp:List Addr),vs=[.ref y,.ref l,.str n,.str h,.ref lt]->a1' K CY CW H y p dp dh ld hs ts ps f b fp->l∉fp->Pok hs ts ps f->stt H l->H lt=some (.lst zs)->lt≠l->aU' K H zs (ts.map kT)->be' n=true->n∉ps.map (·.1)->h∈hs.map (·.1)->ps.length<30->(∀t wt due H',Kp5 l y dp dh ld H H'->stt H' l->H t=none->H' t=some (.tup [.int wt,due])->(∀a,due=.ref a->H a=none)->Aft K CY CW H H' y p dp dh ld hs ts ps f fp n h wt due->Q (.ref t) H')->b4' K CY CW vs H Q E
theorem gs_{f0 CY CW:Addr}{fd:Ae}(F:Fun K "_law_comes" "_law_comes" sComes f0 fd)(B:Bi mg)(T:TxtY K CY)(cD:Cal P w K mg base 1 "_law_digit" ["_law_state","_law_base"] bs')(cT:Cal P w K mg base 2 "_law_turned_ways" ["_law_state","_law_ties"] (co' K))(cY:CalY P w K mg base CY 6 (cr' K CY CW)):FnOk P w K mg base CX0 7 f0 fd ["_law_yard","_law_state","_law_name","_law_hand","_law_ties"] (b4' K CY CW):=by
 refine F.ok bE' (λvs H Q E h=>?_) (λcdv A outer s H vs Q E hr h=>?_)
 ·obtain⟨l,lt,y,p,dp,dh,ld,n,h,zs,hs,ts,ps,f,b,fp,rfl,_⟩:=h;rfl
 ·obtain⟨l,lt,y,p,dp,dh,ld,n,h,zs,hs,ts,ps,f,b,fp,rfl,Y,lf,S,st,hlt,ltl,tu,nn,nq,hm,h30,k⟩:=h;have sz:=b__;have hr1:Room 1 _:=hr.mono (by decide);have hr2:Room 2 _:=hr.mono (by decide);refine' ⟨_,a2_ ?s1 ?r1,?kk⟩
  case' r1=>refine' a2_ ?s2 ?r2
  case' r2=>refine' a2_ ?s3 ?r3
  case' r3=>refine' a2_ ?s4 ?r4
  case' r4=>refine' a2_ ?s5 ?r5
  case' r5=>refine' a2_ ?s6 ?r6
  case' r6=>refine' a2_ ?s7 ?r7
  case' r7=>refine' a2_ ?s8 ?r8
  case' r8=>refine' a2_ ?s9 (a2_ ?s10 (a6_ ?s11))
  case s1=>exact ad_ (i:=5) bE'.nd rfl (Or.inl rfl) (as_ b3_ a8_ (ai_ cD hr1 (a0_ (pv 1) (a0_ (aA_ aG_ (bn_ (a0_ a8_ (a0_ (as_ hj_ a8_ a8_) a3_))) (ai_ cD hr1 (a0_ (pv 1) (a0_ a8_ a3_))) (λ_ _=>rfl)) a3_))))
  case s2=>exact ad_ (i:=6) bE'.nd rfl (Or.inl rfl) (ai_ cT hr2 (a0_ (pv 1) (a0_ (pv 4) a3_)))
  case s3=>exact ad_ (i:=7) bE'.nd rfl (Or.inl rfl) (ai_ cD hr1 (a0_ (pv 1) (a0_ a8_ a3_)))
  case' s4=>refine' ad_ (i:=8) bE'.nd rfl (Or.inl rfl) (a9_ eD_ (by rfl) B.sorted PyProof.Rows.Boot.«sorted» (a0_ (aT_ ["_law_tie"] 1 [] (av_ (pv 6)) (λfp s H=>aa_ (i:=0) (show (["_law_tie"]:List Str).Nodup by decide +kernel) rfl (Or.inl rfl)) (λfp s H=>aV_) (λfp s H=>?e2)) a3_))
  case e2=>exact aw_ (cTupOf (K:=K)) (by rfl) B.tuple PyProof.Rows.Boot.«tuple» (a0_ (a9_ (callK (K:=K) cP' cE_) (by rfl) B.sorted PyProof.Rows.Boot.«sorted» (a0_ (aw_ (cListOf (K:=K)) (by rfl) B.list PyProof.Rows.Boot.«list» (a0_ (pv 0) a3_)) a3_)) a3_)
  case s5=>exact au_ (ar_ ck_ (pv 7) a8_ (nomark _)) (a6_ (aq_ (e0_ cY T.cl hr (pv 0) (a0_ (pv 2) (a0_ (pv 5) (a0_ (pv 3) a3_))) (fN_ (pv 6) hc_)))) (a6_ (au_ (ar_ ck_ (pv 7) a8_ (nomark _)) (a6_ (aq_ (eo_ cY T.cl hr (pv 0) (a0_ (pv 2) (a0_ (pv 5) (a0_ (pv 3) (a0_ (pv 6) a3_))))))) (a6_ (ad_ (i:=8) bE'.nd rfl (Or.inl rfl) d0_))))
  case s6=>exact au_ (ar_ ck_ (pv 7) a8_ (nomark _)) (a6_ (aq_ (gj_ cY T.cl hr (pv 0) (a0_ (pv 2) (a0_ (pv 5) (a0_ (pv 3) a3_)))))) ab_
  case s7=>exact au_ (ar_ ck_ (pv 7) a8_ (nomark _)) (a6_ (aq_ (eo_ cY T.cl hr (pv 0) (a0_ (pv 2) (a0_ (pv 5) (a0_ (pv 3) (a0_ d0_ a3_))))))) ab_
  case s8=>exact au_ (ar_ ck_ (pv 7) a8_ (nomark _)) (a6_ (aq_ (e0_ cY T.cl hr (pv 0) (a0_ (pv 2) (a0_ (pv 5) (a0_ (pv 3) a3_))) (fN_ d0_ hc_)))) ab_
  case s9=>exact aq_ (dA_ b_2 PySem.F.slot_list_append PySem.F.type_list_append b4_ (pv 6) (a0_ (aL_ (a0_ bv_ (a0_ bv_ a3_))) a3_))
  case s10=>exact aq_ (dx_ b_2 PySem.F.slot_list_reverse PySem.F.type_list_reverse eK_ (pv 6))
  case s11=>exact ae_ (aL_ (a0_ (pv 5) (a0_ (pv 8) a3_)))
  case' kk=>skip
  refine⟨_,rfl,_,_,rfl,rfl,⟨by decide,by decide,by decide⟩,by show 2<=sizeLine;decide,λl9 hl9=>?_⟩;obtain⟨sa,ea⟩:=nw__ (o:=.lst [.int 9,.int ((10:Int) ^ (9:Int).toNat)]) hl9;have l9l:=st.ne hl9;generalize upd H l9 (.lst [.int 9,.int ((10:Int) ^ (9:Int).toNat)])=H1 at sa ea ⊢;refine⟨_,rfl,l,2,rfl,by decide,by decide,st.same sa,λr1 H2 q0 q1 b2 st2=>?_⟩
  obtain⟨bb,hbb,e1,e2⟩:∃bb:Int,atI [V.int 9,.int ((10:Int) ^ (9:Int).toNat)] r1=some (.int bb)/\0<bb/\bb<=1000000000:=by
   rcases hit2 (a:=V.int 9) (b:=.int ((10:Int) ^ (9:Int).toNat)) q0 q1 with e|e
   ·exact⟨9,e,by decide,by decide⟩
   ·exact⟨_,e,by decide,by decide⟩
  refine⟨l9,_,_,_,rfl,rfl,.of (b2 _ _ ea l9l),hbb,l,bb,rfl,e1,by omega,st2,λr2 H3 z0 z1 b3 st3=>⟨_,_,rfl,rfl,?_⟩⟩;refine setG ?_;dsimp only;have b03:But l H H3:=((But.of sa).trans b2).trans b3;obtain⟨wt,hwt⟩:∃wt:Int,wt=1+r2:=⟨_,rfl⟩;rw[<- hwt];clear hbb ea sa b2 st2;obtain⟨xs0,hl0⟩:=st.some;refine⟨_,rfl,_,rfl,l,lt,zs,ts,rfl,st3,b03 _ _ hlt ltl,ltl,al_ tu b03 hl0,S.Gd.tok,S.Gd.tnd,S.Gd.t64,λa ys ws H4 b4 st4 na e4 tu4 W=>?_⟩;refine setG ?_;dsimp only;have al:=st3.ne na;have na0:=b03.free st3 na;refine⟨_,rfl,l,5,rfl,by decide,by decide,st4,λwy H5 w0 w1 b5 st5=>?_⟩;refine setG ?_;dsimp only;obtain⟨xs4,hl4⟩:=st4.some;have W64:ws.length<64:=Nat.lt_of_le_of_lt W.len S.Gd.t64;refine srtG (i:=6) rfl (b5 _ _ e4 al) (al_ tu4 b5 hl4) W64 λl3 zs3 H6 s6 n3 e6 tu6=>?_;refine setG ?_;dsimp only;have b05:But l H H5:=(b03.trans b4).trans b5;have b06:But l H H6:=b05.trans (But.of s6);have st6:=st5.same s6;have n30:=b05.free st5 n3;have e6a:=s6 _ _ (b5 _ _ e4 al);have tu6a:=(al_ tu4 b5 hl4).same s6;have Y6:=Y.but b06 st lf;obtain⟨dx,fs,hy6,yf,_⟩:=id Y6.ex;obtain⟨_,hdp6,_⟩:=id Y6.P;have hdh6:=Y6.Hd;obtain⟨ds,hld6,_⟩:=id Y6.D;have inf:∀{c},c∈fp->∃o,H c=some o:=λ{c} hc=>Y.has c hc
  have out:∀{c},H c=none->c∉fp:=λ{c} hc m=>by
   obtain⟨o,e⟩:=inf m;rw[hc] at e;cases e
  have ald:a≠ld:=λz=>out na0 (z▸Y.m.2.2.2);have l3ld:l3≠ld:=λz=>out n30 (z▸Y.m.2.2.2);have kl:∀{H7:Hp},Kp4 y dp dh ld H6 H7->∀c xs,H6 c=some (.lst xs)->c≠ld->H7 c=some (.lst xs):=λk7 c xs e nd=>k7 c _ e (ac_ e hy6 nofun) (ac_ e hdp6 nofun) (ac_ e hdh6 nofun) nd;have ktp:∀{H7:Hp},Kp4 y dp dh ld H6 H7->∀c xs,H6 c=some (.tup xs)->H7 c=some (.tup xs):=λk7 c xs e=>k7 c _ e (ac_ e hy6 nofun) (ac_ e hdp6 nofun) (ac_ e hdh6 nofun) (ac_ e hld6 nofun);have gq:∀o:Option (Xb),(∀ws',o=some ws'->bl' ts ws')->bG' ts (n,wt,o):=λo ho=>⟨nn,by show 1<=wt;omega,by show wt<=1000000000;omega,ho⟩
  have cm:∀(v due:V) (o:Option (Xb)) (Q':VK) (E':XK),WyAt K H6 v o->(∀ws',o=some ws'->bl' ts ws')->WyAt K H6 due (o.map tsOf)->(∀a',due=.ref a'->a'=l3)->(∀H7,Kp4 y dp dh ld H6 H7->(∃(q:Pc) (b':Int) (fp':List Addr),q.1=n/\q.2.1=wt/\bG' ts q/\a1' K CY CW H7 y p dp dh ld hs ts (ps++[nrm q]) (λm=>if m=n then h else f m) b' fp'/\(∀c∈fp',c∈fp∨H6 c=none)/\WyAt K H7 due (nrm q).2.2)->Q' .non H7)->cr' K CY CW [.ref y,.str n,.int wt,.str h,v] H6 Q' E':=λv due o Q' E' wv ho wd nd q=>
   ⟨y,p,dp,dh,ld,v,h,(n,wt,o),hs,ts,ps,f,b,fp,rfl,Y6,S.Gd,wv,gq o ho,nq,hm,h30,λH7 b' fp' k7 Y7 ff=>q H7 k7 ⟨(n,wt,o),b',fp',rfl,rfl,gq o ho,Y7,ff,by
    show WyAt K H7 due (o.map tsOf);cases eo:o.map tsOf with
    |none=>rw[eo] at wd;exact wd
    |some us=>
     rw[eo] at wd;obtain⟨c,cs,ec,hc,tc⟩:=wd;exact⟨c,cs,ec,kl k7 c cs hc (by rw[nd c ec];exact l3ld),Paired.mapP tc λx k ⟨d,e,hd⟩=>⟨d,e,ktp k7 _ _ hd⟩⟩⟩⟩
  obtain⟨Dn,hDn⟩:∃Dn:Int->St->Hp->Prop,Dn=λm σ H'=>wy<=m/\∃due,σ=[some (.ref y),some (.ref l),some (.str n),some (.str h),some (.ref lt),some (.int wt),some (.ref a),some (.int wy),some due]/\Kp4 y dp dh ld H6 H'/\(∀a',due=.ref a'->a'=l3)/\∃(q:Pc) (b':Int) (fp':List Addr),q.1=n/\q.2.1=wt/\bG' ts q/\a1' K CY CW H' y p dp dh ld hs ts (ps++[nrm q]) (λm=>if m=n then h else f m) b' fp'/\(∀c∈fp',c∈fp∨H6 c=none)/\WyAt K H' due (nrm q).2.2:=⟨_,rfl⟩;obtain⟨Pn,hPn⟩:∃Pn:Int->St->Hp->Prop,Pn=λm σ H'=>m<wy/\σ=[some (.ref y),some (.ref l),some (.str n),some (.str h),some (.ref lt),some (.int wt),some (.ref a),some (.int wy),some .non]/\H'=H6:=⟨_,rfl⟩;have wyA:WyAt K H6 (.ref a) (some ws):=⟨a,ys,rfl,e6a,tu6a⟩;have wyD:WyAt K H6 (.ref l3) ((some ws).map tsOf):=⟨l3,zs3,rfl,e6,tu6⟩;have hws:∀ws',(some ws:Option (Xb))=some ws'->bl' ts ws':=λws' z=>by cases z;exact W
  have hno:∀ws',(none:Option (Xb))=some ws'->bl' ts ws':=λws' z=>by cases z
  refine seqG (λσ H'=>Dn 1 σ H'∨Pn 1 σ H') ?l5 (λN hN=>?n5)
  case n5=>
   refine⟨_,rfl,rfl,_,rfl,?_⟩;refine ite2 (λc=>?_) (λc=>?_)
   ·have c:wy=0:=by simpa using c
    exact⟨_,rfl,y,dx,fs,rfl,hy6,yf.no _ Z0,_,rfl,_,rfl,_,rfl,_,rfl,cm _ (.ref l3) _ _ _ wyA hws wyD (λa' z=>by cases z;rfl) λH7 k7 af=>hN _ _ (.inl (by rw[hDn];exact⟨by omega,_,rfl,k7,λa' z=>(by cases z;rfl),af⟩))⟩
   have c:wy≠0:=by simpa using c
   refine⟨_,rfl,rfl,_,rfl,?_⟩;refine ite2 (λc1=>?_) (λc1=>?_)
   ·have c1:wy=1:=by simpa using c1
    exact⟨_,rfl,y,dx,fs,rfl,hy6,yf.no _ Z0,_,rfl,_,rfl,_,rfl,_,rfl,cm _ (.ref l3) _ _ _ wyA hws wyD (λa' z=>by cases z;rfl) λH7 k7 af=>hN _ _ (.inl (by rw[hDn];exact⟨by omega,_,rfl,k7,λa' z=>(by cases z;rfl),af⟩))⟩
   ·have c1:wy≠1:=by simpa using c1
    exact hN _ _ (.inr (by rw[hPn];exact⟨by omega,rfl,rfl⟩))
  intro σ H7 hR;refine seqG (λσ H'=>Dn 2 σ H'∨Pn 2 σ H') ?l6 (λN hN=>?n6)
  case n6=>
   rcases hR with hR|hR
   ·rw[hDn] at hR;obtain⟨hw,due,rfl,k7,nd,af⟩:=hR;refine⟨_,rfl,rfl,_,rfl,?_⟩;refine ite2 (λc=>?_) (λ_=>hN _ _ (.inl (by rw[hDn];exact⟨by omega,due,rfl,k7,nd,af⟩)));have c:wy=2:=by simpa using c
    omega
   ·rw[hPn] at hR;obtain⟨hw,rfl,rfl⟩:=hR;refine⟨_,rfl,rfl,_,rfl,?_⟩;refine ite2 (λc=>?_) (λc=>hN _ _ (.inr (by rw[hPn];exact⟨by have c:wy≠2:=(by simpa using c);omega,rfl,rfl⟩)));have c:wy=2:=by simpa using c
    exact⟨_,rfl,y,dx,fs,rfl,hy6,yf.no _ Z0,_,rfl,_,rfl,_,rfl,cm .non .non none _ _ rfl hno rfl (λa' z=>by cases z) λH7 k7 af=>hN _ _ (.inl (by rw[hDn];exact⟨by omega,_,rfl,k7,λa' z=>(by cases z),af⟩))⟩
  clear hR;intro σ H7 hR;refine seqG (λσ H'=>Dn 3 σ H'∨Pn 3 σ H') ?l7 (λN hN=>?n7)
  case n7=>
   rcases hR with hR|hR
   ·rw[hDn] at hR;obtain⟨hw,due,rfl,k7,nd,af⟩:=hR;refine⟨_,rfl,rfl,_,rfl,?_⟩;refine ite2 (λc=>?_) (λ_=>hN _ _ (.inl (by rw[hDn];exact⟨by omega,due,rfl,k7,nd,af⟩)));have c:wy=3:=by simpa using c
    omega
   ·rw[hPn] at hR;obtain⟨hw,rfl,rfl⟩:=hR;refine⟨_,rfl,rfl,_,rfl,?_⟩;refine ite2 (λc=>?_) (λc=>hN _ _ (.inr (by rw[hPn];exact⟨by have c:wy≠3:=(by simpa using c);omega,rfl,rfl⟩)));have c:wy=3:=by simpa using c
    exact⟨_,rfl,y,dx,fs,rfl,hy6,yf.no _ Z0,_,rfl,_,rfl,_,rfl,cm .non .non none _ _ rfl hno rfl (λa' z=>by cases z) λH7 k7 af=>hN _ _ (.inl (by rw[hDn];exact⟨by omega,_,rfl,k7,λa' z=>(by cases z),af⟩))⟩
  clear hR;intro σ H7 hR;refine seqG (λσ H'=>Dn 4 σ H'∨Pn 4 σ H') ?l8 (λN hN=>?n8)
  case n8=>
   rcases hR with hR|hR
   ·rw[hDn] at hR;obtain⟨hw,due,rfl,k7,nd,af⟩:=hR;refine⟨_,rfl,rfl,_,rfl,?_⟩;refine ite2 (λc=>?_) (λ_=>hN _ _ (.inl (by rw[hDn];exact⟨by omega,due,rfl,k7,nd,af⟩)));have c:wy=4:=by simpa using c
    omega
   ·rw[hPn] at hR;obtain⟨hw,rfl,rfl⟩:=hR;refine⟨_,rfl,rfl,_,rfl,?_⟩;refine ite2 (λc=>?_) (λc=>hN _ _ (.inr (by rw[hPn];exact⟨by have c:wy≠4:=(by simpa using c);omega,rfl,rfl⟩)));have c:wy=4:=by simpa using c
    exact⟨_,rfl,y,dx,fs,rfl,hy6,yf.no _ Z0,_,rfl,_,rfl,_,rfl,cm .non .non none _ _ rfl hno rfl (λa' z=>by cases z) λH7 k7 af=>hN _ _ (.inl (by rw[hDn];exact⟨by omega,_,rfl,k7,λa' z=>(by cases z),af⟩))⟩
  clear hR;intro σ H7 hR;rcases hR with hR|hR;rotate_left 1
  ·rw[hPn] at hR;have:=hR.1;omega
  rw[hDn] at hR;obtain⟨_,due,rfl,k7,nd,q,b',fp',qn,qw,gp,Y7,ff,wd⟩:=hR;clear hDn hPn cm;have lw:=W.len;have lys:=a_5 tu6a;rw[aa'] at lys;have t64:=S.Gd.t64;have ea7:=kl k7 a ys e6a ald;have al':a≠l:=al;refine⟨_,rfl,.inl ⟨rfl,_,.of ea7⟩,by show 2<=sizeLine;decide,λt2 nt2=>?_⟩;have s8:=Same.new (o:=.tup [.str "zzzzzzzz",.str "a"]) nt2;generalize upd H7 t2 (.tup [.str "zzzzzzzz",.str "a"])=H8 at s8 ⊢;have e8:=s8 _ _ ea7;refine⟨a,ys,_,rfl,rfl,e8,by omega,?_⟩;have k9:∀c o,H8 c=some o->c≠a->upd H8 a (.lst (ys++[.ref t2])) c=some o:=λc o e n=>by rw[a5_ n];exact e
  have e9:upd H8 a (.lst (ys++[.ref t2])) a=some (.lst (ys++[.ref t2])):=a1_
  have f9:∀c,upd H8 a (.lst (ys++[.ref t2])) c=none->H8 c=none:=λc e=>by
   by_cases z:c=a
   ·rw[z,a1_] at e;cases e
   ·rw[a5_ z] at e;exact e
  generalize upd H8 a (.lst (ys++[.ref t2]))=H9 at k9 e9 f9 ⊢;refine⟨_,rfl,.inl ⟨rfl,_,.of e9⟩,a,_,rfl,rfl,e9,?_⟩;have k10:∀c o,H9 c=some o->c≠a->upd H9 a (.lst (ys++[V.ref t2]).reverse) c=some o:=λc o e n=>by rw[a5_ n];exact e
  have f10:∀c,upd H9 a (.lst (ys++[V.ref t2]).reverse) c=none->H9 c=none:=λc e=>by
   by_cases z:c=a
   ·rw[z,a1_] at e;cases e
   ·rw[a5_ z] at e;exact e
  generalize upd H9 a (.lst (ys++[V.ref t2]).reverse)=H10 at k10 f10 ⊢;refine⟨_,rfl,_,rfl,by show 2<=sizeLine;decide,λt nt=>?_⟩;obtain⟨s11,e11⟩:=nw__ (o:=.tup [.int wt,due]) nt;generalize upd H10 t (.tup [.int wt,due])=H11 at s11 e11 ⊢;have k711:∀c o,H7 c=some o->c≠a->H11 c=some o:=λc o e n=>s11 _ _ (k10 _ _ (k9 _ _ (s8 _ _ e) n) n)
  have l7:H7 l=H6 l:=by
   obtain⟨xs6,hl6⟩:=st6.some;rw[hl6];exact kl k7 l xs6 hl6 λz=>lf (z▸Y.m.2.2.2)
  have st7:stt H7 l:=by
   rcases st6 with⟨x,e⟩|⟨x,x2,x3,e⟩
   ·exact .inl ⟨x,l7.trans e⟩
   ·exact .inr ⟨x,x2,x3,l7.trans e⟩
  have st11:stt H11 l:=by
   rcases st7 with⟨x,e⟩|⟨x,x2,x3,e⟩
   ·exact .inl ⟨x,k711 _ _ e al.symm⟩
   ·exact .inr ⟨x,x2,x3,k711 _ _ e al.symm⟩
  have afp:a∉fp':=λm=>by
   rcases ff a m with z|z
   ·exact out na0 z
   ·rw[e6a] at z;cases z
  have kt11:∀c xs,H7 c=some (.tup xs)->H11 c=some (.tup xs):=λc xs e=>k711 c _ e (ac_ e ea7 nofun);refine k t wt due H11 (λc o e n1 n2 n3 n4 n5=>k711 _ _ (k7 _ _ (b06 _ _ e n1) n2 n3 n4 n5) (a7_ e na0)) st11 ?_ e11 (λa' z=>by rw[nd a' z];exact n30) ⟨q,b',fp',qn,qw,gp,Y7.keep (λc hc o e=>k711 c o e λz=>afp (z▸hc)) kt11,λc hc=>(ff c hc).imp id λz=>b06.free st6 z,wd.keep (λa' z u e=>k711 a' u e (by rw[nd a' z];exact λy=>by rw[y] at n3;rw[b5 _ _ e4 al] at n3;cases n3)) kt11,λa' z m=>?_⟩
  ·have n7:H7 t=none:=s8.free (f9 _ (f10 _ nt));cases z:H6 t with
   |none=>exact b06.free st6 z
   |some o=>
    by_cases c1:t=y
    ·obtain⟨_,_,hy7,_⟩:=Y7.ex;rw[c1,hy7] at n7;cases n7
    by_cases c2:t=dp
    ·obtain⟨_,hdp7,_⟩:=Y7.P;rw[c2,hdp7] at n7;cases n7
    by_cases c3:t=dh
    ·rw[c3,Y7.Hd] at n7;cases n7
    by_cases c4:t=ld
    ·obtain⟨_,hld7,_⟩:=Y7.D;rw[c4,hld7] at n7;cases n7
    rw[k7 _ _ z c1 c2 c3 c4] at n7;cases n7
  ·rw[nd a' z] at m;rcases ff l3 m with z|z
   ·exact out n30 z
   ·rw[e6] at z;cases z
end
end Ev
namespace L2
open PySem PySem.Spec PyProof.Rows PySem.W EvS EvD
variable{X:Cx}
theorem fw_{n m:Nat}{D1 D2:Type}[DecidableEq D1][DecidableEq D2]{R1:Rp D1}{R2:Rp D2}(c1:Cmp X n R1)(c2:Cmp X m R2)(h1:X.A.units+n+1<cLine)(h2:X.A.units+m+1<cLine):OpR X (compareOp .NotEq) (rEqD (r2 X.K R1 R2) true):=by
 intro pins s σ H x y v u Q I rx ry h;obtain⟨d,e,⟨a,x1,x2,rfl,t,q1,q2⟩,⟨b,y1,y2,rfl,t',q1',q2'⟩,hq⟩:=h;cases rx;cases ry;obtain⟨its,r,it,_⟩:=I.tuple t;obtain⟨its',r',it',_⟩:=I.tuple t';obtain⟨u1,u2,rfl,e1,e2⟩:=vals2 r;obtain⟨w1,w2,rfl,e1',e2'⟩:=vals2 r';refine SeqAt.RcNeAt.tuples (e:=λj=>if j=0 then decide (d.1=e.1) else decide (d.2=e.2)) (br_ it) (br_ it') Z1 (λj g1 g2=>?_) X.prog X.w _ _ ⟨.bl _,H,I,rfl,?_⟩
 ·match j,g1,g2 with
  |0,_,_=>exact c1.eq I e1 e1' q1 q1' (by show X.A.units+1+n<cLine;omega)
  |1,_,_=>exact c2.eq I e2 e2' q2 q2' (by show X.A.units+1+m<cLine;omega)
 ·have hq:Q (.bl (!decide (d=e))) H:=hq
  have e3:((List.range (min [u1,u2].toArray.size [w1,w2].toArray.size)).all (λj=>if j=0 then decide (d.1=e.1) else decide (d.2=e.2))&&[u1,u2].toArray.size == [w1,w2].toArray.size)=decide (d=e):=by
   show (decide (d.1=e.1)&&(decide (d.2=e.2)&&true)&&true)=_;by_cases h1:d.1=e.1
   ·by_cases h2:d.2=e.2
    ·have:d=e:=Prod.ext h1 h2;simp[this]
    ·have:¬d=e:=λz=>h2 (by rw[z]);simp[h1,h2,this]
   ·have:¬d=e:=λz=>h1 (by rw[z]);simp[h1,this]
  rw[e3];exact hq
def rN:Rp Unit:=λ_ x _=>x=.non
theorem cmpN:Cmp X 0 rN where
 eq:=λ{pins σ H s A x y u v d e} I ru rv hx hy hu=>by
  have hx:x=.non:=hx;have hy:y=.non:=hy;subst hx;subst hy;exact en_ (A:=A) (s:=s) ru rv rfl rfl
 one:=λ{pins σ H s x d e} I hx hy=>rfl
theorem gU_{d:Addr}{o:Obj}{kvs:List (Key × V)}{g:TG}{tb:TS}{D:Ends}{σ:St}{H:Hp}(Pv:Nat->St->Hp->Prop)(h0:Pv 0 σ H)(hl:∀i σ H,i<=kvs.length->Pv i σ H->H d=some (.frz o (.dK kvs)))
  (hs:∀i k x σ H,kvs[i]? = some (k,x)->Pv i σ H->g (kV k) σ H λσ2 H2=>tb { D with nx:=Pv (i+1),ct:=Pv (i+1),bk:=D.nx } σ2 H2) (hd:∀σ H,Pv kvs.length σ H->D.nx σ H) :
  ∃W:Nat->Nat->St->Hp->Prop,(∃m,W 0 m σ H)/\∀i m σ H,W i m σ H->
   ((Itk d o kvs).stop i H/\D.nx σ H)∨((Itk d o kvs).go i H/\∃N:St->Hp->Prop,(∀σ' H',N σ' H'->∃m',m'<m/\W (i+1) m' σ' H')/\∀x H',(Itk d o kvs).yld i H x H'->g x σ H' λσ2 H2=>tb { D with nx:=N,ct:=N,bk:=D.nx } σ2 H2):=by
 refine⟨λi m σ H=>m=kvs.length - i/\i<=kvs.length/\Pv i σ H,⟨kvs.length,by simp,aC' _,h0⟩,?_⟩;rintro i m σ H ⟨rfl,hi,p⟩;have q:=hl i σ H hi p;by_cases hlt:i<kvs.length
 ·refine .inr ⟨⟨q,hlt⟩,Pv (i+1),λσ' H' p'=>⟨kvs.length - (i+1),by omega,rfl,hlt,p'⟩,λx H' y=>?_⟩;obtain⟨rfl,k,v,hx,rfl⟩:=y;exact hs i k v σ _ hx p
 ·have e:i=kvs.length:=by omega
  subst e;exact .inl ⟨⟨q,ad' _⟩,hd σ H p⟩
open Ev
inductive rNeDS (x:V) (y:V) (H:Hp) (Q:VK):Prop
 |mk:∀(a b:Addr) (ms ns:List Str) (f:Str->Str),x=.ref a->y=.ref b->H a=some (.dK (stF ms f))->H b=some (.dK (stF ns f))->ms.length=ns.length->(∀m∈ms,m∈ns)->Q (.bl false) H->rNeDS x y H Q
theorem hl_(hu:X.A.units<cLine):OpR X (compareOp .NotEq) rNeDS:=by
 intro pins s σ H x y v u Q I rx ry h;obtain⟨a,b,ms,ns,f,rfl,rfl,ha,hb,le,sub,q⟩:=h;cases rx;cases ry;obtain⟨za,na,va,ra,da⟩:=bF_ I.hok (.inl ha);obtain⟨zb,nb,vb,rb,db⟩:=bF_ I.hok (.inl hb);have la:=ra.length;have lb:=rb.length;rw[aR_] at la lb;refine PySem.W.keq_ne na nb da db hu (r:=ms.all λn=>decide (f n=f n)) (λ_=>fG_ rb ms va ra sub) ⟨.bl _,H,I,rfl,?_⟩;rw[<- la,<- lb,le];have al:(ms.all λn=>decide (f n=f n))=true:=by simp
 rw[al];simpa using q
end L2
namespace Ev
open PySem L2
theorem hm_{K:F__}{H:Hp}:∀{ws:Xb} {ys:List V},aU' K H ys (ws.map kT)->Paired (r2 K rS rS H) ys ws
 |[],_,.nil=>.nil
 |_::_,_,.cons ⟨a,e,h⟩ t=>.cons ⟨a,_,_,e,.of h,rfl,rfl⟩ (hm_ t)
variable{qs:List Pc}{q:Pc}
theorem Qs.find{ps:List Pc}(Qq:Qs ps qs)(nd:(ps.map (·.1)).Nodup)(h:q∈ps):nrm q∈qs:=by
 have m:q.1∈qs.map (·.1):=by
  rw[Qq.nms];exact (aj_ _).mem_iff.mpr (List.mem_map_of_mem h)
 obtain⟨x,hx,e⟩:=af'.mp m;obtain⟨q',hq',rfl⟩:=Qq.mem x hx;have e:q'.1=q.1:=e;have:q'=q:=dj_ nd hq' h e;rw[<- this];exact hx
theorem hA_{ps:List Pc}(Qq:Qs ps qs)(nd:(ps.map (·.1)).Nodup):(qs.all λq=>q.2.2.isNone)=ps.all λq=>q.2.2.isNone:=by
 rw[Bool.eq_iff_iff,List.all_eq_true,List.all_eq_true];constructor
 ·intro h q hq;have:=h _ (Qq.find nd hq);have:(q.2.2.map tsOf).isNone=true:=this;rwa [Option.isNone_map] at this
 ·intro h q hq;obtain⟨q',hq',rfl⟩:=Qq.mem q hq;show (q'.2.2.map tsOf).isNone=true;rw[Option.isNone_map];exact h q' hq'
def cu'(K:F__)(H:Hp)(v:V)(q:Pc):Prop:=∃t due,v=.ref t/\H t=some (.tup [.int q.2.1,due])/\WyAt K H due q.2.2
variable{H':Hp}{v:V}
theorem cu'.same{K:F__}{H:Hp}(h:cu' K H v q)(s:Same H H'):cu' K H' v q:=by
 obtain⟨t,due,e,ht,wy⟩:=h;exact⟨t,due,e,s _ _ ht,wy.same s⟩
theorem fT_:∀{ps:List Pc} {yr:List V} {i:Nat} {k:Key} {x:V},(kvp ps yr)[i]? = some (k,x)->∃q,ps[i]? = some q/\yr[i]? = some x/\k=Sum.inr q.1
 |[],_,_,_,_,h=>by simp[kvp] at h
 |_::_,[],_,_,_,h=>by simp[kvp] at h
 |q::ps,v::yr,0,k,x,h=>by
  have h:((Sum.inr q.1:Key),v)=(k,x):=by simpa [kvp] using h
  cases h;exact⟨q,rfl,rfl,rfl⟩
 |q::ps,v::yr,i+1,k,x,h=>by
  obtain⟨q',a,b,c⟩:=fT_ (ps:=ps) (yr:=yr) (i:=i) (k:=k) (x:=x) (by simpa [kvp] using h);exact⟨q',by simpa using a,by simpa using b,c⟩
theorem g0_:∀{ps:List Pc} {yr:List V} {i:Nat} {q:Pc} {x:V},(ps.map (·.1)).Nodup->yr.length=ps.length->ps[i]? = some q->yr[i]? = some x->valV (kvp ps yr) (Sum.inr q.1)=some x
 |[],_,_,_,_,_,_,h,_=>by simp at h
 |_::_,[],_,_,_,_,h,_,_=>by cases h
 |q0::ps,v::yr,0,q,x,_,_,h1,h2=>by
  simp at h1 h2;subst h1 h2;unfold valV;rw[show kvp (q0::ps) (v::yr)=((Sum.inr q0.1:Key),v)::kvp ps yr from rfl];simp
 |q0::ps,v::yr,i+1,q,x,nd,hl,h1,h2=>by
  rw[au',aG'] at nd;have m:q.1∈ps.map (·.1):=List.mem_map_of_mem (ai' (i:=i) (by simpa using h1));have ih:=g0_ (i:=i) (q:=q) (x:=x) nd.2 (by simpa using hl) (by simpa using h1) (by simpa using h2);have ne:¬(Sum.inr q0.1:Key)=Sum.inr q.1:=λe=>nd.1 (by rw[b_3 e];exact m);unfold valV at ih ⊢;rw[show kvp (q0::ps) (v::yr)=((Sum.inr q0.1:Key),v)::kvp ps yr from rfl,aO'];simp only[a_7 ne];exact ih
section
variable{P:Ad}{w:Af}{K:F__}{mg:Str->Option Aa}{base:Heap}
theorem cz':aT' ["_law_yard","_law_rows","_law_places","_law_goods","_law_name"] ["_law_yard","_law_rows","_law_places"] (aS' sAlike):=f__
inductive cm' (K:F__) (CY CW:Addr) (vs:List V) (H:Hp) (Q:VK) (E:XK):Prop
 |mk:∀(y dr dc p dp dh ld:Addr) (yr:List V) (hs:Xa) (ts:Xb) (ps:List Pc) (f:Str->Str) (b:Int) (fp:List Addr),vs=[.ref y,.ref dr,.ref dc]->a1' K CY CW H y p dp dh ld hs ts ps f b fp->Pok hs ts ps f->(∀q∈ps,nrm q=q)->H dr=some (.dK (kvp ps yr))->Paired (cu' K H) yr ps->(∀c∈fp,c≠dr)->H dc=some (.dK (stF (ps.map (·.1)) f))->(∀H',Same H H'->Q (.bl true) H')->cm' K CY CW vs H Q E
theorem gQ_{f0 CY CG CW CP:Addr}{fd:Ae}(F:Fun K "_law_alike" "_law_alike" sAlike f0 fd)(B:Bi mg)(T:TxtY K CY)(TG:TxtG K CG)(cYG:CalM P w K mg base CY 9 "goods" ["self"] (bj' K CY CG CW))(cYS:CalM P w K mg base CY 1 "stand" ["self"] (bg' K CY CW))(cN:CalM P w K mg base CG 1 "names" ["self"] (bw' K CG CW))(cW:CalX P w K mg base CG 2 "weight" ["self","piece"] (bo' K CG CW CP))(cWy:CalX P w K mg base CG 2 "ways" ["self","piece"] (bR' K CG CW CP))(cF:CalM P w K mg base CG 1 "are_free" ["self"] (ci' K CG CW)):FnOk P w K mg base CX0 10 f0 fd ["_law_yard","_law_rows","_law_places"] (cm' K CY CW):=by
 refine F.ok cz' (λvs H Q E h=>?_) (λcdv A outer s H vs Q E hr h=>?_)
 ·obtain⟨y,dr,dc,p,dp,dh,ld,yr,hs,ts,ps,f,b,fp,rfl,_⟩:=h;rfl
 ·obtain⟨y,dr,dc,p,dp,dh,ld,yr,hs,ts,ps,f,b,fp,rfl,Y,S,nm,hdr,pr,drf,hdc,k⟩:=h;have sz:=b__;have hu:=bi_ hr;have hr1:Room 1 _:=hr.mono (by decide);have hr2:Room 2 _:=hr.mono (by decide);have lyr:=a_5 pr;have h30:=S.h30;refine' ⟨_,a2_ ?s1 (a2_ ?s2 (a2_ ?s3 (a6_ ?s4))),?kk⟩
  case s1=>exact ad_ (i:=3) cz'.nd rfl (Or.inl rfl) (aK_ cYG T.cl hr (pv 0))
  case s2=>exact au_ (dO_ (ar_ (iv_ cmpS (cK' hr 0)) (aK_ cN TG.cl hr1 (pv 3)) (a9_ cE_ (by rfl) B.sorted PyProof.Rows.Boot.«sorted» (a0_ (aw_ (bs_ rfl) (by rfl) B.list PyProof.Rows.Boot.«list» (a0_ (pv 1) a3_)) a3_)) (nomark _)) (cd_ (ar_ (hl_ (Nat.lt_of_succ_lt hu)) (aK_ cYS T.cl hr1 (pv 0)) (pv 2) (nomark _)))).pt af_ ab_
  case s3=>exact g2_ (aP_ b_0 rfl (hU_ (pv 1)) (aa_ (i:=4) cz'.nd rfl (Or.inl rfl)) (a6_ (au_ (ar_ (OpR.or (fw_ cmpZ cmpN (cK' hr 0) (cK' hr 0)) (fw_ cmpZ (cmpL (cmp2 cmpS cmpS)) (cK' hr 0) (cK' hr (max 0 0+1+1)))) (aL_ (a0_ (gV_ cW TG.cl hr2 (pv 3) (a0_ (pv 4) a3_)) (a0_ (gV_ cWy TG.cl hr2 (pv 3) (a0_ (pv 4) a3_)) a3_))) (bw_ hu (pv 1) (pv 4) (λ_ _=>rfl)) (nomark _)) af_ ab_)))
  case' s4=>refine' ae_ (bP_ ck_ (aK_ cF TG.cl hr1 (pv 3)) (a9_ (cT_ rfl) (by rfl) B.all PyProof.Rows.Boot.«all» (a0_ (fg_ (aT_ ["_law_weight","_law_due"] 2 [] (fB_ (cf_ (pv 1))) (λfp s H=>cW_ (n:=2) (ah_ (aa_ (i:=0) (show (["_law_weight","_law_due"]:List Str).Nodup by decide +kernel) rfl (Or.inl rfl)) (ah_ (aa_ (i:=1) (show (["_law_weight","_law_due"]:List Str).Nodup by decide +kernel) rfl (Or.inl rfl)) aZ_))) (λfp s H=>aV_) (λfp s H=>?e4))) a3_)) (nomark _))
  case e4=>exact cB_ (cv_ (pv 1))
  case' kk=>skip
  obtain⟨dx,fs,hy,yf,_⟩:=id Y.ex;refine⟨_,rfl,y,dx,fs,rfl,hy,yf.no _ Z0,y,p,dp,dh,ld,hs,ts,ps,f,b,fp,rfl,Y,S,λg qs fpg H1 s1 hg G Qq has sub=>?_⟩;refine setG ?_;dsimp only;have qnd:=Qq.nds S.nd;have lq:=Qq.lens;have hy1:=s1 _ _ hy;have hdr1:=s1 _ _ hdr;refine seqG (λσ H'=>σ=[some (.ref y),some (.ref dr),some (.ref dc),some (.ref g),none]/\Same H1 H') ?later (λN hN=>?now)
  case now=>
   obtain⟨dxg,dw,dy,vs,fpw,h1,_⟩:=id G.ex;refine⟨_,rfl,g,dxg,_,rfl,h1,aO_ _ _ _ Z0 Z0 Z0,g,p,hs,ts,qs,fpg,rfl,G,λl1 hl1=>?_⟩;obtain⟨s2,e2⟩:=nw__ (o:=.lst ((qs.map (·.1)).map V.str)) hl1;generalize upd H1 l1 (.lst ((qs.map (·.1)).map V.str))=H2 at s2 e2 ⊢;refine⟨_,rfl,dr,_,rfl,.inl (s2 _ _ hdr1),λl2 hl2=>?_⟩
   rw[show ((kvp ps yr).map λkv=>kV kv.1)=(ps.map (·.1)).map V.str by
    rw[show ((kvp ps yr).map λkv=>kV kv.1)=((kvp ps yr).map (·.1)).map kV by rw[ah'];rfl,bB_ lyr,ah'];rfl]
   obtain⟨s3,e3⟩:=nw__ (o:=.lst ((ps.map (·.1)).map V.str)) hl2;generalize upd H2 l2 (.lst ((ps.map (·.1)).map V.str))=H3 at s3 e3 ⊢;refine⟨l2,ps.map (·.1),rfl,.of e3,by rw[aa'];omega,λl3 hl3=>?_⟩;obtain⟨s4,e4⟩:=nw__ (o:=.lst ((a4' (ps.map (·.1))).map V.str)) hl3;generalize upd H3 l3 (.lst ((a4' (ps.map (·.1))).map V.str))=H4 at s4 e4 ⊢;refine⟨_,_,de_ ((s3.trans s4) _ _ e2),de_ e4,_,rfl,?_⟩;rw[Qq.nms,a_2 rfl];refine iteF ?_;have s14:=(s2.trans s3).trans s4;refine⟨_,rfl,y,dx,fs,rfl,s14 _ _ hy1,yf.no _ Z0,y,p,dp,dh,ld,hs,ts,ps,f,b,fp,rfl,Y.same (s1.trans s14),S,λd H5 s5 nd e5=>?_⟩;have s15:=s14.trans s5;refine⟨_,rfl,d,dc,_,_,f,rfl,rfl,e5,(s1.trans s15) _ _ hdc,(aj_ _).length_eq,λm hm=>(aj_ _).mem_iff.mp hm,_,rfl,iteF (hN _ _ ⟨rfl,s15⟩)⟩
  rintro σ H2 ⟨rfl,s2⟩;have s02:=s1.trans s2;have hdr2:=s02 _ _ hdr;have G2:=G.same s2;have pr2:Paired (cu' K H2) yr ps:=Paired.mapP pr λ_ _ r=>r.same s02
  have drg:dr∉fpg:=λm=>by
   rcases sub dr m with z|z
   ·exact drf dr z rfl
   ·rw[hdr] at z;cases z
  have nf:∀o u,H dr≠some (.frz o u):=λo u z=>by rw[hdr] at z;cases z
  refine seqG (λσ H'=>(∃v4,σ=[some (.ref y),some (.ref dr),some (.ref dc),some (.ref g),v4])/\Same H2 H') ?later2 (λN hN=>?now2)
  case now2=>
   refine⟨dr,_,hdr2,?_⟩;refine⟨_,rfl,dr,_,rfl,hdr2,λo=>?_⟩;refine gU_ (λi σ H'=>∃v4,σ=[some (.ref y),some (.ref dr),some (.ref dc),some (.ref g),v4]/\Fz dr o (kvp ps yr) H2 H') ⟨none,rfl,Fz.start⟩ (λi σ H' _ ⟨_,_,z⟩=>z.at_) ?_ ?_;rotate_left 1
   ·rintro σ H3 ⟨v4,rfl,fz⟩;exact⟨o,fz.at_,hN _ _ ⟨⟨_,rfl⟩,fz.thaw hdr2⟩⟩
   rintro i ky x σ H3 hx ⟨v4,rfl,fz⟩;obtain⟨q,hq,hx',rfl⟩:=fT_ hx;have qm:=ai' hq;have G3:=fz.goods hdr2 G2 drg;obtain⟨dxg,dw,dy,vs,fpw,h1,_⟩:=id G3.ex;have nq:=nm q qm;have qq:=Qq.find S.nd qm;rw[nq] at qq
   have wlen:∀ws,q.2.2=some ws->ws.length<=1000:=λws e=>by
    have:=((S.gp q qm).ws ws e).len;have:=S.Gd.t64;omega
   refine setG ?_;dsimp only;refine⟨_,rfl,g,dxg,_,rfl,h1,aO_ _ _ _ Z0 Z0 Z0,_,rfl,g,p,.str q.1,some q.1,hs,ts,qs,fpg,rfl,G3,qnd,rfl,.inl ⟨q,qq,rfl,?_⟩⟩;refine⟨_,rfl,g,dxg,_,rfl,h1,aO_ _ _ _ Z0 Z0 Z0,_,rfl,g,p,.str q.1,some q.1,hs,ts,qs,fpg,rfl,G3,qnd,rfl,.inl ⟨q,qq,rfl,wlen,λv' H4 s4 wy vn=>?_⟩⟩;refine⟨by show 2<=sizeLine;decide,λt nt=>?_⟩;obtain⟨s5,e5⟩:=nw__ (o:=.tup [.int q.2.1,v']) nt;generalize upd H4 t (.tup [.int q.2.1,v'])=H5 at s5 e5 ⊢;have fz5:=fz.step (s4.trans s5);obtain⟨hix,hxe⟩:=ab'.mp hx';obtain⟨hiq,hqe⟩:=ab'.mp hq;have rw2:=ak_ pr2 i hix hiq;rw[hxe,hqe] at rw2;obtain⟨t2,due,rfl,ht2,wd⟩:=rw2;have ht5:=fz5.sm _ _ (ac_ ht2 hdr2 nofun) ht2
   have wd5:WyAt K H5 due q.2.2:=wd.keep (λa e u hu'=>fz5.sm _ _ (λz=>by
     rw[z,hdr2] at hu';cases eo:q.2.2 with
     |none=>rw[eo] at wd;rw[show due=.non from wd] at e;cases e
     |some ws=>
      rw[eo] at wd;obtain⟨a',ys,e',ha',_⟩:=wd;rw[e'] at e;cases e;rw[z,hdr2] at ha';cases ha') hu') λc xs e=>fz5.sm _ _ (ac_ e hdr2 nofun) e
   have wy5:=wy.same s5;refine⟨_,rfl,_,rfl,dr,.ref t2,rfl,?_,?_⟩
   ·rw[<- g0_ S.nd lyr hq hx'];exact .inl ⟨_,Sum.inr q.1,.inr ⟨o,fz5.at_⟩,rfl,rfl⟩
   ·cases eo:q.2.2 with
    |none=>
     rw[eo] at wd5 wy5;refine .inl ⟨(q.2.1,()),(q.2.1,()),⟨t,_,_,rfl,.of e5,rfl,wy5⟩,⟨t2,_,_,rfl,.of ht5,rfl,wd5⟩,_,rfl,?_⟩;refine ite2 (λc=>by simp at c) (λ_=>⟨_,rfl,fz5⟩)
    |some ws=>
     rw[eo] at wd5 wy5;obtain⟨a1,ys1,rfl,ha1,tu1⟩:=wy5;obtain⟨a2,ys2,rfl,ha2,tu2⟩:=wd5;refine .inr ⟨(q.2.1,ws),(q.2.1,ws),⟨t,_,_,rfl,.of e5,rfl,⟨a1,ys1,rfl,.of ha1,hm_ tu1⟩⟩,⟨t2,_,_,rfl,.of ht5,rfl,⟨a2,ys2,rfl,.of ha2,hm_ tu2⟩⟩,_,rfl,?_⟩;refine ite2 (λc=>by simp at c) (λ_=>⟨_,rfl,fz5⟩)
  rintro σ H3 ⟨⟨v4,rfl⟩,s3⟩;have s03:=s02.trans s3;have hdr3:=s03 _ _ hdr;have G3:=G2.same s3;obtain⟨dxg,dw,dy,vs,fpw,h1,_⟩:=id G3.ex;refine⟨_,rfl,g,dxg,_,rfl,h1,aO_ _ _ _ Z0 Z0 Z0,g,p,hs,ts,qs,fpg,rfl,G3,by omega,λH4 s4=>?_⟩;have s04:=s03.trans s4;have hdr4:=s04 _ _ hdr;have pr4:Paired (cu' K H4) yr ps:=Paired.mapP pr λ_ _ r=>r.same s04;refine⟨dr,_,hdr4,_,rfl,dr,_,rfl,hdr4,λv hv=>?_⟩;obtain⟨s5,e5⟩:=nw__ (o:=a3' v dr) hv;generalize upd H4 v (a3' v dr)=H5 at s5 e5 ⊢;have hdr5:=s5 _ _ hdr4;have pr5:Paired (cu' K H5) yr ps:=Paired.mapP pr4 λ_ _ r=>r.same s5;refine⟨v,dr,_,rfl,e5,hdr5,λo D hD=>?_⟩;have lk:(kvp ps yr).length=ps.length:=cH_ lyr;obtain⟨bs,hbs⟩:∃bs:List Bool,bs=ps.map λq=>q.2.2.isNone:=⟨_,rfl⟩;have lb:bs.length=ps.length:=by rw[hbs,aa']
  have fz0:Fz dr o (kvp ps yr) H5 (upd H5 dr (.frz o (.dK (kvp ps yr)))):=Fz.start;generalize upd H5 dr (.frz o (.dK (kvp ps yr)))=H6 at fz0 hD ⊢;refine ff_ (own:=2) (fv:=[]) rfl gok2 (λi out H'=>Fz dr o (kvp ps yr) H5 H'/\H' D=some (.lst out)/\out=(bs.take i).map V.bl) ⟨fz0.step (Same.new hD),a1_,rfl⟩ (λi out H' _ ⟨z,_⟩=>z.at_) (λout H7 ⟨fz,hD7,eo⟩=>?_) (λi ky x out H7 hx ⟨fz,hD7,eo⟩=>?_)
  ·rw[lk,<- lb,ax'] at eo;have Dd:D≠dr:=ac_ hD7 fz.at_ nofun;refine⟨o,fz.at_,D,bs,rfl,.of ?_,rfl,?_⟩
   ·rw[a5_ Dd,hD7,eo]
   ·have eq:(qs.all λq=>q.2.2.isNone)=bs.all id:=by
     rw[hA_ Qq S.nd,hbs,List.all_map];rfl
    show Q (.bl (decide (V.bl (qs.all λq=>q.2.2.isNone)=V.bl (bs.all id)))) _;rw[eq,a_2 rfl];exact k _ ((s04.trans s5).trans (fz.thaw hdr5))
  ·obtain⟨q,hq,hx',rfl⟩:=fT_ hx;obtain⟨hix,hxe⟩:=ab'.mp hx';obtain⟨hiq,hqe⟩:=ab'.mp hq;have rw2:=ak_ pr5 i hix hiq;rw[hxe,hqe] at rw2;obtain⟨t2,due,rfl,ht2,wd⟩:=rw2;have ht7:=fz.sm _ _ (ac_ ht2 hdr5 nofun) ht2
   have eb:decide (due=.non)=q.2.2.isNone:=by
    cases e:q.2.2 with
    |none=>
     rw[e] at wd;cases (show due=.non from wd);rfl
    |some ws=>
     rw[e] at wd;obtain⟨a,ys,e2,_⟩:=wd;rw[e2];rfl
   refine⟨_,⟨t2,_,_,rfl,.of ht7,rfl⟩,rfl,λNx hN=>yesT ?_⟩;refine⟨_,rfl,out,hD7,?_,?_⟩
   ·rw[eo,aa',ak'];omega
   ·rw[eb];have Dd:D≠dr:=ac_ hD7 fz.at_ nofun;have nD:H5 D=none∨True:=.inr trivial;refine hN _ _ ⟨⟨by rw[a5_ Dd.symm];exact fz.at_,λc u n e=>?_⟩,a1_,?_⟩
    ·have:=fz0.sm c u n e;rw[a5_ (a7_ this hD)];exact fz.sm c u n e
    ·rw[ax_ _ (show bs[i]? = some q.2.2.isNone by rw[hbs,am',hq];rfl),eo]
end
section
variable{P:Ad}{w:Af}{K:F__}{mg:Str->Option Aa}{base:Heap}
theorem bM':aT' ["_law_yard","_law_hand","_law_goods","_law_name","_law_told"] ["_law_yard","_law_hand"] (aS' cJ'):=f__
inductive bN' (K:F__) (CY CW:Addr) (vs:List V) (H:Hp) (Q:VK) (E:XK):Prop
 |mk:∀(y p dp dh ld:Addr) (h:Str) (hs:Xa) (ts:Xb) (ps:List Pc) (f:Str->Str) (b:Int) (fp:List Addr),vs=[.ref y,.str h]->a1' K CY CW H y p dp dh ld hs ts ps f b fp->Pok hs ts ps f->(∀q∈ps,nrm q=q)->(∀H',Same H H'->Q .non H')->bN' K CY CW vs H Q E
theorem fm_{f0 CY CG CW CP:Addr}{fd:Ae}(F:Fun K "_law_spoilt" "_law_spoilt" cJ' f0 fd)(T:TxtY K CY)(TG:TxtG K CG)(cYG:CalM P w K mg base CY 9 "goods" ["self"] (bj' K CY CG CW))(cYS:CalM P w K mg base CY 1 "stand" ["self"] (bg' K CY CW))(cYL:CalM P w K mg base CY 10 "loads" ["self"] (bb' K CY CW))(cYH:CalM P w K mg base CY 10 "heights" ["self"] (bb' K CY CW))(cN:CalM P w K mg base CG 1 "names" ["self"] (bw' K CG CW))(cWy:CalX P w K mg base CG 2 "ways" ["self","piece"] (bR' K CG CW CP)):FnOk P w K mg base CX0 11 f0 fd ["_law_yard","_law_hand"] (bN' K CY CW):=by
 refine F.ok bM' (λvs H Q E h=>?_) (λcdv A outer s H vs Q E hr h=>?_)
 ·obtain⟨y,p,dp,dh,ld,h,hs,ts,ps,f,b,fp,rfl,_⟩:=h;rfl
 ·obtain⟨y,p,dp,dh,ld,h,hs,ts,ps,f,b,fp,rfl,Y,S,nm,k⟩:=h;have sz:=b__;have hr1:Room 1 _:=hr.mono (by decide);have hr2:Room 2 _:=hr.mono (by decide);have hr9:Room 9 _:=hr.mono (by decide);refine' ⟨_,a2_ ?s1 (a2_ ?s2 (a2_ ?s3 (a2_ ?s4 (a2_ ?s5 (a6_ ?s6))))),?kk⟩
  case s1=>exact ad_ (i:=2) bM'.nd rfl (Or.inl rfl) (aK_ cYG T.cl hr9 (pv 0))
  case s2=>exact aP_ b_0 rfl (av_ (aK_ cN TG.cl hr1 (pv 2))) (aa_ (i:=3) bM'.nd rfl (Or.inl rfl)) (a2_ (ad_ (i:=4) bM'.nd rfl (Or.inl rfl) (gV_ cWy TG.cl hr2 (pv 2) (a0_ (pv 3) a3_))) (a6_ (au_ (bl_ (hw_ (pv 4))) (a6_ (aq_ (dA_ b_2 PySem.F.slot_list_append PySem.F.type_list_append b4_ (pv 4) (a0_ (aL_ (a0_ (pv 1) (a0_ (pv 1) a3_))) a3_)))) ab_)))
  case s3=>exact aq_ (dx_ b_2 PySem.F.slot_list_clear PySem.F.type_list_clear gX_ (aK_ cN TG.cl hr1 (pv 2)))
  case s4=>exact aq_ (dx_ PySem.F.plainAttrs_dict PySem.F.slot_dict_clear PySem.F.type_dict_clear ca_ (aK_ cYS T.cl hr1 (pv 0)))
  case s5=>exact aq_ (dx_ PySem.F.plainAttrs_dict PySem.F.slot_dict_clear PySem.F.type_dict_clear ca_ (aK_ cYL T.cl hr (pv 0)))
  case s6=>exact aq_ (dx_ PySem.F.plainAttrs_dict PySem.F.slot_dict_clear PySem.F.type_dict_clear ca_ (aK_ cYH T.cl hr (pv 0)))
  case' kk=>skip
  obtain⟨dx,fs,hy,yf,_⟩:=id Y.ex;have h30:=S.h30;refine⟨_,rfl,y,dx,fs,rfl,hy,yf.no _ Z0,y,p,dp,dh,ld,hs,ts,ps,f,b,fp,rfl,Y,S,λg qs fpg H1 s1 hg G Qq has sub=>?_⟩;refine setG ?_;dsimp only;have qnd:=Qq.nds S.nd;have lq:=Qq.lens;refine seqG (λσ H'=>(∃v3 v4,σ=[some (.ref y),some (.str h),some (.ref g),v3,v4])/\Same H1 H') ?later (λN hN=>?now)
  case now=>
   obtain⟨dxg,dw,dy,vs,fpw,h1,_⟩:=id G.ex;refine⟨_,rfl,g,dxg,_,rfl,h1,aO_ _ _ _ Z0 Z0 Z0,g,p,hs,ts,qs,fpg,rfl,G,λl1 hl1=>?_⟩;obtain⟨s2,e2⟩:=nw__ (o:=.lst ((qs.map (·.1)).map V.str)) hl1;generalize upd H1 l1 (.lst ((qs.map (·.1)).map V.str))=H2 at s2 e2 ⊢;refine⟨l1,rfl,⟨_,.of e2⟩,aH_ (K:=K) (a:=l1) (xs:=(qs.map (·.1)).map V.str) (λi σ H'=>(∃v3 v4,σ=[some (.ref y),some (.str h),some (.ref g),v3,v4])/\Same H2 H') ⟨⟨_,_,rfl⟩,Same.refl _⟩ (λi σ H' _ ⟨_,z⟩=>.of (z _ _ e2)) ?_ ?_⟩;rotate_left 1
   ·rintro σ H3 ⟨⟨v3,v4,rfl⟩,s3⟩;exact hN _ _ ⟨⟨_,_,rfl⟩,s2.trans s3⟩
   rintro i x σ H3 hx ⟨⟨v3,v4,rfl⟩,s3⟩;rw[am',am'] at hx
   obtain⟨q,hq,rfl⟩:∃q,qs[i]? = some q/\x=.str q.1:=by
    cases e:qs[i]? with
    |none=>rw[e] at hx;cases hx
    |some q=>rw[e] at hx;exact⟨q,rfl,(a_8 hx).symm⟩
   have qm:=ai' hq
   have wlen:∀ws,q.2.2=some ws->ws.length<=1000:=λws e=>by
    obtain⟨q',hq',rfl⟩:=Qq.mem q qm;rw[nm q' hq'] at e;have:=((S.gp q' hq').ws ws e).len;have:=S.Gd.t64;omega
   refine setG ?_;dsimp only;have G3:=G.same (s2.trans s3);obtain⟨dxg,dw,dy,vs,fpw,h1,_⟩:=id G3.ex;refine⟨_,rfl,g,dxg,_,rfl,h1,aO_ _ _ _ Z0 Z0 Z0,_,rfl,g,p,.str q.1,some q.1,hs,ts,qs,fpg,rfl,G3,qnd,rfl,.inl ⟨q,qm,rfl,wlen,λv' H4 s4 wy vn=>?_⟩⟩;refine setG ?_;dsimp only;refine⟨_,rfl,_,rfl,?_⟩;cases eo:q.2.2 with
   |none=>
    rw[eo] at wy;cases (show v'=.non from wy);exact iteF ⟨⟨_,_,rfl⟩,s3.trans s4⟩
   |some ws=>
    have wl:=wlen ws eo;rw[eo] at wy;obtain⟨a,ys,rfl,ha,tu⟩:=wy;have lys:=a_5 tu;rw[aa'] at lys;refine iteT ?_;refine⟨_,rfl,.inl ⟨rfl,_,.of ha⟩,_,rfl,_,rfl,by show 2<=sizeLine;decide,λt nt=>?_⟩;have s5:=Same.new (o:=.tup [.str h,.str h]) nt;generalize upd H4 t (.tup [.str h,.str h])=H5 at s5 ⊢;refine⟨a,ys,_,rfl,rfl,s5 _ _ ha,by omega,⟨_,_,rfl⟩,?_⟩;exact ay_ (s3.trans (s4.trans s5)) (s3.free (vn a rfl))
  rintro σ H2 ⟨⟨v3,v4,rfl⟩,s2⟩;have G2:=G.same s2;obtain⟨dxg,dw,dy,vs,fpw,h1,_⟩:=id G2.ex;refine⟨_,rfl,g,dxg,_,rfl,h1,aO_ _ _ _ Z0 Z0 Z0,g,p,hs,ts,qs,fpg,rfl,G2,λl1 hl1=>?_⟩;refine⟨.inl ⟨rfl,_,.of a1_⟩,l1,_,rfl,rfl,a1_,?_⟩;have s3:Same H (upd (upd H2 l1 (.lst ((qs.map (·.1)).map V.str))) l1 (.lst [])):=ay_ ((s1.trans s2).trans (Same.new hl1)) ((s1.trans s2).free hl1);generalize upd (upd H2 l1 (.lst ((qs.map (·.1)).map V.str))) l1 (.lst [])=H3 at s3 ⊢;refine⟨_,rfl,y,dx,fs,rfl,s3 _ _ hy,yf.no _ Z0,y,p,dp,dh,ld,hs,ts,ps,f,b,fp,rfl,Y.same s3,S,λd1 H4 s4 n4 e4=>?_⟩;refine⟨.inr (.inr (.inl ⟨rfl,.inl ⟨_,e4⟩⟩)),d1,_,rfl,rfl,e4,?_⟩;have s5:Same H (upd H4 d1 (.dK [])):=ay_ (s3.trans s4) (s3.free n4);generalize upd H4 d1 (.dK [])=H5 at s5 ⊢;refine⟨_,rfl,y,dx,fs,rfl,s5 _ _ hy,yf.no _ Z0,y,p,dp,dh,ld,hs,ts,ps,f,b,fp,rfl,Y.same s5,S,λd2 kv2 H6 s6 n6 e6 _=>?_⟩;refine⟨.inr (.inr (.inl ⟨rfl,.inl ⟨_,e6⟩⟩)),d2,_,rfl,rfl,e6,?_⟩;have s7:Same H (upd H6 d2 (.dK [])):=ay_ (s5.trans s6) (s5.free n6);generalize upd H6 d2 (.dK [])=H7 at s7 ⊢;refine⟨_,rfl,y,dx,fs,rfl,s7 _ _ hy,yf.no _ Z0,y,p,dp,dh,ld,hs,ts,ps,f,b,fp,rfl,Y.same s7,S,λd3 kv3 H8 s8 n8 e8 _=>?_⟩;refine⟨.inr (.inr (.inl ⟨rfl,.inl ⟨_,e8⟩⟩)),d3,_,rfl,rfl,e8,?_⟩;exact k _ (ay_ (s7.trans s8) (s7.free n8))
end
theorem dh_(a b:Str):ord2 (ord2 a b).1 (ord2 a b).2=ord2 a b:=by
 rcases bz_ a b with e|e
 ·rw[e];exact e
 ·rw[e];show ord2 b a=(b,a);rw[<- c4_,e]
theorem eZ_(ws:Xb):(tsOf ws).map kO=(tsOf ws).map kT:=az' λt ht=>by
 obtain⟨u,_,rfl⟩:=by'.mp ht;unfold kO;rw[dh_]
theorem fD_(ws:Xb):tsOf (tsOf ws)=tsOf ws:=by
 have e:sortKs ((tsOf ws).map λt=>kT (ord2 t.1 t.2))=(tsOf ws).map kT:=by
  rw[show ((tsOf ws).map λt=>kT (ord2 t.1 t.2))=(tsOf ws).map kT from eZ_ ws,b6_];exact (cg_ (List.Perm.refl _) (bq_ _)).symm
 show (sortKs ((tsOf ws).map λt=>kT (ord2 t.1 t.2))).map twoK=tsOf ws;rw[e,ah']
 conv=>rhs;rw[<- List.map_id (tsOf ws)]
 exact az' λt _=>rfl
theorem gI_(q:Pc):nrm (nrm q)=nrm q:=by
 obtain⟨n,wt,o⟩:=q;cases o with
 |none=>rfl
 |some ws=>show (n,wt,some (tsOf (tsOf ws)))=(n,wt,some (tsOf ws));rw[fD_]
theorem bl'.ts{ts ws:Xb}(W:bl' ts ws):bl' ts (tsOf ws):=by
 refine⟨λw hw=>?_,?_,λw hw=>?_,by rw[gv_];exact W.len⟩
 ·obtain⟨t,ht,rfl⟩:=by'.mp hw;obtain⟨g1,g2,g3⟩:=W.good t ht;rcases bz_ t.1 t.2 with e|e
  ·rw[e];exact⟨g1,g2,g3⟩
  ·rw[e];exact⟨g2,g1,g3.symm⟩
 ·rw[eZ_,b6_];exact (ag_ _).nodup_iff.mpr W.nd
 ·obtain⟨t,ht,rfl⟩:=by'.mp hw;have:kO (ord2 t.1 t.2)=kO t:=by unfold kO;rw[dh_]
  rw[this];exact W.inn t ht
variable{ts:Xb}
theorem bG'.nrm(g:bG' ts q):bG' ts (nrm q):=by
 refine⟨g.nm,g.w1,g.w2,λws e=>?_⟩;have e:q.2.2.map tsOf=some ws:=e;cases o:q.2.2 with
 |none=>rw[o] at e;cases e
 |some us=>
  rw[o] at e;cases e;exact (g.ws us o).ts
def RowY(K:F__)(H:Hp)(l ld:Addr)(v:V)(q:Pc):Prop:=∃t due,v=.ref t/\H t=some (.tup [.int q.2.1,due])/\WyAt K H due q.2.2/\∀a,due=.ref a->a≠l/\a≠ld
variable{K:F__}{H:Hp}{l:Addr}
theorem RowY.keep{ld:Addr}(h:RowY K H l ld v q)(kl:∀c xs,H c=some (.lst xs)->c≠l->c≠ld->H' c=some (.lst xs))(kt:∀c xs,H c=some (.tup xs)->H' c=some (.tup xs)):RowY K H' l ld v q:=by
 obtain⟨t,due,e,ht,wy,n⟩:=h;refine⟨t,due,e,kt _ _ ht,?_,n⟩;cases o:q.2.2 with
 |none=>rw[o] at wy;exact wy
 |some ws=>
  rw[o] at wy;obtain⟨a,ys,rfl,ha,tu⟩:=wy;exact⟨a,ys,rfl,kl _ _ ha (n a rfl).1 (n a rfl).2,Paired.mapP tu λx k ⟨d,e,hd⟩=>⟨d,e,kt _ _ hd⟩⟩
theorem RowY.row{ld:Addr}(h:RowY K H l ld v q):cu' K H v q:=by
 obtain⟨t,due,e,ht,wy,_⟩:=h;exact⟨t,due,e,ht,wy⟩
def Kp7(l y dp dh ld dr dc:Addr)(H H':Hp):Prop:=∀c o,H c=some o->c≠l->c≠y->c≠dp->c≠dh->c≠ld->c≠dr->c≠dc->H' c=some o
structure LI (K:F__) (CY CW:Addr) (Hb H:Hp) (l y p dp dh ld dr dc:Addr) (hs:Xa) (ts:Xb) (ns:List Str) (i:Nat) (ps:List Pc) (f:Str->Str) (b:Int) (fp:List Addr) (yr:List V):Prop where
 nm:ps.map (·.1)=ns.take i
 st:stt H l
 Y:a1' K CY CW H y p dp dh ld hs ts ps f b fp
 lf:l∉fp
 rf:dr∉fp
 cf:dc∉fp
 S:Pok hs ts ps f
 id:∀q∈ps,nrm q=q
 r:H dr=some (.dK (kvp ps yr))
 ry:Paired (RowY K H l ld) yr ps
 c:H dc=some (.dK (stF (ps.map (·.1)) f))
 k:Kp7 l y dp dh ld dr dc Hb H
variable{CW CY:Addr}
theorem LI.same{Hb:Hp}{y p dp dh ld dr dc:Addr}{hs:Xa}{ns:List Str}{i:Nat}{ps:List Pc}{f:Str->Str}{b:Int}{fp:List Addr}{yr:List V}(L:LI K CY CW Hb H l y p dp dh ld dr dc hs ts ns i ps f b fp yr)(s:Same H H'):LI K CY CW Hb H' l y p dp dh ld dr dc hs ts ns i ps f b fp yr:=
 ⟨L.nm,L.st.same s,L.Y.same s,L.lf,L.rf,L.cf,L.S,L.id,s _ _ L.r,Paired.mapP L.ry λ_ _ r=>r.keep (λc xs e _ _=>s _ _ e) λc xs e=>s _ _ e,s _ _ L.c,λc o e n1 n2 n3 n4 n5 n6 n7=>s _ _ (L.k c o e n1 n2 n3 n4 n5 n6 n7)⟩
theorem cc':aT' ["_law_script","_law_state","_law_hands","_law_ties","_law_yard","_law_rows","_law_places","_law_name","_law_hand"] ["_law_script"] (aS' sLaw):=f__
def spLaw(K:F__):Sp:=λvs H Q _=>∃(a:Addr) (ns:List Int),vs=[.ref a]/\SqL K H a (ns.map V.int)/\ns.length<=63/\∀H',Q (.bl true) H'
variable{P:Ad}{w:Af}{mg:Str->Option Aa}{base:Heap}
theorem iB_{f0:Addr}{fd:Ae}(F:Fun K "law" "law" sLaw f0 fd)(B:Bi mg)(T:TxtY K CY)(cC:Cal P w K mg base 1 "_law_cell_at" ["_law_script","_law_k"] (spCell K))(cD:Cal P w K mg base 1 "_law_digit" ["_law_state","_law_base"] bs')(cN:Cal P w K mg base 2 "_law_names" ["_law_state","_law_many"] b9')(cL:Cal P w K mg base 3 "_law_web" ["_law_state","_law_most"] (spLWeb K))(cW:CalC P w K mg base CW 5 "Web" ["self","hands","ties"] (cQ' K CW))(cY:CalC P w K mg base CY 3 "Yard" ["self","web","rule"] (cd' K CY CW))(cYL:CalM P w K mg base CY 10 "loads" ["self"] (bb' K CY CW))(cYH:CalM P w K mg base CY 10 "heights" ["self"] (bb' K CY CW))(cCo:Cal P w K mg base 7 "_law_comes" ["_law_yard","_law_state","_law_name","_law_hand","_law_ties"] (b4' K CY CW))(cA:Cal P w K mg base 10 "_law_alike" ["_law_yard","_law_rows","_law_places"] (cm' K CY CW))(cS:Cal P w K mg base 11 "_law_spoilt" ["_law_yard","_law_hand"] (bN' K CY CW)):FnOk P w K mg base CX0 12 f0 fd ["_law_script"] (spLaw K):=by
 refine F.ok cc' (λvs H Q E h=>?_) (λcdv A outer s H vs Q E hr h=>?_)
 ·obtain⟨a,ns,rfl,_⟩:=h;rfl
 ·obtain⟨ls,ns0,rfl,hls,h63,k⟩:=h;have sz:=b__;have hu:=bi_ hr;have hr1:Room 1 _:=hr.mono (by decide);have hr2:Room 2 _:=hr.mono (by decide);have hr3:Room 3 _:=hr.mono (by decide);have hr4:Room 4 _:=hr.mono (by decide);have hr6:Room 6 _:=hr.mono (by decide);have hr7:Room 7 _:=hr.mono (by decide);have hr10:Room 10 _:=hr.mono (by decide);have hr11:Room 11 _:=hr.mono (by decide);refine' ⟨_,?r0,?kk⟩
  case' r0=>refine' a2_ ?s1 (a2_ ?s2 (a2_ ?s3 (a2_ ?s4 (a2_ ?s5 (a2_ ?s6 (a6_ ?s7))))))
  case s1=>exact ad_ (i:=1) cc'.nd rfl (Or.inl rfl) (bn_ (a0_ (ai_ cC hr1 (a0_ (pv 0) (a0_ a8_ a3_))) a3_))
  case s2=>exact ed_ (ai_ cL hr3 (a0_ (pv 1) (a0_ a8_ a3_))) (co_ rfl (ah_ (aa_ (i:=2) cc'.nd rfl (Or.inl rfl)) (ah_ (aa_ (i:=3) cc'.nd rfl (Or.inl rfl)) aZ_)))
  case s3=>exact ad_ (i:=4) cc'.nd rfl (Or.inl rfl) (hJ_ cY hr4 (a0_ (hJ_ cW hr6 (a0_ (pv 2) (a0_ (pv 3) a3_))) (a0_ bv_ a3_)))
  case s4=>exact ad_ (i:=5) cc'.nd rfl (Or.inl rfl) aW_
  case s5=>exact ad_ (i:=6) cc'.nd rfl (Or.inl rfl) aW_
  case' s6=>refine' aP_ b_0 rfl (av_ (ai_ cN hr2 (a0_ (pv 1) (a0_ a8_ a3_)))) (aa_ (i:=7) cc'.nd rfl (Or.inl rfl)) (a2_ ?b1 (a2_ ?b2 (a2_ ?b3 (a2_ ?b4 (a6_ ?b5)))))
  case b1=>exact ad_ (i:=8) cc'.nd rfl (Or.inl rfl) (aA_ aI_ (aA_ aG_ (pv 2) (ai_ cD hr1 (a0_ (pv 1) (a0_ (a9_ am_ (by rfl) B.len b_5 (a0_ (pv 2) a3_)) a3_))) (λ_ _=>rfl)) a8_ (λ_ _=>rfl))
  case b2=>exact aY_ hu (pv 5) (pv 7) (ai_ cCo hr7 (a0_ (pv 4) (a0_ (pv 1) (a0_ (pv 7) (a0_ (pv 8) (a0_ (pv 3) a3_)))))) rfl
  case b3=>exact aY_ hu (pv 6) (pv 7) (pv 8) rfl
  case b4=>exact au_ (aE_ (aJ_ (ai_ cA hr10 (a0_ (pv 4) (a0_ (pv 5) (a0_ (pv 6) a3_)))))) af_ ab_
  case b5=>exact aq_ (ai_ cS hr11 (a0_ (pv 4) (a0_ (pv 8) a3_)))
  case s7=>exact ae_ (b1_ (ai_ cA hr10 (a0_ (pv 4) (a0_ (pv 5) (a0_ (pv 6) a3_)))) (b1_ (bP_ ck_ (a9_ ci_ (by rfl) B.len b_5 (a0_ (aK_ cYL T.cl hr10 (pv 4)) a3_)) (a9_ am_ (by rfl) B.len b_5 (a0_ (pv 2) a3_)) (nomark _)) (bu_ (bP_ ck_ (a9_ ci_ (by rfl) B.len b_5 (a0_ (aK_ cYH T.cl hr10 (pv 4)) a3_)) (a9_ am_ (by rfl) B.len b_5 (a0_ (pv 2) a3_)) (nomark _)))))
  case' kk=>skip
  refine⟨_,rfl,ls,ns0,0,rfl,by decide,hls,λn0=>?_⟩;refine⟨by show 1<=sizeLine;decide,λl hl=>?_⟩;have st0:stt (upd H l (.lst [.int n0])) l:=.inl ⟨n0,a1_⟩;refine setG ?_;dsimp only;generalize upd H l (.lst [.int n0])=H0 at st0 ⊢;clear hls hl;refine⟨_,rfl,l,rfl,st0,λt0 lh lt yh yt hs ts H2 b2 st2 ht2 hlh hlt nlt hlh2 th2 hlt2 tt2 Gd _=>?_⟩;refine⟨t0,_,rfl,.of ht2,rfl,_,_,rfl,_,_,rfl,rfl,?_⟩;dsimp only;have lhl:lh≠l:=st0.ne hlh;have ltl:lt≠l:=st0.ne hlt;clear b2 st0 ht2 hlh hlt;have lyh:=a_5 th2;rw[aa'] at lyh;have h0:=Gd.h1;have h8:=Gd.h8;refine⟨_,rfl,_,rfl,λp dx hp hdx ndp=>?_⟩;have s3:Same H2 (upd (upd H2 dx (.own p)) p (.ins CW dx [])):=(Same.new hdx).trans (Same.new (by rw[a5_ ndp.symm];exact hp));have hp3:upd (upd H2 dx (.own p)) p (.ins CW dx []) p=some (.ins CW dx []):=a1_;generalize upd (upd H2 dx (.own p)) p (.ins CW dx [])=H3 at s3 hp3 ⊢;refine⟨p,dx,lh,lt,yh,yt,hs,ts,rfl,hp3,s3 _ _ hlh2,th2.same s3,s3 _ _ hlt2,tt2.same s3,Gd,λfpw H4 k4 W fw=>⟨rfl,?_⟩⟩;have s4:Same H2 H4:=λb o e=>k4 b o (s3 _ _ e) (a7_ e hp)
  have old:∀c o,H2 c=some o->c∉fpw:=λc o e m=>by
   rcases fw c m with z|z
   ·rw[z,hp] at e;cases e
   ·rw[s3 _ _ e] at z;cases z
  intro y dxy hy hdy ndy;have s5:Same H4 (upd (upd H4 dxy (.own y)) y (.ins CY dxy [])):=(Same.new hdy).trans (Same.new (by rw[a5_ ndy.symm];exact hy));have hy5:upd (upd H4 dxy (.own y)) y (.ins CY dxy []) y=some (.ins CY dxy []):=a1_;generalize upd (upd H4 dxy (.own y)) y (.ins CY dxy [])=H5 at s5 hy5 ⊢
  have yw:y∉fpw:=λm=>by
   obtain⟨o,e⟩:=W.has m;rw[hy] at e;cases e
  refine⟨y,dxy,p,("shares all","shares","all",none),hs,ts,fpw,by decide +kernel,rfl,hy5,W.same s5,yw,λdp dh ld fp f H6 k6 Y fy=>⟨rfl,?_⟩⟩;have s6:Same H4 H6:=λb o e=>k6 b o (s5 _ _ e) (a7_ e hy);have s26:=s4.trans s6
  have old6:∀c o,H2 c=some o->c∉fp:=λc o e m=>by
   rcases fy c m with z|z|z
   ·rw[z] at e;rw[s4 _ _ e] at hy;cases hy
   ·exact old c o e z
   ·rw[s5 _ _ (s4 _ _ e)] at z;cases z
  refine setG ?_;dsimp only;obtain⟨xs2,hl2⟩:=st2.some;have lf:=old6 _ _ hl2;have lhf:=old6 _ _ hlh2;have ltf:=old6 _ _ hlt2;have st6:=st2.same s26;have hlh6:=s26 _ _ hlh2;have hlt6:=s26 _ _ hlt2;have th6:=th2.same s26;have tt6:=tt2.same s26;clear fy old6 old fw k6 k4 hy5 s5 s3 hp3 hlh2 hlt2 th2 tt2 s4 s6 s26 hl2 st2;intro dr hdr;obtain⟨s7,e7⟩:=nw__ (o:=.dK []) hdr;show tSeq _ _ _ _ (upd H6 dr (.dK []));generalize upd H6 dr (.dK [])=H7 at s7 e7 ⊢;intro dc hdc;obtain⟨s8,e8⟩:=nw__ (o:=.dK []) hdc;show tSeq _ _ _ _ (upd H7 dc (.dK []));generalize upd H7 dc (.dK [])=H8 at s8 e8 ⊢;have rcn:dr≠dc:=a7_ e7 hdc
  have rf:dr∉fp:=λm=>by
   obtain⟨o,e⟩:=Y.has _ m;rw[hdr] at e;cases e
  have cf:dc∉fp:=λm=>by
   obtain⟨o,e⟩:=Y.has _ m;rw[s7.free hdc] at e;cases e
  have s68:=s7.trans s8;refine⟨_,rfl,l,8,rfl,by decide,st6.same s68,λln ns H9 b9 st9 nln e9 N=>?_⟩;have lnl:ln≠l:=(st6.same s68).ne nln
  have nlf:ln∉fp:=λm=>by
   obtain⟨o,e⟩:=Y.has _ m;rw[s68.free nln] at e;cases e
  have bb:But l H6 H9:=(But.of s68).trans b9;have Y9:=Y.but bb st6 lf;obtain⟨m1,m2,m3,m4⟩:=id Y.m;have drl:dr≠l:=(st6.ne hdr);have dcl:dc≠l:=((st6.same s7).ne hdc);have r9:=b9 _ _ (s8 _ _ e7) drl;have c9:=b9 _ _ e8 dcl;obtain⟨xs6,hl6⟩:=st6.some;have hlh9:=bb _ _ hlh6 lhl;have hlt9:=bb _ _ hlt6 ltl;have th9:=al_ th6 bb hl6;have tt9:=al_ tt6 bb hl6;have L0:LI K CY CW H9 H9 l y p dp dh ld dr dc hs ts ns 0 [] f 0 fp []:=⟨by simp,st9,Y9,lf,rf,cf,⟨Gd,λq hq=>(by cases hq),List.nodup_nil,by simp,λn hn=>(by cases hn)⟩,λq hq=>(by cases hq),r9,.nil,c9,λc o e _ _ _ _ _ _ _=>e⟩;have nln':=N.len;clear Y9 r9 c9 bb b9 st9 s68 s8 s7 e7 e8 hdr hdc Y st6 nln hlh6 hlt6 th6 tt6 hl6;obtain⟨Lst,hLst⟩:∃Lst:Addr->Prop,Lst=λc=>c≠l/\c∉fp:=⟨_,rfl⟩;have kl:∀{H':Hp},Kp7 l y dp dh ld dr dc H9 H'->∀{c xs},H9 c=some (.lst xs)->c≠l->c∉fp->H' c=some (.lst xs):=λ{H'} k' {c xs} e n1 n2=>k' c _ e n1 (λz=>n2 (z▸m1)) (λz=>n2 (z▸m2)) (λz=>n2 (z▸m3)) (λz=>n2 (z▸m4)) (ac_ e L0.r nofun) (ac_ e L0.c nofun);obtain⟨_,_,hy9,_⟩:=id L0.Y.ex;obtain⟨_,hdp9,_⟩:=id L0.Y.P;have hdh9:=L0.Y.Hd;obtain⟨_,hld9,_⟩:=id L0.Y.D;obtain⟨_,hl9⟩:=L0.st.some;have kt:∀{H':Hp},Kp7 l y dp dh ld dr dc H9 H'->∀c xs,H9 c=some (.tup xs)->H' c=some (.tup xs):=λ{H'} k' c xs e=>k' c _ e (ac_ e hl9 nofun) (ac_ e hy9 nofun) (ac_ e hdp9 nofun) (ac_ e hdh9 nofun) (ac_ e hld9 nofun) (ac_ e L0.r nofun) (ac_ e L0.c nofun);refine⟨ln,rfl,⟨_,.of e9⟩,aH_ (K:=K) (a:=ln) (xs:=ns.map V.str) (λi σ H'=>∃v7 v8 ps f b fp yr,σ=[some (.ref ls),some (.ref l),some (.ref lh),some (.ref lt),some (.ref y),some (.ref dr),some (.ref dc),v7,v8]/\LI K CY CW H9 H' l y p dp dh ld dr dc hs ts ns i ps f b fp yr) ⟨none,none,[],f,0,fp,[],rfl,L0⟩ (λi σ H' _ ⟨_,_,_,_,_,_,_,_,z⟩=>.of (kl z.k e9 lnl nlf)) ?_ ?_⟩
  ·rintro i x σ H1 hx ⟨v7,v8,ps,f1,b1,fp1,yr,rfl,L⟩;rw[am'] at hx
   obtain⟨n,hn,rfl⟩:∃n,ns[i]? = some n/\x=.str n:=by
    cases e:ns[i]? with
    |none=>rw[e] at hx;cases hx
    |some n=>rw[e] at hx;exact⟨n,rfl,(a_8 hx).symm⟩
   have hi:i<ns.length:=(ab'.mp hn).1;have nmem:=ai' hn;have nq:n∉ps.map (·.1):=by rw[L.nm];exact ef_ N.nd hn
   have lps:ps.length<=8:=by
    have:=b_7 List.length L.nm;rw[aa',ak'] at this;omega
   have lyr:=a_5 L.ry;refine setG ?_;dsimp only;refine⟨_,rfl,_,rfl,_,rfl,lh,_,rfl,.inl (.of (kl L.k hlh9 lhl lhf)),l,(yh.length:Int),rfl,by omega,by omega,L.st,λj H2 j0 j1 b2 st2=>?_⟩;obtain⟨j,rfl⟩:=aB' j0;have hj:j<yh.length:=by omega
   have hyj:yh[j]? = some (yh[j]'hj):=ac' hj;obtain⟨h,hh,a,ea,ha⟩:=aM_ th9 hyj;have ha1:=hpH (kt L.k _ _ ha);obtain⟨xs1,hl1⟩:=L.st.some;have ha2:=b2 _ _ ha1 (ac_ ha1 hl1 nofun);refine⟨lh,_,_,.ref a,rfl,rfl,.of (b2 _ _ (kl L.k hlh9 lhl lhf) lhl),by rw[cR_ Z1 Z1,Int.toNat_natCast,hyj,ea],a,_,0,_,rfl,rfl,.of ha2,rfl,?_⟩;refine setG ?_;dsimp only;have hm:h.1∈hs.map (·.1):=af'.mpr ⟨h,ai' hh,rfl⟩;obtain⟨q1,q2,q3,q4⟩:=id L.Y.m;have drld:dr≠ld:=λz=>L.rf (z▸q4);have r2:=b2 _ _ L.r drl;have c2:=b2 _ _ L.c dcl;have Y2:=L.Y.but b2 L.st L.lf;refine⟨_,rfl,_,rfl,_,rfl,_,rfl,_,rfl,l,lt,y,p,dp,dh,ld,n,h.1,yt,hs,ts,ps,f1,b1,fp1,rfl,Y2,L.lf,L.S,st2,b2 _ _ (kl L.k hlt9 ltl ltf) ltl,ltl,al_ (Paired.mapP tt9 λx k ⟨d,e,hd⟩=>⟨d,e,kt L.k _ _ hd⟩) b2 hl1,N.ok n nmem,nq,hm,by omega,λt wt due H3 k5 st3 nt et nd ⟨q,b',fp',qn,qw,gp,Y3,ff,wd,af⟩=>?_⟩;have r3:=k5 _ _ r2 drl (λz=>L.rf (z▸q1)) (λz=>L.rf (z▸q2)) (λz=>L.rf (z▸q3)) drld;have c3:=k5 _ _ c2 dcl (λz=>L.cf (z▸q1)) (λz=>L.cf (z▸q2)) (λz=>L.cf (z▸q3)) (λz=>L.cf (z▸q4))
   have rf':dr∉fp':=λm=>by
    rcases ff _ m with z|z
    ·exact L.rf z
    ·rw[r2] at z;cases z
   have cf':dc∉fp':=λm=>by
    rcases ff _ m with z|z
    ·exact L.cf z
    ·rw[c2] at z;cases z
   have lf':l∉fp':=λm=>by
    obtain⟨_,e⟩:=st2.some;rcases ff _ m with z|z
    ·exact L.lf z
    ·rw[e] at z;cases z
   refine⟨_,rfl,_,rfl,dr,_,rfl,.k (k:=Sum.inr n) r3 (by rw[cH_ lyr];omega),?_⟩
   rw[show putK (kvp ps yr) (Sum.inr n) (.ref t)=kvp (ps++[nrm q]) (yr++[.ref t]) by
    rw[<- qn];exact f8_ (q:=nrm q) lyr (by rw[show (nrm q).1=n from qn];exact nq)]
   have k4:∀c o,H3 c=some o->c≠dr->upd H3 dr (.dK (kvp (ps++[nrm q]) (yr++[.ref t]))) c=some o:=λc o e n=>by rw[a5_ n];exact e
   have r4:upd H3 dr (.dK (kvp (ps++[nrm q]) (yr++[.ref t]))) dr=some (.dK (kvp (ps++[nrm q]) (yr++[.ref t]))):=a1_;have st4:=dM_ (u:=.dK (kvp (ps++[nrm q]) (yr++[.ref t]))) st3 drl;generalize upd H3 dr (.dK (kvp (ps++[nrm q]) (yr++[.ref t])))=H4 at k4 r4 st4 ⊢;refine⟨_,rfl,_,rfl,_,rfl,dc,_,rfl,.k (k:=Sum.inr n) (k4 _ _ c3 rcn.symm) (by rw[aR_,aa'];omega),?_⟩
   have est:putK (stF (ps.map (·.1)) f1) (Sum.inr n) (.str h.1)=stF ((ps++[nrm q]).map (·.1)) (λm=>if m=n then h.1 else f1 m):=by
    rw[show putK (stF (ps.map (·.1)) f1) (Sum.inr n) (.str h.1)=_ from dE_ nq,aq'];rw[show [nrm q].map (·.1)=[n] by show [q.1]=[n];rw[qn]];refine cm_ λm _=>?_;by_cases z:m=n
    ·simp[z]
    ·simp[z]
   rw[est];have k5':∀c o,H4 c=some o->c≠dc->upd H4 dc (.dK (stF ((ps++[nrm q]).map (·.1)) λm=>if m=n then h.1 else f1 m)) c=some o:=λc o e n=>by rw[a5_ n];exact e
   have c5:upd H4 dc (.dK (stF ((ps++[nrm q]).map (·.1)) λm=>if m=n then h.1 else f1 m)) dc=some (.dK (stF ((ps++[nrm q]).map (·.1)) λm=>if m=n then h.1 else f1 m)):=a1_;have st5:=dM_ (u:=.dK (stF ((ps++[nrm q]).map (·.1)) λm=>if m=n then h.1 else f1 m)) st4 dcl;generalize upd H4 dc (.dK (stF ((ps++[nrm q]).map (·.1)) λm=>if m=n then h.1 else f1 m))=H5 at k5' c5 st5 ⊢;have k35:∀c o,H3 c=some o->c≠dr->c≠dc->H5 c=some o:=λc o e n1 n2=>k5' _ _ (k4 _ _ e n1) n2;have kt35:∀c xs,H3 c=some (.tup xs)->H5 c=some (.tup xs):=λc xs e=>k35 _ _ e (ac_ e r3 nofun) (ac_ e c3 nofun);have kl35:∀c xs,H3 c=some (.lst xs)->H5 c=some (.lst xs):=λc xs e=>k35 _ _ e (ac_ e r3 nofun) (ac_ e c3 nofun);obtain⟨_,_,hy1,_⟩:=id L.Y.ex;obtain⟨_,hdp1,_⟩:=id L.Y.P;have hdh1:=L.Y.Hd;obtain⟨_,hld1,_⟩:=id L.Y.D;have k15:∀c o,H1 c=some o->c≠l->c≠y->c≠dp->c≠dh->c≠ld->c≠dr->c≠dc->H5 c=some o:=λc o e n1 n2 n3 n4 n5 n6 n7=>k35 _ _ (k5 _ _ (b2 _ _ e n1) n1 n2 n3 n4 n5) n6 n7
   have L5:LI K CY CW H9 H5 l y p dp dh ld dr dc hs ts ns (i+1) (ps++[nrm q]) (λm=>if m=n then h.1 else f1 m) b' fp' (yr++[.ref t]):=by
    refine⟨?_,st5,Y3.keep (λc hc o e=>k35 _ _ e (λz=>rf' (z▸hc)) λz=>cf' (z▸hc)) kt35,lf',rf',cf',⟨Gd,?_,?_,?_,?_⟩,?_,k5' _ _ r4 rcn,?_,c5,λc o e n1 n2 n3 n4 n5 n6 n7=>k15 c o (L.k c o e n1 n2 n3 n4 n5 n6 n7) n1 n2 n3 n4 n5 n6 n7⟩
    ·rw[bR_ hn,aq',L.nm];show _++[q.1]=_;rw[qn]
    ·intro q' hq';rcases ay'.mp hq' with z|z
     ·exact L.S.gp q' z
     ·rw[aN'.mp z];exact gp.nrm
    ·rw[aq',L.nm];show (_++[q.1]).Nodup;rw[qn,<- bR_ hn];exact N.nd.sublist (List.take_sublist _ _)
    ·rw[ar'];show ps.length+1<=30;omega
    ·intro m hm';show (if m=n then h.1 else f1 m)∈_;by_cases z:m=n
     ·rw[a_9 z];exact hm
     ·rw[a_6 z];rw[aq'] at hm';rcases ay'.mp hm' with hm'|hm'
      ·exact L.S.at_ m hm'
      ·have hm':m=(nrm q).1:=by simpa using hm'
       exact absurd ((show m=q.1 from hm').trans qn) z
    ·intro q' hq';rcases ay'.mp hq' with z|z
     ·exact L.id q' z
     ·rw[aN'.mp z];exact gI_ q
    ·refine aF_ (Paired.mapP L.ry λv q' r=>r.keep (λc xs e n1 n5=>k15 c _ e n1 (ac_ e hy1 nofun) (ac_ e hdp1 nofun) (ac_ e hdh1 nofun) n5 (ac_ e L.r nofun) (ac_ e L.c nofun)) λc xs e=>k15 c _ e (ac_ e hl1 nofun) (ac_ e hy1 nofun) (ac_ e hdp1 nofun) (ac_ e hdh1 nofun) (ac_ e hld1 nofun) (ac_ e L.r nofun) (ac_ e L.c nofun)) (.cons ?_ .nil);refine RowY.keep (H:=H3) ⟨t,due,rfl,by rw[show (nrm q).2.1=wt from qw];exact et,wd,λa z=>⟨st2.ne (nd a z),λy=>af a z (y▸Y3.m.2.2.2)⟩⟩ (λc xs e _ _=>kl35 c xs e) kt35
   clear k15 kl35 kt35 k35 k5' k4 est;refine⟨_,rfl,_,rfl,_,rfl,y,dr,dc,p,dp,dh,ld,_,hs,ts,_,_,b',fp',rfl,L5.Y,L5.S,L5.id,L5.r,Paired.mapP L5.ry λ_ _ r=>r.row,λc hc z=>L5.rf (z▸hc),L5.c,λH6 s6=>⟨_,rfl,iteF ?_⟩⟩;have L6:=L5.same s6;refine⟨_,rfl,_,rfl,y,p,dp,dh,ld,h.1,hs,ts,_,_,b',fp',rfl,L6.Y,L6.S,L6.id,λH7 s7=>?_⟩;exact⟨_,_,_,_,_,_,_,rfl,L6.same s7⟩
  rintro σ H1 ⟨v7,v8,ps,f1,b1,fp1,yr,rfl,L⟩;rw[aa',nln'] at L;have lh1:=kl L.k hlh9 lhl lhf;refine⟨_,rfl,_,rfl,_,rfl,y,dr,dc,p,dp,dh,ld,_,hs,ts,_,_,b1,fp1,rfl,L.Y,L.S,L.id,L.r,Paired.mapP L.ry λ_ _ r=>r.row,λc hc z=>L.rf (z▸hc),L.c,λH2 s2=>⟨_,rfl,iteT ?_⟩⟩;have L2:=L.same s2;obtain⟨dx2,fs2,hy2,yf2,_⟩:=id L2.Y.ex;refine⟨_,rfl,y,dx2,fs2,rfl,hy2,yf2.no _ Z0,y,p,dp,dh,ld,hs,ts,ps,f1,b1,fp1,rfl,L2.Y,L2.S,λd1 kv1 H3 s3 n3 e3 le3=>?_⟩;refine⟨d1,kv1,rfl,e3,_,rfl,lh,yh,rfl,.inl (.of ((s2.trans s3) _ _ lh1)),?_⟩;have L3:=L2.same s3;refine⟨rfl,_,rfl,?_⟩;rw[le3,lyh,a_2 rfl];refine iteT ?_;refine⟨_,rfl,y,dx2,fs2,rfl,s3 _ _ hy2,yf2.no _ Z0,y,p,dp,dh,ld,hs,ts,ps,f1,b1,fp1,rfl,L3.Y,L3.S,λd2 kv2 H4 s4 n4 e4 le4=>?_⟩;refine⟨d2,kv2,rfl,e4,_,rfl,lh,yh,rfl,.inl (.of (((s2.trans s3).trans s4) _ _ lh1)),?_⟩;refine⟨rfl,?_⟩;rw[le4,lyh,a_2 rfl];exact k _
structure Fd (K:F__) (mg:Str->Option Aa) (x:Str) (st:Stmt):Prop where
 ex:∃f fd,Fun K x x st f fd/\mg x=some (.ref f)/\PySem.W.keepIn K (.ref f)=true
variable{f:Addr}{h:Heap}{x:Str}{st:Stmt}{cdv ct doc oc pm:Aa}{an od:Option Addr}{osl:Array (Option Aa)}
theorem fd_mk(X:K.In h)(G:h.Ns mainGlobals mg){kV:Aa}(a:PySem.W.nsIn K mainGlobals x=some (some (.ref f)))(l:K.lookup f=some ⟨oc,od,.func (PySem.W.fnOf x x (a6' st) (aZ' st) (aS' st) .none kV doc pm an cdv ct),osl⟩)(c:PySem.W.codeIn K cdv x=true)(k:PySem.W.keepIn K (.ref f)=true):Fd K mg x st:=⟨_,_,f3_ l c k,b_9 X G a,k⟩
structure Md (K:F__) (C:Addr) (m qual:Str) (st:Stmt):Prop where
 ex:∃f fd,Fun K m qual st f fd/\Meth K C m f
variable{C:Addr}{m qual:Str}
theorem md_mk{kV:Aa}(a:PySem.W.findIn K (.ref C) m=some (some (.ref f)))(i:PySem.W.isFn K (.ref f)=true)(l:K.lookup f=some ⟨oc,od,.func (PySem.W.fnOf m qual (a6' st) (aZ' st) (aS' st) .none kV doc pm an cdv ct),osl⟩)(c:PySem.W.codeIn K cdv qual=true)(k:PySem.W.keepIn K (.ref f)=true):Md K C m qual st:=⟨_,_,f3_ l c k,a,i,k⟩
variable{ps:List Str}{k:Nat}{sp:Sp}
theorem cal(d:Fd K mg x st)(ok:∀f fd,Fun K x x st f fd->FnOk P w K mg base CX0 k f fd ps sp)(h:∀(kV doc pm:Aa) (an:Option Addr) (cdv ct:Aa) (us:List Aa),us.length=ps.length->bindArgs (PySem.W.fnOf x x (a6' st) (aZ' st) (aS' st) .none kV doc pm an cdv ct) ⟨us,[]⟩=pure (ps.zip us)):Cal P w K mg base k x ps sp:=by
 obtain⟨f,fd,F,m,kp⟩:=d.ex;exact⟨f,fd,ok f fd F,m,kp,F.binds h⟩
theorem calM(d:Md K C m qual st)(ok:∀f fd,Fun K m qual st f fd->FnOk P w K mg base CX0 k f fd ps sp)(h:∀(kV doc pm:Aa) (an:Option Addr) (cdv ct:Aa) (us:List Aa),us.length=ps.length->bindArgs (PySem.W.fnOf m qual (a6' st) (aZ' st) (aS' st) .none kV doc pm an cdv ct) ⟨us,[]⟩=pure (ps.zip us)):CalM P w K mg base C k m ps sp:=by
 obtain⟨f,fd,F,m⟩:=d.ex;exact⟨f,fd,ok f fd F,m,F.binds h⟩
theorem calX(d:Md K C m qual st)(ok:∀f fd,Fun K m qual st f fd->FnOk P w K mg base (CX1 P w) k f fd ps sp)(h:∀(kV doc pm:Aa) (an:Option Addr) (cdv ct:Aa) (us:List Aa),us.length=ps.length->bindArgs (PySem.W.fnOf m qual (a6' st) (aZ' st) (aS' st) .none kV doc pm an cdv ct) ⟨us,[]⟩=pure (ps.zip us)):CalX P w K mg base C k m ps sp:=by
 obtain⟨f,fd,F,m⟩:=d.ex;exact⟨f,fd,ok f fd F,m,F.binds h⟩
theorem calC(d:Md K C "__init__" qual st)(hx:mg x=some (.ref C))(mk:PySem.W.makesIn K C=true)(kc:PySem.W.keepIn K (.ref C)=true)(ok:∀f fd,Fun K "__init__" qual st f fd->FnOk P w K mg base CX0 k f fd ps sp)(h:∀(kV doc pm:Aa) (an:Option Addr) (cdv ct:Aa) (us:List Aa),us.length=ps.length->bindArgs (PySem.W.fnOf "__init__" qual (a6' st) (aZ' st) (aS' st) .none kV doc pm an cdv ct) ⟨us,[]⟩=pure (ps.zip us)):CalC P w K mg base C k x ps sp:=by
 obtain⟨f,fd,F,m⟩:=d.ex;exact⟨f,fd,ok f fd F,⟨mk,m.1,m.2,kc⟩,hx,F.binds h⟩
variable{n:Nat}
theorem tup3{a:Addr}{p q:Str}{x y:Tok}{z:Aa}{u:V}{sl:Array (Option Aa)}(h:K.lookup a=some ⟨.type "tuple",od,.seq #[.str p x,.str q y,z] n,sl⟩)(r:RelV u z):∀H,SqT K H a [.str p,.str q,u]:=λH=>
 .inr ⟨_,_,_,h,rfl,rfl,(show 3<=sizeLine by decide),.cons ⟨x,rfl⟩ (.cons ⟨y,rfl⟩ (.cons r .nil))⟩
variable{d:Addr}{t10 t11 t12 t8 t9:Tok}
theorem rules_at{es:Array DictEntry}{ep:Nat}{t0 t1 t2 t3 t4 t5 t6 t7 t13 t14 t15 t16:Tok}{b0 b1 b2 b3 b4 b5 b6 b7 b8 b9 b10 b11 b12 b13 b14 b15 b16:Addr}{od0 od1 od2 od3 od4 od5 od6 od7 od8 od9 od10 od11 od12 od13 od14 od15 od16:Option Addr}{x0 y0 n0 v0 x1 y1 n1 v1 x2 y2 n2 v2 x3 y3 n3 v3 x4 y4 n4 v4 x5 y5 n5 v5 x6 y6 n6 v6 x7 y7 n7 v7 x8 y8 n8 v8 x9 y9 n9 v9 x10 y10 n10 v10 x11 y11 n11 v11 x12 y12 n12 x13 y13 n13 x14 y14 n14 v14 x15 y15 n15 v15 x16 y16 n16 v16:Nat}{sl0 sl1 sl2 sl3 sl4 sl5 sl6 sl7 sl8 sl9 sl10 sl11 sl12 sl13 sl14 sl15 sl16:Array (Option Aa)}(m:mg "RULES"=some (.ref d))(hs:(d == sysModules)=false)(hl:K.lookup d=some ⟨.type "dict",none,.dict es ep,#[]⟩)(he:es.toList=c0' w [("least one high",t0,.ref b0),("least one fall",t1,.ref b1),("least one calm",t2,.ref b2),("least all high",t3,.ref b3),("least all fall",t4,.ref b4),("least all calm",t5,.ref b5),("below one high",t6,.ref b6),("below one fall",t7,.ref b7),("below one calm",t8,.ref b8),("below all high",t9,.ref b9),("below all fall",t10,.ref b10),("below all calm",t11,.ref b11),("shares one",t12,.ref b12),("shares all",t13,.ref b13),("turns high",t14,.ref b14),("turns fall",t15,.ref b15),("turns calm",t16,.ref b16)])(u0:K.lookup b0=some ⟨.type "tuple",od0,.seq #[.str "least" x0,.str "one" y0,.str "high" v0] n0,sl0⟩)(u1:K.lookup b1=some ⟨.type "tuple",od1,.seq #[.str "least" x1,.str "one" y1,.str "fall" v1] n1,sl1⟩)(u2:K.lookup b2=some ⟨.type "tuple",od2,.seq #[.str "least" x2,.str "one" y2,.str "calm" v2] n2,sl2⟩)(u3:K.lookup b3=some ⟨.type "tuple",od3,.seq #[.str "least" x3,.str "all" y3,.str "high" v3] n3,sl3⟩)(u4:K.lookup b4=some ⟨.type "tuple",od4,.seq #[.str "least" x4,.str "all" y4,.str "fall" v4] n4,sl4⟩)(u5:K.lookup b5=some ⟨.type "tuple",od5,.seq #[.str "least" x5,.str "all" y5,.str "calm" v5] n5,sl5⟩)(u6:K.lookup b6=some ⟨.type "tuple",od6,.seq #[.str "below" x6,.str "one" y6,.str "high" v6] n6,sl6⟩)(u7:K.lookup b7=some ⟨.type "tuple",od7,.seq #[.str "below" x7,.str "one" y7,.str "fall" v7] n7,sl7⟩)(u8:K.lookup b8=some ⟨.type "tuple",od8,.seq #[.str "below" x8,.str "one" y8,.str "calm" v8] n8,sl8⟩)(u9:K.lookup b9=some ⟨.type "tuple",od9,.seq #[.str "below" x9,.str "all" y9,.str "high" v9] n9,sl9⟩)(u10:K.lookup b10=some ⟨.type "tuple",od10,.seq #[.str "below" x10,.str "all" y10,.str "fall" v10] n10,sl10⟩)(u11:K.lookup b11=some ⟨.type "tuple",od11,.seq #[.str "below" x11,.str "all" y11,.str "calm" v11] n11,sl11⟩)(u12:K.lookup b12=some ⟨.type "tuple",od12,.seq #[.str "shares" x12,.str "one" y12,.none] n12,sl12⟩)(u13:K.lookup b13=some ⟨.type "tuple",od13,.seq #[.str "shares" x13,.str "all" y13,.none] n13,sl13⟩)(u14:K.lookup b14=some ⟨.type "tuple",od14,.seq #[.str "turns" x14,.str "all" y14,.str "high" v14] n14,sl14⟩)(u15:K.lookup b15=some ⟨.type "tuple",od15,.seq #[.str "turns" x15,.str "all" y15,.str "fall" v15] n15,sl15⟩)(u16:K.lookup b16=some ⟨.type "tuple",od16,.seq #[.str "turns" x16,.str "all" y16,.str "calm" v16] n16,sl16⟩) :
  cg' K w mg d [b0,b1,b2,b3,b4,b5,b6,b7,b8,b9,b10,b11,b12,b13,b14,b15,b16]:=by
 refine⟨m,rfl,⟨hs,?_,[("least one high",t0,.ref b0),("least one fall",t1,.ref b1),("least one calm",t2,.ref b2),("least all high",t3,.ref b3),("least all fall",t4,.ref b4),("least all calm",t5,.ref b5),("below one high",t6,.ref b6),("below one fall",t7,.ref b7),("below one calm",t8,.ref b8),("below all high",t9,.ref b9),("below all fall",t10,.ref b10),("below all calm",t11,.ref b11),("shares one",t12,.ref b12),("shares all",t13,.ref b13),("turns high",t14,.ref b14),("turns fall",t15,.ref b15),("turns calm",t16,.ref b16)],_,es,ep,hl,⟨rfl,rfl,rfl⟩,rfl,he,?_⟩,?_⟩
 ·rw[dq_ rfl];exact fX_
 ·exact .cons ⟨rfl,rfl⟩ (.cons ⟨rfl,rfl⟩ (.cons ⟨rfl,rfl⟩ (.cons ⟨rfl,rfl⟩ (.cons ⟨rfl,rfl⟩ (.cons ⟨rfl,rfl⟩ (.cons ⟨rfl,rfl⟩ (.cons ⟨rfl,rfl⟩ (.cons ⟨rfl,rfl⟩ (.cons ⟨rfl,rfl⟩ (.cons ⟨rfl,rfl⟩ (.cons ⟨rfl,rfl⟩ (.cons ⟨rfl,rfl⟩ (.cons ⟨rfl,rfl⟩ (.cons ⟨rfl,rfl⟩ (.cons ⟨rfl,rfl⟩ (.cons ⟨rfl,rfl⟩ (.nil)))))))))))))))))
 ·exact .cons (tup3 u0 ⟨_,rfl⟩) (.cons (tup3 u1 ⟨_,rfl⟩) (.cons (tup3 u2 ⟨_,rfl⟩) (.cons (tup3 u3 ⟨_,rfl⟩) (.cons (tup3 u4 ⟨_,rfl⟩) (.cons (tup3 u5 ⟨_,rfl⟩) (.cons (tup3 u6 ⟨_,rfl⟩) (.cons (tup3 u7 ⟨_,rfl⟩) (.cons (tup3 u8 ⟨_,rfl⟩) (.cons (tup3 u9 ⟨_,rfl⟩) (.cons (tup3 u10 ⟨_,rfl⟩) (.cons (tup3 u11 ⟨_,rfl⟩) (.cons (tup3 u12 rfl) (.cons (tup3 u13 rfl) (.cons (tup3 u14 ⟨_,rfl⟩) (.cons (tup3 u15 ⟨_,rfl⟩) (.cons (tup3 u16 ⟨_,rfl⟩) (.nil)))))))))))))))))
structure MdD (K:F__) (CY:Addr):Prop where
 ex:∃f fd,FunD K "come" "Yard.come" bP' f fd/\Meth K CY "come" f
theorem mdd_mk{T:Addr}{kV:Aa}{ot:Aa}{odt:Option Addr}{slt:Array (Option Aa)}(a:PySem.W.findIn K (.ref CY) "come"=some (some (.ref f)))(i:PySem.W.isFn K (.ref f)=true)(l:K.lookup f=some ⟨oc,od,.func (PySem.W.fnOf "come" "Yard.come" (a6' bP') (aZ' bP') (aS' bP') (.ref T) kV doc pm an cdv ct),osl⟩)(c:PySem.W.codeIn K cdv "Yard.come"=true)(k:PySem.W.keepIn K (.ref f)=true)(t:K.lookup T=some ⟨ot,odt,.seq #[.none] n,slt⟩):MdD K CY:=
 ⟨f,_,⟨oc,od,T,kV,doc,pm,an,cdv,ct,osl,_,n,rfl,l,c,t,rfl⟩,a,i,k⟩
variable{l:PySem.W.OpenLaw}
theorem all_mk{as:List Addr}{fa CG CP fl:Addr}(X:K.In h)(G:h.Ns mainGlobals mg)(hfa:mg "law"=some (.ref fa))(f0:Fd K mg "is_whole" sIsW)(f1:Fd K mg "is_whole_within" sWhole)(f2:Fd K mg "is_name" sName)(f3:Fd K mg "lesser_first" cy')(f4:Fd K mg "is_pair_of_names" sPair)(f5:Fd K mg "sorted_ties" cB')(f6:Fd K mg "is_hand_with_strength" sHand)(f7:Fd K mg "checked_strengths" sStr)(f8:Fd K mg "checked_ties" sTies)(f9:Fd K mg "neighbours_of_all" sNear)(f10:Fd K mg "checked_ways" sCWays)(f11:Fd K mg "checked_piece" cA')(f12:Fd K mg "checked_pieces" ce')(f13:Fd K mg "ties_anew" sAnew)(f14:Fd K mg "greatest_divisor" sGd)(f15:Fd K mg "least_multiple" sLM)(f16:Fd K mg "fraction_of" sFrac)(f17:Fd K mg "loads_at" cb')(f18:Fd K mg "multiple_of_strengths" sMult)(f19:Fd K mg "heights_at" bF')(f20:Fd K mg "is_rule" cG')(f21:Fd K mg "checked_words" sWords)(f22:Fd K mg "_law_cell_at" sCell)(f23:Fd K mg "_law_digit" sDigit)(f24:Fd K mg "_law_names" sNames)(f25:Fd K mg "_law_web" sLWeb)(f26:Fd K mg "_law_turned_ways" sTWays)(f27:Fd K mg "_law_comes" sComes)(f28:Fd K mg "_law_alike" sAlike)(f29:Fd K mg "_law_spoilt" cJ')(m0:Md K CW "__init__" "Web.__init__" sInit)(m1:Md K CW "has_hand" "Web.has_hand" sHas)(m2:Md K CW "hands" "Web.hands" sHands)(m3:Md K CW "strength" "Web.strength" bU')(m4:Md K CW "are_tied" "Web.are_tied" sTied)(m5:Md K CG "__init__" "Goods.__init__" sGInit)(m6:Md K CG "has_piece" "Goods.has_piece" sGHas)(m7:Md K CG "names" "Goods.names" cI')(m8:Md K CG "weight" "Goods.weight" b5')(m9:Md K CG "ways" "Goods.ways" sGWays)(m10:Md K CG "are_free" "Goods.are_free" sGFree)(m11:Md K CY "__init__" "Yard.__init__" sYInit)(m12:Md K CY "loosen" "Yard.loosen" ca')(m13:Md K CY "goods" "Yard.goods" cC')(m14:Md K CY "stand" "Yard.stand" cD')(m15:Md K CY "loads" "Yard.loads" cx')(m16:Md K CY "heights" "Yard.heights" bW'){ocl kVl dcl pml cdl ctl:Aa}{odl anl:Option Addr}{sll:Array (Option Aa)}(al:PySem.W.nsIn K mainGlobals "law"=some (some (.ref fl)))(ll:K.lookup fl=some ⟨ocl,odl,.func (PySem.W.fnOf "law" "law" (a6' sLaw) (aZ' sLaw) (aS' sLaw) .none kVl dcl pml anl cdl ctl),sll⟩)(cl:PySem.W.codeIn K cdl "law"=true)(kl:PySem.W.keepIn K (.ref fl)=true)(aW:PySem.W.nsIn K mainGlobals "Web"=some (some (.ref CW)))(aG:PySem.W.nsIn K mainGlobals "Goods"=some (some (.ref CG)))(aY:PySem.W.nsIn K mainGlobals "Yard"=some (some (.ref CY)))(eP:PySem.W.nsIn K mainGlobals "NoPiece"=some (some (.ref CP)))(xP:PySem.W.excIn K CP [.type "ValueError",.type "Exception",.type "BaseException",.type "object"] "ValueError.__new__"=true)(c8:PySem.W.nsIn K mainGlobals "MOST_LETTERS"=some (some (.int 8 t8)))(c9:PySem.W.nsIn K mainGlobals "MOST_HANDS"=some (some (.int 8 t9)))(c10:PySem.W.nsIn K mainGlobals "MOST_STRENGTH"=some (some (.int 1000 t10)))(c11:PySem.W.nsIn K mainGlobals "MOST_WEIGHT"=some (some (.int 1000000000 t11)))(c12:PySem.W.nsIn K mainGlobals "MOST_PIECES"=some (some (.int 30 t12)))(wpg:PySem.W.plainGet K CW Str.empty=true)(whd:PySem.W.hasDictIn K CW=true)(wpo:PySem.W.plainOver K CW=true)(wsa:PySem.W.findIn K (.ref CW) "__setattr__"=some (some (.builtin "object.__setattr__")))(wmk:PySem.W.makesIn K CW=true)(wkc:PySem.W.keepIn K (.ref CW)=true)(nS:PySem.W.findIn K (.ref CW) "strength_by_hand"=some none)(nP:PySem.W.findIn K (.ref CW) "sorted_pairs"=some none)(nN:PySem.W.findIn K (.ref CW) "neighbours_by_hand"=some none)(wiha:PySem.W.findIn K (.ref CW) "__class__"=some (some (.builtin "object.__class__")))(wimo:PySem.W.mroIn K CW (.type "object")=some true)(gpg:PySem.W.plainGet K CG Str.empty=true)(ghd:PySem.W.hasDictIn K CG=true)(gpo:PySem.W.plainOver K CG=true)(gsa:PySem.W.findIn K (.ref CG) "__setattr__"=some (some (.builtin "object.__setattr__")))(gmk:PySem.W.makesIn K CG=true)(gkc:PySem.W.keepIn K (.ref CG)=true)(nW:PySem.W.findIn K (.ref CG) "web"=some none)(nG:PySem.W.findIn K (.ref CG) "weight_by_name"=some none)(nY:PySem.W.findIn K (.ref CG) "ways_by_name"=some none)(giha:PySem.W.findIn K (.ref CG) "__class__"=some (some (.builtin "object.__class__")))(gimo:PySem.W.mroIn K CG (.type "object")=some true)(ypg:PySem.W.plainGet K CY Str.empty=true)(yhd:PySem.W.hasDictIn K CY=true)(ypo:PySem.W.plainOver K CY=true)(ysa:PySem.W.findIn K (.ref CY) "__setattr__"=some (some (.builtin "object.__setattr__")))(ymk:PySem.W.makesIn K CY=true)(ykc:PySem.W.keepIn K (.ref CY)=true)(yW:PySem.W.findIn K (.ref CY) "web"=some none)(yR:PySem.W.findIn K (.ref CY) "rule"=some none)(yM:PySem.W.findIn K (.ref CY) "moment"=some none)(yP:PySem.W.findIn K (.ref CY) "piece_by_name"=some none)(yH:PySem.W.findIn K (.ref CY) "hand_by_name"=some none)(yD:PySem.W.findIn K (.ref CY) "deeds"=some none)(yB:PySem.W.findIn K (.ref CY) "bound_in_parts"=some none)(yiha:PySem.W.findIn K (.ref CY) "__class__"=some (some (.builtin "object.__class__")))(yimo:PySem.W.mroIn K CY (.type "object")=some true)(ihn:PySem.W.specialIn K (.builtin "object.__class__") "__get__"=some (some (.builtin "getset_descriptor.__get__")))(itk:PySem.W.takesIn K (.builtin "object.__class__")=some true)(yd:MdD K CY)(R:cg' K w mg d as)(z0:PySem.W.nsIn K mainGlobals "isinstance"=some none)(z1:PySem.W.nsIn K mainGlobals "int"=some none)(z2:PySem.W.nsIn K mainGlobals "bool"=some none)(z3:PySem.W.nsIn K mainGlobals "str"=some none)(z4:PySem.W.nsIn K mainGlobals "tuple"=some none)(z5:PySem.W.nsIn K mainGlobals "list"=some none)(z6:PySem.W.nsIn K mainGlobals "dict"=some none)(z7:PySem.W.nsIn K mainGlobals "len"=some none)(z8:PySem.W.nsIn K mainGlobals "all"=some none)(z9:PySem.W.nsIn K mainGlobals "sorted"=some none)(z10:PySem.W.nsIn K mainGlobals "max"=some none)(z11:PySem.W.nsIn K mainGlobals "range"=some none)(z12:PySem.W.nsIn K mainGlobals "any"=some none)(z13:PySem.W.nsIn K mainGlobals "enumerate"=some none) :
  ∃fd:Ae,(∀(s:Ab) (v:Aa),BindsTo s fd ⟨[v],[]⟩ [("_law_script",v)])/\∀base:Heap,K.In base->base.Ns mainGlobals mg->FnOk l.prog w K mg base CX0 12 fa fd ["_law_script"] (spLaw K):=by
 have e:=hfa.symm.trans (b_9 X G al);cases e;have B:Bi mg:=⟨b_1 X G z0,b_1 X G z1,b_1 X G z2,b_1 X G z3,b_1 X G z4,b_1 X G z5,b_1 X G z6,b_1 X G z7,b_1 X G z8,b_1 X G z9,b_1 X G z10,b_1 X G z11,b_1 X G z12,b_1 X G z13⟩;have TW:Txt K mg CW:=⟨⟨wpg,whd,wpo,wsa⟩,nS,nP,nN⟩;have IW:InsK K CW:=⟨wiha,ihn,itk,wimo⟩;have T:TxtG K CG:=⟨⟨gpg,ghd,gpo,gsa⟩,nW,nG,nY⟩;have IG:InsK K CG:=⟨giha,ihn,itk,gimo⟩;have RP:Ref K mg "NoPiece" CP:=⟨b_9 X G eP,xP⟩;have FL:=f3_ (st:=sLaw) ll cl kl;refine⟨PySem.W.fnOf "law" "law" (a6' sLaw) (aZ' sLaw) (aS' sLaw) .none kVl dcl pml anl cdl ctl,λs v=>.of_eq rfl,λbase _ _=>?_⟩;have TY:TxtY K CY:=⟨⟨ypg,yhd,ypo,ysa⟩,yW,yR,yM,yP,yH,yD,yB⟩;have cIsW:Cal l.prog w K mg base 1 "is_whole" ["thing"] spIsW:=cal f0 (λ_ _ F=>iE_ F B) (λ_ _ _ _ _ _ us hl=>match us,hl with | [_],_=>rfl);have cWhole:Cal l.prog w K mg base 2 "is_whole_within" ["thing","least","most"] b7':=cal f1 (λ_ _ F=>gZ_ F cIsW) (λ_ _ _ _ _ _ us hl=>match us,hl with | [_,_,_],_=>rfl);have cName:Cal l.prog w K mg base 1 "is_name" ["thing"] cp':=cal f2 (λ_ _ F=>hv_ F B (b_9 X G c8)) (λ_ _ _ _ _ _ us hl=>match us,hl with | [_],_=>rfl);have cLess:Cal l.prog w K mg base 1 "lesser_first" ["one","other"] bJ':=cal f3 (λ_ _ F=>fx_ F) (λ_ _ _ _ _ _ us hl=>match us,hl with | [_,_],_=>rfl);have cPair:Cal l.prog w K mg base 2 "is_pair_of_names" ["thing"] spPair:=cal f4 (λ_ _ F=>hH_ F B cName) (λ_ _ _ _ _ _ us hl=>match us,hl with | [_],_=>rfl);have cSort:Cal l.prog w K mg base 3 "sorted_ties" ["ties"] (bO' K):=cal f5 (λ_ _ F=>fV_ F B cPair cLess) (λ_ _ _ _ _ _ us hl=>match us,hl with | [_],_=>rfl);have cHand:Cal l.prog w K mg base 3 "is_hand_with_strength" ["thing"] spHand:=cal f6 (λ_ _ F=>ho_ F B cName cWhole (b_9 X G c10)) (λ_ _ _ _ _ _ us hl=>match us,hl with | [_],_=>rfl);have cStr:Cal l.prog w K mg base 4 "checked_strengths" ["hands"] (spStr K):=cal f7 (λ_ _ F=>in_ F B cHand (b_9 X G c9)) (λ_ _ _ _ _ _ us hl=>match us,hl with | [_],_=>rfl);have cTies:Cal l.prog w K mg base 4 "checked_ties" ["ties","strengths"] (cU' K):=cal f8 (λ_ _ F=>hI_ F B cSort) (λ_ _ _ _ _ _ us hl=>match us,hl with | [_,_],_=>rfl);have cNear:Cal l.prog w K mg base 2 "neighbours_of_all" ["names","ties"] (cT' K):=cal f9 (λ_ _ F=>hQ_ F cLess) (λ_ _ _ _ _ _ us hl=>match us,hl with | [_,_],_=>rfl);have cWeb:CalC l.prog w K mg base CW 5 "Web" ["self","hands","ties"] (cQ' K CW):=calC m0 (b_9 X G aW) wmk wkc (λ_ _ F=>hF_ F TW B cStr cTies cNear) (λ_ _ _ _ _ _ us hl=>match us,hl with | [_,_,_],_=>rfl);have mHasA:CalM l.prog w K mg base CW 1 "has_hand" ["self","thing"] (cS' K CW):=calM m1 (λ_ _ F=>hD_ F TW B) (λ_ _ _ _ _ _ us hl=>match us,hl with | [_,_],_=>rfl);have mHas:CalM l.prog w K mg base CW 1 "has_hand" ["self","thing"] (spHas K CW):=calM m1 (λ_ _ F=>iq_ F TW B) (λ_ _ _ _ _ _ us hl=>match us,hl with | [_,_],_=>rfl);have mHands:CalM l.prog w K mg base CW 1 "hands" ["self"] (bX' K CW):=calM m2 (λ_ _ F=>gd_ F TW B) (λ_ _ _ _ _ _ us hl=>match us,hl with | [_],_=>rfl);have mStr:CalM l.prog w K mg base CW 2 "strength" ["self","hand"] (bc' K CW):=calM m3 (λ_ _ F=>dG_ F TW mHas) (λ_ _ _ _ _ _ us hl=>match us,hl with | [_,_],_=>rfl);have mTied:CalM l.prog w K mg base CW 2 "are_tied" ["self","one","other"] (cn' K CW):=calM m4 (λ_ _ F=>gH_ F TW mHasA) (λ_ _ _ _ _ _ us hl=>match us,hl with | [_,_,_],_=>rfl);have cCW:Cal l.prog w K mg base 4 "checked_ways" ["web","ways"] (ch' K CW):=cal f10 (λ_ _ F=>gp_ F TW cSort mTied) (λ_ _ _ _ _ _ us hl=>match us,hl with | [_,_],_=>rfl);have cCP:Cal l.prog w K mg base 5 "checked_piece" ["web","piece"] (bx' K CW):=cal f11 (λ_ _ F=>fL_ F B cName cWhole cCW (b_9 X G c11)) (λ_ _ _ _ _ _ us hl=>match us,hl with | [_,_],_=>rfl);have cCPs:Cal l.prog w K mg base 6 "checked_pieces" ["web","pieces"] (bv' K CW):=cal f12 (λ_ _ F=>et_ F B cCP) (λ_ _ _ _ _ _ us hl=>match us,hl with | [_,_],_=>rfl);have cGoods:CalC l.prog w K mg base CG 7 "Goods" ["self","web","pieces"] (ck' K CG CW):=calC m5 (b_9 X G aG) gmk gkc (λ_ _ F=>h1_ F T TW IW B (b_9 X G aW) cCPs) (λ_ _ _ _ _ _ us hl=>match us,hl with | [_,_,_],_=>rfl);have gHas:CalM l.prog w K mg base CG 1 "has_piece" ["self","thing"] (cs' K CG CW):=calM m6 (λ_ _ F=>hX_ F T B) (λ_ _ _ _ _ _ us hl=>match us,hl with | [_,_],_=>rfl);have gNames:CalM l.prog w K mg base CG 1 "names" ["self"] (bw' K CG CW):=calM m7 (λ_ _ F=>g9_ F T B) (λ_ _ _ _ _ _ us hl=>match us,hl with | [_],_=>rfl);have gWeight:CalX l.prog w K mg base CG 2 "weight" ["self","piece"] (bo' K CG CW CP):=calX m8 (λ_ _ F=>eF_ F T RP gHas) (λ_ _ _ _ _ _ us hl=>match us,hl with | [_,_],_=>rfl);have cAnew:Cal l.prog w K mg base 1 "ties_anew" ["ties"] (spAnew K):=cal f13 (λ_ _ F=>hG_ F) (λ_ _ _ _ _ _ us hl=>match us,hl with | [_],_=>rfl);have gWays:CalX l.prog w K mg base CG 2 "ways" ["self","piece"] (bR' K CG CW CP):=calX m9 (λ_ _ F=>gE_ F T RP gHas cAnew) (λ_ _ _ _ _ _ us hl=>match us,hl with | [_,_],_=>rfl);have gFree:CalM l.prog w K mg base CG 1 "are_free" ["self"] (ci' K CG CW):=calM m10 (λ_ _ F=>h5_ F T B) (λ_ _ _ _ _ _ us hl=>match us,hl with | [_],_=>rfl);have cGd:Cal l.prog w K mg base 1 "greatest_divisor" ["one","other"] spGd:=cal f14 (λ_ _ F=>iK_ F) (λ_ _ _ _ _ _ us hl=>match us,hl with | [_,_],_=>rfl);have cFr:Cal l.prog w K mg base 2 "fraction_of" ["top","below"] spFrac:=cal f16 (λ_ _ F=>hN_ F cGd) (λ_ _ _ _ _ _ us hl=>match us,hl with | [_,_],_=>rfl);have cLM:Cal l.prog w K mg base 2 "least_multiple" ["numbers"] (spLM K):=cal f15 (λ_ _ F=>iN_ F cGd) (λ_ _ _ _ _ _ us hl=>match us,hl with | [_],_=>rfl);have cMu:Cal l.prog w K mg base 3 "multiple_of_strengths" ["web"] (cW' K CW):=cal f18 (λ_ _ F=>i2_ F TW cLM mHands mStr) (λ_ _ _ _ _ _ us hl=>match us,hl with | [_],_=>rfl);have cLA:Cal l.prog w K mg base 3 "loads_at" ["goods","placed"] (bp' K CG CW):=cal f17 (λ_ _ F=>ex_ F B T TW mHands gWeight) (λ_ _ _ _ _ _ us hl=>match us,hl with | [_,_],_=>rfl);have cHA:Cal l.prog w K mg base 4 "heights_at" ["goods","placed"] (bk' K CG CW):=cal f19 (λ_ _ F=>d4_ F T TW cLA cFr mStr) (λ_ _ _ _ _ _ us hl=>match us,hl with | [_,_],_=>rfl);have cIR:Cal l.prog w K mg base 1 "is_rule" ["thing"] cj':=cal f20 (λ_ _ F=>g6_ F B R) (λ_ _ _ _ _ _ us hl=>match us,hl with | [_],_=>rfl);have cWo:Cal l.prog w K mg base 2 "checked_words" ["rule"] (cF' K):=cal f21 (λ_ _ F=>gL_ F R cIR) (λ_ _ _ _ _ _ us hl=>match us,hl with | [_],_=>rfl);have cYd:CalC l.prog w K mg base CY 3 "Yard" ["self","web","rule"] (cd' K CY CW):=calC m11 (b_9 X G aY) ymk ykc (λ_ _ F=>gl_ F TY cWo) (λ_ _ _ _ _ _ us hl=>match us,hl with | [_,_,_],_=>rfl);have yLoo:CalM l.prog w K mg base CY 4 "loosen" ["self","weight","hand"] (bK' K CY CW):=calM m12 (λ_ _ F=>eR_ F TY TW cMu mStr) (λ_ _ _ _ _ _ us hl=>match us,hl with | [_,_,_],_=>rfl)
 have yCo:CalY l.prog w K mg base CY 6 (cr' K CY CW):=by
  obtain⟨f,fd,F,m⟩:=yd.ex;exact⟨f,fd,i3_ F B TY TW cCP mHas yLoo (b_9 X G c12),m,eC_ F⟩
 have yGo:CalM l.prog w K mg base CY 9 "goods" ["self"] (bj' K CY CG CW):=calM m13 (λ_ _ F=>fa_ F B TY cGoods) (λ_ _ _ _ _ _ us hl=>match us,hl with | [_],_=>rfl);have ySt:CalM l.prog w K mg base CY 1 "stand" ["self"] (bg' K CY CW):=calM m14 (λ_ _ F=>fS_ F B TY) (λ_ _ _ _ _ _ us hl=>match us,hl with | [_],_=>rfl);have yLo:CalM l.prog w K mg base CY 10 "loads" ["self"] (bb' K CY CW):=calM m15 (λ_ _ F=>fJ_ F TY yGo ySt cLA) (λ_ _ _ _ _ _ us hl=>match us,hl with | [_],_=>rfl);have yHe:CalM l.prog w K mg base CY 10 "heights" ["self"] (bb' K CY CW):=calM m16 (λ_ _ F=>dU_ F TY yGo ySt cHA) (λ_ _ _ _ _ _ us hl=>match us,hl with | [_],_=>rfl);have cCell:Cal l.prog w K mg base 1 "_law_cell_at" ["_law_script","_law_k"] (spCell K):=cal f22 (λ_ _ F=>hL_ F B) (λ_ _ _ _ _ _ us hl=>match us,hl with | [_,_],_=>rfl);have cDig:Cal l.prog w K mg base 1 "_law_digit" ["_law_state","_law_base"] bs':=cal f23 (λ_ _ F=>gh_ F B) (λ_ _ _ _ _ _ us hl=>match us,hl with | [_,_],_=>rfl);have cNms:Cal l.prog w K mg base 2 "_law_names" ["_law_state","_law_many"] b9':=cal f24 (λ_ _ F=>h4_ F B cDig) (λ_ _ _ _ _ _ us hl=>match us,hl with | [_,_],_=>rfl);have cLW:Cal l.prog w K mg base 3 "_law_web" ["_law_state","_law_most"] (spLWeb K):=cal f25 (λ_ _ F=>i8_ F B cDig cNms) (λ_ _ _ _ _ _ us hl=>match us,hl with | [_,_],_=>rfl);have cTW:Cal l.prog w K mg base 2 "_law_turned_ways" ["_law_state","_law_ties"] (co' K):=cal f26 (λ_ _ F=>gg_ F B cDig) (λ_ _ _ _ _ _ us hl=>match us,hl with | [_,_],_=>rfl);have cCo:Cal l.prog w K mg base 7 "_law_comes" ["_law_yard","_law_state","_law_name","_law_hand","_law_ties"] (b4' K CY CW):=cal f27 (λ_ _ F=>gs_ F B TY cDig cTW yCo) (λ_ _ _ _ _ _ us hl=>match us,hl with | [_,_,_,_,_],_=>rfl);have cAl:Cal l.prog w K mg base 10 "_law_alike" ["_law_yard","_law_rows","_law_places"] (cm' K CY CW):=cal f28 (λ_ _ F=>gQ_ F B TY T yGo ySt gNames gWeight gWays gFree) (λ_ _ _ _ _ _ us hl=>match us,hl with | [_,_,_],_=>rfl);have cSp:Cal l.prog w K mg base 11 "_law_spoilt" ["_law_yard","_law_hand"] (bN' K CY CW):=cal f29 (λ_ _ F=>fm_ F TY T yGo ySt yLo yHe gNames gWays) (λ_ _ _ _ _ _ us hl=>match us,hl with | [_,_],_=>rfl);exact iB_ FL B TY cCell cDig cNms cLW cWeb cYd yLo yHe cCo cAl cSp
theorem walk{q:Ad}{loose:List Str}{XP:(Str->Option Aa)->Heap->Prop}{YP:Af->Heap->Prop}{d:DefRec}{K:Params->F__}(hn:l.most=some 63)(hdf:d.params.defaults=[])(hY:∀(w:Af) (h:Heap),YP w h->(K w.params).In h)(F:∀(w:Af) (mg:Str->Option Aa) (fa:Addr) (h:Heap),(K w.params).In h->h.Ns mainGlobals mg->mg d.name=some (.ref fa)->
   ∃fd:Ae,(∀(s:Ab) (u:Aa),BindsTo s fd ⟨[u],[]⟩ [("_law_script",u)])/\∀base:Heap,(K w.params).In base->base.Ns mainGlobals mg->FnOk l.prog w (K w.params) mg base CX0 12 fa fd ["_law_script"] (spLaw (K w.params))) :
  PySem.W.WalkO q loose XP YP l.row.toRowW d [] (λf vs=>PySem.call f vs):=
 L2.walk_of (n:=63) (k:=12) (x:="_law_script") (CX:=λ_=>CX0) (sp:=λw=>spLaw (K w.params)) hn (by decide) hdf ⟨rfl,by decide,by decide⟩ hY F (λ_ _ a ns hl _ hS=>⟨a,ns,rfl,hS,hl,λ_=>rfl⟩) λ_ _ _ _ _ z=>z
end Ev
namespace PySem.W.Fast
def tw17574206986659455137:=()
def tw3665851711106501250:=()
def tw3877609886167917378:=()
def tw18097175408634468067:=()
def tw12301341544783103875:=()
def tw17926025452095659140:=()
def tw1592254890312637702:=()
def tw9455432967877301383:=()
def tw18449923352567239:=()
def tw14024044675052114346:=()
def tw11427269249236334475:=()
def tw11921340840572106189:=()
def tw4955394880525337102:=()
def tw1275842701287618127:=()
def tw283255428702988592:=()
def tw12204582967735697904:=()
def tw16444037818289541776:=()
def tw14685872007861719249:=()
def tw13079190548352199057:=()
def tw1338592902446400177:=()
def tw16899518077916213330:=()
def tw15288620827264978963:=()
def tw15139878319905285555:=()
def tw7796376184817312948:=()
def tw13785240605196325076:=()
def tw10504074497512573908:=()
def tw15135734275449499798:=()
def tw890487116050141142:=()
def tw12214946123011628247:=()
def tw15023686089552067993:=()
def tw16589471523289986299:=()
def tw10932369872591181595:=()
def tw16443047618774483325:=()
def tw4400243294221676189:=()
def tw12004740284090086301:=()
def tw17576384420705060958:=()
def tw3264097771670236254:=()
def tw5150432169645814686:=()
def tw2185922745249673759:=()
def tw11911850773825300223:=()
def tw16724313182607210041:=()
def tw16501420419106829671:=()
def tw18265241146021972463:=()
def tw2393105300787628268:=()
def tw5867258673069538044:=()
def tw9693245285789683766:=()
def tw13259640199941097550:=()
def tw16962978213720235069:=()
def tw11152509206483684249:=()
def tw6395275052258664406:=()
def tw17056717437603612207:=()
def tw9609786223831495234:=()
def tw13247468017166013425:=()
def tw14094308206176354250:=()
def tw2999574349940929437:=()
def tw10810048615095618907:=()
def tw14038718579806665705:=()
def tw17544794295454805942:=()
def tw18108569234980986321:=()
def tw17023225987495150400:=()
def tw7843985429894235137:=()
def tw12382775299981898731:=()
def tw4695097153835035941:=()
def tw17390336425912618419:=()
def tw1298610970337666346:=()
def tw358026543336504143:=()
def tw4608479721623246110:=()
def tw5975444956843027260:=()
def tw2159337903572862537:=()
def tw3221993055574331716:=()
def tw6906707670765012381:=()
def tw13589720692011481312:=()
def tw2183477436619245828:=()
def tw13833706037649181457:=()
def tw4767882899274036463:=()
def tw2585019681329757932:=()
def tw8055104560138939948:=()
def tw2614919391507059707:=()
def tw14039083308504721935:=()
def tw6090935811137761726:=()
def tw10246819624478780632:=()
def tw11882560995137943439:=()
def tw5027392392652834994:=()
def tw428459292628546517:=()
def tw14067692307032375340:=()
def tw11201329780010975134:=()
def tw13933002188315408616:=()
def tw1033446223938820558:=()
def tw12841161384108962701:=()
def tw1600783949763449929:=()
def tw18397514708665303506:=()
def tw1303051723062930718:=()
def tw13021380600023074253:=()
def tw10753751373892415516:=()
def tw14726037575529686122:=()
def tw123647764420385115:=()
def tw11114957936143207616:=()
def tw1812711431919072598:=()
def tw8632809064524249238:=()
def tw15418983677279801163:=()
def tw2790347252728860742:=()
def tw14790138184435180572:=()
def tw2063866946533262339:=()
def tw18381728670925972419:=()
def tw12500390169503883788:=()
def tw16224524901733214602:=()
def tw9196632344253539013:=()
def tw1819768072508004859:=()
def tw16038747766467142281:=()
def tw11714089426127035873:=()
def tw4308981469786906698:=()
def tw17716639377986928701:=()
def tw17400505545016401878:=()
def tw5968380736769449743:=()
def tw12496728076102144035:=()
def tw1122548828545101138:=()
def tw14929247388079302444:=()
def tw2202026902672420631:=()
def tw963935881692781956:=()
def tw15793330715253616219:=()
def tw11905151989141846828:=()
def tw4592979194731138103:=()
def tw9887607178735821584:=()
def tw1238228511333193655:=()
def tw10803014994381577113:=()
def tw12762551604036677141:=()
def tw4183343772502092175:=()
def tw18324954372898393649:=()
def tw12876980718421385494:=()
def tw2229825560440357529:=()
def tw11672806069975570231:=()
def tw15801906551605861397:=()
def tw6292268094112353341:=()
def tw14060536251854184667:=()
def tw8822531414293923877:=()
def tw10566609304733658871:=()
def tw4704158162535574982:=()
def tw12895707841155200273:=()
def tw9276649326787876885:=()
def tw15862288230179556450:=()
def tw7950392876654944754:=()
def tw4393111855201115557:=()
def tw14683555042627843254:=()
def tw689142737137805572:=()
def tw2125626450952397900:=()
def tw1664381984341584509:=()
def tw4209088804154226678:=()
def tw10624748349677279155:=()
def tw4062965967762204652:=()
def tw7909663068920438486:=()
def tw463417751007401712:=()
def tw10522016323111691387:=()
def tw7563806836994797090:=()
def tw16201320937844445078:=()
def tw14387996604650968464:=()
def tw13480000778708042169:=()
def tw14102254068306110682:=()
def tw11805991326832942007:=()
def tw5379026984890917918:=()
def tw6984338844567086274:=()
def tw14461977259427590529:=()
def tw11808988290080977961:=()
def tw2490601704454883084:=()
def tw3261447749074020677:=()
def tw12513049913353261368:=()
def tw6118892539410027557:=()
def tw12145876136063437990:=()
def tw15594562148181199679:=()
def tw5392594657969404615:=()
def tw12092993428550705859:=()
def tw3957634741759587902:=()
def tw13593972093491817381:=()
def tw6062071960362456323:=()
def tw9756785745717350504:=()
def tw10273437685223467330:=()
def tw11971934324162046413:=()
def tw16033545355831115020:=()
def tw10419255043059984247:=()
def tw12564687326754331433:=()
def tw15187186996979965351:=()
def tw60084283297671293:=()
def tw10746270867203116535:=()
def tw5398974928995240373:=()
def tw3188285365201847317:=()
def tw17768988139089177538:=()
def tw2073942012968235722:=()
def tw6258429794467646900:=()
def tw5669019747519350378:=()
def tw17658837149593460773:=()
def tw2022330890510531159:=()
def tw8879724822990619087:=()
def tw12734852522622499834:=()
def tw13175921848647290219:=()
def tw5805728368200873906:=()
def tw12123302179776589677:=()
def tw11088300909482569958:=()
def tw18285122947628519866:=()
def tw15032593117596990437:=()
def tw10189894851182005856:=()
def tw2350174450740948020:=()
def tw16578173576201126458:=()
def tw13068558083249330007:=()
def tw14925041728844707735:=()
def tw10727989910102182146:=()
def tw10391851503927814133:=()
def tw2900087651163935608:=()
def tw9788073698792145143:=()
def tw11231902322582708508:=()
def tw15751359767975685520:=()
def tw14831642862541476567:=()
def tw8942743419941697164:=()
def tw3082619471178728808:=()
def tw17590308030199735272:=()
end PySem.W.Fast
open PySem PySem.W PyProof.Rows
set_option maxRecDepth 100000 in
theorem PySem.Challenge.cw_evenpieces_k65_ways_by_their_name_holds : PySem.Challenge.rw_evenpieces_k65_ways_by_their_name.Holds := by
 w_on;o_law;k_head;(case hw=>w_witness2)
 k_fill
 refine Ev.walk (l:=PySem.Challenge.rw_evenpieces_k65_ways_by_their_name) rfl rfl (fun w h Y=>PySem.W.km_in_of Y) ?F
 case F=>
  intro w mg fa h KX G hmg;refine' Ev.all_mk KX G hmg (Ev.fd_mk KX G ?f0a ?f0l ?f0c ?f0k) (Ev.fd_mk KX G ?f1a ?f1l ?f1c ?f1k) (Ev.fd_mk KX G ?f2a ?f2l ?f2c ?f2k) (Ev.fd_mk KX G ?f3a ?f3l ?f3c ?f3k) (Ev.fd_mk KX G ?f4a ?f4l ?f4c ?f4k) (Ev.fd_mk KX G ?f5a ?f5l ?f5c ?f5k) (Ev.fd_mk KX G ?f6a ?f6l ?f6c ?f6k) (Ev.fd_mk KX G ?f7a ?f7l ?f7c ?f7k) (Ev.fd_mk KX G ?f8a ?f8l ?f8c ?f8k) (Ev.fd_mk KX G ?f9a ?f9l ?f9c ?f9k) (Ev.fd_mk KX G ?f10a ?f10l ?f10c ?f10k) (Ev.fd_mk KX G ?f11a ?f11l ?f11c ?f11k) (Ev.fd_mk KX G ?f12a ?f12l ?f12c ?f12k) (Ev.fd_mk KX G ?f13a ?f13l ?f13c ?f13k) (Ev.fd_mk KX G ?f14a ?f14l ?f14c ?f14k) (Ev.fd_mk KX G ?f15a ?f15l ?f15c ?f15k) (Ev.fd_mk KX G ?f16a ?f16l ?f16c ?f16k) (Ev.fd_mk KX G ?f17a ?f17l ?f17c ?f17k) (Ev.fd_mk KX G ?f18a ?f18l ?f18c ?f18k) (Ev.fd_mk KX G ?f19a ?f19l ?f19c ?f19k) (Ev.fd_mk KX G ?f20a ?f20l ?f20c ?f20k) (Ev.fd_mk KX G ?f21a ?f21l ?f21c ?f21k) (Ev.fd_mk KX G ?f22a ?f22l ?f22c ?f22k) (Ev.fd_mk KX G ?f23a ?f23l ?f23c ?f23k) (Ev.fd_mk KX G ?f24a ?f24l ?f24c ?f24k) (Ev.fd_mk KX G ?f25a ?f25l ?f25c ?f25k) (Ev.fd_mk KX G ?f26a ?f26l ?f26c ?f26k) (Ev.fd_mk KX G ?f27a ?f27l ?f27c ?f27k) (Ev.fd_mk KX G ?f28a ?f28l ?f28c ?f28k) (Ev.fd_mk KX G ?f29a ?f29l ?f29c ?f29k) (Ev.md_mk ?m0a ?m0i ?m0l ?m0c ?m0k) (Ev.md_mk ?m1a ?m1i ?m1l ?m1c ?m1k) (Ev.md_mk ?m2a ?m2i ?m2l ?m2c ?m2k) (Ev.md_mk ?m3a ?m3i ?m3l ?m3c ?m3k) (Ev.md_mk ?m4a ?m4i ?m4l ?m4c ?m4k) (Ev.md_mk ?m5a ?m5i ?m5l ?m5c ?m5k) (Ev.md_mk ?m6a ?m6i ?m6l ?m6c ?m6k) (Ev.md_mk ?m7a ?m7i ?m7l ?m7c ?m7k) (Ev.md_mk ?m8a ?m8i ?m8l ?m8c ?m8k) (Ev.md_mk ?m9a ?m9i ?m9l ?m9c ?m9k) (Ev.md_mk ?m10a ?m10i ?m10l ?m10c ?m10k) (Ev.md_mk ?m11a ?m11i ?m11l ?m11c ?m11k) (Ev.md_mk ?m12a ?m12i ?m12l ?m12c ?m12k) (Ev.md_mk ?m13a ?m13i ?m13l ?m13c ?m13k) (Ev.md_mk ?m14a ?m14i ?m14l ?m14c ?m14k) (Ev.md_mk ?m15a ?m15i ?m15l ?m15c ?m15k) (Ev.md_mk ?m16a ?m16i ?m16l ?m16c ?m16k) ?al ?ll ?cl ?kl ?aW ?aG ?aY ?eP ?xP ?c8 ?c9 ?c10 ?c11 ?c12 ?wpg ?whd ?wpo ?wsa ?wmk ?wkc ?nS ?nP ?nN ?wiha ?wimo ?gpg ?ghd ?gpo ?gsa ?gmk ?gkc ?nW ?nG ?nY ?giha ?gimo ?ypg ?yhd ?ypo ?ysa ?ymk ?ykc ?yW ?yR ?yM ?yP ?yH ?yD ?yB ?yiha ?yimo ?ihn ?itk ?yd ?R ?z0 ?z1 ?z2 ?z3 ?z4 ?z5 ?z6 ?z7 ?z8 ?z9 ?z10 ?z11 ?z12 ?z13
  (case aW=>k_is);(case aG=>k_is);(case aY=>k_is);(case eP=>k_is)
  (case f0a=>k_is);(case f0l=>k_is);(case f0c=>k_is);(case f0k=>k_is)
  (case f1a=>k_is);(case f1l=>k_is);(case f1c=>k_is);(case f1k=>k_is)
  (case f2a=>k_is);(case f2l=>k_is);(case f2c=>k_is);(case f2k=>k_is)
  (case f3a=>k_is);(case f3l=>k_is);(case f3c=>k_is);(case f3k=>k_is)
  (case f4a=>k_is);(case f4l=>k_is);(case f4c=>k_is);(case f4k=>k_is)
  (case f5a=>k_is);(case f5l=>k_is);(case f5c=>k_is);(case f5k=>k_is)
  (case f6a=>k_is);(case f6l=>k_is);(case f6c=>k_is);(case f6k=>k_is)
  (case f7a=>k_is);(case f7l=>k_is);(case f7c=>k_is);(case f7k=>k_is)
  (case f8a=>k_is);(case f8l=>k_is);(case f8c=>k_is);(case f8k=>k_is)
  (case f9a=>k_is);(case f9l=>k_is);(case f9c=>k_is);(case f9k=>k_is)
  (case f10a=>k_is);(case f10l=>k_is);(case f10c=>k_is);(case f10k=>k_is)
  (case f11a=>k_is);(case f11l=>k_is);(case f11c=>k_is);(case f11k=>k_is)
  (case f12a=>k_is);(case f12l=>k_is);(case f12c=>k_is);(case f12k=>k_is)
  (case f13a=>k_is);(case f13l=>k_is);(case f13c=>k_is);(case f13k=>k_is)
  (case f14a=>k_is);(case f14l=>k_is);(case f14c=>k_is);(case f14k=>k_is)
  (case f15a=>k_is);(case f15l=>k_is);(case f15c=>k_is);(case f15k=>k_is)
  (case f16a=>k_is);(case f16l=>k_is);(case f16c=>k_is);(case f16k=>k_is)
  (case f17a=>k_is);(case f17l=>k_is);(case f17c=>k_is);(case f17k=>k_is)
  (case f18a=>k_is);(case f18l=>k_is);(case f18c=>k_is);(case f18k=>k_is)
  (case f19a=>k_is);(case f19l=>k_is);(case f19c=>k_is);(case f19k=>k_is)
  (case f20a=>k_is);(case f20l=>k_is);(case f20c=>k_is);(case f20k=>k_is)
  (case f21a=>k_is);(case f21l=>k_is);(case f21c=>k_is);(case f21k=>k_is)
  (case f22a=>k_is);(case f22l=>k_is);(case f22c=>k_is);(case f22k=>k_is)
  (case f23a=>k_is);(case f23l=>k_is);(case f23c=>k_is);(case f23k=>k_is)
  (case f24a=>k_is);(case f24l=>k_is);(case f24c=>k_is);(case f24k=>k_is)
  (case f25a=>k_is);(case f25l=>k_is);(case f25c=>k_is);(case f25k=>k_is)
  (case f26a=>k_is);(case f26l=>k_is);(case f26c=>k_is);(case f26k=>k_is)
  (case f27a=>k_is);(case f27l=>k_is);(case f27c=>k_is);(case f27k=>k_is)
  (case f28a=>k_is);(case f28l=>k_is);(case f28c=>k_is);(case f28k=>k_is)
  (case f29a=>k_is);(case f29l=>k_is);(case f29c=>k_is);(case f29k=>k_is)
  (case m0a=>k_is);(case m0i=>k_is);(case m0l=>k_is);(case m0c=>k_is);(case m0k=>k_is)
  (case m1a=>k_is);(case m1i=>k_is);(case m1l=>k_is);(case m1c=>k_is);(case m1k=>k_is)
  (case m2a=>k_is);(case m2i=>k_is);(case m2l=>k_is);(case m2c=>k_is);(case m2k=>k_is)
  (case m3a=>k_is);(case m3i=>k_is);(case m3l=>k_is);(case m3c=>k_is);(case m3k=>k_is)
  (case m4a=>k_is);(case m4i=>k_is);(case m4l=>k_is);(case m4c=>k_is);(case m4k=>k_is)
  (case m5a=>k_is);(case m5i=>k_is);(case m5l=>k_is);(case m5c=>k_is);(case m5k=>k_is)
  (case m6a=>k_is);(case m6i=>k_is);(case m6l=>k_is);(case m6c=>k_is);(case m6k=>k_is)
  (case m7a=>k_is);(case m7i=>k_is);(case m7l=>k_is);(case m7c=>k_is);(case m7k=>k_is)
  (case m8a=>k_is);(case m8i=>k_is);(case m8l=>k_is);(case m8c=>k_is);(case m8k=>k_is)
  (case m9a=>k_is);(case m9i=>k_is);(case m9l=>k_is);(case m9c=>k_is);(case m9k=>k_is)
  (case m10a=>k_is);(case m10i=>k_is);(case m10l=>k_is);(case m10c=>k_is);(case m10k=>k_is)
  (case m11a=>k_is);(case m11i=>k_is);(case m11l=>k_is);(case m11c=>k_is);(case m11k=>k_is)
  (case m12a=>k_is);(case m12i=>k_is);(case m12l=>k_is);(case m12c=>k_is);(case m12k=>k_is)
  (case m13a=>k_is);(case m13i=>k_is);(case m13l=>k_is);(case m13c=>k_is);(case m13k=>k_is)
  (case m14a=>k_is);(case m14i=>k_is);(case m14l=>k_is);(case m14c=>k_is);(case m14k=>k_is)
  (case m15a=>k_is);(case m15i=>k_is);(case m15l=>k_is);(case m15c=>k_is);(case m15k=>k_is)
  (case m16a=>k_is);(case m16i=>k_is);(case m16l=>k_is);(case m16c=>k_is);(case m16k=>k_is)
  (case al=>k_is);(case ll=>k_is);(case cl=>k_is);(case kl=>k_is);(case xP=>k_exc);(case c8=>k_is);(case c9=>k_is);(case c10=>k_is);(case c11=>k_is);(case c12=>k_is);(case wpg=>k_is);(case whd=>k_is);(case wpo=>k_is);(case wsa=>k_is);(case wmk=>k_is);(case wkc=>k_is);(case nS=>k_is);(case nP=>k_is);(case nN=>k_is);(case wiha=>k_is);(case wimo=>k_is);(case gpg=>k_is);(case ghd=>k_is);(case gpo=>k_is);(case gsa=>k_is);(case gmk=>k_is);(case gkc=>k_is);(case nW=>k_is);(case nG=>k_is);(case nY=>k_is);(case giha=>k_is);(case gimo=>k_is);(case ypg=>k_is);(case yhd=>k_is);(case ypo=>k_is);(case ysa=>k_is);(case ymk=>k_is);(case ykc=>k_is);(case yW=>k_is);(case yR=>k_is);(case yM=>k_is);(case yP=>k_is);(case yH=>k_is);(case yD=>k_is);(case yB=>k_is);(case yiha=>k_is);(case yimo=>k_is);(case ihn=>k_is);(case itk=>k_is);(case yd=>refine' Ev.mdd_mk ?ya ?yi ?yl ?yc ?yk ?yt;(case ya=>k_is);(case yi=>k_is);(case yl=>k_is);(case yc=>k_is);(case yk=>k_is);(case yt=>k_is));(case R=>refine' Ev.rules_at ?rm ?rs ?rl ?re ?u0 ?u1 ?u2 ?u3 ?u4 ?u5 ?u6 ?u7 ?u8 ?u9 ?u10 ?u11 ?u12 ?u13 ?u14 ?u15 ?u16;(case' rm=>refine' PySem.W.mg_of KX G ?rmn);(first|(case rmn=>k_is)|(case rm=>k_is));(case rl=>k_is);(case rs=>rfl);(case re=>rfl);(case u0=>k_is);(case u1=>k_is);(case u2=>k_is);(case u3=>k_is);(case u4=>k_is);(case u5=>k_is);(case u6=>k_is);(case u7=>k_is);(case u8=>k_is);(case u9=>k_is);(case u10=>k_is);(case u11=>k_is);(case u12=>k_is);(case u13=>k_is);(case u14=>k_is);(case u15=>k_is);(case u16=>k_is));(case z0=>k_is);(case z1=>k_is);(case z2=>k_is);(case z3=>k_is);(case z4=>k_is);(case z5=>k_is);(case z6=>k_is);(case z7=>k_is);(case z8=>k_is);(case z9=>k_is);(case z10=>k_is);(case z11=>k_is);(case z12=>k_is);(case z13=>k_is)

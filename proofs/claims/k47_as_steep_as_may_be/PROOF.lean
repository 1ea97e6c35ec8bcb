import PyProof.Rows.All
import Wide.All
import OpenK.AllK
import Wide.FinOn
import Lean
import PyProof.EqAt
import PyProof.EqKinds
import PyProof.TupleCall
import PyProof.FitsReplace
import KE.KLam
import KE.KSortTup
import PySem.Challenge.RW_evenpieces_k47_as_steep_as_may_be
set_option maxHeartbeats 0
set_option Elab.async false
set_option linter.all false
abbrev Xa:=List (PySem.Str × Int)
abbrev Xb:=List (PySem.Str × PySem.Str)
set_option maxRecDepth 100000
abbrev Aa:=PySem.Value
theorem a__:type_of% @PySem.wpAny_bind:=@PySem.wpAny_bind
theorem a_0:type_of% @PySem.Heap.get?_push_of_some:=@PySem.Heap.get?_push_of_some
abbrev Ac:=PySem.Shared
theorem a_1:type_of% @PySem.Heap.get?_push_size:=@PySem.Heap.get?_push_size
theorem a_2:type_of% @decide_eq_true:=@decide_eq_true
theorem a_3:type_of% @PySem.Paired.length:=@PySem.Paired.length
theorem a_4:type_of% @if_neg:=@if_neg
theorem a_5:type_of% @PySem.Heap.lt_size:=@PySem.Heap.lt_size
abbrev Ad:=PySem.FuncData
abbrev Ae:=PySem.Program
theorem a_6:type_of% @PySem.wpAny_pure:=@PySem.wpAny_pure
theorem a_7:type_of% @decide_eq_false:=@decide_eq_false
theorem a_8:type_of% @Option.some.inj:=@Option.some.inj
theorem a_9:type_of% @if_pos:=@if_pos
theorem b__:type_of% @PySem.sizeLine_eq:=@PySem.sizeLine_eq
theorem b_0:type_of% @PySem.Heap.get?_update_other:=@PySem.Heap.get?_update_other
abbrev Af:=PySem.World
theorem b_1:type_of% @PySem.PassesOwn.never:=@PySem.PassesOwn.never
theorem b_2:type_of% @PySem.W.mg_none_of:=@PySem.W.mg_none_of
abbrev Ag:=PySem.Around
theorem b_3:type_of% @PySem.mem_of_lookup:=@PySem.mem_of_lookup
theorem b_4:type_of% @PySem.F.plainAttrs_list:=@PySem.F.plainAttrs_list
theorem b_5:type_of% @Sum.inr.inj:=@Sum.inr.inj
theorem b_6:type_of% @PySem.wpAny_truthy_bool:=@PySem.wpAny_truthy_bool
theorem b_7:type_of% @PySem.wpAny_loadPart':=@PySem.wpAny_loadPart'
theorem b_8:type_of% @PySem.boot_len:=@PySem.boot_len
theorem b_9:type_of% @congrArg:=@congrArg
theorem c__:type_of% @decide_eq_false_iff_not:=@decide_eq_false_iff_not
theorem c_0:type_of% @PySem.W.mg_of:=@PySem.W.mg_of
theorem c_1:type_of% @PySem.W.kia_one:=@PySem.W.kia_one
theorem c_2:type_of% @PySem.wpAny_mono:=@PySem.wpAny_mono
theorem Z0{p:Prop}[Decidable p](h:decide p=true:=by decide +kernel):p:=of_decide_eq_true h
theorem Z1{p:Prop}(h:p:=by omega):p:=h
theorem Z2{p:Prop}(h:p:=by simp):p:=h
abbrev F__:=PySem.W.Frag
theorem aa':type_of% @List.length_map:=@List.length_map
theorem ab':type_of% @List.getElem?_eq_getElem:=@List.getElem?_eq_getElem
theorem ac':type_of% @List.getElem?_eq_some_iff:=@List.getElem?_eq_some_iff
theorem ad':type_of% @List.mem_cons_of_mem:=@List.mem_cons_of_mem
theorem ae':type_of% @List.mem_of_getElem?:=@List.mem_of_getElem?
theorem af':type_of% @List.mem_map:=@List.mem_map
theorem ag':type_of% @List.mem_cons_self:=@List.mem_cons_self
theorem ah':type_of% @List.size_toArray:=@List.size_toArray
theorem ai':type_of% @Nat.le_refl:=@Nat.le_refl
theorem aj':type_of% @List.getElem?_map:=@List.getElem?_map
theorem ak':type_of% @List.map_map:=@List.map_map
theorem al':type_of% @List.mem_cons:=@List.mem_cons
theorem am':type_of% @List.length_take:=@List.length_take
theorem an':type_of% @List.map_append:=@List.map_append
theorem ao':type_of% @List.take_length:=@List.take_length
theorem ap':type_of% @Nat.ne_of_lt:=@Nat.ne_of_lt
theorem aq':type_of% @Bool.false_ne_true:=@Bool.false_ne_true
theorem ar':type_of% @List.length_append:=@List.length_append
theorem au':type_of% @List.mem_append:=@List.mem_append
theorem av':type_of% @List.map_cons:=@List.map_cons
theorem aw':type_of% @List.take_add_one:=@List.take_add_one
theorem ax':type_of% @Nat.lt_of_lt_of_le:=@Nat.lt_of_lt_of_le
theorem ay':type_of% @List.mem_append_right:=@List.mem_append_right
theorem az':type_of% @List.length_cons:=@List.length_cons
theorem aA':type_of% @List.nodup_iff_pairwise_ne:=@List.nodup_iff_pairwise_ne
theorem aB':type_of% @List.getElem_of_mem:=@List.getElem_of_mem
theorem aC':type_of% @List.getElem_mem:=@List.getElem_mem
theorem aD':type_of% @Nat.zero_le:=@Nat.zero_le
theorem aE':type_of% @List.pairwise_map:=@List.pairwise_map
theorem aF':type_of% @List.mem_filterMap:=@List.mem_filterMap
theorem aG':type_of% @Option.isSome_iff_exists:=@Option.isSome_iff_exists
theorem aH':type_of% @Array.length_toList:=@Array.length_toList
theorem aI':type_of% @List.map_congr_left:=@List.map_congr_left
theorem aJ':type_of% @Int.le_of_lt:=@Int.le_of_lt
theorem aK':type_of% @List.lookup_cons:=@List.lookup_cons
theorem aL':type_of% @List.getElem?_append_right:=@List.getElem?_append_right
theorem aM':type_of% @Nat.le_trans:=@Nat.le_trans
theorem aN':type_of% @List.append_nil:=@List.append_nil
theorem aO':type_of% @List.length_nil:=@List.length_nil
theorem aP':type_of% @List.nodup_cons:=@List.nodup_cons
theorem aQ':type_of% @Bool.false_eq_true:=@Bool.false_eq_true
theorem aR':type_of% @List.mem_singleton:=@List.mem_singleton
theorem aS':type_of% @List.length_eq_zero_iff:=@List.length_eq_zero_iff
theorem aT':type_of% @List.take_of_length_le:=@List.take_of_length_le
theorem aU':type_of% @Int.toNat_natCast:=@Int.toNat_natCast
theorem aV':type_of% @List.length_replicate:=@List.length_replicate
theorem aW':type_of% @List.length_filter_le:=@List.length_filter_le
theorem aX':type_of% @Int.emod_lt_of_pos:=@Int.emod_lt_of_pos
theorem aY':type_of% @Int.emod_nonneg:=@Int.emod_nonneg
theorem aZ':type_of% @Nat.lt_irrefl:=@Nat.lt_irrefl
theorem a0':type_of% @Nat.ne_of_gt:=@Nat.ne_of_gt
namespace L2
open PySem PySem.Spec PyProof.Rows
abbrev Key:=Sum Int Str
def cY':Key->Aa->Bool
 |.inl k,v=>Value.isInt k v
 |.inr x,v=>Value.isStrOf x v
def keyH(w:Af):Key->Int
 |.inl k=>hashInt k
 |.inr x=>hashStr w x
theorem aA_:∀{k:Key} {v:Aa},cY' k v=true->(∃i t,k=Sum.inl i/\v=Value.int i t)∨(∃x t,k=Sum.inr x/\v=Value.str x t)
 |.inl i,v,h=>by
  obtain⟨t,e⟩:=Value.isInt_shape (k:=i) (v:=v) h;exact .inl ⟨i,t,rfl,e⟩
 |.inr x,v,h=>by
  obtain⟨t,e⟩:=Value.isStrOf_shape (x:=x) (v:=v) h;exact .inr ⟨x,t,rfl,e⟩
theorem g8_(i:Int)(t:Tok):cY' (.inl i) (.int i t)=true:=by simp[cY',Value.isInt]
theorem gX_(x:Str)(t:Tok):cY' (.inr x) (.str x t)=true:=by simp[cY',Value.isStrOf]
theorem k9_(a b:Int):decide ((Sum.inl a:Key)=Sum.inl b)=(a == b):=by
 by_cases e:a=b
 ·subst e;simp
 ·have h:¬(Sum.inl a:Key)=Sum.inl b:=λq=>e (Sum.inl.inj q);rw[a_7 h];exact (beq_eq_false_iff_ne.mpr e).symm
theorem kq_(a b:Str):decide ((Sum.inr a:Key)=Sum.inr b)=decide (a=b):=by
 by_cases e:a=b
 ·subst e;simp
 ·have h:¬(Sum.inr a:Key)=Sum.inr b:=λq=>e (b_5 q);rw[a_7 h,a_7 e]
theorem ko_(a:Int)(b:Str):decide ((Sum.inl a:Key)=Sum.inr b)=false:=a_7 (λq=>nomatch q)
theorem kh_(a:Str)(b:Int):decide ((Sum.inr a:Key)=Sum.inl b)=false:=a_7 (λq=>nomatch q)
def a5'(prog:Ae)(w:Af):PySem.KeyKind prog w Key where
 is:=cY'
 hash:=keyH w
 inj:=λv a b ha hb=>by
  rcases aA_ ha with⟨i,t,rfl,rfl⟩|⟨x,t,rfl,rfl⟩
  ·rcases aA_ hb with⟨j,u,rfl,e⟩|⟨y,u,rfl,e⟩
   ·injection e with e1 _;rw[e1]
   ·exact nomatch e
  ·rcases aA_ hb with⟨j,u,rfl,e⟩|⟨y,u,rfl,e⟩
   ·exact nomatch e
   ·injection e with e1 _;rw[e1]
 byValue:=λk v h=>by
  rcases aA_ h with⟨i,t,rfl,rfl⟩|⟨x,t,rfl,rfl⟩<;>rfl
 pyHash:=λhv h=>by
  rcases aA_ hv with⟨i,t,rfl,rfl⟩|⟨x,t,rfl,rfl⟩
  ·exact wpAny_pyHash_int h
  ·exact wpAny_pyHash_str h
 eqBool:=λhu hv h=>by
  rcases aA_ hu with⟨i,t,rfl,rfl⟩|⟨x,t,rfl,rfl⟩
  ·rcases aA_ hv with⟨j,u,rfl,rfl⟩|⟨y,u,rfl,rfl⟩
   ·rw[k9_] at h;exact wpAny_eqBool_int h
   ·rw[ko_] at h;exact SeqAt.EqAt.int_str i t y u _ _ _ _ h
  ·rcases aA_ hv with⟨j,u,rfl,rfl⟩|⟨y,u,rfl,rfl⟩
   ·rw[kh_] at h;exact SeqAt.EqAt.str_int x t j u _ _ _ _ h
   ·rw[kq_] at h;exact wpAny_eqBool_str h
 «strs»:=λk x t v h=>by
  rcases aA_ h with⟨i,u,rfl,e⟩|⟨y,u,rfl,e⟩
  ·exact nomatch e
  ·injection e with e1 _
   subst e1;cases v<;>rfl
theorem en_(prog:Ae)(w:Af)(i:Int)(t:Tok):(a5' prog w).is (.inl i) (.int i t)=true:=g8_ i t
theorem bJ_(prog:Ae)(w:Af)(x:Str)(t:Tok):(a5' prog w).is (.inr x) (.str x t)=true:=gX_ x t
inductive V where
 |non|bl (b:Bool)|int (i:Int)|str (x:Str)|byt (b:Array UInt8)|flt (b:UInt64)|ref (a:Addr)|ty (n:String)
 deriving DecidableEq
def RelV:V->Aa->Prop
 |.non,u=>u=Value.none
 |.bl b,u=>u=Value.bool b
 |.int i,u=>∃t,u=Value.int i t
 |.str x,u=>∃t,u=Value.str x t
 |.byt b,u=>∃t,u=Value.bytes b t
 |.flt b,u=>∃t,u=Value.float b t
 |.ref a,u=>u=Value.ref a
 |.ty n,u=>u=Value.type n
abbrev Vals:List V->List Aa->Prop:=Paired RelV
theorem Vals.length{xs:List V}{us:List Aa}(r:Vals xs us):xs.length=us.length:=a_3 r
theorem Vals.get:∀{xs:List V} {us:List Aa} {i:Nat} {x:V},Vals xs us->xs[i]? = some x->∃u,us[i]? = some u/\RelV x u
 |_,_,_,_,.nil,e=>by simp at e
 |_,_,0,_,.cons r _,e=>by simp at e;subst e;exact⟨_,rfl,r⟩
 |_,_,i+1,x,.cons _ t,e=>by
  obtain⟨u,h1,h2⟩:=Vals.get (i:=i) (x:=x) t (by simpa using e);exact⟨u,by simpa using h1,h2⟩
theorem Vals.set{x:V}{u:Aa}(r:RelV x u):∀{xs:List V} {us:List Aa} (i:Nat),Vals xs us->Vals (xs.set i x) (us.set i u)
 |_,_,_,.nil=>.nil
 |_,_,0,.cons _ t=>.cons r t
 |_,_,i+1,.cons q t=>.cons q (Vals.set r i t)
theorem Vals.append:∀{xs ys:List V} {us ws:List Aa},Vals xs us->Vals ys ws->Vals (xs++ys) (us++ws)
 |_,_,_,_,.nil,s=>s
 |_,_,_,_,.cons r t,s=>.cons r (Vals.append t s)
theorem Vals.take:∀{xs:List V} {us:List Aa} (n:Nat),Vals xs us->Vals (xs.take n) (us.take n)
 |_,_,0,_=>.nil
 |_,_,_+1,.nil=>.nil
 |_,_,n+1,.cons r t=>.cons r (Vals.take n t)
theorem Vals.drop:∀{xs:List V} {us:List Aa} (n:Nat),Vals xs us->Vals (xs.drop n) (us.drop n)
 |_,_,0,r=>r
 |_,_,_+1,.nil=>.nil
 |_,_,n+1,.cons _ t=>Vals.drop n t
def RelO:Option V->Option Aa->Prop
 |some v,some u=>RelV v u
 |none,none=>True
 |_,_=>False
def KV{κ:Type}:List (κ × V)->List (κ × Aa)->Prop:=Paired λ(p:κ × V) (q:κ × Aa)=>p.1=q.1/\RelV p.2 q.2
def kV:Key->V
 |.inl i=>.int i
 |.inr x=>.str x
inductive HO where
  |lst (xs:List V)
  |tup (xs:List V)
  |dK (kvs:List (Key × V))|dT (kvs:List (List Key × V))
  |set (S:Int->Bool) (n:Nat)
  |ins (C dx:Addr) (fs:List (Str × V))
  |own (x:Addr)
  |xd (fs:List (Str × V))
  |met (f x:Addr)
  |rng (lo hi:Int)
  |frz (o:Obj) (u:HO)
  |tbl (ps:Array Aa)
  |ext (φ:Heap->Prop)
abbrev Hp:=Addr->Option HO
def upd(H:Hp)(a:Addr)(o:HO):Hp:=λb=>if b=a then some o else H b
variable{a:Addr}
theorem a1_{H:Hp}{o:HO}:upd H a o a=some o:=by unfold upd;rw[a_9 rfl]
variable{b:Addr}
theorem a5_{H:Hp}{o:HO}(h:b≠a):upd H a o b=H b:=by unfold upd;rw[a_4 h]
theorem k2_{H:Hp}{o u:HO}:upd (upd H a o) a u=upd H a u:=by
 funext b;unfold upd;split<;>rfl
theorem aM_{H:Hp}{o u:HO}(h:H a=some o)(h':H b=some u)(d:o≠u):a≠b:=by
 intro e;subst e;rw[h] at h';exact d (a_8 h')
theorem a7_{H:Hp}{o:HO}(h:H a=some o)(h':H b=none):a≠b:=by
 intro e;subst e;rw[h] at h';cases h'
section
variable(P:Ae)(w:Af)
def bf'(H:Hp)(h:Heap)(a:Addr):HO->Prop
 |.lst xs=>xs.length<=sizeLine/\∃(its:List Aa) (n:Nat),Vals xs its/\h.get? a=some { cls:=.type "list",data:=.seq its.toArray n }
 |.tup xs=>xs.length<=sizeLine/\∃its:List Aa,Vals xs its/\IsTup h a its.toArray/\∃o,h.get? a=some o/\o.dict=none
 |.dK kvs=>kvs.length<=sizeLine/\(a == sysModules)=false/\∃vs,KV kvs vs/\h.DictOf (a5' P w) a vs
 |.dT kvs=>kvs.length<=sizeLine/\(a == sysModules)=false/\∃xs:List (List Key × Addr × Aa),
   Paired (λ(p:List Key × V) (q:List Key × Addr × Aa)=>p.1=q.1/\H q.2.1=some (.tup (p.1.map kV))/\RelV p.2 q.2.2) kvs xs /\
   ∃o es ep,h.get? a=some o/\o.ExactDict/\o.data=.dict es ep/\es.toList=xs.map (entryOfKey (tupleKind (a5' P w)))/\(xs.map (·.1)).Nodup
 |.set S n=>h.SetOf (intKind P w) a S n
 |.ins C dx fs=>H dx=some (.own a)/\fs.length<=1000/\dx≠a/\h.get? a=some (PySem.W.instObj C dx) /\
   ∃mA,h.Ns1 dx mA/\(∀f,RelO (fs.lookup f) (mA f))/\PySem.Within mA (fs.map (·.1))
 |.own _=>∃o,h.get? a=some o
 |.xd fs=>∃mA,h.Ns1 a mA/\∀f,RelO (fs.lookup f) (mA f)
 |.rng lo hi=>∃t u v,h.get? a=some { cls:=.type "range",data:=.fields #[.int lo t,.int hi u,.int 1 v] }
 |.frz o u=>h.get? a=some o/\bf' H h a u
 |.tbl ps=>h.get? a=some { cls:=.none,data:=.fields ps }
 |.met f x=>h.get? a=some (PySem.W.methodObj (.ref f) (.ref x))
 |.ext φ=>φ h/\(∃o,h.get? a=some o)/\∀h1 h2:Heap,φ h1->(∀o,h1.get? a=some o->h2.get? a=some o)->φ h2
def HOk(H:Hp)(h:Heap):Prop:=∀a o,H a=some o->bf' P w H h a o
end
section
variable{P:Ae}{w:Af}{H H':Hp}{h h':Heap}{a:Addr}{o:HO}
theorem bf'.lt(x:bf' P w H h a o):a<h.objs.size:=by
 cases o with
 |lst xs=>obtain⟨_,_,_,_,e⟩:=x;exact a_5 e
 |tup xs=>obtain⟨_,_,_,p,_⟩:=x;exact p.lt
 |dK kvs=>obtain⟨_,_,_,_,o,_,_,e,_⟩:=x;exact a_5 e
 |dT kvs=>obtain⟨_,_,_,_,o,_,_,e,_⟩:=x;exact a_5 e
 |set S n=>obtain⟨o,_,_,_,e,_⟩:=x;exact a_5 e
 |ins C dx fs=>obtain⟨_,_,_,e,_⟩:=x;exact a_5 e
 |own y=>obtain⟨_,e⟩:=x;exact a_5 e
 |xd fs=>obtain⟨_,⟨_,_,_,e,_⟩,_⟩:=x;exact a_5 e
 |rng lo hi=>obtain⟨_,_,_,e⟩:=x;exact a_5 e
 |frz ob u=>obtain⟨e,_⟩:=x;exact a_5 e
 |tbl ps=>exact a_5 (show h.get? a=some _ from x)
 |met f y=>exact a_5 (show h.get? a=some _ from x)
 |ext φ=>obtain⟨_,⟨_,e⟩,_⟩:=x;exact a_5 e
theorem Paired.mapP{α β:Type}{F G:α->β->Prop}:∀{l₁:List α} {l₂:List β},Paired F l₁ l₂->(∀a b,F a b->G a b)->Paired G l₁ l₂
 |_,_,.nil,_=>.nil
 |_,_,.cons r t,f=>.cons (f _ _ r) (Paired.mapP t f)
theorem bf'.stay(x:bf' P w H h a o)(k:∀b u,(b=a∨H b=some (.own a))->h.get? b=some u->h'.get? b=some u)
  (ho:∀b,H b=some (.own a)->H' b=some (.own a)) (ht:∀b xs,H b=some (.tup xs)->H' b=some (.tup xs)):bf' P w H' h' a o:=by
 induction o with
 |lst xs=>obtain⟨z,its,n,r,e⟩:=x;exact⟨z,its,n,r,k _ _ (.inl rfl) e⟩
 |tup xs=>obtain⟨z,its,r,⟨ob,e,c⟩,o2,e2,c2⟩:=x;exact⟨z,its,r,⟨ob,k _ _ (.inl rfl) e,c⟩,o2,k _ _ (.inl rfl) e2,c2⟩
 |dK kvs=>obtain⟨z,y,vs,r,ob,es,ep,e,c⟩:=x;exact⟨z,y,vs,r,ob,es,ep,k _ _ (.inl rfl) e,c⟩
 |dT kvs=>
  obtain⟨z,y,xs,r,ob,es,ep,e,c⟩:=x;exact⟨z,y,xs,Paired.mapP r λp q z=>⟨z.1,ht _ _ z.2.1,z.2.2⟩,ob,es,ep,k _ _ (.inl rfl) e,c⟩
 |set S n=>obtain⟨ob,es,ep,t,e,c⟩:=x;exact⟨ob,es,ep,t,k _ _ (.inl rfl) e,c⟩
 |ins C dx fs=>
  obtain⟨d,z,ne,e,mA,⟨od,es,ep,e2,c⟩,r⟩:=x;exact⟨ho _ d,z,ne,k _ _ (.inl rfl) e,mA,⟨od,es,ep,k _ _ (.inr d) e2,c⟩,r⟩
 |own y=>obtain⟨ob,e⟩:=x;exact⟨ob,k _ _ (.inl rfl) e⟩
 |xd fs=>obtain⟨mA,⟨od,es,ep,e,c⟩,r⟩:=x;exact⟨mA,⟨od,es,ep,k _ _ (.inl rfl) e,c⟩,r⟩
 |rng lo hi=>obtain⟨t,u,v,e⟩:=x;exact⟨t,u,v,k _ _ (.inl rfl) e⟩
 |frz ob u ih=>obtain⟨e,q⟩:=x;exact⟨k _ _ (.inl rfl) e,ih q⟩
 |tbl ps=>
  have e:h.get? a=some { cls:=.none,data:=.fields ps }:=x;show h'.get? a=some { cls:=.none,data:=.fields ps };exact k a _ (.inl rfl) e
 |met f y=>
  have e:h.get? a=some (PySem.W.methodObj (.ref f) (.ref y)):=x;show h'.get? a=some (PySem.W.methodObj (.ref f) (.ref y));exact k a _ (.inl rfl) e
 |ext φ=>obtain⟨p,⟨o,e⟩,st⟩:=x;exact⟨st _ _ p λo q=>k _ _ (.inl rfl) q,⟨o,k _ _ (.inl rfl) e⟩,st⟩
theorem HOk.lt(x:HOk P w H h)(e:H a=some o):a<h.objs.size:=(x a o e).lt
theorem HOk.fresh(x:HOk P w H h)(e:h.objs.size<=a):H a=none:=by
 cases q:H a with
 |none=>rfl
 |some u=>exact absurd (ax' (x.lt q) e) (aZ' _)
theorem HOk.kept(x:HOk P w H h)(k:∀b u,h.get? b=some u->h'.get? b=some u):HOk P w H h':=λa o e=>
 (x a o e).stay (λb u _ q=>k b u q) (λ_ q=>q) λ_ _ q=>q
theorem HOk.laid(x:HOk P w H h)(k:∀b u,h.get? b=some u->h'.get? b=some u)(hp:h.objs.size<=a)(new:bf' P w (upd H a o) h' a o):HOk P w (upd H a o) h':=λb u e=>by
 have hn:=x.fresh hp;by_cases hb:b=a
 ·subst hb;rw[a1_] at e;cases e;exact new
 ·rw[a5_ hb] at e;exact (x b u e).stay (λc v _ q=>k c v q) (λc q=>by rw[a5_ (a7_ q hn)];exact q) λc xs q=>by rw[a5_ (a7_ q hn)];exact q
end
def Rd(H:Hp)(a:Addr)(u:HO):Prop:=H a=some u∨∃o,H a=some (.frz o u)
theorem Rd.of{H:Hp}{u:HO}(h:H a=some u):Rd H a u:=.inl h
variable{P:Ae}{h:Heap}
theorem Rd.ok{w:Af}{H:Hp}{u:HO}(r:Rd H a u)(x:HOk P w H h):bf' P w H h a u:=by
 rcases r with r|⟨o,r⟩
 ·exact x a u r
 ·obtain⟨_,q⟩:=x a _ r;exact q
def Mut:Option HO->Prop
 |some (.lst _)=>True
 |some (.dK _)=>True
 |some (.dT _)=>True
 |some (.set _ _)=>True
 |some (.ins _ _ _)=>True
 |some (.ext _)=>True
 |_=>False
section
variable{P:Ae}{w:Af}{H:Hp}{h h':Heap}{x e:Addr}{o':HO}
theorem HOk.write(ok:HOk P w H h)(mu:Mut (H x))(he:e=x∨H e=some (.own x))(k:∀b u,b≠e->h.get? b=some u->h'.get? b=some u)(heo:∃u,h'.get? e=some u)
  (new:bf' P w (upd H x o') h' x o'):HOk P w (upd H x o') h':=λb u q=>by
 have nown:∀c y,H c=some (.own y)->c≠x:=λc y r z=>by subst z;rw[r] at mu;exact mu
 have ntup:∀c xs,H c=some (.tup xs)->c≠x:=λc xs r z=>by subst z;rw[r] at mu;exact mu
 by_cases hb:b=x
 ·subst hb;rw[a1_] at q;cases q;exact new
 ·rw[a5_ hb] at q;by_cases hbe:b=e
  ·have q':H b=some (.own x):=by
    rcases he with z|z
    ·exact absurd (hbe.trans z) hb
    ·rw[hbe];exact z
   rw[q] at q';cases q';obtain⟨v,hv⟩:=heo;exact⟨v,by rw[hbe];exact hv⟩
  ·refine (ok b u q).stay (λc v hc r=>k c v ?_ r) (λc r=>by rw[a5_ (nown c b r)];exact r) λc xs r=>by rw[a5_ (ntup c xs r)];exact r
   rcases hc with rfl|hc
   ·exact hbe
   ·rintro rfl;rcases he with z|z
    ·exact nown c b hc z
    ·rw[hc] at z;cases z;exact hb rfl
end
structure Un (fs ex:List Addr) (H H':Hp) (h h':Heap):Prop where
 keep:∀b o,h.get? b=some o->H b=none->b∉fs->b∉ex->h'.get? b=some o
 slot:∀b o,h.get? b=some o->H b=none->b∈fs->b∉ex->∃sl,h'.get? b=some { o with slots:=sl }
 free:∀b o,h.get? b=some o->H b=none->b∉ex->H' b=none
 there:∀b o,h.get? b=some o->b∉ex->∃o',h'.get? b=some o'
 tups:∀b xs,H b=some (.tup xs)->H' b=some (.tup xs)
 frzs:∀b o u,H b=some (.frz o u)->H' b=some (.frz o u)
 tbls:∀b ps,H b=some (.tbl ps)->∃more,H' b=some (.tbl (ps++more))
section
variable{fs fs' ex ex':List Addr}{H H1 H2:Hp}{h h1 h2 h':Heap}{a x e:Addr}{o:HO}
theorem Un.any(u:Un fs ex H H1 h h1){ob:Obj}(q:h.get? b=some ob)(n:H b=none)(hx:b∉ex):∃sl,h1.get? b=some { ob with slots:=sl }:=by
 by_cases hb:b∈fs
 ·exact u.slot b ob q n hb hx
 ·exact⟨ob.slots,u.keep b ob q n hb hx⟩
theorem Un.kept(k:∀b u,h.get? b=some u->h'.get? b=some u):Un fs ex H H h h':=
 ⟨λb ob q _ _ _=>k b ob q,λb ob q _ _ _=>⟨ob.slots,k b ob q⟩,λ_ _ _ n _=>n,λb ob q _=>⟨ob,k b ob q⟩,λ_ _ q=>q,λ_ _ _ q=>q,λ_ ps q=>⟨#[],by rw[q];simp⟩⟩
theorem Un.refl:Un fs ex H H h h:=Un.kept λ_ _ q=>q
theorem Un.laid(k:∀b u,h.get? b=some u->h'.get? b=some u)(hp:h.objs.size<=a)(hn:H a=none):Un fs ex H (upd H a o) h h' where
 keep:=λb u q _ _ _=>k b u q
 slot:=λb u q _ _ _=>⟨u.slots,k b u q⟩
 free:=λb u q n _=>by rw[a5_ (ap' (ax' (a_5 q) hp))];exact n
 there:=λb u q _=>⟨u,k b u q⟩
 tups:=λb xs q=>by rw[a5_ (a7_ q hn)];exact q
 frzs:=λb u xs q=>by rw[a5_ (a7_ q hn)];exact q
 tbls:=λb ps q=>⟨#[],by rw[a5_ (a7_ q hn),q];simp⟩
theorem Un.write(mu:Mut (H x))(he:e=x∨H e=some (.own x))(k:∀b u,b≠e->h.get? b=some u->h'.get? b=some u)(heo:∃u,h'.get? e=some u):Un fs ex H (upd H x o) h h':=by
 have hx:∀b,H b=none->b≠x:=λb n z=>by subst z;rw[n] at mu;exact mu
 have hb:∀b,H b=none->b≠e:=λb n z=>by
  subst z;rcases he with r|r
  ·exact hx b n r
  ·rw[n] at r;cases r
 have hm:∀b u,H b=some u->¬Mut (some u)->b≠x:=λb u q nm z=>by subst z;rw[q] at mu;exact nm mu
 refine⟨λb u q n _ _=>k b u (hb b n) q,λb u q n _ _=>⟨u.slots,k b u (hb b n) q⟩,λb u q n _=>by rw[a5_ (hx b n)];exact n,λb u q _=>?_,
  λb xs q=>by rw[a5_ (hm b _ q λz=>z)];exact q,λb u xs q=>by rw[a5_ (hm b _ q λz=>z)];exact q,λb ps q=>⟨#[],by rw[a5_ (hm b _ q λz=>z),q];simp⟩⟩
 by_cases hbe:b=e
 ·subst hbe;exact heo
 ·exact⟨u,k b u hbe q⟩
end
def trk(h:Heap)(H:Hp):List Addr:=(List.range h.objs.size).filter λa=>(H a).isSome
def hidT(h:Heap)(H:Hp):Heap:=PySem.W.hideAll h (trk h H)
theorem gv_(h:Heap)(H:Hp):(hidT h H).objs.size=h.objs.size:=PySem.W.hideAll_size _ _
variable{o:Obj}
theorem i0_{H:Hp}(e:h.get? b=some o)(n:H b=none):(hidT h H).get? b=some o:=
 PySem.W.hideAll_get _ e λhm=>by
  have q:(H b).isSome=true:=(List.mem_filter.mp hm).2;rw[n] at q;simp at q
theorem jb_{H:Hp}(e:(hidT h H).get? b=some o):h.get? b=some o/\H b=none:=by
 have e':h.get? b=some o:=PySem.W.of_hideAll (trk h H) e;refine⟨e',?_⟩;cases q:H b with
 |none=>rfl
 |some x=>
  have hm:b∈trk h H:=List.mem_filter.mpr ⟨List.mem_range.mpr (a_5 e'),by simp[q]⟩;have z:(hidT h H).get? b=none:=PySem.W.hideAll_none (trk h H) hm;rw[z] at e;cases e
structure Mod (K:F__) (mg:Str->Option Aa) (base:Heap):Prop where
 kin:K.In base
 glob:base.Ns mainGlobals mg
 blt:∃mb,base.Ns builtinsNs mb/\∀x:Str,x≠"__name__"->mb x=bootBuiltins x
 nolimit:base.NoLimit
structure Cx where
 prog:Ae
 w:Af
 K:F__
 mg:Str->Option Aa
 base:Heap
 A:Ag
 N:List Str
 s₀:Ac
 H₀:Hp
 env:Env
 outer:List Env
 stack:List Env
 ex:List Addr
 fn:Str->Bool
 calm:Bool
 pn:List (Addr × Obj)
 xe:Aa->Ac->Prop
def frs(l:List Env):List Addr:=l.filterMap (·.frame)
abbrev Cx.fs(X:Cx):List Addr:=frs X.outer
def Vis(sc:Scope)(x:Str):Prop:=sc.names.lookup x=some .local∨sc.names.lookup x=some .cell∨sc.names.lookup x=some .free
def Loc(sc:Scope)(x:Str):Prop:=sc.names.lookup x=some .local∨sc.names.lookup x=some .cell
def Look(env:Env)(h:Heap)(m:Str->Option Aa)(x:Str)(u:Aa):Prop:=
 (env.kindOf x=some .local/\m x=some u)∨((env.kindOf x=some .cell∨env.kindOf x=some .free)/\∃c,env.cells.lookup x=some c/\h.IsCell c (some u))
structure Cx.Ok (X:Cx):Prop where
 mod:Mod X.K X.mg X.base
 kind:X.env.scope.kind=.function
 glob:X.env.globals=mainGlobals
 blt:X.env.builtins=builtinsNs
 above:X.s₀.heap.objs.size<=X.env.locals
 inj:∀x y c,X.env.cells.lookup x=some c->X.env.cells.lookup y=some c->x=y
 has:∀x,(X.env.kindOf x=some .cell∨X.env.kindOf x=some .free)->∃c,X.env.cells.lookup x=some c
 cab:∀x c,X.fn x=true->X.env.cells.lookup x=some c->X.s₀.heap.objs.size<=c
 hd:X.calm=true->X.A.handled=none
 frames:X.A.frames=some X.stack
 stk:X.stack=X.outer∨(X.stack=X.env::X.outer/\X.env.frame=some X.env.locals)
 exf:∀b∈X.ex,b≠X.env.locals/\∀x c,X.env.cells.lookup x=some c->c≠b
 bs:∀b o,X.base.get? b=some o->X.s₀.heap.get? b=some o/\X.H₀ b=none
 bsz:X.base.objs.size<=X.s₀.heap.objs.size
 noex:∀b o,X.base.get? b=some o->b∉X.ex
 exfs:∀b∈X.ex,b∉X.fs
 funs:X.s₀.heap.FunFrames X.base X.outer
 frf:∀b∈X.fs,X.H₀ b=none
structure Inv (X:Cx) (pins:List (Addr × Obj)) (σ:List (Option V)) (H:Hp) (s:Ac):Prop where
 ok:X.Ok
 os:s.os=X.s₀.os
 bare:AllBare s.gens
 base:Un X.fs X.ex X.H₀ H X.s₀.heap s.heap
 loc:∃m,s.heap.Ns X.env.locals m/\∀(i:Nat) (x:Str) (v:V),X.N[i]? = some x->σ[i]? = some (some v)->Vis X.env.scope x->∃u,RelV v u/\Look X.env s.heap m x u
 cell:∀x c,X.env.cells.lookup x=some c->∃v,s.heap.IsCell c v
 free:H X.env.locals=none
 freeC:∀x c,X.env.cells.lookup x=some c->H c=none
 pin:∀p∈X.pn++pins,s.heap.get? p.1=some p.2/\H p.1=none/\p.1≠X.env.locals/\p.1∉X.fs/\∀v,p.2.data≠.cell v
 hok:HOk X.prog X.w H s.heap
 len:σ.length=X.N.length
section
variable{X:Cx}{pins:List (Addr × Obj)}{σ:List (Option V)}{H H':Hp}{s:Ac}{h':Heap}
theorem Cx.Ok.nofr(ok:X.Ok)(e:X.base.get? b=some o):b∉X.fs:=λhb=>by
 have:=(ok.funs.mem hb).1;rw[e] at this;cases this
theorem Inv.bs(I:Inv X pins σ H s):∀b o,X.base.get? b=some o->s.heap.get? b=some o/\H b=none:=λb o e=>
 ⟨I.base.keep b o (I.ok.bs b o e).1 (I.ok.bs b o e).2 (I.ok.nofr e) (I.ok.noex b o e),I.base.free b o (I.ok.bs b o e).1 (I.ok.bs b o e).2 (I.ok.noex b o e)⟩
theorem Inv.bk(I:Inv X pins σ H s):∀b o,X.base.get? b=some o->s.heap.get? b=some o:=λb o e=>(I.bs b o e).1
theorem Inv.mod(I:Inv X pins σ H s):Mod X.K X.mg X.base:=I.ok.mod
theorem Inv.kIn(I:Inv X pins σ H s):X.K.In s.heap:=I.ok.mod.kin.keeps I.bk
theorem Inv.lt(I:Inv X pins σ H s):X.env.locals<s.heap.objs.size:=let ⟨_,hn,_⟩:=I.loc;hn.lt
theorem Inv.sz(I:Inv X pins σ H s):X.s₀.heap.objs.size<=s.heap.objs.size:=aM' I.ok.above (Nat.le_of_lt I.lt)
theorem Inv.nofs(I:Inv X pins σ H s)(h:s.heap.objs.size<=a):a∉X.fs:=λhb=>by
 obtain⟨_,o,ho,_⟩:=I.ok.funs.mem hb;exact absurd (ax' (a_5 ho) (aM' I.sz h)) (aZ' _)
theorem Inv.cne(I:Inv X pins σ H s):∀x c,X.env.cells.lookup x=some c->c≠X.env.locals:=λx c e z=>by
 obtain⟨v,o,ho,hd⟩:=I.cell x c e;obtain⟨m,⟨o',es,ep,ho',hd',_⟩,_⟩:=I.loc;rw[z,ho'] at ho;cases ho;rw[hd'] at hd;cases hd
theorem Inv.funs(I:Inv X pins σ H s):s.heap.FunFrames X.base X.outer:=by
 have all:∀(l:List Env),(∀b∈frs l,b∈X.fs)->X.s₀.heap.FunFrames X.base l->s.heap.FunFrames X.base l:=by
  intro l
  induction l with
  |nil=>intro _ _;trivial
  |cons env r ih=>
   intro hs hl;obtain⟨hk,⟨L,o,hf,hn,ho,hd⟩,hr⟩:=hl;have hL:L∈X.fs:=hs L (by unfold frs;rw[List.filterMap_cons,hf];exact ag');obtain⟨sl,e⟩:=I.base.slot L o ho (I.ok.frf L hL) hL λz=>I.ok.exfs L z hL;exact⟨hk,⟨L,_,hf,hn,e,hd⟩,ih (λb hb=>hs b (by unfold frs;rw[List.filterMap_cons,hf];exact ad' _ hb)) hr⟩
 exact all X.outer (λ_ hb=>hb) I.ok.funs
theorem Inv.stack(I:Inv X pins σ H s):s.heap.FunFrames X.base X.stack:=by
 rcases I.ok.stk with e|⟨e,hf⟩
 ·rw[e];exact I.funs
 ·rw[e];obtain⟨m,hn,_⟩:=I.loc;refine .cons (by rw[I.ok.kind];decide) hf hn ?_ I.funs;exact Heap.get?_none_of_le (aM' I.ok.bsz I.ok.above)
theorem Inv.stkSub(I:Inv X pins σ H s):∀b∈frs X.stack,b∈X.env.locals::X.fs:=λb hb=>by
 rcases I.ok.stk with e|⟨e,hf⟩
 ·rw[e] at hb;exact ad' _ hb
 ·rw[e] at hb;unfold frs at hb;rw[List.filterMap_cons,hf] at hb;exact hb
theorem Inv.stkFree(I:Inv X pins σ H s):∀b∈frs X.stack,H b=none:=λb hb=>by
 rcases al'.mp (I.stkSub b hb) with e|hb
 ·rw[e];exact I.free
 ·obtain⟨_,o,ho,_⟩:=I.ok.funs.mem hb;exact I.base.free b o ho (I.ok.frf b hb) λz=>I.ok.exfs b z hb
theorem Inv.step{g':Array GenState}{t':Nat}{d':Drawn}{ch:List Addr}(I:Inv X pins σ H s)
  (hch:∀b∈ch,(b∈X.ex∨X.s₀.heap.objs.size<=b)/\b≠X.env.locals/\(∀x c,X.env.cells.lookup x=some c->c≠b)/\∀p∈X.pn++pins,p.1≠b)
  (keep:∀b o,b≠X.env.locals->b∉X.fs->b∉ch->s.heap.get? b=some o->H b=none->h'.get? b=some o)
  (slot:∀b o,b≠X.env.locals->b∈X.fs->b∉ch->s.heap.get? b=some o->H b=none->∃sl,h'.get? b=some { o with slots:=sl }) (free:∀b o,b∉ch->s.heap.get? b=some o->H b=none->H' b=none)
  (there:∀b o,b∉ch->s.heap.get? b=some o->∃o',h'.get? b=some o')
  (tups:∀b xs,H b=some (.tup xs)->H' b=some (.tup xs)) (frzs:∀b o u,H b=some (.frz o u)->H' b=some (.frz o u)) (tbls:∀b ps,H b=some (.tbl ps)->∃more,H' b=some (.tbl (ps++more)))
  (ns:∀m,s.heap.Ns X.env.locals m->h'.Ns X.env.locals m) (hok:HOk X.prog X.w H' h') (hg:AllBare g') :
  Inv X pins σ H' { s with heap:=h',gens:=g',drawn:=d',toks:=t' }:=by
 have neL:∀b o,X.s₀.heap.get? b=some o->b≠X.env.locals:=λb o e=>ap' (ax' (a_5 e) I.ok.above)
 have neC:∀b o,X.s₀.heap.get? b=some o->b∉X.ex->b∉ch:=λb o e hx hb=>by
  rcases (hch b hb).1 with z|z
  ·exact hx z
  ·exact absurd (ax' (a_5 e) z) (aZ' _)
 have cellK:∀x c,X.env.cells.lookup x=some c->∀v,s.heap.IsCell c v->h'.IsCell c v:=λx c e v ⟨o,ho,hd⟩=>by
  have nch:c∉ch:=λz=>(hch c z).2.2.1 x c e rfl;by_cases hc:c∈X.fs
  ·obtain⟨sl,q⟩:=slot c o (I.cne x c e) hc nch ho (I.freeC x c e);exact⟨_,q,hd⟩
  ·exact⟨o,keep c o (I.cne x c e) hc nch ho (I.freeC x c e),hd⟩
 refine⟨I.ok,I.os,hg,⟨λb o e n hb hx=>?_,λb o e n hb hx=>?_,λb o e n hx=>?_,λb o e hx=>?_,λb xs e=>tups b xs (I.base.tups b xs e),λb o xs e=>frzs b o xs (I.base.frzs b o xs e),λb ps e=>?_⟩,?_,λx c e=>?_,?_,λx c e=>?_,λp hp=>?_,hok,I.len⟩
 ·exact keep b o (neL b o e) hb (neC b o e hx) (I.base.keep b o e n hb hx) (I.base.free b o e n hx)
 ·obtain⟨sl,e1⟩:=I.base.slot b o e n hb hx;obtain⟨sl',e2⟩:=slot b _ (neL b o e) hb (neC b o e hx) e1 (I.base.free b o e n hx);exact⟨sl',e2⟩
 ·obtain⟨o',e1⟩:=I.base.there b o e hx;exact free b o' (neC b o e hx) e1 (I.base.free b o e n hx)
 ·obtain⟨o',e1⟩:=I.base.there b o e hx;exact there b o' (neC b o e hx) e1
 ·obtain⟨m1,e1⟩:=I.base.tbls b ps e;obtain⟨m2,e2⟩:=tbls b _ e1;exact⟨m1++m2,by rw[e2,Array.append_assoc]⟩
 ·obtain⟨m,hn,hl⟩:=I.loc;refine⟨m,ns m hn,λi x v e1 e2 e3=>?_⟩;obtain⟨u,r,l⟩:=hl i x v e1 e2 e3;refine⟨u,r,?_⟩;rcases l with l|⟨k,c,e,z⟩
  ·exact .inl l
  ·exact .inr ⟨k,c,e,cellK x c e _ z⟩
 ·obtain⟨v,z⟩:=I.cell x c e;exact⟨v,cellK x c e v z⟩
 ·obtain⟨m,⟨o,_,_,ho,_⟩,_⟩:=I.loc;exact free _ o (λz=>(hch _ z).2.1 rfl) ho I.free
 ·obtain⟨v,o,ho,hd⟩:=I.cell x c e;exact free c o (λz=>(hch c z).2.2.1 x c e rfl) ho (I.freeC x c e)
 ·obtain⟨e,n,ne,nf,d⟩:=I.pin p hp;have nch:p.1∉ch:=λz=>(hch p.1 z).2.2.2 p hp rfl;exact⟨keep p.1 p.2 ne nf nch e n,free p.1 p.2 nch e n,ne,nf,d⟩
theorem Inv.un{t':Nat}(I:Inv X pins σ H s)(u:Un X.fs [] H H' s.heap h')(hok:HOk X.prog X.w H' h'):Inv X pins σ H' { s with heap:=h',toks:=t' }:=by
 obtain⟨m,⟨o,es,ep,ho,r⟩,_⟩:=id I.loc;obtain⟨sl,hL⟩:=u.any ho I.free Z2
 exact I.step (g':=s.gens) (d':=s.drawn) (ch:=[]) (λ_ z=>nomatch z) (λb o _ hb _ e n=>u.keep b o e n hb Z2) (λb o _ hb _ e n=>u.slot b o e n hb Z2) (λb o _ e n=>u.free b o e n Z2) (λb o _ e=>u.there b o e Z2) u.tups u.frzs u.tbls (λm' hm=>by
  obtain⟨o',es',ep',ho',r'⟩:=hm;rw[ho] at ho';cases ho';exact⟨_,es',ep',hL,r'⟩) hok I.bare
theorem Inv.call{g':Array GenState}{t':Nat}{d':Drawn}{ch:List Addr}(I:Inv X pins σ H s)(u:Un (frs X.stack) ch H H' s.heap h')(hok:HOk X.prog X.w H' h')(hg:AllBare g')
  (hch:∀b∈ch,(b∈X.ex∨X.s₀.heap.objs.size<=b)/\b≠X.env.locals/\(∀x c,X.env.cells.lookup x=some c->c≠b)/\∀p∈X.pn++pins,p.1≠b) :
  Inv X pins σ H' { s with heap:=h',gens:=g',drawn:=d',toks:=t' }:=by
 obtain⟨m,⟨o,es,ep,ho,r⟩,_⟩:=id I.loc;obtain⟨sl,hL⟩:=u.any ho I.free λz=>(hch _ z).2.1 rfl
 exact I.step (ch:=ch) hch (λb o hL hb hc e n=>u.keep b o e n (λz=>(al'.mp (I.stkSub b z)).elim hL hb) hc) (λb o _ _ hc e n=>u.any e n hc) (λb o hc e n=>u.free b o e n hc) (λb o hc e=>u.there b o e hc) u.tups u.frzs u.tbls (λm' hm=>by
  obtain⟨o',es',ep',ho',r'⟩:=hm;rw[ho] at ho';cases ho';exact⟨_,es',ep',hL,r'⟩) hok hg
theorem Inv.turned{t':Nat}{it:Addr}(I:Inv X pins σ H s)(k:∀b o,b≠it->s.heap.get? b=some o->h'.get? b=some o)(hn:H it=none)(hL:it≠X.env.locals)
  (h1:it∈X.ex∨X.s₀.heap.objs.size<=it) (h2:∀x c,X.env.cells.lookup x=some c->c≠it) (h3:∀p∈X.pn++pins,p.1≠it):Inv X pins σ H { s with heap:=h',toks:=t' }:=by
 have nit:∀b u,H b=some u->b≠it:=λb u e z=>by rw[z,hn] at e;cases e
 refine I.step (g':=s.gens) (d':=s.drawn) (ch:=[it]) (λb hb=>?_) (λb o _ _ hc e _=>k b o (λz=>hc (by simp[z])) e) (λb o _ _ hc e _=>⟨o.slots,k b o (λz=>hc (by simp[z])) e⟩) (λ_ _ _ _ n=>n)
  (λb o hc e=>⟨o,k b o (λz=>hc (by simp[z])) e⟩) (λ_ _ e=>e) (λ_ _ _ e=>e) (λb ps e=>⟨#[],by rw[e];simp⟩) (λm hm=>?_) (λb u e=>?_) I.bare
 ·have e:b=it:=by simpa using hb
  subst e;exact⟨h1,hL,h2,h3⟩
 ·obtain⟨o,es,ep,ho,r⟩:=hm;exact⟨o,es,ep,k _ o (Ne.symm hL) ho,r⟩
 ·refine (I.hok b u e).stay (λc v hc q=>k c v ?_ q) (λ_ q=>q) λ_ _ q=>q;rcases hc with z|z
  ·rw[z];exact nit b u e
  ·exact nit c _ z
theorem Inv.tok(I:Inv X pins σ H s)(t:Nat):Inv X pins σ H { s with toks:=t }:=I.un (h':=s.heap) (t':=t) Un.refl I.hok
theorem Inv.kept{t':Nat}(I:Inv X pins σ H s)(k:∀b u,s.heap.get? b=some u->h'.get? b=some u):Inv X pins σ H { s with heap:=h',toks:=t' }:=I.un (Un.kept k) (I.hok.kept k)
theorem Inv.laid{o:HO}{t':Nat}(I:Inv X pins σ H s)(k:∀b u,s.heap.get? b=some u->h'.get? b=some u)(hp:s.heap.objs.size<=a)(new:bf' X.prog X.w (upd H a o) h' a o) :
  Inv X pins σ (upd H a o) { s with heap:=h',toks:=t' }:=I.un (Un.laid k hp (I.hok.fresh hp)) (I.hok.laid k hp new)
theorem Inv.write{x e:Addr}{o:HO}{t':Nat}(I:Inv X pins σ H s)(mu:Mut (H x))(he:e=x∨H e=some (.own x))(k:∀b u,b≠e->s.heap.get? b=some u->h'.get? b=some u)(heo:∃u,h'.get? e=some u)
  (new:bf' X.prog X.w (upd H x o) h' x o):Inv X pins σ (upd H x o) { s with heap:=h',toks:=t' }:=I.un (Un.write mu he k heo) (I.hok.write mu he k heo new)
theorem Inv.pins_of{pins':List (Addr × Obj)}(I:Inv X pins σ H s)(h:∀p∈pins',s.heap.get? p.1=some p.2/\H p.1=none/\p.1≠X.env.locals/\p.1∉X.fs/\∀v,p.2.data≠.cell v):Inv X pins' σ H s:=
 ⟨I.ok,I.os,I.bare,I.base,I.loc,I.cell,I.free,I.freeC,λp hp=>(au'.mp hp).elim (λz=>I.pin p (List.mem_append_left _ z)) (h p),I.hok,I.len⟩
theorem eQ_{N:List Str}(hN:N.Nodup){i j:Nat}{x:Str}(a:N[i]? = some x)(b:N[j]? = some x):i=j:=by
 obtain⟨h1,e1⟩:=ac'.mp a;obtain⟨h2,e2⟩:=ac'.mp b;exact (List.getElem_inj hN).mp (e1.trans e2.symm)
theorem dD_{M:Model}{A:Ag}{E:Aa->Ac->Prop}{i:Nat}{x:Str}{v:V}{u:Aa}{Q:Unit->Ac->Prop}(I:Inv X pins σ H s)(hN:X.N.Nodup)(hi:X.N[i]? = some x)(hx:Loc X.env.scope x)(r:RelV v u)
  (h:∀s',Inv X pins (σ.set i (some v)) H s'->(∃a,Heap.SameBut a s.heap s'.heap/\(a=X.env.locals∨X.env.cells.lookup x=some a))->Q () s') (hf:X.fn x=true∨X.env.scope.names.lookup x=some .local:=by first|exact .inl rfl|exact .inr rfl|assumption):wpAny M A (storeName X.env x u) Q E s:=by
 obtain⟨m,hn,hl⟩:=id I.loc;have hcls:(X.env.scope.kind == .class || (X.env.scope.kind == .module&&X.env.locals != X.env.globals))=false:=by rw[I.ok.kind];rfl
 have hiσ:i<σ.length:=by rw[I.len];exact (ac'.mp hi).1
 have cne:=I.cne
 have tracked:∀{a:Addr} {h':Heap},(∃o,s.heap.get? a=some o/\H a=none)->Heap.SameBut a s.heap h'->HOk X.prog X.w H h':=λ{a h'} ha hs b ob e=>by
  obtain⟨_,_,hfree⟩:=ha;refine (I.hok b ob e).stay (λc w' hc q=>(hs.2 c ?_).trans q) (λ_ q=>q) λ_ _ q=>q;rintro rfl;rcases hc with rfl|hc
  ·rw[hfree] at e;cases e
  ·rw[hfree] at hc;cases hc
 rcases hx with hk|hk
 ·refine wpAny_storeName_local hk hn (λh' hn' hs=>?_) hcls;obtain⟨oL,_,_,hoL,_⟩:=id hn;refine h _ ⟨I.ok,I.os,I.bare,⟨λb o e n hb hx=>?_,λb o e n hb hx=>?_,I.base.free,λb o e hx=>?_,I.base.tups,I.base.frzs,I.base.tbls⟩,⟨_,hn',λj y v' e1 e2 e3=>?_⟩,λy c e=>?_,I.free,I.freeC,λp hp=>?_,tracked ⟨oL,hoL,I.free⟩ hs,by simpa using I.len⟩ ⟨_,hs,.inl rfl⟩
  ·exact (hs.2 b (ap' (ax' (a_5 e) I.ok.above))).trans (I.base.keep b o e n hb hx)
  ·obtain⟨sl,e1⟩:=I.base.slot b o e n hb hx;exact⟨sl,(hs.2 b (ap' (ax' (a_5 e) I.ok.above))).trans e1⟩
  ·obtain⟨o',e1⟩:=I.base.there b o e hx;exact⟨o',(hs.2 b (ap' (ax' (a_5 e) I.ok.above))).trans e1⟩
  ·by_cases hj:j=i
   ·subst hj;rw[hi] at e1;cases e1;rw[List.getElem?_set_self hiσ] at e2;cases e2;exact⟨u,r,.inl ⟨hk,by simp⟩⟩
   ·rw[List.getElem?_set_ne (Ne.symm hj)] at e2;obtain⟨u',r',q⟩:=hl j y v' e1 e2 e3;refine⟨u',r',?_⟩;rcases q with⟨k,e⟩|⟨k,c,e,z⟩
    ·refine .inl ⟨k,?_⟩;have:y≠x:=λe=>hj (eQ_ hN e1 (e▸hi));simp[this,e]
    ·exact .inr ⟨k,c,e,z.sameBut hs (cne y c e)⟩
  ·obtain⟨w',z⟩:=I.cell y c e;exact⟨w',z.sameBut hs (cne y c e)⟩
  ·obtain⟨e,n,ne,nf,d⟩:=I.pin p hp;exact⟨(hs.2 p.1 ne).trans e,n,ne,nf,d⟩
 ·have hfn:X.fn x=true:=by
   rcases hf with z|z
   ·exact z
   ·rw[z] at hk;cases hk
  obtain⟨c,hc⟩:=I.ok.has x (.inl hk);obtain⟨w',z⟩:=I.cell x c hc;refine wpAny_storeName_cell I.ok.kind hk hc z (λh' hc' hs=>?_);obtain⟨oc,hoc,hocd⟩:=id z;refine h { s with heap:=h' } ⟨I.ok,I.os,I.bare,⟨λb o e n hb hx=>?_,λb o e n hb hx=>?_,I.base.free,λb o e hx=>?_,I.base.tups,I.base.frzs,I.base.tbls⟩,⟨m,hn.sameBut hs (Ne.symm (cne x c hc)),λj y v' e1 e2 e3=>?_⟩,λy c' e=>?_,I.free,I.freeC,λp hp=>?_,tracked ⟨oc,hoc,I.freeC x c hc⟩ hs,by simpa using I.len⟩ ⟨c,hs,.inr hc⟩
  ·exact (hs.2 b (ap' (ax' (a_5 e) (I.ok.cab x c hfn hc)))).trans (I.base.keep b o e n hb hx)
  ·obtain⟨sl,e1⟩:=I.base.slot b o e n hb hx;exact⟨sl,(hs.2 b (ap' (ax' (a_5 e) (I.ok.cab x c hfn hc)))).trans e1⟩
  ·obtain⟨o',e1⟩:=I.base.there b o e hx;exact⟨o',(hs.2 b (ap' (ax' (a_5 e) (I.ok.cab x c hfn hc)))).trans e1⟩
  ·by_cases hj:j=i
   ·subst hj;rw[hi] at e1;cases e1;rw[List.getElem?_set_self hiσ] at e2;cases e2;exact⟨u,r,.inr ⟨.inl hk,c,hc,hc'⟩⟩
   ·rw[List.getElem?_set_ne (Ne.symm hj)] at e2;obtain⟨u',r',q⟩:=hl j y v' e1 e2 e3;refine⟨u',r',?_⟩;rcases q with q|⟨k,c',e,z'⟩
    ·exact .inl q
    ·refine .inr ⟨k,c',e,z'.sameBut hs ?_⟩;rintro rfl;exact hj (eQ_ hN e1 (I.ok.inj _ _ _ e hc▸hi))
  ·by_cases hcc:c'=c
   ·subst hcc;exact⟨_,hc'⟩
   ·obtain⟨w2,z2⟩:=I.cell y c' e;exact⟨w2,z2.sameBut hs hcc⟩
  ·obtain⟨e,n,ne,nf,d⟩:=I.pin p hp;refine⟨(hs.2 p.1 ?_).trans e,n,ne,nf,d⟩;intro q;rw[q,hoc] at e;have q':oc=p.2:=a_8 e;exact d w' (by rw[<- q'];exact hocd)
theorem fi_{M:Model}{A:Ag}{E:Aa->Ac->Prop}{i:Nat}{x:Str}{v:V}{u:Aa}{Q:Unit->Ac->Prop}(I:Inv X pins σ H s)(hN:X.N.Nodup)(hi:X.N[i]? = some x)(hx:Loc X.env.scope x)(r:RelV v u)
  (h:∀s',Inv X pins (σ.set i (some v)) H s'->Q () s') (hf:X.fn x=true∨X.env.scope.names.lookup x=some .local:=by first|exact .inl rfl|exact .inr rfl|assumption):wpAny M A (storeName X.env x u) Q E s:=
 dD_ I hN hi hx r (λs' I' _=>h s' I') hf
theorem Inv.call'{s':Ac}{ch:List Addr}(I:Inv X pins σ H s)(ho:s'.os=s.os)(u:Un (frs X.stack) ch H H' s.heap s'.heap)(hok:HOk X.prog X.w H' s'.heap)(hg:AllBare s'.gens)
  (hch:∀b∈ch,(b∈X.ex∨X.s₀.heap.objs.size<=b)/\b≠X.env.locals/\(∀x c,X.env.cells.lookup x=some c->c≠b)/\∀p∈X.pn++pins,p.1≠b):Inv X pins σ H' s':=by
 obtain⟨h',g',d',t',o'⟩:=s';have e:o'=s.os:=ho;subst e;exact I.call (g':=g') (t':=t') (d':=d') u hok hg hch
end
abbrev XK:=Aa->Option Addr->Hp->Prop
abbrev St:=List (Option V)
abbrev VK:=V->Hp->Prop
abbrev TE:=St->Hp->VK->Prop
abbrev TT:=St->Hp->(Bool->Hp->Prop)->Prop
abbrev TA:=St->Hp->(List V->Hp->Prop)->Prop
structure Ends where
 nx:St->Hp->Prop
 rt:VK
 bk:St->Hp->Prop:=λ_ _=>False
 ct:St->Hp->Prop:=λ_ _=>False
abbrev TS:=Ends->St->Hp->Prop
def EP(X:Cx)(pins:List (Addr × Obj))(σ:St)(Q:VK)(u:Aa)(s':Ac):Prop:=∃v H',Inv X pins σ H' s'/\RelV v u/\Q v H'
def TP(X:Cx)(pins:List (Addr × Obj))(σ:St)(Q:Bool->Hp->Prop)(b:Bool)(s':Ac):Prop:=∃H',Inv X pins σ H' s'/\Q b H'
def AP(X:Cx)(pins:List (Addr × Obj))(σ:St)(Q:List V->Hp->Prop)(us:List Aa)(s':Ac):Prop:=∃vs H',Inv X pins σ H' s'/\Vals vs us/\Q vs H'
def SP(X:Cx)(pins:List (Addr × Obj))(D:Ends)(f:Flow)(s':Ac):Prop:=
 match f with
 |.next=>∃σ' H',Inv X pins σ' H' s'/\D.nx σ' H'
 |.brk=>∃σ' H',Inv X pins σ' H' s'/\D.bk σ' H'
 |.cont=>∃σ' H',Inv X pins σ' H' s'/\D.ct σ' H'
 |.ret u=>∃v σ' H',Inv X pins σ' H' s'/\RelV v u/\D.rt v H'
def PE(X:Cx)(e:Expr)(t:TE):Prop:=
 ∀(pins:List (Addr × Obj)) (s:Ac) (σ:St) (H:Hp) (Q:VK),Inv X pins σ H s->t σ H Q->wpAny (model X.prog X.w) X.A (eval e X.env) (EP X pins σ Q) X.xe s
def PT(X:Cx)(e:Expr)(t:TT):Prop:=
 ∀(pins:List (Addr × Obj)) (s:Ac) (σ:St) (H:Hp) (Q:Bool->Hp->Prop),Inv X pins σ H s->t σ H Q->wpAny (model X.prog X.w) X.A (isTrue e X.env (eval e X.env)) (TP X pins σ Q) X.xe s
def PW(X:Cx)(e:Expr)(t:TT):Prop:=
 ∀(whole:Sem Aa) (pins:List (Addr × Obj)) (s:Ac) (σ:St) (H:Hp) (Q:Bool->Hp->Prop),Inv X pins σ H s->t σ H Q->wpAny (model X.prog X.w) X.A (isTrue e X.env whole) (TP X pins σ Q) X.xe s
theorem PW.pt{X:Cx}{e:Expr}{t:TT}(h:PW X e t):PT X e t:=h _
def PA(X:Cx)(es:List Expr)(t:TA):Prop:=
 ∀(pos:Pos) (pins:List (Addr × Obj)) (s:Ac) (σ:St) (H:Hp) (Q:List V->Hp->Prop),Inv X pins σ H s->t σ H Q->wpAny (model X.prog X.w) X.A (spliced (backTo pos (starEach es X.env))) (AP X pins σ Q) X.xe s
def PS(X:Cx)(st:Stmt)(t:TS):Prop:=
 ∀(pins:List (Addr × Obj)) (s:Ac) (σ:St) (H:Hp) (D:Ends),Inv X pins σ H s->t D σ H->wpAny (model X.prog X.w) X.A (exec st X.env) (SP X pins D) X.xe s
def PSs(X:Cx)(st:List Stmt)(t:TS):Prop:=
 ∀(pins:List (Addr × Obj)) (s:Ac) (σ:St) (H:Hp) (D:Ends),Inv X pins σ H s->t D σ H->wpAny (model X.prog X.w) X.A (execs st X.env) (SP X pins D) X.xe s
variable{M:Model}
theorem thn{α:Type}{t:Sem α}{Q Q':α->Ac->Prop}{A:Ag}{E:Aa->Ac->Prop}{s:Ac}(h:wpAny M A t Q E s)(hQ:∀a s,Q a s->Q' a s):wpAny M A t Q' E s:=c_2 h hQ λ_ _ x=>x
section
variable{X:Cx}
inductive tVar (i:Nat) (σ:St) (H:Hp) (Q:VK):Prop
 |mk:∀v,σ[i]? = some (some v)->Q v H->tVar i σ H Q
def tC(v:V):TE:=λ_ H Q=>Q v H
theorem kv_{i:Nat}{x:Str}{pos:Pos}(hN:X.N[i]? = some x)(hv:Vis X.env.scope x)(hd:(x == ("__debug__":Str))=false:=by decide)(hcd:(x == ("__classdict__":Str))=false:=by decide):PE X (.Name x pos) (tVar i):=by
 intro pins s σ H Q I h;obtain⟨v,e,h⟩:=h;obtain⟨m,hn,hl⟩:=I.loc;obtain⟨u,r,l⟩:=hl i x v hN e hv;have fin:EP X pins σ Q u s:=⟨v,H,I,r,h⟩;rcases l with⟨hk,hm⟩|⟨hk,c,hc,hcell⟩
 ·exact wpAny_Name (wpAny_loadName_local I.ok.kind hk hn hm fin) hd
 ·rcases hk with hk|hk
  ·exact wpAny_Name (wpAny_loadName_cell I.ok.kind hk hc hcell fin) hd
  ·exact wpAny_Name (wpAny_loadName_free I.ok.kind hk hc hcell fin hcd) hd
theorem a6_{i j pos}:PE X (.Constant (.int i) j pos) (tC (.int i)):=λ_ _ _ H _ I h=>wpAny_Constant_int ⟨.int i,H,I.tok _,⟨_,rfl⟩,h⟩
theorem bC_{b j pos}:PE X (.Constant (.bool b) j pos) (tC (.bl b)):=λ_ _ _ H _ I h=>Constant_bool ⟨.bl b,H,I,rfl,h⟩
theorem g3_{j pos}:PE X (.Constant .none j pos) (tC .non):=λ_ _ _ H _ I h=>Constant_none ⟨.non,H,I,rfl,h⟩
theorem ag_{x j pos}:PE X (.Constant (.str x) j pos) (tC (.str x)):=λ_ _ _ H _ I h=>Calls.Constant_str ⟨.str x,H,I.tok _,⟨_,rfl⟩,h⟩
def Gl(X:Cx)(x:Str):Prop:=X.env.kindOf x=some .globalImplicit
theorem do_{E:Aa->Ac->Prop}{pins:List (Addr × Obj)}{s:Ac}{σ:St}{H:Hp}{x:Str}{u:Aa}{pos:Pos}{Q:Aa->Ac->Prop}(I:Inv X pins σ H s)(hg:Gl X x)(hm:X.mg x=some u)(h:Q u s)
  (hd:(x == ("__debug__":Str))=false:=by decide):wpAny (model X.prog X.w) X.A (eval (.Name x pos) X.env) Q E s:=
 Calls.Name_function_global I.ok.kind hg (Calls.loadGlobal_global (by rw[I.ok.glob];exact I.mod.glob.keeps I.bk) hm h) hd
theorem cH_{E:Aa->Ac->Prop}{pins:List (Addr × Obj)}{s:Ac}{σ:St}{H:Hp}{x:Str}{u:Aa}{pos:Pos}{Q:Aa->Ac->Prop}(I:Inv X pins σ H s)(hg:Gl X x)(hm:X.mg x=none)(hv:bootBuiltins x=some u)(h:Q u s)
  (hn:x≠"__name__":=by decide) (hd:(x == ("__debug__":Str))=false:=by decide):wpAny (model X.prog X.w) X.A (eval (.Name x pos) X.env) Q E s:=by
 obtain⟨mb,h1,h2⟩:=I.mod.blt;exact Calls.Name_function_global I.ok.kind hg (Calls.loadGlobal_builtin (by rw[I.ok.glob];exact I.mod.glob.keeps I.bk) hm (by rw[I.ok.blt];exact h1.keeps I.bk) ((h2 x hn).trans hv) h) hd
theorem bw_{x:Str}{v:V}{u:Aa}{pos:Pos}(hg:Gl X x)(hm:X.mg x=some u)(r:RelV v u)(hd:(x == ("__debug__":Str))=false:=by decide):PE X (.Name x pos) (tC v):=
 λ_ _ _ H _ I h=>do_ I hg hm ⟨v,H,I,r,h⟩ hd
theorem b5_{x:Str}{v:V}{u:Aa}{pos:Pos}(hg:Gl X x)(hm:X.mg x=none)(hv:bootBuiltins x=some u)(r:RelV v u)(hn:x≠"__name__":=by decide)(hd:(x == ("__debug__":Str))=false:=by decide):PE X (.Name x pos) (tC v):=
 λ_ _ _ H _ I h=>cH_ I hg hm hv ⟨v,H,I,r,h⟩ hn hd
variable{a b:Expr}{ta tb:TE}{pos:Pos}
def PC(X:Cx)(op:CmpOp)(a b:Expr)(t:TE):Prop:=
 ∀(pins:List (Addr × Obj)) (s:Ac) (σ:St) (H:Hp) (Q:VK),Inv X pins σ H s->t σ H Q->
  wpAny (model X.prog X.w) X.A (eval a X.env) (λv s₁=>wpAny (model X.prog X.w) X.A (eval b X.env) (λu s₂=>wpAny (model X.prog X.w) X.A (compareOp op v u) (EP X pins σ Q) X.xe s₂) X.xe s₁) X.xe s
theorem nobehind(b:Expr){op:CmpOp}(h:op≠.In)(h2:op≠.NotIn):behindInMarks op b=false:=by
 have e1:(op == CmpOp.In)=false:=by cases op<;>first|rfl|exact absurd rfl h
 have e2:(op == CmpOp.NotIn)=false:=by cases op<;>first|rfl|exact absurd rfl h2
 cases b<;>simp[behindInMarks,e1,e2]
def tIsN(ta:TE):TE:=λσ H Q=>ta σ H λx H1=>Q (.bl (decide (x=.non))) H1
theorem RelV.none_iff{x:V}{v:Aa}(r:RelV x v):(v == Value.none)=decide (x=.non):=by
 cases x with
 |non=>cases r;rfl
 |bl _=>cases r;rfl
 |int _=>obtain⟨t,rfl⟩:=r;rfl
 |str _=>obtain⟨t,rfl⟩:=r;rfl
 |byt _=>obtain⟨t,rfl⟩:=r;rfl
 |flt _=>obtain⟨t,rfl⟩:=r;rfl
 |ref _=>cases r;rfl
 |ty _=>cases r;rfl
theorem dG_{j pos'}(ha:PE X a ta):PC X .Is a (.Constant .none j pos') (tIsN ta):=by
 intro pins s σ H Q I h;refine thn (ha pins s σ H _ I h) λv s1 ⟨x,H1,I1,r1,q1⟩=>?_;exact Constant_none (is_none_gen ⟨.bl _,H1,I1,by rw[r1.none_iff];rfl,q1⟩)
inductive tBR (Q:Bool->Hp->Prop) (x:V) (H1:Hp):Prop
 |mk:∀c,x=.bl c->Q c H1->tBR Q x H1
def tB(t:TE):TT:=λσ H Q=>t σ H λx H1=>tBR Q x H1
theorem cZ_{op:CmpOp}{t:TE}(h:PC X op a b t)(h1:behindInMarks op b=false:=by first|exact nobehind _ (by decide) (by decide)|rfl):PE X (.Compare a [op] [b] pos) t:=λpins s σ H Q I hw=>wpAny_Compare1 (h pins s σ H Q I hw) h1
theorem cd_{op:CmpOp}{t:TE}(h:PC X op a b t)(h1:behindInMarks op b=false:=by first|exact nobehind _ (by decide) (by decide)|rfl):PT X (.Compare a [op] [b] pos) (tB t):=by
 intro pins s σ H Q I hw;refine wpAny_isTrue_Compare1 (thn (h pins s σ H _ I hw) λv s1 h1=>thn h1 λu s2 h2=>thn h2 λc s3 ⟨x,H1,I1,r1,q1⟩=>?_) h1;obtain⟨d,rfl,q⟩:=q1;cases r1;exact b_6 ⟨H1,I1,q⟩
theorem ay_{e:Expr}{t:TE}(h:PE X e t)(he:∀whole,isTrue e X.env whole=(do let v <- whole;standAt e.pos;holding [v] (truthy v)):=by intro _;rfl):PT X e (tB t):=by
 intro pins s σ H Q I hw;refine isTrue_plain (thn (h pins s σ H _ I hw) λv s1 ⟨x,H1,I1,r1,q1⟩=>?_) (he _);obtain⟨d,rfl,q⟩:=q1;cases r1;exact b_6 ⟨H1,I1,q⟩
variable{tA tB':TT}{rest:List Expr}
def tAnd(t u:TT):TT:=λσ H Q=>t σ H λc H1=>if c=true then u σ H1 Q else Q false H1
def tOr(t u:TT):TT:=λσ H Q=>t σ H λc H1=>if c=true then Q true H1 else u σ H1 Q
def tNot(t:TT):TT:=λσ H Q=>t σ H λc H1=>Q (!c) H1
theorem dw_(ha:PT X a tA):PW X (.BoolOp .And [a] pos) tA:=by
 intro wh pins s σ H Q I h;refine isTrue_and (thn (ha pins s σ H Q I h) λc s1 e=>?_);cases c with
 |true=>exact isTrue_and_nil e
 |false=>exact e
theorem bF_(ha:PT X a tA):PW X (.BoolOp .Or [a] pos) tA:=by
 intro wh pins s σ H Q I h;refine isTrue_or (thn (ha pins s σ H Q I h) λc s1 e=>?_);cases c with
 |false=>exact isTrue_or_nil e
 |true=>exact e
theorem ec_(ha:PT X a tA)(hb:PW X (.BoolOp .And (b::rest) pos) tB'):PW X (.BoolOp .And (a::b::rest) pos) (tAnd tA tB'):=by
 intro wh pins s σ H Q I h;refine isTrue_and (thn (ha pins s σ H _ I h) λc s1 ⟨H1,I1,q1⟩=>?_);cases c with
 |true=>exact hb wh pins s1 σ H1 Q I1 q1
 |false=>exact⟨H1,I1,q1⟩
theorem cI_(ha:PT X a tA)(hb:PW X (.BoolOp .Or (b::rest) pos) tB'):PW X (.BoolOp .Or (a::b::rest) pos) (tOr tA tB'):=by
 intro wh pins s σ H Q I h;refine isTrue_or (thn (ha pins s σ H _ I h) λc s1 ⟨H1,I1,q1⟩=>?_);cases c with
 |true=>exact⟨H1,I1,q1⟩
 |false=>exact hb wh pins s1 σ H1 Q I1 q1
theorem aC_(ha:PT X a tA):PT X (.UnaryOp .Not a pos) (tNot tA):=by
 intro pins s σ H Q I h;exact isTrue_not (ha pins s σ H (λc H1=>Q (!c) H1) I h)
inductive tAndVR (tb:TE) (σ:St) (Q:VK) (x:V) (H1:Hp):Prop
 |mk:∀c,x=.bl c->(if c=true then tb σ H1 Q else Q (.bl false) H1)->tAndVR tb σ Q x H1
def tAndV(ta tb:TE):TE:=λσ H Q=>ta σ H λx H1=>tAndVR tb σ Q x H1
inductive tOrVR (tb:TE) (σ:St) (Q:VK) (x:V) (H1:Hp):Prop
 |mk:∀c,x=.bl c->(if c=true then Q (.bl true) H1 else tb σ H1 Q)->tOrVR tb σ Q x H1
def tOrV(ta tb:TE):TE:=λσ H Q=>ta σ H λx H1=>tOrVR tb σ Q x H1
inductive tNotVR (Q:VK) (x:V) (H1:Hp):Prop
 |mk:∀c,x=.bl c->Q (.bl (!c)) H1->tNotVR Q x H1
def tNotV(ta:TE):TE:=λσ H Q=>ta σ H λx H1=>tNotVR Q x H1
theorem bf_{op}{t:TE}(h:PE X a t):PE X (.BoolOp op [a] pos) t:=λpins s σ H Q I hw=>BoolOp_one (h pins s σ H Q I hw)
theorem bg_(ha:PE X a ta)(hb:PE X (.BoolOp .And (b::rest) pos) tb):PE X (.BoolOp .And (a::b::rest) pos) (tAndV ta tb):=by
 intro pins s σ H Q I h;refine BoolOp_and (thn (ha pins s σ H _ I h) λv s1 ⟨x,H1,I1,r1,q1⟩=>?_);obtain⟨c,rfl,q1⟩:=q1;cases r1;refine b_6 ?_;cases c with
 |true=>exact hb pins s1 σ H1 Q I1 q1
 |false=>exact⟨.bl false,H1,I1,rfl,q1⟩
theorem k1_(ha:PE X a ta)(hb:PE X (.BoolOp .Or (b::rest) pos) tb):PE X (.BoolOp .Or (a::b::rest) pos) (tOrV ta tb):=by
 intro pins s σ H Q I h;refine BoolOp_or (thn (ha pins s σ H _ I h) λv s1 ⟨x,H1,I1,r1,q1⟩=>?_);obtain⟨c,rfl,q1⟩:=q1;cases r1;refine b_6 ?_;cases c with
 |false=>exact hb pins s1 σ H1 Q I1 q1
 |true=>exact⟨.bl true,H1,I1,rfl,q1⟩
theorem kM_(ha:PE X a ta):PE X (.UnaryOp .Not a pos) (tNotV ta):=by
 intro pins s σ H Q I h;refine UnaryOp_ (thn (ha pins s σ H _ I h) λv s1 ⟨x,H1,I1,r1,q1⟩=>?_);obtain⟨c,rfl,q1⟩:=q1;cases r1;exact not_of (b_6 ⟨.bl (!c),H1,I1,rfl,q1⟩)
def tIf(t:TT)(ta tb:TE):TE:=λσ H Q=>t σ H λc H1=>if c=true then ta σ H1 Q else tb σ H1 Q
theorem ix_{c:Expr}(hc:PT X c tA)(ha:PE X a ta)(hb:PE X b tb):PE X (.IfExp c a b pos) (tIf tA ta tb):=by
 intro pins s σ H Q I h;refine wpAny_IfExp (thn (hc pins s σ H _ I h) λd s1 ⟨H1,I1,q1⟩=>?_);cases d with
 |true=>exact ha pins s1 σ H1 Q I1 q1
 |false=>exact hb pins s1 σ H1 Q I1 q1
end
def SqL(K:F__)(H:Hp)(a:Addr)(xs:List V):Prop:=
 Rd H a (.lst xs) ∨
  ∃(o:Obj) (its:Array Aa) (n:Nat),K.lookup a=some o/\o.cls=.type "list"/\o.dict=none/\o.data=.seq its n/\its.size<=sizeLine/\Vals xs its.toList
def SqT(K:F__)(H:Hp)(a:Addr)(xs:List V):Prop:=
 Rd H a (.tup xs) ∨
  ∃(o:Obj) (its:Array Aa) (n:Nat),K.lookup a=some o/\o.cls=.type "tuple"/\o.data=.seq its n/\its.size<=sizeLine/\Vals xs its.toList
def absV:Aa->Option V
 |.none=>some .non
 |.bool b=>some (.bl b)
 |.int i _=>some (.int i)
 |.str x _=>some (.str x)
 |.bytes b _=>some (.byt b)
 |.float b _=>some (.flt b)
 |.ref a=>some (.ref a)
 |.type n=>some (.ty n)
 |_=>none
theorem RelV.abs{x:V}{u:Aa}(r:RelV x u):absV u=some x:=by
 cases x with
 |non=>cases r;rfl
 |bl _=>cases r;rfl
 |int _=>obtain⟨t,rfl⟩:=r;rfl
 |str _=>obtain⟨t,rfl⟩:=r;rfl
 |byt _=>obtain⟨t,rfl⟩:=r;rfl
 |flt _=>obtain⟨t,rfl⟩:=r;rfl
 |ref _=>cases r;rfl
 |ty _=>cases r;rfl
theorem RelV.inj{x y:V}{u:Aa}(r:RelV x u)(q:RelV y u):x=y:=a_8 (r.abs.symm.trans q.abs)
theorem Vals.inj:∀{xs ys:List V} {us:List Aa},Vals xs us->Vals ys us->xs=ys
 |_,_,_,.nil,.nil=>rfl
 |_,_,_,.cons r t,.cons r' t'=>by rw[r.inj r',Vals.inj t t']
section
variable{X:Cx}{pins:List (Addr × Obj)}{σ:St}{H:Hp}{s:Ac}{a:Addr}{xs ys:List V}
theorem SqL.of{K:F__}(h:H a=some (.lst xs)):SqL K H a xs:=.inl (.inl h)
theorem SqT.of{K:F__}(h:H a=some (.tup xs)):SqT K H a xs:=.inl (.inl h)
theorem Inv.list(I:Inv X pins σ H s)(h:SqL X.K H a xs):∃its:List Aa,Vals xs its/\PlainL s.heap a its.toArray/\xs.length<=sizeLine:=by
 rcases h with h|⟨o,its,n,hk,hc,hd,hs,hz,r⟩
 ·obtain⟨z,its,n,r,e⟩:=h.ok I.hok;exact⟨its,r,⟨_,n,e,rfl,rfl,rfl⟩,z⟩
 ·refine⟨its.toList,r,⟨o,n,I.kIn a o hk,hc,hd,by simpa using hs⟩,?_⟩;have e:=r.length;simp only[aH'] at e;omega
theorem Inv.tuple(I:Inv X pins σ H s)(h:SqT X.K H a xs):∃its:List Aa,Vals xs its/\IsTup s.heap a its.toArray/\xs.length<=sizeLine:=by
 rcases h with h|⟨o,its,n,hk,hc,hs,hz,r⟩
 ·obtain⟨z,its,r,p,_⟩:=h.ok I.hok;exact⟨its,r,p,z⟩
 ·refine⟨its.toList,r,⟨o,I.kIn a o hk,hc,n,by simpa using hs⟩,?_⟩;have e:=r.length;simp only[aH'] at e;omega
theorem Inv.list_inj(I:Inv X pins σ H s)(h:SqL X.K H a xs)(h':SqL X.K H a ys):xs=ys:=by
 obtain⟨its,r,⟨o,n,e,_,_,d⟩,_⟩:=I.list h;obtain⟨its',r',⟨o',n',e',_,_,d'⟩,_⟩:=I.list h';rw[e] at e';cases e';rw[d] at d'
 injection d' with d1 _
 have:its=its':=by simpa using b_9 Array.toList d1
 subst this;exact r.inj r'
theorem Inv.tuple_inj(I:Inv X pins σ H s)(h:SqT X.K H a xs)(h':SqT X.K H a ys):xs=ys:=by
 obtain⟨its,r,⟨o,e,_,n,d⟩,_⟩:=I.tuple h;obtain⟨its',r',⟨o',e',_,n',d'⟩,_⟩:=I.tuple h';rw[e] at e';cases e';rw[d] at d'
 injection d' with d1 _
 have:its=its':=by simpa using b_9 Array.toList d1
 subst this;exact r.inj r'
end
abbrev Cx.wish(X:Cx)(E:Aa->Ac->Prop):Cx:={ X with xe:=E }
abbrev Cx.nox(X:Cx):Cx:=X.wish λ_ _=>False
theorem Cx.Ok.wish{X:Cx}(ok:X.Ok)(E:Aa->Ac->Prop):(X.wish E).Ok:=
 ⟨ok.mod,ok.kind,ok.glob,ok.blt,ok.above,ok.inj,ok.has,ok.cab,ok.hd,ok.frames,ok.stk,ok.exf,ok.bs,ok.bsz,ok.noex,ok.exfs,ok.funs,ok.frf⟩
theorem Cx.Ok.unwish{X:Cx}{E:Aa->Ac->Prop}(ok:(X.wish E).Ok):X.Ok:=
 ⟨ok.mod,ok.kind,ok.glob,ok.blt,ok.above,ok.inj,ok.has,ok.cab,ok.hd,ok.frames,ok.stk,ok.exf,ok.bs,ok.bsz,ok.noex,ok.exfs,ok.funs,ok.frf⟩
section
variable{X:Cx}{pins:List (Addr × Obj)}{σ:St}{H:Hp}{s:Ac}{E:Aa->Ac->Prop}
theorem Inv.wish(I:Inv X pins σ H s)(E:Aa->Ac->Prop):Inv (X.wish E) pins σ H s:=⟨I.ok.wish E,I.os,I.bare,I.base,I.loc,I.cell,I.free,I.freeC,I.pin,I.hok,I.len⟩
theorem Inv.unwish(I:Inv (X.wish E) pins σ H s):Inv X pins σ H s:=⟨I.ok.unwish,I.os,I.bare,I.base,I.loc,I.cell,I.free,I.freeC,I.pin,I.hok,I.len⟩
theorem SP.unwish{D:Ends}{f:Flow}{s':Ac}(h:SP (X.wish E) pins D f s'):SP X pins D f s':=by
 cases f with
 |next=>obtain⟨σ',H',I,q⟩:=h;exact⟨σ',H',I.unwish,q⟩
 |brk=>obtain⟨σ',H',I,q⟩:=h;exact⟨σ',H',I.unwish,q⟩
 |cont=>obtain⟨σ',H',I,q⟩:=h;exact⟨σ',H',I.unwish,q⟩
 |ret u=>obtain⟨v,σ',H',I,r,q⟩:=h;exact⟨v,σ',H',I.unwish,r,q⟩
theorem PSs.nox{st:List Stmt}{t:TS}(h:PSs X.nox st t):PSs X st t:=λpins s σ H D I hw=>
 c_2 (h pins s σ H D (I.wish _) hw) (λ_ _ q=>q.unwish) λ_ _ z=>False.elim z
end
section
variable{X:Cx}{st:Stmt}{rest:List Stmt}{t u:TS}{e:Expr}{te:TE}{pos:Pos}
def tNext:TS:=λD σ H=>D.nx σ H
def tSeq(t u:TS):TS:=λD σ H=>t { D with nx:=u D } σ H
theorem a9_:PSs X [] tNext:=λ_ _ σ H _ I h=>wpAny_execs_nil ⟨σ,H,I,h⟩
theorem a3_(h1:PS X st t)(h2:PSs X rest u):PSs X (st::rest) (tSeq t u):=by
 intro pins s σ H D I h;refine wpAny_execs_cons (thn (h1 pins s σ H { D with nx:=u D } I h) λf s1 q=>?_);cases f with
 |next=>
  obtain⟨σ',H',I',q⟩:=q;exact h2 pins s1 σ' H' D I' q
 |ret v=>exact q
 |brk=>exact q
 |cont=>exact q
theorem a4_(h1:PS X st t):PSs X [st] t:=by
 intro pins s σ H D I h;refine wpAny_execs_cons (thn (h1 pins s σ H D I h) λf s1 q=>?_);cases f with
 |next=>exact wpAny_execs_nil q
 |ret v=>exact q
 |brk=>exact q
 |cont=>exact q
theorem Inv.quiet{pins:List (Addr × Obj)}{σ:St}{H:Hp}{s:Ac}(I:Inv X pins σ H s):interactive X.env=false:=by simp[interactive,I.ok.kind]
def tDrop(te:TE):TS:=λD σ H=>te σ H λ_ H1=>D.nx σ H1
theorem b8_(he:PE X e te)(hs:swapsWith e none pos.line X.env=pure false:=by rfl):PS X (.Expr e pos) (tDrop te):=by
 intro pins s σ H D I h;exact wpAny_Expr_any (thn (he pins s σ H _ I h) λv s1 ⟨x,H1,I1,r1,q1⟩=>⟨σ,H1,I1,q1⟩) I.quiet hs
def tRet(te:TE):TS:=λD σ H=>te σ H D.rt
theorem a8_(he:PE X e te):PS X (.Return (some e) pos) (tRet te):=by
 intro pins s σ H D I h;exact wpAny_Return_some (thn (he pins s σ H _ I h) λv s1 ⟨x,H1,I1,r1,q1⟩=>⟨x,σ,H1,I1,r1,q1⟩)
def tIfS(c:TT)(t u:TS):TS:=λD σ H=>c σ H λb H1=>if b=true then t D σ H1 else u D σ H1
theorem al_{c:Expr}{a b:List Stmt}{tc:TT}(hc:PT X c tc)(ha:PSs X a t)(hb:PSs X b u):PS X (.If c a b pos) (tIfS tc t u):=by
 intro pins s σ H D I h;refine wpAny_If (thn (hc pins s σ H _ I h) λd s1 ⟨H1,I1,q1⟩=>?_);cases d with
 |true=>exact ha pins s1 σ H1 D I1 q1
 |false=>exact hb pins s1 σ H1 D I1 q1
def tNever:TS:=λ_ _ _=>False
theorem dy_:PS X st tNever:=λ_ _ _ _ _ _ h=>h.elim
theorem ah_{sts:List Stmt}:PSs X sts tNever:=λ_ _ _ _ _ _ h=>h.elim
end
abbrev TG:=V->St->Hp->(St->Hp->Prop)->Prop
abbrev TGs:=List V->St->Hp->(St->Hp->Prop)->Prop
def PG(X:Cx)(target:Expr)(t:TG):Prop:=
 ∀(pins:List (Addr × Obj)) (s:Ac) (σ:St) (H:Hp) (v:V) (u:Aa) (Q:St->Hp->Prop),Inv X pins σ H s->RelV v u->t v σ H Q->
  wpAny (model X.prog X.w) X.A (assign target X.env u) (λ_ s'=>∃σ' H',Inv X pins σ' H' s'/\Q σ' H') X.xe s
def PGs(X:Cx)(ts:List Expr)(t:TGs):Prop:=
 ∀(pins:List (Addr × Obj)) (s:Ac) (σ:St) (H:Hp) (vs:List V) (us:List Aa) (Q:St->Hp->Prop),Inv X pins σ H s->Vals vs us->t vs σ H Q->
  wpAny (model X.prog X.w) X.A (assignInOrder ((assignEach ts X.env).map (·.2)) us) (λ_ s'=>∃σ' H',Inv X pins σ' H' s'/\Q σ' H') X.xe s
abbrev TSet:=V->V->V->Hp->(Hp->Prop)->Prop
def PSet(X:Cx)(t:TSet):Prop:=
 ∀(pins:List (Addr × Obj)) (s:Ac) (σ:St) (H:Hp) (o i v:V) (ov iv u:Aa) (Q:Hp->Prop),Inv X pins σ H s->RelV o ov->RelV i iv->RelV v u->t o i v H Q->
  wpAny (model X.prog X.w) X.A (setItem ov iv u) (λ_ s'=>∃H',Inv X pins σ H' s'/\Q H') X.xe s
section
variable{X:Cx}{pos:Pos}
def b4'(i:Nat):TG:=λv σ H Q=>Q (σ.set i (some v)) H
theorem ac_{i:Nat}{x:Str}(hN:X.N.Nodup)(hi:X.N[i]? = some x)(hx:Loc X.env.scope x)(hf:X.fn x=true∨X.env.scope.names.lookup x=some .local:=by first|exact .inl rfl|exact .inr rfl|assumption):PG X (.Name x pos) (b4' i):=by
 intro pins s σ H v u Q I r h;exact wpAny_assign_Name (fi_ I hN hi hx r (λs' I'=>⟨_,H,I',h⟩) hf)
def gNil:TGs:=λvs σ H Q=>vs=[]/\Q σ H
inductive cA' (t:TG) (u:TGs) (vs:List V) (σ:St) (H:Hp) (Q:St->Hp->Prop):Prop
 |mk:∀v r,vs=v::r->(t v σ H λσ' H'=>u r σ' H' Q)->cA' t u vs σ H Q
theorem bc_:PGs X [] gNil:=by
 intro pins s σ H vs us Q I r h;obtain⟨e,h⟩:=h;subst e;cases r;exact assignInOrder_nil ⟨σ,H,I,h⟩
theorem aq_{e:Expr}{es:List Expr}{t:TG}{u:TGs}(h1:PG X e t)(h2:PGs X es u)
  (hs:(assignEach (e::es) X.env).map (·.2)=assign e X.env::(assignEach es X.env).map (·.2):=by rfl):PGs X (e::es) (cA' t u):=by
 intro pins s σ H vs us Q I r h;obtain⟨v,vr,e1,h⟩:=h;subst e1;cases r with
 |cons r rr=>
  rw[hs];refine assignInOrder_cons (thn (h1 pins s σ H _ _ _ I r h) λ_ s1 ⟨σ1,H1,I1,q1⟩=>?_);exact h2 pins s1 σ1 H1 _ _ Q I1 rr q1
inductive gTup (K:F__) (n:Nat) (t:TGs) (v:V) (σ:St) (H:Hp) (Q:St->Hp->Prop):Prop
 |mk:∀a xs,v=.ref a->SqT K H a xs->xs.length=n->t xs σ H Q->gTup K n t v σ H Q
theorem bR_{es:List Expr}{k:Nat}{t:TGs}{n:Nat}(hc:X.calm=true)(h:PGs X es t)
  (hn:(assignEach es X.env).length=n:=by rfl) (hst:(assignEach es X.env).findIdx? (·.1)=none:=by rfl):PG X (.Tuple es k pos) (gTup X.K n t):=by
 intro pins s σ H v u Q I r hw;obtain⟨a,xs,e1,hq,hl,hw⟩:=hw;subst e1;cases r;obtain⟨its,rv,ht,hz⟩:=I.tuple hq;refine assign_Tuple_tuple (I.ok.hd hc) ht (by simp[hn,<- hl,rv.length]) hst λh' hx=>?_;have I1:Inv X pins σ H { s with heap:=h' }:=I.kept (t':=s.toks) λb o e=>hx b o (ap' (a_5 e)) e;exact h pins _ σ H xs _ Q I1 (by simpa using rv) hw
def gSub(to ti:TE)(t:TSet):TG:=λv σ H Q=>to σ H λo H1=>ti σ H1 λi H2=>t o i v H2 λH3=>Q σ H3
theorem iU_{o i:Expr}{to ti:TE}{t:TSet}(ho:PE X o to)(hi:PE X i ti)(hs:PSet X t)
  (ha:∀v,assign (.Subscript o i pos) X.env v=(do
   let ov <- holding [v] (eval o X.env)
   let iv <- holding [v,ov] (eval i X.env)
   standAt pos
   holding [v,ov,iv] (setItem ov iv v)
   release [v,ov,iv] []):=by intro _;rfl):PG X (.Subscript o i pos) (gSub to ti t):=by
 intro pins s σ H v u Q I r h;rw[ha];refine a__ (wpAny_holding (thn (ho pins s σ H _ I h) λov s1 ⟨x,H1,I1,r1,q1⟩=>?_));refine a__ (wpAny_holding (thn (hi pins s1 σ H1 _ I1 q1) λiv s2 ⟨y,H2,I2,r2,q2⟩=>?_));refine a__ (wpAny_standAt (a__ (wpAny_holding (thn (hs pins s2 σ H2 x y v ov iv u _ I2 r1 r2 r q2) λ_ s3 ⟨H3,I3,q3⟩=>?_))));exact wpAny_release ⟨σ,H3,I3,q3⟩
def tAsg(te:TE)(g:TG):TS:=λD σ H=>te σ H λx H1=>g x σ H1 D.nx
theorem h6_{tg e:Expr}{te:TE}{g:TG}(he:PE X e te)(hg:PG X tg g)(hs:swapsWithSole [tg] e pos.line X.env=pure false:=by rfl)(hw:swappedStores [tg] e X.env=pure none:=by rfl)
  (h1:(assignEach [tg] X.env).map (·.2)=[assign tg X.env]:=by rfl):PS X (.Assign [tg] e pos) (tAsg te g):=by
 intro pins s σ H D I h;refine wpAny_Assign_stores (thn (he pins s σ H _ I h) λv s1 ⟨x,H1,I1,r1,q1⟩=>?_) hs hw;rw[h1];exact thn (hg pins s1 σ H1 x v _ I1 r1 q1) λ_ s2 q=>q
theorem ad_{i:Nat}{x:Str}{e:Expr}{te:TE}{pos':Pos}(hN:X.N.Nodup)(hi:X.N[i]? = some x)(hx:Loc X.env.scope x)(he:PE X e te)(hs:swapsWith e (some (.Name x pos')) pos.line X.env=pure false:=by rfl)(hf:X.fn x=true∨X.env.scope.names.lookup x=some .local:=by first|exact .inl rfl|exact .inr rfl|assumption) :
  PS X (.Assign [.Name x pos'] e pos) (tAsg te (b4' i)):=by
 intro pins s σ H D I h;refine wpAny_Assign_Name (thn (he pins s σ H _ I h) λv s1 ⟨y,H1,I1,r1,q1⟩=>?_) hs;exact fi_ I1 hN hi hx r1 (λs2 I2=>⟨_,H1,I2,q1⟩) hf
end
section
variable{X:Cx}{pos:Pos}
def tWhile(c:TT)(tb:TS):TS:=λD σ H=>∃W:Nat->St->Hp->Prop,(∃m,W m σ H)/\∀m σ H,W m σ H->
 c σ H λb H1=>if b=true then ∃N:St->Hp->Prop,(∀σ' H',N σ' H'->∃m',m'<m/\W m' σ' H')/\tb { D with nx:=N,ct:=N,bk:=D.nx } σ H1 else D.nx σ H1
theorem hM_{c:Expr}{body:List Stmt}{tc:TT}{tb:TS}(hp:PassesOwn (model X.prog X.w) X.A X.env X.xe)(hc:PT X c tc)(hb:PSs X body tb):PS X (.While c body [] pos) (tWhile tc tb):=by
 intro pins s σ H D I h;obtain⟨W,⟨m0,w0⟩,turn⟩:=h;refine wpAny_While (codeAny_whileLoop (λn s'=>∃σ' H',Inv X pins σ' H' s'/\W n σ' H') ?_ m0 ⟨σ,H,I,w0⟩);rintro n s1 ⟨σ1,H1,I1,w1⟩;refine wpAny_passesOwn hp (thn (hc pins s1 σ1 H1 _ I1 (turn n σ1 H1 w1)) λb s2 ⟨H2,I2,q2⟩=>?_);cases b with
 |true=>
  obtain⟨N,hN,q2⟩:=q2;rw[a_9 rfl];refine wpAny_passesOwn hp (thn (hb pins s2 σ1 H2 _ I2 q2) λf s3 q3=>?_);cases f with
  |next=>
   obtain⟨σ3,H3,I3,n3⟩:=q3;obtain⟨m',hm,w3⟩:=hN σ3 H3 n3;exact⟨m',hm,σ3,H3,I3,w3⟩
  |cont=>
   obtain⟨σ3,H3,I3,n3⟩:=q3;obtain⟨m',hm,w3⟩:=hN σ3 H3 n3;exact⟨m',hm,σ3,H3,I3,w3⟩
  |brk=>exact q3
  |ret v=>exact q3
 |false=>
  rw[a_4 aq'];exact wpAny_execs_nil ⟨σ1,H2,I2,q2⟩
end
structure It where
 go:Nat->Hp->Prop
 yld:Nat->Hp->V->Hp->Prop
 stop:Nat->Hp->Prop
def FpOk(X:Cx)(pins:List (Addr × Obj))(H:Hp)(b:Addr):Prop:=
 H b=none/\b≠X.env.locals/\b∉X.fs/\(b∈X.ex∨X.s₀.heap.objs.size<=b)/\(∀x c,X.env.cells.lookup x=some c->c≠b)/\∀p∈X.pn++pins,p.1≠b
variable{σ:St}
theorem Inv.fpOk{X:Cx}{pins:List (Addr × Obj)}{H H':Hp}{s:Ac}(I:Inv X pins σ H s)(hb:s.heap.objs.size<=b)(hn:H' b=none):FpOk X pins H' b:=by
 refine⟨hn,a0' (ax' I.lt hb),I.nofs hb,.inr (aM' I.sz hb),λx c e z=>?_,λp hp z=>?_⟩
 ·obtain⟨v,q⟩:=I.cell x c e;exact absurd (ax' q.lt (by rw[z];exact hb)) (aZ' _)
 ·exact absurd (ax' (a_5 (I.pin p hp).1) (by rw[z];exact hb)) (aZ' _)
structure Turn (P:Ae) (w:Af) (K:F__) (tg:Expr) (J:It) (fp:List Addr) (it:Addr) (tn:Nat->Heap->Prop):Prop where
 mem:it∈fp
 obj:∀i h,tn i h->∀b∈fp,∃o,h.get? b=some o/\∀v,o.data≠.cell v
 keep:∀i h h',tn i h->(∀b∈fp,∀o,h.get? b=some o->h'.get? b=some o)->tn i h'
 item:∀(X:Cx),X.prog=P->X.w=w->X.K=K->X.calm=true->∀(i:Nat) (pins:List (Addr × Obj)) (s:Ac) (σ:St) (H:Hp) (E:Aa->Ac->Prop),Inv X pins σ H s->(∀b∈fp,FpOk X pins H b)->tn i s.heap->J.go i H->
  wpAny (model P w) X.A (pyNext (.ref it)) (λr s1=>∃u,r=some u /\
   wpAny (model P w) X.A (letOwnedTupleGo tg (.ref it) u) (λ_ s2=>∃x H',Inv X pins σ H' s2/\RelV x u/\J.yld i H x H'/\tn (i+1) s2.heap/\∀b∈fp,H' b=none) E s1) E s
 done:∀(X:Cx),X.prog=P->X.w=w->X.K=K->X.calm=true->∀(i:Nat) (pins:List (Addr × Obj)) (s:Ac) (σ:St) (H:Hp) (E:Aa->Ac->Prop),Inv X pins σ H s->(∀b∈fp,FpOk X pins H b)->tn i s.heap->J.stop i H->
  wpAny (model P w) X.A (pyNext (.ref it)) (λr s1=>r=none/\Inv X pins σ H s1) E s
 self:∀(A:Ag) (i:Nat) (s:Ac) (Q:Aa->Ac->Prop) (E:Aa->Ac->Prop),tn i s.heap->Q (.ref it) s->wpAny (model P w) A (pyIter (.ref it)) Q E s
abbrev TI:=St->Hp->(It->Hp->Prop)->Prop
def PIE(X:Cx)(pins:List (Addr × Obj))(σ:St)(tg:Expr)(R:It->Hp->Prop)(itv:Aa)(s2:Ac):Prop:=
 ∃(it:Addr) (fp:List Addr) (tn:Nat->Heap->Prop) (J:It) (H':Hp),itv=.ref it/\Inv X pins σ H' s2/\Turn X.prog X.w X.K tg J fp it tn/\tn 0 s2.heap/\(∀b∈fp,FpOk X pins H' b)/\R J H'
def PI(X:Cx)(tg iter:Expr)(wi:TI):Prop:=
 ∀(pins:List (Addr × Obj)) (s:Ac) (σ:St) (H:Hp) (R:It->Hp->Prop),Inv X pins σ H s->wi σ H R->
  wpAny (model X.prog X.w) X.A (eval iter X.env) (λv s1=>wpAny (model X.prog X.w) X.A (pyIter v) (PIE X pins σ tg R) X.xe s1) X.xe s
variable{u:Aa}{tg:Expr}
theorem gG_{A:Ag}{E:Aa->Ac->Prop}{s:Ac}{it:Addr}{n:String}{vs:Array Aa}{Q:Unit->Ac->Prop}(ho:s.heap.get? it=some o)(hc:o.cls=.type n)(hd:o.data=.fields vs)(hn:["enumerate","zip","dict_itemiterator","dict_reverseitemiterator","odict_iterator","itertools.zip_longest","itertools.pairwise"].contains n=false)(hQ:Q () s):wpAny M A (letOwnedTupleGo tg (.ref it) u) Q E s:=by
 unfold letOwnedTupleGo
 cases tg<;>first
  |exact a_6 hQ
  |(cases u<;>first
    |exact a_6 hQ
    |(refine a__ (wpAny_load ho ?_)
      rw[hc,hd];show wpAny M A (if (["enumerate","zip","dict_itemiterator","dict_reverseitemiterator","odict_iterator","itertools.zip_longest","itertools.pairwise"].contains n&&vs[0]? == some (rawInt _))=true then _ else _) Q E s;rw[a_4 (by intro h;rw[hn,Bool.false_and] at h;cases h)];exact a_6 hQ))
def Itl(K:F__)(a:Addr):It:=
 ⟨λi H=>∃xs x,SqL K H a xs/\xs[i]? = some x,λi H x H'=>H'=H/\∀xs,SqL K H a xs->xs[i]? = some x,λi H=>∃xs,SqL K H a xs/\xs.length<=i⟩
def Itr(lo:Int)(n:Nat):It:=⟨λi _=>i<n,λi H x H'=>H'=H/\x=.int (lo+i),λi _=>n<=i⟩
variable{w:Af}
theorem gH_{K:F__}(a it:Addr):Turn P w K tg (Itl K a) [it] it (λi h=>h.IsListIter it a i) where
 mem:=by simp
 obj:=λi h st b hb=>by
  have e:b=it:=by simpa using hb
  subst e;obtain⟨o,e,c,d⟩:=st;exact⟨o,e,λv z=>by rw[d] at z;cases z⟩
 keep:=λi h h' st k=>st.at λo e=>k it Z2 o e
 item:=by
  intro X hP hw hK hc i pins s σ H E I hf st hg;subst hP hw hK;obtain⟨xs,x,hq,hx⟩:=hg;obtain⟨its,rv,p,hz⟩:=I.list hq;obtain⟨u,hu,ru⟩:=rv.get hx;obtain⟨f0,f1,f2,f3,f4,f5⟩:=hf it Z2;refine wpAny_pyNext_list_item st p.isList (x:=u) (by simpa using hu) λh' st' sb=>?_;have I1:Inv X pins σ H { s with heap:=h' }:=I.turned (t':=s.toks) (λb o hb e=>(sb.2 b hb).trans e) f0 f1 f3 f4 f5;obtain⟨o,e,c,d⟩:=id st';exact⟨u,rfl,gG_ (s:={ s with heap:=h' }) e c d (by decide) ⟨x,H,I1,ru,⟨rfl,λys hy=>by rw[I.list_inj hy hq];exact hx⟩,st',λb hb=>(hf b hb).1⟩⟩
 done:=by
  intro X hP hw hK hc i pins s σ H E I hf st hg;subst hP hw hK;obtain⟨xs,hq,hx⟩:=hg;obtain⟨its,rv,p,hz⟩:=I.list hq;obtain⟨f0,f1,f2,f3,f4,f5⟩:=hf it Z2;have hl:=rv.length;exact wpAny_pyNext_list_end (I.ok.hd hc) st p.isList (by simp;omega) λh' eb=>⟨rfl,I.turned (t':=s.toks) (λb o hb e=>eb b o hb e) f0 f1 f3 f4 f5⟩
 self:=λ_ _ _ _ _ st h=>wpAny_pyIter_listiter st h
theorem fp_{K:F__}(it:Addr)(lo:Int)(n:Nat):Turn P w K tg (Itr lo n) [it] it (λi h=>IsRangeIter h it (lo+(i:Nat) * 1) ((n:Int) - (i:Nat)) 1) where
 mem:=by simp
 obj:=λi h st b hb=>by
  have e:b=it:=by simpa using hb
  subst e
  exact⟨_,st,λv z=>by
   have z':Data.fields _=Data.cell v:=z;cases z'⟩
 keep:=λi h h' st k=>k it Z2 _ st
 item:=by
  intro X hP hw hK hc i pins s σ H E I hf st hg;subst hP hw hK;obtain⟨f0,f1,f2,f3,f4,f5⟩:=hf it Z2;have W:=Walks.range (prog:=X.prog) (w:=X.w) (I.ok.hd hc) it lo 1 n;refine W.item i s _ _ hg st λv h' tk hv st' kk=>?_;obtain⟨t,rfl⟩:=hv;have I1:Inv X pins σ H { s with heap:=h',toks:=tk }:=I.turned (λb o hb e=>kk b o (by simpa using hb) e) f0 f1 f3 f4 f5;refine⟨_,rfl,gG_ (s:={ s with heap:=h',toks:=tk }) (n:="range_iterator") st' rfl rfl (by decide) ⟨.int (lo+i),H,I1,⟨t,?_⟩,⟨rfl,rfl⟩,st',λb hb=>(hf b hb).1⟩⟩;rw[Int.mul_one]
 done:=by
  intro X hP hw hK hc i pins s σ H E I hf st hg;subst hP hw hK;obtain⟨f0,f1,f2,f3,f4,f5⟩:=hf it Z2;exact wpAny_pyNext_range_end (I.ok.hd hc) st (by have:n<=i:=hg;omega) λh' eb=>⟨rfl,I.turned (t':=s.toks) (λb o hb e=>eb b o hb e) f0 f1 f3 f4 f5⟩
 self:=λ_ _ _ _ _ st h=>wpAny_pyIter_rangeiter st h
inductive iListR (K:F__) (R:It->Hp->Prop) (x:V) (H1:Hp):Prop
 |mk:∀a,x=.ref a->(∃xs,SqL K H1 a xs)->R (Itl K a) H1->iListR K R x H1
def iList(K:F__)(tl:TE):TI:=λσ H R=>tl σ H λx H1=>iListR K R x H1
variable{X:Cx}
theorem aj_{l:Expr}{tl:TE}(hl:PE X l tl):PI X tg l (iList X.K tl):=by
 intro pins s σ H R I h;refine thn (hl pins s σ H _ I h) λv s1 ⟨x,H1,I1,r1,q1⟩=>?_;obtain⟨a,e,⟨xs,hq⟩,q⟩:=q1;subst e;cases r1;obtain⟨its,rv,p,hz⟩:=I1.list hq;refine wpAny_pyIter_list p.isList ?_;refine⟨s1.heap.objs.size,[s1.heap.objs.size],_,_,H1,rfl,I1.kept (t':=s1.toks) λb o e=>a_0 _ e,gH_ a _,⟨_,a_1 _ rfl,rfl,rfl⟩,λb hb=>?_,q⟩;have e:b=s1.heap.objs.size:=by simpa using hb
 subst e;exact I1.fpOk (ai' _) (I1.hok.fresh (ai' _))
variable{pins:List (Addr × Obj)}
theorem io_{H:Hp}{s:Ac}{R:It->Hp->Prop}{E:Aa->Ac->Prop}{lo hi:Int}{t u v:Tok}{tk:Nat}(I:Inv X pins σ H s)(h1:-(2 ^ 62)<=lo)(h2:lo<2 ^ 62)(h3:-(2 ^ 62)<=hi)(h4:hi<2 ^ 62)(q:R (Itr lo (hi - lo).toNat) H):wpAny (model X.prog X.w) X.A (pyIter (.ref s.heap.objs.size)) (PIE X pins σ tg R) E { s with heap:=s.heap.push { cls:=.type "range",data:=.fields #[.int lo t,.int hi u,.int 1 v] },toks:=tk }:=by
 refine wpAny_pyIter_range (IsRange.new ..) (small_one h1 h2 h3 h4) ?_;have I1:Inv X pins σ H { s with heap:=s.heap.push { cls:=.type "range",data:=.fields #[.int lo t,.int hi u,.int 1 v] },toks:=tk }:=I.kept λb o e=>a_0 _ e
 refine⟨(s.heap.push { cls:=.type "range",data:=.fields #[.int lo t,.int hi u,.int 1 v] }).objs.size,[(s.heap.push { cls:=.type "range",data:=.fields #[.int lo t,.int hi u,.int 1 v] }).objs.size],_,_,H,rfl,
  I1.kept (t':=tk) λb o e=>a_0 _ e,fp_ _ lo (hi - lo).toNat,?_,λb hb=>?_,q⟩
 ·have e1:lo+((0:Nat):Int) * 1=lo:=by simp
  have e2:(((hi - lo).toNat:Nat):Int) - ((0:Nat):Int)=Builtin.Range.rangeSize lo hi 1:=by rw[rangeSize_one];split<;>omega
  show IsRangeIter _ _ (lo+((0:Nat):Int) * 1) ((((hi - lo).toNat:Nat):Int) - ((0:Nat):Int)) 1;rw[e1,e2];exact a_1 _ rfl
 ·have e:b=(s.heap.push { cls:=.type "range",data:=.fields #[.int lo t,.int hi u,.int 1 v] }).objs.size:=by simpa using hb
  subst e;exact I1.fpOk (ai' _) (I1.hok.fresh (ai' _))
inductive iRng1R (R:It->Hp->Prop) (vs:List V) (H1:Hp):Prop
 |mk:∀j:Int,vs=[.int j]->-(2 ^ 62)<=j->j<2 ^ 62->R (Itr 0 j.toNat) H1->iRng1R R vs H1
def iRng1(ta:TA):TI:=λσ H R=>ta σ H λvs H1=>iRng1R R vs H1
variable{p pos:Pos}
theorem e1_{a:Expr}{ta:TA}(hg:Gl X "range")(hm:X.mg "range"=none)(ha:PA X [a] ta)(hs:starEach [a] X.env=[(false,eval a X.env)]:=by rfl):PI X tg (.Call (.Name "range" p) [a] [] pos) (iRng1 ta):=by
 intro pins s σ H R I h;refine Call_ (cH_ I hg hm boot_range (PyProof.Rows.callWith_type1 (thn (ha pos pins s σ H _ I h) λus s1 ⟨vs,H1,I1,r1,q1⟩=>?_) hs rfl));obtain⟨j,e,q1,q2,q⟩:=q1;subst e;cases r1 with
 |cons r rr=>
  cases rr;obtain⟨t,rfl⟩:=r;exact call_range_1 (io_ I1 Z1 Z1 q1 q2 (by simpa using q))
def tFor(wi:TI)(g:TG)(tb:TS):TS:=λD σ H=>wi σ H λJ H1=>∃W:Nat->Nat->St->Hp->Prop,(∃m,W 0 m σ H1)/\∀i m σ H,W i m σ H->
 (J.stop i H/\D.nx σ H)∨(J.go i H/\∃N:St->Hp->Prop,(∀σ' H',N σ' H'->∃m',m'<m/\W (i+1) m' σ' H')/\∀x H',J.yld i H x H'->g x σ H' λσ2 H2=>tb { D with nx:=N,ct:=N,bk:=D.nx } σ2 H2)
def bU'(fp:List Addr)(h:Heap):List (Addr × Obj):=fp.filterMap λb=>(h.get? b).map λo=>(b,o)
variable{fp:List Addr}
theorem bz_(hb:b∈fp)(e:h.get? b=some o):(b,o)∈bU' fp h:=aF'.mpr ⟨b,hb,by rw[e];rfl⟩
theorem gP_{p:Addr × Obj}(hp:p∈bU' fp h):p.1∈fp/\h.get? p.1=some p.2:=by
 obtain⟨b,hb,e⟩:=aF'.mp hp;cases q:h.get? b with
 |none=>rw[q] at e;cases e
 |some o=>
  rw[q] at e;have e':(b,o)=p:=a_8 e;subst e';exact⟨hb,q⟩
theorem Inv.pinned{H:Hp}{s:Ac}(I:Inv X pins σ H s)(hf:∀b∈fp,FpOk X pins H b)(ho:∀b∈fp,∃o,s.heap.get? b=some o/\∀v,o.data≠.cell v):Inv X (pins++bU' fp s.heap) σ H s:=
 I.pins_of λp hp=>(au'.mp hp).elim (λz=>I.pin p (ay' _ z)) λz=>by
  obtain⟨hb,e⟩:=gP_ z;obtain⟨f0,f1,f2,_⟩:=hf p.1 hb;obtain⟨o,e',d⟩:=ho p.1 hb;rw[e] at e';cases e';exact⟨e,f0,f1,f2,d⟩
theorem Inv.unpinned{pl:List (Addr × Obj)}{H:Hp}{s:Ac}(I:Inv X (pins++pl) σ H s):Inv X pins σ H s:=I.pins_of λp hp=>I.pin p (ay' _ (List.mem_append_left _ hp))
variable{body:List Stmt}{tb:TS}
theorem aV_{iter:Expr}{wi:TI}{g:TG}(hp:PassesOwn (model X.prog X.w) X.A X.env X.xe)(hc:X.calm=true)(hi:PI X tg iter wi)(hg:PG X tg g)(hb:PSs X body tb)(hs:∀x,foldedSetIterable iter X.env x=pure x:=by intro _;rfl):PS X (.For tg iter body [] pos) (tFor wi g tb):=by
 intro pins s σ H D I h;refine wpAny_For (thn (hi pins s σ H _ I h) λv s1 h1=>thn h1 λitv s2 h2=>?_) hs;obtain⟨it,fp,tn,J,H2,e,I2,T,st2,f2,W,⟨m0,w0⟩,turn⟩:=h2;subst e;have stat:∀{H':Hp},(∀b∈fp,H' b=none)->∀b∈fp,FpOk X pins H' b:=λhn b hb=>⟨hn b hb,(f2 b hb).2⟩;refine codeAny_forLoop_any (λn s'=>∃i σ' H',Inv X pins σ' H' s'/\tn i s'.heap/\(∀b∈fp,H' b=none)/\W i n σ' H') ?_ m0 ⟨0,σ,H2,I2,st2,λb hb=>(f2 b hb).1,w0⟩;rintro n s3 ⟨i,σ3,H3,I3,st3,fr3,w3⟩;rcases turn i n σ3 H3 w3 with⟨stop,qn⟩|⟨go,N,hN,step⟩
 ·refine wpAny_passesOwn hp (thn (T.done X rfl rfl rfl hc i pins s3 σ3 H3 X.xe I3 (stat fr3) st3 stop) λr s4 ⟨hr,I4⟩=>?_);subst hr;exact wpAny_execs_nil ⟨σ3,H3,I4,qn⟩
 ·refine wpAny_passesOwn hp (thn (T.item X rfl rfl rfl hc i pins s3 σ3 H3 X.xe I3 (stat fr3) st3 go) λr s4 ⟨u,hr,h4⟩=>?_);subst hr;refine wpAny_passesOwn hp (thn h4 λ_ s5 ⟨x,H5,I5,r5,y5,st5,fr5⟩=>?_);have I5':=I5.pinned (stat fr5) (T.obj _ _ st5);refine wpAny_passesOwn hp (thn (hg _ s5 σ3 H5 x u _ I5' r5 (step x H5 y5)) λ_ s6 ⟨σ6,H6,I6,q6⟩=>?_);refine wpAny_passesOwn hp (thn (hb _ s6 σ6 H6 _ I6 q6) λf s7 q7=>?_)
  have again:∀{σ7:St} {H7:Hp},Inv X (pins++bU' fp s5.heap) σ7 H7 s7->N σ7 H7->∃m,m<n/\∃i σ' H',Inv X pins σ' H' s7/\tn i s7.heap/\(∀b∈fp,H' b=none)/\W i m σ' H':=λ{σ7 H7} I7 n7=>by
   obtain⟨m',hm,w7⟩:=hN σ7 H7 n7;refine⟨m',hm,i+1,σ7,H7,I7.unpinned,T.keep _ _ _ st5 λb hb o e=>(I7.pin (b,o) (ay' _ (ay' _ (bz_ hb e)))).1,λb hb=>?_,w7⟩;obtain⟨o,e,d⟩:=T.obj _ _ st5 b hb;exact (I7.pin (b,o) (ay' _ (ay' _ (bz_ hb e)))).2.1
  cases f with
  |next=>obtain⟨σ7,H7,I7,n7⟩:=q7;exact again I7 n7
  |cont=>obtain⟨σ7,H7,I7,n7⟩:=q7;exact again I7 n7
  |brk=>obtain⟨σ7,H7,I7,q7⟩:=q7;exact⟨σ7,H7,I7.unpinned,q7⟩
  |ret v=>obtain⟨x7,σ7,H7,I7,r7,q7⟩:=q7;exact⟨x7,σ7,H7,I7.unpinned,r7,q7⟩
theorem aH_{K:F__}{xs:List V}{g:TG}{D:Ends}{H:Hp}(Pv:Nat->St->Hp->Prop)(h0:Pv 0 σ H)(hl:∀i σ H,i<=xs.length->Pv i σ H->SqL K H a xs)(hs:∀i x σ H,xs[i]? = some x->Pv i σ H->g x σ H λσ2 H2=>tb { D with nx:=Pv (i+1),ct:=Pv (i+1),bk:=D.nx } σ2 H2)(hd:∀σ H,Pv xs.length σ H->D.nx σ H) :
  ∃W:Nat->Nat->St->Hp->Prop,(∃m,W 0 m σ H)/\∀i m σ H,W i m σ H->
   ((Itl K a).stop i H/\D.nx σ H)∨((Itl K a).go i H/\∃N:St->Hp->Prop,(∀σ' H',N σ' H'->∃m',m'<m/\W (i+1) m' σ' H')/\∀x H',(Itl K a).yld i H x H'->g x σ H' λσ2 H2=>tb { D with nx:=N,ct:=N,bk:=D.nx } σ2 H2):=by
 refine⟨λi m σ H=>m=xs.length - i/\i<=xs.length/\Pv i σ H,⟨xs.length,by simp,aD' _,h0⟩,?_⟩;rintro i m σ H ⟨rfl,hi,p⟩;have q:=hl i σ H hi p;by_cases hlt:i<xs.length
 ·refine .inr ⟨⟨xs,xs[i],q,by simp[hlt]⟩,Pv (i+1),λσ' H' p'=>⟨xs.length - (i+1),by omega,rfl,hlt,p'⟩,λx H' y=>?_⟩;obtain⟨e,y⟩:=y;subst e;exact hs i x σ _ (y xs q) p
 ·have e:i=xs.length:=by omega
  subst e;exact .inl ⟨⟨xs,q,ai' _⟩,hd σ H p⟩
variable{n:Nat}
theorem dN_{lo:Int}{g:TG}{D:Ends}{H:Hp}(Pv:Nat->St->Hp->Prop)(h0:Pv 0 σ H)(hs:∀i σ H,i<n->Pv i σ H->g (.int (lo+i)) σ H λσ2 H2=>tb { D with nx:=Pv (i+1),ct:=Pv (i+1),bk:=D.nx } σ2 H2)(hd:∀σ H,Pv n σ H->D.nx σ H) :
  ∃W:Nat->Nat->St->Hp->Prop,(∃m,W 0 m σ H)/\∀i m σ H,W i m σ H->
   ((Itr lo n).stop i H/\D.nx σ H)∨((Itr lo n).go i H/\∃N:St->Hp->Prop,(∀σ' H',N σ' H'->∃m',m'<m/\W (i+1) m' σ' H')/\∀x H',(Itr lo n).yld i H x H'->g x σ H' λσ2 H2=>tb { D with nx:=N,ct:=N,bk:=D.nx } σ2 H2):=by
 refine⟨λi m σ H=>m=n - i/\i<=n/\Pv i σ H,⟨n,by simp,aD' _,h0⟩,?_⟩;rintro i m σ H ⟨rfl,hi,p⟩;by_cases hlt:i<n
 ·refine .inr ⟨hlt,Pv (i+1),λσ' H' p'=>⟨n - (i+1),by omega,rfl,hlt,p'⟩,λx H' y=>?_⟩;obtain⟨e,y⟩:=y;subst e y;exact hs i σ _ hlt p
 ·have e:i=n:=by omega
  subst e;exact .inl ⟨ai' _,hd σ H p⟩
theorem is_{c:TT}{D:Ends}{H:Hp}(Pv:St->Hp->Prop)(μ:St->Hp->Nat)(h0:Pv σ H)(hs:∀σ H,Pv σ H->c σ H λb H1=>if b=true then tb { D with nx:=λσ' H'=>Pv σ' H'/\μ σ' H'<μ σ H,ct:=λσ' H'=>Pv σ' H'/\μ σ' H'<μ σ H,bk:=D.nx } σ H1 else D.nx σ H1)(mono:∀σ H Q Q',(∀b H1,Q b H1->Q' b H1)->c σ H Q->c σ H Q'):tWhile c tb D σ H:=by
 refine⟨λm σ H=>m=μ σ H/\Pv σ H,⟨_,rfl,h0⟩,?_⟩;rintro m σ H ⟨rfl,p⟩;refine mono σ H _ _ (λb H1 q=>?_) (hs σ H p);cases b with
 |true=>exact⟨_,λσ' H' ⟨p',l⟩=>⟨_,l,rfl,p'⟩,q⟩
 |false=>exact q
abbrev R2:=V->V->Hp->VK->Prop
def OpR(X:Cx)(f:Aa->Aa->Sem Aa)(r:R2):Prop:=
 ∀(pins:List (Addr × Obj)) (s:Ac) (σ:St) (H:Hp) (x y:V) (v u:Aa) (Q:VK),Inv X pins σ H s->RelV x v->RelV y u->r x y H Q->
  wpAny (model X.prog X.w) X.A (f v u) (EP X pins σ Q) X.xe s
def UnR(X:Cx)(f:Aa->Sem Aa)(r:V->Hp->VK->Prop):Prop:=
 ∀(pins:List (Addr × Obj)) (s:Ac) (σ:St) (H:Hp) (x:V) (v:Aa) (Q:VK),Inv X pins σ H s->RelV x v->r x H Q->
  wpAny (model X.prog X.w) X.A (f v) (EP X pins σ Q) X.xe s
def bp'(X:Cx)(f:Aa)(r:List V->Hp->VK->Prop):Prop:=
 ∀(pins:List (Addr × Obj)) (s:Ac) (σ:St) (H:Hp) (xs:List V) (us:List Aa) (Q:VK),Inv X pins σ H s->Vals xs us->r xs H Q->
  wpAny (model X.prog X.w) X.A (call f us) (EP X pins σ Q) X.xe s
def tOp(r:R2)(ta tb:TE):TE:=λσ H Q=>ta σ H λx H1=>tb σ H1 λy H2=>r x y H2 Q
def tUn(r:V->Hp->VK->Prop)(ta:TE):TE:=λσ H Q=>ta σ H λx H1=>r x H1 Q
inductive rI (C:Int->Int->Prop) (g:Int->Int->V) (x:V) (y:V) (H:Hp) (Q:VK):Prop
 |mk:∀i j,x=.int i->y=.int j->C i j->Q (g i j) H->rI C g x y H Q
inductive rI0 (g:Int->Int->V) (x:V) (y:V) (H:Hp) (Q:VK):Prop
 |mk:∀i j,x=.int i->y=.int j->Q (g i j) H->rI0 g x y H Q
inductive rU (g:Int->V) (x:V) (H:Hp) (Q:VK):Prop
 |mk:∀i,x=.int i->Q (g i) H->rU g x H Q
section
variable{X:Cx}{a b c:Expr}{ta tb tc:TE}{pos:Pos}
theorem binT(ha:PE X a ta)(hb:PE X b tb){s:Ac}{H:Hp}{R:V->V->Hp->Prop}(I:Inv X pins σ H s)(h:ta σ H λx H1=>tb σ H1 λy H2=>R x y H2){Q:Aa->Ac->Prop}{f:Aa->Aa->Sem Aa}(hf:∀v u s2 x y H2,Inv X pins σ H2 s2->RelV x v->RelV y u->R x y H2->wpAny (model X.prog X.w) X.A (f v u) Q X.xe s2) :
  wpAny (model X.prog X.w) X.A (eval a X.env) (λv s₁=>wpAny (model X.prog X.w) X.A (eval b X.env) (λu s₂=>wpAny (model X.prog X.w) X.A (f v u) Q X.xe s₂) X.xe s₁) X.xe s:=by
 refine thn (ha pins s σ H _ I h) λv s1 ⟨x,H1,I1,r1,q1⟩=>?_;refine thn (hb pins s1 σ H1 _ I1 q1) λu s2 ⟨y,H2,I2,r2,q2⟩=>?_;exact hf v u s2 x y H2 I2 r1 r2 q2
theorem am_{op:Operator}{r:R2}(ho:OpR X (binaryOp op) r)(ha:PE X a ta)(hb:PE X b tb):PE X (.BinOp a op b pos) (tOp r ta tb):=by
 intro pins s σ H Q I h;exact wpAny_BinOp (binT ha hb I h λv u s2 x y H2 I2 rx ry q=>ho pins s2 σ H2 x y v u Q I2 rx ry q)
theorem jG_{op:UnaryOp}{r:V->Hp->VK->Prop}(ho:UnR X (unaryOp op) r)(ha:PE X a ta):PE X (.UnaryOp op a pos) (tUn r ta):=by
 intro pins s σ H Q I h;exact UnaryOp_ (thn (ha pins s σ H _ I h) λv s1 ⟨x,H1,I1,r1,q1⟩=>ho pins s1 σ H1 x v Q I1 r1 q1)
theorem opI{f:Aa->Aa->Sem Aa}{C:Int->Int->Prop}{g:Int->Int->Int}
  (rule:∀(i j:Int) (t u:Tok) (s:Ac) (Q:Aa->Ac->Prop) (E:Aa->Ac->Prop),C i j->Q (.int (g i j) s.toks) { s with toks:=s.toks+1 }->wpAny (model X.prog X.w) X.A (f (.int i t) (.int j u)) Q E s) :
  OpR X f (rI C λi j=>.int (g i j)):=by
 intro pins s σ H x y v u Q I rx ry h;obtain⟨i,j,rfl,rfl,hc,q⟩:=h;obtain⟨t,rfl⟩:=rx;obtain⟨t',rfl⟩:=ry;exact rule i j t t' s _ _ hc ⟨.int (g i j),H,I.tok _,⟨_,rfl⟩,q⟩
theorem opI0{f:Aa->Aa->Sem Aa}{g:Int->Int->Int}
  (rule:∀(i j:Int) (t u:Tok) (s:Ac) (Q:Aa->Ac->Prop) (E:Aa->Ac->Prop),Q (.int (g i j) s.toks) { s with toks:=s.toks+1 }->wpAny (model X.prog X.w) X.A (f (.int i t) (.int j u)) Q E s) :
  OpR X f (rI0 λi j=>.int (g i j)):=by
 intro pins s σ H x y v u Q I rx ry h;obtain⟨i,j,rfl,rfl,q⟩:=h;obtain⟨t,rfl⟩:=rx;obtain⟨t',rfl⟩:=ry;exact rule i j t t' s _ _ ⟨.int (g i j),H,I.tok _,⟨_,rfl⟩,q⟩
theorem opB0{f:Aa->Aa->Sem Aa}{g:Int->Int->Bool}
  (rule:∀(i j:Int) (t u:Tok) (s:Ac) (Q:Aa->Ac->Prop) (E:Aa->Ac->Prop),Q (.bool (g i j)) s->wpAny (model X.prog X.w) X.A (f (.int i t) (.int j u)) Q E s) :
  OpR X f (rI0 λi j=>.bl (g i j)):=by
 intro pins s σ H x y v u Q I rx ry h;obtain⟨i,j,rfl,rfl,q⟩:=h;obtain⟨t,rfl⟩:=rx;obtain⟨t',rfl⟩:=ry;exact rule i j t t' s _ _ ⟨.bl (g i j),H,I,rfl,q⟩
def CDiv(i j:Int):Prop:=0<j/\j<1073741824
def CPow(i j:Int):Prop:=0<=j/\j<=1000000/\i.natAbs<2 ^ 64
def CMul(i j:Int):Prop:=(-(2 ^ 64)<i/\i<2 ^ 64)∨(-(2 ^ 64)<j/\j<2 ^ 64)
theorem CMul.ok{i j:Int}(h:CMul i j):IntMulOk i j:=by
 rcases h with⟨h1,h2⟩|⟨h1,h2⟩
 ·exact .of_left (intBits_le_64 h1 h2)
 ·exact .of_right (intBits_le_64 h1 h2)
theorem bh_:OpR X (binaryOp .Add) (rI0 λi j=>.int (i+j)):=opI0 λ_ _ _ _ _ _ _ q=>add_int q
theorem bM_:OpR X (binaryOp .Sub) (rI0 λi j=>.int (i - j)):=opI0 λ_ _ _ _ _ _ _ q=>sub_int q
theorem aT_:OpR X (binaryOp .Mult) (rI CMul λi j=>.int (i * j)):=opI λ_ _ _ _ _ _ _ hc q=>mul_int q hc.ok
theorem bd_:OpR X (binaryOp .FloorDiv) (rI CDiv λi j=>.int (i / j)):=opI λi j _ _ _ _ _ hc q=>by
 have h1:(0:Int)<j:=hc.1;have h2:j<1073741824:=hc.2;exact floordiv_int Z1 (by rw[Int.fdiv_eq_ediv_of_nonneg i Z1];exact q) (.inl (PyProof.noPylong_small Z1))
theorem bU_:OpR X (binaryOp .Mod) (rI (λ_ j=>0<j) λi j=>.int (i % j)):=opI λi j _ _ _ _ _ hc q=>by
 have h1:(0:Int)<j:=hc;exact mod_int' Z1 (by rw[Int.fmod_eq_emod_of_nonneg i Z1];exact q)
theorem iV_:OpR X (binaryOp .Pow) (rI CPow λi j=>.int (i ^ j.toNat)):=opI λ_ _ _ _ _ _ _ hc q=>pow_int_small hc.1 hc.2.1 hc.2.2 q
theorem unI{f:Aa->Sem Aa}{g:Int->Int}
  (rule:∀(i:Int) (t:Tok) (s:Ac) (Q:Aa->Ac->Prop) (E:Aa->Ac->Prop),Q (.int (g i) s.toks) { s with toks:=s.toks+1 }->wpAny (model X.prog X.w) X.A (f (.int i t)) Q E s) :
  UnR X f (rU λi=>.int (g i)):=by
 intro pins s σ H x v Q I rx h;obtain⟨i,rfl,q⟩:=h;obtain⟨t,rfl⟩:=rx;exact rule i t s _ _ ⟨.int (g i),H,I.tok _,⟨_,rfl⟩,q⟩
theorem ha_:UnR X (unaryOp .USub) (rU λi=>.int (-i)):=unI λ_ _ _ _ _ q=>neg_int q
end
def scal:V->V->Bool
 |.non,.non=>true | .non,.int _=>true | .int _,.non=>true | .non,.bl _=>true | .bl _,.non=>true | .non,.str _=>true | .str _,.non=>true
 |.int _,.int _=>true | .bl _,.bl _=>true | .str _,.str _=>true | .byt _,.byt _=>true
 |.int _,.str _=>true | .str _,.int _=>true | .bl _,.str _=>true | .str _,.bl _=>true
 |_,_=>false
def rEq:R2:=λx y H Q=>scal x y=true/\Q (.bl (decide (x=y))) H
def rNe:R2:=λx y H Q=>scal x y=true/\Q (.bl (!decide (x=y))) H
theorem ga_{i j:Int}:decide (V.int i=V.int j)=(i == j):=by
 rw[Bool.eq_iff_iff];simp
theorem j1_{i j:Bool}:decide (V.bl i=V.bl j)=(i == j):=by
 rw[Bool.eq_iff_iff];simp
theorem gZ_{i j:Str}:decide (V.str i=V.str j)=(i == j):=by
 rw[Bool.eq_iff_iff];simp
theorem gY_{i j:Array UInt8}:decide (V.byt i=V.byt j)=(i.toList == j.toList):=by
 rw[Bool.eq_iff_iff];cases i;cases j;simp
section
variable{X:Cx}{a b c:Expr}{ta tb tc:TE}{pos:Pos}
theorem aD_{H:Hp}{s:Ac}{Q:VK}{k k':Bool}(I:Inv X pins σ H s)(q:Q (.bl k) H)(e:k=k'):EP X pins σ Q (.bool k') s:=by
 subst e;exact⟨.bl k,H,I,rfl,q⟩
theorem b9_:OpR X (compareOp .Eq) rEq:=by
 intro pins s σ H x y v u Q I rx ry h;obtain⟨hs,q⟩:=h;cases x with
 |non=>
  cases rx;cases y with
  |non=>cases ry;exact PySem.EqNone.eq_none_none (aD_ I q Z2)
  |bl j=>cases ry;exact PySem.EqNone.eq_none_bool (aD_ I q Z2)
  |int j=>obtain⟨t',rfl⟩:=ry;exact PySem.EqNone.eq_none_int (aD_ I q Z2)
  |str j=>obtain⟨t',rfl⟩:=ry;exact PySem.EqNone.eq_none_str (aD_ I q Z2)
  |_=>exact absurd (show false=true from hs) aq'
 |bl i=>
  cases rx;cases y with
  |non=>cases ry;exact PySem.EqNone.eq_bool_none (aD_ I q Z2)
  |bl j=>cases ry;exact eq_bool (aD_ I q j1_)
  |str j=>obtain⟨t',rfl⟩:=ry;exact PySem.EqMixed.eq_bool_str (aD_ I q Z2)
  |_=>exact absurd (show false=true from hs) aq'
 |int i=>
  obtain⟨t,rfl⟩:=rx;cases y with
  |non=>cases ry;exact PySem.EqNone.eq_int_none (aD_ I q Z2)
  |int j=>obtain⟨t',rfl⟩:=ry;exact eq_int (aD_ I q ga_)
  |str j=>obtain⟨t',rfl⟩:=ry;exact PySem.EqMixed.eq_int_str (aD_ I q Z2)
  |_=>exact absurd (show false=true from hs) aq'
 |str i=>
  obtain⟨t,rfl⟩:=rx;cases y with
  |non=>cases ry;exact PySem.EqNone.eq_str_none (aD_ I q Z2)
  |bl j=>cases ry;exact PySem.EqMixed.eq_str_bool (aD_ I q Z2)
  |int j=>obtain⟨t',rfl⟩:=ry;exact PySem.EqMixed.eq_str_int (aD_ I q Z2)
  |str j=>obtain⟨t',rfl⟩:=ry;exact eq_str (aD_ I q gZ_)
  |_=>exact absurd (show false=true from hs) aq'
 |byt i=>
  obtain⟨t,rfl⟩:=rx;cases y with
  |byt j=>obtain⟨t',rfl⟩:=ry;exact PySem.W.eq_bytes (aD_ I q gY_)
  |_=>exact absurd (show false=true from hs) aq'
 |_=>cases y<;>exact absurd (show false=true from hs) aq'
theorem df_:OpR X (compareOp .NotEq) rNe:=by
 intro pins s σ H x y v u Q I rx ry h;obtain⟨hs,q⟩:=h;cases x with
 |non=>
  cases rx;cases y with
  |non=>cases ry;exact PySem.EqNone.ne_none_none (aD_ I q Z2)
  |bl j=>cases ry;exact PySem.EqNone.ne_none_bool (aD_ I q Z2)
  |int j=>obtain⟨t',rfl⟩:=ry;exact PySem.EqNone.ne_none_int (aD_ I q Z2)
  |str j=>obtain⟨t',rfl⟩:=ry;exact PySem.EqNone.ne_none_str (aD_ I q Z2)
  |_=>exact absurd (show false=true from hs) aq'
 |bl i=>
  cases rx;cases y with
  |non=>cases ry;exact PySem.EqNone.ne_bool_none (aD_ I q Z2)
  |bl j=>cases ry;exact ne_bool (aD_ I q (b_9 not j1_))
  |str j=>obtain⟨t',rfl⟩:=ry;exact PySem.EqMixed.ne_bool_str (aD_ I q Z2)
  |_=>exact absurd (show false=true from hs) aq'
 |int i=>
  obtain⟨t,rfl⟩:=rx;cases y with
  |non=>cases ry;exact PySem.EqNone.ne_int_none (aD_ I q Z2)
  |int j=>obtain⟨t',rfl⟩:=ry;exact ne_int (aD_ I q (b_9 not ga_))
  |str j=>obtain⟨t',rfl⟩:=ry;exact PySem.EqMixed.ne_int_str (aD_ I q Z2)
  |_=>exact absurd (show false=true from hs) aq'
 |str i=>
  obtain⟨t,rfl⟩:=rx;cases y with
  |non=>cases ry;exact PySem.EqNone.ne_str_none (aD_ I q Z2)
  |bl j=>cases ry;exact PySem.EqMixed.ne_str_bool (aD_ I q Z2)
  |int j=>obtain⟨t',rfl⟩:=ry;exact PySem.EqMixed.ne_str_int (aD_ I q Z2)
  |str j=>obtain⟨t',rfl⟩:=ry;exact ne_str (aD_ I q (b_9 not gZ_))
  |_=>exact absurd (show false=true from hs) aq'
 |byt i=>
  obtain⟨t,rfl⟩:=rx;cases y with
  |byt j=>obtain⟨t',rfl⟩:=ry;exact PySem.W.ne_bytes (aD_ I q (b_9 not gY_))
  |_=>exact absurd (show false=true from hs) aq'
 |_=>cases y<;>exact absurd (show false=true from hs) aq'
theorem kx_:OpR X (compareOp .Lt) (rI0 λi j=>.bl (decide (i<j))):=opB0 λ_ _ _ _ _ _ _ q=>lt_int q
theorem dq_:OpR X (compareOp .LtE) (rI0 λi j=>.bl (decide (i<=j))):=opB0 λ_ _ _ _ _ _ _ q=>le_int q
theorem eh_:OpR X (compareOp .Gt) (rI0 λi j=>.bl (decide (j<i))):=opB0 λ_ _ _ _ _ _ _ q=>gt_int q
theorem kt_:OpR X (compareOp .GtE) (rI0 λi j=>.bl (decide (j<=i))):=opB0 λ_ _ _ _ _ _ _ q=>ge_int q
inductive cG' (x:V) (y:V) (H:Hp) (Q:VK):Prop
 |mk:∀i j,x=.str i->y=.str j->Q (.bl (decide (i.cps.toList<j.cps.toList))) H->cG' x y H Q
theorem gq_:OpR X (compareOp .Lt) cG':=by
 intro pins s σ H x y v u Q I rx ry h;obtain⟨i,j,rfl,rfl,q⟩:=h;obtain⟨t,rfl⟩:=rx;obtain⟨t',rfl⟩:=ry;exact lt_str (aD_ I q rfl)
theorem nomark(b:Expr){op:CmpOp}(h:op≠.In:=by decide)(h2:op≠.NotIn:=by decide):behindInMarks op b=false:=by
 have e1:(op == CmpOp.In)=false:=by cases op<;>first|rfl|exact absurd rfl h
 have e2:(op == CmpOp.NotIn)=false:=by cases op<;>first|rfl|exact absurd rfl h2
 cases b<;>simp[behindInMarks,e1,e2]
theorem aI_{op:CmpOp}{r:R2}(ho:OpR X (compareOp op) r)(ha:PE X a ta)(hb:PE X b tb)(hm:behindInMarks op b=false):PE X (.Compare a [op] [b] pos) (tOp r ta tb):=by
 intro pins s σ H Q I h;exact wpAny_Compare1 (binT ha hb I h λv u s2 x y H2 I2 rx ry q=>ho pins s2 σ H2 x y v u Q I2 rx ry q) hm
inductive tTestR (Q:Bool->Hp->Prop) (x:V) (H':Hp):Prop
 |mk:∀k,x=.bl k->Q k H'->tTestR Q x H'
def tTest(t:TE):TT:=λσ H Q=>t σ H λx H'=>tTestR Q x H'
theorem ae_{op:CmpOp}{r:R2}(ho:OpR X (compareOp op) r)(ha:PE X a ta)(hb:PE X b tb)(hm:behindInMarks op b=false):PT X (.Compare a [op] [b] pos) (tTest (tOp r ta tb)):=by
 intro pins s σ H Q I h
 refine wpAny_isTrue_Compare1 (thn (ha pins s σ H _ I h) λv s1 ⟨x,H1,I1,r1,q1⟩=>thn (hb pins s1 σ H1 _ I1 q1) λu s2 ⟨y,H2,I2,r2,q2⟩=>
  thn (ho pins s2 σ H2 x y v u _ I2 r1 r2 q2) λc s3 ⟨z,H3,I3,r3,k,e,q3⟩=>?_) hm
 subst e;cases r3;exact b_6 ⟨H3,I3,q3⟩
inductive tChainR (r':R2) (tc:TE) (σ:St) (Q:VK) (y:V) (z:V) (H3:Hp):Prop
 |mk:∀k,z=.bl k->(if k=true then tc σ H3 λw' H4=>r' y w' H4 Q else Q (.bl false) H3)->tChainR r' tc σ Q y z H3
def tChain(r r':R2)(ta tb tc:TE):TE:=λσ H Q=>ta σ H λx H1=>tb σ H1 λy H2=>r x y H2 λz H3=>tChainR r' tc σ Q y z H3
theorem fj_{op op':CmpOp}{r r':R2}(ho:OpR X (compareOp op) r)(ho':OpR X (compareOp op') r')(ha:PE X a ta)(hb:PE X b tb)(hc:PE X c tc)
  (hm:lastMarks [op,op'] [b,c]=false:=by with_unfolding_all rfl):PE X (.Compare a [op,op'] [b,c] pos) (tChain r r' ta tb tc):=by
 intro pins s σ H Q I h
 refine Compare_chain (thn (ha pins s σ H _ I h) λv s1 ⟨x,H1,I1,r1,q1⟩=>chain_link (thn (hb pins s1 σ H1 _ I1 q1) λu s2 ⟨y,H2,I2,r2,q2⟩=>
  thn (ho pins s2 σ H2 x y v u _ I2 r1 r2 q2) λd s3 ⟨z,H3,I3,r3,k,e,q3⟩=>?_)) hm
 subst e;cases r3;refine b_6 ?_;cases k with
 |false=>exact ite_ff ⟨.bl false,H3,I3,rfl,q3⟩
 |true=>exact ite_tt (chain_last (thn (hc pins s3 σ H3 _ I3 q3) λw' s4 ⟨z',H4,I4,r4,q4⟩=>ho' pins s4 σ H4 y z' u w' Q I4 r2 r4 q4))
theorem fh_{op op':CmpOp}{r r':R2}(ho:OpR X (compareOp op) r)(ho':OpR X (compareOp op') r')(ha:PE X a ta)(hb:PE X b tb)(hc:PE X c tc)
  (hm:lastMarks [op,op'] [b,c]=false:=by with_unfolding_all rfl):PT X (.Compare a [op,op'] [b,c] pos) (tTest (tChain r r' ta tb tc)):=by
 intro pins s σ H Q I h
 refine isTrue_chain (thn (ha pins s σ H _ I h) λv s1 ⟨x,H1,I1,r1,q1⟩=>test_link (thn (hb pins s1 σ H1 _ I1 q1) λu s2 ⟨y,H2,I2,r2,q2⟩=>
  thn (ho pins s2 σ H2 x y v u _ I2 r1 r2 q2) λd s3 ⟨z,H3,I3,r3,k,e,q3⟩=>?_)) hm
 subst e;cases r3;refine b_6 ?_;cases k with
 |false=>
  obtain⟨k',e',q'⟩:=q3;cases e';exact ite_ff ⟨H3,I3,q'⟩
 |true=>
  refine ite_tt (test_last (thn (hc pins s3 σ H3 _ I3 q3) λw' s4 ⟨z',H4,I4,r4,q4⟩=>thn (ho' pins s4 σ H4 y z' u w' _ I4 r2 r4 q4) λd' s5 ⟨z2,H5,I5,r5,k2,e2,q5⟩=>?_));subst e2;cases r5;exact b_6 ⟨H5,I5,q5⟩
theorem line63:(sizeLine:Nat)<2 ^ 63:=by rw[b__];decide
theorem vals1{x:V}{us:List Aa}(r:Vals [x] us):∃u,us=[u]/\RelV x u:=by
 cases r with
 |cons r1 r2=>cases r2;exact⟨_,rfl,r1⟩
theorem vals2{x y:V}{us:List Aa}(r:Vals [x,y] us):∃u w',us=[u,w']/\RelV x u/\RelV y w':=by
 cases r with
 |cons r1 r2=>
  cases r2 with
  |cons r3 r4=>cases r4;exact⟨_,_,rfl,r1,r3⟩
inductive dn' (xs:List V) (H:Hp) (Q:VK):Prop
 |mk:∀i,xs=[.int i]->Q (.int (if i<0 then -i else i)) H->dn' xs H Q
theorem bx_:bp' X (.builtin "abs") dn':=by
 intro pins s σ H xs us Q I r h;obtain⟨i,rfl,q⟩:=h;obtain⟨u,rfl,t,rfl⟩:=vals1 r;exact call_abs_int λu tk=>⟨.int (if i<0 then -i else i),H,I.tok _,⟨_,rfl⟩,q⟩
inductive cH' (xs:List V) (H:Hp) (Q:VK):Prop
 |mk:∀i j,xs=[.int i,.int j]->Q (.int (if j > i then j else i)) H->cH' xs H Q
theorem hn_(hc:X.calm=true):bp' X (.builtin "max") cH':=by
 intro pins s σ H xs us Q I r h;obtain⟨i,j,rfl,q⟩:=h;obtain⟨u,w',rfl,⟨t,rfl⟩,⟨t',rfl⟩⟩:=vals2 r;refine max_two_ints (I.ok.hd hc) λh' tk k=>⟨_,H,I.kept k,?_,q⟩;by_cases hj:j > i
 ·rw[a_9 hj,a_9 hj];exact⟨_,rfl⟩
 ·rw[a_4 hj,a_4 hj];exact⟨_,rfl⟩
inductive cI' (xs:List V) (H:Hp) (Q:VK):Prop
 |mk:∀i j,xs=[.int i,.int j]->Q (.int (if j<i then j else i)) H->cI' xs H Q
theorem h9_(hc:X.calm=true):bp' X (.builtin "min") cI':=by
 intro pins s σ H xs us Q I r h;obtain⟨i,j,rfl,q⟩:=h;obtain⟨u,w',rfl,⟨t,rfl⟩,⟨t',rfl⟩⟩:=vals2 r;refine min_two_ints (I.ok.hd hc) λh' tk k=>⟨_,H,I.kept k,?_,q⟩;by_cases hj:j<i
 ·rw[a_9 hj,a_9 hj];exact⟨_,rfl⟩
 ·rw[a_4 hj,a_4 hj];exact⟨_,rfl⟩
theorem dM_:bp' X (.type "int") (λxs H Q=>(∃i,xs=[.int i]/\Q (.int i) H)∨∃k,xs=[.bl k]/\Q (.int (if k then 1 else 0)) H):=by
 intro pins s σ H xs us Q I r h;rcases h with⟨i,rfl,q⟩|⟨k,rfl,q⟩
 ·obtain⟨u,rfl,t,rfl⟩:=vals1 r;exact call_int_int ⟨.int i,H,I,⟨_,rfl⟩,q⟩
 ·obtain⟨u,rfl,r1⟩:=vals1 r;cases r1;exact call_int_bool ⟨.int (if k then 1 else 0),H,I.tok _,⟨_,rfl⟩,q⟩
end
structure ObjM (h:Heap) (x dx C:Addr) (mA:Str->Option Aa):Prop where
 obj:h.get? x=some (PySem.W.instObj C dx)
 ns:h.Ns1 dx mA
 ne:dx≠x
variable{mA:Str->Option Aa}
theorem h4_{dx:Addr}(n:h.Ns1 dx mA):∃od,h.get? dx=some od/\∀name,PySem.W.lookIn name od=some (mA name):=by
 obtain⟨o,es,ep,ho,hd,hk,_,hm⟩:=n;refine⟨o,ho,λname=>?_⟩;have e:=hm name;unfold nsFind findBy at e;rw[<- Array.find?_toList] at e;unfold PySem.W.lookIn;rw[hd];dsimp only;split
 ·rename_i y q
  rw[q] at e;exact b_9 some e
 ·rename_i q
  rw[q] at e
  have a:es.toList.any (·.refKey)=false:=by
   rw[List.any_eq_false];intro y hy;obtain⟨z,t,hkey⟩:=hk y (Array.mem_toList_iff.mp hy);simp[DictEntry.refKey,hkey]
  have a':¬es.toList.any (·.refKey)=true:=by rw[a];exact aq'
  rw[a_4 a'];exact b_9 some e
theorem ObjM.look{x dx C:Addr}(I:ObjM h x dx C mA):∃od,PySem.W.InstAt h x (PySem.W.instObj C dx) C (some od)/\∀name,PySem.W.lookIn name od=some (mA name):=
 let ⟨od,ho,hl⟩:=h4_ I.ns
 ⟨od,⟨I.obj,rfl,rfl,ho⟩,hl⟩
section
variable{prog:Ae}{w:Af}{A:Ag}{E:Aa->Ac->Prop}{s:Ac}{K:F__}{x dx C f:Addr}{mA:Str->Option Aa}{name:Str}{v:Aa}
theorem jl_{expr:Bool}{Q:Aa->Ac->Prop}(X:K.In s.heap)(I:ObjM s.heap x dx C mA)(hg:PySem.W.plainGet K C name=true)(hh:PySem.W.hasDictIn K C=true)
  (ha:PySem.W.findIn K (.ref C) name=some none) (hv:mA name=some v) (hv':PySem.W.handedIn v=true) (h:Q v { s with toks:=s.toks+1 }) :
  wpAny (model prog w) A (getAttr (.ref x) name expr) Q E s:=by
 obtain⟨od,J,hl⟩:=I.look;exact PySem.W.get_value X J (PySem.W.plainGet_of hg).1 (PySem.W.findObj_own hh ha rfl (by rw[hl,hv])) hv' h
theorem hX_{pl:Sem Bool}{Q:Aa × List Aa->Ac->Prop}(X:K.In s.heap)(I:ObjM s.heap x dx C mA)(hg:PySem.W.plainGet K C name=true)
  (hf:PySem.W.findIn K (.ref C) name=some (some (.ref f))) (ht:PySem.W.isFn K (.ref f)=true) (hv:mA name=none) (h:Q (.ref f,[.ref x]) s) :
  wpAny (model prog w) A (getMethod (.ref x) name pl) Q E s:=by
 obtain⟨od,J,hl⟩:=I.look;exact PySem.W.method_fn X J (PySem.W.plainGet_of hg).1 (PySem.W.plainGet_of hg).2 hf (beq_iff_eq.mp ht) (by show (PySem.W.lookIn name od).map (·.isSome)=some false;rw[hl,hv];rfl) h
theorem jF_{ns:List Str}{Q:Unit->Ac->Prop}(X:K.In s.heap)(I:ObjM s.heap x dx C mA)
  (hs:PySem.W.findIn K (.ref C) "__setattr__"=some (some (.builtin "object.__setattr__"))) (hp:PySem.W.plainOver K C=true) (ht:PySem.W.takerIn K C name=some none) (hh:PySem.W.hasDictIn K C=true)
  (hw:PySem.Within mA ns) (hsz:ns.length<=sizeLine)
  (h:∀h',ObjM h' x dx C (λy=>if y=name then some v else mA y)->Heap.SameBut dx s.heap h'->Q () { s with heap:=h',toks:=s.toks+2 }) :
  wpAny (model prog w) A (setAttr (.ref x) name v) Q E s:=by
 obtain⟨od,J,hl⟩:=I.look;refine PySem.W.set_plain X J hs (PySem.W.osa_open (s:={ s with toks:=s.toks+1 }) (r:=none) X J hp ht λb=>?_);obtain⟨cd,hc,hd'⟩:=PySem.W.any_some hh;have hx:s.heap.get? x=some ⟨.ref C,some dx,.plain,#[]⟩:=I.obj;refine a__ (a_6 (a__ (a__ (wpAny_loadPart hx (a__ (PySem.W.Looks.here (s:={ s with toks:=s.toks+1 }) (PySem.W.looks_clsIn X hc) ?_))))));rw[hd'];refine a_6 (a:=some dx) (a__ (a_6 (a__ ?_)));refine wpAny_nsSet1 (s:={ s with toks:=s.toks+1 }) I.ns λh' hn2 hs2=>?_;obtain⟨oD,esD,epD,hoD,hdD,hcD⟩:=hn2.count (PySem.Within.cons name v hw);refine a__ (wpAny_lookBehind hoD (by rw[hdD];exact pastItsLine_dict (aM' hcD (by rw[az'];omega))) ?_);exact a_6 (h _ ⟨(hs2.2 _ (Ne.symm I.ne)).trans I.obj,hn2,I.ne⟩ hs2)
theorem il_{R:Result->Ac->Prop}{vs:List Aa}{kw:List (Str × Aa)}(X:K.In s.heap)(hm:PySem.W.makesIn K C=true)
  (hi:PySem.W.findIn K (.ref C) "__init__"=some (some (.ref f))) (hf:PySem.W.typeIn K (.ref f)=some (.type "function"))
  (h:codeAny (model prog w) (A.under (.builtin "type.__call__" ⟨.ref C::vs,kw⟩)) (.call (.ref f) ⟨.ref (s.heap.objs.size+1)::vs,kw⟩) (PySem.W.InitBack (s.heap.objs.size+1) R)
   { s with heap:=(s.heap.push PySem.W.emptyDict).push (PySem.W.instObj C s.heap.objs.size) }) :
  codeAny (model prog w) A (.call (.ref C) ⟨vs,kw⟩) R s:=by
 obtain⟨hh,g,d,t,os⟩:=s;exact PySem.W.make_core (PySem.W.makes_of X hm) (PySem.W.looks_findIn X hi) (λself=>PySem.W.bind_fn X self hf) (.inl rfl) h
end
def putF(f:Str)(v:V):List (Str × V)->List (Str × V)
 |[]=>[(f,v)]
 |(g,x)::r=>if g=f then (g,v)::r else (g,x)::putF f v r
theorem aa_(f g:Str)(v:V):∀fs:List (Str × V),(putF f v fs).lookup g=if g=f then some v else fs.lookup g
 |[]=>by
  show List.lookup g [(f,v)]=_;by_cases h:g=f
  ·have hb:(g == f)=true:=beq_iff_eq.mpr h;simp only[List.lookup,hb,a_9 h]
  ·have hb:(g == f)=false:=beq_eq_false_iff_ne.mpr h;simp only[List.lookup,hb,a_4 h]
 |(k,x)::r=>by
  have ih:=aa_ f g v r;rw[show putF f v ((k,x)::r)=(if k=f then (k,v)::r else (k,x)::putF f v r) from rfl];by_cases hk:k=f
  ·rw[a_9 hk];by_cases h:g=k
   ·have hb:(g == k)=true:=beq_iff_eq.mpr h;simp only[List.lookup,hb,a_9 (h.trans hk)]
   ·have hb:(g == k)=false:=beq_eq_false_iff_ne.mpr h;simp only[List.lookup,hb,a_4 (λe:g=f=>h (e.trans hk.symm))]
  ·rw[a_4 hk];by_cases h:g=k
   ·have hb:(g == k)=true:=beq_iff_eq.mpr h;simp only[List.lookup,hb,a_4 (λe:g=f=>hk (h.symm.trans e))]
   ·have hb:(g == k)=false:=beq_eq_false_iff_ne.mpr h;simp only[List.lookup,hb];exact ih
theorem cp_(f:Str)(v:V):∀fs:List (Str × V),f∈(putF f v fs).map (·.1)/\∀g,g∈fs.map (·.1)->g∈(putF f v fs).map (·.1)
 |[]=>⟨by simp[putF],λg h=>by simp at h⟩
 |(k,x)::r=>by
  obtain⟨i1,i2⟩:=cp_ f v r;rw[show putF f v ((k,x)::r)=(if k=f then (k,v)::r else (k,x)::putF f v r) from rfl];by_cases hk:k=f
  ·rw[a_9 hk];subst hk;exact⟨by simp,λg h=>by simpa using h⟩
  ·rw[a_4 hk];refine⟨?_,λg h=>?_⟩
   ·rw[av'];exact ad' _ i1
   ·rw[av'] at h ⊢;rcases al'.mp h with e|e
    ·exact al'.mpr (.inl e)
    ·exact ad' _ (i2 g e)
theorem cF_(f:Str)(v:V):∀fs:List (Str × V),(putF f v fs).length<=fs.length+1
 |[]=>by simp[putF]
 |(k,x)::r=>by
  have ih:=cF_ f v r;rw[show putF f v ((k,x)::r)=(if k=f then (k,v)::r else (k,x)::putF f v r) from rfl];by_cases hk:k=f
  ·rw[a_9 hk,az',az'];omega
  ·rw[a_4 hk,az',az'];omega
variable{o:Option Aa}{v:V}
theorem RelO.some_of(r:RelO (some v) o):∃u,o=some u/\RelV v u:=by
 cases o with
 |none=>exact (show False from r).elim
 |some u=>exact⟨u,rfl,r⟩
theorem RelO.none_of(r:RelO none o):o=none:=by
 cases o with
 |none=>rfl
 |some u=>exact (show False from r).elim
theorem hx_(r:RelV v u):PySem.W.handedIn u=true:=by
 cases v with
 |non=>cases (show u=Value.none from r);rfl
 |bl b=>cases (show u=Value.bool b from r);rfl
 |int i=>obtain⟨t,e⟩:=(show ∃t,u=Value.int i t from r);cases e;rfl
 |str x=>obtain⟨t,e⟩:=(show ∃t,u=Value.str x t from r);cases e;rfl
 |byt b=>obtain⟨t,e⟩:=(show ∃t,u=Value.bytes b t from r);cases e;rfl
 |flt b=>obtain⟨t,e⟩:=(show ∃t,u=Value.float b t from r);cases e;rfl
 |ref a=>cases (show u=Value.ref a from r);rfl
 |ty n=>cases (show u=Value.type n from r);rfl
section
variable{P:Ae}{w:Af}{H H':Hp}{h h':Heap}{a C dx:Addr}{fs fs':List (Str × V)}
theorem da_(hok:HOk P w H h)(e:H a=some (.ins C dx fs)):∃mA,ObjM h a dx C mA/\(∀f,RelO (fs.lookup f) (mA f))/\PySem.Within mA (fs.map (·.1))/\fs.length<=1000/\H dx=some (.own a):=by
 obtain⟨d,z,ne,ob,mA,n,r,q⟩:=(show bf' P w H h a (.ins C dx fs) from hok a _ e);exact⟨mA,⟨ob,n,ne⟩,r,q,z,d⟩
end
structure Cls (K:F__) (C:Addr):Prop where
 pg:PySem.W.plainGet K C Str.empty=true
 hd:PySem.W.hasDictIn K C=true
 po:PySem.W.plainOver K C=true
 sa:PySem.W.findIn K (.ref C) "__setattr__"=some (some (.builtin "object.__setattr__"))
theorem Cls.get{K:F__}{C:Addr}(c:Cls K C)(f:Str):PySem.W.plainGet K C f=true:=c.pg
def bs'(K:F__)(C:Addr)(f:Str):Prop:=PySem.W.findIn K (.ref C) f=some none
theorem bs'.taker{K:F__}{C:Addr}{f:Str}(n:bs' K C f):PySem.W.takerIn K C f=some none:=by
 unfold PySem.W.takerIn;rw[show PySem.W.findIn K (.ref C) f=some none from n];rfl
structure Con (K:F__) (C:Addr) (f:Str) (v:V) (u:Aa):Prop where
 at_:PySem.W.findIn K (.ref C) f=some (some u)
 rel:RelV v u
 get:PySem.W.specialIn K u "__get__"=some none
 cp:PySem.W.copiedNames.contains f=false
structure Meth (K:F__) (C:Addr) (m:Str) (f:Addr):Prop where
 at_:PySem.W.findIn K (.ref C) m=some (some (.ref f))
 fn:PySem.W.isFn K (.ref f)=true
 kp:PySem.W.keepIn K (.ref f)=true
section
variable{X:Cx}{pins:List (Addr × Obj)}{σ:St}{H:Hp}{s:Ac}{a C dx:Addr}{fs:List (Str × V)}{f:Str}{v:V}{A:Ag}{E:Aa->Ac->Prop}
theorem fS_{b:Bool}{Q:Aa->Ac->Prop}(I:Inv X pins σ H s)(e:H a=some (.ins C dx fs))(c:Cls X.K C)(n:bs' X.K C f)(l:fs.lookup f=some v)
  (h:∀u s',Inv X pins σ H s'->RelV v u->Q u s'):wpAny (model X.prog X.w) A (getAttr (.ref a) f b) Q E s:=by
 obtain⟨mA,O,r,_,_,_⟩:=da_ I.hok e;obtain⟨u,hu,ru⟩:=RelO.some_of (v:=v) (o:=mA f) (by rw[<- l];exact r f);exact jl_ I.kIn O (c.get f) c.hd n hu (hx_ ru) (h u _ (I.tok _) ru)
theorem d3_{m:Str}{g:Addr}{pl:Sem Bool}{Q:Aa × List Aa->Ac->Prop}(I:Inv X pins σ H s)(e:H a=some (.ins C dx fs))(c:Cls X.K C)(k:Meth X.K C m g)(l:fs.lookup m=none)
  (h:Q (.ref g,[.ref a]) s):wpAny (model X.prog X.w) A (getMethod (.ref a) m pl) Q E s:=by
 obtain⟨mA,O,r,_,_,_⟩:=da_ I.hok e;have hn:mA m=none:=RelO.none_of (by rw[<- l];exact r m);exact hX_ I.kIn O (c.get m) k.at_ k.fn hn h
theorem fn_{y:V}{Q:Unit->Ac->Prop}(I:Inv X pins σ H s)(e:H a=some (.ins C dx fs))(c:Cls X.K C)(n:bs' X.K C f)(hl:fs.length<1000)(ry:RelV y u)(h:∀s',Inv X pins σ (upd H a (.ins C dx (putF f y fs))) s'->Q () s'):wpAny (model X.prog X.w) A (setAttr (.ref a) f u) Q E s:=by
 obtain⟨mA,O,r,wi,_,ho⟩:=da_ I.hok e;have hz:(fs.map (·.1)).length<=sizeLine:=by rw[aa',b__];omega
 refine jF_ I.kIn O c.sa c.po n.taker c.hd wi hz λh' O' sb=>h _ ?_;have hd:∃o,h'.get? dx=some o:=let ⟨o,_,_,e',_⟩:=O'.ns;⟨o,e'⟩;refine I.write (x:=a) (e:=dx) (by rw[e];exact True.intro) (.inr ho) (λb q hb z=>(sb.2 b hb).trans z) hd ?_;refine⟨by rw[a5_ O.ne];exact ho,?_,O.ne,O'.obj,_,O'.ns,λg=>?_,λg hg=>?_⟩
 ·have:=cF_ f y fs;omega
 ·show RelO ((putF f y fs).lookup g) (if g=f then some u else mA g);rw[aa_];by_cases q:g=f
  ·rw[a_9 q,a_9 q];exact ry
  ·rw[a_4 q,a_4 q];exact r g
 ·by_cases q:g=f
  ·rw[q];exact (cp_ f y fs).1
  ·refine (cp_ f y fs).2 g (wi g λz=>hg ?_);show (if g=f then some u else mA g)=none;rw[a_4 q];exact z
theorem Inv.made(I:Inv X pins σ H s):Inv X pins σ (upd (upd H s.heap.objs.size (.own (s.heap.objs.size+1))) (s.heap.objs.size+1) (.ins C s.heap.objs.size []))
  { s with heap:=(s.heap.push PySem.W.emptyDict).push (PySem.W.instObj C s.heap.objs.size) }:=by
 have e1:(s.heap.push PySem.W.emptyDict).get? s.heap.objs.size=some PySem.W.emptyDict:=a_1 s.heap rfl
 have e2:((s.heap.push PySem.W.emptyDict).push (PySem.W.instObj C s.heap.objs.size)).get? (s.heap.objs.size+1)=some (PySem.W.instObj C s.heap.objs.size):=by
  have:=a_1 (s.heap.push PySem.W.emptyDict) (o:=PySem.W.instObj C s.heap.objs.size) rfl;rwa [Heap.size_push] at this
 have e3:(s.heap.push PySem.W.emptyDict).Ns s.heap.objs.size (λ_=>none):=⟨PySem.W.emptyDict,#[],_,e1,rfl,(λe he=>absurd he Z2),λ_=>rfl⟩;have I1:=I.laid (a:=s.heap.objs.size) (o:=.own (s.heap.objs.size+1)) (h':=s.heap.push PySem.W.emptyDict) (t':=s.toks) (λb u q=>a_0 _ q) (ai' _) ⟨_,e1⟩;refine I1.laid (a:=s.heap.objs.size+1) (o:=.ins C s.heap.objs.size []) (t':=s.toks) (λb u q=>a_0 _ q) (Nat.le_of_eq (Heap.size_push _ _)) ?_;have ne:s.heap.objs.size≠s.heap.objs.size+1:=ap' (Nat.lt_succ_self _);refine⟨by rw[a5_ ne,a1_],aD' _,ne,e2,λ_=>none,(Heap.Ns1.of_empty e3).at λo q=>a_0 _ q,λ_=>True.intro,λy hy=>absurd rfl hy⟩
theorem k5_{prog:Ae}{env:Env}{e:Expr}{f:Str}{s:Ac}{Q:Aa->Ac->Prop}(hb:attributeBase e f env (eval e env)=eval e env)(h:wpAny (model prog w) A (eval e env) (λo s₁=>wpAny (model prog w) A (getAttr o f true) Q E s₁) E s):wpAny (model prog w) A (eval (.Attribute e f pos) env) Q E s:=
 Attribute_any_ h (by rw[arm_eval_Attribute,hb])
end
inductive tFldR (K:F__) (f:Str) (Q:VK) (x:V) (H1:Hp):Prop
 |mk:∀a C dx fs v,x=.ref a->H1 a=some (.ins C dx fs)->Cls K C->bs' K C f->fs.lookup f=some v->Q v H1->tFldR K f Q x H1
def tFld(K:F__)(ta:TE)(f:Str):TE:=λσ H Q=>ta σ H λx H1=>tFldR K f Q x H1
inductive sFldR (K:F__) (f:Str) (D:Ends) (σ:St) (y:V) (x:V) (H2:Hp):Prop
 |mk:∀a C dx fs,x=.ref a->H2 a=some (.ins C dx fs)->Cls K C->bs' K C f->fs.length<1000->D.nx σ (upd H2 a (.ins C dx (putF f y fs)))->sFldR K f D σ y x H2
def sFld(K:F__)(ta tv:TE)(f:Str):TS:=λD σ H=>tv σ H λy H1=>ta σ H1 λx H2=>sFldR K f D σ y x H2
section
variable{X:Cx}{o e value:Expr}{f:Str}{pos pos' tpos:Pos}{ta tv:TE}
theorem ak_(he:PE X e ta)(hb:attributeBase e f X.env (eval e X.env)=eval e X.env):PE X (.Attribute e f pos) (tFld X.K ta f):=by
 intro pins s σ H Q I h;refine k5_ hb (thn (he pins s σ H _ I h) λu s1 ⟨x,H1,I1,rx,a,C,dx,fs,v,ex,ea,c,n,l,q⟩=>?_);subst ex;obtain rfl:u=Value.ref a:=rx;exact fS_ I1 ea c n l λu' s2 I2 ru=>⟨v,H1,I2,ru,q⟩
theorem bE_(ha:PE X o ta)(hv:PE X value tv)(hs:swapsWith value (some (.Attribute o f pos')) pos.line X.env=pure false):PS X (.Assign [.Attribute o f pos'] value pos) (sFld X.K ta tv f):=by
 intro pins s σ H D I h;refine plainObj_wpAny_Assign_Attribute (thn (hv pins s σ H _ I h) λu s1 ⟨y,H1,I1,ry,q⟩=>thn (ha pins s1 σ H1 _ I1 q) λov s2 ⟨x,H2,I2,rx,a,C,dx,fs,ex,ea,c,n,l,q2⟩=>?_) hs;subst ex;obtain rfl:ov=Value.ref a:=rx;exact fn_ I2 ea c n l ry λs3 I3=>⟨σ,_,I3,q2⟩
end
section
variable{X:Cx}{pins:List (Addr × Obj)}{σ:St}{H:Hp}{s:Ac}{A:Ag}{E:Aa->Ac->Prop}{Q:Aa->Ac->Prop}{c:Aa}{b:Bool}
inductive TyOf (K:F__) (H:Hp):V->Aa->Prop where
 |non:TyOf K H .non (.type "NoneType")
 |bl (x:Bool):TyOf K H (.bl x) (.type "bool")
 |int (i:Int):TyOf K H (.int i) (.type "int")
 |str (x:Str):TyOf K H (.str x) (.type "str")
 |flt (x:UInt64):TyOf K H (.flt x) (.type "float")
 |lst {a:Addr} {xs:List V} (e:H a=some (.lst xs)):TyOf K H (.ref a) (.type "list")
 |frz {a:Addr} {o:Obj} {xs:List V} (e:H a=some (.frz o (.lst xs))):TyOf K H (.ref a) (.type "list")
 |tup {a:Addr} {xs:List V} (e:H a=some (.tup xs)):TyOf K H (.ref a) (.type "tuple")
 |dK {a:Addr} {kvs:List (Key × V)} (e:H a=some (.dK kvs)):TyOf K H (.ref a) (.type "dict")
 |dT {a:Addr} {kvs:List (List Key × V)} (e:H a=some (.dT kvs)):TyOf K H (.ref a) (.type "dict")
 |ins {a C dx:Addr} {fs:List (Str × V)} (e:H a=some (.ins C dx fs)) (cl:Cls K C) (ha:PySem.W.findIn K (.ref C) "__class__"=some (some (.builtin "object.__class__")))
   (hn:PySem.W.specialIn K (.builtin "object.__class__") "__get__"=some (some (.builtin "getset_descriptor.__get__"))) (htk:PySem.W.takesIn K (.builtin "object.__class__")=some true)
   (hm:PySem.W.mroIn K C (.type "object")=some true):TyOf K H (.ref a) (.ref C)
theorem e3_{x:V}{t:Aa}(I:Inv X pins σ H s)(rx:RelV x u)(ty:TyOf X.K H x t)(e:PySem.W.kitOne X.K t c=some b)(h:∀tk,Q (.bool b) { s with toks:=tk }) :
  wpAny (model X.prog X.w) A (call (.builtin "isinstance") [u,c]) Q E s:=by
 cases ty with
 |non=>cases (show u=Value.none from rx);exact c_1 PySem.W.kitx_none I.kIn True.intro e nofun h
 |bl y=>cases (show u=Value.bool y from rx);exact c_1 PySem.W.kitx_bool I.kIn True.intro e nofun h
 |int i=>obtain⟨t,q⟩:=(show ∃t,u=Value.int i t from rx);cases q;exact c_1 PySem.W.kitx_int I.kIn True.intro e nofun h
 |str y=>obtain⟨t,q⟩:=(show ∃t,u=Value.str y t from rx);cases q;exact c_1 PySem.W.kitx_str I.kIn True.intro e nofun h
 |flt y=>obtain⟨t,q⟩:=(show ∃t,u=Value.float y t from rx);cases q;exact c_1 PySem.W.kitx_float I.kIn True.intro e nofun h
 |@lst a xs ea=>
  cases (show u=Value.ref a from rx);obtain⟨_,_,n,_,h1⟩:=(show bf' X.prog X.w H s.heap a (.lst xs) from I.hok a _ ea);exact c_1 PySem.W.kitx_list I.kIn ⟨_,h1,rfl⟩ e nofun h
 |@frz a ob xs ea=>
  cases (show u=Value.ref a from rx);obtain⟨_,_,_,n,_,h1⟩:=(show bf' X.prog X.w H s.heap a (.frz ob (.lst xs)) from I.hok a _ ea);exact c_1 PySem.W.kitx_list I.kIn ⟨_,h1,rfl⟩ e nofun h
 |@tup a xs ea=>
  cases (show u=Value.ref a from rx);obtain⟨_,_,_,p,_⟩:=(show bf' X.prog X.w H s.heap a (.tup xs) from I.hok a _ ea);obtain⟨o,h1,h2,_⟩:=p;exact c_1 PySem.W.kitx_tuple I.kIn ⟨o,h1,h2⟩ e nofun h
 |@dK a kvs ea=>
  cases (show u=Value.ref a from rx);obtain⟨_,_,vs,_,p⟩:=(show bf' X.prog X.w H s.heap a (.dK kvs) from I.hok a _ ea);obtain⟨o,es,ep,h1,h2,_⟩:=p;exact c_1 PySem.W.kitx_dict I.kIn ⟨o,h1,h2.1⟩ e nofun h
 |@dT a kvs ea=>
  cases (show u=Value.ref a from rx);obtain⟨_,_,xs,_,o,es,ep,h1,h2,_⟩:=(show bf' X.prog X.w H s.heap a (.dT kvs) from I.hok a _ ea);exact c_1 PySem.W.kitx_dict I.kIn ⟨o,h1,h2.1⟩ e nofun h
 |@ins a C dx fs ea cl ha hn htk hm=>
  cases (show u=Value.ref a from rx);obtain⟨mA,O,_⟩:=da_ I.hok ea;obtain⟨od,J,_⟩:=O.look;exact c_1 (PySem.W.kitx_own (cl.get _) cl.hd ha hn htk hm) I.kIn J e nofun h
end
structure Room (k:Nat) (A:Ag):Prop where
 hd:A.handled=none
 dp:A.depth+3 * k+5<recursionLimit
 un:A.units+16 * k+200<cLine
variable{j k:Nat}
theorem Room.mono{A:Ag}(r:Room k A)(h:j<=k):Room j A:=⟨r.hd,by have:=r.dp;omega,by have:=r.un;omega⟩
theorem Room.deeper{A:Ag}(r:Room (k+1) A)(env:Env):Room k (A.deeper env):=
 ⟨r.hd,by have:=r.dp;show A.depth+1+3 * k+5<_;omega,by have:=r.un;show A.units+3+16 * k+200<_;omega⟩
theorem Room.in1{A:Ag}(r:Room (k+1) A):Room k A.in1:=
 ⟨r.hd,by have:=r.dp;show A.depth+3 * k+5<_;omega,by have:=r.un;show A.units+1+16 * k+200<_;omega⟩
variable{kw:List (Str × Aa)}
theorem ft_{A:Ag}{C:Addr}{us:List Aa}:(A.under (.builtin "type.__call__" ⟨.ref C::us,kw⟩)).depth=A.depth+1:=by
 first|rfl|simp[Around.under,Code.weight,Code.isCreation,Code.isGuard,Code.isCaller,Code.frames,Code.isFrame,guardIds]
theorem fu_{A:Ag}{C:Addr}{us:List Aa}:(A.under (.builtin "type.__call__" ⟨.ref C::us,kw⟩)).units=A.units+1:=by
 first|rfl|simp[Around.under,Code.cUnits,Code.frames,Code.isFrame]
theorem Room.make{A:Ag}(r:Room (k+1) A)(C:Addr)(us:List Aa)(kw:List (Str × Aa)):Room k (A.under (.builtin "type.__call__" ⟨.ref C::us,kw⟩)):=
 ⟨r.hd,by have:=r.dp;rw[ft_];omega,by have:=r.un;rw[fu_];omega⟩
theorem Room.depth{A:Ag}(r:Room k A):A.depth<recursionLimit:=by have:=r.dp;omega
theorem Room.units{A:Ag}(r:Room k A):A.units+64<cLine:=by have:=r.un;omega
def tNil:TA:=λ_ H Q=>Q [] H
def tCons(ta:TE)(tr:TA):TA:=λσ H Q=>ta σ H λx H1=>tr σ H1 λxs H2=>Q (x::xs) H2
section
variable{X:Cx}{e:Expr}{es:List Expr}{te:TE}{t:TA}{pos:Pos}
theorem a2_:PA X [] tNil:=λ_ _ _ _ H Q I h=>Calls.spliced_nil ⟨[],H,I,.nil,h⟩
theorem a0_(ha:PE X e te)(hr:PA X es t)(hs:starEach (e::es) X.env=(false,eval e X.env)::starEach es X.env:=by rfl):PA X (e::es) (tCons te t):=by
 intro pos pins s σ H Q I h;rw[hs];show wpAny _ _ (spliced ((false,eval e X.env)::backTo pos (starEach es X.env))) _ _ s;refine Calls.spliced_cons (thn (ha pins s σ H _ I h) λu s1 ⟨x,H1,I1,r1,q1⟩=>?_);exact thn (hr pos pins s1 σ H1 _ I1 q1) λus s2 ⟨xs,H2,I2,r2,q2⟩=>⟨x::xs,H2,I2,.cons r1 r2,q2⟩
def tTup(t:TA):TE:=λσ H Q=>t σ H λxs H1=>xs.length<=sizeLine/\∀p,H1 p=none->Q (.ref p) (upd H1 p (.tup xs))
def tLst(t:TA):TE:=λσ H Q=>t σ H λxs H1=>xs.length<=sizeLine/\∀p,H1 p=none->Q (.ref p) (upd H1 p (.lst xs))
theorem aR_{x1}(h:PA X es t):PE X (.Tuple es x1 pos) (tTup t):=by
 intro pins s σ H Q I hq;refine wpAny_Tuple_spliced (thn (h pos pins s σ H _ I hq) λus s1 ⟨xs,H1,I1,r,z,q⟩=>⟨by rw[<- r.length];exact z,?_⟩);have hf:H1 s1.heap.objs.size=none:=I1.hok.fresh (ai' _);refine⟨.ref s1.heap.objs.size,upd H1 s1.heap.objs.size (.tup xs),I1.laid (t':=s1.toks) (λb u e=>a_0 _ e) (ai' _) ?_,rfl,q _ hf⟩;exact⟨z,us,r,⟨_,a_1 _ rfl,rfl,_,rfl⟩,_,a_1 _ rfl,rfl⟩
theorem ax_(h:PA X es t):PE X (.List es pos) (tLst t):=by
 intro pins s σ H Q I hq;refine wpAny_List_spliced (thn (h pos pins s σ H _ I hq) λus s1 ⟨xs,H1,I1,r,z,q⟩=>⟨by rw[<- r.length];exact z,?_⟩);have hf:H1 s1.heap.objs.size=none:=I1.hok.fresh (ai' _);refine⟨.ref s1.heap.objs.size,upd H1 s1.heap.objs.size (.lst xs),I1.laid (t':=s1.toks) (λb u e=>a_0 _ e) (ai' _) ?_,rfl,q _ hf⟩;exact⟨z,us,0,r,a_1 _ rfl⟩
end
abbrev Sp:=List V->Hp->VK->XK->Prop
abbrev CXT:=List Env->Hp->Ac->XK->Aa->Ac->Prop
structure Env0 (P:Ae) (w:Af) (K:F__) (mg:Str->Option Aa) (base:Heap) (A:Ag) (outer:List Env) (s:Ac) (H:Hp):Prop where
 frames:A.frames=some outer
 mod:Mod K mg base
 bs:∀b o,base.get? b=some o->s.heap.get? b=some o/\H b=none
 bsz:base.objs.size<=s.heap.objs.size
 funs:s.heap.FunFrames base outer
 frf:∀b∈frs outer,H b=none
 hok:HOk P w H s.heap
 bare:AllBare s.gens
def CE(outer:List Env)(P:Ae)(w:Af)(H:Hp)(s:Ac)(Q:VK)(u:Aa)(s':Ac):Prop:=
 ∃v H',s'.os=s.os/\AllBare s'.gens/\Un (frs outer) [] H H' s.heap s'.heap/\HOk P w H' s'.heap/\RelV v u/\Q v H'
def CR(CX:CXT)(outer:List Env)(P:Ae)(w:Af)(H:Hp)(s:Ac)(Q:VK)(E:XK)(r:Result)(s':Ac):Prop:=
 match r with
 |.ok (.ret u)=>CE outer P w H s Q u s'
 |.ok _=>False
 |.error e=>CX outer H s E e s'
structure FnOk (P:Ae) (w:Af) (K:F__) (mg:Str->Option Aa) (base:Heap) (CX:CXT) (k:Nat) (f:Addr) (fd:Ad) (ps:List Str) (sp:Sp):Prop where
 len:∀vs H Q E,sp vs H Q E->vs.length=ps.length
 run:∀(A:Ag) (outer:List Env) (s:Ac) (H:Hp) (args:Args) (us:List Aa) (vs:List V) (Q:VK) (E:XK),Room k A->Env0 P w K mg base A outer s H->BindsTo s fd args (ps.zip us)->Vals vs us->sp vs H Q E->
  codeAny (model P w) A (.call (.ref f) args) (CR CX outer P w H s Q E) s
variable{K:F__}{f:Addr}{mg:Str->Option Aa}{base:Heap}{CX:CXT}{fd:Ad}{ps:List Str}
theorem FnOk.mono{sp:Sp}(F:FnOk P w K mg base CX j f fd ps sp)(h:j<=k) :
  FnOk P w K mg base CX k f fd ps sp:=⟨F.len,λA outer s H args us vs Q E hr=>F.run A outer s H args us vs Q E (hr.mono h)⟩
variable{H:Hp}{A:Ag}{outer:List Env}
theorem Env0.make{s:Ac}(e:Env0 P w K mg base A outer s H)(C:Addr)(us:List Aa)(kw:List (Str × Aa)) :
  Env0 P w K mg base (A.under (.builtin "type.__call__" ⟨.ref C::us,kw⟩)) outer s H:=⟨by first|exact e.frames|(simpa [Around.under,Code.envs,Code.isFrame,pushEnvs] using e.frames),e.mod,e.bs,e.bsz,e.funs,e.frf,e.hok,e.bare⟩
section
variable{X:Cx}{pins:List (Addr × Obj)}{σ:St}{H:Hp}{s s':Ac}
theorem Inv.env0(I:Inv X pins σ H s):Env0 X.prog X.w X.K X.mg X.base X.A X.stack s H:=
 ⟨I.ok.frames,I.ok.mod,I.bs,aM' I.ok.bsz I.sz,I.stack,I.stkFree,I.hok,I.bare⟩
theorem Inv.after{Q:VK}(I:Inv X pins σ H s)(h:CE X.stack X.prog X.w H s Q u s'):EP X pins σ Q u s':=by
 obtain⟨v,H',os,bare,un,hok,r,q⟩:=h;obtain⟨hh,g,d,t,os'⟩:=s';obtain rfl:os'=s.os:=os;exact⟨v,H',I.call (h':=hh) (g':=g) (d':=d) (t':=t) (ch:=[]) un hok bare (λb z=>absurd z Z2),r,q⟩
end
def tCall(sp:Sp)(dvs:List V)(E:XK)(t:TA):TE:=λσ H Q=>t σ H λvs H1=>sp (vs++dvs) H1 Q E
inductive tMethR (C:Addr) (m:Str) (sp:Sp) (dvs:List V) (E:XK) (t:TA) (σ:St) (Q:VK) (x:V) (H1:Hp):Prop
 |mk:∀a dx fs,x=.ref a->H1 a=some (.ins C dx fs)->fs.lookup m=none->(t σ H1 λvs H2=>sp (x::(vs++dvs)) H2 Q E)->tMethR C m sp dvs E t σ Q x H1
def tMeth(C:Addr)(m:Str)(sp:Sp)(dvs:List V)(E:XK)(ta:TE)(t:TA):TE:=λσ H Q=>ta σ H λx H1=>tMethR C m sp dvs E t σ Q x H1
def tMake(C:Addr)(sp:Sp)(dvs:List V)(E:XK)(t:TA):TE:=λσ H Q=>t σ H λvs H1=>∀x dx,H1 x=none->H1 dx=none->dx≠x->
 sp (.ref x::(vs++dvs)) (upd (upd H1 dx (.own x)) x (.ins C dx [])) (λv H2=>v=.non/\Q (.ref x) H2) E
def b5'(K:F__)(fd:Ad)(ps:List Str)(ds:List Aa):Prop:=
 ∀(s:Ac) (us:List Aa),K.In s.heap->(us++ds).length=ps.length->BindsTo s fd ⟨us,[]⟩ (ps.zip (us++ds))
theorem b5'.all(h:∀us:List Aa,us.length=ps.length->bindArgs fd ⟨us,[]⟩=pure (ps.zip us)):b5' K fd ps []:=λs us _ hl=>by
 rw[aN'] at hl ⊢;exact .of_eq (h us hl)
def bH'(CX:CXT)(X:Cx)(E:XK):Prop:=∀(pins:List (Addr × Obj)) (σ:St) (H:Hp) (s:Ac) (e:Aa) (s':Ac),Inv X pins σ H s->CX X.stack H s E e s'->X.xe e s'
variable{E:XK}{Q:VK}{dvs vs:List V}{sp:Sp}{ds:List Aa}
theorem gl_{s:Ac}{us:List Aa}(F:FnOk X.prog X.w X.K X.mg X.base CX k f fd ps sp)(hr:Room k X.A)(hb:b5' X.K fd ps ds)(hd:Vals dvs ds)(hx:bH' CX X E)(I:Inv X pins σ H s)(r:Vals vs us)(h:sp (vs++dvs) H Q E):wpAny (model X.prog X.w) X.A (call (.ref f) us) (EP X pins σ Q) X.xe s:=by
 have r2:Vals (vs++dvs) (us++ds):=r.append hd;have hl:(us++ds).length=ps.length:=by rw[<- r2.length];exact F.len _ _ _ _ h
 refine wpAny_call (codeAny_mono (F.run X.A X.stack s H ⟨us,[]⟩ (us++ds) (vs++dvs) Q E hr I.env0 (hb s us I.kIn hl) r2 h) λr s' hq=>?_);cases r with
 |error e=>exact hx pins σ H s e s' I hq
 |ok fl=>
  cases fl with
  |ret u=>exact I.after hq
  |next=>exact False.elim hq
  |brk=>exact False.elim hq
  |cont=>exact False.elim hq
variable{x:Str}{e:Expr}{t:TA}{es:List Expr}
theorem jq_(F:FnOk X.prog X.w X.K X.mg X.base CX k f fd ps sp)(hr:Room k X.A)(hg:Gl X x)(hm:X.mg x=some (.ref f))(hk:PySem.W.keepIn X.K (.ref f)=true)(hb:b5' X.K fd ps ds)(hd:Vals dvs ds)(hx:bH' CX X E)
  (ha:PA X (e::es) t) (hdb:(x == ("__debug__":Str))=false:=by decide) (he:starEach (e::es) X.env=(false,eval e X.env)::starEach es X.env:=by rfl) (hpl:(backTo pos (starEach es X.env)).any (·.1)=false:=by rfl) :
  PE X (.Call (.Name x p) (e::es) [] pos) (tCall sp dvs E t):=by
 intro pins s σ H Q I h;refine wpAny_Call_Name_kw (do_ I hg hm ?_ hdb);refine PySem.W.callWith_K (h₀:=X.base) I.ok.mod.kin hk (thn (ha pos pins s σ H _ I h) λus s1 ⟨vs,H1,I1,r,q⟩=>⟨I1.kIn,?_⟩) he hpl;exact gl_ F hr hb hd hx I1 r q
variable{o:Expr}{ta:TE}{pl:Sem Bool}{C:Addr}{m:Str}{apos:Pos}
theorem hy_(he:PE X o ta)(c:Cls X.K C)(hm:Meth X.K C m f)(F:FnOk X.prog X.w X.K X.mg X.base CX k f fd ps sp)(hr:Room k X.A)(hb:b5' X.K fd ps ds)(hd:Vals dvs ds)(hx:bH' CX X E)(ha:PA X (e::es) t)(hst:starEach (e::es) X.env=(false,eval e X.env)::starEach es X.env:=by rfl)(hpl:(backTo pos (starEach es X.env)).any (·.1)=false:=by rfl)(ht:eval (.Call (.Attribute o m apos) (e::es) [] pos) X.env=(do
   let ov <- eval o X.env
   standAt apos.atName
   let (f,first) <- holding [ov] (getMethod ov m pl)
   callWith pos f first (backTo pos (starEach (e::es) X.env)) (backToKw pos (keywordEach [] X.env))):=by rfl) :
  PE X (.Call (.Attribute o m apos) (e::es) [] pos) (tMeth C m sp dvs E ta t):=by
 intro pins s σ H Q I h;refine PySem.W.methodCall_KW (pl:=pl) (thn (he pins s σ H _ I h) λu s1 ⟨x,H1,I1,rx,a,dx,fs,ex,ea,l,q⟩=>?_) ht;subst ex;obtain rfl:u=Value.ref a:=rx;refine d3_ I1 ea c hm l ?_;refine PySem.W.callWith_K (first:=[.ref a]) (h₀:=X.base) I.ok.mod.kin hm.kp (thn (ha pos pins s1 σ H1 _ I1 q) λus s2 ⟨vs,H2,I2,r,q2⟩=>⟨I2.kIn,?_⟩) hst hpl;exact gl_ (us:=.ref a::us) (vs:=.ref a::vs) F hr hb hd hx I2 (.cons rfl r) q2
theorem ii_(he:PE X o ta)(c:Cls X.K C)(hm:Meth X.K C m f)(F:FnOk X.prog X.w X.K X.mg X.base CX k f fd ps sp)(hr:Room k X.A)(hb:b5' X.K fd ps ds)(hd:Vals dvs ds)(hx:bH' CX X E)(ht:eval (.Call (.Attribute o m apos) [] [] pos) X.env=(do
   let ov <- eval o X.env
   standAt apos.atName
   let (f,first) <- holding [ov] (getMethod ov m pl)
   callWith pos f first (backTo pos (starEach [] X.env)) (backToKw pos (keywordEach [] X.env))):=by rfl) :
  PE X (.Call (.Attribute o m apos) [] [] pos) (tMeth C m sp dvs E ta tNil):=by
 intro pins s σ H Q I h;refine PySem.W.methodCall_KW (pl:=pl) (thn (he pins s σ H _ I h) λu s1 ⟨x,H1,I1,rx,a,dx,fs,ex,ea,l,q⟩=>?_) ht;subst ex;obtain rfl:u=Value.ref a:=rx;refine d3_ I1 ea c hm l ?_;exact PySem.W.callWith_K0 (first:=[.ref a]) I1.kIn hm.kp (gl_ (us:=[.ref a]) (vs:=[.ref a]) F hr hb hd hx I1 (.cons rfl .nil) q)
structure Mk (K:F__) (C f:Addr):Prop where
 makes:PySem.W.makesIn K C=true
 init:PySem.W.findIn K (.ref C) "__init__"=some (some (.ref f))
 fn:PySem.W.isFn K (.ref f)=true
 kp:PySem.W.keepIn K (.ref C)=true
theorem ic_{s:Ac}{us:List Aa}(M:Mk X.K C f)(F:FnOk X.prog X.w X.K X.mg X.base CX k f fd ps sp)(hr:Room (k+1) X.A)(hb:b5' X.K fd ps ds)(hd:Vals dvs ds)(hx:bH' CX X E)(I:Inv X pins σ H s)(r:Vals vs us)(h:∀x dx,H x=none->H dx=none->dx≠x->sp (.ref x::(vs++dvs)) (upd (upd H dx (.own x)) x (.ins C dx [])) (λv H2=>v=.non/\Q (.ref x) H2) E) :
  wpAny (model X.prog X.w) X.A (call (.ref C) us) (EP X pins σ Q) X.xe s:=by
 have hq:=h (s.heap.objs.size+1) s.heap.objs.size (I.hok.fresh (Nat.le_succ _)) (I.hok.fresh (ai' _)) (ap' (Nat.lt_succ_self _));have I2:=Inv.made (C:=C) I;have r2:Vals (V.ref (s.heap.objs.size+1)::(vs++dvs)) (Value.ref (s.heap.objs.size+1)::(us++ds)):=.cons rfl (r.append hd)
 have hl:(Value.ref (s.heap.objs.size+1)::us++ds).length=ps.length:=by
  have e:=r2.length;rw[F.len _ _ _ _ hq] at e;exact e.symm
 refine wpAny_call (il_ (f:=f) I.kIn M.makes M.init (beq_iff_eq.mp M.fn) (codeAny_mono (F.run _ X.stack _ _ ⟨Value.ref (s.heap.objs.size+1)::us,[]⟩ (Value.ref (s.heap.objs.size+1)::(us++ds)) _ _ E (hr.make C us [])
  (I2.env0.make C us []) (hb _ (Value.ref (s.heap.objs.size+1)::us) I2.kIn hl) r2 hq) λr s' hq'=>?_))
 cases r with
 |error e=>exact hx pins σ _ _ e s' I2 hq'
 |ok fl=>
  cases fl with
  |ret u=>
   obtain⟨v,H',I3,rv,ev,q3⟩:=I2.after hq';subst ev;exact⟨rv,⟨V.ref (s.heap.objs.size+1),H',I3,rfl,q3⟩⟩
  |next=>exact False.elim hq'
  |brk=>exact False.elim hq'
  |cont=>exact False.elim hq'
theorem jB_(M:Mk X.K C f)(F:FnOk X.prog X.w X.K X.mg X.base CX k f fd ps sp)(hr:Room (k+1) X.A)(hg:Gl X x)(hm:X.mg x=some (.ref C))(hb:b5' X.K fd ps ds)(hd:Vals dvs ds)(hx:bH' CX X E)
  (ha:PA X (e::es) t) (hdb:(x == ("__debug__":Str))=false:=by decide) (he:starEach (e::es) X.env=(false,eval e X.env)::starEach es X.env:=by rfl) (hpl:(backTo pos (starEach es X.env)).any (·.1)=false:=by rfl) :
  PE X (.Call (.Name x p) (e::es) [] pos) (tMake C sp dvs E t):=by
 intro pins s σ H Q I h;refine wpAny_Call_Name_kw (do_ I hg hm ?_ hdb);refine PySem.W.callWith_K (h₀:=X.base) I.ok.mod.kin M.kp (thn (ha pos pins s σ H _ I h) λus s1 ⟨vs,H1,I1,r,q⟩=>⟨I1.kIn,?_⟩) he hpl;exact ic_ M F hr hb hd hx I1 r q
def PK(X:Cx)(kws:List Keyword)(t:TA):Prop:=
 ∀(pos:Pos) (pins:List (Addr × Obj)) (s:Ac) (σ:St) (H:Hp) (Q:List V->Hp->Prop),Inv X pins σ H s->t σ H Q->wpAny (model X.prog X.w) X.A (evalAll ((backToKw pos (keywordEach kws X.env)).map (·.2))) (AP X pins σ Q) X.xe s
theorem gk_:PK X [] tNil:=λ_ _ _ _ H Q I h=>wpAny_evalAll_nil ⟨[],H,I,.nil,h⟩
variable{te:TE}{kpos:Pos}{kws:List Keyword}{nm:Option Str}
theorem em_(ha:PE X e te)(hr:PK X kws t):PK X (⟨nm,e,kpos⟩::kws) (tCons te t):=by
 intro pos pins s σ H Q I h;show wpAny _ _ (evalAll ((do let v <- eval e X.env;standAt pos;pure v)::(backToKw pos (keywordEach kws X.env)).map (·.2))) _ _ s;refine wpAny_evalAll_cons (a__ (thn (ha pins s σ H _ I h) λu s1 ⟨x,H1,I1,r1,q1⟩=>a__ (wpAny_standAt (a_6 ?_))));exact thn (hr pos pins s1 σ H1 _ I1 q1) λus s2 ⟨xs,H2,I2,r2,q2⟩=>⟨x::xs,H2,I2,.cons r1 r2,q2⟩
structure KBinds (K:F__) (fd:Ad) (ps ks:List Str) (g:List Aa->List Aa->List Aa) (gV:List V->List V->List V):Prop where
 to:∀(s:Ac) (us ws:List Aa),K.In s.heap->(g us ws).length=ps.length->BindsTo s fd ⟨us,ks.zip ws⟩ (ps.zip (g us ws))
 rel:∀{vs:List V} {us:List Aa} {zs:List V} {ws:List Aa},Vals vs us->Vals zs ws->Vals (gV vs zs) (g us ws)
structure a3' (N P:List Str) (sc:Scope):Prop where
 kind:sc.kind=.function
 co:sc.isCoroutine=false
 gen:sc.isGenerator=false
 nd:N.Nodup
 pre:N.take P.length=P
 par:∀x∈P,sc.names.lookup x=some .local∨sc.names.lookup x=some .cell
 nofree:∀y∈sc.names,y.2≠.free
theorem ei_{kindOf:Str->Option NameKind}{x:Str}:∀{binds:List (Str × Aa)} {m:Str->Option Aa},(∀v,(x,v)∉binds)->bindL kindOf binds m x=m x
 |[],_,_=>rfl
 |(n,v)::r,m,h=>by
  unfold bindL;rw[ei_ λw hw=>h w (ad' _ hw)];split
  ·have:x≠n:=by rintro rfl;exact h v ag'
   simp[this]
  ·rfl
theorem dY_{kindOf:Str->Option NameKind}{x:Str}:∀{binds:List (Str × Aa)} {m:Str->Option Aa},(∀v,(x,v)∉binds)->bindC kindOf binds m x=m x
 |[],_,_=>rfl
 |(n,v)::r,m,h=>by
  unfold bindC;rw[dY_ λw hw=>h w (ad' _ hw)];split
  ·rfl
  ·have:x≠n:=by rintro rfl;exact h v ag'
   simp[this]
theorem dL_{kindOf:Str->Option NameKind}{x:Str}{v:Aa}:∀{P:List Str} {vs:List Aa} {i:Nat} {m:Str->Option Aa},P.Nodup->P[i]? = some x->vs[i]? = some v->kindOf x=some .local->
  bindL kindOf (P.zip vs) m x=some v
 |[],_,_,_,_,h,_,_=>by simp at h
 |_::_,[],_,_,_,_,h,_=>by simp at h
 |p::P,w::vs,0,m,nd,h1,h2,hk=>by
  simp at h1 h2;subst h1;subst h2;show bindL kindOf ((p,w)::P.zip vs) m p=_;unfold bindL;rw[ei_ λv hv=>(aP'.mp nd).1 (List.of_mem_zip hv).1,a_9 hk];simp
 |p::P,w::vs,i+1,m,nd,h1,h2,hk=>by
  show bindL kindOf ((p,w)::P.zip vs) m x=_;unfold bindL;exact dL_ (i:=i) (aP'.mp nd).2 (by simpa using h1) (by simpa using h2) hk
theorem dW_{kindOf:Str->Option NameKind}{x:Str}{v:Aa}:∀{P:List Str} {vs:List Aa} {i:Nat} {m:Str->Option Aa},P.Nodup->P[i]? = some x->vs[i]? = some v->kindOf x≠some .local->
  bindC kindOf (P.zip vs) m x=some v
 |[],_,_,_,_,h,_,_=>by simp at h
 |_::_,[],_,_,_,_,h,_=>by simp at h
 |p::P,w::vs,0,m,nd,h1,h2,hk=>by
  simp at h1 h2;subst h1;subst h2;show bindC kindOf ((p,w)::P.zip vs) m p=_;unfold bindC;rw[dY_ λv hv=>(aP'.mp nd).1 (List.of_mem_zip hv).1,a_4 hk];simp
 |p::P,w::vs,i+1,m,nd,h1,h2,hk=>by
  show bindC kindOf ((p,w)::P.zip vs) m x=_;unfold bindC;exact dW_ (i:=i) (aP'.mp nd).2 (by simpa using h1) (by simpa using h2) hk
def start(N:List Str)(vs:List V):St:=vs.map some++List.replicate (N.length - vs.length) none
def cxOf(CX:CXT)(P:Ae)(w:Af)(K:F__)(mg:Str->Option Aa)(base:Heap)(N:List Str)(qual:Str)(scope:Scope)(f:Addr)(cd:Aa)(A:Ag)(outer:List Env)(s:Ac)(H:Hp)(E:XK):Cx where
 prog:=P
 w:=w
 K:=K
 mg:=mg
 base:=base
 A:=A.deeper (envOfC qual scope s.heap.objs.size f cd)
 N:=N
 s₀:=s
 H₀:=H
 env:=envOfC qual scope s.heap.objs.size f cd
 outer:=outer
 stack:=envOfC qual scope s.heap.objs.size f cd::outer
 ex:=[]
 calm:=true
 fn:=λ_=>true
 pn:=[]
 xe:=λe s'=>wpAny (model P w) (A.deeper (envOfC qual scope s.heap.objs.size f cd)) (leaving (envOfC qual scope s.heap.objs.size f cd) e) (λ_ s''=>CX outer H s E e s'') (λe' s''=>CX outer H s E e' s'') s'
theorem ff_{sc:Scope}(h:sc.names.lookup x=some .cell):∃c,(cellsFrom n sc.names []).lookup x=some c:=by
 have q:=PySem.W.cellsFrom_some sc.names n [] (.inl h);exact aG'.mp q
variable{N:List Str}{qual:Str}{scope:Scope}
theorem gM_{cd:Aa}{s s1:Ac}{us:List Aa}(S:a3' N ps scope)(hd:A.handled=none)(e0:Env0 P w K mg base A outer s H)(hl:vs.length=ps.length)(r:Vals vs us)(x:InCallC s s.heap.objs.size (bindL (envOfC qual scope s.heap.objs.size f cd).kindOf (ps.zip us) λ_=>none) (cellsFrom (s.heap.objs.size+1) scope.names []) (bindC (envOfC qual scope s.heap.objs.size f cd).kindOf (ps.zip us) λ_=>none) s1) :
  Inv (cxOf CX P w K mg base N qual scope f cd A outer s H E) [] (start N vs) H s1:=by
 have hpl:ps.length<=N.length:=by have:=b_9 List.length S.pre;rw[am'] at this;omega
 obtain⟨h1,tk,rfl,hk⟩:=x.done;have noA:∀b:Addr,b∉(cxOf CX P w K mg base N qual scope f cd A outer s H E).ex:=λb z=>absurd (show b∈([]:List Addr) from z) Z2
 refine⟨⟨e0.mod,S.kind,rfl,rfl,ai' _,λy z c h1 h2=>?_,λy hy=>?_,λy c _ h=>?_,λ_=>hd,Around.frames_deeper e0.frames,.inr ⟨rfl,rfl⟩,λb z=>absurd z (noA b),e0.bs,e0.bsz,λb _ _=>noA b,λb z=>absurd z (noA b),e0.funs,e0.frf⟩,
  rfl,e0.bare,Un.kept hk,⟨_,x.toInCall.ns,λi y v h1 h2 h3=>?_⟩,λy c h=>⟨_,x.cell y c h⟩,e0.hok.fresh (ai' _),λy c h=>?_,λp hp=>absurd (show p∈([]:List (Addr × Obj)) from hp) Z2,e0.hok.kept hk,?_⟩
 ·exact name_of_addr x.apart (b_3 h1) (b_3 h2)
 ·have hy:scope.names.lookup y=some .cell∨scope.names.lookup y=some .free:=hy;rcases hy with hy|hy
  ·exact ff_ hy
  ·exact absurd rfl (S.nofree _ (b_3 hy))
 ·exact Nat.le_of_lt (x.above y c (b_3 h))
 ·have hi:i<vs.length:=by
   unfold start at h2;by_cases hi:i<vs.length
   ·exact hi
   ·rw[aL' (by simpa using hi)] at h2;rw[List.getElem?_replicate] at h2;split at h2<;>cases h2
  have ha:vs[i]? = some v:=by
   unfold start at h2;rw[List.getElem?_append_left (by simpa using hi),aj'] at h2;cases e:vs[i]? with
   |none=>rw[e] at h2;cases h2
   |some a=>rw[e] at h2;cases h2;rfl
  obtain⟨u,hu,rv⟩:=r.get ha
  have hp:ps[i]? = some y:=by
   rw[<- S.pre,List.getElem?_take_of_lt Z1];exact h1
  have ndP:ps.Nodup:=by rw[<- S.pre];exact S.nd.sublist (List.take_sublist _ _)
  refine⟨u,rv,?_⟩;rcases S.par y (ae' hp) with k|k
  ·exact .inl ⟨k,dL_ ndP hp hu k⟩
  ·obtain⟨c,e⟩:=ff_ (n:=s.heap.objs.size+1) k;refine .inr ⟨.inl k,c,e,?_⟩;have q:=x.cell y c e;rw[dW_ ndP hp hu (by show scope.names.lookup y≠_;rw[k];decide)] at q;exact q
 ·exact e0.hok.fresh (Nat.le_of_lt (x.above y c (b_3 h)))
 ·unfold start;show _=N.length;rw[ar',aa',aV'];omega
theorem jI_{name:Str}{params:Arguments}{dV kV doc pm cdv ct oc:Aa}{an od:Option Addr}{osl:Array (Option Aa)}(lk:K.lookup f=some ⟨oc,od,.func (PySem.W.fnOf name qual params body scope dV kV doc pm an cdv ct),osl⟩)(hcd:PySem.W.codeIn K cdv qual=true)(S:a3' N ps scope)(len:∀vs H Q E,sp vs H Q E->vs.length=ps.length)(hbody:∀(A:Ag) (outer:List Env) (s:Ac) (H:Hp) (vs:List V) (Q:VK) (E:XK),Room k (A.deeper (envOfC qual scope s.heap.objs.size f cdv))->sp vs H Q E->
   ∃t,PSs (cxOf CX P w K mg base N qual scope f cdv A outer s H E) body t/\t { nx:=λ_ H'=>Q .non H',rt:=Q } (start N vs) H) :
  FnOk P w K mg base CX (k+1) f (PySem.W.fnOf name qual params body scope dV kV doc pm an cdv ct) ps sp:=by
 refine⟨len,λA outer s H args us vs Q E hr e0 hb r hsp=>?_⟩;have hl:=len _ _ _ _ hsp;have KX:K.In s.heap:=e0.mod.kin.keeps λb o e=>(e0.bs b o e).1;have lim:s.heap.NoLimit:=e0.mod.nolimit.keeps λb o e=>(e0.bs b o e).1
 have hkind:∀y∈ps.zip us,scope.names.lookup y.1=some .local∨(scope.names.lookup y.1=some .cell/\((cellsFrom (s.heap.objs.size+1) scope.names []).lookup y.1).isSome=true):=λ⟨n,v⟩ hy=>by
  rcases S.par n (List.of_mem_zip hy).1 with q|q
  ·exact .inl q
  ·exact .inr ⟨q,PySem.W.cellsFrom_some _ _ _ (.inl q)⟩
 refine codeAny_call_function hr.depth (KX _ _ lk) rfl S.co S.gen rfl (PySem.W.codeRec_of KX hcd) (hb _ _ _ _ ?_);refine wpAny_newFunctionEnv_cells S.kind hkind λenv he s1 x=>?_;subst he;refine⟨lim.keeps x.toInCall.keep,codeAny_func ?_⟩;obtain⟨t,ht,hq⟩:=hbody A outer s H vs Q E (hr.deeper _) hsp;have I:Inv (cxOf CX P w K mg base N qual scope f cdv A outer s H E) [] (start N vs) H s1:=gM_ S hr.hd e0 hl r x;refine c_2 (ht [] s1 (start N vs) H _ I hq) (λfl s' hs=>?_) λe s' hs=>hs
 have fin:∀{σ':St} {H':Hp} {v:V} {u:Aa},Inv (cxOf CX P w K mg base N qual scope f cdv A outer s H E) [] σ' H' s'->RelV v u->Q v H'->CE outer P w H s Q u s':=
  λ{σ' H' v u} J rv q=>⟨v,H',J.os,J.bare,J.base,J.hok,rv,q⟩
 cases fl with
 |ret u=>
  obtain⟨v,σ',H',J,rv,q⟩:=hs;exact fin J rv q
 |next=>
  obtain⟨σ',H',J,q⟩:=hs;exact fin (v:=V.non) (u:=Value.none) J rfl q
 |brk=>
  obtain⟨_,_,_,q⟩:=hs;exact False.elim q
 |cont=>
  obtain⟨_,_,_,q⟩:=hs;exact False.elim q
def tCB(r:List V->Hp->VK->Prop)(t:TA):TE:=λσ H Q=>t σ H λvs H1=>r vs H1 Q
variable{r:List V->Hp->VK->Prop}{id:String}
theorem ab_(hc:bp' X (.builtin id) r)(hg:Gl X x)(hm:X.mg x=none)(hv:bootBuiltins x=some (.builtin id))(ha:PA X (e::es) t)(hn:x≠"__name__":=by decide)(hdb:(x == ("__debug__":Str))=false:=by decide)
  (he:starEach (e::es) X.env=(false,eval e X.env)::starEach es X.env:=by rfl) (hpl:(backTo pos (starEach es X.env)).any (·.1)=false:=by rfl):PE X (.Call (.Name x p) (e::es) [] pos) (tCB r t):=by
 intro pins s σ H Q I h;refine wpAny_Call_Name_kw (cH_ I hg hm hv ?_ hn hdb);exact PyProof.Rows.callWith_builtin1 (thn (ha pos pins s σ H _ I h) λus s1 ⟨vs,H1,I1,r1,q1⟩=>hc pins s1 σ H1 vs us Q I1 r1 q1) he hpl
variable{T:String}
theorem aG_(hc:bp' X (.type T) r)(hg:Gl X x)(hm:X.mg x=none)(hv:bootBuiltins x=some (.type T))(ha:PA X (e::es) t)(hn:x≠"__name__":=by decide)(hdb:(x == ("__debug__":Str))=false:=by decide)
  (he:starEach (e::es) X.env=(false,eval e X.env)::starEach es X.env:=by rfl) (hpl:(backTo pos (starEach es X.env)).any (·.1)=false:=by rfl):PE X (.Call (.Name x p) (e::es) [] pos) (tCB r t):=by
 intro pins s σ H Q I h;refine wpAny_Call_Name_kw (cH_ I hg hm hv ?_ hn hdb);exact PyProof.Rows.callWith_type1 (thn (ha pos pins s σ H _ I h) λus s1 ⟨vs,H1,I1,r1,q1⟩=>hc pins s1 σ H1 vs us Q I1 r1 q1) he hpl
end L2
namespace HT
open PySem PyProof.Rows
section
open PySem.SeqAt
open PySem.AutoSeq1 (wpAny_loadPart')
open PySem.MeetsSeq PySem.MeetsSeq2 PySem.MeetsSeq3
end
def sIx(n d:Nat):Option Int->Nat
 |none=>d
 |some v=>if v<0 then (v+(n:Int)).toNat else min v.toNat n
theorem sIx_none(n d:Nat):sIx n d none=d:=rfl
theorem sIx_nat(n d k:Nat):sIx n d (some (k:Int))=min k n:=by
 show (if (k:Int)<0 then ((k:Int)+(n:Int)).toNat else min (k:Int).toNat n)=min k n;rw[a_4 Z1,aU']
end HT
namespace L2
open PySem PySem.Spec PyProof.Rows
abbrev TO:=St->Hp->(Option Int->Hp->Prop)->Prop
def PO(X:Cx)(e:Option Expr)(t:TO):Prop:=
 ∀(pins:List (Addr × Obj)) (s:Ac) (σ:St) (H:Hp) (Q:Option Int->Hp->Prop),Inv X pins σ H s->t σ H Q->
  wpAny (model X.prog X.w) X.A (evalPart e X.env) (λu s'=>∃o H',Inv X pins σ H' s'/\IsPart u o/\Q o H') X.xe s
def tNoPart:TO:=λ_ H Q=>Q none H
inductive tPartR (Q:Option Int->Hp->Prop) (x:V) (H1:Hp):Prop
 |mk:∀i,x=.int i->Q (some i) H1->tPartR Q x H1
def tPart(t:TE):TO:=λσ H Q=>t σ H λx H1=>tPartR Q x H1
section
variable{X:Cx}{e:Expr}{te:TE}{lo hi:Option Expr}{tl th:TO}{pos p2:Pos}
theorem cz_:PO X none tNoPart:=by
 intro pins s σ H Q I h;rw[evalPart_none];exact a_6 ⟨none,H,I,.none,h⟩
theorem cn_(h:PE X e te):PO X (some e) (tPart te):=by
 intro pins s σ H Q I hw;rw[evalPart_some];refine thn (h pins s σ H _ I hw) λu s1 ⟨x,H1,I1,r1,q1⟩=>?_;obtain⟨i,rfl,q⟩:=q1;obtain⟨t,rfl⟩:=r1;exact⟨some i,H1,I1,.int i t,q⟩
def SlR(X:Cx)(r:V->Option Int->Option Int->Hp->VK->Prop):Prop:=
 ∀(pins:List (Addr × Obj)) (s:Ac) (σ:St) (H:Hp) (x:V) (v vl vu:Aa) (lo hi:Option Int) (sl:Addr) (Q:VK),Inv X pins σ H s->RelV x v->s.heap.IsSliceOf sl vl vu .none->IsPart vl lo->IsPart vu hi->r x lo hi H Q->
  ∃T id,typeLookup (.type T) "__getitem__"=pure (some (.builtin id))/\s.TypeIs v T/\wpAny (model X.prog X.w) X.A (getItem v (.ref sl)) (EP X pins σ Q) X.xe s
def tSl(r:V->Option Int->Option Int->Hp->VK->Prop)(te:TE)(tl th:TO):TE:=λσ H Q=>te σ H λx H1=>tl σ H1 λl H2=>th σ H2 λu H3=>r x l u H3 Q
theorem bP_{r:V->Option Int->Option Int->Hp->VK->Prop}(hr:SlR X r)(he:PE X e te)(hl:PO X lo tl)(hu:PO X hi th):PE X (.Subscript e (.Slice lo hi none p2) pos) (tSl r te tl th):=by
 intro pins s σ H Q I h;refine Subscript_ (thn (he pins s σ H _ I h) λv s1 ⟨x,H1,I1,r1,q1⟩=>?_);refine wpAny_Slice (thn (hl pins s1 σ H1 _ I1 q1) λvl s2 ⟨l,H2,I2,pl,q2⟩=>thn (hu pins s2 σ H2 _ I2 q2) λvu s3 ⟨u,H3,I3,pu,q3⟩=>?_);rw[evalPart_none];refine a_6 ?_;have I4:Inv X pins σ H3 { s3 with heap:=s3.heap.push { cls:=.type "slice",data:=.fields #[vl,vu,.none] } }:=I3.kept (t':=s3.toks) λb ob q=>a_0 _ q;obtain⟨T,id,hT,ht,hg⟩:=hr pins { s3 with heap:=s3.heap.push { cls:=.type "slice",data:=.fields #[vl,vu,.none] } } σ H3 x v vl vu l u s3.heap.objs.size Q I4 r1 (Heap.IsSliceOf.new ..) pl pu q3;show wpAny (model X.prog X.w) X.A (subscriptTail e (.Slice lo hi none p2) v (.ref s3.heap.objs.size)) (EP X pins σ Q) X.xe { s3 with heap:=s3.heap.push { cls:=.type "slice",data:=.fields #[vl,vu,.none] } };exact tail_any (ops:=[.ref s3.heap.objs.size,v]) ht hT hg (by with_unfolding_all rfl)
def cutV(xs:List V)(lo hi:Option Int):List V:=(xs.drop (HT.sIx xs.length 0 lo)).take (HT.sIx xs.length xs.length hi - HT.sIx xs.length 0 lo)
theorem et_(xs:List V)(lo hi:Option Int):(cutV xs lo hi).length<=xs.length:=by
 unfold cutV;rw[am',List.length_drop];omega
end
def ixN(n:Nat)(i:Int):Option Nat:=if 0<=i then (if i<n then some i.toNat else none) else if -(n:Int)<=i then some (i+n).toNat else none
def atI{α:Type}(xs:List α)(i:Int):Option α:=(ixN xs.length i).bind λj=>xs[j]?
variable{j n:Nat}
theorem hv_{i:Int}(h:ixN n i=some j):seqIndex? i n=some j/\j<n/\-(n:Int)<=i/\i<n:=by
 unfold ixN at h;by_cases h0:0<=i
 ·rw[a_9 h0] at h;by_cases h1:i<n
  ·rw[a_9 h1] at h;have e:i.toNat=j:=a_8 h;exact⟨by rw[seqIndex_of h0 h1,e],by omega,by omega,h1⟩
  ·rw[a_4 h1] at h;cases h
 ·rw[a_4 h0] at h;by_cases h1:-(n:Int)<=i
  ·rw[a_9 h1] at h;have e:(i+n).toNat=j:=a_8 h;exact⟨by rw[seqIndex_neg Z1 h1,e],by omega,h1,by omega⟩
  ·rw[a_4 h1] at h;cases h
theorem gj_{α:Type}{xs:List α}{i:Int}{v:α}(h:atI xs i=some v):∃j,seqIndex? i xs.length=some j/\xs[j]? = some v/\j<xs.length/\-(xs.length:Int)<=i/\i<xs.length:=by
 unfold atI at h;cases e:ixN xs.length i with
 |none=>rw[e] at h;cases h
 |some j=>
  rw[e] at h;obtain⟨h1,h2,h3,h4⟩:=hv_ e;exact⟨j,h1,h,h2,h3,h4⟩
theorem bz'{α:Type}{xs:List α}{v:α}(h:xs[j]? = some v):atI xs (j:Int)=some v:=by
 have hj:j<xs.length:=(ac'.mp h).1
 have e:ixN xs.length (j:Int)=some j:=by
  unfold ixN;rw[a_9 Z1,a_9 Z1];simp
 unfold atI;rw[e];exact h
def PlainIx(b:Expr):Prop:=∀o i,subscripted b false o i=operate [o,i] (getItem o i)
def IxR(X:Cx)(r:R2):Prop:=
 ∀(value slice:Expr) (pins:List (Addr × Obj)) (s:Ac) (σ:St) (H:Hp) (x y:V) (v u:Aa) (Q:VK),Inv X pins σ H s->RelV x v->RelV y u->r x y H Q->
  subscripted slice false v u=operate [v,u] (getItem v u)->wpAny (model X.prog X.w) X.A (subscriptTail value slice v u) (EP X pins σ Q) X.xe s
def MtR(X:Cx)(id:String)(r:V->List V->Hp->VK->Prop):Prop:=
 ∀(pins:List (Addr × Obj)) (s:Ac) (σ:St) (H:Hp) (x:V) (xs:List V) (v:Aa) (us:List Aa) (Q:VK),Inv X pins σ H s->RelV x v->Vals xs us->r x xs H Q->
  wpAny (model X.prog X.w) X.A (call (.builtin id) (v::us)) (EP X pins σ Q) X.xe s
section
variable{X:Cx}{a b:Expr}{ta tb:TE}{pos:Pos}
theorem au_{r:R2}(hr:IxR X r)(ha:PE X a ta)(hb:PE X b tb)(hs:PlainIx b):PE X (.Subscript a b pos) (tOp r ta tb):=by
 intro pins s σ H Q I h;exact Subscript_ (binT ha hb I h λv u s2 x y H2 I2 rx ry q=>hr a b pins s2 σ H2 x y v u Q I2 rx ry q (hs _ _))
inductive rIxL (K:F__) (x:V) (y:V) (H:Hp) (Q:VK):Prop
 |mk:∀p xs i v,x=.ref p->y=.int i->SqL K H p xs->atI xs i=some v->Q v H->rIxL K x y H Q
inductive rIxT (K:F__) (x:V) (y:V) (H:Hp) (Q:VK):Prop
 |mk:∀p xs i v,x=.ref p->y=.int i->SqT K H p xs->atI xs i=some v->Q v H->rIxT K x y H Q
theorem b6_:IxR X (rIxL X.K):=by
 intro value slice pins s σ H x y v u Q I rx ry h hs;obtain⟨p,xs,i,z,rfl,rfl,hq,he,q⟩:=h;cases rx;obtain⟨t,rfl⟩:=ry;obtain⟨its,r,pl,hz⟩:=I.list hq;obtain⟨j,h1,h2,h3,h4,h5⟩:=gj_ he;obtain⟨w,ew,rw'⟩:=r.get h2;have hl:=r.length;have hn:=line63;have fin:EP X pins σ Q w s:=⟨z,H,I,rw',q⟩;by_cases h0:0<=i
 ·have hj:i.toNat=j:=by
   rw[seqIndex_of h0 h5] at h1;exact a_8 h1
  exact item_listR pl.isList h0 Z1 (by rw[hj];simpa using ew) fin hs
 ·have hj:(i+(its.toArray.size:Int)).toNat=j:=by
   rw[seqIndex_neg Z1 h4] at h1;rw[ah',<- hl];exact a_8 h1
  exact subscriptTail_builtinR (x:=w) pl.isList.typeIs slot_list_getitem.lookup
   (wpAny_getItem_list_neg (Q:=λr s'=>r=w/\EP X pins σ Q r s') pl.isList Z1 (by rw[ah']<;>omega) Z1 (by rw[hj];simpa using ew) ⟨rfl,fin⟩) hs
theorem ap_:IxR X (rIxT X.K):=by
 intro value slice pins s σ H x y v u Q I rx ry h hs;obtain⟨p,xs,i,z,rfl,rfl,hq,he,q⟩:=h;cases rx;obtain⟨t,rfl⟩:=ry;obtain⟨its,r,pl,hz⟩:=I.tuple hq;obtain⟨j,h1,h2,h3,h4,h5⟩:=gj_ he;obtain⟨w,ew,rw'⟩:=r.get h2;have hl:=r.length;have hn:=line63;have fin:EP X pins σ Q w s:=⟨z,H,I,rw',q⟩
 exact subscriptTail_builtinR (x:=w) pl.typeIs slot_tuple_getitem.lookup
  (getItem_tuple (j:=j) (Q:=λr s'=>r=w/\EP X pins σ Q r s') pl Z1 Z1 (by rw[ah',<- hl];exact h1) (by simpa using ew) ⟨rfl,fin⟩) hs
theorem fw_(its:List Aa)(n j:Nat)(u:Aa):Obj.mapSeq (·.setIfInBounds j u) { cls:=.type "list",data:=.seq its.toArray n }={ cls:=.type "list",data:=.seq (its.set j u).toArray n }:=by
 simp[Obj.mapSeq]
theorem Inv.lst{pins:List (Addr × Obj)}{σ:St}{H:Hp}{s:Ac}{p:Addr}{xs:List V}(I:Inv X pins σ H s)(h:H p=some (.lst xs)) :
  ∃(its:List Aa) (n:Nat),Vals xs its/\s.heap.get? p=some { cls:=.type "list",data:=.seq its.toArray n }/\xs.length<=sizeLine:=by
 obtain⟨z,its,n,r,e⟩:=I.hok p _ h;exact⟨its,n,r,e,z⟩
theorem Inv.lstUpd{pins:List (Addr × Obj)}{σ:St}{H:Hp}{s:Ac}{p:Addr}{xs ys:List V}{its its':List Aa}{n':Nat}{f:Obj->Obj}(I:Inv X pins σ H s)(h:H p=some (.lst xs))(ho:s.heap.get? p=some { cls:=.type "list",data:=.seq its.toArray n })(hf:f { cls:=.type "list",data:=.seq its.toArray n }={ cls:=.type "list",data:=.seq its'.toArray n' })(r:Vals ys its')(hz:ys.length<=sizeLine)(t:Nat) :
  Inv X pins σ (upd H p (.lst ys)) { s with heap:=s.heap.update p f,toks:=t }:=by
 have e:(s.heap.update p f).get? p=some { cls:=.type "list",data:=.seq its'.toArray n' }:=by
  rw[Heap.get?_update_self f ho (by rw[hf]<;>rfl),hf]
 refine I.write (x:=p) (e:=p) (by rw[h];trivial) (.inl rfl) (λb u hb q=>(b_0 _ _ (Ne.symm hb)).trans q) ⟨_,e⟩ ?_;exact⟨hz,its',n',r,e⟩
inductive rSetL (o:V) (i:V) (v:V) (H:Hp) (Q:Hp->Prop):Prop
 |mk:∀p xs k j,o=.ref p->i=.int k->H p=some (.lst xs)->ixN xs.length k=some j->Q (upd H p (.lst (xs.set j v)))->rSetL o i v H Q
theorem f4_:PSet X rSetL:=by
 intro pins s σ H o i v ov iv u Q I ro ri rv h;obtain⟨p,xs,k,j,rfl,rfl,hp,hj,q⟩:=h;cases ro;obtain⟨t,rfl⟩:=ri;obtain⟨its,n,r,ho,hz⟩:=I.lst hp;obtain⟨h1,h2,h3,h4⟩:=hv_ hj;have hl:=r.length;have hn:=line63
 have I':Inv X pins σ (upd H p (.lst (xs.set j v))) { s with heap:=s.heap.update p (Obj.mapSeq (·.setIfInBounds j u)) }:=
  I.lstUpd hp ho (fw_ its n j u) (r.set rv j) (by rw[List.length_set];exact hz) s.toks
 by_cases h0:0<=k
 ·have hk:k.toNat=j:=by
   rw[seqIndex_of h0 h4] at h1;exact a_8 h1
  exact PySem.W.ki_setAt ho h0 Z1 (by rw[ah',<- hl];exact h4) (by rw[hk];exact⟨_,I',q⟩)
 ·have hk:(k+(its.toArray.size:Int)).toNat=j:=by
   rw[seqIndex_neg Z1 h3] at h1;rw[ah',<- hl];exact a_8 h1
  exact PySem.W.ki_setBack ho Z1 (by rw[ah',<- hl];exact h3) Z1 (by rw[hk];exact⟨_,I',q⟩)
theorem e7_(lo hi:Option Int)(n:Nat):(sliceBounds lo hi none n).1=((HT.sIx n 0 lo:Nat):Int)/\(sliceBounds lo hi none n).2.1=((HT.sIx n n hi:Nat):Int)/\(sliceBounds lo hi none n).2.2=1:=by
 refine⟨?_,?_,rfl⟩
 ·cases lo with
  |none=>simp[sliceBounds,HT.sIx]
  |some i=>
   simp only[sliceBounds,HT.sIx,Option.getD_none,show (1:Int) > 0 by decide,if_true];by_cases h:i<0
   ·simp only[h,if_true]<;>omega
   ·simp only[h,if_false]<;>omega
 ·cases hi with
  |none=>simp[sliceBounds,HT.sIx]
  |some i=>
   simp only[sliceBounds,HT.sIx,Option.getD_none,show (1:Int) > 0 by decide,if_true];by_cases h:i<0
   ·simp only[h,if_true]<;>omega
   ·simp only[h,if_false]<;>omega
theorem dx_(its:List Aa)(lo hi:Option Int):slicePick its.toArray lo hi none=((its.drop (HT.sIx its.length 0 lo)).take (HT.sIx its.length its.length hi - HT.sIx its.length 0 lo)).toArray:=by
 obtain⟨h1,h2,h3⟩:=e7_ lo hi its.toArray.size;unfold slicePick;rw[h1,h2,h3];simp only[sliceRange_one,pick_run,ah']<;>rfl
inductive rSlL (K:F__) (x:V) (lo:Option Int) (hi:Option Int) (H:Hp) (Q:VK):Prop
 |mk:∀a xs,x=.ref a->SqL K H a xs->(∀p,H p=none->Q (.ref p) (upd H p (.lst (cutV xs lo hi))))->rSlL K x lo hi H Q
theorem j9_:SlR X (rSlL X.K):=by
 intro pins s σ H x v vl vu lo hi sl Q I rx hs pl pu h;obtain⟨a,xs,rfl,hx,q⟩:=h;cases rx;obtain⟨its,r,ht,hz⟩:=I.list hx;have hlen:=r.length;refine⟨"list",_,slot_list_getitem.lookup,ht.isList.typeIs,?_⟩;refine wpAny_getItem_list_slice ht.isList hs pl pu .none Z2 ?_ (by rw[ah']<;>omega)
 rw[dx_,<- hlen];refine⟨.ref s.heap.objs.size,_,I.laid (t':=s.toks) (o:=.lst (cutV xs lo hi)) (λb ob q=>a_0 _ q) (ai' _) ?_,rfl,q _ (I.hok.fresh (ai' _))⟩;exact⟨aM' (et_ xs lo hi) hz,_,0,(r.drop (HT.sIx xs.length 0 lo)).take (HT.sIx xs.length xs.length hi - HT.sIx xs.length 0 lo),a_1 _ rfl⟩
def cx':V->Bool
 |.non=>true
 |.bl _=>true
 |.int _=>true
 |.str _=>true
 |_=>false
def eqV:V->V->Bool
 |.non,.non=>true
 |.bl a,.bl b=>a == b
 |.bl a,.int b=>(if a then 1 else 0) == b
 |.int a,.bl b=>a == (if b then 1 else 0)
 |.int a,.int b=>a == b
 |.str a,.str b=>a == b
 |_,_=>false
theorem eX_{A:Ag}{s:Ac}{y x:V}{u v:Aa}(ry:RelV y u)(rx:RelV x v)(fy:cx' y=true)(fx:cx' x=true):SeqAt.EqAt A s u v (eqV y x):=by
 cases y with
 |non=>
  cases ry;cases x with
  |non=>cases rx;exact SeqAt.EqAt.same _
  |bl b=>cases rx;exact SeqAt.EqAt.none_bool b
  |int b=>obtain⟨t,rfl⟩:=rx;exact SeqAt.EqAt.none_int b t
  |str b=>obtain⟨t,rfl⟩:=rx;exact SeqAt.EqAt.none_str b t
  |_=>exact absurd (show false=true from fx) aq'
 |bl a=>
  cases ry;cases x with
  |non=>cases rx;exact SeqAt.EqAt.bool_none a
  |bl b=>cases rx;exact SeqAt.EqAt.bool_bool a b
  |int b=>obtain⟨t,rfl⟩:=rx;exact SeqAt.EqAt.bool_int a b t
  |str b=>obtain⟨t,rfl⟩:=rx;exact SeqAt.EqAt.bool_str a b t
  |_=>exact absurd (show false=true from fx) aq'
 |int a=>
  obtain⟨t',rfl⟩:=ry;cases x with
  |non=>cases rx;exact SeqAt.EqAt.int_none a t'
  |bl b=>cases rx;exact SeqAt.EqAt.int_bool a t' b
  |int b=>obtain⟨t,rfl⟩:=rx;exact SeqAt.EqAt.int_int a t' b t
  |str b=>obtain⟨t,rfl⟩:=rx;exact SeqAt.EqAt.int_str a t' b t
  |_=>exact absurd (show false=true from fx) aq'
 |str a=>
  obtain⟨t',rfl⟩:=ry;cases x with
  |non=>cases rx;exact SeqAt.EqAt.str_none a t'
  |bl b=>cases rx;exact SeqAt.EqAt.str_bool a t' b
  |int b=>obtain⟨t,rfl⟩:=rx;exact SeqAt.EqAt.str_int a t' b t
  |str b=>obtain⟨t,rfl⟩:=rx;exact SeqAt.EqAt.str_str a t' b t
  |_=>exact absurd (show false=true from fx) aq'
 |_=>exact absurd (show false=true from fy) aq'
def eqU(x:V)(u:Aa):Bool:=match u with
 |.none=>eqV .non x
 |.bool b=>eqV (.bl b) x
 |.int i _=>eqV (.int i) x
 |.str z _=>eqV (.str z) x
 |_=>false
theorem iH_{x y:V}{u:Aa}(r:RelV y u)(f:cx' y=true):eqU x u=eqV y x:=by
 cases y with
 |non=>cases r;rfl
 |bl b=>cases r;rfl
 |int i=>obtain⟨t,rfl⟩:=r;rfl
 |str z=>obtain⟨t,rfl⟩:=r;rfl
 |_=>exact absurd (show false=true from f) aq'
theorem er_{x:V}:∀{xs:List V} {us:List Aa},Vals xs us->xs.all cx'=true->us.any (eqU x)=xs.any λy=>eqV y x
 |_,_,.nil,_=>rfl
 |y::xs,u::us,.cons r t,f=>by
  rw[List.all_cons,Bool.and_eq_true] at f;rw[List.any_cons,List.any_cons,iH_ r f.1,er_ t f.2]
theorem dm_{A:Ag}{s:Ac}{x:V}{v:Aa}(rx:RelV x v)(fx:cx' x=true):∀{xs:List V} {us:List Aa},Vals xs us->xs.all cx'=true->∀u∈us,SeqAt.EqAt A s u v (eqU x u)
 |_,_,.nil,_=>λu hu=>by cases hu
 |y::xs,u::us,.cons r t,f=>λu' hu=>by
  rw[List.all_cons,Bool.and_eq_true] at f;rcases al'.mp hu with rfl|hu
  ·rw[iH_ r f.1];exact eX_ r rx f.1 fx
  ·exact dm_ rx fx t f.2 u' hu
def inV(x:V)(xs:List V):Bool:=xs.any λy=>eqV y x
inductive rIn (K:F__) (neg:Bool) (x:V) (y:V) (H:Hp) (Q:VK):Prop
 |mk:∀p xs,y=.ref p->(SqL K H p xs∨SqT K H p xs)->cx' x=true->xs.all cx'=true->Q (.bl (if neg then !inV x xs else inV x xs)) H->rIn K neg x y H Q
theorem cC_:OpR X (compareOp .In) (rIn X.K false):=by
 intro pins s σ H x y v u Q I rx ry h;obtain⟨p,xs,rfl,hq,fx,fs,q⟩:=h;cases ry;rcases hq with hq|hq
 ·obtain⟨its,r,pl,hz⟩:=I.list hq;refine SeqAt.in_listAt (eqU x) pl.isList (λw hw=>dm_ rx fx r fs w (by simpa using hw)) ⟨.bl _,H,I,rfl,?_⟩;rw[show its.toArray.any (eqU x)=its.any (eqU x) by simp,er_ r fs];exact q
 ·obtain⟨its,r,pl,hz⟩:=I.tuple hq;refine SeqAt.in_tupleAt (eqU x) pl (λw hw=>dm_ rx fx r fs w (by simpa using hw)) ⟨.bl _,H,I,rfl,?_⟩;rw[show its.toArray.any (eqU x)=its.any (eqU x) by simp,er_ r fs];exact q
inductive by' (K:F__) (xs:List V) (H:Hp) (Q:VK):Prop
 |mk:∀p ys,xs=[.ref p]->(SqL K H p ys∨SqT K H p ys)->Q (.int ys.length) H->by' K xs H Q
theorem av_:bp' X (.builtin "len") (by' X.K):=by
 intro pins s σ H xs us Q I r h;obtain⟨p,ys,rfl,hq,q⟩:=h;obtain⟨u,rfl,rx⟩:=vals1 r;cases rx;have hn:=line63;rcases hq with hq|hq
 ·obtain⟨its,r',pl,hz⟩:=I.list hq;have hlen:=r'.length;exact Calls.call_len_list pl.isList (by simp only[ah']<;>omega) ⟨.int ys.length,H,I.tok _,⟨s.toks+1,by rw[ah',hlen]⟩,q⟩
 ·obtain⟨its,r',pl,hz⟩:=I.tuple hq;have hlen:=r'.length;exact len_tuple pl (by simp only[ah']<;>omega) ⟨.int ys.length,H,I.tok _,⟨s.toks+1,by rw[ah',hlen]⟩,q⟩
inductive b2' (xs:List V) (H:Hp) (Q:VK):Prop
 |mk:∀z,xs=[.str z]->z.length<=sizeLine->Q (.int z.length) H->b2' xs H Q
theorem dR_:bp' X (.builtin "len") b2':=by
 intro pins s σ H xs us Q I r h;obtain⟨z,rfl,hz,q⟩:=h;obtain⟨u,rfl,t,rfl⟩:=vals1 r;have hn:=line63;exact len_str Z1 ⟨.int z.length,H,I.tok _,⟨_,rfl⟩,q⟩
inductive bY' (K:F__) (xs:List V) (H:Hp) (Q:VK):Prop
 |mk:∀p ys,xs=[.ref p]->(SqL K H p ys∨SqT K H p ys)->(∀l,H l=none->Q (.ref l) (upd H l (.lst ys)))->bY' K xs H Q
theorem e0_:bp' X (.type "list") (bY' X.K):=by
 intro pins s σ H xs us Q I r h;obtain⟨p,ys,rfl,hq,q⟩:=h;obtain⟨u,rfl,rx⟩:=vals1 r;cases rx
 have fin:∀(its:List Aa),Vals ys its->ys.length<=sizeLine->∀(h':Heap) (c':Nat),(∀b o',s.heap.get? b=some o'->h'.get? b=some o')->
   h'.get? s.heap.objs.size=some { cls:=.type "list",dict:=none,data:=.seq its.toArray c',slots:=#[] }->EP X pins σ Q (.ref s.heap.objs.size) { s with heap:=h' }:=λits r' hz h' c' kp e=>
  ⟨.ref s.heap.objs.size,_,I.laid (t':=s.toks) kp (ai' _) (show bf' X.prog X.w _ h' _ (.lst ys) from ⟨hz,its,c',r',e⟩),rfl,q _ (I.hok.fresh (ai' _))⟩
 rcases hq with hq|hq
 ·obtain⟨its,r',pl,hz⟩:=I.list hq;have hlen:=r'.length;obtain⟨o,ho,hc,n,hd⟩:=pl.isList;exact call_list_seq p (.inl rfl) ho hc hd (λh' c' kp e=>fin its r' hz h' c' kp e) (by simp only[ah']<;>omega)
 ·obtain⟨its,r',pl,hz⟩:=I.tuple hq;have hlen:=r'.length;obtain⟨o,ho,hc,n,hd⟩:=pl;exact call_list_seq p (.inr rfl) ho hc hd (λh' c' kp e=>fin its r' hz h' c' kp e) (by simp only[ah']<;>omega)
def tyV(K:F__)(T:String)(x:V)(H:Hp):Prop:=match x with
 |.str _=>T="str"
 |.int _=>T="int"
 |.ref p=>(T="list"/\∃xs,SqL K H p xs)∨(T="tuple"/\∃o,K.lookup p=some o/\o.cls=.type "tuple"/\o.dict=none) ∨
   (T="dict"/\((∃kvs,H p=some (.dK kvs))∨∃kvs,H p=some (.dT kvs)))∨(T="set"/\∃S n,H p=some (.set S n))
 |_=>False
theorem kd_{pins:List (Addr × Obj)}{σ:St}{H:Hp}{s:Ac}{T:String}{x:V}{v:Aa}(I:Inv X pins σ H s)(r:RelV x v)(ty:tyV X.K T x H) :
  s.TypeIs v T/\∀a,v=.ref a->∃ob,s.heap.get? a=some ob/\ob.dict=none:=by
 cases x with
 |str z=>
  obtain⟨t,rfl⟩:=r;cases (show T="str" from ty);exact⟨typeIs_str s z t,λ_ e=>nomatch e⟩
 |int i=>
  obtain⟨t,rfl⟩:=r;cases (show T="int" from ty);exact⟨typeIs_int s i t,λ_ e=>nomatch e⟩
 |ref p=>
  cases r;rcases ty with⟨rfl,xs,hq⟩|⟨rfl,o,hk,hc,hd⟩|⟨rfl,hk⟩|⟨rfl,S,n,hk⟩
  ·obtain⟨its,_,pl,_⟩:=I.list hq;refine⟨pl.isList.typeIs,λa e=>?_⟩;cases e;obtain⟨o,n,e,c,hd,_⟩:=pl;exact⟨o,e,hd⟩
  ·refine⟨⟨o,I.kIn p o hk,hc⟩,λa e=>?_⟩;cases e;exact⟨o,I.kIn _ o hk,hd⟩
  ·have z:∃o,s.heap.get? p=some o/\o.ExactDict:=by
    rcases hk with⟨kvs,hk⟩|⟨kvs,hk⟩
    ·obtain⟨_,_,_,_,o,_,_,e,ex,_⟩:=I.hok p _ hk;exact⟨o,e,ex⟩
    ·obtain⟨_,_,_,_,o,_,_,e,ex,_⟩:=I.hok p _ hk;exact⟨o,e,ex⟩
   obtain⟨o,e,ex⟩:=z;refine⟨⟨o,e,ex.1⟩,λa e2=>?_⟩;cases e2;exact⟨o,e,ex.2.1⟩
  ·obtain⟨o,_,_,_,e,ex,_⟩:=I.hok p _ hk;refine⟨⟨o,e,ex.1⟩,λa e2=>?_⟩;cases e2;exact⟨o,e,ex.2.1⟩
 |_=>exact False.elim ty
def tBM(K:F__)(T:String)(r:V->List V->Hp->VK->Prop)(to:TE)(t:TA):TE:=λσ H Q=>to σ H λx H1=>tyV K T x H1/\t σ H1 λxs H2=>r x xs H2 Q
variable{o e:Expr}{es:List Expr}{to:TE}{t:TA}{name:Str}{apos cpos:Pos}{T id:String}{r:V->List V->Hp->VK->Prop}
theorem cT_(pa:PlainAttrs T)(slot:Slot T name id)(hty:typeOf (.builtin id)=pure (.type "method_descriptor"))(hm:MtR X id r)(ho:PE X o to)(ha:PA X (e::es) t)
  (hbase:attributeBase o name X.env (eval o X.env)=eval o X.env:=by rfl)
  (hfew:((backTo cpos (starEach (e::es) X.env)).all (λx=>!x.1)&&(backToKw cpos (keywordEach [] X.env)).all (λx=>x.1.isSome)
   && decide ((e::es).length+([]:List Keyword).length+(if ([]:List Keyword).isEmpty then 0 else 1)<30))=true:=by rfl)
  (hline:(apos.endLine == cpos.line)=true:=by rfl) (hs:starEach (e::es) X.env=(false,eval e X.env)::starEach es X.env:=by rfl) (hplain:(backTo cpos (starEach es X.env)).any (·.1)=false:=by rfl) :
  PE X (.Call (.Attribute o name apos) (e::es) [] cpos) (tBM X.K T r to t):=by
 intro pins s σ H Q I h;refine wpAny_Call_method_late hbase hfew hline rfl (thn (ho pins s σ H _ I h) λv s1 ⟨x,H1,I1,r1,ty,q1⟩=>?_);obtain⟨h1,h2⟩:=kd_ I1 r1 ty;refine⟨T,id,pa,slot,hty,h1,h2,?_⟩;have hA:=ha cpos pins s1 σ H1 _ I1 q1;rw[hs] at hA ⊢;refine Calls.callWith_builtin (by show (false || (backTo cpos (starEach es X.env)).any (·.1))=false;rw[hplain]<;>rfl) (Calls.evalArgs_plain ?_)
 exact thn hA λus s2 ⟨vs,H2,I2,r2,q2⟩=>hm pins s2 σ H2 x vs v us Q I2 r1 r2 q2
end
def MtM(X:Cx)(id:String)(r:V->List V->Hp->VK->Prop):Prop:=
 ∀(pins:List (Addr × Obj)) (s:Ac) (σ:St) (H:Hp) (x:V) (xs:List V) (v:Aa) (us:List Aa) (Q:VK),Inv X pins σ H s->RelV x v->Vals xs us->r x xs H Q->
  wpAny (model X.prog X.w) X.A (call (.builtin id) (v::us)) (EP X pins σ Q) X.xe s
theorem Vals.one:∀{x:V} {us:List Aa},Vals [x] us->∃u,us=[u]/\RelV x u
 |_,_,.cons r .nil=>⟨_,rfl,r⟩
theorem Vals.rep{xs:List V}{us:List Aa}(h:Vals xs us):∀k:Nat,Vals (List.replicate k xs).flatten (List.replicate k us).flatten
 |0=>.nil
 |k+1=>by
  rw[List.replicate_succ,List.replicate_succ,List.flatten_cons,List.flatten_cons];exact Vals.append h (Vals.rep h k)
theorem e2_(its:List Aa):∀(k:Nat) (acc:List Aa),
  List.foldl (λx1 x2=>x1++x2) acc.toArray (List.replicate k its.toArray)=(acc++(List.replicate k its).flatten).toArray
 |0,acc=>by simp
 |k+1,acc=>by
  have e:acc.toArray++its.toArray=(acc++its).toArray:=by simp
  have e2:(acc++its)++(List.replicate k its).flatten=acc++(List.replicate (k+1) its).flatten:=by
   rw[List.replicate_succ,List.flatten_cons,List.append_assoc]
  rw[<- e2,<- e2_ its k (acc++its),<- e,List.replicate_succ,List.foldl_cons]
section
variable{X:Cx}{pins:List (Addr × Obj)}{σ:St}{H:Hp}{s:Ac}{l b:Addr}{xs ys zs:List V}
theorem Inv.lset{its its':List Aa}{f:Array Aa->Array Aa}{t':Nat}(I:Inv X pins σ H s)(hH:H l=some (.lst xs))(e:s.heap.get? l=some { cls:=.type "list",data:=.seq its.toArray n })(hf:f its.toArray=its'.toArray)(hv:Vals ys its')(hz:ys.length<=sizeLine) :
  Inv X pins σ (upd H l (.lst ys)) { s with heap:=s.heap.update l (Obj.mapSeq f),toks:=t' }:=by
 have q:=PySem.IsL.update e f;rw[hf] at q;refine I.write (x:=l) (e:=l) (by rw[hH];exact trivial) (.inl rfl) (λb' u hb hu=>(b_0 s.heap (Obj.mapSeq f) (Ne.symm hb)).trans hu) ⟨_,q⟩ ?_;exact⟨hz,its',_,hv,q⟩
theorem Inv.lnew{its:List Aa}{t':Nat}(I:Inv X pins σ H s)(hv:Vals ys its)(hz:ys.length<=sizeLine) :
  Inv X pins σ (upd H s.heap.objs.size (.lst ys)) { s with heap:=s.heap.push { cls:=.type "list",data:=.seq its.toArray },toks:=t' }:=
 I.laid (λ_ _ q=>a_0 _ q) (ai' _) ⟨hz,its,0,hv,a_1 _ rfl⟩
theorem Inv.fresh(I:Inv X pins σ H s):H s.heap.objs.size=none:=I.hok.fresh (ai' _)
theorem Inv.lstM(I:Inv X pins σ H s)(hH:H l=some (.lst xs)):xs.length<=sizeLine/\∃(its:List Aa) (n:Nat),Vals xs its/\xs.length=its.length/\s.heap.get? l=some { cls:=.type "list",data:=.seq its.toArray n }:=by
 obtain⟨z,its,n,r,e⟩:=I.hok l _ hH;exact⟨z,its,n,r,r.length,e⟩
theorem ee'(h:n<=sizeLine):Builtin.List.listTooLong n=false:=by
 unfold Builtin.List.listTooLong;exact a_7 Z1
end
inductive rAppend (x:V) (vs:List V) (H:Hp) (Q:VK):Prop
 |mk:∀l xs y,x=.ref l->vs=[y]->H l=some (.lst xs)->xs.length<sizeLine->Q .non (upd H l (.lst (xs++[y])))->rAppend x vs H Q
variable{X:Cx}
theorem bj_:MtM X "list.append" rAppend:=by
 intro pins s σ H x vs v us Q I rx rv h;obtain⟨l,xs,y,rfl,rfl,hH,hz,q⟩:=h;cases rx;obtain⟨u,rfl,ru⟩:=rv.one;obtain⟨z,its,n,r,hl,e⟩:=I.lstM hH;refine call_meets F.slot_list_append ⟨_,e,rfl⟩ F.entry_list_append (F.args_list_append_2 _ _) (PySem.list_append l its.toArray n u (by rw[ah'];omega)) ⟨e,?_⟩;refine⟨.non,_,I.lset (its':=its++[u]) hH e Z2 (r.append (.cons ru .nil)) ?_,rfl,q⟩;rw[ar',List.length_singleton];omega
inductive rExtend (x:V) (vs:List V) (H:Hp) (Q:VK):Prop
 |mk:∀l b xs zs,x=.ref l->vs=[.ref b]->H l=some (.lst xs)->H b=some (.lst zs)->xs.length+zs.length<=sizeLine->Q .non (upd H l (.lst (xs++zs)))->rExtend x vs H Q
theorem bt_:MtM X "list.extend" rExtend:=by
 intro pins s σ H x vs v us Q I rx rv h;obtain⟨l,b,xs,zs,rfl,rfl,hH,hB,hz,q⟩:=h;cases rx;obtain⟨u,rfl,ru⟩:=rv.one;cases ru;obtain⟨z,its,n,r,hl,e⟩:=I.lstM hH;obtain⟨z2,its2,n2,r2,hl2,e2⟩:=I.lstM hB;have hsz:its.toArray.size+its2.toArray.size<=sizeLine:=by rw[ah',ah'];omega
 have hlong:¬(!its.toArray.isEmpty&&Builtin.List.listTooLong (its.toArray.size+its2.toArray.size))=true:=by
  rw[ee' hsz,Bool.and_false];exact aq'
 refine call_meets F.slot_list_extend ⟨_,e,rfl⟩ F.entry_list_extend (F.args_list_extend_2 _ _)
  (AutoSeq1.list_extend_list_list_0 l its.toArray n b its2.toArray n2 hlong (by rw[ah'];omega) Z1) ⟨e,e2,?_⟩
 refine⟨.non,_,I.lset (its':=its++its2) hH e Z2 (r.append r2) ?_,rfl,q⟩;rw[ar'];omega
inductive rCat (x:V) (y:V) (H:Hp) (Q:VK):Prop
 |mk:∀l b xs zs,x=.ref l->y=.ref b->H l=some (.lst xs)->H b=some (.lst zs)->xs.length+zs.length<=sizeLine->(∀p,H p=none->Q (.ref p) (upd H p (.lst (xs++zs))))->rCat x y H Q
theorem kA_:OpR X (binaryOp .Add) rCat:=by
 intro pins s σ H x y v u Q I rx ry h;obtain⟨l,b,xs,zs,rfl,rfl,hH,hB,hz,q⟩:=h;cases rx;cases ry;obtain⟨z,its,n,r,hl,e⟩:=I.lstM hH;obtain⟨z2,its2,n2,r2,hl2,e2⟩:=I.lstM hB;refine PySem.P.add_list e e2 ?_ (by rw[ah',ah'];omega);have ea:its.toArray++its2.toArray=(its++its2).toArray:=by simp
 rw[ea];exact⟨.ref _,_,I.lnew (t':=s.toks) (r.append r2) (by rw[ar'];omega),rfl,q _ I.fresh⟩
inductive rRep (x:V) (y:V) (H:Hp) (Q:VK):Prop
 |mk:∀l k xs,x=.ref l->y=.int k->H l=some (.lst xs)->-(2 ^ 63)<=k->k<2 ^ 63->xs.length * k.toNat<=sizeLine->(∀p,H p=none->Q (.ref p) (upd H p (.lst (List.replicate k.toNat xs).flatten)))->rRep x y H Q
theorem k3_{α:Type}(xs:List α)(k:Nat):(List.replicate k xs).flatten.length=k * xs.length:=by
 induction k with
 |zero=>simp
 |succ k ih=>rw[List.replicate_succ,List.flatten_cons,ar',ih,Nat.succ_mul,Nat.add_comm]
theorem kn_:OpR X (binaryOp .Mult) rRep:=by
 intro pins s σ H x y v u Q I rx ry h;obtain⟨l,k,xs,rfl,rfl,hH,h1,h2,hz,q⟩:=h;cases rx;obtain⟨t,rfl⟩:=ry;obtain⟨z,its,n,r,hl,e⟩:=I.lstM hH;have hlen:its.toArray.size * k.toNat<=sizeLine:=by rw[ah',<- hl];exact hz
 have hcap:¬its.toArray.size * k.toNat > (2 ^ 63 - 1) / 8:=by
  have:(sizeLine:Nat)<=(2 ^ 63 - 1) / 8:=by decide
  omega
 have hfit:¬(!Builtin.List.listFitsIndex k)=true:=by
  rw[fitsIndex_both h1 h2];exact aq'
 have hlong:¬Builtin.List.listTooLong (its.toArray.size * k.toNat)=true:=by
  rw[ee' hlen];exact aq'
 have hnew:List.foldl (λx1 x2=>x1++x2) #[] (List.replicate (if its.toArray.isEmpty=true then 0 else k.toNat) its.toArray)=(List.replicate k.toNat its).flatten.toArray:=by
  have f0:∀m:Nat,List.foldl (λx1 x2=>x1++x2) #[] (List.replicate m its.toArray)=(List.replicate m its).flatten.toArray:=λm=>by
   have:=e2_ its m [];rw[List.nil_append] at this;exact this
  rw[f0];cases its with
  |nil=>simp
  |cons a r'=>rw[a_4 Z2]
 refine wpAny_binaryOp_repeat_ref (T:="list") (U:="int") (by decide) ⟨_,e,rfl⟩ (λs'=>typeIs_int s' k t) noFill_list_mul F.fills_int_mul F.slot_int_rmul repeat_list F.slot_int_index.lookup
  (call_meets F.slot_int_rmul (typeIs_int s k t) F.entry_int_rmul (F.args_int_rmul_2 _ _) (int___rmul___int_list k t l its.toArray n)
   ⟨e,rfl,⟨_,e,rfl⟩,call_meets F.slot_list_mul ⟨_,e,rfl⟩ F.entry_list_mul (F.args_list_mul_2 _ _) (AutoListH.list___mul___list_int_3 l its.toArray n k t hfit hcap hlong) ⟨e,?_⟩⟩)
 rw[hnew];exact⟨.ref _,_,I.lnew (t':=s.toks) (r.rep k.toNat) (by rw[k3_,Nat.mul_comm];exact hz),rfl,q _ I.fresh⟩
section
variable{κ:Type}[DecidableEq κ]
def valV(kvs:List (κ × V))(k:κ):Option V:=(kvs.find? λkv=>decide (kv.1=k)).map (·.2)
def putK(kvs:List (κ × V))(k:κ)(v:V):List (κ × V):=
 if (kvs.any λkv=>decide (kv.1=k))=true then kvs.map (λkv=>if kv.1=k then (kv.1,v) else kv) else kvs++[(k,v)]
theorem bp_{p:κ × V}{r:List (κ × V)}{k:κ}(e:p.1=k):valV (p::r) k=some p.2:=by simp[valV,List.find?_cons,e]
theorem bl_{p:κ × V}{r:List (κ × V)}{k:κ}(e:¬p.1=k):valV (p::r) k=valV r k:=by simp[valV,List.find?_cons,e]
theorem bS_(k:κ):∀kvs:List (κ × V),(kvs.any λkv=>decide (kv.1=k))=(valV kvs k).isSome
 |[]=>rfl
 |p::r=>by
  rw[List.any_cons];by_cases e:p.1=k
  ·simp only[bp_ e,a_2 e,Bool.true_or,Option.isSome_some]
  ·rw[bl_ e,a_7 e,Bool.false_or];exact bS_ k r
theorem bK_(kvs:List (κ × V))(k:κ)(v:V):(putK kvs k v).length<=kvs.length+1:=by
 unfold putK;split
 ·rw[aa'];omega
 ·rw[ar',az',aO'];omega
theorem bB_{kvs:List (κ × V)}{k:κ}(v:V)(h:valV kvs k=none):putK kvs k v=kvs++[(k,v)]:=by
 unfold putK;rw[bS_,h];exact a_4 (by decide)
theorem RelO.isSome_eq{o:Option V}{u:Option Aa}(r:RelO o u):o.isSome=u.isSome:=by
 cases o with
 |none=>cases u with
  |none=>rfl
  |some _=>exact (show False from r).elim
 |some _=>cases u with
  |none=>exact (show False from r).elim
  |some _=>rfl
theorem KV.val{kvs:List (κ × V)}{vs:List (κ × Aa)}(r:KV kvs vs)(k:κ):RelO (valV kvs k) (valueAt vs k):=by
 unfold KV at r
 induction r with
 |nil=>exact True.intro
 |@cons p q ps qs h t ih=>
  obtain⟨h1,h2⟩:=h;by_cases e:p.1=k
  ·have e':q.1=k:=h1.symm.trans e;have b:valueAt (q::qs) k=some q.2:=by simp[valueAt,List.find?_cons,e']
   rw[bp_ e,b];exact h2
  ·have e':¬q.1=k:=λz=>e (h1.trans z);have b:valueAt (q::qs) k=valueAt qs k:=by simp[valueAt,List.find?_cons,e']
   rw[bl_ e,b];exact ih
theorem KV.any{kvs:List (κ × V)}{vs:List (κ × Aa)}(r:KV kvs vs)(k:κ):(kvs.any λkv=>decide (kv.1=k))=vs.any λkv=>decide (kv.1=k):=by
 unfold KV at r
 induction r with
 |nil=>rfl
 |cons h t ih=>rw[List.any_cons,List.any_cons,ih,h.1]
theorem KV.repl{kvs:List (κ × V)}{vs:List (κ × Aa)}(r:KV kvs vs)(k:κ){y:V}{u:Aa}(ry:RelV y u) :
  KV (kvs.map λkv=>if kv.1=k then (kv.1,y) else kv) (vs.map λkv=>if kv.1=k then (kv.1,u) else kv):=by
 unfold KV at r ⊢
 induction r with
 |nil=>exact .nil
 |@cons p q ps qs h t ih=>
  rw[av',av'];refine .cons ?_ ih;obtain⟨h1,h2⟩:=h;by_cases e:p.1=k
  ·rw[a_9 e,a_9 (h1.symm.trans e)];exact⟨h1,ry⟩
  ·rw[a_4 e,a_4 (λz=>e (h1.trans z))];exact⟨h1,h2⟩
theorem KV.put{kvs:List (κ × V)}{vs:List (κ × Aa)}(r:KV kvs vs)(k:κ){y:V}{u:Aa}(ry:RelV y u):KV (putK kvs k y) (stored vs k u):=by
 unfold putK stored;rw[r.any k];by_cases e:(vs.any λkv=>decide (kv.1=k))=true
 ·rw[a_9 e,a_9 e];exact r.repl k ry
 ·rw[a_4 e,a_4 e];exact Paired.snoc r ⟨rfl,ry⟩
theorem KV.keys{kvs:List (κ × V)}{vs:List (κ × Aa)}(r:KV kvs vs):kvs.map (·.1)=vs.map (·.1):=by
 unfold KV at r
 induction r with
 |nil=>rfl
 |cons h t ih=>rw[av',av',ih,h.1]
theorem KV.length{kvs:List (κ × V)}{vs:List (κ × Aa)}(r:KV kvs vs):kvs.length=vs.length:=a_3 r
end
variable{u:Aa}{P:Ae}{w:Af}
theorem e6_{k:Key}(r:RelV (kV k) u):(a5' P w).is k u=true:=by
 cases k with
 |inl i=>obtain⟨t,e⟩:=(show ∃t,u=Value.int i t from r);subst e;exact en_ P w i t
 |inr x=>obtain⟨t,e⟩:=(show ∃t,u=Value.str x t from r);subst e;exact bJ_ P w x t
theorem dU_{P:Ae}{w:Af}:∀{ks:List Key} {us:List Aa},Vals (ks.map kV) us->ItemsAre (a5' P w) ks us
 |[],_,r=>by rw[List.map_nil] at r;cases r;exact .nil
 |k::ks,_,r=>by
  rw[av'] at r;cases r with
  |cons h t=>exact .cons (e6_ h) (dU_ t)
abbrev KT(H:Hp):List (List Key × V)->List (List Key × Addr × Aa)->Prop:=Paired λp q=>p.1=q.1/\H q.2.1=some (.tup (p.1.map kV))/\RelV p.2 q.2.2
variable{H:Hp}{xs:List (List Key × Addr × Aa)}{kvs:List (List Key × V)}
theorem KT.val(r:KT H kvs xs)(k:List Key):RelO (valV kvs k) ((atKey xs k).map (·.2)):=by
 induction r with
 |nil=>exact True.intro
 |@cons p q ps qs h t ih=>
  obtain⟨h1,_,h2⟩:=h;by_cases e:p.1=k
  ·have e':q.1=k:=h1.symm.trans e;have b:atKey (q::qs) k=some q.2:=by simp[atKey,List.find?_cons,e']
   rw[bp_ e,b];exact h2
  ·have e':¬q.1=k:=λz=>e (h1.trans z);have b:atKey (q::qs) k=atKey qs k:=by simp[atKey,List.find?_cons,e']
   rw[bl_ e,b];exact ih
theorem KT.repl(r:KT H kvs xs)(k:List Key){y:V}(ry:RelV y u) :
  KT H (kvs.map λkv=>if kv.1=k then (kv.1,y) else kv) (xs.map (putAt k u)):=by
 induction r with
 |nil=>exact .nil
 |@cons p q ps qs h t ih=>
  rw[av',av'];refine .cons ?_ ih;obtain⟨h1,h2,h3⟩:=h;unfold putAt;by_cases e:p.1=k
  ·rw[a_9 e,a_9 (h1.symm.trans e)];exact⟨h1,h2,ry⟩
  ·rw[a_4 e,a_4 (λz=>e (h1.trans z))];exact⟨h1,h2,h3⟩
variable{b:Addr}
theorem KT.put(r:KT H kvs xs)(k:List Key){y:V}(hb:H b=some (.tup (k.map kV)))(ry:RelV y u) :
  KT H (putK kvs k y) (storedH xs k b u):=by
 have e:(kvs.any λkv=>decide (kv.1=k))=(atKey xs k).isSome:=by
  rw[bS_,(r.val k).isSome_eq,Option.isSome_map]
 unfold putK storedH;rw[e];by_cases q:(atKey xs k).isSome=true
 ·rw[a_9 q,a_9 q];exact r.repl k ry
 ·rw[a_4 q,a_4 q];exact Paired.snoc r ⟨rfl,hb,ry⟩
variable{H':Hp}
theorem KT.keeps(r:KT H kvs xs)(ht:∀b ys,H b=some (.tup ys)->H' b=some (.tup ys)):KT H' kvs xs:=
 Paired.mapP r λ_ _ z=>⟨z.1,ht _ _ z.2.1,z.2.2⟩
variable{h:Heap}{a:Addr}
theorem kD_{u:HO}(ok:HOk P w H h)(e:Rd H a u):bf' P w H h a u:=e.ok ok
theorem bD_{kvs:List (Key × V)}(ok:HOk P w H h)(e:Rd H a (.dK kvs)):kvs.length<=sizeLine/\(a == sysModules)=false/\∃vs,KV kvs vs/\h.DictOf (a5' P w) a vs:=
 show bf' P w H h a (.dK kvs) from kD_ ok e
theorem fB_{kvs:List (Key × V)}(ok:HOk P w H h)(e:H a=some (.dK kvs)):kvs.length<=sizeLine/\(a == sysModules)=false/\∃vs,KV kvs vs/\h.DictOf (a5' P w) a vs:=bD_ ok (.inl e)
theorem dJ_{ks:List Key}(ok:HOk P w H h)(e:H a=some (.tup (ks.map kV))):(tupleKind (a5' P w)).is h ks a:=by
 obtain⟨_,its,r,⟨o,h1,h2,n,h3⟩,_⟩:=(show bf' P w H h a (.tup (ks.map kV)) from ok a _ e);exact⟨o,its.toArray,n,h1,h2,h3,by simpa using dU_ r⟩
theorem fE_(ok:HOk P w H h)(e:Rd H a (.dT kvs)):kvs.length<=sizeLine/\(a == sysModules)=false /\
  ∃xs,KT H kvs xs/\h.DictOfH (tupleKind (a5' P w)) a xs:=by
 obtain⟨z,y,xs,r,o,es,ep,h1,h2,h3,h4,h5⟩:=(show bf' P w H h a (.dT kvs) from kD_ ok e);refine⟨z,y,xs,r,o,es,ep,h1,h2,h3,h4,λx hx=>?_,h5⟩
 have all:∀{l:List (List Key × V)} {m:List (List Key × Addr × Aa)},KT H l m->∀x∈m,(tupleKind (a5' P w)).is h x.1 x.2.1:=by
  intro l m q
  induction q with
  |nil=>intro x hx;exact nomatch hx
  |@cons p q ps qs hq t ih=>
   intro x hx;rcases al'.mp hx with e|hx
   ·subst e;exact dJ_ ok (by rw[<- hq.1];exact hq.2.1)
   ·exact ih x hx
 exact all r x hx
theorem kY_(ok:HOk P w H h)(e:H a=some (.dT kvs)):kvs.length<=sizeLine/\(a == sysModules)=false /\
  ∃xs,KT H kvs xs/\h.DictOfH (tupleKind (a5' P w)) a xs:=fE_ ok (.inl e)
def DGet(H:Hp)(a:Addr)(y:V)(r:Option V):Prop:=
 (∃kvs k,Rd H a (.dK kvs)/\y=kV k/\r=valV kvs k)∨∃kvs k b,Rd H a (.dT kvs)/\y=.ref b/\H b=some (.tup (k.map kV))/\r=valV kvs k
def DPut(H:Hp)(a:Addr)(y v:V)(H':Hp):Prop:=
 (∃kvs k,H a=some (.dK kvs)/\y=kV k/\kvs.length<sizeLine/\H'=upd H a (.dK (putK kvs k v))) ∨
 ∃kvs k b,H a=some (.dT kvs)/\y=.ref b/\H b=some (.tup (k.map kV))/\kvs.length<sizeLine/\H'=upd H a (.dT (putK kvs k v))
theorem DGet.k{kvs:List (Key × V)}{k:Key}(e:H a=some (.dK kvs)):DGet H a (kV k) (valV kvs k):=.inl ⟨kvs,k,.inl e,rfl,rfl⟩
theorem DGet.t{k:List Key}(e:H a=some (.dT kvs))(eb:H b=some (.tup (k.map kV))):DGet H a (.ref b) (valV kvs k):=.inr ⟨kvs,k,b,.inl e,rfl,eb,rfl⟩
variable{kvs:List (Key × V)}
theorem DPut.k{k:Key}{v:V}(e:H a=some (.dK kvs))(hl:kvs.length<sizeLine):DPut H a (kV k) v (upd H a (.dK (putK kvs k v))):=.inl ⟨kvs,k,e,rfl,hl,rfl⟩
theorem DPut.t{kvs:List (List Key × V)}{k:List Key}{v:V}(e:H a=some (.dT kvs))(eb:H b=some (.tup (k.map kV)))(hl:kvs.length<sizeLine) :
  DPut H a (.ref b) v (upd H a (.dT (putK kvs k v))):=.inr ⟨kvs,k,b,e,rfl,eb,hl,rfl⟩
section
variable{X:Cx}{pins:List (Addr × Obj)}{σ:St}{H:Hp}{s:Ac}{a:Addr}{y v:V}{u r:Aa}{o:Option V}{A:Ag}{E:Aa->Ac->Prop}
theorem Inv.big(I:Inv X pins σ H s):sysModules<s.heap.objs.size:=by
 have h:mainGlobals<s.heap.objs.size:=(I.mod.glob.keeps I.bk).lt;exact Nat.lt_trans (by decide) h
theorem gL_{Q:Aa->Ac->Prop}(hu:A.units+1<cLine)(I:Inv X pins σ H s)(g:DGet H a y (some v))(ry:RelV y u)(h:∀w' s',Inv X pins σ H s'->RelV v w'->Q w' s') :
  wpAny (model X.prog X.w) A (getItem (.ref a) u) Q E s:=by
 rcases g with⟨kvs,k,e,ey,l⟩|⟨kvs,k,b,e,ey,eb,l⟩
 ·subst ey;obtain⟨z,hd,vs,rel,dd⟩:=bD_ I.hok e;obtain⟨w',hw,rw'⟩:=RelO.some_of (v:=v) (o:=valueAt vs k) (by rw[l];exact rel.val k);exact wpAny_getItem_of (e6_ ry) dd.mapOf hw (h w' _ (I.tok _) rw')
 ·subst ey;cases (show u=Value.ref b from ry);obtain⟨z,hd,xs,rel,dd⟩:=fE_ I.hok e;obtain⟨w',hw,rw'⟩:=RelO.some_of (v:=v) (o:=(atKey xs k).map (·.2)) (by rw[l];exact rel.val k);obtain⟨p,hp,hp2⟩:=Option.map_eq_some_iff.mp hw;refine wpAny_getItem_heap (tupleKind_room_in1 hu) (dJ_ I.hok eb) dd hp ?_;rw[hp2];exact h w' _ (I.tok _) rw'
theorem d_in{Q:Aa->Ac->Prop}(hu:A.units+1<cLine)(I:Inv X pins σ H s)(g:DGet H a y o)(ry:RelV y u)(h:∀s',Inv X pins σ H s'->Q (.bool o.isSome) s') :
  wpAny (model X.prog X.w) A (compareOp .In u (.ref a)) Q E s:=by
 rcases g with⟨kvs,k,e,ey,l⟩|⟨kvs,k,b,e,ey,eb,l⟩
 ·subst ey;obtain⟨z,hd,vs,rel,dd⟩:=bD_ I.hok e;refine wpAny_in_of (e6_ ry) hd dd.mapOf ?_;rw[<- (rel.val k).isSome_eq,<- l];exact h _ (I.tok _)
 ·subst ey;cases (show u=Value.ref b from ry);obtain⟨z,hd,xs,rel,dd⟩:=fE_ I.hok e;refine wpAny_in_heap (tupleKind_room_in1 hu) (dJ_ I.hok eb) hd dd ?_;have q:=(rel.val k).isSome_eq;rw[Option.isSome_map] at q;rw[<- q,<- l];exact h _ (I.tok _)
theorem jh_{Q:Aa->Ac->Prop}(hu:A.units+1<cLine)(I:Inv X pins σ H s)(g:DGet H a y o)(ry:RelV y u)(h:∀s',Inv X pins σ H s'->Q (.bool (!o.isSome)) s') :
  wpAny (model X.prog X.w) A (compareOp .NotIn u (.ref a)) Q E s:=by
 rcases g with⟨kvs,k,e,ey,l⟩|⟨kvs,k,b,e,ey,eb,l⟩
 ·subst ey;obtain⟨z,hd,vs,rel,dd⟩:=bD_ I.hok e;refine wpAny_notIn_of (e6_ ry) hd dd.mapOf ?_;rw[<- (rel.val k).isSome_eq,<- l];exact h _ (I.tok _)
 ·subst ey;cases (show u=Value.ref b from ry);obtain⟨z,hd,xs,rel,dd⟩:=fE_ I.hok e;refine wpAny_notIn_heap (tupleKind_room_in1 hu) (dJ_ I.hok eb) hd dd ?_;have q:=(rel.val k).isSome_eq;rw[Option.isSome_map] at q;rw[<- q,<- l];exact h _ (I.tok _)
theorem gV_{h':Heap}{t':Nat}{ob:HO}(I:Inv X pins σ H s)(mu:Mut (H a))(hs:Heap.SameBut a s.heap h')(he:∃q,h'.get? a=some q)(new:bf' X.prog X.w (upd H a ob) h' a ob) :
  Inv X pins σ (upd H a ob) { s with heap:=h',toks:=t' }:=
 I.write (x:=a) (e:=a) mu (.inl rfl) (λb q hb z=>(hs.2 b hb).trans z) he new
theorem gT_{h':Heap}{vs:List (Key × Aa)}(z:kvs.length<=sizeLine)(hd:(a == sysModules)=false)(rel:KV kvs vs)(dd:h'.DictOf (a5' P w) a vs) :
  bf' P w H' h' a (.dK kvs):=⟨z,hd,vs,rel,dd⟩
theorem hA_{Q:Unit->Ac->Prop}(hu:A.units+1<cLine)(I:Inv X pins σ H s)(g:DPut H a y v H')(ry:RelV y u)(rv:RelV v r)(h:∀s',Inv X pins σ H' s'->Q () s') :
  wpAny (model X.prog X.w) A (setItem (.ref a) u r) Q E s:=by
 rcases g with⟨kvs,k,e,ey,l,eH⟩|⟨kvs,k,b,e,ey,eb,l,eH⟩
 ·subst ey eH;obtain⟨z,hd,vs,rel,dd⟩:=fB_ I.hok e;have hz:vs.length<=sizeLine:=by rw[<- rel.length];exact z
  have hl:(putK kvs k v).length<=sizeLine:=by have:=bK_ kvs k v;omega
  refine wpAny_setItem_pairs (hsz:=hz) (e6_ ry) dd λh' dd' hs=>h _ ?_;have he:∃q,h'.get? a=some q:=let ⟨q,_,_,hq,_⟩:=dd';⟨q,hq⟩;exact gV_ I (by rw[e];exact True.intro) hs he (gT_ hl hd (rel.put k rv) dd')
 ·subst ey eH;cases (show u=Value.ref b from ry);obtain⟨z,hd,xs,rel,dd⟩:=kY_ I.hok e;have hz:xs.length<=sizeLine:=by rw[<- a_3 rel];exact z
  have hl:(putK kvs k v).length<=sizeLine:=by have:=bK_ kvs k v;omega
  refine wpAny_setItem_heap (hsz:=hz) (tupleKind_room_in1 hu) (dJ_ I.hok eb) dd λh' dd' hs=>h _ ?_;obtain⟨q,es,ep,hq,h2,h3,h4,_,h5⟩:=dd';refine gV_ I (by rw[e];exact True.intro) hs ⟨q,hq⟩ ⟨hl,hd,_,(rel.put k eb rv).keeps λc ys ec=>?_,q,es,ep,hq,h2,h3,h4,h5⟩;rw[a5_ (aM_ ec e nofun)];exact ec
end
variable{pins:List (Addr × Obj)}{σ:St}{s:Ac}{A:Ag}{E:Aa->Ac->Prop}
theorem kS_{Q:Aa->Ac->Prop}(I:Inv X pins σ H s)(e:Rd H a (.dK kvs))(h:∀t s',Inv X pins σ H s'->Q (.int kvs.length t) s'):wpAny (model X.prog X.w) A (call (.builtin "len") [.ref a]) Q E s:=by
 obtain⟨z,hd,vs,rel,dd⟩:=bD_ I.hok e;refine call_len_dict hd dd (by rw[<- rel.length];rw[b__] at z;omega) ?_;rw[<- rel.length];exact h _ _ (I.tok _)
def NoSl(i:Expr):Prop:=∀ov iv,subscripted i false ov iv=operate [ov,iv] (getItem ov iv)
variable{value:Expr}{pos:Pos}
theorem g0_{prog:Ae}{env:Env}{slice:Expr}{T id:String}{Q:Aa->Ac->Prop}(hl:typeLookup (.type T) "__getitem__"=pure (some (.builtin id)))(hs:NoSl slice)(h:wpAny (model prog w) A (eval value env) (λo s₁=>wpAny (model prog w) A (eval slice env) (λi s₂=>s₂.TypeIs o T/\wpAny (model prog w) A (getItem o i) Q E s₂) E s₁) E s) :
  wpAny (model prog w) A (eval (.Subscript value slice pos) env) Q E s:=by
 refine Subscript_ (c_2 h (λo s₁ h₁=>c_2 h₁ (λi s₂ h₂=>?_) λ_ _ x=>x) λ_ _ x=>x);obtain⟨hT,h₂⟩:=h₂;unfold subscriptTail;refine a__ ?_;rw[getitemInPython_of_ne hT.not_modules];refine a__ (wpAny_specialOf hT hl ?_)
 have fin:wpAny (model prog w) A (subscripted slice false o i) (λr s₃=>wpAny (model prog w) A (letTemporaryGo value o r >>= λ_=>pure r) Q E s₃) E s₂:=by
  rw[hs o i];exact wpAny_operating (c_2 h₂ (λr s₃ h₃=>a__ (wpAny_letTemporaryGo (a_6 h₃))) λ_ _ x=>x)
 first
  |exact a_6 (a__ fin)
  |exact a__ (a_6 (a__ fin))
  |exact a__ fin
theorem eD_{y:V}{o:Option V}(I:Inv X pins σ H s)(g:DGet H a y o):s.TypeIs (.ref a) "dict":=by
 rcases g with⟨kvs,k,e,_,_⟩|⟨kvs,k,b,e,_,_,_⟩
 ·obtain⟨_,_,vs,_,dd⟩:=bD_ I.hok e;exact dd.typeIs
 ·obtain⟨_,_,xs,_,dd⟩:=fE_ I.hok e;exact dd.typeIs
inductive tDGetR (Q:VK) (x:V) (y:V) (H2:Hp):Prop
 |mk:∀a v,x=.ref a->DGet H2 a y (some v)->Q v H2->tDGetR Q x y H2
def tDGet(td ty:TE):TE:=λσ H Q=>td σ H λx H1=>ty σ H1 λy H2=>tDGetR Q x y H2
inductive tDInR (Q:VK) (y:V) (x:V) (H2:Hp):Prop
 |mk:∀a o,x=.ref a->DGet H2 a y o->Q (.bl o.isSome) H2->tDInR Q y x H2
def tDIn(ty td:TE):TE:=λσ H Q=>ty σ H λy H1=>td σ H1 λx H2=>tDInR Q y x H2
inductive d3' (Q:VK) (y:V) (x:V) (H2:Hp):Prop
 |mk:∀a o,x=.ref a->DGet H2 a y o->Q (.bl (!o.isSome)) H2->d3' Q y x H2
def tDNotIn(ty td:TE):TE:=λσ H Q=>ty σ H λy H1=>td σ H1 λx H2=>d3' Q y x H2
inductive sDPutR (D:Ends) (σ:St) (v:V) (x:V) (y:V) (H3:Hp):Prop
 |mk:∀a H4,x=.ref a->DPut H3 a y v H4->D.nx σ H4->sDPutR D σ v x y H3
def sDPut(td ty tv:TE):TS:=λD σ H=>tv σ H λv H1=>td σ H1 λx H2=>ty σ H2 λy H3=>sDPutR D σ v x y H3
variable{i o:Expr}{td ty:TE}
theorem aP_(hu:X.A.units+1<cLine)(ho:PE X o td)(hi:PE X i ty)(hs:NoSl i):PE X (.Subscript o i pos) (tDGet td ty):=by
 intro pins s σ H Q I h;refine g0_ PySem.F.slot_dict_getitem.lookup hs (thn (ho pins s σ H _ I h) λu s1 ⟨x,H1,I1,rx,q1⟩=>thn (hi pins s1 σ H1 _ I1 q1) λiv s2 ⟨y,H2,I2,ry,a,v,ex,g,q2⟩=>?_);subst ex;obtain rfl:u=Value.ref a:=rx;exact⟨eD_ I2 g,gL_ hu I2 g ry λw' s3 I3 rw'=>⟨v,H2,I3,rw',q2⟩⟩
theorem cX_(hu:X.A.units+1<cLine)(hi:PE X i ty)(ho:PE X o td):PC X .In i o (tDIn ty td):=by
 intro pins s σ H Q I h;refine thn (hi pins s σ H _ I h) λiv s1 ⟨y,H1,I1,ry,q1⟩=>thn (ho pins s1 σ H1 _ I1 q1) λu s2 ⟨x,H2,I2,rx,a,ov,ex,g,q2⟩=>?_;subst ex;obtain rfl:u=Value.ref a:=rx;exact d_in hu I2 g ry λs3 I3=>⟨.bl ov.isSome,H2,I3,rfl,q2⟩
theorem dV_(hu:X.A.units+1<cLine)(hi:PE X i ty)(ho:PE X o td):PC X .NotIn i o (tDNotIn ty td):=by
 intro pins s σ H Q I h;refine thn (hi pins s σ H _ I h) λiv s1 ⟨y,H1,I1,ry,q1⟩=>thn (ho pins s1 σ H1 _ I1 q1) λu s2 ⟨x,H2,I2,rx,a,ov,ex,g,q2⟩=>?_;subst ex;obtain rfl:u=Value.ref a:=rx;exact jh_ hu I2 g ry λs3 I3=>⟨.bl (!ov.isSome),H2,I3,rfl,q2⟩
variable{pos':Pos}{tv:TE}
theorem bv_(hu:X.A.units+1<cLine)(ho:PE X o td)(hi:PE X i ty)(hv:PE X value tv)(hs:swapsWith value (some (.Subscript o i pos')) pos.line X.env=pure false) :
  PS X (.Assign [.Subscript o i pos'] value pos) (sDPut td ty tv):=by
 intro pins s σ H D I h;refine wpAny_Assign_Subscript (thn (hv pins s σ H _ I h) λr s1 ⟨v,H1,I1,rv,q1⟩=>thn (ho pins s1 σ H1 _ I1 q1) λu s2 ⟨x,H2,I2,rx,q2⟩=>thn (hi pins s2 σ H2 _ I2 q2) λiv s3 ⟨y,H3,I3,ry,a,H4,ex,g,q3⟩=>?_) hs;subst ex;obtain rfl:u=Value.ref a:=rx;exact hA_ hu I3 g ry rv λs4 I4=>⟨σ,H4,I4,q3⟩
theorem iq_(h:Heap)(hb:sysModules<h.objs.size):bf' P w H (h.push { cls:=.type "dict",data:=.dict #[] }) h.objs.size (.dK []):=
 ⟨aD' _,beq_eq_false_iff_ne.mpr (Ne.symm (ap' hb)),[],.nil,Heap.DictOf.new h⟩
theorem hQ_(h:Heap)(hb:sysModules<h.objs.size):bf' P w H (h.push { cls:=.type "dict",data:=.dict #[] }) h.objs.size (.dT []):=
 ⟨aD' _,beq_eq_false_iff_ne.mpr (Ne.symm (ap' hb)),[],.nil,_,#[],0,a_1 _ rfl,⟨rfl,rfl,rfl⟩,rfl,rfl,List.nodup_nil⟩
def tDNewK:TE:=λ_ H Q=>∀p,H p=none->Q (.ref p) (upd H p (.dK []))
def tDNewT:TE:=λ_ H Q=>∀p,H p=none->Q (.ref p) (upd H p (.dT []))
theorem ck_:PE X (.Dict [] [] pos) tDNewK:=λpins s σ H Q I h=>
 wpAny_Dict_empty ⟨.ref s.heap.objs.size,_,I.laid (a:=s.heap.objs.size) (o:=.dK []) (t':=s.toks) (λ_ _ q=>a_0 _ q) (ai' _) (iq_ s.heap I.big),rfl,h _ (I.hok.fresh (ai' _))⟩
theorem ie_:PE X (.Dict [] [] pos) tDNewT:=λpins s σ H Q I h=>
 wpAny_Dict_empty ⟨.ref s.heap.objs.size,_,I.laid (a:=s.heap.objs.size) (o:=.dT []) (t':=s.toks) (λ_ _ q=>a_0 _ q) (ai' _) (hQ_ s.heap I.big),rfl,h _ (I.hok.fresh (ai' _))⟩
def ct'(kvs more:List (Key × V)):List (Key × V):=more.foldl (λacc kv=>putK acc kv.1 kv.2) kvs
theorem bN_:∀(more kvs:List (Key × V)),(ct' kvs more).length<=kvs.length+more.length
 |[],kvs=>by show kvs.length<=kvs.length+0;omega
 |p::r,kvs=>by
  have h1:=bN_ r (putK kvs p.1 p.2);have h2:=bK_ kvs p.1 p.2;show (ct' (putK kvs p.1 p.2) r).length<=_;rw[az'];omega
structure M1 (X:Cx) (o:Expr) (m:Str) (apos:Pos) (e:Expr) (cpos:Pos):Prop where
 base:attributeBase o m X.env (eval o X.env)=eval o X.env
 few:((backTo cpos (starEach [e] X.env)).all (λx=>!x.1)&&(backToKw cpos (keywordEach [] X.env)).all (λx=>x.1.isSome)
  && decide (([e]:List Expr).length+([]:List Keyword).length+(if ([]:List Keyword).isEmpty then 0 else 1)<30))=true
 line:(apos.endLine == cpos.line)=true
 trees:backTo cpos (starEach [e] X.env)=[(false,eval e X.env)]
structure M2 (X:Cx) (o:Expr) (m:Str) (apos:Pos) (e f:Expr) (cpos:Pos):Prop where
 base:attributeBase o m X.env (eval o X.env)=eval o X.env
 few:((backTo cpos (starEach [e,f] X.env)).all (λx=>!x.1)&&(backToKw cpos (keywordEach [] X.env)).all (λx=>x.1.isSome)
  && decide (([e,f]:List Expr).length+([]:List Keyword).length+(if ([]:List Keyword).isEmpty then 0 else 1)<30))=true
 line:(apos.endLine == cpos.line)=true
 trees:backTo cpos (starEach [e,f] X.env)=[(false,eval e X.env),(false,eval f X.env)]
def IsD(H:Hp)(a:Addr):Prop:=(∃kvs,Rd H a (.dK kvs))∨∃kvs,Rd H a (.dT kvs)
theorem iR_(I:Inv X pins σ H s)(d:IsD H a) :
  s.TypeIs (.ref a) "dict"/\(∀b,Value.ref a=.ref b->∃ob,s.heap.get? b=some ob/\ob.dict=none)/\(a == sysModules)=false:=by
 rcases d with⟨kvs,e⟩|⟨kvs,e⟩
 ·obtain⟨_,hd,vs,_,dd⟩:=bD_ I.hok e;refine⟨dd.typeIs,λb q=>?_,hd⟩;cases q;obtain⟨ob,_,_,h1,h2,_⟩:=dd;exact⟨ob,h1,h2.2.1⟩
 ·obtain⟨_,hd,xs,_,dd⟩:=fE_ I.hok e;refine⟨dd.typeIs,λb q=>?_,hd⟩;cases q;obtain⟨ob,_,_,h1,h2,_⟩:=dd;exact⟨ob,h1,h2.2.1⟩
theorem hY_{Q:Aa->Ac->Prop}(I:Inv X pins σ H s)(e:Rd H a (.dK kvs))(h:∀p s',H p=none->Inv X pins σ (upd H p (.dK kvs)) s'->Q (.ref p) s'):wpAny (model X.prog X.w) A (call (.type "dict") [.ref a]) Q E s:=by
 obtain⟨z,hd,vs,rel,dd⟩:=bD_ I.hok e;refine kt_call_dict hd dd (by rw[<- rel.length];exact z) λh' dd' hs=>?_;refine h _ _ (I.hok.fresh (ai' _)) (I.laid (a:=s.heap.objs.size) (o:=.dK kvs) (t':=s.toks) (λb q hq=>?_) (ai' _) (gT_ z (beq_eq_false_iff_ne.mpr (Ne.symm (ap' I.big))) rel dd'));exact (hs.2 b (ap' (a_5 hq))).trans (a_0 _ hq)
end L2
namespace Att
open PySem PySem.W PySem.Calls PyProof.Rows
variable{P:Params}{h:Heap}
theorem cB_:∀(ns:List Int) (vs:List Aa),WellAll P h vs (ns.map WData.int)->IntsAre vs ns:=by
 intro ns
 induction ns with
 |nil=>
  intro vs w;rw[List.map_nil] at w;cases w;exact .nil
 |cons n ns ih=>
  intro vs w;rw[av'] at w;cases w with
  |cons a b=>
   cases a;exact .cons _ _ (ih _ b)
variable{l:OpenLaw}{n:Nat}
theorem he_(hn:l.most=some n){args:List WData}{vals:List Aa}(hpre:l.row.toRowW.claim.pre args=true)(hwl:WellAll P h vals args) :
  ∃a vs ns,vals=[Value.ref a]/\args=[WData.list (ns.map WData.int)]/\h.get? a=some { cls:=.type "list",data:=.seq vs.toArray }/\IntsAre vs ns/\ns.length<=n:=by
 have hsh:WShape.hasAll [] args [.list .int]=true:=(pre_splitW hpre).1;have hc:l.pre.holds [] { args:=args }=true:=(pre_splitW hpre).2;obtain⟨d,r,rfl,h1,h2⟩:=hasAllW_cons hsh;obtain rfl:=hasAllW_nil h2;obtain⟨xs,rfl,h3⟩:=hasW_list h1;obtain⟨ns,rfl⟩:=items_int h3
 have hlen:ns.length<=n:=by
  unfold OpenLaw.pre at hc
  have h4:(WTm.not (.lt (.lit (.int (n:Int))) (.len (.arg 0)))).holds [] { args:=[.list (ns.map .int)] }=true:=by
   have h4:=(holds_andW hc).1;rw[hn] at h4;exact h4
  have h5:=condW_of h4 (w_not (w_lt w_lit (w_len_list (w_arg rfl))));rw[aa'] at h5;refine Nat.le_of_not_lt λq=>?_;have q':(n:Int)<((ns.length:Nat):Int):=by omega
  first
   |(rw[a_2 q'] at h5;exact absurd h5 (by decide))
   |(simp at h5;omega)
 cases hwl with
 |cons w1 w2=>
  cases w2;cases w1 with
  |list ho hall=>exact⟨_,_,ns,rfl,rfl,ho,cB_ ns _ hall,hlen⟩
theorem gr_(l:OpenLaw)(args:List WData):l.row.toRowW.claim.post args (.bool true) args=true:=
 postW_of (r:=l.row.toRowW) (X:=(true == true))
  (show WShape.has [] (.bool true) .bool=true by first|rfl|decide|simp[WShape.has,WShape.arms,WShape.armsAll])
  (show (WTm.eq .res (.lit (.bool true))).value [] { args:=args,res:=some (.bool true),after:=args }=some (.bool (true == true)) from w_eq_bool (w_res rfl) w_lit) rfl
theorem attach_call{q:Ae}{loose:List Str}{XP:(Str->Option Aa)->Heap->Prop}{YP:Af->Heap->Prop}{d:DefRec}(hn:l.most=some n)(hdf:d.params.defaults=[])(call:∀(w:Af) (s₀ s₁:Ac) (mg mb:Str->Option Aa) (fa:Addr) (o:Obj) (pm cd doc:Aa) (a:Addr) (vs:List Aa) (ns:List Int),
   Ground q loose [] XP w s₀ mg mb s₁.heap->YP w s₁.heap->
   s₁.heap.get? fa=some o->o.data=.func (docDef d.name d.params d.body d.scope pm cd doc)->s₁.heap.CodeRec cd d.name->mg d.name=some (.ref fa)->
   s₁.heap.get? a=some { cls:=.type "list",data:=.seq vs.toArray }->IntsAre vs ns->ns.length<=n->s₁.gens=#[]->
   codeAny (model l.prog w) callerA (.call (.ref fa) ⟨[.ref a],[]⟩) (λr s'=>r=.ok (.ret (.bool true))/\OldK s₁.heap s'.heap/\s'.os=s₁.os/\AllBare s'.gens) s₁) :
  WalkO q loose XP YP l.row.toRowW d [] (λf vs=>PySem.call f vs):=by
 intro w s₀ s₁ mg mb G Y fa o pm cd doc dV kV ho hd hcd hD hmg hg args vals as hpre hlay hrd hwl hlo;obtain rfl:dV=.none:=Dflts.none hD hdf;obtain rfl:kV=.none:=Dflts.noKw hD;obtain⟨a,vs,ns,rfl,rfl,hobj,hints,hlen⟩:=he_ hn hpre hwl;refine enter_call (codeAny_mono (call w s₀ s₁ mg mb fa o pm cd doc a vs ns G Y ho (fd_plain hd) hcd hmg hobj hints hlen hg) λr s' hq=>?_);obtain⟨rfl,h2,h3,h4⟩:=hq;exact⟨.inl ⟨.bool true,.bool true,[],rfl,λ_=>rfl,.bool true,gr_ l _,λ_=>⟨List.Pairwise.nil,λ_ hm=>(nomatch hm)⟩⟩,h2,h3,h4⟩
end Att
namespace L2
open PySem PySem.Spec PyProof.Rows
theorem dK_:∀{vs:List Aa} {ns:List Int},IntsAre vs ns->Vals (ns.map V.int) vs
 |_,_,.nil=>.nil
 |_,_,.cons n t h=>.cons ⟨t,rfl⟩ (dK_ h)
def bc'(s:Stmt)(j:Nat):Stmt:=match s with
 |.ClassDef _ _ _ body _ _ _ _ _ _ _=>body.getD j (.Pass ⟨0,0,0,0⟩)
 |_=>.Pass ⟨0,0,0,0⟩
def ba'(s:Stmt):Arguments:=match s with
 |.FunctionDef _ a _ _ _ _ _ _ _ _=>a
 |_=>{ posonlyargs:=[],args:=[],vararg:=none,kwonlyargs:=[],kw_defaults:=[],kwarg:=none,defaults:=[] }
def a7'(s:Stmt):List Stmt:=match s with
 |.FunctionDef _ _ b _ _ _ _ _ _ _=>b
 |_=>[]
def a1'(s:Stmt):Scope:=match s with
 |.FunctionDef _ _ _ _ _ _ sc _ _ _=>sc
 |_=>{ kind:=.function,names:=[],isGenerator:=false,isCoroutine:=false }
abbrev CX0:CXT:=λ_ _ _ _ _ _=>False
abbrev E0:XK:=λ_ _ _=>False
variable{X:Cx}
theorem pass0:bH' CX0 X E0:=λ_ _ _ _ _ _ _ h=>h.elim
structure Fun (K:F__) (x qual:Str) (st:Stmt) (f:Addr) (fd:Ad):Prop where
 ex:∃(oc:Aa) (od:Option Addr) (kV doc pm:Aa) (an:Option Addr) (cdv ct:Aa) (osl:Array (Option Aa)),
  fd=PySem.W.fnOf x qual (ba' st) (a7' st) (a1' st) .none kV doc pm an cdv ct/\K.lookup f=some ⟨oc,od,.func fd,osl⟩/\PySem.W.codeIn K cdv qual=true
 kp:PySem.W.keepIn K (.ref f)=true
section
variable{P:Ae}{w:Af}{K:F__}{mg:Str->Option Aa}{base:Heap}
theorem Fun.ok{x qual:Str}{st:Stmt}{f:Addr}{fd:Ad}{N ps:List Str}{k:Nat}{sp:Sp}(F:Fun K x qual st f fd)(S:a3' N ps (a1' st))(len:∀vs H Q E,sp vs H Q E->vs.length=ps.length)
  (hbody:∀(cdv:Aa) (A:Ag) (outer:List Env) (s:Ac) (H:Hp) (vs:List V) (Q:VK) (E:XK),Room k (A.deeper (envOfC qual (a1' st) s.heap.objs.size f cdv))->sp vs H Q E->
   ∃t,PSs (cxOf CX0 P w K mg base N qual (a1' st) f cdv A outer s H E).nox (a7' st) t/\t { nx:=λ_ H'=>Q .non H',rt:=Q } (start N vs) H):FnOk P w K mg base CX0 (k+1) f fd ps sp:=by
 obtain⟨oc,od,kV,doc,pm,an,cdv,ct,osl,rfl,lk,hcd⟩:=F.ex;refine jI_ lk hcd S len λA outer s H vs Q E hr hsp=>?_;obtain⟨t,h,q⟩:=hbody cdv A outer s H vs Q E hr hsp;exact⟨t,h.nox,q⟩
theorem Fun.binds{x qual:Str}{st:Stmt}{f:Addr}{fd:Ad}{ps:List Str}(F:Fun K x qual st f fd)
  (h:∀(kV doc pm:Aa) (an:Option Addr) (cdv ct:Aa) (us:List Aa),us.length=ps.length->bindArgs (PySem.W.fnOf x qual (ba' st) (a7' st) (a1' st) .none kV doc pm an cdv ct) ⟨us,[]⟩=pure (ps.zip us)):b5' K fd ps []:=by
 obtain⟨oc,od,kV,doc,pm,an,cdv,ct,osl,rfl,lk,hcd⟩:=F.ex;exact .all (h kV doc pm an cdv ct)
theorem gt_{x qual:Str}{st:Stmt}{f:Addr}{oc:Aa}{od an:Option Addr}{osl:Array (Option Aa)}{kV doc pm cdv ct:Aa}(l:K.lookup f=some ⟨oc,od,.func (PySem.W.fnOf x qual (ba' st) (a7' st) (a1' st) .none kV doc pm an cdv ct),osl⟩)
  (c:PySem.W.codeIn K cdv qual=true) (k:PySem.W.keepIn K (.ref f)=true):Fun K x qual st f (PySem.W.fnOf x qual (ba' st) (a7' st) (a1' st) .none kV doc pm an cdv ct):=⟨⟨oc,od,kV,doc,pm,an,cdv,ct,osl,rfl,l,c⟩,k⟩
end
theorem ba_{A:Ag}{k:Nat}(hr:Room k A):A.units+1<cLine:=Nat.lt_of_le_of_lt (Nat.add_le_add_left (by decide:1<=64) _) hr.units
variable{pos:Pos}
theorem pv(i:Nat){x:Str}(hN:X.N[i]? = some x:=by rfl)(hv:Vis X.env.scope x:=by first|exact Or.inl rfl|exact Or.inr (Or.inl rfl)|exact Or.inr (Or.inr rfl))(hd:(x == ("__debug__":Str))=false:=by decide)(hcd:(x == ("__classdict__":Str))=false:=by decide):PE X (.Name x pos) (tVar i):=kv_ hN hv hd hcd
inductive cD' (xs:List V) (H:Hp) (Q:VK):Prop
 |mk:∀a kvs,xs=[V.ref a]->H a=some (.dK kvs)->Q (.int kvs.length) H->cD' xs H Q
theorem gW_:bp' X (.builtin "len") cD':=by
 intro pins s σ H xs us Q I r h;obtain⟨a,kvs,rfl,ha,q⟩:=h;obtain⟨u,rfl,ru⟩:=vals1 r;cases ru;exact kS_ I (.inl ha) λt s' I'=>⟨.int kvs.length,H,I',⟨t,rfl⟩,q⟩
variable{A B:Prop}
theorem iteF(h:B):if false=true then A else B:=by
 rw[a_4 aq'];exact h
theorem iteT(h:A):if true=true then A else B:=by
 rw[a_9 rfl];exact h
variable{c:Prop}
theorem ite2[Decidable c](h1:c->A)(h2:¬c->B):if c then A else B:=by
 by_cases h:c
 ·rw[a_9 h];exact h1 h
 ·rw[a_4 h];exact h2 h
theorem iteNS[Decidable c](hc:c)(h:B):if (!decide c)=true then A else B:=by
 rw[a_2 hc];exact iteF h
def Same(H H':Hp):Prop:=∀b o,H b=some o->H' b=some o
theorem Same.refl(H:Hp):Same H H:=λ_ _ h=>h
variable{H1:Hp}
theorem Same.trans{H H2:Hp}(a:Same H H1)(b:Same H1 H2):Same H H2:=λc o h=>b c o (a c o h)
theorem Same.free{H H':Hp}(e:Same H H'){l:Addr}(h:H' l=Option.none):H l=Option.none:=by
 cases q:H l with
 |none=>rfl
 |some o=>
  rw[e l o q] at h;cases h
section
variable{κ:Type}[DecidableEq κ]
theorem jM_{kvs:List (κ × V)}{k:κ}{v:V}(h:valV kvs k=some v):k∈kvs.map (·.1):=by
 have q:(kvs.any λkv=>decide (kv.1=k))=true:=by
  rw[bS_,h]
  all_goals rfl
 obtain⟨p,hp,e⟩:=List.any_eq_true.mp q;exact af'.mpr ⟨p,hp,of_decide_eq_true e⟩
end
def bm'(env:Env):List (Str × NameKind)->List (Str × Addr)->List (Str × Addr)
 |[],cs=>cs
 |(n,k)::r,cs=>bm' env r (if k == .free then (n,(env.cells.lookup n).getD 0)::cs else cs)
theorem bq_{env:Env}(f:Str × NameKind->List (Str × Addr)->Sem (ForInStep (List (Str × Addr))))
  (hf:∀n k cs,f (n,k) cs=if (k == .free)=true then (do let a <- cellOf env n;pure (.yield ((n,a)::cs))) else pure (.yield cs)) :
  ∀(names:List (Str × NameKind)) (cs:List (Str × Addr)),(∀x∈names,x.2=.free->∃c,env.cells.lookup x.1=some c)->forIn names cs f=(pure (bm' env names cs):Sem _)
 |[],cs,_=>by rw[List.forIn_nil];rfl
 |(n,k)::r,cs,h=>by
  rw[List.forIn_cons,hf];have hr:∀x∈r,x.2=.free->∃c,env.cells.lookup x.1=some c:=λx hx=>h x (ad' _ hx);unfold bm';by_cases hk:(k == NameKind.free)=true
  ·obtain⟨c,hc⟩:=h (n,k) ag' (by simpa using hk);have hc:env.cells.lookup n=some c:=hc;rw[a_9 hk,a_9 hk];have e:cellOf env n=pure c:=by unfold cellOf;rw[hc]
   rw[e];simp only[pure_bind];rw[bq_ f hf r _ hr,hc];rfl
  ·rw[a_4 hk,a_4 hk];simp only[pure_bind];exact bq_ f hf r _ hr
variable{scope:Scope}{env:Env}
theorem bO_(h:∀x∈scope.names,x.2=.free->∃c,env.cells.lookup x.1=some c):closureFor scope env=pure (bm' env scope.names []):=by
 simp only[closureFor];rw[bq_ (env:=env) _ (λn k cs=>by by_cases hk:(k == NameKind.free)=true<;>simp[hk]) scope.names [] h]
 simp only[pure_bind]
theorem cY_{env:Env}:∀{names:List (Str × NameKind)} {cs:List (Str × Addr)} {x:Str} {c:Addr},(x,c)∈bm' env names cs->(x,c)∈cs∨((x,NameKind.free)∈names/\c=(env.cells.lookup x).getD 0)
 |[],cs,x,c,h=>.inl h
 |(n,k)::r,cs,x,c,h=>by
  unfold bm' at h;rcases cY_ h with h|⟨h,e⟩
  ·by_cases hk:(k == NameKind.free)=true
   ·rw[a_9 hk] at h;rcases al'.mp h with q|q
    ·cases q;have:k=.free:=by simpa using hk
     subst this;exact .inr ⟨ag',rfl⟩
    ·exact .inl q
   ·rw[a_4 hk] at h;exact .inl h
  ·exact .inr ⟨ad' _ h,e⟩
theorem c5_{env:Env}:∀{names:List (Str × NameKind)} {cs:List (Str × Addr)} {x:Str},(x,NameKind.free)∈names∨(∃c,(x,c)∈cs)->∃c,(x,c)∈bm' env names cs
 |[],cs,x,h=>by
  rcases h with h|h
  ·cases h
  ·exact h
 |(n,k)::r,cs,x,h=>by
  unfold bm';refine c5_ ?_;rcases h with h|⟨c,h⟩
  ·rcases al'.mp h with e|h
   ·cases e;exact .inr ⟨(env.cells.lookup n).getD 0,by rw[a_9 (by decide)];exact ag'⟩
   ·exact .inl h
  ·refine .inr ⟨c,?_⟩;split
   ·exact ad' _ h
   ·exact h
theorem br_:∀(names:List (Str × NameKind)) (n:Nat) (acc cl:List (Str × Addr)),cellsFrom n names (acc++cl)=cellsFrom n names acc++cl
 |[],_,_,_=>rfl
 |(x,k)::r,n,acc,cl=>by
  unfold cellsFrom;split
  ·exact br_ r (n+1) ((x,n)::acc) cl
  ·exact br_ r n acc cl
theorem bk_:∀{names:List (Str × NameKind)} {n:Nat} {acc:List (Str × Addr)} {x:Str} {c:Addr},(x,c)∈cellsFrom n names acc->(x,c)∈acc∨(x,NameKind.cell)∈names
 |[],_,_,_,_,h=>.inl h
 |(y,k)::r,n,acc,x,c,h=>by
  unfold cellsFrom at h;by_cases hk:(k == NameKind.cell)=true
  ·rw[a_9 hk] at h;rcases bk_ h with h|h
   ·rcases al'.mp h with e|h
    ·cases e;have:k=.cell:=by simpa using hk
     subst this;exact .inr ag'
    ·exact .inl h
   ·exact .inr (ad' _ h)
  ·rw[a_4 hk] at h;rcases bk_ h with h|h
   ·exact .inl h
   ·exact .inr (ad' _ h)
theorem bm_{α:Type}:∀{l:List (Str × α)} {x:Str} {c:α},(x,c)∈l->∃c',l.lookup x=some c'
 |(k,v)::r,x,c,h=>by
  rw[aK'];cases hb:x == k with
  |true=>exact⟨v,rfl⟩
  |false=>
   rcases al'.mp h with e|h
   ·cases e;simp at hb
   ·exact bm_ h
def cpEnv(scope:Scope)(C:Addr)(env:Env):Env:=
 { scope:=relabel scope env,locals:=C,globals:=env.globals,cells:=cellsFrom (C+1) scope.names (bm' env scope.names []),qual:=env.qual,func:=none,code:=env.code,frame:=env.frame,builtins:=env.builtins }
theorem cu_{M:Model}{A:Ag}{E:Aa->Ac->Prop}{s:Ac}{cl:List (Str × Addr)}{Q:Env->Ac->Prop}(h:Q { scope:=scope,locals:=s.heap.objs.size,globals:=env.globals,cells:=cellsFrom (s.heap.objs.size+1) scope.names cl,qual:=env.qual,func:=none,code:=env.code,frame:=env.frame,builtins:=env.builtins }
   { s with heap:=pushCells (s.heap.push { cls:=.type "dict",data:=.dict #[] }) scope.names }) :
  wpAny M A (newFunctionEnv scope env.globals cl [] env.qual none .none (some env)) Q E s:=by
 simp only[newFunctionEnv,Option.isSome_some,if_true];refine a__ (wpAny_alloc ?_);refine a__ (wpAny_layCells _ (λname kind cells=>by cases hkc:kind == NameKind.cell<;>simp[hkc]) _ _ _ _ ?_)
 rw[show ({ s with heap:=s.heap.push { cls:=.type "dict",data:=.dict #[] } }:Ac).heap.objs.size=s.heap.objs.size+1 from Heap.size_push ..];rw[List.forIn_nil];exact a__ (a_6 (a_6 h))
def cV'(PN:List Str)(ps:Scope)(N:List Str)(own:Nat)(fr:List Nat)(scope:Scope):Bool:=
 decide (scope.kind=.function)&&decide N.Nodup&&decide (own+fr.length=N.length)
 && (scope.names.all λy=>decide (scope.names.lookup y.1=some y.2))
 && (scope.names.all λy=>if y.2=.free then decide (ps.names.lookup y.1=some .cell) || decide (ps.names.lookup y.1=some .free) else true)
 && ((fr.map λj=>PN[j]?) == (N.drop own).map some)
 && ((N.drop own).all λx=>decide (scope.names.lookup x=some .free))
structure CpOk (PN:List Str) (ps:Scope) (N:List Str) (own:Nat) (fr:List Nat) (scope:Scope):Prop where
 kind:scope.kind=.function
 nd:N.Nodup
 len:own+fr.length=N.length
 look:∀y∈scope.names,scope.names.lookup y.1=some y.2
 par:∀y∈scope.names,y.2=.free->ps.names.lookup y.1=some .cell∨ps.names.lookup y.1=some .free
 frs:(fr.map λj=>PN[j]?)=(N.drop own).map some
 frk:∀x∈N.drop own,scope.names.lookup x=some .free
variable{N:List Str}{own:Nat}
theorem CpOk.of{PN:List Str}{ps:Scope}{fr:List Nat}(h:cV' PN ps N own fr scope=true):CpOk PN ps N own fr scope:=by
 unfold cV' at h;simp only[Bool.and_eq_true,decide_eq_true_eq,List.all_eq_true,beq_iff_eq] at h;obtain⟨⟨⟨⟨⟨⟨h1,h2⟩,h3⟩,h4⟩,h5⟩,h6⟩,h7⟩:=h;refine⟨h1,h2,h3,h4,λy hy e=>?_,h6,h7⟩;have q:=h5 y hy;rw[a_9 e] at q;simpa using q
def bK'(own:Nat)(fr:List Nat)(σ:St):St:=List.replicate own none++fr.map λj=>(σ[j]?).join
def be'(X:Cx)(N:List Str)(scope:Scope)(fp:List Addr)(s:Ac)(H:Hp):Cx where
 prog:=X.prog
 w:=X.w
 K:=X.K
 mg:=X.mg
 base:=X.base
 A:=X.A
 N:=N
 s₀:=s
 H₀:=H
 env:=cpEnv scope s.heap.objs.size X.env
 outer:=X.stack
 stack:=X.stack
 ex:=fp
 fn:=λx=>decide (scope.names.lookup x=some .local) || decide (scope.names.lookup x=some .cell)
 calm:=X.calm
 pn:=[]
 xe:=λ_ _=>False
theorem cg_{ps:Scope}{env:Env}(he:env.scope=ps){x:Str}:∀{names:List (Str × NameKind)} {k:NameKind},names.lookup x=some k->
  (names.map λ(n,k)=>if (k == NameKind.free&&env.scope.kind == .function&&env.kindOf n == some .cell) then (n,NameKind.cell) else (n,k)).lookup x =
   some (if (k == NameKind.free&&env.scope.kind == .function&&env.kindOf x == some .cell) then .cell else k)
 |(n,k')::r,k,h=>by
  rw[aK'] at h;rw[av'];cases hb:x == n with
  |true=>
   rw[hb] at h;cases h;have e:x=n:=by simpa using hb
   subst e;dsimp only;split<;>simp[aK']
  |false=>
   rw[hb] at h;have ih:=cg_ he (env:=env) h;dsimp only;split<;>(rw[aK',hb];exact ih)
theorem bZ_{env:Env}{x:Str}:∀{names:List (Str × NameKind)} {k:NameKind},(names.map λ(n,k)=>if (k == NameKind.free&&env.scope.kind == .function&&env.kindOf n == some .cell) then (n,NameKind.cell) else (n,k)).lookup x=some k->∃k',names.lookup x=some k'/\(k'=k∨(k'=.free/\k=.cell))
 |(n,k')::r,k,h=>by
  rw[av'] at h;rw[aK'];dsimp only at h;cases hb:x == n with
  |true=>
   refine⟨k',rfl,?_⟩;by_cases hc:(k' == NameKind.free&&env.scope.kind == .function&&env.kindOf n == some .cell)=true
   ·rw[a_9 hc,aK',hb] at h;cases h;simp only[Bool.and_eq_true,beq_iff_eq] at hc;exact .inr ⟨hc.1.1,rfl⟩
   ·rw[a_4 hc,aK',hb] at h;cases h;exact .inl rfl
  |false=>
   have h':(r.map λ(n,k)=>if (k == NameKind.free&&env.scope.kind == .function&&env.kindOf n == some .cell) then (n,NameKind.cell) else (n,k)).lookup x=some k:=by
    split at h<;>(rw[aK',hb] at h;exact h)
   exact bZ_ h'
theorem dd_{α:Type}{x:Str}{c:α}:∀{l r:List (Str × α)},(l++r).lookup x=some c->(x,c)∈l∨(x,c)∈r:=λh=>au'.mp (b_3 h)
section
variable{X:Cx}{pins:List (Addr × Obj)}{σ:St}{H:Hp}{s:Ac}{N:List Str}{own:Nat}{fr:List Nat}{scope:Scope}{fp:List Addr}
theorem ec'(I:Inv X pins σ H s)(S:CpOk X.N X.env.scope N own fr scope){x:Str}{c:Addr}(h:(x,c)∈bm' X.env scope.names []):X.env.cells.lookup x=some c/\(x,NameKind.free)∈scope.names:=by
 rcases cY_ h with h|⟨h,e⟩
 ·cases h
 ·obtain⟨c',hc⟩:=I.ok.has x (S.par _ h rfl);refine⟨?_,h⟩;rw[e,hc];rfl
theorem Inv.block(I:Inv X pins σ H s)(S:CpOk X.N X.env.scope N own fr scope)(hfp:∀b∈fp,FpOk X pins H b)(hfo:∀b∈fp,∃o,s.heap.get? b=some o) :
  Inv (be' X N scope fp s H) [] (bK' own fr σ) H { s with heap:=pushCells (s.heap.push { cls:=.type "dict",data:=.dict #[] }) scope.names }:=by
 have kept:∀b o,s.heap.get? b=some o->(pushCells (s.heap.push { cls:=.type "dict",data:=.dict #[] }) scope.names).get? b=some o:=λb o e=>pushCells_keeps _ _ b o (a_0 _ e);have cok:=cellsFrom_ok scope.names (s.heap.push { cls:=.type "dict",data:=.dict #[] }) (s.heap.objs.size+1) [] ⟨λ_ _ hm=>(nomatch hm),List.Pairwise.nil⟩ (by rw[Heap.size_push];exact ai' _);rw[Heap.size_push] at cok;have ecs:cellsFrom (s.heap.objs.size+1) scope.names (bm' X.env scope.names [])=cellsFrom (s.heap.objs.size+1) scope.names []++bm' X.env scope.names []:=br_ _ _ [] _
 have lookC:∀{x c},(cellsFrom (s.heap.objs.size+1) scope.names (bm' X.env scope.names [])).lookup x=some c->((x,c)∈cellsFrom (s.heap.objs.size+1) scope.names []/\(x,NameKind.cell)∈scope.names/\s.heap.objs.size+1<=c)∨(X.env.cells.lookup x=some c/\(x,NameKind.free)∈scope.names):=λ{x c} h=>by
  rw[ecs] at h;rcases dd_ h with h|h
  ·refine .inl ⟨h,?_,(cok.empty _ _ h).2⟩;rcases bk_ h with q|q
   ·cases q
   ·exact q
  ·exact .inr (ec' I S h)
 have oldC:∀{x c},X.env.cells.lookup x=some c->c<s.heap.objs.size:=λ{x c} h=>by
  obtain⟨v,hv⟩:=I.cell x c h;exact hv.lt
 have hb:∀b∈fp,b<s.heap.objs.size:=λb hb=>let ⟨o,e⟩:=hfo b hb;a_5 e
 refine⟨⟨I.ok.mod,S.kind,I.ok.glob,I.ok.blt,ai' _,λx y c h1 h2=>?_,λx hx=>?_,λx c hf h=>?_,I.ok.hd,I.ok.frames,.inl rfl,λb hb'=>⟨ap' (hb b hb'),λx c h=>?_⟩,I.bs,?_,λb o e hb'=>?_,λb hb' hs=>?_,I.stack,I.stkFree⟩,
  rfl,I.bare,Un.kept kept,⟨_,(Heap.Ns.new s.heap (.type "dict")).keeps (pushCells_keeps _ _),λi x v h1 h2 h3=>?_⟩,λx c h=>?_,I.hok.fresh (ai' _),λx c h=>?_,λp hp=>absurd (show p∈([]:List (Addr × Obj)) from hp) Z2,I.hok.kept kept,?_⟩
 ·-- inj
  rcases lookC h1 with⟨m1,k1,l1⟩|⟨m1,k1⟩<;>rcases lookC h2 with⟨m2,k2,l2⟩|⟨m2,k2⟩
  ·exact name_of_addr cok.apart m1 m2
  ·exact absurd (oldC m2) (Nat.not_lt.mpr (Nat.le_of_succ_le l1))
  ·exact absurd (oldC m1) (Nat.not_lt.mpr (Nat.le_of_succ_le l2))
  ·exact I.ok.inj x y c m1 m2
 ·-- has
  have key:(x,NameKind.cell)∈scope.names∨(x,NameKind.free)∈scope.names:=by
   rcases hx with hx|hx
   ·obtain⟨k',e,q⟩:=bZ_ (env:=X.env) (show _=some NameKind.cell from hx);have m:=b_3 e;rcases q with q|⟨q,_⟩
    ·exact .inl (q▸m)
    ·exact .inr (q▸m)
   ·obtain⟨k',e,q⟩:=bZ_ (env:=X.env) (show _=some NameKind.free from hx);have m:=b_3 e;rcases q with q|⟨_,q⟩
    ·exact .inr (q▸m)
    ·cases q
  show ∃c,(cellsFrom (s.heap.objs.size+1) scope.names (bm' X.env scope.names [])).lookup x=some c
  have:((cellsFrom (s.heap.objs.size+1) scope.names (bm' X.env scope.names [])).lookup x).isSome=true:=by
   refine PySem.W.cellsFrom_some _ _ _ ?_;rcases key with q|q
   ·exact .inl (S.look _ q)
   ·obtain⟨c,m⟩:=c5_ (env:=X.env) (names:=scope.names) (cs:=[]) (x:=x) (.inl q);obtain⟨c',e⟩:=bm_ m;exact .inr (by rw[e];rfl)
  exact aG'.mp this
 ·-- cab
  rcases lookC h with⟨_,_,l⟩|⟨_,k⟩
  ·exact Nat.le_of_succ_le l
  ·have e:=S.look _ k;have hf:(decide (scope.names.lookup x=some .local) || decide (scope.names.lookup x=some .cell))=true:=hf;rw[show scope.names.lookup x=some .free from e] at hf;exact absurd hf (by decide)
 ·rcases lookC h with⟨_,_,l⟩|⟨q,_⟩
  ·exact a0' (ax' (hb b hb') (Nat.le_of_succ_le l))
  ·exact (hfp b hb').2.2.2.2.1 x c q
 ·exact aM' I.ok.bsz I.sz
 ·rcases (hfp b hb').2.2.2.1 with q|q
  ·exact I.ok.noex b o e q
  ·exact absurd (ax' (a_5 e) I.ok.bsz) Z1
 ·rcases al'.mp (I.stkSub b hs) with q|q
  ·exact (hfp b hb').2.1 q
  ·exact (hfp b hb').2.2.1 q
 ·-- names
  have hi:own<=i:=by
   refine Nat.le_of_not_lt λhlt=>?_;unfold bK' at h2;rw[List.getElem?_append_left (by rw[aV'];exact hlt),List.getElem?_replicate,a_9 hlt] at h2;cases h2
  have h2':(fr.map λj=>(σ[j]?).join)[i - own]? = some (some v):=by
   unfold bK' at h2;rw[aL' (by rw[aV'];exact hi),aV'] at h2;exact h2
  have h1:N[i]? = some x:=h1;have hx:(N.drop own)[i - own]? = some x:=by rw[List.getElem?_drop,show own+(i - own)=i by omega];exact h1
  rw[aj'] at h2';cases ej:fr[i - own]? with
  |none=>rw[ej] at h2';cases h2'
  |some j=>
   rw[ej] at h2';have h2':(σ[j]?).join=some v:=a_8 h2'
   have hσ:σ[j]? = some (some v):=by
    cases q:σ[j]? with
    |none=>rw[q] at h2';cases h2'
    |some o=>rw[q] at h2';exact b_9 some h2'
   have hN:X.N[j]? = some x:=by
    have q:=b_9 (λl=>l[i - own]?) S.frs;simp only[aj',ej,hx,Option.map_some] at q;exact a_8 q
   have kf:=S.frk x (ae' hx);have mf:=b_3 kf;obtain⟨m,hm,hv⟩:=I.loc;have pk:=S.par _ mf rfl;obtain⟨u,ru,lk⟩:=hv j x v hN hσ (pk.elim (λq=>.inr (.inl q)) λq=>.inr (.inr q));refine⟨u,ru,?_⟩;have pk':X.env.kindOf x=some .cell∨X.env.kindOf x=some .free:=pk;rcases lk with⟨k,_⟩|⟨_,c,hc,hcell⟩
   ·rw[k] at pk';rcases pk' with q|q<;>cases q
   ·obtain⟨c',m1⟩:=c5_ (env:=X.env) (names:=scope.names) (cs:=[]) (x:=x) (.inl mf);have e1:=(ec' I S m1).1;rw[hc] at e1;cases e1;refine .inr ⟨?_,c,?_,hcell.keeps kept⟩
    ·have q:=cg_ (env:=X.env) rfl kf;show (relabel scope X.env).names.lookup x=some .cell∨(relabel scope X.env).names.lookup x=some .free;unfold relabel;rw[q];split
     ·exact .inl rfl
     ·exact .inr rfl
    ·obtain⟨c2,e2⟩:=aG'.mp (PySem.W.cellsFrom_some (x:=x) scope.names (s.heap.objs.size+1) (bm' X.env scope.names []) (.inr (by obtain⟨c',e⟩:=bm_ m1;rw[e];rfl)));show (cellsFrom (s.heap.objs.size+1) scope.names (bm' X.env scope.names [])).lookup x=some c;rcases lookC e2 with⟨_,q,_⟩|⟨q,_⟩
     ·have:=S.look _ q;rw[show scope.names.lookup x=some .free from kf] at this;cases this
     ·rw[hc] at q;cases q;exact e2
 ·-- cells
  rcases lookC h with⟨q,_,_⟩|⟨q,_⟩
  ·exact⟨_,(cok.empty _ _ q).1⟩
  ·obtain⟨v,hv⟩:=I.cell x c q;exact⟨v,hv.keeps kept⟩
 ·rcases lookC h with⟨q,_,l⟩|⟨q,_⟩
  ·exact I.hok.fresh Z1
  ·exact I.freeC x c q
 ·show (bK' own fr σ).length=N.length;unfold bK';rw[ar',aV',aa'];exact S.len
end
def PTs(X:Cx)(ifs:List Expr)(t:TT):Prop:=
 ∀(pins:List (Addr × Obj)) (s:Ac) (σ:St) (H:Hp) (Q:Bool->Hp->Prop),Inv X pins σ H s->t σ H Q->
  wpAny (model X.prog X.w) X.A (forIn ifs true λc r=>if r=true then do let ok <- isTrue c X.env (eval c X.env);pure (ForInStep.yield ok) else pure (ForInStep.yield r)) (TP X pins σ Q) X.xe s
def tYes:TT:=λ_ H Q=>Q true H
variable{σ:St}
theorem yesT{H:Hp}{A B:Hp->Prop}(h:A H):tYes σ H λb H4=>if b=true then A H4 else B H4:=by
 unfold tYes;exact iteT h
theorem aK_:PTs X [] tYes:=λ_ _ _ H _ I h=>wpAny_tests_nil ⟨H,I,h⟩
theorem dt_{c:Expr}{t:TT}(h:PT X c t):PTs X [c] t:=λpins s σ H Q I q=>wpAny_tests_one (h pins s σ H Q I q)
def CompW(J:It)(g:TG)(tc:TT)(te:TE)(σ0:St)(D:Addr)(H1:Hp)(Q:VK):Prop:=∃W:Nat->Nat->St->Hp->Prop,
 (∃m,W 0 m σ0 (upd H1 D (.lst [])))/\∀i m σ' H',W i m σ' H'->(J.stop i H'/\Q (.ref D) H') ∨
  (J.go i H'/\∃Nx:St->Hp->Prop,(∀σ2 H2,Nx σ2 H2->∃m',m'<m/\W (i+1) m' σ2 H2) /\
   ∀x H2,J.yld i H' x H2->g x σ' H2 λσ3 H3=>tc σ3 H3 λb H4=>if b=true then te σ3 H4 λy H5=>∃out,H5 D=some (.lst out)/\out.length<sizeLine/\Nx σ3 (upd H5 D (.lst (out++[y]))) else Nx σ3 H4)
def tComp(wi:TI)(own:Nat)(fr:List Nat)(g:TG)(tc:TT)(te:TE):TE:=λσ H Q=>wi σ H λJ H1=>∀D,H1 D=none->CompW J g tc te (bK' own fr σ) D H1 Q
variable{Q:VK}{J:It}{D:Addr}{elt iter tg:Expr}{ifs:List Expr}{g:TG}{tc:TT}{te:TE}
theorem g7_{R:Result->Ac->Prop}{fr:List Nat}{pins:List (Addr × Obj)}{s2:Ac}{it:Addr}{fp:List Addr}{tn:Nat->Heap->Prop}(S:CpOk X.N X.env.scope N own fr scope)(hc:X.calm=true)(hg:∀fp s H,PG (be' X N scope fp s H) tg g)(ht:∀fp s H,PTs (be' X N scope fp s H) ifs tc)(he:∀fp s H,PE (be' X N scope fp s H) elt te)(I3:Inv X pins σ (upd H1 D (.lst [])) s2)(T:Turn X.prog X.w X.K tg J fp it tn)(st:tn 0 s2.heap)(f2:∀b∈fp,FpOk X pins (upd H1 D (.lst [])) b)(k:CompW J g tc te (bK' own fr σ) D H1 Q)(hR:∀H' s',Inv X pins σ H' s'->(∃m,s'.heap.Ns s2.heap.objs.size m)->H' s2.heap.objs.size=none->Q (.ref D) H'->R (.ok .next) s') :
  codeAny (model X.prog X.w) X.A (.compStart (.ListComp elt [⟨tg,iter,ifs,0⟩] scope pos) 0 (.ref it) (.ref D) (cpEnv scope s2.heap.objs.size X.env)) R
   { s2 with heap:=pushCells (s2.heap.push { cls:=.type "dict",data:=.dict #[] }) scope.names }:=by
 obtain⟨W,⟨m0,w0⟩,turn⟩:=k;have I4:=I3.block (N:=N) S f2 (λb hb=>let ⟨o,e,_⟩:=T.obj _ _ st b hb;⟨o,e⟩);have kept:∀b o,s2.heap.get? b=some o->(pushCells (s2.heap.push { cls:=.type "dict",data:=.dict #[] }) scope.names).get? b=some o:=λb o e=>pushCells_keeps _ _ b o (a_0 _ e);have st4:tn 0 (pushCells (s2.heap.push { cls:=.type "dict",data:=.dict #[] }) scope.names):=T.keep _ _ _ st λb hb o e=>kept b o e
 have fx:∀{H':Hp},(∀b∈fp,H' b=none)->∀b∈fp,FpOk (be' X N scope fp s2 (upd H1 D (.lst []))) [] H' b:=λhn b hb=>
  ⟨hn b hb,(I4.ok.exf b hb).1,I4.ok.exfs b hb,.inl hb,(I4.ok.exf b hb).2,λp hp=>absurd (show p∈([]:List (Addr × Obj)) from hp) Z2⟩
 have loop:codeAny (model X.prog X.w) X.A (.compLoop (.ListComp elt [⟨tg,iter,ifs,0⟩] scope pos) 0 (.ref it) (.ref D) (cpEnv scope s2.heap.objs.size X.env)) R
   { s2 with heap:=pushCells (s2.heap.push { cls:=.type "dict",data:=.dict #[] }) scope.names }:=by
  refine codeAny_loop rfl (λn s'=>∃i σ' H',Inv (be' X N scope fp s2 (upd H1 D (.lst []))) [] σ' H' s'/\tn i s'.heap/\(∀b∈fp,H' b=none)/\W i n σ' H') (λn s' hI=>?_) m0 ⟨0,_,_,I4,st4,λb hb=>(f2 b hb).1,w0⟩;obtain⟨i,σ',H',I5,st5,fr5,w5⟩:=hI;show wpAny _ X.A ((compTurn (.ListComp elt [⟨tg,iter,ifs,0⟩] scope pos) 0 (.ref it) (.ref D) (cpEnv scope s2.heap.objs.size X.env)).onRaise (λx=>do noteFrame x (cpEnv scope s2.heap.objs.size X.env);theTreesLotGoes x)) _ _ s';refine wpAny_noted (c_2 (E:=λ_ _=>False) ?_ (λ_ _ q=>q) λ_ _ q=>q.elim);rw[compTurn_list];refine a__ (wpAny_standAt (a__ ?_));rcases turn i n σ' H' w5 with⟨stop,q⟩|⟨go,Nx,hN,step⟩
  ·refine thn (T.done (be' X N scope fp s2 (upd H1 D (.lst []))) rfl rfl rfl hc i [] s' σ' H' _ I5 (fx fr5) st5 stop) λr s6 ⟨hr,I6⟩=>?_;subst hr;refine a_6 (hR H' s6 (I3.call' I6.os I6.base I6.hok I6.bare λb hb=>?_) ?_ I6.free q)
   ·exact⟨(f2 b hb).2.2.2.1,(f2 b hb).2.1,(f2 b hb).2.2.2.2.1,(f2 b hb).2.2.2.2.2⟩
   ·obtain⟨m,hm,_⟩:=I6.loc;exact⟨m,hm⟩
  ·refine thn (T.item (be' X N scope fp s2 (upd H1 D (.lst []))) rfl rfl rfl hc i [] s' σ' H' _ I5 (fx fr5) st5 go) λr s6 ⟨u,hr,h6⟩=>?_;subst hr;refine a__ (thn h6 λ_ s7 ⟨x,H7,I7,r7,y7,st7,fr7⟩=>?_);have I7':=I7.pinned (fx fr7) (T.obj _ _ st7)
   have back:∀{σ8:St} {H8:Hp} {s8:Ac},Inv (be' X N scope fp s2 (upd H1 D (.lst []))) ([]++bU' fp s7.heap) σ8 H8 s8->Nx σ8 H8->∃m,m<n/\∃i σ' H',Inv (be' X N scope fp s2 (upd H1 D (.lst []))) [] σ' H' s8/\tn i s8.heap/\(∀b∈fp,H' b=none)/\W i m σ' H':=λ{σ8 H8 s8} I8 n8=>by
    obtain⟨m',hm,w8⟩:=hN σ8 H8 n8;refine⟨m',hm,i+1,σ8,H8,I8.unpinned,T.keep _ _ _ st7 λb hb o e=>(I8.pin (b,o) (ay' _ (ay' _ (bz_ hb e)))).1,λb hb=>?_,w8⟩;obtain⟨o,e,d⟩:=T.obj _ _ st7 b hb;exact (I8.pin (b,o) (ay' _ (ay' _ (bz_ hb e)))).2.1
   refine a__ (thn (hg fp s2 (upd H1 D (.lst [])) _ s7 σ' H7 x u _ I7' r7 (step x H7 y7)) λ_ s8 ⟨σ8,H8,I8,q8⟩=>?_);refine a__ (thn (ht fp s2 (upd H1 D (.lst [])) _ s8 σ8 H8 _ I8 q8) λb s9 ⟨H9,I9,q9⟩=>?_);cases b with
   |false=>
    simp only[aQ',if_false] at q9 ⊢;exact a_6 ⟨rfl,back I9 q9⟩
   |true=>
    simp only[if_true] at q9 ⊢;refine a__ (a__ (thn (he fp s2 (upd H1 D (.lst [])) _ s9 σ8 H9 _ I9 q9) λy s10 ⟨yv,H10,I10,r10,out,hD,hz,q10⟩=>?_));refine a__ (thn (bj_ (X:=be' X N scope fp s2 (upd H1 D (.lst []))) _ s10 σ8 H10 (.ref D) [yv] (.ref D) [y] (λ_ H'=>Nx σ8 H') I10 rfl (.cons r10 .nil) ⟨D,out,yv,rfl,rfl,hD,hz,q10⟩) λ_ s11 ⟨_,H11,I11,_,q11⟩=>?_);exact a_6 (a_6 ⟨rfl,back I11 q11⟩)
 exact codeAny_compStart_list loop (T.self _ 0 _ _ _ st4 loop)
variable{wi:TI}
theorem aO_(N:List Str)(own:Nat)(fr:List Nat)(hi:PI X tg iter wi)(hg:∀fp s H,PG (be' X N scope fp s H) tg g)(ht:∀fp s H,PTs (be' X N scope fp s H) ifs tc)(he:∀fp s H,PE (be' X N scope fp s H) elt te)
  (S:cV' X.N X.env.scope N own fr scope=true:=by kernel_rfl) (hc:X.calm=true:=by rfl) (hs:∀x,foldedSetIterable iter X.env x=pure x:=by intro _;rfl) :
  PE X (.ListComp elt [⟨tg,iter,ifs,0⟩] scope pos) (tComp wi own fr g tc te):=by
 intro pins s σ H Q I h;have S':=CpOk.of S;rw[eval_ListComp];have hclos:closureFor scope X.env=pure (bm' X.env scope.names []):=bO_ λx hx e=>I.ok.has x.1 (S'.par x hx e);refine wpAny_comprehension_free (use:=none) rfl hs hclos S'.kind (λx hx e=>by rw[S'.look x hx,e]) (thn (hi pins s σ H _ I h) λv s1 h1=>thn h1 λitv s2 h2=>?_);obtain⟨it,fp,tn,J,H1,rfl,I2,T,st2,f2,k⟩:=h2;refine wpAny_newObj_type (cu_ ?_);have hD:H1 s2.heap.objs.size=none:=I2.fresh;have I3:=I2.lnew (ys:=[]) (its:=[]) (t':=s2.toks) .nil (aD' _);have kept:∀b o,s2.heap.get? b=some o->(s2.heap.push { cls:=.type "list",data:=.seq ([]:List Aa).toArray }).get? b=some o:=λb o e=>a_0 _ e;refine g7_ (own:=own) (fr:=fr) (Q:=Q) S' hc hg ht he I3 T (T.keep _ _ _ st2 λb hb o e=>kept b o e) (λb hb=>?_) (k _ hD) ?_
 ·refine⟨?_,(f2 b hb).2⟩;obtain⟨o,e,_⟩:=T.obj _ _ st2 b hb;rw[a5_ (ap' (a_5 e))];exact (f2 b hb).1
 ·rintro H' s' I' ⟨m,hm⟩ hn q;refine⟨m,hm,λh' hs'=>⟨.ref s2.heap.objs.size,H',?_,rfl,q⟩⟩
  exact I'.turned (t':=s'.toks) (λb o hb e=>hs'.extBut b o hb e) hn (a0' I3.lt) (.inr I3.sz) (λx c hcx e=>by
   obtain⟨v,hv⟩:=I3.cell x c hcx
   exact absurd hv.lt (by rw[e];exact aZ' _)) λp hp e=>by
    have:=(I3.pin p hp).1;rw[e] at this;exact absurd (a_5 this) (aZ' _)
def tAsgC(i:Nat)(te:TE):TS:=λD σ H=>te σ H λx H1=>D.nx (σ.set i (some x)) H1
theorem cR_{i:Nat}{x:Str}{px:Pos}(N:List Str)(own:Nat)(fr:List Nat)(hN:X.N.Nodup)(hi':X.N[i]? = some x)(hx:Loc X.env.scope x)
  (hi:PI X tg iter wi) (hg:∀fp s H,PG (be' X N scope fp s H) tg g) (ht:∀fp s H,PTs (be' X N scope fp s H) ifs tc) (he:∀fp s H,PE (be' X N scope fp s H) elt te) {pos':Pos}
  (S:cV' X.N X.env.scope N own fr scope=true:=by kernel_rfl) (hc:X.calm=true:=by rfl) (hs:∀x,foldedSetIterable iter X.env x=pure x:=by intro _;rfl)
  (hf:X.fn x=true∨X.env.scope.names.lookup x=some .local:=by first|exact .inl rfl|exact .inr rfl|assumption)
  (hsw:swapsWith (.ListComp elt [⟨tg,iter,ifs,0⟩] scope pos) (some (.Name x px)) pos'.line X.env=pure true:=by rfl) :
  PS X (.Assign [.Name x px] (.ListComp elt [⟨tg,iter,ifs,0⟩] scope pos) pos') (tAsgC i (tComp wi own fr g tc te)):=by
 intro pins s σ H E I h;have S':=CpOk.of S;rw[exec_Assign_Name_used _ _ _ _ hsw];refine a__ (wpAny_standAt (a__ ?_));show wpAny _ X.A (do let _ <- comprehension (.ListComp elt [⟨tg,iter,ifs,0⟩] scope pos) scope X.env _ (newList []) false (eval iter X.env) (some (assign (.Name x px) X.env))) _ _ s;have hclos:closureFor scope X.env=pure (bm' X.env scope.names []):=bO_ λx hx e=>I.ok.has x.1 (S'.par x hx e)
 refine a__ (c_2 (wpAny_comprehension_free (use:=some (assign (.Name x px) X.env)) (Q:=λ_ s'=>SP X pins E .next s') rfl hs hclos S'.kind (λx hx e=>by rw[S'.look x hx,e]) (thn (hi pins s σ H _ I h) λv s1 h1=>thn h1 λitv s2 h2=>?_))
  (λ_ s' hq=>a_6 (a_6 hq)) λ_ _ e=>e)
 obtain⟨it,fp,tn,J,H1,rfl,I2,T,st2,f2,k⟩:=h2;refine wpAny_newObj_type (cu_ ?_);have hD:H1 s2.heap.objs.size=none:=I2.fresh;have I3:=I2.lnew (ys:=[]) (its:=[]) (t':=s2.toks) .nil (aD' _);have kept:∀b o,s2.heap.get? b=some o->(s2.heap.push { cls:=.type "list",data:=.seq ([]:List Aa).toArray }).get? b=some o:=λb o e=>a_0 _ e;refine g7_ (own:=own) (fr:=fr) (Q:=λx H1=>E.nx (σ.set i (some x)) H1) S' hc hg ht he I3 T (T.keep _ _ _ st2 λb hb o e=>kept b o e) (λb hb=>?_) (k _ hD) ?_
 ·refine⟨?_,(f2 b hb).2⟩;obtain⟨o,e,_⟩:=T.obj _ _ st2 b hb;rw[a5_ (ap' (a_5 e))];exact (f2 b hb).1
 ·rintro H' s' I' ⟨m,hm⟩ hn q
  have cne:∀y c,X.env.cells.lookup y=some c->c≠(s2.heap.push { cls:=.type "list",data:=.seq ([]:List Aa).toArray }).objs.size:=λy c hcx e=>by
   obtain⟨v,hv⟩:=I3.cell y c hcx;exact absurd hv.lt (by rw[e];exact aZ' _)
  show wpAny _ X.A (assign (.Name x px) X.env (.ref s2.heap.objs.size)) _ _ s';refine wpAny_assign_Name (dD_ (v:=V.ref s2.heap.objs.size) I' hN hi' hx rfl (λs'' I'' ⟨a,hs2,ha⟩=>?_) hf)
  have hCa:(s2.heap.push { cls:=.type "list",data:=.seq ([]:List Aa).toArray }).objs.size≠a:=by
   rcases ha with e|e
   ·rw[e];exact a0' I3.lt
   ·exact (cne x a e).symm
  refine⟨m,hm.sameBut hs2 hCa,λh' hs'=>⟨_,H',?_,q⟩⟩
  exact I''.turned (t':=s''.toks) (λb o hb e=>hs'.extBut b o hb e) hn (a0' I3.lt) (.inr I3.sz) cne λp hp e=>by
    have:=(I3.pin p hp).1;rw[e] at this;exact absurd (a_5 this) (aZ' _)
def GOk(g:TG)(own:Nat)(fv:List (Option V))(dec:V->Hp->List (Option V)->Prop):Prop:=
 ∀(x:V) (o:List (Option V)) (H:Hp) (k:St->Hp->Prop) (o3:List (Option V)),o.length=own->dec x H o3->k (o3++fv) H->g x (o++fv) H k
variable{fv:List (Option V)}
theorem gok1:GOk (b4' 0) 1 fv (λx _ o3=>o3=[some x]):=λx o H k o3 hl e h=>by
 subst e
 match o,hl with
 |[a],_=>exact h
inductive dec2 (K:F__) (x:V) (H:Hp) (o3:List (Option V)):Prop
 |mk:∀p u v,x=.ref p->SqT K H p [u,v]->o3=[some u,some v]->dec2 K x H o3
inductive dec3 (K:F__) (x:V) (H:Hp) (o3:List (Option V)):Prop
 |mk:∀p u v w,x=.ref p->SqT K H p [u,v,w]->o3=[some u,some v,some w]->dec3 K x H o3
variable{K:F__}
theorem gok2:GOk (gTup K 2 (cA' (b4' 0) (cA' (b4' 1) gNil))) 2 fv (dec2 K):=λx o H k o3 hl e h=>by
 obtain⟨p,u,v,rfl,hp,rfl⟩:=e
 match o,hl with
 |[a,b],_=>exact⟨p,[u,v],rfl,hp,rfl,u,[v],rfl,v,[],rfl,rfl,h⟩
theorem gok3:GOk (gTup K 3 (cA' (b4' 0) (cA' (b4' 1) (cA' (b4' 2) gNil)))) 3 fv (dec3 K):=λx o H k o3 hl e h=>by
 obtain⟨p,u,v,w,rfl,hp,rfl⟩:=e
 match o,hl with
 |[a,b,c],_=>exact⟨p,[u,v,w],rfl,hp,rfl,u,[v,w],rfl,v,[w],rfl,w,[],rfl,rfl,h⟩
variable{H:Hp}{dec:V->Hp->List (Option V)->Prop}{σ0:St}
theorem du_(hσ:σ0=List.replicate own none++fv)(G:GOk g own fv dec)(n:Nat)(Pv:Nat->List V->Hp->Prop)(h0:Pv 0 [] (upd H D (.lst [])))(hstop:∀out H',Pv n out H'->J.stop n H'/\Q (.ref D) H')(hgo:∀i out H',i<n->Pv i out H'->J.go i H'/\∀x H2,J.yld i H' x H2->∃o3,dec x H2 o3/\o3.length=own/\∀Nx:Hp->Prop,(∀out' H2,Pv (i+1) out' H2->Nx H2)->
   tc (o3++fv) H2 λb H4=>if b=true then te (o3++fv) H4 λy H5=>∃out2,H5 D=some (.lst out2)/\out2.length<sizeLine/\Nx (upd H5 D (.lst (out2++[y]))) else Nx H4) :
  CompW J g tc te σ0 D H Q:=by
 subst hσ;refine⟨λi m σ' H'=>m=n - i/\i<=n/\(∃o:List (Option V),σ'=o++fv/\o.length=own)/\∃out,Pv i out H',⟨n,by simp,aD' _,⟨_,rfl,aV'⟩,_,h0⟩,?_⟩;rintro i m σ' H' ⟨rfl,hi,⟨o,rfl,ho⟩,out,p⟩;by_cases hlt:i<n
 ·obtain⟨go,k⟩:=hgo i out H' hlt p;refine .inr ⟨go,λσ2 H2=>(∃o:List (Option V),σ2=o++fv/\o.length=own)/\∃out,Pv (i+1) out H2,λσ2 H2 q=>⟨n - (i+1),by omega,rfl,hlt,q⟩,λx H2 y=>?_⟩;obtain⟨o3,d,l3,q⟩:=k x H2 y;exact G x o H2 _ o3 ho d (q (λH2=>(∃o:List (Option V),o3++fv=o++fv/\o.length=own)/\∃out,Pv (i+1) out H2) λout' H2 z=>⟨⟨o3,rfl,l3⟩,out',z⟩)
 ·have e:i=n:=by omega
  subst e;exact .inl (hstop out H' p)
theorem as_{a:Addr}{xs:List V}(hσ:σ0=List.replicate own none++fv)(G:GOk g own fv dec)(Pv:Nat->List V->Hp->Prop)(h0:Pv 0 [] (upd H D (.lst [])))(hl:∀i out H',i<=xs.length->Pv i out H'->SqL K H' a xs)(hd:∀out H',Pv xs.length out H'->Q (.ref D) H')(hgo:∀i x out H',xs[i]? = some x->Pv i out H'->∃o3,dec x H' o3/\o3.length=own/\∀Nx:Hp->Prop,(∀out' H2,Pv (i+1) out' H2->Nx H2)->
   tc (o3++fv) H' λb H4=>if b=true then te (o3++fv) H4 λy H5=>∃out2,H5 D=some (.lst out2)/\out2.length<sizeLine/\Nx (upd H5 D (.lst (out2++[y]))) else Nx H4) :
  CompW (Itl K a) g tc te σ0 D H Q:=by
 refine du_ hσ G xs.length Pv h0 (λout H' p=>⟨⟨xs,hl _ _ _ (ai' _) p,ai' _⟩,hd out H' p⟩) λi out H' hi p=>?_;have q:=hl i out H' (Nat.le_of_lt hi) p;refine⟨⟨xs,xs[i],q,by simp[hi]⟩,λx H2 y=>?_⟩;obtain⟨e,y⟩:=y;subst e;exact hgo i x out _ (y xs q) p
end L2
namespace EvS
open PySem PySem.W PyProof.Rows
def Ok{α:Type}(f:Nat->Nat->Bool)(n:Nat):KasT α->(α->Prop)->Prop
 |.ret a,Q=>Q a
 |.ask i j k,Q=>i<n/\j<n/\Ok f n (k (f i j)) Q
theorem Ok.bind{α β:Type}{f:Nat->Nat->Bool}{n:Nat}{g:α->KasT β}{Q:β->Prop}:∀{t:KasT α} {R:α->Prop},Ok f n t R->(∀a,R a->Ok f n (g a) Q)->Ok f n (t.bind g) Q
 |.ret a,R,h,k=>k a h
 |.ask i j t,R,h,k=>⟨h.1,h.2.1,Ok.bind h.2.2 k⟩
theorem Ok.imp{α:Type}{f:Nat->Nat->Bool}{n:Nat}{Q R:α->Prop}(k:∀a,Q a->R a):∀{t:KasT α},Ok f n t Q->Ok f n t R
 |.ret a,h=>k a h
 |.ask i j t,h=>⟨h.1,h.2.1,Ok.imp k h.2.2⟩
theorem Ok.wp{α:Type}{f:Nat->Nat->Bool}{n:Nat}{cmp:Nat->Nat->(Bool->Ac->Prop)->Ac->Prop}{s:Ac}(hc:∀i j C,i<n->j<n->C (f i j) s->cmp i j C s){Q:α->Prop}{G:α->Ac->Prop}(k:∀a,Q a->G a s) :
  ∀{t:KasT α},Ok f n t Q->t.kasWp cmp G s
 |.ret a,h=>k a h
 |.ask i j t,h=>hc i j _ h.1 h.2.1 (Ok.wp hc k h.2.2)
structure Ord (f:Nat->Nat->Bool):Prop where
 rfl':∀i,f i i=false
 trans:∀{i j k},f j i=false->f k j=false->f k i=false
 tot:∀{i j},f i j=true->f j i=false
section
variable{f:Nat->Nat->Bool}(O:Ord f){N:Nat}
abbrev at'(p:Array Nat)(i:Nat):Nat:=p.getD i 0
def Up(f:Nat->Nat->Bool)(p:Array Nat)(k:Nat):Prop:=∀i j,i<=j->j<k->f (at' p j) (at' p i)=false
def Down(f:Nat->Nat->Bool)(p:Array Nat)(k:Nat):Prop:=∀i j,i<=j->j<k->f (at' p i) (at' p j)=false
def Like(f:Nat->Nat->Bool)(p:Array Nat)(lo k:Nat):Prop:=∀i,lo<=i->i<k->f (at' p i) (at' p (k - 1))=false/\f (at' p (k - 1)) (at' p i)=false
def Good(N:Nat)(p:Array Nat):Prop:=p.Perm (List.range N).toArray
theorem Good.size{p:Array Nat}(h:Good N p):p.size=N:=by
 have:=h.size_eq;simpa using this
theorem Good.lt{p:Array Nat}(h:Good N p)(hN:0<N)(i:Nat):at' p i<N:=by
 unfold at';by_cases hi:i<p.size
 ·have e:p.getD i 0=p[i]:=by simp[Array.getD,hi]
  rw[e];have m:p[i]∈(List.range N).toArray:=h.mem_iff.mp (Array.getElem_mem hi);simpa using m
 ·have e:p.getD i 0=0:=by simp[Array.getD,hi]
  rw[e];exact hN
theorem Good.rev{p:Array Nat}(h:Good N p)(i j:Nat):Good N (kas_rev p i j):=(mirror_perm _ _ _ _).trans h
theorem Good.bub{p:Array Nat}(h:Good N p)(i j:Nat):Good N (bubble p i j):=(bubble_perm _ _ _).trans h
theorem cM_{p q:Array Nat}{i j:Nat}(h:p[i]? = q[j]?):at' p i=at' q j:=by
 unfold at';rw[Array.getD_eq_getD_getElem?,Array.getD_eq_getD_getElem?,h]
theorem co_{p:Array Nat}{i j:Nat}(hj:j<=p.size)(k:Nat):at' (kas_rev p i j) k=if i<=k/\k<j then at' p (i+j - 1 - k) else at' p k:=by
 have e:=getElem?_mirror_all (i:=i) hj k;unfold kas_rev;split
 ·rename_i c
  rw[a_9 c] at e;exact cM_ e
 ·rename_i c
  rw[a_4 c] at e;exact cM_ e
theorem iX_{p:Array Nat}{k l:Nat}(hk:k<p.size)(hl:l<=k)(i:Nat):at' (bubble p k (k - l)) i=if i=l then at' p k else if l<i/\i<=k then at' p (i - 1) else at' p i:=by
 have e:=getElem?_bubble hk (k - l) Z1 i;rw[show k - (k - l)=l by omega] at e;by_cases c:i=l
 ·rw[a_9 c] at e ⊢;exact cM_ e
 ·rw[a_4 c] at e ⊢;split
  ·rename_i d
   rw[a_9 d] at e;exact cM_ e
  ·rename_i d
   rw[a_4 d] at e;exact cM_ e
include O
theorem Up.more{p:Array Nat}{n:Nat}(h:Up f p n)(h1:1<=n)(c:f (at' p n) (at' p (n - 1))=false):Up f p (n+1):=λi j hij hj=>by
 by_cases e:j<n
 ·exact h i j hij e
 ·have e:j=n:=by omega
  subst e;by_cases e2:i=j
  ·subst e2;exact O.rfl' _
  ·exact O.trans (h i (j - 1) Z1 Z1) c
theorem Down.more{p:Array Nat}{n:Nat}(h:Down f p n)(h1:1<=n)(c:f (at' p (n - 1)) (at' p n)=false):Down f p (n+1):=λi j hij hj=>by
 by_cases e:j<n
 ·exact h i j hij e
 ·have e:j=n:=by omega
  subst e;by_cases e2:i=j
  ·subst e2;exact O.rfl' _
  ·exact O.trans c (h i (j - 1) Z1 Z1)
theorem gz_{p:Array Nat}(g:Good N p)(hN:0<N):∀(m n:Nat),1<=n->Up f p n->Ok f N (kas_asc p m n) λr=>n<=r/\r<=n+m/\Up f p r/\(r<n+m->f (at' p r) (at' p (r - 1))=true)
 |0,n,_,h=>⟨ai' _,ai' _,h,λq=>absurd q Z1⟩
 |m+1,n,h1,h=>by
  refine⟨g.lt hN _,g.lt hN _,?_⟩;dsimp only;by_cases c:f (at' p n) (at' p (n - 1))=true
  ·rw[a_9 c];exact⟨ai' _,by omega,h,λ_=>c⟩
  ·rw[a_4 c];refine (gz_ g hN m (n+1) Z1 (h.more O h1 (by simpa using c))).imp λr ⟨a,b,u,z⟩=>⟨by omega,by omega,u,λq=>z Z1⟩
theorem Like.rev{p:Array Nat}{lo k:Nat}(h:Like f p lo k)(hk:k<=p.size)(i:Nat):f (at' (kas_rev p lo k) i) (at' p i)=false/\f (at' p i) (at' (kas_rev p lo k) i)=false:=by
 rw[co_ hk];split
 ·rename_i c
  obtain⟨a1,a2⟩:=h i c.1 c.2;obtain⟨b1,b2⟩:=h (lo+k - 1 - i) Z1 Z1;exact⟨O.trans a2 b1,O.trans b2 a1⟩
 ·exact⟨O.rfl' _,O.rfl' _⟩
theorem Down.rev{p:Array Nat}{lo k n:Nat}(h:Down f p n)(l:Like f p lo k)(hk:k<=p.size):Down f (kas_rev p lo k) n:=λi j hij hj=>by
 obtain⟨a1,_⟩:=l.rev O hk i;obtain⟨_,b2⟩:=l.rev O hk j;exact O.trans (O.trans b2 (h i j hij hj)) a1
theorem dA_(hN:0<N):∀(m:Nat) (p:Array Nat) (n q:Nat),Good N p->1<=n->q+1<=n->n+m<=N->Down f p n->Like f p (n - (q+1)) n->
  Ok f N (kas_desc m p n q) λr=>Good N r.1/\n<=r.2.1/\r.2.1<=n+m/\Down f r.1 r.2.1/\r.2.2+1<=r.2.1/\Like f r.1 (r.2.1 - (r.2.2+1)) r.2.1
 |0,p,n,q,g,h1,hq,hn,d,l=>⟨g,ai' _,ai' _,d,hq,l⟩
 |m+1,p,n,q,g,h1,hq,hn,d,l=>by
  refine⟨g.lt hN _,g.lt hN _,?_⟩;dsimp only;by_cases c:f (at' p n) (at' p (n - 1))=true
  ·rw[a_9 c];have d2:Down f p (n+1):=d.more O h1 (O.tot c)
   have one:∀p':Array Nat,Like f p' (n+1 - (0+1)) (n+1):=λp' i h2 h3=>by
    have e:i=n+1 - 1:=by omega
    subst e;exact⟨O.rfl' _,O.rfl' _⟩
   by_cases hq0:q > 0
   ·rw[a_9 hq0];have hk:n<=p.size:=by rw[g.size];omega
    exact (dA_ hN m _ (n+1) 0 (g.rev _ _) Z1 Z1 Z1 (d2.rev O l hk) (one _)).imp λr ⟨a,b,b2,z⟩=>⟨a,by omega,by omega,z⟩
   ·rw[a_4 hq0];exact (dA_ hN m _ (n+1) 0 g Z1 Z1 Z1 d2 (one _)).imp λr ⟨a,b,b2,z⟩=>⟨a,by omega,by omega,z⟩
  ·rw[a_4 c];refine⟨g.lt hN _,g.lt hN _,?_⟩;dsimp only;have c:f (at' p n) (at' p (n - 1))=false:=by simpa using c
   by_cases e:f (at' p (n - 1)) (at' p n)=true
   ·rw[a_9 e];exact⟨g,ai' _,by show n<=n+(m+1);omega,d,hq,l⟩
   ·rw[a_4 e];have e:f (at' p (n - 1)) (at' p n)=false:=by simpa using e
    refine (dA_ hN m p (n+1) (q+1) g Z1 Z1 Z1 (d.more O h1 e) λi h2 h3=>?_).imp λr ⟨a,b,b2,z⟩=>⟨a,by omega,by omega,z⟩;show f (at' p i) (at' p n)=false/\f (at' p n) (at' p i)=false;by_cases ei:i=n
    ·subst ei;exact⟨O.rfl' _,O.rfl' _⟩
    ·obtain⟨a1,a2⟩:=l i Z1 Z1;exact⟨O.trans e a1,O.trans a2 c⟩
def dE'(f:Nat->Nat->Bool)(N nrem:Nat)(r:Nat × Array Nat):Prop:=Good N r.2/\1<=r.1/\r.1<=nrem/\Up f r.2 r.1
theorem gg_(hN:0<N){p:Array Nat}{n nrem:Nat}(g:Good N p)(h1:1<=n)(hn:n<=nrem)(hr:nrem<=N)(d:Down f p n):Ok f N (kas_tail3 n nrem p) (dE' f N nrem):=by
 unfold kas_tail3
 have u:Up f (kas_rev p 0 n) n:=λi j hij hj=>by
  rw[co_ (by rw[g.size];omega),co_ (by rw[g.size];omega),a_9 Z1,a_9 Z1];exact d _ _ Z1 Z1
 exact (gz_ O (g.rev _ _) hN (nrem - n) n h1 u).bind λm ⟨a,b,u,_⟩=>⟨g.rev _ _,by show 1<=m;omega,by show m<=nrem;omega,u⟩
theorem cN_(hN:0<N){p:Array Nat}{n nrem:Nat}(g:Good N p)(hn:n+1<=nrem)(hr:nrem<=N)(d:Down f p (n+1)):Ok f N (kas_descPart n nrem p) (dE' f N nrem):=by
 unfold kas_descPart;refine (dA_ O hN (nrem - (n+1)) p (n+1) 0 g Z1 Z1 Z1 d λi h2 h3=>?_).bind λr ⟨g',a,b,d',hq,l⟩=>?_
 ·have e:i=n+1 - 1:=by omega
  subst e;exact⟨O.rfl' _,O.rfl' _⟩
 ·split
  ·exact gg_ O hN (g'.rev _ _) Z1 Z1 hr (d'.rev O l (by rw[g'.size];omega))
  ·exact gg_ O hN g' Z1 Z1 hr d'
theorem ij_(hN:0<N){p:Array Nat}{nrem:Nat}(g:Good N p)(h1:1<=nrem)(hr:nrem<=N):Ok f N (kas_count nrem p) (dE' f N nrem):=by
 unfold kas_count;refine (gz_ O g hN (nrem - 1) 1 (ai' _) λi j hij hj=>?_).bind λn ⟨a,b,u,st⟩=>?_
 ·have e:i=j:=by omega
  subst e;exact O.rfl' _
 ·by_cases e:(n == nrem)=true
  ·rw[a_9 e];exact⟨g,a,by show n<=nrem;omega,u⟩
  ·rw[a_4 e];have e:n≠nrem:=by simpa using e
   have c:=st Z1;by_cases h2:n > 1
   ·rw[a_9 h2];refine⟨g.lt hN _,g.lt hN _,?_⟩;dsimp only;by_cases c2:f (at' p 0) (at' p (n - 1))=true
    ·rw[a_9 c2];exact⟨g,a,by show n<=nrem;omega,u⟩
    ·rw[a_4 c2];have c2:f (at' p 0) (at' p (n - 1))=false:=by simpa using c2
     refine cN_ O hN (g.rev _ _) Z1 hr λi j hij hj=>?_;by_cases ej:j<n
     ·rw[co_ (by rw[g.size];omega),co_ (by rw[g.size];omega),a_9 Z1,a_9 Z1];exact u _ _ Z1 Z1
     ·have ej:j=n:=by omega
      subst ej;by_cases ei:i=j
      ·subst ei;exact O.rfl' _
      ·rw[co_ (by rw[g.size];omega),co_ (by rw[g.size];omega),a_9 Z1,a_4 Z1];exact O.trans (O.trans (O.tot c) c2) (u 0 _ Z1 Z1)
   ·rw[a_4 h2];have e1:n=1:=by omega
    subst e1;refine cN_ O hN g Z1 hr λi j hij hj=>?_;by_cases ei:i=j
    ·subst ei;exact O.rfl' _
    ·have q1:i=0:=by omega
     have q2:j=1:=by omega
     subst q1;subst q2;exact O.tot c
theorem de_(hN:0<N){p:Array Nat}{k:Nat}(g:Good N p)(u:Up f p k):∀(m l r:Nat),r - l<=m->l<=r->r<=k->(∀i,i<l->f (at' p k) (at' p i)=false)->(∀i,r<=i->i<k->f (at' p k) (at' p i)=true)->
  Ok f N (kas_place p k m l r) λx=>x<=k/\(∀i,i<x->f (at' p k) (at' p i)=false)/\∀i,x<=i->i<k->f (at' p k) (at' p i)=true
 |0,l,r,hm,hl,hr,h1,h2=>by
  have e:l=r:=by omega
  subst e;exact⟨hr,h1,h2⟩
 |m+1,l,r,hm,hl,hr,h1,h2=>by
  unfold kas_place;by_cases e:l ≥ r
  ·rw[a_9 e];have e:l=r:=by omega
   subst e;exact⟨hr,h1,h2⟩
  ·rw[a_4 e];refine⟨g.lt hN _,g.lt hN _,?_⟩;dsimp only;by_cases c:f (at' p k) (at' p ((l+r) / 2))=true
   ·rw[a_9 c];refine de_ hN g u m l _ Z1 Z1 Z1 h1 λi h3 h4=>?_;by_cases ei:f (at' p k) (at' p i)=true
    ·exact ei
    ·have ei:f (at' p k) (at' p i)=false:=by simpa using ei
     have:=O.trans (u _ i h3 h4) ei;rw[c] at this;cases this
   ·rw[a_4 c];have c:f (at' p k) (at' p ((l+r) / 2))=false:=by simpa using c
    exact de_ hN g u m _ r Z1 Z1 hr (λi h3=>O.trans (u i _ Z1 Z1) c) h2
theorem iS_(hN:0<N):∀(m:Nat) (p:Array Nat) (k:Nat),Good N p->k+m=N->Up f p k->Ok f N (kas_bin m p k) λr=>Good N r/\Up f r N
 |0,p,k,g,e,u=>by
  have e:k=N:=by omega
  subst e;exact⟨g,u⟩
 |m+1,p,k,g,e,u=>by
  unfold kas_bin;refine (de_ O hN g u k 0 k Z1 Z1 (ai' _) (λi h=>absurd h Z1) λi h1 h2=>absurd h2 Z1).bind λl ⟨hl,h1,h2⟩=>?_;have hk:k<p.size:=by rw[g.size];omega
  refine iS_ hN m _ (k+1) (g.bub _ _) Z1 λi j hij hj=>?_;rw[iX_ hk hl,iX_ hk hl];by_cases ej:j=l
  ·rw[a_9 ej];by_cases ei:i=l
   ·rw[a_9 ei];exact O.rfl' _
   ·rw[a_4 ei,a_4 Z1];exact h1 i Z1
  ·rw[a_4 ej];by_cases ej2:l<j/\j<=k
   ·rw[a_9 ej2];by_cases ei:i=l
    ·rw[a_9 ei];exact O.tot (h2 (j - 1) Z1 Z1)
    ·rw[a_4 ei];by_cases ei2:l<i/\i<=k
     ·rw[a_9 ei2];exact u _ _ Z1 Z1
     ·rw[a_4 ei2];exact u _ _ Z1 Z1
   ·rw[a_4 ej2];rw[a_4 (show ¬i=l by omega),a_4 (show ¬(l<i/\i<=k) by omega)];exact u _ _ Z1 Z1
theorem fW_(hN:0<N):Ok f N (kas_sort N) λp=>Good N p/\Up f p N:=by
 unfold kas_sort;refine (ij_ O hN (p:=(List.range N).toArray) (Array.Perm.refl _) hN (ai' _)).bind λr ⟨g,h1,h2,u⟩=>?_;split
 ·rename_i c
  rw[show max r.1 1=r.1 by omega];exact iS_ O hN _ _ _ g Z1 u
 ·rename_i c
  have e:r.1=N:=by omega
  exact⟨g,e▸u⟩
end
def Asks(prog:Ae)(w:Af)(A:Ag)(f:Nat->Nat->Bool)(vs:List Aa)(s:Ac):Prop:=
 ∃κ,(∀Q:SortKind->Ac->Prop,Q κ s->wpAny (model prog w) A (keyKind' vs.toArray) Q (λ_ _=>False) s)/\∀i j C,i<vs.length->j<vs.length->C (f i j) s->kas_ask prog w A κ vs i j C s
def cg'(a:Addr)(h h':Heap):Prop:=∀b o,b≠a->h.get? b=some o->h'.get? b=some o
def bN'(p:Array Nat)(vs:List Aa):List Aa:=p.toList.map λi=>vs.getD i Value.none
theorem cD_(vs:List Aa):bN' (List.range vs.length).toArray vs=vs:=by
 unfold bN';apply List.ext_getElem?;intro i;simp only[aj'];by_cases h:i<vs.length
 ·simp[h]
 ·simp[Nat.le_of_not_lt h]
variable{f:Nat->Nat->Bool}{prog:Ae}{w:Af}{A:Ag}{E:Aa->Ac->Prop}{s:Ac}
theorem it_{a:Addr}{vs:List Aa}{n:Nat}{P:Fin->Ac->Prop}(O:Ord f)(ho:s.heap.get? a=some (seqObj "list" vs.toArray n))(h64:vs.length<64)(hask:2<=vs.length->∀h',cg' a s.heap h'->Asks prog w A f vs { s with heap:=h' })(h:∀(p:Array Nat) (h':Heap) (e:Nat),Good vs.length p->Up f p vs.length->h'.get? a=some (seqObj "list" (bN' p vs).toArray e)->cg' a s.heap h'->P (.done (.ret .none)) { s with heap:=h' }) :
  wpAny (model prog w) A (Builtin.«list.sort» ⟨[.ref a],[]⟩) P E s:=by
 have haz:a<s.heap.objs.size:=a_5 ho;obtain⟨e1,ho1⟩:∃e1,(s.heap.update a (Obj.mapSeq λ_=>(#[]:Array Aa))).get? a=some (seqObj "list" #[] e1):=⟨_,get?_update_seq ho (λ_=>#[])⟩
 have l64:vs.length<=sizeLine:=by
  have:=b__;omega
 rw[list_sort_plain];refine a__ (listItems_at ho rfl (a__ (listUpdate_at ho rfl (a__ (seqEpoch_at ho1 rfl (a__ (wpAny_newTuple (a__ (wpAny_newList (wpAny_holding ?_) (aD' _))) l64)))) (by simpa using l64) (aD' _))))
 have keep:∀g:Array Aa->Array Aa,cg' a s.heap ((((s.heap.update a (Obj.mapSeq λ_=>(#[]:Array Aa))).push (seqObj "tuple" vs.toArray 0)).push (seqObj "list" #[] 0)).update a (Obj.mapSeq g)):=λg b o hb e=>by
  refine (b_0 _ _ (Ne.symm hb)).trans (a_0 _ (a_0 _ ?_));exact (b_0 _ _ (Ne.symm hb)).trans e
 have keep0:cg' a s.heap (((s.heap.update a (Obj.mapSeq λ_=>(#[]:Array Aa))).push (seqObj "tuple" vs.toArray 0)).push (seqObj "list" #[] 0)):=λb o hb e=>
  a_0 _ (a_0 _ ((b_0 _ _ (Ne.symm hb)).trans e))
 have hoB:(((s.heap.update a (Obj.mapSeq λ_=>(#[]:Array Aa))).push (seqObj "tuple" vs.toArray 0)).push (seqObj "list" #[] 0)).get? a=some (seqObj "list" #[] e1):=a_0 _ (a_0 _ ho1);show wpAny (model prog w) A _ P E { s with heap:=((s.heap.update a (Obj.mapSeq λ_=>(#[]:Array Aa))).push (seqObj "tuple" vs.toArray 0)).push (seqObj "list" #[] 0) };dsimp only;by_cases h2:vs.toArray.size<2
 ·rw[a_9 h2,a_9 h2];refine a__ (a_6 ?_);rw[StateT.run_pure]
  have eout:((vs.toArray.zip vs.toArray).map λx:Keyed=>x.2)=(bN' (List.range vs.length).toArray vs).toArray:=by
   rw[cD_];apply Array.ext';simp[List.map_snd_zip]
  refine a__ (a_6 (a__ (seqEpoch_at hoB rfl (a__ (listUpdate_at hoB rfl ?_ (aD' _) ?_)))))
  ·simp only[bne_self_eq_false,aQ',if_false];refine a_6 (h (List.range vs.length).toArray _ _ (Array.Perm.refl _) (λi j hij hj=>?_) ((get?_update_seq hoB _).trans (b_9 (λz=>some (seqObj "list" z _)) eout)) (keep _))
   ·have e:i=j:=by
     simp only[ah'] at h2;omega
    subst e;exact O.rfl' _
  ·have e:((vs.toArray.zip vs.toArray).map λx:Keyed=>x.2).size<=sizeLine+1:=by
    simp only[Array.size_map,Array.size_zip,ah'];omega
   exact e
 ·rw[a_4 h2,a_4 h2]
  have h2':2<=vs.length:=by
   simp only[ah'] at h2;omega
  obtain⟨κ,hk,hc⟩:=hask h2' _ keep0;refine a__ (c_2 (hk (λk s'=>k=κ/\s'=_) ⟨rfl,rfl⟩) (λk s' hks=>?_) λ_ _ x=>x.elim);obtain⟨rfl,rfl⟩:=hks
  refine a__ (c_2 (kat_run (ks:=vs) (vs:=vs) (G:=λp s'=>s'={ s with heap:=((s.heap.update a (Obj.mapSeq λ_=>(#[]:Array Aa))).push (seqObj "tuple" vs.toArray 0)).push (seqObj "list" #[] 0) }/\Good vs.length p/\Up f p vs.length)
   (Q:=λst' s'=>∃p:Array Nat,arrOf st'=p.map (kas_item (vs.toArray.zip vs.toArray))/\failedOf st'=none/\s'={ s with heap:=((s.heap.update a (Obj.mapSeq λ_=>(#[]:Array Aa))).push (seqObj "tuple" vs.toArray 0)).push (seqObj "list" #[] 0) }/\Good vs.length p/\Up f p vs.length)
   rfl h2' h64 (λp st' s' _ q1 q2 q3=>⟨p,q1,q2,q3⟩) (Ok.wp hc (λp q=>⟨rfl,q⟩) (fW_ O Z1))) ?_ λ_ _ x=>x)
  rintro⟨⟨⟩,st'⟩ s' ⟨p,har,hf,hs',g,u⟩;have hs':s'={ s with heap:=((s.heap.update a (Obj.mapSeq λ_=>(#[]:Array Aa))).push (seqObj "tuple" vs.toArray 0)).push (seqObj "list" #[] 0) }:=hs';subst hs'
  have eout:((arrOf st').map λx:Keyed=>x.2)=(bN' p vs).toArray:=by
   rw[har];apply Array.ext';unfold bN';simp only[Array.map_map,Array.toList_map,List.toList_toArray];refine aI' λi _=>?_;show (kas_item (vs.toArray.zip vs.toArray) i).2=_;unfold kas_item;by_cases hi:i<vs.length
   ·simp[Array.getD,hi]
   ·simp[Array.getD,hi,Nat.le_of_not_lt hi]
  have esz:((arrOf st').map λx:Keyed=>x.2).size=vs.length:=by
   rw[eout];unfold bN';simp only[ah',aa',aH'];exact g.size
  refine a__ (seqEpoch_at hoB rfl (a__ (listUpdate_at hoB rfl ?_ (aD' _) (by rw[esz];omega))));rw[hf];simp only[bne_self_eq_false,aQ',if_false];exact a_6 (h p _ _ g u ((get?_update_seq hoB _).trans (b_9 (λz=>some (seqObj "list" z _)) eout)) (keep _))
theorem d0_{x:Aa}{Q:Aa->Ac->Prop}(O:Ord f)(hcol:wpAny (model prog w) A.in1 (collect x) (λvs s1=>vs.length<64/\(2<=vs.length->∀h':Heap,(∀b o,s1.heap.get? b=some o->h'.get? b=some o)->Asks prog w A.in1.in1 f vs { s1 with heap:=h' }) /\
   ∀(p:Array Nat) (h':Heap) (e:Nat),Good vs.length p->Up f p vs.length->h'.get? s1.heap.objs.size=some (seqObj "list" (bN' p vs).toArray e)->(∀b o,s1.heap.get? b=some o->h'.get? b=some o)->Q (.ref s1.heap.objs.size) { s1 with heap:=h' }) E s) :
  wpAny (model prog w) A (call (.builtin "sorted") [x]) Q E s:=by
 refine Calls.call_function_entry kind_sorted plain_sorted entry_sorted (args_sorted1 _) ?_;unfold Builtin.«sorted»;refine a__ (m:=checkCount "sorted" 1 1 _) (a_6 (a__ (c_2 hcol (λvs s1 q=>?_) λ_ _ z=>z)));obtain⟨h64,hask,hQ⟩:=q;refine a__ (wpAny_newList ?_ (by have:=b__;omega));have hn:(s1.heap.push (seqObj "list" vs.toArray 0)).get? s1.heap.objs.size=some (seqObj "list" vs.toArray 0):=a_1 _ rfl
 have old:∀h',cg' s1.heap.objs.size (s1.heap.push (seqObj "list" vs.toArray 0)) h'->∀b o,s1.heap.get? b=some o->h'.get? b=some o:=λh' k b o e=>
  k b o (ap' (a_5 e)) (a_0 _ e)
 refine a__ (wpAny_holding (wpAny_call_entry slot_list_sort ⟨_,hn,rfl⟩ entry_list_sort (it_ O hn h64 (λh2 h' k=>hask h2 h' (old h' k)) λp h' e g u q k=>⟨_,rfl,?_⟩) (args_list_sort _)));exact a_6 ⟨_,rfl,hQ p h' e g u q (old h' k)⟩
end EvS
namespace L2
open PySem PySem.Spec PyProof.Rows PySem.W EvS
def kLt:Key->Key->Bool
 |.inl i,.inl j=>decide (i<j)
 |.inl _,.inr _=>true
 |.inr _,.inl _=>false
 |.inr x,.inr y=>decide (x.cps.toList<y.cps.toList)
def lexK:List Key->List Key->Bool
 |[],[]=>false
 |[],_::_=>true
 |_::_,[]=>false
 |a::r,b::q=>if a=b then lexK r q else kLt a b
theorem gU_:∀a:Key,kLt a a=false
 |.inl i=>by simp[kLt]
 |.inr x=>by simp[kLt,List.lt_irrefl]
theorem dX_:∀{a b:Key},kLt a b=true->kLt b a=false
 |.inl i,.inl j,h=>by
  simp only[kLt,decide_eq_true_eq,c__] at *;omega
 |.inl _,.inr _,_=>rfl
 |.inr _,.inl _,h=>by cases h
 |.inr x,.inr y,h=>by
  simp only[kLt,decide_eq_true_eq,c__] at *;exact λq=>List.lt_irrefl _ (List.lt_trans h q)
theorem hg_:∀{a b:Key},kLt a b=false->kLt b a=false->a=b
 |.inl i,.inl j,h,h2=>by
  simp only[kLt,c__] at *;rw[show i=j by omega]
 |.inl _,.inr _,h,_=>by cases h
 |.inr _,.inl _,_,h=>by cases h
 |.inr x,.inr y,h,h2=>by
  simp only[kLt,c__] at *;rw[ext_toList (List.le_antisymm (List.not_lt.mp h2) (List.not_lt.mp h))]
theorem gK_:∀{a b c:Key},kLt a b=true->kLt b c=true->kLt a c=true
 |.inl i,.inl j,.inl k,h,h2=>by
  simp only[kLt,decide_eq_true_eq] at *;omega
 |.inl _,.inl _,.inr _,_,_=>rfl
 |.inl _,.inr _,.inr _,_,_=>rfl
 |.inl _,.inr _,.inl _,_,h=>by cases h
 |.inr _,.inl _,_,h,_=>by cases h
 |.inr _,.inr _,.inl _,_,h=>by cases h
 |.inr x,.inr y,.inr z,h,h2=>by
  simp only[kLt,decide_eq_true_eq] at *;exact List.lt_trans h h2
theorem ds_:∀a:List Key,lexK a a=false
 |[]=>rfl
 |a::r=>by
  unfold lexK;rw[a_9 rfl];exact ds_ r
theorem c3_:∀{a b:List Key},lexK a b=true->lexK b a=false
 |[],[],h=>by cases h
 |[],_::_,_=>rfl
 |_::_,[],h=>by cases h
 |a::r,b::q,h=>by
  unfold lexK at h ⊢;by_cases e:a=b
  ·rw[a_9 e] at h;rw[a_9 e.symm];exact c3_ h
  ·rw[a_4 e] at h;rw[a_4 (Ne.symm e)];exact dX_ h
theorem dl_:∀{a b:List Key},lexK a b=false->lexK b a=false->a=b
 |[],[],_,_=>rfl
 |[],_::_,h,_=>by cases h
 |_::_,[],_,h=>by cases h
 |a::r,b::q,h,h2=>by
  unfold lexK at h h2;by_cases e:a=b
  ·rw[a_9 e] at h;rw[a_9 e.symm] at h2;rw[e,dl_ h h2]
  ·rw[a_4 e] at h;rw[a_4 (Ne.symm e)] at h2;exact absurd (hg_ h h2) e
theorem cc_:∀{a b c:List Key},lexK a b=true->lexK b c=true->lexK a c=true
 |[],_,[],h,h2=>by
  rename_i b
  cases b with
  |nil=>cases h
  |cons _ _=>cases h2
 |[],_,_::_,_,_=>rfl
 |_::_,[],_,h,_=>by cases h
 |_::_,_::_,[],_,h=>by cases h
 |a::r,b::q,c::t,h,h2=>by
  unfold lexK at h h2 ⊢;by_cases e:a=b
  ·subst e;rw[a_9 rfl] at h;by_cases e2:a=c
   ·rw[a_9 e2] at h2 ⊢;exact cc_ h h2
   ·rw[a_4 e2] at h2 ⊢;exact h2
  ·rw[a_4 e] at h;by_cases e2:b=c
   ·subst e2;rw[a_4 e];exact h
   ·rw[a_4 e2] at h2;have h3:=gK_ h h2;rw[a_4 (λq=>by rw[q,gU_] at h3;cases h3)];exact h3
theorem d7_{a b c:List Key}(h:lexK b a=false)(h2:lexK c b=false):lexK c a=false:=by
 cases e:lexK c a with
 |false=>rfl
 |true=>
  by_cases e1:lexK a b=true
  ·have:=cc_ e e1;rw[h2] at this;cases this
  ·have e1:lexK a b=false:=by simpa using e1
   have:=dl_ e1 h;subst this;rw[h2] at e;cases e
def Asc(ks:List (List Key)):Prop:=ks.Pairwise λa b=>lexK b a=false
theorem c4_:∀{a b:List (List Key)},a.Perm b->Asc a->Asc b->a=b
 |[],b,p,_,_=>by
  have:=p.length_eq;cases b with
  |nil=>rfl
  |cons _ _=>cases this
 |x::r,[],p,_,_=>by
  have:=p.length_eq;cases this
 |x::r,y::q,p,h1,h2=>by
  obtain⟨a1,a2⟩:=List.pairwise_cons.mp h1;obtain⟨b1,b2⟩:=List.pairwise_cons.mp h2
  have e:x=y:=by
   rcases al'.mp (p.mem_iff.mp ag') with m|m
   ·exact m
   ·rcases al'.mp (p.mem_iff.mpr ag') with m2|m2
    ·exact m2.symm
    ·exact dl_ (b1 _ m) (a1 _ m2)
  subst e;rw[c4_ ((List.perm_cons _).mp p) a2 b2]
def sortKs(ks:List (List Key)):List (List Key):=ks.mergeSort λa b=>!lexK b a
theorem ao_(ks:List (List Key)):(sortKs ks).Perm ks:=List.mergeSort_perm _ _
theorem c2_(ks:List (List Key)):Asc (sortKs ks):=by
 have:=List.pairwise_mergeSort (le:=λa b=>!lexK b a) (λa b c h1 h2=>by
  simp only[Bool.not_eq_true'] at *;exact d7_ h1 h2) (λa b=>by
  simp only[Bool.or_eq_true,Bool.not_eq_true'];by_cases e:lexK b a=true
  ·exact .inr (c3_ e)
  ·exact .inl (by simpa using e)) ks
 exact this.imp λh=>by simpa using h
variable{ks:List (List Key)}
theorem cm_{ks':List (List Key)}(p:ks'.Perm ks)(h:Asc ks'):ks'=sortKs ks:=c4_ (p.trans (ao_ ks).symm) h (c2_ ks)
variable{p:Array Nat}
theorem bb_{α:Type}{n:Nat}(g:Good n p)(F:Nat->α):(p.toList.map F).Perm ((List.range n).map F):=by
 have e:p.toList.Perm (List.range n):=by
  have:=Array.perm_iff_toList_perm.mp g;simpa using this
 exact e.map F
theorem ew_{f:Nat->Nat->Bool}(hf:∀i j,i<ks.length->j<ks.length->f i j=lexK (ks.getD i []) (ks.getD j []))(g:Good ks.length p)(u:Up f p ks.length):Asc (p.toList.map λi=>ks.getD i []):=by
 unfold Asc;rw[aE',List.pairwise_iff_getElem];intro i j hi hj hij;have hs:=g.size;rw[aH'] at hi hj;have hj':j<ks.length:=by omega
 have q:=u i j (Nat.le_of_lt hij) hj';have hN:0<ks.length:=by omega
 rw[hf _ _ (g.lt hN _) (g.lt hN _)] at q;have e1:at' p i=p.toList[i]:=by simp[at',Array.getD,hi]
 have e2:at' p j=p.toList[j]:=by simp[at',Array.getD,hj]
 rw[e1,e2] at q;exact q
theorem dv_(ks:List (List Key)):Ord λi j=>lexK (ks.getD i []) (ks.getD j []):=⟨λ_=>ds_ _,λh h2=>d7_ h h2,λh=>c3_ h⟩
theorem aW_{α:Type}(d:α)(l:List α):((List.range l.length).map λi=>l.getD i d)=l:=by
 apply List.ext_getElem?;intro i;simp only[aj'];by_cases h:i<l.length
 ·simp[h]
 ·simp[Nat.le_of_not_lt h]
variable{ys:List V}{vs:List Aa}
theorem db_(r:Vals ys vs)(g:Good vs.length p):Vals (p.toList.map λi=>ys.getD i .non) (bN' p vs):=by
 unfold bN'
 have key:∀l:List Nat,(∀i∈l,i<vs.length)->Vals (l.map λi=>ys.getD i .non) (l.map λi=>vs.getD i Value.none):=λl=>by
  induction l with
  |nil=>exact λ_=>.nil
  |cons i l ih=>
   intro h;refine .cons ?_ (ih λj hj=>h j (ad' _ hj));have hi:=h i ag';have hy:i<ys.length:=by rw[r.length];exact hi
   obtain⟨u,hu,ru⟩:=r.get (ab' hy);have e1:ys.getD i .non=ys[i]:=by simp[hy]
   have e2:vs.getD i Value.none=u:=by simp[hu]
   show RelV (ys.getD i .non) (vs.getD i Value.none);rw[e1,e2];exact ru
 refine key p.toList λi hi=>?_;have m:i∈(List.range vs.length).toArray:=g.mem_iff.mp (by simpa using hi);simpa using m
theorem hk_:∀{ss:List Str} {vs:List Aa},Vals (ss.map V.str) vs->StrsAre vs ss
 |[],_,.nil=>.nil
 |x::r,_,.cons h t=>by
  obtain⟨tk,rfl⟩:=h;exact .cons x tk (hk_ t)
def bt'(ss:List Str):List Str:=(sortKs (ss.map λx=>[Sum.inr x])).map λk=>match k with
 |[.inr x]=>x
 |_=>⟨#[]⟩
def keyS(x:Str):List Key:=[Sum.inr x]
variable{prog:Ae}{w:Af}{A:Ag}{s:Ac}
theorem gs_{ss:List Str}(r:StrsAre vs ss)(h2:2<=vs.length):Asks prog w A (λi j=>lexK ((ss.map keyS).getD i []) ((ss.map keyS).getD j [])) vs s:=by
 refine⟨oneType',λQ q=>?_,λi j C hi hj hC=>?_⟩
 ·match vs,h2 with
  |v₁::v₂::t,_=>
   rw[keyKind_strs r];exact a_6 q
 ·unfold kas_ask;rw[keyLt'_oneType]
  have look:∀k,k<vs.length->∃x t,vs.getD k Value.none=.str x t/\(ss.map keyS).getD k []=[Sum.inr x]:=λk hk=>by
   have e:=r.strs;obtain⟨x,t,q⟩:=r.all vs[k] (aC' hk);refine⟨x,t,by simp[hk,q],?_⟩
   have hk':k<ss.length:=by
    rw[<- e,aa'];exact hk
   have e2:ss[k]=x:=by
    have e3:(vs.map strOf)[k]? = ss[k]?:=by rw[e]
    rw[aj',ab' hk,ab' hk',q] at e3;exact (a_8 e3).symm
   simp[hk',e2,keyS]
  obtain⟨x,t,e1,e2⟩:=look i hi;obtain⟨y,u,e3,e4⟩:=look j hj;rw[e1,e3];dsimp only at hC;rw[e2,e4] at hC;refine oneLt_str ?_;unfold lexK at hC;by_cases e:x=y
  ·subst e;rw[a_9 rfl] at hC;have:decide (x.cps.toList<x.cps.toList)=false:=by simp[List.lt_irrefl]
   rw[this];exact hC
  ·rw[a_4 (λq=>e (b_5 q))] at hC;exact hC
def isS:Key->Bool
 |.inl _=>false
 |.inr _=>true
variable{a b:Key}
theorem hb_{E:Aa->Ac->Prop}{c:Bool}{p q:Aa}{Q:Bool->Ac->Prop}(ra:RelV (kV a) p)(rb:RelV (kV b) q)(hk:isS a=isS b)(h:Q (kLt a b) s) :
  wpAny (model prog w) A (oneLt' c p q) Q E s:=by
 cases a with
 |inl i=>
  cases b with
  |inr y=>cases hk
  |inl j=>
   obtain⟨t,rfl⟩:=ra;obtain⟨u,rfl⟩:=rb;cases c with
   |true=>exact oneLt_int h
   |false=>exact kat_one _ _ (lt_int (show PySem.W.BoolBack Q (.bool _) s from h))
 |inr x=>
  cases b with
  |inl j=>cases hk
  |inr y=>
   obtain⟨t,rfl⟩:=ra;obtain⟨u,rfl⟩:=rb;cases c with
   |true=>exact oneLt_str h
   |false=>exact kat_one _ _ (PyProof.Rows.lt_str (show PySem.W.BoolBack Q (.bool _) s from h))
theorem gx_(hk:isS a=isS b):eqV (kV a) (kV b)=decide (a=b):=by
 cases a with
 |inl i=>
  cases b with
  |inr y=>cases hk
  |inl j=>
   show (i == j)=_;by_cases e:i=j
   ·subst e;simp
   ·rw[a_7 (λq=>e (Sum.inl.inj q))];simpa using e
 |inr x=>
  cases b with
  |inl j=>cases hk
  |inr y=>
   show (x == y)=_;by_cases e:x=y
   ·subst e;simp
   ·rw[a_7 (λq=>e (b_5 q))];simpa using e
theorem f8_(a:Key):cx' (kV a)=true:=by cases a<;>rfl
theorem cJ_{prog:Ae}{w:Af}{A:Ag}{s:Ac}{Q:Bool->Ac->Prop}:∀{k1 k2:List Key} {us vs:List Aa} (i:Nat),Vals (k1.map kV) us->Vals (k2.map kV) vs->k1.map isS=k2.map isS->Q (lexK k1 k2) s->KatLex prog w A true false Q (us.zip vs) i s
 |[],[],_,_,i,.nil,.nil,_,h=>h
 |[],_::_,_,_,_,_,_,h,_=>by cases h
 |_::_,[],_,_,_,_,_,h,_=>by cases h
 |a::k1,b::k2,u::us,v::vs,i,.cons ra r1,.cons rb r2,hk,h=>by
  obtain⟨e1,e2⟩:=List.cons.inj hk;refine kat_cons ?_;refine eX_ ra rb (f8_ a) (f8_ b) prog w _ _ ?_;rw[gx_ e1];unfold lexK at h;by_cases e:a=b
  ·rw[a_9 e] at h;rw[a_2 e];exact kat_yes (cJ_ (i+1) r1 r2 e2 h)
  ·rw[a_4 e] at h;rw[a_7 e];exact kat_no (hb_ ra rb e1 h)
def a4'(K:F__)(H:Hp):List V->List (List Key)->Prop:=Paired λy k=>∃a,y=V.ref a/\H a=some (.tup (k.map kV))
def dO'(ks:List (List Key))(sh:List Bool):Prop:=sh≠[]/\∀k∈ks,k.map isS=sh
theorem e4_{X:Cx}{pins:List (Addr × Obj)}{σ:St}{H:Hp}{s':Ac}{sh:List Bool}(I:Inv X pins σ H s)(r:Vals ys vs)(t:a4' X.K H ys ks)(al:dO' ks sh)(h2:2<=vs.length)(kp:∀b o,s.heap.get? b=some o->s'.heap.get? b=some o):Asks X.prog X.w A (λi j=>lexK (ks.getD i []) (ks.getD j [])) vs s':=by
 have look:∀k,k<vs.length->∃a its,vs.getD k Value.none=.ref a/\Vals ((ks.getD k []).map kV) its/\IsTup s'.heap a its.toArray/\ks.getD k []∈ks:=λk hk=>by
  have hy:k<ys.length:=by rw[r.length];exact hk
  have hk2:k<ks.length:=by rw[<- a_3 t];exact hy
  obtain⟨u,hu,ru⟩:=r.get (ab' hy)
  have gen:∀{ys:List V} {ks:List (List Key)} (k:Nat) (hy:k<ys.length) (hk2:k<ks.length),a4' X.K H ys ks->∃a,ys[k]=V.ref a/\H a=some (.tup (ks[k].map kV)):=λ{ys ks} k hy hk2 t=>by
   induction t generalizing k with
   |nil=>exact absurd hy Z2
   |cons h t ih=>
    cases k with
    |zero=>exact h
    |succ k=>exact ih k (by simpa using hy) (by simpa using hk2)
  obtain⟨a,e,sq⟩:=gen k hy hk2 t;obtain⟨its,ri,ti,_⟩:=I.tuple (SqT.of sq);rw[e] at ru;cases ru;have e2:ks.getD k []=ks[k]:=by simp[hk2]
  refine⟨a,its,by simp[hu],by rw[e2];exact ri,ti.keeps kp,?_⟩;rw[e2];exact aC' hk2
 obtain⟨hne,hal⟩:=al
 obtain⟨c,sh',rfl⟩:∃c sh',sh=c::sh':=by
  cases sh with
  |nil=>exact absurd rfl hne
  |cons c sh'=>exact⟨c,sh',rfl⟩
 refine⟨tuples' true,λQ q=>?_,λi j C hi hj hC=>?_⟩
 ·have firsts:∀l:List Aa,(∀v∈l,∃(a:Addr) (its:List Aa) (k:List Key),v=.ref a/\Vals (k.map kV) its/\IsTup s'.heap a its.toArray/\k.map isS=c::sh')->∃fs,KatTups s'.heap l fs/\fs.length=l.length/\∀v∈fs,Looks (model X.prog X.w) s'.heap (typeOf v) (.type (if c then "str" else "int")):=λl=>by
   induction l with
   |nil=>exact λ_=>⟨[],.nil,rfl,λ_ h=>nomatch h⟩
   |cons v l ih=>
    intro h;obtain⟨fs,h1,h2,h3⟩:=ih λv hv=>h v (ad' _ hv);obtain⟨a,its,k,rfl,rv,⟨o,ho,hc,n,hd⟩,hk⟩:=h v ag'
    match k,its,rv,hk with
    |k0::k,u::its,.cons r0 _,hk=>
     refine⟨u::fs,.cons ho hc hd Z2 h1,by simp[h2],λv hv=>?_⟩;rcases al'.mp hv with e|hv
     ·subst e;have e0:=(List.cons.inj hk).1;cases k0 with
      |inl i=>
       obtain⟨t,rfl⟩:=r0;rw[<- e0];exact .now
      |inr x=>
       obtain⟨t,rfl⟩:=r0;rw[<- e0];exact .now
     ·exact h3 v hv
  obtain⟨fs,h1,h3,h4⟩:=firsts vs λv hv=>by
   obtain⟨k,hk,rfl⟩:=aB' hv;obtain⟨a,its,e,rv,ti,m⟩:=look k hk;refine⟨a,its,_,?_,rv,ti,hal _ m⟩;rw[<- e];simp[hk]
  refine kat_kind h1 Z1 h4 (by cases c<;>decide) ?_
  have e:((Value.type (if c then "str" else "int")) != Value.type "tuple")=true:=by cases c<;>decide
  rw[e];exact q
 ·unfold kas_ask;obtain⟨a,its,e1,r1,⟨o,ho,_,n,hd⟩,m1⟩:=look i hi;obtain⟨b,its2,e2,r2,⟨o2,ho2,_,n2,hd2⟩,m2⟩:=look j hj;rw[e1,e2];refine kat_lt ho hd ho2 hd2 ?_;have l1:=r1.length;have l2:=r2.length;have l3:=b_9 List.length ((hal _ m1).trans (hal _ m2).symm);simp only[aa'] at l1 l2 l3;rw[show decide (its.toArray.size<its2.toArray.size)=false by simp;omega];exact cJ_ 0 r1 r2 ((hal _ m1).trans (hal _ m2).symm) hC
end L2
namespace EvD
open PySem PySem.W PyProof.Rows
def Raw(h:Heap)(d:Addr)(es:Array DictEntry)(ep:Nat):Prop:=∃o,h.get? d=some o/\o.ExactDict/\o.data=.dict es ep
variable{h h':Heap}{d:Addr}{es:Array DictEntry}{ep:Nat}
theorem Raw.stay(x:Raw h d es ep)(k:∀o,h.get? d=some o->h'.get? d=some o):Raw h' d es ep:=let ⟨o,e,r⟩:=x;⟨o,k o e,r⟩
variable{s:Ac}
theorem Raw.ty(x:Raw s.heap d es ep):s.TypeIs (.ref d) "dict":=let ⟨o,e,c,_⟩:=x;⟨o,e,c.1⟩
variable{prog:Ae}{w:Af}{A:Ag}{E:Aa->Ac->Prop}
theorem i9_{Q:Aa->Ac->Prop}(hd:(d == sysModules)=false)(x:Raw s.heap d es ep)(q:Q (.ref s.heap.objs.size) { s with heap:=s.heap.push { cls:=.type "dict_keyiterator",data:=.fields #[.ref d,.int 0 0,.int es.size 0,.int ep 0] } }) :
  wpAny (model prog w) A (pyIter (.ref d)) Q E s:=by
 obtain⟨o,ho,hc,hdat⟩:=id x;refine wpAny_pyIter_slot x.ty F.slot_dict_iter (wpAny_call_entry F.slot_dict_iter x.ty F.entry_dict_iter ?_ (F.args_dict_iter_1 _));unfold Builtin.«dict.__iter__» Builtin.Dict.dictSlotNone;refine a__ (a__ (wpAny_notOrdered_dict x.ty (show wpAny _ _ (pure (Value.ref d)) _ _ s from a_6 (show wpAny _ _ (Builtin.Dict.showsAll d >>= _) _ _ s from ?_))));unfold Builtin.Dict.showsAll;rw[a_4 (by rw[hd];decide)];refine a__ (a_6 (a__ (wpAny_dictEntries ho hdat (a__ (wpAny_dictEpoch ho hdat (a__ (wpAny_newObj_type (a_6 ⟨_,rfl,"dict_keyiterator",_,⟨_,a_1 _ rfl,rfl⟩,F.slot_dict_keyiterator_next.lookup,?_⟩))))))));exact q
variable{Q:Option Aa->Ac->Prop}{it:Addr}{i:Nat}
theorem iD_(hit:s.heap.IsKeyIter it d i es.size ep)(x:Raw s.heap d es ep)(hi:i<es.size)(q:∀h',h'.IsKeyIter it d (i+1) es.size ep->Heap.SameBut it s.heap h'->Q (some es[i].key) { s with heap:=h' }):wpAny (model prog w) A (pyNext (.ref it)) Q E s:=by
 obtain⟨o,ho,hc,hd⟩:=id hit;obtain⟨od,hod,hcd,hdd⟩:=id x;unfold pyNext;refine a__ (wpAny_attempt (wpAny_callSpecial?_slot (name:=Str.ofString "__next__") hit.typeIs F.slot_dict_keyiterator_next (wpAny_call_entry F.slot_dict_keyiterator_next hit.typeIs F.entry_dict_keyiterator_next ?_ (F.args_dict_keyiterator_next_1 _))));refine a__ (a_6 (a__ (a__ ?_)))
 first|refine a__ (wpAny_typeNameOfWhole_keyiter hit.typeIs (a_6 (a__ (wpAny_fieldsOf ho hd ?_))))|refine a__ (wpAny_typeNameOf_keyiter hit.typeIs (a_6 (a__ (wpAny_fieldsOf ho hd ?_))))
 simp only[show Builtin.Dict_items.ownsTuple "dict_keyiterator"=false by decide,aQ',if_false];refine (show wpAny _ _ (if (Value.ref d == Value.none)=true then _ else _) _ _ s from ?_);rw[a_4 (λz=>by cases z)];refine a__ (a_6 (a__ (wpAny_dictEntries hod hdd ?_)));rw[a_4 Z2];refine a__ (a_6 (a__ (wpAny_dictEpoch hod hdd ?_)));rw[a_4 Z2];refine a_6 ?_;simp only[show ¬((i:Int)<0) from by omega,if_false,aU',Array.getElem?_eq_getElem hi];refine a__ ?_
 first|refine a__ (wpAny_typeNameOfWhole_keyiter hit.typeIs (a_6 (a__ (wpAny_isOneOf_keyiter hit.typeIs ?_))))|refine a__ (wpAny_typeNameOf_keyiter hit.typeIs (a_6 (a__ (wpAny_isOneOf_keyiter hit.typeIs ?_))))
 refine (show wpAny _ _ (setField (.ref it) 1 (rawInt ((i:Int)+1)) >>= _) _ _ s from a__ (wpAny_setField ho hd Z2 ?_))
 have turned:(s.heap.update it (Obj.mapFields (·.setIfInBounds 1 (rawInt ((i:Int)+1))))).IsKeyIter it d (i+1) es.size ep:=
  ⟨_,Heap.get?_update_self _ ho (Obj.isFreed_of_fields (Obj.data_mapFields hd _)),(Obj.cls_mapFields ..).trans hc,by rw[Obj.data_mapFields hd];simp[rawInt]⟩
 refine a__ (wpAny_holding (a__ (wpAny_isOneOf_keyiter (s:={ s with heap:=s.heap.update it (Obj.mapFields (·.setIfInBounds 1 (rawInt ((i:Int)+1)))) }) turned.typeIs ?_)));exact (show wpAny _ _ (pure es[i].key) _ _ _ from a_6 (a_6 ⟨_,rfl,a_6 (q _ turned (Heap.SameBut.update ..))⟩))
theorem hO_(hh:A.handled=none)(hit:s.heap.IsKeyIter it d es.size es.size ep)(x:Raw s.heap d es ep)(q:∀h',Heap.ExtBut it s.heap h'->Q none { s with heap:=h' }):wpAny (model prog w) A (pyNext (.ref it)) Q E s:=by
 obtain⟨o,ho,hc,hd⟩:=id hit;obtain⟨od,hod,hcd,hdd⟩:=id x;unfold pyNext;refine a__ (wpAny_attempt (wpAny_callSpecial?_slot (name:=Str.ofString "__next__") hit.typeIs F.slot_dict_keyiterator_next (wpAny_call_entry F.slot_dict_keyiterator_next hit.typeIs F.entry_dict_keyiterator_next ?_ (F.args_dict_keyiterator_next_1 _))));refine a__ (a_6 (a__ (a__ ?_)))
 first|refine a__ (wpAny_typeNameOfWhole_keyiter hit.typeIs (a_6 (a__ (wpAny_fieldsOf ho hd ?_))))|refine a__ (wpAny_typeNameOf_keyiter hit.typeIs (a_6 (a__ (wpAny_fieldsOf ho hd ?_))))
 simp only[show Builtin.Dict_items.ownsTuple "dict_keyiterator"=false by decide,aQ',if_false];refine (show wpAny _ _ (if (Value.ref d == Value.none)=true then _ else _) _ _ s from ?_);rw[a_4 (λz=>by cases z)];refine a__ (a_6 (a__ (wpAny_dictEntries hod hdd ?_)));rw[a_4 Z2];refine a__ (a_6 (a__ (wpAny_dictEpoch hod hdd ?_)));rw[a_4 Z2];refine a_6 ?_;simp only[show ¬((es.size:Int)<0) from by omega,if_false,aU',Array.getElem?_eq_none (ai' _)];refine a__ ?_
 first|refine a__ (wpAny_typeNameOfWhole_keyiter hit.typeIs (a_6 ?g))|refine a__ (wpAny_typeNameOf_keyiter hit.typeIs (a_6 ?g))
 refine (show wpAny _ _ (setField (.ref it) 0 .none >>= _) _ _ s from a__ (wpAny_setField ho hd Z2 (show wpAny _ _ (newExc (.type "StopIteration") [] >>= _) _ _ _ from a__ ?_)));simp only[newExc,newTuple];refine a__ (wpAny_newObj_type (a__ (m:=firstArgMember _ _) (wpAny_of_eq (a:=Value.none) (by first|rfl|(simp only[firstArgMember];rfl)) (wpAny_newObj_type ?_ (by size_fits)))) (by size_fits));simp only[raiseNew];refine a__ (wpAny_handled ?_);rw[show A.in1.handled=none from hh];refine a__ (a_6 (wpAny_throw ?_));exact a__ (wpAny_isInstance (T:="StopIteration") (b:=true) ⟨_,a_1 _ rfl,rfl⟩ isSubtype_stop (a_6 (q _ (((Heap.SameBut.update ..).extBut.push _).push _))))
theorem gu_(hh:A.handled=none)(I d:Addr)(hne:d≠I)(es:Array DictEntry)(ep:Nat) :
  Walks prog w A I [I,d] [I] es.size (λi v=>∃h:i<es.size,v=es[i].key) (λi h=>h.IsKeyIter I d i es.size ep/\Raw h d es ep) where
 sub:=λb hb=>by simp only[aR'] at hb;simp[hb]
 frame:=λ_ _ _ st k=>⟨st.1.at λo e=>k I Z2 o e,st.2.stay λo e=>k d Z2 o e⟩
 item:=λi s Q E hi st hQ=>iD_ st.1 st.2 hi λh' hit' hs'=>hQ _ h' s.toks ⟨hi,rfl⟩ ⟨hit',st.2.stay λo e=>hs'.extBut d o hne e⟩ λb o hb e=>hs'.extBut b o (λh=>hb (by simp[h])) e
 done:=λs Q E st hQ=>hO_ hh st.1 st.2 λh' he'=>hQ h' s.toks λb o hb e=>he' b o (λh=>hb (by simp[h])) e
 self:=λ_ _ _ _ st hQ=>wpAny_pyIter_keyiter st.1 hQ
theorem j3_(lo:(d == sysModules)=false):KdlSrc prog w "dict" d d es.size (λi v=>∃h:i<es.size,v=es[i].key) (λh=>Raw h d es ep) where
 type:=λs x=>x.ty
 there:=λh x=>let ⟨o,e,_⟩:=x;⟨a_5 e,a_5 e⟩
 keep:=λh h' x k=>x.stay λo e=>k d (.inl rfl) o e
 notList:=by decide
 notTuple:=by decide
 hint:=λ_ _ s _ x q=>kdl_hint_dict x.ty q
 iter:=λA s hh x=>⟨_,_,λE Q q=>i9_ lo x q,gu_ hh _ d (let ⟨o,e,_⟩:=x;ap' (a_5 e)) es ep,⟨⟨_,a_1 _ rfl,rfl,rfl⟩,x.stay λo e=>a_0 _ e⟩⟩
theorem cU_:typeLookup (.type "list") "keys"=pure none:=by rw[typeLookup_type,builtinLookup_eq_fast];kernel_rfl
variable{a:Addr}{xs:Array Aa}{k:Nat}{tk:Tok}{R:Result->Ac->Prop}
theorem fY_(hx:s.heap.get? a=some (seqObj "list" xs k))(h:raisesAttr (.ref a) "keys" A R s) :
  codeAny (model prog w) A (.call (.builtin "list.__getattribute__") ⟨[.ref a,.str "keys" tk],[]⟩) R s:=by
 refine codeAny_call_builtin F.slot_list_getattribute.plain am_entry_list_getattribute (F.slot_list_getattribute.check _ _ _ _ _ _ _ _ ⟨_,hx,rfl⟩ (F.args_list_getattribute_2 _ _) ?_);exact meets_getattribute_miss_list a xs k #[] "keys" tk cU_ (by decide) (by size_fits) prog w A R s ⟨hx,h⟩
theorem noKeys(hx:s.heap.get? a=some (seqObj "list" xs k))(hA:A.handled=none)(h:∀h' tk,(∀b o,s.heap.get? b=some o->h'.get? b=some o)->Q none { s with heap:=h',toks:=tk }):wpAny (model prog w) A (getAttr? (.ref a) "keys") Q E s:=by
 obtain⟨hp,g,d,tk,os⟩:=s;have ty:∀tk',(⟨hp,g,d,tk',os⟩:Ac).TypeIs (.ref a) "list":=λ_=>⟨_,hx,rfl⟩;have f1:=sub_AttributeError;have f2:=F.slot_list_getattribute.lookup;have f3:=F.slot_list_getattribute.bind (.ref a);have f4:=am_list_getattr_none;unfold getAttr? getAttrBy? getAttrBy
 repeat (any_goals (first|assumption|exact ty _|wp_step))
 refine fY_ hx ⟨hA,λh' tk' e hx'=>?_⟩;obtain⟨t',u',he⟩:=hx'.there;show wpAny _ _ (getattributeRaised _ _ _ _ _ _ _) _ _ _;unfold getattributeRaised
 repeat (any_goals (first|assumption|wp_step))
 exact h _ _ hx'.keeps
theorem eb_:entryFor table "dict.update.loop"=some Builtin.«dict.update.loop»:=entryFor_of_tree (by kernel_rfl)
theorem bW_:plainId "dict.update.loop"=true:=by decide +kernel
theorem iP_(d it:Addr)(i:Int)(tk:Tok):Builtin.«dict.update.loop» ⟨[.ref d,.ref it,.int i tk,.none],[]⟩=(do
  let r <- pyNext (.ref it)
  match r with
  |none=>do Builtin.Dict.addKeywords d [];ret .none
  |some item=>do
   holding [item] (do
    let pair <- (Builtin.Dict.pairItems item).tryCatch λe=>do
     if !(<- isInstance e (.type "TypeError")) then throw e
     rule "dict.update.element-no-sequence"
     raiseError "TypeError" s!"cannot convert dictionary update sequence element #{i} to a sequence"
    match pair with
    |[k,v]=>holding [k,v] (dictSet d k v)
    |l=>do
     rule "dict.update.element-length"
     raiseError "ValueError" s!"dictionary update sequence element #{i} has length {l.length}; 2 is required")
   again (.builtin "dict.update.loop" ⟨[.ref d,.ref it,rawInt (i+1),.none],[]⟩)):=by
 unfold Builtin.«dict.update.loop»;refine b_9 (λf=>pyNext (.ref it) >>= f) (funext λr=>?_);cases r<;>rfl
section
variable{prog:Ae}{w:Af}{K:Type}[DecidableEq K]{knd:PySem.KeyKind prog w K}{A:Ag}
def dL'(knd:PySem.KeyKind prog w K)(h:Heap):List Aa->List (K × Aa)->Prop:=Paired λv p=>∃a key,v=.ref a/\IsTup h a #[key,p.2]/\knd.is p.1 key=true
def mergeP(kvs:List (K × Aa))(ps:List (K × Aa)):List (K × Aa):=ps.foldl (λacc p=>stored acc p.1 p.2) kvs
theorem fL_(kvs:List (K × Aa))(k:K)(v:Aa):(stored kvs k v).length<=kvs.length+1:=by
 unfold stored;split
 ·simp
 ·simp
theorem cw_{b l:Addr}{ys:Array Aa}(t:IsTup h b ys)(q:h.IsListIter it l i):b≠it:=λz=>by
 obtain⟨o,ho,hc,_⟩:=t;obtain⟨o2,ho2,hc2,_⟩:=q;subst z;rw[ho] at ho2;cases ho2;rw[hc] at hc2;exact absurd hc2 (by decide)
theorem eE_{b:Addr}{ys:Array Aa}{kvs:List (K × Aa)}(t:IsTup h b ys)(q:h.DictOf knd d kvs):b≠d:=λz=>by
 obtain⟨o,ho,hc,_⟩:=t;obtain⟨o2,es,ep,ho2,hc2,_⟩:=q;subst z;rw[ho] at ho2;cases ho2;have hc3:=hc2.1;rw[hc] at hc3;exact absurd hc3 (by decide)
theorem dZ_{kvs:List (K × Aa)}(q:h.DictOf knd d kvs)(k:∀o,h.get? d=some o->h'.get? d=some o):h'.DictOf knd d kvs:=by
 obtain⟨o,es,ep,ho,r⟩:=q;exact⟨o,es,ep,k _ ho,r⟩
theorem i2_{l:Addr}{its:List Aa}{key x:Aa}{k:K}{kvs:List (K × Aa)}(hdi:d≠it)(hi:its.toArray[i]? = some (.ref a))(ht:IsTup s.heap a #[key,x])(hk:knd.is k key=true)(hit:s.heap.IsListIter it l i)(hl:s.heap.IsList l its.toArray)(hd:s.heap.DictOf knd d kvs)(hz:kvs.length<=1000)(hR:∀h2,h2.DictOf knd d (stored kvs k x)->(∀b o,b≠d->b≠it->s.heap.get? b=some o->h2.get? b=some o)->h2.IsListIter it l (i+1)->codeAny (model prog w) A (.builtin "dict.update.loop" ⟨[.ref d,.ref it,rawInt ((i:Int)+1),.none],[]⟩) R { s with heap:=h2,toks:=s.toks+1 }) :
  codeAny (model prog w) A (.builtin "dict.update.loop" ⟨[.ref d,.ref it,.int i tk,.none],[]⟩) R s:=by
 refine codeAny_builtin eb_ ?_;rw[Around.under_plainId bW_ _,iP_];refine a__ (wpAny_pyNext_list_item hit hl hi λh1 hit1 hs1=>?_);obtain⟨ot,hot,hct,nt,hdt⟩:=id ht;have hot1:h1.get? a=some ot:=hs1.extBut _ _ (cw_ ht hit) hot;refine a__ (wpAny_holding (a__ (wpAny_tryCatch ?_)));unfold Builtin.Dict.pairItems;refine a__ (wpAny_typeOf (T:="tuple") ⟨ot,hot1,hct⟩ ?_);rw[a_9 (by decide)];unfold seqItems?;refine a__ (a__ (wpAny_load hot1 ?_));rw[hdt];refine a_6 (a_6 ?_);refine (show wpAny _ _ (holding [key,x] (dictSet d key x)) _ _ _ from wpAny_holding (wpAny_dictSet_pairs hk (dZ_ hd λo q=>hs1.extBut _ _ hdi q) (λh2 hd2 hs2=>?_) (by have:=b__;omega)));exact a_6 ⟨plainId_quiet bW_ _,hR h2 hd2 (λb o h3 h4 q=>hs2.extBut _ _ h3 (hs1.extBut _ _ h4 q)) (hit1.extBut hs2.extBut (Ne.symm hdi))⟩
theorem jE_{l:Addr}{its:List Aa}{kvs:List (K × Aa)}(hdi:d≠it)(hh:A.handled=none)(hi:its.toArray[i]? = none)(hit:s.heap.IsListIter it l i)(hl:s.heap.IsList l its.toArray)(hd:s.heap.DictOf knd d kvs)(hR:∀h',h'.DictOf knd d kvs->(∀b o,b≠it->s.heap.get? b=some o->h'.get? b=some o)->R (.ok (.ret .none)) { s with heap:=h' }) :
  codeAny (model prog w) A (.builtin "dict.update.loop" ⟨[.ref d,.ref it,.int i tk,.none],[]⟩) R s:=by
 refine codeAny_builtin eb_ ?_;rw[Around.under_plainId bW_ _,iP_];refine a__ (wpAny_pyNext_list_end hh hit hl hi λh' he=>?_);exact a__ (m:=Builtin.Dict.addKeywords d []) (a_6 (a_6 (hR h' (dZ_ hd λo q=>he _ _ hdi q) λb o hb q=>he b o hb q)))
theorem kp_{l:Addr}(hil:l≠it)(hdi:d≠it)(hdl:d≠l)(hh:A.handled=none){its:List Aa}(rest:List Aa):∀(ps:List (K × Aa)) (i:Nat) (kvs:List (K × Aa)) (s:Ac) (R:Result->Ac->Prop) (tk:Tok),its.drop i=rest->dL' knd s.heap rest ps->
  s.heap.IsListIter it l i->s.heap.IsList l its.toArray->s.heap.DictOf knd d kvs->kvs.length+ps.length<=1000->
  (∀h' tk',h'.DictOf knd d (mergeP kvs ps)->(∀b o,b≠d->b≠it->s.heap.get? b=some o->h'.get? b=some o)->R (.ok (.ret .none)) { s with heap:=h',toks:=tk' })->
  codeAny (model prog w) A (.builtin "dict.update.loop" ⟨[.ref d,.ref it,.int i tk,.none],[]⟩) R s:=by
 induction rest with
 |nil=>
  intro ps i kvs s R tk e hp hit hl hd hz hR;cases hp
  have hi:its.toArray[i]? = none:=by
   have:=b_9 List.length e;simp only[List.length_drop,aO'] at this;simp;omega
  exact jE_ hdi hh hi hit hl hd λh' hd' kp=>hR h' s.toks hd' λb o _ hb q=>kp b o hb q
 |cons v rest ih=>
  intro ps i kvs s R tk e hp hit hl hd hz hR;cases hp with
  |@cons _ p _ ps h0 hr=>
  obtain⟨a,key,hv,ht,hk⟩:=h0;obtain⟨k,x⟩:=p;subst hv
  have hi:its.toArray[i]? = some (.ref a):=by
   have q:(its.drop i)[0]? = some (.ref a):=by rw[e];rfl
   rw[List.getElem?_drop] at q;simpa using q
  have e':its.drop (i+1)=rest:=by
   rw[<- List.drop_drop,e];rfl
  simp only[az'] at hz;refine i2_ hdi hi ht hk hit hl hd Z1 λh2 hd2 kp hit2=>?_;have c1:((i:Int)+1)=((i+1:Nat):Int):=by omega
  rw[c1];refine ih ps (i+1) (stored kvs k x) _ R 0 e' (L2.Paired.mapP hr λv p ⟨b,ky,e1,t1,k1⟩=>⟨b,ky,e1,?_,k1⟩) hit2 (hl.at λo q=>kp _ _ (Ne.symm hdl) hil q) hd2 (by have:=fL_ kvs k x;omega) λh' tk' hd' kp'=>hR h' tk' hd' λb o h3 h4 q=>kp' b o h3 h4 (kp b o h3 h4 q);obtain⟨o,ho,r⟩:=id t1;exact⟨o,kp _ _ (eE_ t1 hd) (cw_ t1 hit) ho,r⟩
theorem dF_{l:Addr}{its:List Aa}{n:Nat}{ps:List (K × Aa)}{Q:Aa->Ac->Prop}(hh:A.handled=none)(ho:s.heap.get? l=some (seqObj "list" its.toArray n))(hp:dL' knd s.heap its ps)(hz:ps.length<=1000)(h:∀h' tk',h'.DictOf knd s.heap.objs.size (mergeP [] ps)->(∀b o,s.heap.get? b=some o->h'.get? b=some o)->Q (.ref s.heap.objs.size) { s with heap:=h',toks:=tk' }) :
  wpAny (model prog w) A (call (.type "dict") [.ref l]) Q E s:=by
 refine callType_codes (Q₁:=λobj s₁=>obj=.ref s.heap.objs.size/\s₁={ s with heap:=s.heap.push { cls:=.type "dict",data:=.dict #[] } }) F.kt_called_dict (F.kt_typeCall_dict_1 _) F.entry_dict_init (kt_code_dict_new _ ⟨rfl,rfl⟩) ?_;rintro obj s₁ ⟨rfl,rfl⟩;have hnew:(s.heap.push { cls:=.type "dict",data:=.dict #[] }).DictOf knd s.heap.objs.size []:=Heap.DictOf.new s.heap;have hl1:(s.heap.push { cls:=.type "dict",data:=.dict #[] }).get? l=some (seqObj "list" its.toArray n):=a_0 _ ho;refine⟨hnew.typeIs,F.args_dict_init_2 _ _,?_⟩;unfold Builtin.«dict.__init__» Builtin.Dict.selfAndRest;refine a__ (a__ (wpAny_notOrdered_dict hnew.typeIs ?_));refine (show wpAny _ _ (pure (s.heap.objs.size,[Value.ref l])) _ _ _ from a_6 ?_);refine (show wpAny _ _ (Builtin.Dict.updateFrom "dict.__init__" s.heap.objs.size (.ref l) [] .none) _ _ _ from ?_);unfold Builtin.Dict.updateFrom;refine a__ (wpAny_typeOf (T:="list") ⟨_,hl1,rfl⟩ ?_);rw[a_9 (by decide)];refine a__ (noKeys hl1 hh λh2 tk2 k2=>?_);simp only[Option.isNone_none,if_true];have hl2:h2.get? l=some (seqObj "list" its.toArray n):=k2 _ _ hl1;refine a__ (wpAny_rule (a__ (wpAny_pyIter_list ⟨_,hl2,rfl,_,rfl⟩ ?_)));refine a_6 ⟨plainId_quiet bW_ _,?_⟩;have all:∀{b o},s.heap.get? b=some o->(h2.push { cls:=.type "list_iterator",data:=.fields #[.ref l,.int 0 0] }).get? b=some o:=λq=>a_0 _ (k2 _ _ (a_0 _ q))
 have hd2:h2.DictOf knd s.heap.objs.size []:=by
  obtain⟨o,es,ep,ho,r⟩:=hnew;exact⟨o,es,ep,k2 _ _ ho,r⟩
 have sz2:s.heap.objs.size<h2.objs.size:=by
  obtain⟨o,es,ep,ho,r⟩:=hd2;exact a_5 ho
 have lz:l<s.heap.objs.size:=a_5 ho
 refine kp_ (A:=A.in1) (knd:=knd) (its:=its) (it:=h2.objs.size) (l:=l) (d:=s.heap.objs.size) (ap' (Nat.lt_trans lz sz2)) (ap' sz2) (a0' lz) hh its ps 0 [] _ _ 0 rfl (L2.Paired.mapP hp λv p ⟨b,ky,e1,t1,k1⟩=>⟨b,ky,e1,t1.keeps λb o q=>all q,k1⟩)
  ⟨_,a_1 _ rfl,rfl,rfl⟩ ⟨_,a_0 _ hl2,rfl,_,rfl⟩ (by
   obtain⟨o,es,ep,ho,r⟩:=hd2;exact⟨o,es,ep,a_0 _ ho,r⟩) (by simpa using hz) λh' tk' hd' kp=>⟨rfl,h h' tk' hd' λb o q=>?_⟩
 have bl:b<s.heap.objs.size:=a_5 q;exact kp b o (ap' bl) (ap' (Nat.lt_trans bl sz2)) (all q)
end
end EvD
namespace L2
open PySem PySem.Spec PyProof.Rows PySem.W EvS EvD
variable{ys:List V}
theorem a4'.same{K:F__}{H H':Hp}{ks:List (List Key)}(t:a4' K H ys ks)(e:Same H H'):a4' K H' ys ks:=Paired.mapP t λy k ⟨a,z,q⟩=>⟨a,z,e _ _ q⟩
theorem Same.new{H:Hp}{l:Addr}{o:HO}(h:H l=none):Same H (upd H l o):=λb u e=>by rw[a5_ (a7_ e h)];exact e
section
variable{X:Cx}{pins:List (Addr × Obj)}{σ:St}{H H':Hp}{s:Ac}{h':Heap}{t':Nat}
theorem Inv.many(I:Inv X pins σ H s)(k:∀b o,s.heap.get? b=some o->h'.get? b=some o)(hold:Same H H')(hnew:∀b,H b=none->b<s.heap.objs.size->H' b=none)
  (hob:∀b o,H' b=some o->H b=none->∃xs its,o=.tup xs/\xs.length<=sizeLine/\Vals xs its/\IsTup h' b its.toArray/\∃o,h'.get? b=some o/\o.dict=none):Inv X pins σ H' { s with heap:=h',toks:=t' }:=by
 refine I.un ⟨λb o q _ _ _=>k b o q,λb o q _ _ _=>⟨o.slots,k b o q⟩,λb o q n _=>hnew b n (a_5 q),λb o q _=>⟨o,k b o q⟩,λb xs q=>hold b _ q,λb o u q=>hold b _ q,λb ps q=>⟨#[],by rw[Array.append_empty];exact hold b _ q⟩⟩ λb o q=>?_;cases e:H b with
 |some u=>
  have e2:=hold b u e;rw[q] at e2;cases e2;exact (I.hok b o e).stay (λc v _ z=>k c v z) (λc z=>hold c _ z) λc xs z=>hold c _ z
 |none=>
  obtain⟨xs,its,rfl,z,r,t⟩:=hob b o q e;exact⟨z,its,r,t⟩
end
section
variable{X:Cx}{pins:List (Addr × Obj)}{σ:St}{H:Hp}{s:Ac}{A:Ag}{E:Aa->Ac->Prop}
theorem ig_{p:Addr}{R:List Aa->Ac->Prop}(I:Inv X pins σ H s)(h:SqL X.K H p ys)(hz:ys.length<=100000)(q:∀vs s1,Inv X pins σ H s1->Vals ys vs->R vs s1):wpAny (model X.prog X.w) A (collect (.ref p)) R E s:=by
 obtain⟨its,r,pl,_⟩:=I.list h;have hl:=r.length;refine collect_list pl.isList (q its _ ?_ r) (by have:=b__;omega);refine I.kept (t':=s.toks) λb u e=>?_;have lt:b<s.heap.objs.size:=a_5 e;rw[Heap.get?_update_ne _ _ _ _ (ap' lt)];exact a_0 _ e
theorem cb_{P:Nat->Aa->Prop}{acc:Array Aa}(h:ItemsOf P acc ys.length)(hp:∀(j:Nat) v,P j v->∀y,ys[j]? = some y->RelV y v):Vals ys acc.toList:=by
 have gen:∀(ys:List V) (vs:List Aa),ys.length=vs.length->(∀(j:Nat) y v,ys[j]? = some y->vs[j]? = some v->RelV y v)->Vals ys vs:=λys=>by
  induction ys with
  |nil=>
   intro vs hl _;cases vs with
   |nil=>exact .nil
   |cons _ _=>cases hl
  |cons y ys ih=>
   intro vs hl h;cases vs with
   |nil=>cases hl
   |cons v vs=>exact .cons (h 0 y v rfl rfl) (ih vs (by simpa using hl) λj y v a b=>h (j+1) y v (by simpa using a) (by simpa using b))
 refine gen ys acc.toList (by rw[aH'];exact h.1.symm) λj y v a b=>hp j v (h.2 j v ?_) y a;rw[<- Array.getElem?_toList];exact b
theorem iK_{d:Addr}{kvs:List (Key × V)}(I:Inv X pins σ H s)(h:Rd H d (.dK kvs)):∃(P:Nat->Aa->Prop) (OK:Heap->Prop),KdlSrc X.prog X.w "dict" d d (kvs.map λkv=>kV kv.1).length P OK/\OK s.heap/\∀(j:Nat) v,P j v->∀y,(kvs.map λkv=>kV kv.1)[j]? = some y->RelV y v:=by
 obtain⟨z,hd,vs,rel,dd⟩:=bD_ I.hok h;obtain⟨ep,dat⟩:=dd.dictAt;have hl:=rel.length;refine⟨λi v=>∃k x,vs[i]? = some (k,x)/\(a5' X.prog X.w).is k v=true,λh=>h.DictAt (a5' X.prog X.w) d vs ep,(by rw[aa',hl];exact kdl_dict (knd:=a5' X.prog X.w) (kvs:=vs) (ep:=ep) hd),dat,λj v ⟨k,x,e,hk⟩ y hy=>?_⟩;rw[aj'] at hy;have ek:kvs.map (·.1)=vs.map (·.1):=rel.keys;have e2:(kvs.map (·.1))[j]? = (vs.map (·.1))[j]?:=by rw[ek]
 rw[aj',aj',e] at e2;cases e3:kvs[j]? with
 |none=>rw[e3] at e2;cases e2
 |some kv=>
  rw[e3] at e2 hy;have e4:kv.1=k:=a_8 e2;have e5:kV kv.1=y:=a_8 hy;rw[<- e5,e4];have hk:cY' k v=true:=hk;rcases aA_ hk with⟨i,t,rfl,rfl⟩|⟨x,t,rfl,rfl⟩
  ·exact⟨t,rfl⟩
  ·exact⟨t,rfl⟩
theorem iT_{d:Addr}{kvs:List (Key × V)}{R:List Aa->Ac->Prop}(hh:A.handled=none)(I:Inv X pins σ H s)(h:Rd H d (.dK kvs))(q:∀vs s1,Inv X pins σ H s1->Vals (kvs.map λkv=>kV kv.1) vs->R vs s1):wpAny (model X.prog X.w) A (collect (.ref d)) R E s:=by
 obtain⟨P,OK,S,ok,hp⟩:=iK_ I h;refine kdu_collect S hh ok ?_ λh' tk acc k a=>q _ _ (I.kept k) (cb_ a hp);rw[aa'];exact (bD_ I.hok h).1
theorem kL_{d:Addr}{kvs:List (List Key × V)}(I:Inv X pins σ H s)(h:Rd H d (.dT kvs)):∃(ys:List V) (P:Nat->Aa->Prop) (OK:Heap->Prop),a4' X.K H ys (kvs.map (·.1))/\ys.length<=sizeLine/\KdlSrc X.prog X.w "dict" d d ys.length P OK/\OK s.heap/\∀(j:Nat) v,P j v->∀y,ys[j]? = some y->RelV y v:=by
 obtain⟨z,hd,xs,rel,o,es,ep,ho,hc,hdat,hes,nd⟩:=h.ok I.hok
 have l1:es.size=xs.length:=by
  have:=b_9 List.length hes;simpa using this
 have l2:=a_3 rel;refine⟨xs.map λx=>V.ref x.2.1,λi v=>∃h:i<es.size,v=es[i].key,λh=>Raw h d es ep,?_,by rw[aa'];omega,(by rw[aa',<- l1];exact j3_ (es:=es) (ep:=ep) hd),⟨o,ho,hc,hdat⟩,λj v ⟨hj,e⟩ y hy=>?_⟩
 ·have gen:∀{kvs:List (List Key × V)} {xs:List (List Key × Addr × Aa)},KT H kvs xs->a4' X.K H (xs.map λx=>V.ref x.2.1) (kvs.map (·.1)):=λ{kvs xs} r=>by
   induction r with
   |nil=>exact .nil
   |cons h _ ih=>exact .cons ⟨_,rfl,h.2.1⟩ ih
  exact gen rel
 ·rw[aj'] at hy;have hx:j<xs.length:=by omega
  rw[ab' hx] at hy;have e1:V.ref xs[j].2.1=y:=a_8 hy
  have e2:es[j]=entryOfKey (tupleKind (a5' X.prog X.w)) xs[j]:=by
   have e3:es.toList[j]? = (xs.map (entryOfKey (tupleKind (a5' X.prog X.w))))[j]?:=by rw[hes]
   rw[aj',ab' hx,Array.getElem?_toList,Array.getElem?_eq_getElem hj] at e3;exact a_8 e3
  rw[<- e1,e,e2];rfl
theorem ki_{d:Addr}{kvs:List (List Key × V)}{R:List Aa->Ac->Prop}(hh:A.handled=none)(I:Inv X pins σ H s)(h:Rd H d (.dT kvs))(q:∀ys vs s1,Inv X pins σ H s1->Vals ys vs->a4' X.K H ys (kvs.map (·.1))->R vs s1):wpAny (model X.prog X.w) A (collect (.ref d)) R E s:=by
 obtain⟨ys,P,OK,t,z,S,ok,hp⟩:=kL_ I h;exact kdu_collect S hh ok z λh' tk acc k a=>q ys _ _ (I.kept k) (cb_ a hp) t
def bq'(v d:Addr):HO:=.ext λh=>h.IsItemsView v d
def a9'(v d:Addr):HO:=.ext λh=>h.IsValuesView v d
def bh'(K:F__)(H:Hp):List V->List (Key × V)->Prop:=Paired λy p=>∃a,y=V.ref a/\H a=some (.tup [kV p.1,p.2])
theorem gA_{v d:Addr}{kvs:List (Key × V)}{R:List Aa->Ac->Prop}(hh:A.handled=none)(I:Inv X pins σ H s)(hv:H v=some (bq' v d))(h:Rd H d (.dK kvs))(q:∀H1 ys vs s1,Inv X pins σ H1 s1->Same H H1->Vals ys vs->bh' X.K H1 ys kvs->R vs s1) :
  wpAny (model X.prog X.w) A (collect (.ref v)) R E s:=by
 obtain⟨z,hd,vs,rel,dd⟩:=bD_ I.hok h;obtain⟨ep,dat⟩:=dd.dictAt;obtain⟨iv,_,_⟩:=I.hok v _ hv;have hl:=rel.length;refine kdx_collect (knd:=a5' X.prog X.w) (kvs:=vs) (ep:=ep) hh iv dat Z1 λh' tk as k la G=>?_;have up:∀b,b∈as->s.heap.objs.size<b:=G.above
 have at1:∀(j:Nat) b p,as[j]? = some b->kvs[j]? = some p->∃its,Vals [kV p.1,p.2] its/\IsTup h' b its.toArray/\∃o,h'.get? b=some o/\o.dict=none:=λj b p hj hp=>by
  obtain⟨key,kk,x,e1,e2,e3⟩:=G.pairs j b hj
  have gen:∀{kvs:List (Key × V)} {vs:List (Key × Aa)},KV kvs vs->∀(j:Nat),vs[j]? = some (kk,x)->kvs[j]? = some p->p.1=kk/\RelV p.2 x:=λ{kvs vs} r=>by
   induction r with
   |nil=>intro j e;simp at e
   |@cons p' q _ _ h _ ih=>
    intro j e e';cases j with
    |zero=>
     have e:q=(kk,x):=by simpa using e
     have e':p'=p:=by simpa using e'
     subst e';rw[e] at h;exact h
    |succ j=>exact ih j (by simpa using e) (by simpa using e')
  obtain⟨g1,g2⟩:=gen rel j e1 hp;refine⟨[key,x],.cons ?_ (.cons g2 .nil),⟨_,e3,rfl,_,rfl⟩,_,e3,rfl⟩;rw[g1];have e2:cY' kk key=true:=e2;rcases aA_ e2 with⟨i,t,rfl,rfl⟩|⟨x,t,rfl,rfl⟩
  ·exact⟨t,rfl⟩
  ·exact⟨t,rfl⟩
 have look:∀{as:List Addr} {kvs:List (Key × V)},as.Pairwise (· < ·)->∀(j:Nat) b p,as[j]? = some b->kvs[j]? = some p->(as.zip kvs).lookup b=some p:=λ{as}=>by
  induction as with
  |nil=>intro kvs _ j b p e;simp at e
  |cons a as ih=>
   intro kvs pw j b p e e';cases kvs with
   |nil=>simp at e'
   |cons q kvs=>
    obtain⟨p1,p2⟩:=List.pairwise_cons.mp pw;show ((a,q)::as.zip kvs).lookup b=some p;cases j with
    |zero=>
     have e:a=b:=by simpa using e
     have e':q=p:=by simpa using e'
     subst e;subst e';rw[List.lookup_cons_self]
    |succ j=>
     have e:as[j]? = some b:=by simpa using e
     have e':kvs[j]? = some p:=by simpa using e'
     have lt:=p1 b (ae' e);rw[aK',show (b == a)=false by simp only[beq_eq_false_iff_ne];exact a0' lt];exact ih p2 j b p e e'
 have lk:as.length=kvs.length:=by omega
 let H1:Hp:=λb=>if b∈as then ((as.zip kvs).lookup b).map λp=>HO.tup [kV p.1,p.2] else H b
 have h1in:∀(j:Nat) b p,as[j]? = some b->kvs[j]? = some p->H1 b=some (.tup [kV p.1,p.2]):=λj b p e e'=>by
  show (if b∈as then _ else _)=_;rw[a_9 (ae' e),look G.rise j b p e e'];rfl
 have h1out:∀b,b∉as->H1 b=H b:=λb hb=>a_4 hb;have old:∀b,b<s.heap.objs.size->b∉as:=λb hb m=>absurd (up b m) Z1;refine q H1 (as.map V.ref) _ _ (I.many (t':=tk) k (λb o e=>by rw[h1out b (old b (I.hok.lt e))];exact e) (λb e hb=>by rw[h1out b (old b hb)];exact e) λb o e e0=>?_) (λb o e=>by rw[h1out b (old b (I.hok.lt e))];exact e) ?_ ?_
 ·by_cases m:b∈as
  ·obtain⟨j,hj⟩:=List.mem_iff_getElem?.mp m
   have jl:j<kvs.length:=by
    have:=(ac'.mp hj).1;omega
   have e':=h1in j b kvs[j] hj (ab' jl);rw[e] at e';cases e';obtain⟨its,r,t⟩:=at1 j b _ hj (ab' jl);exact⟨_,its,rfl,by show 2<=sizeLine;decide,r,t⟩
  ·rw[h1out b m,e0] at e;cases e
 ·have gen:∀as:List Addr,Vals (as.map V.ref) (as.map Value.ref):=λas=>by
   induction as with
   |nil=>exact .nil
   |cons a as ih=>exact .cons rfl ih
  exact gen as
 ·have gen:∀(as':List Addr) (kvs':List (Key × V)),as'.length=kvs'.length->(∀(j:Nat) b p,as'[j]? = some b->kvs'[j]? = some p->H1 b=some (.tup [kV p.1,p.2]))->bh' X.K H1 (as'.map V.ref) kvs':=λas'=>by
   induction as' with
   |nil=>
    intro kvs' hl _;cases kvs' with
    |nil=>exact .nil
    |cons _ _=>cases hl
   |cons a as' ih=>
    intro kvs' hl h;cases kvs' with
    |nil=>cases hl
    |cons p kvs'=>exact .cons ⟨a,rfl,h 0 a p rfl rfl⟩ (ih kvs' (by simpa using hl) λj b p e e'=>h (j+1) b p (by simpa using e) (by simpa using e'))
  exact gen as kvs lk h1in
end
theorem fb_{a b:List Str}(h:a.map keyS=b.map keyS):a=b:=by
 induction a generalizing b with
 |nil=>
  cases b with
  |nil=>rfl
  |cons _ _=>cases h
 |cons x a ih=>
  cases b with
  |nil=>cases h
  |cons y b=>
   obtain⟨h1,h2⟩:=List.cons.inj h;have h1:[(Sum.inr x:Key)]=[Sum.inr y]:=h1;cases h1;rw[ih h2]
theorem c1_(ss:List Str):(bt' ss).map keyS=sortKs (ss.map keyS):=by
 have all:∀k∈sortKs (ss.map keyS),∃x,k=keyS x:=λk hk=>by
  obtain⟨x,_,e⟩:=af'.mp ((ao_ _).mem_iff.mp hk);exact⟨x,e.symm⟩
 have gen:∀l:List (List Key),(∀k∈l,∃x,k=keyS x)->(l.map λk=>match k with | [.inr x]=>x|_=>(⟨#[]⟩:Str)).map keyS=l:=λl=>by
  induction l with
  |nil=>exact λ_=>rfl
  |cons k l ih=>
   intro h;obtain⟨x,rfl⟩:=h k ag';rw[av',av',ih λk hk=>h k (ad' _ hk)];rfl
 exact gen _ all
theorem b1_(ss:List Str):(bt' ss).Perm ss:=by
 have p:((bt' ss).map keyS).Perm (ss.map keyS):=by rw[c1_];exact ao_ _
 have back:∀l:List Str,(l.map keyS).map (λk=>match k with | [.inr x]=>x|_=>(⟨#[]⟩:Str))=l:=λl=>by
  rw[ak']
  induction l with
  |nil=>rfl
  |cons x l ih=>rw[av',ih];rfl
 have q:=p.map (λk=>match k with | [.inr x]=>x|_=>(⟨#[]⟩:Str));rwa [back,back] at q
section
variable{X:Cx}{pins:List (Addr × Obj)}{σ:St}{H:Hp}{s:Ac}
theorem ed_{u:Aa}{ss:List Str}{Q:VK}(h64:ss.length<64)(hcol:wpAny (model X.prog X.w) X.A.in1 (collect u) (λvs s1=>∃H1,Inv X pins σ H1 s1/\Vals (ss.map V.str) vs/\∀l,H1 l=none->Q (.ref l) (upd H1 l (.lst ((bt' ss).map V.str)))) X.xe s) :
  wpAny (model X.prog X.w) X.A (call (.builtin "sorted") [u]) (EP X pins σ Q) X.xe s:=by
 refine d0_ (dv_ (ss.map keyS)) (thn hcol λvs s1 ⟨H1,I1,r,q⟩=>?_);have hl:vs.length=ss.length:=by rw[<- r.length,aa']
 refine⟨by omega,λh2 h' _=>gs_ (hk_ r) h2,λp h' e g up hD kp=>?_⟩;have g':Good (ss.map keyS).length p:=by rw[aa',<- hl];exact g
 have asc:=ew_ (ks:=ss.map keyS) (λi j _ _=>rfl) g' (by rw[aa',<- hl];exact up)
 have perm:(p.toList.map λi=>(ss.map keyS).getD i []).Perm (ss.map keyS):=by
  have:=bb_ g' λi=>(ss.map keyS).getD i [];rwa [aW_] at this
 have es:=cm_ perm asc
 have inr:∀i∈p.toList,i<ss.length:=λi hi=>by
  have m:i∈(List.range vs.length).toArray:=g.mem_iff.mp (by simpa using hi);rw[hl] at m;simpa using m
 have e1:(p.toList.map λi=>ss.getD i ⟨#[]⟩)=bt' ss:=by
  refine fb_ ?_;rw[c1_,<- es,ak'];refine aI' λi hi=>?_;have:=inr i hi;simp[this]
 have rv:=db_ r g
 have e2:(p.toList.map λi=>(ss.map V.str).getD i .non)=(bt' ss).map V.str:=by
  rw[<- e1,ak'];refine aI' λi hi=>?_;have:=inr i hi;simp[this]
 rw[e2] at rv;refine⟨.ref s1.heap.objs.size,_,I1.laid (t':=s1.toks) kp (ai' _) (show bf' X.prog X.w _ h' _ (.lst ((bt' ss).map V.str)) from ⟨?_,bN' p vs,e,rv,hD⟩),rfl,q _ (I1.hok.fresh (ai' _))⟩;rw[aa',(b1_ ss).length_eq];have:=b__;omega
theorem i8_{K:F__}{H:Hp}{ks:List (List Key)}(t:a4' K H ys ks):∀l:List Nat,(∀i∈l,i<ys.length)->a4' K H (l.map λi=>ys.getD i .non) (l.map λi=>ks.getD i []):=λl=>by
 induction l with
 |nil=>exact λ_=>.nil
 |cons i l ih=>
  intro h;refine .cons ?_ (ih λj hj=>h j (ad' _ hj));have hi:=h i ag'
  have gen:∀{ys:List V} {ks:List (List Key)} (i:Nat),i<ys.length->a4' K H ys ks->∃a,ys.getD i .non=V.ref a/\H a=some (.tup ((ks.getD i []).map kV)):=λ{ys ks} i hy t=>by
   induction t generalizing i with
   |nil=>exact absurd hy Z2
   |cons h t ih=>
    cases i with
    |zero=>exact h
    |succ i=>exact ih i (by simpa using hy)
  exact gen i hi t
theorem ce_{u:Aa}{ks:List (List Key)}{sh:List Bool}{Q:VK}(h64:ks.length<64)(al:dO' ks sh)
  (hcol:wpAny (model X.prog X.w) X.A.in1 (collect u) (λvs s1=>∃H1 ys,Inv X pins σ H1 s1/\Vals ys vs/\a4' X.K H1 ys ks/\∀l zs,H1 l=none->a4' X.K H1 zs (sortKs ks)->zs.Perm ys->Q (.ref l) (upd H1 l (.lst zs))) X.xe s) :
  wpAny (model X.prog X.w) X.A (call (.builtin "sorted") [u]) (EP X pins σ Q) X.xe s:=by
 refine d0_ (dv_ ks) (thn hcol λvs s1 ⟨H1,ys,I1,r,t,q⟩=>?_);have l1:=r.length;have l2:=a_3 t;have hl:vs.length=ks.length:=by omega
 refine⟨by omega,λh2 h' k=>e4_ I1 r t al h2 k,λp h' e g up hD kp=>?_⟩;have g':Good ks.length p:=by rw[<- hl];exact g
 have asc:=ew_ (ks:=ks) (λi j _ _=>rfl) g' (by rw[<- hl];exact up)
 have perm:(p.toList.map λi=>ks.getD i []).Perm ks:=by
  have:=bb_ g' λi=>ks.getD i [];rwa [aW_] at this
 have es:=cm_ perm asc
 have inr:∀i∈p.toList,i<ys.length:=λi hi=>by
  have m:i∈(List.range vs.length).toArray:=g.mem_iff.mp (by simpa using hi);rw[<- l1] at m;simpa using m
 have tz:=i8_ t p.toList inr;rw[es] at tz;have rv:=db_ r g
 have pz:(p.toList.map λi=>ys.getD i .non).Perm ys:=by
  have:=bb_ (n:=ys.length) (by rw[l1];exact g) λi=>ys.getD i .non;rwa [aW_] at this
 refine⟨.ref s1.heap.objs.size,_,I1.laid (t':=s1.toks) kp (ai' _) (show bf' X.prog X.w _ h' _ (.lst (p.toList.map λi=>ys.getD i .non)) from ⟨?_,bN' p vs,e,rv,hD⟩),rfl,q _ _ (I1.hok.fresh (ai' _)) tz pz⟩;rw[pz.length_eq];have:=b__;omega
end
inductive rSortDT (K:F__) (xs:List V) (H:Hp) (Q:VK):Prop
 |mk:∀d kvs sh,xs=[.ref d]->H d=some (.dT kvs)->dO' (kvs.map (·.1)) sh->kvs.length<64->(∀l zs,H l=none->a4' K H zs (sortKs (kvs.map (·.1)))->Q (.ref l) (upd H l (.lst zs)))->rSortDT K xs H Q
variable{X:Cx}
theorem ep_(hc:X.calm=true):bp' X (.builtin "sorted") (rSortDT X.K):=by
 intro pins s σ H xs us Q I r h;obtain⟨d,kvs,sh,rfl,hd,al,h64,q⟩:=h;obtain⟨u,rfl,ru⟩:=vals1 r;cases ru;exact ce_ (by rw[aa'];exact h64) al (ki_ (I.ok.hd hc) I (.inl hd) λys vs s1 I1 r1 t=>⟨H,ys,I1,r1,t,λl zs n t' _=>q l zs n t'⟩)
inductive rSortDS (xs:List V) (H:Hp) (Q:VK):Prop
 |mk:∀d kvs ss,xs=[.ref d]->H d=some (.dK kvs)->kvs.map (·.1)=ss.map Sum.inr->ss.length<64->(∀l,H l=none->Q (.ref l) (upd H l (.lst ((bt' ss).map V.str))))->rSortDS xs H Q
theorem cs_(hc:X.calm=true):bp' X (.builtin "sorted") rSortDS:=by
 intro pins s σ H xs us Q I r h;obtain⟨d,kvs,ss,rfl,hd,ek,h64,q⟩:=h;obtain⟨u,rfl,ru⟩:=vals1 r;cases ru;refine ed_ h64 (iT_ (I.ok.hd hc) I (.inl hd) λvs s1 I1 r1=>⟨H,I1,?_,q⟩)
 have e:(kvs.map λkv=>kV kv.1)=ss.map V.str:=by
  rw[show (kvs.map λkv=>kV kv.1)=(kvs.map (·.1)).map kV by rw[ak'];rfl,ek,ak'];rfl
 rwa [e] at r1
inductive rSortI (K:F__) (xs:List V) (H:Hp) (Q:VK):Prop
 |mk:∀(v d:Addr) (kvs:List (Key × V)) (ks:List (Key × Key)) (sh:List Bool),xs=[.ref v]->H v=some (bq' v d)->H d=some (.dK kvs)->kvs=ks.map (λk:Key × Key=>(k.1,kV k.2))->dO' (ks.map λk=>[k.1,k.2]) sh->ks.length<64->(∀l H1 zs,Same H H1->H1 l=none->a4' K H1 zs (sortKs (ks.map λk=>[k.1,k.2]))->Q (.ref l) (upd H1 l (.lst zs)))->rSortI K xs H Q
theorem fK_(hc:X.calm=true):bp' X (.builtin "sorted") (rSortI X.K):=by
 intro pins s σ H xs us Q I r h;obtain⟨v,d,kvs,ks,sh,rfl,hv,hd,ek,al,h64,q⟩:=h;obtain⟨u,rfl,ru⟩:=vals1 r;cases ru;refine ce_ (by rw[aa'];exact h64) al (gA_ (I.ok.hd hc) I hv (.inl hd) λH1 ys vs s1 I1 sm r1 t=>⟨H1,ys,I1,r1,?_,λl zs n t' _=>q l H1 zs sm n t'⟩);subst ek
 have gen:∀(ks:List (Key × Key)) (ys:List V),bh' X.K H1 ys (ks.map (λk:Key × Key=>(k.1,kV k.2)))->a4' X.K H1 ys (ks.map λk=>[k.1,k.2]):=λks=>by
  induction ks with
  |nil=>
   intro ys t;cases t;exact .nil
  |cons k ks ih=>
   intro ys t;cases t with
   |cons h t=>exact .cons h (ih _ t)
 exact gen ks ys t
inductive rListD (xs:List V) (H:Hp) (Q:VK):Prop
 |mk:∀d kvs,xs=[.ref d]->Rd H d (.dK kvs)->(∀l,H l=none->Q (.ref l) (upd H l (.lst (kvs.map λkv=>kV kv.1))))->rListD xs H Q
theorem c0_(hc:X.calm=true):bp' X (.type "list") rListD:=by
 intro pins s σ H xs us Q I r h;obtain⟨d,kvs,rfl,hd,q⟩:=h;obtain⟨u,rfl,ru⟩:=vals1 r;cases ru;obtain⟨P,OK,S,ok,hp⟩:=iK_ I hd;have z:=(bD_ I.hok hd).1;refine kdl_call S (I.ok.hd hc) ok (by rw[aa'];exact z) λh' tk acc c k hD a=>?_;refine⟨.ref s.heap.objs.size,_,I.laid (t':=tk) k (ai' _) (show bf' X.prog X.w _ h' _ (.lst (kvs.map λkv=>kV kv.1)) from ⟨by rw[aa'];exact z,acc.toList,c,cb_ a hp,by rw[Array.toArray_toList];exact hD⟩),rfl,q _ I.fresh⟩
theorem KV.mergeP{κ:Type}[DecidableEq κ]:∀{more:List (κ × V)} {rs:List (κ × Aa)} {kvs:List (κ × V)} {vs:List (κ × Aa)},KV more rs->KV kvs vs->KV (more.foldl (λacc kv=>putK acc kv.1 kv.2) kvs) (EvD.mergeP vs rs):=λ{more rs kvs vs} h=>by
 induction h generalizing kvs vs with
 |nil=>exact λh=>h
 |@cons p q _ _ h _ ih=>
  intro h2;obtain⟨k,y⟩:=p;obtain⟨k',u⟩:=q;obtain⟨h1,h3⟩:=h;have h1:k=k':=h1;subst h1;exact ih (h2.put k h3)
inductive rDictOf (K:F__) (xs:List V) (H:Hp) (Q:VK):Prop
 |mk:∀p ys kvs,xs=[.ref p]->H p=some (.lst ys)->bh' K H ys kvs->kvs.length<=1000->(∀l,H l=none->Q (.ref l) (upd H l (.dK (ct' [] kvs))))->rDictOf K xs H Q
theorem aZ_(hc:X.calm=true):bp' X (.type "dict") (rDictOf X.K):=by
 intro pins s σ H xs us Q I r h;obtain⟨p,ys,kvs,rfl,hp,t,hz,q⟩:=h;obtain⟨u,rfl,ru⟩:=vals1 r;cases ru;obtain⟨z,its,n,rv,hl,ho⟩:=I.lstM hp
 have gen:∀{ys:List V} {its:List Aa} {kvs:List (Key × V)},Vals ys its->bh' X.K H ys kvs->∃ps,KV kvs ps/\dL' (a5' X.prog X.w) s.heap its ps:=λ{ys its kvs} rv t=>by
  induction t generalizing its with
  |nil=>
   cases rv;exact⟨[],.nil,.nil⟩
  |@cons y p ys kvs h t ih=>
   cases rv with
   |cons r0 rv=>
    obtain⟨ps,h1,h2⟩:=ih rv;obtain⟨a,e,sq⟩:=h;subst e;cases r0;obtain⟨tv,rt,it,_⟩:=I.tuple (SqT.of sq);obtain⟨key,x,e2,rk,rx⟩:=vals2 rt;subst e2;refine⟨(p.1,x)::ps,Paired.cons (show p.1=p.1/\RelV p.2 x from ⟨rfl,rx⟩) h1,Paired.cons (show ∃a' key',Value.ref a=.ref a'/\IsTup s.heap a' #[key',x]/\(a5' X.prog X.w).is p.1 key'=true from ⟨a,key,rfl,it,e6_ rk⟩) h2⟩
 obtain⟨ps,h1,h2⟩:=gen rv t;have lp:=KV.length h1;refine dF_ (knd:=a5' X.prog X.w) (I.ok.hd hc) ho h2 Z1 λh' tk hd kp=>?_;refine⟨.ref s.heap.objs.size,_,I.laid (t':=tk) kp (ai' _) (gT_ ?_ (beq_eq_false_iff_ne.mpr (Ne.symm (ap' I.big))) (KV.mergeP h1 .nil) hd),rfl,q _ I.fresh⟩;have:=bN_ kvs [];have:=b__;simp only[aO'] at *;show (ct' [] kvs).length<=sizeLine;omega
theorem dg_:∀{bs:List Bool} {vs:List Aa},Vals (bs.map V.bl) vs->vs=bs.map Value.bool
 |[],_,.nil=>rfl
 |b::bs,_,.cons h t=>by
  cases h;rw[dg_ t];rfl
inductive rAll (K:F__) (g:List Bool->Bool) (xs:List V) (H:Hp) (Q:VK):Prop
 |mk:∀p bs,xs=[.ref p]->SqL K H p (bs.map V.bl)->Q (.bl (g bs)) H->rAll K g xs H Q
theorem eT_(hc:X.calm=true):bp' X (.builtin "all") (rAll X.K λbs=>bs.all id):=by
 intro pins s σ H xs us Q I r h;obtain⟨p,bs,rfl,hp,q⟩:=h;obtain⟨u,rfl,ru⟩:=vals1 r;cases ru;obtain⟨its,rv,pl,z⟩:=I.list hp;obtain rfl:=dg_ rv;have hl:=pl.isList;have lt:p<s.heap.objs.size:=by obtain⟨_,e,_⟩:=hl;exact a_5 e
 refine call_all_walk (wpAny_pyIter_list hl ⟨s.heap.objs.size,[s.heap.objs.size,p],[s.heap.objs.size],(bs.map Value.bool).toArray.size,_,_,λi=>(bs[i]?).getD true,rfl,Walks.list (A:=X.A.in1) (I.ok.hd hc) _ p (ap' lt) _,⟨⟨_,a_1 _ rfl,rfl,rfl⟩,hl.push _⟩,λi v s' Q' E' hP hQ=>?_,λh' tk hk=>?_⟩)
 ·have hP:(bs.map Value.bool).toArray[i]? = some v:=hP;simp only[List.getElem?_toArray,aj'] at hP;cases e:bs[i]? with
  |none=>rw[e] at hP;cases hP
  |some b=>
   have hQ:Q' ((bs[i]?).getD true) s':=hQ;rw[e] at hP hQ;cases hP;exact b_6 hQ
 ·have e:((List.range (bs.map Value.bool).toArray.size).all λi=>(bs[i]?).getD true)=bs.all id:=by
   rw[ah',aa'];exact LSm.range_all bs
  rw[e];exact⟨.bl _,H,I.kept (LSm.kept_iter hk),rfl,q⟩
theorem ci_(hc:X.calm=true):bp' X (.builtin "any") (rAll X.K λbs=>bs.any id):=by
 intro pins s σ H xs us Q I r h;obtain⟨p,bs,rfl,hp,q⟩:=h;obtain⟨u,rfl,ru⟩:=vals1 r;cases ru;obtain⟨its,rv,pl,z⟩:=I.list hp;obtain rfl:=dg_ rv;have hl:=pl.isList;have lt:p<s.heap.objs.size:=by obtain⟨_,e,_⟩:=hl;exact a_5 e
 refine call_any_walk (wpAny_pyIter_list hl ⟨s.heap.objs.size,[s.heap.objs.size,p],[s.heap.objs.size],(bs.map Value.bool).toArray.size,_,_,λi=>(bs[i]?).getD false,rfl,Walks.list (A:=X.A.in1) (I.ok.hd hc) _ p (ap' lt) _,⟨⟨_,a_1 _ rfl,rfl,rfl⟩,hl.push _⟩,λi v s' Q' E' hP hQ=>?_,λh' tk hk=>?_⟩)
 ·have hP:(bs.map Value.bool).toArray[i]? = some v:=hP;simp only[List.getElem?_toArray,aj'] at hP;cases e:bs[i]? with
  |none=>rw[e] at hP;cases hP
  |some b=>
   have hQ:Q' ((bs[i]?).getD false) s':=hQ;rw[e] at hP hQ;cases hP;exact b_6 hQ
 ·have e:((List.range (bs.map Value.bool).toArray.size).any λi=>(bs[i]?).getD false)=bs.any id:=by
   rw[ah',aa'];exact LSm.range_any bs
  rw[e];exact⟨.bl _,H,I.kept (LSm.kept_iter hk),rfl,q⟩
theorem g4_:∀{ns:List Int} {vs:List Aa},Vals (ns.map V.int) vs->IntsAre vs ns
 |[],_,.nil=>.nil
 |n::ns,_,.cons h t=>by
  obtain⟨tk,rfl⟩:=h;exact .cons _ _ (g4_ t)
inductive rMax (K:F__) (xs:List V) (H:Hp) (Q:VK):Prop
 |mk:∀(p:Addr) (ns:List Int),xs=[.ref p]->SqL K H p (ns.map V.int)->0<ns.length->(∀m,m∈ns->(∀a∈ns,a<=m)->Q (.int m) H)->rMax K xs H Q
theorem hR_(hc:X.calm=true):bp' X (.builtin "max") (rMax X.K):=by
 intro pins s σ H xs us Q I r h;obtain⟨p,ns,rfl,hp,hn,q⟩:=h;obtain⟨u,rfl,ru⟩:=vals1 r;cases ru;obtain⟨its,rv,pl,z⟩:=I.list hp;have hi:=g4_ rv;obtain⟨xs,e⟩:=hi.allInts.items;have hl:=pl.isList;have hns:ns=xs.toList.map (·.1):=by rw[<- hi.numsOf,<- nums_intItems,<- e]
 have hsz:0<xs.size:=by
  have h3:=hn;rw[hns] at h3;simpa using h3
 rw[e] at hl;refine max_intList (I.ok.hd hc) hl hsz λv h' tk hv hk=>?_;obtain⟨t,rfl⟩:=intItems_at hv;obtain⟨h1,h2⟩:=argBest_gt (numAt xs) (xs.size - 1);refine⟨.int _,H,I.kept hk,⟨t,rfl⟩,q _ ?_ λa ha=>?_⟩
 ·rw[hns,numAt_eq];exact getD_mem (by rw[aa',aH'];omega)
 ·rw[hns] at ha;obtain⟨j,hj,rfl⟩:=mem_getD ha;rw[aa',aH'] at hj;rw[<- numAt_eq];exact h2 j Z1
end L2
namespace EvN
open PySem PySem.SeqAt PyProof.Rows
open AutoSeq1 (wpAny_loadPart')
open MeetsSeq MeetsSeq2 MeetsSeq3 SeqRoads2
theorem kZ_(l b:Addr)(xs ys:Array Aa)(n m:Nat)(dl db:Option Addr)(sl sb:Array (Option Aa))(hs:xs.size=ys.size)(e:Nat->Bool)(k:Nat) :
  ∀i:Nat,xs.size - i=k->Meets (Builtin.«list.__eq__.loop» ⟨[.ref l,.ref b,rawInt i,rawInt 3],[]⟩)
   (λA R s=>(s.heap.get? l=some { cls:=.type "list",dict:=dl,data:=.seq xs n,slots:=sl }/\s.heap.get? b=some { cls:=.type "list",dict:=db,data:=.seq ys m,slots:=sb }) /\
    (∀j (h1:j<xs.size) (h2:j<ys.size),EqAt A.in1 s xs[j] ys[j] (e j))/\R (.ok (.ret (.bool (!((List.range xs.size).drop i).all e)))) s):=by
 induction k with
 |zero=>
  intro i hk prog w A R s ⟨⟨gl,gb⟩,he,h⟩;obtain⟨hp,g,d,tk,os⟩:=s
  wp_walk using b_7 gl,b_7 gb
  rw[show xs[((i:Nat):Int).toNat]? = none by simp;omega,show ys[((i:Nat):Int).toNat]? = none by simp;omega];rw[show (List.range xs.size).drop i=[] by simp;omega] at h
  wp_walk using b_7 gl,b_7 gb
  refine (show R (.ok (.ret (.bool (xs.size != ys.size)))) _ from ?_);rw[show (xs.size != ys.size)=false by simp[hs]];exact h
 |succ k ih=>
  intro i hk prog w A R s ⟨⟨gl,gb⟩,he,h⟩;obtain⟨hp,g,d,tk,os⟩:=s
  wp_walk using b_7 gl,b_7 gb
  have z1:i<xs.size:=by omega
  have z2:i<ys.size:=by omega
  have q1:xs[((i:Nat):Int).toNat]? = some xs[i]:=by simp[z1]
  have q2:ys[((i:Nat):Int).toNat]? = some ys[i]:=by simp[z2]
  rw[show (List.range xs.size).drop i=i::(List.range xs.size).drop (i+1) by simp[List.drop_eq_getElem_cons,z1],List.all_cons] at h;rw[q1,q2];refine a__ (he i z1 z2 prog w _ _ ?_);cases c:e i with
  |true=>
   rw[c] at h
   wp_walk
   rw[show ((i:Int)+1)=((i+1:Nat):Int) by omega];refine⟨plainId_quiet plain_eq_loop _,codeAny_builtin entry_eq_loop ?_⟩;rw[Around.under_plainId plain_eq_loop _];exact ih (i+1) Z1 prog w A R _ ⟨⟨gl,gb⟩,he,by simpa using h⟩
  |false=>
   rw[c] at h
   wp_walk using b_7 gl,b_7 gb
   rw[q1,q2]
   wp_walk
   simpa using h
theorem im_(l b:Addr)(xs ys:Array Aa)(n m:Nat)(dl db:Option Addr)(sl sb:Array (Option Aa))(hs:xs.size=ys.size)(e:Nat->Bool) :
  Meets (Builtin.«list.__ne__» ⟨[.ref l,.ref b],[]⟩)
   (λA R s=>(s.heap.get? l=some { cls:=.type "list",dict:=dl,data:=.seq xs n,slots:=sl }/\s.heap.get? b=some { cls:=.type "list",dict:=db,data:=.seq ys m,slots:=sb }) /\
    (∀j (h1:j<xs.size) (h2:j<ys.size),EqAt A.in1 s xs[j] ys[j] (e j))/\R (.ok (.ret (.bool (!(List.range xs.size).all e)))) s):=by
 intro prog w A R s ⟨⟨gl,gb⟩,he,h⟩;obtain⟨hp,g,d,tk,os⟩:=s;have f3:=AutoSeq1.sub_list_list;have no:¬(xs.size != ys.size)=true:=by simp[hs]
 wp_walk using b_7 gl,b_7 gb
 refine⟨plainId_quiet plain_eq_loop _,codeAny_builtin entry_eq_loop ?_⟩;rw[Around.under_plainId plain_eq_loop _];exact kZ_ l b xs ys n m dl db sl sb hs e _ 0 rfl prog w A R _ ⟨⟨gl,gb⟩,he,by simpa using h⟩
theorem id_(l b:Addr)(xs ys:Array Aa)(n m:Nat)(dl db:Option Addr)(sl sb:Array (Option Aa))(hs:(xs.size != ys.size)=true) :
  Meets (Builtin.«list.__ne__» ⟨[.ref l,.ref b],[]⟩)
   (λA R s=>(s.heap.get? l=some { cls:=.type "list",dict:=dl,data:=.seq xs n,slots:=sl }/\s.heap.get? b=some { cls:=.type "list",dict:=db,data:=.seq ys m,slots:=sb })/\R (.ok (.ret (.bool true))) s):=
 .of_wp λprog w A R s ⟨⟨gl,gb⟩,h⟩=>by
  obtain⟨hp,g,d,tk,os⟩:=s;have f3:=AutoSeq1.sub_list_list
  wp_walk using b_7 gl,b_7 gb
  exact⟨_,rfl,h⟩
variable{b l:Addr}{xs ys:Array Aa}{E Q:Aa->Ac->Prop}{prog:Ae}{w:Af}{A:Ag}{s:Ac}
theorem ne_listAt{e:Nat->Bool}(hl:s.heap.IsList l xs)(hb:s.heap.IsList b ys)(hs:xs.size=ys.size)(hu:A.units<cLine)(he:∀j (h1:j<xs.size) (h2:j<ys.size),EqAt A.in1 s xs[j] ys[j] (e j))(h:Q (.bool (!(List.range xs.size).all e)) s):wpAny (model prog w) A (compareOp .NotEq (.ref l) (.ref b)) Q E s:=by
 obtain⟨⟨c1,d1,t1,l1⟩,o1,k1,n1,z1⟩:=id hl;obtain⟨⟨c2,d2,t2,l2⟩,o2,k2,n2,z2⟩:=id hb;simp only at k1 z1 k2 z2;subst k1 z1 k2 z2;exact richCompare_meets_room (op:=.NotEq) ⟨_,o1,rfl⟩ ⟨_,o2,rfl⟩ F.slot_list_ne F.entry_list_ne (F.args_list_ne_2 _ _) (im_ l b xs ys n1 n2 d1 d2 l1 l2 hs e) ⟨⟨o1,o2⟩,he,show Value.bool (!(List.range xs.size).all e)≠Value.notImplemented/\Q (.bool (!(List.range xs.size).all e)) s from ⟨(λx=>nomatch x),h⟩⟩ hu
theorem ne_sizesAt(hl:s.heap.IsList l xs)(hb:s.heap.IsList b ys)(hs:(xs.size != ys.size)=true)(hu:A.units<cLine)(h:Q (.bool true) s):wpAny (model prog w) A (compareOp .NotEq (.ref l) (.ref b)) Q E s:=by
 obtain⟨⟨c1,d1,t1,l1⟩,o1,k1,n1,z1⟩:=id hl;obtain⟨⟨c2,d2,t2,l2⟩,o2,k2,n2,z2⟩:=id hb;simp only at k1 z1 k2 z2;subst k1 z1 k2 z2;exact richCompare_meets_room (op:=.NotEq) ⟨_,o1,rfl⟩ ⟨_,o2,rfl⟩ F.slot_list_ne F.entry_list_ne (F.args_list_ne_2 _ _) (id_ l b xs ys n1 n2 d1 d2 l1 l2 hs) ⟨⟨o1,o2⟩,show Value.bool true≠Value.notImplemented/\Q (.bool true) s from ⟨(λx=>nomatch x),h⟩⟩ hu
end EvN
namespace L2
open PySem PySem.Spec PyProof.Rows PySem.W EvS EvD
abbrev Rp(D:Type):=Hp->V->D->Prop
structure Cmp (X:Cx) (n:Nat) {D:Type} [DecidableEq D] (R:Rp D):Prop where
 eq:∀{pins:List (Addr × Obj)} {σ:St} {H:Hp} {s:Ac} {A:Ag} {x y:V} {u v:Aa} {d e:D},Inv X pins σ H s->RelV x u->RelV y v->R H x d->R H y e->A.units+n<cLine->SeqAt.EqAt A s u v (decide (d=e))
 one:∀{pins:List (Addr × Obj)} {σ:St} {H:Hp} {s:Ac} {x:V} {d e:D},Inv X pins σ H s->R H x d->R H x e->d=e
def rS:Rp Str:=λ_ x d=>x=.str d
def rZ:Rp Int:=λ_ x d=>x=.int d
def r2(K:F__){D1 D2:Type}(R1:Rp D1)(R2:Rp D2):Rp (D1 × D2):=λH x d=>∃a u v,x=.ref a/\SqT K H a [u,v]/\R1 H u d.1/\R2 H v d.2
def rL(K:F__){D:Type}(R:Rp D):Rp (List D):=λH x ds=>∃a xs,x=.ref a/\SqL K H a xs/\Paired (R H) xs ds
variable{X:Cx}
theorem cmpS:Cmp X 0 rS where
 eq:=λ{pins σ H s A x y u v d e} I ru rv hx hy hu=>by
  have hx:x=.str d:=hx;have hy:y=.str e:=hy;subst hx;subst hy;have q:=eX_ (A:=A) (s:=s) ru rv rfl rfl
  have e2:eqV (.str d) (.str e)=decide (d=e):=by
   show (d == e)=_;by_cases h:d=e
   ·subst h;simp
   ·simp[h]
  rwa [e2] at q
 one:=λ{pins σ H s x d e} I hx hy=>by
  have hx:x=.str d:=hx;have hy:x=.str e:=hy;rw[hx] at hy;exact V.str.inj hy
theorem cmpZ:Cmp X 0 rZ where
 eq:=λ{pins σ H s A x y u v d e} I ru rv hx hy hu=>by
  have hx:x=.int d:=hx;have hy:y=.int e:=hy;subst hx;subst hy;have q:=eX_ (A:=A) (s:=s) ru rv rfl rfl
  have e2:eqV (.int d) (.int e)=decide (d=e):=by
   show (d == e)=_;by_cases h:d=e
   ·subst h;simp
   ·simp[h]
  rwa [e2] at q
 one:=λ{pins σ H s x d e} I hx hy=>by
  have hx:x=.int d:=hx;have hy:x=.int e:=hy;rw[hx] at hy;exact V.int.inj hy
theorem d2_{h:Heap}{a:Addr}{its:Array Aa}(t:IsTup h a its):h.IsTuple a its:=t
variable{n:Nat}
theorem cmp2{m:Nat}{D1 D2:Type}[DecidableEq D1][DecidableEq D2]{R1:Rp D1}{R2:Rp D2}(c1:Cmp X n R1)(c2:Cmp X m R2):Cmp X (max n m+1) (r2 X.K R1 R2) where
 one:=λ{pins σ H s x d e} I hx hy=>by
  obtain⟨a,u,v,rfl,t,q1,q2⟩:=hx;obtain⟨b,u',v',e0,t',q1',q2'⟩:=hy;cases e0;have e1:=I.tuple_inj t t';cases e1;exact Prod.ext (c1.one I q1 q1') (c2.one I q2 q2')
 eq:=λ{pins σ H s A x y u v d e} I ru rv hx hy hu=>by
  have hx':=hx;have hy':=hy;obtain⟨a,x1,x2,rfl,t,q1,q2⟩:=hx;obtain⟨b,y1,y2,rfl,t',q1',q2'⟩:=hy;cases ru;cases rv;by_cases hab:a=b
  ·subst hab;have e1:=I.tuple_inj t t';cases e1;have:d=e:=Prod.ext (c1.one I q1 q1') (c2.one I q2 q2');rw[a_2 this];exact SeqAt.EqAt.same _
  ·obtain⟨its,r,it,_⟩:=I.tuple t;obtain⟨its',r',it',_⟩:=I.tuple t';obtain⟨u1,u2,rfl,r1,r2⟩:=vals2 r;obtain⟨w1,w2,rfl,r1',r2'⟩:=vals2 r'
   have key:=SeqAt.EqAt.of_refs hab (SeqAt.RcAt.tuples (A:=A) (s:=s) (e:=λj=>if j=0 then decide (d.1=e.1) else decide (d.2=e.2)) (d2_ it) (d2_ it') Z1 λj h1 h2=>by
    match j,h1,h2 with
    |0,_,_=>exact c1.eq I r1 r1' q1 q1' (by show A.units+1+n<cLine;omega)
    |1,_,_=>exact c2.eq I r2 r2' q2 q2' (by show A.units+1+m<cLine;omega))
   have e3:((List.range (min [u1,u2].toArray.size [w1,w2].toArray.size)).all (λj=>if j=0 then decide (d.1=e.1) else decide (d.2=e.2))&&[u1,u2].toArray.size == [w1,w2].toArray.size)=decide (d=e):=by
    show (decide (d.1=e.1)&&(decide (d.2=e.2)&&true)&&true)=_;by_cases h1:d.1=e.1
    ·by_cases h2:d.2=e.2
     ·have:d=e:=Prod.ext h1 h2;simp[this]
     ·have:¬d=e:=λz=>h2 (by rw[z]);simp[h1,h2,this]
    ·have:¬d=e:=λz=>h1 (by rw[z]);simp[h1,this]
   rw[e3] at key;exact key
theorem an_{α β:Type}{F:α->β->Prop}:∀{l:List α} {m:List β},Paired F l m->∀(i:Nat) (h1:i<l.length) (h2:i<m.length),F l[i] m[i]
 |_,_,.cons h t,0,_,_=>h
 |_,_,.cons h t,i+1,h1,h2=>an_ t i (by simpa using h1) (by simpa using h2)
theorem cf_{D:Type}[DecidableEq D]:∀{ds es:List D},ds.length=es.length->((List.range ds.length).all λj=>decide (ds[j]? = es[j]?))=decide (ds=es):=λ{ds es} hl=>by
 by_cases h:ds=es
 ·subst h;simp
 ·rw[a_7 h]
  have:∃i,i<ds.length/\ds[i]?≠es[i]?:=by
   refine Classical.byContradiction λhn=>h ?_;apply List.ext_getElem?;intro i;by_cases hi:i<ds.length
   ·exact Classical.byContradiction λq=>hn ⟨i,hi,q⟩
   ·rw[List.getElem?_eq_none Z1,List.getElem?_eq_none Z1]
  obtain⟨i,hi,q⟩:=this;rw[List.all_eq_false];exact⟨i,by simpa using hi,by simpa using q⟩
variable{pins:List (Addr × Obj)}{σ:St}{s:Ac}{A:Ag}
theorem fk_{D:Type}[DecidableEq D]{R:Rp D}(c:Cmp X n R){H:Hp}(I:Inv X pins σ H s){xs ys:List V}{us vs:List Aa}{ds es:List D}(ru:Vals xs us)(rv:Vals ys vs)(hx:Paired (R H) xs ds)(hy:Paired (R H) ys es)(hu:A.units+n<cLine) :
  ∀j (h1:j<us.toArray.size) (h2:j<vs.toArray.size),SeqAt.EqAt A s us.toArray[j] vs.toArray[j] (decide (ds[j]? = es[j]?)):=λj h1 h2=>by
 have l1:=ru.length;have l2:=rv.length;have l3:=a_3 hx;have l4:=a_3 hy;simp only[ah'] at h1 h2;have q:=c.eq (A:=A) I (an_ ru j Z1 h1) (an_ rv j Z1 h2) (an_ hx j Z1 Z1) (an_ hy j Z1 Z1) hu
 have e:decide (ds[j]? = es[j]?)=decide (ds[j]' Z1=es[j]' Z1):=by
  rw[ab' Z1,ab' Z1];by_cases z:ds[j]' Z1=es[j]' Z1
  ·simp[z]
  ·simp[z]
 rw[e];exact q
def rEqD{D:Type}[DecidableEq D](R:Rp D)(neg:Bool):V->V->Hp->VK->Prop:=λx y H Q=>∃d e,R H x d/\R H y e/\Q (.bl (if neg then !decide (d=e) else decide (d=e))) H
theorem j2_{D:Type}[DecidableEq D]{R:Rp D}(c:Cmp X n R)(hu:X.A.units+n+1<cLine):OpR X (compareOp .Eq) (rEqD (rL X.K R) false):=by
 intro pins s σ H x y v u Q I rx ry h;obtain⟨d,e,⟨a,xs,rfl,t,q⟩,⟨b,ys,rfl,t',q'⟩,hq⟩:=h;cases rx;cases ry;obtain⟨us,r,pl,_⟩:=I.list t;obtain⟨vs,r',pl',_⟩:=I.list t';have l1:=r.length;have l2:=r'.length;have l3:=a_3 q;have l4:=a_3 q';by_cases hl:d.length=e.length
 ·refine SeqAt.eq_listAt pl.isList pl'.isList (by simp only[ah'];omega) Z1 (fk_ c I r r' q q' (A:=X.A.in1) (by show X.A.units+1+n<cLine;omega)) ⟨.bl _,H,I,rfl,?_⟩;rw[show us.toArray.size=d.length by simp only[ah'];omega,cf_ hl];exact hq
 ·refine SeqAt.eq_list_lengthsAt pl.isList pl'.isList (by simp only[ah',bne_iff_ne];omega) Z1 ⟨.bl _,H,I,rfl,?_⟩;have hq:Q (.bl (decide (d=e))) H:=hq;rwa [a_7 (λz=>hl (by rw[z]))] at hq
theorem cx_{D:Type}[DecidableEq D]{R:Rp D}(c:Cmp X n R)(hu:X.A.units+n+1<cLine):OpR X (compareOp .NotEq) (rEqD (rL X.K R) true):=by
 intro pins s σ H x y v u Q I rx ry h;obtain⟨d,e,⟨a,xs,rfl,t,q⟩,⟨b,ys,rfl,t',q'⟩,hq⟩:=h;cases rx;cases ry;obtain⟨us,r,pl,_⟩:=I.list t;obtain⟨vs,r',pl',_⟩:=I.list t';have l1:=r.length;have l2:=r'.length;have l3:=a_3 q;have l4:=a_3 q';have hq:Q (.bl (!decide (d=e))) H:=hq;by_cases hl:d.length=e.length
 ·refine EvN.ne_listAt pl.isList pl'.isList (by simp only[ah'];omega) Z1 (fk_ c I r r' q q' (A:=X.A.in1) (by show X.A.units+1+n<cLine;omega)) ⟨.bl _,H,I,rfl,?_⟩;rw[show us.toArray.size=d.length by simp only[ah'];omega,cf_ hl];exact hq
 ·refine EvN.ne_sizesAt pl.isList pl'.isList (by simp only[ah',bne_iff_ne];omega) Z1 ⟨.bl _,H,I,rfl,?_⟩;rwa [a_7 (λz=>hl (by rw[z]))] at hq
def rInD(K:F__){D:Type}[DecidableEq D](R:Rp D)(neg:Bool):V->V->Hp->VK->Prop:=λx y H Q=>∃d es,R H x d/\rL K R H y es/\Q (.bl (if neg then !decide (d∈es) else decide (d∈es))) H
theorem iL_{D:Type}[DecidableEq D]{R:Rp D}(c:Cmp X n R){H:Hp}(I:Inv X pins σ H s){x:V}{u:Aa}{d:D}(ru:RelV x u)(hx:R H x d)(hu:A.units+n<cLine):∀{ys:List V} {vs:List Aa} {es:List D},Vals ys vs->Paired (R H) ys es->
  ∃f:Aa->Bool,(∀w∈vs,SeqAt.EqAt A s w u (f w))/\vs.any f=decide (d∈es):=λ{ys vs es} rv hy=>by
 let f:Aa->Bool:=λw=>@decide (∃y e,RelV y w/\R H y e/\e=d) (Classical.propDecidable _)
 have sound:∀y w e,RelV y w->R H y e->f w=decide (e=d):=λy w e h1 h2=>by
  by_cases z:e=d
  ·rw[a_2 z];exact @a_2 _ (Classical.propDecidable _) ⟨y,e,h1,h2,z⟩
  ·rw[a_7 z];refine @a_7 _ (Classical.propDecidable _) λ⟨y',e',g1,g2,g3⟩=>z ?_;have:y'=y:=RelV.inj g1 h1;subst this;rw[<- g3];exact c.one I h2 g2
 refine⟨f,?_,?_⟩
 ·induction rv generalizing es with
  |nil=>exact λw hw=>nomatch hw
  |cons h t ih=>
   cases hy with
   |cons g t'=>
    intro w hw;rcases al'.mp hw with rfl|hw
    ·rw[sound _ _ _ h g];exact c.eq I h ru g hx hu
    ·exact ih t' w hw
 ·induction rv generalizing es with
  |nil=>
   cases hy;simp
  |cons h t ih=>
   cases hy with
   |@cons _ e _ es g t'=>
    rw[List.any_cons,ih t',sound _ _ _ h g];by_cases z:e=d
    ·subst z;simp
    ·by_cases z2:d∈es
     ·simp[z2]
     ·have:¬d∈e::es:=λq=>by
       rcases al'.mp q with q|q
       ·exact z q.symm
       ·exact z2 q
      rw[a_7 z,a_7 z2,a_7 this];rfl
theorem gN_{D:Type}[DecidableEq D]{R:Rp D}(c:Cmp X n R)(hu:X.A.units+n+1<cLine):OpR X (compareOp .In) (rInD X.K R false):=by
 intro pins s σ H x y v u Q I rx ry h;obtain⟨d,es,hx,⟨a,ys,rfl,t,q⟩,hq⟩:=h;cases ry;obtain⟨us,r,pl,_⟩:=I.list t;obtain⟨f,h1,h2⟩:=iL_ c I (A:=X.A.in1) rx hx (by show X.A.units+1+n<cLine;omega) r q;refine SeqAt.in_listAt f pl.isList (λw hw=>h1 w (by simpa using hw)) ⟨.bl _,H,I,rfl,?_⟩;rw[show us.toArray.any f=us.any f by simp,h2];exact hq
theorem ej_{D:Type}[DecidableEq D]{R:Rp D}(c:Cmp X n R)(hu:X.A.units+n+1<cLine):OpR X (compareOp .NotIn) (rInD X.K R true):=by
 intro pins s σ H x y v u Q I rx ry h;obtain⟨d,es,hx,⟨a,ys,rfl,t,q⟩,hq⟩:=h;cases ry;obtain⟨us,r,pl,_⟩:=I.list t;obtain⟨f,h1,h2⟩:=iL_ c I (A:=X.A.in1) rx hx (by show X.A.units+1+n<cLine;omega) r q;refine SeqAt.notIn_listAt f pl.isList (λw hw=>h1 w (by simpa using hw)) ⟨.bl _,H,I,rfl,?_⟩;rw[show us.toArray.any f=us.any f by simp,h2];exact hq
inductive rIsi (K:F__) (xs:List V) (H:Hp) (Q:VK):Prop
 |mk:∀x T t b,xs=[x,.ty T]->TyOf K H x t->PySem.W.kitOne K t (.type T)=some b->Q (.bl b) H->rIsi K xs H Q
theorem aU_:bp' X (.builtin "isinstance") (rIsi X.K):=by
 intro pins s σ H xs us Q I r h;obtain⟨x,T,t,b,rfl,ty,e,q⟩:=h;obtain⟨u,w',rfl,ru,rw'⟩:=vals2 r;cases (show w'=Value.type T from rw');exact e3_ I ru ty e λtk=>⟨.bl b,H,I.tok tk,rfl,q⟩
inductive cB' (x:V) (y:V) (H:Hp) (Q:VK):Prop
 |mk:∀i j,x=.str i->y=.str j->Q (.bl (!decide (j.cps.toList<i.cps.toList))) H->cB' x y H Q
theorem dP_:OpR X (compareOp .LtE) cB':=by
 intro pins s σ H x y v u Q I rx ry h;obtain⟨i,j,rfl,rfl,q⟩:=h;obtain⟨t,rfl⟩:=rx;obtain⟨t',rfl⟩:=ry;exact PySem.P.le_str ⟨.bl _,H,I,rfl,q⟩
inductive tViewR (mk:Addr->Addr->HO) (Q:VK) (x:V) (H1:Hp):Prop
 |mk:∀d kvs,x=.ref d->H1 d=some (.dK kvs)->(∀v,H1 v=none->Q (.ref v) (upd H1 v (mk v d)))->tViewR mk Q x H1
def tView(mk:Addr->Addr->HO)(td:TE):TE:=λσ H Q=>td σ H λx H1=>tViewR mk Q x H1
variable{H:Hp}{d:Addr}
theorem h1_{cls:String}(I:Inv X pins σ H s)(φ:Heap->Prop)(hφ:φ (s.heap.push { cls:=.type cls,data:=.fields #[.ref d] }))(hs:∀h1 h2:Heap,φ h1->(∀o,h1.get? s.heap.objs.size=some o->h2.get? s.heap.objs.size=some o)->φ h2) :
  Inv X pins σ (upd H s.heap.objs.size (.ext φ)) { s with heap:=s.heap.push { cls:=.type cls,data:=.fields #[.ref d] } }:=
 I.laid (t':=s.toks) (λ_ _ q=>a_0 _ q) (ai' _) ⟨hφ,⟨_,a_1 _ rfl⟩,hs⟩
variable{o:Expr}{td:TE}{apos cpos:Pos}
theorem cj_(ho:PE X o td)(hbase:attributeBase o "items" X.env (eval o X.env)=eval o X.env:=by rfl)(hline:(apos.endLine == cpos.line)=true:=by rfl):PE X (.Call (.Attribute o "items" apos) [] [] cpos) (tView bq' td):=by
 intro pins s σ H Q I h;refine wpAny_Call_method0_late hbase hline (thn (ho pins s σ H _ I h) λv s1 ⟨x,H1,I1,r1,d,kvs,e,hd,q⟩=>?_);subst e;cases r1;obtain⟨t1,t2,t3⟩:=iR_ I1 (.inl ⟨kvs,.inl hd⟩);obtain⟨_,_,vs,rel,dd⟩:=fB_ I1.hok hd;refine⟨"dict","dict.items",PySem.F.plainAttrs_dict,PySem.F.slot_dict_items,PySem.F.type_dict_items,t1,t2,Calls.callWith_builtin rfl (PySem.evalArgs_none ?_)⟩;refine call_meetsIn PySem.F.slot_dict_items t1 PySem.F.entry_dict_items (PySem.F.args_dict_items_1 _) (meets_dict_items (a5' X.prog X.w) d t3) ⟨⟨vs,dd⟩,?_⟩;exact⟨.ref _,_,h1_ I1 _ ⟨_,a_1 _ rfl,rfl,rfl⟩ λh1 h2 ⟨o,e,r⟩ k=>⟨o,k o e,r⟩,rfl,q _ I1.fresh⟩
theorem bT_(ho:PE X o td)(hbase:attributeBase o "values" X.env (eval o X.env)=eval o X.env:=by rfl)(hline:(apos.endLine == cpos.line)=true:=by rfl):PE X (.Call (.Attribute o "values" apos) [] [] cpos) (tView a9' td):=by
 intro pins s σ H Q I h;refine wpAny_Call_method0_late hbase hline (thn (ho pins s σ H _ I h) λv s1 ⟨x,H1,I1,r1,d,kvs,e,hd,q⟩=>?_);subst e;cases r1;obtain⟨t1,t2,t3⟩:=iR_ I1 (.inl ⟨kvs,.inl hd⟩);obtain⟨_,_,vs,rel,dd⟩:=fB_ I1.hok hd;refine⟨"dict","dict.values",PySem.F.plainAttrs_dict,PySem.F.slot_dict_values,PySem.F.type_dict_values,t1,t2,Calls.callWith_builtin rfl (PySem.evalArgs_none ?_)⟩;refine call_meetsIn PySem.F.slot_dict_values t1 PySem.F.entry_dict_values (PySem.F.args_dict_values_1 _) (meets_dict_values (a5' X.prog X.w) d t3) ⟨⟨vs,dd⟩,?_⟩;exact⟨.ref _,_,h1_ I1 _ ⟨_,a_1 _ rfl,rfl,rfl⟩ λh1 h2 ⟨o,e,r⟩ k=>⟨o,k o e,r⟩,rfl,q _ I1.fresh⟩
variable{kvs:List (Key × V)}
theorem Inv.freeze(I:Inv X pins σ H s)(h:H d=some (.dK kvs)):∃o,s.heap.get? d=some o/\Inv X pins σ (upd H d (.frz o (.dK kvs))) s:=by
 obtain⟨z,hd,vs,rel,dd⟩:=fB_ I.hok h;obtain⟨o,es,ep,ho,r⟩:=id dd;have other:∀{b u},H b=some u->u≠.dK kvs->upd H d (.frz o (.dK kvs)) b=some u:=λ{b u} e ne=>by rw[a5_ (aM_ e h ne)];exact e
 refine⟨o,ho,I.un (h':=s.heap) (t':=s.toks) ⟨λb u q _ _ _=>q,λb u q _ _ _=>⟨u.slots,q⟩,λb u q n _=>?_,λb u q _=>⟨u,q⟩,λb xs q=>other q Z2,λb u v q=>other q Z2,λb ps q=>⟨#[],by rw[Array.append_empty];exact other q Z2⟩⟩ λb u q=>?_⟩
 ·by_cases e:b=d
  ·subst e;rw[h] at n;cases n
  ·rw[a5_ e];exact n
 ·by_cases e:b=d
  ·subst e;rw[a1_] at q;cases q;exact⟨ho,z,hd,vs,rel,dd⟩
  ·rw[a5_ e] at q;exact (I.hok b u q).stay (λc v _ z=>z) (λc z=>other z Z2) λc xs z=>other z Z2
variable{o:Obj}
theorem Inv.thaw(I:Inv X pins σ H s)(h:H d=some (.frz o (.dK kvs)))(h0:∀o u,X.H₀ d≠some (.frz o u)):Inv X pins σ (upd H d (.dK kvs)) s:=by
 have other:∀{b u},H b=some u->(∀o v,u≠.frz o v)->upd H d (.dK kvs) b=some u:=λ{b u} e ne=>by rw[a5_ (aM_ e h (ne _ _))];exact e
 have none':∀{b},H b=none->upd H d (.dK kvs) b=none:=λ{b} e=>by
  rw[a5_ (λz=>by subst z;rw[h] at e;cases e)];exact e
 refine⟨I.ok,I.os,I.bare,⟨I.base.keep,I.base.slot,λb u q n hx=>none' (I.base.free b u q n hx),I.base.there,λb xs q=>other (I.base.tups b xs q) Z2,λb u v q=>?_,λb ps q=>?_⟩,I.loc,I.cell,none' I.free,λx c e=>none' (I.freeC x c e),λp hp=>?_,λb u q=>?_,I.len⟩
 ·have:=I.base.frzs b u v q;rw[a5_ (λz=>by subst z;exact h0 _ _ q)];exact this
 ·obtain⟨more,e⟩:=I.base.tbls b ps q;exact⟨more,other e Z2⟩
 ·obtain⟨a1,a2,a3⟩:=I.pin p hp;exact⟨a1,none' a2,a3⟩
 ·by_cases e:b=d
  ·subst e;rw[a1_] at q;cases q;obtain⟨ho,z,hd,vs,rel,dd⟩:=I.hok b _ h;exact⟨z,hd,vs,rel,dd⟩
  ·rw[a5_ e] at q;exact (I.hok b u q).stay (λc v _ z=>z) (λc z=>other z Z2) λc xs z=>other z Z2
def tThaw(t:TE):TE:=λσ H Q=>∃d kvs,H d=some (.dK kvs)/\t σ H λv H1=>∃o,H1 d=some (.frz o (.dK kvs))/\Q v (upd H1 d (.dK kvs))
variable{e:Expr}
theorem gi_{t:TE}(h:PE X e t):PE X e (tThaw t):=by
 intro pins s σ H Q I q;obtain⟨d,kvs,hd,q⟩:=q;refine thn (h pins s σ H _ I q) λu s' ⟨v,H1,I1,r,o,hf,q1⟩=>⟨v,_,I1.thaw hf (λo u z=>?_),r,q1⟩;have:=I.base.frzs _ _ _ z;rw[hd] at this;cases this
def Itv(d:Addr)(o:Obj)(kvs:List (Key × V)):It:=⟨λi H=>H d=some (.frz o (.dK kvs))/\i<kvs.length,λi H x H'=>H'=H/\∃k,kvs[i]? = some (k,x),λi H=>H d=some (.frz o (.dK kvs))/\kvs.length<=i⟩
variable{es:Array DictEntry}{ep:Nat}
theorem bA_(I:Inv X pins σ H s)(h:H d=some (.frz o (.dK kvs)))(ho:o.data=.dict es ep):∃vs,KV kvs vs/\s.heap.DictAt (a5' X.prog X.w) d vs ep:=by
 obtain⟨e,z,hd,vs,rel,o',es',ep',e',c',d',r⟩:=I.hok d _ h;rw[e] at e';cases e';rw[ho] at d';cases d';exact⟨vs,rel,o,es,e,c',ho,r⟩
theorem gc_{κ:Type}{kvs:List (κ × V)}{vs:List (κ × Aa)}(r:KV kvs vs):∀(i:Nat) {k:κ} {x:V},kvs[i]? = some (k,x)->∃u,vs[i]? = some (k,u)/\RelV x u:=by
 induction r with
 |nil=>intro i k x e;simp at e
 |@cons p q _ _ h _ ih=>
  intro i k x e;cases i with
  |zero=>
   have e:p=(k,x):=by simpa using e
   subst e;refine⟨q.2,?_,h.2⟩;rw[List.getElem?_cons_zero];have h1:k=q.1:=h.1;rw[h1]
  |succ i=>exact ih i (by simpa using e)
variable{P:Ae}{w:Af}{K:F__}{tg:Expr}
theorem gd_(d it:Addr)(o:Obj)(kvs:List (Key × V))(ho:o.data=.dict es ep):Turn P w K tg (Itv d o kvs) [it] it (λi h=>h.IsValIter it d i kvs.length ep) where
 mem:=by simp
 obj:=λi h st b hb=>by
  obtain rfl:b=it:=by simpa using hb
  obtain⟨o,e,c,d⟩:=st;exact⟨o,e,λv z=>by rw[d] at z;cases z⟩
 keep:=λi h h' st k=>st.at λo e=>k it Z2 o e
 item:=by
  intro X hP hw hK hc i pins s σ H E I hf st hg;subst hP hw hK;obtain⟨hd,hi⟩:=hg;obtain⟨vs,rel,dat⟩:=bA_ I hd ho;obtain⟨⟨k,x⟩,hx⟩:∃p,kvs[i]? = some p:=⟨kvs[i],by simp[hi]⟩;obtain⟨u,hu,ru⟩:=gc_ rel i hx;obtain⟨f0,f1,f2,f3,f4,f5⟩:=hf it Z2;rw[rel.length] at st;refine wpAny_pyNext_values_item st dat hu λh' st' sb=>?_;have I1:Inv X pins σ H { s with heap:=h' }:=I.turned (t':=s.toks) (λb o hb e=>(sb.2 b hb).trans e) f0 f1 f3 f4 f5;obtain⟨o',e,c,dd⟩:=id st';refine⟨u,rfl,gG_ (s:={ s with heap:=h' }) e c dd (by decide) ⟨x,H,I1,ru,⟨rfl,k,hx⟩,?_,λb hb=>(hf b hb).1⟩⟩;show h'.IsValIter it d (i+1) kvs.length ep;rw[rel.length];exact st'
 done:=by
  intro X hP hw hK hc i pins s σ H E I hf st hg;subst hP hw hK;obtain⟨hd,hi⟩:=hg;obtain⟨vs,rel,dat⟩:=bA_ I hd ho;obtain⟨f0,f1,f2,f3,f4,f5⟩:=hf it Z2;rw[rel.length] at st hi;exact wpAny_pyNext_values_end (I.ok.hd hc) st dat (by simp;omega) λh' eb=>⟨rfl,I.turned (t':=s.toks) (λb o hb e=>eb b o hb e) f0 f1 f3 f4 f5⟩
 self:=λ_ _ _ _ _ st h=>wpAny_pyIter_valiter st h
inductive iValsR (R:It->Hp->Prop) (x:V) (H1:Hp):Prop
 |mk:∀v d kvs,x=.ref v->H1 v=some (a9' v d)->H1 d=some (.dK kvs)->(∀o,R (Itv d o kvs) (upd H1 d (.frz o (.dK kvs))))->iValsR R x H1
def iVals(tv:TE):TI:=λσ H R=>tv σ H λx H1=>iValsR R x H1
theorem ge_{tv:TE}(he:PE X e tv):PI X tg e (iVals tv):=by
 intro pins s σ H R I h;refine thn (he pins s σ H _ I h) λu s1 ⟨x,H1,I1,r1,v,d,kvs,ex,hv,hd,q⟩=>?_;subst ex;cases r1;obtain⟨iv,_,_⟩:=I1.hok v _ hv;obtain⟨o,ho,I2⟩:=I1.freeze hd;obtain⟨z,_,vs,rel,o',es,ep,ho',c',dt,r⟩:=fB_ I1.hok hd;rw[ho] at ho';cases ho';have hne:v≠d:=aM_ hv hd nofun;refine wpAny_pyIter_values (knd:=a5' X.prog X.w) (kvs:=vs) (ep:=ep) iv ⟨o,es,ho,c',dt,r⟩ ?_;refine⟨s1.heap.objs.size,[s1.heap.objs.size],_,_,_,rfl,I2.kept (t':=s1.toks) λb o e=>a_0 _ e,gd_ d _ o kvs dt,?_,λb hb=>?_,q o⟩
 ·rw[rel.length];exact⟨_,a_1 _ rfl,rfl,rfl⟩
 ·obtain rfl:b=s1.heap.objs.size:=by simpa using hb
  exact I2.fpOk (ai' _) (I2.hok.fresh (ai' _))
def Its(x:Str):It:=⟨λi _=>i<x.cps.size,λi H v H'=>H'=H/\∃c,x.cps[i]? = some c/\v=.str ⟨#[c]⟩,λi _=>x.cps.size<=i⟩
theorem fI_(it:Addr)(x:Str)(t:Tok):Turn P w K tg (Its x) [it] it (λi h=>i<=x.cps.size/\h.IsStrIter it "str_ascii_iterator" x t i) where
 mem:=by simp
 obj:=λi h st b hb=>by
  obtain rfl:b=it:=by simpa using hb
  obtain⟨o,e,c,d⟩:=st.2;exact⟨o,e,λv z=>by rw[d] at z;cases z⟩
 keep:=λi h h' st k=>⟨st.1,let ⟨o,ho,r⟩:=st.2;⟨o,k it Z2 o ho,r⟩⟩
 item:=by
  intro X hP hw hK hc i pins s σ H E I hf st hg;subst hP hw hK;have hg:i<x.cps.size:=hg;obtain⟨f0,f1,f2,f3,f4,f5⟩:=hf it Z2;refine wpAny_pyNext_ascii_item st.2 (c:=x.cps[i]) (by simp[hg]) λh' st' sb=>?_;have I1:Inv X pins σ H { s with heap:=h',toks:=s.toks+1 }:=I.turned (t':=s.toks+1) (λb o hb e=>(sb.2 b hb).trans e) f0 f1 f3 f4 f5;obtain⟨o',e,c,dd⟩:=id st';exact⟨_,rfl,gG_ (s:={ s with heap:=h',toks:=s.toks+1 }) e c dd (by decide) ⟨.str ⟨#[x.cps[i]]⟩,H,I1,⟨_,rfl⟩,⟨rfl,_,by simp[hg],rfl⟩,⟨hg,st'⟩,λb hb=>(hf b hb).1⟩⟩
 done:=by
  intro X hP hw hK hc i pins s σ H E I hf st hg;subst hP hw hK;have hg:x.cps.size<=i:=hg;obtain⟨f0,f1,f2,f3,f4,f5⟩:=hf it Z2;exact wpAny_pyNext_ascii_end (I.ok.hd hc) st.2 (by simp[hg]) λh' eb=>⟨rfl,I.turned (t':=s.toks) (λb o hb e=>eb b o hb e) f0 f1 f3 f4 f5⟩
 self:=λ_ _ _ _ _ st h=>wpAny_pyIter_striter_ascii st.2 h
theorem hz_(it:Addr)(x:Str)(t:Tok):Turn P w K tg (Its x) [it] it (λi h=>i<=x.cps.size/\h.IsStrIter it "str_iterator" x t i) where
 mem:=by simp
 obj:=λi h st b hb=>by
  obtain rfl:b=it:=by simpa using hb
  obtain⟨o,e,c,d⟩:=st.2;exact⟨o,e,λv z=>by rw[d] at z;cases z⟩
 keep:=λi h h' st k=>⟨st.1,let ⟨o,ho,r⟩:=st.2;⟨o,k it Z2 o ho,r⟩⟩
 item:=by
  intro X hP hw hK hc i pins s σ H E I hf st hg;subst hP hw hK;have hg:i<x.cps.size:=hg;obtain⟨f0,f1,f2,f3,f4,f5⟩:=hf it Z2;refine wpAny_pyNext_wide_item st.2 (c:=x.cps[i]) (by simp[hg]) λh' st' sb=>?_;have I1:Inv X pins σ H { s with heap:=h',toks:=s.toks+1 }:=I.turned (t':=s.toks+1) (λb o hb e=>(sb.2 b hb).trans e) f0 f1 f3 f4 f5;obtain⟨o',e,c,dd⟩:=id st';exact⟨_,rfl,gG_ (s:={ s with heap:=h',toks:=s.toks+1 }) e c dd (by decide) ⟨.str ⟨#[x.cps[i]]⟩,H,I1,⟨_,rfl⟩,⟨rfl,_,by simp[hg],rfl⟩,⟨hg,st'⟩,λb hb=>(hf b hb).1⟩⟩
 done:=by
  intro X hP hw hK hc i pins s σ H E I hf st hg;subst hP hw hK;have hg:x.cps.size<=i:=hg;obtain⟨f0,f1,f2,f3,f4,f5⟩:=hf it Z2;exact wpAny_pyNext_wide_end (I.ok.hd hc) st.2 (by simp[hg]) λh' eb=>⟨rfl,I.turned (t':=s.toks) (λb o hb e=>eb b o hb e) f0 f1 f3 f4 f5⟩
 self:=λ_ _ _ _ _ st h=>wpAny_pyIter_striter_wide st.2 h
inductive iStrR (R:It->Hp->Prop) (v:V) (H1:Hp):Prop
 |mk:∀x,v=.str x->R (Its x) H1->iStrR R v H1
def iStr(tl:TE):TI:=λσ H R=>tl σ H λv H1=>iStrR R v H1
theorem ky_{l:Expr}{tl:TE}(hl:PE X l tl):PI X tg l (iStr tl):=by
 intro pins s σ H R I h;refine thn (hl pins s σ H _ I h) λv s1 ⟨y,H1,I1,r1,x,e,q⟩=>?_;subst e;obtain⟨t,rfl⟩:=r1
 have fp:∀b∈[s1.heap.objs.size],FpOk X pins H1 b:=λb hb=>by
  obtain rfl:b=s1.heap.objs.size:=by simpa using hb
  exact I1.fpOk (ai' _) (I1.hok.fresh (ai' _))
 cases ha:x.cps.all (· < 128)
 ·refine wpAny_pyIter_wide ha ?_;exact⟨s1.heap.objs.size,[s1.heap.objs.size],_,_,H1,rfl,I1.kept (t':=s1.toks) λb o e=>a_0 _ e,hz_ _ x t,⟨aD' _,_,a_1 _ rfl,rfl,rfl⟩,fp,q⟩
 ·refine wpAny_pyIter_ascii ha ?_;exact⟨s1.heap.objs.size,[s1.heap.objs.size],_,_,H1,rfl,I1.kept (t':=s1.toks) λb o e=>a_0 _ e,fI_ _ x t,⟨aD' _,_,a_1 _ rfl,rfl,rfl⟩,fp,q⟩
theorem opK{f:Aa->Aa->Sem Aa}(r:F__->R2)(h:OpR X f (r X.K))(hK:X.K=K:=by rfl):OpR X f (r K):=by
 subst hK;exact h
theorem callK{f:Aa}(r:F__->List V->Hp->VK->Prop)(h:bp' X f (r X.K))(hK:X.K=K:=by rfl):bp' X f (r K):=by
 subst hK;exact h
theorem ixK(r:F__->R2)(h:IxR X (r X.K))(hK:X.K=K:=by rfl):IxR X (r K):=by
 subst hK;exact h
abbrev rLen(K:F__):=by' K
theorem cLen(hK:X.K=K:=by rfl):bp' X (.builtin "len") (rLen K):=callK rLen av_ hK
theorem dn_{N:List Str}{scope:Scope}{fp:List Addr}{es:List Expr}{k:Nat}{pos:Pos}{t:TGs}(h:PGs (be' X N scope fp s H) es t)(hc:X.calm=true:=by rfl)(hn:(assignEach es (be' X N scope fp s H).env).length=n:=by rfl)(hst:(assignEach es (be' X N scope fp s H).env).findIdx? (·.1)=none:=by rfl):PG (be' X N scope fp s H) (.Tuple es k pos) (gTup X.K n t):=bR_ (X:=be' X N scope fp s H) hc h hn hst
end L2
namespace Ev
open PySem L2
def top(i:Nat):Stmt:=PySem.Challenge.pw_evenpieces_k47_as_steep_as_may_be.main.body.getD i (.Pass ⟨0,0,0,0⟩)
abbrev sIsW:Stmt:=top 13
abbrev sWhole:Stmt:=top 15
abbrev sName:Stmt:=top 16
abbrev dF':Stmt:=top 17
abbrev sPair:Stmt:=top 18
abbrev dI':Stmt:=top 19
abbrev sAnew:Stmt:=top 20
abbrev sHand:Stmt:=top 28
abbrev sStr:Stmt:=top 29
abbrev sTies:Stmt:=top 30
abbrev sNear:Stmt:=top 31
abbrev sWeb:Stmt:=top 33
def ltS(a b:Str):Bool:=decide (a.cps.toList<b.cps.toList)
def ord2(a b:Str):Str × Str:=if ltS a b=true then (a,b) else (b,a)
section
variable{P:Ae}{w:Af}{K:F__}{mg:Str->Option Aa}{base:Heap}
theorem f__{N p:List Str}{c:Scope}(h:a3' N p c:=by exact⟨rfl,rfl,rfl,by decide +kernel,rfl,by decide +kernel,by decide +kernel⟩):a3' N p c:=h
theorem scLesser:a3' ["one","other"] ["one","other"] (a1' dF'):=f__
def cd':Sp:=λvs H Q _=>∃a b,vs=[.str a,.str b]/\∀t,H t=none->Q (.ref t) (upd H t (.tup [.str (ord2 a b).1,.str (ord2 a b).2]))
theorem hC_{f:Addr}{fd:Ad}(F:Fun K "lesser_first" "lesser_first" dF' f fd):FnOk P w K mg base CX0 1 f fd ["one","other"] cd':=by
 refine F.ok scLesser (λvs H Q E h=>?_) (λcdv A outer s H vs Q E hr h=>?_)
 ·obtain⟨a,b,rfl,_⟩:=h;rfl
 ·obtain⟨a,b,rfl,k⟩:=h;refine⟨_,a4_ (a8_ (ix_ (ae_ gq_ (pv 0) (pv 1) (nomark _)) (aR_ (a0_ (pv 0) (a0_ (pv 1) a2_))) (aR_ (a0_ (pv 1) (a0_ (pv 0) a2_))))),?_⟩;refine⟨_,rfl,_,rfl,a,b,rfl,rfl,_,rfl,?_⟩;refine ite2 (λc=>?_) (λc=>?_)
  ·refine⟨_,rfl,_,rfl,by show 2<=sizeLine;decide,λt ht=>?_⟩;have:=k t ht;rwa [show ord2 a b=(a,b) from a_9 c] at this
  ·refine⟨_,rfl,_,rfl,by show 2<=sizeLine;decide,λt ht=>?_⟩;have:=k t ht;rwa [show ord2 a b=(b,a) from a_4 c] at this
theorem scWhole:a3' ["thing","least","most"] ["thing","least","most"] (a1' sWhole):=f__
def cL':Sp:=λvs H Q _=>∃i a b:Int,vs=[.int i,.int a,.int b]/\Q (.bl (decide (a<=i)&&decide (i<=b))) H
structure Bi (mg:Str->Option Aa):Prop where
 isi:mg "isinstance"=none
 int:mg "int"=none
 bool:mg "bool"=none
 str:mg "str"=none
 tuple:mg "tuple"=none
 list:mg "list"=none
 dict:mg "dict"=none
 len:mg "len"=none
 all:mg "all"=none
 sorted:mg "sorted"=none
 max:mg "max"=none
 range:mg "range"=none
 any:mg "any"=none
 enum:mg "enumerate"=none
 min:mg "min"=none
 abs:mg "abs"=none
structure Cal (P:Ae) (w:Af) (K:F__) (mg:Str->Option Aa) (base:Heap) (k:Nat) (x:Str) (ps:List Str) (sp:Sp):Prop where
 ex:∃f fd,FnOk P w K mg base CX0 k f fd ps sp/\mg x=some (.ref f)/\PySem.W.keepIn K (.ref f)=true/\b5' K fd ps []
theorem af_{X:Cx}{k:Nat}{x:Str}{ps:List Str}{sp:Sp}{p pos:Pos}{e:Expr}{es:List Expr}{t:TA}(c:Cal X.prog X.w X.K X.mg X.base k x ps sp)(hr:Room k X.A)(ha:PA X (e::es) t)(hg:Gl X x:=by rfl)(hdb:(x == ("__debug__":Str))=false:=by decide)
  (he:starEach (e::es) X.env=(false,eval e X.env)::starEach es X.env:=by rfl) (hpl:(backTo pos (starEach es X.env)).any (·.1)=false:=by rfl):PE X (.Call (.Name x p) (e::es) [] pos) (tCall sp [] E0 t):=by
 obtain⟨f,fd,F,m,kp,b⟩:=c.ex;exact jq_ F hr hg m kp b .nil pass0 ha hdb he hpl
theorem scIsW:a3' ["thing"] ["thing"] (a1' sIsW):=f__
def spIsW:Sp:=λvs H Q _=>∃i:Int,vs=[.int i]/\Q (.bl true) H
theorem ka_{f:Addr}{fd:Ad}(F:Fun K "is_whole" "is_whole" sIsW f fd)(B:Bi mg):FnOk P w K mg base CX0 1 f fd ["thing"] spIsW:=by
 refine F.ok scIsW (λvs H Q E h=>?_) (λcdv A outer s H vs Q E hr h=>?_)
 ·obtain⟨i,rfl,_⟩:=h;rfl
 ·obtain⟨i,rfl,k⟩:=h;refine⟨_,a4_ (a8_ (bg_ (ab_ aU_ (by rfl) B.isi PyProof.Rows.Boot.«isinstance» (a0_ (pv 0) (a0_ (b5_ (v:=.ty "int") (by rfl) B.int PyProof.Rows.Boot.«int» rfl) a2_))) (bf_ (kM_ (ab_ aU_ (by rfl) B.isi PyProof.Rows.Boot.«isinstance» (a0_ (pv 0) (a0_ (b5_ (v:=.ty "bool") (by rfl) B.bool PyProof.Rows.Boot.«bool» rfl) a2_))))))),?_⟩;exact⟨_,rfl,_,_,_,_,rfl,.int i,rfl,_,rfl,iteT ⟨_,rfl,_,_,_,_,rfl,.int i,rfl,_,rfl,k⟩⟩
theorem ih_{f:Addr}{fd:Ad}(F:Fun K "is_whole_within" "is_whole_within" sWhole f fd)(cI:Cal P w K mg base 1 "is_whole" ["thing"] spIsW):FnOk P w K mg base CX0 2 f fd ["thing","least","most"] cL':=by
 refine F.ok scWhole (λvs H Q E h=>?_) (λcdv A outer s H vs Q E hr h=>?_)
 ·obtain⟨i,a,b,rfl,_⟩:=h;rfl
 ·obtain⟨i,a,b,rfl,k⟩:=h;refine⟨_,a4_ (a8_ (bg_ (af_ cI hr (a0_ (pv 0) a2_)) (bf_ (fj_ dq_ dq_ (pv 1) (pv 0) (pv 2))))),?_⟩;refine⟨_,rfl,i,rfl,_,rfl,iteT ?_⟩;refine⟨_,rfl,_,rfl,_,_,rfl,rfl,_,rfl,?_⟩;refine ite2 (λc=>?_) (λc=>?_)
  ·refine⟨_,rfl,_,_,rfl,rfl,?_⟩;rw[c] at k;exact k
  ·rw[show decide (a<=i)=false by simpa using c] at k;exact k
def okc(c:Nat):Bool:=decide (97<=c)&&decide (c<=122)
def bu'(x:Str):Bool:=decide (1<=x.length)&&decide (x.length<=8)&&x.cps.toList.all okc
theorem scName:a3' ["thing"] ["thing"] (a1' sName):=f__
def d2':Sp:=λvs H Q _=>∃x:Str,vs=[.str x]/\x.length<=100000/\∀H',Same H H'->Q (.bl (bu' x)) H'
theorem jH_{c:Nat}:(!decide ((⟨#[c]⟩:Str).cps.toList<("a":Str).cps.toList))=decide (97<=c):=by
 have e:("a":Str).cps.toList=[97]:=by decide +kernel
 rw[e];show (!decide ([c] < [97]))=decide (97<=c);by_cases h:97<=c
 ·have:¬[c] < [97]:=by simp[List.cons_lt_cons_iff];omega
  simp[this,h]
 ·have:[c] < [97]:=by simp[List.cons_lt_cons_iff];omega
  simp[this,h]
theorem jU_{c:Nat}:(!decide (("z":Str).cps.toList<(⟨#[c]⟩:Str).cps.toList))=decide (c<=122):=by
 have e:("z":Str).cps.toList=[122]:=by decide +kernel
 rw[e];show (!decide ([122] < [c]))=decide (c<=122);by_cases h:c<=122
 ·have:¬[122] < [c]:=by simp[List.cons_lt_cons_iff];omega
  simp[this,h]
 ·have:[122] < [c]:=by simp[List.cons_lt_cons_iff];omega
  simp[this,h]
theorem jo_{f:Addr}{fd:Ad}(F:Fun K "is_name" "is_name" sName f fd)(B:Bi mg){t8:Tok}(m8:mg "MOST_LETTERS"=some (.int 8 t8)):FnOk P w K mg base CX0 1 f fd ["thing"] d2':=by
 refine F.ok scName (λvs H Q E h=>?_) (λcdv A outer s H vs Q E hr h=>?_)
 ·obtain⟨x,rfl,_⟩:=h;rfl
 ·obtain⟨x,rfl,hz,k⟩:=h;have sz:=b__
  refine⟨_,a3_ (al_ (cI_ (aC_ (ay_ (ab_ aU_ (by rfl) B.isi PyProof.Rows.Boot.«isinstance» (a0_ (pv 0) (a0_ (b5_ (v:=.ty "str") (by rfl) B.str PyProof.Rows.Boot.«str» rfl) a2_)))))
    (bF_ (aC_ (fh_ dq_ dq_ a6_ (ab_ dR_ (by rfl) B.len b_8 (a0_ (pv 0) a2_)) (bw_ (v:=.int 8) (by rfl) m8 ⟨t8,rfl⟩))))).pt (a4_ (a8_ bC_)) a9_)
   (a4_ (a8_ (ab_ (eT_ rfl) (by rfl) B.all PyProof.Rows.Boot.«all» (a0_
    (aO_ ["letter"] 1 [] (ky_ (pv 0)) (λfp s H=>ac_ (i:=0) (show (["letter"]:List Str).Nodup by decide +kernel) rfl (Or.inl rfl)) (λfp s H=>aK_) (λfp s H=>fj_ dP_ dP_ ag_ (pv 0) ag_)) a2_)))),?_⟩
  refine⟨_,rfl,_,_,_,_,rfl,.str x,rfl,_,rfl,?_⟩;refine iteF ?_;refine⟨_,rfl,x,rfl,by omega,_,_,rfl,rfl,_,rfl,?_⟩
  have fin:(decide (1<=x.length)&&decide (x.length<=8))=false->∀H',Same H H'->Q (.bl false) H':=λe H' sm=>by
   have:=k H' sm;rwa [show bu' x=false by unfold bu';rw[e];rfl] at this
  refine ite2 (λc=>?_) (λc=>?_)
  ·have c1:1<=x.length:=by
    have:(1:Int)<=(x.length:Int):=by simpa using c
    omega
   refine⟨_,_,rfl,rfl,_,rfl,?_⟩;refine ite2 (λc2=>?_) (λc2=>?_)
   ·-- too long
    have c3:¬x.length<=8:=by
     have:¬((x.length:Int)<=8):=by simpa using c2
     omega
    exact fin (by rw[a_7 c3,Bool.and_false]) H (Same.refl H)
   ·have c3:x.length<=8:=by
     have:(x.length:Int)<=8:=by simpa using c2
     omega
    refine⟨_,rfl,x,rfl,λD hD=>?_⟩;refine du_ (own:=1) (fv:=[]) rfl gok1 x.cps.size (λi out H'=>H'=upd H D (.lst out)/\out=((x.cps.toList.take i).map okc).map V.bl) ⟨rfl,by simp⟩ (λout H' ⟨e1,e2⟩=>?_) (λi out H' hi ⟨e1,e2⟩=>?_)
    ·refine⟨ai' _,D,x.cps.toList.map okc,rfl,.of ?_,?_⟩
     ·rw[e1,a1_,e2,aT' Z2]
     ·have:=k H' (by rw[e1];exact Same.new hD);rwa [show bu' x=(x.cps.toList.map okc).all id by unfold bu';rw[a_2 c1,a_2 c3,List.all_map];rfl] at this
    ·refine⟨hi,λv H2 y=>?_⟩;obtain⟨eH,c,hc,rfl⟩:=y;subst eH;refine⟨_,rfl,rfl,λNx hN=>yesT ?_⟩
     have lo:out.length<sizeLine:=by
      rw[e2];have hs:x.length=x.cps.size:=rfl;simp only[aa',am',aH'];omega
     have nx:Nx (upd H2 D (.lst (out++[V.bl (okc c)]))):=hN (out++[V.bl (okc c)]) _ ⟨by rw[e1,k2_],by
      rw[e2,aw'];simp[hc]⟩
     have atD:H2 D=some (.lst out):=by rw[e1,a1_]
     refine⟨_,rfl,_,_,rfl,rfl,_,rfl,?_⟩;rw[jH_];refine ite2 (λc2=>?_) (λc2=>?_)
     ·refine⟨_,_,rfl,rfl,out,atD,lo,?_⟩;rw[jU_];rwa [show okc c=decide (c<=122) by unfold okc;rw[c2];rfl] at nx
     ·refine⟨out,atD,lo,?_⟩;rwa [show okc c=false by unfold okc;rw[show decide (97<=c)=false by simpa using c2];rfl] at nx
  ·have c1:¬1<=x.length:=by
    have:¬((1:Int)<=(x.length:Int)):=by simpa using c
    omega
   exact⟨_,rfl,iteT (fin (by rw[a_7 c1];rfl) H (Same.refl H))⟩
end
def kT(t:Str × Str):List Key:=[.inr t.1,.inr t.2]
def goodT(t:Str × Str):Prop:=bu' t.1=true/\bu' t.2=true/\t.1≠t.2
theorem bV_{x:Str}(h:bu' x=true):x.length<=8:=by
 unfold bu' at h;simp only[Bool.and_eq_true,decide_eq_true_eq] at h;exact h.1.2
theorem hpT{H:Hp}{p:Addr}{t:Str × Str}(h:H p=some (.tup ((kT t).map kV))):H p=some (.tup [.str t.1,.str t.2]):=h
section
variable{P:Ae}{w:Af}{K:F__}{mg:Str->Option Aa}{base:Heap}
theorem scPair:a3' ["thing"] ["thing"] (a1' sPair):=f__
def spPair:Sp:=λvs H Q _=>∃(p:Addr) (a b:Str),vs=[.ref p]/\H p=some (.tup [.str a,.str b])/\a.length<=100000/\b.length<=100000/\∀H',Same H H'->Q (.bl (bu' a&&bu' b&&!decide (a=b))) H'
theorem j8_{f:Addr}{fd:Ad}(F:Fun K "is_pair_of_names" "is_pair_of_names" sPair f fd)(B:Bi mg)(cN:Cal P w K mg base 1 "is_name" ["thing"] d2'):FnOk P w K mg base CX0 2 f fd ["thing"] spPair:=by
 refine F.ok scPair (λvs H Q E h=>?_) (λcdv A outer s H vs Q E hr h=>?_)
 ·obtain⟨p,a,b,rfl,_⟩:=h;rfl
 ·obtain⟨p,a,b,rfl,hp,la,lb,k⟩:=h
  refine⟨_,a3_ (al_ (cI_ (aC_ (ay_ (ab_ aU_ (by rfl) B.isi PyProof.Rows.Boot.«isinstance» (a0_ (pv 0) (a0_ (b5_ (v:=.ty "tuple") (by rfl) B.tuple PyProof.Rows.Boot.«tuple» rfl) a2_)))))
    (bF_ (ae_ df_ (ab_ av_ (by rfl) B.len b_8 (a0_ (pv 0) a2_)) a6_ (nomark _)))).pt (a4_ (a8_ bC_)) a9_)
   (a4_ (a8_ (bg_ (af_ cN hr (a0_ (au_ ap_ (pv 0) a6_ (λ_ _=>rfl)) a2_)) (bg_ (af_ cN hr (a0_ (au_ ap_ (pv 0) a6_ (λ_ _=>rfl)) a2_))
    (bf_ (aI_ df_ (au_ ap_ (pv 0) a6_ (λ_ _=>rfl)) (au_ ap_ (pv 0) a6_ (λ_ _=>rfl)) (nomark _))))))),?_⟩
  refine⟨_,rfl,_,_,_,_,rfl,.tup hp,rfl,_,rfl,iteF ?_⟩;refine⟨_,rfl,p,_,rfl,.inr (.of hp),rfl,_,rfl,?_⟩;refine iteNS (show V.int ((2:Nat):Int)=V.int 2 from rfl) ?_;refine⟨_,rfl,p,_,_,_,rfl,rfl,.of hp,rfl,a,rfl,la,λH1 s1=>⟨_,rfl,?_⟩⟩;have hp1:=s1 _ _ hp;refine ite2 (λc=>?_) (λc=>?_)
  ·refine⟨_,rfl,p,_,_,_,rfl,rfl,.of hp1,rfl,b,rfl,lb,λH2 s2=>⟨_,rfl,?_⟩⟩;have hp2:=s2 _ _ hp1;have kk:=k H2 (s1.trans s2);refine ite2 (λc2=>?_) (λc2=>?_)
   ·refine⟨_,rfl,p,_,_,_,rfl,rfl,.of hp2,rfl,_,rfl,p,_,_,_,rfl,rfl,.of hp2,rfl,rfl,?_⟩;rw[c,c2] at kk
    have e:decide (V.str a=V.str b)=decide (a=b):=by
     by_cases z:a=b
     ·simp[z]
     ·simp[z]
    show Q (.bl (!decide (V.str a=V.str b))) H2;rw[e];exact kk
   ·rw[c,show bu' b=false by simpa using c2] at kk;exact kk
  ·have kk:=k H1 s1;rw[show bu' a=false by simpa using c] at kk;exact kk
theorem cf':a3' ["ties","found","pair","tie"] ["ties"] (a1' dI'):=f__
def dg'(K:F__):Sp:=λvs H Q _=>∃(l:Addr) (ys:List V) (ts:Xb),vs=[.ref l]/\H l=some (.lst ys)/\a4' K H ys (ts.map kT)/\(∀t∈ts,goodT t)/\(ts.map λt=>kT (ord2 t.1 t.2)).Nodup/\ts.length<64 /\
 ∀l' zs H',Same H H'->H l'=none->H' l'=some (.lst zs)->a4' K H' zs (sortKs (ts.map λt=>kT (ord2 t.1 t.2)))->Q (.ref l') H'
theorem aL_{α β γ:Type}{F:α->γ->Prop}{g:β->γ}{ys:List α}{ts:List β}(t:Paired F ys (ts.map g)){i:Nat}{y:α}(h:ys[i]? = some y):∃x,ts[i]? = some x/\F y (g x):=by
 have hi:i<ys.length:=(ac'.mp h).1;have hl:=a_3 t;rw[aa'] at hl;have:=an_ t i hi (by rw[aa'];omega);rw[List.getElem_map] at this;refine⟨ts[i],ab' Z1,?_⟩;rw[(ac'.mp h).2] at this;exact this
theorem aN_{κ:Type}[DecidableEq κ]{kvs:List (κ × V)}{k:κ}(h:k∉kvs.map (·.1)):valV kvs k=none:=by
 cases e:valV kvs k with
 |none=>rfl
 |some v=>exact absurd (jM_ e) h
theorem aB_{α β:Type}(g:α->β){ts:List α}{i:Nat}{x:α}(h:ts[i]? = some x):(ts.take (i+1)).map g=(ts.take i).map g++[g x]:=by
 rw[aw',h,an'];rfl
theorem bi_{α β:Type}{g:α->β}{ts:List α}{i:Nat}{x:α}(h:(ts.map g).Nodup)(hx:ts[i]? = some x):g x∉(ts.take i).map g:=by
 intro m;have hi:i<ts.length:=(ac'.mp hx).1;obtain⟨y,hy,e⟩:=af'.mp m;obtain⟨j,hj,e2⟩:=aB' hy;rw[am'] at hj;rw[List.getElem_take] at e2;rw[aA',aE',List.pairwise_iff_getElem] at h;refine h j i Z1 hi Z1 ?_;rw[e2,e,(ac'.mp hx).2]
theorem h8_{f:Addr}{fd:Ad}(F:Fun K "sorted_ties" "sorted_ties" dI' f fd)(B:Bi mg)(cP:Cal P w K mg base 2 "is_pair_of_names" ["thing"] spPair)(cL:Cal P w K mg base 1 "lesser_first" ["one","other"] cd'):FnOk P w K mg base CX0 3 f fd ["ties"] (dg' K):=by
 refine F.ok cf' (λvs H Q E h=>?_) (λcdv A outer s H vs Q E hr h=>?_)
 ·obtain⟨l,ys,ts,rfl,_⟩:=h;rfl
 ·obtain⟨l,ys,ts,rfl,hl,tu,good,nd,h64,k⟩:=h;have hu:=ba_ hr;have hr1:Room 1 _:=hr.mono (by decide);have sz:=b__
  refine⟨_,a3_ (al_ (aC_ (ay_ (ab_ aU_ (by rfl) B.isi PyProof.Rows.Boot.«isinstance» (a0_ (pv 0) (a0_ (b5_ (v:=.ty "list") (by rfl) B.list PyProof.Rows.Boot.«list» rfl) a2_))))) ah_ a9_)
   (a3_ (ad_ (i:=1) cf'.nd rfl (Or.inl rfl) ie_)
   (a3_ (aV_ b_1 rfl (aj_ (pv 0)) (ac_ (i:=2) cf'.nd rfl (Or.inl rfl))
    (a3_ (al_ (aC_ (ay_ (af_ cP hr (a0_ (pv 2) a2_)))) ah_ a9_)
    (a3_ (ad_ (i:=3) cf'.nd rfl (Or.inl rfl) (af_ cL hr1 (a0_ (au_ ap_ (pv 2) a6_ (λ_ _=>rfl)) (a0_ (au_ ap_ (pv 2) a6_ (λ_ _=>rfl)) a2_))))
    (a3_ (al_ (cd_ (cX_ hu (pv 3) (pv 1))) ah_ a9_)
    (a4_ (bv_ hu (pv 1) (pv 3) bC_ rfl))))))
   (a4_ (a8_ (ab_ (ep_ rfl) (by rfl) B.sorted PyProof.Rows.Boot.«sorted» (a0_ (pv 1) a2_)))))),?_⟩
  refine⟨_,rfl,_,_,_,_,rfl,.lst hl,rfl,_,rfl,iteF ?_⟩;intro d hd;have s0:Same H (upd H d (.dT [])):=Same.new hd;refine⟨_,rfl,l,rfl,⟨_,.of (s0 _ _ hl)⟩,aH_ (K:=K) (a:=l) (xs:=ys) (λi σ H2=>∃(v3 v4:Option V),σ=[some (.ref l),some (.ref d),v3,v4]/\Same H H2/\H2 d=some (.dT ((ts.take i).map λt=>(kT (ord2 t.1 t.2),V.bl true)))) ⟨none,none,rfl,s0,a1_⟩ (λi σ H2 _ ⟨_,_,_,s2,_⟩=>.of (s2 _ _ hl)) ?_ ?_⟩
  ·rintro i y σ H2 hy ⟨v3,v4,rfl,s2,hd2⟩;obtain⟨t,ht,a,rfl,ha⟩:=aL_ tu hy;obtain⟨g1,g2,g3⟩:=good t (ae' ht);have ha2:=s2 _ _ (hpT ha);refine⟨_,rfl,a,t.1,t.2,rfl,ha2,by have:=bV_ g1;omega,by have:=bV_ g2;omega,λH3 s3=>⟨_,rfl,?_⟩⟩;have ha3:=s3 _ _ ha2;have hd3:=s3 _ _ hd2;rw[g1,g2,a_7 g3];refine iteF ?_;refine⟨_,rfl,a,_,_,_,rfl,rfl,.of ha3,rfl,_,rfl,a,_,_,_,rfl,rfl,.of ha3,rfl,t.1,t.2,rfl,λb hb=>?_⟩;have s4:Same H3 (upd H3 b (.tup [.str (ord2 t.1 t.2).1,.str (ord2 t.1 t.2).2])):=Same.new hb;have hd4:=s4 _ _ hd3;have hb4:upd H3 b (.tup [.str (ord2 t.1 t.2).1,.str (ord2 t.1 t.2).2]) b=some (.tup ((kT (ord2 t.1 t.2)).map kV)):=a1_
   have nov:valV ((ts.take i).map λt=>(kT (ord2 t.1 t.2),V.bl true)) (kT (ord2 t.1 t.2))=none:=aN_ (by
    rw[ak'];exact bi_ (g:=λt=>kT (ord2 t.1 t.2)) nd ht)
   refine⟨_,rfl,_,rfl,d,_,rfl,.t (k:=kT (ord2 t.1 t.2)) hd4 hb4,_,rfl,?_⟩;rw[nov];refine iteF ?_;refine⟨_,rfl,_,rfl,d,_,rfl,.t (k:=kT (ord2 t.1 t.2)) hd4 hb4 (by rw[aa',am'];omega),?_⟩;refine⟨_,_,rfl,λc o e=>?_,?_⟩
   ·rw[a5_ (a7_ e hd)];exact s4 _ _ (s3 _ _ (s2 _ _ e))
   ·rw[a1_,bB_ _ nov,aB_ _ ht]
  ·rintro σ H2 ⟨v3,v4,rfl,s2,hd2⟩;have le:=a_3 tu;rw[aa'] at le;rw[le,ao'] at hd2;refine⟨_,rfl,d,_,[true,true],rfl,hd2,⟨by decide,λk hk=>?_⟩,by rw[aa'];exact h64,λl' zs hn tz=>?_⟩
   ·rw[ak'] at hk;obtain⟨t,_,rfl⟩:=af'.mp hk;rfl
   ·rw[ak'] at tz;exact k l' zs _ (s2.trans (Same.new hn)) (s2.free hn) a1_ (tz.same (Same.new hn))
theorem scAnew:a3' ["ties"] ["ties"] (a1' sAnew):=f__
def spAnew(K:F__):Sp:=λvs H Q _=>∃(l:Addr) (ys:List V) (ts:Xb),vs=[.ref l]/\H l=some (.lst ys)/\a4' K H ys (ts.map kT)/\ts.length<=1000 /\
 ∀l' zs H',Same H H'->H l'=none->H' l'=some (.lst zs)->a4' K H' zs (ts.map kT)->Q (.ref l') H'
theorem cy_{K:F__}{H:Hp}{ys:List V}{ks:List (List Key)}{a:Addr}{k:List Key}(t:a4' K H ys ks)(h:H a=some (.tup (k.map kV))):a4' K H (ys++[.ref a]) (ks++[k]):=Paired.snoc t ⟨a,rfl,h⟩
theorem ar_{H H1:Hp}{D:Addr}{o:HO}(h:Same H H1)(hD:H D=none):Same H (upd H1 D o):=λb u e=>by rw[a5_ (a7_ e hD)];exact h b u e
theorem aY_{K:F__}{H:Hp}{ys:List V}{ks:List (List Key)}{D:Addr}{o:HO}{xs:List V}(t:a4' K H ys ks)(hD:H D=some (.lst xs)):a4' K (upd H D o) ys ks:=Paired.mapP t λy k ⟨a,z,q⟩=>⟨a,z,by rw[a5_ (aM_ q hD nofun)];exact q⟩
theorem jc_{f:Addr}{fd:Ad}(F:Fun K "ties_anew" "ties_anew" sAnew f fd):FnOk P w K mg base CX0 1 f fd ["ties"] (spAnew K):=by
 refine F.ok scAnew (λvs H Q E h=>?_) (λcdv A outer s H vs Q E hr h=>?_)
 ·obtain⟨l,ys,ts,rfl,_⟩:=h;rfl
 ·obtain⟨l,ys,ts,rfl,hl,tu,hz,k⟩:=h;have sz:=b__
  refine⟨_,a4_ (a8_ (aO_ ["one","other"] 2 [] (aj_ (pv 0)) (λfp s H=>dn_ (n:=2) (aq_ (ac_ (i:=0) (show (["one","other"]:List Str).Nodup by decide +kernel) rfl (Or.inl rfl)) (aq_ (ac_ (i:=1) (show (["one","other"]:List Str).Nodup by decide +kernel) rfl (Or.inl rfl)) bc_)))
   (λfp s H=>aK_) (λfp s H=>aR_ (a0_ (pv 0) (a0_ (pv 1) a2_))))),?_⟩
  refine⟨_,rfl,l,rfl,⟨_,.of hl⟩,λD hD=>?_⟩;have le:=a_3 tu;rw[aa'] at le;refine as_ (own:=2) (fv:=[]) (xs:=ys) rfl gok2 (λi out H'=>Same H H'/\H' D=some (.lst out)/\a4' K H' out ((ts.take i).map kT)) ⟨Same.new hD,a1_,.nil⟩ (λi out H' _ ⟨sm,_,_⟩=>.of (sm _ _ hl)) (λout H' ⟨sm,hd,tz⟩=>?_) (λi x out H' hx ⟨sm,hd,tz⟩=>?_)
  ·rw[le,ao'] at tz;exact k D out H' sm hD hd tz
  ·obtain⟨t,ht,a,rfl,ha⟩:=aL_ tu hx;refine⟨_,⟨a,_,_,rfl,.of (sm _ _ (hpT ha)),rfl⟩,rfl,λNx hN=>yesT ?_⟩;refine⟨_,rfl,_,rfl,by show 2<=sizeLine;decide,λp hp=>⟨out,(Same.new hp) _ _ hd,?_,?_⟩⟩
   ·have:=a_3 tz;rw[aa',am'] at this;omega
   ·have hp2:upd H' p (.tup [.str t.1,.str t.2]) p=some (.tup ((kT t).map kV)):=a1_;refine hN (out++[.ref p]) _ ⟨ar_ (sm.trans (Same.new hp)) hD,a1_,?_⟩;rw[aB_ _ ht];exact aY_ (cy_ (tz.same (Same.new hp)) hp2) ((Same.new hp) _ _ hd)
end
def kH(h:Str × Int):List Key:=[.inr h.1,.inl h.2]
def goodH(h:Str × Int):Prop:=bu' h.1=true/\1<=h.2/\h.2<=1000
def kvOf:List Key->Key × V
 |[k,v]=>(k,kV v)
 |_=>(.inl 0,.non)
def sortH(hs:Xa):List (Key × V):=(sortKs (hs.map kH)).map kvOf
theorem hpH{H:Hp}{p:Addr}{t:Str × Int}(h:H p=some (.tup ((kH t).map kV))):H p=some (.tup [.str t.1,.int t.2]):=h
theorem d8_:∀(more kvs:List (Key × V)),(kvs.map (·.1)++more.map (·.1)).Nodup->ct' kvs more=kvs++more
 |[],kvs,_=>by
  show kvs=kvs++[];rw[aN']
 |p::more,kvs,h=>by
  show ct' (putK kvs p.1 p.2) more=kvs++p::more
  have hn:valV kvs p.1=none:=aN_ λm=>by
   rw[av',List.nodup_append] at h;exact h.2.2 p.1 m p.1 ag' rfl
  rw[bB_ _ hn,d8_ more (kvs++[(p.1,p.2)])]
  ·simp
  ·simpa using h
theorem b7_{more:List (Key × V)}(h:(more.map (·.1)).Nodup):ct' [] more=more:=by
 rw[d8_ more [] (by simpa using h)];rfl
theorem d5_(hs:Xa):((sortH hs).map (·.1)).Perm (hs.map λh=>Sum.inr h.1):=by
 unfold sortH;rw[ak'];have p:=(ao_ (hs.map kH)).map λk=>(kvOf k).1;rw[ak'] at p;exact p
theorem cv_{hs:Xa}(h:(hs.map (·.1)).Nodup):((sortH hs).map (·.1)).Nodup:=by
 refine (d5_ hs).nodup_iff.mpr ?_;have:(hs.map λh=>(Sum.inr h.1:Key))=(hs.map (·.1)).map Sum.inr:=by rw[ak'];rfl
 rw[this,aA',aE'];exact h.imp λn e=>n (b_5 e)
variable{k:Nat}
theorem bG'{A:Ag}(hr:Room k A)(n:Nat)(h:n+1<=64:=by decide):A.units+n+1<cLine:=by
 have:=hr.units;omega
section
variable{P:Ae}{w:Af}{K:F__}{mg:Str->Option Aa}{base:Heap}
theorem scHand:a3' ["thing"] ["thing"] (a1' sHand):=f__
def spHand:Sp:=λvs H Q _=>∃(p:Addr) (a:Str) (n:Int),vs=[.ref p]/\H p=some (.tup [.str a,.int n])/\a.length<=100000/\∀H',Same H H'->Q (.bl (bu' a&&(decide (1<=n)&&decide (n<=1000)))) H'
theorem k0_{f:Addr}{fd:Ad}(F:Fun K "is_hand_with_strength" "is_hand_with_strength" sHand f fd)(B:Bi mg)(cN:Cal P w K mg base 1 "is_name" ["thing"] d2')(cW:Cal P w K mg base 2 "is_whole_within" ["thing","least","most"] cL'){tk:Tok}(mS:mg "MOST_STRENGTH"=some (.int 1000 tk)) :
  FnOk P w K mg base CX0 3 f fd ["thing"] spHand:=by
 refine F.ok scHand (λvs H Q E h=>?_) (λcdv A outer s H vs Q E hr h=>?_)
 ·obtain⟨p,a,b,rfl,_⟩:=h;rfl
 ·obtain⟨p,a,n,rfl,hp,la,k⟩:=h;have hr1:Room 1 _:=hr.mono (by decide)
  refine⟨_,a3_ (al_ (cI_ (aC_ (ay_ (ab_ aU_ (by rfl) B.isi PyProof.Rows.Boot.«isinstance» (a0_ (pv 0) (a0_ (b5_ (v:=.ty "tuple") (by rfl) B.tuple PyProof.Rows.Boot.«tuple» rfl) a2_)))))
    (bF_ (ae_ df_ (ab_ av_ (by rfl) B.len b_8 (a0_ (pv 0) a2_)) a6_ (nomark _)))).pt (a4_ (a8_ bC_)) a9_)
   (a4_ (a8_ (bg_ (af_ cN hr1 (a0_ (au_ ap_ (pv 0) a6_ (λ_ _=>rfl)) a2_)) (bf_ (af_ cW hr (a0_ (au_ ap_ (pv 0) a6_ (λ_ _=>rfl)) (a0_ a6_ (a0_ (bw_ (v:=.int 1000) (by rfl) mS ⟨tk,rfl⟩) a2_)))))))),?_⟩
  refine⟨_,rfl,_,_,_,_,rfl,.tup hp,rfl,_,rfl,iteF ?_⟩;refine⟨_,rfl,p,_,rfl,.inr (.of hp),rfl,_,rfl,?_⟩;refine iteNS (show V.int ((2:Nat):Int)=V.int 2 from rfl) ?_;refine⟨_,rfl,p,_,_,_,rfl,rfl,.of hp,rfl,a,rfl,la,λH1 s1=>⟨_,rfl,?_⟩⟩;have hp1:=s1 _ _ hp;have kk:=k H1 s1;refine ite2 (λc=>?_) (λc=>?_)
  ·refine⟨_,rfl,p,_,_,_,rfl,rfl,.of hp1,rfl,n,1,1000,rfl,?_⟩;rw[c] at kk;exact kk
  ·rw[show bu' a=false by simpa using c] at kk;exact kk
theorem scStr:a3' ["hands","found","hand"] ["hands"] (a1' sStr):=f__
def spStr(K:F__):Sp:=λvs H Q _=>∃(l:Addr) (ys:List V) (hs:Xa),vs=[.ref l]/\H l=some (.lst ys)/\a4' K H ys (hs.map kH)/\(∀h∈hs,goodH h)/\(hs.map (·.1)).Nodup/\1<=hs.length/\hs.length<=8 /\
 ∀d H',Same H H'->H d=none->H' d=some (.dK (sortH hs))->Q (.ref d) H'
theorem kj_{f:Addr}{fd:Ad}(F:Fun K "checked_strengths" "checked_strengths" sStr f fd)(B:Bi mg)(cH:Cal P w K mg base 3 "is_hand_with_strength" ["thing"] spHand){tk:Tok}(mH:mg "MOST_HANDS"=some (.int 8 tk)):FnOk P w K mg base CX0 4 f fd ["hands"] (spStr K):=by
 refine F.ok scStr (λvs H Q E h=>?_) (λcdv A outer s H vs Q E hr h=>?_)
 ·obtain⟨l,ys,hs,rfl,_⟩:=h;rfl
 ·obtain⟨l,ys,hs,rfl,hl,tu,good,nd,h1,h8,k⟩:=h;have hu:=ba_ hr;have sz:=b__;have le:=a_3 tu;rw[aa'] at le
  refine⟨_,a3_ (al_ (cI_ (aC_ (ay_ (ab_ aU_ (by rfl) B.isi PyProof.Rows.Boot.«isinstance» (a0_ (pv 0) (a0_ (b5_ (v:=.ty "list") (by rfl) B.list PyProof.Rows.Boot.«list» rfl) a2_)))))
    (bF_ (aC_ (fh_ dq_ dq_ a6_ (ab_ av_ (by rfl) B.len b_8 (a0_ (pv 0) a2_)) (bw_ (v:=.int 8) (by rfl) mH ⟨tk,rfl⟩))))).pt ah_ a9_)
   (a3_ (ad_ (i:=1) scStr.nd rfl (Or.inl rfl) ck_)
   (a3_ (aV_ b_1 rfl (aj_ (pv 0)) (ac_ (i:=2) scStr.nd rfl (Or.inl rfl))
    (a3_ (al_ (aC_ (ay_ (af_ cH hr (a0_ (pv 2) a2_)))) ah_ a9_)
    (a3_ (al_ (cd_ (cX_ hu (au_ ap_ (pv 2) a6_ (λ_ _=>rfl)) (pv 1))) ah_ a9_)
    (a4_ (bv_ hu (pv 1) (au_ ap_ (pv 2) a6_ (λ_ _=>rfl)) (au_ ap_ (pv 2) a6_ (λ_ _=>rfl)) rfl)))))
   (a4_ (a8_ (aG_ (aZ_ rfl) (by rfl) B.dict PyProof.Rows.Boot.«dict» (a0_ (ab_ (fK_ rfl) (by rfl) B.sorted PyProof.Rows.Boot.«sorted» (a0_ (cj_ (pv 1)) a2_)) a2_)))))),?_⟩
  refine⟨_,rfl,_,_,_,_,rfl,.lst hl,rfl,_,rfl,iteF ?_⟩;refine⟨_,rfl,l,_,rfl,.inl (.of hl),_,_,rfl,rfl,_,rfl,?_⟩;rw[a_2 (show (1:Int)<=(ys.length:Int) by omega)];refine iteT ⟨_,_,rfl,rfl,_,rfl,?_⟩;rw[a_2 (show (ys.length:Int)<=8 by omega)];refine iteF ?_;intro d hd;have s0:Same H (upd H d (.dK [])):=Same.new hd;refine⟨_,rfl,l,rfl,⟨_,.of (s0 _ _ hl)⟩,aH_ (K:=K) (a:=l) (xs:=ys) (λi σ H2=>∃(v2:Option V),σ=[some (.ref l),some (.ref d),v2]/\Same H H2/\H2 d=some (.dK ((hs.take i).map λh=>(Sum.inr h.1,V.int h.2)))) ⟨none,rfl,s0,a1_⟩ (λi σ H2 _ ⟨_,_,s2,_⟩=>.of (s2 _ _ hl)) ?_ ?_⟩
  ·rintro i y σ H2 hy ⟨v2,rfl,s2,hd2⟩;obtain⟨t,ht,a,rfl,ha⟩:=aL_ tu hy;obtain⟨g1,g2,g3⟩:=good t (ae' ht);have ha2:=s2 _ _ (hpH ha);refine⟨_,rfl,a,t.1,t.2,rfl,ha2,by have:=bV_ g1;omega,λH3 s3=>⟨_,rfl,?_⟩⟩;have ha3:=s3 _ _ ha2;have hd3:=s3 _ _ hd2;rw[g1,a_2 g2,a_2 g3];refine iteF ?_
   have nov:valV ((hs.take i).map λh=>((Sum.inr h.1:Key),V.int h.2)) (Sum.inr t.1)=none:=aN_ (by
    rw[ak'];have q:=bi_ (g:=λh:Str × Int=>h.1) nd ht;intro m;obtain⟨h,hh,e⟩:=af'.mp m;exact q (af'.mpr ⟨h,hh,b_5 e⟩))
   refine⟨_,rfl,a,_,_,_,rfl,rfl,.of ha3,rfl,_,rfl,d,_,rfl,.k (k:=Sum.inr t.1) hd3,_,rfl,?_⟩;rw[nov];refine iteF ?_;refine⟨_,rfl,a,_,_,_,rfl,rfl,.of ha3,rfl,_,rfl,_,rfl,a,_,_,_,rfl,rfl,.of ha3,rfl,d,_,rfl,.k (k:=Sum.inr t.1) hd3 (by rw[aa',am'];omega),?_⟩;refine⟨_,rfl,λc o e=>?_,?_⟩
   ·rw[a5_ (a7_ e hd)];exact s3 _ _ (s2 _ _ e)
   ·rw[a1_,bB_ _ nov,aB_ _ ht]
  ·rintro σ H2 ⟨v2,rfl,s2,hd2⟩;rw[le,ao'] at hd2;refine⟨_,rfl,d,_,rfl,hd2,λv hv=>?_⟩;have s3:Same H2 (upd H2 v (bq' v d)):=Same.new hv;refine⟨v,d,_,hs.map λh=>(Sum.inr h.1,Sum.inl h.2),[true,false],rfl,a1_,s3 _ _ hd2,by rw[ak'];rfl,⟨by decide,λq hq=>?_⟩,by rw[aa'];omega,λl' H4 zs s4 hn tz=>?_⟩
   ·rw[ak'] at hq;obtain⟨h,_,rfl⟩:=af'.mp hq;rfl
   ·have ez:((hs.map λh=>((Sum.inr h.1:Key),(Sum.inl h.2:Key))).map λk=>[k.1,k.2])=hs.map kH:=by rw[ak'];rfl
    rw[ez] at tz
    have pz:bh' K (upd H4 l' (.lst zs)) zs (sortH hs):=by
     have shape:∀k∈sortKs (hs.map kH),∃a b,k=[a,b]:=λk hk=>by
      obtain⟨h,_,e⟩:=af'.mp ((ao_ _).mem_iff.mp hk);exact⟨_,_,e.symm⟩
     have gen:∀(ks:List (List Key)) (zs:List V),(∀k∈ks,∃a b,k=[a,b])->a4' K (upd H4 l' (.lst zs)) zs ks->bh' K (upd H4 l' (.lst zs)) zs (ks.map kvOf):=λks=>by
      intro zs;generalize upd H4 l' (.lst zs)=HH;intro sh t
      induction t with
      |nil=>exact .nil
      |cons h t ih=>
       obtain⟨a,b,rfl⟩:=sh _ ag';exact .cons h (ih λk hk=>sh k (ad' _ hk))
     exact gen _ _ shape (tz.same (Same.new hn))
    refine⟨l',zs,_,rfl,a1_,pz,?_,λd' hd'=>?_⟩
    ·have:=(d5_ hs).length_eq;simp only[aa'] at this;omega
    ·rw[b7_ (cv_ nd)];have sAll:Same H (upd H4 l' (.lst zs)):=(s2.trans (s3.trans s4)).trans (Same.new hn);exact k d' _ (sAll.trans (Same.new hd')) (sAll.free hd') a1_
theorem ed':a3' ["ties","strengths","found","one","other"] ["ties","strengths"] (a1' sTies):=f__
inductive spTies (K:F__) (vs:List V) (H:Hp) (Q:VK) (E:XK):Prop
 |mk:∀(l d:Addr) (ys:List V) (ts:Xb) (kvs:List (Key × V)),vs=[.ref l,.ref d]->H l=some (.lst ys)->a4' K H ys (ts.map kT)->(∀t∈ts,goodT t)->(ts.map λt=>kT (ord2 t.1 t.2)).Nodup->ts.length<64->H d=some (.dK kvs)->(∀t∈ts,(valV kvs (Sum.inr t.1)).isSome=true/\(valV kvs (Sum.inr t.2)).isSome=true)->(∀l' zs H',Same H H'->H l'=none->H' l'=some (.lst zs)->a4' K H' zs (sortKs (ts.map λt=>kT (ord2 t.1 t.2)))->Q (.ref l') H')->spTies K vs H Q E
theorem d9_(a b:Str):ord2 a b=(a,b)∨ord2 a b=(b,a):=by
 unfold ord2;split
 ·exact .inl rfl
 ·exact .inr rfl
theorem jv_{f:Addr}{fd:Ad}(F:Fun K "checked_ties" "checked_ties" sTies f fd)(B:Bi mg)(cS:Cal P w K mg base 3 "sorted_ties" ["ties"] (dg' K)):FnOk P w K mg base CX0 4 f fd ["ties","strengths"] (spTies K):=by
 refine F.ok ed' (λvs H Q E h=>?_) (λcdv A outer s H vs Q E hr h=>?_)
 ·obtain⟨l,d,ys,ts,kvs,rfl,_⟩:=h;rfl
 ·obtain⟨l,d,ys,ts,kvs,rfl,hl,tu,good,nd,h64,hd,there,k⟩:=h;have hu:=ba_ hr
  refine⟨_,a3_ (ad_ (i:=2) ed'.nd rfl (Or.inl rfl) (af_ cS hr (a0_ (pv 0) a2_)))
   (a3_ (al_ (cd_ (dG_ (pv 2))) ah_ a9_)
   (a3_ (aV_ b_1 rfl (aj_ (pv 2)) (bR_ rfl (aq_ (ac_ (i:=3) ed'.nd rfl (Or.inl rfl)) (aq_ (ac_ (i:=4) ed'.nd rfl (Or.inl rfl)) bc_)))
    (a4_ (al_ (cI_ (cd_ (dV_ hu (pv 3) (pv 1))) (bF_ (cd_ (dV_ hu (pv 4) (pv 1))))).pt ah_ a9_)))
   (a4_ (a8_ (pv 2))))),?_⟩
  refine⟨_,rfl,l,ys,ts,rfl,hl,tu,good,nd,h64,λl' zs H1 s1 hf hl1 tz=>?_⟩;refine⟨_,rfl,_,rfl,iteF ?_⟩;refine⟨_,rfl,l',rfl,⟨_,.of hl1⟩,aH_ (K:=K) (a:=l') (xs:=zs) (λi σ H2=>∃(v3 v4:Option V),σ=[some (.ref l),some (.ref d),some (.ref l'),v3,v4]/\H2=H1) ⟨none,none,rfl,rfl⟩ (λi σ H2 _ ⟨_,_,_,e⟩=>by subst e;exact .of hl1) ?_ ?_⟩
  ·rintro i y σ H2 hy ⟨v3,v4,rfl,rfl⟩;have ez:=a_3 tz;have hi:i<zs.length:=(ac'.mp hy).1;obtain⟨a,e,ha⟩:=an_ tz i hi Z1;rw[(ac'.mp hy).2] at e;subst e;obtain⟨t,ht,e⟩:=af'.mp ((ao_ _).mem_iff.mp (aC' (show i<(sortKs (ts.map λt=>kT (ord2 t.1 t.2))).length by omega)));rw[<- e] at ha;obtain⟨t1,t2⟩:=there t ht
   have both:(valV kvs (Sum.inr (ord2 t.1 t.2).1)).isSome=true/\(valV kvs (Sum.inr (ord2 t.1 t.2).2)).isSome=true:=by
    rcases d9_ t.1 t.2 with q|q
    ·rw[q];exact⟨t1,t2⟩
    ·rw[q];exact⟨t2,t1⟩
   have hd1:=s1 _ _ hd;refine⟨a,_,rfl,.of (hpT ha),rfl,_,_,rfl,_,_,rfl,rfl,?_⟩;refine⟨_,rfl,_,rfl,d,_,rfl,.k (k:=Sum.inr (ord2 t.1 t.2).1) hd1,_,rfl,?_⟩;rw[both.1];refine iteF ?_;refine⟨_,rfl,_,rfl,d,_,rfl,.k (k:=Sum.inr (ord2 t.1 t.2).2) hd1,_,rfl,?_⟩;rw[both.2];refine iteF ?_;exact⟨_,_,rfl,rfl⟩
  ·rintro σ H2 ⟨v3,v4,rfl,rfl⟩;exact⟨_,rfl,k l' zs _ s1 hf hl1 tz⟩
def near(ns:List Str)(ts:Xb)(n:Str):List Str:=ns.filter λo=>decide (ord2 n o∈ts)
theorem scNear:a3' ["names","ties","found","hand"] ["names","ties"] (a1' sNear):=f__
def bl'(ns:List Str)(as:List Addr):List (Key × V):=(ns.zip as).map λp=>(Sum.inr p.1,V.ref p.2)
inductive spNear (K:F__) (vs:List V) (H:Hp) (Q:VK) (E:XK):Prop
 |mk:∀(l1 l2:Addr) (ns:List Str) (zs:List V) (ts:Xb),vs=[.ref l1,.ref l2]->H l1=some (.lst (ns.map V.str))->H l2=some (.lst zs)->a4' K H zs (ts.map kT)->ns.Nodup->ns.length<=1000->l1≠l2->(∀d as H',Same H H'->H d=none->as.length=ns.length->H' d=some (.dK (bl' ns as))->(∀(i:Nat) n a,ns[i]? = some n->as[i]? = some a->H a=none/\H' a=some (.lst ((near ns ts n).map V.str)))->Q (.ref d) H')->spNear K vs H Q E
theorem dB_{K:F__}{H:Hp}:∀{ts:Xb} {zs:List V},a4' K H zs (ts.map kT)->Paired (r2 K rS rS H) zs ts
 |[],_,.nil=>.nil
 |t::ts,_,.cons ⟨a,e,h⟩ r=>.cons ⟨a,_,_,e,.of (hpT h),rfl,rfl⟩ (dB_ r)
theorem ai_{ns:List Str}{i:Nat}{x:V}(h:(ns.map V.str)[i]? = some x):∃n,ns[i]? = some n/\x=.str n:=by
 rw[aj'] at h;cases e:ns[i]? with
 |none=>rw[e] at h;cases h
 |some n=>rw[e] at h;exact⟨n,rfl,(a_8 h).symm⟩
theorem cG_{α:Type}(p:α->Bool){l:List α}{i:Nat}{x:α}(h:l[i]? = some x):(l.take (i+1)).filter p=(l.take i).filter p++(if p x then [x] else []):=PySem.take_succ_filter p l i x h
theorem jx_{f:Addr}{fd:Ad}(F:Fun K "neighbours_of_all" "neighbours_of_all" sNear f fd)(cL:Cal P w K mg base 1 "lesser_first" ["one","other"] cd'):FnOk P w K mg base CX0 2 f fd ["names","ties"] (spNear K):=by
 refine F.ok scNear (λvs H Q E h=>?_) (λcdv A outer s H vs Q E hr h=>?_)
 ·obtain⟨l1,l2,ns,zs,ts,rfl,_⟩:=h;rfl
 ·obtain⟨l1,l2,ns,zs,ts,rfl,hl1,hl2,tz,nd,h8,hne,k⟩:=h;have hu:=ba_ hr;have hu3:=hr.units;have sz:=b__
  refine⟨_,a3_ (ad_ (i:=2) scNear.nd rfl (Or.inl rfl) ck_)
   (a3_ (aV_ b_1 rfl (aj_ (pv 0)) (ac_ (i:=3) scNear.nd rfl (Or.inr rfl))
    (a4_ (bv_ hu (pv 2) (pv 3) (aO_ ["other","hand","ties"] 1 [3,1] (aj_ (pv 0)) (λfp s H=>ac_ (i:=0) (show (["other","hand","ties"]:List Str).Nodup by decide +kernel) rfl (Or.inl rfl))
     (λfp s H=>dt_ (ae_ (opK (K:=K) (λK=>rInD K (r2 K rS rS) false) (gN_ (cmp2 cmpS cmpS) (bG' hr _))) (af_ cL hr (a0_ (pv 1) (a0_ (pv 0) a2_))) (pv 2) (by with_unfolding_all rfl))) (λfp s H=>pv 0)) rfl)))
   (a4_ (a8_ (pv 2)))),?_⟩
  intro d hd;have s0:Same H (upd H d (.dK [])):=Same.new hd
  refine⟨_,rfl,l1,rfl,⟨_,.of (s0 _ _ hl1)⟩,aH_ (K:=K) (a:=l1) (xs:=ns.map V.str) (λi σ H2=>∃(v3:Option V) (as:List Addr),σ=[some (.ref l1),some (.ref l2),some (.ref d),v3]/\Same H H2/\as.length=i/\H2 d=some (.dK (bl' (ns.take i) as)) /\
   ∀(j:Nat) n a,ns[j]? = some n->as[j]? = some a->H a=none/\a≠d/\H2 a=some (.lst ((near ns ts n).map V.str))) ⟨none,[],rfl,s0,rfl,a1_,λj n a _ e=>by simp at e⟩ (λi σ H2 _ ⟨_,_,_,s2,_⟩=>.of (s2 _ _ hl1)) ?_ ?_⟩
  ·rintro i y σ H2 hy ⟨v3,as,rfl,s2,la,hd2,lists⟩;obtain⟨n,hn,rfl⟩:=ai_ hy;have hi:i<ns.length:=(ac'.mp hn).1
   have lk:(bl' (ns.take i) as).length=i:=by
    unfold bl';rw[aa',List.length_zip,am'];omega
   refine⟨_,rfl,l1,rfl,⟨_,.of (s2 _ _ hl1)⟩,λD hD=>?_⟩;refine as_ (own:=1) (fv:=[some (.str n),some (.ref l2)]) (xs:=ns.map V.str) rfl gok1 (λj out H'=>Same H2 H'/\H' D=some (.lst out)/\out=((ns.take j).filter λo=>decide (ord2 n o∈ts)).map V.str) ⟨Same.new hD,a1_,rfl⟩ (λj out H' _ ⟨sm,_,_⟩=>.of (sm _ _ (s2 _ _ hl1))) (λout H' ⟨sm,hD',eo⟩=>?_) (λj x out H' hx ⟨sm,hD',eo⟩=>?_)
   ·rw[aa',ao'] at eo
    have nov:valV (bl' (ns.take i) as) (Sum.inr n)=none:=aN_ λm=>by
     unfold bl' at m;rw[ak'] at m;obtain⟨p,hp,e⟩:=af'.mp m;have e:p.1=n:=b_5 e;have q:=bi_ (g:=id) (by rw[List.map_id];exact nd) hn;rw[List.map_id] at q;exact q (e▸(List.of_mem_zip hp).1)
    have neD:D≠d:=λz=>by subst z;rw[hD] at hd2;cases hd2
    refine⟨_,rfl,_,rfl,d,_,rfl,.k (k:=Sum.inr n) (sm _ _ hd2) Z1,?_⟩;refine⟨_,as++[D],rfl,λc o e=>?_,by rw[ar',la];rfl,?_,λj n' a hn' ha=>?_⟩
    ·rw[a5_ (a7_ e hd)];exact sm _ _ (s2 _ _ e)
    ·rw[a1_,bB_ _ nov];congr 2;unfold bl';rw[aw',hn,List.zip_append (by rw[am'];omega),an'];rfl
    ·by_cases hj:j<as.length
     ·rw[List.getElem?_append_left hj] at ha;obtain⟨q1,q2,q3⟩:=lists j n' a hn' ha;refine⟨q1,q2,?_⟩;rw[a5_ q2];exact sm _ _ q3
     ·have hj2:j=i:=by
       have:=(ac'.mp ha).1;rw[ar'] at this;simp only[List.length_singleton] at this;omega
      subst hj2;rw[aL' Z1,la,Nat.sub_self] at ha;have ha:D=a:=by simpa using ha
      subst ha;rw[hn] at hn';cases hn';refine⟨s2.free hD,neD,?_⟩;rw[a5_ neD,hD',eo];rfl
   ·obtain⟨o,ho,rfl⟩:=ai_ hx;refine⟨_,rfl,rfl,λNx hN=>?_⟩;refine⟨_,rfl,_,rfl,n,o,rfl,λt ht=>?_⟩;have s3:Same H' (upd H' t (.tup [.str (ord2 n o).1,.str (ord2 n o).2])):=Same.new ht;have tz':=((tz.same s2).same sm).same s3
    have lo:out.length<sizeLine:=by
     rw[eo,aa'];have:=aW' (λo=>decide (ord2 n o∈ts)) (ns.take j);rw[am'] at this;omega
    refine⟨_,rfl,ord2 n o,ts,⟨t,_,_,rfl,.of a1_,rfl,rfl⟩,⟨l2,zs,rfl,.of (s3 _ _ (sm _ _ (s2 _ _ hl2))),dB_ tz'⟩,_,rfl,?_⟩;refine ite2 (λc=>?_) (λc=>?_)
    ·refine⟨_,rfl,out,s3 _ _ hD',lo,hN _ _ ⟨ar_ (sm.trans s3) hD,a1_,?_⟩⟩;have c:decide (ord2 n o∈ts)=true:=by simpa using c
     rw[cG_ _ ho,a_9 c,an',eo];rfl
    ·refine hN _ _ ⟨sm.trans s3,s3 _ _ hD',?_⟩;have c:¬decide (ord2 n o∈ts)=true:=by simpa using c
     rw[cG_ _ ho,a_4 c,aN',eo]
  ·rintro σ H2 ⟨v3,as,rfl,s2,la,hd2,lists⟩;rw[aa'] at la hd2;rw[ao'] at hd2;exact⟨_,rfl,k d as _ s2 hd la hd2 λj n a h1 h2=>⟨(lists j n a h1 h2).1,(lists j n a h1 h2).2.2⟩⟩
end
abbrev sInit:Stmt:=bc' sWeb 0
abbrev sHas:Stmt:=bc' sWeb 1
abbrev sHands:Stmt:=bc' sWeb 2
abbrev cl':Stmt:=bc' sWeb 3
abbrev sNeigh:Stmt:=bc' sWeb 4
abbrev sTied:Stmt:=bc' sWeb 5
abbrev sTiesM:Stmt:=bc' sWeb 6
abbrev sMost:Stmt:=bc' sWeb 7
def fstK:List Key->Str
 |.inr a::_=>a
 |_=>⟨#[]⟩
def twoK:List Key->Str × Str
 |[.inr a,.inr b]=>(a,b)
 |_=>(⟨#[]⟩,⟨#[]⟩)
def a2'(hs:Xa):List Str:=(sortKs (hs.map kH)).map fstK
def tsOf(ts:Xb):Xb:=(sortKs (ts.map λt=>kT (ord2 t.1 t.2))).map twoK
theorem bX_(ts:Xb):(tsOf ts).map kT=sortKs (ts.map λt=>kT (ord2 t.1 t.2)):=by
 unfold tsOf;rw[ak']
 have all:∀k∈sortKs (ts.map λt=>kT (ord2 t.1 t.2)),∃t:Str × Str,k=kT t:=λk hk=>by
  obtain⟨t,_,e⟩:=af'.mp ((ao_ _).mem_iff.mp hk);exact⟨_,e.symm⟩
 generalize sortKs (ts.map λt=>kT (ord2 t.1 t.2))=l at all
 induction l with
 |nil=>rfl
 |cons k l ih=>
  obtain⟨t,rfl⟩:=all k ag';rw[av',ih λk hk=>all k (ad' _ hk)];rfl
theorem by_(hs:Xa):∀k∈sortKs (hs.map kH),∃h:Str × Int,h∈hs/\k=kH h:=λk hk=>by
 obtain⟨t,ht,e⟩:=af'.mp ((ao_ _).mem_iff.mp hk);exact⟨t,ht,e.symm⟩
theorem fe_(hs:Xa):((sortH hs).map λkv=>kV kv.1)=(a2' hs).map V.str:=by
 unfold sortH a2';rw[ak',ak'];refine aI' λk hk=>?_;obtain⟨h,_,rfl⟩:=by_ hs k hk;rfl
theorem fg_(hs:Xa):(sortH hs).map (·.1)=(a2' hs).map Sum.inr:=by
 unfold sortH a2';rw[ak',ak'];refine aI' λk hk=>?_;obtain⟨h,_,rfl⟩:=by_ hs k hk;rfl
theorem aw_(hs:Xa):(a2' hs).Perm (hs.map (·.1)):=by
 unfold a2';have p:=(ao_ (hs.map kH)).map fstK;rw[ak'] at p;exact p
theorem e8_{κ:Type}[DecidableEq κ]{kvs:List (κ × V)}{k:κ}(h:k∈kvs.map (·.1)):(valV kvs k).isSome=true:=by
 rw[<- bS_];obtain⟨p,hp,e⟩:=af'.mp h;exact List.any_eq_true.mpr ⟨p,hp,a_2 e⟩
theorem dp_{hs:Xa}{n:Str}:(valV (sortH hs) (Sum.inr n)).isSome=decide (n∈hs.map (·.1)):=by
 by_cases h:n∈hs.map (·.1)
 ·rw[a_2 h];refine e8_ ?_;rw[fg_];exact af'.mpr ⟨n,(aw_ hs).mem_iff.mpr h,rfl⟩
 ·rw[a_7 h,aN_]
  ·rfl
  ·rw[fg_];intro m;obtain⟨x,hx,e⟩:=af'.mp m;cases e;exact h ((aw_ hs).mem_iff.mp hx)
theorem n12:¬(("strength_by_hand":Str)="sorted_pairs"):=by decide +kernel
theorem n13:¬(("strength_by_hand":Str)="neighbours_by_hand"):=by decide +kernel
theorem n23:¬(("sorted_pairs":Str)="neighbours_by_hand"):=by decide +kernel
def flds(d1 l2 d3:Addr):List (Str × V):=putF "neighbours_by_hand" (.ref d3) (putF "sorted_pairs" (.ref l2) (putF "strength_by_hand" (.ref d1) []))
theorem f6_(d1 l2 d3:Addr):(flds d1 l2 d3).lookup ("strength_by_hand":Str)=some (.ref d1):=by
 unfold flds;rw[aa_,a_4 n13,aa_,a_4 n12,aa_,a_9 rfl]
theorem kr_(d1 l2 d3:Addr):(flds d1 l2 d3).lookup ("sorted_pairs":Str)=some (.ref l2):=by
 unfold flds;rw[aa_,a_4 n23,aa_,a_9 rfl]
theorem gb_(d1 l2 d3:Addr):(flds d1 l2 d3).lookup ("neighbours_by_hand":Str)=some (.ref d3):=by
 unfold flds;rw[aa_,a_9 rfl]
variable{m:Str}
theorem az_(d1 l2 d3:Addr)(h1:¬m="strength_by_hand")(h2:¬m="sorted_pairs")(h3:¬m="neighbours_by_hand"):(flds d1 l2 d3).lookup m=none:=by
 unfold flds;rw[aa_,a_4 h3,aa_,a_4 h2,aa_,a_4 h1]
 all_goals rfl
structure bd' (K:F__) (C:Addr) (H:Hp) (p:Addr) (hs:Xa) (ts:Xb) (fp:List Addr):Prop where
 ex:∃(dx d1 l2 d3:Addr) (zs:List V) (as:List Addr),fp=p::d1::l2::d3::as/\H p=some (.ins C dx (flds d1 l2 d3))/\H d1=some (.dK (sortH hs))/\H l2=some (.lst zs)/\a4' K H zs ((tsOf ts).map kT)/\H d3=some (.dK (bl' (a2' hs) as))/\as.length=(a2' hs).length /\
  ∀(i:Nat) n a,(a2' hs)[i]? = some n->as[i]? = some a->H a=some (.lst ((near (a2' hs) (tsOf ts) n).map V.str))
variable{H':Hp}
theorem bd'.keep{K:F__}{C:Addr}{H:Hp}{p:Addr}{hs:Xa}{ts:Xb}{fp:List Addr}(W:bd' K C H p hs ts fp)(k:∀b∈fp,∀o,H b=some o->H' b=some o)(kt:∀b xs,H b=some (.tup xs)->H' b=some (.tup xs)):bd' K C H' p hs ts fp:=by
 obtain⟨dx,d1,l2,d3,zs,as,rfl,h1,h2,h3,h4,h5,h6,h7⟩:=W.ex;refine⟨dx,d1,l2,d3,zs,as,rfl,k _ Z2 _ h1,k _ Z2 _ h2,k _ Z2 _ h3,Paired.mapP h4 λy q ⟨a,e,z⟩=>⟨a,e,kt _ _ z⟩,k _ Z2 _ h5,h6,λi n a e1 e2=>k _ ?_ _ (h7 i n a e1 e2)⟩;have:=ae' e2;simp[this]
theorem bd'.same{K:F__}{C:Addr}{H:Hp}{p:Addr}{hs:Xa}{ts:Xb}{fp:List Addr}(W:bd' K C H p hs ts fp)(s:Same H H'):bd' K C H' p hs ts fp:=W.keep (λb _ o e=>s b o e) λb xs e=>s b _ e
structure Good (hs:Xa) (ts:Xb):Prop where
 hok:∀h∈hs,goodH h
 hnd:(hs.map (·.1)).Nodup
 h1:1<=hs.length
 h8:hs.length<=8
 tok:∀t∈ts,goodT t
 tnd:(ts.map λt=>kT (ord2 t.1 t.2)).Nodup
 t64:ts.length<64
 tin:∀t∈ts,t.1∈hs.map (·.1)/\t.2∈hs.map (·.1)
theorem Good.nnd{hs:Xa}{ts:Xb}(G:Good hs ts):(a2' hs).Nodup:=(aw_ hs).nodup_iff.mpr G.hnd
theorem Good.nlen{hs:Xa}{ts:Xb}(G:Good hs ts):(a2' hs).length=hs.length:=by
 rw[(aw_ hs).length_eq,aa']
theorem bo_(ts:Xb):(tsOf ts).length=ts.length:=by
 unfold tsOf;rw[aa',(ao_ _).length_eq,aa']
structure Txt (K:F__) (mg:Str->Option Aa) (C:Addr):Prop where
 cl:Cls K C
 nS:bs' K C "strength_by_hand"
 nP:bs' K C "sorted_pairs"
 nN:bs' K C "neighbours_by_hand"
section
variable{P:Ae}{w:Af}{K:F__}{mg:Str->Option Aa}{base:Heap}
theorem scInit:a3' ["self","hands","ties","strengths","checked"] ["self","hands","ties"] (a1' sInit):=f__
inductive spInit (K:F__) (C:Addr) (vs:List V) (H:Hp) (Q:VK) (E:XK):Prop
 |mk:∀(p dx lh lt:Addr) (ys zs:List V) (hs:Xa) (ts:Xb),vs=[.ref p,.ref lh,.ref lt]->H p=some (.ins C dx [])->H lh=some (.lst ys)->a4' K H ys (hs.map kH)->H lt=some (.lst zs)->a4' K H zs (ts.map kT)->Good hs ts->(∀fp H',(∀b o,H b=some o->b≠p->H' b=some o)->bd' K C H' p hs ts fp->(∀b∈fp,b=p∨H b=none)->Q .non H')->spInit K C vs H Q E
theorem ju_{f C:Addr}{fd:Ad}(F:Fun K "__init__" "Web.__init__" sInit f fd)(T:Txt K mg C)(B:Bi mg)(cS:Cal P w K mg base 4 "checked_strengths" ["hands"] (spStr K))(cT:Cal P w K mg base 4 "checked_ties" ["ties","strengths"] (spTies K))(cN:Cal P w K mg base 2 "neighbours_of_all" ["names","ties"] (spNear K)) :
  FnOk P w K mg base CX0 5 f fd ["self","hands","ties"] (spInit K C):=by
 refine F.ok scInit (λvs H Q E h=>?_) (λcdv A outer s H vs Q E hr h=>?_)
 ·obtain⟨p,dx,lh,lt,ys,zs,hs,ts,rfl,_⟩:=h;rfl
 ·obtain⟨p,dx,lh,lt,ys,zs,hs,ts,rfl,hp,hlh,th,hlt,tt,G,k⟩:=h;have hr3:Room 3 _:=hr.mono (by decide);have hr2:Room 2 _:=hr.mono (by decide)
  refine⟨_,a3_ (ad_ (i:=3) scInit.nd rfl (Or.inl rfl) (af_ cS hr (a0_ (pv 1) a2_)))
   (a3_ (ad_ (i:=4) scInit.nd rfl (Or.inl rfl) (af_ cT hr (a0_ (pv 2) (a0_ (pv 3) a2_))))
   (a3_ (bE_ (pv 0) (pv 3) rfl) (a3_ (bE_ (pv 0) (pv 4) rfl)
   (a4_ (bE_ (pv 0) (af_ cN hr2 (a0_ (aG_ (c0_ rfl) (by rfl) B.list PyProof.Rows.Boot.«list» (a0_ (pv 3) a2_)) (a0_ (pv 4) a2_))) rfl))))),?_⟩
  refine⟨_,rfl,lh,ys,hs,rfl,hlh,th,G.hok,G.hnd,G.h1,G.h8,λd1 H1 s1 f1 hd1=>?_⟩;refine⟨_,rfl,_,rfl,lt,d1,zs,ts,_,rfl,s1 _ _ hlt,tt.same s1,G.tok,G.tnd,G.t64,hd1,λt ht=>?_,λl2 zs2 H2 s2 f2 hl2 tz=>?_⟩
  ·rw[dp_,dp_];exact⟨a_2 (G.tin t ht).1,a_2 (G.tin t ht).2⟩
  have hd12:=s2 _ _ hd1;have hp2:=s2 _ _ (s1 _ _ hp);have p1:p≠d1:=aM_ hp2 hd12 nofun;have p2:p≠l2:=aM_ hp2 hl2 nofun;refine⟨_,rfl,_,rfl,p,C,dx,[],rfl,hp2,T.cl,T.nS,by show 0<1000;decide,?_⟩;refine⟨_,rfl,_,rfl,p,C,dx,_,rfl,a1_,T.cl,T.nP,by show 1<1000;decide,?_⟩
  let H3:Hp:=upd (upd H2 p (.ins C dx (putF "strength_by_hand" (.ref d1) []))) p (.ins C dx (putF "sorted_pairs" (.ref l2) (putF "strength_by_hand" (.ref d1) [])))
  have h3:∀{b o},H2 b=some o->b≠p->H3 b=some o:=λe ne=>by
   show upd (upd H2 p _) p _ _=_;rw[a5_ ne,a5_ ne];exact e
  have h3p:H3 p=some (.ins C dx (putF "sorted_pairs" (.ref l2) (putF "strength_by_hand" (.ref d1) []))):=a1_
  have none3:∀{b},H3 b=none->H2 b=none:=λ{b} e=>by
   by_cases z:b=p
   ·subst z;rw[h3p] at e;cases e
   ·have e:upd (upd H2 p _) p _ b=none:=e;rw[a5_ z,a5_ z] at e;exact e
  have tz3:a4' K H3 zs2 ((tsOf ts).map kT):=by
   rw[bX_];exact Paired.mapP tz λy q ⟨a,e,z⟩=>⟨a,e,h3 z (aM_ z hp2 nofun)⟩
  refine⟨_,rfl,d1,_,rfl,.inl (h3 hd12 p1.symm),λl1 hl1=>?_⟩;rw[fe_];have s4:Same H3 (upd H3 l1 (.lst ((a2' hs).map V.str))):=Same.new hl1;have ne12:l1≠l2:=(a7_ (H:=H3) (h3 hl2 p2.symm) hl1).symm;refine⟨_,rfl,l1,l2,a2' hs,zs2,tsOf ts,rfl,a1_,s4 _ _ (h3 hl2 p2.symm),tz3.same s4,G.nnd,by rw[G.nlen];have:=G.h8;omega,ne12,λd3 as H5 s5 f5 la hd3 lists=>?_⟩;have hp5:=s5 _ _ (s4 _ _ h3p);refine⟨_,rfl,p,C,dx,_,rfl,hp5,T.cl,T.nN,by show 2<1000;decide,?_⟩
  have up:∀{b o},H2 b=some o->b≠p->upd H5 p (.ins C dx (flds d1 l2 d3)) b=some o:=λe ne=>by
   rw[a5_ ne];exact s5 _ _ (s4 _ _ (h3 e ne))
  have fr5:∀{b},upd H3 l1 (.lst ((a2' hs).map V.str)) b=none->H b=none:=λe=>s1.free (s2.free (none3 (s4.free e)));have hd3p:d3≠p:=(a7_ (s4 _ _ h3p) f5).symm;refine k (p::d1::l2::d3::as) _ (λb o e ne=>up (s2 _ _ (s1 _ _ e)) ne) ⟨dx,d1,l2,d3,zs2,as,rfl,a1_,up hd12 p1.symm,up hl2 p2.symm,?_,?_,la,λi n a e1 e2=>?_⟩ λb hb=>?_
  ·exact Paired.mapP (tz3.same (s4.trans s5)) λy q ⟨a,e,z⟩=>⟨a,e,by rw[a5_ (aM_ z hp5 nofun)];exact z⟩
  ·rw[a5_ hd3p];exact hd3
  ·obtain⟨q1,q2⟩:=lists i n a e1 e2;rw[a5_ (aM_ q2 hp5 nofun)];exact q2
  ·simp only[al'] at hb;rcases hb with rfl|rfl|rfl|rfl|hb
   ·exact .inl rfl
   ·exact .inr f1
   ·exact .inr (s1.free f2)
   ·exact .inr (fr5 f5)
   ·obtain⟨i,hi,e⟩:=aB' hb;have e1:as[i]? = some b:=by rw[ab' hi,e]
    have hn:i<(a2' hs).length:=by omega
    exact .inr (fr5 (lists i _ b (ab' hn) e1).1)
end
structure CalM (P:Ae) (w:Af) (K:F__) (mg:Str->Option Aa) (base:Heap) (C:Addr) (k:Nat) (m:Str) (ps:List Str) (sp:Sp):Prop where
 ex:∃f fd,FnOk P w K mg base CX0 k f fd ps sp/\Meth K C m f/\b5' K fd ps []
variable{X:Cx}{ps:List Str}{sp:Sp}{apos pos:Pos}{o:Expr}{ta:TE}{pl:Sem Bool}
theorem b2_{C:Addr}{e:Expr}{es:List Expr}{t:TA}(c:CalM X.prog X.w X.K X.mg X.base C k m ps sp)(cl:Cls X.K C)(hr:Room k X.A)(he:PE X o ta)(ha:PA X (e::es) t)(hst:starEach (e::es) X.env=(false,eval e X.env)::starEach es X.env:=by rfl)(hpl:(backTo pos (starEach es X.env)).any (·.1)=false:=by rfl)(ht:eval (.Call (.Attribute o m apos) (e::es) [] pos) X.env=(do
   let ov <- eval o X.env
   standAt apos.atName
   let (f,first) <- holding [ov] (getMethod ov m pl)
   callWith pos f first (backTo pos (starEach (e::es) X.env)) (backToKw pos (keywordEach [] X.env))):=by rfl) :
  PE X (.Call (.Attribute o m apos) (e::es) [] pos) (tMeth C m sp [] E0 ta t):=by
 obtain⟨f,fd,F,hm,b⟩:=c.ex;exact hy_ he cl hm F hr b .nil pass0 ha hst hpl ht
theorem b3_{C:Addr}(c:CalM X.prog X.w X.K X.mg X.base C k m ps sp)(cl:Cls X.K C)(hr:Room k X.A)(he:PE X o ta)(ht:eval (.Call (.Attribute o m apos) [] [] pos) X.env=(do
   let ov <- eval o X.env
   standAt apos.atName
   let (f,first) <- holding [ov] (getMethod ov m pl)
   callWith pos f first (backTo pos (starEach [] X.env)) (backToKw pos (keywordEach [] X.env))):=by rfl) :
  PE X (.Call (.Attribute o m apos) [] [] pos) (tMeth C m sp [] E0 ta tNil):=by
 obtain⟨f,fd,F,hm,b⟩:=c.ex;exact ii_ he cl hm F hr b .nil pass0 ht
theorem fo_{hs:Xa}(nd:(hs.map (·.1)).Nodup){x:Str}{n:Int}(h:(x,n)∈hs):valV (sortH hs) (Sum.inr x)=some (.int n):=by
 have m:((Sum.inr x:Key),V.int n)∈sortH hs:=by
  unfold sortH;refine af'.mpr ⟨kH (x,n),(ao_ _).mem_iff.mpr (af'.mpr ⟨_,h,rfl⟩),rfl⟩
 have nk:=cv_ nd;generalize sortH hs=kvs at m nk
 induction kvs with
 |nil=>cases m
 |cons p r ih=>
  obtain⟨n1,n2⟩:=aP'.mp nk;rcases al'.mp m with e|m
  ·rw[<- e];exact bp_ rfl
  ·rw[bl_ (λe:p.1=Sum.inr x=>n1 (af'.mpr ⟨_,m,e.symm⟩))];exact ih m n2
variable{as:List Addr}
theorem hD_{ns:List Str}(nd:ns.Nodup)(la:as.length=ns.length){i:Nat}{n:Str}(hn:ns[i]? = some n):∃a,as[i]? = some a/\valV (bl' ns as) (Sum.inr n)=some (.ref a):=by
 induction ns generalizing as i with
 |nil=>simp at hn
 |cons x ns ih=>
  cases as with
  |nil=>cases la
  |cons b as=>
   obtain⟨n1,n2⟩:=aP'.mp nd;cases i with
   |zero=>
    have e:x=n:=by simpa using hn
    subst e;exact⟨b,rfl,bp_ rfl⟩
   |succ i=>
    have hn:ns[i]? = some n:=by simpa using hn
    obtain⟨a,h1,h2⟩:=ih n2 (by simpa using la) hn;refine⟨a,by simpa using h1,?_⟩;show valV ((Sum.inr x,V.ref b)::bl' ns as) (Sum.inr n)=_;rw[bl_ λe=>n1 (by rw[show x=n from b_5 e];exact ae' hn)];exact h2
section
variable{P:Ae}{w:Af}{K:F__}{mg:Str->Option Aa}{base:Heap}
theorem scHas:a3' ["self","thing"] ["self","thing"] (a1' sHas):=f__
inductive spHas (K:F__) (C:Addr) (vs:List V) (H:Hp) (Q:VK) (E:XK):Prop
 |mk:∀(p:Addr) (x:Str) (hs:Xa) (ts:Xb) (fp:List Addr),vs=[.ref p,.str x]->bd' K C H p hs ts fp->Q (.bl (decide (x∈hs.map (·.1)))) H->spHas K C vs H Q E
theorem kf_{f C:Addr}{fd:Ad}(F:Fun K "has_hand" "Web.has_hand" sHas f fd)(T:Txt K mg C)(B:Bi mg):FnOk P w K mg base CX0 1 f fd ["self","thing"] (spHas K C):=by
 refine F.ok scHas (λvs H Q E h=>?_) (λcdv A outer s H vs Q E hr h=>?_)
 ·obtain⟨p,x,hs,ts,fp,rfl,_⟩:=h;rfl
 ·obtain⟨p,x,hs,ts,fp,rfl,W,k⟩:=h;have hu:=ba_ hr;obtain⟨dx,d1,l2,d3,zs,as,rfl,h1,h2,h3,h4,h5,h6,h7⟩:=W.ex;refine⟨_,a4_ (a8_ (bg_ (ab_ aU_ (by rfl) B.isi PyProof.Rows.Boot.«isinstance» (a0_ (pv 1) (a0_ (b5_ (v:=.ty "str") (by rfl) B.str PyProof.Rows.Boot.«str» rfl) a2_))) (bf_ (cZ_ (cX_ hu (pv 1) (ak_ (pv 0) rfl)))))),?_⟩;refine⟨_,rfl,_,_,_,_,rfl,.str x,rfl,_,rfl,iteT ?_⟩;refine⟨_,rfl,_,rfl,p,C,dx,_,_,rfl,h1,T.cl,T.nS,f6_ _ _ _,d1,_,rfl,.k (k:=Sum.inr x) h2,?_⟩;rw[dp_];exact k
theorem scHands:a3' ["self"] ["self"] (a1' sHands):=f__
inductive bO' (K:F__) (C:Addr) (vs:List V) (H:Hp) (Q:VK) (E:XK):Prop
 |mk:∀(p:Addr) (hs:Xa) (ts:Xb) (fp:List Addr),vs=[.ref p]->bd' K C H p hs ts fp->(∀l,H l=none->Q (.ref l) (upd H l (.lst ((a2' hs).map V.str))))->bO' K C vs H Q E
theorem hP_{f C:Addr}{fd:Ad}(F:Fun K "hands" "Web.hands" sHands f fd)(T:Txt K mg C)(B:Bi mg):FnOk P w K mg base CX0 1 f fd ["self"] (bO' K C):=by
 refine F.ok scHands (λvs H Q E h=>?_) (λcdv A outer s H vs Q E hr h=>?_)
 ·obtain⟨p,hs,ts,fp,rfl,_⟩:=h;rfl
 ·obtain⟨p,hs,ts,fp,rfl,W,k⟩:=h;obtain⟨dx,d1,l2,d3,zs,as,rfl,h1,h2,h3,h4,h5,h6,h7⟩:=W.ex;refine⟨_,a4_ (a8_ (aG_ (c0_ rfl) (by rfl) B.list PyProof.Rows.Boot.«list» (a0_ (ak_ (pv 0) rfl) a2_))),?_⟩;refine⟨_,rfl,p,C,dx,_,_,rfl,h1,T.cl,T.nS,f6_ _ _ _,d1,_,rfl,.inl h2,λl hl=>?_⟩;rw[fe_];exact k l hl
theorem eg':a3' ["self","hand"] ["self","hand"] (a1' cl'):=f__
inductive bj' (K:F__) (C:Addr) (vs:List V) (H:Hp) (Q:VK) (E:XK):Prop
 |mk:∀(p:Addr) (x:Str) (n:Int) (hs:Xa) (ts:Xb) (fp:List Addr),vs=[.ref p,.str x]->bd' K C H p hs ts fp->(hs.map (·.1)).Nodup->(x,n)∈hs->Q (.int n) H->bj' K C vs H Q E
theorem ez_{f C:Addr}{fd:Ad}(F:Fun K "strength" "Web.strength" cl' f fd)(T:Txt K mg C)(cH:CalM P w K mg base C 1 "has_hand" ["self","thing"] (spHas K C)):FnOk P w K mg base CX0 2 f fd ["self","hand"] (bj' K C):=by
 refine F.ok eg' (λvs H Q E h=>?_) (λcdv A outer s H vs Q E hr h=>?_)
 ·obtain⟨p,x,n,hs,ts,fp,rfl,_⟩:=h;rfl
 ·obtain⟨p,x,n,hs,ts,fp,rfl,W,nd,hx,k⟩:=h;have hu:=ba_ hr;obtain⟨dx,d1,l2,d3,zs,as,rfl,h1,h2,h3,h4,h5,h6,h7⟩:=id W.ex;refine⟨_,a3_ (al_ (aC_ (ay_ (b2_ cH T.cl hr (pv 0) (a0_ (pv 1) a2_)))) ah_ a9_) (a4_ (a8_ (aP_ hu (ak_ (pv 0) rfl) (pv 1) (λ_ _=>rfl)))),?_⟩;refine⟨_,rfl,p,dx,_,rfl,h1,az_ _ _ _ Z0 Z0 Z0,_,rfl,p,x,hs,ts,_,rfl,W,_,rfl,?_⟩;rw[a_2 (af'.mpr ⟨_,hx,rfl⟩)];refine iteF ?_;refine⟨_,rfl,p,C,dx,_,_,rfl,h1,T.cl,T.nS,f6_ _ _ _,_,rfl,d1,_,rfl,?_,k⟩;rw[<- fo_ nd hx];exact .k (k:=Sum.inr x) h2
theorem scNeigh:a3' ["self","hand"] ["self","hand"] (a1' sNeigh):=f__
inductive cQ' (K:F__) (C:Addr) (vs:List V) (H:Hp) (Q:VK) (E:XK):Prop
 |mk:∀(p:Addr) (x:Str) (hs:Xa) (ts:Xb) (fp:List Addr),vs=[.ref p,.str x]->bd' K C H p hs ts fp->(a2' hs).Nodup->x∈hs.map (·.1)->(∀l,H l=none->Q (.ref l) (upd H l (.lst ((near (a2' hs) (tsOf ts) x).map V.str))))->cQ' K C vs H Q E
theorem iZ_{H:Hp}{hs:Xa}{ts:Xb}{x:Str}(nd:(a2' hs).Nodup)(hx:x∈hs.map (·.1))(la:as.length=(a2' hs).length)(h7:∀(i:Nat) n a,(a2' hs)[i]? = some n->as[i]? = some a->H a=some (.lst ((near (a2' hs) (tsOf ts) n).map V.str))):∃a,valV (bl' (a2' hs) as) (Sum.inr x)=some (.ref a)/\H a=some (.lst ((near (a2' hs) (tsOf ts) x).map V.str)):=by
 obtain⟨i,hi,e⟩:=aB' ((aw_ hs).mem_iff.mpr hx);have hn:(a2' hs)[i]? = some x:=by rw[ab' hi,e]
 obtain⟨a,h1,h2⟩:=hD_ nd la hn;exact⟨a,h2,h7 i x a hn h1⟩
theorem i5_{f C:Addr}{fd:Ad}(F:Fun K "neighbours" "Web.neighbours" sNeigh f fd)(T:Txt K mg C)(B:Bi mg)(cH:CalM P w K mg base C 1 "has_hand" ["self","thing"] (spHas K C)):FnOk P w K mg base CX0 2 f fd ["self","hand"] (cQ' K C):=by
 refine F.ok scNeigh (λvs H Q E h=>?_) (λcdv A outer s H vs Q E hr h=>?_)
 ·obtain⟨p,x,hs,ts,fp,rfl,_⟩:=h;rfl
 ·obtain⟨p,x,hs,ts,fp,rfl,W,nd,hx,k⟩:=h;have hu:=ba_ hr;obtain⟨dx,d1,l2,d3,zs,as,rfl,h1,h2,h3,h4,h5,h6,h7⟩:=id W.ex;obtain⟨a,e1,ha⟩:=iZ_ nd hx h6 h7;refine⟨_,a3_ (al_ (aC_ (ay_ (b2_ cH T.cl hr (pv 0) (a0_ (pv 1) a2_)))) ah_ a9_) (a4_ (a8_ (aG_ e0_ (by rfl) B.list PyProof.Rows.Boot.«list» (a0_ (aP_ hu (ak_ (pv 0) rfl) (pv 1) (λ_ _=>rfl)) a2_)))),?_⟩;refine⟨_,rfl,p,dx,_,rfl,h1,az_ _ _ _ Z0 Z0 Z0,_,rfl,p,x,hs,ts,_,rfl,W,_,rfl,?_⟩;rw[a_2 hx];refine iteF ?_;refine⟨_,rfl,p,C,dx,_,_,rfl,h1,T.cl,T.nN,gb_ _ _ _,_,rfl,d3,.ref a,rfl,?_,a,_,rfl,.inl (.of ha),k⟩;rw[<- e1];exact .k (k:=Sum.inr x) h5
theorem scTied:a3' ["self","one","other"] ["self","one","other"] (a1' sTied):=f__
theorem bn_{H:Hp}:∀ns:List Str,Paired (rS H) (ns.map V.str) ns
 |[]=>.nil
 |_::ns=>.cons rfl (bn_ ns)
theorem scTiesM:a3' ["self"] ["self"] (a1' sTiesM):=f__
inductive b6' (K:F__) (C:Addr) (vs:List V) (H:Hp) (Q:VK) (E:XK):Prop
 |mk:∀(p:Addr) (hs:Xa) (ts:Xb) (fp:List Addr),vs=[.ref p]->bd' K C H p hs ts fp->ts.length<64->(∀l zs H',Same H H'->H l=none->H' l=some (.lst zs)->a4' K H' zs ((tsOf ts).map kT)->Q (.ref l) H')->b6' K C vs H Q E
theorem ir_{f C:Addr}{fd:Ad}(F:Fun K "ties" "Web.ties" sTiesM f fd)(T:Txt K mg C)(cA:Cal P w K mg base 1 "ties_anew" ["ties"] (spAnew K)):FnOk P w K mg base CX0 2 f fd ["self"] (b6' K C):=by
 refine F.ok scTiesM (λvs H Q E h=>?_) (λcdv A outer s H vs Q E hr h=>?_)
 ·obtain⟨p,hs,ts,fp,rfl,_⟩:=h;rfl
 ·obtain⟨p,hs,ts,fp,rfl,W,h64,k⟩:=h;obtain⟨dx,d1,l2,d3,zs,as,rfl,h1,h2,h3,h4,h5,h6,h7⟩:=W.ex;refine⟨_,a4_ (a8_ (af_ cA hr (a0_ (ak_ (pv 0) rfl) a2_))),?_⟩;exact⟨_,rfl,p,C,dx,_,_,rfl,h1,T.cl,T.nP,kr_ _ _ _,l2,zs,tsOf ts,rfl,h3,h4,by rw[bo_];omega,k⟩
theorem scMost:a3' ["self"] ["self"] (a1' sMost):=f__
def lens(hs:Xa)(ts:Xb):List Int:=(a2' hs).map λn=>((near (a2' hs) (tsOf ts) n).length:Int)
inductive d9' (K:F__) (C:Addr) (vs:List V) (H:Hp) (Q:VK) (E:XK):Prop
 |mk:∀(p:Addr) (hs:Xa) (ts:Xb) (fp:List Addr),vs=[.ref p]->bd' K C H p hs ts fp->0<(a2' hs).length->(a2' hs).length<=1000->(∀m H',Same H H'->m∈lens hs ts->(∀a∈lens hs ts,a<=m)->Q (.int m) H')->d9' K C vs H Q E
theorem jL_{f C:Addr}{fd:Ad}(F:Fun K "most_neighbours" "Web.most_neighbours" sMost f fd)(T:Txt K mg C)(B:Bi mg):FnOk P w K mg base CX0 1 f fd ["self"] (d9' K C):=by
 refine F.ok scMost (λvs H Q E h=>?_) (λcdv A outer s H vs Q E hr h=>?_)
 ·obtain⟨p,hs,ts,fp,rfl,_⟩:=h;rfl
 ·obtain⟨p,hs,ts,fp,rfl,W,h0,h8,k⟩:=h;have sz:=b__;obtain⟨dx,d1,l2,d3,zs,as,rfl,h1,h2,h3,h4,h5,h6,h7⟩:=W.ex
  refine⟨_,a4_ (a8_ (ab_ (hR_ rfl) (by rfl) B.max PyProof.Rows.Boot.«max» (a0_ (gi_ (aO_ ["row"] 1 [] (ge_ (bT_ (ak_ (pv 0) rfl))) (λfp s H=>ac_ (i:=0) (show (["row"]:List Str).Nodup by decide +kernel) rfl (Or.inl rfl)) (λfp s H=>aK_)
   (λfp s H=>ab_ (cLen (K:=K)) (by rfl) B.len b_8 (a0_ (pv 0) a2_)))) a2_))),?_⟩
  refine⟨d3,_,h5,_,rfl,p,C,dx,_,_,rfl,h1,T.cl,T.nN,gb_ _ _ _,d3,_,rfl,h5,λv hv=>?_⟩;have s1:Same H (upd H v (a9' v d3)):=Same.new hv;refine⟨v,d3,_,rfl,a1_,s1 _ _ h5,λo D hD=>?_⟩
  have lk:(bl' (a2' hs) as).length=(a2' hs).length:=by
   unfold bl';rw[aa',List.length_zip];omega
  have base':∀{b u},H b=some u->u≠.dK (bl' (a2' hs) as)->upd (upd H v (a9' v d3)) d3 (.frz o (.dK (bl' (a2' hs) as))) b=some u:=λe ne=>by
   rw[a5_ (aM_ e h5 ne)];exact s1 _ _ e
  refine du_ (own:=1) (fv:=[]) rfl gok1 (a2' hs).length (λi out H'=>Same (upd (upd H v (a9' v d3)) d3 (.frz o (.dK (bl' (a2' hs) as)))) H'/\H' D=some (.lst out)/\out=((lens hs ts).take i).map V.int) ⟨Same.new hD,a1_,rfl⟩ (λout H' ⟨sm,hD',eo⟩=>?_) (λi out H' hi ⟨sm,hD',eo⟩=>?_)
  ·have hf:=sm _ _ (show upd (upd H v (a9' v d3)) d3 (.frz o (.dK (bl' (a2' hs) as))) d3=some _ from a1_);have Dd:D≠d3:=aM_ hD' hf nofun;have ll:(lens hs ts).length=(a2' hs).length:=by unfold lens;rw[aa']
   rw[<- ll,ao'] at eo;refine⟨⟨hf,by omega⟩,o,hf,D,lens hs ts,rfl,.of ?_,by omega,λm hm hle=>k m _ (λb u e=>?_) hm hle⟩
   ·rw[a5_ Dd,hD',eo]
   ·by_cases z:b=d3
    ·subst z;rw[a1_,<- h5];exact e
    ·rw[a5_ z];exact sm _ _ (by rw[a5_ z];exact s1 _ _ e)
  ·have hf:=sm _ _ (show upd (upd H v (a9' v d3)) d3 (.frz o (.dK (bl' (a2' hs) as))) d3=some _ from a1_);refine⟨⟨hf,by omega⟩,λx H2 y=>?_⟩;obtain⟨eH,kk,hk⟩:=y;subst eH;have hn:(a2' hs)[i]? = some (a2' hs)[i]:=ab' hi;have ha:as[i]? = some (as[i]' Z1):=ab' Z1
   have ex:x=.ref (as[i]' Z1):=by
    unfold bl' at hk;rw[aj',ab' (by rw[List.length_zip];omega),List.getElem_zip] at hk;exact (Prod.mk.inj (a_8 hk)).2.symm
   subst ex;have hrow:=h7 i _ _ hn ha;refine⟨_,rfl,rfl,λNx hN=>yesT ?_⟩;refine⟨_,rfl,_,_,rfl,.inl (.of (sm _ _ (base' hrow nofun))),out,hD',?_,hN _ _ ⟨ar_ sm hD,a1_,?_⟩⟩
   ·rw[eo,aa',am'];unfold lens;rw[aa'];omega
   ·rw[aB_ _ (show (lens hs ts)[i]? = some (((near (a2' hs) (tsOf ts) (a2' hs)[i]).length:Nat):Int) by unfold lens;rw[aj',hn];rfl),eo,aa']
end
end Ev
namespace L2
open PySem PySem.Spec PyProof.Rows PySem.W
def Ite(K:F__)(a:Addr):It:=
 ⟨λi H=>∃xs x,SqL K H a xs/\xs[i]? = some x,λi H y H'=>∃t x,y=.ref t/\H t=none/\(∀xs,SqL K H a xs->xs[i]? = some x)/\H'=upd H t (.tup [.int i,x]),λi H=>∃xs,SqL K H a xs/\xs.length=i⟩
variable{X:Cx}{pins:List (Addr × Obj)}{σ:St}{s:Ac}{h':Heap}{t':Nat}{fp:List Addr}
theorem Inv.turnedN{H:Hp}{T:Addr}{xs:List V}{its:List Aa}(I:Inv X pins σ H s)(k:∀b o,b∉fp->s.heap.get? b=some o->h'.get? b=some o)(hf:∀b∈fp,FpOk X pins H b)(hT:s.heap.objs.size<=T)(hz:xs.length<=sizeLine)(r:Vals xs its)(ht:IsTup h' T its.toArray/\∃o,h'.get? T=some o/\o.dict=none):Inv X pins σ (upd H T (.tup xs)) { s with heap:=h',toks:=t' }:=by
 have fT:H T=none:=I.hok.fresh hT;have nf:∀b u,H b=some u->b∉fp:=λb u e hb=>by rw[(hf b hb).1] at e;cases e
 have old:∀{b u},H b=some u->upd H T (.tup xs) b=some u:=λe=>by rw[a5_ (a7_ e fT)];exact e
 refine I.step (g':=s.gens) (d':=s.drawn) (ch:=fp) (λb hb=>?_) (λb o _ _ hc e _=>k b o hc e) (λb o _ _ hc e _=>⟨o.slots,k b o hc e⟩) (λb o _ e n=>?_)
  (λb o hc e=>⟨o,k b o hc e⟩) (λb ys e=>old e) (λb o u e=>old e) (λb ps e=>⟨#[],by rw[Array.append_empty];exact old e⟩) (λm hm=>?_) (λb u e=>?_) I.bare
 ·obtain⟨f0,f1,f2,f3,f4,f5⟩:=hf b hb;exact⟨f3,f1,f4,f5⟩
 ·rw[a5_ (λz=>by subst z;exact absurd (a_5 e) (Nat.not_lt.mpr hT))];exact n
 ·obtain⟨o,es,ep,ho,r⟩:=hm;exact⟨o,es,ep,k _ o (λhb=>(hf _ hb).2.1 rfl) ho,r⟩
 ·by_cases z:b=T
  ·subst z;rw[a1_] at e;cases e;exact⟨hz,its,r,ht⟩
  ·rw[a5_ z] at e;refine (I.hok b u e).stay (λc v hc q=>k c v ?_ q) (λ_ q=>old q) λ_ _ q=>old q;rcases hc with z|z
   ·rw[z];exact nf b u e
   ·exact nf c _ z
theorem Inv.turnedF{H:Hp}(I:Inv X pins σ H s)(k:∀b o,b∉fp->s.heap.get? b=some o->h'.get? b=some o)(hf:∀b∈fp,FpOk X pins H b):Inv X pins σ H { s with heap:=h',toks:=t' }:=by
 have nf:∀b u,H b=some u->b∉fp:=λb u e hb=>by rw[(hf b hb).1] at e;cases e
 refine I.step (g':=s.gens) (d':=s.drawn) (ch:=fp) (λb hb=>?_) (λb o _ _ hc e _=>k b o hc e) (λb o _ _ hc e _=>⟨o.slots,k b o hc e⟩) (λb o _ e n=>n)
  (λb o hc e=>⟨o,k b o hc e⟩) (λb ys e=>e) (λb o u e=>e) (λb ps e=>⟨#[],by rw[Array.append_empty];exact e⟩) (λm hm=>?_) (λb u e=>?_) I.bare
 ·obtain⟨f0,f1,f2,f3,f4,f5⟩:=hf b hb;exact⟨f3,f1,f4,f5⟩
 ·obtain⟨o,es,ep,ho,r⟩:=hm;exact⟨o,es,ep,k _ o (λhb=>(hf _ hb).2.1 rfl) ho,r⟩
 ·refine (I.hok b u e).stay (λc v hc q=>k c v ?_ q) (λ_ q=>q) λ_ _ q=>q;rcases hc with z|z
  ·rw[z];exact nf b u e
  ·exact nf c _ z
variable{P:Ae}{w:Af}{elts:List Expr}{k:Nat}{pos:Pos}
theorem hl_{K:F__}(a e it:Addr)(h1:e≠it)(h2:a≠e)(h3:a≠it):Turn P w K (.Tuple elts k pos) (Ite K a) [e,it] e (λi h=>(∃old,IsEnum h e it i old)/\h.IsListIter it a i) where
 mem:=by simp
 obj:=λi h st b hb=>by
  obtain⟨⟨old,q⟩,o,e2,c,d⟩:=st;rcases al'.mp hb with rfl|hb
  ·exact⟨_,q,λv z=>by cases z⟩
  ·obtain rfl:b=it:=by simpa using hb
   exact⟨o,e2,λv z=>by rw[d] at z;cases z⟩
 keep:=λi h h' st kk=>by
  obtain⟨⟨old,q⟩,st2⟩:=st;exact⟨⟨old,kk e Z2 _ q⟩,st2.at λo q2=>kk it Z2 o q2⟩
 item:=by
  intro X hP hw hK hc i pins s σ H E I hf st hg;subst hP hw hK;obtain⟨xs,x,hq,hx⟩:=hg;obtain⟨its,rv,p,hz⟩:=I.list hq;obtain⟨u,hu,ru⟩:=rv.get hx;have W:=WalksT.enumerate (prog:=X.prog) (w:=X.w) (A:=X.A) (I.ok.hd hc) e it a h1 h2 h3 its.toArray
  have hi:i<its.toArray.size:=by
   simp only[ah'];exact (ac'.mp hu).1
  obtain⟨old,he⟩:=st.1;have hit:=st.2;refine wpAny_pyNext_enum_item he hit p.isList (x:=u) (by rw[List.getElem?_toArray];exact hu) h1 λh' ho hit' hTo hsz hk=>?_;have helt:e<s.heap.objs.size:=a_5 he;have hilt:it<s.heap.objs.size:=by obtain⟨_,x,_⟩:=hit;exact a_5 x
  have mid:(∃x,IsEnumOut h' e it ((i:Int)+1) x s.heap.objs.size)/\h'.IsListIter it a (i+1)/\h'.IsList a its.toArray/\s.heap.objs.size≠e/\s.heap.objs.size≠it:=⟨⟨_,ho⟩,hit',p.isList.at λo x=>hk a o h2 h3 x,a0' helt,a0' hilt⟩;have kk:∀b o,b∉[e,it]->s.heap.get? b=some o->h'.get? b=some o:=λb o hb x=>hk b o (λe'=>hb (by simp[e'])) (λe'=>hb (by simp[e'])) x;have isT:h'.IsTuple s.heap.objs.size #[.int i s.toks,u]:=⟨_,hTo,rfl,_,rfl⟩;obtain⟨T,eT⟩:∃T,T=s.heap.objs.size:=⟨_,rfl⟩;obtain⟨t,et⟩:∃t,t=s.toks:=⟨_,rfl⟩;obtain⟨tk,htk⟩:∃tk,tk=s.toks+1:=⟨_,rfl⟩;rw[<- eT] at isT mid hTo ⊢;have hT:s.heap.objs.size<=T:=Nat.le_of_eq eT.symm;rw[<- et] at isT hTo;rw[<- htk];refine⟨_,rfl,W.go elts k pos i T { s with heap:=h',toks:=tk } _ _ mid λh2' st' kk2=>?_⟩;have nT:T∉[e,it]:=W.apart i T h' mid
  have isT2:h2'.IsTuple T #[.int i t,u]:=by
   obtain⟨o,q,r⟩:=isT;exact⟨o,kk2 T o nT q,r⟩
  have I1:Inv X pins σ (upd H T (.tup [.int i,x])) { s with heap:=h2',toks:=tk }:=I.turnedN (t':=tk) (fp:=[e,it]) (its:=[.int i t,u]) (λb o hb q=>kk2 b o hb (kk b o hb q)) hf hT (by show 2<=sizeLine;decide) (.cons ⟨t,rfl⟩ (.cons ru .nil)) ⟨isT2,_,kk2 T _ nT hTo,rfl⟩;refine⟨.ref T,_,I1,rfl,⟨T,x,rfl,I.hok.fresh hT,λys hy=>by rw[I.list_inj hy hq];exact hx,rfl⟩,⟨?_,st'.2.1⟩,λb hb=>?_⟩
  ·obtain⟨old,q⟩:=st'.1;exact⟨old,by simpa using q⟩
  ·rw[a5_ (λz:b=T=>nT (by rw[<- z];exact hb))];exact (hf b hb).1
 done:=by
  intro X hP hw hK hc i pins s σ H E I hf st hg;subst hP hw hK;obtain⟨xs,hq,hx⟩:=hg;obtain⟨its,rv,p,hz⟩:=I.list hq;have W:=WalksT.enumerate (prog:=X.prog) (w:=X.w) (A:=X.A) (I.ok.hd hc) e it a h1 h2 h3 its.toArray
  have hn:its.toArray.size=i:=by
   have:=rv.length;simp only[ah'];omega
  refine W.done s _ _ (by rw[hn];exact⟨st.1,st.2,p.isList⟩) λh' tk kk=>⟨rfl,I.turnedF (t':=tk) (fp:=[e,it]) kk hf⟩
 self:=λA i s Q E st h=>by
  obtain⟨old,q⟩:=st.1;exact wpAny_pyIter_enum q h
inductive iEnumR (K:F__) (R:It->Hp->Prop) (vs:List V) (H1:Hp):Prop
 |mk:∀a,vs=[.ref a]->(∃xs,SqL K H1 a xs)->R (Ite K a) H1->iEnumR K R vs H1
def iEnum(K:F__)(ta:TA):TI:=λσ H R=>ta σ H λvs H1=>iEnumR K R vs H1
theorem jn_{kk:Nat}{p2:Pos}{a:Expr}{ta:TA}{p:Pos}(hg:Gl X "enumerate")(hm:X.mg "enumerate"=none)(ha:PA X [a] ta)(hs:starEach [a] X.env=[(false,eval a X.env)]:=by rfl):PI X (.Tuple elts kk p2) (.Call (.Name "enumerate" p) [a] [] pos) (iEnum X.K ta):=by
 intro pins s σ H R I h;refine Call_ (cH_ I hg hm boot_enumerate (PyProof.Rows.callWith_type1 (thn (ha pos pins s σ H _ I h) λus s1 ⟨vs,H1,I1,r1,q1⟩=>?_) hs rfl));obtain⟨l,e,⟨xs,hq⟩,q⟩:=q1;subst e;cases r1 with
 |cons r rr=>
  cases rr;cases r;obtain⟨its,rv,pl,hz⟩:=I1.list hq;have ll:l<s1.heap.objs.size:=by obtain⟨_,e,_⟩:=pl.isList;exact a_5 e
  refine call_enumerate_list pl.isList λh' he hi hn kp=>?_;refine wpAny_pyIter_enum he ?_;refine⟨s1.heap.objs.size+1,[s1.heap.objs.size+1,s1.heap.objs.size],_,_,H1,rfl,I1.kept (t':=s1.toks) kp,hl_ l _ _ (Nat.succ_ne_self _) (ap' (Nat.lt_succ_of_lt ll)) (ap' ll),⟨⟨_,he⟩,hi⟩,λb hb=>?_,q⟩
  have e:s1.heap.objs.size<=b:=by
   rcases al'.mp hb with rfl|hb
   ·exact Nat.le_succ _
   ·obtain rfl:b=s1.heap.objs.size:=by simpa using hb
    exact ai' _
  exact I1.fpOk e (I1.hok.fresh e)
variable{a:Addr}
theorem i3_{K:F__}{xs:List V}{g:TG}{tb:TS}{D:Ends}{H:Hp}(Pv:Nat->St->Hp->Prop)(h0:Pv 0 σ H)(hl:∀i σ H,i<=xs.length->Pv i σ H->SqL K H a xs)(hs:∀i x σ H,xs[i]? = some x->Pv i σ H->∀t,H t=none->g (.ref t) σ (upd H t (.tup [.int i,x])) λσ2 H2=>tb { D with nx:=Pv (i+1),ct:=Pv (i+1),bk:=D.nx } σ2 H2)(hd:∀σ H,Pv xs.length σ H->D.nx σ H) :
  ∃W:Nat->Nat->St->Hp->Prop,(∃m,W 0 m σ H)/\∀i m σ H,W i m σ H->
   ((Ite K a).stop i H/\D.nx σ H)∨((Ite K a).go i H/\∃N:St->Hp->Prop,(∀σ' H',N σ' H'->∃m',m'<m/\W (i+1) m' σ' H')/\∀x H',(Ite K a).yld i H x H'->g x σ H' λσ2 H2=>tb { D with nx:=N,ct:=N,bk:=D.nx } σ2 H2):=by
 refine⟨λi m σ H=>m=xs.length - i/\i<=xs.length/\Pv i σ H,⟨xs.length,by simp,aD' _,h0⟩,?_⟩;rintro i m σ H ⟨rfl,hi,p⟩;have q:=hl i σ H hi p;by_cases hlt:i<xs.length
 ·refine .inr ⟨⟨xs,xs[i],q,by simp[hlt]⟩,Pv (i+1),λσ' H' p'=>⟨xs.length - (i+1),by omega,rfl,hlt,p'⟩,λx H' y=>?_⟩;obtain⟨t,x,rfl,ht,y,rfl⟩:=y;exact hs i x σ H (y xs q) p t ht
 ·have e:i=xs.length:=by omega
  subst e;exact .inl ⟨⟨xs,q,rfl⟩,hd σ H p⟩
theorem gf_(a b c:Str):inV (.str a) [.str b,.str c]=(decide (b=a) || decide (c=a)):=by
 have e:∀x y:Str,eqV (.str x) (.str y)=decide (x=y):=λx y=>by
  have:=gx_ (a:=Sum.inr x) (b:=Sum.inr y) rfl;rw[show eqV (.str x) (.str y)=eqV (kV (Sum.inr x)) (kV (Sum.inr y)) from rfl,this];by_cases z:x=y
  ·simp[z]
  ·simp[z]
 unfold inV;simp only[List.any_cons,List.any_nil,Bool.or_false,e]
variable{h:Heap}
theorem bf'.here{H:Hp}{o:HO}(x:bf' P w H h a o):∃u,h.get? a=some u:=by
 cases o with
 |lst xs=>obtain⟨_,_,_,_,e⟩:=x;exact⟨_,e⟩
 |tup xs=>obtain⟨_,_,_,⟨o,e,_⟩,_⟩:=x;exact⟨_,e⟩
 |dK kvs=>obtain⟨_,_,_,_,o,_,_,e,_⟩:=x;exact⟨_,e⟩
 |dT kvs=>obtain⟨_,_,_,_,o,_,_,e,_⟩:=x;exact⟨_,e⟩
 |set S n=>obtain⟨o,_,_,_,e,_⟩:=x;exact⟨_,e⟩
 |ins C dx fs=>obtain⟨_,_,_,e,_⟩:=x;exact⟨_,e⟩
 |own y=>exact x
 |xd fs=>obtain⟨_,⟨_,_,_,e,_⟩,_⟩:=x;exact⟨_,e⟩
 |rng lo hi=>obtain⟨_,_,_,e⟩:=x;exact⟨_,e⟩
 |frz ob u=>obtain⟨e,_⟩:=x;exact⟨_,e⟩
 |tbl ps=>exact⟨_,show h.get? a=some _ from x⟩
 |met f y=>exact⟨_,show h.get? a=some _ from x⟩
 |ext φ=>obtain⟨_,e,_⟩:=x;exact e
def InB(B:Heap)(l:List Env)(H:Hp)(h0 h:Heap):Prop:=
 ∀b o,h.get? b=some o->b∉frs l->((H b).isSome=true∨∃o0,h0.get? b=some o0)->B.get? b=some o
section
variable{P:Ae}{w:Af}{H H':Hp}{B h0 h h1:Heap}{l:List Env}
theorem dO_(hok:HOk P w H' h)(fr:∀b∈frs l,H' b=none)(i:InB B l H' h0 h)(st:B.StaysIn h1):HOk P w H' h1:=λb o e=>
 (hok b o e).stay (λc u hc q=>by
  have hs:∃x,H' c=some x:=by
   rcases hc with z|z
   ·exact⟨o,z▸e⟩
   ·exact⟨_,z⟩
  obtain⟨x,hx⟩:=hs;exact st c u (i c u q (λm=>by rw[fr c m] at hx;cases hx) (.inl (by rw[hx];rfl)))) (λ_ q=>q) (λ_ _ q=>q)
theorem eZ_(un:Un (frs l) [] H H' h0 h)(ff:h.FunFrames B l)(i:InB B l H' h0 h)(st:B.StaysIn h1)(up:h.UpToSlots h1):Un (frs l) [] H H' h0 h1 where
 keep:=λb o q n hb hx=>st b o (i b o (un.keep b o q n hb hx) hb (.inr ⟨o,q⟩))
 slot:=λb o q n hb hx=>by
  obtain⟨sl,e⟩:=un.slot b o q n hb hx;obtain⟨_,o',e',d⟩:=ff.mem hb;rw[e] at e';cases e';obtain⟨sl2,e2⟩:=up b _ e d;exact⟨sl2,e2⟩
 free:=un.free
 there:=λb o q hx=>by
  obtain⟨o',e⟩:=un.there b o q hx;by_cases hb:b∈frs l
  ·obtain⟨_,o2,e',d⟩:=ff.mem hb;rw[e] at e';cases e';obtain⟨sl2,e2⟩:=up b _ e d;exact⟨_,e2⟩
  ·exact⟨o',st b o' (i b o' e hb (.inr ⟨o,q⟩))⟩
 tups:=un.tups
 frzs:=un.frzs
 tbls:=un.tbls
theorem f1_(hok:HOk P w H' h)(un:Un (frs l) [] H H' h0 h)(i:InB B l H' h0 h)(st:B.StaysIn h1):InB B l H' h0 h1:=λb o e hb c=>by
 have:∃u,h.get? b=some u:=by
  rcases c with z|⟨o0,z⟩
  ·obtain⟨x,hx⟩:=aG'.mp z;exact (hok b x hx).here
  ·exact un.there b o0 z Z2
 obtain⟨u,hu⟩:=this;have q:=i b u hu hb c;have:=st b u q;rw[e] at this;cases this;exact q
end
def CX1(P:Ae)(w:Af):CXT:=λl H s E e s'=>
 ∃a cls H' B a0,e=Value.ref a/\s'.os=s.os/\AllBare s'.gens/\Un (frs l) [] H H' s.heap s'.heap/\HOk P w H' s'.heap/\Heap.FlyingW B l a cls a0 s'.heap/\InB B l H' s.heap s'.heap/\E cls none H'
section
variable{X:Cx}{pins:List (Addr × Obj)}{σ:St}{H H':Hp}{s s1:Ac}{B h:Heap}{a:Addr}{cls a0:Aa}{E:XK}
theorem f9_(I:Inv X pins σ H s)(un:Un (frs X.stack) [] H H' s.heap h):∀b∈frs X.stack,H' b=none:=λb hb=>by
 obtain⟨_,o,ho,_⟩:=I.stack.mem hb;exact un.free b o ho (I.stkFree b hb) Z2
theorem gQ_(I:Inv X pins σ H s)(hex:X.ex=[])(os:s1.os=s.os)(bare:AllBare s1.gens)(un:Un (frs X.stack) [] H H' s.heap h)(hok:HOk X.prog X.w H' h)(i:InB B X.stack H' s.heap h)(ff:h.FunFrames B X.stack)(up:h.UpToSlots s1.heap)
  (fl:Heap.FlyingW B X.outer a cls a0 s1.heap) (hE:E cls none H'):CX1 X.prog X.w X.outer X.H₀ X.s₀ E (.ref a) s1:=by
 have un1:=eZ_ un ff i fl.1 up;have hok1:=dO_ hok (f9_ I un) i fl.1;have I1:Inv X pins σ H' s1:=I.call' os un1 hok1 bare (λb z=>absurd z Z2);have bs:=I1.base;rw[hex] at bs;refine⟨a,cls,H',B,a0,rfl,I1.os,I1.bare,bs,I1.hok,fl,λb o e hb c=>?_,hE⟩
 have nL:b≠X.env.locals:=by
  rcases c with z|⟨o0,z⟩
  ·intro q;rw[q,I1.free] at z;cases z
  ·exact ap' (ax' (a_5 z) I.ok.above)
 refine f1_ hok un i fl.1 b o e (λhm=>?_) (c.imp id λ⟨o0,z⟩=>I.base.there b o0 z (by rw[hex];simp));rcases al'.mp (I.stkSub b hm) with z|z
 ·exact nL z
 ·exact hb z
end
section
variable{P:Ae}{w:Af}{K:F__}{mg:Str->Option Aa}{base:Heap}{N:List Str}{qual:Str}{scope:Scope}{f:Addr}{cd:Aa}{A:Ag}{outer:List Env}{s:Ac}{H:Hp}{E:XK}
def Raises(X:Cx)(E:XK):Prop:=∀(pins:List (Addr × Obj)) (σ:St) (H:Hp) (s:Ac) (h':Heap) (e:Addr) (cls:Aa) (vs:List Aa),Inv X pins σ H s->Heap.MadeExcOf s.heap h' e cls vs->E cls none H->X.xe (.ref e) { s with heap:=h' }
theorem raises1:Raises (cxOf (CX1 P w) P w K mg base N qual scope f cd A outer s H E) E:=by
 intro pins σ H1 s1 h' e cls vs I hx hE;have ff:=PySem.W.funFrames_hide (as:=frs (cxOf (CX1 P w) P w K mg base N qual scope f cd A outer s H E).stack) I.stack (λenv he b hb=>aF'.mpr ⟨env,he,hb⟩);refine wpAny_leaves_madeW (base:=PySem.W.hideAll s1.heap (frs (cxOf (CX1 P w) P w K mg base N qual scope f cd A outer s H E).stack)) (h:=s1.heap) I.ok.frames rfl (λb o q=>PySem.W.of_hideAll _ q) ff hx λh1 t fl tup nt up=>?_;exact gQ_ (s1:={ s1 with heap:=h1 }) I rfl rfl I.bare Un.refl I.hok (λb o q hb _=>PySem.W.hideAll_get _ q hb) ff ((Heap.UpToSlots.of_keeps hx.keeps).trans up) fl hE
end
variable{x:Str}{C:Addr}{newId:String}
theorem kF_{K:F__}{mg:Str->Option Aa}{bmB:List Aa}(X:K.In h)(hm:mg x=some (.ref C))(q:PySem.W.excIn K C bmB newId=true):OwnCls x C bmB newId mg h:=by
 refine⟨hm,?_⟩;unfold PySem.W.excIn at q;split at q
 ·rename_i dd cd sl ho
  split at q
  ·rename_i C' bm k0 k1 k2 k3 n k5 hm' hs
   simp only[Bool.and_eq_true,beq_iff_eq,Bool.not_eq_true'] at q;obtain⟨⟨⟨⟨⟨rfl,rfl⟩,hdel⟩,ht⟩,hok⟩,hni⟩:=q;obtain⟨nm,bs,mro,ns,qn,hd,sn,sub,ab,col,del⟩:=cd;dsimp only at hm' hdel hok hni;subst hm' hdel
   have hsl:sl=#[k0,k1,k2,k3,some (.builtin n),k5]:=by
    obtain⟨l⟩:=sl;simp only at hs;rw[hs]
   subst hsl;exact⟨bm,ns,nm,qn,bs,hd,sn,sub,ab,col,dd,k0,k1,k2,k3,k5,_,X _ _ ho,.of_isNs (PySem.W.isNs_of_in X hok),PySem.W.nsMap_none_of_in X hok hni,PySem.W.tail_of_in X ht⟩
  ·cases q
 ·cases q
def tRaise(cls:Aa)(E:XK)(t:TA):TS:=λ_ σ H=>t σ H λvs H1=>vs.length<=sizeLine/\E cls none H1
variable{bm:List Aa}{B initId:String}{cpos np:Pos}{e₀:Expr}{t:TA}{E:XK}
theorem eY_(hh:X.calm=true)(R:Raises X E)(hm:X.mg x=some (.ref C))(qx:PySem.W.excIn X.K C bm newId=true)(FB:ExcBaseFacts B newId initId bm)(hg:Gl X x)(ha:PA X [e₀] t)
  (he:starEach [e₀] X.env=(false,eval e₀ X.env)::starEach [] X.env:=by rfl) (hpl:(backTo cpos (starEach [e₀] X.env)).any (·.1)=false:=by rfl) (hd:(x == ("__debug__":Str))=false:=by decide) :
  PS X (.Raise (some (.Call (.Name x np) [e₀] [] cpos)) none pos) (tRaise (.ref C) E t):=by
 intro pins s σ H D I h;have O:=kF_ I.ok.mod.kin hm qx;obtain⟨tl,N,nm,q,bs,hdct,sn,sub,ab,col,dd,k0,k1,k2,k3,k5,mN,hC,hN,hni,T⟩:=O.obj
 refine wpAny_Raise_call_subT (C:=C) (nm:=nm) (q:=q) (N:=N) (bs:=bs) (bm:=tl) (hdct:=hdct) (sn:=sn) (sub:=sub) (ab:=ab) (col:=col) (dd:=dd) (k0:=k0) (k1:=k1) (k2:=k2) (k3:=k3) (k5:=k5)
  FB (mN:=mN) (T.hasType FB.hasBase) (I.ok.hd hh) hpl hni (do_ I hg O.bound ⟨rfl,?_⟩ hd)
 have ha':=ha cpos pins s σ H _ I h;rw[he] at ha' ⊢;refine Calls.evalArgs_plain (c_2 ha' (λus s₂ ⟨vs,H1,I1,r,z,q⟩=>⟨rfl,by rw[<- r.length];exact z,I1.bk _ _ hC,hN.keeps I1.bk,T.keeps I1.bk,λh' e hm=>R pins σ H1 s₂ h' e _ _ I1 hm q⟩) λ_ _ y=>y)
section
variable{P:Ae}{w:Af}{K:F__}{mg:Str->Option Aa}{base:Heap}
theorem Fun.okX{qual:Str}{st:Stmt}{f:Addr}{fd:Ad}{N ps:List Str}{sp:Sp}(F:Fun K x qual st f fd)(S:a3' N ps (a1' st))(len:∀vs H Q E,sp vs H Q E->vs.length=ps.length)(hbody:∀(cdv:Aa) (A:Ag) (outer:List Env) (s:Ac) (H:Hp) (vs:List V) (Q:VK) (E:XK),Room k (A.deeper (envOfC qual (a1' st) s.heap.objs.size f cdv))->sp vs H Q E->
   ∃t,PSs (cxOf (CX1 P w) P w K mg base N qual (a1' st) f cdv A outer s H E) (a7' st) t/\t { nx:=λ_ H'=>Q .non H',rt:=Q } (start N vs) H):FnOk P w K mg base (CX1 P w) (k+1) f fd ps sp:=by
 obtain⟨oc,od,kV,doc,pm,an,cdv,ct,osl,rfl,lk,hcd⟩:=F.ex;refine jI_ lk hcd S len λA outer s H vs Q E hr hsp=>?_;obtain⟨t,h,q⟩:=hbody cdv A outer s H vs Q E hr hsp;exact⟨t,h,q⟩
end
open PySem.Calls Builtin Builtin.ObjectAttr Builtin.Getset_descriptor
structure ExcK (K:F__) (C:Addr):Prop where
 cl:(clsIn K C).isSome=true
 ga:findIn K (.ref C) "__getattribute__"=some (some (.builtin "BaseException.__getattribute__"))
 ha:findIn K (.ref C) "__getattr__"=some none
 ca:findIn K (.ref C) "__class__"=some (some (.builtin "object.__class__"))
 gt:specialIn K (.builtin "object.__class__") "__get__"=some (some (.builtin "getset_descriptor.__get__"))
 tk:takesIn K (.builtin "object.__class__")=some true
 mo:mroIn K C (.type "object")=some true
 mb:mroIn K C (.type "BaseException")=some true
section
variable{prog:Ae}{w:Af}{A:Ag}{E:Aa->Ac->Prop}{s:Ac}{K:F__}{x C:Addr}
end
inductive rIsiC (K:F__) (xs:List V) (H:Hp) (Q:VK):Prop
 |mk:∀x C t b,xs=[x,.ref C]->TyOf K H x t->PySem.W.kitOne K t (.ref C)=some b->Q (.bl b) H->rIsiC K xs H Q
theorem hB_:bp' X (.builtin "isinstance") (rIsiC X.K):=by
 intro pins s σ H xs us Q I r h;obtain⟨x,C,t,b,rfl,ty,e,q⟩:=h;obtain⟨u,w',rfl,ru,rw'⟩:=vals2 r;cases (show w'=Value.ref C from rw');exact e3_ I ru ty e λtk=>⟨.bl b,H,I.tok tk,rfl,q⟩
end L2
namespace Ev
open PySem L2
abbrev sCell:Stmt:=top 80
abbrev sDigit:Stmt:=top 83
abbrev sGd:Stmt:=top 21
abbrev sFrac:Stmt:=top 23
abbrev sLess:Stmt:=top 24
abbrev dV':Stmt:=top 51
abbrev sWords:Stmt:=top 52
abbrev sGuard:Stmt:=top 53
abbrev sLet:Stmt:=top 54
abbrev du':Stmt:=top 73
abbrev cR':Stmt:=top 74
abbrev sAlong:Stmt:=top 75
abbrev sGap:Stmt:=top 76
abbrev sMixed:Stmt:=top 81
abbrev sState:Stmt:=top 82
abbrev sCWays:Stmt:=top 36
abbrev dq':Stmt:=top 37
abbrev cK':Stmt:=top 38
abbrev cC':Stmt:=top 39
abbrev dS':Stmt:=top 41
abbrev df':Stmt:=top 42
abbrev sLM:Stmt:=top 22
abbrev sMult:Stmt:=top 43
abbrev dC':Stmt:=top 44
abbrev cp':Stmt:=top 32
abbrev dB':Stmt:=top 14
abbrev sHvF:Stmt:=top 56
abbrev d7':Stmt:=top 57
abbrev sFits:Stmt:=top 58
abbrev sHvM:Stmt:=top 59
abbrev sShM:Stmt:=top 60
abbrev cX':Stmt:=top 61
abbrev c5':Stmt:=top 62
abbrev cv':Stmt:=top 63
abbrev co':Stmt:=top 64
abbrev db':Stmt:=top 65
abbrev sSeen:Stmt:=top 66
abbrev dx':Stmt:=top 68
abbrev cs':Stmt:=top 69
abbrev cW':Stmt:=top 70
abbrev cM':Stmt:=top 67
abbrev dK':Stmt:=top 71
abbrev dA':Stmt:=top 55
abbrev sHeld:Stmt:=top 85
abbrev sHeavy:Stmt:=top 77
abbrev sWorst:Stmt:=top 78
abbrev sRise:Stmt:=top 45
abbrev cu':Stmt:=top 46
abbrev d0':Stmt:=top 47
abbrev sSteep:Stmt:=top 48
abbrev sWebR:Stmt:=top 84
abbrev dH':Stmt:=top 86
abbrev sGives:Stmt:=top 87
abbrev sLaw:Stmt:=top 88
def But(l:Addr)(H H':Hp):Prop:=∀b o,H b=some o->b≠l->H' b=some o
theorem But.refl(l:Addr)(H:Hp):But l H H:=λ_ _ e _=>e
variable{l:Addr}{H H1:Hp}
theorem But.trans{H2:Hp}(h:But l H H1)(h2:But l H1 H2):But l H H2:=λb o e n=>h2 b o (h b o e n) n
theorem But.of(h:Same H H1):But l H H1:=λb o e _=>h b o e
theorem But.upd{o:HO}:But l H (upd H l o):=λb u e n=>by rw[a5_ n];exact e
def stt(H:Hp)(l:Addr):Prop:=∃a b c:Int,H l=some (.lst [.int a,.int b,.int c])
theorem stt.same{H':Hp}(h:stt H l)(s:Same H H'):stt H' l:=by
 obtain⟨a,b,c,e⟩:=h;exact⟨a,b,c,s _ _ e⟩
theorem stt.ne{a:Addr}(h:stt H l)(e:H a=none):a≠l:=by
 rintro rfl;obtain⟨x,y,z,h⟩:=h;rw[e] at h;cases h
theorem bz'{α:Type}{xs:List α}{i:Int}(h0:0<=i)(h1:i<xs.length):atI xs i=xs[i.toNat]?:=by
 unfold atI ixN;rw[a_9 h0,a_9 h1];rfl
variable{ns:List Str}
theorem dS_{K:F__}{D:Addr}(h:H D=some (.lst (ns.map V.str))):rL K rS H (.ref D) ns:=⟨D,_,rfl,.of h,bn_ ns⟩
def kO(t:Str × Str):List Key:=kT (ord2 t.1 t.2)
structure TI (ns:List Str) (k j:Nat) (ts:Xb):Prop where
 at':∀t∈ts,∃(a b:Nat) (x y:Str),b<a/\(a<k∨(a=k/\b<j))/\ns[a]? = some x/\ns[b]? = some y/\(t=(x,y)∨t=(y,x))
 nd:(ts.map kO).Nodup
 len:ts.length<=7 * k+j
theorem eL_{a b:Str × Str}(h:kT a=kT b):a=b:=by
 unfold kT at h;obtain⟨h1,h2⟩:=List.cons.inj h;obtain⟨h2,_⟩:=List.cons.inj h2;exact Prod.ext (b_5 h1) (b_5 h2)
theorem gI_(a:Str):ltS a a=false:=gU_ (Sum.inr a)
variable{a b:Str}
theorem h0_(h:ltS a b=true):ltS b a=false:=dX_ (a:=Sum.inr a) (b:=Sum.inr b) h
theorem jR_(h:ltS a b=false)(h2:ltS b a=false):a=b:=b_5 (hg_ (a:=Sum.inr a) (b:=Sum.inr b) h h2)
theorem lexS(a b:Str):lexK (keyS a) (keyS b)=ltS a b:=by
 show (if (Sum.inr a:Key)=Sum.inr b then false else ltS a b)=ltS a b;by_cases h:a=b
 ·subst h;rw[a_9 rfl,gI_]
 ·rw[a_4 λe=>h (b_5 e)]
def SAsc(ns:List Str):Prop:=ns.Pairwise λa b=>ltS b a=false
theorem SAsc.keys(h:SAsc ns):Asc (ns.map keyS):=by
 unfold Asc;rw[aE'];exact h.imp λq=>by rw[lexS];exact q
theorem bI_{a b:List Str}(p:a.Perm b)(h1:SAsc a)(h2:SAsc b):a=b:=fb_ (c4_ (p.map keyS) h1.keys h2.keys)
theorem cQ_(ss:List Str):SAsc (bt' ss):=by
 have h:=c2_ (ss.map keyS);rw[<- c1_] at h;unfold Asc at h;rw[aE'] at h;exact h.imp λq=>by rw[lexS] at q;exact q
theorem jK_(hs:Xa):SAsc (a2' hs):=by
 unfold a2' SAsc;rw[aE'];refine (c2_ (hs.map kH)).imp_of_mem λ{a b} ha hb q=>?_;obtain⟨x,_,rfl⟩:=by_ hs a ha;obtain⟨y,_,rfl⟩:=by_ hs b hb;show ltS y.1 x.1=false;by_cases h:y.1=x.1
 ·rw[h,gI_]
 ·have q:(if (Sum.inr y.1:Key)=Sum.inr x.1 then lexK [Sum.inl y.2] [Sum.inl x.2] else ltS y.1 x.1)=false:=q;rwa [a_4 λe=>h (b_5 e)] at q
theorem fJ_(hs:Xa):a2' hs=bt' (hs.map (·.1)):=bI_ ((aw_ hs).trans (b1_ _).symm) (jK_ hs) (cQ_ _)
theorem gp_(a b:Str):ord2 a b=ord2 b a:=by
 unfold ord2;by_cases h:ltS a b=true
 ·rw[a_9 h,a_4 (by rw[h0_ h];decide)]
 ·by_cases h2:ltS b a=true
  ·rw[a_4 h,a_9 h2]
  ·have:=jR_ (by simpa using h) (by simpa using h2);subst this;rw[a_4 h]
theorem cb'{ts:Xb}{x:Str × Str}:x∈tsOf ts ↔ ∃t∈ts,ord2 t.1 t.2=x:=by
 have e:kT x∈(tsOf ts).map kT ↔ x∈tsOf ts:=⟨λh=>by
  obtain⟨y,hy,e⟩:=af'.mp h;rw[<- eL_ e];exact hy,λh=>af'.mpr ⟨x,h,rfl⟩⟩
 rw[<- e,bX_,(ao_ _).mem_iff,af'];exact⟨λ⟨t,ht,q⟩=>⟨t,ht,eL_ q⟩,λ⟨t,ht,q⟩=>⟨t,ht,by rw[q]⟩⟩
end Ev
namespace L2
open PySem PySem.Spec PyProof.Rows
inductive rSlS (x:V) (lo:Option Int) (hi:Option Int) (H:Hp) (Q:VK):Prop
 |mk:∀z,x=.str z->z.length<=sizeLine->Q (.str (Txt.slice z lo hi)) H->rSlS x lo hi H Q
variable{X:Cx}
theorem eJ_:SlR X rSlS:=by
 intro pins s σ H x v vl vu lo hi sl Q I rx hs pl pu h;obtain⟨z,rfl,hz,q⟩:=h;obtain⟨t,rfl⟩:=rx;refine⟨"str",_,PySem.F.slot_str_getitem.lookup,typeIs_str _ _ _,?_⟩
 have fin:∀lo hi,Q (.str (Txt.slice z lo hi)) H->(Txt.slice z lo hi).length<=sizeLine/\∀t' k,EP X pins σ Q (.str (Txt.slice z lo hi) t') { s with toks:=k }:=λlo hi q=>
  ⟨aM' (Txt.slice_le z _ _) hz,λt' k=>⟨.str _,H,I.kept (h':=s.heap) (t':=k) λ_ _ e=>e,⟨t',rfl⟩,q⟩⟩
 cases pl with
 |none=>
  cases pu with
  |none=>exact wpAny_getItem_str_slice (l:=none) (u:=none) (st:=none) hs rfl (post_val_or_str (fin _ _ q))
  |int j u=>exact wpAny_getItem_str_slice (l:=none) (u:=some (j,u)) (st:=none) hs rfl (post_val_or_str (fin _ _ q))
 |int i u=>
  cases pu with
  |none=>exact wpAny_getItem_str_slice (l:=some (i,u)) (u:=none) (st:=none) hs rfl (post_val_or_str (fin _ _ q))
  |int j u'=>exact wpAny_getItem_str_slice (l:=some (i,u)) (u:=some (j,u')) (st:=none) hs rfl (post_val_or_str (fin _ _ q))
open PySem.Builtin PySem.Builtin.Str
open PySem.W
end L2
namespace Ev
open PySem L2
theorem hitL{α:Type}{p:α->Prop}{xs:List α}{r:Int}{n:Nat}(hn:xs.length=n)(h0:0<=r)(h1:r<(n:Int))(h:∀v∈xs,p v):∃v,atI xs r=some v/\p v:=by
 have hl:r.toNat<xs.length:=by omega
 refine⟨xs[r.toNat],?_,h _ (aC' hl)⟩;rw[bz' h0 Z1,ab' hl]
theorem scCell:a3' ["_law_script","_law_k"] ["_law_script","_law_k"] (a1' sCell):=f__
def spCell(K:F__):Sp:=λvs H Q _=>∃(l:Addr) (ns:List Int) (k:Int),vs=[.ref l,.int k]/\0<=k/\SqL K H l (ns.map V.int)/\∀n,Q (.int n) H
variable{f:Addr}{fd:Ad}{P:Ae}{w:Af}{K:F__}{mg:Str->Option Aa}{base:Heap}
theorem j4_(F:Fun K "_law_cell_at" "_law_cell_at" sCell f fd)(B:Bi mg):FnOk P w K mg base CX0 1 f fd ["_law_script","_law_k"] (spCell K):=by
 refine F.ok scCell (λvs H Q E h=>?_) (λcdv A outer s H vs Q E hr h=>?_)
 ·obtain⟨l,ns,k,rfl,_⟩:=h;rfl
 ·obtain⟨l,ns,i,rfl,h0,hl,k⟩:=h;refine⟨_,a3_ (al_ (ae_ kx_ (pv 1) (ab_ av_ (by rfl) B.len b_8 (a0_ (pv 0) a2_)) (nomark _)) (a4_ (a8_ (au_ b6_ (pv 0) (pv 1) (λ_ _=>rfl)))) a9_) (a4_ (a8_ a6_)),?_⟩;refine⟨_,rfl,_,rfl,l,_,rfl,.inl hl,_,_,rfl,rfl,_,rfl,?_⟩;refine ite2 (λc=>?_) (λc=>?_)
  ·have c:i<(ns.map V.int).length:=by simpa using c
   have e:atI (ns.map V.int) i=some (.int (ns[i.toNat]'(by rw[aa'] at c;omega))):=by
    rw[bz' h0 c,aj',ab' (by rw[aa'] at c;omega)];rfl
   exact⟨_,rfl,_,rfl,l,_,_,_,rfl,rfl,hl,e,k _⟩
  ·exact k 0
theorem ds':a3' ["_law_number"] ["_law_number"] (a1' sMixed):=f__
def spMixed:Sp:=λvs H Q _=>∃n:Int,vs=[.int n]/\∀r:Int,Q (.int r) H
theorem small(x:Int):-(2 ^ 64)<x % 2147483647/\x % 2147483647<2 ^ 64:=by
 have a:=aY' x (show (2147483647:Int)≠0 by decide);have b:=aX' x (show (0:Int)<2147483647 by decide);omega
theorem small1(x:Int):-(2 ^ 64)<x % 2147483647+1/\x % 2147483647+1<2 ^ 64:=by
 have a:=aY' x (show (2147483647:Int)≠0 by decide);have b:=aX' x (show (0:Int)<2147483647 by decide);omega
theorem hH_(F:Fun K "_law_mixed" "_law_mixed" sMixed f fd):FnOk P w K mg base CX0 1 f fd ["_law_number"] spMixed:=by
 refine F.ok ds' (λvs H Q E h=>?_) (λcdv A outer s H vs Q E hr h=>?_)
 ·obtain⟨n,rfl,_⟩:=h;rfl
 ·obtain⟨n,rfl,k⟩:=h;refine' ⟨_,a3_ ?s1 (a3_ ?s2 ?s3),?kk⟩
  case s1=>exact ad_ (i:=0) ds'.nd rfl (Or.inl rfl) (am_ bU_ (am_ aT_ (am_ bh_ (am_ bU_ (pv 0) a6_) a6_) a6_) a6_)
  case s2=>exact ad_ (i:=0) ds'.nd rfl (Or.inl rfl) (am_ bU_ (am_ aT_ (pv 0) (am_ bh_ (am_ bd_ (pv 0) a6_) a6_)) a6_)
  case s3=>exact a4_ (a8_ (am_ bU_ (am_ aT_ (am_ bh_ (pv 0) a6_) (am_ bh_ (am_ bd_ (pv 0) a6_) a6_)) a6_))
  case' kk=>skip
  refine⟨_,rfl,_,_,rfl,rfl,by show (0:Int)<2147483647;decide,_,_,rfl,rfl,_,_,rfl,rfl,.inl (small1 n),_,_,rfl,rfl,by show (0:Int)<2147483647;decide,?_⟩;refine⟨_,rfl,_,rfl,_,_,rfl,rfl,⟨by decide,by decide⟩,_,_,rfl,rfl,_,_,rfl,rfl,.inl (small _),_,_,rfl,rfl,by show (0:Int)<2147483647;decide,?_⟩;exact⟨_,rfl,_,_,rfl,rfl,_,rfl,_,_,rfl,rfl,⟨by decide,by decide⟩,_,_,rfl,rfl,_,_,rfl,rfl,.inl (small1 _),_,_,rfl,rfl,by show (0:Int)<2147483629;decide,k _⟩
theorem scState:a3' ["_law_cell","_law_k"] ["_law_cell","_law_k"] (a1' sState):=f__
def spState:Sp:=λvs H Q _=>∃(c:Int) (i:Nat),vs=[.int c,.int i]/\i<100/\∀l H',Same H H'->H l=none->stt H' l->Q (.ref l) H'
theorem iA_(F:Fun K "_law_state" "_law_state" sState f fd):FnOk P w K mg base CX0 1 f fd ["_law_cell","_law_k"] spState:=by
 refine F.ok scState (λvs H Q E h=>?_) (λcdv A outer s H vs Q E hr h=>?_)
 ·obtain⟨c,i,rfl,_⟩:=h;rfl
 ·obtain⟨c,i,rfl,hi,k⟩:=h;refine⟨_,a4_ (a8_ (ax_ (a0_ (am_ bd_ (pv 0) a6_) (a0_ (am_ bU_ (pv 0) a6_) (a0_ (am_ bh_ (pv 0) (am_ aT_ a6_ (pv 1))) a2_))))),?_⟩;refine⟨_,rfl,_,_,rfl,rfl,⟨by decide,by decide⟩,_,rfl,_,_,rfl,rfl,by show (0:Int)<2;decide,_,rfl,_,rfl,_,_,rfl,rfl,.inl ⟨by decide,by decide⟩,_,_,rfl,rfl,by show 3<=sizeLine;decide,λl hl=>?_⟩;exact k l _ (Same.new hl) hl ⟨_,_,_,a1_⟩
theorem scDigit:a3' ["_law_state_here","_law_base","_law_found"] ["_law_state_here","_law_base"] (a1' sDigit):=f__
def spDigit:Sp:=λvs H Q _=>∃(l:Addr) (b:Int),vs=[.ref l,.int b]/\0<b/\b<1073741824/\stt H l/\∀r H',0<=r->r<b->But l H H'->stt H' l->Q (.int r) H'
theorem hJ_(F:Fun K "_law_digit" "_law_digit" sDigit f fd)(cM:Cal P w K mg base 1 "_law_mixed" ["_law_number"] spMixed):FnOk P w K mg base CX0 2 f fd ["_law_state_here","_law_base"] spDigit:=by
 refine F.ok scDigit (λvs H Q E h=>?_) (λcdv A outer s H vs Q E hr h=>?_)
 ·obtain⟨l,b,rfl,_⟩:=h;rfl
 ·obtain⟨l,b,rfl,h0,h1,⟨x,y,z,hl⟩,k⟩:=h;refine' ⟨_,a3_ ?s1 (a3_ ?s2 ?s3),?kk⟩
  case s1=>exact al_ (ec_ (ae_ b9_ (au_ b6_ (pv 0) a6_ (λ_ _=>rfl)) a6_ (nomark _)) (dw_ (ae_ eh_ (au_ b6_ (pv 0) a6_ (λ_ _=>rfl)) a6_ (nomark _)))).pt (a3_ (ad_ (i:=2) scDigit.nd rfl (Or.inl rfl) (am_ bU_ (au_ b6_ (pv 0) a6_ (λ_ _=>rfl)) (pv 1))) (a3_ (h6_ (am_ bd_ (au_ b6_ (pv 0) a6_ (λ_ _=>rfl)) (pv 1)) (iU_ (pv 0) a6_ f4_)) (a4_ (a8_ (pv 2))))) a9_
  case s2=>exact h6_ (af_ cM hr (a0_ (am_ bh_ (au_ b6_ (pv 0) a6_ (λ_ _=>rfl)) a6_) a2_)) (iU_ (pv 0) a6_ f4_)
  case s3=>exact a4_ (a8_ (am_ bU_ (am_ bd_ (au_ b6_ (pv 0) a6_ (λ_ _=>rfl)) a6_) (pv 1)))
  case' kk=>skip
  have other:∀{R:Prop},R->R:=λh=>h;refine⟨_,rfl,l,_,_,_,rfl,rfl,.of hl,rfl,rfl,_,rfl,?_⟩;refine ite2 (λc=>?_) (λc=>?_)
  ·refine⟨_,rfl,l,_,_,_,rfl,rfl,.of hl,rfl,_,_,rfl,rfl,_,rfl,?_⟩;refine ite2 (λc2=>?_) (λc2=>?_)
   ·refine⟨_,rfl,l,_,_,_,rfl,rfl,.of hl,rfl,_,rfl,_,_,rfl,rfl,h0,?_⟩;refine⟨_,rfl,l,_,_,_,rfl,rfl,.of hl,rfl,_,rfl,_,_,rfl,rfl,⟨h0,h1⟩,_,rfl,l,_,_,0,rfl,rfl,hl,rfl,?_⟩;exact⟨_,rfl,k _ _ (aY' _ Z1) (aX' _ h0) But.upd ⟨_,_,_,a1_⟩⟩
   ·refine⟨_,rfl,l,_,_,_,rfl,rfl,.of hl,rfl,_,_,rfl,rfl,_,rfl,λr=>⟨_,rfl,l,_,_,2,rfl,rfl,hl,rfl,?_⟩⟩;refine⟨_,rfl,l,_,_,_,rfl,rfl,.of a1_,rfl,_,_,rfl,rfl,⟨by decide,by decide⟩,_,rfl,_,_,rfl,rfl,h0,?_⟩;exact k _ _ (aY' _ Z1) (aX' _ h0) But.upd ⟨_,_,_,a1_⟩
  ·refine⟨_,rfl,l,_,_,_,rfl,rfl,.of hl,rfl,_,_,rfl,rfl,_,rfl,λr=>⟨_,rfl,l,_,_,2,rfl,rfl,hl,rfl,?_⟩⟩;refine⟨_,rfl,l,_,_,_,rfl,rfl,.of a1_,rfl,_,_,rfl,rfl,⟨by decide,by decide⟩,_,rfl,_,_,rfl,rfl,h0,?_⟩;exact k _ _ (aY' _ Z1) (aX' _ h0) But.upd ⟨_,_,_,a1_⟩
variable{σ:St}
theorem seqG{t u:TS}{D:Ends}{H:Hp}(R:St->Hp->Prop)(later:∀σ H,R σ H->u D σ H)(now:∀N:St->Hp->Prop,(∀σ H,R σ H->N σ H)->t { D with nx:=N } σ H):tSeq t u D σ H:=now (u D) later
theorem setG{i:Nat}{v:V}{H:Hp}{N:St->Hp->Prop}(h:N (σ.set i (some v)) H):b4' i v σ H N:=h
theorem gn_(ys:List V)(k:Nat):cutV ys none (some (k:Int))=ys.take k:=by
 unfold cutV;rw[HT.sIx_none,HT.sIx_nat,List.drop_zero,Nat.sub_zero];by_cases h:k<=ys.length
 ·rw[Nat.min_eq_left h]
 ·rw[Nat.min_eq_right Z1,aT' (ai' _),aT' Z1]
theorem cL_{α:Type}{ps:List (Str × α)}(nd:(ps.map (·.1)).Nodup){a b:Str × α}(ha:a∈ps)(hb:b∈ps)(e:a.1=b.1):a=b:=by
 induction ps with
 |nil=>cases ha
 |cons p ps ih=>
  rw[av',aP'] at nd;rcases al'.mp ha with za|ha
  ·rcases al'.mp hb with zb|hb
   ·rw[za,zb]
   ·rw[za] at e;exact absurd (show p.1∈ps.map (·.1) from af'.mpr ⟨b,hb,e.symm⟩) nd.1
  ·rcases al'.mp hb with zb|hb
   ·rw[zb] at e;exact absurd (show p.1∈ps.map (·.1) from af'.mpr ⟨a,ha,e⟩) nd.1
   ·exact ih nd.2 ha hb
def strOf(hs:Xa)(n:Str):Int:=((hs.find? λh=>decide (h.1=n)).map (·.2)).getD 0
variable{n:Str}{hs:Xa}
theorem aQ_(h:n∈hs.map (·.1)):(n,strOf hs n)∈hs:=by
 unfold strOf;obtain⟨x,hx,e⟩:=af'.mp h;cases q:hs.find? λh=>decide (h.1=n) with
 |none=>
  have:=List.find?_eq_none.mp q x hx;simp[e] at this
 |some y=>
  have m:=List.mem_of_find?_eq_some q;have:=List.find?_some q;have e2:y.1=n:=by simpa using this
  show (n,y.2)∈hs;rw[<- e2];exact m
theorem hS_(nd:(hs.map (·.1)).Nodup){s:Int}(h:(n,s)∈hs):strOf hs n=s:=by
 have m:=aQ_ (af'.mpr ⟨_,h,rfl⟩:n∈hs.map (·.1));exact b_9 Prod.snd (cL_ nd m h rfl)
def fr(a b:Int):Int × Int:=(a / (Int.gcd a b:Int),b / (Int.gcd a b:Int))
theorem hZ_{a b:Int}(ha:0<=a)(h:0<b):Int.gcd b (a % b)=Int.gcd a b:=by
 obtain⟨m,rfl⟩:=Int.eq_ofNat_of_zero_le ha;obtain⟨n,rfl⟩:=Int.eq_ofNat_of_zero_le (aJ' h);rw[<- Int.natCast_emod];show Nat.gcd n (m % n)=Nat.gcd m n;rw[Nat.gcd_comm n,<- Nat.gcd_rec,Nat.gcd_comm]
def redF(t d:Int):Int × Int:=(t / (Int.gcd t d:Int),d / (Int.gcd t d:Int))
theorem j7_{t d:Int}(hd:0<d):∃g:Int,0<g/\t=g * (redF t d).1/\d=g * (redF t d).2/\0<(redF t d).2/\Int.gcd (redF t d).1 (redF t d).2=1:=by
 have hg:0<Int.gcd t d:=Int.gcd_pos_of_ne_zero_right t Z1;obtain⟨k,hk⟩:=Int.gcd_dvd_left t d;obtain⟨m,hm⟩:=Int.gcd_dvd_right t d;have gp:(0:Int)<(Int.gcd t d:Int):=by omega
 have e1:(redF t d).1=k:=by
  show t / (Int.gcd t d:Int)=k;exact Int.ediv_eq_of_eq_mul_right Z1 hk
 have e2:(redF t d).2=m:=by
  show d / (Int.gcd t d:Int)=m;exact Int.ediv_eq_of_eq_mul_right Z1 hm
 refine⟨(Int.gcd t d:Int),gp,by rw[e1];exact hk,by rw[e2];exact hm,?_,?_⟩
 ·rw[e2];have:0<(Int.gcd t d:Int) * m:=by rw[<- hm];exact hd
  exact Int.pos_of_mul_pos_right this gp
 ·rw[e1,e2]
  have h3:Int.gcd t d=Int.gcd t d * Int.gcd k m:=by
   have:=Int.gcd_mul_left (Int.gcd t d:Int) k m;rw[<- hk,<- hm] at this;rw[Int.natAbs_natCast] at this;exact this
  exact (Nat.eq_of_mul_eq_mul_left hg (by rw[Nat.mul_one];exact h3)).symm
def grS(a x:Int × Int):Int × Int:=if a.1 * x.2<x.1 * a.2 then x else a
def gr(xs:List (Int × Int)):Int × Int:=xs.foldl grS (0,1)
theorem eO_{a1 a2 b1 b2 c1 c2:Int}(ha:0<a2)(hb:0<b2)(hc:0<c2)(h1:a1 * b2<=b1 * a2)(h2:b1 * c2<=c1 * b2):a1 * c2<=c1 * a2:=by
 have k1:=Int.mul_le_mul_of_nonneg_right h1 (aJ' hc);have k2:=Int.mul_le_mul_of_nonneg_right h2 (aJ' ha);refine Int.le_of_mul_le_mul_right (a:=b2) ?_ hb;have e1:a1 * c2 * b2=a1 * b2 * c2:=by grind
 have e2:b1 * a2 * c2=b1 * c2 * a2:=by grind
 have e3:c1 * a2 * b2=c1 * b2 * a2:=by grind
 rw[e1,e3];rw[e2] at k1;exact Int.le_trans k1 k2
theorem gm_:∀(xs:List (Int × Int)) (a:Int × Int),0<a.2->(∀x∈xs,0<x.2)->0<(xs.foldl grS a).2/\(xs.foldl grS a=a∨xs.foldl grS a∈xs)/\a.1 * (xs.foldl grS a).2<=(xs.foldl grS a).1 * a.2/\∀x∈xs,x.1 * (xs.foldl grS a).2<=(xs.foldl grS a).1 * x.2
 |[],a,ha,_=>⟨ha,.inl rfl,Int.le_refl _,by simp⟩
 |x::xs,a,ha,h=>by
  have hx:=h x ag'
  have step:0<(grS a x).2/\(grS a x=a∨grS a x=x)/\a.1 * (grS a x).2<=(grS a x).1 * a.2/\x.1 * (grS a x).2<=(grS a x).1 * x.2:=by
   unfold grS;by_cases c:a.1 * x.2<x.1 * a.2
   ·rw[a_9 c];exact⟨hx,.inr rfl,aJ' c,Int.le_refl _⟩
   ·rw[a_4 c];exact⟨ha,.inl rfl,Int.le_refl _,by omega⟩
  obtain⟨s1,s2,s3,s4⟩:=step;obtain⟨r1,r2,r3,r4⟩:=gm_ xs (grS a x) s1 λy hy=>h y (ad' _ hy);refine⟨r1,?_,eO_ ha s1 r1 s3 r3,λy hy=>?_⟩
  ·rcases r2 with e|e
   ·rcases s2 with z|z
    ·exact .inl (e.trans z)
    ·exact .inr (by rw[List.foldl_cons,e,z];exact ag')
   ·exact .inr (ad' _ e)
  ·rcases al'.mp hy with rfl|hy
   ·exact eO_ hx s1 r1 s4 r3
   ·exact r4 y hy
theorem kN_{a b:Int}(hb:0<b)(hb2:b<=2000000):0<(Int.gcd a b:Int)/\(Int.gcd a b:Int)<1073741824:=by
 have h1:0<Int.gcd a b:=Int.gcd_pos_of_ne_zero_right a Z1;have h2:(Int.gcd a b:Int) ∣ b:=Int.gcd_dvd_right a b;have h3:=Int.le_of_dvd hb h2;omega
theorem scGd:a3' ["one","other","rest","divisor","left"] ["one","other"] (a1' sGd):=f__
def spGd:Sp:=λvs H Q _=>∃a b:Int,vs=[.int a,.int b]/\0<=a/\0<b/\Q (.int (Int.gcd a b)) H
theorem kV_(F:Fun K "greatest_divisor" "greatest_divisor" sGd f fd):FnOk P w K mg base CX0 1 f fd ["one","other"] spGd:=by
 refine F.ok scGd (λvs H Q E h=>?_) (λcdv A outer s H vs Q E hr h=>?_)
 ·obtain⟨a,b,rfl,_⟩:=h;rfl
 ·obtain⟨a,b,rfl,ha,hb,k⟩:=h;refine' ⟨_,a3_ ?s1 (a3_ ?s2 (a3_ ?s3 ?s4)),?kk⟩
  case s1=>exact ad_ (i:=2) scGd.nd rfl (Or.inl rfl) (pv 0)
  case s2=>exact ad_ (i:=3) scGd.nd rfl (Or.inl rfl) (pv 1)
  case s3=>exact hM_ b_1 (ae_ df_ (pv 2) a6_ (nomark _)) (a3_ (ad_ (i:=4) scGd.nd rfl (Or.inl rfl) (am_ bU_ (pv 3) (pv 2))) (a3_ (ad_ (i:=3) scGd.nd rfl (Or.inl rfl) (pv 2)) (a4_ (ad_ (i:=2) scGd.nd rfl (Or.inl rfl) (pv 4)))))
  case s4=>exact a4_ (a8_ (pv 3))
  case' kk=>skip
  refine⟨_,rfl,_,rfl,?_⟩;refine is_ (λσ H'=>H'=H/\∃(r d:Int) (v4:Option V),σ=[some (.int a),some (.int b),some (.int r),some (.int d),v4]/\0<=r/\0<d/\Int.gcd r d=Int.gcd a b) (λσ _=>match σ with | [_,_,some (.int r),_,_]=>r.toNat|_=>0) ⟨rfl,a,b,none,rfl,ha,hb,rfl⟩ ?_ ?_
  ·rintro σ H' ⟨rfl,r,d,v4,rfl,hr0,hd,e⟩;refine⟨_,rfl,rfl,_,rfl,?_⟩;refine ite2 (λc=>?_) (λc=>?_)
   ·have hr1:0<r:=by
     have:r≠0:=by
      intro z;subst z;simp at c
     omega
    refine⟨_,rfl,_,rfl,_,_,rfl,rfl,hr1,_,rfl,_,rfl,?_⟩;have h1:=aY' d (Int.ne_of_gt hr1);have h2:=aX' d hr1;refine⟨⟨rfl,_,_,_,rfl,h1,hr1,?_⟩,?_⟩
    ·rw[<- e,Int.gcd_comm (d % r) r,hZ_ (aJ' hd) hr1,Int.gcd_comm]
    ·show (d % r).toNat<r.toNat;omega
   ·have hr1:r=0:=by simpa using c
    subst hr1;refine⟨_,rfl,?_⟩
    have e2:(Int.gcd a b:Int)=d:=by
     rw[<- e,Int.gcd_zero_left];omega
    rw[<- e2];exact k
  ·intro σ H' Q1 Q2 hq h;obtain⟨x,e,h1,c,h2,h3⟩:=h;exact⟨x,e,h1,c,h2,hq _ _ h3⟩
theorem scFrac:a3' ["top","below","divisor"] ["top","below"] (a1' sFrac):=f__
def spFrac:Sp:=λvs H Q _=>∃a b:Int,vs=[.int a,.int b]/\0<=a/\0<b/\b<=2000000/\∀t,H t=none->Q (.ref t) (upd H t (.tup [.int (fr a b).1,.int (fr a b).2]))
theorem j5_(F:Fun K "fraction_of" "fraction_of" sFrac f fd)(cG:Cal P w K mg base 1 "greatest_divisor" ["one","other"] spGd):FnOk P w K mg base CX0 2 f fd ["top","below"] spFrac:=by
 refine F.ok scFrac (λvs H Q E h=>?_) (λcdv A outer s H vs Q E hr h=>?_)
 ·obtain⟨a,b,rfl,_⟩:=h;rfl
 ·obtain⟨a,b,rfl,ha,hb,hb2,k⟩:=h;have g:=kN_ (a:=a) hb hb2;refine⟨_,a3_ (ad_ (i:=2) scFrac.nd rfl (Or.inl rfl) (af_ cG hr (a0_ (pv 0) (a0_ (pv 1) a2_)))) (a4_ (a8_ (aR_ (a0_ (am_ bd_ (pv 0) (pv 2)) (a0_ (am_ bd_ (pv 1) (pv 2)) a2_))))),?_⟩;refine⟨_,rfl,_,rfl,a,b,rfl,ha,hb,?_⟩;exact⟨_,rfl,_,rfl,_,_,rfl,rfl,g,_,rfl,_,rfl,_,_,rfl,rfl,g,by show 2<=sizeLine;decide,k⟩
theorem scLess:a3' ["one","other"] ["one","other"] (a1' sLess):=f__
def FrAt(H:Hp)(a:Addr)(x:Int × Int):Prop:=H a=some (.tup [.int x.1,.int x.2])
theorem FrAt.same{H H':Hp}{a:Addr}{x:Int × Int}(h:FrAt H a x)(s:Same H H'):FrAt H' a x:=s _ _ h
def ltF(x y:Int × Int):Bool:=decide (x.1 * y.2<y.1 * x.2)
def sm(x:Int × Int):Prop:=0<x.2/\x.2<2 ^ 64
inductive spLess (vs:List V) (H:Hp) (Q:VK) (E:XK):Prop
 |mk:∀(a b:Addr) (x y:Int × Int),vs=[.ref a,.ref b]->FrAt H a x->FrAt H b y->sm x->sm y->Q (.bl (ltF x y)) H->spLess vs H Q E
theorem jp_(F:Fun K "is_less" "is_less" sLess f fd):FnOk P w K mg base CX0 1 f fd ["one","other"] spLess:=by
 refine F.ok scLess (λvs H Q E h=>?_) (λcdv A outer s H vs Q E hr h=>?_)
 ·obtain⟨a,b,x,y,rfl,_⟩:=h;rfl
 ·obtain⟨a,b,x,y,rfl,ha,hb,hx,hy,k⟩:=h;refine⟨_,a4_ (a8_ (aI_ kx_ (am_ aT_ (au_ ap_ (pv 0) a6_ (λ_ _=>rfl)) (au_ ap_ (pv 1) a6_ (λ_ _=>rfl))) (am_ aT_ (au_ ap_ (pv 1) a6_ (λ_ _=>rfl)) (au_ ap_ (pv 0) a6_ (λ_ _=>rfl))) (nomark _))),?_⟩;unfold sm at hx hy;refine⟨_,rfl,a,_,_,_,rfl,rfl,.of ha,rfl,_,rfl,b,_,_,_,rfl,rfl,.of hb,rfl,_,_,rfl,rfl,.inr ⟨by omega,by omega⟩,?_⟩;exact⟨_,rfl,b,_,_,_,rfl,rfl,.of hb,rfl,_,rfl,a,_,_,_,rfl,rfl,.of ha,rfl,_,_,rfl,rfl,.inr ⟨by omega,by omega⟩,_,_,rfl,rfl,k⟩
end Ev
namespace L2
open PySem PySem.Spec PyProof.Rows
def d6'(w:Af)(l:List (Str × Tok × Aa)):List DictEntry:=l.map λx=>⟨hashStr w x.1,.str x.1 x.2.1,x.2.2⟩
def KDict(K:F__)(w:Af)(d:Addr)(kvs:List (Str × V)):Prop:=
 (d == sysModules)=false/\(kvs.map (·.1)).Nodup/\∃(l:List (Str × Tok × Aa)) (o:Obj) (es:Array DictEntry) (ep:Nat),K.lookup d=some o/\o.ExactDict/\o.data=.dict es ep/\es.toList=d6' w l/\Paired (λ(p:Str × V) (x:Str × Tok × Aa)=>p.1=x.1/\RelV p.2 x.2.2) kvs l
theorem dH_{P:Ae}{w:Af}:∀{l:List (Str × Tok × Aa)},Pairs (a5' P w) (d6' w l) (l.map λx=>((Sum.inr x.1:Key),x.2.2))
 |[]=>.nil
 |x::l=>.cons (bJ_ P w x.1 x.2.1) rfl (dH_ (l:=l))
variable{kvs:List (Str × V)}{l:List (Str × Tok × Aa)}
theorem f0_(h:Paired (λ(p:Str × V) (x:Str × Tok × Aa)=>p.1=x.1/\RelV p.2 x.2.2) kvs l):kvs.map (·.1)=l.map (·.1):=by
 induction h with
 |nil=>rfl
 |cons a _ ih=>rw[av',av',ih,a.1]
theorem KDict.of{P:Ae}{K:F__}{w:Af}{d:Addr}{h:Heap}(k:KDict K w d kvs)(X:K.In h):∃l:List (Str × Tok × Aa),Paired (λ(p:Str × V) (x:Str × Tok × Aa)=>p.1=x.1/\RelV p.2 x.2.2) kvs l/\h.DictOf (a5' P w) d (l.map λx=>((Sum.inr x.1:Key),x.2.2)):=by
 obtain⟨_,nd,l,o,es,ep,ho,hx,hd,he,hp⟩:=k;refine⟨l,hp,o,es,ep,X _ _ ho,hx,hd,λe m=>?_,?_,?_⟩
 ·have m:e∈d6' w l:=by
   rw[<- he];simpa using m
  obtain⟨x,_,rfl⟩:=af'.mp m;exact⟨Sum.inr x.1,bJ_ P w x.1 x.2.1,rfl⟩
 ·rw[he];exact dH_
 ·rw[f0_ hp] at nd;rw[ak',aA',aE'];rw[aA',aE'] at nd;exact nd.imp λn e=>n (b_5 e)
theorem jk_(h:Paired (λ(p:Str × V) (x:Str × Tok × Aa)=>p.1=x.1/\RelV p.2 x.2.2) kvs l)(nd:(kvs.map (·.1)).Nodup){z:Str}{v:V}(m:(z,v)∈kvs):∃u,valueAt (l.map λx=>((Sum.inr x.1:Key),x.2.2)) (Sum.inr z)=some u/\RelV v u:=by
 unfold valueAt
 induction h with
 |nil=>cases m
 |@cons p x kvs l a _ ih=>
  rw[av'] at nd ⊢;rw[List.find?_cons];obtain⟨n1,n2⟩:=aP'.mp nd;by_cases e:x.1=z
  ·rcases al'.mp m with m|m
   ·subst m;refine⟨x.2.2,?_,a.2⟩;simp[e]
   ·exact absurd (by rw[a.1,e];exact af'.mpr ⟨_,m,rfl⟩) n1
  ·rcases al'.mp m with m|m
   ·subst m;exact absurd a.1.symm e
   ·have:=ih n2 m;simp[e];simpa using this
theorem gJ_(h:Paired (λ(p:Str × V) (x:Str × Tok × Aa)=>p.1=x.1/\RelV p.2 x.2.2) kvs l)(z:Str):(valueAt (l.map λx=>((Sum.inr x.1:Key),x.2.2)) (Sum.inr z)).isSome=decide (z∈kvs.map (·.1)):=by
 rw[f0_ h];unfold valueAt;rw[Option.isSome_map,List.isSome_find?];rw[Bool.eq_iff_iff,List.any_eq_true,decide_eq_true_iff];constructor
 ·rintro⟨kv,hm,e⟩;obtain⟨x,hx,rfl⟩:=af'.mp hm;have e:(Sum.inr x.1:Key)=Sum.inr z:=by simpa using e
  exact af'.mpr ⟨x,hx,b_5 e⟩
 ·intro m;obtain⟨x,hx,e⟩:=af'.mp m;exact⟨_,af'.mpr ⟨x,hx,rfl⟩,by simp[e]⟩
inductive tKInR (K:F__) (w:Af) (Q:VK) (y:V) (x:V) (H2:Hp):Prop
 |mk:∀d kvs z,x=.ref d->KDict K w d kvs->y=.str z->Q (.bl (decide (z∈kvs.map (·.1)))) H2->tKInR K w Q y x H2
def tKIn(K:F__)(w:Af)(ty td:TE):TE:=λσ H Q=>ty σ H λy H1=>td σ H1 λx H2=>tKInR K w Q y x H2
variable{X:Cx}{i o:Expr}{td ty:TE}
theorem kE_(hi:PE X i ty)(ho:PE X o td):PC X .In i o (tKIn X.K X.w ty td):=by
 intro pins s σ H Q I h;refine thn (hi pins s σ H _ I h) λiv s1 ⟨y,H1,I1,ry,q1⟩=>thn (ho pins s1 σ H1 _ I1 q1) λu s2 ⟨x,H2,I2,rx,d,kvs,z,ex,kd,ey,q2⟩=>?_;subst ex;subst ey;obtain rfl:u=Value.ref d:=rx;obtain⟨l,hp,dd⟩:=kd.of (P:=X.prog) I2.kIn;refine wpAny_in_of (e6_ (k:=Sum.inr z) ry) kd.1 dd.mapOf ?_;rw[gJ_ hp];exact⟨.bl _,H2,I2.tok _,rfl,q2⟩
inductive tKGetR (K:F__) (w:Af) (Q:VK) (x:V) (y:V) (H2:Hp):Prop
 |mk:∀d kvs z v,x=.ref d->KDict K w d kvs->y=.str z->(z,v)∈kvs->Q v H2->tKGetR K w Q x y H2
def tKGet(K:F__)(w:Af)(td ty:TE):TE:=λσ H Q=>td σ H λx H1=>ty σ H1 λy H2=>tKGetR K w Q x y H2
variable{pos:Pos}
theorem jW_(ho:PE X o td)(hi:PE X i ty)(hs:NoSl i):PE X (.Subscript o i pos) (tKGet X.K X.w td ty):=by
 intro pins s σ H Q I h;refine g0_ PySem.F.slot_dict_getitem.lookup hs (thn (ho pins s σ H _ I h) λu s1 ⟨x,H1,I1,rx,q1⟩=>thn (hi pins s1 σ H1 _ I1 q1) λiv s2 ⟨y,H2,I2,ry,d,kvs,z,v,ex,kd,ey,hm,q2⟩=>?_);subst ex;subst ey;obtain rfl:u=Value.ref d:=rx;obtain⟨l,hp,dd⟩:=kd.of (P:=X.prog) I2.kIn;obtain⟨w',hw,rw'⟩:=jk_ hp kd.2.1 hm;exact⟨dd.mapOf.typeIs,wpAny_getItem_of (e6_ (k:=Sum.inr z) ry) dd.mapOf hw ⟨v,H2,I2.tok _,rw',q2⟩⟩
end L2
namespace Ev
open PySem L2
abbrev Rl:=Str × Str × Str × Option Str
def rl:List Rl:=[("least one high","least","one",some "high"),("least one fall","least","one",some "fall"),("least one calm","least","one",some "calm"),("least all high","least","all",some "high"),("least all fall","least","all",some "fall"),("least all calm","least","all",some "calm"),("below one high","below","one",some "high"),("below one fall","below","one",some "fall"),("below one calm","below","one",some "calm"),("below all high","below","all",some "high"),("below all fall","below","all",some "fall"),("below all calm","below","all",some "calm"),("shares one","shares","one",none),("shares all","shares","all",none),("turns high","turns","all",some "high"),("turns fall","turns","all",some "fall"),("turns calm","turns","all",some "calm")]
def optV:Option Str->V
 |some x=>.str x
 |none=>.non
def rnames:List Str:=rl.map (·.1)
theorem hj_:rnames.Nodup:=by decide +kernel
def rkv(as:List Addr):List (Str × V):=List.zipWith (λ(r:Rl) a=>(r.1,V.ref a)) rl as
structure c6' (K:F__) (w:Af) (mg:Str->Option Aa) (d:Addr) (as:List Addr):Prop where
 mg:mg "RULES"=some (.ref d)
 len:as.length=17
 kd:KDict K w d (rkv as)
 tup:Paired (λa (r:Rl)=>∀H,SqT K H a [.str r.2.1,.str r.2.2.1,optV r.2.2.2]) as rl
variable{as:List Addr}
theorem dT_(h:as.length=17):(rkv as).map (·.1)=rnames:=by
 have:∀(rs:List Rl) (as:List Addr),as.length=rs.length->(List.zipWith (λ(r:Rl) a=>(r.1,V.ref a)) rs as).map (·.1)=rs.map (·.1):=by
  intro rs
  induction rs with
  |nil=>intro as _;rfl
  |cons r rs ih=>
   intro as e;cases as with
   |nil=>cases e
   |cons a as=>
    rw[List.zipWith_cons_cons,av',av',ih as (by simpa using e)]
 exact this rl as h
theorem iW_{K:F__}:∀{rs:List Rl} {as:List Addr},Paired (λa (r:Rl)=>∀H,SqT K H a [.str r.2.1,.str r.2.2.1,optV r.2.2.2]) as rs->∀r∈rs,∃a,(r.1,V.ref a)∈List.zipWith (λ(r:Rl) a=>(r.1,V.ref a)) rs as/\∀H,SqT K H a [.str r.2.1,.str r.2.2.1,optV r.2.2.2]
 |_,_,.nil,r,h=>by cases h
 |r0::rs,a::as,.cons h t,r,m=>by
  rw[List.zipWith_cons_cons];rcases al'.mp m with rfl|m
  ·exact⟨a,ag',h⟩
  ·obtain⟨b,hb,hs⟩:=iW_ t r m;exact⟨b,ad' _ hb,hs⟩
def inB(ns:List Str):Option Str->Bool
 |some x=>decide (x∈ns)
 |none=>false
section
variable{P:Ae}{w:Af}{K:F__}{mg:Str->Option Aa}{base:Heap}
theorem scIsRule:a3' ["thing"] ["thing"] (a1' dV'):=f__
def ef':Sp:=λvs H Q _=>∃r∈rl,vs=[.str r.1]/\Q (.bl true) H
theorem g1_{f d:Addr}{fd:Ad}(F:Fun K "is_rule" "is_rule" dV' f fd)(B:Bi mg)(R:c6' K w mg d as):FnOk P w K mg base CX0 1 f fd ["thing"] ef':=by
 refine F.ok scIsRule (λvs H Q E h=>?_) (λcdv A outer s H vs Q E hr h=>?_)
 ·obtain⟨r,hr,rfl,_⟩:=h;rfl
 ·obtain⟨r,hr',rfl,k⟩:=h;refine⟨_,a4_ (a8_ (bg_ (ab_ aU_ (by rfl) B.isi PyProof.Rows.Boot.«isinstance» (a0_ (pv 0) (a0_ (b5_ (v:=.ty "str") (by rfl) B.str PyProof.Rows.Boot.«str» rfl) a2_))) (bf_ (cZ_ (kE_ (pv 0) (bw_ (v:=.ref d) (by rfl) R.mg rfl)))))),?_⟩;refine⟨_,rfl,_,_,_,_,rfl,.str r.1,rfl,_,rfl,iteT ⟨_,rfl,d,_,r.1,rfl,R.kd,rfl,?_⟩⟩;rw[dT_ R.len,show decide (r.1∈rnames)=true from a_2 (af'.mpr ⟨r,hr',rfl⟩)];exact k
theorem scWords:a3' ["rule"] ["rule"] (a1' sWords):=f__
def bL'(K:F__):Sp:=λvs H Q _=>∃r∈rl,vs=[.str r.1]/\∀a,(∀H',SqT K H' a [.str r.2.1,.str r.2.2.1,optV r.2.2.2])->Q (.ref a) H
theorem iE_{f d:Addr}{fd:Ad}(F:Fun K "checked_words" "checked_words" sWords f fd)(R:c6' K w mg d as)(cI:Cal P w K mg base 1 "is_rule" ["thing"] ef'):FnOk P w K mg base CX0 2 f fd ["rule"] (bL' K):=by
 refine F.ok scWords (λvs H Q E h=>?_) (λcdv A outer s H vs Q E hr h=>?_)
 ·obtain⟨r,hr,rfl,_⟩:=h;rfl
 ·obtain⟨r,hr',rfl,k⟩:=h;refine⟨_,a3_ (al_ (aC_ (ay_ (af_ cI hr (a0_ (pv 0) a2_)))) (a4_ dy_) a9_) (a4_ (a8_ (jW_ (bw_ (v:=.ref d) (by rfl) R.mg rfl) (pv 0) (λ_ _=>rfl)))),?_⟩;obtain⟨a,ha,hs⟩:=iW_ R.tup r hr';exact⟨_,rfl,r,hr',rfl,_,rfl,iteF ⟨_,rfl,d,_,r.1,.ref a,rfl,R.kd,rfl,ha,k a hs⟩⟩
def guB(gs:List Str)(r:Rl):Bool:=decide (r.2.1="shares") || (inB gs r.2.2.2&&(decide (r.2.1="turns") || decide (r.2.2.1="one")))
theorem scGuard:a3' ["rule","guards","words"] ["rule","guards"] (a1' sGuard):=f__
def spGuard(K:F__):Sp:=λvs H Q E=>∃r∈rl,∃t gs,vs=[.str r.1,.ref t]/\H t=some (.tup (gs.map V.str))/\Q (.bl (guB gs r)) H
theorem eq_:∀r∈rl,r.2.1≠"shares"->r.2.2.2.isSome=true:=by decide +kernel
theorem jO_(x:Str)(gs:List Str):inV (.str x) (gs.map V.str)=decide (x∈gs):=by
 unfold inV
 induction gs with
 |nil=>rfl
 |cons g gs ih=>
  rw[av',List.any_cons,ih]
  have:eqV (V.str g) (V.str x)=decide (g=x):=by
   unfold eqV;by_cases e:g=x
   ·simp[e]
   ·simp[e]
  rw[this];by_cases e:g=x
  ·simp[e]
  ·have e2:¬x=g:=λz=>e z.symm;simp[e,e2]
theorem gh_(gs:List Str):(gs.map V.str).all cx'=true:=by
 rw[List.all_eq_true];intro v hv;obtain⟨x,_,rfl⟩:=af'.mp hv;rfl
theorem i4_{f:Addr}{fd:Ad}(F:Fun K "is_shares_or_guarded_by" "is_shares_or_guarded_by" sGuard f fd)(cW:Cal P w K mg base 2 "checked_words" ["rule"] (bL' K)):FnOk P w K mg base CX0 3 f fd ["rule","guards"] (spGuard K):=by
 refine F.ok scGuard (λvs H Q E h=>?_) (λcdv A outer s H vs Q E hr h=>?_)
 ·obtain⟨r,hr,t,gs,rfl,_⟩:=h;rfl
 ·obtain⟨r,hr',t,gs,rfl,ht,k⟩:=h;refine' ⟨_,a3_ ?s1 (a3_ ?s2 ?s3),?kk⟩
  case s1=>exact ad_ (i:=2) scGuard.nd rfl (Or.inl rfl) (af_ cW hr (a0_ (pv 0) a2_))
  case s2=>exact al_ (ae_ b9_ (au_ ap_ (pv 2) a6_ (λ_ _=>rfl)) ag_ (nomark _)) (a4_ (a8_ bC_)) a9_
  case s3=>exact a4_ (a8_ (bg_ (aI_ cC_ (au_ ap_ (pv 2) a6_ (λ_ _=>rfl)) (pv 1) (by with_unfolding_all rfl)) (bf_ (k1_ (aI_ b9_ (au_ ap_ (pv 2) a6_ (λ_ _=>rfl)) ag_ (nomark _)) (bf_ (aI_ b9_ (au_ ap_ (pv 2) a6_ (λ_ _=>rfl)) ag_ (nomark _)))))))
  case' kk=>skip
  refine⟨_,rfl,r,hr',rfl,λa ha=>?_⟩
  have deq:∀x y:Str,decide (V.str x=V.str y)=decide (x=y):=λx y=>by
   by_cases e:x=y
   ·simp[e]
   ·simp[e]
  refine⟨_,rfl,a,_,_,_,rfl,rfl,ha H,rfl,rfl,_,rfl,?_⟩;rw[deq];unfold guB at k;refine ite2 (λc=>?_) (λc=>?_)
  ·rw[c,Bool.true_or] at k;exact k
  ·have c':decide (r.2.1="shares")=false:=by simpa using c
   rw[c',Bool.false_or] at k;have hs:=eq_ r hr' (by simpa using c);obtain⟨g,eg⟩:=aG'.mp hs;rw[eg] at k ha;refine⟨_,rfl,a,_,_,_,rfl,rfl,ha H,rfl,_,rfl,t,_,rfl,.inr (.of ht),rfl,gh_ gs,_,rfl,?_⟩;rw[a_4 aq',show inV (optV (some g)) (gs.map V.str)=decide (g∈gs) from jO_ g gs];have k:Q (.bl (decide (g∈gs)&&(decide (r.2.1="turns") || decide (r.2.2.1="one")))) H:=k;refine ite2 (λc2=>?_) (λc2=>?_)
   ·rw[c2,Bool.true_and] at k;refine⟨_,rfl,a,_,_,_,rfl,rfl,ha H,rfl,rfl,_,rfl,?_⟩;rw[deq];refine ite2 (λc3=>?_) (λc3=>?_)
    ·rw[c3,Bool.true_or] at k;exact k
    ·rw[show decide (r.2.1="turns")=false by simpa using c3,Bool.false_or] at k;refine⟨_,rfl,a,_,_,_,rfl,rfl,ha H,rfl,rfl,?_⟩;rw[deq];exact k
   ·rw[show decide (g∈gs)=false by simpa using c2,Bool.false_and] at k;exact k
theorem scLet:a3' ["rule"] ["rule"] (a1' sLet):=f__
def spLet:Sp:=λvs H Q _=>∃r∈rl,vs=[.str r.1]/\∀H',Same H H'->Q (.bl (guB ["fall","calm"] r)) H'
theorem km_{f:Addr}{fd:Ad}(F:Fun K "is_let_by" "is_let_by" sLet f fd)(cG:Cal P w K mg base 3 "is_shares_or_guarded_by" ["rule","guards"] (spGuard K)):FnOk P w K mg base CX0 4 f fd ["rule"] spLet:=by
 refine F.ok scLet (λvs H Q E h=>?_) (λcdv A outer s H vs Q E hr h=>?_)
 ·obtain⟨r,hr,rfl,_⟩:=h;rfl
 ·obtain⟨r,hr',rfl,k⟩:=h;refine⟨_,a4_ (a8_ (af_ cG hr (a0_ (pv 0) (a0_ (aR_ (a0_ ag_ (a0_ ag_ a2_))) a2_)))),?_⟩;refine⟨_,rfl,by show 2<=sizeLine;decide,λt ht=>?_⟩;exact⟨r,hr',t,["fall","calm"],rfl,a1_,k _ (Same.new ht)⟩
theorem scCGuard:a3' ["rule"] ["rule"] (a1' du'):=f__
def cU':Sp:=λvs H Q _=>∃r∈rl,vs=[.str r.1]/\guB ["fall","calm"] r=true/\∀H',Same H H'->Q (optV r.2.2.2) H'
theorem ho_{f:Addr}{fd:Ad}(F:Fun K "checked_guard" "checked_guard" du' f fd)(cL:Cal P w K mg base 4 "is_let_by" ["rule"] spLet)(cW:Cal P w K mg base 2 "checked_words" ["rule"] (bL' K)):FnOk P w K mg base CX0 5 f fd ["rule"] cU':=by
 refine F.ok scCGuard (λvs H Q E h=>?_) (λcdv A outer s H vs Q E hr h=>?_)
 ·obtain⟨r,hr,rfl,_⟩:=h;rfl
 ·obtain⟨r,hr',rfl,g,k⟩:=h;have hr2:Room 2 _:=hr.mono (by decide);refine⟨_,a3_ (al_ (aC_ (ay_ (af_ cL hr (a0_ (pv 0) a2_)))) (a4_ dy_) a9_) (a4_ (a8_ (au_ ap_ (af_ cW hr2 (a0_ (pv 0) a2_)) a6_ (λ_ _=>rfl)))),?_⟩;refine⟨_,rfl,r,hr',rfl,λH1 s1=>⟨_,rfl,?_⟩⟩;rw[g];refine iteF ⟨_,rfl,r,hr',rfl,λa ha=>?_⟩;exact⟨a,_,_,_,rfl,rfl,ha H1,rfl,k _ s1⟩
theorem scCWeight:a3' ["thing"] ["thing"] (a1' cR'):=f__
def cq':Sp:=λvs H Q _=>∃x:Int,vs=[.int x]/\1<=x/\x<=1000000000/\Q .non H
theorem fr_{f:Addr}{fd:Ad}{tk:Tok}(F:Fun K "check_weight" "check_weight" cR' f fd)(mW:mg "MOST_WEIGHT"=some (.int 1000000000 tk))(cW:Cal P w K mg base 2 "is_whole_within" ["thing","least","most"] cL'):FnOk P w K mg base CX0 3 f fd ["thing"] cq':=by
 refine F.ok scCWeight (λvs H Q E h=>?_) (λcdv A outer s H vs Q E hr h=>?_)
 ·obtain⟨r,rfl,_⟩:=h;rfl
 ·obtain⟨x,rfl,h1,h2,k⟩:=h;refine⟨_,a4_ (al_ (aC_ (ay_ (af_ cW hr (a0_ (pv 0) (a0_ a6_ (a0_ (bw_ (v:=.int 1000000000) (by rfl) mW ⟨_,rfl⟩) a2_)))))) (a4_ dy_) a9_),?_⟩;refine⟨_,rfl,x,1,1000000000,rfl,_,rfl,?_⟩;rw[a_2 h1,a_2 h2];exact iteF k
end
def bnd(g:Option Str)(wt m s r:Int):Int × Int:=if g=some "fall" then (wt * (s+r),2 * s * r) else if g=some "calm" then (wt * (s+r) - 1,s * r) else (wt * (s+r) * (m+1) - 1,s * r)
theorem iI_{g:Option Str}{wt m s r:Int}(w1:1<=wt)(w2:wt<=1000000000)(m0:0<=m)(m8:m<=1000)(s1:1<=s)(s2:s<=1000)(r1:1<=r)(r2:r<=1000):0<=(bnd g wt m s r).1/\0<(bnd g wt m s r).2/\(bnd g wt m s r).2<=2000000:=by
 have a:0<s * r:=Int.mul_pos Z1 Z1;have b:s * r<=1000 * 1000:=Int.mul_le_mul s2 r2 Z1 (by decide);have c:1 * 2<=wt * (s+r):=Int.mul_le_mul w1 Z1 (by decide) Z1;have d:wt * (s+r) * 1<=wt * (s+r) * (m+1):=Int.mul_le_mul_of_nonneg_left Z1 Z1;have e:2 * s * r=2 * (s * r):=Int.mul_assoc _ _ _;unfold bnd;split
 ·exact⟨by show 0<=wt * (s+r);omega,by show 0<2 * s * r;omega,by show 2 * s * r<=_;omega⟩
 ·split
  ·exact⟨by show 0<=wt * (s+r) - 1;omega,by show 0<s * r;omega,by show s * r<=_;omega⟩
  ·exact⟨by show 0<=wt * (s+r) * (m+1) - 1;omega,by show 0<s * r;omega,by show s * r<=_;omega⟩
def bZ'(hs:Xa)(ts:Xb)(m:Int):Prop:=m∈lens hs ts/\∀a∈lens hs ts,a<=m
theorem bZ'.pos{hs:Xa}{ts:Xb}{m:Int}(h:bZ' hs ts m)(G:Good hs ts):0<=m/\m<=1000:=by
 obtain⟨n,hn,rfl⟩:=af'.mp h.1;have:(near (a2' hs) (tsOf ts) n).length<=(a2' hs).length:=aW' _ _;have:=G.nlen;have:=G.h8;omega
theorem bZ'.eq{hs:Xa}{ts:Xb}{m m':Int}(h:bZ' hs ts m)(h':bZ' hs ts m'):m=m':=by
 have:=h.2 _ h'.1;have:=h'.2 _ h.1;omega
section
variable{P:Ae}{w:Af}{K:F__}{mg:Str->Option Aa}{base:Heap}
theorem c4':a3' ["web","weight","guard","tie","s","r","burden"] ["web","weight","guard","tie"] (a1' sAlong):=f__
inductive dJ' (K:F__) (C:Addr) (vs:List V) (H:Hp) (Q:VK) (E:XK):Prop
 |mk:∀(p t:Addr) (wt m:Int) (g:Option Str) (tt:Str × Str) (hs:Xa) (ts:Xb) (fp:List Addr),vs=[.ref p,.int wt,optV g,.ref t]->bd' K C H p hs ts fp->Good hs ts->H t=some (.tup ((kT tt).map kV))->tt.1∈hs.map (·.1)->tt.2∈hs.map (·.1)->1<=wt->wt<=1000000000->bZ' hs ts m->(∀a H',Same H H'->H a=none->FrAt H' a (redF (bnd g wt m (strOf hs tt.1) (strOf hs tt.2)).1 (bnd g wt m (strOf hs tt.1) (strOf hs tt.2)).2)->Q (.ref a) H')->dJ' K C vs H Q E
theorem dh_(g:Option Str)(x:Str):scal (optV g) (.str x)=true/\decide (optV g=.str x)=decide (g=some x):=by
 cases g with
 |none=>exact⟨rfl,by rw[a_7 nofun,a_7 nofun]⟩
 |some y=>
  refine⟨rfl,?_⟩;show decide (V.str y=V.str x)=_;by_cases e:y=x
  ·simp[e]
  ·simp[e]
theorem hI_{f C:Addr}{fd:Ad}(F:Fun K "gap_along" "gap_along" sAlong f fd)(T:Txt K mg C)(cS:CalM P w K mg base C 2 "strength" ["self","hand"] (bj' K C))(cM:CalM P w K mg base C 1 "most_neighbours" ["self"] (d9' K C))(cF:Cal P w K mg base 2 "fraction_of" ["top","below"] spFrac):FnOk P w K mg base CX0 3 f fd ["web","weight","guard","tie"] (dJ' K C):=by
 refine F.ok c4' (λvs H Q E h=>?_) (λcdv A outer s H vs Q E hr h=>?_)
 ·obtain⟨p,t,wt,m,g,tt,hs,ts,fp,rfl,_⟩:=h;rfl
 ·obtain⟨p,t,wt,m,g,tt,hs,ts,fp,rfl,W,G,ht,i1,i2,w1,w2,M,k⟩:=h;have sz:=b__;have hr1:Room 1 _:=hr.mono (by decide);refine' ⟨_,?r0,?kk⟩
  case' r0=>refine' a3_ ?s1 ?r1
  case' r1=>refine' a3_ ?s2 ?r2
  case' r2=>refine' a3_ ?s3 ?r3
  case' r3=>refine' a3_ ?s4 ?r4
  case' r4=>refine' a3_ ?s5 ?r5
  case' r5=>refine' a4_ ?s6
  case s1=>exact ad_ (i:=4) c4'.nd rfl (Or.inl rfl) (b2_ cS T.cl hr (pv 0) (a0_ (au_ ap_ (pv 3) a6_ (λ_ _=>rfl)) a2_))
  case s2=>exact ad_ (i:=5) c4'.nd rfl (Or.inl rfl) (b2_ cS T.cl hr (pv 0) (a0_ (au_ ap_ (pv 3) a6_ (λ_ _=>rfl)) a2_))
  case s3=>exact ad_ (i:=6) c4'.nd rfl (Or.inl rfl) (am_ aT_ (pv 1) (am_ bh_ (pv 4) (pv 5)))
  case s4=>exact al_ (ae_ b9_ (pv 2) ag_ (nomark _)) (a4_ (a8_ (af_ cF hr (a0_ (pv 6) (a0_ (am_ aT_ (am_ aT_ a6_ (pv 4)) (pv 5)) a2_))))) a9_
  case s5=>exact al_ (ae_ b9_ (pv 2) ag_ (nomark _)) (a4_ (a8_ (af_ cF hr (a0_ (am_ bM_ (pv 6) a6_) (a0_ (am_ aT_ (pv 4) (pv 5)) a2_))))) a9_
  case s6=>exact a8_ (af_ cF hr (a0_ (am_ bM_ (am_ aT_ (pv 6) (am_ bh_ (b3_ cM T.cl hr1 (pv 0)) a6_)) a6_) (a0_ (am_ aT_ (pv 4) (pv 5)) a2_)))
  case' kk=>skip
  have ht':H t=some (.tup [.str tt.1,.str tt.2]):=ht;have m1:=aQ_ i1;have m2:=aQ_ i2;have g1:=(G.hok _ m1).2;have g2:=(G.hok _ m2).2;dsimp only at g1 g2;have ok:=iI_ (g:=g) w1 w2 (M.pos G).1 (M.pos G).2 g1.1 g1.2 g2.1 g2.2;generalize strOf hs tt.1=sa at m1 g1 ok k;generalize strOf hs tt.2=sb at m2 g2 ok k;obtain⟨dx,d1,l2,d3,zs,as,efp,e1,e2,e3,e4,e5,e6,e7⟩:=W.ex;have hnS:(flds d1 l2 d3).lookup ("strength":Str)=none:=az_ _ _ _ Z0 Z0 Z0;have hnM:(flds d1 l2 d3).lookup ("most_neighbours":Str)=none:=az_ _ _ _ Z0 Z0 Z0;refine⟨_,rfl,p,dx,_,rfl,e1,hnS,_,rfl,t,_,_,_,rfl,rfl,.of ht',rfl,p,tt.1,sa,hs,ts,fp,rfl,W,G.hnd,m1,?_⟩;refine⟨_,rfl,p,dx,_,rfl,e1,hnS,_,rfl,t,_,_,_,rfl,rfl,.of ht',rfl,p,tt.2,sb,hs,ts,fp,rfl,W,G.hnd,m2,?_⟩;refine⟨_,rfl,_,rfl,_,rfl,_,_,rfl,rfl,_,_,rfl,rfl,.inl ⟨by omega,by omega⟩,?_⟩;refine⟨_,rfl,(dh_ g "fall").1,_,rfl,?_⟩;rw[(dh_ g "fall").2];unfold bnd at ok k;refine ite2 (λc=>?_) (λc=>?_)
  ·have c':g=some "fall":=by simpa using c
   rw[a_9 c'] at ok k;refine⟨_,rfl,_,rfl,_,_,rfl,rfl,.inl ⟨by decide,by decide⟩,_,rfl,_,_,rfl,rfl,.inr ⟨by omega,by omega⟩,_,_,rfl,ok.1,ok.2.1,ok.2.2,λa ha=>k a _ (Same.new ha) ha a1_⟩
  ·have c':¬g=some "fall":=by simpa using c
   rw[a_4 c'] at ok k;refine⟨_,rfl,(dh_ g "calm").1,_,rfl,?_⟩;rw[(dh_ g "calm").2];refine ite2 (λc2=>?_) (λc2=>?_)
   ·have c2':g=some "calm":=by simpa using c2
    rw[a_9 c2'] at ok k;exact⟨_,rfl,_,_,rfl,rfl,_,rfl,_,rfl,_,_,rfl,rfl,.inr ⟨by omega,by omega⟩,_,_,rfl,ok.1,ok.2.1,ok.2.2,λa ha=>k a _ (Same.new ha) ha a1_⟩
   ·have c2':¬g=some "calm":=by simpa using c2
    rw[a_4 c2'] at ok k;refine⟨_,rfl,_,rfl,p,dx,_,rfl,e1,hnM,p,hs,ts,fp,rfl,W,by rw[G.nlen];exact G.h1,by have:=G.nlen;have:=G.h8;omega,λm' H1 s1 hm1 hm2=>?_⟩;obtain rfl:m=m':=M.eq ⟨hm1,hm2⟩;have mp:=M.pos G;exact⟨_,_,rfl,rfl,_,_,rfl,rfl,.inr ⟨by omega,by omega⟩,_,_,rfl,rfl,_,rfl,_,rfl,_,_,rfl,rfl,.inr ⟨by omega,by omega⟩,_,_,rfl,ok.1,ok.2.1,ok.2.2,λa ha=>k a _ (s1.trans (Same.new ha)) (s1.free ha) a1_⟩
end
def own1(g:Option Str)(wt m:Int)(hs:Xa)(t:Str × Str):Int × Int:=bnd g wt m (strOf hs t.1) (strOf hs t.2)
def gapT(g:Option Str)(wt m:Int)(hs:Xa)(t:Str × Str):Int × Int:=redF (own1 g wt m hs t).1 (own1 g wt m hs t).2
def gapL(g:Option Str)(wt m:Int)(hs:Xa)(l:Xb):Int × Int:=gr (l.map (gapT g wt m hs))
structure Ok (wt m:Int) (hs:Xa) (ts:Xb):Prop where
 w1:1<=wt
 w2:wt<=1000000000
 G:Good hs ts
 M:bZ' hs ts m
theorem hs_{hs:Xa}{ts:Xb}(G:Good hs ts){t:Str × Str}(h:t∈tsOf ts):t.1∈hs.map (·.1)/\t.2∈hs.map (·.1):=by
 obtain⟨t0,h0,e⟩:=cb'.mp h;have:=G.tin t0 h0;rcases d9_ t0.1 t0.2 with z|z
 ·rw[z] at e;subst e;exact this
 ·rw[z] at e;subst e;exact⟨this.2,this.1⟩
section
variable{wt m:Int}{hs:Xa}{ts:Xb}{g:Option Str}{t:Str × Str}
theorem Ok.own(O:Ok wt m hs ts)(h1:t.1∈hs.map (·.1))(h2:t.2∈hs.map (·.1)):0<=(own1 g wt m hs t).1/\0<(own1 g wt m hs t).2/\(own1 g wt m hs t).2<=2000000:=by
 have g1:=(O.G.hok _ (aQ_ h1)).2;have g2:=(O.G.hok _ (aQ_ h2)).2;exact iI_ O.w1 O.w2 (O.M.pos O.G).1 (O.M.pos O.G).2 g1.1 g1.2 g2.1 g2.2
theorem jt_{t d:Int}(hd:0<d):0<(redF t d).2/\(redF t d).2<=d:=by
 obtain⟨k,k0,_,e,h0,_⟩:=j7_ (t:=t) hd;refine⟨h0,?_⟩;have:=Int.mul_le_mul_of_nonneg_right (show 1<=k by omega) (aJ' h0);omega
theorem Ok.gap(O:Ok wt m hs ts)(h1:t.1∈hs.map (·.1))(h2:t.2∈hs.map (·.1)):0<(gapT g wt m hs t).2/\(gapT g wt m hs t).2<=2000000:=by
 have a:=O.own (g:=g) h1 h2;have b:=jt_ (t:=(own1 g wt m hs t).1) a.2.1;exact⟨b.1,Int.le_trans b.2 a.2.2⟩
theorem jr_(xs:List (Int × Int))(x:Int × Int):gr (xs++[x])=grS (gr xs) x:=by
 unfold gr;rw[List.foldl_append];rfl
theorem Ok.gapL(O:Ok wt m hs ts){l:Xb}(h:∀t∈l,t.1∈hs.map (·.1)/\t.2∈hs.map (·.1)):0<(gapL g wt m hs l).2/\(gapL g wt m hs l).2<=2000000:=by
 have pos:∀x∈l.map (gapT g wt m hs),0<x.2/\x.2<=2000000:=λx hx=>by
  obtain⟨t,ht,rfl⟩:=af'.mp hx;exact O.gap (h t ht).1 (h t ht).2
 obtain⟨a,b,_⟩:=gm_ (l.map (gapT g wt m hs)) (0,1) (by decide) (λx hx=>(pos x hx).1);refine⟨a,?_⟩;rcases b with b|b
 ·unfold Ev.gapL gr;rw[b];decide
 ·exact (pos _ b).2
end
section
variable{P:Ae}{w:Af}{K:F__}{mg:Str->Option Aa}{base:Heap}
theorem em':a3' ["web","weight","rule","guard","found","tie","gap"] ["web","weight","rule"] (a1' sGap):=f__
inductive spGap (K:F__) (C:Addr) (vs:List V) (H:Hp) (Q:VK) (E:XK):Prop
 |mk:∀(p:Addr) (wt m:Int) (hs:Xa) (ts:Xb) (fp:List Addr),∀r∈rl,vs=[.ref p,.int wt,.str r.1]->guB ["fall","calm"] r=true->bd' K C H p hs ts fp->Ok wt m hs ts->(∀a H',Same H H'->H a=none->FrAt H' a (gapL r.2.2.2 wt m hs (tsOf ts))->Q (.ref a) H')->spGap K C vs H Q E
theorem ku_{f C:Addr}{fd:Ad}(F:Fun K "gap_of" "gap_of" sGap f fd)(T:Txt K mg C)(cG:Cal P w K mg base 5 "checked_guard" ["rule"] cU')(cW:Cal P w K mg base 3 "check_weight" ["thing"] cq')(cF:Cal P w K mg base 2 "fraction_of" ["top","below"] spFrac)(cT:CalM P w K mg base C 2 "ties" ["self"] (b6' K C))(cA:Cal P w K mg base 3 "gap_along" ["web","weight","guard","tie"] (dJ' K C))(cL:Cal P w K mg base 1 "is_less" ["one","other"] spLess):FnOk P w K mg base CX0 6 f fd ["web","weight","rule"] (spGap K C):=by
 refine F.ok em' (λvs H Q E h=>?_) (λcdv A outer s H vs Q E hr h=>?_)
 ·obtain⟨p,wt,m,hs,ts,fp,r,hr,rfl,_⟩:=h;rfl
 ·obtain⟨p,wt,m,hs,ts,fp,r,hr',rfl,gu,W,O,k⟩:=h;have sz:=b__;have hr1:Room 1 _:=hr.mono (by decide);have hr2:Room 2 _:=hr.mono (by decide);have hr3:Room 3 _:=hr.mono (by decide);refine' ⟨_,?r0,?kk⟩
  case' r0=>refine' a3_ ?s1 ?r1
  case' r1=>refine' a3_ ?s2 ?r2
  case' r2=>refine' a3_ ?s3 ?r3
  case' r3=>refine' a3_ ?s4 ?r4
  case' r4=>refine' a4_ ?s5
  case s1=>exact ad_ (i:=3) em'.nd rfl (Or.inl rfl) (af_ cG hr (a0_ (pv 2) a2_))
  case s2=>exact b8_ (af_ cW hr3 (a0_ (pv 1) a2_))
  case s3=>exact ad_ (i:=4) em'.nd rfl (Or.inl rfl) (af_ cF hr2 (a0_ a6_ (a0_ a6_ a2_)))
  case' s4=>refine' aV_ b_1 rfl (aj_ (b3_ cT T.cl hr2 (pv 0))) (ac_ (i:=5) em'.nd rfl (Or.inl rfl)) ?b0
  case' b0=>refine' a3_ ?b1 ?b2
  case b1=>exact ad_ (i:=6) em'.nd rfl (Or.inl rfl) (af_ cA hr3 (a0_ (pv 0) (a0_ (pv 1) (a0_ (pv 3) (a0_ (pv 5) a2_)))))
  case b2=>exact a4_ (al_ (ay_ (af_ cL hr1 (a0_ (pv 4) (a0_ (pv 6) a2_)))) (a4_ (ad_ (i:=4) em'.nd rfl (Or.inl rfl) (pv 6))) a9_)
  case s5=>exact a8_ (pv 4)
  case' kk=>skip
  obtain⟨dx,d1,l2,d3,zs,as,efp,e1,e2,e3,e4,e5,e6,e7⟩:=W.ex;have hnT:(flds d1 l2 d3).lookup ("ties":Str)=none:=az_ _ _ _ Z0 Z0 Z0;refine⟨_,rfl,r,hr',rfl,gu,λH1 s1=>?_⟩;refine⟨_,rfl,wt,rfl,O.w1,O.w2,?_⟩;refine⟨0,1,rfl,by decide,by decide,by decide,λa0 ha0=>?_⟩;have s2:=Same.new (o:=.tup [.int (fr 0 1).1,.int (fr 0 1).2]) ha0;have f2:FrAt (upd H1 a0 (.tup [.int (fr 0 1).1,.int (fr 0 1).2])) a0 (gapL r.2.2.2 wt m hs []):=a1_;have n0:=s1.free ha0;have s02:=s1.trans s2;generalize upd H1 a0 (.tup [.int (fr 0 1).1,.int (fr 0 1).2])=H2 at s02 f2 ⊢;clear s2;refine setG ?_;dsimp only;refine seqG (λσ H'=>∃(a:Addr) (v5 v6:Option V),σ=[some (.ref p),some (.int wt),some (.str r.1),some (optV r.2.2.2),some (.ref a),v5,v6]/\Same H H'/\H a=none/\FrAt H' a (gapL r.2.2.2 wt m hs (tsOf ts))) ?last ?loop
  case last=>
   rintro σ H3 ⟨a,v5,v6,rfl,s3,na,fa⟩;exact⟨_,rfl,k a H3 s3 na fa⟩
  case loop=>
   intro N hN;refine⟨_,rfl,p,dx,_,rfl,s02 _ _ e1,hnT,p,hs,ts,fp,rfl,W.same s02,O.G.t64,λl ys H3 s3 nl hl tu=>?_⟩;have s03:=s02.trans s3
   refine⟨l,rfl,⟨_,.of hl⟩,aH_ (K:=K) (a:=l) (xs:=ys) (λi σ H'=>∃(a:Addr) (v5 v6:Option V),σ=[some (.ref p),some (.int wt),some (.str r.1),some (optV r.2.2.2),some (.ref a),v5,v6]/\Same H3 H'/\H a=none/\FrAt H' a (gapL r.2.2.2 wt m hs ((tsOf ts).take i)))
    ⟨a0,none,none,rfl,Same.refl _,n0,f2.same s3⟩ (λi σ H' _ ⟨_,_,_,_,q,_⟩=>.of (q _ _ hl)) ?_ ?_⟩
   rotate_left 1
   ·rintro σ H' ⟨a,v5,v6,rfl,s4,na,fa⟩;have:=a_3 tu;rw[aa'] at this;rw[this,ao'] at fa;exact hN _ _ ⟨a,v5,v6,rfl,s03.trans s4,na,fa⟩
   rintro i y σ H4 hy ⟨a,v5,v6,rfl,s4,na,fa⟩;obtain⟨t,ht,q,rfl,hq⟩:=aL_ tu hy;have mt:=ae' ht;have ti:=hs_ O.G mt;have s04:=s03.trans s4;refine⟨_,rfl,_,rfl,_,rfl,_,rfl,p,q,wt,m,r.2.2.2,t,hs,ts,fp,rfl,W.same s04,O.G,s4 _ _ hq,ti.1,ti.2,O.w1,O.w2,O.M,λb H5 s5 nb fb=>?_⟩;have fb:FrAt H5 b (gapT r.2.2.2 wt m hs t):=fb;have pl:=O.gapL (g:=r.2.2.2) (l:=(tsOf ts).take i) λt ht=>hs_ O.G (List.mem_of_mem_take ht);have pt:=O.gap (g:=r.2.2.2) ti.1 ti.2;refine⟨_,rfl,_,rfl,a,b,_,_,rfl,fa.same s5,fb,⟨pl.1,by omega⟩,⟨pt.1,by omega⟩,_,rfl,?_⟩
   have eg:gapL r.2.2.2 wt m hs ((tsOf ts).take (i+1))=grS (gapL r.2.2.2 wt m hs ((tsOf ts).take i)) (gapT r.2.2.2 wt m hs t):=by
    unfold gapL;rw[aB_ _ ht,jr_]
   refine ite2 (λc=>?_) (λc=>?_)
   ·refine⟨_,rfl,b,_,_,rfl,s4.trans s5,s04.free nb,?_⟩;rw[eg];unfold grS;rw[a_9 (by simpa [ltF] using c)];exact fb
   ·refine⟨a,_,_,rfl,s4.trans s5,na,?_⟩;rw[eg];unfold grS;rw[a_4 (by simpa [ltF] using c)];exact fa.same s5
end
end Ev
namespace HT
open PySem PySem.Spec PyProof.Rows
end HT
namespace L2
open PySem PySem.Spec PyProof.Rows
end L2
namespace Ev
open PySem L2
structure WaysOf (ts ws:Xb):Prop where
 good:∀w∈ws,goodT w
 nd:(ws.map kO).Nodup
 inn:∀w∈ws,kO w∈ts.map kO
 len:ws.length<=ts.length
def WyAt(K:F__)(H:Hp)(v:V):Option (Xb)->Prop
 |none=>v=.non
 |some ws=>∃a ys,v=.ref a/\H a=some (.lst ys)/\a4' K H ys (ws.map kT)
variable{H':Hp}
theorem WyAt.same{K:F__}{H:Hp}{v:V}{o:Option (Xb)}(h:WyAt K H v o)(s:Same H H'):WyAt K H' v o:=by
 cases o with
 |none=>exact h
 |some ws=>
  obtain⟨a,ys,e,ha,t⟩:=h;exact⟨a,ys,e,s _ _ ha,t.same s⟩
abbrev Pc:=Str × Int × Option (Xb)
def PcAt(K:F__)(H:Hp)(y:V)(p:Pc):Prop:=∃t v,y=.ref t/\H t=some (.tup [.str p.1,.int p.2.1,v])/\WyAt K H v p.2.2
abbrev PcsAt(K:F__)(H:Hp)(ys:List V)(ps:List Pc):Prop:=Paired (PcAt K H) ys ps
structure GoodP (ts:Xb) (p:Pc):Prop where
 nm:bu' p.1=true
 w1:1<=p.2.1
 w2:p.2.1<=1000000000
 ws:∀ws,p.2.2=some ws->WaysOf ts ws
theorem PcAt.same{K:F__}{H:Hp}{y:V}{p:Pc}(h:PcAt K H y p)(s:Same H H'):PcAt K H' y p:=by
 obtain⟨t,v,e,ht,hv⟩:=h;exact⟨t,v,e,s _ _ ht,hv.same s⟩
theorem aF_{α β:Type}{F:α->β->Prop}:∀{ys ys':List α} {ks ks':List β},Paired F ys ks->Paired F ys' ks'->Paired F (ys++ys') (ks++ks')
 |_,_,_,_,.nil,h=>h
 |_,_,_,_,.cons a t,h=>.cons a (aF_ t h)
def StrV(K:F__)(H:Hp)(v:V):Option Str->Prop
 |some x=>v=.str x
 |none=>∃t,TyOf K H v t/\PySem.W.kitOne K t (.type "str")=some false
def tiedB(hs:Xa)(ts:Xb):Option Str->Option Str->Bool
 |some x,some y=>decide (x∈hs.map (·.1))&&(decide (y∈hs.map (·.1))&&decide (y∈near (a2' hs) (tsOf ts) x))
 |_,_=>false
theorem ca_(hs:Xa)(ts:Xb)(x y:Str):tiedB hs ts (some x) (some y)=(decide (x∈hs.map (·.1))&&(decide (y∈hs.map (·.1))&&decide (y∈near (a2' hs) (tsOf ts) x))):=rfl
section
variable{P:Ae}{w:Af}{K:F__}{mg:Str->Option Aa}{base:Heap}
inductive spHasA (K:F__) (C:Addr) (vs:List V) (H:Hp) (Q:VK) (E:XK):Prop
 |mk:∀(p:Addr) (v:V) (x:Option Str) (hs:Xa) (ts:Xb) (fp:List Addr),vs=[.ref p,v]->bd' K C H p hs ts fp->StrV K H v x->Q (.bl (inB (hs.map (·.1)) x)) H->spHasA K C vs H Q E
theorem jA_{f C:Addr}{fd:Ad}(F:Fun K "has_hand" "Web.has_hand" sHas f fd)(T:Txt K mg C)(B:Bi mg):FnOk P w K mg base CX0 1 f fd ["self","thing"] (spHasA K C):=by
 refine F.ok scHas (λvs H Q E h=>?_) (λcdv A outer s H vs Q E hr h=>?_)
 ·obtain⟨p,v,x,hs,ts,fp,rfl,_⟩:=h;rfl
 ·obtain⟨p,v,x,hs,ts,fp,rfl,W,sv,k⟩:=h;have hu:=ba_ hr;obtain⟨dx,d1,l2,d3,zs,as,rfl,h1,h2,h3,h4,h5,h6,h7⟩:=W.ex;refine⟨_,a4_ (a8_ (bg_ (ab_ aU_ (by rfl) B.isi PyProof.Rows.Boot.«isinstance» (a0_ (pv 1) (a0_ (b5_ (v:=.ty "str") (by rfl) B.str PyProof.Rows.Boot.«str» rfl) a2_))) (bf_ (cZ_ (cX_ hu (pv 1) (ak_ (pv 0) rfl)))))),?_⟩;cases x with
  |some x=>
   cases (show v=.str x from sv);refine⟨_,rfl,_,_,_,_,rfl,.str x,rfl,_,rfl,iteT ?_⟩;refine⟨_,rfl,_,rfl,p,C,dx,_,_,rfl,h1,T.cl,T.nS,f6_ _ _ _,d1,_,rfl,.k (k:=Sum.inr x) h2,?_⟩;rw[dp_];exact k
  |none=>
   obtain⟨t,ty,e⟩:=sv;exact⟨_,rfl,_,_,_,_,rfl,ty,e,_,rfl,iteF k⟩
inductive cS' (K:F__) (C:Addr) (vs:List V) (H:Hp) (Q:VK) (E:XK):Prop
 |mk:∀(p:Addr) (v u:V) (x y:Option Str) (hs:Xa) (ts:Xb) (fp:List Addr),vs=[.ref p,v,u]->bd' K C H p hs ts fp->(a2' hs).Nodup->StrV K H v x->StrV K H u y->Q (.bl (tiedB hs ts x y)) H->cS' K C vs H Q E
theorem hE_{f C:Addr}{fd:Ad}(F:Fun K "are_tied" "Web.are_tied" sTied f fd)(T:Txt K mg C)(cH:CalM P w K mg base C 1 "has_hand" ["self","thing"] (spHasA K C)):FnOk P w K mg base CX0 2 f fd ["self","one","other"] (cS' K C):=by
 refine F.ok scTied (λvs H Q E h=>?_) (λcdv A outer s H vs Q E hr h=>?_)
 ·obtain⟨p,v,u,x,y,hs,ts,fp,rfl,_⟩:=h;rfl
 ·obtain⟨p,v,u,x,y,hs,ts,fp,rfl,W,nd,sv,su,k⟩:=h;have hu:=ba_ hr;obtain⟨dx,d1,l2,d3,zs,as,rfl,h1,h2,h3,h4,h5,h6,h7⟩:=id W.ex;have hno:(flds d1 l2 d3).lookup ("has_hand":Str)=none:=az_ _ _ _ Z0 Z0 Z0;refine⟨_,a4_ (a8_ (bg_ (b2_ cH T.cl hr (pv 0) (a0_ (pv 1) a2_)) (bg_ (b2_ cH T.cl hr (pv 0) (a0_ (pv 2) a2_)) (bf_ (aI_ (gN_ cmpS (bG' hr 0)) (pv 2) (aP_ hu (ak_ (pv 0) rfl) (pv 1) (λ_ _=>rfl)) (by with_unfolding_all rfl)))))),?_⟩;refine⟨_,rfl,p,dx,_,rfl,h1,hno,_,rfl,p,v,x,hs,ts,_,rfl,W,sv,_,rfl,?_⟩;cases x with
  |none=>exact iteF k
  |some x=>
   cases (show v=.str x from sv);refine ite2 (λc=>?_) (λc=>?_)
   ·have hx:x∈hs.map (·.1):=of_decide_eq_true c;obtain⟨a,e1,ha⟩:=iZ_ nd hx h6 h7;refine⟨_,rfl,p,dx,_,rfl,h1,hno,_,rfl,p,u,y,hs,ts,_,rfl,W,su,_,rfl,?_⟩;cases y with
    |none=>exact iteF k
    |some y=>
     cases (show u=.str y from su);rw[ca_,a_2 hx,Bool.true_and] at k;refine ite2 (λc2=>?_) (λc2=>?_)
     ·have hy:y∈hs.map (·.1):=of_decide_eq_true c2;rw[a_2 hy,Bool.true_and] at k;refine⟨_,rfl,_,rfl,p,C,dx,_,_,rfl,h1,T.cl,T.nN,gb_ _ _ _,_,rfl,d3,.ref a,rfl,?_,y,_,rfl,⟨a,_,rfl,.of ha,bn_ _⟩,k⟩;rw[<- e1];exact .k (k:=Sum.inr x) h5
     ·have hy:¬y∈hs.map (·.1):=λz=>c2 (a_2 z);rw[a_7 hy,Bool.false_and] at k;exact k
   ·have hx:¬x∈hs.map (·.1):=λz=>c (a_2 z);cases y with
    |none=>exact k
    |some y=>
     rw[ca_,a_7 hx,Bool.false_and] at k;exact k
theorem iF_{hs:Xa}{ts ws:Xb}(G:Good hs ts)(W:WaysOf ts ws){t:Str × Str}(ht:t∈tsOf ws):tiedB hs ts (some t.1) (some t.2)=true:=by
 obtain⟨x,hx,ex⟩:=cb'.mp ht;obtain⟨u,hu,eu⟩:=af'.mp (W.inn x hx);have eo:ord2 u.1 u.2=t:=(eL_ eu).trans ex
 have both:t.1∈hs.map (·.1)/\t.2∈hs.map (·.1)/\ord2 t.1 t.2=t:=by
  obtain⟨g1,g2⟩:=G.tin u hu;rcases d9_ u.1 u.2 with e|e
  ·rw[<- eo,e];exact⟨g1,g2,e⟩
  ·rw[<- eo,e];exact⟨g2,g1,(gp_ _ _).trans e⟩
 obtain⟨m1,m2,m3⟩:=both;have m4:t.2∈near (a2' hs) (tsOf ts) t.1:=List.mem_filter.mpr ⟨(aw_ hs).mem_iff.mpr m2,a_2 (by rw[m3];exact cb'.mpr ⟨u,hu,eo⟩)⟩;rw[ca_,a_2 m1,a_2 m2,a_2 m4];rfl
theorem c3':a3' ["web","ways","found","one","other"] ["web","ways"] (a1' sCWays):=f__
inductive dN' (K:F__) (C:Addr) (vs:List V) (H:Hp) (Q:VK) (E:XK):Prop
 |mk:∀(p:Addr) (v:V) (o:Option (Xb)) (hs:Xa) (ts:Xb) (fp:List Addr),vs=[.ref p,v]->bd' K C H p hs ts fp->Good hs ts->WyAt K H v o->(∀ws,o=some ws->WaysOf ts ws)->(∀v' H',Same H H'->WyAt K H' v' (o.map tsOf)->(∀a,v'=.ref a->H a=none)->Q v' H')->dN' K C vs H Q E
theorem hW_{f C:Addr}{fd:Ad}(F:Fun K "checked_ways" "checked_ways" sCWays f fd)(T:Txt K mg C)(cS:Cal P w K mg base 3 "sorted_ties" ["ties"] (dg' K))(cT:CalM P w K mg base C 2 "are_tied" ["self","one","other"] (cS' K C)):FnOk P w K mg base CX0 4 f fd ["web","ways"] (dN' K C):=by
 refine F.ok c3' (λvs H Q E h=>?_) (λcdv A outer s H vs Q E hr h=>?_)
 ·obtain⟨p,v,o,hs,ts,fp,rfl,_⟩:=h;rfl
 ·obtain⟨p,v,o,hs,ts,fp,rfl,W,G,wy,gw,k⟩:=h;have hu:=ba_ hr;have hr2:Room 2 _:=hr.mono (by decide)
  refine⟨_,a3_ (al_ (cd_ (dG_ (pv 1))) (a4_ (a8_ g3_)) a9_)
   (a3_ (ad_ (i:=2) c3'.nd rfl (Or.inl rfl) (af_ cS hr (a0_ (pv 1) a2_)))
   (a3_ (al_ (cd_ (dG_ (pv 2))) ah_ a9_)
   (a3_ (aV_ b_1 rfl (aj_ (pv 2)) (bR_ rfl (aq_ (ac_ (i:=3) c3'.nd rfl (Or.inl rfl)) (aq_ (ac_ (i:=4) c3'.nd rfl (Or.inl rfl)) bc_)))
    (a4_ (al_ (aC_ (ay_ (b2_ cT T.cl hr2 (pv 0) (a0_ (pv 3) (a0_ (pv 4) a2_))))) ah_ a9_)))
   (a4_ (a8_ (pv 2)))))),?_⟩
  cases o with
  |none=>
   cases (show v=.non from wy);exact⟨_,rfl,_,rfl,iteT (k .non H (Same.refl H) rfl (λa z=>by cases z))⟩
  |some ws=>
   obtain⟨a,ys,rfl,ha,tu⟩:=wy;have Wo:=gw ws rfl;refine⟨_,rfl,_,rfl,iteF ?_⟩;refine⟨_,rfl,a,ys,ws,rfl,ha,tu,Wo.good,Wo.nd,by have:=Wo.len;have:=G.t64;omega,λl' zs H1 s1 hf hl1 tz=>?_⟩;refine⟨_,rfl,_,rfl,iteF ?_⟩;have W1:=W.same s1;obtain⟨dx,d1,l2,d3,zs0,as,rfl,h1,h2,h3,h4,h5,h6,h7⟩:=id W1.ex;have hno:(flds d1 l2 d3).lookup ("are_tied":Str)=none:=az_ _ _ _ Z0 Z0 Z0;rw[<- bX_] at tz;refine⟨_,rfl,l',rfl,⟨_,.of hl1⟩,aH_ (K:=K) (a:=l') (xs:=zs) (λi σ H2=>∃(v3 v4:Option V),σ=[some (.ref p),some (.ref a),some (.ref l'),v3,v4]/\H2=H1) ⟨none,none,rfl,rfl⟩ (λi σ H2 _ ⟨_,_,_,e⟩=>by subst e;exact .of hl1) ?_ ?_⟩
   ·rintro i y σ H2 hy ⟨v3,v4,rfl,rfl⟩;obtain⟨t,ht,q,rfl,hq⟩:=aL_ tz hy;refine⟨q,_,rfl,.of (hpT hq),rfl,_,_,rfl,_,_,rfl,rfl,?_⟩;refine⟨_,rfl,p,dx,_,rfl,h1,hno,_,rfl,_,rfl,p,_,_,some t.1,some t.2,hs,ts,_,rfl,W1,G.nnd,rfl,rfl,_,rfl,?_⟩;rw[iF_ G Wo (ae' ht)];refine iteF ?_;exact⟨_,_,rfl,rfl⟩
   ·rintro σ H2 ⟨v3,v4,rfl,rfl⟩;exact⟨_,rfl,k (.ref l') _ s1 ⟨l',zs,rfl,hl1,tz⟩ (λc z=>by cases z;exact hf)⟩
def nrm(p:Pc):Pc:=(p.1,p.2.1,p.2.2.map tsOf)
def b9'(K:F__)(H0 H:Hp)(y:V)(p:Pc):Prop:=∃t v,y=.ref t/\H t=some (.tup [.str p.1,.int p.2.1,v])/\WyAt K H v p.2.2/\∀a,v=.ref a->H0 a=none
theorem b9'.same{K:F__}{H0 H:Hp}{y:V}{p:Pc}(h:b9' K H0 H y p)(s:Same H H'):b9' K H0 H' y p:=by
 obtain⟨t,v,e,ht,hv,hn⟩:=h;exact⟨t,v,e,s _ _ ht,hv.same s,hn⟩
theorem WyAt.up{K:F__}{H:Hp}{D:Addr}{u:HO}{v:V}{o:Option (Xb)}(h:WyAt K H v o)(n1:∀xs,H D≠some (.lst xs))(n2:∀xs,H D≠some (.tup xs)):WyAt K (upd H D u) v o:=by
 cases o with
 |none=>exact h
 |some ws=>
  obtain⟨a,ys,e,ha,t⟩:=h;exact⟨a,ys,e,by rw[a5_ (λz:a=D=>n1 ys (z▸ha))];exact ha,Paired.mapP t λy k ⟨b,z,q⟩=>⟨b,z,by rw[a5_ (λz:b=D=>n2 _ (z▸q))];exact q⟩⟩
theorem b9'.up{K:F__}{H0 H:Hp}{D:Addr}{u:HO}{y:V}{p:Pc}(h:b9' K H0 H y p)(n1:∀xs,H D≠some (.lst xs))(n2:∀xs,H D≠some (.tup xs)):b9' K H0 (upd H D u) y p:=by
 obtain⟨t,v,e,ht,hv,hn⟩:=h;exact⟨t,v,e,by rw[a5_ (λz:t=D=>n2 _ (z▸ht))];exact ht,hv.up n1 n2,hn⟩
theorem dc_{ps:List Pc}{cs:List V}(nd:(ps.map (·.1)).Nodup)(hl:cs.length=ps.length):∀{j:Nat} {q:Pc} {c:V},ps[j]? = some q->cs[j]? = some c->valV ((ps.zip cs).map λq=>((Sum.inr q.1.1:Key),q.2)) (Sum.inr q.1)=some c:=by
 induction ps generalizing cs with
 |nil=>
  intro j q c h;simp at h
 |cons p ps ih=>
  intro j q c h1 h2;cases cs with
  |nil=>cases hl
  |cons b cs=>
   rw[av'] at nd;obtain⟨n1,n2⟩:=aP'.mp nd;cases j with
   |zero=>
    have e1:p=q:=by simpa using h1
    have e2:b=c:=by simpa using h2
    subst e1 e2;exact bp_ rfl
   |succ j=>
    have h1:ps[j]? = some q:=by simpa using h1
    have h2:cs[j]? = some c:=by simpa using h2
    show valV ((Sum.inr p.1,b)::((ps.zip cs).map λq=>((Sum.inr q.1.1:Key),q.2))) (Sum.inr q.1)=_;rw[bl_ λe=>n1 (by rw[show p.1=q.1 from b_5 e];exact af'.mpr ⟨q,ae' h1,rfl⟩)];exact ih n2 (by simpa using hl) h1 h2
theorem scCPiece:a3' ["web","piece"] ["web","piece"] (a1' dq'):=f__
inductive c0' (K:F__) (C:Addr) (vs:List V) (H:Hp) (Q:VK) (E:XK):Prop
 |mk:∀(p:Addr) (y:V) (q:Pc) (hs:Xa) (ts:Xb) (fp:List Addr),vs=[.ref p,y]->bd' K C H p hs ts fp->Good hs ts->PcAt K H y q->GoodP ts q->(∀y' H',Same H H'->b9' K H H' y' (nrm q)->Q y' H')->c0' K C vs H Q E
theorem hd_{f C:Addr}{fd:Ad}(F:Fun K "checked_piece" "checked_piece" dq' f fd)(B:Bi mg)(cN:Cal P w K mg base 1 "is_name" ["thing"] d2')(cW:Cal P w K mg base 2 "is_whole_within" ["thing","least","most"] cL')(cC:Cal P w K mg base 4 "checked_ways" ["web","ways"] (dN' K C)){tk:Tok}(mW:mg "MOST_WEIGHT"=some (.int 1000000000 tk)) :
  FnOk P w K mg base CX0 5 f fd ["web","piece"] (c0' K C):=by
 refine F.ok scCPiece (λvs H Q E h=>?_) (λcdv A outer s H vs Q E hr h=>?_)
 ·obtain⟨p,y,q,hs,ts,fp,rfl,_⟩:=h;rfl
 ·obtain⟨p,y,q,hs,ts,fp,rfl,W,G,⟨t,v,rfl,ht,wy⟩,gp,k⟩:=h;have hr1:Room 1 _:=hr.mono (by decide);have hr2:Room 2 _:=hr.mono (by decide)
  refine⟨_,a3_ (al_ (cI_ (aC_ (ay_ (ab_ aU_ (by rfl) B.isi PyProof.Rows.Boot.«isinstance» (a0_ (pv 1) (a0_ (b5_ (v:=.ty "tuple") (by rfl) B.tuple PyProof.Rows.Boot.«tuple» rfl) a2_)))))
    (bF_ (ae_ df_ (ab_ av_ (by rfl) B.len b_8 (a0_ (pv 1) a2_)) a6_ (nomark _)))).pt ah_ a9_)
   (a3_ (al_ (aC_ (ay_ (af_ cN hr1 (a0_ (au_ ap_ (pv 1) a6_ (λ_ _=>rfl)) a2_)))) ah_ a9_)
   (a3_ (al_ (aC_ (ay_ (af_ cW hr2 (a0_ (au_ ap_ (pv 1) a6_ (λ_ _=>rfl)) (a0_ a6_ (a0_ (bw_ (v:=.int 1000000000) (by rfl) mW ⟨tk,rfl⟩) a2_)))))) ah_ a9_)
   (a4_ (a8_ (aR_ (a0_ (au_ ap_ (pv 1) a6_ (λ_ _=>rfl)) (a0_ (au_ ap_ (pv 1) a6_ (λ_ _=>rfl)) (a0_ (af_ cC hr (a0_ (pv 0) (a0_ (au_ ap_ (pv 1) a6_ (λ_ _=>rfl)) a2_))) a2_)))))))),?_⟩
  refine⟨_,rfl,_,_,_,_,rfl,.tup ht,rfl,_,rfl,iteF ?_⟩;refine⟨_,rfl,t,_,rfl,.inr (.of ht),rfl,_,rfl,?_⟩;refine iteNS (show V.int ((3:Nat):Int)=V.int 3 from rfl) ?_;refine⟨_,rfl,t,_,_,_,rfl,rfl,.of ht,rfl,q.1,rfl,by have:=bV_ gp.nm;omega,λH1 s1=>⟨_,rfl,?_⟩⟩;rw[gp.nm];refine iteF ?_;have ht1:=s1 _ _ ht;refine⟨_,rfl,t,_,_,_,rfl,rfl,.of ht1,rfl,q.2.1,1,1000000000,rfl,_,rfl,?_⟩;rw[a_2 gp.w1,a_2 gp.w2];refine iteF ?_;refine⟨_,rfl,t,_,_,_,rfl,rfl,.of ht1,rfl,_,rfl,t,_,_,_,rfl,rfl,.of ht1,rfl,_,rfl,_,rfl,t,_,_,_,rfl,rfl,.of ht1,rfl,p,v,q.2.2,hs,ts,fp,rfl,W.same s1,G,wy.same s1,gp.ws,λv' H2 s2 wy2 hf=>?_⟩;refine⟨by show 3<=sizeLine;decide,λt' ht'=>?_⟩;exact k (.ref t') _ (s1.trans (s2.trans (Same.new ht'))) ⟨t',v',rfl,a1_,wy2.same (Same.new ht'),λa z=>s1.free (hf a z)⟩
theorem bR':a3' ["web","pieces","found","piece","checked"] ["web","pieces"] (a1' cK'):=f__
structure Qs (ps qs:List Pc):Prop where
 nms:qs.map (·.1)=bt' (ps.map (·.1))
 mem:∀q∈qs,∃p∈ps,q=nrm p
inductive cn' (K:F__) (C:Addr) (vs:List V) (H:Hp) (Q:VK) (E:XK):Prop
 |mk:∀(p l:Addr) (ys:List V) (ps:List Pc) (hs:Xa) (ts:Xb) (fp:List Addr),vs=[.ref p,.ref l]->bd' K C H p hs ts fp->Good hs ts->H l=some (.lst ys)->PcsAt K H ys ps->(∀q∈ps,GoodP ts q)->(ps.map (·.1)).Nodup->ps.length<64->(∀l' zs qs H',Same H H'->H' l'=some (.lst zs)->Paired (b9' K H H') zs qs->Qs ps qs->Q (.ref l') H')->cn' K C vs H Q E
theorem nw__{H:Hp}{a:Addr}{o:HO}(n:H a=none):Same H (upd H a o)/\upd H a o a=some o:=⟨Same.new n,a1_⟩
theorem fM_{f C:Addr}{fd:Ad}(F:Fun K "checked_pieces" "checked_pieces" cK' f fd)(B:Bi mg)(cP:Cal P w K mg base 5 "checked_piece" ["web","piece"] (c0' K C)):FnOk P w K mg base CX0 6 f fd ["web","pieces"] (cn' K C):=by
 refine F.ok bR' (λvs H Q E h=>?_) (λcdv A outer s H vs Q E hr h=>?_)
 ·obtain⟨p,l,ys,ps,hs,ts,fp,rfl,_⟩:=h;rfl
 ·obtain⟨p,l,ys,ps,hs,ts,fp,rfl,W,G,hl,pc,gp,nd,h64,k⟩:=h;have hu:=ba_ hr;have sz:=b__;have le:=a_3 pc
  refine⟨_,a3_ (al_ (aC_ (ay_ (ab_ aU_ (by rfl) B.isi PyProof.Rows.Boot.«isinstance» (a0_ (pv 1) (a0_ (b5_ (v:=.ty "list") (by rfl) B.list PyProof.Rows.Boot.«list» rfl) a2_))))) ah_ a9_)
   (a3_ (ad_ (i:=2) bR'.nd rfl (Or.inr rfl) ck_)
   (a3_ (aV_ b_1 rfl (aj_ (pv 1)) (ac_ (i:=3) bR'.nd rfl (Or.inl rfl))
    (a3_ (ad_ (i:=4) bR'.nd rfl (Or.inl rfl) (af_ cP hr (a0_ (pv 0) (a0_ (pv 3) a2_))))
    (a3_ (al_ (cd_ (cX_ hu (au_ ap_ (pv 4) a6_ (λ_ _=>rfl)) (pv 2))) ah_ a9_)
    (a4_ (bv_ hu (pv 2) (au_ ap_ (pv 4) a6_ (λ_ _=>rfl)) (pv 4) rfl)))))
   (a4_ (a8_ (aO_ ["name","found"] 1 [2] (aj_ (ab_ (cs_ rfl) (by rfl) B.sorted PyProof.Rows.Boot.«sorted» (a0_ (pv 2) a2_))) (λfp s H=>ac_ (i:=0) (show (["name","found"]:List Str).Nodup by decide +kernel) rfl (Or.inl rfl)) (λfp s H=>aK_)
    (λfp s H=>aP_ hu (pv 1) (pv 0) (λ_ _=>rfl))))))),?_⟩
  refine⟨_,rfl,_,_,_,_,rfl,.lst hl,rfl,_,rfl,iteF ?_⟩;intro d hd;have s0:Same H (upd H d (.dK [])):=Same.new hd;refine⟨_,rfl,l,rfl,⟨_,.of (s0 _ _ hl)⟩,aH_ (K:=K) (a:=l) (xs:=ys) (λi σ H2=>∃(v3 v4:Option V) (cs:List V),σ=[some (.ref p),some (.ref l),some (.ref d),v3,v4]/\Same H H2/\Paired (b9' K H H2) cs ((ps.take i).map nrm)/\H2 d=some (.dK (((ps.take i).zip cs).map λq=>(Sum.inr q.1.1,q.2)))) ⟨none,none,[],rfl,s0,.nil,a1_⟩ (λi σ H2 _ ⟨_,_,_,_,s2,_⟩=>.of (s2 _ _ hl)) ?_ ?_⟩
  ·rintro i y σ H2 hy ⟨v3,v4,cs,rfl,s2,pn,hd2⟩;have hi:i<ys.length:=(ac'.mp hy).1;have hq:ps[i]? = some (ps[i]' Z1):=ab' Z1;have py:=an_ pc i hi Z1;rw[(ac'.mp hy).2] at py;generalize ps[i]' Z1=q at hq py;refine⟨_,rfl,_,rfl,p,y,q,hs,ts,fp,rfl,W.same s2,G,py.same s2,gp q (ae' hq),λy' H3 s3 pw=>?_⟩;obtain⟨t,v,rfl,ht,wy,hf⟩:=pw;have hd3:=s3 _ _ hd2;have lc:=a_3 pn;rw[aa',am'] at lc
   have keys:((((ps.take i).zip cs).map λq=>((Sum.inr q.1.1:Key),q.2)).map (·.1))=((ps.take i).map (·.1)).map Sum.inr:=by
    rw[ak'];have:((λx:Key × V=>x.1) ∘ λq:Pc × V=>((Sum.inr q.1.1:Key),q.2))=(λp:Pc=>(Sum.inr p.1:Key)) ∘ Prod.fst:=rfl;rw[this,<- ak',List.map_fst_zip (by rw[am'];omega),ak'];rfl
   have nov:valV (((ps.take i).zip cs).map λq=>((Sum.inr q.1.1:Key),q.2)) (Sum.inr q.1)=none:=aN_ (by
    rw[keys];intro m;obtain⟨x,hx,e⟩:=af'.mp m;cases e;exact bi_ (g:=λp:Pc=>p.1) nd hq hx)
   refine⟨_,rfl,t,_,_,_,rfl,rfl,.of ht,rfl,_,rfl,d,_,rfl,.k (k:=Sum.inr q.1) hd3,_,rfl,?_⟩;rw[nov];refine iteF ?_;refine⟨_,rfl,_,rfl,_,rfl,t,_,_,_,rfl,rfl,.of ht,rfl,d,_,rfl,.k (k:=Sum.inr q.1) hd3 (by rw[aa',List.length_zip,am'];omega),?_⟩;have s23:=s2.trans s3;have n1:∀xs,H3 d≠some (.lst xs):=λxs z=>by rw[hd3] at z;cases z
   have n2:∀xs,H3 d≠some (.tup xs):=λxs z=>by rw[hd3] at z;cases z
   refine⟨_,_,cs++[.ref t],rfl,λc o e=>?_,?_,?_⟩
   ·rw[a5_ (a7_ e hd)];exact s23 _ _ e
   ·rw[aw',hq,an'];exact aF_ (Paired.mapP pn λy q h=>(h.same s3).up n1 n2) (.cons (b9'.up ⟨t,v,rfl,ht,wy,λa z=>s2.free (hf a z)⟩ n1 n2) .nil)
   ·rw[a1_,bB_ _ nov,aw',hq,List.zip_append (by rw[am'];omega),an'];rfl
  ·rintro σ H2 ⟨v3,v4,cs,rfl,s2,pn,hd2⟩;rw[le,ao'] at pn hd2;have lc:=a_3 pn;rw[aa'] at lc
   have keys:(((ps.zip cs).map λq=>((Sum.inr q.1.1:Key),q.2)).map (·.1))=(ps.map (·.1)).map Sum.inr:=by
    rw[ak'];have:((λx:Key × V=>x.1) ∘ λq:Pc × V=>((Sum.inr q.1.1:Key),q.2))=(λp:Pc=>(Sum.inr p.1:Key)) ∘ Prod.fst:=rfl;rw[this,<- ak',List.map_fst_zip Z1,ak'];rfl
   refine⟨_,rfl,d,_,ps.map (·.1),rfl,hd2,keys,by rw[aa'];exact h64,λls hls=>?_⟩;obtain⟨s3,hl3⟩:=nw__ (o:=.lst ((bt' (ps.map (·.1))).map V.str)) hls;refine⟨ls,rfl,⟨_,.of hl3⟩,λD hD=>?_⟩;generalize upd H2 ls (.lst ((bt' (ps.map (·.1))).map V.str))=H3 at s3 hl3 hD ⊢;have lss:(bt' (ps.map (·.1))).length=ps.length:=by rw[(b1_ _).length_eq,aa']
   refine as_ (own:=1) (fv:=[some (.ref d)]) (xs:=(bt' (ps.map (·.1))).map V.str) rfl gok1 (λi out H'=>∃qs:List Pc,Same H3 H'/\H' D=some (.lst out)/\Paired (b9' K H H2) out qs/\qs.map (·.1)=(bt' (ps.map (·.1))).take i/\∀q∈qs,∃p∈ps,q=nrm p) ⟨[],Same.new hD,a1_,.nil,rfl,by simp⟩ (λi out H' _ ⟨_,sm,_⟩=>.of (sm _ _ hl3)) (λzs H4 ⟨qs,s4,hD4,pq,en,mem⟩=>?_) (λi x out H' hx ⟨qs,sm,hD',pq,en,mem⟩=>?_)
   ·rw[aa',ao'] at en;exact k D zs qs H4 (s2.trans (s3.trans s4)) hD4 (Paired.mapP pq λy q h=>h.same (s3.trans s4)) ⟨en,mem⟩
   ·obtain⟨n,hn,rfl⟩:=ai_ hx;have hm:n∈ps.map (·.1):=(b1_ _).mem_iff.mp (ae' hn);obtain⟨q,hq,eq⟩:=af'.mp hm;obtain⟨j,hj,ej⟩:=aB' hq;have hqj:ps[j]? = some q:=by rw[ab' hj,ej]
    have hcj:cs[j]? = some (cs[j]' Z1):=ab' Z1;have hv:=dc_ nd lc hqj hcj;have pj:=an_ pn j Z1 (by rw[aa'];omega);rw[List.getElem_map,ej] at pj;generalize cs[j]' Z1=c at hcj hv pj;rw[eq] at hv;have lo:=a_3 pq;have lq:=b_9 List.length en;rw[aa',am'] at lq;have hi:i<(bt' (ps.map (·.1))).length:=(ac'.mp hn).1;refine⟨_,rfl,rfl,λNx hN=>yesT ?_⟩;refine⟨_,rfl,_,rfl,d,c,rfl,?_,out,hD',by omega,hN _ _ ⟨qs++[nrm q],ar_ sm hD,a1_,?_,?_,?_⟩⟩
    ·rw[<- hv];exact .k (k:=Sum.inr n) (sm _ _ (s3 _ _ hd2))
    ·exact aF_ pq (.cons pj .nil)
    ·rw[an',en,aw',hn,<- eq];rfl
    ·intro q' hq';rcases au'.mp hq' with hq'|hq'
     ·exact mem q' hq'
     ·obtain rfl:q'=nrm q:=by simpa using hq'
      exact⟨q,hq,rfl⟩
end
abbrev sGInit:Stmt:=bc' cC' 0
abbrev sGHas:Stmt:=bc' cC' 1
abbrev dz':Stmt:=bc' cC' 2
abbrev cN':Stmt:=bc' cC' 3
abbrev sGMay:Stmt:=bc' cC' 5
abbrev sGFree:Stmt:=bc' cC' 6
def gflds(p dw dy:Addr):List (Str × V):=putF "ways_by_name" (.ref dy) (putF "weight_by_name" (.ref dw) (putF "web" (.ref p) []))
theorem g12:¬(("web":Str)="weight_by_name"):=by decide +kernel
theorem g13:¬(("web":Str)="ways_by_name"):=by decide +kernel
theorem g23:¬(("weight_by_name":Str)="ways_by_name"):=by decide +kernel
theorem aJ_(p dw dy:Addr):(gflds p dw dy).lookup ("web":Str)=some (.ref p):=by
 unfold gflds;rw[aa_,a_4 g13,aa_,a_4 g12,aa_,a_9 rfl]
theorem eA_(p dw dy:Addr):(gflds p dw dy).lookup ("weight_by_name":Str)=some (.ref dw):=by
 unfold gflds;rw[aa_,a_4 g23,aa_,a_9 rfl]
theorem hw_(p dw dy:Addr):(gflds p dw dy).lookup ("ways_by_name":Str)=some (.ref dy):=by
 unfold gflds;rw[aa_,a_9 rfl]
theorem aE_(p dw dy:Addr){m:Str}(h1:¬m="web")(h2:¬m="weight_by_name")(h3:¬m="ways_by_name"):(gflds p dw dy).lookup m=none:=by
 unfold gflds;rw[aa_,a_4 h3,aa_,a_4 h2,aa_,a_4 h1]
 all_goals rfl
def wKV(qs:List Pc):List (Key × V):=qs.map λq=>(Sum.inr q.1,V.int q.2.1)
def yKV(qs:List Pc)(vs:List V):List (Key × V):=(qs.zip vs).map λx=>(Sum.inr x.1.1,x.2)
theorem eN_(qs:List Pc):(wKV qs).map (·.1)=(qs.map (·.1)).map Sum.inr:=by
 unfold wKV;rw[ak',ak'];rfl
variable{qs:List Pc}
theorem hT_{vs:List V}(h:vs.length=qs.length):(yKV qs vs).map (·.1)=(qs.map (·.1)).map Sum.inr:=by
 unfold yKV;rw[ak'];have:((λx:Key × V=>x.1) ∘ λq:Pc × V=>((Sum.inr q.1.1:Key),q.2))=(λp:Pc=>(Sum.inr p.1:Key)) ∘ Prod.fst:=rfl;rw[this,<- ak',List.map_fst_zip Z1,ak'];rfl
structure a6' (K:F__) (CG CW:Addr) (H:Hp) (g p:Addr) (hs:Xa) (ts:Xb) (qs:List Pc) (fp:List Addr):Prop where
 ex:∃(dx dw dy:Addr) (vs:List V) (fpw:List Addr),H g=some (.ins CG dx (gflds p dw dy))/\bd' K CW H p hs ts fpw/\H dw=some (.dK (wKV qs))/\H dy=some (.dK (yKV qs vs))/\Paired (λv (q:Pc)=>WyAt K H v q.2.2) vs qs /\
  g∈fp/\dw∈fp/\dy∈fp/\(∀b∈fpw,b∈fp)/\∀v∈vs,∀a,v=.ref a->a∈fp
theorem bH_{α β:Type}{F G:α->β->Prop}:∀{l:List α} {m:List β},Paired F l m->(∀a∈l,∀b,F a b->G a b)->Paired G l m
 |_,_,.nil,_=>.nil
 |_,_,.cons h t,f=>.cons (f _ ag' _ h) (bH_ t λa ha=>f a (ad' _ ha))
theorem WyAt.keep{K:F__}{H:Hp}{v:V}{o:Option (Xb)}(h:WyAt K H v o)(k:∀a,v=.ref a->∀u,H a=some u->H' a=some u)(kt:∀b xs,H b=some (.tup xs)->H' b=some (.tup xs)):WyAt K H' v o:=by
 cases o with
 |none=>exact h
 |some ws=>
  obtain⟨a,ys,e,ha,t⟩:=h;exact⟨a,ys,e,k a e _ ha,Paired.mapP t λy q ⟨b,z,hb⟩=>⟨b,z,kt _ _ hb⟩⟩
variable{fp:List Addr}
theorem a6'.keep{K:F__}{CG CW:Addr}{H:Hp}{g p:Addr}{hs:Xa}{ts:Xb}(G:a6' K CG CW H g p hs ts qs fp)(k:∀b∈fp,∀o,H b=some o->H' b=some o)(kt:∀b xs,H b=some (.tup xs)->H' b=some (.tup xs)):a6' K CG CW H' g p hs ts qs fp:=by
 obtain⟨dx,dw,dy,vs,fpw,h1,h2,h3,h4,h5,m1,m2,m3,m4,m5⟩:=G.ex;exact⟨dx,dw,dy,vs,fpw,k _ m1 _ h1,h2.keep (λb hb o e=>k b (m4 b hb) o e) kt,k _ m2 _ h3,k _ m3 _ h4,bH_ h5 λv hv q h=>h.keep (λa z u e=>k a (m5 v hv a z) u e) kt,m1,m2,m3,m4,m5⟩
theorem a6'.same{K:F__}{CG CW:Addr}{H:Hp}{g p:Addr}{hs:Xa}{ts:Xb}(G:a6' K CG CW H g p hs ts qs fp)(s:Same H H'):a6' K CG CW H' g p hs ts qs fp:=G.keep (λb _ o e=>s b o e) λb xs e=>s b _ e
structure TxtG (K:F__) (CG:Addr):Prop where
 cl:Cls K CG
 nW:bs' K CG "web"
 nG:bs' K CG "weight_by_name"
 nY:bs' K CG "ways_by_name"
structure InsK (K:F__) (C:Addr):Prop where
 ha:PySem.W.findIn K (.ref C) "__class__"=some (some (.builtin "object.__class__"))
 hn:PySem.W.specialIn K (.builtin "object.__class__") "__get__"=some (some (.builtin "getset_descriptor.__get__"))
 tk:PySem.W.takesIn K (.builtin "object.__class__")=some true
 mo:PySem.W.mroIn K C (.type "object")=some true
theorem ib_(K:F__)(c:Aa):PySem.W.kitOne K c c=some true:=by
 unfold PySem.W.kitOne;rw[a_9 (beq_self_eq_true c)]
theorem fa_{K:F__}{H0 H:Hp}:∀{zs:List V} {qs:List Pc},Paired (b9' K H0 H) zs qs->∃vs:List V,vs.length=qs.length/\Paired (λz (x:Pc × V)=>∃t,z=.ref t/\H t=some (.tup [.str x.1.1,.int x.1.2.1,x.2])) zs (qs.zip vs)/\Paired (λv (q:Pc)=>WyAt K H v q.2.2) vs qs/\∀v∈vs,∀a,v=.ref a->H0 a=none
 |_,_,.nil=>⟨[],rfl,.nil,.nil,by simp⟩
 |_,_,.cons ⟨t,v,e,ht,wy,hn⟩ r=>by
  obtain⟨vs,h1,h2,h3,h4⟩:=fa_ r;refine⟨v::vs,by simp[h1],.cons ⟨t,e,ht⟩ h2,.cons wy h3,λu hu=>?_⟩;rcases al'.mp hu with rfl|hu
  ·exact hn
  ·exact h4 u hu
theorem eK_{K:F__}{l D:Addr}{zs:List V}{xs:List (Pc × V)}{H:Hp}{Q:VK}{σ0:St}{j:Nat}(sel:Pc × V->V)(hj:∀x:Pc × V,[some (V.str x.1.1),some (V.int x.1.2.1),some x.2][j]? = some (some (sel x)))(hσ:σ0=[none,none,none])(hl:H l=some (.lst zs))
  (pz:Paired (λz (x:Pc × V)=>∃t,z=.ref t/\H t=some (.tup [.str x.1.1,.int x.1.2.1,x.2])) zs xs) (h1000:xs.length<=1000) (hD:H D=none)
  (q:∀H' out,Same H H'->H' D=some (.lst out)->bh' K H' out (xs.map λx=>(Sum.inr x.1.1,sel x))->Q (.ref D) H') :
  CompW (Itl K l) (gTup K 3 (cA' (b4' 0) (cA' (b4' 1) (cA' (b4' 2) gNil)))) tYes (tTup (tCons (tVar 0) (tCons (tVar j) tNil))) σ0 D H Q:=by
 have sz:=b__;have le:=a_3 pz;refine as_ (own:=3) (fv:=[]) (xs:=zs) hσ gok3 (λi out H'=>Same H H'/\H' D=some (.lst out)/\bh' K H' out ((xs.take i).map λx=>(Sum.inr x.1.1,sel x))) ⟨Same.new hD,a1_,.nil⟩ (λi out H' _ ⟨sm,_,_⟩=>.of (sm _ _ hl)) (λout H4 ⟨sm,hD4,eo⟩=>?_) (λi y out H' hy ⟨sm,hD',eo⟩=>?_)
 ·rw[le,ao'] at eo;exact q _ _ sm hD4 eo
 ·have hi:i<zs.length:=(ac'.mp hy).1;have hx:xs[i]? = some (xs[i]' Z1):=ab' Z1;obtain⟨t,et,ht⟩:=an_ pz i hi Z1;rw[(ac'.mp hy).2] at et;subst et;generalize xs[i]' Z1=x at hx ht;have lo:=a_3 eo;rw[aa',am'] at lo;refine⟨_,⟨t,_,_,_,rfl,.of (sm _ _ ht),rfl⟩,rfl,λNx hN=>yesT ?_⟩;refine⟨_,rfl,_,hj x,by show 2<=sizeLine;decide,λp hp=>?_⟩;have s2:=Same.new (o:=.tup [.str x.1.1,sel x]) hp;refine⟨out,s2 _ _ hD',by omega,hN _ _ ⟨ar_ (sm.trans s2) hD,a1_,?_⟩⟩;rw[aB_ _ hx];have pD:∀{b:Addr} {ys:List V},upd H' p (.tup [.str x.1.1,sel x]) b=some (.tup ys)->b≠D:=λhb=>aM_ hb (s2 _ _ hD') nofun;refine aF_ (Paired.mapP eo λy kv ⟨b,z,hb⟩=>⟨b,z,by rw[a5_ (pD (s2 _ _ hb))];exact s2 _ _ hb⟩) (.cons ⟨p,rfl,?_⟩ .nil);have hp2:upd H' p (.tup [.str x.1.1,sel x]) p=some (.tup [.str x.1.1,sel x]):=a1_;rw[a5_ (pD hp2)];exact hp2
section
variable{P:Ae}{w:Af}{K:F__}{mg:Str->Option Aa}{base:Heap}
theorem scGInit:a3' ["self","web","pieces","checked"] ["self","web","pieces"] (a1' sGInit):=f__
inductive dW' (K:F__) (CG CW:Addr) (vs:List V) (H:Hp) (Q:VK) (E:XK):Prop
 |mk:∀(g dx p l:Addr) (ys:List V) (ps:List Pc) (hs:Xa) (ts:Xb) (fpw:List Addr),vs=[.ref g,.ref p,.ref l]->H g=some (.ins CG dx [])->bd' K CW H p hs ts fpw->g∉fpw->Good hs ts->H l=some (.lst ys)->PcsAt K H ys ps->(∀q∈ps,GoodP ts q)->(ps.map (·.1)).Nodup->ps.length<64->(∀qs fp H',(∀b o,H b=some o->b≠g->H' b=some o)->a6' K CG CW H' g p hs ts qs fp->Qs ps qs->(∀b∈fp,b=g∨b∈fpw∨H b=none)->Q .non H')->dW' K CG CW vs H Q E
theorem hV_{f CG CW:Addr}{fd:Ad}(F:Fun K "__init__" "Goods.__init__" sGInit f fd)(T:TxtG K CG)(TW:Txt K mg CW)(IW:InsK K CW)(B:Bi mg)(mWeb:mg "Web"=some (.ref CW))(cP:Cal P w K mg base 6 "checked_pieces" ["web","pieces"] (cn' K CW)):FnOk P w K mg base CX0 7 f fd ["self","web","pieces"] (dW' K CG CW):=by
 refine F.ok scGInit (λvs H Q E h=>?_) (λcdv A outer s H vs Q E hr h=>?_)
 ·obtain⟨g,dx,p,l,ys,ps,hs,ts,fpw,rfl,_⟩:=h;rfl
 ·obtain⟨g,dx,p,l,ys,ps,hs,ts,fpw,rfl,hg,W,gw,G,hl,pc,gp,nd,h64,k⟩:=h
  refine⟨_,a3_ (al_ (aC_ (ay_ (ab_ hB_ (by rfl) B.isi PyProof.Rows.Boot.«isinstance» (a0_ (pv 1) (a0_ (bw_ (v:=.ref CW) (by rfl) mWeb rfl) a2_))))) ah_ a9_)
   (a3_ (ad_ (i:=3) scGInit.nd rfl (Or.inl rfl) (af_ cP hr (a0_ (pv 1) (a0_ (pv 2) a2_))))
   (a3_ (bE_ (pv 0) (pv 1) rfl)
   (a3_ (bE_ (pv 0) (aG_ (aZ_ rfl) (by rfl) B.dict PyProof.Rows.Boot.«dict» (a0_ (aO_ ["name","weight","ways"] 3 [] (aj_ (pv 3)) (λfp s H=>dn_ (n:=3) (aq_ (ac_ (i:=0) (show (["name","weight","ways"]:List Str).Nodup by decide +kernel) rfl (Or.inl rfl)) (aq_ (ac_ (i:=1) (show (["name","weight","ways"]:List Str).Nodup by decide +kernel) rfl (Or.inl rfl)) (aq_ (ac_ (i:=2) (show (["name","weight","ways"]:List Str).Nodup by decide +kernel) rfl (Or.inl rfl)) bc_)))) (λfp s H=>aK_) (λfp s H=>aR_ (a0_ (pv 0) (a0_ (pv 1) a2_)))) a2_)) rfl)
   (a4_ (bE_ (pv 0) (aG_ (aZ_ rfl) (by rfl) B.dict PyProof.Rows.Boot.«dict» (a0_ (aO_ ["name","weight","ways"] 3 [] (aj_ (pv 3)) (λfp s H=>dn_ (n:=3) (aq_ (ac_ (i:=0) (show (["name","weight","ways"]:List Str).Nodup by decide +kernel) rfl (Or.inl rfl)) (aq_ (ac_ (i:=1) (show (["name","weight","ways"]:List Str).Nodup by decide +kernel) rfl (Or.inl rfl)) (aq_ (ac_ (i:=2) (show (["name","weight","ways"]:List Str).Nodup by decide +kernel) rfl (Or.inl rfl)) bc_)))) (λfp s H=>aK_) (λfp s H=>aR_ (a0_ (pv 0) (a0_ (pv 2) a2_)))) a2_)) rfl))))),?_⟩
  obtain⟨dxw,d1,l2,d3,zs0,as,ef,w1,_⟩:=id W.ex;refine⟨_,rfl,_,_,_,_,rfl,.ins w1 TW.cl IW.ha IW.hn IW.tk IW.mo,ib_ _ _,_,rfl,iteF ?_⟩;refine⟨_,rfl,_,rfl,p,l,ys,ps,hs,ts,fpw,rfl,W,G,hl,pc,gp,nd,h64,λlc zs qs H1 s1 hlc pn Qq=>?_⟩;obtain⟨vs,lv,pz,wys,vnew⟩:=fa_ pn;have hg1:=s1 _ _ hg
  have lq:qs.length=ps.length:=by
   have:=b_9 List.length Qq.nms;rw[aa',(b1_ _).length_eq,aa'] at this;exact this
  have qnd:(qs.map (·.1)).Nodup:=by
   rw[Qq.nms];exact (b1_ _).nodup_iff.mpr nd
  refine⟨_,rfl,_,rfl,g,CG,dx,[],rfl,hg1,T.cl,T.nW,by show 0<1000;decide,?_⟩;have up1:∀{b o},H1 b=some o->b≠g->upd H1 g (.ins CG dx (putF "web" (.ref p) [])) b=some o:=λe ne=>by rw[a5_ ne];exact e
  have hg2:upd H1 g (.ins CG dx (putF "web" (.ref p) [])) g=some (.ins CG dx (putF "web" (.ref p) [])):=a1_
  have fr1:∀{b},upd H1 g (.ins CG dx (putF "web" (.ref p) [])) b=none->H1 b=none:=λ{b} e=>by
   by_cases z:b=g
   ·rw[z,a1_] at e;cases e
   ·rw[a5_ z] at e;exact e
  generalize upd H1 g (.ins CG dx (putF "web" (.ref p) []))=H2 at up1 hg2 fr1 ⊢;have lcg:lc≠g:=aM_ hlc hg1 nofun;have pz2:Paired (λz (x:Pc × V)=>∃t,z=.ref t/\H2 t=some (.tup [.str x.1.1,.int x.1.2.1,x.2])) zs (qs.zip vs):=Paired.mapP pz λz x ⟨t,e,ht⟩=>⟨t,e,up1 ht (aM_ ht hg1 nofun)⟩;have z1000:(qs.zip vs).length<=1000:=by rw[List.length_zip];omega
  refine⟨_,rfl,lc,rfl,⟨_,.of (up1 hlc lcg)⟩,λD hD=>?_⟩;refine eK_ (λx=>.int x.1.2.1) (λx=>rfl) rfl (up1 hlc lcg) pz2 z1000 hD λH3 out s3 hD3 pa3=>?_;refine⟨D,out,_,rfl,hD3,pa3,by rw[aa'];exact z1000,λdw hdw=>?_⟩
  have ekv:((qs.zip vs).map λx:Pc × V=>((Sum.inr x.1.1:Key),V.int x.1.2.1))=wKV qs:=by
   unfold wKV;have:(λx:Pc × V=>((Sum.inr x.1.1:Key),V.int x.1.2.1))=(λq:Pc=>((Sum.inr q.1:Key),V.int q.2.1)) ∘ Prod.fst:=rfl;rw[this,<- ak',List.map_fst_zip Z1]
  have ndk:(qs.map (·.1)).map (Sum.inr:Str->Key) |>.Nodup:=by
   rw[aA',aE'];exact qnd.imp λn e=>n (b_5 e)
  rw[ekv,b7_ (by rw[eN_];exact ndk)];have s4:=Same.new (o:=.dK (wKV qs)) hdw;have hg4:=s4 _ _ (s3 _ _ hg2);refine⟨_,rfl,g,CG,dx,_,rfl,hg4,T.cl,T.nG,by show 1<1000;decide,?_⟩;have s24:=s3.trans s4;have hdw4:upd H3 dw (.dK (wKV qs)) dw=some (.dK (wKV qs)):=a1_;have dwg:dw≠g:=(a7_ (s3 _ _ hg2) hdw).symm;have fr4:∀{b},upd H3 dw (.dK (wKV qs)) b=none->H2 b=none:=λe=>s24.free e;have dwn:H2 dw=none:=s3.free hdw;generalize upd H3 dw (.dK (wKV qs))=H4 at s4 hg4 s24 hdw4 fr4 ⊢;have up5:∀{b o},H4 b=some o->b≠g->upd H4 g (.ins CG dx (putF "weight_by_name" (.ref dw) (putF "web" (.ref p) []))) b=some o:=λe ne=>by rw[a5_ ne];exact e
  have hg5:upd H4 g (.ins CG dx (putF "weight_by_name" (.ref dw) (putF "web" (.ref p) []))) g=some (.ins CG dx (putF "weight_by_name" (.ref dw) (putF "web" (.ref p) []))):=a1_
  have fr5:∀{b},upd H4 g (.ins CG dx (putF "weight_by_name" (.ref dw) (putF "web" (.ref p) []))) b=none->H4 b=none:=λ{b} e=>by
   by_cases z:b=g
   ·rw[z,a1_] at e;cases e
   ·rw[a5_ z] at e;exact e
  generalize upd H4 g (.ins CG dx (putF "weight_by_name" (.ref dw) (putF "web" (.ref p) [])))=H5 at up5 hg5 fr5 ⊢;have up15:∀{b o},H1 b=some o->b≠g->H5 b=some o:=λe ne=>up5 (s24 _ _ (up1 e ne)) ne;have pz5:Paired (λz (x:Pc × V)=>∃t,z=.ref t/\H5 t=some (.tup [.str x.1.1,.int x.1.2.1,x.2])) zs (qs.zip vs):=Paired.mapP pz λz x ⟨t,e,ht⟩=>⟨t,e,up15 ht (aM_ ht hg1 nofun)⟩;refine⟨_,rfl,lc,rfl,⟨_,.of (up15 hlc lcg)⟩,λD2 hD2=>?_⟩;refine eK_ (λx=>x.2) (λx=>rfl) rfl (up15 hlc lcg) pz5 z1000 hD2 λH6 out2 s6 hD6 pa6=>?_;refine⟨D2,out2,_,rfl,hD6,pa6,by rw[aa'];exact z1000,λdy hdy=>?_⟩;rw[show ((qs.zip vs).map λx:Pc × V=>((Sum.inr x.1.1:Key),x.2))=yKV qs vs from rfl,b7_ (by rw[hT_ lv];exact ndk)];have s7:=Same.new (o:=.dK (yKV qs vs)) hdy;have s57:=s6.trans s7;have hg7:=s57 _ _ hg5;refine⟨_,rfl,g,CG,dx,_,rfl,hg7,T.cl,T.nY,by show 2<1000;decide,?_⟩;have hdy7:upd H6 dy (.dK (yKV qs vs)) dy=some (.dK (yKV qs vs)):=a1_;have dyg:dy≠g:=(a7_ (s6 _ _ hg5) hdy).symm;have dyn:H5 dy=none:=s6.free hdy;generalize upd H6 dy (.dK (yKV qs vs))=H7 at s7 s57 hg7 hdy7 ⊢
  have fin:∀{b o},H1 b=some o->b≠g->upd H7 g (.ins CG dx (gflds p dw dy)) b=some o:=λe ne=>by
   rw[a5_ ne];exact s57 _ _ (up15 e ne)
  have tupf:∀b xs,H1 b=some (.tup xs)->upd H7 g (.ins CG dx (gflds p dw dy)) b=some (.tup xs):=λb xs e=>fin e (aM_ e hg1 nofun);have nH:∀{b},H1 b=none->H b=none:=λe=>s1.free e;refine k qs (g::dw::dy::(fpw++vs.filterMap λv=>match v with | .ref a=>some a|_=>none)) _ (λb o e ne=>fin (s1 _ _ e) ne) ⟨dx,dw,dy,vs,fpw,a1_,?_,?_,?_,?_,by simp,by simp,by simp,λb hb=>by simp[hb],λv hv a z=>?_⟩ Qq λb hb=>?_
  ·exact W.keep (λb hb o e=>fin (s1 _ _ e) (λz=>gw (z▸hb))) λb xs e=>tupf b xs (s1 _ _ e)
  ·rw[a5_ dwg];exact s57 _ _ (up5 hdw4 dwg)
  ·rw[a5_ dyg];exact hdy7
  ·exact bH_ wys λv hv q h=>h.keep (λa z u e=>fin e (λzz=>by
    subst zz;have:=vnew v hv _ z;rw[hg] at this;cases this)) λb xs e=>tupf b xs e
  ·refine ad' _ (ad' _ (ad' _ (ay' _ (aF'.mpr ⟨v,hv,?_⟩))));rw[z]
  ·simp only[al',au',aF'] at hb;rcases hb with rfl|rfl|rfl|hb|⟨v,hv,e⟩
   ·exact .inl rfl
   ·exact .inr (.inr (nH (fr1 dwn)))
   ·exact .inr (.inr (nH (fr1 (s24.free (fr5 dyn)))))
   ·exact .inr (.inl hb)
   ·cases v with
    |ref a=>
     cases e;exact .inr (.inr (vnew _ hv _ rfl))
    |_=>cases e
end
end Ev
namespace L2
open PySem
theorem pass1{P:Ae}{w:Af}{X:Cx}:bH' (CX1 P w) X E0:=λ_ _ _ _ _ _ _ h=>by
 obtain⟨_,_,_,_,_,_,_,_,_,_,_,_,z⟩:=h;exact z.elim
end L2
namespace Ev
open PySem L2
structure CalX (P:Ae) (w:Af) (K:F__) (mg:Str->Option Aa) (base:Heap) (C:Addr) (k:Nat) (m:Str) (ps:List Str) (sp:Sp):Prop where
 ex:∃f fd,FnOk P w K mg base (CX1 P w) k f fd ps sp/\Meth K C m f/\b5' K fd ps []
theorem di_{X:Cx}{C:Addr}{k:Nat}{m:Str}{ps:List Str}{sp:Sp}{pos apos:Pos}{o e:Expr}{es:List Expr}{ta:TE}{t:TA}{pl:Sem Bool}(c:CalX X.prog X.w X.K X.mg X.base C k m ps sp)(cl:Cls X.K C)(hr:Room k X.A)(he:PE X o ta)(ha:PA X (e::es) t)
  (hst:starEach (e::es) X.env=(false,eval e X.env)::starEach es X.env:=by rfl) (hpl:(backTo pos (starEach es X.env)).any (·.1)=false:=by rfl)
  (ht:eval (.Call (.Attribute o m apos) (e::es) [] pos) X.env=(do
   let ov <- eval o X.env
   standAt apos.atName
   let (f,first) <- holding [ov] (getMethod ov m pl)
   callWith pos f first (backTo pos (starEach (e::es) X.env)) (backToKw pos (keywordEach [] X.env))):=by rfl) :
  PE X (.Call (.Attribute o m apos) (e::es) [] pos) (tMeth C m sp [] E0 ta t):=by
 obtain⟨f,fd,F,hm,b⟩:=c.ex;exact hy_ he cl hm F hr b .nil pass1 ha hst hpl ht
theorem eo_{kvs:List (Key × V)}{ns:List Str}(h:kvs.map (·.1)=ns.map Sum.inr)(x:Str):(valV kvs (Sum.inr x)).isSome=decide (x∈ns):=by
 by_cases hx:x∈ns
 ·rw[a_2 hx];refine e8_ ?_;rw[h];exact af'.mpr ⟨x,hx,rfl⟩
 ·rw[a_7 hx,aN_]
  ·rfl
  ·rw[h];intro m;obtain⟨y,hy,e⟩:=af'.mp m;cases e;exact hx hy
variable{q:Pc}
theorem kO_{qs:List Pc}(nd:(qs.map (·.1)).Nodup)(hq:q∈qs):valV (wKV qs) (Sum.inr q.1)=some (.int q.2.1):=by
 obtain⟨j,hj,e⟩:=aB' hq;have:=dc_ (ps:=qs) (cs:=qs.map λq=>V.int q.2.1) nd (by rw[aa']) (j:=j) (q:=q) (c:=.int q.2.1) (by rw[ab' hj,e]) (by rw[aj',ab' hj,e];rfl)
 have e2:((qs.zip (qs.map λq=>V.int q.2.1)).map λq=>((Sum.inr q.1.1:Key),q.2))=wKV qs:=by
  unfold wKV;rw[List.zip_map_right,ak']
  have:qs.zip qs=qs.map λq=>(q,q):=by
   clear nd hq this hj e j
   induction qs with
   |nil=>rfl
   |cons a l ih=>rw[List.zip_cons_cons,ih,av']
  rw[this,ak'];rfl
 rwa [e2] at this
theorem ke_{qs:List Pc}{vs:List V}(nd:(qs.map (·.1)).Nodup){K:F__}{H:Hp}(h:Paired (λv (q:Pc)=>WyAt K H v q.2.2) vs qs)(hq:q∈qs):∃v∈vs,valV (yKV qs vs) (Sum.inr q.1)=some v/\WyAt K H v q.2.2:=by
 obtain⟨j,hj,e⟩:=aB' hq;have hl:=a_3 h;have hv:j<vs.length:=by omega
 have p:=an_ h j hv hj;rw[e] at p;exact⟨vs[j],aC' hv,dc_ nd Z1 (by rw[ab' hj,e]) (ab' hv),p⟩
def goB(hs:Xa)(ts:Xb)(o:Option (Xb))(x y:Option Str):Bool:=
 tiedB hs ts x y&&match o,x,y with
  |none,_,_=>true
  |some ws,some a,some b=>decide (ord2 a b∈ws)
  |_,_,_=>false
section
variable{P:Ae}{w:Af}{K:F__}{mg:Str->Option Aa}{base:Heap}
theorem scGHas:a3' ["self","thing"] ["self","thing"] (a1' sGHas):=f__
inductive dm' (K:F__) (CG CW:Addr) (vs:List V) (H:Hp) (Q:VK) (E:XK):Prop
 |mk:∀(g p:Addr) (v:V) (x:Option Str) (hs:Xa) (ts:Xb) (qs:List Pc) (fp:List Addr),vs=[.ref g,v]->a6' K CG CW H g p hs ts qs fp->StrV K H v x->Q (.bl (inB (qs.map (·.1)) x)) H->dm' K CG CW vs H Q E
theorem k6_{f CG CW:Addr}{fd:Ad}(F:Fun K "has_piece" "Goods.has_piece" sGHas f fd)(T:TxtG K CG)(B:Bi mg):FnOk P w K mg base CX0 1 f fd ["self","thing"] (dm' K CG CW):=by
 refine F.ok scGHas (λvs H Q E h=>?_) (λcdv A outer s H vs Q E hr h=>?_)
 ·obtain⟨g,p,v,x,hs,ts,qs,fp,rfl,_⟩:=h;rfl
 ·obtain⟨g,p,v,x,hs,ts,qs,fp,rfl,G,sv,k⟩:=h;have hu:=ba_ hr;obtain⟨dx,dw,dy,vs,fpw,h1,h2,h3,h4,h5,m1,m2,m3,m4,m5⟩:=G.ex;refine⟨_,a4_ (a8_ (bg_ (ab_ aU_ (by rfl) B.isi PyProof.Rows.Boot.«isinstance» (a0_ (pv 1) (a0_ (b5_ (v:=.ty "str") (by rfl) B.str PyProof.Rows.Boot.«str» rfl) a2_))) (bf_ (cZ_ (cX_ hu (pv 1) (ak_ (pv 0) rfl)))))),?_⟩;cases x with
  |some x=>
   cases (show v=.str x from sv);refine⟨_,rfl,_,_,_,_,rfl,.str x,rfl,_,rfl,iteT ?_⟩;refine⟨_,rfl,_,rfl,g,CG,dx,_,_,rfl,h1,T.cl,T.nG,eA_ _ _ _,dw,_,rfl,.k (k:=Sum.inr x) h3,?_⟩;rw[eo_ (eN_ qs)];exact k
  |none=>
   obtain⟨t,ty,e⟩:=sv;exact⟨_,rfl,_,_,_,_,rfl,ty,e,_,rfl,iteF k⟩
theorem scGNames:a3' ["self"] ["self"] (a1' dz'):=f__
inductive bD' (K:F__) (CG CW:Addr) (vs:List V) (H:Hp) (Q:VK) (E:XK):Prop
 |mk:∀(g p:Addr) (hs:Xa) (ts:Xb) (qs:List Pc) (fp:List Addr),vs=[.ref g]->a6' K CG CW H g p hs ts qs fp->(∀l,H l=none->Q (.ref l) (upd H l (.lst ((qs.map (·.1)).map V.str))))->bD' K CG CW vs H Q E
theorem gD_{f CG CW:Addr}{fd:Ad}(F:Fun K "names" "Goods.names" dz' f fd)(T:TxtG K CG)(B:Bi mg):FnOk P w K mg base CX0 1 f fd ["self"] (bD' K CG CW):=by
 refine F.ok scGNames (λvs H Q E h=>?_) (λcdv A outer s H vs Q E hr h=>?_)
 ·obtain⟨g,p,hs,ts,qs,fp,rfl,_⟩:=h;rfl
 ·obtain⟨g,p,hs,ts,qs,fp,rfl,G,k⟩:=h;obtain⟨dx,dw,dy,vs,fpw,h1,h2,h3,h4,h5,m1,m2,m3,m4,m5⟩:=G.ex;refine⟨_,a4_ (a8_ (aG_ (c0_ rfl) (by rfl) B.list PyProof.Rows.Boot.«list» (a0_ (ak_ (pv 0) rfl) a2_))),?_⟩;refine⟨_,rfl,g,CG,dx,_,_,rfl,h1,T.cl,T.nG,eA_ _ _ _,dw,_,rfl,.inl h3,λl hl=>?_⟩
  have e:((wKV qs).map λkv=>kV kv.1)=(qs.map (·.1)).map V.str:=by
   unfold wKV;rw[ak',ak'];rfl
  rw[e];exact k l hl
structure Ref (K:F__) (mg:Str->Option Aa) (x:Str) (C:Addr):Prop where
 mg:mg x=some (.ref C)
 ex:PySem.W.excIn K C [.type "ValueError",.type "Exception",.type "BaseException",.type "object"] "ValueError.__new__"=true
theorem scGWeight:a3' ["self","piece"] ["self","piece"] (a1' cN'):=f__
inductive bg' (K:F__) (CG CW CP:Addr) (vs:List V) (H:Hp) (Q:VK) (E:XK):Prop
 |mk:∀(g p:Addr) (v:V) (x:Option Str) (hs:Xa) (ts:Xb) (qs:List Pc) (fp:List Addr),vs=[.ref g,v]->a6' K CG CW H g p hs ts qs fp->(qs.map (·.1)).Nodup->StrV K H v x->((∃q∈qs,x=some q.1/\Q (.int q.2.1) H)∨(inB (qs.map (·.1)) x=false/\E (.ref CP) none H))->bg' K CG CW CP vs H Q E
theorem fl_{f CG CW CP:Addr}{fd:Ad}(F:Fun K "weight" "Goods.weight" cN' f fd)(T:TxtG K CG)(R:Ref K mg "NoPiece" CP)(cH:CalM P w K mg base CG 1 "has_piece" ["self","thing"] (dm' K CG CW)):FnOk P w K mg base (CX1 P w) 2 f fd ["self","piece"] (bg' K CG CW CP):=by
 refine F.okX scGWeight (λvs H Q E h=>?_) (λcdv A outer s H vs Q E hr h=>?_)
 ·obtain⟨g,p,v,x,hs,ts,qs,fp,rfl,_⟩:=h;rfl
 ·obtain⟨g,p,v,x,hs,ts,qs,fp,rfl,G,nd,sv,k⟩:=h;have hu:=ba_ hr;obtain⟨dx,dw,dy,vs,fpw,h1,h2,h3,h4,h5,m1,m2,m3,m4,m5⟩:=id G.ex;have hno:(gflds p dw dy).lookup ("has_piece":Str)=none:=aE_ _ _ _ Z0 Z0 Z0;refine⟨_,a3_ (al_ (aC_ (ay_ (b2_ cH T.cl hr (pv 0) (a0_ (pv 1) a2_)))) (a4_ (eY_ rfl raises1 R.mg R.ex PySem.F.excBase_ValueError (by rfl) (a0_ ag_ a2_))) a9_) (a4_ (a8_ (aP_ hu (ak_ (pv 0) rfl) (pv 1) (λ_ _=>rfl)))),?_⟩;refine⟨_,rfl,g,dx,_,rfl,h1,hno,_,rfl,g,p,v,x,hs,ts,qs,fp,rfl,G,sv,_,rfl,?_⟩;rcases k with⟨q,hq,rfl,k⟩|⟨hb,k⟩
  ·cases (show v=.str q.1 from sv);rw[show inB (qs.map (·.1)) (some q.1)=true from a_2 (af'.mpr ⟨q,hq,rfl⟩)];refine iteF ?_;refine⟨_,rfl,g,CG,dx,_,_,rfl,h1,T.cl,T.nG,eA_ _ _ _,_,rfl,dw,_,rfl,?_,k⟩;rw[<- kO_ nd hq];exact .k (k:=Sum.inr q.1) h3
  ·rw[hb];exact iteT ⟨by show 1<=sizeLine;decide,k⟩
theorem scGMay:a3' ["self","piece","one","other","ties"] ["self","piece","one","other"] (a1' sGMay):=f__
inductive ea' (K:F__) (CG CW CP:Addr) (vs:List V) (H:Hp) (Q:VK) (E:XK):Prop
 |mk:∀(g p:Addr) (v u1 u2:V) (x y1 y2:Option Str) (hs:Xa) (ts:Xb) (qs:List Pc) (fp:List Addr),vs=[.ref g,v,u1,u2]->a6' K CG CW H g p hs ts qs fp->(qs.map (·.1)).Nodup->(a2' hs).Nodup->StrV K H v x->((∃q∈qs,x=some q.1/\StrV K H u1 y1/\StrV K H u2 y2/\∀H',Same H H'->Q (.bl (goB hs ts q.2.2 y1 y2)) H')∨(inB (qs.map (·.1)) x=false/\E (.ref CP) none H))->ea' K CG CW CP vs H Q E
theorem jS_{f CG CW CP:Addr}{fd:Ad}(F:Fun K "may_go" "Goods.may_go" sGMay f fd)(T:TxtG K CG)(TW:Txt K mg CW)(R:Ref K mg "NoPiece" CP)(cH:CalM P w K mg base CG 1 "has_piece" ["self","thing"] (dm' K CG CW))(cT:CalM P w K mg base CW 2 "are_tied" ["self","one","other"] (cS' K CW))(cL:Cal P w K mg base 1 "lesser_first" ["one","other"] cd') :
  FnOk P w K mg base (CX1 P w) 3 f fd ["self","piece","one","other"] (ea' K CG CW CP):=by
 refine F.okX scGMay (λvs H Q E h=>?_) (λcdv A outer s H vs Q E hr h=>?_)
 ·obtain⟨g,p,v,u1,u2,x,y1,y2,hs,ts,qs,fp,rfl,_⟩:=h;rfl
 ·obtain⟨g,p,v,u1,u2,x,y1,y2,hs,ts,qs,fp,rfl,G,nd,nnd,sv,k⟩:=h;have hu:=ba_ hr;have hr1:Room 1 _:=hr.mono (by decide);obtain⟨dx,dw,dy,vs,fpw,h1,h2,h3,h4,h5,m1,m2,m3,m4,m5⟩:=id G.ex;have hno:(gflds p dw dy).lookup ("has_piece":Str)=none:=aE_ _ _ _ Z0 Z0 Z0;obtain⟨dxw,d1,l2,d3,zs0,as,ef,w1,_⟩:=id h2.ex;have hnw:(flds d1 l2 d3).lookup ("are_tied":Str)=none:=az_ _ _ _ Z0 Z0 Z0
  refine⟨_,a3_ (al_ (aC_ (ay_ (b2_ cH T.cl hr1 (pv 0) (a0_ (pv 1) a2_)))) (a4_ (eY_ rfl raises1 R.mg R.ex PySem.F.excBase_ValueError (by rfl) (a0_ ag_ a2_))) a9_)
   (a3_ (al_ (aC_ (ay_ (b2_ cT TW.cl hr (ak_ (pv 0) rfl) (a0_ (pv 2) (a0_ (pv 3) a2_))))) (a4_ (a8_ bC_)) a9_)
   (a3_ (ad_ (i:=4) scGMay.nd rfl (Or.inl rfl) (aP_ hu (ak_ (pv 0) rfl) (pv 1) (λ_ _=>rfl)))
   (a4_ (a8_ (k1_ (cZ_ (dG_ (pv 4))) (bf_ (aI_ (gN_ (cmp2 cmpS cmpS) (bG' hr _)) (af_ cL hr1 (a0_ (pv 2) (a0_ (pv 3) a2_))) (pv 4) (by with_unfolding_all rfl)))))))),?_⟩
  refine⟨_,rfl,g,dx,_,rfl,h1,hno,_,rfl,g,p,v,x,hs,ts,qs,fp,rfl,G,sv,_,rfl,?_⟩;rcases k with⟨q,hq,rfl,s1,s2,k⟩|⟨hb,k⟩
  ·cases (show v=.str q.1 from sv);rw[show inB (qs.map (·.1)) (some q.1)=true from a_2 (af'.mpr ⟨q,hq,rfl⟩)];refine iteF ?_;refine⟨_,rfl,g,CG,dx,_,_,rfl,h1,T.cl,T.nW,aJ_ _ _ _,p,dxw,_,rfl,w1,hnw,_,rfl,_,rfl,p,u1,u2,y1,y2,hs,ts,fpw,rfl,h2,nnd,s1,s2,_,rfl,?_⟩;cases tb:tiedB hs ts y1 y2 with
   |false=>
    refine iteT ?_;have:=k H (Same.refl H);unfold goB at this;rw[tb,Bool.false_and] at this;exact this
   |true=>
    refine iteF ?_;obtain⟨u,hu',eu,wy⟩:=ke_ nd h5 hq;refine⟨_,rfl,g,CG,dx,_,_,rfl,h1,T.cl,T.nY,hw_ _ _ _,_,rfl,dy,u,rfl,?_,?_⟩
    ·rw[<- eu];exact .k (k:=Sum.inr q.1) h4
    ·refine⟨_,rfl,_,rfl,?_⟩;unfold goB at k;rw[tb] at k;cases e:q.2.2 with
     |none=>
      rw[e] at wy k;cases (show u=.non from wy);exact iteT (k H (Same.refl H))
     |some ws=>
      rw[e] at wy k;obtain⟨a,ys,rfl,ha,tu⟩:=wy;cases y1 with
      |none=>cases tb
      |some a1=>
       cases y2 with
       |none=>cases tb
       |some a2=>
        cases (show u1=.str a1 from s1);cases (show u2=.str a2 from s2);refine iteF ⟨_,rfl,_,rfl,a1,a2,rfl,λt ht=>?_⟩;have s3:Same H (upd H t (.tup [.str (ord2 a1 a2).1,.str (ord2 a1 a2).2])):=Same.new ht;refine⟨_,rfl,ord2 a1 a2,ws,⟨t,_,_,rfl,.of a1_,rfl,rfl⟩,⟨a,ys,rfl,.of (s3 _ _ ha),dB_ (tu.same s3)⟩,?_⟩;have z:=k _ s3;rw[Bool.true_and] at z;rw[a_4 aq'];show Q (.bl _) _;have z:Q (.bl (decide (ord2 a1 a2∈ws))) (upd H t (.tup [.str (ord2 a1 a2).1,.str (ord2 a1 a2).2])):=z;generalize upd H t (.tup [.str (ord2 a1 a2).1,.str (ord2 a1 a2).2])=Hz at z ⊢;by_cases hm:ord2 a1 a2∈ws
        ·simpa [hm] using z
        ·simpa [hm] using z
  ·rw[hb];exact iteT ⟨by show 1<=sizeLine;decide,k⟩
end
end Ev
namespace L2
open PySem PySem.Spec PyProof.Rows PySem.W
variable{P:Ae}{w:Af}
theorem ji_{k:Key}{key:Aa}(h:(a5' P w).is k key=true):RelV (kV k) key:=by
 have e2:cY' k key=true:=h;rcases aA_ e2 with⟨i,t,rfl,rfl⟩|⟨x,t,rfl,rfl⟩
 ·exact⟨t,rfl⟩
 ·exact⟨t,rfl⟩
def Itm(d:Addr)(o:Obj)(kvs:List (Key × V)):It:=⟨λi H=>H d=some (.frz o (.dK kvs))/\i<kvs.length,λi H y H'=>∃t k x,y=.ref t/\H t=none/\kvs[i]? = some (k,x)/\H'=upd H t (.tup [kV k,x]),λi H=>H d=some (.frz o (.dK kvs))/\kvs.length<=i⟩
variable{elts:List Expr}{kk:Nat}
theorem fH_{K:F__}{pos:Pos}(d it:Addr)(o:Obj)(kvs:List (Key × V)){es:Array DictEntry}{ep:Nat}(ho:o.data=.dict es ep):Turn P w K (.Tuple elts kk pos) (Itm d o kvs) [it] it (λi h=>∃ok ov,IsItemIter h it d i kvs.length ep ok ov) where
 mem:=by simp
 obj:=λi h st b hb=>by
  obtain rfl:b=it:=by simpa using hb
  obtain⟨ok,ov,q⟩:=st;exact⟨_,q,λv z=>by cases z⟩
 keep:=λi h h' st k=>by
  obtain⟨ok,ov,q⟩:=st;exact⟨ok,ov,k it Z2 _ q⟩
 item:=by
  intro X hP hw hK hc i pins s σ H E I hf st hg;subst hP hw hK;obtain⟨hd,hi⟩:=hg;obtain⟨vs,rel,dat⟩:=bA_ I hd ho;obtain⟨⟨k,x⟩,hx⟩:∃p,kvs[i]? = some p:=⟨kvs[i],by simp[hi]⟩;obtain⟨u,hu,ru⟩:=gc_ rel i hx;obtain⟨ok,ov,st⟩:=st;have itl:it<s.heap.objs.size:=a_5 st;rw[rel.length] at st;refine wpAny_pyNext_items_item st dat hu λkey h' hk out ht sz kp=>?_;refine⟨_,rfl,wpAny_letOwnedTupleGo_items (s:={ s with heap:=h' }) out λh2 st2 sb=>?_⟩;have nT:s.heap.objs.size≠it:=a0' itl;have I1:Inv X pins σ (upd H s.heap.objs.size (.tup [kV k,x])) { s with heap:=h2 }:=I.turnedN (t':=s.toks) (fp:=[it]) (its:=[key,u]) (λb o hb q=>(sb.2 b (by simpa using hb)).trans (kp b o (by simpa using hb) q)) hf (ai' _) (by show 2<=sizeLine;decide) (.cons (ji_ hk) (.cons ru .nil)) ⟨⟨_,(sb.2 _ nT).trans ht,rfl,_,rfl⟩,_,(sb.2 _ nT).trans ht,rfl⟩;refine⟨.ref _,_,I1,rfl,⟨_,k,x,rfl,I.hok.fresh (ai' _),hx,rfl⟩,⟨_,_,by rw[rel.length];exact st2⟩,λb hb=>?_⟩;have e:b=it:=by simpa using hb
  rw[a5_ (λz=>nT (z.symm.trans e))];exact (hf b hb).1
 done:=by
  intro X hP hw hK hc i pins s σ H E I hf st hg;subst hP hw hK;obtain⟨hd,hi⟩:=hg;obtain⟨vs,rel,dat⟩:=bA_ I hd ho;obtain⟨f0,f1,f2,f3,f4,f5⟩:=hf it Z2;obtain⟨ok,ov,st⟩:=st;rw[rel.length] at st hi;exact wpAny_pyNext_items_end (I.ok.hd hc) st dat (by simp;omega) λh' eb=>⟨rfl,I.turned (t':=s.toks) (λb o hb e=>eb b o hb e) f0 f1 f3 f4 f5⟩
 self:=λA i s Q E st h=>by
  obtain⟨ok,ov,q⟩:=st;exact kcp_self q h
inductive iItemsR (R:It->Hp->Prop) (x:V) (H1:Hp):Prop
 |mk:∀v d kvs,x=.ref v->H1 v=some (bq' v d)->H1 d=some (.dK kvs)->(∀o,R (Itm d o kvs) (upd H1 d (.frz o (.dK kvs))))->iItemsR R x H1
def iItems(tv:TE):TI:=λσ H R=>tv σ H λx H1=>iItemsR R x H1
variable{X:Cx}
theorem dr_{p2:Pos}{e:Expr}{tv:TE}(he:PE X e tv):PI X (.Tuple elts kk p2) e (iItems tv):=by
 intro pins s σ H R I h;refine thn (he pins s σ H _ I h) λu s1 ⟨x,H1,I1,r1,v,d,kvs,ex,hv,hd,q⟩=>?_;subst ex;cases r1;obtain⟨iv,_,_⟩:=I1.hok v _ hv;obtain⟨o,ho,I2⟩:=I1.freeze hd;obtain⟨z,_,vs,rel,o',es,ep,ho',c',dt,r⟩:=fB_ I1.hok hd;rw[ho] at ho';cases ho';refine wpAny_pyIter_items (knd:=a5' X.prog X.w) (kvs:=vs) (ep:=ep) iv ⟨o,es,ho,c',dt,r⟩ ?_;refine⟨s1.heap.objs.size,[s1.heap.objs.size],_,_,_,rfl,I2.kept (t':=s1.toks) λb o e=>a_0 _ e,fH_ d _ o kvs dt,?_,λb hb=>?_,q o⟩
 ·rw[rel.length];exact⟨.none,.none,a_1 _ rfl⟩
 ·obtain rfl:b=s1.heap.objs.size:=by simpa using hb
  exact I2.fpOk (ai' _) (I2.hok.fresh (ai' _))
theorem cq_{d:Addr}{o:Obj}{kvs:List (Key × V)}{g:TG}{tb:TS}{D:Ends}{σ:St}{H:Hp}(Pv:Nat->St->Hp->Prop)(h0:Pv 0 σ H)(hl:∀i σ H,i<=kvs.length->Pv i σ H->H d=some (.frz o (.dK kvs)))
  (hs:∀i k x σ H,kvs[i]? = some (k,x)->Pv i σ H->∀t,H t=none->g (.ref t) σ (upd H t (.tup [kV k,x])) λσ2 H2=>tb { D with nx:=Pv (i+1),ct:=Pv (i+1),bk:=D.nx } σ2 H2) (hd:∀σ H,Pv kvs.length σ H->D.nx σ H) :
  ∃W:Nat->Nat->St->Hp->Prop,(∃m,W 0 m σ H)/\∀i m σ H,W i m σ H->
   ((Itm d o kvs).stop i H/\D.nx σ H)∨((Itm d o kvs).go i H/\∃N:St->Hp->Prop,(∀σ' H',N σ' H'->∃m',m'<m/\W (i+1) m' σ' H')/\∀x H',(Itm d o kvs).yld i H x H'->g x σ H' λσ2 H2=>tb { D with nx:=N,ct:=N,bk:=D.nx } σ2 H2):=by
 refine⟨λi m σ H=>m=kvs.length - i/\i<=kvs.length/\Pv i σ H,⟨kvs.length,by simp,aD' _,h0⟩,?_⟩;rintro i m σ H ⟨rfl,hi,p⟩;have q:=hl i σ H hi p;by_cases hlt:i<kvs.length
 ·refine .inr ⟨⟨q,hlt⟩,Pv (i+1),λσ' H' p'=>⟨kvs.length - (i+1),by omega,rfl,hlt,p'⟩,λx H' y=>?_⟩;obtain⟨t,k,x,rfl,ht,hx,rfl⟩:=y;exact hs i k x σ H hx p t ht
 ·have e:i=kvs.length:=by omega
  subst e;exact .inl ⟨⟨q,ai' _⟩,hd σ H p⟩
inductive tThawS (t:TS) (D:Ends) (σ:St) (H:Hp):Prop
 |mk:∀d kvs,H d=some (.dK kvs)->t { nx:=λσ1 H1=>∃o,H1 d=some (.frz o (.dK kvs))/\D.nx σ1 (upd H1 d (.dK kvs)),rt:=λv H1=>∃o,H1 d=some (.frz o (.dK kvs))/\D.rt v (upd H1 d (.dK kvs)) } σ H->tThawS t D σ H
theorem hr_{st:Stmt}{t:TS}(h:PS X st t):PS X st (tThawS t):=by
 intro pins s σ H D I q;obtain⟨d,kvs,hd,q⟩:=q
 have nf:∀o u,X.H₀ d≠some (.frz o u):=λo u z=>by
  have:=I.base.frzs _ _ _ z;rw[hd] at this;cases this
 refine thn (h pins s σ H _ I q) λf s' p=>?_;cases f with
 |next=>
  obtain⟨σ1,H1,I1,o,hf,q1⟩:=p;exact⟨σ1,_,I1.thaw hf nf,q1⟩
 |brk=>
  obtain⟨σ1,H1,I1,q1⟩:=p;exact False.elim q1
 |cont=>
  obtain⟨σ1,H1,I1,q1⟩:=p;exact False.elim q1
 |ret u=>
  obtain⟨v,σ1,H1,I1,r,o,hf,q1⟩:=p;exact⟨v,σ1,_,I1.thaw hf nf,r,q1⟩
theorem cW_:∀{ns:List Int} {its:List Aa},Vals (ns.map V.int) its->∃xs:List (Int × Tok),its.toArray=intItems xs.toArray/\xs.map (·.1)=ns
 |[],_,.nil=>⟨[],by unfold intItems;simp,rfl⟩
 |n::ns,_,.cons ⟨t,e⟩ r=>by
  obtain⟨xs,h1,h2⟩:=cW_ r;refine⟨(n,t)::xs,?_,by simp[h2]⟩;subst e;apply Array.ext';have h3:=b_9 Array.toList h1;unfold intItems at h3 ⊢;simp at h3 ⊢;exact h3
theorem cr_{xs:List (Int × Tok)}:∀n,n<=xs.length->preSum (numAt xs.toArray) n=((xs.map (·.1)).take n).sum
 |0,_=>by simp[preSum]
 |n+1,h=>by
  have ih:=cr_ (xs:=xs) n Z1;show preSum (numAt xs.toArray) n+numAt xs.toArray n=_;rw[ih,aw',List.sum_append];congr 1;unfold numAt;rw[List.getElem?_toArray,aj',ab' Z1];simp
inductive rSumI (K:F__) (xs:List V) (H:Hp) (Q:VK):Prop
 |mk:∀(l:Addr) (ns:List Int),xs=[.ref l]->SqL K H l (ns.map V.int)->Q (.int ns.sum) H->rSumI K xs H Q
theorem hq_(hc:X.calm=true):bp' X (.builtin "sum") (rSumI X.K):=by
 intro pins s σ H xs us Q I r h;obtain⟨l,ns,rfl,hl,q⟩:=h;obtain⟨u,rfl,ru⟩:=vals1 r;cases ru;obtain⟨its,rv,p,hz⟩:=I.list hl;obtain⟨zs,e1,e2⟩:=cW_ rv;have il:=p.isList;rw[e1] at il;refine sum_intListG (I.ok.hd hc) il λh' tk t' k=>?_;refine⟨.int ns.sum,H,I.kept (t':=tk) k,⟨t',?_⟩,q⟩
 have:preSum (numAt zs.toArray) zs.toArray.size=ns.sum:=by
  rw[ah',cr_ _ (ai' _),<- e2,aT' Z2]
 rw[this]
end L2
namespace Ev
open PySem L2
structure Fz (d:Addr) (o:Obj) (kvs:List (Key × V)) (H H':Hp):Prop where
 at_:H' d=some (.frz o (.dK kvs))
 sm:∀b u,b≠d->H b=some u->H' b=some u
section
variable{d:Addr}{o:Obj}{kvs:List (Key × V)}{H H' H2:Hp}
theorem Fz.start:Fz d o kvs H (upd H d (.frz o (.dK kvs))):=⟨a1_,λb u ne e=>by rw[a5_ ne];exact e⟩
theorem Fz.step(f:Fz d o kvs H H')(s:Same H' H2):Fz d o kvs H H2:=⟨s _ _ f.at_,λb u ne e=>s _ _ (f.sm b u ne e)⟩
theorem Fz.thaw(f:Fz d o kvs H H')(hd:H d=some (.dK kvs)):Same H (upd H' d (.dK kvs)):=λb u e=>by
 by_cases z:b=d
 ·subst z;rw[hd] at e;cases e;exact a1_
 ·rw[a5_ z];exact f.sm b u z e
theorem Fz.goods{K:F__}{CG CW g p:Addr}{hs:Xa}{ts:Xb}{qs:List Pc}{fp:List Addr}(f:Fz d o kvs H H')(hd:H d=some (.dK kvs))(G:a6' K CG CW H g p hs ts qs fp)(nd:d∉fp):a6' K CG CW H' g p hs ts qs fp:=
 G.keep (λb hb u e=>f.sm b u (λz=>nd (z▸hb)) e) λb xs e=>f.sm b _ (aM_ e hd nofun) e
end
def mKV(ns:List Str)(g:Str->V):List (Key × V):=ns.map λn=>(Sum.inr n,g n)
theorem bL_(ns:List Str)(g:Str->V):(mKV ns g).map (·.1)=ns.map Sum.inr:=by
 unfold mKV;rw[ak'];rfl
theorem b4_(ns:List Str)(g:Str->V):(mKV ns g).length=ns.length:=aa' _
variable{n:Str}
theorem bu_{ns:List Str}{g:Str->V}(h:n∈ns):valV (mKV ns g) (Sum.inr n)=some (g n):=by
 induction ns with
 |nil=>cases h
 |cons m ns ih=>
  by_cases e:m=n
  ·subst e;exact bp_ rfl
  ·have:valV (mKV (m::ns) g) (Sum.inr n)=valV (mKV ns g) (Sum.inr n):=bl_ λz=>e (b_5 z);rw[this];rcases al'.mp h with z|z
   ·exact absurd z.symm e
   ·exact ih z
theorem bQ_{ns:List Str}{g k:Str->V}(h:∀n∈ns,g n=k n):mKV ns g=mKV ns k:=aI' λn hn=>by rw[h n hn]
variable{v:V}
theorem jg_{ns:List Str}{g:Str->V}(h:n∈ns):putK (mKV ns g) (Sum.inr n) v=mKV ns λm=>if m=n then v else g m:=by
 unfold putK;rw[a_9]
 ·unfold mKV;rw[ak'];refine aI' λm _=>?_;by_cases e:m=n
  ·subst e;simp
  ·have:¬((Sum.inr m:Key)=Sum.inr n):=λz=>e (b_5 z);simp[e]
 ·refine List.any_eq_true.mpr ⟨(Sum.inr n,g n),af'.mpr ⟨n,h,rfl⟩,by simp⟩
theorem ht_{ns:List Str}{g:Str->V}(h:n∉ns):putK (mKV ns g) (Sum.inr n) v=mKV (ns++[n]) λm=>if m=n then v else g m:=by
 rw[bB_ _ (aN_ (by
  rw[bL_];intro m;obtain⟨x,hx,e⟩:=af'.mp m;exact h (b_5 e▸hx)))]
 unfold mKV;rw[an'];congr 1
 ·refine aI' λm hm=>?_;have e:¬m=n:=λz=>h (z▸hm);simp[e]
 ·simp
variable{i:Nat}
theorem h2_{ns:List Str}{g:Str->V}{k:Key}{x:V}(h:(mKV ns g)[i]? = some (k,x)):∃n,ns[i]? = some n/\k=Sum.inr n/\x=g n:=by
 unfold mKV at h;rw[aj'] at h;cases e:ns[i]? with
 |none=>rw[e] at h;cases h
 |some n=>
  rw[e] at h;have h:=a_8 h;exact⟨n,rfl,(b_9 Prod.fst h).symm,(b_9 Prod.snd h).symm⟩
theorem f3_{ns:List Str}(nd:ns.Nodup)(h:ns[i]? = some n):n∉ns.take i:=by
 have q:=bi_ (g:=id) (ts:=ns) (by rw[List.map_id];exact nd) h;rwa [List.map_id] at q
theorem b0_{ns:List Str}(h:ns[i]? = some n):ns.take (i+1)=ns.take i++[n]:=by
 rw[aw',h];rfl
abbrev stF(ns:List Str)(f:Str->Str):List (Key × V):=mKV ns λn=>.str (f n)
def wOf(q:Pc):Str × Int:=(q.1,q.2.1)
def ld(f:Str->Str)(ws:Xa)(h:Str):Int:=((ws.filter λx=>decide (f x.1=h)).map (·.2)).sum
theorem jD_(f:Str->Str)(ws:Xa)(x:Str × Int)(h:Str):ld f (ws++[x]) h=if h=f x.1 then ld f ws h+x.2 else ld f ws h:=by
 unfold ld;rw[List.filter_append];by_cases e:f x.1=h
 ·rw[a_9 e.symm,an',List.sum_append];simp[e]
 ·rw[a_4 λz=>e z.symm];simp[e]
theorem gC_:∀{l:List Int},(∀x∈l,0<=x)->0<=l.sum
 |[],_=>by simp
 |x::l,h=>by
  rw[List.sum_cons];have:=h x ag';have:=gC_ (l:=l) λy hy=>h y (ad' _ hy);omega
theorem kG_{f:Str->Str}{ws:Xa}{h:Str}(p:∀x∈ws,0<=x.2):0<=ld f ws h:=gC_ λx hx=>by
 obtain⟨y,hy,rfl⟩:=af'.mp hx;exact p y (List.mem_filter.mp hy).1
section
variable{P:Ae}{w:Af}{K:F__}{mg:Str->Option Aa}{base:Heap}
structure c8' (hs:Xa) (qs:List Pc) (ns:List Str) (f:Str->Str):Prop where
 perm:ns.Perm (qs.map (·.1))
 at_:∀n∈ns,f n∈hs.map (·.1)
theorem ce':a3' ["goods","stand","piece","hand","names"] ["goods","stand"] (a1' dS'):=f__
inductive bC' (K:F__) (CG CW:Addr) (vs:List V) (H:Hp) (Q:VK) (E:XK):Prop
 |mk:∀(g p d:Addr) (hs:Xa) (ts:Xb) (qs:List Pc) (fp:List Addr) (ns:List Str) (f:Str->Str),vs=[.ref g,.ref d]->a6' K CG CW H g p hs ts qs fp->d∉fp->H d=some (.dK (stF ns f))->c8' hs qs ns f->(qs.map (·.1)).Nodup->qs.length<64->(∀d' H',Same H H'->H d'=none->H' d'=some (.dK (stF (qs.map (·.1)) f))->Q (.ref d') H')->bC' K CG CW vs H Q E
theorem h3_{f CG CW:Addr}{fd:Ad}(F:Fun K "checked_stand" "checked_stand" dS' f fd)(B:Bi mg)(T:TxtG K CG)(TW:Txt K mg CW)(cH:CalM P w K mg base CG 1 "has_piece" ["self","thing"] (dm' K CG CW))(cW:CalM P w K mg base CW 1 "has_hand" ["self","thing"] (spHas K CW))(cN:CalM P w K mg base CG 1 "names" ["self"] (bD' K CG CW)) :
  FnOk P w K mg base CX0 2 f fd ["goods","stand"] (bC' K CG CW):=by
 refine F.ok ce' (λvs H Q E h=>?_) (λcdv A outer s H vs Q E hr h=>?_)
 ·obtain⟨g,p,d,hs,ts,qs,fp,ns,f,rfl,_⟩:=h;rfl
 ·obtain⟨g,p,d,hs,ts,qs,fp,ns,f,rfl,G,dfp,hd,so,nd,h64,k⟩:=h;have hu:=ba_ hr;have sz:=b__;refine' ⟨_,?r0,?kk⟩
  case' r0=>refine' a3_ ?s1 ?r1
  case s1=>exact al_ (aC_ (ay_ (ab_ aU_ (by rfl) B.isi PyProof.Rows.Boot.«isinstance» (a0_ (pv 1) (a0_ (b5_ (v:=.ty "dict") (by rfl) B.dict PyProof.Rows.Boot.«dict» rfl) a2_))))) ah_ a9_
  case' r1=>refine' a3_ ?s2 ?r2
  case' s2=>refine' hr_ (aV_ b_1 rfl ?i2 ?g2 ?b2)
  case i2=>exact dr_ (cj_ (pv 1))
  case g2=>exact bR_ rfl (aq_ (ac_ (i:=2) ce'.nd rfl (Or.inl rfl)) (aq_ (ac_ (i:=3) ce'.nd rfl (Or.inl rfl)) bc_))
  case b2=>exact a3_ (al_ (aC_ (ay_ (b2_ cH T.cl hr (pv 0) (a0_ (pv 2) a2_)))) ah_ a9_) (a4_ (al_ (aC_ (ay_ (b2_ cW TW.cl hr (ak_ (pv 0) rfl) (a0_ (pv 3) a2_)))) ah_ a9_))
  case' r2=>refine' a3_ ?s3 ?r3
  case s3=>exact ad_ (i:=4) ce'.nd rfl (Or.inl rfl) (b3_ cN T.cl hr (pv 0))
  case' r3=>refine' a3_ ?s4 (a4_ ?s5)
  case s4=>exact al_ (ae_ df_ (ab_ gW_ (by rfl) B.len b_8 (a0_ (pv 1) a2_)) (ab_ av_ (by rfl) B.len b_8 (a0_ (pv 4) a2_)) (nomark _)) ah_ a9_
  case s5=>exact a8_ (aG_ (aZ_ rfl) (by rfl) B.dict PyProof.Rows.Boot.«dict» (a0_ (aO_ ["piece","stand"] 1 [1] (aj_ (pv 4)) (λfp s H=>ac_ (i:=0) (show (["piece","stand"]:List Str).Nodup by decide +kernel) rfl (Or.inl rfl)) (λfp s H=>aK_) (λfp s H=>aR_ (a0_ (pv 0) (a0_ (aP_ hu (pv 1) (pv 0) (λ_ _=>rfl)) a2_)))) a2_))
  case' kk=>skip
  have lns:ns.length=qs.length:=by rw[so.perm.length_eq,aa']
  refine⟨_,rfl,_,_,_,_,rfl,.dK hd,rfl,_,rfl,iteF ?_⟩;refine⟨d,_,hd,?_⟩;refine⟨_,rfl,d,_,rfl,hd,λv hv=>?_⟩;obtain⟨s1,hv1⟩:=nw__ (o:=bq' v d) hv;have G1:=G.same s1;have hd1:=s1 _ _ hd;generalize upd H v (bq' v d)=H1 at s1 hv1 G1 hd1 ⊢;refine⟨v,d,_,rfl,hv1,hd1,λo=>?_⟩;refine cq_ (λi σ H'=>∃(v2 v3:Option V),σ=[some (.ref g),some (.ref d),v2,v3,none]/\Fz d o (stF ns f) H1 H') ⟨none,none,rfl,Fz.start⟩ (λi σ H' _ ⟨_,_,_,z⟩=>z.at_) ?_ ?_
  ·rintro i ky x σ H2 hx ⟨v2,v3,rfl,fz⟩ t ht;obtain⟨n,hn,rfl,rfl⟩:=h2_ hx;have nm:=ae' hn;have s2:=Same.new (o:=.tup [.str n,.str (f n)]) ht;have fz2:=fz.step s2;have e2:upd H2 t (.tup [.str n,.str (f n)]) t=some (.tup [.str n,.str (f n)]):=a1_;show gTup _ _ _ _ _ (upd H2 t (.tup [.str n,.str (f n)])) _;generalize upd H2 t (.tup [.str n,.str (f n)])=H3 at s2 fz2 e2 ⊢;refine⟨t,_,rfl,.of e2,rfl,_,_,rfl,_,_,rfl,rfl,?_⟩;have G3:=fz2.goods hd1 G1 dfp;obtain⟨dx,dw,dy,vs,fpw,h1,h2,h3,h4,h5,m1,m2,m3,m4,m5⟩:=id G3.ex;obtain⟨dxw,d1,l2,d3,zs0,as,ef,w1,_⟩:=id h2.ex;have hno:(gflds p dw dy).lookup ("has_piece":Str)=none:=aE_ _ _ _ Z0 Z0 Z0;have hnw:(flds d1 l2 d3).lookup ("has_hand":Str)=none:=az_ _ _ _ Z0 Z0 Z0;refine⟨_,rfl,g,dx,_,rfl,h1,hno,_,rfl,g,p,.str n,some n,hs,ts,qs,fp,rfl,G3,rfl,_,rfl,?_⟩;rw[show inB (qs.map (·.1)) (some n)=true from a_2 (so.perm.mem_iff.mp nm)];refine iteF ?_;refine⟨_,rfl,g,CG,dx,_,_,rfl,h1,T.cl,T.nW,aJ_ _ _ _,p,dxw,_,rfl,w1,hnw,_,rfl,p,f n,hs,ts,fpw,rfl,h2,_,rfl,?_⟩;rw[a_2 (so.at_ n nm)];exact iteF ⟨_,_,rfl,fz2⟩
  rintro σ H2 ⟨v2,v3,rfl,fz⟩;refine⟨o,fz.at_,?_⟩;have s2:=s1.trans (fz.thaw hd1);have hd2:upd H2 d (.dK (stF ns f)) d=some (.dK (stF ns f)):=a1_;generalize upd H2 d (.dK (stF ns f))=H3 at s2 hd2 ⊢;have G3:=G.same s2;obtain⟨dx,dw,dy,vs,fpw,h1,h2,h3,h4,h5,m1,m2,m3,m4,m5⟩:=id G3.ex;refine⟨_,rfl,g,dx,_,rfl,h1,aE_ _ _ _ Z0 Z0 Z0,g,p,hs,ts,qs,fp,rfl,G3,λln hln=>?_⟩;obtain⟨s3,e3⟩:=nw__ (o:=.lst ((qs.map (·.1)).map V.str)) hln;have hd3:=s3 _ _ hd2;generalize upd H3 ln (.lst ((qs.map (·.1)).map V.str))=H4 at s3 e3 hd3 ⊢;refine⟨_,rfl,d,_,rfl,hd3,_,rfl,ln,_,rfl,.inl (.of e3),rfl,_,rfl,?_⟩;rw[b4_,aa',aa',lns];simp only[bne_self_eq_false,decide_true,Bool.not_true];refine iteF ?_;have s04:=s2.trans s3;refine⟨_,rfl,ln,rfl,⟨_,.of e3⟩,λD hD=>?_⟩;refine as_ (own:=1) (fv:=[some (.ref d)]) (xs:=(qs.map (·.1)).map V.str) rfl gok1 (λi out H'=>Same H4 H'/\H' D=some (.lst out)/\bh' K H' out (stF ((qs.map (·.1)).take i) f)) ⟨Same.new hD,a1_,.nil⟩ (λi out H' _ ⟨sm,_,_⟩=>.of (sm _ _ e3)) (λout H5 ⟨sm,hD5,pa⟩=>?_) (λi y out H' hy ⟨sm,hD',pa⟩=>?_)
  ·rw[aa',ao'] at pa;refine⟨D,out,_,rfl,hD5,pa,by rw[b4_,aa'];omega,λd' hd'=>?_⟩
   have ndk:((stF (qs.map (·.1)) f).map (·.1)).Nodup:=by
    rw[bL_,aA',aE'];exact nd.imp λn e=>n (b_5 e)
   rw[b7_ ndk];exact k d' _ ((s04.trans sm).trans (Same.new hd')) (s04.free (sm.free hd')) a1_
  ·obtain⟨n,hn,rfl⟩:=ai_ hy;have hi:i<(qs.map (·.1)).length:=(ac'.mp hn).1;rw[aa'] at hi;have nm:n∈ns:=so.perm.mem_iff.mpr (ae' hn);refine⟨_,rfl,rfl,λNx hN=>yesT ?_⟩;refine⟨_,rfl,_,rfl,_,rfl,d,.str (f n),rfl,?_,by show 2<=sizeLine;decide,λt ht=>?_⟩
   ·rw[<- bu_ (g:=λn=>V.str (f n)) nm];exact .k (k:=Sum.inr n) (sm _ _ hd3)
   have s5:=Same.new (o:=.tup [.str n,.str (f n)]) ht;have lo:=a_3 pa;rw[b4_,am',aa'] at lo;refine⟨out,s5 _ _ hD',by omega,hN _ _ ⟨ar_ (sm.trans s5) hD,a1_,?_⟩⟩;have ht5:upd H' t (.tup [.str n,.str (f n)]) t=some (.tup [.str n,.str (f n)]):=a1_;have pD:∀{b:Addr} {ys:List V},upd H' t (.tup [.str n,.str (f n)]) b=some (.tup ys)->b≠D:=λhb=>aM_ hb (s5 _ _ hD') nofun;rw[b0_ hn];show bh' K _ _ (((qs.map (·.1)).take i++[n]).map _);rw[an'];exact aF_ (Paired.mapP pa λy kv ⟨b,z,hb⟩=>⟨b,z,by rw[a5_ (pD (s5 _ _ hb))];exact s5 _ _ hb⟩) (.cons ⟨t,rfl,by rw[a5_ (pD ht5)];exact ht5⟩ .nil)
end
theorem bd'.has{K:F__}{C:Addr}{H:Hp}{p:Addr}{hs:Xa}{ts:Xb}{fp:List Addr}(W:bd' K C H p hs ts fp){b:Addr}(hb:b∈fp):∃o,H b=some o:=by
 obtain⟨dx,d1,l2,d3,zs,as,rfl,h1,h2,h3,h4,h5,h6,h7⟩:=W.ex;simp only[al'] at hb;rcases hb with rfl|rfl|rfl|rfl|hb
 ·exact⟨_,h1⟩
 ·exact⟨_,h2⟩
 ·exact⟨_,h3⟩
 ·exact⟨_,h5⟩
 ·obtain⟨i,hi,e⟩:=aB' hb;exact⟨_,h7 i ((a2' hs)[i]' Z1) b (ab' Z1) (by rw[<- e];exact ab' hi)⟩
theorem a6'.slim{K:F__}{CG CW:Addr}{H:Hp}{g p:Addr}{hs:Xa}{ts:Xb}{qs:List Pc}{fp:List Addr}(G:a6' K CG CW H g p hs ts qs fp):∃fp',a6' K CG CW H g p hs ts qs fp'/\∀b∈fp',∃o,H b=some o:=by
 obtain⟨dx,dw,dy,vs,fpw,h1,h2,h3,h4,h5,m1,m2,m3,m4,m5⟩:=G.ex;refine⟨g::dw::dy::(fpw++vs.filterMap λv=>match v with | .ref a=>some a|_=>none),⟨dx,dw,dy,vs,fpw,h1,h2,h3,h4,h5,by simp,by simp,by simp,λb hb=>by simp[hb],λv hv a z=>?_⟩,λb hb=>?_⟩
 ·have:a∈vs.filterMap λv=>match v with | .ref a=>some a|_=>none:=aF'.mpr ⟨v,hv,by rw[z]⟩;simp only[al',au'];exact .inr (.inr (.inr (.inr this)))
 ·simp only[al',au'] at hb;rcases hb with rfl|rfl|rfl|hb|hb
  ·exact⟨_,h1⟩
  ·exact⟨_,h3⟩
  ·exact⟨_,h4⟩
  ·exact h2.has hb
  ·obtain⟨v,hv,e⟩:=aF'.mp hb;obtain⟨i,hi,ev⟩:=aB' hv;have le:=a_3 h5;have w:=an_ h5 i hi Z1;rw[ev] at w;cases o:(qs[i]' Z1).2.2 with
   |none=>
    rw[o] at w;rw[show v=.non from w] at e;cases e
   |some ws=>
    rw[o] at w;obtain⟨a,ys,ea,ha,_⟩:=w;rw[ea] at e;cases e;exact⟨_,ha⟩
section
variable{d d2:Addr}{o:Obj}{kvs:List (Key × V)}{H H' H1:Hp}{u:HO}
theorem Fz.start'(s:Same H H1):Fz d o kvs H (upd H1 d (.frz o (.dK kvs))):=⟨a1_,λb u ne e=>by rw[a5_ ne];exact s _ _ e⟩
theorem Fz.put(f:Fz d o kvs H H')(hn:H d2=none)(ne:d2≠d):Fz d o kvs H (upd H' d2 u):=⟨by rw[a5_ ne.symm];exact f.at_,λb u nb e=>by rw[a5_ (a7_ e hn)];exact f.sm b u nb e⟩
end
section
variable{P:Ae}{w:Af}{K:F__}{mg:Str->Option Aa}{base:Heap}
theorem b0':a3' ["goods","placed","hand","found","piece"] ["goods","placed"] (a1' df'):=f__
structure bw' (K:F__) (CG CW:Addr) (H:Hp) (g p d:Addr) (hs:Xa) (ts:Xb) (qs:List Pc) (fp:List Addr) (f:Str->Str):Prop where
 G:a6' K CG CW H g p hs ts qs fp
 Gd:Good hs ts
 dfp:d∉fp
 hd:H d=some (.dK (stF (qs.map (·.1)) f))
 at_:∀n∈qs.map (·.1),f n∈hs.map (·.1)
 nd:(qs.map (·.1)).Nodup
 h64:qs.length<64
abbrev ldV(hs:Xa)(qs:List Pc)(f:Str->Str):List (Key × V):=mKV (a2' hs) λh=>.int (ld f (qs.map wOf) h)
inductive bW' (K:F__) (CG CW:Addr) (vs:List V) (H:Hp) (Q:VK) (E:XK):Prop
 |mk:∀(g p d:Addr) (hs:Xa) (ts:Xb) (qs:List Pc) (fp:List Addr) (f:Str->Str),vs=[.ref g,.ref d]->bw' K CG CW H g p d hs ts qs fp f->(∀d' H',Same H H'->H d'=none->H' d'=some (.dK (ldV hs qs f))->Q (.ref d') H')->bW' K CG CW vs H Q E
theorem fy_{f CG CW CP:Addr}{fd:Ad}(F:Fun K "loads_at" "loads_at" df' f fd)(B:Bi mg)(T:TxtG K CG)(TW:Txt K mg CW)(cH:CalM P w K mg base CW 1 "hands" ["self"] (bO' K CW))(cW:CalX P w K mg base CG 2 "weight" ["self","piece"] (bg' K CG CW CP)) :
  FnOk P w K mg base CX0 3 f fd ["goods","placed"] (bW' K CG CW):=by
 refine F.ok b0' (λvs H Q E h=>?_) (λcdv A outer s H vs Q E hr h=>?_)
 ·obtain⟨g,p,d,hs,ts,qs,fp,f,rfl,_⟩:=h;rfl
 ·obtain⟨g,p,d,hs,ts,qs,fp,f,rfl,Pl,k⟩:=h;have hu:=ba_ hr;have sz:=b__;have hr1:Room 1 _:=hr.mono (by decide);refine' ⟨_,?r0,?kk⟩
  case' r0=>refine' a3_ ?s1 ?r1
  case s1=>exact ad_ (i:=3) b0'.nd rfl (Or.inl rfl) (aG_ (aZ_ rfl) (by rfl) B.dict PyProof.Rows.Boot.«dict» (a0_ (aO_ ["hand"] 1 [] (aj_ (b3_ cH TW.cl hr1 (ak_ (pv 0) rfl))) (λfp s H=>ac_ (i:=0) (show (["hand"]:List Str).Nodup by decide +kernel) rfl (Or.inl rfl)) (λfp s H=>aK_) (λfp s H=>aR_ (a0_ (pv 0) (a0_ a6_ a2_)))) a2_))
  case' r1=>refine' a3_ ?s2 ?r2
  case' s2=>refine' hr_ (aV_ b_1 rfl ?i2 ?g2 (a4_ ?b2))
  case i2=>exact dr_ (cj_ (pv 1))
  case g2=>exact bR_ rfl (aq_ (ac_ (i:=4) b0'.nd rfl (Or.inl rfl)) (aq_ (ac_ (i:=2) b0'.nd rfl (Or.inl rfl)) bc_))
  case b2=>exact bv_ hu (pv 3) (pv 2) (am_ bh_ (aP_ hu (pv 3) (pv 2) (λ_ _=>rfl)) (di_ cW T.cl hr (pv 0) (a0_ (pv 4) a2_))) rfl
  case r2=>exact a4_ (a8_ (pv 3))
  case' kk=>skip
  have nl:=Pl.Gd.nlen;have h8:=Pl.Gd.h8;obtain⟨dx,dw,dy,vs,fpw,h1,h2,h3,h4,h5,m1,m2,m3,m4,m5⟩:=id Pl.G.ex;obtain⟨dxw,d1,l2,d3,zs0,as,ef,w1,_⟩:=id h2.ex;have hnw:(flds d1 l2 d3).lookup ("hands":Str)=none:=az_ _ _ _ Z0 Z0 Z0;refine⟨_,rfl,g,CG,dx,_,_,rfl,h1,T.cl,T.nW,aJ_ _ _ _,p,dxw,_,rfl,w1,hnw,p,hs,ts,fpw,rfl,h2,λlh hlh=>?_⟩;obtain⟨s1,e1⟩:=nw__ (o:=.lst ((a2' hs).map V.str)) hlh;generalize upd H lh (.lst ((a2' hs).map V.str))=H1 at s1 e1 ⊢;refine⟨lh,rfl,⟨_,.of e1⟩,λD hD=>?_⟩;refine as_ (own:=1) (fv:=[]) (xs:=(a2' hs).map V.str) rfl gok1 (λi out H'=>Same H1 H'/\H' D=some (.lst out)/\bh' K H' out (mKV ((a2' hs).take i) λ_=>.int 0)) ⟨Same.new hD,a1_,.nil⟩ (λi out H' _ ⟨sm,_,_⟩=>.of (sm _ _ e1)) (λout H5 ⟨sm,hD5,pa⟩=>?_) (λi y out H' hy ⟨sm,hD',pa⟩=>?_);rotate_left 1
  ·obtain⟨n,hn,rfl⟩:=ai_ hy;have hi:i<(a2' hs).length:=(ac'.mp hn).1;refine⟨_,rfl,rfl,λNx hN=>yesT ?_⟩;refine⟨_,rfl,by show 2<=sizeLine;decide,λt ht=>?_⟩;have s5:=Same.new (o:=.tup [.str n,.int 0]) ht;have lo:=a_3 pa;rw[b4_,am'] at lo;refine⟨out,s5 _ _ hD',by omega,hN _ _ ⟨ar_ (sm.trans s5) hD,a1_,?_⟩⟩;have ht5:upd H' t (.tup [.str n,.int 0]) t=some (.tup [.str n,.int 0]):=a1_;have pD:∀{b:Addr} {ys:List V},upd H' t (.tup [.str n,.int 0]) b=some (.tup ys)->b≠D:=λhb=>aM_ hb (s5 _ _ hD') nofun;rw[b0_ hn];show bh' K _ _ (((a2' hs).take i++[n]).map _);rw[an'];exact aF_ (Paired.mapP pa λy kv ⟨b,z,hb⟩=>⟨b,z,by rw[a5_ (pD (s5 _ _ hb))];exact s5 _ _ hb⟩) (.cons ⟨t,rfl,by rw[a5_ (pD ht5)];exact ht5⟩ .nil)
  rw[aa',ao'] at pa;refine⟨D,out,_,rfl,hD5,pa,by rw[b4_];omega,λd2 hd2=>?_⟩
  have ndk:((mKV (a2' hs) λ_=>V.int 0).map (·.1)).Nodup:=by
   rw[bL_,aA',aE'];exact Pl.Gd.nnd.imp λn e=>n (b_5 e)
  rw[b7_ ndk];have s2:=(s1.trans sm).trans (Same.new (o:=.dK (mKV (a2' hs) λ_=>V.int 0)) hd2);have e2:upd H5 d2 (.dK (mKV (a2' hs) λ_=>V.int 0)) d2=some (.dK (mKV (a2' hs) λ_=>V.int 0)):=a1_;have n2:H d2=none:=s1.free (sm.free hd2);show tSeq _ _ _ _ (upd H5 d2 (.dK (mKV (a2' hs) λ_=>V.int 0)));generalize upd H5 d2 (.dK (mKV (a2' hs) λ_=>V.int 0))=H6 at s2 e2 ⊢;have d2d:d2≠d:=(a7_ Pl.hd n2).symm;refine⟨d,_,s2 _ _ Pl.hd,?_⟩;refine⟨_,rfl,d,_,rfl,s2 _ _ Pl.hd,λv hv=>?_⟩;obtain⟨s3,hv1⟩:=nw__ (o:=bq' v d) hv;have e3:=s3 _ _ e2;have s03:=s2.trans s3;generalize upd H6 v (bq' v d)=H7 at s3 hv1 e3 s03 ⊢;refine⟨v,d,_,rfl,hv1,s03 _ _ Pl.hd,λo=>?_⟩;refine cq_ (λi σ H'=>∃(v2 v4:Option V),σ=[some (.ref g),some (.ref d),v2,some (.ref d2),v4]/\Fz d o (stF (qs.map (·.1)) f) H H'/\H' d2=some (.dK (mKV (a2' hs) λh=>.int (ld f ((qs.take i).map wOf) h)))) ⟨none,none,rfl,Fz.start' s03,by rw[a5_ d2d];exact e3⟩ (λi σ H' _ ⟨_,_,_,z,_⟩=>z.at_) ?_ ?_
  ·rintro i ky x σ H8 hx ⟨v2,v4,rfl,fz,e8⟩ t ht;obtain⟨n,hn,rfl,rfl⟩:=h2_ hx
   have hi:i<qs.length:=by
    have:=(ac'.mp hn).1;rwa [aa'] at this
   have hq:qs[i]? = some (qs[i]'hi):=ab' hi
   have en:n=(qs[i]'hi).1:=by
    rw[aj',hq] at hn;exact (a_8 hn).symm
   have fm:f n∈a2' hs:=(aw_ hs).mem_iff.mpr (Pl.at_ n (ae' hn));generalize qs[i]'hi=q at hq en;have s8:=Same.new (o:=.tup [.str n,.str (f n)]) ht;have fz2:=fz.step s8;have e9:=s8 _ _ e8;have et:upd H8 t (.tup [.str n,.str (f n)]) t=some (.tup [.str n,.str (f n)]):=a1_;show gTup _ _ _ _ _ (upd H8 t (.tup [.str n,.str (f n)])) _;generalize upd H8 t (.tup [.str n,.str (f n)])=H9 at s8 fz2 e9 et ⊢;refine⟨t,_,rfl,.of et,rfl,_,_,rfl,_,_,rfl,rfl,?_⟩;have G9:=fz2.goods Pl.hd Pl.G Pl.dfp;obtain⟨dx,dw,dy,vs,fpw,h1,h2,h3,h4,h5,m1,m2,m3,m4,m5⟩:=id G9.ex;have hno:(gflds p dw dy).lookup ("weight":Str)=none:=aE_ _ _ _ Z0 Z0 Z0;refine⟨_,rfl,_,rfl,d2,.int (ld f ((qs.take i).map wOf) (f n)),rfl,?_,_,rfl,g,dx,_,rfl,h1,hno,_,rfl,g,p,.str n,some n,hs,ts,qs,fp,rfl,G9,Pl.nd,rfl,.inl ⟨q,ae' hq,b_9 some en,?_⟩⟩
   ·rw[<- bu_ (g:=λh=>V.int (ld f ((qs.take i).map wOf) h)) fm];exact .k (k:=Sum.inr (f n)) e9
   refine⟨_,_,rfl,rfl,_,rfl,_,rfl,d2,_,rfl,.k (k:=Sum.inr (f n)) e9 (by rw[b4_];omega),?_⟩;refine⟨_,_,rfl,fz2.put n2 d2d,?_⟩;rw[a1_,jg_ fm];congr 2;refine bQ_ λm _=>?_
   have e5:(qs.take (i+1)).map wOf=(qs.take i).map wOf++[wOf q]:=by
    rw[aw',hq,an'];rfl
   rw[e5,jD_];show (if m=f n then V.int (ld f ((qs.take i).map wOf) (f n)+q.2.1) else V.int (ld f ((qs.take i).map wOf) m))=V.int (if m=f q.1 then _ else _);rw[<- en];by_cases z:m=f n
   ·rw[a_9 z,a_9 z,z];rfl
   ·rw[a_4 z,a_4 z]
  rintro σ H8 ⟨v2,v4,rfl,fz,e8⟩;refine⟨o,fz.at_,?_⟩;rw[b4_,aa',ao'] at e8;exact⟨_,rfl,k d2 _ (fz.thaw Pl.hd) n2 (by rw[a5_ d2d];exact e8)⟩
end
end Ev
namespace L2
open PySem PySem.Spec PyProof.Rows PySem.W
inductive rDictD (xs:List V) (H:Hp) (Q:VK):Prop
 |mk:∀a kvs,xs=[.ref a]->Rd H a (.dK kvs)->(∀p,H p=none->Q (.ref p) (upd H p (.dK kvs)))->rDictD xs H Q
variable{X:Cx}
theorem fC_:bp' X (.type "dict") rDictD:=by
 intro pins s σ H xs us Q I r h;obtain⟨a,kvs,rfl,hd,q⟩:=h;obtain⟨u,rfl,ru⟩:=vals1 r;cases ru;exact hY_ I hd λp s' hp I'=>⟨.ref p,_,I',rfl,q p hp⟩
inductive rNeNil (K:F__) (x:V) (y:V) (H:Hp) (Q:VK):Prop
 |mk:∀a b xs,x=.ref a->y=.ref b->SqL K H a xs->SqL K H b []->Q (.bl (!xs.isEmpty)) H->rNeNil K x y H Q
theorem f5_(hu:X.A.units+0+1<cLine):OpR X (compareOp .NotEq) (rNeNil X.K):=by
 intro pins s σ H x y v u Q I rx ry h;obtain⟨a,b,xs,rfl,rfl,t,t',hq⟩:=h;cases xs with
 |nil=>exact cx_ cmpS hu pins s σ H (.ref a) (.ref b) v u Q I rx ry ⟨[],[],⟨a,[],rfl,t,.nil⟩,⟨b,[],rfl,t',.nil⟩,hq⟩
 |cons z zs=>
  cases rx;cases ry;obtain⟨us,r,pl,_⟩:=I.list t;obtain⟨vs,r',pl',_⟩:=I.list t';have l1:=r.length;have l2:=r'.length;exact EvN.ne_sizesAt pl.isList pl'.isList (by simp only[ah',bne_iff_ne];simp at l1 l2;omega) Z1 ⟨.bl true,H,I,rfl,hq⟩
end L2
namespace Ev
open PySem L2
theorem g6_{A:Ag}{s:Ac}{ns:List Str}{f g:Str->Str}{vb:List (Key × Aa)}(rb:KV (stF ns g) vb):∀(ms:List Str) (va:List (Key × Aa)),KV (stF ms f) va->(∀m∈ms,m∈ns)->PySem.W.KeqHits A s vb va (ms.all λn=>decide (f n=g n))
 |[],va,r,_=>by
  cases r;exact .nil
 |m::ms,va,r,h=>by
  cases r with
  |@cons _ q _ va' h1 r=>
   have hm:=h m ag';obtain⟨y,hy,ry⟩:=RelO.some_of (v:=.str (g m)) (o:=valueAt vb (Sum.inr m)) (by rw[<- bu_ (g:=λn=>V.str (g n)) hm];exact rb.val _);obtain⟨k,v⟩:=q;obtain⟨e1,e2⟩:=h1;have e1:(Sum.inr m:Key)=k:=e1;subst e1;obtain⟨t,rfl⟩:=(show ∃t,v=Value.str (f m) t from e2);obtain⟨u,rfl⟩:=(show ∃t,y=Value.str (g m) t from ry);have q:=SeqAt.EqAt.str_str (A:=A) (s:=s) (f m) t (g m) u;rw[show (f m == g m)=decide (f m=g m) by by_cases z:f m=g m<;>simp[z]] at q
   exact .hit hy q (g6_ rb ms va' r λx hx=>h x (ad' _ hx))
def lcmI(a n:Int):Int:=a / (Int.gcd a n:Int) * n
variable{n:Int}
theorem jT_{a:Int}(ha:0<a)(hn:0<n):lcmI a n=(Int.lcm a n:Int):=by
 obtain⟨p,rfl⟩:=Int.eq_ofNat_of_zero_le (aJ' ha);obtain⟨q,rfl⟩:=Int.eq_ofNat_of_zero_le (aJ' hn);show ((p:Int) / ((Nat.gcd p q:Nat):Int)) * (q:Int)=((Nat.lcm p q:Nat):Int);rw[<- Int.natCast_ediv,<- Int.natCast_mul,Nat.div_mul_right_comm (Nat.gcd_dvd_left p q)];rfl
def lcmL(ns:List Int):Int:=ns.foldl lcmI 1
theorem cl_:∀(ns:List Int) (a:Int),0<a->(∀n∈ns,0<n)->0<ns.foldl lcmI a/\∀x:Int,0<=x->(ns.foldl lcmI a ∣ x ↔ a ∣ x/\∀n∈ns,n ∣ x)
 |[],a,ha,_=>⟨ha,λx _=>by simp⟩
 |n::ns,a,ha,h=>by
  have hn:=h n ag';have e:=jT_ ha hn
  have p:0<lcmI a n:=by
   rw[e];have:=Nat.lcm_pos (m:=a.natAbs) (n:=n.natAbs) Z1 Z1;have:0<Int.lcm a n:=this;omega
  obtain⟨h1,h2⟩:=cl_ ns (lcmI a n) p λm hm=>h m (ad' _ hm);refine⟨h1,λx hx=>(h2 x hx).trans ?_⟩;obtain⟨z,rfl⟩:=Int.eq_ofNat_of_zero_le hx;rw[e,Int.natCast_dvd_natCast,Int.lcm_dvd_iff];constructor
  ·rintro⟨⟨q1,q2⟩,q3⟩
   exact⟨q1,λm hm=>by
    rcases al'.mp hm with rfl|hm
    ·exact q2
    ·exact q3 m hm⟩
  ·rintro⟨q1,q2⟩;exact⟨⟨q1,q2 n ag'⟩,λm hm=>q2 m (ad' _ hm)⟩
variable{ns:List Int}
theorem dz_(h:∀n∈ns,0<n):0<lcmL ns:=(cl_ ns 1 (by decide) h).1
theorem in_(h:∀n∈ns,0<n)(hn:n∈ns):n ∣ lcmL ns:=
 (((cl_ ns 1 (by decide) h).2 _ (aJ' (dz_ h))).mp (Int.dvd_refl _)).2 n hn
theorem dj_(f:Str->Str)(x:Str × Int)(ws:Xa)(h:Str):ld f (x::ws) h=(if f x.1=h then x.2 else 0)+ld f ws h:=by
 unfold ld;by_cases e:f x.1=h
 ·simp[e]
 ·simp[e]
theorem kg_{f:Str->Str}{h:Str}:∀{ws:Xa},(∀x∈ws,0<=x.2/\x.2<=1000000000)->ld f ws h<=1000000000 * ws.length
 |[],_=>by
  unfold ld;simp
 |x::ws,p=>by
  have h1:=p x ag';have h2:=kg_ (f:=f) (h:=h) (ws:=ws) λy hy=>p y (ad' _ hy);rw[dj_,az'];by_cases z:f x.1=h
  ·rw[a_9 z];omega
  ·rw[a_4 z];omega
def bv'(hs:Xa):Int:=lcmL ((a2' hs).map (strOf hs))
theorem ef_{hs:Xa}{ts:Xb}(G:Good hs ts){n:Str}(h:n∈a2' hs):1<=strOf hs n/\strOf hs n<=1000:=(G.hok _ (aQ_ ((aw_ hs).mem_iff.mp h))).2
section
variable{P:Ae}{w:Af}{K:F__}{mg:Str->Option Aa}{base:Heap}
theorem scLM:a3' ["numbers","found","number"] ["numbers"] (a1' sLM):=f__
def spLM(K:F__):Sp:=λvs H Q _=>∃(l:Addr) (ns:List Int),vs=[.ref l]/\SqL K H l (ns.map V.int)/\(∀n∈ns,1<=n/\n<=1000)/\Q (.int (lcmL ns)) H
theorem ik_{i:Nat}(h:ns[i]? = some n):lcmL (ns.take (i+1))=lcmI (lcmL (ns.take i)) n:=by
 unfold lcmL;rw[aw',h,List.foldl_append];rfl
theorem eG_{i:Nat}{y:V}(h:(ns.map V.int)[i]? = some y):∃n,ns[i]? = some n/\y=.int n:=by
 rw[aj'] at h;cases e:ns[i]? with
 |none=>rw[e] at h;cases h
 |some n=>rw[e] at h;exact⟨n,rfl,(a_8 h).symm⟩
theorem kT_{f:Addr}{fd:Ad}(F:Fun K "least_multiple" "least_multiple" sLM f fd)(cG:Cal P w K mg base 1 "greatest_divisor" ["one","other"] spGd):FnOk P w K mg base CX0 2 f fd ["numbers"] (spLM K):=by
 refine F.ok scLM (λvs H Q E h=>?_) (λcdv A outer s H vs Q E hr h=>?_)
 ·obtain⟨l,ns,rfl,_⟩:=h;rfl
 ·obtain⟨l,ns,rfl,hl,b,k⟩:=h;refine' ⟨_,a3_ ?s1 (a3_ ?s2 (a4_ ?s3)),?kk⟩
  case s1=>exact ad_ (i:=1) scLM.nd rfl (Or.inl rfl) a6_
  case s2=>exact aV_ b_1 rfl (aj_ (pv 0)) (ac_ (i:=2) scLM.nd rfl (Or.inl rfl)) (a4_ (ad_ (i:=1) scLM.nd rfl (Or.inl rfl) (am_ aT_ (am_ bd_ (pv 1) (af_ cG hr (a0_ (pv 1) (a0_ (pv 2) a2_)))) (pv 2))))
  case s3=>exact a8_ (pv 1)
  case' kk=>skip
  refine⟨_,rfl,l,rfl,⟨_,hl⟩,aH_ (K:=K) (a:=l) (xs:=ns.map V.int) (λi σ H'=>H'=H/\∃(v2:Option V),σ=[some (.ref l),some (.int (lcmL (ns.take i))),v2]) ⟨rfl,none,rfl⟩ (λi σ H' _ ⟨e,_⟩=>by rw[e];exact hl) ?_ ?_⟩
  ·rintro i y σ H' hy ⟨rfl,v2,rfl⟩;obtain⟨n,hn,rfl⟩:=eG_ hy;have bn:=b n (ae' hn)
   have p:=dz_ (ns:=ns.take i) λm hm=>by
    have:=b m (List.take_subset _ _ hm);omega
   refine⟨_,rfl,_,rfl,_,rfl,_,_,rfl,aJ' p,by omega,_,_,rfl,rfl,kN_ Z1 (Int.le_trans bn.2 (by decide)),_,rfl,_,_,rfl,rfl,.inr ⟨by omega,by omega⟩,rfl,some (.int n),?_⟩;rw[ik_ hn];rfl
  ·rintro σ H' ⟨rfl,v2,rfl⟩;refine⟨_,rfl,?_⟩;rw[aa',ao'];exact k
theorem scMult:a3' ["web"] ["web"] (a1' sMult):=f__
inductive dj' (K:F__) (C:Addr) (vs:List V) (H:Hp) (Q:VK) (E:XK):Prop
 |mk:∀(p:Addr) (hs:Xa) (ts:Xb) (fp:List Addr),vs=[.ref p]->bd' K C H p hs ts fp->Good hs ts->(∀H',Same H H'->Q (.int (bv' hs)) H')->dj' K C vs H Q E
theorem jY_{f CW:Addr}{fd:Ad}(F:Fun K "multiple_of_strengths" "multiple_of_strengths" sMult f fd)(TW:Txt K mg CW)(cL:Cal P w K mg base 2 "least_multiple" ["numbers"] (spLM K))(cH:CalM P w K mg base CW 1 "hands" ["self"] (bO' K CW))(cS:CalM P w K mg base CW 2 "strength" ["self","hand"] (bj' K CW)):FnOk P w K mg base CX0 3 f fd ["web"] (dj' K CW):=by
 refine F.ok scMult (λvs H Q E h=>?_) (λcdv A outer s H vs Q E hr h=>?_)
 ·obtain⟨p,hs,ts,fp,rfl,_⟩:=h;rfl
 ·obtain⟨p,hs,ts,fp,rfl,W,G,k⟩:=h;have sz:=b__;have nl:=G.nlen;have h8:=G.h8;refine' ⟨_,a4_ (a8_ (af_ cL hr (a0_ (aO_ ["hand","web"] 1 [0] (aj_ (b3_ cH TW.cl (hr.mono (by decide)) (pv 0))) (λfp s H=>ac_ (i:=0) (show (["hand","web"]:List Str).Nodup by decide +kernel) rfl (Or.inl rfl)) (λfp s H=>aK_) (λfp s H=>?e1)) a2_))),?kk⟩
  case e1=>exact b2_ cS TW.cl hr (pv 1) (a0_ (pv 0) a2_)
  case' kk=>skip
  obtain⟨dxw,d1,l2,d3,zs0,as,ef,w1,_⟩:=id W.ex;refine⟨_,rfl,p,dxw,_,rfl,w1,az_ _ _ _ Z0 Z0 Z0,p,hs,ts,fp,rfl,W,λlh hlh=>?_⟩;obtain⟨s1,e1⟩:=nw__ (o:=.lst ((a2' hs).map V.str)) hlh;generalize upd H lh (.lst ((a2' hs).map V.str))=H1 at s1 e1 ⊢;refine⟨lh,rfl,⟨_,.of e1⟩,λD hD=>?_⟩;refine as_ (own:=1) (fv:=[some (.ref p)]) (xs:=(a2' hs).map V.str) rfl gok1 (λi out H'=>Same H1 H'/\H' D=some (.lst out)/\out=(((a2' hs).take i).map (strOf hs)).map V.int) ⟨Same.new hD,a1_,rfl⟩ (λi out H' _ ⟨sm,_,_⟩=>.of (sm _ _ e1)) (λout H5 ⟨sm,hD5,eo⟩=>?_) (λi y out H' hy ⟨sm,hD',eo⟩=>?_)
  ·rw[aa',ao'] at eo;rw[eo] at hD5;refine⟨D,_,rfl,.of hD5,λn hn=>?_,k H5 (s1.trans sm)⟩;obtain⟨m,hm,rfl⟩:=af'.mp hn;exact ef_ G hm
  ·obtain⟨n,hn,rfl⟩:=ai_ hy;have hi:i<(a2' hs).length:=(ac'.mp hn).1;refine⟨_,rfl,rfl,λNx hN=>yesT ?_⟩;have W':=(W.same s1).same sm;obtain⟨dxw,d1,l2,d3,zs0,as,ef,w1,_⟩:=id W'.ex;refine⟨_,rfl,p,dxw,_,rfl,w1,az_ _ _ _ Z0 Z0 Z0,_,rfl,p,n,strOf hs n,hs,ts,fp,rfl,W',G.hnd,aQ_ ((aw_ hs).mem_iff.mp (ae' hn)),?_⟩;refine⟨out,hD',by rw[eo,aa',aa',am'];omega,hN _ _ ⟨ar_ sm hD,a1_,?_⟩⟩;rw[b0_ hn,an',an',eo];rfl
theorem bT':a3' ["goods","placed","multiple","found","hand","load"] ["goods","placed"] (a1' dC'):=f__
def lvF(hs:Xa)(qs:List Pc)(f:Str->Str)(h:Str):Int:=ld f (qs.map wOf) h * (bv' hs / strOf hs h)
inductive bV' (K:F__) (CG CW:Addr) (vs:List V) (H:Hp) (Q:VK) (E:XK):Prop
 |mk:∀(g p d:Addr) (hs:Xa) (ts:Xb) (qs:List Pc) (fp:List Addr) (f:Str->Str),vs=[.ref g,.ref d]->bw' K CG CW H g p d hs ts qs fp f->(∀q∈qs,0<=q.2.1/\q.2.1<=1000000000)->(∀d' H',Same H H'->H d'=none->H' d'=some (.dK (mKV (a2' hs) λh=>.int (lvF hs qs f h)))->Q (.ref d') H')->bV' K CG CW vs H Q E
theorem jm_{qs:List Pc}(wp:∀q∈qs,0<=q.2.1/\q.2.1<=1000000000)(h64:qs.length<64)(f:Str->Str)(h:Str):0<=ld f (qs.map wOf) h/\ld f (qs.map wOf) h<=64000000000:=by
 have p:∀x∈qs.map wOf,0<=x.2/\x.2<=1000000000:=λx hx=>by
  obtain⟨q,hq,rfl⟩:=af'.mp hx;exact wp q hq
 have h1:=kg_ (f:=f) (h:=h) p;rw[aa'] at h1;exact⟨kG_ λx hx=>(p x hx).1,by omega⟩
theorem gS_{f CG CW:Addr}{fd:Ad}(F:Fun K "levels_at" "levels_at" dC' f fd)(T:TxtG K CG)(TW:Txt K mg CW)(cL:Cal P w K mg base 3 "loads_at" ["goods","placed"] (bW' K CG CW))(cM:Cal P w K mg base 3 "multiple_of_strengths" ["web"] (dj' K CW))(cS:CalM P w K mg base CW 2 "strength" ["self","hand"] (bj' K CW)) :
  FnOk P w K mg base CX0 4 f fd ["goods","placed"] (bV' K CG CW):=by
 refine F.ok bT' (λvs H Q E h=>?_) (λcdv A outer s H vs Q E hr h=>?_)
 ·obtain⟨g,p,d,hs,ts,qs,fp,f,rfl,_⟩:=h;rfl
 ·obtain⟨g,p,d,hs,ts,qs,fp,f,rfl,Pl,wp,k⟩:=h;have hu:=ba_ hr;have sz:=b__;have hr2:Room 2 _:=hr.mono (by decide);refine' ⟨_,?r0,?kk⟩
  case' r0=>refine' a3_ ?s0 (a3_ ?s1 (a3_ ?s2 ?r2))
  case s0=>exact ad_ (i:=2) bT'.nd rfl (Or.inl rfl) (af_ cM hr (a0_ (ak_ (pv 0) rfl) a2_))
  case s1=>exact ad_ (i:=3) bT'.nd rfl (Or.inl rfl) ck_
  case' s2=>refine' aV_ b_1 rfl ?i2 ?g2 (a4_ ?b2)
  case i2=>exact dr_ (cj_ (af_ cL hr (a0_ (pv 0) (a0_ (pv 1) a2_))))
  case g2=>exact bR_ rfl (aq_ (ac_ (i:=4) bT'.nd rfl (Or.inl rfl)) (aq_ (ac_ (i:=5) bT'.nd rfl (Or.inl rfl)) bc_))
  case b2=>exact bv_ hu (pv 3) (pv 4) (am_ aT_ (pv 5) (am_ bd_ (pv 2) (b2_ cS TW.cl hr2 (ak_ (pv 0) rfl) (a0_ (pv 4) a2_)))) rfl
  case r2=>exact a4_ (a8_ (pv 3))
  case' kk=>skip
  have nl:=Pl.Gd.nlen;have h8:=Pl.Gd.h8;obtain⟨dx,dw,dy,vs,fpw,h1,h2,_⟩:=id Pl.G.ex;refine⟨_,rfl,g,CG,dx,_,_,rfl,h1,T.cl,T.nW,aJ_ _ _ _,p,hs,ts,fpw,rfl,h2,Pl.Gd,λH0 s0=>?_⟩;intro d2 hd2;have s1:=s0.trans (Same.new (o:=.dK []) hd2);have e1:upd H0 d2 (.dK []) d2=some (.dK []):=a1_;have n2:H d2=none:=s0.free hd2;show tSeq _ _ _ _ (upd H0 d2 (.dK []));generalize upd H0 d2 (.dK [])=H1 at s1 e1 ⊢;have Pl1:bw' K CG CW H1 g p d hs ts qs fp f:=⟨Pl.G.same s1,Pl.Gd,Pl.dfp,s1 _ _ Pl.hd,Pl.at_,Pl.nd,Pl.h64⟩;refine⟨_,rfl,_,rfl,g,p,d,hs,ts,qs,fp,f,rfl,Pl1,λdl H2 s2 hdl e2=>?_⟩;refine⟨dl,_,rfl,e2,λv hv=>?_⟩;obtain⟨s3,hv1⟩:=nw__ (o:=bq' v dl) hv;have e3:=s3 _ _ e2;have s13:=s2.trans s3;generalize upd H2 v (bq' v dl)=H3 at s3 hv1 e3 s13 ⊢;have ndl:H dl=none:=s1.free hdl;have d2l:d2≠dl:=a7_ e1 hdl;refine⟨v,dl,_,rfl,hv1,e3,λo=>?_⟩;refine cq_ (λi σ H'=>∃(v4 v5:Option V),σ=[some (.ref g),some (.ref d),some (.int (bv' hs)),some (.ref d2),v4,v5]/\Same H H'/\H' dl=some (.frz o (.dK (ldV hs qs f)))/\H' d2=some (.dK (mKV ((a2' hs).take i) λh=>.int (lvF hs qs f h)))) ⟨none,none,rfl,ar_ (s1.trans s13) ndl,a1_,by rw[a5_ d2l];exact s13 _ _ e1⟩ (λi σ H' _ ⟨_,_,_,_,z,_⟩=>z) ?_ ?_
  ·rintro i ky x σ H8 hx ⟨v4,v5,rfl,s8,f8,e8⟩ t ht;obtain⟨n,hn,rfl,rfl⟩:=h2_ hx;have hi:i<(a2' hs).length:=(ac'.mp hn).1;have nm:n∈hs.map (·.1):=(aw_ hs).mem_iff.mp (ae' hn);have sm:=aQ_ nm;have sg:=ef_ Pl.Gd (ae' hn);have lo:=jm_ wp Pl.h64 f n;have ss:=Same.new (o:=.tup [.str n,.int (ld f (qs.map wOf) n)]) ht;have s9:=s8.trans ss;have e9:=ss _ _ e8;have f9:=ss _ _ f8;have et:upd H8 t (.tup [.str n,.int (ld f (qs.map wOf) n)]) t=some (.tup [.str n,.int (ld f (qs.map wOf) n)]):=a1_;show gTup _ _ _ _ _ (upd H8 t (.tup [.str n,.int (ld f (qs.map wOf) n)])) _;generalize upd H8 t (.tup [.str n,.int (ld f (qs.map wOf) n)])=H9 at ss s9 e9 f9 et ⊢;refine⟨t,_,rfl,.of et,rfl,_,_,rfl,_,_,rfl,rfl,?_⟩;have G9:=Pl.G.same s9;obtain⟨dx,dw,dy,vs,fpw,h1,h2,h3,h4,h5,m1,m2,m3,m4,m5⟩:=id G9.ex;obtain⟨dxw,d1,l2,d3,zs0,as,ef,w1,_⟩:=id h2.ex;have hnw:(flds d1 l2 d3).lookup ("strength":Str)=none:=az_ _ _ _ Z0 Z0 Z0;refine⟨_,rfl,_,rfl,_,rfl,g,CG,dx,_,_,rfl,h1,T.cl,T.nW,aJ_ _ _ _,p,dxw,_,rfl,w1,hnw,_,rfl,p,n,strOf hs n,hs,ts,fpw,rfl,h2,Pl.Gd.hnd,sm,?_⟩;refine⟨_,_,rfl,rfl,⟨by omega,by omega⟩,_,_,rfl,rfl,.inl ⟨by omega,by omega⟩,_,rfl,_,rfl,d2,_,rfl,.k (k:=Sum.inr n) e9 (by rw[b4_,am'];omega),?_⟩;refine⟨_,_,rfl,ar_ s9 n2,by rw[a5_ d2l.symm];exact f9,?_⟩;rw[a1_,b0_ hn,ht_ (f3_ Pl.Gd.nnd hn)];congr 2;refine bQ_ λm _=>?_;by_cases z:m=n
   ·subst z;simp[lvF]
   ·simp[z]
  rintro σ H8 ⟨v4,v5,rfl,s8,f8,e8⟩;rw[b4_,ao'] at e8;exact⟨_,rfl,k d2 H8 s8 n2 e8⟩
end
end Ev
namespace L2
open PySem PySem.Spec PyProof.Rows
section
variable{P:Ae}{w:Af}{K:F__}{mg:Str->Option Aa}{base:Heap}
section
variable{N:List Str}{qual:Str}{scope:Scope}{f:Addr}{cd:Aa}{A:Ag}{outer:List Env}{s:Ac}{H:Hp}{E:XK}
end
end
open PySem.Calls PySem.W
section
variable{M:Model}{A:Ag}{E:Aa->Ac->Prop}{s:Ac}{base:Heap}{env:Env}{outer:List Env}{L e:Addr}{cls a0:Aa}{Q:Unit->Ac->Prop}
def TracedD(h base:Heap)(e:Addr)(cls a0:Aa)(dd:Option Addr):Prop:=∃oe vs T oT ts,h.get? e=some oe/\(oe.cls=cls/\vs[0]? = some a0)/\oe.data=Data.fields vs/\vs[1]? = some (Value.ref T)/\base.get? T=none/\T≠e/\h.get? T=some oT/\oT.data=Data.fields ts/\ts[3]? = some Value.none/\oe.dict=dd
def bx'(base:Heap)(l:List Env)(e:Addr)(cls a0:Aa)(dd:Option Addr)(h:Heap):Prop:=base.StaysIn h/\base.get? e=none/\h.FunFrames base l/\TracedD h base e cls a0 dd
theorem newEntryD{oe:Obj}{vs:Array Aa}{head:Aa}{hadNext:Bool}(hfr:A.frames=some (env::outer))(hl:s.heap.FunFrames base (env::outer))(hf:env.frame=some L)(he:s.heap.get? e=some oe)(hkb:base.StaysIn s.heap)(hen:base.get? e=none)(hd:oe.data=Data.fields vs)(hsz:1<vs.size)(h0:vs[0]? = some a0)
  (h:∀h',base.StaysIn h'->h'.FunFrames base (env::outer)->TracedD h' base e oe.cls a0 oe.dict->s.heap.UpToSlots h'->Q () { s with heap:=h' }) :
  wpAny M A (do
   let a <- PySem.frameOf env
   let pl <- entryPlaceOf L hadNext
   let b <- EntryCells.newEntry head a Value.none (rawInt L) Value.none pl
   setField (Value.ref e) 1 b) (λ_ s'=>wpAny M A (setFlight (Value.ref e) none) Q E s') E s:=by
 have hene:e∉List.filterMap (λx=>x.frame) (env::outer):=λhm=>by
  obtain⟨_,o,ho,hnf⟩:=Heap.FunFrames.mem hl hm;rw[he] at ho;cases ho;exact hnf vs hd
 refine a__ (wpAny_frameOf_fun hfr hl hf λh₁ hs₁=>a__ (wpAny_entryPlaceOf λpl hpl=>?_));unfold EntryCells.newEntry newFields;have hsz1:h₁.objs.size=s.heap.objs.size:=hs₁.1;have he₁:=(hs₁.right.left e hene).trans he;have hlt:∀b o,s.heap.get? b=some o->b≠h₁.objs.size:=λb o q=>ap' (by rw[hsz1];exact a_5 q)
 have hbn:base.get? h₁.objs.size=none:=by
  cases q:base.get? h₁.objs.size with
  |none=>rfl
  |some o=>exact absurd rfl (hlt _ o (hkb _ o q))
 have hbase:∀b o,base.get? b=some o->h₁.get? b=some o:=λb o q=>(hs₁.right.left b (λhm=>by
  have:=(Heap.FunFrames.mem hl hm).1;rw[q] at this;cases this)).trans (hkb b o q)
 obtain⟨tbs,htb,ht3⟩:∃tbs:Array Aa,([head,Value.ref L,Value.none,rawInt ↑L,Value.none]++if pl.isEmpty=true then List.replicate 6 Value.none else pl).toArray=tbs/\3<tbs.size:=⟨_,rfl,by simp⟩
 have hts:tbs.size<=sizeLine+2:=by
  rw[<- htb];rcases hpl with rfl|⟨a,b,c,d,c9,b10,_,rfl⟩
  ·show 11<=sizeLine+2;decide
  ·show 11<=sizeLine+2;decide
 refine a__ (wpAny_newObj_type ?_ (by rw[htb];exact hts));rw[htb];have he₂:(h₁.push { cls:=Value.type "traceback",data:=Data.fields tbs }).get? e=some oe:=a_0 _ he₁;have hn₂:(h₁.push { cls:=Value.type "traceback",data:=Data.fields tbs }).get? h₁.objs.size=some { cls:=Value.type "traceback",data:=Data.fields tbs }:=a_1 h₁ rfl;have hTe:h₁.objs.size≠e:=(hlt e oe he).symm;refine wpAny_setField he₂ hd hsz ?_;have hd₃:=Obj.data_mapFields hd λx=>x.setIfInBounds 1 (Value.ref h₁.objs.size);have he₃:=Heap.get?_update_self (Obj.mapFields λx=>x.setIfInBounds 1 (Value.ref h₁.objs.size)) he₂ (Obj.isFreed_of_fields hd₃);have hn₃:=(b_0 (h₁.push { cls:=Value.type "traceback",data:=Data.fields tbs }) (Obj.mapFields λx=>x.setIfInBounds 1 (Value.ref h₁.objs.size)) hTe.symm).trans hn₂;unfold setFlight;refine a__ (wpAny_field (x:=.ref h₁.objs.size) he₃ hd₃ (by simp[hsz]) ?_);rw[a_9 Z2];refine wpAny_setField hn₃ rfl ht3 ?_;have hd₄:=Obj.data_mapFields (o:={ cls:=Value.type "traceback",data:=Data.fields tbs }) rfl λx=>x.setIfInBounds 3 Value.none;have hn₄:=Heap.get?_update_self (Obj.mapFields λx=>x.setIfInBounds 3 Value.none) hn₃ (Obj.isFreed_of_fields hd₄);have he₄:=(b_0 ((h₁.push { cls:=Value.type "traceback",data:=Data.fields tbs }).update e (Obj.mapFields λx=>x.setIfInBounds 1 (Value.ref h₁.objs.size))) (Obj.mapFields λx=>x.setIfInBounds 3 Value.none) hTe).trans he₃
 have oth:∀b o,b≠e->b≠h₁.objs.size->h₁.get? b=some o->(((h₁.push { cls:=Value.type "traceback",data:=Data.fields tbs }).update e (Obj.mapFields λx=>x.setIfInBounds 1 (Value.ref h₁.objs.size))).update h₁.objs.size (Obj.mapFields λx=>x.setIfInBounds 3 Value.none)).get? b=some o:=λb o n1 n2 q=>
  (b_0 _ _ n2.symm).trans ((b_0 _ _ n1.symm).trans (a_0 _ q))
 have hec:((Obj.mapFields λx=>x.setIfInBounds 1 (Value.ref h₁.objs.size)) oe).cls=oe.cls/\((Obj.mapFields λx=>x.setIfInBounds 1 (Value.ref h₁.objs.size)) oe).dict=oe.dict:=by
  obtain⟨c,dt,da,sl⟩:=oe;have:da=Data.fields vs:=hd;subst this;exact⟨rfl,rfl⟩
 have ups:∀b o,s.heap.get? b=some o->(∀vs,o.data≠Data.fields vs)->∃sl,(((h₁.push { cls:=Value.type "traceback",data:=Data.fields tbs }).update e (Obj.mapFields λx=>x.setIfInBounds 1 (Value.ref h₁.objs.size))).update h₁.objs.size (Obj.mapFields λx=>x.setIfInBounds 3 Value.none)).get? b=some { cls:=o.cls,dict:=o.dict,data:=o.data,slots:=sl }:=λb o q nf=>by
  obtain⟨sl,q1⟩:=hs₁.right.right b o q;refine⟨sl,oth b _ (λz=>?_) (hlt b o q) q1⟩;subst z;rw[he] at q;cases q;exact nf vs hd
 refine h _ (λb o q=>oth b o (λz=>?_) (λz=>?_) (hbase b o q)) (Heap.FunFrames.of_keeps (λb o q nf=>?_) hl) ⟨_,_,h₁.objs.size,_,_,he₄,⟨hec.1,?_⟩,hd₃,?_,hbn,hTe,hn₄,hd₄,?_,hec.2⟩ ups
 ·subst z;rw[hen] at q;cases q
 ·subst z;rw[hbn] at q;cases q
 ·obtain⟨sl,q1⟩:=ups b o q nf;exact⟨_,q1,rfl⟩
 ·rw[Array.getElem?_setIfInBounds];simpa using h0
 ·simp[hsz]
 ·simp[ht3]
theorem bx'.less{dd:Option Addr}{h:Heap}(f:bx' base (env::outer) e cls a0 dd h):bx' base outer e cls a0 dd h:=⟨f.1,f.2.1,f.2.2.1.2.2,f.2.2.2⟩
theorem dI_{dd:Option Addr}(hfr:A.frames=some (env::outer))(hf:env.frame=some L)(hfl:bx' base (env::outer) e cls a0 dd s.heap)
  (hQ:∀h',bx' base (env::outer) e cls a0 dd h'->s.heap.UpToSlots h'->Q () { s with heap:=h' }):wpAny M A (noteFrame (Value.ref e) env) (λ_ s₂=>wpAny M A (setFlight (Value.ref e) none) Q E s₂) E s:=by
 obtain⟨f1,f2,f3,oe,vs,T,oT,ts,he,⟨hc,h0⟩,hd,h1,hnT,hTe,hT,hdT,h3,hdd⟩:=hfl;unfold noteFrame;rw[hf];dsimp only;refine a__ (wpAny_field he hd h1 ?_);rw[a_9 Z2];refine a__ (wpAny_field hT hdT h3 ?_);rw[a_4 (by simp[rawInt])];refine a__ (wpAny_setField hT hdT (Array.getElem?_eq_some_iff.mp h3).1 ?_);have other:∀b,b≠T->(s.heap.update T (Obj.mapFields λx=>x.setIfInBounds 3 Value.none)).get? b=s.heap.get? b:=λb hb=>b_0 _ _ hb.symm
 have nrec:∀b o,s.heap.get? b=some o->(∀vs,o.data≠Data.fields vs)->b≠T:=λb o q nf z=>by
  subst z;rw[hT] at q;cases q;exact nf ts hdT
 refine newEntryD (base:=base) (s:={ s with heap:=s.heap.update T (Obj.mapFields λx=>x.setIfInBounds 3 Value.none) }) hfr (Heap.FunFrames.of_keeps (λb o q nf=>⟨o,(other b (nrec b o q nf)).trans q,rfl⟩) f3) hf ((other e hTe.symm).trans he) (λb o q=>(other b (λz=>?_)).trans (f1 b o q)) f2 hd (Array.getElem?_eq_some_iff.mp h1).1 h0 λh' g1 g2 g3 g4=>?_
 ·subst z;rw[hnT] at q;cases q
 ·refine hQ h' ⟨g1,f2,g2,?_⟩ λb o q nf=>g4 b o ((other b (nrec b o q nf)).trans q) nf;rw[hc,hdd] at g3;exact g3
theorem fx_{dd:Option Addr}(hfr:A.frames=some (env::outer))(hf:env.frame=some L)(hfl:bx' base (env::outer) e cls a0 dd s.heap)
  (hQ:∀h',bx' base outer e cls a0 dd h'->s.heap.UpToSlots h'->Q () { s with heap:=h' }):wpAny M A (leaving env (Value.ref e)) Q E s:=by
 unfold leaving;exact a__ (dI_ hfr hf hfl λh' f u=>hQ h' f.less u)
end
section
variable{prog:Ae}{w:Af}{A:Ag}{E:Aa->Ac->Prop}{h:Heap}{g:Array GenState}{d:Drawn}{t:Nat}{os:OsState}{nm q:Str}{C N f:Addr}{bs bm bmB:List Aa}{hdct:Bool}{sn:List Str}{sub:List Aa}{ab:Bool}{col:Option Bool}{dd:Option Addr}{k0 k1 k2 k3 k5:Option Aa}{B newId initId:String}{K:F__}{rest:List Aa}
end
open Builtin Builtin.ObjectAttr
def excMro(C CE:Addr):List Aa:=[.ref C,.ref CE,.type "ValueError",.type "Exception",.type "BaseException",.type "object"]
section
variable{prog:Ae}{w:Af}{A:Ag}{E:Aa->Ac->Prop}{s:Ac}{K:F__}{x C CE:Addr}{ox:Obj}{od:Option Obj}{name:Str}{tk:Tok}{v:Aa}{cd:ClassData}
end
def excInO(K:F__)(C:Addr)(bmB:List Aa)(newId:String):Bool:=
 match K.lookup C with
 |some ⟨.type "type",_,.cls cd,sl⟩=>
  match cd.mro,sl.toList with
  |.ref C'::bm,[_,_,_,_,some (.builtin n),_]=>C' == C&&n == newId&&!cd.hasDel&&tailIn K bmB bm&&nsOkIn K cd.ns
  |_,_=>false
 |_=>false
def clsO(K:F__)(C CE:Addr):Bool:=
 match clsIn K C with
 |some cd=>cd.mro == excMro C CE&&cd.hasDict
 |none=>false
structure ExO (K:F__) (C CE:Addr):Prop where
 kx:ExcK K C
 ex:excInO K C bmV "ValueError.__new__"=true
 es:findIn K (.ref C) "__setattr__"=some (some (.builtin "object.__setattr__"))
 cl:clsO K C CE=true
structure ExF (K:F__) (C:Addr) (f:Str):Prop where
 tk:takerIn K C f=some none
 fd:findIn K (.ref C) f=some none
structure ExB (K:F__) (CE:Addr):Prop where
 sp:specialIn K (.ref CE) "__getattribute__"=some (some (.builtin "type.__getattribute__"))
 rd:readsIn K CE (.type "type")=true
 fc:findCls K (.ref CE) (.type "type") "__init__"=some (.val (.builtin "ValueError.__init__"))
section
variable{P:Ae}{w:Af}{H:Hp}{h:Heap}{e C a0 d:Addr}{dd:Option Addr}{fs:List (Str × V)}
end
section
variable{X:Cx}{C CE:Addr}{x f:Str}{p apos pos pos':Pos}{o e value:Expr}{es:List Expr}{ta tv:TE}{t:TA}
end
def CX2(P:Ae)(w:Af):CXT:=λl H s E e s'=>
 ∃a cls H' B a0 dd,e=Value.ref a/\s'.os=s.os/\AllBare s'.gens/\Un (frs l) [] H H' s.heap s'.heap/\HOk P w H' s'.heap/\bx' B l a cls a0 dd s'.heap/\InB B l H' s.heap s'.heap/\E cls dd H'
section
variable{X:Cx}{pins:List (Addr × Obj)}{σ:St}{H H':Hp}{s s1:Ac}{B h:Heap}{a:Addr}{cls a0:Aa}{dd:Option Addr}{E:XK}
theorem fq_(I:Inv X pins σ H s)(hex:X.ex=[])(os:s1.os=s.os)(bare:AllBare s1.gens)(un:Un (frs X.stack) [] H H' s.heap h)(hok:HOk X.prog X.w H' h)(i:InB B X.stack H' s.heap h)(ff:h.FunFrames B X.stack)(up:h.UpToSlots s1.heap)
  (fl:bx' B X.outer a cls a0 dd s1.heap) (hE:E cls dd H'):CX2 X.prog X.w X.outer X.H₀ X.s₀ E (.ref a) s1:=by
 have un1:=eZ_ un ff i fl.1 up;have hok1:=dO_ hok (f9_ I un) i fl.1;have I1:Inv X pins σ H' s1:=I.call' os un1 hok1 bare (λb z=>absurd z Z2);have bs:=I1.base;rw[hex] at bs;refine⟨a,cls,H',B,a0,dd,rfl,I1.os,I1.bare,bs,I1.hok,fl,λb o e hb c=>?_,hE⟩
 have nL:b≠X.env.locals:=by
  rcases c with z|⟨o0,z⟩
  ·intro q;rw[q,I1.free] at z;cases z
  ·exact ap' (ax' (a_5 z) I.ok.above)
 refine f1_ hok un i fl.1 b o e (λhm=>?_) (c.imp id λ⟨o0,z⟩=>I.base.there b o0 z (by rw[hex];simp));rcases al'.mp (I.stkSub b hm) with z|z
 ·exact nL z
 ·exact hb z
end
section
variable{P:Ae}{w:Af}{K:F__}{mg:Str->Option Aa}{base:Heap}{N:List Str}{qual:Str}{scope:Scope}{f:Addr}{cd:Aa}{A:Ag}{outer:List Env}{s:Ac}{H:Hp}{E:XK}
end
section
variable{X:Cx}{x:Str}{C f:Addr}{fd:Ad}{ps:List Str}{sp:Sp}{k:Nat}{np cpos pos:Pos}{e:Expr}{es:List Expr}{t:TA}{E:XK}
end
section
variable{X:Cx}{i:Nat}{x n:Str}{D C:Addr}{np hpos pos:Pos}{b₀:Stmt}{suite body:List Stmt}{tb:XK->TS}{ts:TS}{rest:List ExceptHandler}
end
section
variable{P:Ae}{w:Af}{K:F__}{mg:Str->Option Aa}{base:Heap}{N:List Str}{qual:Str}{scope:Scope}{f:Addr}{cd:Aa}{A:Ag}{outer:List Env}{s:Ac}{H:Hp}{E:XK}
end
section
variable{X:Cx}{i:Nat}{x x2 n:Str}{D C D2 C2:Addr}{np hpos np2 hpos2 pos:Pos}{b₀ c₀:Stmt}{suite suite2 body:List Stmt}{tb:XK->TS}{ts ts2:TS}
end
section
variable{X:Cx}{i:Nat}{x n:Str}{D:Addr}{ok:Addr->Prop}{np hpos pos:Pos}{b₀:Stmt}{suite body:List Stmt}{tb:XK->TS}{ts:TS}
end
section
variable{X:Cx}{k:Nat}{ps:List Str}{x:Str}{p pos:Pos}{e:Expr}{es:List Expr}{tn:TE}{t:TA}
end
structure bX' (ps fvs:List Str) (scope:Scope):Prop where
 nd:(ps++fvs).Nodup
 kind:scope.kind=.function
 co:scope.isCoroutine=false
 gen:scope.isGenerator=false
 par:∀p∈ps,scope.names.lookup p=some .local
 fv:∀x∈fvs,scope.names.lookup x=some .free
 all:∀x,scope.names.lookup x=some .free->x∈fvs
 nocell:∀x∈scope.names,x.2≠.cell
def eh'(CX:CXT)(P:Ae)(w:Af)(K:F__)(mg:Str->Option Aa)(base:Heap)(N:List Str)(qual:Str)(scope:Scope)(f:Addr)(cd:Aa)(cl:List (Str × Addr))(A:Ag)(outer:List Env)(s:Ac)(H:Hp)(E:XK):Cx where
 prog:=P
 w:=w
 K:=K
 mg:=mg
 base:=base
 A:=A.deeper (envX qual scope s.heap.objs.size f cd cl)
 N:=N
 s₀:=s
 H₀:=H
 env:=envX qual scope s.heap.objs.size f cd cl
 outer:=outer
 stack:=envX qual scope s.heap.objs.size f cd cl::outer
 ex:=[]
 calm:=true
 fn:=λ_=>false
 pn:=[]
 xe:=λe s'=>wpAny (model P w) (A.deeper (envX qual scope s.heap.objs.size f cd cl)) (leaving (envX qual scope s.heap.objs.size f cd cl) e) (λ_ s''=>CX outer H s E e s'') (λe' s''=>CX outer H s E e' s'') s'
theorem dC_{x:Str}{u:Aa}:∀{l:List (Str × Aa)},(l.map (·.1)).Nodup->(x,u)∈l->l.lookup x=some u
 |(y,v)::l,nd,h=>by
  have n:=aP'.mp nd;rcases al'.mp h with e|h
  ·cases e;simp[List.lookup]
  ·have ne:x≠y:=λz=>n.1 (by rw[<- z];exact af'.mpr ⟨_,h,rfl⟩);have:(x == y)=false:=by simpa using ne
   rw[aK',this];exact dC_ n.2 h
theorem gR_:∀(ps:List Str) (us:List Aa),((ps.zip us).map (·.1)).Sublist ps
 |[],_=>by simp
 |_::_,[]=>by simp
 |p::ps,u::us=>by
  simp only[List.zip_cons_cons,av'];exact (gR_ ps us).cons₂ p
variable{ps:List Str}{us:List Aa}{x:Str}
theorem cS_{i:Nat}{u:Aa}(nd:ps.Nodup)(h1:ps[i]? = some x)(h2:us[i]? = some u):(ps.zip us).reverse.lookup x=some u:=by
 refine dC_ ?_ (List.mem_reverse.mpr (ae' (i:=i) ?_))
 ·rw[List.map_reverse];refine (List.reverse_perm _).nodup_iff.mpr (nd.sublist ?_);exact gR_ ps us
 ·rw[List.getElem?_zip_eq_some];exact⟨h1,h2⟩
structure cc' (fvs:List Str) (cl:List (Str × Addr)) (gs:List V) (h:Heap):Prop where
 inj:∀x y c,cl.lookup x=some c->cl.lookup y=some c->x=y
 has:∀x∈fvs,∃c,cl.lookup x=some c
 all:∀x c,cl.lookup x=some c->∃v,h.IsCell c v
 is:∀(i:Nat) x v,fvs[i]? = some x->gs[i]? = some v->∃c u,cl.lookup x=some c/\RelV v u/\h.IsCell c (some u)
variable{h':Heap}{c:Addr}
theorem IsCell.keeps{h:Heap}{v:Option Aa}(x:h.IsCell c v)(k:∀o,h.get? c=some o->h'.get? c=some o):h'.IsCell c v:=let ⟨o,e,d⟩:=x;⟨o,k o e,d⟩
variable{CX:CXT}{w:Af}{mg:Str->Option Aa}{base:Heap}{fvs:List Str}{f:Addr}{cd:Aa}{A:Ag}{outer:List Env}{s:Ac}{E:XK}{gs:List V}
theorem ja_{P:Ae}{K:F__}{qual:Str}{scope:Scope}{cl:List (Str × Addr)}{H:Hp}{vs:List V}{h1:Heap}{tk:Nat}(S:bX' ps fvs scope)(hd:A.handled=none)(e0:Env0 P w K mg base A outer s H)(hl:vs.length=ps.length)(hg:gs.length=fvs.length)(r:Vals vs us)(C:cc' fvs cl gs s.heap)(fc:∀x c,cl.lookup x=some c->H c=none)(ns:h1.Ns s.heap.objs.size λx=>(ps.zip us).reverse.lookup x)(k:∀b o,s.heap.get? b=some o->h1.get? b=some o) :
  Inv (eh' CX P w K mg base (ps++fvs) qual scope f cd cl A outer s H E) [] (vs.map some++gs.map some) H { s with heap:=h1,toks:=tk }:=by
 have noA:∀b:Addr,b∉(eh' CX P w K mg base (ps++fvs) qual scope f cd cl A outer s H E).ex:=λb z=>absurd (show b∈([]:List Addr) from z) Z2
 refine⟨⟨e0.mod,S.kind,rfl,rfl,ai' _,C.inj,λy hy=>?_,λy c h=>(by cases h),λ_=>hd,Around.frames_deeper e0.frames,.inr ⟨rfl,rfl⟩,λb z=>absurd z (noA b),e0.bs,e0.bsz,λb _ _=>noA b,λb z=>absurd z (noA b),e0.funs,e0.frf⟩,
  rfl,e0.bare,Un.kept k,⟨_,ns,λi y v h1' h2 h3=>?_⟩,λy c h=>?_,e0.hok.fresh (ai' _),fc,λp hp=>absurd (show p∈([]:List (Addr × Obj)) from hp) Z2,e0.hok.kept k,?_⟩
 ·have hy:scope.names.lookup y=some .cell∨scope.names.lookup y=some .free:=hy;rcases hy with hy|hy
  ·exact absurd rfl (S.nocell _ (b_3 hy))
  ·exact C.has y (S.all y hy)
 ·have h1':(ps++fvs)[i]? = some y:=h1';by_cases hi:i<ps.length
  ·rw[List.getElem?_append_left hi] at h1';rw[List.getElem?_append_left (by simpa [hl] using hi),aj'] at h2;obtain⟨v',hv,e⟩:=Option.map_eq_some_iff.mp h2;cases e;obtain⟨u,hu,rv⟩:=r.get hv;refine⟨u,rv,.inl ⟨S.par y (ae' h1'),?_⟩⟩;have ndP:ps.Nodup:=(List.nodup_append.mp S.nd).1;show (ps.zip us).reverse.lookup y=some u;exact cS_ ndP h1' hu
  ·rw[aL' Z1] at h1';rw[aL' (by simp[hl];omega),aj',aa',hl] at h2;obtain⟨v',hv,e⟩:=Option.map_eq_some_iff.mp h2;cases e;obtain⟨c,u,e1,rv,ce⟩:=C.is _ _ _ h1' hv;exact⟨u,rv,.inr ⟨.inr (S.fv y (ae' h1')),c,e1,IsCell.keeps ce λo e=>k _ _ e⟩⟩
 ·obtain⟨v,ce⟩:=C.all y c h;exact⟨v,IsCell.keeps ce λo e=>k _ _ e⟩
 ·show _=(ps++fvs).length;rw[ar',ar',aa',aa',hl,hg]
variable{k:Nat}{c':Addr}
theorem jy_{P:Ae}{K:F__}{qual:Str}{params:Arguments}{body:PySem.Expr}{scope:Scope}{pm ctv:Aa}{cl:List (Str × Addr)}{H:Hp}{Q:VK}{vs:List V}{t:TE}(S:bX' ps fvs scope)(hr:Room (k+1) A)(e0:Env0 P w K mg base A outer s H)(hf:s.heap.get? f=some (kla_obj "<lambda>" qual params body scope cl pm c' ctv))(hcd:s.heap.CodeRec (.ref c') qual)(hb:bindArgs (kla_fn "<lambda>" qual params body scope cl pm (.ref c') ctv) ⟨us,[]⟩=pure (ps.zip us))(hl:vs.length=ps.length)(hg:gs.length=fvs.length)(r:Vals vs us)(C:cc' fvs cl gs s.heap)(fc:∀x c,cl.lookup x=some c->H c=none)(ht:Room k (A.deeper (envX qual scope s.heap.objs.size f (.ref c') cl))->PE (eh' CX P w K mg base (ps++fvs) qual scope f (.ref c') cl A outer s H E) body t)(hq:t (vs.map some++gs.map some) H Q) :
  codeAny (model P w) A (.call (.ref f) ⟨us,[]⟩) (CR CX outer P w H s Q E) s:=by
 have lim:s.heap.NoLimit:=e0.mod.nolimit.keeps λb o e=>(e0.bs b o e).1;refine kla_callFunE hr.depth hf rfl S.co S.gen rfl hcd ?_;rw[hb];refine a_6 (wpAny_newFunctionEnv S.nocell (λx hx=>?_) (λh1 ns sb=>?_) S.kind)
 ·exact S.par x.1 (List.of_mem_zip hx).1
 have k1:∀b o,s.heap.get? b=some o->h1.get? b=some o:=λb o e=>sb.extBut b o (ap' (a_5 e)) (a_0 _ e);refine⟨lim.keeps k1,?_⟩;show codeAny _ _ (.expr body (envX qual scope s.heap.objs.size f (.ref c') cl)) _ _;have I:=ja_ (CX:=CX) (qual:=qual) (f:=f) (cd:=.ref c') (E:=E) (tk:=s.toks+(ps.zip us).length) S hr.hd e0 hl hg r C fc ns k1;refine kla_codeExpr (c_2 (ht (hr.deeper _) [] _ _ H _ I hq) (λv s' hs=>?_) λe s' hs=>hs);obtain⟨x,H',J,rv,q⟩:=hs;exact⟨x,H',J.os,J.bare,J.base,J.hok,rv,q⟩
def lamH(f:Addr)(qual:Str)(params:Arguments)(body:PySem.Expr)(scope:Scope)(cl:List (Str × Addr))(c':Addr):HO:=.ext λh=>∃pm ctv,h.get? f=some (kla_obj "<lambda>" qual params body scope cl pm c' ctv)
def dr'(c':Addr)(qual:Str):HO:=.ext λh=>∃o vs t,h.get? c'=some o/\o.data=.fields vs/\vs[1]? = some (.str qual t)
inductive tLamI (P:Addr) (qual:Str) (params:Arguments) (body:PySem.Expr) (scope:Scope) (pos:Pos) (cl:List (Str × Addr)) (H:Hp) (Q:VK):Prop
 |mk:∀ps,H P=some (.tbl ps)->TriplesOk ps.toList->((codeAmong pos ps.toList=none/\∀c' f,H c'=none->H f=none->c'≠f->Q (.ref f) (upd (upd (upd H P (.tbl (ps++#[rawInt pos.line,rawInt pos.col,.ref c']))) c' (dr' c' qual)) f (lamH f qual params body scope cl c')))∨∃c',codeAmong pos ps.toList=some (.ref c')/\∀f,H f=none->Q (.ref f) (upd H f (lamH f qual params body scope cl c')))->tLamI P qual params body scope pos cl H Q
def tLam(P:Addr)(qual:Str)(params:Arguments)(body:PySem.Expr)(scope:Scope)(pos:Pos)(cl:List (Str × Addr)):TE:=λ_ H Q=>tLamI P qual params body scope pos cl H Q
variable{X:Cx}{pos:Pos}
theorem iJ_{params:Arguments}{body:PySem.Expr}{scope:Scope}{cl:List (Str × Addr)}{P:Addr}(hdef:defaultsOf params X.env=([],[]))(hcl:closureFor scope X.env=pure cl)(hcode:X.env.code=.ref c)(C:CodeHd X.base c P)(hbm:X.base.BuiltinsAt X.mg P) :
  PE X (.Lambda params body scope pos) (tLam P (X.env.qual++"<lambda>") params body scope pos cl):=by
 intro pins s σ H Q I h;obtain⟨ps,hP,ht,h⟩:=h;have hPh:s.heap.get? P=some (tabObj ps):=I.hok P _ hP
 have hgl:H mainGlobals=none:=by
  obtain⟨o,_,_,e,_⟩:=I.mod.glob;exact (I.bs _ _ e).2
 refine kla_eval hdef ?_;rcases h with⟨hn,q⟩|⟨c',hf,q⟩
 ·refine kla_makeFunction hcl I.ok.glob (I.mod.glob.keeps I.bk) hcode (C.keeps I.bk) hPh ht hn (λz=>by rw[z,hP] at hgl;cases hgl) (hbm.keeps I.bk) λc' ctv h' tk hx hge hlt hrec htb=>?_;have fz:s.heap.objs.size<=h'.objs.size:=aM' hge (Nat.le_of_lt hlt);have nc:H c'=none:=I.hok.fresh hge;have nf:H h'.objs.size=none:=I.hok.fresh fz;have cf:c'≠h'.objs.size:=ap' hlt;have Pc:P≠c':=a7_ hP nc;have Pf:P≠h'.objs.size:=a7_ hP nf
  have old:∀{b u},H b=some u->b≠P->upd (upd (upd H P (.tbl (ps++#[rawInt pos.line,rawInt pos.col,.ref c']))) c' (dr' c' (X.env.qual++"<lambda>"))) h'.objs.size (lamH h'.objs.size (X.env.qual++"<lambda>") params body scope cl c') b=some u:=λ{b u} e n=>by
   rw[a5_ (a7_ e nf),a5_ (a7_ e nc),a5_ n];exact e
  have notT:∀{b u},H b=some u->(∀ps,u≠.tbl ps)->b≠P:=λ{b u} e n z=>by
   rw[z,hP] at e;cases e;exact n _ rfl
  have kp:∀b o,b≠P->s.heap.get? b=some o->(h'.push (kla_obj "<lambda>" (X.env.qual++"<lambda>") params body scope cl ((X.mg "__name__").getD .none) c' ctv)).get? b=some o:=λb o n e=>a_0 _ (hx b o n e);refine⟨.ref h'.objs.size,_,I.un (t':=tk) ⟨λb o e n _ _=>kp b o (λz=>by rw[z,hP] at n;cases n) e,λb o e n _ _=>⟨o.slots,kp b o (λz=>by rw[z,hP] at n;cases n) e⟩,λb o e n _=>?_,λb o e _=>?_,λb xs e=>old e (notT e Z2),λb o u e=>old e (notT e Z2),λb qs e=>?_⟩ (λb u e=>?_),rfl,q c' h'.objs.size nc nf cf⟩
  ·have lt:=a_5 e;rw[a5_ (ap' (ax' lt fz)),a5_ (ap' (ax' lt hge)),a5_ (λz=>by rw[z,hP] at n;cases n)];exact n
  ·by_cases z:b=P
   ·subst z;exact⟨_,a_0 _ htb⟩
   ·exact⟨o,kp b o z e⟩
  ·by_cases z:b=P
   ·subst z;rw[hP] at e;cases e;exact⟨_,by rw[a5_ Pf,a5_ Pc,a1_]⟩
   ·exact⟨#[],by rw[Array.append_empty];exact old e z⟩
  ·by_cases z1:b=h'.objs.size
   ·subst z1;rw[a1_] at e;cases e;exact⟨⟨_,_,a_1 _ rfl⟩,⟨_,a_1 _ rfl⟩,λh1 h2 ⟨pm,cv,e1⟩ k=>⟨pm,cv,k _ e1⟩⟩
   ·rw[a5_ z1] at e;by_cases z2:b=c'
    ·subst z2;rw[a1_] at e;cases e;obtain⟨c2,oc,vs,t,ec,hoc,hd,hv⟩:=hrec;cases ec;exact⟨⟨oc,vs,t,a_0 _ hoc,hd,hv⟩,⟨_,a_0 _ hoc⟩,λh1 h2 ⟨o,vs,t,e1,r⟩ k=>⟨o,vs,t,k _ e1,r⟩⟩
    ·rw[a5_ z2] at e;by_cases z3:b=P
     ·subst z3;rw[a1_] at e;cases e;exact a_0 _ htb
     ·rw[a5_ z3] at e;refine (I.hok b u e).stay (λd v hd e1=>kp d v ?_ e1) (λd e1=>old e1 (notT e1 Z2)) λd xs e1=>old e1 (notT e1 Z2);rcases hd with rfl|hd
      ·exact z3
      ·exact notT hd Z2
 ·refine kla_makeFunctionHit hcl I.ok.glob (I.mod.glob.keeps I.bk) hcode (C.keeps I.bk) hPh ht hf (hbm.keeps I.bk) λctv h' tk hk hsz=>?_;have nf:H h'.objs.size=none:=I.hok.fresh hsz;refine⟨.ref h'.objs.size,_,I.laid (t':=tk) (λb o e=>a_0 _ (hk b o e)) hsz ?_,rfl,q _ nf⟩;exact⟨⟨_,_,a_1 _ rfl⟩,⟨_,a_1 _ rfl⟩,λh1 h2 ⟨pm,cv,e1⟩ k=>⟨pm,cv,k _ e1⟩⟩
variable{P:Ae}{N:List Str}
theorem passesL{K:F__}{qual:Str}{scope:Scope}{cl:List (Str × Addr)}{H:Hp}:bH' (CX2 P w) (eh' (CX2 P w) P w K mg base N qual scope f cd cl A outer s H E) E:=by
 intro pins σ H1 s1 e s' I hc;obtain⟨a,cls,H',B,a0,dd,rfl,os,bare,un,hok,fl,i,hE⟩:=hc;refine fx_ (base:=B) I.ok.frames rfl fl λh1 fl1 up=>?_;exact fq_ (s1:={ s' with heap:=h1 }) I rfl os bare un hok i fl.2.2.1 up fl1 hE
section
variable{cs:List (Addr × Obj)}{H H':Hp}{b:Addr}{o:Obj}{u:HO}
variable{P:Ae}{w:Af}{h:Heap}
end
section
variable{X:Cx}{pins:List (Addr × Obj)}{σ:St}{H:Hp}{s s':Ac}{cs:List (Addr × Obj)}
def LamOk(P:Ae)(w:Af)(K:F__)(mg:Str->Option Aa)(base:Heap)(k:Nat)(qual:Str)(params:Arguments)(body:PySem.Expr)(scope:Scope)(ps fvs:List Str)(sp:List V->List V->Hp->VK->XK->Prop):Prop:=
 ∀(A:Ag) (outer:List Env) (s:Ac) (H:Hp) (f c':Addr) (pm ctv:Aa) (cl:List (Str × Addr)) (us:List Aa) (vs gs:List V) (Q:VK) (E:XK),Room k A->Env0 P w K mg base A outer s H->s.heap.get? f=some (kla_obj "<lambda>" qual params body scope cl pm c' ctv)->s.heap.CodeRec (.ref c') qual->
  vs.length=ps.length->gs.length=fvs.length->Vals vs us->cc' fvs cl gs s.heap->(∀x c,cl.lookup x=some c->H c=none)->sp vs gs H Q E->codeAny (model P w) A (.call (.ref f) ⟨us,[]⟩) (CR (CX2 P w) outer P w H s Q E) s
theorem lamOk{K:F__}{qual:Str}{params:Arguments}{body:PySem.Expr}{scope:Scope}{sp:List V->List V->Hp->VK->XK->Prop}(S:bX' ps fvs scope)(hb:∀pm c' ctv cl us,us.length=ps.length->bindArgs (kla_fn "<lambda>" qual params body scope cl pm (.ref c') ctv) ⟨us,[]⟩=pure (ps.zip us))(hbody:∀(A:Ag) (outer:List Env) (s:Ac) (H:Hp) (f:Addr) (cd:Aa) (cl:List (Str × Addr)) (vs gs:List V) (Q:VK) (E:XK),Room k (A.deeper (envX qual scope s.heap.objs.size f cd cl))->sp vs gs H Q E->bH' (CX2 P w) (eh' (CX2 P w) P w K mg base (ps++fvs) qual scope f cd cl A outer s H E) E->
   ∃t,PE (eh' (CX2 P w) P w K mg base (ps++fvs) qual scope f cd cl A outer s H E) body t/\t (vs.map some++gs.map some) H Q):LamOk P w K mg base (k+1) qual params body scope ps fvs sp:=by
 intro A outer s H f c' pm ctv cl us vs gs Q E hr e0 hf hcd hl hg r C fc hsp;obtain⟨t,ht,hq⟩:=hbody A outer s H f (.ref c') cl vs gs Q E (hr.deeper _) hsp passesL;exact jy_ S hr e0 hf hcd (hb pm c' ctv cl us (by rw[<- r.length];exact hl)) hl hg r C fc (λ_=>ht) hq
end
structure CellsOf (fvs:List Str) (cl:List (Str × Addr)) (cs:List (Addr × Obj)) (gs:List V):Prop where
 len:gs.length=fvs.length
 inj:∀x y c,cl.lookup x=some c->cl.lookup y=some c->x=y
 has:∀x∈fvs,∃c,cl.lookup x=some c
 all:∀x c,cl.lookup x=some c->∃o v,cs.lookup c=some o/\o.data=.cell v
 is:∀(i:Nat) x v,fvs[i]? = some x->gs[i]? = some v->∃c o u,cl.lookup x=some c/\cs.lookup c=some o/\o.data=.cell (some u)/\RelV v u
section
variable{X:Cx}{k:Nat}{x:Str}{p pos:Pos}{tn:TE}{qual:Str}{params:Arguments}{body:PySem.Expr}{scope:Scope}{fvs ps:List Str}{sp':List V->List V->Hp->VK->XK->Prop}{E:XK}
end
section
variable{X:Cx}{k:Nat}{x:Str}{p pos:Pos}{e:PySem.Expr}{es:List PySem.Expr}{ta:TA}{fvs ps:List Str}{sp:Sp}{f:Addr}{fd:Ad}{cl:List (Str × Addr)}{is:List Nat}
end
variable{a:Addr}{ts:List Addr}{fd:Ad}
theorem hp_{K:F__}{mb:Str->Option Aa}{fa:Addr}{sp:Sp}{s₁:Ac}{vs:List Aa}{ns:List Int}(hT:∀T∈ts,K.lookup T=none)(eT:∀T∈ts,s₁.heap.get? T=some (tabObj #[]))(hct:∀T∈ts,isCodeTable s₁.heap T)(KX:K.In s₁.heap)(hns:s₁.heap.Ns mainGlobals mg)(hb:s₁.heap.Ns builtinsNs mb)(hbb:∀x:Str,x≠"__name__"->mb x=bootBuiltins x)(hlim:s₁.heap.NoLimit)(hg:s₁.gens=#[])(ha:s₁.heap.get? a=some { cls:=.type "list",data:=.seq vs.toArray })(hi:IntsAre vs ns)(hl:ns.length<=sizeLine)(hr:Room k callerA)(hbm:∃bm ob,mg "__builtins__"=some (.ref bm)/\bm≠builtinsNs/\s₁.heap.get? bm=some ob/\ob.cls=.type "module"/\ob.dict=some builtinsNs/\ob.data=.plain)(F:∀base:Heap,K.In base->base.Ns mainGlobals mg->(∀T∈ts,base.BuiltinsAt mg T)->FnOk P w K mg base CX k fa fd [x] sp)(hbind:∀(s:Ac) (u:Aa),BindsTo s fd ⟨[u],[]⟩ [(x,u)])(hsp:∀H:Hp,(∀T∈ts,H T=some (.tbl #[]))->SqL K H a (ns.map V.int)->sp [.ref a] H (λv _=>v=.bl true) λ_ _ _=>False)(hCX:∀H e s',CX [] H s₁ (λ_ _ _=>False) e s'->False) :
  codeAny (model P w) callerA (.call (.ref fa) ⟨[.ref a],[]⟩) (λr s'=>r=.ok (.ret (.bool true))/\OldK s₁.heap s'.heap/\s'.os=s₁.os/\AllBare s'.gens) s₁:=by
 have rv:=dK_ hi;have lenV:=hi.length
 have aT:∀{b},b∈ts->b≠a:=λ{b} hb z=>by
  have:=eT b hb;rw[z,ha] at this;cases this
 have core:∀H:Hp,(∀b,H b=none∨(b∈ts/\H b=some (.tbl #[]))∨(b∉ts/\∃o xs,H b=some (.frz o (.lst xs))))->(∀T∈ts,H T=some (.tbl #[]))->SqL K H a (ns.map V.int)->HOk P w H s₁.heap->(∀b,H b≠none->b=a∨b∈ts)->(H a≠none->K.lookup a=none)->
   codeAny (model P w) callerA (.call (.ref fa) ⟨[.ref a],[]⟩) (λr s'=>r=.ok (.ret (.bool true))/\OldK s₁.heap s'.heap/\s'.os=s₁.os/\AllBare s'.gens) s₁:=by
  intro H hO hHT hS hok hA hK;have base_of:∀{b:Addr} {o:Obj},s₁.heap.get? b=some o->H b=none->(hidT s₁.heap H).get? b=some o:=λe n=>i0_ e n
  have noA:∀{b:Addr} {o:Obj} {es:Array DictEntry} {ep:Nat},s₁.heap.get? b=some o->o.data=.dict es ep->H b=none:=λ{b o es ep} e d=>by
   cases q:H b with
   |none=>rfl
   |some u=>
    rcases hA b (by rw[q];simp) with e'|e'
    ·subst e';rw[ha] at e;cases e;have d':Data.seq vs.toArray _=Data.dict es ep:=d;cases d'
    ·rw[eT b e'] at e;cases e;cases d
  have nsK:∀{b:Addr} {m:Str->Option Aa},s₁.heap.Ns b m->(hidT s₁.heap H).Ns b m:=λ{b m} ⟨o,es,ep,e,d,r⟩=>⟨o,es,ep,base_of e (noA e d),d,r⟩
  have hKb:K.In (hidT s₁.heap H):=λb o e=>base_of (KX b o e) (by
   cases q:H b with
   |none=>rfl
   |some u=>
    rcases hA b (by rw[q];simp) with e'|e'
    ·subst e';rw[hK (by rw[q];simp)] at e;cases e
    ·rw[hT b e'] at e;cases e)
  have hB:∀T∈ts,(hidT s₁.heap H).BuiltinsAt mg T:=λT hTs=>by
   obtain⟨bm,ob,h1,h2,h3,h4,h5,h6⟩:=hbm
   have n1:bm≠mainGlobals:=λz=>by
    obtain⟨o,es,ep,e,d,_⟩:=hns;rw[z,e] at h3;cases h3;rw[d] at h6;cases h6
   have n2:∀{b},b∈ts->bm≠b:=λ{b} hb z=>by
    rw[z,eT b hb] at h3;cases h3;cases h6
   refine⟨bm,ob,h1,h2,n1,n2 hTs,base_of h3 ?_,h4,h5,h6⟩;cases q:H bm with
   |none=>rfl
   |some u=>
    rcases hA bm (by rw[q];simp) with e'|e'
    ·subst e';rw[ha] at h3;cases h3;cases h6
    ·exact absurd rfl (n2 e')
  have hM:Mod K mg (hidT s₁.heap H):=⟨hKb,nsK hns,⟨mb,nsK hb,hbb⟩,let ⟨mc,h1,h2⟩:=hlim;⟨mc,nsK h1,h2⟩⟩;have e0:Env0 P w K mg (hidT s₁.heap H) callerA [] s₁ H:=⟨rfl,hM,λb o e=>jb_ e,Nat.le_of_eq (gv_ _ _),trivial,λb hb=>absurd (show b∈([]:List Addr) from hb) Z2,hok,.of_eq hg⟩;refine codeAny_mono ((F _ hKb (nsK hns) hB).run callerA [] s₁ H ⟨[.ref a],[]⟩ [.ref a] [.ref a] _ _ hr e0 (hbind s₁ (.ref a)) (.cons rfl .nil) (hsp H hHT hS)) λr s' h=>?_;cases r with
  |error e=>exact (hCX H e s' h).elim
  |ok fl=>
   cases fl with
   |next=>exact False.elim h
   |brk=>exact False.elim h
   |cont=>exact False.elim h
   |ret u=>
    obtain⟨v,H',os,bare,un,hok',r',q⟩:=h;have q':v=.bl true:=q;subst q';obtain rfl:u=Value.bool true:=r'
    have main:∀b o,s₁.heap.get? b=some o->s'.heap.get? b=some o∨(b∈ts/\o=tabObj #[]/\∃more,s'.heap.get? b=some (tabObj (#[]++more))):=λb o e=>by
     cases q:H b with
     |none=>exact .inl (un.keep b o e q (by intro z;exact absurd (show b∈([]:List Addr) from z) Z2) Z2)
     |some u=>
      rcases hO b with z|⟨zT,z⟩|⟨_,ob,xs,z⟩
      ·rw[q] at z;cases z
      ·rw[eT b zT] at e;cases e;obtain⟨more,z⟩:=un.tbls b _ z;exact .inr ⟨zT,rfl,more,hok' b _ z⟩
      ·have z2:=un.frzs b ob _ z;obtain⟨e1,_⟩:=hok b _ z;obtain⟨e2,_⟩:=hok' b _ z2;rw[e] at e1;cases e1;exact .inl e2
    refine⟨rfl,⟨λb o e=>?_,λb o e=>?_⟩,os,bare⟩
    ·rcases main b o e with z|⟨zT,rfl,more,z⟩
     ·exact .inl z
     ·exact .inr (.inl ⟨hct b zT,rfl,_,_,rfl,z⟩)
    ·rcases main b o e with z|⟨_,_,more,z⟩
     ·exact⟨_,z⟩
     ·exact⟨_,z⟩
 cases hk:K.lookup a with
 |some o=>
  have e:=KX a o hk;rw[ha] at e;cases e;refine core (λb=>if b∈ts then some (.tbl #[]) else none) (λb=>?_) (λT h=>a_9 h) (.inr ⟨_,vs.toArray,_,hk,rfl,rfl,rfl,by rw[ah',lenV];exact hl,by simpa using rv⟩) (λb u z=>?_) (λb z=>?_) λz=>absurd (a_4 λq=>aT q rfl) z
  ·by_cases hb:b∈ts
   ·exact .inr (.inl ⟨hb,a_9 hb⟩)
   ·exact .inl (a_4 hb)
  ·by_cases hb:b∈ts
   ·have z':=(a_9 hb).symm.trans z;cases z';exact eT b hb
   ·have z':=(a_4 hb).symm.trans z;cases z'
  ·by_cases hb:b∈ts
   ·exact .inr hb
   ·exact absurd (a_4 hb) z
 |none=>
  have T2:∀{b:Addr},b∈ts->(λb=>if b∈ts then some (.tbl #[]) else if b=a then some (HO.frz { cls:=.type "list",data:=.seq vs.toArray } (.lst (ns.map V.int))) else none) b=some (.tbl #[]):=λ{b} hb=>a_9 hb;refine core (λb=>if b∈ts then some (.tbl #[]) else if b=a then some (.frz { cls:=.type "list",data:=.seq vs.toArray } (.lst (ns.map V.int))) else none) (λb=>?_) (λT h=>a_9 h) (.inl (.inr ⟨{ cls:=.type "list",data:=.seq vs.toArray },(a_4 λq=>aT q rfl).trans (a_9 rfl)⟩)) (λb u z=>?_) (λb z=>?_) λ_=>hk
  ·by_cases hb2:b∈ts
   ·exact .inr (.inl ⟨hb2,a_9 hb2⟩)
   ·by_cases hb:b=a
    ·exact .inr (.inr ⟨hb2,_,_,(a_4 hb2).trans (a_9 hb)⟩)
    ·exact .inl ((a_4 hb2).trans (a_4 hb))
  ·by_cases hb2:b∈ts
   ·have z':=(a_9 hb2).symm.trans z;cases z';exact eT b hb2
   ·by_cases hb:b=a
    ·have z':=((a_4 hb2).trans (a_9 hb)).symm.trans z;cases z';subst hb;exact⟨ha,by rw[aa'];exact hl,vs,_,rv,ha⟩
    ·have z':=((a_4 hb2).trans (a_4 hb)).symm.trans z;cases z'
  ·by_cases hb2:b∈ts
   ·exact .inr hb2
   ·by_cases hb:b=a
    ·exact .inl hb
    ·exact absurd ((a_4 hb2).trans (a_4 hb)) z
variable{T:Addr}
theorem fv_{K:F__}(h:T∉K.map (·.1)):K.lookup T=none:=by
 induction K with
 |nil=>rfl
 |cons p K ih=>
  obtain⟨b,o⟩:=p;simp only[av',al',not_or] at h;rw[aK',show (T == b)=false by simpa using h.1];exact ih h.2
variable{n:Nat}
theorem walk_ofT{l:PySem.W.OpenLaw}{q:Ae}{loose:List Str}{XP:(Str->Option Aa)->Heap->Prop}{d:DefRec}{K:Params->F__}{as:List Addr}{eas:∀P:Params,as=(K P).map (·.1)}{CX:Af->CXT}{sp:Af->Sp}(hn:l.most=some n)(hn2:n<=sizeLine)(hdf:d.params.defaults=[])(hr:Room k callerA)(hts:(ts.all λT=>!as.contains T)=true)(F:∀(w:Af) (mg:Str->Option Aa) (fa:Addr) (h:Heap),(K w.params).In h->h.Ns mainGlobals mg->mg d.name=some (.ref fa)->
   ∃fd:Ad,(∀(s:Ac) (u:Aa),BindsTo s fd ⟨[u],[]⟩ [(x,u)])/\(∀T∈ts,isCodeTable h T) /\
    ∀base:Heap,(K w.params).In base->base.Ns mainGlobals mg->(∀T∈ts,base.BuiltinsAt mg T)->FnOk l.prog w (K w.params) mg base (CX w) k fa fd [x] (sp w))(hsp:∀(w:Af) (H:Hp) (a:Addr) (ns:List Int),ns.length<=n->(∀T∈ts,H T=some (.tbl #[]))->SqL (K w.params) H a (ns.map V.int)->sp w [.ref a] H (λv _=>v=.bl true) λ_ _ _=>False)(hCX:∀(w:Af) (H:Hp) (s:Ac) (e:Aa) (s':Ac),CX w [] H s (λ_ _ _=>False) e s'->False) :
  PySem.W.WalkO q loose XP (kmHook K as eas ts).says l.row.toRowW d [] (λf vs=>PySem.call f vs):=by
 refine Att.attach_call hn hdf λw s₀ s₁ mg mb fa o pm cd doc a vs ns G Y ho hd hcd hmg hobj hints hlen hg=>?_;have KX:(K w.params).In s₁.heap:=km_in_of Y;have eT:∀T∈ts,s₁.heap.get? T=some (tabObj #[]):=Y.2;obtain⟨fd,hb,hct,hF⟩:=F w mg fa _ KX G.T.g hmg;refine hp_ (λT h=>fv_ ?_) eT hct KX G.T.g G.T.b G.T.builtins G.T.nolimit hg hobj hints (aM' hlen hn2) hr G.T.bmain hF hb (λH hO hS=>hsp w H a ns hlen hO hS) λH e s'=>hCX w H s₁ e s';have:=List.all_eq_true.mp hts T h;rw[<- eas w.params];simpa using this
open PySem.W in
def bJ':List (Pos × Addr)->List Aa
 |[]=>[]
 |(p,c)::es=>rawInt p.line::rawInt p.col::.ref c::bJ' es
def a8'(H:Hp)(T:Addr)(qual:Str):Prop:=∃es:List (Pos × Addr),H T=some (.tbl (bJ' es).toArray)/\∀e∈es,H e.2=some (dr' e.2 qual)
variable{H':Hp}
theorem a8'.same{H:Hp}{qual:Str}(s:Same H H')(h:a8' H T qual):a8' H' T qual:=by
 obtain⟨es,a,b⟩:=h;exact⟨es,s _ _ a,λe he=>s _ _ (b e he)⟩
theorem eP_:∀es:List (Pos × Addr),TriplesOk (bJ' es)
 |[]=>trivial
 |(p,c)::es=>by
  have:=eP_ es;simp[bJ',TriplesOk,rawInt,this]
theorem e5_:∀(es:List (Pos × Addr)) (p:Pos) (c:Addr),bJ' (es++[(p,c)])=bJ' es++[rawInt p.line,rawInt p.col,.ref c]
 |[],p,c=>rfl
 |(p',c')::es,p,c=>by
  show rawInt p'.line::rawInt p'.col::.ref c'::bJ' (es++[(p,c)])=_;rw[e5_ es p c];rfl
theorem ct_(pos:Pos):∀es:List (Pos × Addr),codeAmong pos (bJ' es)=none∨∃e∈es,codeAmong pos (bJ' es)=some (.ref e.2)
 |[]=>.inl rfl
 |(p,c)::es=>by
  by_cases h:codeAmong pos (bJ' ((p,c)::es))=some (.ref c)
  ·exact .inr ⟨(p,c),ag',h⟩
  ·have e:codeAmong pos (bJ' ((p,c)::es))=codeAmong pos (bJ' es):=by
    show codeAmong pos (rawInt p.line::rawInt p.col::.ref c::bJ' es)=_;have h:¬codeAmong pos (rawInt p.line::rawInt p.col::.ref c::bJ' es)=some (.ref c):=h;simp only[codeAmong,rawInt] at h ⊢;split at h
    ·exact absurd rfl h
    ·rename_i q
     rw[a_4 q]
   rcases ct_ pos es with q|⟨x,hx,q⟩
   ·exact .inl (e.trans q)
   ·exact .inr ⟨x,ad' _ hx,e.trans q⟩
open EvS
section
variable{X:Cx}{pins:List (Addr × Obj)}{σ:St}{H:Hp}{s:Ac}
theorem Inv.trackL{t':Nat}{fp:List Addr}{ys:List V}{its:List Aa}(I:Inv X pins σ H s)(k:∀b o,b∉fp->s.heap.get? b=some o->h'.get? b=some o)(hf:∀b∈fp,FpOk X pins H b)(hT:T∈fp)(hz:ys.length<=sizeLine)(r:Vals ys its)(ht:h'.get? T=some { cls:=.type "list",data:=.seq its.toArray n }):Inv X pins σ (upd H T (.lst ys)) { s with heap:=h',toks:=t' }:=by
 have fT:H T=none:=(hf T hT).1;have nf:∀b u,H b=some u->b∉fp:=λb u e hb=>by rw[(hf b hb).1] at e;cases e
 have old:∀{b u},H b=some u->upd H T (.lst ys) b=some u:=λe=>by rw[a5_ (a7_ e fT)];exact e
 refine I.step (g':=s.gens) (d':=s.drawn) (ch:=fp) (λb hb=>?_) (λb o _ _ hc e _=>k b o hc e) (λb o _ _ hc e _=>⟨o.slots,k b o hc e⟩) (λb o hc e n=>?_)
  (λb o hc e=>⟨o,k b o hc e⟩) (λb ys e=>old e) (λb o u e=>old e) (λb ps e=>⟨#[],by rw[Array.append_empty];exact old e⟩) (λm hm=>?_) (λb u e=>?_) I.bare
 ·obtain⟨f0,f1,f2,f3,f4,f5⟩:=hf b hb;exact⟨f3,f1,f4,f5⟩
 ·rw[a5_ (λz=>hc (by rw[z];exact hT))];exact n
 ·obtain⟨o,es,ep,ho,r⟩:=hm;exact⟨o,es,ep,k _ o (λhb=>(hf _ hb).2.1 rfl) ho,r⟩
 ·by_cases z:b=T
  ·subst z;rw[a1_] at e;cases e;exact⟨hz,its,n,r,ht⟩
  ·rw[a5_ z] at e;refine (I.hok b u e).stay (λc v hc q=>k c v ?_ q) (λ_ q=>old q) λ_ _ q=>old q;rcases hc with z|z
   ·rw[z];exact nf b u e
   ·exact nf c _ z
theorem FpOk.at{b:Addr}(f:FpOk X pins H b)(n:H' b=none):FpOk X pins H' b:=⟨n,f.2⟩
def KeyOf(X:Cx)(σ:St)(B:Ag)(fv:Aa)(H0:Hp)(kf:V->List Key)(xs:List V):Prop:=
 ∀(pins:List (Addr × Obj)) (H:Hp) (s:Ac) (x:V) (u:Aa),Inv X pins σ H s->Same H0 H->x∈xs->RelV x u->
  wpAny (model X.prog X.w) B (call fv [u]) (EP X pins σ λv H'=>Same H H'/\∃t,v=.ref t/\H' t=some (.tup ((kf x).map kV))) (λ_ _=>False) s
theorem jN_{B:Ag}{fv:Aa}{kS:Addr}{e1:Nat}{H0:Hp}{kf:V->List Key}{all:List V}{Q:PUnit->Ac->Prop}{E:Aa->Ac->Prop}{body:Aa->PUnit->Sem (ForInStep PUnit)}(hne:a≠kS)(call1:KeyOf X σ B fv H0 kf all)(hb:∀(u:Aa) (s:Ac) (Qb:ForInStep PUnit->Ac->Prop),wpAny (model X.prog X.w) B (call fv [u]) (λk s'=>wpAny (model X.prog X.w) B (Builtin.List.listUpdate (.ref kS) (·.push k)) (λ_ s''=>Qb (.yield ⟨⟩) s'') E s') (λ_ _=>False) s->wpAny (model X.prog X.w) B (body u ⟨⟩) Qb E s) :
  ∀(xs:List V) (us:List Aa) (ks:List V) (kvs:List Aa) (kk:List (List Key)) (H:Hp) (s:Ac) (c:Nat),Vals xs us->(∀x∈xs,x∈all)->Inv X pins σ H s->Same H0 H->FpOk X pins H a->FpOk X pins H kS->s.heap.get? a=some (seqObj "list" #[] e1)->s.heap.get? kS=some (seqObj "list" kvs.toArray c)->
   Vals ks kvs->a4' X.K H ks kk->kvs.length+us.length<64->
   (∀H' s' kvs' c',Inv X pins σ H' s'->Same H0 H'->FpOk X pins H' a->FpOk X pins H' kS->s'.heap.get? a=some (seqObj "list" #[] e1)->s'.heap.get? kS=some (seqObj "list" kvs'.toArray c')->kvs'.length=kvs.length+us.length->(∃ks',Vals ks' kvs'/\a4' X.K H' ks' (kk++xs.map kf))->Q ⟨⟩ s')->
   wpAny (model X.prog X.w) B (forIn us PUnit.unit body) Q E s:=by
 intro xs
 induction xs with
 |nil=>
  intro us ks kvs kk H s c rv _ I sm fa fk ha hk r t _ q;cases rv;rw[List.forIn_nil];exact a_6 (q H s kvs c I sm fa fk ha hk Z2 ⟨ks,r,by simpa using t⟩)
 |cons x xs ih=>
  intro us ks kvs kk H s c rv hx I sm fa fk ha hk r t hz q
  obtain⟨u,us,rfl,ru,rr⟩:∃u us',us=u::us'/\RelV x u/\Vals xs us':=by
   cases rv with
   |cons h t=>exact⟨_,_,rfl,h,t⟩
  rw[List.forIn_cons];rw[az'] at hz;refine a__ (hb u s _ ?_)
  have hf:∀b∈[a,kS],FpOk X pins H b:=λb hb=>by
   rcases al'.mp hb with rfl|hb
   ·exact fa
   ·obtain rfl:b=kS:=by simpa using hb
    exact fk
  have I1:=I.pinned (fp:=[a,kS]) hf (λb hb=>by
   rcases al'.mp hb with rfl|hb
   ·exact⟨_,ha,λv z=>by cases z⟩
   ·obtain rfl:b=kS:=by simpa using hb
    exact⟨_,hk,λv z=>by cases z⟩)
  refine c_2 (call1 _ H s x u I1 sm (hx x ag') ru) (λk s1 ⟨v,H1,J,rv,s01,tk,ev,etk⟩=>?_) λ_ _ z=>z
  have pa:(a,seqObj "list" #[] e1)∈bU' [a,kS] s.heap:=by
   unfold bU';exact aF'.mpr ⟨a,by simp,by rw[ha];rfl⟩
  have pk:(kS,seqObj "list" kvs.toArray c)∈bU' [a,kS] s.heap:=by
   unfold bU';exact aF'.mpr ⟨kS,by simp,by rw[hk];rfl⟩
  obtain⟨ha1,na1,_⟩:=J.pin _ (ay' _ (ay' _ pa));obtain⟨hk1,nk1,_⟩:=J.pin _ (ay' _ (ay' _ pk));have ha1:s1.heap.get? a=some (seqObj "list" #[] e1):=ha1;have hk1:s1.heap.get? kS=some (seqObj "list" kvs.toArray c):=hk1;have J0:=J.unpinned;have fa1:=fa.at (H':=H1) na1;have fk1:=fk.at (H':=H1) nk1;have l64:kvs.length<64:=by omega
  refine listUpdate_at hk1 rfl ?_ (by rw[ah',b__];omega) (aM' (Nat.le_of_eq (Array.size_push ..)) (by rw[ah',b__];omega));have oth:∀b o,b∉[kS]->s1.heap.get? b=some o->(s1.heap.update kS (Obj.mapSeq (·.push k))).get? b=some o:=λb o hb e=>(b_0 _ _ (λz=>hb (by simp[z]))).trans e;have ea:kvs.toArray.push k=(kvs++[k]).toArray:=by simp
  obtain⟨c2,hc2⟩:∃c2,(s1.heap.update kS (Obj.mapSeq (·.push k))).get? kS=some (seqObj "list" (kvs++[k]).toArray c2):=⟨_,by rw[<- ea];exact get?_update_seq hk1 (·.push k)⟩
  have I2:Inv X pins σ H1 { s1 with heap:=s1.heap.update kS (Obj.mapSeq (·.push k)) }:=J0.turnedF (t':=s1.toks) (fp:=[kS]) oth (λb hb=>by
   obtain rfl:b=kS:=by simpa using hb
   exact fk1)
  subst ev;refine ih us (ks++[.ref tk]) (kvs++[k]) (kk++[kf x]) H1 _ c2 rr (λy hy=>hx y (ad' _ hy)) I2 (sm.trans s01) fa1 fk1 ?_ hc2 (r.append (.cons rv .nil)) ?_ (by rw[ar',List.length_singleton];omega) λH' s' kvs' c' a1 a2 a3 a4 a5 a6 a7 a8=>?_
  ·exact oth a _ (by simpa using hne) ha1
  ·exact Paired.snoc (t.same s01) ⟨tk,rfl,etk⟩
  ·refine q H' s' kvs' c' a1 a2 a3 a4 a5 a6 (by rw[a7,ar',List.length_singleton,az'];omega) ?_;obtain⟨ks',b1,b2⟩:=a8;exact⟨ks',b1,by simpa using b2⟩
end
section
variable{X:Cx}{pins:List (Addr × Obj)}{σ:St}{H:Hp}{s:Ac}{B:Ag}
theorem jz_{xs zs:List V}{kf:V->List Key}{p:Array Nat}(g:Good xs.length p)(up:Up (λi j=>lexK ((xs.map kf).getD i []) ((xs.map kf).getD j [])) p xs.length)(ez:zs=p.toList.map λi=>xs.getD i .non):zs.Perm xs/\zs.map kf=sortKs (xs.map kf):=by
 have gk:Good (xs.map kf).length p:=by rw[aa'];exact g
 have asc:=ew_ (ks:=xs.map kf) (λi j _ _=>rfl) gk (by rw[aa'];exact up)
 have perm:(p.toList.map λi=>(xs.map kf).getD i []).Perm (xs.map kf):=by
  have:=bb_ gk λi=>(xs.map kf).getD i [];rwa [aW_] at this
 have es:=cm_ perm asc;refine⟨?_,?_⟩
 ·have:=bb_ (n:=xs.length) g λi=>xs.getD i .non;rw[aW_] at this;rw[ez];exact this
 ·rw[<- es,ez,ak'];refine aI' λi hi=>?_;have m:i∈(List.range xs.length).toArray:=g.mem_iff.mp (by simpa using hi);have m:i<xs.length:=by simpa using m
  show kf (xs.getD i .non)=(xs.map kf).getD i [];simp[List.getD,m]
theorem go_{xs:List V}{P:PySem.Fin->Ac->Prop}{E:Aa->Ac->Prop}{kf:V->List Key}{sh:List Bool}(I:Inv X pins σ H s)(fa:FpOk X pins H a)(ho:s.heap.get? a=some (seqObj "list" us.toArray n))(r:Vals xs us)(h64:us.length<64)(al:dO' (xs.map kf) sh)(call1:KeyOf X σ B (.ref f) H kf xs)(h:∀zs H' s',Inv X pins σ (upd H' a (.lst zs)) s'->Same H H'->H' a=none->zs.Perm xs->zs.map kf=sortKs (xs.map kf)->P (.done (.ret .none)) s'):wpAny (model X.prog X.w) B (ksk_tree a (.ref f) false) P E s:=by
 have lx:=r.length;obtain⟨e1,ho1⟩:∃e1,(s.heap.update a (Obj.mapSeq λ_=>(#[]:Array Aa))).get? a=some (seqObj "list" #[] e1):=⟨_,get?_update_seq ho λ_=>#[]⟩;have oth:∀b o,b∉[a]->s.heap.get? b=some o->(s.heap.update a (Obj.mapSeq λ_=>(#[]:Array Aa))).get? b=some o:=λb o hb e=>(b_0 _ _ (λz=>hb (by simp[z]))).trans e
 have I1:Inv X pins σ H { s with heap:=s.heap.update a (Obj.mapSeq λ_=>(#[]:Array Aa)) }:=I.turnedF (t':=s.toks) (fp:=[a]) oth (λb hb=>by
  obtain rfl:b=a:=by simpa using hb
  exact fa)
 unfold ksk_tree;refine a__ (listItems_at ho rfl ?_);refine a__ (listUpdate_at ho rfl ?_ (by rw[ah',b__];omega) (aD' _));refine a__ (seqEpoch_at ho1 rfl ?_);refine a__ (wpAny_newTuple ?_ (by show us.length<=_;rw[b__];omega));refine a__ (wpAny_newList ?_ (aD' _));refine wpAny_holding ?_;have I2:Inv X pins σ H { s with heap:=(s.heap.update a (Obj.mapSeq λ_=>(#[]:Array Aa))).push (seqObj "tuple" us.toArray 0) }:=I1.kept (t':=s.toks) λb u e=>a_0 _ e;have I3:Inv X pins σ H { s with heap:=((s.heap.update a (Obj.mapSeq λ_=>(#[]:Array Aa))).push (seqObj "tuple" us.toArray 0)).push (seqObj "list" #[] 0) }:=I2.kept (t':=s.toks) λb u e=>a_0 _ e;have fk:FpOk X pins H ((s.heap.update a (Obj.mapSeq λ_=>(#[]:Array Aa))).push (seqObj "tuple" us.toArray 0)).objs.size:=I2.fpOk (ai' _) (I2.hok.fresh (ai' _));have ha3:(((s.heap.update a (Obj.mapSeq λ_=>(#[]:Array Aa))).push (seqObj "tuple" us.toArray 0)).push (seqObj "list" #[] 0)).get? a=some (seqObj "list" #[] e1):=a_0 _ (a_0 _ ho1);have hk3:(((s.heap.update a (Obj.mapSeq λ_=>(#[]:Array Aa))).push (seqObj "tuple" us.toArray 0)).push (seqObj "list" #[] 0)).get? ((s.heap.update a (Obj.mapSeq λ_=>(#[]:Array Aa))).push (seqObj "tuple" us.toArray 0)).objs.size=some (seqObj "list" #[] 0):=a_1 _ rfl;have hne:a≠((s.heap.update a (Obj.mapSeq λ_=>(#[]:Array Aa))).push (seqObj "tuple" us.toArray 0)).objs.size:=ap' (a_5 (a_0 (seqObj "tuple" us.toArray 0) ho1));show wpAny (model X.prog X.w) B (ksk_rest a (.ref f) false us.toArray e1 (.ref ((s.heap.update a (Obj.mapSeq λ_=>(#[]:Array Aa))).push (seqObj "tuple" us.toArray 0)).objs.size)) P E { s with heap:=((s.heap.update a (Obj.mapSeq λ_=>(#[]:Array Aa))).push (seqObj "tuple" us.toArray 0)).push (seqObj "list" #[] 0) };generalize ((s.heap.update a (Obj.mapSeq λ_=>(#[]:Array Aa))).push (seqObj "tuple" us.toArray 0)).objs.size=kS at fk hk3 hne ⊢;generalize ((s.heap.update a (Obj.mapSeq λ_=>(#[]:Array Aa))).push (seqObj "tuple" us.toArray 0)).push (seqObj "list" #[] 0)=h3 at I3 ha3 hk3 ⊢;clear I2 I1 oth;unfold ksk_rest;refine a__ (wpAny_rule ?_);rw[List.forIn_toArray];refine a__ (jN_ (pins:=pins) (E:=E) (e1:=e1) hne call1 (λu s4 Qb hq=>?_) xs us [] [] [] H _ 0 r (λx hx=>hx) I3 (Same.refl H) fa fk ha3 hk3 .nil .nil (by simpa using h64) λH5 s5 kvs c5 I5 sm5 fa5 fk5 ha5 hk5 lk ⟨ks,rk,tk⟩=>?_)
 ·refine a__ (wpAny_attempt (c_2 hq (λk s'' hk=>?_) λ_ _ hF=>hF.elim));exact a__ (c_2 hk (λ_ s6 h6=>a_6 h6) λ_ _ z=>z)
 rw[List.nil_append] at tk;rw[aO',Nat.zero_add] at lk;refine a__ (listItems_at hk5 rfl ?_)
 have tail:∀(p:Array Nat) (st:SortSt),Good xs.length p->Up (λi j=>lexK ((xs.map kf).getD i []) ((xs.map kf).getD j [])) p xs.length->(arrOf st).map (·.2)=(bN' p us).toArray->failedOf st=none->wpAny (model X.prog X.w) B (ksk_tail a false e1 (.ref kS) st) P E s5:=λp st g up hout hfl=>by
  have gu:Good us.length p:=by rw[<- lx];exact g
  have hz:(bN' p us).length=us.length:=by
   unfold bN';rw[aa',aH'];exact gu.size
  have s1:=Heap.SameBut.update s5.heap kS (Obj.mapSeq λ_=>(#[]:Array Aa));have ha6:(s5.heap.update kS (Obj.mapSeq λ_=>(#[]:Array Aa))).get? a=some (seqObj "list" #[] e1):=(b_0 _ _ (Ne.symm hne)).trans ha5;unfold ksk_tail;dsimp only;rw[hout];refine a__ (listUpdate_at hk5 rfl ?_ (by rw[ah',b__];omega) (aD' _));refine a__ (wpAny_letGo ?_);refine a__ (seqEpoch_at ha6 rfl ?_);simp only[aQ',if_false];refine a__ (listUpdate_at ha6 rfl ?_ (aD' _) (by rw[ah',hz,b__];omega));rw[hfl];simp only[bne_self_eq_false,aQ',if_false]
  have zl:(p.toList.map λi=>xs.getD i .non).length<=sizeLine:=by
   rw[aa',aH',g.size,b__];omega
  obtain⟨pz,ek⟩:=jz_ (zs:=p.toList.map λi=>xs.getD i .non) g up rfl;refine a_6 (h _ H5 _ (I5.trackL (t':=s5.toks) (fp:=[a,kS]) (T:=a) (λb o hb e=>?_) (λb hb=>?_) Z2 zl (db_ r gu) (get?_update_seq ha6 _)) sm5 fa5.1 pz ek)
  ·have n1:b≠a:=λz=>hb (by simp[z]);have n2:b≠kS:=λz=>hb (by simp[z]);exact (b_0 _ _ (Ne.symm n1)).trans ((b_0 _ _ (Ne.symm n2)).trans e)
  ·rcases al'.mp hb with rfl|hb
   ·exact fa5
   ·obtain rfl:b=kS:=by simpa using hb
    exact fk5
 unfold ksk_end;dsimp only;simp only[aQ',if_false];by_cases h2:us.toArray.size<2
 ·rw[a_9 h2,a_9 h2];refine a__ (a_6 ?_);rw[StateT.run_pure];refine a__ (a_6 (tail (List.range xs.length).toArray _ (Array.Perm.refl _) (λi j hij hj=>?_) ?_ rfl))
  ·have e:i=j:=by
    simp only[ah'] at h2;omega
   subst e;exact ds_ _
  ·show ((kvs.toArray.zip us.toArray).map λx:Keyed=>x.2)=_;rw[show xs.length=us.length from lx,cD_];apply Array.ext';simp[List.map_snd_zip,lk]
 ·rw[a_4 h2,a_4 h2]
  have h2':2<=us.length:=by
   simp only[ah'] at h2;omega
  obtain⟨κ,hk,hc⟩:=e4_ (A:=B) (s':=s5) I5 rk tk al Z1 (λ_ _ e=>e);refine a__ (c_2 (hk (λk s'=>k=κ/\s'=s5) ⟨rfl,rfl⟩) (λk s7 hks=>?_) λ_ _ x=>x.elim);obtain⟨rfl,rfl⟩:=hks;have O:Ord (λi j=>lexK ((xs.map kf).getD i []) ((xs.map kf).getD j [])):=dv_ _
  refine a__ (c_2 (kat_run (ks:=kvs) (vs:=us) (G:=λp s'=>s'=s7/\Good us.length p/\Up (λi j=>lexK ((xs.map kf).getD i []) ((xs.map kf).getD j [])) p us.length)
   (Q:=λst' s'=>∃p:Array Nat,arrOf st'=p.map (kas_item (kvs.toArray.zip us.toArray))/\failedOf st'=none/\s'=s7/\Good us.length p/\Up (λi j=>lexK ((xs.map kf).getD i []) ((xs.map kf).getD j [])) p us.length)
   lk h2' h64 (λp st' s' _ q1 q2 q3=>⟨p,q1,q2,q3⟩) (Ok.wp (n:=us.length) (λi j C hi hj=>hc i j C Z1 Z1) (λp q=>⟨rfl,q⟩) (fW_ O Z1))) ?_ λ_ _ x=>x)
  rintro⟨⟨⟩,st'⟩ s' ⟨p,har,hf,hs',g,u⟩;subst hs';rw[<- lx] at g u;exact tail p st' g u (kat_snds lk har) hf
end
section
variable{X:Cx}{pins:List (Addr × Obj)}{σ:St}{H:Hp}{s:Ac}
theorem Inv.cellsAre{cl:List (Str × Addr)}{is:List Nat}(I:Inv X pins σ H s)(hin:∀q∈cl,X.env.cells.lookup q.1=some q.2)(hcl:∀x∈fvs,∃c,cl.lookup x=some c)(hkd:∀x∈fvs,X.env.scope.names.lookup x=some .cell)(hN:is.map (λi=>X.N[i]?)=fvs.map some)(hgs:is.map (λi=>σ[i]?)=gs.map (λv=>some (some v))):gs.length=fvs.length/\cc' fvs cl gs s.heap/\∀x c,cl.lookup x=some c->H c=none:=by
 have lk:∀{x c},cl.lookup x=some c->(x,c)∈cl:=λe=>b_3 e;refine⟨?_,⟨λa b c h1 h2=>I.ok.inj a b c (hin _ (lk h1)) (hin _ (lk h2)),hcl,λa c h1=>I.cell a c (hin _ (lk h1)),λj a v h1 h2=>?_⟩,λx c e=>I.freeC x c (hin _ (lk e))⟩
 ·have a:=b_9 List.length hgs;have b:=b_9 List.length hN;simp only[aa'] at a b;omega
 ·obtain⟨c,hc⟩:=hcl a (ae' h1);have e1:(is.map λi=>X.N[i]?)[j]? = some (some a):=by rw[hN,aj',h1];rfl
  have e2:(is.map λi=>σ[i]?)[j]? = some (some (some v)):=by rw[hgs,aj',h2];rfl
  rw[aj'] at e1 e2;obtain⟨i,hi,e1⟩:=Option.map_eq_some_iff.mp e1;rw[hi] at e2;have e2:σ[i]? = some (some v):=a_8 e2;obtain⟨m,_,hl⟩:=I.loc;have kd:=hkd a (ae' h1);obtain⟨u,ru,lo⟩:=hl i a v e1 e2 (.inr (.inl kd));rcases lo with⟨z,_⟩|⟨_,c2,e3,o,e4,e5⟩
  ·have z:X.env.scope.names.lookup a=some .local:=z;rw[kd] at z;cases z
  ·rw[hin _ (lk hc)] at e3;cases e3;exact⟨c,u,hc,ru,o,e4,e5⟩
theorem jV_{B:Ag}{qual:Str}{params:Arguments}{body:PySem.Expr}{scope:Scope}{p:Str}{sp:List V->List V->Hp->VK->XK->Prop}{cl:List (Str × Addr)}{is:List Nat}{xs:List V}{kf:V->List Key}{H0:Hp}(F:LamOk X.prog X.w X.K X.mg X.base k qual params body scope [p] fvs sp)(hr:Room k B)(hB:B.frames=X.A.frames)(hf:H0 f=some (lamH f qual params body scope cl c'))(hc:H0 c'=some (dr' c' qual))(hin:∀q∈cl,X.env.cells.lookup q.1=some q.2)(hcl:∀x∈fvs,∃c,cl.lookup x=some c)(hkd:∀x∈fvs,X.env.scope.names.lookup x=some .cell)(hN:is.map (λi=>X.N[i]?)=fvs.map some)(hgs:is.map (λi=>σ[i]?)=gs.map (λv=>some (some v)))(hsp:∀H x,Same H0 H->x∈xs->sp [x] gs H (λv H'=>Same H H'/\∃t,v=.ref t/\H' t=some (.tup ((kf x).map kV))) (λ_ _ _=>False)):KeyOf X σ B (.ref f) H0 kf xs:=by
 intro pins H s x u I sm hx ru;obtain⟨⟨pm,ctv,ef⟩,_⟩:=I.hok f _ (sm _ _ hf);obtain⟨⟨oc,vs',t,ec,d1,d2⟩,_⟩:=I.hok c' _ (sm _ _ hc);obtain⟨hg,C,fc⟩:=I.cellsAre hin hcl hkd hN hgs;have e0:=I.env0;refine wpAny_call (codeAny_mono (F B X.stack s H f c' pm ctv cl [u] [x] gs _ _ hr ⟨hB.trans e0.frames,e0.mod,e0.bs,e0.bsz,e0.funs,e0.frf,e0.hok,e0.bare⟩ ef ⟨c',oc,vs',t,rfl,ec,d1,d2⟩ rfl hg (.cons ru .nil) C fc (hsp H x sm hx)) λr s' hq=>?_);cases r with
 |error e=>
  obtain⟨a,cls,H',B,a0,dd,rfl,os,bare,un,hok,fl,i,hE⟩:=hq;exact hE.elim
 |ok fl=>
  cases fl with
  |ret u=>exact I.after hq
  |next=>exact False.elim hq
  |brk=>exact False.elim hq
  |cont=>exact False.elim hq
theorem sortedK{x:Aa}{xs:List V}{kf:V->List Key}{sh:List Bool}{Q:VK}{E:Aa->Ac->Prop}(I:Inv X pins σ H s)(h64:xs.length<64)(al:dO' (xs.map kf) sh)(call1:KeyOf X σ X.A.in1.in1 (.ref f) H kf xs)(hcol:∀R:List Aa->Ac->Prop,(∀vs s1,Inv X pins σ H s1->Vals xs vs->R vs s1)->wpAny (model X.prog X.w) X.A.in1 (collect x) R E s)(q:∀l zs H',Same H H'->H' l=none->H l=none->zs.Perm xs->zs.map kf=sortKs (xs.map kf)->Q (.ref l) (upd H' l (.lst zs))):wpAny (model X.prog X.w) X.A (call (.builtin "sorted") [x] [(Str.ofString "key",.ref f)]) (EP X pins σ Q) E s:=by
 refine call_function_entry_kw kind_sorted plain_sorted entry_sorted (ksk_s1 _ _) ?_;unfold Builtin.«sorted»;refine a__ (m:=checkCount "sorted" 1 1 _) (a_6 ?_);refine a__ (hcol _ λvs s1 I1 r=>?_);have lv:=r.length;refine a__ (wpAny_newList ?_ (by rw[b__];omega));have hoL:(s1.heap.push (seqObj "list" vs.toArray 0)).get? s1.heap.objs.size=some (seqObj "list" vs.toArray 0):=a_1 _ rfl;have I2:Inv X pins σ H { s1 with heap:=s1.heap.push (seqObj "list" vs.toArray 0) }:=I1.kept (t':=s1.toks) λb u e=>a_0 _ e;have fa:FpOk X pins H s1.heap.objs.size:=I1.fpOk (ai' _) (I1.hok.fresh (ai' _));have nl:H s1.heap.objs.size=none:=I1.hok.fresh (ai' _);refine a__ (wpAny_holding (wpAny_call_entry_kw slot_list_sort ⟨_,hoL,rfl⟩ entry_list_sort ?body (ksk_l1 _ _)))
 case body=>
  show wpAny (model X.prog X.w) X.A.in1.in1 (Builtin.«list.sort» ⟨[.ref s1.heap.objs.size],[(Str.ofString "key",.ref f)]⟩) _ _ _;rw[ksk_t1];refine go_ (s:={ s1 with heap:=s1.heap.push (seqObj "list" vs.toArray 0) }) I2 fa hoL r Z1 al call1 λzs H' s' I' sm na pz ek=>?_;exact⟨_,rfl,a_6 ⟨_,rfl,.ref _,_,I',rfl,q _ zs H' sm na nl pz ek⟩⟩
end
def SrcK(K:F__)(H:Hp)(x:V)(xs:List V):Prop:=(∃l,x=.ref l/\SqL K H l xs)∨∃d kvs,x=.ref d/\H d=some (.dK kvs)/\xs=kvs.map λkv=>kV kv.1
inductive tSortKR (K:F__) (qual:Str) (params:Arguments) (body:PySem.Expr) (scope:Scope) (cl:List (Str × Addr)) (is:List Nat) (sp:List V->List V->Hp->VK->XK->Prop) (t:TA) (σ:St) (H:Hp) (Q:VK) (vs:List V) (ws:List V) (H2:Hp):Prop
 |mk:∀x f c' xs kf sh gs,vs=[x]->ws=[.ref f]->H2 f=some (lamH f qual params body scope cl c')->H2 c'=some (dr' c' qual)->SrcK K H2 x xs->xs.length<64->dO' (xs.map kf) sh->is.map (λi=>σ[i]?)=gs.map (λv=>some (some v))->(∀H x,Same H2 H->x∈xs->sp [x] gs H (λv H'=>Same H H'/\∃t,v=.ref t/\H' t=some (.tup ((kf x).map kV))) (λ_ _ _=>False))->(∀l zs H',Same H2 H'->H' l=none->H2 l=none->zs.Perm xs->zs.map kf=sortKs (xs.map kf)->Q (.ref l) (upd H' l (.lst zs)))->tSortKR K qual params body scope cl is sp t σ H Q vs ws H2
def tSortK(K:F__)(qual:Str)(params:Arguments)(body:PySem.Expr)(scope:Scope)(cl:List (Str × Addr))(is:List Nat)(sp:List V->List V->Hp->VK->XK->Prop)(t tk:TA):TE:=λσ H Q=>t σ H λvs H1=>tk σ H1 λws H2=>tSortKR K qual params body scope cl is sp t σ H Q vs ws H2
variable{qual:Str}
theorem f7_{e:PySem.Expr}{t tk:TA}{p kp lpos:Pos}{params:Arguments}{body:PySem.Expr}{scope:Scope}{px:Str}{sp:List V->List V->Hp->VK->XK->Prop}{cl:List (Str × Addr)}{is:List Nat}(hc:X.calm=true)(hg:Gl X "sorted")(hm:X.mg "sorted"=none)(ha:PA X [e] t)(hkw:PK X [⟨some "key",.Lambda params body scope lpos,kp⟩] tk)(F:LamOk X.prog X.w X.K X.mg X.base k qual params body scope [px] fvs sp)(hr:Room (k+2) X.A)(hin:∀q∈cl,X.env.cells.lookup q.1=some q.2)(hcl:∀x∈fvs,∃c,cl.lookup x=some c)(hkd:∀x∈fvs,X.env.scope.names.lookup x=some .cell)(hN:is.map (λi=>X.N[i]?)=fvs.map some)(he:starEach [e] X.env=[(false,eval e X.env)]:=by rfl)(hall:(backToKw pos (keywordEach [⟨some "key",.Lambda params body scope lpos,kp⟩] X.env)).all (·.1.isSome)=true:=by rfl)(hks:(backToKw pos (keywordEach [⟨some "key",.Lambda params body scope lpos,kp⟩] X.env)).filterMap (·.1)=[Str.ofString "key"]:=by rfl)(hkn:(backToKw pos (keywordEach [⟨some "key",.Lambda params body scope lpos,kp⟩] X.env)).any (·.1.isNone)=false:=by rfl):PE X (.Call (.Name "sorted" p) [e] [⟨some "key",.Lambda params body scope lpos,kp⟩] pos) (tSortK X.K qual params body scope cl is sp t tk):=by
 intro pins s σ H Q I h;refine wpAny_Call_Name_kw (cH_ I hg hm PyProof.Rows.Boot.«sorted» ?_);have hA:=ha pos pins s σ H _ I h;rw[he] at hA ⊢;refine callWith_builtin_kwB (first:=[]) rfl hkn (evalArgs_kwB hall (thn hA λus s1 ⟨vs,H1,I1,r1,q1⟩=>?_));refine thn (hkw pos pins s1 σ H1 _ I1 q1) λws s2 ⟨zs,H2,I2,rz,x,f,c',xs,kf,sh,gs,ev,ez,hf,hcd,src,h64,al,hgs,hsp,q⟩=>?_;subst ev ez;obtain⟨u,rfl,ru⟩:=Vals.one r1;obtain⟨fv,rfl,rf⟩:=Vals.one rz;cases rf;rw[hks];have hd:X.A.in1.handled=none:=I.ok.hd hc;refine sortedK I2 h64 al (jV_ F hr.in1.in1 rfl hf hcd hin hcl hkd hN hgs hsp) (λR hR=>?_) q;rcases src with⟨l,rfl,hl⟩|⟨d,kvs,rfl,hd2,rfl⟩
 ·cases ru;exact ig_ I2 hl Z1 hR
 ·cases ru;exact iT_ hd I2 (.inl hd2) hR
structure FunC (K:F__) (x qual:Str) (st:Stmt) (f c:Addr) (fd:Ad):Prop where
 ex:∃(oc:Aa) (od:Option Addr) (kV doc pm:Aa) (an:Option Addr) (ct:Aa) (osl:Array (Option Aa)),
  fd=PySem.W.fnOf x qual (ba' st) (a7' st) (a1' st) .none kV doc pm an (.ref c) ct/\K.lookup f=some ⟨oc,od,.func fd,osl⟩/\PySem.W.codeIn K (.ref c) qual=true
 kp:PySem.W.keepIn K (.ref f)=true
variable{K:F__}{st:Stmt}
theorem FunC.fn(F:FunC K x qual st f c fd):Fun K x qual st f fd:=by
 obtain⟨oc,od,kV,doc,pm,an,ct,osl,e,l,h⟩:=F.ex;exact⟨⟨oc,od,kV,doc,pm,an,.ref c,ct,osl,e,l,h⟩,F.kp⟩
theorem FunC.ok{sp:Sp}(F:FunC K x qual st f c fd)(S:a3' N ps (a1' st))(len:∀vs H Q E,sp vs H Q E->vs.length=ps.length)(hbody:∀(A:Ag) (outer:List Env) (s:Ac) (H:Hp) (vs:List V) (Q:VK) (E:XK),Room k (A.deeper (envOfC qual (a1' st) s.heap.objs.size f (.ref c)))->sp vs H Q E->
   ∃t,PSs (cxOf CX0 P w K mg base N qual (a1' st) f (.ref c) A outer s H E).nox (a7' st) t/\t { nx:=λ_ H'=>Q .non H',rt:=Q } (start N vs) H):FnOk P w K mg base CX0 (k+1) f fd ps sp:=by
 obtain⟨oc,od,kV,doc,pm,an,ct,osl,rfl,lk,hcd⟩:=F.ex;refine jI_ lk hcd S len λA outer s H vs Q E hr hsp=>?_;obtain⟨t,h,q⟩:=hbody A outer s H vs Q E hr hsp;exact⟨t,h.nox,q⟩
end L2
namespace Ev
open PySem L2
def NT(H G:Hp):Prop:=∀b o,H b=some o->(∀vs,o≠.tbl vs)->G b=some o
theorem NT.of{H G:Hp}(s:Same H G):NT H G:=λb o e _=>s b o e
theorem NT.refl(H:Hp):NT H H:=NT.of (Same.refl H)
theorem NT.trans{H G J:Hp}(s:NT H G)(t:NT G J):NT H J:=λb o e n=>t b o (s b o e n) n
theorem But.nt{T:Addr}{H G:Hp}{vs:Array Aa}(b:But T H G)(hT:H T=some (.tbl vs)):NT H G:=λc o e n=>b c o e (λz=>by
 rw[z,hT] at e;exact n _ (a_8 e).symm)
theorem NT.tup{H G:Hp}(s:NT H G){a:Addr}{xs:List V}(h:H a=some (.tup xs)):G a=some (.tup xs):=s _ _ h nofun
theorem NT.lst{H G:Hp}(s:NT H G){a:Addr}{xs:List V}(h:H a=some (.lst xs)):G a=some (.lst xs):=s _ _ h nofun
theorem NT.dK{H G:Hp}(s:NT H G){a:Addr}{xs:List (Key × V)}(h:H a=some (.dK xs)):G a=some (.dK xs):=s _ _ h nofun
theorem NT.ins{H G:Hp}(s:NT H G){a C dx:Addr}{fs:List (Str × V)}(h:H a=some (.ins C dx fs)):G a=some (.ins C dx fs):=s _ _ h nofun
section
variable{K:F__}{H G:Hp}{v:V}
theorem a4'.nt{ys:List V}{ks:List (List Key)}(h:a4' K H ys ks)(s:NT H G):a4' K G ys ks:=Paired.mapP h λy k ⟨a,z,q⟩=>⟨a,z,s.tup q⟩
theorem bd'.nt{C p:Addr}{hs:Xa}{ts:Xb}{fp:List Addr}(W:bd' K C H p hs ts fp)(s:NT H G):bd' K C G p hs ts fp:=by
 obtain⟨dx,d1,l2,d3,zs,as,rfl,h1,h2,h3,h4,h5,h6,h7⟩:=W.ex;exact⟨dx,d1,l2,d3,zs,as,rfl,s _ _ h1 nofun,s.dK h2,s.lst h3,a4'.nt h4 s,s.dK h5,h6,λi n a e1 e2=>s.lst (h7 i n a e1 e2)⟩
theorem WyAt.nt{o:Option (Xb)}(h:WyAt K H v o)(s:NT H G):WyAt K G v o:=by
 cases o with
 |none=>exact h
 |some ws=>
  obtain⟨a,ys,e,ha,t⟩:=h;exact⟨a,ys,e,s.lst ha,a4'.nt t s⟩
theorem a6'.nt{CG CW g p:Addr}{hs:Xa}{ts:Xb}{qs:List Pc}{fp:List Addr}(h:a6' K CG CW H g p hs ts qs fp)(s:NT H G):a6' K CG CW G g p hs ts qs fp:=by
 obtain⟨dx,dw,dy,vs,fpw,h1,h2,h3,h4,h5,r⟩:=h.ex;exact⟨dx,dw,dy,vs,fpw,s _ _ h1 nofun,h2.nt s,s.dK h3,s.dK h4,Paired.mapP h5 λv q h=>h.nt s,r⟩
end
variable{qual:Str}{σ:St}
theorem iN_{H:Hp}{T:Addr}{q':Str}{a a':Arguments}{b b':Expr}{sc sc':Scope}{ps:Pos}{cl:List (Str × Addr)}{Q:VK}(h:a8' H T qual)(e1:q'=qual)(e2:a'=a)(e3:b'=b)(e4:sc'=sc)(q:∀f c' H1,But T H H1->a8' H1 T qual->H1 f=some (lamH f qual a b sc cl c')->H1 c'=some (dr' c' qual)->Q (.ref f) H1):tLam T q' a' b' sc' ps cl σ H Q:=by
 subst e1 e2 e3 e4;obtain⟨es,h,hes⟩:=h;refine⟨_,h,eP_ es,?_⟩;rcases ct_ ps es with e|⟨e,he,q1⟩
 ·refine .inl ⟨e,λc' f n1 n2 n3=>?_⟩;have nT1:T≠c':=a7_ h n1;have nT2:T≠f:=a7_ h n2
  have B:But T H (upd (upd (upd H T (.tbl ((bJ' es).toArray++#[rawInt ps.line,rawInt ps.col,.ref c']))) c' (dr' c' q')) f (lamH f q' a' b' sc' cl c')):=λb o e n=>by
   rw[a5_ (a7_ e n2),a5_ (a7_ e n1),a5_ n];exact e
  refine q f c' _ B ⟨es++[(ps,c')],?_,λx hx=>?_⟩ a1_ ?_
  ·rw[a5_ nT2,a5_ nT1,a1_,e5_];simp
  ·rcases au'.mp hx with hx|hx
   ·exact B _ _ (hes x hx) (λz=>by have:=hes x hx;rw[z,h] at this;cases this)
   ·rw[aR'.mp hx];show upd _ f _ c'=_;rw[a5_ n3,a1_]
  ·rw[a5_ n3,a1_]
 ·refine .inr ⟨e.2,q1,λf hf=>?_⟩;have s:=Same.new (o:=lamH f q' a' b' sc' cl e.2) hf;exact q f e.2 _ (But.of s) ⟨es,s _ _ h,λx hx=>s _ _ (hes x hx)⟩ a1_ (s _ _ (hes e he))
theorem aS_{H:Hp}{T:Addr}(h:a8' H T qual):∃vs,H T=some (.tbl vs):=by
 obtain⟨es,e,_⟩:=h;exact⟨_,e⟩
theorem a8'.but{H G:Hp}{T T':Addr}{q:Str}(h:a8' H T q)(b:But T' H G)(hT:∃vs,H T'=some (.tbl vs))(ne:T≠T'):a8' G T q:=by
 obtain⟨es,e,a⟩:=h;obtain⟨vs,hT⟩:=hT;exact⟨es,b _ _ e ne,λx hx=>b _ _ (a x hx) (λz=>by have:=a x hx;rw[z,hT] at this;cases this)⟩
def lamS:Expr->Scope
 |.Lambda _ _ s _=>s
 |_=>a1' sLaw
def lamB:Expr->Expr
 |.Lambda _ b _ _=>b
 |e=>e
def lamA:Expr->Arguments
 |.Lambda a _ _ _=>a
 |_=>ba' sLaw
def kwE:Expr->Expr
 |.Call _ _ (k::_) _=>k.value
 |e=>e
def nthS(l:List Stmt)(i:Nat):Stmt:=l.getD i (.Pass ⟨0,0,0,0⟩)
def forI:Stmt->Expr
 |.For _ i _ _ _=>i
 |_=>.Constant .none 0 ⟨0,0,0,0⟩
def retE:Stmt->Expr
 |.Return (some e) _=>e
 |_=>.Constant .none 0 ⟨0,0,0,0⟩
variable{k:List V->Hp->Prop}
theorem nilG{H:Hp}(h:k [] H):tNil σ H k:=h
theorem consG{te:TE}{t:TA}{H:Hp}(h:te σ H λx H1=>t σ H1 λxs H2=>k (x::xs) H2):tCons te t σ H k:=h
abbrev wtN(qs:List Pc)(n:Str):Int:=strOf (qs.map wOf) n
def kN(qs:List Pc)(n:Str):List Key:=[.inl (-(wtN qs n)),.inr n]
def sndK:List Key->Str
 |[_,.inr n]=>n
 |_=>⟨#[]⟩
def hvL(qs:List Pc):List Str:=(sortKs ((qs.map (·.1)).map (kN qs))).map sndK
def kfW(qs:List Pc):V->List Key
 |.str n=>kN qs n
 |_=>[]
variable{zs:List V}{ns:List Str}
theorem e9_(p:zs.Perm (ns.map V.str)):∃ms:List Str,zs=ms.map V.str/\ms.Perm ns:=by
 have all:∀z∈zs,∃n,z=V.str n:=λz hz=>by
  obtain⟨n,_,e⟩:=af'.mp (p.mem_iff.mp hz);exact⟨n,e.symm⟩
 have mk:∀l:List V,(∀z∈l,∃n,z=V.str n)->∃ms:List Str,l=ms.map V.str:=λl=>by
  induction l with
  |nil=>intro _;exact⟨[],rfl⟩
  |cons a r ih=>
   intro h;obtain⟨n,rfl⟩:=h a ag';obtain⟨ms,rfl⟩:=ih λz hz=>h z (ad' _ hz);exact⟨n::ms,rfl⟩
 obtain⟨ms,rfl⟩:=mk zs all;refine⟨ms,rfl,?_⟩;have:=p.map (λv:V=>match v with | .str n=>n|_=>(⟨#[]⟩:Str));rw[ak',ak'] at this;simpa [Function.comp_def] using this
theorem kX_{qs:List Pc}(p:zs.Perm ((qs.map (·.1)).map V.str))(e:zs.map (kfW qs)=sortKs (((qs.map (·.1)).map V.str).map (kfW qs))):zs=(hvL qs).map V.str:=by
 obtain⟨ms,rfl,_⟩:=e9_ p;have e1:(ms.map V.str).map (kfW qs)=ms.map (kN qs):=by rw[ak'];rfl
 have e2:((qs.map (·.1)).map V.str).map (kfW qs)=(qs.map (·.1)).map (kN qs):=by
  rw[ak'];rfl
 rw[e1,e2] at e
 have em:(ms.map (kN qs)).map sndK=ms:=by
  rw[ak'];exact List.map_id' ms
 unfold hvL;rw[<- e,em]
theorem ch_(qs:List Pc):(hvL qs).Perm (qs.map (·.1)):=by
 unfold hvL;have p:=(ao_ ((qs.map (·.1)).map (kN qs))).map sndK
 have e:((qs.map (·.1)).map (kN qs)).map sndK=qs.map (·.1):=by
  generalize qs.map (·.1)=ns;rw[ak'];exact List.map_id' _
 rw[e] at p;exact p
def hvAt(qs:List Pc)(f:Str->Str)(h:Str):List Str:=(hvL qs).filter λn=>decide (f n=h)
abbrev qHF:Str:="heaviest_first.<locals>.<lambda>"
def lamW:Expr:=kwE (forI (nthS (a7' sHvF) 1))
abbrev fvW:List Str:=["goods"]
theorem freeW:∀y∈(lamS lamW).names,y.2=.free->y.1∈fvW:=by decide +kernel
theorem scLamW:bX' ["name"] fvW (lamS lamW):=⟨by decide +kernel,rfl,rfl,rfl,by decide +kernel,by decide +kernel,λx h=>freeW (x,.free) (b_3 h) rfl,by decide +kernel⟩
section
variable{P:Ae}{w:Af}{K:F__}{mg:Str->Option Aa}{base:Heap}
inductive spLamWI (K:F__) (CG CW:Addr) (vs:List V) (gs:List V) (H:Hp) (Q:VK):Prop
 |mk:∀(g p:Addr) (q:Pc) (hs:Xa) (ts:Xb) (qs:List Pc) (fp:List Addr),vs=[.str q.1]->gs=[.ref g]->a6' K CG CW H g p hs ts qs fp->(qs.map (·.1)).Nodup->q∈qs->0<=q.2.1->q.2.1<=1000000000->(∀t,H t=none->Q (.ref t) (upd H t (.tup [.int (-q.2.1),.str q.1])))->spLamWI K CG CW vs gs H Q
def spLamW(K:F__)(CG CW:Addr):List V->List V->Hp->VK->XK->Prop:=λvs gs H Q _=>spLamWI K CG CW vs gs H Q
theorem jw_{CG CW CP:Addr}(T:TxtG K CG)(cW:CalX P w K mg base CG 2 "weight" ["self","piece"] (bg' K CG CW CP)):LamOk P w K mg base 3 qHF (lamA lamW) (lamB lamW) (lamS lamW) ["name"] fvW (spLamW K CG CW):=by
 refine lamOk scLamW (λpm c' ctv cl us hl=>?_) (λA outer s H f cd cl vs gs Q E hr h hp=>?_)
 ·match us,hl with
  |[_],_=>rfl
 ·obtain⟨g,p,q,hs,ts,qs,fp,rfl,rfl,G,nd,hq,w0,w1,k⟩:=h;obtain⟨dx,dw,dy,vs,fpw,h1,h2,_⟩:=id G.ex;refine⟨_,aR_ (a0_ (jG_ ha_ (di_ cW T.cl hr (pv 1) (a0_ (pv 0) a2_))) (a0_ (pv 0) a2_)),?_⟩;have hno:(gflds p dw dy).lookup ("weight":Str)=none:=aE_ _ _ _ Z0 Z0 Z0;refine⟨_,rfl,g,dx,_,rfl,h1,hno,_,rfl,g,p,.str q.1,some q.1,hs,ts,qs,fp,rfl,G,nd,rfl,.inl ⟨q,hq,rfl,?_⟩⟩;exact⟨_,rfl,_,rfl,by show 2<=sizeLine;decide,λt ht=>k t ht⟩
def clW(L:Addr):List (Str × Addr):=[("goods",L+1)]
theorem cloW{L f:Addr}{cd:Aa}:closureFor (lamS lamW) (PyProof.Rows.envOfC "heaviest_first" (a1' sHvF) L f cd)=pure (clW L):=by rfl
theorem celW{L f:Addr}{cd:Aa}:∀q∈clW L,(PyProof.Rows.envOfC "heaviest_first" (a1' sHvF) L f cd).cells.lookup q.1=some q.2:=by
 intro q hq;simp only[clW,al',List.not_mem_nil,or_false] at hq;rcases hq with rfl;rfl
theorem lclW{L:Addr}:∀x∈fvW,∃c,(clW L).lookup x=some c:=by
 intro x hx;simp only[fvW,al',List.not_mem_nil,or_false] at hx;rcases hx with rfl;exact⟨_,rfl⟩
theorem lkdW:∀x∈fvW,(a1' sHvF).names.lookup x=some .cell:=by decide +kernel
theorem scHvF:a3' ["goods","placed","found","piece"] ["goods","placed"] (a1' sHvF):=f__
def LsAt(H:Hp)(ns:List Str)(ad:Str->Addr)(g:Str->List Str):Prop:=(∀h∈ns,H (ad h)=some (.lst ((g h).map V.str)))/\∀h∈ns,∀h'∈ns,ad h=ad h'->h=h'
inductive spHvF (K:F__) (CG CW T:Addr) (vs:List V) (H:Hp) (Q:VK) (E:XK):Prop
 |mk:∀(g p d:Addr) (hs:Xa) (ts:Xb) (qs:List Pc) (fp:List Addr) (f:Str->Str),vs=[.ref g,.ref d]->bw' K CG CW H g p d hs ts qs fp f->(∀q∈qs,0<=q.2.1/\q.2.1<=1000000000)->a8' H T qHF->(∀d' ad H',But T H H'->a8' H' T qHF->H d'=none->H' d'=some (.dK (mKV (a2' hs) λh=>.ref (ad h)))->LsAt H' (a2' hs) ad (hvAt qs f)->(∀h∈a2' hs,H (ad h)=none)->Q (.ref d') H')->spHvF K CG CW T vs H Q E
theorem a8'.putL{H:Hp}{T a:Addr}{q:Str}{xs:List V}{o:HO}(h:a8' H T q)(ha:H a=some (.lst xs)):a8' (upd H a o) T q:=by
 obtain⟨es,e,c⟩:=h;refine⟨es,by rw[a5_ (aM_ e ha nofun)];exact e,λx hx=>?_⟩;rw[a5_ (λz=>by have:=c x hx;rw[z,ha] at this;cases this)];exact c x hx
theorem dgR{H:Hp}{d:Addr}{g:Str->V}{n:Str}(h:H d=some (.dK (mKV ns g)))(m:n∈ns):DGet H d (.str n) (some (g n)):=by
 have:=DGet.k (k:=Sum.inr n) h;rw[bu_ m] at this;exact this
theorem hL_{qs:List Pc}(nd:(qs.map (·.1)).Nodup){q:Pc}(h:q∈qs):wtN qs q.1=q.2.1:=by
 refine hS_ ?_ (af'.mpr ⟨q,h,rfl⟩);rw[ak'];exact nd
theorem kI_{f0 c0 CG CW CP T:Addr}{fd:Ad}(F:FunC K "heaviest_first" "heaviest_first" sHvF f0 c0 fd)(B:Bi mg)(TG:TxtG K CG)(TW:Txt K mg CW)(hC:PySem.W.CodeHd base c0 T)(hbm:base.BuiltinsAt mg T)(cH:CalM P w K mg base CW 1 "hands" ["self"] (bO' K CW))(cW:CalX P w K mg base CG 2 "weight" ["self","piece"] (bg' K CG CW CP)) :
  FnOk P w K mg base CX0 6 f0 fd ["goods","placed"] (spHvF K CG CW T):=by
 refine F.ok scHvF (λvs H Q E h=>?_) (λA outer s H vs Q E hr h=>?_)
 ·obtain⟨g,p,d,hs,ts,qs,fp,f,rfl,_⟩:=h;rfl
 ·obtain⟨g,p,d,hs,ts,qs,fp,f,rfl,Pl,wq,tab,k⟩:=h;have hu:=ba_ hr;have sz:=b__;have hr1:Room 1 _:=hr.mono (by decide);refine' ⟨_,a3_ ?s1 (a3_ ?s2 (a4_ ?s3)),?kk⟩
  case' s1=>refine' ad_ (i:=2) scHvF.nd rfl (Or.inl rfl) (aG_ (aZ_ rfl) (by rfl) B.dict PyProof.Rows.Boot.«dict» (a0_ (aO_ ["hand"] 1 [] (aj_ (b3_ cH TW.cl hr1 (ak_ (pv 0) rfl))) (λfp s H=>ac_ (i:=0) (show (["hand"]:List Str).Nodup by decide +kernel) rfl (Or.inl rfl)) (λfp s H=>aK_) (λfp s H=>?e1)) a2_))
  case e1=>exact aR_ (a0_ (pv 0) (a0_ (ax_ a2_) a2_))
  case' s2=>refine' aV_ b_1 rfl (aj_ ?l2) (ac_ (i:=3) scHvF.nd rfl (Or.inl rfl)) (a4_ ?b2)
  case l2=>exact f7_ (px:="name") (fvs:=fvW) (cl:=clW s.heap.objs.size) (is:=[0]) (k:=3) rfl (by rfl) B.sorted (a0_ (pv 1) a2_) (em_ (iJ_ (P:=T) (c:=c0) rfl cloW rfl hC hbm) gk_) (jw_ TG cW) hr celW lclW lkdW rfl
  case b2=>exact b8_ (cT_ b_4 PySem.F.slot_list_append PySem.F.type_list_append bj_ (aP_ hu (pv 2) (aP_ hu (pv 1) (pv 3) (λ_ _=>rfl)) (λ_ _=>rfl)) (a0_ (pv 3) a2_))
  case s3=>exact a8_ (pv 2)
  case' kk=>skip
  have nd:=Pl.Gd.nnd;have n8:(a2' hs).length<=8:=by have:=Pl.Gd.nlen;have:=Pl.Gd.h8;omega
  obtain⟨dx,dw,dy,vs,fpw,h1,h2,h3,h4,h5,m1,m2,m3,m4,m5⟩:=id Pl.G.ex;obtain⟨dxw,d1,l2,d3,zs0,as,ef,w1,_⟩:=id h2.ex;have hnw:(flds d1 l2 d3).lookup ("hands":Str)=none:=az_ _ _ _ Z0 Z0 Z0;refine⟨_,rfl,g,CG,dx,_,_,rfl,h1,TG.cl,TG.nW,aJ_ _ _ _,p,dxw,_,rfl,w1,hnw,p,hs,ts,fpw,rfl,h2,λlh nh=>?_⟩;obtain⟨s1,e1⟩:=nw__ (o:=.lst ((a2' hs).map V.str)) nh;generalize upd H lh (.lst ((a2' hs).map V.str))=H1 at s1 e1 ⊢;refine⟨lh,rfl,⟨_,.of e1⟩,λD hD=>?_⟩;refine as_ (own:=1) (fv:=[]) (xs:=(a2' hs).map V.str) rfl gok1 (λi out H'=>∃ad:Str->Addr,Same H1 H'/\H' D=some (.lst out)/\bh' K H' out (mKV ((a2' hs).take i) λh=>.ref (ad h))/\LsAt H' ((a2' hs).take i) ad (λ_=>[])/\∀h∈(a2' hs).take i,H1 (ad h)=none/\ad h≠D) ⟨λ_=>D,Same.new hD,a1_,.nil,⟨by simp,by simp⟩,by simp⟩ (λi out H' _ ⟨_,sm,_⟩=>.of (sm _ _ e1)) (λout H2 ⟨ad,s2,hD2,pa,ls,fr⟩=>?_) (λi x out H' hx ⟨ad,sm,hd,pa,ls,fr⟩=>?_);rotate_left
  ·obtain⟨n,hn,rfl⟩:=ai_ hx;have nn:n∉(a2' hs).take i:=f3_ nd hn;refine⟨_,rfl,rfl,λNx hN=>yesT ?_⟩;refine⟨_,rfl,by show 0<=sizeLine;decide,λl nl=>?_⟩;obtain⟨s3,e3⟩:=nw__ (o:=.lst []) nl;generalize upd H' l (.lst [])=H3 at s3 e3 ⊢;refine⟨by show 2<=sizeLine;decide,λt nt=>?_⟩;obtain⟨s4,e4⟩:=nw__ (o:=.tup [.str n,.ref l]) nt;generalize upd H3 t (.tup [.str n,.ref l])=H4 at s4 e4 ⊢;have s34:=s3.trans s4;have hD4:=s34 _ _ hd;have lD:l≠D:=λz=>by rw[z,hd] at nl;cases nl
   have adl:∀h∈(a2' hs).take i,ad h≠l:=λh hh z=>by
    have:=ls.1 h hh;rw[z,nl] at this;cases this
   have lo:=a_3 pa;rw[b4_,am'] at lo
   have pD:∀{b:Addr} {zs:List V},H4 b=some (.tup zs)->b≠D:=λhb z=>by
    rw[z,hD4] at hb;cases hb
   have ne:∀h∈(a2' hs).take i,h≠n:=λh hh z=>nn (z▸hh);refine⟨out,hD4,by omega,hN (out++[.ref t]) _ ⟨λm=>if m=n then l else ad m,ar_ (sm.trans s34) hD,a1_,?_,⟨λh hh=>?_,λh hh h' hh' z=>?_⟩,λh hh=>?_⟩⟩
   ·have e:mKV ((a2' hs).take (i+1)) (λh=>.ref (if h=n then l else ad h))=mKV ((a2' hs).take i) (λh=>.ref (ad h))++[(Sum.inr n,.ref l)]:=by
     rw[b0_ hn];unfold mKV;rw[an',av',List.map_nil];dsimp only;rw[a_9 rfl];congr 1;exact aI' λm hm=>by rw[a_4 (ne m hm)]
    rw[e];exact aF_ (Paired.mapP pa λy kv ⟨b,z,hb⟩=>⟨b,z,by rw[a5_ (pD (s34 _ _ hb))];exact s34 _ _ hb⟩) (.cons ⟨t,rfl,by rw[a5_ (pD e4)];exact e4⟩ .nil)
   ·rw[b0_ hn] at hh;rcases au'.mp hh with hh|hh
    ·dsimp only;rw[a_4 (ne h hh),a5_ (fr h hh).2];exact s34 _ _ (ls.1 h hh)
    ·obtain rfl:h=n:=by simpa using hh
     dsimp only;rw[a_9 rfl,a5_ lD];exact s4 _ _ e3
   ·rw[b0_ hn] at hh hh';dsimp only at z;rcases au'.mp hh with a1|a1<;>rcases au'.mp hh' with a2|a2
    ·rw[a_4 (ne h a1),a_4 (ne h' a2)] at z;exact ls.2 h a1 h' a2 z
    ·have a2:h'=n:=by simpa using a2
     rw[a_4 (ne h a1),a_9 a2] at z;exact absurd z (adl h a1)
    ·have a1:h=n:=by simpa using a1
     rw[a_4 (ne h' a2),a_9 a1] at z;exact absurd z.symm (adl h' a2)
    ·rw[show h=n by simpa using a1,show h'=n by simpa using a2]
   ·rw[b0_ hn] at hh;dsimp only;rcases au'.mp hh with hh|hh
    ·rw[a_4 (ne h hh)];exact fr h hh
    ·obtain rfl:h=n:=by simpa using hh
     rw[a_9 rfl];exact⟨sm.free nl,lD⟩
  rw[aa',ao'] at pa ls fr;refine⟨D,out,_,rfl,hD2,pa,by rw[b4_];omega,λdf ndf=>?_⟩
  have ndk:((mKV (a2' hs) λh=>V.ref (ad h)).map (·.1)).Nodup:=by
   rw[bL_,aA',aE'];exact nd.imp λn e=>n (b_5 e)
  rw[b7_ ndk];obtain⟨s3,e3⟩:=nw__ (o:=.dK (mKV (a2' hs) λh=>V.ref (ad h))) ndf;refine setG ?_;dsimp only;generalize upd H2 df (.dK (mKV (a2' hs) λh=>V.ref (ad h)))=H3 at s3 e3 ⊢;have s03:=(s1.trans s2).trans s3;have ndf0:H df=none:=(s1.trans s2).free ndf;have fr0:∀h∈a2' hs,H (ad h)=none:=λh hh=>s1.free (fr h hh).1;have ls3:∀h∈a2' hs,H3 (ad h)=some (.lst []):=λh hh=>s3 _ _ (ls.1 h hh);have inj:=ls.2;clear s1 s2 s3 e1 pa ls fr hD2 nh hD ndf;refine⟨_,rfl,nilG (consG ?_)⟩;refine iN_ (tab.same s03) rfl rfl rfl rfl λfl c' H4 b4 tab4 hfl hc'=>?_;obtain⟨tv,hT⟩:=aS_ tab
  have neT:∀{b:Addr} {o:HO},H3 b=some o->(∀vs,o≠.tbl vs)->b≠T:=λ{b o} e n z=>by
   rw[z,s03 _ _ hT] at e;exact n _ (a_8 e).symm
  have nt4:NT H H4:=λb o e n=>b4 _ _ (s03 _ _ e) (neT (s03 _ _ e) n);have ls4:∀h∈a2' hs,H4 (ad h)=some (.lst []):=λh hh=>b4 _ _ (ls3 h hh) (neT (ls3 h hh) nofun);have e4:=b4 _ _ e3 (neT e3 nofun);have b04:But T H H4:=λb o e n=>b4 _ _ (s03 _ _ e) n;refine⟨.ref d,fl,c',(qs.map (·.1)).map V.str,kfW qs,[false,true],[.ref g],rfl,rfl,hfl,hc',.inr ⟨d,_,rfl,nt4.dK Pl.hd,?_⟩,by rw[aa',aa'];exact Pl.h64,⟨by decide,λk hk=>?_⟩,rfl,λH' x sm hx=>?_,λl zs H5 s5 nl nl4 pz ek=>?_⟩
  ·show _=((qs.map (·.1)).map _).map _;generalize qs.map (·.1)=ns';rw[ak'];rfl
  ·obtain⟨v,hv,rfl⟩:=af'.mp hk;obtain⟨n,_,rfl⟩:=af'.mp hv;rfl
  ·obtain⟨n,hn,rfl⟩:=af'.mp hx;obtain⟨q,hq,rfl⟩:=af'.mp hn;refine⟨g,p,q,hs,ts,qs,fp,rfl,rfl,(Pl.G.nt nt4).same sm,Pl.nd,hq,(wq q hq).1,(wq q hq).2,λt nt=>⟨Same.new nt,t,rfl,?_⟩⟩;rw[a1_];show _=some (HO.tup [.int (-(wtN qs q.1)),.str q.1]);rw[hL_ Pl.nd hq]
  rw[kX_ pz ek];have hl:upd H5 l (.lst ((hvL qs).map V.str)) l=some (.lst ((hvL qs).map V.str)):=a1_;have s6:Same H4 (upd H5 l (.lst ((hvL qs).map V.str))):=s5.trans (Same.new nl)
  have lne:∀h∈a2' hs,ad h≠l:=λh hh z=>by
   have:=ls4 h hh;rw[z,nl4] at this;cases this
  generalize upd H5 l (.lst ((hvL qs).map V.str))=H6 at hl s6 ⊢
  have len64:(hvL qs).length<64:=by
   rw[(ch_ qs).length_eq,aa'];exact Pl.h64
  have dT:d≠T:=λz=>by
   have:=Pl.hd;rw[z,hT] at this;cases this
  refine⟨l,rfl,⟨_,.of hl⟩,aH_ (K:=K) (a:=l) (xs:=(hvL qs).map V.str) (λi σ H'=>∃v3:Option V,σ=[some (.ref g),some (.ref d),some (.ref df),v3]/\But T H H'/\a8' H' T qHF/\H' df=some (.dK (mKV (a2' hs) λh=>V.ref (ad h)))/\H' l=some (.lst ((hvL qs).map V.str))/\LsAt H' (a2' hs) ad (λh=>((hvL qs).take i).filter λn=>decide (f n=h))) ⟨none,rfl,λb o e n=>s6 _ _ (b04 b o e n),tab4.same s6,s6 _ _ e4,hl,λh hh=>s6 _ _ (ls4 h hh),inj⟩ (λi σ H' _ ⟨_,_,_,_,_,z,_⟩=>.of z) ?_ ?_⟩
  ·rintro i x σ H' hx ⟨v3,rfl,bT,tab',hdf,hl',ls⟩;obtain⟨n,hn,rfl⟩:=ai_ hx;have nm:n∈qs.map (·.1):=(ch_ qs).mem_iff.mp (ae' hn);have fm:f n∈a2' hs:=(aw_ hs).mem_iff.mpr (Pl.at_ n nm);have hd':=bT _ _ Pl.hd dT;have la:=ls.1 (f n) fm;refine setG ?_;dsimp only;refine⟨_,rfl,_,rfl,_,rfl,d,_,rfl,dgR hd' nm,df,_,rfl,dgR hdf fm,.inl ⟨rfl,_,.of la⟩,_,rfl,ad (f n),_,_,rfl,rfl,la,?_,?_⟩
   ·rw[aa'];have:=aW' (λn'=>decide (f n'=f n)) ((hvL qs).take i);rw[am'] at this;dsimp only;omega
   refine⟨_,rfl,λb o e ne=>?_,a8'.putL tab' la,?_,?_,λh hh=>?_,inj⟩
   ·rw[a5_ (a7_ e (fr0 _ fm))];exact bT b o e ne
   ·rw[a5_ (aM_ hdf la nofun)];exact hdf
   ·rw[a5_ (lne _ fm).symm];exact hl'
   ·by_cases z:h=f n
    ·subst z;dsimp only;rw[a1_,b0_ hn,List.filter_append,List.filter_cons_of_pos Z2,List.filter_nil,an'];rfl
    ·dsimp only;rw[a5_ (λy=>z (inj h hh _ fm y)),b0_ hn,List.filter_append,List.filter_cons_of_neg (by simpa using λy=>z y.symm),List.filter_nil,aN'];exact ls.1 h hh
  ·rintro σ H' ⟨v3,rfl,bT,tab',hdf,hl',ls⟩;rw[aa',ao'] at ls;exact⟨_,rfl,k df ad H' bT tab' ndf0 hdf ls fr0⟩
end
abbrev sSInit:Stmt:=bc' d7' 0
abbrev sLead:Stmt:=bc' d7' 1
abbrev sJoint:Stmt:=bc' d7' 2
abbrev cw':Stmt:=bc' d7' 3
def sflds(g dl dv dp:Addr):List (Str × V):=putF "pieces_by_hand" (.ref dp) (putF "level_by_hand" (.ref dv) (putF "load_by_hand" (.ref dl) (putF "wares" (.ref g) [])))
theorem sf_g(g dl dv dp:Addr):(sflds g dl dv dp).lookup ("wares":Str)=some (.ref g):=by
 unfold sflds;rw[aa_,aa_,aa_,aa_,a_4 Z0,a_4 Z0,a_4 Z0,a_9 rfl]
theorem sf_l(g dl dv dp:Addr):(sflds g dl dv dp).lookup ("load_by_hand":Str)=some (.ref dl):=by
 unfold sflds;rw[aa_,aa_,aa_,a_4 Z0,a_4 Z0,a_9 rfl]
theorem sf_v(g dl dv dp:Addr):(sflds g dl dv dp).lookup ("level_by_hand":Str)=some (.ref dv):=by
 unfold sflds;rw[aa_,aa_,a_4 Z0,a_9 rfl]
theorem sf_p(g dl dv dp:Addr):(sflds g dl dv dp).lookup ("pieces_by_hand":Str)=some (.ref dp):=by
 unfold sflds;rw[aa_,a_9 rfl]
theorem fP_(g dl dv dp:Addr){m:Str}(h1:¬m="wares")(h2:¬m="load_by_hand")(h3:¬m="level_by_hand")(h4:¬m="pieces_by_hand"):(sflds g dl dv dp).lookup m=none:=by
 unfold sflds;rw[aa_,aa_,aa_,aa_,a_4 h4,a_4 h3,a_4 h2,a_4 h1];rfl
structure TxtS (K:F__) (CS:Addr):Prop where
 cl:Cls K CS
 nW:bs' K CS "wares"
 nL:bs' K CS "load_by_hand"
 nV:bs' K CS "level_by_hand"
 nP:bs' K CS "pieces_by_hand"
structure Wd (hs:Xa) (ts:Xb) (qs:List Pc) (f:Str->Str):Prop where
 Gd:Good hs ts
 nd:(qs.map (·.1)).Nodup
 h64:qs.length<64
 at_:∀n∈qs.map (·.1),f n∈hs.map (·.1)
 wq:∀q∈qs,0<=q.2.1/\q.2.1<=1000000000
structure bb' (K:F__) (CS CG CW:Addr) (H:Hp) (v g p:Addr) (hs:Xa) (ts:Xb) (qs:List Pc) (fp:List Addr) (f:Str->Str):Prop where
 ex:∃(dx dl dv dp:Addr) (ad:Str->Addr),H v=some (.ins CS dx (sflds g dl dv dp))/\a6' K CG CW H g p hs ts qs fp/\H dl=some (.dK (ldV hs qs f))/\H dv=some (.dK (mKV (a2' hs) λh=>.int (lvF hs qs f h)))/\H dp=some (.dK (mKV (a2' hs) λh=>.ref (ad h)))/\∀h∈a2' hs,H (ad h)=some (.lst ((hvAt qs f h).map V.str))
theorem bb'.nt{K:F__}{CS CG CW:Addr}{H G:Hp}{v g p:Addr}{hs:Xa}{ts:Xb}{qs:List Pc}{fp:List Addr}{f:Str->Str}(S:bb' K CS CG CW H v g p hs ts qs fp f)(s:NT H G):bb' K CS CG CW G v g p hs ts qs fp f:=by
 obtain⟨dx,dl,dv,dp,ad,h1,h2,h3,h4,h5,h6⟩:=S.ex;exact⟨dx,dl,dv,dp,ad,s.ins h1,h2.nt s,s.dK h3,s.dK h4,s.dK h5,λh hh=>s.lst (h6 h hh)⟩
theorem bb'.same{K:F__}{CS CG CW:Addr}{H G:Hp}{v g p:Addr}{hs:Xa}{ts:Xb}{qs:List Pc}{fp:List Addr}{f:Str->Str}(S:bb' K CS CG CW H v g p hs ts qs fp f)(s:Same H G):bb' K CS CG CW G v g p hs ts qs fp f:=S.nt (NT.of s)
abbrev lo(qs:List Pc)(f:Str->Str)(h:Str):Int:=ld f (qs.map wOf) h
def bB'(hs:Xa)(qs:List Pc)(f:Str->Str)(a b:Str):Int:=lo qs f a * strOf hs b - lo qs f b * strOf hs a
def bo'(hs:Xa)(a b:Str):Int:=strOf hs a+strOf hs b
section
variable{P:Ae}{w:Af}{K:F__}{mg:Str->Option Aa}{base:Heap}
theorem scSInit:a3' ["self","goods","placed"] ["self","goods","placed"] (a1' sSInit):=f__
inductive de' (K:F__) (CS CG CW T:Addr) (vs:List V) (H:Hp) (Q:VK) (E:XK):Prop
 |mk:∀(v dx g p d:Addr) (hs:Xa) (ts:Xb) (qs:List Pc) (fp:List Addr) (f:Str->Str),vs=[.ref v,.ref g,.ref d]->H v=some (.ins CS dx [])->v∉fp->bw' K CG CW H g p d hs ts qs fp f->Wd hs ts qs f->a8' H T qHF->(∀H',(∀b o,H b=some o->b≠v->b≠T->H' b=some o)->a8' H' T qHF->bb' K CS CG CW H' v g p hs ts qs fp f->Q .non H')->de' K CS CG CW T vs H Q E
theorem iC_{f0 CS CG CW T:Addr}{fd:Ad}(F:Fun K "__init__" "Sight.__init__" sSInit f0 fd)(TS:TxtS K CS)(cLA:Cal P w K mg base 3 "loads_at" ["goods","placed"] (bW' K CG CW))(cLv:Cal P w K mg base 4 "levels_at" ["goods","placed"] (bV' K CG CW))(cHF:Cal P w K mg base 6 "heaviest_first" ["goods","placed"] (spHvF K CG CW T)) :
  FnOk P w K mg base CX0 7 f0 fd ["self","goods","placed"] (de' K CS CG CW T):=by
 refine F.ok scSInit (λvs H Q E h=>?_) (λcdv A outer s H vs Q E hr h=>?_)
 ·obtain⟨v,dx,g,p,d,hs,ts,qs,fp,f,rfl,_⟩:=h;rfl
 ·obtain⟨v,dx,g,p,d,hs,ts,qs,fp,f,rfl,hv,vfp,Pl,W,tab,k⟩:=h;have hr3:Room 3 _:=hr.mono (by decide);have hr4:Room 4 _:=hr.mono (by decide);refine' ⟨_,a3_ ?s1 (a3_ ?s2 (a3_ ?s3 (a4_ ?s4))),?kk⟩
  case s1=>exact bE_ (pv 0) (pv 1) rfl
  case s2=>exact bE_ (pv 0) (af_ cLA hr3 (a0_ (pv 1) (a0_ (pv 2) a2_))) rfl
  case s3=>exact bE_ (pv 0) (af_ cLv hr4 (a0_ (pv 1) (a0_ (pv 2) a2_))) rfl
  case s4=>exact bE_ (pv 0) (af_ cHF hr (a0_ (pv 1) (a0_ (pv 2) a2_))) rfl
  case' kk=>skip
  have dv:d≠v:=aM_ Pl.hd hv nofun;have keepP:∀{G:Hp},(∀b o,H b=some o->b≠v->G b=some o)->bw' K CG CW G g p d hs ts qs fp f:=λ{G} up=>⟨Pl.G.keep (λb hb o e=>up b o e (λz=>vfp (z▸hb))) (λb xs e=>up b _ e (aM_ e hv nofun)),Pl.Gd,Pl.dfp,up _ _ Pl.hd dv,Pl.at_,Pl.nd,Pl.h64⟩;refine⟨_,rfl,_,rfl,v,CS,dx,_,rfl,hv,TS.cl,TS.nW,by show 0<1000;decide,?_⟩;have up1:∀b o,H b=some o->b≠v->upd H v (.ins CS dx (putF "wares" (.ref g) [])) b=some o:=λb o e n=>by rw[a5_ n];exact e
  have hv1:upd H v (.ins CS dx (putF "wares" (.ref g) [])) v=some (.ins CS dx (putF "wares" (.ref g) [])):=a1_;have fr1:∀{b},upd H v (.ins CS dx (putF "wares" (.ref g) [])) b=none->b≠v:=λ{b} e z=>by rw[z,a1_] at e;cases e
  generalize upd H v (.ins CS dx (putF "wares" (.ref g) []))=H1 at up1 hv1 fr1 ⊢;refine⟨_,rfl,_,rfl,g,p,d,hs,ts,qs,fp,f,rfl,keepP up1,λdl H2 s2 nl hl=>?_⟩;have hv2:=s2 _ _ hv1;have lv:dl≠v:=fr1 nl;refine⟨_,rfl,v,CS,dx,_,rfl,hv2,TS.cl,TS.nL,by show 1<1000;decide,?_⟩;have up3:∀b o,H b=some o->b≠v->upd H2 v (.ins CS dx (putF "load_by_hand" (.ref dl) (putF "wares" (.ref g) []))) b=some o:=λb o e n=>by rw[a5_ n];exact s2 _ _ (up1 b o e n)
  have hv3:upd H2 v (.ins CS dx (putF "load_by_hand" (.ref dl) (putF "wares" (.ref g) []))) v=some (.ins CS dx (putF "load_by_hand" (.ref dl) (putF "wares" (.ref g) []))):=a1_;have fr3:∀{b},upd H2 v (.ins CS dx (putF "load_by_hand" (.ref dl) (putF "wares" (.ref g) []))) b=none->b≠v:=λ{b} e z=>by rw[z,a1_] at e;cases e
  have hl3:upd H2 v (.ins CS dx (putF "load_by_hand" (.ref dl) (putF "wares" (.ref g) []))) dl=some (.dK (ldV hs qs f)):=by rw[a5_ lv];exact hl
  generalize upd H2 v (.ins CS dx (putF "load_by_hand" (.ref dl) (putF "wares" (.ref g) [])))=H3 at up3 hv3 fr3 hl3 ⊢;refine⟨_,rfl,_,rfl,g,p,d,hs,ts,qs,fp,f,rfl,keepP up3,W.wq,λde H4 s4 ne he=>?_⟩;have hv4:=s4 _ _ hv3;have ev:de≠v:=fr3 ne;refine⟨_,rfl,v,CS,dx,_,rfl,hv4,TS.cl,TS.nV,by show 2<1000;decide,?_⟩;have up5:∀b o,H b=some o->b≠v->upd H4 v (.ins CS dx (putF "level_by_hand" (.ref de) (putF "load_by_hand" (.ref dl) (putF "wares" (.ref g) [])))) b=some o:=λb o e n=>by rw[a5_ n];exact s4 _ _ (up3 b o e n)
  have hv5:upd H4 v (.ins CS dx (putF "level_by_hand" (.ref de) (putF "load_by_hand" (.ref dl) (putF "wares" (.ref g) [])))) v=some (.ins CS dx (putF "level_by_hand" (.ref de) (putF "load_by_hand" (.ref dl) (putF "wares" (.ref g) [])))):=a1_;have fr5:∀{b},upd H4 v (.ins CS dx (putF "level_by_hand" (.ref de) (putF "load_by_hand" (.ref dl) (putF "wares" (.ref g) [])))) b=none->b≠v:=λ{b} e z=>by rw[z,a1_] at e;cases e
  have hl5:upd H4 v (.ins CS dx (putF "level_by_hand" (.ref de) (putF "load_by_hand" (.ref dl) (putF "wares" (.ref g) [])))) dl=some (.dK (ldV hs qs f)):=by rw[a5_ lv];exact s4 _ _ hl3
  have he5:upd H4 v (.ins CS dx (putF "level_by_hand" (.ref de) (putF "load_by_hand" (.ref dl) (putF "wares" (.ref g) [])))) de=some (.dK (mKV (a2' hs) λh=>.int (lvF hs qs f h))):=by rw[a5_ ev];exact he
  generalize upd H4 v (.ins CS dx (putF "level_by_hand" (.ref de) (putF "load_by_hand" (.ref dl) (putF "wares" (.ref g) []))))=H5 at up5 hv5 fr5 hl5 he5 ⊢;obtain⟨es,hT,hcs⟩:=id tab;have Tv:T≠v:=aM_ hT hv nofun;have tab5:a8' H5 T qHF:=⟨es,up5 _ _ hT Tv,λe he=>up5 _ _ (hcs e he) (λz=>by have:=hcs e he;rw[z,hv] at this;cases this)⟩;have Pl5:=keepP up5;refine⟨_,rfl,_,rfl,g,p,d,hs,ts,qs,fp,f,rfl,Pl5,W.wq,tab5,λdp ad H6 b6 tab6 np hp ls fra=>?_⟩;have nt6:NT H5 H6:=b6.nt (up5 _ _ hT Tv);have hv6:=nt6.ins hv5;have pv':dp≠v:=fr5 np;have av:∀h∈a2' hs,ad h≠v:=λh hh=>fr5 (fra h hh);refine⟨_,rfl,v,CS,dx,_,rfl,hv6,TS.cl,TS.nP,by show 3<1000;decide,?_⟩;refine k _ (λb o e n1 n2=>?_) ?_ ⟨dx,dl,de,dp,ad,a1_,(Pl5.G.nt nt6).keep (λb hb o e=>?_) (λb xs e=>?_),?_,?_,?_,λh hh=>?_⟩
  ·rw[a5_ n1];exact b6 _ _ (up5 b o e n1) n2
  ·obtain⟨es,e1,e2⟩:=tab6;exact⟨es,by rw[a5_ (aM_ e1 hv6 nofun)];exact e1,λe he=>by rw[a5_ (λz=>by have:=e2 e he;rw[z,hv6] at this;cases this)];exact e2 e he⟩
  ·rw[a5_ (λz:b=v=>vfp (z▸hb))];exact e
  ·rw[a5_ (aM_ e hv6 nofun)];exact e
  ·rw[a5_ lv];exact nt6.dK hl5
  ·rw[a5_ ev];exact nt6.dK he5
  ·rw[a5_ pv'];exact hp
  ·rw[a5_ (av h hh)];exact ls.1 h hh
theorem scLead:a3' ["self","one","other","web"] ["self","one","other"] (a1' sLead):=f__
inductive cF' (K:F__) (CS CG CW:Addr) (vs:List V) (H:Hp) (Q:VK) (E:XK):Prop
 |mk:∀(v g p:Addr) (a b:Str) (hs:Xa) (ts:Xb) (qs:List Pc) (fp:List Addr) (f:Str->Str),vs=[.ref v,.str a,.str b]->bb' K CS CG CW H v g p hs ts qs fp f->Wd hs ts qs f->a∈a2' hs->b∈a2' hs->Q (.int (bB' hs qs f a b)) H->cF' K CS CG CW vs H Q E
theorem jX_{f0 CS CG CW:Addr}{fd:Ad}(F:Fun K "lead" "Sight.lead" sLead f0 fd)(TS:TxtS K CS)(TG:TxtG K CG)(TW:Txt K mg CW)(cS:CalM P w K mg base CW 2 "strength" ["self","hand"] (bj' K CW)):FnOk P w K mg base CX0 3 f0 fd ["self","one","other"] (cF' K CS CG CW):=by
 refine F.ok scLead (λvs H Q E h=>?_) (λcdv A outer s H vs Q E hr h=>?_)
 ·obtain⟨v,g,p,a,b,hs,ts,qs,fp,f,rfl,_⟩:=h;rfl
 ·obtain⟨v,g,p,a,b,hs,ts,qs,fp,f,rfl,S,W,ha,hb,k⟩:=h;have hu:=ba_ hr;refine' ⟨_,a3_ ?s1 (a4_ ?s2),?kk⟩
  case s1=>exact ad_ (i:=3) scLead.nd rfl (Or.inl rfl) (ak_ (ak_ (pv 0) rfl) rfl)
  case s2=>exact a8_ (am_ bM_ (am_ aT_ (aP_ hu (ak_ (pv 0) rfl) (pv 1) (λ_ _=>rfl)) (b2_ cS TW.cl hr (pv 3) (a0_ (pv 2) a2_))) (am_ aT_ (aP_ hu (ak_ (pv 0) rfl) (pv 2) (λ_ _=>rfl)) (b2_ cS TW.cl hr (pv 3) (a0_ (pv 1) a2_))))
  case' kk=>skip
  obtain⟨dx,dl,dv,dp,ad,h1,G,h3,h4,h5,h6⟩:=S.ex;obtain⟨dxg,dw,dy,vs,fpw,g1,g2,_⟩:=id G.ex;obtain⟨dxw,d1,l2,d3,zs0,as,ef,w1,_⟩:=id g2.ex;have hnw:(flds d1 l2 d3).lookup ("strength":Str)=none:=az_ _ _ _ Z0 Z0 Z0;have la:=jm_ W.wq W.h64 f a;have lb:=jm_ W.wq W.h64 f b;refine⟨_,rfl,v,CS,dx,_,_,rfl,h1,TS.cl,TS.nW,sf_g _ _ _ _,g,CG,dxg,_,_,rfl,g1,TG.cl,TG.nW,aJ_ _ _ _,?_⟩;refine setG ?_;dsimp only;refine⟨_,rfl,v,CS,dx,_,_,rfl,h1,TS.cl,TS.nL,sf_l _ _ _ _,_,rfl,dl,_,rfl,dgR h3 ha,_,rfl,p,dxw,_,rfl,w1,hnw,_,rfl,p,b,strOf hs b,hs,ts,fpw,rfl,g2,W.Gd.hnd,aQ_ ((aw_ hs).mem_iff.mp hb),?_⟩;refine⟨_,_,rfl,rfl,.inl ⟨by omega,by omega⟩,?_⟩;refine⟨_,rfl,v,CS,dx,_,_,rfl,h1,TS.cl,TS.nL,sf_l _ _ _ _,_,rfl,dl,_,rfl,dgR h3 hb,_,rfl,p,dxw,_,rfl,w1,hnw,_,rfl,p,a,strOf hs a,hs,ts,fpw,rfl,g2,W.Gd.hnd,aQ_ ((aw_ hs).mem_iff.mp ha),?_⟩;exact⟨_,_,rfl,rfl,.inl ⟨by omega,by omega⟩,_,_,rfl,rfl,k⟩
theorem scJoint:a3' ["self","one","other"] ["self","one","other"] (a1' sJoint):=f__
inductive cO' (K:F__) (CS CG CW:Addr) (vs:List V) (H:Hp) (Q:VK) (E:XK):Prop
 |mk:∀(v g p:Addr) (a b:Str) (hs:Xa) (ts:Xb) (qs:List Pc) (fp:List Addr) (f:Str->Str),vs=[.ref v,.str a,.str b]->bb' K CS CG CW H v g p hs ts qs fp f->Wd hs ts qs f->a∈a2' hs->b∈a2' hs->Q (.int (bo' hs a b)) H->cO' K CS CG CW vs H Q E
theorem iB_{f0 CS CG CW:Addr}{fd:Ad}(F:Fun K "joint_strength" "Sight.joint_strength" sJoint f0 fd)(TS:TxtS K CS)(TG:TxtG K CG)(TW:Txt K mg CW)(cS:CalM P w K mg base CW 2 "strength" ["self","hand"] (bj' K CW)):FnOk P w K mg base CX0 3 f0 fd ["self","one","other"] (cO' K CS CG CW):=by
 refine F.ok scJoint (λvs H Q E h=>?_) (λcdv A outer s H vs Q E hr h=>?_)
 ·obtain⟨v,g,p,a,b,hs,ts,qs,fp,f,rfl,_⟩:=h;rfl
 ·obtain⟨v,g,p,a,b,hs,ts,qs,fp,f,rfl,S,W,ha,hb,k⟩:=h;refine' ⟨_,a4_ ?s2,?kk⟩
  case s2=>exact a8_ (am_ bh_ (b2_ cS TW.cl hr (ak_ (ak_ (pv 0) rfl) rfl) (a0_ (pv 1) a2_)) (b2_ cS TW.cl hr (ak_ (ak_ (pv 0) rfl) rfl) (a0_ (pv 2) a2_)))
  case' kk=>skip
  obtain⟨dx,dl,dv,dp,ad,h1,G,h3,h4,h5,h6⟩:=S.ex;obtain⟨dxg,dw,dy,vs,fpw,g1,g2,_⟩:=id G.ex;obtain⟨dxw,d1,l2,d3,zs0,as,ef,w1,_⟩:=id g2.ex;have hnw:(flds d1 l2 d3).lookup ("strength":Str)=none:=az_ _ _ _ Z0 Z0 Z0;refine⟨_,rfl,v,CS,dx,_,_,rfl,h1,TS.cl,TS.nW,sf_g _ _ _ _,g,CG,dxg,_,_,rfl,g1,TG.cl,TG.nW,aJ_ _ _ _,p,dxw,_,rfl,w1,hnw,_,rfl,p,a,strOf hs a,hs,ts,fpw,rfl,g2,W.Gd.hnd,aQ_ ((aw_ hs).mem_iff.mp ha),?_⟩;refine⟨_,rfl,v,CS,dx,_,_,rfl,h1,TS.cl,TS.nW,sf_g _ _ _ _,g,CG,dxg,_,_,rfl,g1,TG.cl,TG.nW,aJ_ _ _ _,p,dxw,_,rfl,w1,hnw,_,rfl,p,b,strOf hs b,hs,ts,fpw,rfl,g2,W.Gd.hnd,aQ_ ((aw_ hs).mem_iff.mp hb),?_⟩;exact⟨_,_,rfl,rfl,k⟩
end
theorem aX_(a b:Str):decide (V.str a=V.str b)=decide (a=b):=by
 by_cases z:a=b
 ·simp[z]
 ·have:¬(V.str a=V.str b):=λe=>z (V.str.inj e);simp[z,this]
abbrev nb(hs:Xa)(ts:Xb)(h:Str):List Str:=near (a2' hs) (tsOf ts) h
def kR(hs:Xa)(qs:List Pc)(f:Str->Str)(n:Str):List Key:=[.inl (lvF hs qs f n),.inr n]
def risL(hs:Xa)(ts:Xb)(qs:List Pc)(f:Str->Str)(h:Str):List Str:=(sortKs ((nb hs ts h).map (kR hs qs f))).map sndK
def kfR(hs:Xa)(qs:List Pc)(f:Str->Str):V->List Key
 |.str n=>kR hs qs f n
 |_=>[]
theorem kK_{hs:Xa}{ts:Xb}{qs:List Pc}{f:Str->Str}{h:Str}(p:zs.Perm ((nb hs ts h).map V.str))(e:zs.map (kfR hs qs f)=sortKs (((nb hs ts h).map V.str).map (kfR hs qs f))):zs=(risL hs ts qs f h).map V.str:=by
 obtain⟨ms,rfl,_⟩:=e9_ p;have e1:(ms.map V.str).map (kfR hs qs f)=ms.map (kR hs qs f):=by rw[ak'];rfl
 have e2:((nb hs ts h).map V.str).map (kfR hs qs f)=(nb hs ts h).map (kR hs qs f):=by
  rw[ak'];rfl
 rw[e1,e2] at e
 have em:(ms.map (kR hs qs f)).map sndK=ms:=by
  rw[ak'];exact List.map_id' ms
 unfold risL;rw[<- e,em]
theorem cK_(hs:Xa)(ts:Xb)(qs:List Pc)(f:Str->Str)(h:Str):(risL hs ts qs f h).Perm (nb hs ts h):=by
 unfold risL;have p:=(ao_ ((nb hs ts h).map (kR hs qs f))).map sndK
 have e:((nb hs ts h).map (kR hs qs f)).map sndK=nb hs ts h:=by
  rw[ak'];exact List.map_id' _
 rw[e] at p;exact p
theorem fD_{hs:Xa}{ts:Xb}{h n:Str}(m:n∈nb hs ts h):n∈a2' hs:=(List.mem_filter.mp m).1
theorem d6_(hs:Xa)(ts:Xb)(h:Str):(nb hs ts h).length<=(a2' hs).length:=aW' ..
abbrev qRN:Str:="Sight.rising_neighbours.<locals>.<lambda>"
def lamR:Expr:=kwE (retE (nthS (a7' cw') 0))
abbrev fvR:List Str:=["self"]
theorem freeR:∀y∈(lamS lamR).names,y.2=.free->y.1∈fvR:=by decide +kernel
theorem scLamR:bX' ["other"] fvR (lamS lamR):=⟨by decide +kernel,rfl,rfl,rfl,by decide +kernel,by decide +kernel,λx h=>freeR (x,.free) (b_3 h) rfl,by decide +kernel⟩
section
variable{P:Ae}{w:Af}{K:F__}{mg:Str->Option Aa}{base:Heap}
inductive spLamRI (K:F__) (CS CG CW:Addr) (vs:List V) (gs:List V) (H:Hp) (Q:VK):Prop
 |mk:∀(v g p:Addr) (n:Str) (hs:Xa) (ts:Xb) (qs:List Pc) (fp:List Addr) (f:Str->Str),vs=[.str n]->gs=[.ref v]->bb' K CS CG CW H v g p hs ts qs fp f->n∈a2' hs->(∀t,H t=none->Q (.ref t) (upd H t (.tup [.int (lvF hs qs f n),.str n])))->spLamRI K CS CG CW vs gs H Q
def spLamR(K:F__)(CS CG CW:Addr):List V->List V->Hp->VK->XK->Prop:=λvs gs H Q _=>spLamRI K CS CG CW vs gs H Q
theorem jZ_{CS CG CW:Addr}(TS:TxtS K CS):LamOk P w K mg base 1 qRN (lamA lamR) (lamB lamR) (lamS lamR) ["other"] fvR (spLamR K CS CG CW):=by
 refine lamOk scLamR (λpm c' ctv cl us hl=>?_) (λA outer s H f0 cd cl vs gs Q E hr h hp=>?_)
 ·match us,hl with
  |[_],_=>rfl
 ·obtain⟨v,g,p,n,hs,ts,qs,fp,f,rfl,rfl,S,hn,k⟩:=h;have hu:=ba_ hr;obtain⟨dx,dl,dv,dp,ad,h1,G,h3,h4,h5,h6⟩:=S.ex;refine⟨_,aR_ (a0_ (aP_ hu (ak_ (pv 1) rfl) (pv 0) (λ_ _=>rfl)) (a0_ (pv 0) a2_)),?_⟩;exact⟨_,rfl,v,CS,dx,_,_,rfl,h1,TS.cl,TS.nV,sf_v _ _ _ _,_,rfl,dv,_,rfl,dgR h4 hn,_,rfl,by show 2<=sizeLine;decide,λt ht=>k t ht⟩
def clR(L:Addr):List (Str × Addr):=[("self",L+1)]
theorem cloR{L f:Addr}{cd:Aa}:closureFor (lamS lamR) (PyProof.Rows.envOfC "Sight.rising_neighbours" (a1' cw') L f cd)=pure (clR L):=by rfl
theorem celR{L f:Addr}{cd:Aa}:∀q∈clR L,(PyProof.Rows.envOfC "Sight.rising_neighbours" (a1' cw') L f cd).cells.lookup q.1=some q.2:=by
 intro q hq;simp only[clR,al',List.not_mem_nil,or_false] at hq;rcases hq with rfl;rfl
theorem lclR{L:Addr}:∀x∈fvR,∃c,(clR L).lookup x=some c:=by
 intro x hx;simp only[fvR,al',List.not_mem_nil,or_false] at hx;rcases hx with rfl;exact⟨_,rfl⟩
theorem lkdR:∀x∈fvR,(a1' cw').names.lookup x=some .cell:=by decide +kernel
theorem scRisN:a3' ["self","hand"] ["self","hand"] (a1' cw'):=f__
inductive dl' (K:F__) (CS CG CW T:Addr) (vs:List V) (H:Hp) (Q:VK) (E:XK):Prop
 |mk:∀(v g p:Addr) (h:Str) (hs:Xa) (ts:Xb) (qs:List Pc) (fp:List Addr) (f:Str->Str),vs=[.ref v,.str h]->bb' K CS CG CW H v g p hs ts qs fp f->Wd hs ts qs f->h∈a2' hs->a8' H T qRN->(∀l H',But T H H'->a8' H' T qRN->H l=none->H' l=some (.lst ((risL hs ts qs f h).map V.str))->Q (.ref l) H')->dl' K CS CG CW T vs H Q E
theorem jC_{f0 c0 CS CG CW T:Addr}{fd:Ad}(F:FunC K "rising_neighbours" "Sight.rising_neighbours" cw' f0 c0 fd)(B:Bi mg)(TS:TxtS K CS)(TG:TxtG K CG)(TW:Txt K mg CW)(hC:PySem.W.CodeHd base c0 T)(hbm:base.BuiltinsAt mg T)(cN:CalM P w K mg base CW 2 "neighbours" ["self","hand"] (cQ' K CW)) :
  FnOk P w K mg base CX0 4 f0 fd ["self","hand"] (dl' K CS CG CW T):=by
 refine F.ok scRisN (λvs H Q E h=>?_) (λA outer s H vs Q E hr h=>?_)
 ·obtain⟨v,g,p,h,hs,ts,qs,fp,f,rfl,_⟩:=h;rfl
 ·obtain⟨v,g,p,h,hs,ts,qs,fp,f,rfl,S,W,hh,tab,k⟩:=h;have hr2:Room 2 _:=hr.mono (by decide);refine' ⟨_,a4_ (a8_ ?l2),?kk⟩
  case l2=>exact f7_ (px:="other") (fvs:=fvR) (cl:=clR s.heap.objs.size) (is:=[0]) (k:=1) rfl (by rfl) B.sorted (a0_ (b2_ cN TW.cl hr2 (ak_ (ak_ (pv 0) rfl) rfl) (a0_ (pv 1) a2_)) a2_) (em_ (iJ_ (P:=T) (c:=c0) rfl cloR rfl hC hbm) gk_) (jZ_ (CG:=CG) (CW:=CW) TS) hr celR lclR lkdR rfl
  case' kk=>skip
  obtain⟨dx,dl,dv,dp,ad,h1,G,h3,h4,h5,h6⟩:=S.ex;obtain⟨dxg,dw,dy,vs,fpw,g1,g2,_⟩:=id G.ex;obtain⟨dxw,d1,l2,d3,zs0,as,ef,w1,_⟩:=id g2.ex;have hnw:(flds d1 l2 d3).lookup ("neighbours":Str)=none:=az_ _ _ _ Z0 Z0 Z0;refine⟨_,rfl,v,CS,dx,_,_,rfl,h1,TS.cl,TS.nW,sf_g _ _ _ _,g,CG,dxg,_,_,rfl,g1,TG.cl,TG.nW,aJ_ _ _ _,p,dxw,_,rfl,w1,hnw,_,rfl,p,h,hs,ts,fpw,rfl,g2,W.Gd.nnd,(aw_ hs).mem_iff.mp hh,λln nn=>?_⟩;obtain⟨s1,e1⟩:=nw__ (o:=.lst ((nb hs ts h).map V.str)) nn;show tNil _ (upd H ln (.lst ((nb hs ts h).map V.str))) _;generalize upd H ln (.lst ((nb hs ts h).map V.str))=H1 at s1 e1 ⊢;refine nilG (consG ?_);refine iN_ (tab.same s1) rfl rfl rfl rfl λfl c' H4 b4 tab4 hfl hc'=>?_;obtain⟨tv,hT⟩:=aS_ tab;have nt4:NT H1 H4:=b4.nt (s1 _ _ hT);have S4:=(S.same s1).nt nt4;have n8:(nb hs ts h).length<=8:=by have:=d6_ hs ts h;have:=W.Gd.nlen;have:=W.Gd.h8;omega
  refine⟨.ref ln,fl,c',(nb hs ts h).map V.str,kfR hs qs f,[false,true],[.ref v],rfl,rfl,hfl,hc',.inl ⟨ln,rfl,.of (nt4.lst e1)⟩,by rw[aa'];omega,⟨by decide,λk hk=>?_⟩,rfl,λH' x sm hx=>?_,λl zs H5 s5 nl nl4 pz ek=>?_⟩
  ·obtain⟨v,hv,rfl⟩:=af'.mp hk;obtain⟨n,_,rfl⟩:=af'.mp hv;rfl
  ·obtain⟨n,hn,rfl⟩:=af'.mp hx;refine⟨v,g,p,n,hs,ts,qs,fp,f,rfl,rfl,S4.same sm,fD_ hn,λt nt=>⟨Same.new nt,t,rfl,?_⟩⟩;rw[a1_];rfl
  rw[kK_ pz ek];have s6:Same H4 (upd H5 l (.lst ((risL hs ts qs f h).map V.str))):=s5.trans (Same.new nl);refine k l _ (λb o e n=>s6 _ _ (b4 _ _ (s1 _ _ e) n)) (tab4.same s6) ?_ a1_;cases z:H l with
  |none=>rfl
  |some o=>
   by_cases y:l=T
   ·obtain⟨es,e,_⟩:=tab4;rw[y,e] at nl4;cases nl4
   ·rw[b4 _ _ (s1 _ _ z) y] at nl4;cases nl4
theorem scFits:a3' ["guard","lead","burden"] ["guard","lead","burden"] (a1' sFits):=f__
def fitB(g:Str)(a b:Int):Bool:=if g="high" then decide (0<a) else if g="fall" then decide (b<2 * a) else decide (b<=a)
def spFits:Sp:=λvs H Q _=>∃(g:Str) (a b:Int),vs=[.str g,.int a,.int b]/\Q (.bl (fitB g a b)) H
theorem k4_{f0:Addr}{fd:Ad}(F:Fun K "fits" "fits" sFits f0 fd):FnOk P w K mg base CX0 1 f0 fd ["guard","lead","burden"] spFits:=by
 refine F.ok scFits (λvs H Q E h=>?_) (λcdv A outer s H vs Q E hr h=>?_)
 ·obtain⟨g,a,b,rfl,_⟩:=h;rfl
 ·obtain⟨g,a,b,rfl,k⟩:=h;refine' ⟨_,a3_ ?s1 (a3_ ?s2 (a4_ ?s3)),?kk⟩
  case s1=>exact al_ (ae_ b9_ (pv 0) ag_ (nomark _)) (a4_ (a8_ (aI_ eh_ (pv 1) a6_ (nomark _)))) a9_
  case s2=>exact al_ (ae_ b9_ (pv 0) ag_ (nomark _)) (a4_ (a8_ (aI_ eh_ (am_ aT_ a6_ (pv 1)) (pv 2) (nomark _)))) a9_
  case s3=>exact a8_ (aI_ kt_ (pv 1) (pv 2) (nomark _))
  case' kk=>skip
  unfold fitB at k;refine⟨_,rfl,rfl,_,rfl,?_⟩;rw[aX_];refine ite2 (λc=>?_) (λc=>?_)
  ·have c:g="high":=of_decide_eq_true c;rw[a_9 c] at k;exact⟨_,rfl,_,_,rfl,rfl,k⟩
  ·have c:¬g="high":=λz=>c (a_2 z);rw[a_4 c] at k;refine⟨_,rfl,rfl,_,rfl,?_⟩;rw[aX_];refine ite2 (λc=>?_) (λc=>?_)
   ·have c:g="fall":=of_decide_eq_true c;rw[a_9 c] at k;exact⟨_,rfl,_,_,rfl,rfl,.inl ⟨by decide,by decide⟩,_,rfl,_,_,rfl,rfl,k⟩
   ·have c:¬g="fall":=λz=>c (a_2 z);rw[a_4 c] at k;exact⟨_,rfl,_,rfl,_,_,rfl,rfl,k⟩
end
abbrev Mv:=Str × Str × Str
def kM(m:Mv):List Key:=[.inr m.1,.inr m.2.1,.inr m.2.2]
def wyN(qs:List Pc)(n:Str):Option (Xb):=match qs.find? λq=>decide (q.1=n) with
 |some q=>q.2.2
 |none=>none
theorem kl_{qs:List Pc}(nd:(qs.map (·.1)).Nodup){q:Pc}(h:q∈qs):wyN qs q.1=q.2.2:=by
 unfold wyN;cases e:qs.find? λp=>decide (p.1=q.1) with
 |none=>
  have:=List.find?_eq_none.mp e q h;simp at this
 |some p=>
  have a:=List.mem_of_find?_eq_some e;have b:=List.find?_some e;have b:p.1=q.1:=of_decide_eq_true b;rw[cL_ nd a h b]
def mayN(hs:Xa)(ts:Xb)(qs:List Pc)(n a b:Str):Bool:=goB hs ts (wyN qs n) (some a) (some b)
def hmP(hs:Xa)(ts:Xb)(qs:List Pc)(f:Str->Str)(gd:Str)(gv:List Str)(a b n:Str):Bool:=!decide (n∈gv)&&(fitB gd (bB' hs qs f a b) (wtN qs n * bo' hs a b)&&mayN hs ts qs n a b)
def hmv(hs:Xa)(ts:Xb)(qs:List Pc)(f:Str->Str)(gd:Str)(gv:List Str)(a b:Str):List Mv:=match (hvAt qs f a).find? (hmP hs ts qs f gd gv a b) with
 |some n=>[(n,a,b)]
 |none=>[]
theorem h5_{α:Type}{p:α->Bool}:∀{l:List α} {i:Nat} {x:α},l[i]? = some x->p x=true->(∀y∈l.take i,p y=false)->l.find? p=some x
 |a::l,0,x,h,hp,_=>by
  cases h;rw[List.find?_cons_of_pos hp]
 |a::l,i+1,x,h,hp,hn=>by
  have na:¬p a=true:=by rw[hn a Z2];decide
  rw[List.find?_cons_of_neg na];exact h5_ (by simpa using h) hp λy hy=>hn y (by simp[hy])
 |[],i,x,h,_,_=>by simp at h
theorem eI_{qs:List Pc}{f:Str->Str}{h n:Str}(m:n∈hvAt qs f h):n∈qs.map (·.1)/\f n=h:=by
 obtain⟨a,b⟩:=List.mem_filter.mp m;exact⟨(ch_ qs).mem_iff.mp a,of_decide_eq_true b⟩
section
variable{P:Ae}{w:Af}{K:F__}{mg:Str->Option Aa}{base:Heap}
theorem scHvM:a3' ["sight","one","other","guard","given","lead","joint","piece"] ["sight","one","other","guard","given"] (a1' sHvM):=f__
inductive spHvM (K:F__) (CS CG CW:Addr) (vs:List V) (H:Hp) (Q:VK) (E:XK):Prop
 |mk:∀(v g p lg:Addr) (a b gd:Str) (gv:List Str) (hs:Xa) (ts:Xb) (qs:List Pc) (fp:List Addr) (f:Str->Str),vs=[.ref v,.str a,.str b,.str gd,.ref lg]->bb' K CS CG CW H v g p hs ts qs fp f->Wd hs ts qs f->a∈a2' hs->b∈a2' hs->H lg=some (.lst (gv.map V.str))->(∀l ys H',Same H H'->H l=none->H' l=some (.lst ys)->a4' K H' ys ((hmv hs ts qs f gd gv a b).map kM)->Q (.ref l) H')->spHvM K CS CG CW vs H Q E
theorem kB_{f0 CS CG CW CP:Addr}{fd:Ad}(F:Fun K "heaviest_move" "heaviest_move" sHvM f0 fd)(TS:TxtS K CS)(TG:TxtG K CG)(cL:CalM P w K mg base CS 3 "lead" ["self","one","other"] (cF' K CS CG CW))(cJ:CalM P w K mg base CS 3 "joint_strength" ["self","one","other"] (cO' K CS CG CW))(cF:Cal P w K mg base 1 "fits" ["guard","lead","burden"] spFits)(cW:CalX P w K mg base CG 2 "weight" ["self","piece"] (bg' K CG CW CP))(cM:CalX P w K mg base CG 3 "may_go" ["self","piece","one","other"] (ea' K CG CW CP)) :
  FnOk P w K mg base CX0 4 f0 fd ["sight","one","other","guard","given"] (spHvM K CS CG CW):=by
 refine F.ok scHvM (λvs H Q E h=>?_) (λcdv A outer s H vs Q E hr h=>?_)
 ·obtain⟨v,g,p,lg,a,b,gd,gv,hs,ts,qs,fp,f,rfl,_⟩:=h;rfl
 ·obtain⟨v,g,p,lg,a,b,gd,gv,hs,ts,qs,fp,f,rfl,S,W,ha,hb,hg,k⟩:=h;have hu:=ba_ hr;have sz:=b__;have hr1:Room 1 _:=hr.mono (by decide);have hr2:Room 2 _:=hr.mono (by decide);refine' ⟨_,?r0,?kk⟩
  case' r0=>refine' a3_ ?s1 ?r1
  case' r1=>refine' a3_ ?s2 ?r2
  case' r2=>refine' a3_ ?s3 (a4_ ?s4)
  case s1=>exact ad_ (i:=5) scHvM.nd rfl (Or.inl rfl) (b2_ cL TS.cl hr (pv 0) (a0_ (pv 1) (a0_ (pv 2) a2_)))
  case s2=>exact ad_ (i:=6) scHvM.nd rfl (Or.inl rfl) (b2_ cJ TS.cl hr (pv 0) (a0_ (pv 1) (a0_ (pv 2) a2_)))
  case' s3=>refine' aV_ b_1 rfl (aj_ (aP_ hu (ak_ (pv 0) rfl) (pv 1) (λ_ _=>rfl))) (ac_ (i:=7) scHvM.nd rfl (Or.inl rfl)) (a4_ ?b3)
  case' b3=>refine' al_ (PW.pt (ec_ ?c1 (dw_ ?c2))) (a4_ ?b4) a9_
  case c1=>exact ae_ (ej_ cmpS (bG' hr 0)) (pv 7) (pv 4) (by with_unfolding_all rfl)
  case c2=>exact ay_ (af_ cF hr1 (a0_ (pv 3) (a0_ (pv 5) (a0_ (am_ aT_ (di_ cW TG.cl hr2 (ak_ (pv 0) rfl) (a0_ (pv 7) a2_)) (pv 6)) a2_))))
  case b4=>exact al_ (ay_ (di_ cM TG.cl hr (ak_ (pv 0) rfl) (a0_ (pv 7) (a0_ (pv 1) (a0_ (pv 2) a2_))))) (a4_ (a8_ (ax_ (a0_ (aR_ (a0_ (pv 7) (a0_ (pv 1) (a0_ (pv 2) a2_)))) a2_)))) a9_
  case s4=>exact a8_ (ax_ a2_)
  case' kk=>skip
  obtain⟨dx,dl,dv,dp,ad,h1,G,h3,h4,h5,h6⟩:=S.ex;have no:∀{m:Str},¬m="wares"->¬m="load_by_hand"->¬m="level_by_hand"->¬m="pieces_by_hand"->(sflds g dl dv dp).lookup m=none:=λa b c d=>fP_ _ _ _ _ a b c d;refine⟨_,rfl,v,dx,_,rfl,h1,no Z0 Z0 Z0 Z0,_,rfl,_,rfl,v,g,p,a,b,hs,ts,qs,fp,f,rfl,S,W,ha,hb,?_⟩;refine setG ?_;dsimp only;refine⟨_,rfl,v,dx,_,rfl,h1,no Z0 Z0 Z0 Z0,_,rfl,_,rfl,v,g,p,a,b,hs,ts,qs,fp,f,rfl,S,W,ha,hb,?_⟩;refine setG ?_;dsimp only;have hl:=h6 a ha;refine⟨_,rfl,v,CS,dx,_,_,rfl,h1,TS.cl,TS.nP,sf_p _ _ _ _,_,rfl,dp,_,rfl,dgR h5 ha,ad a,rfl,⟨_,.of hl⟩,aH_ (K:=K) (a:=ad a) (xs:=(hvAt qs f a).map V.str) (λi σ H'=>∃v7:Option V,σ=[some (.ref v),some (.str a),some (.str b),some (.str gd),some (.ref lg),some (.int (bB' hs qs f a b)),some (.int (bo' hs a b)),v7]/\Same H H'/\∀n∈(hvAt qs f a).take i,hmP hs ts qs f gd gv a b n=false) ⟨none,rfl,Same.refl H,by simp⟩ (λi σ H' _ ⟨_,_,sm,_⟩=>.of (sm _ _ hl)) ?_ ?_⟩
  ·rintro i x σ H' hx ⟨v7,rfl,sm,nf⟩;obtain⟨n,hn,rfl⟩:=ai_ hx;obtain⟨nm,fn⟩:=eI_ (ae' hn);obtain⟨q,hq,rfl⟩:=af'.mp nm;have G':=G.same sm;have h1':=sm _ _ h1;obtain⟨dxg,dw,dy,vs,fpw,g1,g2,_⟩:=id G'.ex;have hwt:(gflds p dw dy).lookup ("weight":Str)=none:=aE_ _ _ _ Z0 Z0 Z0;have hmy:(gflds p dw dy).lookup ("may_go":Str)=none:=aE_ _ _ _ Z0 Z0 Z0;have wq:=W.wq q hq;have ew:=hL_ W.nd hq;have ey:=kl_ W.nd hq
   have go:∀{H2:Hp},Same H' H2->hmP hs ts qs f gd gv a b q.1=false->∃v7:Option V,[some (V.ref v),some (V.str a),some (V.str b),some (V.str gd),some (V.ref lg),some (V.int (bB' hs qs f a b)),some (V.int (bo' hs a b)),some (V.str q.1)]=[some (V.ref v),some (V.str a),some (V.str b),some (V.str gd),some (V.ref lg),some (V.int (bB' hs qs f a b)),some (V.int (bo' hs a b)),v7]/\Same H H2/\∀n∈(hvAt qs f a).take (i+1),hmP hs ts qs f gd gv a b n=false:=λ{H2} s2 e=>⟨_,rfl,sm.trans s2,λm hm=>by
    rw[b0_ hn] at hm;rcases au'.mp hm with hm|hm
    ·exact nf m hm
    ·rw[aR'.mp hm];exact e⟩
   refine setG ?_;dsimp only;refine⟨_,rfl,_,rfl,q.1,gv,rfl,⟨lg,_,rfl,.of (sm _ _ hg),bn_ gv⟩,_,rfl,?_⟩;rw[a_9 rfl];refine ite2 (λc=>?_) (λc=>?_)
   ·have c:¬q.1∈gv:=by simpa using c
    refine⟨_,rfl,_,rfl,_,rfl,v,CS,dx,_,_,rfl,h1',TS.cl,TS.nW,sf_g _ _ _ _,g,dxg,_,rfl,g1,hwt,_,rfl,g,p,.str q.1,some q.1,hs,ts,qs,fp,rfl,G',W.nd,rfl,.inl ⟨q,hq,rfl,?_⟩⟩;refine⟨_,rfl,_,_,rfl,rfl,.inl ⟨by omega,by omega⟩,gd,bB' hs qs f a b,q.2.1 * bo' hs a b,rfl,_,rfl,?_⟩;refine ite2 (λc2=>?_) (λc2=>?_)
    ·refine⟨_,rfl,v,CS,dx,_,_,rfl,h1',TS.cl,TS.nW,sf_g _ _ _ _,g,dxg,_,rfl,g1,hmy,_,rfl,_,rfl,_,rfl,g,p,.str q.1,.str a,.str b,some q.1,some a,some b,hs,ts,qs,fp,rfl,G',W.nd,W.Gd.nnd,rfl,.inl ⟨q,hq,rfl,rfl,rfl,λH2 s2=>⟨_,rfl,?_⟩⟩⟩;refine ite2 (λc3=>?_) (λc3=>?_)
     ·have pt:hmP hs ts qs f gd gv a b q.1=true:=by
       unfold hmP mayN;rw[ew,ey,c2,a_7 c];simpa using c3
      refine⟨_,rfl,_,rfl,_,rfl,by show 3<=sizeLine;decide,λt nt=>?_⟩;obtain⟨s3,e3⟩:=nw__ (o:=.tup [.str q.1,.str a,.str b]) nt;generalize upd H2 t (.tup [.str q.1,.str a,.str b])=H3 at s3 e3 ⊢;refine⟨by show 1<=sizeLine;decide,λl nl=>?_⟩;have s4:=Same.new (o:=.lst [.ref t]) nl;have s04:=(sm.trans s2).trans s3;refine k l [.ref t] _ (s04.trans s4) (s04.free nl) a1_ ?_;unfold hmv;rw[h5_ hn pt nf];exact .cons ⟨t,rfl,s4 _ _ e3⟩ .nil
     ·refine go s2 ?_;unfold hmP mayN;rw[ew,ey,c2];have c3:goB hs ts q.2.2 (some a) (some b)=false:=by simpa using c3
      rw[c3,Bool.and_false,Bool.and_false]
    ·refine go (Same.refl H') ?_;unfold hmP;rw[ew,show fitB gd (bB' hs qs f a b) (q.2.1 * bo' hs a b)=false by simpa using c2,Bool.false_and,Bool.and_false]
   ·have c:q.1∈gv:=by simpa using c
    refine go (Same.refl H') ?_;unfold hmP;rw[a_2 c];rfl
  ·rintro σ H' ⟨v7,rfl,sm,nf⟩;rw[aa',ao'] at nf;refine⟨by show 0<=sizeLine;decide,λl nl=>?_⟩;refine k l [] _ (sm.trans (Same.new nl)) (sm.free nl) a1_ ?_;unfold hmv;rw[List.find?_eq_none.mpr λn hn=>by rw[nf n hn];decide];exact .nil
def bP'(hs:Xa)(ts:Xb)(qs:List Pc)(f:Str->Str)(gd h:Str):List Mv:=match risL hs ts qs f h with
 |[]=>[]
 |o::_=>hmv hs ts qs f gd [] h o
theorem di':a3' ["sight","hand","guard","around"] ["sight","hand","guard"] (a1' cX'):=f__
inductive spWay (K:F__) (CS CG CW T:Addr) (mv:Xa->Xb->List Pc->(Str->Str)->Str->Str->List Mv) (vs:List V) (H:Hp) (Q:VK) (E:XK):Prop
 |mk:∀(v g p:Addr) (h gd:Str) (hs:Xa) (ts:Xb) (qs:List Pc) (fp:List Addr) (f:Str->Str),vs=[.ref v,.str h,.str gd]->bb' K CS CG CW H v g p hs ts qs fp f->Wd hs ts qs f->h∈a2' hs->a8' H T qRN->(∀l ys H',But T H H'->a8' H' T qRN->H l=none->H' l=some (.lst ys)->a4' K H' ys ((mv hs ts qs f gd h).map kM)->Q (.ref l) H')->spWay K CS CG CW T mv vs H Q E
theorem But.new{T l:Addr}{H G:Hp}(b:But T H G)(hT:∃vs,G T=some (.tbl vs))(n:G l=none):H l=none:=by
 cases z:H l with
 |none=>rfl
 |some o=>
  by_cases y:l=T
  ·obtain⟨vs,e⟩:=hT;rw[y,e] at n;cases n
  ·rw[b _ _ z y] at n;cases n
theorem fO_{f0 CS CG CW T:Addr}{fd:Ad}(F:Fun K "moves_by_least" "moves_by_least" cX' f0 fd)(TS:TxtS K CS)(cR:CalM P w K mg base CS 4 "rising_neighbours" ["self","hand"] (dl' K CS CG CW T))(cH:Cal P w K mg base 4 "heaviest_move" ["sight","one","other","guard","given"] (spHvM K CS CG CW)):FnOk P w K mg base CX0 5 f0 fd ["sight","hand","guard"] (spWay K CS CG CW T bP'):=by
 refine F.ok di' (λvs H Q E h=>?_) (λcdv A outer s H vs Q E hr h=>?_)
 ·obtain⟨v,g,p,h,gd,hs,ts,qs,fp,f,rfl,_⟩:=h;rfl
 ·obtain⟨v,g,p,h,gd,hs,ts,qs,fp,f,rfl,S,W,hh,tab,k⟩:=h;refine' ⟨_,a3_ ?s1 (a3_ ?s2 (a4_ ?s3)),?kk⟩
  case s1=>exact ad_ (i:=3) di'.nd rfl (Or.inl rfl) (b2_ cR TS.cl hr (pv 0) (a0_ (pv 1) a2_))
  case s2=>exact al_ (ae_ (j2_ cmpS (bG' hr 0)) (pv 3) (ax_ a2_) (nomark _)) (a4_ (a8_ (ax_ a2_))) a9_
  case s3=>exact a8_ (af_ cH hr (a0_ (pv 0) (a0_ (pv 1) (a0_ (au_ b6_ (pv 3) a6_ (λ_ _=>rfl)) (a0_ (pv 2) (a0_ (ax_ a2_) a2_))))))
  case' kk=>skip
  obtain⟨dx,dl,dv,dp,ad,h1,G,h3,h4,h5,h6⟩:=S.ex;refine⟨_,rfl,v,dx,_,rfl,h1,fP_ _ _ _ _ Z0 Z0 Z0 Z0,_,rfl,v,g,p,h,hs,ts,qs,fp,f,rfl,S,W,hh,tab,λl1 H1 b1 tab1 n1 e1=>?_⟩;refine setG ?_;dsimp only;obtain⟨tv,hT⟩:=aS_ tab;have S1:=S.nt (b1.nt hT);refine⟨_,rfl,by show 0<=sizeLine;decide,λl2 n2=>?_⟩;obtain⟨s2,e2⟩:=nw__ (o:=.lst []) n2;generalize upd H1 l2 (.lst [])=H2 at s2 e2 ⊢;have e12:=s2 _ _ e1;have b2:But T H H2:=λb o e n=>s2 _ _ (b1 _ _ e n);have tab2:=tab1.same s2;have per:=cK_ hs ts qs f h;refine⟨risL hs ts qs f h,[],dS_ e12,dS_ e2,_,rfl,?_⟩;cases z:risL hs ts qs f h with
  |nil=>
   refine iteT ⟨by show 0<=sizeLine;decide,λl3 n3=>?_⟩;have s3:=Same.new (o:=.lst []) n3;refine k l3 [] _ (λb o e n=>s3 _ _ (b2 _ _ e n)) (tab2.same s3) (But.new b2 (aS_ tab2) n3) a1_ ?_;unfold bP';rw[z];exact .nil
  |cons o r=>
   rw[a_7 Z2];refine iteF ?_;rw[z] at e12 per;have ob:o∈a2' hs:=fD_ (per.mem_iff.mp ag');refine⟨_,rfl,_,rfl,_,rfl,l1,_,0,.str o,rfl,rfl,.of e12,L2.bz' (j:=0) rfl,_,rfl,by show 0<=sizeLine;decide,λl3 n3=>?_⟩;obtain⟨s3,e3⟩:=nw__ (o:=.lst []) n3;generalize upd H2 l3 (.lst [])=H3 at s3 e3 ⊢;refine⟨v,g,p,l3,h,o,gd,[],hs,ts,qs,fp,f,rfl,(S1.same s2).same s3,W,hh,ob,e3,λl ys H4 s4 nl hl tu=>?_⟩;have s34:=s3.trans s4;refine k l ys H4 (λb o e n=>s34 _ _ (b2 _ _ e n)) (tab2.same s34) (But.new b2 (aS_ tab2) (s3.free nl)) hl ?_;unfold bP';rw[z];exact tu
end
abbrev MvR:=Rl->Xa->Xb->List Pc->(Str->Str)->Str->List Mv
def dk'(mv:MvR)(r:Rl)(hs:Xa)(ts:Xb)(qs:List Pc)(f:Str->Str):List Mv:=if r.2.2.1="one" then ((a2' hs).flatMap (mv r hs ts qs f)).take 1 else (a2' hs).flatMap (mv r hs ts qs f)
def b8':MvR:=λr hs ts qs f h=>bP' hs ts qs f (r.2.2.2.getD "") h
theorem bG_(hs:Xa)(ts:Xb)(qs:List Pc)(f:Str->Str)(gd:Str)(gv:List Str)(a b:Str):(hmv hs ts qs f gd gv a b).length<=1:=by
 unfold hmv;split
 ·exact ai' 1
 ·exact aD' 1
theorem hc_(r:Rl)(hs:Xa)(ts:Xb)(qs:List Pc)(f:Str->Str)(h:Str):(b8' r hs ts qs f h).length<=1:=by
 unfold b8' bP';split
 ·exact aD' 1
 ·exact bG_ ..
theorem cE_{α β:Type}{F:α->β->Prop}:∀{ys:List α} {ks:List β} (n:Nat),Paired F ys ks->Paired F (ys.take n) (ks.take n)
 |_,_,0,_=>.nil
 |_,_,_+1,.nil=>.nil
 |_,_,n+1,.cons h t=>.cons h (cE_ n t)
theorem eM_{α:Type}{g:Str->List α}{n:Nat}(h:∀x,(g x).length<=n):∀l:List Str,(l.flatMap g).length<=n * l.length
 |[]=>by simp
 |a::l=>by
  have:=h a;have ih:=eM_ h l;rw[List.flatMap_cons,ar',az',Nat.mul_succ];omega
section
variable{P:Ae}{w:Af}{K:F__}{mg:Str->Option Aa}{base:Heap}
theorem cZ':a3' ["sight","hand","words"] ["sight","hand","words"] (a1' co'):=f__
inductive bI' (K:F__) (CS CG CW T:Addr) (pr:Rl->Prop) (mv:MvR) (vs:List V) (H:Hp) (Q:VK) (E:XK):Prop
 |mk:∀(v g p aw:Addr) (h:Str) (hs:Xa) (ts:Xb) (qs:List Pc) (fp:List Addr) (f:Str->Str),∀r∈rl,vs=[.ref v,.str h,.ref aw]->pr r->(∀H',SqT K H' aw [.str r.2.1,.str r.2.2.1,optV r.2.2.2])->bb' K CS CG CW H v g p hs ts qs fp f->Wd hs ts qs f->h∈a2' hs->a8' H T qRN->(∀l ys H',But T H H'->a8' H' T qRN->H l=none->H' l=some (.lst ys)->a4' K H' ys ((mv r hs ts qs f h).map kM)->Q (.ref l) H')->bI' K CS CG CW T pr mv vs H Q E
theorem fA_{f0 CS CG CW T:Addr}{fd:Ad}(F:Fun K "moves_from" "moves_from" co' f0 fd)(cL:Cal P w K mg base 5 "moves_by_least" ["sight","hand","guard"] (spWay K CS CG CW T bP')):FnOk P w K mg base CX0 6 f0 fd ["sight","hand","words"] (bI' K CS CG CW T (λr=>r.2.1="least") b8'):=by
 refine F.ok cZ' (λvs H Q E h=>?_) (λcdv A outer s H vs Q E hr h=>?_)
 ·obtain⟨v,g,p,aw,h,hs,ts,qs,fp,f,r,hr,rfl,_⟩:=h;rfl
 ·obtain⟨v,g,p,aw,h,hs,ts,qs,fp,f,r,hr',rfl,le,ha,S,W,hh,tab,k⟩:=h;refine' ⟨_,a3_ ?s1 ah_,?kk⟩
  case s1=>exact al_ (ae_ b9_ (au_ ap_ (pv 2) a6_ (λ_ _=>rfl)) ag_ (nomark _)) (a4_ (a8_ (af_ cL hr (a0_ (pv 0) (a0_ (pv 1) (a0_ (au_ ap_ (pv 2) a6_ (λ_ _=>rfl)) a2_)))))) a9_
  case' kk=>skip
  have so:=eq_ r hr' (by rw[le];decide +kernel);obtain⟨gd,eg⟩:=aG'.mp so;refine⟨_,rfl,aw,_,_,_,rfl,rfl,ha _,rfl,rfl,_,rfl,?_⟩;rw[aX_,a_2 le];refine iteT ?_;refine⟨_,rfl,_,rfl,_,rfl,aw,_,_,.str gd,rfl,rfl,ha _,?_,v,g,p,h,gd,hs,ts,qs,fp,f,rfl,S,W,hh,tab,λl ys H' b t n e tu=>k l ys H' b t n e ?_⟩
  ·rw[eg];rfl
  ·unfold b8';rw[eg];exact tu
theorem d4':a3' ["sight","rule","moment","words","moves","hand"] ["sight","rule","moment"] (a1' sSeen):=f__
inductive spSeen (K:F__) (CS CG CW T:Addr) (pr:Rl->Prop) (mv:MvR) (vs:List V) (H:Hp) (Q:VK) (E:XK):Prop
 |mk:∀(v g p:Addr) (m:Int) (hs:Xa) (ts:Xb) (qs:List Pc) (fp:List Addr) (f:Str->Str),∀r∈rl,vs=[.ref v,.str r.1,.int m]->pr r->bb' K CS CG CW H v g p hs ts qs fp f->Wd hs ts qs f->a8' H T qRN->(∀l ys H',But T H H'->a8' H' T qRN->H l=none->H' l=some (.lst ys)->a4' K H' ys ((dk' mv r hs ts qs f).map kM)->Q (.ref l) H')->spSeen K CS CG CW T pr mv vs H Q E
theorem jP_{f0 CS CG CW T:Addr}{fd:Ad}{pr:Rl->Prop}{mv:MvR}(F:Fun K "moves_seen" "moves_seen" sSeen f0 fd)(TS:TxtS K CS)(TG:TxtG K CG)(TW:Txt K mg CW)(npr:∀r,pr r->r.2.1≠"turns")(hb:∀r hs ts qs f h,Wd hs ts qs f->(mv r hs ts qs f h).length<=1000)(cWo:Cal P w K mg base 2 "checked_words" ["rule"] (bL' K))(cH:CalM P w K mg base CW 1 "hands" ["self"] (bO' K CW))(cF:Cal P w K mg base 6 "moves_from" ["sight","hand","words"] (bI' K CS CG CW T pr mv)) :
  FnOk P w K mg base CX0 7 f0 fd ["sight","rule","moment"] (spSeen K CS CG CW T pr mv):=by
 refine F.ok d4' (λvs H Q E h=>?_) (λcdv A outer s H vs Q E hr h=>?_)
 ·obtain⟨v,g,p,m,hs,ts,qs,fp,f,r,hr,rfl,_⟩:=h;rfl
 ·obtain⟨v,g,p,m,hs,ts,qs,fp,f,r,hr',rfl,hp,S,W,tab,k⟩:=h;have sz:=b__;have hr1:Room 1 _:=hr.mono (by decide);have hr2:Room 2 _:=hr.mono (by decide);refine' ⟨_,?r0,?kk⟩
  case' r0=>refine' a3_ ?s1 ?r1
  case' r1=>refine' a3_ ?s2 ?r2
  case' r2=>refine' a3_ ?s3 ?r3
  case' r3=>refine' a3_ ?s4 (a4_ ?s5)
  case s1=>exact ad_ (i:=3) d4'.nd rfl (Or.inl rfl) (af_ cWo hr2 (a0_ (pv 1) a2_))
  case s2=>exact al_ (ae_ b9_ (au_ ap_ (pv 3) a6_ (λ_ _=>rfl)) ag_ (nomark _)) ah_ a9_
  case s3=>exact ad_ (i:=4) d4'.nd rfl (Or.inl rfl) (ax_ a2_)
  case' s4=>refine' aV_ b_1 rfl (aj_ (b3_ cH TW.cl hr1 (ak_ (ak_ (pv 0) rfl) rfl))) (ac_ (i:=5) d4'.nd rfl (Or.inl rfl)) (a3_ ?b1 (a4_ ?b2))
  case b1=>exact b8_ (cT_ b_4 PySem.F.slot_list_extend PySem.F.type_list_extend bt_ (pv 4) (a0_ (af_ cF hr (a0_ (pv 0) (a0_ (pv 5) (a0_ (pv 3) a2_)))) a2_))
  case b2=>exact al_ (PW.pt (ec_ (ae_ b9_ (au_ ap_ (pv 3) a6_ (λ_ _=>rfl)) ag_ (nomark _)) (dw_ (ae_ (f5_ (bG' hr 0)) (pv 4) (ax_ a2_) (nomark _))))) (a4_ (a8_ (bP_ j9_ (pv 4) cz_ (cn_ a6_)))) a9_
  case s5=>exact a8_ (pv 4)
  case' kk=>skip
  refine⟨_,rfl,r,hr',rfl,λaw ha=>?_⟩;refine setG ?_;dsimp only;refine⟨_,rfl,aw,_,_,_,rfl,rfl,ha _,rfl,rfl,_,rfl,?_⟩;rw[aX_,a_7 (npr r hp)];refine iteF ?_;refine⟨by show 0<=sizeLine;decide,λlm nm=>?_⟩;refine setG ?_;dsimp only;obtain⟨s1,e1⟩:=nw__ (o:=.lst []) nm;generalize upd H lm (.lst [])=H1 at s1 e1 ⊢;obtain⟨dx,dl,dv,dp,ad,h1,G,h3,h4,h5,h6⟩:=(S.same s1).ex;obtain⟨dxg,dw,dy,vs,fpw,g1,g2,_⟩:=id G.ex;obtain⟨dxw,d1,l2,d3,zs0,as,ef,w1,_⟩:=id g2.ex;have hnw:(flds d1 l2 d3).lookup ("hands":Str)=none:=az_ _ _ _ Z0 Z0 Z0;refine⟨_,rfl,v,CS,dx,_,_,rfl,h1,TS.cl,TS.nW,sf_g _ _ _ _,g,CG,dxg,_,_,rfl,g1,TG.cl,TG.nW,aJ_ _ _ _,p,dxw,_,rfl,w1,hnw,p,hs,ts,fpw,rfl,g2,λlh nh=>?_⟩;obtain⟨s2,e2⟩:=nw__ (o:=.lst ((a2' hs).map V.str)) nh;generalize upd H1 lh (.lst ((a2' hs).map V.str))=H2 at s2 e2 ⊢;have lmh:lm≠lh:=a7_ e1 nh;have s02:=s1.trans s2;obtain⟨tv,hT⟩:=aS_ tab;have neT:∀{b:Addr} {xs:List V},H2 b=some (.lst xs)->b≠T:=λe z=>by rw[z,s02 _ _ hT] at e;cases e
  have n8:(a2' hs).length<=8:=by have:=W.Gd.nlen;have:=W.Gd.h8;omega
  have bound:∀i,(((a2' hs).take i).flatMap (mv r hs ts qs f)).length<=8000:=λi=>by
   have:=eM_ (g:=mv r hs ts qs f) (n:=1000) (λx=>hb r hs ts qs f x W) ((a2' hs).take i);rw[am'] at this;omega
  refine⟨lh,rfl,⟨_,.of e2⟩,aH_ (K:=K) (a:=lh) (xs:=(a2' hs).map V.str) (λi σ H'=>∃(v5:Option V) (ys:List V),σ=[some (.ref v),some (.str r.1),some (.int m),some (.ref aw),some (.ref lm),v5]/\But T H H'/\a8' H' T qRN/\H' lh=some (.lst ((a2' hs).map V.str))/\H' lm=some (.lst ys)/\a4' K H' ys ((((a2' hs).take i).flatMap (mv r hs ts qs f)).map kM)/\(r.2.2.1="one"->((a2' hs).take i).flatMap (mv r hs ts qs f)=[])) ⟨none,[],rfl,λb o e n=>s02 _ _ e,tab.same s02,e2,s2 _ _ e1,.nil,λ_=>rfl⟩ (λi σ H' _ ⟨_,_,_,_,_,z,_⟩=>.of z) ?_ ?_⟩
  ·rintro i x σ H' hx ⟨v5,ys,rfl,bT,tab',hlh,hlm,tu,one⟩;obtain⟨n,hn,rfl⟩:=ai_ hx;have nm':=ae' hn;refine setG ?_;dsimp only;have S':=S.nt (bT.nt hT);refine⟨_,rfl,.inl ⟨rfl,_,.of hlm⟩,_,rfl,_,rfl,_,rfl,v,g,p,aw,n,hs,ts,qs,fp,f,r,hr',rfl,hp,ha,S',W,nm',tab',λl zs H3 b3 tab3 nl hl tz=>?_⟩;obtain⟨tv',hT'⟩:=aS_ tab';have nt3:=b3.nt hT';have hlm3:=nt3.lst hlm;have tu3:=a4'.nt tu nt3;have lT:l≠T:=λz=>by rw[z,hT'] at nl;cases nl
   have lml:lm≠l:=a7_ hlm nl;have b03:=bound i;have ly:=a_3 tu;have lz:=a_3 tz;rw[aa'] at ly lz;have bz:=hb r hs ts qs f n W;refine⟨lm,l,ys,zs,rfl,rfl,hlm3,hl,by omega,?_⟩;have e4:upd H3 lm (.lst (ys++zs)) lm=some (.lst (ys++zs)):=a1_
   have b4:But T H (upd H3 lm (.lst (ys++zs))):=λb o e ne=>by
    rw[a5_ (a7_ e nm)];exact b3 _ _ (bT _ _ e ne) ne
   have tab4:a8' (upd H3 lm (.lst (ys++zs))) T qRN:=a8'.putL tab3 hlm3
   have hlh4:upd H3 lm (.lst (ys++zs)) lh=some (.lst ((a2' hs).map V.str)):=by
    rw[a5_ lmh.symm];exact nt3.lst hlh
   have fl:((a2' hs).take (i+1)).flatMap (mv r hs ts qs f)=((a2' hs).take i).flatMap (mv r hs ts qs f)++mv r hs ts qs f n:=by
    rw[b0_ hn,List.flatMap_append,List.flatMap_cons,List.flatMap_nil,aN']
   have tu4:a4' K (upd H3 lm (.lst (ys++zs))) (ys++zs) ((((a2' hs).take (i+1)).flatMap (mv r hs ts qs f)).map kM):=by
    rw[fl,an'];exact aF_ (aY_ tu3 hlm3) (aY_ tz hlm3)
   generalize upd H3 lm (.lst (ys++zs))=H4 at e4 b4 tab4 hlh4 tu4 ⊢;dsimp only;refine⟨_,rfl,aw,_,_,_,rfl,rfl,ha _,rfl,rfl,_,rfl,?_⟩;rw[aX_];refine ite2 (λc=>?_) (λc=>?_)
   ·have c:r.2.2.1="one":=of_decide_eq_true c;refine⟨_,rfl,by show 0<=sizeLine;decide,λle ne=>?_⟩;obtain⟨s5,e5⟩:=nw__ (o:=.lst []) ne;generalize upd H4 le (.lst [])=H5 at s5 e5 ⊢;refine⟨lm,le,ys++zs,rfl,rfl,.of (s5 _ _ e4),.of e5,_,rfl,?_⟩;have ll:=a_3 tu4;rw[aa'] at ll;refine ite2 (λc2=>?_) (λc2=>?_)
    ·refine⟨_,rfl,_,rfl,lm,_,rfl,.of (s5 _ _ e4),λlq nq=>?_⟩;rw[show cutV (ys++zs) none (some 1)=(ys++zs).take 1 from gn_ (ys++zs) 1];have s6:=Same.new (o:=.lst ((ys++zs).take 1)) nq;have s56:=s5.trans s6;have b6:But T H (upd H5 lq (.lst ((ys++zs).take 1))):=λb o e n=>s56 _ _ (b4 _ _ e n);refine k lq _ _ b6 (tab4.same s56) (But.new (T:=T) (G:=H5) (λb o e n=>s5 _ _ (b4 _ _ e n)) (aS_ (tab4.same s5)) nq) a1_ ?_;unfold dk';rw[a_9 c]
     have nz:((a2' hs).take (i+1)).flatMap (mv r hs ts qs f)≠[]:=λz=>by
      rw[z,aO'] at ll;have y:ys++zs=[]:=aS'.mp ll;rw[y] at c2;simp at c2
     have e7:((a2' hs).flatMap (mv r hs ts qs f)).take 1=(((a2' hs).take (i+1)).flatMap (mv r hs ts qs f)).take 1:=by
      conv=>lhs;rw[<- List.take_append_drop (i+1) (a2' hs),List.flatMap_append]
      cases z:((a2' hs).take (i+1)).flatMap (mv r hs ts qs f) with
      |nil=>exact absurd z nz
      |cons a b=>rfl
     rw[e7,List.map_take];exact cE_ 1 (tu4.same s56)
    ·have z:ys++zs=[]:=by simpa using c2
     refine⟨_,_,rfl,λb o e n=>s5 _ _ (b4 _ _ e n),tab4.same s5,s5 _ _ hlh4,s5 _ _ e4,tu4.same s5,λ_=>?_⟩;rw[z,aO'] at ll;exact aS'.mp ll.symm
   ·refine⟨_,_,rfl,b4,tab4,hlh4,e4,tu4,λz=>absurd (a_2 z) c⟩
  ·rintro σ H' ⟨v5,ys,rfl,bT,tab',hlh,hlm,tu,one⟩;rw[aa',ao'] at tu one;refine⟨_,rfl,k lm ys H' bT tab' nm hlm ?_⟩;unfold dk';by_cases c:r.2.2.1="one"
   ·rw[a_9 c];have:=one c;rw[this] at tu ⊢;exact tu
   ·rw[a_4 c];exact tu
end
structure CalC (P:Ae) (w:Af) (K:F__) (mg:Str->Option Aa) (base:Heap) (C:Addr) (k:Nat) (x:Str) (ps:List Str) (sp:Sp):Prop where
 ex:∃f fd,FnOk P w K mg base CX0 k f fd ps sp/\Mk K C f/\mg x=some (.ref C)/\b5' K fd ps []
theorem iw_{X:Cx}{C:Addr}{k:Nat}{x:Str}{ps:List Str}{sp:Sp}{p pos:Pos}{e:Expr}{es:List Expr}{t:TA}(c:CalC X.prog X.w X.K X.mg X.base C k x ps sp)(hr:Room (k+1) X.A)(ha:PA X (e::es) t)(hg:Gl X x:=by rfl)(hdb:(x == ("__debug__":Str))=false:=by decide)
  (he:starEach (e::es) X.env=(false,eval e X.env)::starEach es X.env:=by rfl) (hpl:(backTo pos (starEach es X.env)).any (·.1)=false:=by rfl):PE X (.Call (.Name x p) (e::es) [] pos) (tMake C sp [] E0 t):=by
 obtain⟨f,fd,F,M,m,b⟩:=c.ex;exact jB_ M F hr hg m b .nil pass0 ha hdb he hpl
section
variable{P:Ae}{w:Af}{K:F__}{mg:Str->Option Aa}{base:Heap}
theorem scWholeF:a3' ["thing","least"] ["thing","least"] (a1' dB'):=f__
def d5':Sp:=λvs H Q _=>∃i a:Int,vs=[.int i,.int a]/\Q (.bl (decide (a<=i))) H
theorem h7_{f0:Addr}{fd:Ad}(F:Fun K "is_whole_from" "is_whole_from" dB' f0 fd)(cI:Cal P w K mg base 1 "is_whole" ["thing"] spIsW):FnOk P w K mg base CX0 2 f0 fd ["thing","least"] d5':=by
 refine F.ok scWholeF (λvs H Q E h=>?_) (λcdv A outer s H vs Q E hr h=>?_)
 ·obtain⟨i,a,rfl,_⟩:=h;rfl
 ·obtain⟨i,a,rfl,k⟩:=h;refine⟨_,a4_ (a8_ (bg_ (af_ cI hr (a0_ (pv 0) a2_)) (bf_ (aI_ dq_ (pv 1) (pv 0) (nomark _))))),?_⟩;exact⟨_,rfl,i,rfl,_,rfl,iteT ⟨_,rfl,_,rfl,_,_,rfl,rfl,k⟩⟩
theorem ek':a3' ["thing"] ["thing"] (a1' cs'):=f__
def cE':Sp:=λvs H Q _=>∃i:Int,vs=[.int i]/\0<=i/\Q (.int i) H
theorem ey_{f0:Addr}{fd:Ad}(F:Fun K "checked_moments" "checked_moments" cs' f0 fd)(cI:Cal P w K mg base 2 "is_whole_from" ["thing","least"] d5'):FnOk P w K mg base CX0 3 f0 fd ["thing"] cE':=by
 refine F.ok ek' (λvs H Q E h=>?_) (λcdv A outer s H vs Q E hr h=>?_)
 ·obtain⟨i,rfl,_⟩:=h;rfl
 ·obtain⟨i,rfl,h0,k⟩:=h;refine⟨_,a3_ (al_ (aC_ (ay_ (af_ cI hr (a0_ (pv 0) (a0_ a6_ a2_))))) ah_ a9_) (a4_ (a8_ (pv 0))),?_⟩;refine⟨_,rfl,i,0,rfl,_,rfl,?_⟩;rw[a_2 h0];exact iteF ⟨_,rfl,k⟩
theorem scCStart:a3' ["goods","stand","rule"] ["goods","stand","rule"] (a1' dx'):=f__
def dh'(K:F__)(CG CW:Addr):Sp:=λvs H Q _=>∃(g d:V),∃r∈rl,vs=[g,d,.str r.1]/\bC' K CG CW [g,d] H Q E0
theorem gw_{f0 CG CW:Addr}{fd:Ad}(F:Fun K "checked_start" "checked_start" dx' f0 fd)(cWo:Cal P w K mg base 2 "checked_words" ["rule"] (bL' K))(cS:Cal P w K mg base 2 "checked_stand" ["goods","stand"] (bC' K CG CW)):FnOk P w K mg base CX0 3 f0 fd ["goods","stand","rule"] (dh' K CG CW):=by
 refine F.ok scCStart (λvs H Q E h=>?_) (λcdv A outer s H vs Q E hr h=>?_)
 ·obtain⟨g,d,r,hr,rfl,_⟩:=h;rfl
 ·obtain⟨g,d,r,hr',rfl,h⟩:=h;refine⟨_,a3_ (b8_ (af_ cWo hr (a0_ (pv 2) a2_))) (a4_ (a8_ (af_ cS hr (a0_ (pv 0) (a0_ (pv 1) a2_))))),?_⟩;exact⟨_,rfl,r,hr',rfl,λa _=>⟨_,rfl,_,rfl,h⟩⟩
structure Stn (K:F__) (CG CW:Addr) (H:Hp) (g p d:Addr) (hs:Xa) (ts:Xb) (qs:List Pc) (fp:List Addr) (ns:List Str) (f:Str->Str):Prop where
 G:a6' K CG CW H g p hs ts qs fp
 dfp:d∉fp
 hd:H d=some (.dK (stF ns f))
 so:c8' hs qs ns f
 has:∀b∈fp,∃o,H b=some o/\∀vs,o≠.tbl vs
structure Tb (H:Hp) (T1 T2:Addr):Prop where
 a:a8' H T1 qHF
 b:a8' H T2 qRN
 ne:T1≠T2
theorem do':a3' ["goods","stand","rule","moment","placed"] ["goods","stand","rule","moment"] (a1' cW'):=f__
end
def ch'(hs:Xa)(ts:Xb)(qs:List Pc)(f:Str->Str)(gd h:Str):List Mv->List Str->List Mv
 |ms,[]=>ms
 |ms,o::l=>if 0<bB' hs qs f h o then ch' hs ts qs f gd h (ms++hmv hs ts qs f gd (ms.map (·.1)) h o) l else ch' hs ts qs f gd h ms l
def bM'(hs:Xa)(ts:Xb)(qs:List Pc)(f:Str->Str)(gd h:Str):List Mv:=ch' hs ts qs f gd h [] (risL hs ts qs f h)
section
variable{P:Ae}{w:Af}{K:F__}{mg:Str->Option Aa}{base:Heap}
theorem bS':a3' ["sight","hand","guard","moves","other","given"] ["sight","hand","guard"] (a1' c5'):=f__
theorem fz_{f0 CS CG CW T:Addr}{fd:Ad}(F:Fun K "moves_by_below" "moves_by_below" c5' f0 fd)(TS:TxtS K CS)(cR:CalM P w K mg base CS 4 "rising_neighbours" ["self","hand"] (dl' K CS CG CW T))(cL:CalM P w K mg base CS 3 "lead" ["self","one","other"] (cF' K CS CG CW))(cH:Cal P w K mg base 4 "heaviest_move" ["sight","one","other","guard","given"] (spHvM K CS CG CW)):FnOk P w K mg base CX0 5 f0 fd ["sight","hand","guard"] (spWay K CS CG CW T bM'):=by
 refine F.ok bS' (λvs H Q E h=>?_) (λcdv A outer s H vs Q E hr h=>?_)
 ·obtain⟨v,g,p,h,gd,hs,ts,qs,fp,f,rfl,_⟩:=h;rfl
 ·obtain⟨v,g,p,h,gd,hs,ts,qs,fp,f,rfl,S,W,hh,tab,k⟩:=h;have sz:=b__;have hr3:Room 3 _:=hr.mono (by decide);refine' ⟨_,a3_ ?s1 (a3_ ?s2 (a4_ ?s3)),?kk⟩
  case s1=>exact ad_ (i:=3) bS'.nd rfl (Or.inl rfl) (ax_ a2_)
  case' s2=>refine' aV_ b_1 rfl (aj_ (b2_ cR TS.cl hr (pv 0) (a0_ (pv 1) a2_))) (ac_ (i:=4) bS'.nd rfl (Or.inl rfl)) (a4_ (al_ ?t1 (a3_ ?b1 (a4_ ?b2)) a9_))
  case t1=>exact ae_ eh_ (b2_ cL TS.cl hr3 (pv 0) (a0_ (pv 1) (a0_ (pv 4) a2_))) a6_ (nomark _)
  case b1=>exact cR_ (i:=5) ["move"] 1 [] bS'.nd rfl (Or.inl rfl) (aj_ (pv 3)) (λfp s H=>ac_ (i:=0) (show (["move"]:List Str).Nodup by decide +kernel) rfl (Or.inl rfl)) (λfp s H=>aK_) (λfp s H=>au_ (ixK (K:=K) rIxT ap_) (pv 0) a6_ (λ_ _=>rfl))
  case b2=>exact b8_ (cT_ b_4 PySem.F.slot_list_extend PySem.F.type_list_extend bt_ (pv 3) (a0_ (af_ cH hr (a0_ (pv 0) (a0_ (pv 1) (a0_ (pv 4) (a0_ (pv 2) (a0_ (pv 5) a2_)))))) a2_))
  case s3=>exact a8_ (pv 3)
  case' kk=>skip
  have n8:(a2' hs).length<=8:=by have:=W.Gd.nlen;have:=W.Gd.h8;omega
  refine⟨by show 0<=sizeLine;decide,λlm nm=>?_⟩;refine setG ?_;dsimp only;obtain⟨s1,e1⟩:=nw__ (o:=.lst []) nm;generalize upd H lm (.lst [])=H1 at s1 e1 ⊢;have S1:=S.same s1;have tab1:=tab.same s1;obtain⟨dx,dl,dv,dp,ad,h1,G,h3,h4,h5,h6⟩:=S1.ex;refine⟨_,rfl,v,dx,_,rfl,h1,fP_ _ _ _ _ Z0 Z0 Z0 Z0,_,rfl,v,g,p,h,hs,ts,qs,fp,f,rfl,S1,W,hh,tab1,λl1 H2 b2 tab2 n1 e2=>?_⟩;obtain⟨tv,hT⟩:=aS_ tab1;obtain⟨tv2,hT2⟩:=aS_ tab2;have nt2:=b2.nt hT;have S2:=S1.nt nt2;have m2:=nt2.lst e1;have lml:lm≠l1:=a7_ e1 n1;have per:=cK_ hs ts qs f h;have inn:∀x∈risL hs ts qs f h,x∈a2' hs:=λx hx=>fD_ (per.mem_iff.mp hx)
  have ll:(risL hs ts qs f h).length<=8:=by
   rw[per.length_eq];have:=d6_ hs ts h;omega
  have bT:But T H H2:=λb o e n=>b2 _ _ (s1 _ _ e) n;refine⟨l1,rfl,⟨_,.of e2⟩,aH_ (K:=K) (a:=l1) (xs:=(risL hs ts qs f h).map V.str) (λi σ H'=>∃(v4 v5:Option V) (ys:List V) (ms:List Mv),σ=[some (.ref v),some (.str h),some (.str gd),some (.ref lm),v4,v5]/\But T H H'/\a8' H' T qRN/\H' l1=some (.lst ((risL hs ts qs f h).map V.str))/\H' lm=some (.lst ys)/\a4' K H' ys (ms.map kM)/\ms.length<=i/\ch' hs ts qs f gd h ms ((risL hs ts qs f h).drop i)=bM' hs ts qs f gd h) ⟨none,none,[],[],rfl,bT,tab2,e2,m2,.nil,ai' _,rfl⟩ (λi σ H' _ ⟨_,_,_,_,_,_,_,z,_⟩=>.of z) ?_ ?_⟩
  ·rintro i x σ H3 hx ⟨v4,v5,ys,ms,rfl,bT3,tab3,l3,m3,t3,lms,eq3⟩;obtain⟨o,ho,rfl⟩:=ai_ hx;have hi:i<(risL hs ts qs f h).length:=(ac'.mp ho).1;have om:=inn o (ae' ho)
   have dr:(risL hs ts qs f h).drop i=o::(risL hs ts qs f h).drop (i+1):=by
    obtain⟨h1,h2⟩:=ac'.mp ho;rw[List.drop_eq_getElem_cons h1,h2]
   rw[dr] at eq3;obtain⟨tv0,hT0⟩:=aS_ tab;have S3:=S.nt (bT3.nt hT0);obtain⟨dx3,_,_,_,_,k1,_⟩:=S3.ex;have ly:=a_3 t3;rw[aa'] at ly;refine setG ?_;dsimp only;refine⟨_,rfl,v,dx3,_,rfl,k1,fP_ _ _ _ _ Z0 Z0 Z0 Z0,_,rfl,_,rfl,v,g,p,h,o,hs,ts,qs,fp,f,rfl,S3,W,hh,om,_,_,rfl,rfl,_,rfl,?_⟩;refine ite2 (λc=>?_) (λc=>?_)
   ·have c:0<bB' hs qs f h o:=by simpa using c
    have eq3:ch' hs ts qs f gd h (ms++hmv hs ts qs f gd (ms.map (·.1)) h o) ((risL hs ts qs f h).drop (i+1))=bM' hs ts qs f gd h:=by
     rw[ch',a_9 c] at eq3;exact eq3
    refine⟨_,rfl,lm,rfl,⟨_,.of m3⟩,λD hD=>?_⟩;refine as_ (own:=1) (fv:=[]) (xs:=ys) rfl gok1 (λj out H'=>Same H3 H'/\H' D=some (.lst out)/\out=((ms.map (·.1)).take j).map V.str) ⟨Same.new hD,a1_,rfl⟩ (λj out H' _ ⟨sm,_⟩=>.of (sm _ _ m3)) (λout H4 ⟨s4,d4,eo⟩=>?_) (λj x out H' hx ⟨sm,hd,eo⟩=>?_);rotate_left
    ·obtain⟨q,hq,a,rfl,ha⟩:=aL_ t3 hx;have hj:j<ms.length:=(ac'.mp hq).1;refine⟨_,rfl,rfl,λNx hN=>yesT ?_⟩;refine⟨_,rfl,a,_,0,.str q.1,rfl,rfl,.of (sm _ _ ha),L2.bz' (j:=0) rfl,out,hd,?_,hN (out++[.str q.1]) _ ⟨ar_ sm hD,a1_,?_⟩⟩
     ·rw[eo,aa',am'];omega
     ·rw[eo,b0_ (show (ms.map (·.1))[j]? = some q.1 by rw[aj',hq];rfl),an'];rfl
    rw[ly,aT' (by rw[aa'];exact ai' _)] at eo;subst eo;refine setG ?_;dsimp only;have m4:=s4 _ _ m3;refine⟨_,rfl,.inl ⟨rfl,_,.of m4⟩,?_⟩;refine⟨_,rfl,_,rfl,_,rfl,_,rfl,_,rfl,v,g,p,D,h,o,gd,ms.map (·.1),hs,ts,qs,fp,f,rfl,S3.same s4,W,hh,om,d4,λl5 zs H5 s5 n5 e5 t5=>?_⟩;have s35:=s4.trans s5;have m5:=s35 _ _ m3;have lz:=a_3 t5;have hl:=bG_ hs ts qs f gd (ms.map (·.1)) h o;rw[aa'] at lz;refine⟨lm,l5,ys,zs,rfl,rfl,m5,e5,by omega,?_⟩;refine⟨_,_,ys++zs,ms++hmv hs ts qs f gd (ms.map (·.1)) h o,rfl,λb u e n=>?_,a8'.putL (tab3.same s35) m5,?_,a1_,?_,?_,eq3⟩
    ·rw[a5_ (a7_ e nm)];exact s35 _ _ (bT3 _ _ e n)
    ·rw[a5_ lml.symm];exact s35 _ _ l3
    ·rw[an'];exact aF_ (aY_ (t3.same s35) m5) (aY_ t5 m5)
    ·rw[ar'];omega
   ·have c:¬0<bB' hs qs f h o:=by simpa using c
    refine⟨_,_,ys,ms,rfl,bT3,tab3,l3,m3,t3,by omega,?_⟩;rw[ch',a_4 c] at eq3;exact eq3
  ·rintro σ H3 ⟨v4,v5,ys,ms,rfl,bT3,tab3,l3,m3,t3,lms,eq3⟩;rw[aa',List.drop_length] at eq3;refine⟨_,rfl,k lm ys H3 bT3 tab3 nm m3 ?_⟩;rw[<- eq3];exact t3
end
def b7':MvR:=λr hs ts qs f h=>bM' hs ts qs f (r.2.2.2.getD "") h
theorem ex_{hs:Xa}{ts:Xb}{qs:List Pc}{f:Str->Str}{gd h:Str}:∀(l:List Str) (ms:List Mv),(ch' hs ts qs f gd h ms l).length<=ms.length+l.length
 |[],ms=>ai' _
 |o::l,ms=>by
  rw[ch',az'];split
  ·have h1:=ex_ (hs:=hs) (ts:=ts) (qs:=qs) (f:=f) (gd:=gd) (h:=h) l (ms++hmv hs ts qs f gd (ms.map (·.1)) h o);have h2:=bG_ hs ts qs f gd (ms.map (·.1)) h o;rw[ar'] at h1;omega
  ·have h1:=ex_ (hs:=hs) (ts:=ts) (qs:=qs) (f:=f) (gd:=gd) (h:=h) l ms;omega
theorem hm_(r:Rl)(hs:Xa)(ts:Xb)(qs:List Pc)(f:Str->Str)(h:Str)(W:Wd hs ts qs f):(b7' r hs ts qs f h).length<=8:=by
 unfold b7' bM';have h1:=ex_ (hs:=hs) (ts:=ts) (qs:=qs) (f:=f) (gd:=r.2.2.2.getD "") (h:=h) (risL hs ts qs f h) [];have h2:=(cK_ hs ts qs f h).length_eq;have h3:=d6_ hs ts h;have h4:=W.Gd.nlen;have h5:=W.Gd.h8;rw[aO'] at h1;omega
section
variable{P:Ae}{w:Af}{K:F__}{mg:Str->Option Aa}{base:Heap}
theorem fG_{f0 CS CG CW T:Addr}{fd:Ad}(F:Fun K "moves_from" "moves_from" co' f0 fd)(cL:Cal P w K mg base 5 "moves_by_below" ["sight","hand","guard"] (spWay K CS CG CW T bM')):FnOk P w K mg base CX0 6 f0 fd ["sight","hand","words"] (bI' K CS CG CW T (λr=>r.2.1="below") b7'):=by
 refine F.ok cZ' (λvs H Q E h=>?_) (λcdv A outer s H vs Q E hr h=>?_)
 ·obtain⟨v,g,p,aw,h,hs,ts,qs,fp,f,r,hr,rfl,_⟩:=h;rfl
 ·obtain⟨v,g,p,aw,h,hs,ts,qs,fp,f,r,hr',rfl,le,ha,S,W,hh,tab,k⟩:=h;refine' ⟨_,a3_ ?s0 (a3_ ?s1 ah_),?kk⟩
  case s0=>exact al_ (ae_ b9_ (au_ ap_ (pv 2) a6_ (λ_ _=>rfl)) ag_ (nomark _)) ah_ a9_
  case s1=>exact al_ (ae_ b9_ (au_ ap_ (pv 2) a6_ (λ_ _=>rfl)) ag_ (nomark _)) (a4_ (a8_ (af_ cL hr (a0_ (pv 0) (a0_ (pv 1) (a0_ (au_ ap_ (pv 2) a6_ (λ_ _=>rfl)) a2_)))))) a9_
  case' kk=>skip
  have so:=eq_ r hr' (by rw[le];decide +kernel);obtain⟨gd,eg⟩:=aG'.mp so;have ln:¬r.2.1="least":=by rw[le];decide +kernel
  refine⟨_,rfl,aw,_,_,_,rfl,rfl,ha _,rfl,rfl,_,rfl,?_⟩;rw[aX_,a_7 ln];refine iteF ?_;refine⟨_,rfl,aw,_,_,_,rfl,rfl,ha _,rfl,rfl,_,rfl,?_⟩;rw[aX_,a_2 le];refine iteT ?_;refine⟨_,rfl,_,rfl,_,rfl,aw,_,_,.str gd,rfl,rfl,ha _,?_,v,g,p,h,gd,hs,ts,qs,fp,f,rfl,S,W,hh,tab,λl ys H' b t n e tu=>k l ys H' b t n e ?_⟩
  ·rw[eg];rfl
  ·unfold b7';rw[eg];exact tu
end
def cy'(hs:Xa)(ts:Xb):Int:=((lens hs ts).max?).getD 0
variable{m:Int}
theorem gO_{hs:Xa}{ts:Xb}(h1:m∈lens hs ts)(h2:∀a∈lens hs ts,a<=m):m=cy' hs ts:=by
 unfold cy';rw[List.max?_eq_some_iff.mpr ⟨h1,h2⟩];rfl
theorem jj_{hs:Xa}{ts:Xb}(G:Good hs ts)(h:m∈lens hs ts):0<=m/\m<=8:=by
 obtain⟨n,_,rfl⟩:=af'.mp h;have h1:=d6_ hs ts n;have h2:=G.nlen;have h3:=G.h8;show 0<=((nb hs ts n).length:Int)/\((nb hs ts n).length:Int)<=8;omega
theorem iG_{hs:Xa}{ts:Xb}(G:Good hs ts){a b:Str}(ha:a∈a2' hs)(hb:b∈a2' hs):2<=bo' hs a b/\bo' hs a b<=2000:=by
 have h1:=ef_ G ha;have h2:=ef_ G hb;unfold bo';omega
def shL(wt:Str->Int)(ok:Str->Bool):Int->List Str->List Str
 |_,[]=>[]
 |l,n::ns=>if (ok n&&decide (wt n<=l))=true then n::shL wt ok (l - wt n) ns else shL wt ok l ns
theorem eH_(wt:Str->Int)(ok:Str->Bool):∀(l:Int) (ns:List Str),(shL wt ok l ns).Sublist ns
 |_,[]=>.slnil
 |l,n::ns=>by
  unfold shL;split
  ·exact (eH_ wt ok _ ns).cons_cons n
  ·exact (eH_ wt ok _ ns).cons n
def shOk(hs:Xa)(ts:Xb)(qs:List Pc)(gv:List Str)(a b n:Str):Bool:=!decide (n∈gv)&&mayN hs ts qs n a b
def shareF(hs:Xa)(ts:Xb)(qs:List Pc)(f:Str->Str)(a b:Str):Int:=bB' hs qs f a b / (bo' hs a b * (cy' hs ts+1))
def shN(hs:Xa)(ts:Xb)(qs:List Pc)(f:Str->Str)(gv:List Str)(a b:Str):List Str:=shL (wtN qs) (shOk hs ts qs gv a b) (shareF hs ts qs f a b) (hvAt qs f a)
abbrev to3(a b:Str)(n:Str):Mv:=(n,a,b)
def shM(hs:Xa)(ts:Xb)(qs:List Pc)(f:Str->Str)(gv:List Str)(a b:Str):List Mv:=(shN hs ts qs f gv a b).map (to3 a b)
theorem eR_{hs:Xa}{ts:Xb}{qs:List Pc}{f:Str->Str}(W:Wd hs ts qs f)(a:Str):(hvAt qs f a).length<=63:=by
 have h1:(hvAt qs f a).length<=(hvL qs).length:=aW' ..;have h2:=(ch_ qs).length_eq;rw[aa'] at h2;have:=W.h64;omega
theorem g5_{hs:Xa}{ts:Xb}{qs:List Pc}{f:Str->Str}(W:Wd hs ts qs f)(gv:List Str)(a b:Str):(shM hs ts qs f gv a b).length<=63:=by
 unfold shM;rw[aa'];have:=(eH_ (wtN qs) (shOk hs ts qs gv a b) (shareF hs ts qs f a b) (hvAt qs f a)).length_le;have h2:=eR_ W a;unfold shN;omega
theorem fT_{α:Type}{l:List α}{i:Nat}{x:α}(h:l[i]? = some x):l.drop i=x::l.drop (i+1):=by
 obtain⟨h1,h2⟩:=ac'.mp h;rw[List.drop_eq_getElem_cons h1,h2]
section
variable{P:Ae}{w:Af}{K:F__}{mg:Str->Option Aa}{base:Heap}
abbrev shNs:List Str:=["sight","one","other","given","parts","left","moves","piece","weight"]
theorem dR':a3' shNs ["sight","one","other","given"] (a1' sShM):=f__
inductive spShM (K:F__) (CS CG CW:Addr) (vs:List V) (H:Hp) (Q:VK) (E:XK):Prop
 |mk:∀(v g p lg:Addr) (a b:Str) (gv:List Str) (hs:Xa) (ts:Xb) (qs:List Pc) (fp:List Addr) (f:Str->Str),vs=[.ref v,.str a,.str b,.ref lg]->bb' K CS CG CW H v g p hs ts qs fp f->Wd hs ts qs f->a∈a2' hs->b∈a2' hs->H lg=some (.lst (gv.map V.str))->(∀l ys H',Same H H'->H l=none->H' l=some (.lst ys)->a4' K H' ys ((shM hs ts qs f gv a b).map kM)->Q (.ref l) H')->spShM K CS CG CW vs H Q E
theorem kH_{f0 CS CG CW CP:Addr}{fd:Ad}(F:Fun K "share_moves" "share_moves" sShM f0 fd)(TS:TxtS K CS)(TG:TxtG K CG)(TW:Txt K mg CW)(cL:CalM P w K mg base CS 3 "lead" ["self","one","other"] (cF' K CS CG CW))(cJ:CalM P w K mg base CS 3 "joint_strength" ["self","one","other"] (cO' K CS CG CW))(cN:CalM P w K mg base CW 1 "most_neighbours" ["self"] (d9' K CW))(cW:CalX P w K mg base CG 2 "weight" ["self","piece"] (bg' K CG CW CP))(cM:CalX P w K mg base CG 3 "may_go" ["self","piece","one","other"] (ea' K CG CW CP)) :
  FnOk P w K mg base CX0 4 f0 fd ["sight","one","other","given"] (spShM K CS CG CW):=by
 refine F.ok dR' (λvs H Q E h=>?_) (λcdv A outer s H vs Q E hr h=>?_)
 ·obtain⟨v,g,p,lg,a,b,gv,hs,ts,qs,fp,f,rfl,_⟩:=h;rfl
 ·obtain⟨v,g,p,lg,a,b,gv,hs,ts,qs,fp,f,rfl,S,W,ha,hb,hg,k⟩:=h;have hu:=ba_ hr;have sz:=b__;have hr1:Room 1 _:=hr.mono (by decide);have hr2:Room 2 _:=hr.mono (by decide);refine' ⟨_,?r0,?kk⟩
  case' r0=>refine' a3_ ?s1 ?r1
  case' r1=>refine' a3_ ?s2 ?r2
  case' r2=>refine' a3_ ?s3 ?r3
  case' r3=>refine' a3_ ?s4 (a4_ ?s5)
  case s1=>exact ad_ (i:=4) dR'.nd rfl (Or.inl rfl) (am_ aT_ (b2_ cJ TS.cl hr (pv 0) (a0_ (pv 1) (a0_ (pv 2) a2_))) (am_ bh_ (b3_ cN TW.cl hr1 (ak_ (ak_ (pv 0) rfl) rfl)) a6_))
  case s2=>exact ad_ (i:=5) dR'.nd rfl (Or.inl rfl) (am_ bd_ (b2_ cL TS.cl hr (pv 0) (a0_ (pv 1) (a0_ (pv 2) a2_))) (pv 4))
  case s3=>exact ad_ (i:=6) dR'.nd rfl (Or.inl rfl) (ax_ a2_)
  case' s4=>refine' aV_ b_1 rfl (aj_ (aP_ hu (ak_ (pv 0) rfl) (pv 1) (λ_ _=>rfl))) (ac_ (i:=7) dR'.nd rfl (Or.inl rfl)) (a3_ ?b1 (a4_ ?b2))
  case b1=>exact ad_ (i:=8) dR'.nd rfl (Or.inl rfl) (di_ cW TG.cl hr2 (ak_ (pv 0) rfl) (a0_ (pv 7) a2_))
  case' b2=>refine' al_ (PW.pt (ec_ ?c1 (ec_ ?c2 (dw_ ?c3)))) (a3_ ?b3 (a4_ ?b4)) a9_
  case c1=>exact ae_ (ej_ cmpS (bG' hr 0)) (pv 7) (pv 3) (by with_unfolding_all rfl)
  case c2=>exact ae_ dq_ (pv 8) (pv 5) (nomark _)
  case c3=>exact ay_ (di_ cM TG.cl hr (ak_ (pv 0) rfl) (a0_ (pv 7) (a0_ (pv 1) (a0_ (pv 2) a2_))))
  case b3=>exact b8_ (cT_ b_4 PySem.F.slot_list_append PySem.F.type_list_append bj_ (pv 6) (a0_ (aR_ (a0_ (pv 7) (a0_ (pv 1) (a0_ (pv 2) a2_)))) a2_))
  case b4=>exact ad_ (i:=5) dR'.nd rfl (Or.inl rfl) (am_ bM_ (pv 5) (pv 8))
  case s5=>exact a8_ (pv 6)
  case' kk=>skip
  obtain⟨dx,dl,dv,dp,ad,h1,G,h3,h4,h5,h6⟩:=S.ex;obtain⟨dxg,dw,dy,vs,fpw,g1,g2,_⟩:=id G.ex;obtain⟨dxw,d1,l2,d3,zs0,as,ef,w1,_⟩:=id g2.ex;have hnm:(flds d1 l2 d3).lookup ("most_neighbours":Str)=none:=az_ _ _ _ Z0 Z0 Z0;have no:∀{m:Str},¬m="wares"->¬m="load_by_hand"->¬m="level_by_hand"->¬m="pieces_by_hand"->(sflds g dl dv dp).lookup m=none:=λa b c d=>fP_ _ _ _ _ a b c d;have jo:=iG_ W.Gd ha hb;have nl:=W.Gd.nlen;have n1:=W.Gd.h1;have n8:=W.Gd.h8;refine⟨_,rfl,v,dx,_,rfl,h1,no Z0 Z0 Z0 Z0,_,rfl,_,rfl,v,g,p,a,b,hs,ts,qs,fp,f,rfl,S,W,ha,hb,?_⟩;refine⟨_,rfl,v,CS,dx,_,_,rfl,h1,TS.cl,TS.nW,sf_g _ _ _ _,g,CG,dxg,_,_,rfl,g1,TG.cl,TG.nW,aJ_ _ _ _,p,dxw,_,rfl,w1,hnm,p,hs,ts,fpw,rfl,g2,by omega,by omega,λm H1 s1 m1 m2=>?_⟩;have mo:=jj_ W.Gd m1;obtain rfl:=gO_ m1 m2;have pp:0<bo' hs a b * (cy' hs ts+1):=Int.mul_pos Z1 Z1
  have pl:bo' hs a b * (cy' hs ts+1)<1073741824:=by
   have:=Int.mul_le_mul jo.2 (show cy' hs ts+1<=9 by omega) Z1 (by decide);omega
  refine⟨_,_,rfl,rfl,_,_,rfl,rfl,.inl ⟨by omega,by omega⟩,?_⟩;refine setG ?_;dsimp only;refine⟨_,rfl,v,dx,_,rfl,s1 _ _ h1,no Z0 Z0 Z0 Z0,_,rfl,_,rfl,v,g,p,a,b,hs,ts,qs,fp,f,rfl,S.same s1,W,ha,hb,_,rfl,_,_,rfl,rfl,⟨pp,pl⟩,?_⟩;refine setG ?_;dsimp only;refine⟨by show 0<=sizeLine;decide,λlm nm=>?_⟩;refine setG ?_;dsimp only;obtain⟨s2,e2⟩:=nw__ (o:=.lst []) nm;have nm0:=s1.free nm;generalize upd H1 lm (.lst [])=H2 at s2 e2 ⊢;have s02:=s1.trans s2;have hl:=h6 a ha;have l63:=eR_ W a;refine⟨_,rfl,v,CS,dx,_,_,rfl,s02 _ _ h1,TS.cl,TS.nP,sf_p _ _ _ _,_,rfl,dp,_,rfl,dgR (s02 _ _ h5) ha,ad a,rfl,⟨_,.of (s02 _ _ hl)⟩,aH_ (K:=K) (a:=ad a) (xs:=(hvAt qs f a).map V.str) (λi σ H'=>∃(v7 v8:Option V) (left:Int) (ys:List V) (ns:List Str),σ=[some (.ref v),some (.str a),some (.str b),some (.ref lg),some (.int (bo' hs a b * (cy' hs ts+1))),some (.int left),some (.ref lm),v7,v8]/\Same H H'/\H' lm=some (.lst ys)/\a4' K H' ys ((ns.map (to3 a b)).map kM)/\ns.length<=i/\ns++shL (wtN qs) (shOk hs ts qs gv a b) left ((hvAt qs f a).drop i)=shN hs ts qs f gv a b) ⟨none,none,_,[],[],rfl,s02,e2,.nil,ai' _,rfl⟩ (λi σ H' _ ⟨_,_,_,_,_,_,sm,_⟩=>.of (sm _ _ hl)) ?_ ?_⟩
  ·rintro i x σ H' hx ⟨v7,v8,left,ys,ns,rfl,sm,hlm,tu,ln,eq⟩;obtain⟨n,hn,rfl⟩:=ai_ hx;have hi:i<(hvAt qs f a).length:=(ac'.mp hn).1;obtain⟨nm',fn⟩:=eI_ (ae' hn);obtain⟨q,hq,rfl⟩:=af'.mp nm';have G':=G.same sm;have h1':=sm _ _ h1;obtain⟨dxg',dw',dy',vs',fpw',g1',g2',_⟩:=id G'.ex;have hwt:(gflds p dw' dy').lookup ("weight":Str)=none:=aE_ _ _ _ Z0 Z0 Z0;have hmy:(gflds p dw' dy').lookup ("may_go":Str)=none:=aE_ _ _ _ Z0 Z0 Z0;have ew:=hL_ W.nd hq;have ey:=kl_ W.nd hq;rw[fT_ hn,shL] at eq;have ly:=a_3 tu;rw[aa',aa'] at ly
   have go:∀{H2:Hp} {v8:Option V},Same H' H2->(shOk hs ts qs gv a b q.1&&decide (wtN qs q.1<=left))=false->∃(v7 v8':Option V) (left':Int) (ys:List V) (ns:List Str),[some (V.ref v),some (.str a),some (.str b),some (.ref lg),some (.int (bo' hs a b * (cy' hs ts+1))),some (.int left),some (.ref lm),some (.str q.1),v8]=[some (V.ref v),some (.str a),some (.str b),some (.ref lg),some (.int (bo' hs a b * (cy' hs ts+1))),some (.int left'),some (.ref lm),v7,v8']/\Same H H2/\H2 lm=some (.lst ys)/\a4' K H2 ys ((ns.map (to3 a b)).map kM)/\ns.length<=i+1/\ns++shL (wtN qs) (shOk hs ts qs gv a b) left' ((hvAt qs f a).drop (i+1))=shN hs ts qs f gv a b:=λ{H2 v8} s2 e=>by
    rw[e,a_4 (by decide)] at eq;exact⟨_,_,_,ys,ns,rfl,sm.trans s2,s2 _ _ hlm,tu.same s2,by omega,eq⟩
   refine setG ?_;dsimp only;refine⟨_,rfl,v,CS,dx,_,_,rfl,h1',TS.cl,TS.nW,sf_g _ _ _ _,g,dxg',_,rfl,g1',hwt,_,rfl,g,p,.str q.1,some q.1,hs,ts,qs,fp,rfl,G',W.nd,rfl,.inl ⟨q,hq,rfl,?_⟩⟩;refine setG ?_;dsimp only;refine⟨_,rfl,_,rfl,q.1,gv,rfl,⟨lg,_,rfl,.of (sm _ _ hg),bn_ gv⟩,_,rfl,?_⟩;refine ite2 (λc=>?_) (λc=>?_)
   ·have c:¬q.1∈gv:=by simpa using c
    refine⟨_,rfl,_,rfl,_,_,rfl,rfl,_,rfl,?_⟩;refine ite2 (λc2=>?_) (λc2=>?_)
    ·have c2:q.2.1<=left:=by simpa using c2
     refine⟨_,rfl,v,CS,dx,_,_,rfl,h1',TS.cl,TS.nW,sf_g _ _ _ _,g,dxg',_,rfl,g1',hmy,_,rfl,_,rfl,_,rfl,g,p,.str q.1,.str a,.str b,some q.1,some a,some b,hs,ts,qs,fp,rfl,G',W.nd,W.Gd.nnd,rfl,.inl ⟨q,hq,rfl,rfl,rfl,λH3 s3=>⟨_,rfl,?_⟩⟩⟩;refine ite2 (λc3=>?_) (λc3=>?_)
     ·have pt:(shOk hs ts qs gv a b q.1&&decide (wtN qs q.1<=left))=true:=by
       unfold shOk mayN;rw[ew,ey,a_2 c2,a_7 c];simpa using c3
      rw[a_9 pt,ew] at eq;refine⟨_,rfl,.inl ⟨rfl,_,.of (s3 _ _ hlm)⟩,_,rfl,_,rfl,_,rfl,by show 3<=sizeLine;decide,λt nt=>?_⟩;obtain⟨s4,e4⟩:=nw__ (o:=.tup [.str q.1,.str a,.str b]) nt;generalize upd H3 t (.tup [.str q.1,.str a,.str b])=H4 at s4 e4 ⊢;have s34:=s3.trans s4;have hlm4:=s34 _ _ hlm;refine⟨lm,_,_,rfl,rfl,hlm4,by omega,?_⟩;dsimp only;refine⟨_,rfl,_,rfl,_,_,rfl,rfl,?_⟩;refine setG ?_;dsimp only;refine⟨_,_,_,ys++[.ref t],ns++[q.1],rfl,λb' o e=>?_,a1_,?_,?_,?_⟩
      ·rw[a5_ (a7_ e nm0)];exact s34 _ _ (sm _ _ e)
      ·rw[an',an'];exact aY_ (cy_ (tu.same s34) e4) hlm4
      ·rw[ar'];show ns.length+1<=i+1;omega
      ·rw[List.append_assoc];exact eq
     ·refine go s3 ?_;unfold shOk mayN;have c3:goB hs ts q.2.2 (some a) (some b)=false:=by simpa using c3
      rw[ey,c3,Bool.and_false,Bool.false_and]
    ·refine go (Same.refl H') ?_;have c2:¬q.2.1<=left:=by simpa using c2
     rw[ew,a_7 c2,Bool.and_false]
   ·have c:q.1∈gv:=by simpa using c
    refine go (Same.refl H') ?_;unfold shOk;rw[a_2 c];rfl
  ·rintro σ H' ⟨v7,v8,left,ys,ns,rfl,sm,hlm,tu,ln,eq⟩;rw[aa',List.drop_length,shL,aN'] at eq;refine⟨_,rfl,k lm ys H' sm nm0 hlm ?_⟩;unfold shM;rw[<- eq];exact tu
end
def cr'(hs:Xa)(ts:Xb)(qs:List Pc)(f:Str->Str)(h:Str):List Mv->List Str->List Mv
 |ms,[]=>ms
 |ms,o::l=>if 0<bB' hs qs f h o then cr' hs ts qs f h (ms++shM hs ts qs f (ms.map (·.1)) h o) l else cr' hs ts qs f h ms l
def bF'(hs:Xa)(ts:Xb)(qs:List Pc)(f:Str->Str)(h:Str):List Mv:=cr' hs ts qs f h [] (nb hs ts h)
def bQ':MvR:=λ_ hs ts qs f h=>bF' hs ts qs f h
theorem es_{hs:Xa}{ts:Xb}{qs:List Pc}{f:Str->Str}(W:Wd hs ts qs f){h:Str}:∀(l:List Str) (ms:List Mv),(cr' hs ts qs f h ms l).length<=ms.length+63 * l.length
 |[],ms=>ai' _
 |o::l,ms=>by
  rw[cr',az'];split
  ·have h1:=es_ W (h:=h) l (ms++shM hs ts qs f (ms.map (·.1)) h o);have h2:=g5_ W (ms.map (·.1)) h o;rw[ar'] at h1;omega
  ·have h1:=es_ W (h:=h) l ms;omega
theorem fN_(r:Rl)(hs:Xa)(ts:Xb)(qs:List Pc)(f:Str->Str)(h:Str)(W:Wd hs ts qs f):(bQ' r hs ts qs f h).length<=1000:=by
 unfold bQ' bF';have h1:=es_ W (h:=h) (nb hs ts h) [];have h3:=d6_ hs ts h;have h4:=W.Gd.nlen;have h5:=W.Gd.h8;rw[aO'] at h1;omega
section
variable{P:Ae}{w:Af}{K:F__}{mg:Str->Option Aa}{base:Heap}
theorem bE':a3' ["sight","hand","moves","other","given"] ["sight","hand"] (a1' cv'):=f__
inductive c9' (K:F__) (CS CG CW:Addr) (vs:List V) (H:Hp) (Q:VK) (E:XK):Prop
 |mk:∀(v g p:Addr) (h:Str) (hs:Xa) (ts:Xb) (qs:List Pc) (fp:List Addr) (f:Str->Str),vs=[.ref v,.str h]->bb' K CS CG CW H v g p hs ts qs fp f->Wd hs ts qs f->h∈a2' hs->(∀l ys H',Same H H'->H l=none->H' l=some (.lst ys)->a4' K H' ys ((bF' hs ts qs f h).map kM)->Q (.ref l) H')->c9' K CS CG CW vs H Q E
theorem el_{f0 CS CG CW:Addr}{fd:Ad}(F:Fun K "moves_by_shares" "moves_by_shares" cv' f0 fd)(TS:TxtS K CS)(TG:TxtG K CG)(TW:Txt K mg CW)(cN:CalM P w K mg base CW 2 "neighbours" ["self","hand"] (cQ' K CW))(cL:CalM P w K mg base CS 3 "lead" ["self","one","other"] (cF' K CS CG CW))(cH:Cal P w K mg base 4 "share_moves" ["sight","one","other","given"] (spShM K CS CG CW)):FnOk P w K mg base CX0 5 f0 fd ["sight","hand"] (c9' K CS CG CW):=by
 refine F.ok bE' (λvs H Q E h=>?_) (λcdv A outer s H vs Q E hr h=>?_)
 ·obtain⟨v,g,p,h,hs,ts,qs,fp,f,rfl,_⟩:=h;rfl
 ·obtain⟨v,g,p,h,hs,ts,qs,fp,f,rfl,S,W,hh,k⟩:=h;have sz:=b__;have hr2:Room 2 _:=hr.mono (by decide);have hr3:Room 3 _:=hr.mono (by decide);refine' ⟨_,a3_ ?s1 (a3_ ?s2 (a4_ ?s3)),?kk⟩
  case s1=>exact ad_ (i:=2) bE'.nd rfl (Or.inl rfl) (ax_ a2_)
  case' s2=>refine' aV_ b_1 rfl (aj_ (b2_ cN TW.cl hr2 (ak_ (ak_ (pv 0) rfl) rfl) (a0_ (pv 1) a2_))) (ac_ (i:=3) bE'.nd rfl (Or.inl rfl)) (a4_ (al_ ?t1 (a3_ ?b1 (a4_ ?b2)) a9_))
  case t1=>exact ae_ eh_ (b2_ cL TS.cl hr3 (pv 0) (a0_ (pv 1) (a0_ (pv 3) a2_))) a6_ (nomark _)
  case b1=>exact cR_ (i:=4) ["move"] 1 [] bE'.nd rfl (Or.inl rfl) (aj_ (pv 2)) (λfp s H=>ac_ (i:=0) (show (["move"]:List Str).Nodup by decide +kernel) rfl (Or.inl rfl)) (λfp s H=>aK_) (λfp s H=>au_ (ixK (K:=K) rIxT ap_) (pv 0) a6_ (λ_ _=>rfl))
  case b2=>exact b8_ (cT_ b_4 PySem.F.slot_list_extend PySem.F.type_list_extend bt_ (pv 2) (a0_ (af_ cH hr (a0_ (pv 0) (a0_ (pv 1) (a0_ (pv 3) (a0_ (pv 4) a2_))))) a2_))
  case s3=>exact a8_ (pv 2)
  case' kk=>skip
  have n8:(a2' hs).length<=8:=by have:=W.Gd.nlen;have:=W.Gd.h8;omega
  refine⟨by show 0<=sizeLine;decide,λlm nm=>?_⟩;refine setG ?_;dsimp only;obtain⟨s1,e1⟩:=nw__ (o:=.lst []) nm;generalize upd H lm (.lst [])=H1 at s1 e1 ⊢;obtain⟨dx,dl,dv,dp,ad,h1,G,h3,h4,h5,h6⟩:=(S.same s1).ex;obtain⟨dxg,dw,dy,vs,fpw,g1,g2,_⟩:=id G.ex;obtain⟨dxw,d1,l2,d3,zs0,as,ef,w1,_⟩:=id g2.ex;have hnw:(flds d1 l2 d3).lookup ("neighbours":Str)=none:=az_ _ _ _ Z0 Z0 Z0;refine⟨_,rfl,v,CS,dx,_,_,rfl,h1,TS.cl,TS.nW,sf_g _ _ _ _,g,CG,dxg,_,_,rfl,g1,TG.cl,TG.nW,aJ_ _ _ _,p,dxw,_,rfl,w1,hnw,_,rfl,p,h,hs,ts,fpw,rfl,g2,W.Gd.nnd,(aw_ hs).mem_iff.mp hh,λl1 n1=>?_⟩;obtain⟨s2,e2⟩:=nw__ (o:=.lst ((nb hs ts h).map V.str)) n1;have lml:lm≠l1:=a7_ e1 n1;have s02:=s1.trans s2;generalize upd H1 l1 (.lst ((nb hs ts h).map V.str))=H2 at s2 e2 s02 ⊢;have inn:∀x∈nb hs ts h,x∈a2' hs:=λx hx=>fD_ hx
  have ll:(nb hs ts h).length<=8:=by
   have:=d6_ hs ts h;omega
  refine⟨l1,rfl,⟨_,.of e2⟩,aH_ (K:=K) (a:=l1) (xs:=(nb hs ts h).map V.str) (λi σ H'=>∃(v3 v4:Option V) (ys:List V) (ms:List Mv),σ=[some (.ref v),some (.str h),some (.ref lm),v3,v4]/\Same H H'/\H' l1=some (.lst ((nb hs ts h).map V.str))/\H' lm=some (.lst ys)/\a4' K H' ys (ms.map kM)/\ms.length<=63 * i/\cr' hs ts qs f h ms ((nb hs ts h).drop i)=bF' hs ts qs f h) ⟨none,none,[],[],rfl,s02,e2,s2 _ _ e1,.nil,ai' _,rfl⟩ (λi σ H' _ ⟨_,_,_,_,_,_,z,_⟩=>.of z) ?_ ?_⟩
  ·rintro i x σ H3 hx ⟨v3,v4,ys,ms,rfl,sm3,l3,m3,t3,lms,eq3⟩;obtain⟨o,ho,rfl⟩:=ai_ hx;have hi:i<(nb hs ts h).length:=(ac'.mp ho).1;have om:=inn o (ae' ho);rw[fT_ ho] at eq3;have S3:=S.same sm3;obtain⟨dx3,_,_,_,_,k1,_⟩:=S3.ex;have ly:=a_3 t3;rw[aa'] at ly;refine setG ?_;dsimp only;refine⟨_,rfl,v,dx3,_,rfl,k1,fP_ _ _ _ _ Z0 Z0 Z0 Z0,_,rfl,_,rfl,v,g,p,h,o,hs,ts,qs,fp,f,rfl,S3,W,hh,om,_,_,rfl,rfl,_,rfl,?_⟩;refine ite2 (λc=>?_) (λc=>?_)
   ·have c:0<bB' hs qs f h o:=by simpa using c
    have eq3:cr' hs ts qs f h (ms++shM hs ts qs f (ms.map (·.1)) h o) ((nb hs ts h).drop (i+1))=bF' hs ts qs f h:=by
     rw[cr',a_9 c] at eq3;exact eq3
    refine⟨_,rfl,lm,rfl,⟨_,.of m3⟩,λD hD=>?_⟩;refine as_ (own:=1) (fv:=[]) (xs:=ys) rfl gok1 (λj out H'=>Same H3 H'/\H' D=some (.lst out)/\out=((ms.map (·.1)).take j).map V.str) ⟨Same.new hD,a1_,rfl⟩ (λj out H' _ ⟨sm,_⟩=>.of (sm _ _ m3)) (λout H4 ⟨s4,d4,eo⟩=>?_) (λj x out H' hx ⟨sm,hd,eo⟩=>?_);rotate_left
    ·obtain⟨q,hq,a,rfl,ha⟩:=aL_ t3 hx;have hj:j<ms.length:=(ac'.mp hq).1;refine⟨_,rfl,rfl,λNx hN=>yesT ?_⟩;refine⟨_,rfl,a,_,0,.str q.1,rfl,rfl,.of (sm _ _ ha),L2.bz' (j:=0) rfl,out,hd,?_,hN (out++[.str q.1]) _ ⟨ar_ sm hD,a1_,?_⟩⟩
     ·rw[eo,aa',am'];omega
     ·rw[eo,b0_ (show (ms.map (·.1))[j]? = some q.1 by rw[aj',hq];rfl),an'];rfl
    rw[ly,aT' (by rw[aa'];exact ai' _)] at eo;subst eo;refine setG ?_;dsimp only;have m4:=s4 _ _ m3;refine⟨_,rfl,.inl ⟨rfl,_,.of m4⟩,?_⟩;refine⟨_,rfl,_,rfl,_,rfl,_,rfl,v,g,p,D,h,o,ms.map (·.1),hs,ts,qs,fp,f,rfl,S3.same s4,W,hh,om,d4,λl5 zs H5 s5 n5 e5 t5=>?_⟩;have s35:=s4.trans s5;have m5:=s35 _ _ m3;have lz:=a_3 t5;have hl:=g5_ W (ms.map (·.1)) h o;rw[aa'] at lz;refine⟨lm,l5,ys,zs,rfl,rfl,m5,e5,by omega,?_⟩;refine⟨_,_,ys++zs,ms++shM hs ts qs f (ms.map (·.1)) h o,rfl,λb u e=>?_,?_,a1_,?_,?_,eq3⟩
    ·rw[a5_ (a7_ e nm)];exact s35 _ _ (sm3 _ _ e)
    ·rw[a5_ lml.symm];exact s35 _ _ l3
    ·rw[an'];exact aF_ (aY_ (t3.same s35) m5) (aY_ t5 m5)
    ·rw[ar'];omega
   ·have c:¬0<bB' hs qs f h o:=by simpa using c
    refine⟨_,_,ys,ms,rfl,sm3,l3,m3,t3,by omega,?_⟩;rw[cr',a_4 c] at eq3;exact eq3
  ·rintro σ H3 ⟨v3,v4,ys,ms,rfl,sm3,l3,m3,t3,lms,eq3⟩;rw[aa',List.drop_length] at eq3;refine⟨_,rfl,k lm ys H3 sm3 nm m3 ?_⟩;rw[<- eq3];exact t3
theorem fs_{f0 CS CG CW T:Addr}{fd:Ad}(F:Fun K "moves_from" "moves_from" co' f0 fd)(cL:Cal P w K mg base 5 "moves_by_shares" ["sight","hand"] (c9' K CS CG CW)):FnOk P w K mg base CX0 6 f0 fd ["sight","hand","words"] (bI' K CS CG CW T (λr=>r.2.1="shares") bQ'):=by
 refine F.ok cZ' (λvs H Q E h=>?_) (λcdv A outer s H vs Q E hr h=>?_)
 ·obtain⟨v,g,p,aw,h,hs,ts,qs,fp,f,r,hr,rfl,_⟩:=h;rfl
 ·obtain⟨v,g,p,aw,h,hs,ts,qs,fp,f,r,hr',rfl,le,ha,S,W,hh,tab,k⟩:=h;refine' ⟨_,a3_ ?s0 (a3_ ?s1 (a4_ ?s2)),?kk⟩
  case s0=>exact al_ (ae_ b9_ (au_ ap_ (pv 2) a6_ (λ_ _=>rfl)) ag_ (nomark _)) ah_ a9_
  case s1=>exact al_ (ae_ b9_ (au_ ap_ (pv 2) a6_ (λ_ _=>rfl)) ag_ (nomark _)) ah_ a9_
  case s2=>exact a8_ (af_ cL hr (a0_ (pv 0) (a0_ (pv 1) a2_)))
  case' kk=>skip
  have ln:¬r.2.1="least":=by rw[le];decide +kernel
  have lb:¬r.2.1="below":=by rw[le];decide +kernel
  refine⟨_,rfl,aw,_,_,_,rfl,rfl,ha _,rfl,rfl,_,rfl,?_⟩;rw[aX_,a_7 ln];refine iteF ?_;refine⟨_,rfl,aw,_,_,_,rfl,rfl,ha _,rfl,rfl,_,rfl,?_⟩;rw[aX_,a_7 lb];refine iteF ?_;exact⟨_,rfl,_,rfl,v,g,p,h,hs,ts,qs,fp,f,rfl,S,W,hh,λl ys H' b n e tu=>k l ys H' (But.of b) (tab.same b) n e tu⟩
end
def hit(t u:Str × Str):Bool:=(decide (u.1=t.1) || decide (u.2=t.1)) || (decide (u.1=t.2) || decide (u.2=t.2))
def bk'(rs:List Xb)(t:Str × Str):Nat:=rs.findIdx λr=>!r.any (hit t)
def b1'(K:F__)(H:Hp)(l:Addr)(as:List Addr)(rs:List Xb):Prop:=H l=some (.lst (as.map V.ref))/\Paired (λa r=>∃zs,H a=some (.lst zs)/\a4' K H zs (r.map kT)) as rs
theorem b1'.same{K:F__}{H H':Hp}{l:Addr}{as:List Addr}{rs:List Xb}(h:b1' K H l as rs)(s:Same H H'):b1' K H' l as rs:=⟨s _ _ h.1,Paired.mapP h.2 λa r ⟨zs,e,t⟩=>⟨zs,s _ _ e,t.same s⟩⟩
section
variable{P:Ae}{w:Af}{K:F__}{mg:Str->Option Aa}{base:Heap}
theorem scRow:a3' ["rows","tie","place","row"] ["rows","tie"] (a1' cp'):=f__
inductive spRow (K:F__) (vs:List V) (H:Hp) (Q:VK) (E:XK):Prop
 |mk:∀(l t:Addr) (as:List Addr) (rs:List Xb) (tt:Str × Str),vs=[.ref l,.ref t]->b1' K H l as rs->H t=some (.tup ((kT tt).map kV))->(∀r∈rs,r.length<=1000)->(∀H',Same H H'->Q (.int (bk' rs tt)) H')->spRow K vs H Q E
theorem kw_{f:Addr}{fd:Ad}(F:Fun K "first_row_without" "first_row_without" cp' f fd)(B:Bi mg):FnOk P w K mg base CX0 1 f fd ["rows","tie"] (spRow K):=by
 refine F.ok scRow (λvs H Q E h=>?_) (λcdv A outer s H vs Q E hr h=>?_)
 ·obtain⟨l,t,as,rs,tt,rfl,_⟩:=h;rfl
 ·obtain⟨l,t,as,rs,tt,rfl,R,ht,h1000,k⟩:=h;have sz:=b__
  refine⟨_,a3_ (aV_ b_1 rfl (jn_ (by rfl) B.enum (a0_ (pv 0) a2_)) (bR_ rfl (aq_ (ac_ (i:=2) scRow.nd rfl (Or.inl rfl)) (aq_ (ac_ (i:=3) scRow.nd rfl (Or.inl rfl)) bc_)))
    (a4_ (al_ (aC_ (ay_ (ab_ (ci_ rfl) (by rfl) B.any PyProof.Rows.Boot.«any» (a0_
     (aO_ ["there","tie"] 1 [1] (aj_ (pv 3)) (λfp s H=>ac_ (i:=0) (show (["there","tie"]:List Str).Nodup by decide +kernel) rfl (Or.inl rfl)) (λfp s H=>aK_)
      (λfp s H=>k1_ (aI_ (opK (K:=K) (λK=>rIn K false) cC_) (au_ (ixK (K:=K) rIxT ap_) (pv 1) a6_ (λ_ _=>rfl)) (pv 0) (by with_unfolding_all rfl)) (bf_ (aI_ (opK (K:=K) (λK=>rIn K false) cC_) (au_ (ixK (K:=K) rIxT ap_) (pv 1) a6_ (λ_ _=>rfl)) (pv 0) (by with_unfolding_all rfl))))) a2_)))) (a4_ (a8_ (pv 2))) a9_)))
   (a4_ (a8_ (ab_ av_ (by rfl) B.len b_8 (a0_ (pv 0) a2_)))),?_⟩
  have la:=a_3 R.2;refine⟨_,rfl,l,rfl,⟨_,.of R.1⟩,i3_ (K:=K) (a:=l) (xs:=as.map V.ref) (λi σ H2=>∃(v2 v3:Option V),σ=[some (.ref l),some (.ref t),v2,v3]/\Same H H2/\∀r∈rs.take i,r.any (hit tt)=true) ⟨none,none,rfl,Same.refl H,by simp⟩ (λi σ H2 _ ⟨_,_,_,s2,_⟩=>.of (s2 _ _ R.1)) ?_ ?_⟩
  ·rintro i x σ H2 hx ⟨v2,v3,rfl,s2,past⟩ u hu
   have hi:i<as.length:=by
    have:=(ac'.mp hx).1;rwa [aa'] at this
   have ex:x=.ref as[i]:=by
    rw[aj',ab' hi] at hx;exact (a_8 hx).symm
   subst ex;have hri:i<rs.length:=by omega
   obtain⟨zs,hzs,tz⟩:=an_ R.2 i hi hri;have s3:Same H (upd H2 u (.tup [.int i,.ref as[i]])):=s2.trans (Same.new hu);have hu3:upd H2 u (.tup [.int i,.ref as[i]]) u=some (.tup [.int i,.ref as[i]]):=a1_;generalize upd H2 u (.tup [.int i,.ref as[i]])=H3 at s3 hu3 ⊢;refine⟨u,_,rfl,.of hu3,rfl,_,_,rfl,_,_,rfl,rfl,?_⟩;refine⟨_,rfl,as[i],rfl,⟨_,.of (s3 _ _ hzs)⟩,λD hD=>?_⟩;have lz:=a_3 tz;rw[aa'] at lz;have lr:=h1000 rs[i] (aC' hri);refine as_ (own:=1) (fv:=[some (.ref t)]) (xs:=zs) rfl gok1 (λj out H'=>Same H3 H'/\H' D=some (.lst out)/\out=((rs[i].take j).map (hit tt)).map V.bl) ⟨Same.new hD,a1_,rfl⟩ (λj out H' _ ⟨sm,_,_⟩=>.of (sm _ _ (s3 _ _ hzs))) (λout H4 ⟨s4,hD4,eo⟩=>?_) (λj y out H' hy ⟨sm,hD',eo⟩=>?_)
   ·rw[lz,ao'] at eo;subst eo;refine⟨D,rs[i].map (hit tt),rfl,.of hD4,⟨_,rfl,?_⟩⟩;have eany:(rs[i].map (hit tt)).any id=rs[i].any (hit tt):=by rw[List.any_map];rfl
    refine ite2 (λc=>?_) (λc=>?_)
    ·have c:rs[i].any (hit tt)=false:=by
      have:(!(rs[i].map (hit tt)).any id)=true:=c;rw[eany] at this;simpa using this
     have e:bk' rs tt=i:=by
      unfold bk';rw[List.findIdx_eq hri];refine⟨by rw[c];rfl,λj hj=>?_⟩;have:=past (rs[j]' Z1) (List.mem_iff_getElem?.mpr ⟨j,by rw[List.getElem?_take_of_lt hj,ab' Z1]⟩);rw[this];rfl
     refine⟨_,rfl,?_⟩;have:=k H4 (s3.trans s4);rw[e] at this;exact this
    ·have c:rs[i].any (hit tt)=true:=by
      have:¬(!(rs[i].map (hit tt)).any id)=true:=c;rw[eany] at this;simpa using this
     refine⟨_,_,rfl,s3.trans s4,λr hr=>?_⟩;rw[aw',ab' hri] at hr;rcases au'.mp hr with hr|hr
     ·exact past r hr
     ·obtain rfl:r=rs[i]:=by simpa using hr
      exact c
   ·obtain⟨q,hq,a,rfl,ha⟩:=aL_ tz hy;have ha':=sm _ _ (s3 _ _ (hpT ha));have ht':=sm _ _ (s3 _ _ (hpT ht))
    have lo:out.length<sizeLine:=by
     rw[eo,aa',aa',am'];omega
    refine⟨_,rfl,rfl,λNx hN=>yesT ?_⟩;have nx:Nx (upd H' D (.lst (out++[.bl (hit tt q)]))):=hN _ _ ⟨ar_ sm hD,a1_,by rw[aB_ _ hq,an',eo];rfl⟩;refine⟨_,rfl,t,_,_,_,rfl,rfl,.of ht',rfl,_,rfl,a,_,rfl,.inr (.of ha'),rfl,rfl,_,rfl,?_⟩;refine ite2 (λc=>?_) (λc=>?_)
    ·have c:(decide (q.1=tt.1) || decide (q.2=tt.1))=true:=by rw[<- gf_];exact c
     refine⟨out,hD',lo,?_⟩;rwa [show hit tt q=true by unfold hit;rw[c];rfl] at nx
    ·have c:(decide (q.1=tt.1) || decide (q.2=tt.1))=false:=by
      rw[<- gf_];simpa using c
     refine⟨_,rfl,t,_,_,_,rfl,rfl,.of ht',rfl,_,rfl,a,_,rfl,.inr (.of ha'),rfl,rfl,out,hD',lo,?_⟩;rw[show hit tt q=inV (.str tt.2) [.str q.1,.str q.2] by unfold hit;rw[c,Bool.false_or,gf_]] at nx;exact nx
  ·rintro σ H2 ⟨v2,v3,rfl,s2,past⟩;rw[aa',la,ao'] at past;refine⟨_,rfl,l,_,rfl,.inl (.of (s2 _ _ R.1)),?_⟩
   have e:bk' rs tt=rs.length:=by
    unfold bk';rw[List.findIdx_eq_length];intro r hr;rw[past r hr];rfl
   have:=k H2 s2;rw[e] at this;rw[aa',la];exact this
end
abbrev sTurns:Stmt:=bc' sWeb 8
theorem cA_{α β:Type}{F:α->β->Prop}:∀{l:List α} {m:List β},l.length=m.length->(∀(i:Nat) (h1:i<l.length) (h2:i<m.length),F l[i] m[i])->Paired F l m
 |[],[],_,_=>.nil
 |[],_::_,h,_=>by cases h
 |_::_,[],h,_=>by cases h
 |a::l,b::m,h,f=>.cons (f 0 Z2 Z2) (cA_ (by simpa using h) λi h1 h2=>f (i+1) (by simpa using h1) (by simpa using h2))
def bn'(rs:List Xb)(t:Str × Str):List Xb:=if h:bk' rs t<rs.length then rs.set (bk' rs t) (rs[bk' rs t]++[t]) else rs++[[t]]
def turnsOf(ts:Xb):List Xb:=ts.foldl bn' []
theorem iu_(rs:List Xb)(t:Str × Str):bk' rs t<=rs.length:=List.findIdx_le_length
theorem c6_(rs:List Xb)(t:Str × Str):(bn' rs t).length<=rs.length+1:=by
 unfold bn';split
 ·rw[List.length_set];omega
 ·rw[ar'];exact ai' _
variable{t:Str × Str}{rs:List Xb}
theorem bY_{n:Nat}(h:∀r∈rs,r.length<=n):∀r∈bn' rs t,r.length<=n+1:=by
 unfold bn';intro r hr;split at hr
 ·rename_i hlt
  rcases List.mem_or_eq_of_mem_set hr with m|rfl
  ·have:=h r m;omega
  ·have:=h rs[bk' rs t] (aC' hlt);rw[ar'];show rs[bk' rs t].length+1<=n+1;omega
 ·rcases au'.mp hr with m|m
  ·have:=h r m;omega
  ·obtain rfl:r=[t]:=by simpa using m
   simp
theorem b1'.add{K:F__}{H H':Hp}{l a:Addr}{as:List Addr}(h:b1' K H l as rs)(nd:as.Nodup){p:Nat}(hp:p<rs.length)(ha:as[p]? = some a)(hl:H' l=some (.lst (as.map V.ref)))(hz:H' a=some (.lst zs))(tz:a4' K H' zs ((rs[p]++[t]).map kT))(k:∀b o,H b=some o->b≠l->b≠a->H' b=some o)(hla:∀b∈as,b≠l)(kt:∀b xs,H b=some (.tup xs)->H' b=some (.tup xs)):b1' K H' l as (rs.set p (rs[p]++[t])):=by
 have la:=a_3 h.2;refine⟨hl,cA_ (by rw[List.length_set,la]) λi h1 h2=>?_⟩;rw[List.length_set] at h2;obtain⟨hpa,ea⟩:=ac'.mp ha;by_cases e:p=i
 ·subst e;rw[List.getElem_set_self,ea];exact⟨zs,hz,tz⟩
 ·rw[List.getElem_set_ne e];obtain⟨zs2,e2,t2⟩:=an_ h.2 i h1 h2;have ne:as[i]≠a:=λq=>e ((List.getElem_inj nd).mp (ea.trans q.symm));exact⟨zs2,k _ _ e2 (hla _ (aC' h1)) ne,Paired.mapP t2 λy q ⟨c,z,e⟩=>⟨c,z,kt _ _ e⟩⟩
theorem ev_{α β:Type}{F:α->β->Prop}{l:List α}{m:List β}{a:α}{b:β}(h:Paired F l m)(f:F a b):Paired F (l++[a]) (m++[b]):=Paired.snoc h f
section
variable{P:Ae}{w:Af}{K:F__}{mg:Str->Option Aa}{base:Heap}
theorem cT':a3' ["self","rows","tie","place"] ["self"] (a1' sTurns):=f__
inductive da' (K:F__) (C:Addr) (vs:List V) (H:Hp) (Q:VK) (E:XK):Prop
 |mk:∀(p:Addr) (hs:Xa) (ts:Xb) (fp:List Addr),vs=[.ref p]->bd' K C H p hs ts fp->ts.length<64->(∀(l:Addr) (as:List Addr) (H':Hp),Same H H'->H l=none->(∀a∈as,H a=none)->(∀a∈as,a≠l)->as.Nodup->b1' K H' l as (turnsOf (tsOf ts))->Q (.ref l) H')->da' K C vs H Q E
theorem hU_{f C:Addr}{fd:Ad}(F:Fun K "turns" "Web.turns" sTurns f fd)(B:Bi mg)(T:Txt K mg C)(cT:CalM P w K mg base C 2 "ties" ["self"] (b6' K C))(cR:Cal P w K mg base 1 "first_row_without" ["rows","tie"] (spRow K)):FnOk P w K mg base CX0 3 f fd ["self"] (da' K C):=by
 refine F.ok cT' (λvs H Q E h=>?_) (λcdv A outer s H vs Q E hr h=>?_)
 ·obtain⟨p,hs,ts,fp,rfl,_⟩:=h;rfl
 ·obtain⟨p,hs,ts,fp,rfl,W,h64,k⟩:=h;have sz:=b__;have hr1:Room 1 _:=hr.mono (by decide);obtain⟨dx,d1,l2,d3,zs0,as0,efp,h1,_⟩:=id W.ex;have noT:(flds d1 l2 d3).lookup ("ties":Str)=none:=az_ _ _ _ Z0 Z0 Z0
  refine⟨_,a3_ (ad_ (i:=1) cT'.nd rfl (Or.inl rfl) (ax_ a2_))
   (a3_ (aV_ b_1 rfl (aj_ (b3_ cT T.cl hr (pv 0))) (ac_ (i:=2) cT'.nd rfl (Or.inl rfl))
    (a3_ (ad_ (i:=3) cT'.nd rfl (Or.inl rfl) (af_ cR hr1 (a0_ (pv 1) (a0_ (pv 2) a2_))))
    (a3_ (al_ (ae_ b9_ (pv 3) (ab_ av_ (by rfl) B.len b_8 (a0_ (pv 1) a2_)) (nomark _))
     (a4_ (b8_ (cT_ b_4 PySem.F.slot_list_append PySem.F.type_list_append bj_ (pv 1) (a0_ (ax_ a2_) a2_)))) a9_)
    (a4_ (b8_ (cT_ b_4 PySem.F.slot_list_append PySem.F.type_list_append bj_ (au_ b6_ (pv 1) (pv 3) (λ_ _=>rfl)) (a0_ (pv 2) a2_)))))))
   (a4_ (a8_ (pv 1)))),?_⟩
  refine⟨by show 0<=sizeLine;decide,λlr hlr=>?_⟩;have s0:Same H (upd H lr (.lst [])):=Same.new hlr;have hlr0:upd H lr (.lst []) lr=some (.lst []):=a1_;generalize upd H lr (.lst [])=H0 at s0 hlr0 ⊢;refine⟨_,rfl,p,dx,_,rfl,s0 _ _ h1,noT,p,hs,ts,fp,rfl,W.same s0,h64,λlt zs H1 s1 hlt hlt1 tz=>?_⟩;have nlt:lt≠lr:=(a7_ hlr0 hlt).symm;have lz:=a_3 tz;rw[aa',bo_] at lz;have ltl:=bo_ ts
  refine⟨lt,rfl,⟨_,.of hlt1⟩,aH_ (K:=K) (a:=lt) (xs:=zs) (λi σ H2=>∃(v2 v3:Option V) (as:List Addr),σ=[some (.ref p),some (.ref lr),v2,v3]/\But lr H1 H2/\(∀a∈as,H1 a=none/\a≠lr)/\as.Nodup/\b1' K H2 lr as (turnsOf ((tsOf ts).take i))/\(turnsOf ((tsOf ts).take i)).length<=i/\∀r∈turnsOf ((tsOf ts).take i),r.length<=i)
   ⟨none,none,[],rfl,But.refl _ _,by simp,.nil,⟨s1 _ _ hlr0,.nil⟩,ai' _,by intro r hr;simp[turnsOf] at hr⟩ (λi σ H2 _ ⟨_,_,_,_,b,_⟩=>.of (b _ _ hlt1 nlt)) ?_ ?_⟩
  ·rintro i y σ H2 hy ⟨v2,v3,as,rfl,b2,fa,nd,R,l1,l2'⟩;obtain⟨t,ht,a,rfl,ha⟩:=aL_ tz hy;have hi:i<(tsOf ts).length:=(ac'.mp ht).1;have hlr1:=s1 _ _ hlr0;have nal:a≠lr:=aM_ ha hlr1 nofun;have ha2:=b2 _ _ ha nal;have la:=a_3 R.2
   have est:turnsOf ((tsOf ts).take (i+1))=bn' (turnsOf ((tsOf ts).take i)) t:=by
    unfold turnsOf;rw[aw',ht,List.foldl_append];rfl
   generalize turnsOf ((tsOf ts).take i)=rs at R l1 l2' la est;refine⟨_,rfl,_,rfl,lr,a,as,rs,t,rfl,R,ha2,λr hr=>by have:=l2' r hr;omega,λH3 s3=>?_⟩;have R3:=R.same s3;have ha3:=s3 _ _ ha2;have b3:But lr H1 H3:=b2.trans (But.of s3);have f3:∀a∈as,H1 a=none/\a≠lr:=fa;refine⟨_,rfl,_,rfl,lr,_,rfl,.inl (.of R3.1),rfl,_,rfl,?_⟩;refine ite2 (λc=>?_) (λc=>?_)
   ·have c:bk' rs t=rs.length:=by
     have:V.int (bk' rs t)=V.int ((as.map V.ref).length:Nat):=by simpa using c
     rw[aa',la] at this;have:=V.int.inj this;omega
    refine⟨_,rfl,.inl ⟨rfl,_,.of R3.1⟩,by show 0<=sizeLine;decide,λln hln=>?_⟩;obtain⟨s4,hln4⟩:=nw__ (o:=.lst []) hln;have nlr:ln≠lr:=(a7_ R3.1 hln).symm;refine⟨lr,_,_,rfl,rfl,s4 _ _ R3.1,by rw[aa'];omega,?_⟩
    have fln:H1 ln=none:=by
     cases z:H1 ln with
     |none=>rfl
     |some o=>
      have:=b3 _ _ z nlr;rw[hln] at this;cases this
    have nin:ln∉as:=λm=>by
     obtain⟨j,hj,e⟩:=aB' m;obtain⟨zz,e2,_⟩:=an_ R3.2 j hj Z1;rw[e,hln] at e2;cases e2
    have atl:atI (as.map V.ref++[V.ref ln]) (bk' rs t:Int)=some (.ref ln):=by
     rw[bz' Z1 (by rw[ar',aa'];show ((bk' rs t:Nat):Int)<((as.length+1:Nat):Int);omega),aU',c,aL' (by rw[aa'];omega),aa',la,Nat.sub_self];rfl
    have hlr5:upd (upd H3 ln (.lst [])) lr (.lst (as.map V.ref++[.ref ln])) lr=some (.lst (as.map V.ref++[.ref ln])):=a1_;have hln5:upd (upd H3 ln (.lst [])) lr (.lst (as.map V.ref++[.ref ln])) ln=some (.lst []):=by rw[a5_ nlr];exact hln4
    have k5:∀{b o},H3 b=some o->b≠lr->upd (upd H3 ln (.lst [])) lr (.lst (as.map V.ref++[.ref ln])) b=some o:=λe ne=>by rw[a5_ ne];exact s4 _ _ e
    generalize upd (upd H3 ln (.lst [])) lr (.lst (as.map V.ref++[.ref ln]))=H5 at hlr5 hln5 k5 ⊢;refine⟨_,rfl,_,rfl,lr,_,_,_,rfl,rfl,.of hlr5,atl,.inl ⟨rfl,_,.of hln5⟩,_,rfl,ln,_,_,rfl,rfl,hln5,by show 0<sizeLine;decide,?_⟩;have k6:∀{b o},H3 b=some o->b≠lr->upd H5 ln (.lst ([]++[.ref a])) b=some o:=λe ne=>by rw[a5_ (a7_ e hln)];exact k5 e ne
    have hln6:upd H5 ln (.lst ([]++[.ref a])) ln=some (.lst [.ref a]):=a1_;have hlr6:upd H5 ln (.lst ([]++[.ref a])) lr=some (.lst (as.map V.ref++[.ref ln])):=by rw[a5_ nlr.symm];exact hlr5
    generalize upd H5 ln (.lst ([]++[.ref a]))=H6 at k6 hln6 hlr6 ⊢;have kt:∀b xs,H3 b=some (.tup xs)->H6 b=some (.tup xs):=λb xs e=>k6 e (aM_ e R3.1 nofun)
    have ep:bn' rs t=rs++[[t]]:=by
     unfold bn';rw[dif_neg Z1]
    refine⟨_,_,as++[ln],rfl,λb o e ne=>k6 (b3 _ _ e ne) ne,λx hx=>?_,?_,?_,?_,?_⟩
    ·rcases au'.mp hx with m|m
     ·exact fa x m
     ·obtain rfl:x=ln:=by simpa using m
      exact⟨fln,nlr⟩
    ·rw[List.nodup_append]
     exact⟨nd,by simp,λx hx z hz=>by
      obtain rfl:z=ln:=by simpa using hz
      exact λq=>nin (q▸hx)⟩
    ·rw[est,ep];refine⟨by rw[an'];exact hlr6,ev_ (cA_ la λj h1 h2=>?_) ⟨_,hln6,.cons ⟨a,rfl,kt _ _ ha3⟩ .nil⟩⟩;obtain⟨zz,e,tt⟩:=an_ R3.2 j h1 h2;exact⟨zz,k6 e (fa _ (aC' h1)).2,Paired.mapP tt λy q ⟨c,z,e⟩=>⟨c,z,kt _ _ e⟩⟩
    ·rw[est];have:=c6_ rs t;omega
    ·rw[est];exact bY_ l2'
   ·have c:bk' rs t<rs.length:=by
     have h1:=iu_ rs t
     have:¬bk' rs t=rs.length:=λe=>c (by
      rw[aa',la,e];simp)
     omega
    have hpa:bk' rs t<as.length:=by omega
    have nl:as[bk' rs t]≠lr:=(fa _ (aC' hpa)).2;obtain⟨zz,ez,tzz⟩:=an_ R3.2 (bk' rs t) hpa c;have lzz:=a_3 tzz;rw[aa'] at lzz;have lrow:=l2' _ (aC' c)
    have atl:atI (as.map V.ref) (bk' rs t:Int)=some (.ref as[bk' rs t]):=by
     rw[bz' Z1 (by rw[aa'];omega),aU',aj',ab' hpa];rfl
    refine⟨_,rfl,_,rfl,lr,_,_,_,rfl,rfl,.of R3.1,atl,.inl ⟨rfl,_,.of ez⟩,_,rfl,_,_,_,rfl,rfl,ez,by omega,?_⟩;have k6:∀{b o},H3 b=some o->b≠as[bk' rs t]->upd H3 as[bk' rs t] (.lst (zz++[.ref a])) b=some o:=λe ne=>by rw[a5_ ne];exact e
    have h6:upd H3 as[bk' rs t] (.lst (zz++[.ref a])) as[bk' rs t]=some (.lst (zz++[.ref a])):=a1_;generalize upd H3 as[bk' rs t] (.lst (zz++[.ref a]))=H6 at k6 h6 ⊢;have kt:∀b xs,H3 b=some (.tup xs)->H6 b=some (.tup xs):=λb xs e=>k6 e (aM_ e ez nofun)
    have ep:bn' rs t=rs.set (bk' rs t) (rs[bk' rs t]++[t]):=by
     unfold bn';rw[dif_pos c]
    refine⟨_,_,as,rfl,λb o e ne=>k6 (b3 _ _ e ne) (a7_ e (fa _ (aC' hpa)).1),fa,nd,?_,?_,?_⟩
    ·rw[est,ep];refine R3.add nd c (ab' hpa) (k6 R3.1 nl.symm) h6 ?_ (λb o e _ ne=>k6 e ne) (λb hb=>(fa b hb).2) kt;rw[an'];exact cy_ (Paired.mapP tzz λy q ⟨c,z,e⟩=>⟨c,z,kt _ _ e⟩) (kt _ _ ha3)
    ·rw[est];have:=c6_ rs t;omega
    ·rw[est];exact bY_ l2'
  ·rintro σ H2 ⟨v2,v3,as,rfl,b2,fa,nd,R,_,_⟩;rw[lz,<- ltl,ao'] at R;have s2:Same H H2:=λb o e=>b2 _ _ (s1 _ _ (s0 _ _ e)) (a7_ e hlr);exact⟨_,rfl,k lr as H2 s2 hlr (λa ha=>(s0.trans s1).free (fa a ha).1) (λa ha=>(fa a ha).2) nd R⟩
end
end Ev
namespace L2
open PySem PyProof.Rows
inductive rEqNil (K:F__) (x:V) (y:V) (H:Hp) (Q:VK):Prop
 |mk:∀a b xs,x=.ref a->y=.ref b->SqL K H a xs->SqL K H b []->Q (.bl xs.isEmpty) H->rEqNil K x y H Q
variable{X:Cx}
theorem i1_(hu:X.A.units+0+1<cLine):OpR X (compareOp .Eq) (rEqNil X.K):=by
 intro pins s σ H x y v u Q I rx ry h;obtain⟨a,b,xs,rfl,rfl,t,t',hq⟩:=h;cases xs with
 |nil=>exact j2_ cmpS hu pins s σ H (.ref a) (.ref b) v u Q I rx ry ⟨[],[],⟨a,[],rfl,t,.nil⟩,⟨b,[],rfl,t',.nil⟩,hq⟩
 |cons z zs=>
  cases rx;cases ry;obtain⟨us,r,pl,_⟩:=I.list t;obtain⟨vs,r',pl',_⟩:=I.list t';have l1:=r.length;have l2:=r'.length;exact SeqAt.eq_list_lengthsAt pl.isList pl'.isList (by simp only[ah',bne_iff_ne];simp at l1 l2;omega) Z1 ⟨.bl false,H,I,rfl,hq⟩
end L2
namespace Ev
open PySem L2
def bi'(ts:Xb)(m:Int):Xb:=((turnsOf (tsOf ts))[(m % ((turnsOf (tsOf ts)).length:Int)).toNat]?).getD []
def cj'(hs:Xa)(ts:Xb)(qs:List Pc)(f:Str->Str)(gd:Str)(t:Str × Str):List Mv:=hmv hs ts qs f gd [] t.1 t.2++hmv hs ts qs f gd [] t.2 t.1
def ck'(hs:Xa)(ts:Xb)(qs:List Pc)(f:Str->Str)(gd:Str)(m:Int):List Mv:=(bi' ts m).flatMap (cj' hs ts qs f gd)
variable{u:Str × Str}
theorem fQ_{rs:List Xb}{t:Str × Str}{r:Xb}(hr:r∈bn' rs t)(hu:u∈r):u=t∨∃r'∈rs,u∈r':=by
 unfold bn' at hr;split at hr
 ·rename_i hlt
  rcases List.mem_or_eq_of_mem_set hr with m|rfl
  ·exact .inr ⟨r,m,hu⟩
  ·rcases au'.mp hu with h|h
   ·exact .inr ⟨_,aC' hlt,h⟩
   ·exact .inl (by simpa using h)
 ·rcases au'.mp hr with m|m
  ·exact .inr ⟨r,m,hu⟩
  ·obtain rfl:r=[t]:=by simpa using m
   exact .inl (by simpa using hu)
theorem dQ_{u:Str × Str}:∀(ts:Xb) (rs:List Xb) {r:Xb},r∈ts.foldl bn' rs->u∈r->u∈ts∨∃r'∈rs,u∈r'
 |[],rs,r,hr,hu=>.inr ⟨r,hr,hu⟩
 |t::ts,rs,r,hr,hu=>by
  rw[List.foldl_cons] at hr;rcases dQ_ ts (bn' rs t) hr hu with h|⟨r',h1,h2⟩
  ·exact .inl (ad' _ h)
  ·rcases fQ_ h1 h2 with rfl|h
   ·exact .inl ag'
   ·exact .inr h
theorem ek_:∀(ts:Xb) (rs:List Xb),(ts.foldl bn' rs).length<=rs.length+ts.length
 |[],rs=>ai' _
 |t::ts,rs=>by
  rw[List.foldl_cons,az'];have h1:=ek_ ts (bn' rs t);have h2:=c6_ rs t;omega
theorem eg_{n:Nat}:∀(ts:Xb) (rs:List Xb),(∀r∈rs,r.length<=n)->∀r∈ts.foldl bn' rs,r.length<=n+ts.length
 |[],rs,h,r,hr=>h r hr
 |t::ts,rs,h,r,hr=>by
  rw[List.foldl_cons] at hr;have:=eg_ (n:=n+1) ts (bn' rs t) (bY_ h) r hr;rw[az'];omega
theorem d1_{ts:Xb}{m:Int}(h:u∈bi' ts m):u∈tsOf ts:=by
 unfold bi' at h;cases e:(turnsOf (tsOf ts))[(m % ((turnsOf (tsOf ts)).length:Int)).toNat]? with
 |none=>rw[e] at h;cases h
 |some r=>
  rw[e] at h;rcases dQ_ (tsOf ts) [] (ae' e) h with z|⟨_,z,_⟩
  ·exact z
  ·cases z
theorem eC_{hs:Xa}{ts:Xb}(G:Good hs ts)(m:Int):(bi' ts m).length<64:=by
 unfold bi';cases e:(turnsOf (tsOf ts))[(m % ((turnsOf (tsOf ts)).length:Int)).toNat]? with
 |none=>show 0<64;decide
 |some r=>
  have:=eg_ (n:=0) (tsOf ts) [] Z2 r (ae' e);rw[bo_] at this;have:=G.t64;show r.length<64;omega
theorem fd_{hs:Xa}{ts:Xb}(G:Good hs ts)(h:u∈tsOf ts):u.1∈a2' hs/\u.2∈a2' hs:=by
 have k:kT u∈(tsOf ts).map kT:=af'.mpr ⟨u,h,rfl⟩;rw[bX_,(ao_ _).mem_iff] at k;obtain⟨t,ht,e⟩:=af'.mp k;have e:=eL_ e;obtain⟨h1,h2⟩:=G.tin t ht;have n1:=(aw_ hs).mem_iff.mpr h1;have n2:=(aw_ hs).mem_iff.mpr h2;rw[<- e];unfold ord2;split
 ·exact⟨n1,n2⟩
 ·exact⟨n2,n1⟩
theorem fc_{α β:Type}{g:α->List β}{n:Nat}(h:∀x,(g x).length<=n):∀l:List α,(l.flatMap g).length<=n * l.length
 |[]=>aD' _
 |a::l=>by
  have h1:=h a;have h2:=fc_ h l;rw[List.flatMap_cons,ar',az',Nat.mul_succ];omega
theorem fF_(hs:Xa)(ts:Xb)(qs:List Pc)(f:Str->Str)(gd:Str)(t:Str × Str):(cj' hs ts qs f gd t).length<=2:=by
 unfold cj';rw[ar'];have h1:=bG_ hs ts qs f gd [] t.1 t.2;have h2:=bG_ hs ts qs f gd [] t.2 t.1;omega
section
variable{P:Ae}{w:Af}{K:F__}{mg:Str->Option Aa}{base:Heap}
theorem bA':a3' ["sight","guard","moment","rows","moves","one","other"] ["sight","guard","moment"] (a1' db'):=f__
inductive cm' (K:F__) (CS CG CW:Addr) (vs:List V) (H:Hp) (Q:VK) (E:XK):Prop
 |mk:∀(v g p:Addr) (gd:Str) (m:Int) (hs:Xa) (ts:Xb) (qs:List Pc) (fp:List Addr) (f:Str->Str),vs=[.ref v,.str gd,.int m]->0<=m->bb' K CS CG CW H v g p hs ts qs fp f->Wd hs ts qs f->(∀l ys H',Same H H'->H l=none->H' l=some (.lst ys)->a4' K H' ys ((ck' hs ts qs f gd m).map kM)->Q (.ref l) H')->cm' K CS CG CW vs H Q E
theorem fm_{f0 CS CG CW:Addr}{fd:Ad}(F:Fun K "moves_by_turns" "moves_by_turns" db' f0 fd)(B:Bi mg)(TS:TxtS K CS)(TG:TxtG K CG)(TW:Txt K mg CW)(cT:CalM P w K mg base CW 3 "turns" ["self"] (da' K CW))(cH:Cal P w K mg base 4 "heaviest_move" ["sight","one","other","guard","given"] (spHvM K CS CG CW)):FnOk P w K mg base CX0 5 f0 fd ["sight","guard","moment"] (cm' K CS CG CW):=by
 refine F.ok bA' (λvs H Q E h=>?_) (λcdv A outer s H vs Q E hr h=>?_)
 ·obtain⟨v,g,p,gd,m,hs,ts,qs,fp,f,rfl,_⟩:=h;rfl
 ·obtain⟨v,g,p,gd,m,hs,ts,qs,fp,f,rfl,m0,S,W,k⟩:=h;have sz:=b__;have hr3:Room 3 _:=hr.mono (by decide);refine' ⟨_,?r0,?kk⟩
  case' r0=>refine' a3_ ?s1 ?r1
  case' r1=>refine' a3_ ?s2 ?r2
  case' r2=>refine' a3_ ?s3 (a3_ ?s4 (a4_ ?s5))
  case s1=>exact ad_ (i:=3) bA'.nd rfl (Or.inl rfl) (b3_ cT TW.cl hr3 (ak_ (ak_ (pv 0) rfl) rfl))
  case s2=>exact al_ (ae_ (i1_ (bG' hr 0)) (pv 3) (ax_ a2_) (nomark _)) (a4_ (a8_ (ax_ a2_))) a9_
  case s3=>exact ad_ (i:=4) bA'.nd rfl (Or.inl rfl) (ax_ a2_)
  case' s4=>refine' aV_ b_1 rfl (aj_ (au_ b6_ (pv 3) (am_ bU_ (pv 2) (ab_ av_ (by rfl) B.len b_8 (a0_ (pv 3) a2_))) (λ_ _=>rfl))) (bR_ rfl (aq_ (ac_ (i:=5) bA'.nd rfl (Or.inl rfl)) (aq_ (ac_ (i:=6) bA'.nd rfl (Or.inl rfl)) bc_))) (a3_ ?b1 (a4_ ?b2))
  case b1=>exact b8_ (cT_ b_4 PySem.F.slot_list_extend PySem.F.type_list_extend bt_ (pv 4) (a0_ (af_ cH hr (a0_ (pv 0) (a0_ (pv 5) (a0_ (pv 6) (a0_ (pv 1) (a0_ (ax_ a2_) a2_)))))) a2_))
  case b2=>exact b8_ (cT_ b_4 PySem.F.slot_list_extend PySem.F.type_list_extend bt_ (pv 4) (a0_ (af_ cH hr (a0_ (pv 0) (a0_ (pv 6) (a0_ (pv 5) (a0_ (pv 1) (a0_ (ax_ a2_) a2_)))))) a2_))
  case s5=>exact a8_ (pv 4)
  case' kk=>skip
  obtain⟨dx,dl,dv,dp,ad,h1,G,h3,h4,h5,h6⟩:=S.ex;obtain⟨dxg,dw,dy,vs,fpw,g1,g2,_⟩:=id G.ex;obtain⟨dxw,d1,l2,d3,zs0,as0,ef,w1,_⟩:=id g2.ex;have hnw:(flds d1 l2 d3).lookup ("turns":Str)=none:=az_ _ _ _ Z0 Z0 Z0;refine⟨_,rfl,v,CS,dx,_,_,rfl,h1,TS.cl,TS.nW,sf_g _ _ _ _,g,CG,dxg,_,_,rfl,g1,TG.cl,TG.nW,aJ_ _ _ _,p,dxw,_,rfl,w1,hnw,p,hs,ts,fpw,rfl,g2,W.Gd.t64,λlr as H1 s1 nr _ _ _ R=>?_⟩;refine setG ?_;dsimp only;have la:=a_3 R.2;refine⟨_,rfl,by show 0<=sizeLine;decide,λle ne=>?_⟩;obtain⟨s12,e2⟩:=nw__ (o:=.lst []) ne;generalize upd H1 le (.lst [])=H2 at s12 e2 ⊢;have s2:=s1.trans s12;have R2:=R.same s12;refine⟨lr,le,_,rfl,rfl,.of R2.1,.of e2,_,rfl,?_⟩;refine ite2 (λc=>?_) (λc=>?_)
  ·have z:as=[]:=by simpa using c
   have z:turnsOf (tsOf ts)=[]:=by
    rw[z] at la;exact aS'.mp la.symm
   refine⟨by show 0<=sizeLine;decide,λl nl=>?_⟩;refine k l [] _ (s2.trans (Same.new nl)) (s2.free nl) a1_ ?_;unfold ck' bi';rw[z];exact .nil
  ·have z:as≠[]:=by simpa using c
   have pos:0<as.length:=List.length_pos_iff.mpr z;refine⟨by show 0<=sizeLine;decide,λlm nm=>?_⟩;refine setG ?_;dsimp only;obtain⟨s23,e3⟩:=nw__ (o:=.lst []) nm;generalize upd H2 lm (.lst [])=H3 at s23 e3 ⊢;have s3:=s2.trans s23;have nm0:H lm=none:=s2.free nm;have R3:=R2.same s23
   have lt:(m % ((turnsOf (tsOf ts)).length:Int)).toNat<as.length:=by
    have h1:=aY' m (show ((as.length:Nat):Int)≠0 by omega);have h2:=aX' m (show 0<((as.length:Nat):Int) by omega);rw[<- la];omega
   have lt':(m % ((turnsOf (tsOf ts)).length:Int)).toNat<(turnsOf (tsOf ts)).length:=by omega
   obtain⟨zs,hz,tz⟩:=an_ R2.2 _ lt lt'
   have er:bi' ts m=(turnsOf (tsOf ts))[(m % ((turnsOf (tsOf ts)).length:Int)).toNat]:=by
    unfold bi';rw[ab' lt'];rfl
   rw[<- er] at tz;have lm63:=eC_ W.Gd m;have rin:∀u∈bi' ts m,u.1∈a2' hs/\u.2∈a2' hs:=λu hu=>fd_ W.Gd (d1_ hu);have h0:=aY' m (show (((turnsOf (tsOf ts)).length:Nat):Int)≠0 by omega)
   have ix:atI (as.map V.ref) (m % ((as.map V.ref).length:Int))=some (.ref (as[(m % ((turnsOf (tsOf ts)).length:Int)).toNat])):=by
    rw[aa',la,bz' h0 (by rw[aa'];omega),aj',ab' lt];rfl
   generalize as[(m % ((turnsOf (tsOf ts)).length:Int)).toNat]=ar at hz ix;have lz:=a_3 tz;rw[aa'] at lz;have arlm:ar≠lm:=a7_ hz nm;replace hz:=s23 _ _ hz;replace tz:=tz.same s23;refine⟨_,rfl,_,rfl,_,rfl,lr,_,rfl,.inl (.of R3.1),_,_,rfl,rfl,by rw[aa'];omega,lr,_,_,_,rfl,rfl,.of R3.1,ix,ar,rfl,⟨_,.of hz⟩,aH_ (K:=K) (a:=ar) (xs:=zs) (λi σ H'=>∃(v5 v6:Option V) (ys:List V),σ=[some (.ref v),some (.str gd),some (.int m),some (.ref lr),some (.ref lm),v5,v6]/\Same H H'/\But lm H3 H'/\H' lm=some (.lst ys)/\a4' K H' ys ((((bi' ts m).take i).flatMap (cj' hs ts qs f gd)).map kM)) ⟨none,none,[],rfl,s3,But.refl _ _,e3,.nil⟩ (λi σ H' _ ⟨_,_,_,_,_,b,_⟩=>.of (b _ _ hz arlm)) ?_ ?_⟩
   ·rintro i x σ H4 hx ⟨v5,v6,ys,rfl,s4,b4,m4,t4⟩;obtain⟨u,hu,a,rfl,ha⟩:=aL_ tz hx;have hi:i<(bi' ts m).length:=(ac'.mp hu).1;obtain⟨n1,n2⟩:=rin u (ae' hu);have ha4:H4 a=some (.tup [.str u.1,.str u.2]):=b4 _ _ ha (aM_ ha e3 nofun);refine⟨a,_,rfl,.of ha4,rfl,_,_,rfl,_,_,rfl,rfl,?_⟩;dsimp only;have ly:=a_3 t4;rw[aa'] at ly;have bl:=fc_ (fF_ hs ts qs f gd) ((bi' ts m).take i);rw[am'] at bl;have l1:=bG_ hs ts qs f gd [] u.1 u.2;have l2':=bG_ hs ts qs f gd [] u.2 u.1;refine⟨_,rfl,.inl ⟨rfl,_,.of m4⟩,_,rfl,_,rfl,_,rfl,_,rfl,by show 0<=sizeLine;decide,λlg ng=>?_⟩;obtain⟨s45,e5⟩:=nw__ (o:=.lst []) ng;generalize upd H4 lg (.lst [])=H5 at s45 e5 ⊢;refine⟨v,g,p,lg,u.1,u.2,gd,[],hs,ts,qs,fp,f,rfl,S.same (s4.trans s45),W,n1,n2,e5,λl6 z6 H6 s56 n6 e6 t6=>?_⟩;have s46:=s45.trans s56;have m6:=s46 _ _ m4;have lz6:=a_3 t6;rw[aa'] at lz6;refine⟨lm,l6,ys,z6,rfl,rfl,m6,e6,by omega,?_⟩;have s7:Same H (upd H6 lm (.lst (ys++z6))):=ar_ (s4.trans s46) nm0;have b7:But lm H3 (upd H6 lm (.lst (ys++z6))):=λb o e n=>by rw[a5_ n];exact s46 _ _ (b4 _ _ e n)
    have e7:upd H6 lm (.lst (ys++z6)) lm=some (.lst (ys++z6)):=a1_
    have t7:a4' K (upd H6 lm (.lst (ys++z6))) (ys++z6) ((((bi' ts m).take i).flatMap (cj' hs ts qs f gd)++hmv hs ts qs f gd [] u.1 u.2).map kM):=by
     rw[an'];exact aF_ (aY_ (t4.same s46) m6) (aY_ t6 m6)
    generalize upd H6 lm (.lst (ys++z6))=H7 at s7 b7 e7 t7 ⊢;dsimp only;refine⟨_,rfl,.inl ⟨rfl,_,.of e7⟩,_,rfl,_,rfl,_,rfl,_,rfl,by show 0<=sizeLine;decide,λlg2 ng2=>?_⟩;obtain⟨s78,e8⟩:=nw__ (o:=.lst []) ng2;generalize upd H7 lg2 (.lst [])=H8 at s78 e8 ⊢;refine⟨v,g,p,lg2,u.2,u.1,gd,[],hs,ts,qs,fp,f,rfl,S.same (s7.trans s78),W,n2,n1,e8,λl9 z9 H9 s89 n9 e9 t9=>?_⟩;have s79:=s78.trans s89;have m9:=s79 _ _ e7;have lz9:=a_3 t9;have ly7:(ys++z6).length=ys.length+z6.length:=ar';rw[aa'] at lz9;refine⟨lm,l9,ys++z6,z9,rfl,rfl,m9,e9,by omega,?_⟩;refine⟨_,_,(ys++z6)++z9,rfl,ar_ (s7.trans s79) nm0,λb o e n=>by rw[a5_ n];exact s79 _ _ (b7 _ _ e n),a1_,?_⟩;rw[show (bi' ts m).take (i+1)=(bi' ts m).take i++[u] by rw[aw',hu];rfl,List.flatMap_append,List.flatMap_cons,List.flatMap_nil,aN'];unfold cj';rw[<- List.append_assoc,an'];exact aF_ (aY_ (t7.same s79) m9) (aY_ t9 m9)
   ·rintro σ H4 ⟨v5,v6,ys,rfl,s4,b4,m4,t4⟩;rw[lz,ao'] at t4;exact⟨_,rfl,k lm ys H4 s4 nm0 m4 t4⟩
theorem scSeen':a3' ["sight","rule","moment","words","moves","hand"] ["sight","rule","moment"] (a1' sSeen):=f__
inductive dt' (K:F__) (CS CG CW:Addr) (vs:List V) (H:Hp) (Q:VK) (E:XK):Prop
 |mk:∀(v g p:Addr) (m:Int) (gd:Str) (hs:Xa) (ts:Xb) (qs:List Pc) (fp:List Addr) (f:Str->Str),∀r∈rl,vs=[.ref v,.str r.1,.int m]->r.2.1="turns"->r.2.2.2=some gd->0<=m->bb' K CS CG CW H v g p hs ts qs fp f->Wd hs ts qs f->(∀l ys H',Same H H'->H l=none->H' l=some (.lst ys)->a4' K H' ys ((ck' hs ts qs f gd m).map kM)->Q (.ref l) H')->dt' K CS CG CW vs H Q E
theorem hG_{f0 CS CG CW:Addr}{fd:Ad}(F:Fun K "moves_seen" "moves_seen" sSeen f0 fd)(cWo:Cal P w K mg base 2 "checked_words" ["rule"] (bL' K))(cT:Cal P w K mg base 5 "moves_by_turns" ["sight","guard","moment"] (cm' K CS CG CW)):FnOk P w K mg base CX0 6 f0 fd ["sight","rule","moment"] (dt' K CS CG CW):=by
 refine F.ok scSeen' (λvs H Q E h=>?_) (λcdv A outer s H vs Q E hr h=>?_)
 ·obtain⟨v,g,p,m,gd,hs,ts,qs,fp,f,r,hr,rfl,_⟩:=h;rfl
 ·obtain⟨v,g,p,m,gd,hs,ts,qs,fp,f,r,hr',rfl,le,eg,m0,S,W,k⟩:=h;have hr2:Room 2 _:=hr.mono (by decide);refine' ⟨_,a3_ ?s1 (a3_ ?s2 ah_),?kk⟩
  case s1=>exact ad_ (i:=3) scSeen'.nd rfl (Or.inl rfl) (af_ cWo hr2 (a0_ (pv 1) a2_))
  case s2=>exact al_ (ae_ b9_ (au_ ap_ (pv 3) a6_ (λ_ _=>rfl)) ag_ (nomark _)) (a4_ (a8_ (af_ cT hr (a0_ (pv 0) (a0_ (au_ ap_ (pv 3) a6_ (λ_ _=>rfl)) (a0_ (pv 2) a2_)))))) a9_
  case' kk=>skip
  refine⟨_,rfl,r,hr',rfl,λaw ha=>?_⟩;refine setG ?_;dsimp only;refine⟨_,rfl,aw,_,_,_,rfl,rfl,ha _,rfl,rfl,_,rfl,?_⟩;rw[aX_,a_2 le];refine iteT ?_;refine⟨_,rfl,_,rfl,aw,_,_,.str gd,rfl,rfl,ha _,?_,_,rfl,v,g,p,gd,m,hs,ts,qs,fp,f,rfl,m0,S,W,k⟩;rw[eg];rfl
end
variable{fd:Ad}
theorem FnOk.two{P:Ae}{w:Af}{K:F__}{mg:Str->Option Aa}{base:Heap}{CX:CXT}{k:Nat}{f:Addr}{ps:List Str}{sp sp1 sp2:Sp}(F:FnOk P w K mg base CX k f fd ps sp1)(G:FnOk P w K mg base CX k f fd ps sp2)(h:∀vs H Q E,sp vs H Q E->sp1 vs H Q E∨sp2 vs H Q E):FnOk P w K mg base CX k f fd ps sp:=
 ⟨λvs H Q E q=>(h vs H Q E q).elim (F.len vs H Q E) (G.len vs H Q E),λA outer s H args us vs Q E hr e b v q=>(h vs H Q E q).elim (F.run A outer s H args us vs Q E hr e b v) (G.run A outer s H args us vs Q E hr e b v)⟩
def cz':MvR:=λr hs ts qs f h=>if r.2.1="least" then b8' r hs ts qs f h else if r.2.1="below" then b7' r hs ts qs f h else bQ' r hs ts qs f h
theorem gE_:∀r∈rl,r.2.1≠"turns"->r.2.1≠"least"->r.2.1≠"below"->r.2.1="shares":=by decide +kernel
theorem i6_:∀r∈rl,r.2.1="turns"->r.2.2.2.isSome=true:=by decide +kernel
variable{r:Rl}
theorem ea_(h:r.2.1="least")(hs:Xa)(ts:Xb)(qs:List Pc)(f:Str->Str)(x:Str):cz' r hs ts qs f x=b8' r hs ts qs f x:=a_9 h
theorem ee_(h:r.2.1="below")(hs:Xa)(ts:Xb)(qs:List Pc)(f:Str->Str)(x:Str):cz' r hs ts qs f x=b7' r hs ts qs f x:=(a_4 (by rw[h];decide +kernel)).trans (a_9 h)
theorem cV_(h:r.2.1="shares")(hs:Xa)(ts:Xb)(qs:List Pc)(f:Str->Str)(x:Str):cz' r hs ts qs f x=bQ' r hs ts qs f x:=(a_4 (by rw[h];decide +kernel)).trans (a_4 (by rw[h];decide +kernel))
def mvX(r:Rl)(hs:Xa)(ts:Xb)(qs:List Pc)(f:Str->Str)(m:Int):List Mv:=if r.2.1="turns" then ck' hs ts qs f (r.2.2.2.getD "") m else dk' cz' r hs ts qs f
def dZ'(r:Rl)(ts:Xb):Nat:=if r.2.1="turns" then max 1 (turnsOf (tsOf ts)).length else 1
def ei'(r:Rl)(hs:Xa)(ts:Xb)(qs:List Pc)(f:Str->Str):Bool:=(List.range (dZ' r ts)).all λm=>(mvX r hs ts qs f m).isEmpty
def BT(T1 T2:Addr)(H H':Hp):Prop:=∀b o,H b=some o->b≠T1->b≠T2->H' b=some o
variable{H':Hp}
theorem BT.of{T1 T2:Addr}{H:Hp}(s:Same H H'):BT T1 T2 H H':=λb o e _ _=>s b o e
theorem BT.trans{T1 T2:Addr}{H H1 H2:Hp}(a:BT T1 T2 H H1)(b:BT T1 T2 H1 H2):BT T1 T2 H H2:=λc o e n1 n2=>b c o (a c o e n1 n2) n1 n2
theorem BT.nt{T1 T2:Addr}{H:Hp}(a:BT T1 T2 H H')(tb:Tb H T1 T2):NT H H':=λb o e n=>by
 obtain⟨v1,h1⟩:=aS_ tb.a;obtain⟨v2,h2⟩:=aS_ tb.b;exact a b o e (λz=>n v1 (by rw[z,h1] at e;exact (a_8 e).symm)) (λz=>n v2 (by rw[z,h2] at e;exact (a_8 e).symm))
theorem BT.sec{T1 T2:Addr}{H:Hp}(a:But T2 H H'):BT T1 T2 H H':=λb o e _ n=>a b o e n
section
variable{P:Ae}{w:Af}{K:F__}{mg:Str->Option Aa}{base:Heap}{CS CG CW T1 T2:Addr}
theorem fR_{f0:Addr}{T:Addr}(l:FnOk P w K mg base CX0 6 f0 fd ["sight","hand","words"] (bI' K CS CG CW T (λr=>r.2.1="least") b8'))(b:FnOk P w K mg base CX0 6 f0 fd ["sight","hand","words"] (bI' K CS CG CW T (λr=>r.2.1="below") b7'))(s:FnOk P w K mg base CX0 6 f0 fd ["sight","hand","words"] (bI' K CS CG CW T (λr=>r.2.1="shares") bQ')):FnOk P w K mg base CX0 6 f0 fd ["sight","hand","words"] (bI' K CS CG CW T (λr=>r.2.1≠"turns") cz'):=by
 refine FnOk.two l (sp2:=bI' K CS CG CW T (λr=>r.2.1≠"turns"/\r.2.1≠"least") cz') (FnOk.two b s λvs H Q E q=>?_) λvs H Q E q=>?_
 ·obtain⟨v,g,p,aw,h,hs,ts,qs,fp,f,r,hr,e,⟨n1,n2⟩,ha,S,W,hh,tab,k⟩:=q;by_cases c:r.2.1="below"
  ·exact .inl ⟨v,g,p,aw,h,hs,ts,qs,fp,f,r,hr,e,c,ha,S,W,hh,tab,λl ys H' b t n e tu=>k l ys H' b t n e (by rw[ee_ c];exact tu)⟩
  ·have c:=gE_ r hr n1 n2 c;exact .inr ⟨v,g,p,aw,h,hs,ts,qs,fp,f,r,hr,e,c,ha,S,W,hh,tab,λl ys H' b t n e tu=>k l ys H' b t n e (by rw[cV_ c];exact tu)⟩
 ·obtain⟨v,g,p,aw,h,hs,ts,qs,fp,f,r,hr,e,n1,ha,S,W,hh,tab,k⟩:=q;by_cases c:r.2.1="least"
  ·exact .inl ⟨v,g,p,aw,h,hs,ts,qs,fp,f,r,hr,e,c,ha,S,W,hh,tab,λl ys H' b t n e tu=>k l ys H' b t n e (by rw[ea_ c];exact tu)⟩
  ·exact .inr ⟨v,g,p,aw,h,hs,ts,qs,fp,f,r,hr,e,⟨n1,c⟩,ha,S,W,hh,tab,k⟩
inductive dc' (K:F__) (CS CG CW T:Addr) (vs:List V) (H:Hp) (Q:VK) (E:XK):Prop
 |mk:∀(v g p:Addr) (m:Int) (hs:Xa) (ts:Xb) (qs:List Pc) (fp:List Addr) (f:Str->Str),∀r∈rl,vs=[.ref v,.str r.1,.int m]->0<=m->bb' K CS CG CW H v g p hs ts qs fp f->Wd hs ts qs f->a8' H T qRN->(∀l ys H',But T H H'->a8' H' T qRN->H l=none->H' l=some (.lst ys)->a4' K H' ys ((mvX r hs ts qs f m).map kM)->Q (.ref l) H')->dc' K CS CG CW T vs H Q E
theorem iy_{f0:Addr}{T:Addr}(a:FnOk P w K mg base CX0 7 f0 fd ["sight","rule","moment"] (spSeen K CS CG CW T (λr=>r.2.1≠"turns") cz'))(t:FnOk P w K mg base CX0 6 f0 fd ["sight","rule","moment"] (dt' K CS CG CW)):FnOk P w K mg base CX0 7 f0 fd ["sight","rule","moment"] (dc' K CS CG CW T):=by
 refine FnOk.two a (t.mono (by decide)) λvs H Q E q=>?_;obtain⟨v,g,p,m,hs,ts,qs,fp,f,r,hr,e,m0,S,W,tab,k⟩:=q;by_cases c:r.2.1="turns"
 ·obtain⟨gd,eg⟩:=aG'.mp (i6_ r hr c);exact .inr ⟨v,g,p,m,gd,hs,ts,qs,fp,f,r,hr,e,c,eg,m0,S,W,λl ys H' s n e tu=>k l ys H' (But.of s) (tab.same s) n e (by unfold mvX;rw[a_9 c,eg];exact tu)⟩
 ·exact .inl ⟨v,g,p,m,hs,ts,qs,fp,f,r,hr,e,c,S,W,tab,λl ys H' b t n e tu=>k l ys H' b t n e (by unfold mvX;rw[a_4 c];exact tu)⟩
theorem scRowsBy:a3' ["web","rule"] ["web","rule"] (a1' dA'):=f__
inductive c1' (K:F__) (C:Addr) (vs:List V) (H:Hp) (Q:VK) (E:XK):Prop
 |mk:∀(p:Addr) (hs:Xa) (ts:Xb) (fp:List Addr),∀r∈rl,vs=[.ref p,.str r.1]->bd' K C H p hs ts fp->ts.length<64->(∀H',Same H H'->Q (.int (dZ' r ts)) H')->c1' K C vs H Q E
theorem fU_{f C:Addr}(F:Fun K "rows_by" "rows_by" dA' f fd)(B:Bi mg)(T:Txt K mg C)(cW:Cal P w K mg base 2 "checked_words" ["rule"] (bL' K))(cT:CalM P w K mg base C 3 "turns" ["self"] (da' K C)):FnOk P w K mg base CX0 4 f fd ["web","rule"] (c1' K C):=by
 refine F.ok scRowsBy (λvs H Q E h=>?_) (λcdv A outer s H vs Q E hr h=>?_)
 ·obtain⟨p,hs,ts,fp,r,hr,rfl,_⟩:=h;rfl
 ·obtain⟨p,hs,ts,fp,r,hr',rfl,W,h1,k⟩:=h;have hr2:Room 2 _:=hr.mono (by decide);refine' ⟨_,a3_ ?s1 (a4_ ?s2),?kk⟩
  case s1=>exact al_ (ae_ df_ (au_ ap_ (af_ cW hr2 (a0_ (pv 1) a2_)) a6_ (λ_ _=>rfl)) ag_ (nomark _)) (a4_ (a8_ a6_)) a9_
  case s2=>exact a8_ (ab_ (hn_ rfl) (by rfl) B.max PyProof.Rows.Boot.«max» (a0_ a6_ (a0_ (ab_ av_ (by rfl) B.len b_8 (a0_ (b3_ cT T.cl hr (pv 0)) a2_)) a2_)))
  case' kk=>skip
  refine⟨_,rfl,r,hr',rfl,λa ha=>?_⟩;refine⟨a,_,_,_,rfl,rfl,ha _,rfl,rfl,_,rfl,?_⟩;refine ite2 (λc=>?_) (λc=>?_)
  ·have c:¬r.2.1="turns":=by simpa [aX_] using c
   have:=k H (Same.refl _);unfold dZ' at this;rw[a_4 c] at this;exact this
  ·have c:r.2.1="turns":=by simpa [aX_] using c
   obtain⟨dxw,d1,l2,d3,zs0,as0,ef,w1,_⟩:=id W.ex;refine⟨_,rfl,p,dxw,_,rfl,w1,az_ _ _ _ Z0 Z0 Z0,p,hs,ts,fp,rfl,W,h1,λl as H' s _ _ _ _ R=>?_⟩;refine⟨l,_,rfl,.inl (.of R.1),_,_,rfl,?_⟩;have la:=a_3 R.2;have:=k H' s;unfold dZ' at this;rw[a_9 c,<- la] at this;rw[aa',show (if ((as.length:Nat):Int) > 1 then ((as.length:Nat):Int) else 1)=((max 1 as.length:Nat):Int) by split<;>omega]
   exact this
theorem dp':a3' ["goods","placed","rule","sight","moment"] ["goods","placed","rule"] (a1' cM'):=f__
structure Pld (K:F__) (CG CW T1 T2:Addr) (H:Hp) (g p d:Addr) (hs:Xa) (ts:Xb) (qs:List Pc) (fp:List Addr) (f:Str->Str):Prop where
 Pl:bw' K CG CW H g p d hs ts qs fp f
 W:Wd hs ts qs f
 tb:Tb H T1 T2
 has:∀b∈fp,∃o,H b=some o
inductive dT' (K:F__) (CG CW T1 T2:Addr) (vs:List V) (H:Hp) (Q:VK) (E:XK):Prop
 |mk:∀(g p d:Addr) (hs:Xa) (ts:Xb) (qs:List Pc) (fp:List Addr) (f:Str->Str),∀r∈rl,vs=[.ref g,.ref d,.str r.1]->Pld K CG CW T1 T2 H g p d hs ts qs fp f->(∀H',BT T1 T2 H H'->Tb H' T1 T2->Q (.bl (ei' r hs ts qs f)) H')->dT' K CG CW T1 T2 vs H Q E
theorem ip_{f0:Addr}(F:Fun K "rests_at" "rests_at" cM' f0 fd)(B:Bi mg)(TG:TxtG K CG)(cMk:CalC P w K mg base CS 7 "Sight" ["self","goods","placed"] (de' K CS CG CW T1))(cSe:Cal P w K mg base 7 "moves_seen" ["sight","rule","moment"] (dc' K CS CG CW T2))(cRo:Cal P w K mg base 4 "rows_by" ["web","rule"] (c1' K CW)):FnOk P w K mg base CX0 9 f0 fd ["goods","placed","rule"] (dT' K CG CW T1 T2):=by
 refine F.ok dp' (λvs H Q E h=>?_) (λcdv A outer s H vs Q E hr h=>?_)
 ·obtain⟨g,p,d,hs,ts,qs,fp,f,r,hr,rfl,_⟩:=h;rfl
 ·obtain⟨g,p,d,hs,ts,qs,fp,f,r,hr',rfl,D,k⟩:=h;have sz:=b__;have hr4:Room 4 _:=hr.mono (by decide);have hr7:Room 7 _:=hr.mono (by decide);refine' ⟨_,a3_ ?s1 (a3_ ?s2 (a4_ (a8_ bC_))),?kk⟩
  case s1=>exact ad_ (i:=3) dp'.nd rfl (Or.inl rfl) (iw_ cMk hr (a0_ (pv 0) (a0_ (pv 1) a2_)))
  case' s2=>refine' aV_ b_1 rfl (e1_ (by rfl) B.range (a0_ (af_ cRo hr4 (a0_ (ak_ (pv 0) rfl) (a0_ (pv 2) a2_))) a2_)) (ac_ (i:=4) dp'.nd rfl (Or.inl rfl)) (a4_ (al_ ?e1 (a4_ (a8_ bC_)) a9_))
  case e1=>exact ae_ (f5_ (bG' hr 0)) (af_ cSe hr7 (a0_ (pv 3) (a0_ (pv 2) (a0_ (pv 4) a2_)))) (ax_ a2_) (nomark _)
  case' kk=>skip
  refine⟨_,rfl,_,rfl,λv dx hv hdx ne=>?_⟩;have s2:Same H (upd (upd H dx (.own v)) v (.ins CS dx [])):=(Same.new hdx).trans (Same.new (by rw[a5_ ne.symm];exact hv));have e2:upd (upd H dx (.own v)) v (.ins CS dx []) v=some (.ins CS dx []):=a1_;generalize upd (upd H dx (.own v)) v (.ins CS dx [])=H2 at s2 e2 ⊢
  have vfp:v∉fp:=λhm=>by
   obtain⟨o,e⟩:=D.has v hm;rw[e] at hv;cases hv
  have Pl2:bw' K CG CW H2 g p d hs ts qs fp f:=⟨D.Pl.G.same s2,D.W.Gd,D.Pl.dfp,s2 _ _ D.Pl.hd,D.W.at_,D.W.nd,D.W.h64⟩;refine⟨v,dx,g,p,d,hs,ts,qs,fp,f,rfl,e2,vfp,Pl2,D.W,D.tb.a.same s2,λH3 k3 tab3 S3=>⟨rfl,?_⟩⟩;refine setG ?_;dsimp only;obtain⟨tv1,hT1⟩:=aS_ D.tb.a;have k03:∀b o,H b=some o->b≠T1->H3 b=some o:=λb o e n=>k3 b o (s2 _ _ e) (a7_ e hv) n;have nt3:NT H H3:=λb o e n=>k03 b o e (λz=>by rw[z,hT1] at e;exact n _ (a_8 e).symm)
  have tb2:a8' H3 T2 qRN:=by
   obtain⟨es,a1,a2⟩:=D.tb.b;exact⟨es,k03 _ _ a1 D.tb.ne.symm,λx hx=>nt3 _ _ (a2 x hx) nofun⟩
  obtain⟨_,_,_,_,_,_,GA3,_⟩:=id S3.ex;obtain⟨dxg,dw,dy,vs,fpw,g1,g2,_⟩:=id GA3.ex
  have rn:dZ' r ts<=64:=by
   have tl:=ek_ (tsOf ts) [];rw[bo_,aO'] at tl;have t64:=D.W.Gd.t64
   have:(turnsOf (tsOf ts)).length<=64:=by
    show ((tsOf ts).foldl bn' []).length<=64;omega
   unfold dZ';split<;>omega
  refine⟨_,rfl,g,CG,dxg,_,_,rfl,g1,TG.cl,TG.nW,aJ_ _ _ _,_,rfl,p,hs,ts,fpw,r,hr',rfl,g2,D.W.Gd.t64,λH4 s4=>?_⟩;refine⟨((dZ' r ts:Nat):Int),rfl,by omega,by omega,?_⟩;have bt4:BT T1 T2 H H4:=λb o e n1 n2=>s4 _ _ (k03 b o e n1);have S4:=S3.same s4;have tb4:Tb H4 T1 T2:=⟨tab3.same s4,tb2.same s4,D.tb.ne⟩;refine dN_ (λi σ H'=>∃v4:Option V,σ=[some (.ref g),some (.ref d),some (.str r.1),some (.ref v),v4]/\BT T1 T2 H4 H'/\Tb H' T1 T2/\∀j:Nat,j<i->(mvX r hs ts qs f j).isEmpty=true) ⟨none,rfl,BT.of (Same.refl _),tb4,by omega⟩ ?_ ?_
  ·rintro i σ H5 hi ⟨v4,rfl,nt5,tb5,em⟩;rw[aU'] at hi;refine setG ?_;dsimp only;obtain⟨tv2,hT2⟩:=aS_ tb5.b;refine⟨_,rfl,_,rfl,_,rfl,v,g,p,0+(i:Int),hs,ts,qs,fp,f,r,hr',rfl,by omega,S4.nt (nt5.nt tb4),D.W,tb5.b,λl ys H6 b6 tab6 nl hl tu=>?_⟩;have nt6:BT T1 T2 H5 H6:=BT.sec b6;refine⟨by show 0<=sizeLine;decide,λle ne'=>?_⟩;have s7:=Same.new (o:=.lst []) ne';have tb7:Tb (upd H6 le (.lst [])) T1 T2:=⟨a8'.same s7 (a8'.but tb5.a b6 ⟨_,hT2⟩ D.tb.ne),tab6.same s7,D.tb.ne⟩;have ly:=a_3 tu;rw[aa',Int.zero_add] at ly;refine⟨l,le,ys,rfl,rfl,.of (s7 _ _ hl),.of a1_,_,rfl,?_⟩;have nt7:=(nt5.trans nt6).trans (BT.of s7);refine ite2 (λc=>?_) (λc=>?_)
   ·have c:ys.isEmpty=false:=by simpa using c
    have hf:ei' r hs ts qs f=false:=by
     refine List.all_eq_false.mpr ⟨i,List.mem_range.mpr hi,?_⟩;rw[List.isEmpty_eq_false_iff] at c;rw[List.isEmpty_iff];intro z;rw[z,aO'] at ly;exact c (aS'.mp ly)
    have:=k _ (bt4.trans nt7) tb7;rw[hf] at this;exact this
   ·have c:ys.isEmpty=true:=by simpa using c
    refine⟨_,rfl,nt7,tb7,λj hj=>?_⟩;by_cases e:j=i
    ·rw[e,List.isEmpty_iff];rw[List.isEmpty_iff] at c;rw[c,aO'] at ly;exact aS'.mp ly.symm
    ·exact em j Z1
  ·rintro σ H5 ⟨v4,rfl,nt5,tb5,em⟩;rw[aU'] at em;have ht:ei' r hs ts qs f=true:=List.all_eq_true.mpr λj hj=>em j (List.mem_range.mp hj);have:=k H5 (bt4.trans nt5) tb5;rw[ht] at this;exact this
end
end Ev
namespace L2
open PySem PySem.Spec PyProof.Rows PySem.W
variable{vs:List (Key × Aa)}{prog:Ae}{w:Af}{A:Ag}
theorem d4_{d it:Addr}{ep:Nat}(hh:A.handled=none)(hne:d≠it):Walks prog w A it [it,d] [it] vs.length (λi v=>∃k,vs[i]? = some (k,v)) (λi h=>h.IsValIter it d i vs.length ep/\h.DictAt (a5' prog w) d vs ep) where
 sub:=λb hb=>by simp at hb;simp[hb]
 frame:=λi h h' st k=>⟨st.1.at λo e=>k it Z2 o e,by
  obtain⟨o,es,ho,r⟩:=st.2;exact⟨o,es,k d Z2 o ho,r⟩⟩
 item:=by
  intro i s Q E hi st h;obtain⟨⟨k,v⟩,hx⟩:∃p,vs[i]? = some p:=⟨vs[i],by simp[hi]⟩;refine wpAny_pyNext_values_item st.1 st.2 hx λh' st' sb=>?_;refine h v h' s.toks ⟨k,hx⟩ ⟨st',?_⟩ λb o hb e=>(sb.2 b (by simpa using hb)).trans e;obtain⟨o,es,ho,r⟩:=st.2;exact⟨o,es,(sb.2 d hne).trans ho,r⟩
 done:=by
  intro s Q E st h;exact wpAny_pyNext_values_end hh st.1 st.2 Z2 λh' eb=>h h' s.toks λb o hb e=>eb b o (by simpa using hb) e
 self:=λ_ _ _ _ st h=>wpAny_pyIter_valiter st.1 h
theorem dk_{ns:List (Key × Int)}(r:KV (ns.map λx=>(x.1,V.int x.2)) vs){i:Nat}{k:Key}{v:Aa}(h:vs[i]? = some (k,v)):∃n t,(ns.map (·.2))[i]? = some n/\v=.int n t:=by
 have hl:=r.length;rw[aa'] at hl
 have hi:i<ns.length:=by
  have:=(ac'.mp h).1;omega
 obtain⟨u,hu,ru⟩:=gc_ r i (k:=(ns[i]'hi).1) (x:=V.int (ns[i]'hi).2) (by rw[aj',ab' hi];rfl);rw[h] at hu;have e:=b_9 Prod.snd (a_8 hu);obtain⟨t,rfl⟩:=(show ∃t,u=Value.int (ns[i]'hi).2 t from ru);exact⟨_,t,by rw[aj',ab' hi];rfl,e⟩
inductive rMaxV (xs:List V) (H:Hp) (Q:VK):Prop
 |mk:∀(v d:Addr) (ns:List (Key × Int)),xs=[.ref v]->H v=some (a9' v d)->Rd H d (.dK (ns.map λx=>(x.1,V.int x.2)))->0<ns.length->(∀m,m∈ns.map (·.2)->(∀a∈ns.map (·.2),a<=m)->Q (.int m) H)->rMaxV xs H Q
inductive rMinV (xs:List V) (H:Hp) (Q:VK):Prop
 |mk:∀(v d:Addr) (ns:List (Key × Int)),xs=[.ref v]->H v=some (a9' v d)->Rd H d (.dK (ns.map λx=>(x.1,V.int x.2)))->0<ns.length->(∀m,m∈ns.map (·.2)->(∀a∈ns.map (·.2),m<=a)->Q (.int m) H)->rMinV xs H Q
variable{X:Cx}
theorem hh_(hc:X.calm=true):bp' X (.builtin "max") rMaxV:=by
 intro pins s σ H xs us Q I r h;obtain⟨v,d,ns,rfl,hv,hd,h0,q⟩:=h;obtain⟨u,rfl,ru⟩:=vals1 r;cases ru;obtain⟨z,hne,vs,rel,dd⟩:=bD_ I.hok hd;obtain⟨ep,dat⟩:=dd.dictAt;obtain⟨iv,_,_⟩:=I.hok v _ hv;have hl:=rel.length;rw[aa'] at hl
 have dlt:d<s.heap.objs.size:=by
  obtain⟨o,es,ho,_⟩:=dat;exact a_5 ho
 refine call_max_walk (wpAny_pyIter_values (knd:=a5' X.prog X.w) (kvs:=vs) (ep:=ep) iv dat ?_);refine⟨s.heap.objs.size,[s.heap.objs.size,d],[s.heap.objs.size],vs.length,λi v=>∃k,vs[i]? = some (k,v),_,_,rfl,d4_ (ep:=ep) (I.ok.hd hc) (ap' dlt),⟨⟨_,a_1 _ rfl,rfl,rfl⟩,?_⟩,λb hb=>?_,by omega,CmpOf.ints_gt (λi=>((ns.map (·.2))[i]?).getD 0) (λi v ⟨k,hv⟩=>?_),λv' h' tk hP k=>?_⟩
 ·obtain⟨o,es,ho,r⟩:=dat;exact⟨o,es,a_0 _ ho,r⟩
 ·have hb:b=s.heap.objs.size∨b=d:=by simpa using hb
  show b<(s.heap.objs.push _).size;rw[Array.size_push];rcases hb with e|e
  ·rw[e];exact Nat.lt_succ_self _
  ·rw[e];exact Nat.lt_succ_of_lt dlt
 ·obtain⟨n,t,e1,e2⟩:=dk_ rel hv;refine⟨t,?_⟩;rw[e1];exact e2
 ·obtain⟨k',hv'⟩:=hP;obtain⟨n,t,e1,rfl⟩:=dk_ rel hv';obtain⟨b1,b2⟩:=argBest_gt (λi=>((ns.map (·.2))[i]?).getD 0) (vs.length - 1);rw[e1] at b2;refine⟨.int n,H,I.kept (t':=tk) (λb o e=>k b o (λm=>?_) (a_0 _ e)),⟨t,rfl⟩,q n (ae' e1) λa ha=>?_⟩
  ·have m:b=s.heap.objs.size:=by simpa using m
   exact absurd m (ap' (a_5 e))
  ·obtain⟨j,hj,ej⟩:=aB' ha;have:=b2 j (by rw[aa'] at hj;omega);rw[ab' hj,ej] at this;exact this
theorem hu_(hc:X.calm=true):bp' X (.builtin "min") rMinV:=by
 intro pins s σ H xs us Q I r h;obtain⟨v,d,ns,rfl,hv,hd,h0,q⟩:=h;obtain⟨u,rfl,ru⟩:=vals1 r;cases ru;obtain⟨z,hne,vs,rel,dd⟩:=bD_ I.hok hd;obtain⟨ep,dat⟩:=dd.dictAt;obtain⟨iv,_,_⟩:=I.hok v _ hv;have hl:=rel.length;rw[aa'] at hl
 have dlt:d<s.heap.objs.size:=by
  obtain⟨o,es,ho,_⟩:=dat;exact a_5 ho
 refine call_min_walk (wpAny_pyIter_values (knd:=a5' X.prog X.w) (kvs:=vs) (ep:=ep) iv dat ?_);refine⟨s.heap.objs.size,[s.heap.objs.size,d],[s.heap.objs.size],vs.length,λi v=>∃k,vs[i]? = some (k,v),_,_,rfl,d4_ (ep:=ep) (I.ok.hd hc) (ap' dlt),⟨⟨_,a_1 _ rfl,rfl,rfl⟩,?_⟩,λb hb=>?_,by omega,CmpOf.ints_lt (λi=>((ns.map (·.2))[i]?).getD 0) (λi v ⟨k,hv⟩=>?_),λv' h' tk hP k=>?_⟩
 ·obtain⟨o,es,ho,r⟩:=dat;exact⟨o,es,a_0 _ ho,r⟩
 ·have hb:b=s.heap.objs.size∨b=d:=by simpa using hb
  show b<(s.heap.objs.push _).size;rw[Array.size_push];rcases hb with e|e
  ·rw[e];exact Nat.lt_succ_self _
  ·rw[e];exact Nat.lt_succ_of_lt dlt
 ·obtain⟨n,t,e1,e2⟩:=dk_ rel hv;refine⟨t,?_⟩;rw[e1];exact e2
 ·obtain⟨k',hv'⟩:=hP;obtain⟨n,t,e1,rfl⟩:=dk_ rel hv';obtain⟨b1,b2⟩:=argBest_lt (λi=>((ns.map (·.2))[i]?).getD 0) (vs.length - 1);rw[e1] at b2;refine⟨.int n,H,I.kept (t':=tk) (λb o e=>k b o (λm=>?_) (a_0 _ e)),⟨t,rfl⟩,q n (ae' e1) λa ha=>?_⟩
  ·have m:b=s.heap.objs.size:=by simpa using m
   exact absurd m (ap' (a_5 e))
  ·obtain⟨j,hj,ej⟩:=aB' ha;have:=b2 j (by rw[aa'] at hj;omega);rw[ab' hj,ej] at this;exact this
end L2
namespace EvM
open PySem PySem.Spec PyProof.Rows PySem.W
def cJ'(it S:Addr)(kw:List (Str × Aa))(old:List Aa):Sem Fin:=do
 let x <- tryCatch (pyNext (.ref it)) λe=>do
  updateSeq S λ_=>#[]
  letGo ([]++old.reverse) [e]
  throw e
 match x with
 |none=>
  match old,kw with
  |[item,val],_=>do
   updateSeq S λ_=>#[]
   letGo [val] [item]
   ret item
  |_,(_,d)::_=>do
   rule (toString "max"++toString ".default")
   ret d
  |_,[]=>do
   rule (toString "max"++toString ".empty")
   raiseErrorMade "ValueError" (toString "max"++toString "() iterable argument is empty")
 |some item=>
  match old with
  |[oldItem,oldVal]=>do
   let better <- tryCatch (holding [item,item] do
     let answer <- richCompare .Gt item oldVal
     let yes <- holding [answer] (truthy answer)
     letGo [answer]
     pure yes) λe=>do
    updateSeq S λ_=>#[]
    letGo ([item,item]++old.reverse) [e]
    throw e
   if better=true then do
    updateSeq S λ_=>#[item,item]
    letGo [oldVal,oldItem]
    again (.builtin (toString "max"++toString ".loop") ⟨[.ref it,.none,.ref S],kw⟩)
   else do
    letGo [item,item]
    again (.builtin (toString "max"++toString ".loop") ⟨[.ref it,.none,.ref S],kw⟩)
  |_=>do
   updateSeq S λ_=>#[item,item]
   again (.builtin (toString "max"++toString ".loop") ⟨[.ref it,.none,.ref S],kw⟩)
def mxTurn(it S:Addr)(kw:List (Str × Aa)):Sem Fin:=do
 let l <- seqItems? (.ref S)
 cJ' it S kw (l.getD #[]).toList
theorem kJ_(it S:Addr)(kw:List (Str × Aa)):Builtin.«max.loop» ⟨[.ref it,.none,.ref S],kw⟩=mxTurn it S kw:=by
 unfold mxTurn cJ';rfl
abbrev mxCode(it S:Addr)(kw:List (Str × Aa)):Code:=.builtin "max.loop" ⟨[.ref it,.none,.ref S],kw⟩
variable{S it:Addr}{old:List Aa}{n:Nat}{s:Ac}{prog:Ae}{w:Af}{A:Ag}
theorem eu_{kw:List (Str × Aa)}{R:Result->Ac->Prop}(hS:s.heap.get? S=some { cls:=.type "list",data:=.seq old.toArray n })(h:wpAny (model prog w) A.in1 (cJ' it S kw old) (λfin s'=>match fin with
   |.done f=>R (.ok f) s'
   |.again c'=>c'.quiet=true/\codeAny (model prog w) A c' R s') (λe s'=>R (.error e) s') s):codeAny (model prog w) A (mxCode it S kw) R s:=by
 refine codeAny_builtin F.entry_max_loop ?_;rw[Around.under_plainId F.plain_max_loop _,kJ_];unfold mxTurn;exact a__ (wpAny_seqItems hS rfl h)
variable{h:Heap}
theorem f2_{new:List Aa}(hS:h.get? S=some { cls:=.type "list",data:=.seq old.toArray n }):∃n',(h.update S (Obj.mapSeq λ_=>new.toArray)).get? S=some { cls:=.type "list",data:=.seq new.toArray n' }:=⟨_,get?_update_seq hS (λ_=>new.toArray)⟩
def Kp(it S:Addr)(h h':Heap):Prop:=∀b o,b≠it->b≠S->h.get? b=some o->h'.get? b=some o
theorem Kp.trans{h1 h2:Heap}(a:Kp it S h h1)(b:Kp it S h1 h2):Kp it S h h2:=λc o h1 h2 e=>b c o h1 h2 (a c o h1 h2 e)
theorem hmax:(toString "max"++toString ".loop")="max.loop":=by decide +kernel
variable{E Q:Aa->Ac->Prop}
theorem jf_{z m:Int}{t t2:Tok}(h:Q (.bool (decide (z > m))) s):wpAny (model prog w) A (richCompare .Gt (.int z t) (.int m t2)) Q E s:=
 CmpOf.ints_gt (prog:=prog) (w:=w) (A:=A) (P:=λi v=>∃t,v=Value.int (if i=0 then z else m) t) (λi=>if i=0 then z else m) (λi v h=>h) 0 1 _ _ s Q E ⟨t,rfl⟩ ⟨t2,rfl⟩ h
variable{l:Addr}{its:List Aa}{ns:List Int}
theorem kW_(hSi:S≠it)(hSl:S≠l)(hil:l≠it)(hh:A.handled=none)(hn:L2.Vals (ns.map L2.V.int) its)(kw:List (Str × Aa)):∀(k i:Nat) (m:Int) (t:Tok) (n:Nat) (s:Ac) (R:Result->Ac->Prop),its.length - i=k->i<=its.length->m∈ns.take i->(∀a∈ns.take i,a<=m)->
  s.heap.IsListIter it l i->s.heap.IsList l its.toArray->s.heap.get? S=some { cls:=.type "list",data:=.seq [Value.int m t,Value.int m t].toArray n }->
  (∀m t h',m∈ns->(∀a∈ns,a<=m)->Kp it S s.heap h'->R (.ok (.ret (.int m t))) { s with heap:=h' })->codeAny (model prog w) A (mxCode it S kw) R s:=by
 have ln:=hn.length;rw[aa'] at ln;intro k
 induction k with
 |zero=>
  intro i m t n s R hk hi hm hle hit hl hS hR;have ei:i=its.length:=by omega
  subst ei;rw[<- ln,ao'] at hm hle;refine eu_ hS ?_;unfold cJ';refine a__ (wpAny_tryCatch (wpAny_pyNext_list_end hh hit hl Z2 λh1 he=>?_));have hS1:=he _ _ hSi hS;refine a__ (wpAny_updateSeq hS1 rfl (a__ (wpAny_letGo ?_)) (by show 2<=sizeLine;decide) (by show 0<=sizeLine+1;omega))
  exact a_6 (hR m t _ hm hle λb o h1 h2 e=>by
   rw[b_0 _ _ (Ne.symm h2)];exact he b o h1 e)
 |succ k ih=>
  intro i m t n s R hk hi hm hle hit hl hS hR;have hlt:i<ns.length:=by omega
  have hz:(ns.map L2.V.int)[i]? = some (.int ns[i]):=by rw[aj',ab' hlt];rfl
  obtain⟨u,hu,t2,rfl⟩:=hn.get hz;refine eu_ hS ?_;unfold cJ';refine a__ (wpAny_tryCatch (wpAny_pyNext_list_item hit hl (x:=.int ns[i] t2) (by simpa using hu) λh1 hit1 hs1=>?_));have hS1:=hs1.extBut _ _ hSi hS
  have hl1:h1.IsList l its.toArray:=by
   obtain⟨o,e,r⟩:=hl;exact⟨o,hs1.extBut _ _ hil e,r⟩
  have k1:Kp it S s.heap h1:=λb o h1 _ e=>hs1.extBut _ _ h1 e;have mem:ns[i]∈ns.take (i+1):=ae' (i:=i) (by rw[List.getElem?_take_of_lt (Nat.lt_succ_self i)];exact ab' hlt);refine a__ (wpAny_tryCatch (wpAny_holding (a__ (jf_ (a__ (wpAny_holding (b_6 (a__ (wpAny_letGo (a_6 ?_))))))))));rw[hmax];by_cases hb:ns[i] > m
  ·rw[a_9 (a_2 hb)];refine a__ (wpAny_updateSeq hS1 rfl (a__ (wpAny_letGo ?_)) (by show 2<=sizeLine;decide) (by show 2<=sizeLine+1;decide));obtain⟨n',hS2⟩:=f2_ (new:=[.int ns[i] t2,.int ns[i] t2]) hS1
   have k2:Kp it S h1 (h1.update S (Obj.mapSeq λ_=>[Value.int ns[i] t2,Value.int ns[i] t2].toArray)):=λb o _ h2 e=>by
    rw[b_0 _ _ (Ne.symm h2)];exact e
   have hit2:(h1.update S (Obj.mapSeq λ_=>[Value.int ns[i] t2,Value.int ns[i] t2].toArray)).IsListIter it l (i+1):=hit1.at λo e=>by
    rw[b_0 _ _ hSi];exact e
   have hl2:(h1.update S (Obj.mapSeq λ_=>[Value.int ns[i] t2,Value.int ns[i] t2].toArray)).IsList l its.toArray:=by
    obtain⟨o,e,r⟩:=hl1;exact⟨o,k2 _ _ hil hSl.symm e,r⟩
   refine a_6 ⟨plainId_quiet F.plain_max_loop _,ih (i+1) ns[i] t2 n' _ R Z1 Z1 mem (λa ha=>?_) hit2 hl2 hS2 λm t h' h1' h2' kk=>hR m t h' h1' h2' ((k1.trans k2).trans kk)⟩;rw[aw',ab' hlt] at ha;rcases au'.mp ha with ha|ha
   ·exact aJ' (Int.lt_of_le_of_lt (hle a ha) hb)
   ·obtain rfl:a=ns[i]:=by simpa using ha
    exact Int.le_refl _
  ·rw[a_4 (by simpa using hb)];refine a__ (wpAny_letGo (a_6 ⟨plainId_quiet F.plain_max_loop _,ih (i+1) m t n _ R Z1 Z1 ?_ (λa ha=>?_) hit1 hl1 hS1 λm t h' h1' h2' kk=>hR m t h' h1' h2' (k1.trans kk)⟩))
   ·rw[aw'];exact List.mem_append_left _ hm
   ·rw[aw',ab' hlt] at ha;rcases au'.mp ha with ha|ha
    ·exact hle a ha
    ·obtain rfl:a=ns[i]:=by simpa using ha
     exact Int.not_lt.mp hb
theorem max_dflt(hh:A.handled=none){d:Aa}(hn:L2.Vals (ns.map L2.V.int) its)(hl:s.heap.IsList l its.toArray)(h0:ns=[]->∀h',(∀b o,s.heap.get? b=some o->h'.get? b=some o)->Q d { s with heap:=h' })(h1:∀m t h',m∈ns->(∀a∈ns,a<=m)->(∀b o,s.heap.get? b=some o->h'.get? b=some o)->Q (.int m t) { s with heap:=h' }) :
  wpAny (model prog w) A (call (.builtin "max") [.ref l] [("default",d)]) Q E s:=by
 refine wpAny_call (codeAny_call_builtin F.plain_max F.entry_max ?_);refine (show wpAny (model prog w) A.in1 (checkBuiltinCall "max" ⟨[.ref l],[("default",d)]⟩) _ _ s from ?_);have hck:checkBuiltinCall "max" ⟨[.ref l],[("default",d)]⟩=pure ():=by rfl
 rw[hck];refine a_6 ?_
 have hb:Builtin.max ⟨[.ref l],[("default",d)]⟩=(do
   let it <- pyIter (.ref l)
   let b <- newList []
   again (.builtin (toString "max"++toString ".loop") ⟨[it,.none,b],[("default",d)]⟩)):=by rfl
 rw[hb,hmax];have ll:l<s.heap.objs.size:=by obtain⟨_,e,_⟩:=hl;exact a_5 e
 refine a__ (wpAny_pyIter_list hl (a__ (wpAny_newList (a_6 ⟨plainId_quiet F.plain_max_loop _,?_⟩) (aD' _))))
 have hi1:s.heap.objs.size<(s.heap.push { cls:=.type "list_iterator",data:=.fields #[.ref l,.int 0 0] }).objs.size:=by
  have:(s.heap.push { cls:=.type "list_iterator",data:=.fields #[.ref l,.int 0 0] }).get? s.heap.objs.size=some _:=a_1 _ rfl;exact a_5 this
 have hit:(s.heap.push { cls:=.type "list_iterator",data:=.fields #[.ref l,.int 0 0] }).IsListIter s.heap.objs.size l 0:=⟨_,a_1 _ rfl,rfl,rfl⟩;have hl1:=hl.push { cls:=.type "list_iterator",data:=.fields #[.ref l,.int 0 0] };have k1:∀b o,s.heap.get? b=some o->(s.heap.push { cls:=.type "list_iterator",data:=.fields #[.ref l,.int 0 0] }).get? b=some o:=λb o e=>a_0 _ e;generalize s.heap.push { cls:=.type "list_iterator",data:=.fields #[.ref l,.int 0 0] }=g1 at hi1 hit hl1 k1 ⊢;have hS:(g1.push { cls:=.type "list",data:=.seq (#[]:Array Aa) }).get? g1.objs.size=some { cls:=.type "list",data:=.seq ([]:List Aa).toArray 0 }:=a_1 _ rfl;have k2:∀b o,g1.get? b=some o->(g1.push { cls:=.type "list",data:=.seq (#[]:Array Aa) }).get? b=some o:=λb o e=>a_0 _ e;have hit2:(g1.push { cls:=.type "list",data:=.seq (#[]:Array Aa) }).IsListIter s.heap.objs.size l 0:=hit.at λo e=>k2 _ _ e;have hl2:=hl1.push { cls:=.type "list",data:=.seq (#[]:Array Aa) };have hSi:g1.objs.size≠s.heap.objs.size:=Ne.symm (ap' hi1);have hSl:g1.objs.size≠l:=Ne.symm (ap' (Nat.lt_trans ll hi1));have hil:l≠s.heap.objs.size:=ap' ll;have lt1:∀b o,s.heap.get? b=some o->b≠s.heap.objs.size/\b≠g1.objs.size:=λb o e=>⟨ap' (a_5 e),ap' (Nat.lt_trans (a_5 e) hi1)⟩;show codeAny (model prog w) A (mxCode s.heap.objs.size g1.objs.size [("default",d)]) _ { s with heap:=g1.push { cls:=.type "list",data:=.seq (#[]:Array Aa) } };generalize g1.push { cls:=.type "list",data:=.seq (#[]:Array Aa) }=g2 at hS k2 hit2 hl2 ⊢;have k3:∀b o,s.heap.get? b=some o->g2.get? b=some o:=λb o e=>k2 _ _ (k1 _ _ e);refine eu_ hS ?_;unfold cJ';have ln:=hn.length;rw[aa'] at ln;cases ns with
 |nil=>
  have e0:its=[]:=aS'.mp ln.symm;subst e0;refine a__ (wpAny_tryCatch (wpAny_pyNext_list_end hh hit2 hl2 Z2 λh1' he=>?_));exact a__ (wpAny_rule (a_6 (h0 rfl h1' λb o e=>he b o (lt1 b o e).1 (k3 _ _ e))))
 |cons n ns=>
  have hz:((n::ns).map L2.V.int)[0]? = some (.int n):=rfl;obtain⟨u,hu,t2,rfl⟩:=hn.get hz;refine a__ (wpAny_tryCatch (wpAny_pyNext_list_item hit2 hl2 (x:=.int n t2) (by simpa using hu) λg3 hit3 hs3=>?_));have hS3:=hs3.extBut _ _ hSi hS;rw[hmax];refine a__ (wpAny_updateSeq hS3 rfl ?_ (by show 0<=sizeLine;omega) (by show 2<=sizeLine+1;decide));obtain⟨n',hS4⟩:=f2_ (new:=[.int n t2,.int n t2]) hS3
  have k4:Kp s.heap.objs.size g1.objs.size g2 (g3.update g1.objs.size (Obj.mapSeq λ_=>[Value.int n t2,Value.int n t2].toArray)):=λb o h1 h2 e=>by
   rw[b_0 _ _ (Ne.symm h2)];exact hs3.extBut _ _ h1 e
  refine a_6 ⟨plainId_quiet F.plain_max_loop _,kW_ hSi hSl hil hh hn _ (its.length - 1) 1 n t2 n' _ _ rfl (by rw[<- ln,az'];omega) Z2 (λa ha=>?_) (hit3.at λo e=>?_) ?_ hS4 λm t h' hm hle kk=>h1 m t h' hm hle λb o e=>?_⟩
  ·have:a=n:=by simpa using ha
   rw[this];exact Int.le_refl _
  ·rw[b_0 _ _ hSi];exact e
  ·obtain⟨o,e,r⟩:=hl2;exact⟨o,k4 _ _ hil hSl.symm e,r⟩
  ·obtain⟨q1,q2⟩:=lt1 b o e;exact kk b o q1 q2 (k4 b o q1 q2 (k3 _ _ e))
end EvM
namespace L2
open PySem PySem.Spec PyProof.Rows PySem.W
inductive tMaxDR (K:F__) (Q:VK) (vs:List V) (zs:List V) (H2:Hp):Prop
 |mk:∀(l:Addr) (ns:List Int) (d:Int),vs=[.ref l]->zs=[.int d]->SqL K H2 l (ns.map V.int)->(∀m,(ns=[]/\m=d∨m∈ns/\∀a∈ns,a<=m)->Q (.int m) H2)->tMaxDR K Q vs zs H2
def tMaxD(K:F__)(t tk:TA):TE:=λσ H Q=>t σ H λvs H1=>tk σ H1 λzs H2=>tMaxDR K Q vs zs H2
variable{X:Cx}
theorem js_{e v:Expr}{t tk:TA}{p pos kp:Pos}(hc:X.calm=true)(hg:Gl X "max")(hm:X.mg "max"=none)(ha:PA X [e] t)(hkw:PK X [⟨some "default",v,kp⟩] tk)(he:starEach [e] X.env=[(false,eval e X.env)]:=by rfl)(hall:(backToKw pos (keywordEach [⟨some "default",v,kp⟩] X.env)).all (·.1.isSome)=true:=by rfl)(hks:(backToKw pos (keywordEach [⟨some "default",v,kp⟩] X.env)).filterMap (·.1)=[Str.ofString "default"]:=by rfl)(hkn:(backToKw pos (keywordEach [⟨some "default",v,kp⟩] X.env)).any (·.1.isNone)=false:=by rfl):PE X (.Call (.Name "max" p) [e] [⟨some "default",v,kp⟩] pos) (tMaxD X.K t tk):=by
 intro pins s σ H Q I h;refine wpAny_Call_Name_kw (cH_ I hg hm PyProof.Rows.Boot.«max» ?_);have hA:=ha pos pins s σ H _ I h;rw[he] at hA ⊢;refine callWith_builtin_kwB (first:=[]) rfl hkn (evalArgs_kwB hall (thn hA λus s1 ⟨vs,H1,I1,r1,q1⟩=>?_));refine thn (hkw pos pins s1 σ H1 _ I1 q1) λws s2 ⟨zs,H2,I2,rz,l,ns,d,ev,ez,hl,qm⟩=>?_;subst ev ez;obtain⟨u,rfl,ru⟩:=Vals.one r1;obtain⟨dv,rfl,rd⟩:=Vals.one rz;cases ru;obtain⟨its,rv,pl,z⟩:=I2.list hl;rw[hks];exact EvM.max_dflt (I.ok.hd hc) rv pl.isList (λe h' k=>⟨.int d,H2,I2.kept (t':=s2.toks) k,rd,qm d (.inl ⟨e,rfl⟩)⟩) λm tm h' h1 h2 k=>⟨.int m,H2,I2.kept (t':=s2.toks) k,⟨tm,rfl⟩,qm m (.inr ⟨h1,h2⟩)⟩
theorem eU_:OpR X (binaryOp .FloorDiv) (rI (λ_ j=>0<j/\j<2 ^ 100) λi j=>.int (i / j)):=opI λi j _ _ _ _ _ hc q=>by
 have h1:(0:Int)<j:=hc.1;have h2:j<2 ^ 100:=hc.2;refine floordiv_int Z1 (by rw[Int.fdiv_eq_ediv_of_nonneg i Z1];exact q) (.inl (PyProof.noPylong_of_log2 ?_));have:j.natAbs.log2<100:=(Nat.log2_lt Z1).mpr Z1;omega
end L2
namespace Ev
open PySem L2
structure Std (K:F__) (CG CW:Addr) (H:Hp) (g p d:Addr) (hs:Xa) (ts:Xb) (qs:List Pc) (fp:List Addr) (ns:List Str) (f:Str->Str):Prop where
 G:a6' K CG CW H g p hs ts qs fp
 Gd:Good hs ts
 dfp:d∉fp
 hd:H d=some (.dK (stF ns f))
 ok:c8' hs qs ns f
 nd:(qs.map (·.1)).Nodup
 h64:qs.length<64
 wp:∀q∈qs,0<=q.2.1
variable{H':Hp}
theorem Std.placed{K:F__}{CG CW:Addr}{H:Hp}{g p d d':Addr}{hs:Xa}{ts:Xb}{qs:List Pc}{fp:List Addr}{ns:List Str}{f:Str->Str}(S:Std K CG CW H g p d hs ts qs fp ns f)(s:Same H H')(hn:H d'=none)(hd:H' d'=some (.dK (stF (qs.map (·.1)) f))):∃fp',bw' K CG CW H' g p d' hs ts qs fp' f:=by
 obtain⟨fp',G',has⟩:=S.G.slim;refine⟨fp',G'.same s,S.Gd,λm=>?_,hd,λn hn=>S.ok.at_ n (S.ok.perm.mem_iff.mpr hn),S.nd,S.h64⟩;obtain⟨o,e⟩:=has d' m;rw[hn] at e;cases e
theorem jJ_{a n:Int}(ha:0<a)(hn:0<n)(h2:n<=1000):lcmI a n<=a * 1000:=by
 unfold lcmI
 have g:0<(Int.gcd a n:Int):=by
  have:=Int.gcd_pos_of_ne_zero_right a (show n≠0 by omega);omega
 have k1:a / (Int.gcd a n:Int)<=a:=Int.ediv_le_self _ (aJ' ha);have k0:0<=a / (Int.gcd a n:Int):=Int.ediv_nonneg (aJ' ha) (aJ' g);exact Int.mul_le_mul k1 h2 (aJ' hn) (aJ' ha)
theorem j0_:∀(ns:List Int) (a:Int),0<a->(∀n∈ns,0<n/\n<=1000)->ns.foldl lcmI a<=a * 1000 ^ ns.length
 |[],a,_,_=>by simp
 |n::ns,a,ha,h=>by
  have hn:=h n ag'
  have p:0<lcmI a n:=by
   have:=(cl_ [n] a ha (by simpa using hn.1)).1;exact this
  have k1:=j0_ ns (lcmI a n) p λm hm=>h m (ad' _ hm);have k2:=jJ_ ha hn.1 hn.2;have e:(0:Int)<=1000 ^ ns.length:=Int.pow_nonneg (by decide);rw[List.foldl_cons,az',Int.pow_succ];refine Int.le_trans k1 ?_;have:=Int.mul_le_mul_of_nonneg_right k2 e;have e2:a * 1000 * 1000 ^ ns.length=a * (1000 ^ ns.length * 1000):=by grind
  rw[e2] at this;exact this
theorem iQ_{hs:Xa}{ts:Xb}(G:Good hs ts):0<bv' hs/\bv' hs<2 ^ 100/\∀n∈a2' hs,bv' hs / strOf hs n * strOf hs n=bv' hs:=by
 have pos:∀m∈(a2' hs).map (strOf hs),0<m/\m<=1000:=λm hm=>by
  obtain⟨x,hx,rfl⟩:=af'.mp hm;have:=ef_ G hx;omega
 have pos1:∀m∈(a2' hs).map (strOf hs),0<m:=λm hm=>(pos m hm).1;refine⟨dz_ pos1,?_,λn hn=>Int.ediv_mul_cancel (in_ pos1 (af'.mpr ⟨_,hn,rfl⟩))⟩;have k:=j0_ _ 1 (by decide) pos;rw[aa',G.nlen,Int.one_mul] at k;have h8:=G.h8
 have k2:(1000:Int) ^ hs.length<=1000 ^ 8:=by
  have:(1000:Nat) ^ hs.length<=1000 ^ 8:=Nat.pow_le_pow_right (by decide) h8
  exact_mod_cast this
 have:bv' hs<=1000 ^ 8:=Int.le_trans k k2;have e:(1000:Int) ^ 8<2 ^ 100:=by decide
 omega
def d8'(hs:Xa)(qs:List Pc)(f:Str->Str)(r:Int):Prop:=∃x∈a2' hs,∃y∈a2' hs,r=lvF hs qs f x - lvF hs qs f y/\∀z∈a2' hs,lvF hs qs f z<=lvF hs qs f x/\lvF hs qs f y<=lvF hs qs f z
def aV(hs:Xa)(qs:List Pc)(f:Str->Str)(t:Str × Str):Int:=if lvF hs qs f t.1 - lvF hs qs f t.2<0 then -(lvF hs qs f t.1 - lvF hs qs f t.2) else lvF hs qs f t.1 - lvF hs qs f t.2
def dP'(hs:Xa)(ts:Xb)(qs:List Pc)(f:Str->Str)(r:Int):Prop:=(tsOf ts=[]/\r=0)∨∃t∈tsOf ts,r=aV hs qs f t/\∀u∈tsOf ts,aV hs qs f u<=r
theorem kc_{hs:Xa}{qs:List Pc}{f:Str->Str}{t:Str × Str}:0<=aV hs qs f t:=by
 unfold aV;split<;>omega
section
variable{P:Ae}{w:Af}{K:F__}{mg:Str->Option Aa}{base:Heap}
theorem scFracL:a3' ["top","below","divisor"] ["top","below"] (a1' sFrac):=f__
def dM':Sp:=λvs H Q _=>∃a b:Int,vs=[.int a,.int b]/\0<=a/\0<b/\b<2 ^ 100/\∀t,H t=none->Q (.ref t) (upd H t (.tup [.int (fr a b).1,.int (fr a b).2]))
theorem i7_{f:Addr}{fd:Ad}(F:Fun K "fraction_of" "fraction_of" sFrac f fd)(cG:Cal P w K mg base 1 "greatest_divisor" ["one","other"] spGd):FnOk P w K mg base CX0 2 f fd ["top","below"] dM':=by
 refine F.ok scFracL (λvs H Q E h=>?_) (λcdv A outer s H vs Q E hr h=>?_)
 ·obtain⟨a,b,rfl,_⟩:=h;rfl
 ·obtain⟨a,b,rfl,ha,hb,hb2,k⟩:=h
  have g:0<(Int.gcd a b:Int)/\(Int.gcd a b:Int)<2 ^ 100:=by
   have h1:0<Int.gcd a b:=Int.gcd_pos_of_ne_zero_right a Z1;have h3:=Int.le_of_dvd hb (Int.gcd_dvd_right a b);omega
  refine⟨_,a3_ (ad_ (i:=2) scFrac.nd rfl (Or.inl rfl) (af_ cG hr (a0_ (pv 0) (a0_ (pv 1) a2_)))) (a4_ (a8_ (aR_ (a0_ (am_ eU_ (pv 0) (pv 2)) (a0_ (am_ eU_ (pv 1) (pv 2)) a2_))))),?_⟩;refine⟨_,rfl,_,rfl,a,b,rfl,ha,hb,?_⟩;exact⟨_,rfl,_,rfl,_,_,rfl,rfl,g,_,rfl,_,rfl,_,_,rfl,rfl,g,by show 2<=sizeLine;decide,k⟩
theorem scRise:a3' ["goods","placed","levels"] ["goods","placed"] (a1' sRise):=f__
inductive spRise (K:F__) (CG CW:Addr) (vs:List V) (H:Hp) (Q:VK) (E:XK):Prop
 |mk:∀(g p d:Addr) (hs:Xa) (ts:Xb) (qs:List Pc) (fp:List Addr) (f:Str->Str),vs=[.ref g,.ref d]->bw' K CG CW H g p d hs ts qs fp f->(∀q∈qs,0<=q.2.1/\q.2.1<=1000000000)->(∀r H',Same H H'->d8' hs qs f r->Q (.int r) H')->spRise K CG CW vs H Q E
theorem j6_{f CG CW:Addr}{fd:Ad}(F:Fun K "rise_at" "rise_at" sRise f fd)(B:Bi mg)(mMin:mg "min"=none)(cV:Cal P w K mg base 4 "levels_at" ["goods","placed"] (bV' K CG CW)):FnOk P w K mg base CX0 5 f fd ["goods","placed"] (spRise K CG CW):=by
 refine F.ok scRise (λvs H Q E h=>?_) (λcdv A outer s H vs Q E hr h=>?_)
 ·obtain⟨g,p,d,hs,ts,qs,fp,f,rfl,_⟩:=h;rfl
 ·obtain⟨g,p,d,hs,ts,qs,fp,f,rfl,Pl,wp,k⟩:=h;have nl:=Pl.Gd.nlen;have h1:=Pl.Gd.h1;refine' ⟨_,a3_ ?s1 (a4_ ?s2),?kk⟩
  case s1=>exact ad_ (i:=2) scRise.nd rfl (Or.inl rfl) (af_ cV hr (a0_ (pv 0) (a0_ (pv 1) a2_)))
  case s2=>exact a8_ (am_ bM_ (ab_ (hh_ rfl) (by rfl) B.max PyProof.Rows.Boot.«max» (a0_ (bT_ (pv 2)) a2_)) (ab_ (hu_ rfl) (by rfl) mMin PyProof.Rows.Boot.«min» (a0_ (bT_ (pv 2)) a2_)))
  case' kk=>skip
  refine⟨_,rfl,_,rfl,g,p,d,hs,ts,qs,fp,f,rfl,Pl,wp,λdv H1 s1 n1 e1=>?_⟩
  have em:((a2' hs).map λh=>((Sum.inr h:Key),lvF hs qs f h)).map (·.2)=(a2' hs).map (lvF hs qs f):=by
   rw[ak'];rfl
  have ekv:mKV (a2' hs) (λh=>V.int (lvF hs qs f h))=((a2' hs).map λh=>((Sum.inr h:Key),lvF hs qs f h)).map λx=>(x.1,V.int x.2):=by
   rw[ak'];rfl
  rw[ekv] at e1;refine⟨_,rfl,dv,_,rfl,e1,λv hv=>?_⟩;obtain⟨s2,ev⟩:=nw__ (o:=a9' v dv) hv;generalize upd H1 v (a9' v dv)=H2 at s2 ev ⊢;refine⟨v,dv,(a2' hs).map λh=>((Sum.inr h:Key),lvF hs qs f h),rfl,ev,.of (s2 _ _ e1),by rw[aa'];omega,λm hm mx=>?_⟩;rw[em] at hm mx;refine⟨_,rfl,dv,_,rfl,s2 _ _ e1,λv2 hv2=>?_⟩;obtain⟨s3,ev2⟩:=nw__ (o:=a9' v2 dv) hv2;generalize upd H2 v2 (a9' v2 dv)=H3 at s3 ev2 ⊢;refine⟨v2,dv,(a2' hs).map λh=>((Sum.inr h:Key),lvF hs qs f h),rfl,ev2,.of (s3 _ _ (s2 _ _ e1)),by rw[aa'];omega,λm2 hm2 mn=>?_⟩;rw[em] at hm2 mn;obtain⟨x,hx,rfl⟩:=af'.mp hm;obtain⟨y,hy,rfl⟩:=af'.mp hm2;exact⟨_,_,rfl,rfl,k _ H3 (s1.trans (s2.trans s3)) ⟨x,hx,y,hy,rfl,λz hz=>⟨mx _ (af'.mpr ⟨z,hz,rfl⟩),mn _ (af'.mpr ⟨z,hz,rfl⟩)⟩⟩⟩
theorem el':a3' ["goods","placed"] ["goods","placed"] (a1' cu'):=f__
inductive b3' (K:F__) (CG CW:Addr) (vs:List V) (H:Hp) (Q:VK) (E:XK):Prop
 |mk:∀(g p d:Addr) (hs:Xa) (ts:Xb) (qs:List Pc) (fp:List Addr) (f:Str->Str),vs=[.ref g,.ref d]->bw' K CG CW H g p d hs ts qs fp f->(∀q∈qs,0<=q.2.1/\q.2.1<=1000000000)->(∀t r H',Same H H'->d8' hs qs f r->H' t=some (.tup [.int (fr r (bv' hs)).1,.int (fr r (bv' hs)).2])->Q (.ref t) H')->b3' K CG CW vs H Q E
theorem eB_{f CG CW:Addr}{fd:Ad}(F:Fun K "spread_at" "spread_at" cu' f fd)(T:TxtG K CG)(cR:Cal P w K mg base 5 "rise_at" ["goods","placed"] (spRise K CG CW))(cM:Cal P w K mg base 3 "multiple_of_strengths" ["web"] (dj' K CW))(cF:Cal P w K mg base 2 "fraction_of" ["top","below"] dM'):FnOk P w K mg base CX0 6 f fd ["goods","placed"] (b3' K CG CW):=by
 refine F.ok el' (λvs H Q E h=>?_) (λcdv A outer s H vs Q E hr h=>?_)
 ·obtain⟨g,p,d,hs,ts,qs,fp,f,rfl,_⟩:=h;rfl
 ·obtain⟨g,p,d,hs,ts,qs,fp,f,rfl,Pl,wp,k⟩:=h;have mo:=iQ_ Pl.Gd;refine⟨_,a4_ (a8_ (af_ cF (hr.mono (by decide)) (a0_ (af_ cR hr (a0_ (pv 0) (a0_ (pv 1) a2_))) (a0_ (af_ cM (hr.mono (by decide)) (a0_ (ak_ (pv 0) rfl) a2_)) a2_)))),?_⟩;refine⟨_,rfl,_,rfl,g,p,d,hs,ts,qs,fp,f,rfl,Pl,wp,λr H1 s1 ir=>?_⟩;have G1:=Pl.G.same s1;obtain⟨dx,dw,dy,vs,fpw,h1,h2,_⟩:=id G1.ex;refine⟨_,rfl,g,CG,dx,_,_,rfl,h1,T.cl,T.nW,aJ_ _ _ _,p,hs,ts,fpw,rfl,h2,Pl.Gd,λH2 s2=>?_⟩
  have r0:0<=r:=by
   obtain⟨x,hx,y,hy,rfl,b⟩:=ir;have:=(b y hy).1;omega
  exact⟨r,bv' hs,rfl,r0,mo.1,mo.2.1,λt ht=>k t r _ ((s1.trans s2).trans (Same.new ht)) ir a1_⟩
theorem scSpread:a3' ["goods","stand"] ["goods","stand"] (a1' d0'):=f__
inductive cP' (K:F__) (CG CW:Addr) (vs:List V) (H:Hp) (Q:VK) (E:XK):Prop
 |mk:∀(g p d:Addr) (hs:Xa) (ts:Xb) (qs:List Pc) (fp:List Addr) (ns:List Str) (f:Str->Str),vs=[.ref g,.ref d]->Std K CG CW H g p d hs ts qs fp ns f->(∀q∈qs,0<=q.2.1/\q.2.1<=1000000000)->(∀t r H',Same H H'->d8' hs qs f r->H' t=some (.tup [.int (fr r (bv' hs)).1,.int (fr r (bv' hs)).2])->Q (.ref t) H')->cP' K CG CW vs H Q E
theorem hi_{f CG CW:Addr}{fd:Ad}(F:Fun K "spread" "spread" d0' f fd)(cC:Cal P w K mg base 2 "checked_stand" ["goods","stand"] (bC' K CG CW))(cL:Cal P w K mg base 6 "spread_at" ["goods","placed"] (b3' K CG CW)):FnOk P w K mg base CX0 7 f fd ["goods","stand"] (cP' K CG CW):=by
 refine F.ok scSpread (λvs H Q E h=>?_) (λcdv A outer s H vs Q E hr h=>?_)
 ·obtain⟨g,p,d,hs,ts,qs,fp,ns,f,rfl,_⟩:=h;rfl
 ·obtain⟨g,p,d,hs,ts,qs,fp,ns,f,rfl,S,wp,k⟩:=h;refine⟨_,a4_ (a8_ (af_ cL hr (a0_ (pv 0) (a0_ (af_ cC (hr.mono (by decide)) (a0_ (pv 0) (a0_ (pv 1) a2_))) a2_)))),?_⟩;refine⟨_,rfl,_,rfl,_,rfl,g,p,d,hs,ts,qs,fp,ns,f,rfl,S.G,S.dfp,S.hd,S.ok,S.nd,S.h64,λd1 H1 s1 n1 e1=>?_⟩;obtain⟨fp',Pl⟩:=S.placed s1 n1 e1;exact⟨g,p,d1,hs,ts,qs,fp',f,rfl,Pl,wp,λt r H2 s2 ir e=>k t r H2 (s1.trans s2) ir e⟩
abbrev cpS:List Str:=["one","other","levels"]
theorem dY':a3' ["goods","stand","levels","above"] ["goods","stand"] (a1' sSteep):=f__
inductive dU' (K:F__) (CG CW:Addr) (vs:List V) (H:Hp) (Q:VK) (E:XK):Prop
 |mk:∀(g p d:Addr) (hs:Xa) (ts:Xb) (qs:List Pc) (fp:List Addr) (ns:List Str) (f:Str->Str),vs=[.ref g,.ref d]->Std K CG CW H g p d hs ts qs fp ns f->(∀q∈qs,0<=q.2.1/\q.2.1<=1000000000)->(∀t r H',Same H H'->dP' hs ts qs f r->H' t=some (.tup [.int (fr r (bv' hs)).1,.int (fr r (bv' hs)).2])->Q (.ref t) H')->dU' K CG CW vs H Q E
theorem hF_{f CG CW:Addr}{fd:Ad}(F:Fun K "steepest" "steepest" sSteep f fd)(B:Bi mg)(mAbs:mg "abs"=none)(T:TxtG K CG)(TW:Txt K mg CW)(cC:Cal P w K mg base 2 "checked_stand" ["goods","stand"] (bC' K CG CW))(cV:Cal P w K mg base 4 "levels_at" ["goods","placed"] (bV' K CG CW))(cT:CalM P w K mg base CW 2 "ties" ["self"] (b6' K CW))(cM:Cal P w K mg base 3 "multiple_of_strengths" ["web"] (dj' K CW))(cF:Cal P w K mg base 2 "fraction_of" ["top","below"] dM'):FnOk P w K mg base CX0 5 f fd ["goods","stand"] (dU' K CG CW):=by
 refine F.ok dY' (λvs H Q E h=>?_) (λcdv A outer s H vs Q E hr h=>?_)
 ·obtain⟨g,p,d,hs,ts,qs,fp,ns,f,rfl,_⟩:=h;rfl
 ·obtain⟨g,p,d,hs,ts,qs,fp,ns,f,rfl,S,wp,k⟩:=h;have hu:=ba_ hr;have sz:=b__;have mo:=iQ_ S.Gd;have hr2:Room 2 _:=hr.mono (by decide);refine' ⟨_,a3_ ?s1 (a3_ ?s2 (a4_ ?s3)),?kk⟩
  case s1=>exact ad_ (i:=2) dY'.nd rfl (Or.inr rfl) (af_ cV hr (a0_ (pv 0) (a0_ (af_ cC hr2 (a0_ (pv 0) (a0_ (pv 1) a2_))) a2_)))
  case' s2=>refine' cR_ (i:=3) cpS 2 [2] dY'.nd rfl (Or.inl rfl) (aj_ (b3_ cT TW.cl hr2 (ak_ (pv 0) rfl))) ?u1 (λfp s H=>aK_) ?u3
  case u1=>exact λfp s H=>dn_ (n:=2) (aq_ (ac_ (i:=0) (show cpS.Nodup by decide +kernel) rfl (Or.inl rfl)) (aq_ (ac_ (i:=1) (show cpS.Nodup by decide +kernel) rfl (Or.inl rfl)) bc_))
  case u3=>exact λfp s H=>ab_ bx_ (by rfl) mAbs PyProof.Rows.Boot.«abs» (a0_ (am_ bM_ (aP_ hu (pv 2) (pv 0) (λ_ _=>rfl)) (aP_ hu (pv 2) (pv 1) (λ_ _=>rfl))) a2_)
  case s3=>exact a8_ (af_ cF hr2 (a0_ (js_ rfl (by rfl) B.max (a0_ (pv 3) a2_) (em_ a6_ gk_)) (a0_ (af_ cM (hr.mono (by decide)) (a0_ (ak_ (pv 0) rfl) a2_)) a2_)))
  case' kk=>skip
  refine⟨_,rfl,_,rfl,_,rfl,g,p,d,hs,ts,qs,fp,ns,f,rfl,S.G,S.dfp,S.hd,S.ok,S.nd,S.h64,λd1 H1 s1 n1 e1=>?_⟩;obtain⟨fp',Pl⟩:=S.placed s1 n1 e1;refine⟨g,p,d1,hs,ts,qs,fp',f,rfl,Pl,wp,λdv H2 s2 n2 e2=>?_⟩;have so2:=s1.trans s2;have G2:=S.G.same so2;obtain⟨dx,dw,dy,vs,fpw,h1,h2,_⟩:=id G2.ex;obtain⟨dxw,d1',l2,d3,zs0,as,ef,w1,_⟩:=id h2.ex;refine⟨_,rfl,g,CG,dx,_,_,rfl,h1,T.cl,T.nW,aJ_ _ _ _,p,dxw,_,rfl,w1,az_ _ _ _ Z0 Z0 Z0,p,hs,ts,fpw,rfl,h2,S.Gd.t64,λlt zt H3 s3 nt e3 tt=>?_⟩;have ltz:=a_3 tt;rw[aa',bo_] at ltz;have t64:=S.Gd.t64
  have tin:∀t∈tsOf ts,t.1∈a2' hs/\t.2∈a2' hs:=λt ht=>by
   obtain⟨u,hu,e⟩:=cb'.mp ht;have:=S.Gd.tin u hu;have a1:=(aw_ hs).mem_iff.mpr this.1;have a2:=(aw_ hs).mem_iff.mpr this.2;rcases d9_ u.1 u.2 with z|z
   ·rw[z] at e;rw[<- e];exact⟨a1,a2⟩
   ·rw[z] at e;rw[<- e];exact⟨a2,a1⟩
  refine⟨lt,rfl,⟨_,.of e3⟩,λD hD=>?_⟩;refine as_ (own:=2) (fv:=[some (.ref dv)]) (xs:=zt) rfl gok2 (λi out H'=>Same H3 H'/\H' D=some (.lst out)/\out=(((tsOf ts).take i).map (aV hs qs f)).map V.int) ⟨Same.new hD,a1_,rfl⟩ (λi out H' _ ⟨sm,_,_⟩=>.of (sm _ _ e3)) (λout H4 ⟨s4,hD4,eo⟩=>?_) (λi y out H' hy ⟨sm,hD',eo⟩=>?_);rotate_left 1
  ·have hi:i<zt.length:=(ac'.mp hy).1;obtain⟨t,ht,a,rfl,ha⟩:=aL_ tt hy;have tn:=tin t (ae' ht);have ha:=hpT (sm _ _ ha);have e2':=(s3.trans sm) _ _ e2;refine⟨_,⟨a,_,_,rfl,.of ha,rfl⟩,rfl,λNx hN=>yesT ?_⟩;refine⟨_,rfl,_,rfl,dv,.int (lvF hs qs f t.1),rfl,?_,_,rfl,_,rfl,dv,.int (lvF hs qs f t.2),rfl,?_,_,_,rfl,rfl,_,rfl,out,hD',by rw[eo,aa',aa',am'];omega,hN _ _ ⟨ar_ sm hD,a1_,?_⟩⟩
   ·rw[<- bu_ (g:=λh=>V.int (lvF hs qs f h)) tn.1];exact .k (k:=Sum.inr t.1) e2'
   ·rw[<- bu_ (g:=λh=>V.int (lvF hs qs f h)) tn.2];exact .k (k:=Sum.inr t.2) e2'
   ·rw[aw',ht,an',an',eo];rfl
  rw[ltz,<- bo_,ao'] at eo;rw[eo] at hD4;refine⟨_,rfl,D,_,0,rfl,rfl,.of hD4,λm hm=>?_⟩;have so4:=so2.trans (s3.trans s4);have G4:=S.G.same so4;obtain⟨dx,dw,dy,vs,fpw,h1,h2,_⟩:=id G4.ex;refine⟨_,rfl,g,CG,dx,_,_,rfl,h1,T.cl,T.nW,aJ_ _ _ _,p,hs,ts,fpw,rfl,h2,S.Gd,λH5 s5=>?_⟩
  have ir:dP' hs ts qs f m:=by
   rcases hm with⟨e,rfl⟩|⟨hm,mx⟩
   ·exact .inl ⟨List.map_eq_nil_iff.mp e,rfl⟩
   ·obtain⟨t,ht,rfl⟩:=af'.mp hm;exact .inr ⟨t,ht,rfl,λu hu=>mx _ (af'.mpr ⟨u,hu,rfl⟩)⟩
  have m0:0<=m:=by
   rcases ir with⟨_,rfl⟩|⟨t,_,rfl,_⟩
   ·decide
   ·exact kc_
  exact⟨m,bv' hs,rfl,m0,mo.1,mo.2.1,λt ht=>k t m _ ((so4.trans s5).trans (Same.new ht)) ir a1_⟩
end
section
variable{P:Ae}{w:Af}{K:F__}{mg:Str->Option Aa}{base:Heap}
theorem scGFree:a3' ["self"] ["self"] (a1' sGFree):=f__
inductive dD' (K:F__) (CG CW:Addr) (vs:List V) (H:Hp) (Q:VK) (E:XK):Prop
 |mk:∀(g p:Addr) (hs:Xa) (ts:Xb) (qs:List Pc) (fp:List Addr),vs=[.ref g]->a6' K CG CW H g p hs ts qs fp->qs.length<=1000->(∀H',Same H H'->Q (.bl (qs.all λq=>q.2.2.isNone)) H')->dD' K CG CW vs H Q E
theorem hK_{f CG CW:Addr}{fd:Ad}(F:Fun K "are_free" "Goods.are_free" sGFree f fd)(T:TxtG K CG)(B:Bi mg):FnOk P w K mg base CX0 1 f fd ["self"] (dD' K CG CW):=by
 refine F.ok scGFree (λvs H Q E h=>?_) (λcdv A outer s H vs Q E hr h=>?_)
 ·obtain⟨g,p,hs,ts,qs,fp,rfl,_⟩:=h;rfl
 ·obtain⟨g,p,hs,ts,qs,fp,rfl,G,h1000,k⟩:=h;have sz:=b__;obtain⟨dx,dw,dy,vs,fpw,h1,h2,h3,h4,h5,m1,m2,m3,m4,m5⟩:=G.ex;have lv:=a_3 h5
  refine⟨_,a4_ (a8_ (ab_ (eT_ rfl) (by rfl) B.all PyProof.Rows.Boot.«all» (a0_ (gi_ (aO_ ["ties"] 1 [] (ge_ (bT_ (ak_ (pv 0) rfl))) (λfp s H=>ac_ (i:=0) (show (["ties"]:List Str).Nodup by decide +kernel) rfl (Or.inl rfl)) (λfp s H=>aK_)
   (λfp s H=>cZ_ (dG_ (pv 0))))) a2_))),?_⟩
  refine⟨dy,_,h4,_,rfl,g,CG,dx,_,_,rfl,h1,T.cl,T.nY,hw_ _ _ _,dy,_,rfl,h4,λv hv=>?_⟩;have s1:Same H (upd H v (a9' v dy)):=Same.new hv;refine⟨v,dy,_,rfl,a1_,s1 _ _ h4,λo D hD=>?_⟩
  have lk:(yKV qs vs).length=qs.length:=by
   unfold yKV;rw[aa',List.length_zip];omega
  let bs:List Bool:=qs.map λq=>q.2.2.isNone
  have lb:bs.length=qs.length:=aa' _;refine du_ (own:=1) (fv:=[]) rfl gok1 qs.length (λi out H'=>Same (upd (upd H v (a9' v dy)) dy (.frz o (.dK (yKV qs vs)))) H'/\H' D=some (.lst out)/\out=(bs.take i).map V.bl) ⟨Same.new hD,a1_,rfl⟩ (λout H' ⟨sm,hD',eo⟩=>?_) (λi out H' hi ⟨sm,hD',eo⟩=>?_)
  ·have hf:=sm _ _ (show upd (upd H v (a9' v dy)) dy (.frz o (.dK (yKV qs vs))) dy=some _ from a1_);have Dd:D≠dy:=aM_ hD' hf nofun;rw[<- lb,ao'] at eo;refine⟨⟨hf,by omega⟩,o,hf,D,bs,rfl,.of ?_,?_⟩
   ·rw[a5_ Dd,hD',eo]
   ·have:=k (upd H' dy (.dK (yKV qs vs))) (λb u e=>by
     by_cases z:b=dy
     ·subst z;rw[a1_,<- h4];exact e
     ·rw[a5_ z];exact sm _ _ (by rw[a5_ z];exact s1 _ _ e))
    show Q (.bl (bs.all id)) _;rwa [show bs.all id=qs.all λq=>q.2.2.isNone by show (qs.map λq=>q.2.2.isNone).all id=_;rw[List.all_map];rfl]
  ·have hf:=sm _ _ (show upd (upd H v (a9' v dy)) dy (.frz o (.dK (yKV qs vs))) dy=some _ from a1_);refine⟨⟨hf,by omega⟩,λx H2 y=>?_⟩;obtain⟨eH,kk,hk⟩:=y;subst eH
   have ex:x=vs[i]' Z1:=by
    unfold yKV at hk;rw[aj',ab' (by rw[List.length_zip];omega),List.getElem_zip] at hk;exact (Prod.mk.inj (a_8 hk)).2.symm
   have wy:=an_ h5 i Z1 hi;rw[<- ex] at wy
   have eb:decide (x=.non)=(qs[i]).2.2.isNone:=by
    cases e:(qs[i]).2.2 with
    |none=>
     rw[e] at wy;cases (show x=.non from wy);rfl
    |some ws=>
     rw[e] at wy;obtain⟨a,ys,e2,_⟩:=wy;rw[e2];rfl
   refine⟨_,rfl,rfl,λNx hN=>yesT ?_⟩;refine⟨_,rfl,out,hD',?_,?_⟩
   ·rw[eo,aa',am'];omega
   ·rw[eb];refine hN _ _ ⟨ar_ sm hD,a1_,?_⟩;rw[aB_ _ (show bs[i]? = some (qs[i]).2.2.isNone by show (qs.map λq=>q.2.2.isNone)[i]? = _;rw[aj',ab' hi];rfl),eo]
end
section
variable{P:Ae}{w:Af}{K:F__}{mg:Str->Option Aa}{base:Heap}
theorem ci':a3' ["weight","rule","guard","heavy","pieces","stand"] ["weight","rule"] (a1' sWorst):=f__
theorem scHeavy:a3' ["guard"] ["guard"] (a1' sHeavy):=f__
def br':Option Str->List Str
 |some g=>if g="fall" then (["p"]:List Str) else if g="calm" then (["p","q"]:List Str) else (["p","q","r","s"]:List Str)
 |none=>(["p","q","r","s"]:List Str)
def spHeavy:Sp:=λvs H Q _=>∃o:Option Str,vs=[optV o]/\∀l,H l=none->Q (.ref l) (upd H l (.lst ((br' o).map V.str)))
theorem iz_{f:Addr}{fd:Ad}(F:Fun K "heavy_pieces" "heavy_pieces" sHeavy f fd):FnOk P w K mg base CX0 1 f fd ["guard"] spHeavy:=by
 refine F.ok scHeavy (λvs H Q E h=>?_) (λcdv A outer s H vs Q E hr h=>?_)
 ·obtain⟨o,rfl,_⟩:=h;rfl
 ·obtain⟨o,rfl,k⟩:=h;refine' ⟨_,a3_ ?s1 (a3_ ?s2 (a4_ ?s3)),?kk⟩
  case s1=>exact al_ (ae_ b9_ (pv 0) ag_ (nomark _)) (a4_ (a8_ (ax_ (a0_ ag_ a2_)))) a9_
  case s2=>exact al_ (ae_ b9_ (pv 0) ag_ (nomark _)) (a4_ (a8_ (ax_ (a0_ ag_ (a0_ ag_ a2_))))) a9_
  case s3=>exact a8_ (ax_ (a0_ ag_ (a0_ ag_ (a0_ ag_ (a0_ ag_ a2_)))))
  case' kk=>skip
  cases o with
  |none=>exact⟨_,rfl,rfl,_,rfl,iteF ⟨_,rfl,rfl,_,rfl,iteF ⟨by show 4<=sizeLine;decide,k⟩⟩⟩
  |some g=>
   refine⟨_,rfl,rfl,_,rfl,?_⟩;by_cases c:g="fall"
   ·subst c;exact iteT ⟨by show 1<=sizeLine;decide,k⟩
   ·rw[show decide (optV (some g)=V.str "fall")=false from a_7 λz=>c (V.str.inj z)];refine iteF ⟨_,rfl,rfl,_,rfl,?_⟩;by_cases c2:g="calm"
    ·subst c2;exact iteT ⟨by show 2<=sizeLine;decide,k⟩
    ·rw[show decide (optV (some g)=V.str "calm")=false from a_7 λz=>c2 (V.str.inj z)];refine iteF ⟨by show 4<=sizeLine;decide,λl hl=>?_⟩;have:=k l hl;rw[show br' (some g)=(["p","q","r","s"]:List Str) by simp[br',c,c2]] at this;exact this
end
def hsW:Xa:=[("a",1),("b",1)]
def tsW:Xb:=[("a","b")]
theorem ej':Good hsW tsW:=⟨by unfold hsW goodH;decide +kernel,by decide +kernel,by decide,by decide,by unfold tsW goodT;decide +kernel,by decide +kernel,by decide,by unfold tsW hsW;decide +kernel⟩
theorem eS_(o:Option Str):(∀n∈br' o,bu' n=true/\n≠"t")/\(br' o).Nodup/\1<=(br' o).length/\(br' o).length<=4:=by
 have all:∀l∈([["p"],["p","q"],["p","q","r","s"]]:List (List Str)),(∀n∈l,bu' n=true/\n≠"t")/\l.Nodup/\1<=l.length/\l.length<=4:=by decide +kernel
 refine all _ ?_;cases o with
 |none=>simp[br']
 |some g=>
  show (if g=("fall":Str) then (["p"]:List Str) else if g=("calm":Str) then (["p","q"]:List Str) else (["p","q","r","s"]:List Str))∈_;by_cases c:g="fall"
  ·rw[a_9 c];exact ag'
  ·rw[a_4 c];by_cases c2:g="calm"
   ·rw[a_9 c2];exact ad' _ ag'
   ·rw[a_4 c2];exact ad' _ (ad' _ ag')
def nmW(o:Option Str):List Str:=br' o++(if o=some ("fall":Str) then [] else (["t"]:List Str))
def qsW(o:Option Str)(wt:Int):List Pc:=(br' o).map (λn=>((n,wt,none):Pc))++(if o=some ("fall":Str) then [] else ([("t",1,none)]:List Pc))
def fW(n:Str):Str:=if n="t" then "b" else "a"
theorem be_(o:Option Str)(wt:Int):(qsW o wt).map (·.1)=nmW o:=by
 unfold qsW nmW;rw[an',ak'];congr 1
 ·exact List.map_id _
 ·split<;>rfl
theorem kz_(o:Option Str):nmW o∈([["p"],["p","q","t"],["p","q","r","s","t"]]:List (List Str)):=by
 unfold nmW;cases o with
 |none=>rw[a_4 (by decide)];exact ad' _ (ad' _ ag')
 |some g=>
  by_cases c:g="fall"
  ·rw[c,a_9 rfl];exact ag'
  ·rw[a_4 λz=>c (a_8 z)];show (if g=("fall":Str) then (["p"]:List Str) else if g=("calm":Str) then (["p","q"]:List Str) else (["p","q","r","s"]:List Str))++_∈_;rw[a_4 c];by_cases c2:g="calm"
   ·rw[a_9 c2];exact ad' _ ag'
   ·rw[a_4 c2];exact ad' _ (ad' _ ag')
theorem bs_(o:Option Str):bt' (nmW o)=nmW o/\(nmW o).Nodup/\(nmW o).length<=5/\1<=(nmW o).length/\∀n∈nmW o,bu' n=true:=by
 have all:∀l∈([["p"],["p","q","t"],["p","q","r","s","t"]]:List (List Str)),SAsc l/\l.Nodup/\l.length<=5/\1<=l.length/\∀n∈l,bu' n=true:=by unfold SAsc;decide +kernel
 obtain⟨a,b⟩:=all _ (kz_ o);exact⟨bI_ (b1_ _) (cQ_ _) a,b⟩
theorem c7_{o:Option Str}{wt:Int}{q:Pc}(h:q∈qsW o wt):q.2.2=none/\(q.2.1=wt∨q.2.1=1):=by
 unfold qsW at h;rcases au'.mp h with h|h
 ·obtain⟨n,_,rfl⟩:=af'.mp h;exact⟨rfl,.inl rfl⟩
 ·split at h
  ·cases h
  ·rw[aR'.mp h];exact⟨rfl,.inr rfl⟩
theorem kb_{o:Option Str}{wt:Int}{qs:List Pc}(Q:Qs (qsW o wt) qs):qs=qsW o wt:=by
 have e:=Q.nms;rw[be_,(bs_ o).1,<- be_ o wt] at e;have nd:((qsW o wt).map (·.1)).Nodup:=by rw[be_];exact (bs_ o).2.1
 have le:qs.length=(qsW o wt).length:=by simpa using b_9 List.length e
 refine List.ext_getElem le λi h1 h2=>?_;obtain⟨p,hp,ep⟩:=Q.mem _ (aC' h1)
 have np:nrm p=p:=by
  unfold nrm;rw[(c7_ hp).1];exact Prod.ext rfl (Prod.ext rfl (c7_ hp).1.symm)
 rw[np] at ep;rw[ep];refine cL_ nd hp (aC' h2) ?_;have:=List.getElem_of_eq e (i:=i) (by simpa using h1);rw[List.getElem_map,List.getElem_map,ep] at this;exact this
theorem kk_(o:Option Str)(wt:Int):c8' hsW (qsW o wt) (nmW o) fW:=⟨by rw[be_],λn _=>by unfold fW hsW;split<;>simp⟩
theorem cO_{α β γ:Type}{F:α->γ->Prop}{k:β->γ}:∀{ys:List α} {as:List β},Paired (λy a=>F y (k a)) ys as->Paired F ys (as.map k)
 |_,_,.nil=>.nil
 |_,_,.cons h t=>.cons h (cO_ t)
section
variable{P:Ae}{w:Af}{K:F__}{mg:Str->Option Aa}{base:Heap}
def spWorst(K:F__)(CG CW:Addr):Sp:=λvs H Q _=>∃wt:Int,∃r∈rl,vs=[.int wt,.str r.1]/\1<=wt/\wt<=1000000000/\guB ["fall","calm"] r=true /\
 ∀t g p d fp H',Same H H'->H' t=some (.tup [.ref g,.ref d])->a6' K CG CW H' g p hsW tsW (qsW r.2.2.2 wt) fp->(∀b∈fp,H b=none)->H d=none->d∉fp->H' d=some (.dK (stF (nmW r.2.2.2) fW))->Q (.ref t) H'
theorem hN_{f CG CW:Addr}{fd:Ad}(F:Fun K "worst_of" "worst_of" sWorst f fd)(B:Bi mg)(cG:Cal P w K mg base 5 "checked_guard" ["rule"] cU')(cW:Cal P w K mg base 3 "check_weight" ["thing"] cq')(cH:Cal P w K mg base 1 "heavy_pieces" ["guard"] spHeavy)(cMk:CalC P w K mg base CW 5 "Web" ["self","hands","ties"] (spInit K CW))(cGd:CalC P w K mg base CG 7 "Goods" ["self","web","pieces"] (dW' K CG CW)):FnOk P w K mg base CX0 9 f fd ["weight","rule"] (spWorst K CG CW):=by
 refine F.ok ci' (λvs H Q E h=>?_) (λcdv A outer s H vs Q E hr h=>?_)
 ·obtain⟨wt,r,hr,rfl,_⟩:=h;rfl
 ·obtain⟨wt,r,hr',rfl,w1,w2,gu,k⟩:=h;have sz:=b__;have hu:=ba_ hr;have hr1:Room 1 _:=hr.mono (by decide);have hr3:Room 3 _:=hr.mono (by decide);have hr5:Room 5 _:=hr.mono (by decide);have hr6:Room 6 _:=hr.mono (by decide);refine' ⟨_,?r0,?kk⟩
  case' r0=>refine' a3_ ?s1 ?r1
  case' r1=>refine' a3_ ?s2 ?r2
  case' r2=>refine' a3_ ?s3 ?r3
  case' r3=>refine' a3_ ?s4 ?r4
  case' r4=>refine' a3_ ?s5 ?r5
  case' r5=>refine' a3_ ?s6 (a4_ ?s7)
  case s1=>exact ad_ (i:=2) ci'.nd rfl (Or.inl rfl) (af_ cG hr5 (a0_ (pv 1) a2_))
  case s2=>exact b8_ (af_ cW hr3 (a0_ (pv 0) a2_))
  case s3=>exact ad_ (i:=3) ci'.nd rfl (Or.inl rfl) (af_ cH hr1 (a0_ (pv 2) a2_))
  case s4=>exact cR_ (i:=4) ["name","weight"] 1 [0] ci'.nd rfl (Or.inl rfl) (aj_ (pv 3)) (λfp s H=>ac_ (i:=0) (show (["name","weight"]:List Str).Nodup by decide +kernel) rfl (Or.inl rfl)) (λfp s H=>aK_) (λfp s H=>aR_ (a0_ (pv 0) (a0_ (pv 1) (a0_ g3_ a2_))))
  case s5=>exact ad_ (i:=5) ci'.nd rfl (Or.inl rfl) (aG_ (aZ_ rfl) (by rfl) B.dict PyProof.Rows.Boot.«dict» (a0_ (aO_ ["name"] 1 [] (aj_ (pv 3)) (λfp s H=>ac_ (i:=0) (show (["name"]:List Str).Nodup by decide +kernel) rfl (Or.inl rfl)) (λfp s H=>aK_) (λfp s H=>aR_ (a0_ (pv 0) (a0_ ag_ a2_)))) a2_))
  case s6=>exact al_ (ae_ df_ (pv 2) ag_ (nomark _)) (a3_ (b8_ (cT_ b_4 PySem.F.slot_list_append PySem.F.type_list_append bj_ (pv 4) (a0_ (aR_ (a0_ ag_ (a0_ a6_ (a0_ g3_ a2_)))) a2_))) (a4_ (bv_ hu (pv 5) ag_ ag_ rfl))) a9_
  case s7=>exact a8_ (aR_ (a0_ (iw_ cGd hr (a0_ (iw_ cMk hr6 (a0_ (ax_ (a0_ (aR_ (a0_ ag_ (a0_ a6_ a2_))) (a0_ (aR_ (a0_ ag_ (a0_ a6_ a2_))) a2_))) (a0_ (ax_ (a0_ (aR_ (a0_ ag_ (a0_ ag_ a2_))) a2_)) a2_))) (a0_ (pv 4) a2_))) (a0_ (pv 5) a2_)))
  case' kk=>skip
  obtain⟨hn,hnd,hl1,hl4⟩:=eS_ r.2.2.2;refine⟨_,rfl,r,hr',rfl,gu,λH1 s1=>?_⟩;refine⟨_,rfl,wt,rfl,w1,w2,?_⟩;refine⟨_,rfl,r.2.2.2,rfl,λlh nh=>?_⟩;obtain⟨s2,k2⟩:=nw__ (o:=.lst ((br' r.2.2.2).map V.str)) nh;generalize upd H1 lh (.lst ((br' r.2.2.2).map V.str))=H2 at s2 k2 ⊢;have s02:=s1.trans s2;refine setG ?_;dsimp only;generalize ens:br' r.2.2.2=ns at hn hnd hl1 hl4 k2 ⊢;refine⟨_,rfl,lh,rfl,⟨_,.of k2⟩,λD hD=>?_⟩;refine as_ (own:=1) (fv:=[some (.int wt)]) (xs:=ns.map V.str) rfl gok1 (λi out H'=>Same H2 H'/\H' D=some (.lst out)/\Paired (λy n=>∃t,y=V.ref t/\H' t=some (.tup [.str n,.int wt,.non])) out (ns.take i)) ⟨Same.new hD,a1_,.nil⟩ (λi out H' _ ⟨sm,_,_⟩=>.of (sm _ _ k2)) (λout H3 ⟨s3,hD3,pc⟩=>?_) (λi y out H' hy ⟨sm,hD',pc⟩=>?_);rotate_left
  ·obtain⟨n,hn',rfl⟩:=ai_ hy;refine⟨_,rfl,rfl,λNx hN=>yesT ?_⟩;refine⟨_,rfl,_,rfl,by show 3<=sizeLine;decide,λt nt=>?_⟩;obtain⟨s4,k4⟩:=nw__ (o:=.tup [.str n,.int wt,.non]) nt;generalize upd H' t (.tup [.str n,.int wt,.non])=H4 at s4 k4 ⊢;have lo:=a_3 pc;rw[am'] at lo;have hD4:=s4 _ _ hD';refine⟨out,hD4,by omega,hN _ _ ⟨ar_ (sm.trans s4) hD,a1_,?_⟩⟩;rw[b0_ hn'];refine Paired.snoc (Paired.mapP pc λy n ⟨a,e,ha⟩=>⟨a,e,?_⟩) ⟨t,rfl,?_⟩
   ·rw[a5_ (aM_ (s4 _ _ ha) hD4 nofun)];exact s4 _ _ ha
   ·rw[a5_ (aM_ k4 hD4 nofun)];exact k4
  rw[aa',ao'] at pc;have k3:=s3 _ _ k2;have s03:=s02.trans s3;clear k2 s2 s1 nh;have nD:H D=none:=s02.free hD;refine setG ?_;dsimp only;refine seqG (λσ H4=>∃(ds:Addr),Same H3 H4/\H4 ds=some (.dK (stF ns λ_=>"a"))/\H3 ds=none/\σ=[some (.int wt),some (.str r.1),some (optV r.2.2.2),some (.ref lh),some (.ref D),some (.ref ds)]) ?a2 ?a1
  case a1=>
   intro N hN;refine⟨_,rfl,lh,rfl,⟨_,.of k3⟩,λD2 hD2=>?_⟩;refine as_ (own:=1) (fv:=[]) (xs:=ns.map V.str) rfl gok1 (λi out H'=>Same H3 H'/\H' D2=some (.lst out)/\bh' K H' out ((ns.take i).map λn=>((Sum.inr n:Key),V.str "a"))) ⟨Same.new hD2,a1_,.nil⟩ (λi out H' _ ⟨sm,_,_⟩=>.of (sm _ _ k3)) (λout H4 ⟨s4,hD4,pa⟩=>?_) (λi y out H' hy ⟨sm,hD',pa⟩=>?_);rotate_left
   ·obtain⟨n,hn',rfl⟩:=ai_ hy;refine⟨_,rfl,rfl,λNx hNx=>yesT ?_⟩;refine⟨_,rfl,by show 2<=sizeLine;decide,λt nt=>?_⟩;obtain⟨s4,k4⟩:=nw__ (o:=.tup [.str n,.str "a"]) nt;generalize upd H' t (.tup [.str n,.str "a"])=H4 at s4 k4 ⊢;have lo:=a_3 pa;rw[aa',am'] at lo;have hD4:=s4 _ _ hD';refine⟨out,hD4,by omega,hNx _ _ ⟨ar_ (sm.trans s4) hD2,a1_,?_⟩⟩;rw[aB_ _ hn'];refine Paired.snoc (Paired.mapP pa λy n ⟨a,e,ha⟩=>⟨a,e,?_⟩) ⟨t,rfl,?_⟩
    ·rw[a5_ (aM_ (s4 _ _ ha) hD4 nofun)];exact s4 _ _ ha
    ·rw[a5_ (aM_ k4 hD4 nofun)];exact k4
   ·rw[aa',ao'] at pa;refine⟨D2,out,_,rfl,hD4,pa,by rw[aa'];omega,λds nds=>?_⟩
    have kn:((ns.map λn=>((Sum.inr n:Key),V.str "a")).map (·.1)).Nodup:=by
     have e:((ns.map λn=>((Sum.inr n:Key),V.str "a")).map (·.1))=ns.map Sum.inr:=by rw[ak'];rfl
     rw[e,aA',aE'];exact (aA'.mp hnd).imp λn e=>n (b_5 e)
    rw[b7_ kn];exact hN _ _ ⟨ds,s4.trans (Same.new nds),a1_,s4.free nds,rfl⟩
  rintro _ H4 ⟨ds,s4,hds,nds,rfl⟩;have lk:(stF ns λ_=>"a").length<=4:=by rw[b4_];exact hl4
  have tn:("t":Str)∉ns:=λz=>(hn _ z).2 rfl;have hD4:=s4 _ _ hD3;have pc4:Paired (λy n=>∃t,y=V.ref t/\H4 t=some (.tup [.str n,.int wt,.non])) out ns:=Paired.mapP pc λy n ⟨a,e,ha⟩=>⟨a,e,s4 _ _ ha⟩;have Dds:D≠ds:=λz=>by rw[z,nds] at hD3;cases hD3
  have gp:∀(x:Str) (m:Int),bu' x=true->1<=m->m<=1000000000->GoodP tsW (x,m,none):=λx m a b c=>⟨a,b,c,λws e=>by cases e⟩;refine seqG (λσ H5=>∃(ys:List V),Same H H5/\H5 D=some (.lst ys)/\PcsAt K H5 ys (qsW r.2.2.2 wt)/\H5 ds=some (.dK (stF (nmW r.2.2.2) fW))/\σ=[some (.int wt),some (.str r.1),some (optV r.2.2.2),some (.ref lh),some (.ref D),some (.ref ds)]) ?b2 ?b1
  case b1=>
   intro N hN;have base:∀{H':Hp},Paired (λy n=>∃t,y=V.ref t/\H' t=some (.tup [.str n,.int wt,.non])) out ns->PcsAt K H' out (ns.map λn=>((n,wt,none):Pc)):=λ{H'} p=>cO_ (F:=PcAt K H') (Paired.mapP p λy n ⟨a,e,ha⟩=>⟨a,.non,e,ha,rfl⟩);refine⟨_,rfl,?_,_,rfl,?_⟩
   ·cases r.2.2.2<;>rfl
   refine ite2 (λc=>?_) (λc=>?_)
   ·refine⟨_,rfl,.inl ⟨rfl,_,.of hD4⟩,by show 3<=sizeLine;decide,λt nt=>?_⟩;obtain⟨s5,k5⟩:=nw__ (o:=.tup [.str "t",.int 1,.non]) nt;generalize upd H4 t (.tup [.str "t",.int 1,.non])=H5 at s5 k5 ⊢;have hD5:=s5 _ _ hD4;have lo:=a_3 pc;refine⟨D,out,_,rfl,rfl,hD5,by omega,?_⟩;have hds6:upd H5 D (.lst (out++[.ref t])) ds=some (.dK (stF ns λ_=>"a")):=by rw[a5_ Dds.symm];exact s5 _ _ hds
    refine⟨_,rfl,ds,_,rfl,.k (k:=Sum.inr "t") hds6 Z1,?_⟩;have nf:¬r.2.2.2=some ("fall":Str):=λz=>by rw[z] at c;revert c;decide +kernel
    have eq1:qsW r.2.2.2 wt=(ns.map λn=>((n,wt,none):Pc))++[(("t",1,none):Pc)]:=by unfold qsW;rw[ens,a_4 nf]
    have eq2:stF (nmW r.2.2.2) fW=putK (stF ns λ_=>"a") (Sum.inr "t") (.str "b"):=by
     unfold stF nmW;rw[ht_ tn,ens,a_4 nf];exact bQ_ λn _=>by unfold fW;split<;>rfl
    rw[eq1,eq2] at hN;refine hN _ _ ⟨out++[.ref t],λb o e=>?_,?_,?_,a1_,rfl⟩
    ·have n1:b≠ds:=a7_ e (s03.free nds);have n2:b≠D:=a7_ e nD;rw[a5_ n1,a5_ n2];exact s5 _ _ (s4 _ _ (s03 _ _ e))
    ·rw[a5_ Dds,a1_]
    ·have tk:∀{a xs},H5 a=some (.tup xs)->upd (upd H5 D (.lst (out++[.ref t]))) ds (.dK (putK (stF ns λ_=>"a") (Sum.inr "t") (.str "b"))) a=some (.tup xs):=λ{a xs} e=>by
      rw[a5_ (aM_ e (s5 _ _ hds) nofun),a5_ (aM_ e hD5 nofun)];exact e
     refine Paired.snoc (base (Paired.mapP pc4 λy n ⟨a,e,ha⟩=>⟨a,e,tk (s5 _ _ ha)⟩)) ⟨t,.non,rfl,tk k5,rfl⟩
   ·have yf:r.2.2.2=some ("fall":Str):=by
     cases o:r.2.2.2 with
     |none=>rw[o] at c;exact absurd rfl c
     |some g=>
      rw[o] at c;have:g="fall":=by simpa [optV] using c
      rw[this]
    have eq1:qsW r.2.2.2 wt=(ns.map λn=>((n,wt,none):Pc)):=by unfold qsW;rw[ens,a_9 yf,aN']
    have eq2:stF (nmW r.2.2.2) fW=stF ns λ_=>"a":=by
     unfold stF nmW;rw[ens,a_9 yf,aN'];exact bQ_ λn hx=>by unfold fW;rw[a_4 (hn n hx).2]
    rw[eq1,eq2] at hN;exact hN _ _ ⟨out,s03.trans s4,hD4,base pc4,hds,rfl⟩
  rintro _ H5 ⟨ys,s5,hD5,pcs,hds5,rfl⟩;have ndsH:H ds=none:=(s03.free nds)
  have gps:∀q∈qsW r.2.2.2 wt,GoodP tsW q:=λq hq=>by
   have nq:q.1∈nmW r.2.2.2:=by rw[<- be_ r.2.2.2 wt];exact List.mem_map_of_mem hq
   obtain⟨e1,e2⟩:=c7_ hq;have:=gp q.1 q.2.1 ((bs_ r.2.2.2).2.2.2.2 q.1 nq) (by rcases e2 with e|e<;>omega) (by rcases e2 with e|e<;>omega)
   rw[<- e1] at this;exact this
  have pnd:((qsW r.2.2.2 wt).map (·.1)).Nodup:=by rw[be_];exact (bs_ _).2.1
  have pl:(qsW r.2.2.2 wt).length<64:=by
   have:=(bs_ r.2.2.2).2.2.1;rw[<- be_ r.2.2.2 wt,aa'] at this;omega
  clear pc pc4 hD3 hD4 k3 hds s4 s03 s3 s02 hD;refine⟨by show 2<=sizeLine;decide,λt1 m1=>?_⟩;obtain⟨a1,c1⟩:=nw__ (o:=.tup [.str "a",.int 1]) m1;generalize upd H5 t1 (.tup [.str "a",.int 1])=G1 at a1 c1 ⊢;refine⟨by show 2<=sizeLine;decide,λt2 m2=>?_⟩;obtain⟨a2,c2⟩:=nw__ (o:=.tup [.str "b",.int 1]) m2;generalize upd G1 t2 (.tup [.str "b",.int 1])=G2 at a2 c2 ⊢;refine⟨by show 2<=sizeLine;decide,λl1 m3=>?_⟩;obtain⟨a3,c3⟩:=nw__ (o:=.lst [.ref t1,.ref t2]) m3;generalize upd G2 l1 (.lst [.ref t1,.ref t2])=G3 at a3 c3 ⊢;refine⟨by show 2<=sizeLine;decide,λt3 m4=>?_⟩;obtain⟨a4,c4⟩:=nw__ (o:=.tup [.str "a",.str "b"]) m4;generalize upd G3 t3 (.tup [.str "a",.str "b"])=G4 at a4 c4 ⊢;refine⟨by show 1<=sizeLine;decide,λl2 m5=>?_⟩;obtain⟨a5,c5⟩:=nw__ (o:=.lst [.ref t3]) m5;generalize upd G4 l2 (.lst [.ref t3])=G5 at a5 c5 ⊢;intro pw dx hpw hdx ne;have sa:Same G5 (upd G5 dx (.own pw)):=Same.new hdx;have sb:Same (upd G5 dx (.own pw)) (upd (upd G5 dx (.own pw)) pw (.ins CW dx [])):=Same.new (by rw[a5_ (λz=>ne z.symm)];exact hpw);have sx:=sa.trans sb;have hpx:upd (upd G5 dx (.own pw)) pw (.ins CW dx []) pw=some (.ins CW dx []):=a1_;generalize upd (upd G5 dx (.own pw)) pw (.ins CW dx [])=Gx at sx hpx ⊢;have b5:=a5.trans sx;have b4:=a4.trans b5;have b3:=a3.trans b4;have b2:=a2.trans b3;have b1:=a1.trans b2;have tuH:a4' K Gx [.ref t1,.ref t2] (hsW.map kH):=.cons ⟨t1,rfl,b2 _ _ c1⟩ (.cons ⟨t2,rfl,b3 _ _ c2⟩ .nil);have tuT:a4' K Gx [.ref t3] (tsW.map kT):=.cons ⟨t3,rfl,b5 _ _ c4⟩ .nil;refine⟨pw,dx,l1,l2,_,_,hsW,tsW,rfl,hpx,b4 _ _ c3,tuH,sx _ _ c5,tuT,ej',λfp H6 keep WA fresh=>⟨rfl,?_⟩⟩;have s6:Same H5 H6:=λb o e=>keep b o (b1 b o e) (a7_ e (((((a1.trans a2).trans a3).trans a4).trans a5).free hpw));refine⟨_,rfl,?_⟩;intro g dg hg hdg neg;have ga:Same H6 (upd H6 dg (.own g)):=Same.new hdg;have gb:Same (upd H6 dg (.own g)) (upd (upd H6 dg (.own g)) g (.ins CG dg [])):=Same.new (by rw[a5_ (λz=>neg z.symm)];exact hg);have gx:=ga.trans gb;have hgx:upd (upd H6 dg (.own g)) g (.ins CG dg []) g=some (.ins CG dg []):=a1_;generalize upd (upd H6 dg (.own g)) g (.ins CG dg [])=Hx at gx hgx ⊢
  have gfp:g∉fp:=λm=>by
   obtain⟨o,e⟩:=bd'.has WA m;rw[hg] at e;cases e
  refine⟨g,dg,pw,D,ys,qsW r.2.2.2 wt,hsW,tsW,fp,rfl,hgx,WA.same gx,gfp,ej',gx _ _ (s6 _ _ hD5),Paired.mapP pcs λy p h=>(h.same s6).same gx,gps,pnd,pl,λqs fp' H7 keep7 GA Q7 fr7=>⟨rfl,?_⟩⟩;have s7:Same H H7:=λb o e=>keep7 b o (gx _ _ (s6 _ _ (s5 _ _ e))) (a7_ e ((s5.trans s6).free hg));have eq:=kb_ Q7;subst eq;have k5x:Same H5 Hx:=s6.trans gx;have dsg:ds≠g:=λz=>by rw[z] at hds5;rw[s6.free hg] at hds5;cases hds5
  have frH:∀b∈fp',H b=none:=λb hb=>by
   rcases fr7 b hb with rfl|hw|hn0
   ·exact (s5.trans s6).free hg
   ·rcases fresh b hw with h|h
    ·subst h;exact s5.free (((((a1.trans a2).trans a3).trans a4).trans a5).free hpw)
    ·exact s5.free ((((((a1.trans a2).trans a3).trans a4).trans a5).trans sx).free h)
   ·exact ((s5.trans s6).trans gx).free hn0
  have dfp:ds∉fp':=λm=>by
   rcases fr7 _ m with z|hw|hn0
   ·exact dsg z
   ·rcases fresh _ hw with h|h
    ·rw[h] at hds5;rw[((((a1.trans a2).trans a3).trans a4).trans a5).free hpw] at hds5;cases hds5
    ·rw[b1 _ _ hds5] at h;cases h
   ·rw[k5x _ _ hds5] at hn0;cases hn0
  have hds7:H7 ds=some (.dK (stF (nmW r.2.2.2) fW)):=keep7 _ _ (k5x _ _ hds5) dsg;exact⟨_,rfl,by show 2<=sizeLine;decide,λt nt=>k _ _ _ _ _ _ (s7.trans (Same.new nt)) a1_ (GA.same (Same.new nt)) frH ndsH dfp ((Same.new nt) _ _ hds7)⟩
end
section
variable{P:Ae}{w:Af}{K:F__}{mg:Str->Option Aa}{base:Heap}{CS CG CW T1 T2:Addr}
inductive c7' (K:F__) (CG CW T1 T2:Addr) (vs:List V) (H:Hp) (Q:VK) (E:XK):Prop
 |mk:∀(g p d:Addr) (m:Int) (hs:Xa) (ts:Xb) (qs:List Pc) (fp:List Addr) (ns:List Str) (f:Str->Str),∀r∈rl,vs=[.ref g,.ref d,.str r.1,.int m]->0<=m->Stn K CG CW H g p d hs ts qs fp ns f->Wd hs ts qs f->Tb H T1 T2->(∀l ys H',BT T1 T2 H H'->Tb H' T1 T2->H l=none->H' l=some (.lst ys)->a4' K H' ys ((mvX r hs ts qs f m).map kM)->Q (.ref l) H')->c7' K CG CW T1 T2 vs H Q E
theorem fZ_{f0:Addr}{fd:Ad}(F:Fun K "moves_of" "moves_of" cW' f0 fd)(cSt:Cal P w K mg base 3 "checked_start" ["goods","stand","rule"] (dh' K CG CW))(cMk:CalC P w K mg base CS 7 "Sight" ["self","goods","placed"] (de' K CS CG CW T1))(cSe:Cal P w K mg base 7 "moves_seen" ["sight","rule","moment"] (dc' K CS CG CW T2))(cMo:Cal P w K mg base 3 "checked_moments" ["thing"] cE') :
  FnOk P w K mg base CX0 9 f0 fd ["goods","stand","rule","moment"] (c7' K CG CW T1 T2):=by
 refine F.ok do' (λvs H Q E h=>?_) (λcdv A outer s H vs Q E hr h=>?_)
 ·obtain⟨g,p,d,m,hs,ts,qs,fp,ns,f,r,hr,rfl,_⟩:=h;rfl
 ·obtain⟨g,p,d,m,hs,ts,qs,fp,ns,f,r,hr',rfl,m0,S,W,tb,k⟩:=h;have hr3:Room 3 _:=hr.mono (by decide);have hr7:Room 7 _:=hr.mono (by decide);refine' ⟨_,a3_ ?s1 (a4_ ?s2),?kk⟩
  case s1=>exact ad_ (i:=4) do'.nd rfl (Or.inl rfl) (af_ cSt hr3 (a0_ (pv 0) (a0_ (pv 1) (a0_ (pv 2) a2_))))
  case s2=>exact a8_ (af_ cSe hr7 (a0_ (iw_ cMk hr (a0_ (pv 0) (a0_ (pv 4) a2_))) (a0_ (pv 2) (a0_ (af_ cMo hr3 (a0_ (pv 3) a2_)) a2_))))
  case' kk=>skip
  refine⟨_,rfl,_,rfl,_,rfl,_,_,r,hr',rfl,⟨g,p,d,hs,ts,qs,fp,ns,f,rfl,S.G,S.dfp,S.hd,S.so,W.nd,W.h64,λdp H1 s1 n1 e1=>?_⟩⟩;refine setG ?_;dsimp only
  have d1fp:dp∉fp:=λhm=>by
   obtain⟨o,e,_⟩:=S.has dp hm;rw[e] at n1;cases n1
  have Pl:bw' K CG CW H1 g p dp hs ts qs fp f:=⟨S.G.same s1,W.Gd,d1fp,e1,W.at_,W.nd,W.h64⟩;refine⟨_,rfl,_,rfl,λv dx hv hdx ne=>?_⟩;have s2:Same H1 (upd (upd H1 dx (.own v)) v (.ins CS dx [])):=(Same.new hdx).trans (Same.new (by rw[a5_ ne.symm];exact hv));have e2:upd (upd H1 dx (.own v)) v (.ins CS dx []) v=some (.ins CS dx []):=a1_;generalize upd (upd H1 dx (.own v)) v (.ins CS dx [])=H2 at s2 e2 ⊢
  have vfp:v∉fp:=λhm=>by
   obtain⟨o,e,_⟩:=S.has v hm;rw[s1 _ _ e] at hv;cases hv
  have s02:=s1.trans s2;have Pl2:bw' K CG CW H2 g p dp hs ts qs fp f:=⟨Pl.G.same s2,W.Gd,d1fp,s2 _ _ e1,W.at_,W.nd,W.h64⟩;refine⟨v,dx,g,p,dp,hs,ts,qs,fp,f,rfl,e2,vfp,Pl2,W,tb.a.same s02,λH3 k3 tab3 S3=>⟨rfl,?_⟩⟩;obtain⟨tv1,hT1⟩:=aS_ tb.a;obtain⟨tv2,hT2⟩:=aS_ tb.b
  have nv:∀{b:Addr} {o:HO},H b=some o->b≠v:=λe z=>by
   rw[z] at e;rw[s1 _ _ e] at hv;cases hv
  have k03:∀b o,H b=some o->b≠T1->H3 b=some o:=λb o e n=>k3 b o (s02 _ _ e) (nv e) n;have nt3:NT H H3:=λb o e n=>k03 b o e (λz=>by rw[z,hT1] at e;exact n _ (a_8 e).symm)
  have tb2:a8' H3 T2 qRN:=by
   obtain⟨es,a1,a2⟩:=tb.b;exact⟨es,k03 _ _ a1 tb.ne.symm,λx hx=>nt3 _ _ (a2 x hx) nofun⟩
  refine⟨_,rfl,_,rfl,m,rfl,m0,?_⟩;refine⟨v,g,p,m,hs,ts,qs,fp,f,r,hr',rfl,m0,S3,W,tb2,λl ys H4 b4 tab4 nl hl tu=>?_⟩;obtain⟨tv3,hT3⟩:=aS_ tb2;have nt4:=b4.nt hT3;refine k l ys H4 (λb o e n1 n2=>b4 _ _ (k03 b o e n1) n2) ⟨?_,tab4,tb.ne⟩ ?_ hl tu
  ·obtain⟨es,a1,a2⟩:=tab3;exact⟨es,b4 _ _ a1 tb.ne,λx hx=>nt4 _ _ (a2 x hx) nofun⟩
  ·cases z:H l with
   |none=>rfl
   |some o=>
    by_cases y:l=T1
    ·obtain⟨es,a1,_⟩:=tab3;rw[y,a1] at nl;cases nl
    ·rw[k03 _ _ z y] at nl;cases nl
theorem scAtRest:a3' ["goods","stand","rule"] ["goods","stand","rule"] (a1' dK'):=f__
inductive dQ' (K:F__) (CG CW T1 T2:Addr) (vs:List V) (H:Hp) (Q:VK) (E:XK):Prop
 |mk:∀(g p d:Addr) (hs:Xa) (ts:Xb) (qs:List Pc) (fp:List Addr) (ns:List Str) (f:Str->Str),∀r∈rl,vs=[.ref g,.ref d,.str r.1]->Stn K CG CW H g p d hs ts qs fp ns f->Wd hs ts qs f->Tb H T1 T2->(∀H',BT T1 T2 H H'->Tb H' T1 T2->Q (.bl (ei' r hs ts qs f)) H')->dQ' K CG CW T1 T2 vs H Q E
theorem ia_{f0:Addr}{fd:Ad}(F:Fun K "at_rest" "at_rest" dK' f0 fd)(cSt:Cal P w K mg base 3 "checked_start" ["goods","stand","rule"] (dh' K CG CW))(cRe:Cal P w K mg base 9 "rests_at" ["goods","placed","rule"] (dT' K CG CW T1 T2)):FnOk P w K mg base CX0 10 f0 fd ["goods","stand","rule"] (dQ' K CG CW T1 T2):=by
 refine F.ok scAtRest (λvs H Q E h=>?_) (λcdv A outer s H vs Q E hr h=>?_)
 ·obtain⟨g,p,d,hs,ts,qs,fp,ns,f,r,hr,rfl,_⟩:=h;rfl
 ·obtain⟨g,p,d,hs,ts,qs,fp,ns,f,r,hr',rfl,S,W,tb,k⟩:=h;have hr3:Room 3 _:=hr.mono (by decide);refine' ⟨_,a4_ ?s1,?kk⟩
  case s1=>exact a8_ (af_ cRe hr (a0_ (pv 0) (a0_ (af_ cSt hr3 (a0_ (pv 0) (a0_ (pv 1) (a0_ (pv 2) a2_)))) (a0_ (pv 2) a2_))))
  case' kk=>skip
  refine⟨_,rfl,_,rfl,_,rfl,_,rfl,_,_,r,hr',rfl,⟨g,p,d,hs,ts,qs,fp,ns,f,rfl,S.G,S.dfp,S.hd,S.so,W.nd,W.h64,λdp H1 s1 n1 e1=>?_⟩⟩
  have d1fp:dp∉fp:=λhm=>by
   obtain⟨o,e,_⟩:=S.has dp hm;rw[e] at n1;cases n1
  refine⟨_,rfl,g,p,dp,hs,ts,qs,fp,f,r,hr',rfl,⟨⟨S.G.same s1,W.Gd,d1fp,e1,W.at_,W.nd,W.h64⟩,W,⟨tb.a.same s1,tb.b.same s1,tb.ne⟩,λb hb=>let ⟨o,e,_⟩:=S.has b hb;⟨o,s1 _ _ e⟩⟩,λH' nt t'=>k H' ((BT.of s1).trans nt) t'⟩
end
theorem nmsW:a2' hsW=(["a","b"]:List Str):=by
 rw[fJ_];exact bI_ (b1_ _) (cQ_ _) (by unfold SAsc;decide +kernel)
theorem dE_:tsOf tsW=([("a","b")]:Xb):=by
 unfold tsOf tsW
 have e:sortKs ([(("a":Str),("b":Str))].map λt=>kT (ord2 t.1 t.2))=[kT (("a":Str),("b":Str))]:=by
  have h:=ao_ ([(("a":Str),("b":Str))].map λt=>kT (ord2 t.1 t.2));have o:ord2 ("a":Str) "b"=((("a":Str),("b":Str)):Str × Str):=by decide +kernel
  rw[av',List.map_nil,o] at h ⊢;exact List.perm_singleton.mp h
 rw[e];rfl
theorem strW{h:Str}(m:h∈a2' hsW):strOf hsW h=1:=by
 rw[nmsW] at m;rcases al'.mp m with rfl|m
 ·decide +kernel
 ·rw[aR'.mp m];decide +kernel
theorem cP_{h:Str}(m:h∈a2' hsW):h="a"∨h="b":=by
 rw[nmsW] at m;simpa using m
theorem mostW:bZ' hsW tsW 1:=by
 unfold bZ' lens;rw[nmsW,dE_];decide +kernel
theorem most1:cy' hsW tsW=1:=(gO_ mostW.1 mostW.2).symm
theorem jointW{a b:Str}(ha:a∈a2' hsW)(hb:b∈a2' hsW):bo' hsW a b=2:=by
 unfold bo';rw[strW ha,strW hb];rfl
variable{qs:List Pc}
theorem leadW{f:Str->Str}{a b:Str}(ha:a∈a2' hsW)(hb:b∈a2' hsW):bB' hsW qs f a b=lo qs f a - lo qs f b:=by
 unfold bB';rw[strW ha,strW hb,Int.mul_one,Int.mul_one]
theorem eV_:∀r∈rl,guB ["fall","calm"] r=true->(r.2.1≠"shares"/\(r.2.2.2=some ("fall":Str)∨r.2.2.2=some ("calm":Str)))∨(r.2.1="shares"/\r.2.2.2=none):=by decide +kernel
def kW(o:Option Str):Int:=if o=some ("fall":Str) then 1 else if o=some ("calm":Str) then 2 else 4
def bW(o:Option Str):Int:=if o=some ("fall":Str) then 0 else 1
theorem g2_(f:Str->Str)(h:Str):ld f [] h=0:=rfl
theorem hvF:br' (some ("fall":Str))=(["p"]:List Str):=by decide +kernel
theorem hvC:br' (some ("calm":Str))=(["p","q"]:List Str):=by decide +kernel
theorem qsF(wt:Int):qsW (some ("fall":Str)) wt=([("p",wt,none)]:List Pc):=by
 unfold qsW;rw[hvF,a_9 rfl];rfl
theorem qsC(wt:Int):qsW (some ("calm":Str)) wt=([("p",wt,none),("q",wt,none),("t",1,none)]:List Pc):=by
 unfold qsW;rw[hvC,a_4 Z0];rfl
theorem qsN(wt:Int):qsW none wt=([("p",wt,none),("q",wt,none),("r",wt,none),("s",wt,none),("t",1,none)]:List Pc):=by
 unfold qsW;rw[a_4 (by decide)];rfl
theorem fW_p:∀n∈(["p","q","r","s"]:List Str),fW n="a":=by decide +kernel
theorem fW_t:fW "t"="b":=by decide +kernel
theorem loW{o:Option Str}(h:o=some ("fall":Str)∨o=some ("calm":Str)∨o=none)(wt:Int):lo (qsW o wt) fW "a"=kW o * wt/\lo (qsW o wt) fW "b"=bW o:=by
 have ab:¬("a":Str)="b":=by decide +kernel
 have ba:¬("b":Str)="a":=by decide +kernel
 have fp:=fW_p "p" Z0;have fq:=fW_p "q" Z0;have fr:=fW_p "r" Z0;have fs:=fW_p "s" Z0;rcases h with rfl|rfl|rfl
 ·have k:kW (some ("fall":Str))=1/\bW (some ("fall":Str))=0:=by decide +kernel
  rw[qsF,k.1,k.2];show ld fW [("p",wt)] "a"=_/\ld fW [("p",wt)] "b"=_;simp only[dj_,g2_,fp,a_4 ab,if_true];omega
 ·have k:kW (some ("calm":Str))=2/\bW (some ("calm":Str))=1:=by decide +kernel
  rw[qsC,k.1,k.2];show ld fW [("p",wt),("q",wt),("t",1)] "a"=_/\ld fW [("p",wt),("q",wt),("t",1)] "b"=_;simp only[dj_,g2_,fp,fq,fW_t,a_4 ab,a_4 ba,if_true];omega
 ·have k:kW none=4/\bW none=1:=by decide +kernel
  rw[qsN,k.1,k.2];show ld fW [("p",wt),("q",wt),("r",wt),("s",wt),("t",1)] "a"=_/\ld fW [("p",wt),("q",wt),("r",wt),("s",wt),("t",1)] "b"=_;simp only[dj_,g2_,fp,fq,fr,fs,fW_t,a_4 ab,a_4 ba,if_true];omega
variable{n:Str}
theorem pcW{o:Option Str}{wt:Int}{h:Str}(m:n∈hvAt (qsW o wt) fW h):(h="a"/\wtN (qsW o wt) n=wt)∨(h="b"/\wtN (qsW o wt) n=1/\o≠some ("fall":Str)):=by
 obtain⟨hn,hf⟩:=eI_ m;obtain⟨q,hq,rfl⟩:=af'.mp hn;have nd:((qsW o wt).map (·.1)).Nodup:=by rw[be_];exact (bs_ o).2.1
 rw[hL_ nd hq];unfold qsW at hq;rcases au'.mp hq with hq|hq
 ·obtain⟨x,hx,rfl⟩:=af'.mp hq;have:fW x="a":=by unfold fW;exact a_4 ((eS_ o).1 x hx).2
  exact .inl ⟨hf.symm.trans this,rfl⟩
 ·by_cases c:o=some ("fall":Str)
  ·rw[a_9 c] at hq;cases hq
  ·rw[a_4 c] at hq;rw[aR'.mp hq] at hf ⊢;exact .inr ⟨hf.symm.trans fW_t,rfl,c⟩
variable{hs:Xa}{ts:Xb}
theorem iM_{f:Str->Str}{h:Str}(m:n∈risL hs ts qs f h):n∈a2' hs:=by
 unfold risL at m;obtain⟨k,hk,rfl⟩:=af'.mp m;obtain⟨x,hx,rfl⟩:=af'.mp ((ao_ _).mem_iff.mp hk);exact fD_ hx
theorem fitW{o:Option Str}{wt:Int}(w1:1<=wt)(h:o=some ("fall":Str)∨o=some ("calm":Str)){a b:Str}(ha:a∈a2' hsW)(hb:b∈a2' hsW)(m:n∈hvAt (qsW o wt) fW a):fitB (o.getD "") (bB' hsW (qsW o wt) fW a b) (wtN (qsW o wt) n * bo' hsW a b)=false:=by
 obtain⟨La,Lb⟩:=loW (h.imp id .inl) wt;rw[leadW ha hb,jointW ha hb];rcases h with rfl|rfl
 ·have k:kW (some ("fall":Str))=1/\bW (some ("fall":Str))=0:=by decide +kernel
  rw[k.1] at La;rw[k.2] at Lb;show fitB "fall" _ _=false;unfold fitB;rw[a_4 Z0,a_9 rfl];rcases pcW m with⟨rfl,e⟩|⟨_,_,z⟩
  ·rw[e];rcases cP_ hb with rfl|rfl
   ·simp;omega
   ·rw[La,Lb];simp;omega
  ·exact absurd rfl z
 ·have k:kW (some ("calm":Str))=2/\bW (some ("calm":Str))=1:=by decide +kernel
  rw[k.1] at La;rw[k.2] at Lb;show fitB "calm" _ _=false;unfold fitB;rw[a_4 Z0,a_4 Z0];rcases pcW m with⟨rfl,e⟩|⟨rfl,e,z⟩
  ·rw[e];rcases cP_ hb with rfl|rfl
   ·simp;omega
   ·rw[La,Lb];simp;omega
  ·rw[e];rcases cP_ hb with rfl|rfl
   ·rw[La,Lb];simp;omega
   ·simp
theorem hmvW{o:Option Str}{wt:Int}(w1:1<=wt)(h:o=some ("fall":Str)∨o=some ("calm":Str)){a b:Str}(ha:a∈a2' hsW)(hb:b∈a2' hsW)(gv:List Str):hmv hsW tsW (qsW o wt) fW (o.getD "") gv a b=[]:=by
 unfold hmv;rw[List.find?_eq_none.mpr λn hn=>by unfold hmP;rw[fitW w1 h ha hb hn,Bool.false_and,Bool.and_false];decide]
theorem fV_(wt:Str->Int)(ok:Str->Bool)(l:Int):∀ns:List Str,(∀n∈ns,l<wt n)->shL wt ok l ns=[]
 |[],_=>rfl
 |n::ns,h=>by
  rw[shL,a_4 (by have:=h n ag';simp;intro _;omega)];exact fV_ wt ok l ns λx hx=>h x (ad' _ hx)
theorem shW{wt:Int}(w1:1<=wt){a b:Str}(ha:a∈a2' hsW)(hb:b∈a2' hsW)(gv:List Str):shM hsW tsW (qsW none wt) fW gv a b=[]:=by
 obtain⟨La,Lb⟩:=loW (.inr (.inr rfl)) wt;have k:kW none=4/\bW none=1:=by decide +kernel
 rw[k.1] at La;rw[k.2] at Lb;unfold shM shN shareF;rw[leadW ha hb,jointW ha hb,most1,fV_]
 ·rfl
 ·intro n m;show _ / ((2:Int) * (1+1))<_;rcases pcW m with⟨rfl,e⟩|⟨rfl,e,z⟩
  ·rw[e];rcases cP_ hb with rfl|rfl
   ·omega
   ·rw[La,Lb];omega
  ·rw[e];rcases cP_ hb with rfl|rfl
   ·rw[La,Lb];omega
   ·omega
theorem g9_{o:Option Str}{wt:Int}(w1:1<=wt)(h:o=some ("fall":Str)∨o=some ("calm":Str)){a:Str}(ha:a∈a2' hsW):∀(l:List Str),(∀x∈l,x∈a2' hsW)->ch' hsW tsW (qsW o wt) fW (o.getD "") a [] l=[]
 |[],_=>rfl
 |b::l,m=>by
  rw[ch',hmvW w1 h ha (m b ag')];have ih:=g9_ w1 h ha l λx hx=>m x (ad' _ hx);split
  ·exact ih
  ·exact ih
theorem fX_{wt:Int}(w1:1<=wt){a:Str}(ha:a∈a2' hsW):∀(l:List Str),(∀x∈l,x∈a2' hsW)->cr' hsW tsW (qsW none wt) fW a [] l=[]
 |[],_=>rfl
 |b::l,m=>by
  rw[cr',shW w1 ha (m b ag')];have ih:=fX_ w1 ha l λx hx=>m x (ad' _ hx);split
  ·exact ih
  ·exact ih
theorem eW_{α β:Type}{l:List α}{f:α->List β}(h:∀x∈l,f x=[]):l.flatMap f=[]:=by
 rw[List.flatMap_eq_nil_iff];exact h
variable{r:Rl}
theorem anyW(hr:r∈rl)(hg:guB ["fall","calm"] r=true){wt:Int}(w1:1<=wt){a:Str}(ha:a∈a2' hsW)(nt:r.2.1≠"turns"):cz' r hsW tsW (qsW r.2.2.2 wt) fW a=[]:=by
 rcases eV_ r hr hg with⟨ns,h⟩|⟨hs,h⟩
 ·by_cases c:r.2.1="least"
  ·rw[ea_ c];unfold b8' bP';split
   ·rfl
   ·rename_i o l e
    exact hmvW w1 h ha (iM_ (by rw[e];exact ag')) _
  ·by_cases c2:r.2.1="below"
   ·rw[ee_ c2];unfold b7' bM';exact g9_ w1 h ha _ λx hx=>iM_ hx
   ·exact absurd (gE_ r hr nt c c2) ns
 ·rw[cV_ hs,h];unfold bQ' bF';exact fX_ w1 ha _ λx hx=>fD_ hx
theorem mvW(hr:r∈rl)(hg:guB ["fall","calm"] r=true){wt:Int}(w1:1<=wt)(m:Int):mvX r hsW tsW (qsW r.2.2.2 wt) fW m=[]:=by
 unfold mvX;by_cases c:r.2.1="turns"
 ·rw[a_9 c]
  have h:r.2.2.2=some ("fall":Str)∨r.2.2.2=some ("calm":Str):=by
   rcases eV_ r hr hg with⟨_,h⟩|⟨z,_⟩
   ·exact h
   ·rw[c] at z;exact absurd z Z0
  unfold ck';refine eW_ λt ht=>?_;obtain⟨m1,m2⟩:=fd_ ej' (d1_ ht);unfold cj';rw[hmvW w1 h m1 m2,hmvW w1 h m2 m1];rfl
 ·rw[a_4 c];unfold dk';rw[eW_ λx hx=>anyW hr hg w1 hx c];split<;>rfl
theorem restW(hr:r∈rl)(hg:guB ["fall","calm"] r=true){wt:Int}(w1:1<=wt):ei' r hsW tsW (qsW r.2.2.2 wt) fW=true:=by
 unfold ei';rw[List.all_eq_true];intro m _;rw[mvW hr hg w1];rfl
def dW(o:Option Str)(wt:Int):Int:=kW o * wt - bW o
def OkO(o:Option Str):Prop:=o=some ("fall":Str)∨o=some ("calm":Str)∨o=none
theorem kC_(hr:r∈rl)(hg:guB ["fall","calm"] r=true):OkO r.2.2.2:=by
 rcases eV_ r hr hg with⟨_,h⟩|⟨_,h⟩
 ·exact h.imp id .inl
 ·exact .inr (.inr h)
theorem gy_{o:Option Str}(h:OkO o){wt:Int}(w1:1<=wt)(w2:wt<=1000000000):0<dW o wt/\dW o wt<=4000000000/\lo (qsW o wt) fW "a" - lo (qsW o wt) fW "b"=dW o wt:=by
 obtain⟨La,Lb⟩:=loW h wt;rw[La,Lb];unfold dW;rcases h with rfl|rfl|rfl
 ·have k:kW (some ("fall":Str))=1/\bW (some ("fall":Str))=0:=by decide +kernel
  rw[k.1,k.2];omega
 ·have k:kW (some ("calm":Str))=2/\bW (some ("calm":Str))=1:=by decide +kernel
  rw[k.1,k.2];omega
 ·have k:kW none=4/\bW none=1:=by decide +kernel
  rw[k.1,k.2];omega
theorem mul1:bv' hsW=1:=by
 unfold bv';rw[nmsW];decide +kernel
theorem lvW{f:Str->Str}{h:Str}(m:h∈a2' hsW):lvF hsW qs f h=lo qs f h:=by
 unfold lvF;rw[mul1,strW m];show lo qs f h * (1 / 1)=_;rw[show (1:Int) / 1=1 from rfl,Int.mul_one]
theorem fr1(t:Int):fr t 1=(t,1):=by
 unfold fr;have:Int.gcd t 1=1:=by simp
 rw[this];simp
theorem aN:("a":Str)∈a2' hsW:=by rw[nmsW];exact ag'
theorem bN:("b":Str)∈a2' hsW:=by rw[nmsW];exact ad' _ ag'
theorem riseW{o:Option Str}(h:OkO o){wt:Int}(w1:1<=wt)(w2:wt<=1000000000){r:Int}(R:d8' hsW (qsW o wt) fW r):fr r (bv' hsW)=(dW o wt,1):=by
 obtain⟨d0,_,e⟩:=gy_ h w1 w2;obtain⟨x,hx,y,hy,rfl,all⟩:=R;rw[mul1,fr1];have za:=all "a" aN;have zb:=all "b" bN;rw[lvW aN,lvW hx,lvW hy] at za;rw[lvW bN,lvW hx,lvW hy] at zb;rw[lvW hx,lvW hy]
 have:lo (qsW o wt) fW x - lo (qsW o wt) fW y=dW o wt:=by
  rcases cP_ hx with rfl|rfl<;>rcases cP_ hy with rfl|rfl<;>omega
 rw[this]
theorem steepW{o:Option Str}(h:OkO o){wt:Int}(w1:1<=wt)(w2:wt<=1000000000){r:Int}(R:dP' hsW tsW (qsW o wt) fW r):fr r (bv' hsW)=(dW o wt,1):=by
 obtain⟨d0,_,e⟩:=gy_ h w1 w2;rw[mul1,fr1];rcases R with⟨z,_⟩|⟨t,ht,rfl,_⟩
 ·rw[dE_] at z;cases z
 ·rw[dE_] at ht;rw[aR'.mp ht];unfold aV;rw[lvW aN,lvW bN,e,a_4 Z1]
theorem kP_(wt m s r:Int):bnd (some ("fall":Str)) wt m s r=(wt * (s+r),2 * s * r):=by
 unfold bnd;exact a_9 Z0
theorem kU_(wt m s r:Int):bnd (some ("calm":Str)) wt m s r=(wt * (s+r) - 1,s * r):=by
 unfold bnd;exact (a_4 Z0).trans (a_9 Z0)
theorem kQ_(wt m s r:Int):bnd none wt m s r=(wt * (s+r) * (m+1) - 1,s * r):=by
 unfold bnd;exact (a_4 (by decide)).trans (a_4 (by decide))
theorem gapW{o:Option Str}(h:OkO o){wt:Int}(w1:1<=wt)(w2:wt<=1000000000):gapL o wt 1 hsW (tsOf tsW)=(dW o wt,1):=by
 obtain⟨d0,_,e⟩:=gy_ h w1 w2
 have g:gapT o wt 1 hsW ("a","b")=(dW o wt,1):=by
  unfold gapT own1;rw[strW aN,strW bN];rcases h with rfl|rfl|rfl
  ·have k:kW (some ("fall":Str))=1/\bW (some ("fall":Str))=0:=by decide +kernel
   unfold dW;rw[kP_,k.1,k.2];show redF (wt * (1+1)) (2 * 1 * 1)=_;unfold redF
   have:Int.gcd (wt * (1+1)) (2 * 1 * 1)=2:=by
    rw[show wt * (1+1)=2 * wt by omega,show (2:Int) * 1 * 1=2 * 1 from rfl,Int.gcd_mul_left];simp
   rw[this];exact Prod.ext (by show wt * (1+1) / 2=1 * wt - 0;omega) rfl
  ·have k:kW (some ("calm":Str))=2/\bW (some ("calm":Str))=1:=by decide +kernel
   unfold dW;rw[kU_,k.1,k.2];show redF (wt * (1+1) - 1) (1 * 1)=_;show fr (wt * (1+1) - 1) 1=_;rw[fr1];exact Prod.ext (by show wt * (1+1) - 1=2 * wt - 1;omega) rfl
  ·have k:kW none=4/\bW none=1:=by decide +kernel
   unfold dW;rw[kQ_,k.1,k.2];show redF (wt * (1+1) * (1+1) - 1) (1 * 1)=_;show fr (wt * (1+1) * (1+1) - 1) 1=_;rw[fr1];exact Prod.ext (by show wt * (1+1) * (1+1) - 1=4 * wt - 1;omega) rfl
 unfold gapL;rw[dE_,av',List.map_nil,g];show grS (0,1) (dW o wt,1)=_;unfold grS;rw[a_9 (by show 0 * 1<dW o wt * 1;omega)]
theorem WdW{o:Option Str}{wt:Int}(w1:1<=wt)(w2:wt<=1000000000):Wd hsW tsW (qsW o wt) fW:=by
 have n5:=(bs_ o).2.2.1;refine⟨ej',by rw[be_];exact (bs_ o).2.1,?_,λn _=>by unfold fW hsW;split<;>simp,λq hq=>?_⟩
 ·rw[<- be_ o wt,aa'] at n5;omega
 ·obtain⟨_,e|e⟩:=c7_ hq<;>rw[e]<;>omega
structure Wst (K:F__) (CG CW:Addr) (H:Hp) (g p d:Addr) (o:Option Str) (wt:Int) (fp:List Addr):Prop where
 G:a6' K CG CW H g p hsW tsW (qsW o wt) fp
 dfp:d∉fp
 hd:H d=some (.dK (stF (nmW o) fW))
theorem Wst.same{K:F__}{CG CW:Addr}{H:Hp}{g p d:Addr}{o:Option Str}{wt:Int}{fp:List Addr}(W:Wst K CG CW H g p d o wt fp)(s:Same H H'):Wst K CG CW H' g p d o wt fp:=⟨W.G.same s,W.dfp,s _ _ W.hd⟩
theorem ndW(o:Option Str)(wt:Int):((qsW o wt).map (·.1)).Nodup:=by rw[be_];exact (bs_ o).2.1
theorem lenW(o:Option Str)(wt:Int):(qsW o wt).length<=5:=by
 have n5:=(bs_ o).2.2.1;rw[<- be_ o wt,aa'] at n5;exact n5
section
variable{P:Ae}{w:Af}{K:F__}{mg:Str->Option Aa}{base:Heap}{CG CW CP:Addr}
theorem scWebR:a3' ["_law_web"] ["_law_web"] (a1' sWebR):=f__
def spWebR(K:F__)(CW:Addr):Sp:=λvs H Q _=>∃(p:Addr) (fp:List Addr),vs=[.ref p]/\bd' K CW H p hsW tsW fp/\∀H',Same H H'->Q (.bl true) H'
theorem jd_{f0:Addr}{fd:Ad}(F:Fun K "_law_web_right" "_law_web_right" sWebR f0 fd)(TW:Txt K mg CW)(cH:CalM P w K mg base CW 1 "hands" ["self"] (bO' K CW))(cT:CalM P w K mg base CW 2 "ties" ["self"] (b6' K CW))(cS:CalM P w K mg base CW 2 "strength" ["self","hand"] (bj' K CW)):FnOk P w K mg base CX0 3 f0 fd ["_law_web"] (spWebR K CW):=by
 refine F.ok scWebR (λvs H Q E h=>?_) (λcdv A outer s H vs Q E hr h=>?_)
 ·obtain⟨p,fp,rfl,_⟩:=h;rfl
 ·obtain⟨p,fp,rfl,W,k⟩:=h;have hr1:Room 1 _:=hr.mono (by decide);refine' ⟨_,a3_ ?s1 (a4_ ?s2),?kk⟩
  case' s1=>refine' al_ (PW.pt (cI_ ?c1 (bF_ ?c2))) (a4_ (a8_ bC_)) a9_
  case c1=>exact ae_ (cx_ cmpS (bG' hr 0)) (b3_ cH TW.cl hr1 (pv 0)) (ax_ (a0_ ag_ (a0_ ag_ a2_))) (nomark _)
  case c2=>exact ae_ (cx_ (cmp2 cmpS cmpS) (bG' hr _)) (b3_ cT TW.cl hr (pv 0)) (ax_ (a0_ (aR_ (a0_ ag_ (a0_ ag_ a2_))) a2_)) (nomark _)
  case s2=>exact a8_ (bg_ (aI_ b9_ (b2_ cS TW.cl hr (pv 0) (a0_ ag_ a2_)) a6_ (nomark _)) (bf_ (aI_ b9_ (b2_ cS TW.cl hr (pv 0) (a0_ ag_ a2_)) a6_ (nomark _))))
  case' kk=>skip
  obtain⟨dxw,d1,l2,d3,zs0,as,ef,w1,_⟩:=id W.ex;have no:∀{m:Str},¬m="strength_by_hand"->¬m="sorted_pairs"->¬m="neighbours_by_hand"->(flds d1 l2 d3).lookup m=none:=λa b c=>az_ _ _ _ a b c;refine⟨_,rfl,p,dxw,_,rfl,w1,no Z0 Z0 Z0,p,hsW,tsW,fp,rfl,W,λl nl=>?_⟩;obtain⟨s1,e1⟩:=nw__ (o:=.lst ((a2' hsW).map V.str)) nl;generalize upd H l (.lst ((a2' hsW).map V.str))=H1 at s1 e1 ⊢;refine⟨by show 2<=sizeLine;decide,λl' nl'=>?_⟩;obtain⟨s2,e2⟩:=nw__ (o:=.lst [.str "a",.str "b"]) nl';generalize upd H1 l' (.lst [.str "a",.str "b"])=H2 at s2 e2 ⊢;rw[nmsW] at e1;refine⟨["a","b"],["a","b"],⟨l,_,rfl,.of (s2 _ _ e1),.cons rfl (.cons rfl .nil)⟩,⟨l',_,rfl,.of e2,.cons rfl (.cons rfl .nil)⟩,_,rfl,?_⟩;rw[a_4 (by decide)];have W2:=(W.same s1).same s2;have w2:=s2 _ _ (s1 _ _ w1);refine⟨_,rfl,p,dxw,_,rfl,w2,no Z0 Z0 Z0,p,hsW,tsW,fp,rfl,W2,by decide,λt zs H3 s3 n3 e3 tu=>?_⟩;refine⟨by show 2<=sizeLine;decide,λt1 n4=>?_⟩;obtain⟨s4,e4⟩:=nw__ (o:=.tup [.str "a",.str "b"]) n4;generalize upd H3 t1 (.tup [.str "a",.str "b"])=H4 at s4 e4 ⊢;refine⟨by show 1<=sizeLine;decide,λl5 n5=>?_⟩;obtain⟨s5,e5⟩:=nw__ (o:=.lst [.ref t1]) n5;generalize upd H4 l5 (.lst [.ref t1])=H5 at s5 e5 ⊢;have s35:=s4.trans s5;have tu5:=dB_ (tu.same s35);rw[dE_] at tu5;refine⟨[("a","b")],[("a","b")],⟨t,zs,rfl,.of (s35 _ _ e3),tu5⟩,⟨l5,_,rfl,.of e5,.cons ⟨t1,_,_,rfl,.of (s5 _ _ e4),rfl,rfl⟩ .nil⟩,_,rfl,?_⟩;refine iteF ?_;have s05:=((s1.trans s2).trans s3).trans s35;have W5:=W.same s05;have w5:=s05 _ _ w1;refine⟨_,rfl,p,dxw,_,rfl,w5,no Z0 Z0 Z0,p,"a",1,hsW,tsW,fp,rfl,W5,Z0,by unfold hsW;simp,rfl,_,rfl,?_⟩;refine iteT ?_;exact⟨_,rfl,p,dxw,_,rfl,w5,no Z0 Z0 Z0,p,"b",1,hsW,tsW,fp,rfl,W5,Z0,by unfold hsW;simp,rfl,k _ s05⟩
theorem scSteepL:a3' ["_law_weight","_law_rule"] ["_law_weight","_law_rule"] (a1' dH'):=f__
theorem iY_:∀r∈rl,guB ["fall","calm"] r=true->r.1.length<=100/\decide (V.str (Txt.slice r.1 none (some 6))=V.str "shares")=decide (r.2.1="shares")/\decide (V.str (Txt.slice r.1 (some (-4)) none)=V.str "fall")=decide (r.2.2.2=some ("fall":Str)):=by decide +kernel
def eb':Sp:=λvs H Q _=>∃wt:Int,∃r∈rl,vs=[.int wt,.str r.1]/\guB ["fall","calm"] r=true/\1<=wt/\wt<=1000000000/\∀H',Same H H'->Q (.int (dW r.2.2.2 wt)) H'
theorem dW_c(hr:r∈rl)(hg:guB ["fall","calm"] r=true)(wt:Int):(r.2.1="shares"/\dW r.2.2.2 wt=4 * wt - 1)∨(r.2.1≠"shares"/\r.2.2.2=some ("fall":Str)/\dW r.2.2.2 wt=wt)∨(r.2.1≠"shares"/\r.2.2.2≠some ("fall":Str)/\dW r.2.2.2 wt=2 * wt - 1):=by
 rcases eV_ r hr hg with⟨n,h|h⟩|⟨n,h⟩
 ·refine .inr (.inl ⟨n,h,?_⟩);have k:kW (some ("fall":Str))=1/\bW (some ("fall":Str))=0:=by decide +kernel
  unfold dW;rw[h,k.1,k.2];omega
 ·refine .inr (.inr ⟨n,by rw[h];decide +kernel,?_⟩);have k:kW (some ("calm":Str))=2/\bW (some ("calm":Str))=1:=by decide +kernel
  unfold dW;rw[h,k.1,k.2]
 ·refine .inl ⟨n,?_⟩;have k:kW none=4/\bW none=1:=by decide +kernel
  unfold dW;rw[h,k.1,k.2]
theorem hf_{f0:Addr}{fd:Ad}(F:Fun K "_law_steep" "_law_steep" dH' f0 fd)(B:Bi mg):FnOk P w K mg base CX0 1 f0 fd ["_law_weight","_law_rule"] eb':=by
 refine F.ok scSteepL (λvs H Q E h=>?_) (λcdv A outer s H vs Q E hr h=>?_)
 ·obtain⟨wt,r,hr,rfl,_⟩:=h;rfl
 ·obtain⟨wt,r,hr',rfl,hg,w1,w2,k⟩:=h;have sz:=b__;obtain⟨c0,c1,c2⟩:=iY_ r hr' hg;refine' ⟨_,a3_ ?s1 (a4_ ?s2),?kk⟩
  case s1=>exact al_ (ae_ b9_ (bP_ eJ_ (pv 1) cz_ (cn_ a6_)) ag_ (nomark _)) (a4_ (a8_ (am_ bM_ (am_ aT_ a6_ (pv 0)) a6_))) a9_
  case s2=>exact a8_ (au_ b6_ (ax_ (a0_ (am_ bM_ (am_ aT_ a6_ (pv 0)) a6_) (a0_ (pv 0) a2_))) (aG_ dM_ (by rfl) B.int PyProof.Rows.Boot.«int» (a0_ (aI_ b9_ (bP_ eJ_ (pv 1) (cn_ (jG_ ha_ a6_)) cz_) ag_ (nomark _)) a2_)) (λ_ _=>rfl))
  case' kk=>skip
  refine⟨_,rfl,_,rfl,r.1,rfl,by omega,rfl,_,rfl,?_⟩;rw[c1];rcases dW_c hr' hg wt with⟨a,e⟩|⟨a,b,e⟩|⟨a,b,e⟩
  ·rw[a_2 a];refine iteT ?_;refine⟨_,rfl,_,_,rfl,rfl,.inl ⟨by decide,by decide⟩,_,_,rfl,rfl,?_⟩;rw[e] at k;exact k H (Same.refl H)
  all_goals
   rw[a_7 a];refine iteF ?_;refine⟨_,rfl,_,_,rfl,rfl,.inl ⟨by decide,by decide⟩,_,_,rfl,rfl,_,rfl,by show 2<=sizeLine;decide,λl nl=>?_⟩;obtain⟨s1,e1⟩:=nw__ (o:=.lst [.int (2 * wt - 1),.int wt]) nl;generalize upd H l (.lst [.int (2 * wt - 1),.int wt])=H1 at s1 e1 ⊢;refine⟨_,rfl,_,rfl,_,rfl,r.1,rfl,by omega,rfl,.inr ⟨_,rfl,?_⟩⟩;show rIxL _ _ (V.int (if decide (V.str (Txt.slice r.1 (some (-4)) none)=V.str "fall")=true then 1 else 0)) _ _;rw[c2]
  ·rw[a_2 b];refine⟨l,_,1,.int wt,rfl,rfl,.of e1,rfl,?_⟩;rw[e] at k;exact k _ s1
  ·rw[a_7 b];refine⟨l,_,0,.int (2 * wt - 1),rfl,rfl,.of e1,rfl,?_⟩;rw[e] at k;exact k _ s1
end
def wAt(qs:List Pc)(f:Str->Str)(h:Str):List Int:=(qs.filter λq=>decide (f q.1=h)).map (·.2.1)
theorem k7_(qs:List Pc)(f:Str->Str)(h:Str):(wAt qs f h).sum=lo qs f h:=by
 unfold wAt lo ld;rw[List.filter_map,ak'];rfl
theorem eF_(qs:List Pc)(f:Str->Str)(h:Str):(wAt qs f h).length<=qs.length:=by
 unfold wAt;rw[aa'];exact aW' ..
theorem kR_{o:Option Str}{wt x:Int}(h:x∈wAt (qsW o wt) fW "a"):x=wt:=by
 unfold wAt at h;obtain⟨q,hq,rfl⟩:=af'.mp h;obtain⟨hq,hf⟩:=List.mem_filter.mp hq;have hf:fW q.1="a":=by simpa using hf
 unfold qsW at hq;rcases au'.mp hq with hq|hq
 ·obtain⟨n,_,rfl⟩:=af'.mp hq;rfl
 ·split at hq
  ·cases hq
  ·rw[aR'.mp hq] at hf;exact absurd (hf.symm.trans fW_t) Z0
section
variable{P:Ae}{w:Af}{K:F__}{mg:Str->Option Aa}{base:Heap}{CG CW CP:Addr}
abbrev hnN:List Str:=["_law_name","_law_goods","_law_hand","_law_stand"]
theorem scHeldL:a3' ["_law_goods","_law_stand","_law_hand"] ["_law_goods","_law_stand","_law_hand"] (a1' sHeld):=f__
inductive dG' (K:F__) (CG CW:Addr) (vs:List V) (H:Hp) (Q:VK) (E:XK):Prop
 |mk:∀(g p d:Addr) (h:Str) (o:Option Str) (wt:Int) (fp:List Addr),vs=[.ref g,.ref d,.str h]->Wst K CG CW H g p d o wt fp->(∀H',Same H H'->Q (.int (lo (qsW o wt) fW h)) H')->dG' K CG CW vs H Q E
theorem iv_{f0:Addr}{fd:Ad}(F:Fun K "_law_held" "_law_held" sHeld f0 fd)(B:Bi mg)(mSum:mg "sum"=none)(TG:TxtG K CG)(cN:CalM P w K mg base CG 1 "names" ["self"] (bD' K CG CW))(cW:CalX P w K mg base CG 2 "weight" ["self","piece"] (bg' K CG CW CP)):FnOk P w K mg base CX0 3 f0 fd ["_law_goods","_law_stand","_law_hand"] (dG' K CG CW):=by
 refine F.ok scHeldL (λvs H Q E h=>?_) (λcdv A outer s H vs Q E hr h=>?_)
 ·obtain⟨g,p,d,h,o,wt,fp,rfl,_⟩:=h;rfl
 ·obtain⟨g,p,d,h,o,wt,fp,rfl,W,k⟩:=h;have hu:=ba_ hr;have sz:=b__;have hr1:Room 1 _:=hr.mono (by decide);refine' ⟨_,a4_ ?s1,?kk⟩
  case' s1=>refine' a8_ (ab_ (hq_ rfl) (by rfl) mSum PyProof.Rows.boot_sum (a0_ (aO_ hnN 1 [0,2,1] (aj_ (b3_ cN TG.cl hr1 (pv 0))) (λfp s H=>?g1) (λfp s H=>?c1) (λfp s H=>?e1)) a2_))
  case g1=>exact ac_ (i:=0) (show hnN.Nodup by decide +kernel) rfl (Or.inl rfl)
  case c1=>exact dt_ (ae_ b9_ (aP_ hu (pv 3) (pv 0) (λ_ _=>rfl)) (pv 2) (nomark _))
  case e1=>exact di_ cW TG.cl hr (pv 1) (a0_ (pv 0) a2_)
  case' kk=>skip
  refine⟨_,rfl,?_⟩;obtain⟨dxg,dw,dy,vs',fpw,g1,g2,_⟩:=id W.G.ex;have hnm:(gflds p dw dy).lookup ("names":Str)=none:=aE_ _ _ _ Z0 Z0 Z0;have hwt:(gflds p dw dy).lookup ("weight":Str)=none:=aE_ _ _ _ Z0 Z0 Z0;have n5:=lenW o wt;refine⟨g,dxg,_,rfl,g1,hnm,g,p,hsW,tsW,qsW o wt,fp,rfl,W.G,λln nln=>?_⟩;obtain⟨s1,e1⟩:=nw__ (o:=.lst (((qsW o wt).map (·.1)).map V.str)) nln;generalize upd H ln (.lst (((qsW o wt).map (·.1)).map V.str))=H1 at s1 e1 ⊢;refine⟨ln,rfl,⟨_,.of e1⟩,λD hD=>?_⟩;have W1:=W.same s1;have g11:=s1 _ _ g1;refine as_ (own:=1) (fv:=[some (.ref g),some (.str h),some (.ref d)]) (xs:=((qsW o wt).map (·.1)).map V.str) rfl gok1 (λi out H'=>Same H1 H'/\H' D=some (.lst out)/\out=(wAt ((qsW o wt).take i) fW h).map V.int) ⟨Same.new hD,a1_,rfl⟩ (λi out H' _ ⟨sm,_,_⟩=>.of (sm _ _ e1)) (λout H5 ⟨sm,hD5,eo⟩=>?_) (λi y out H' hy ⟨sm,hD',eo⟩=>?_);rotate_left
  ·obtain⟨n,hn,rfl⟩:=ai_ hy
   obtain⟨q,hq,rfl⟩:∃q,(qsW o wt)[i]? = some q/\q.1=n:=by
    rw[aj'] at hn;cases z:(qsW o wt)[i]? with
    |none=>rw[z] at hn;cases hn
    |some q=>rw[z] at hn;exact⟨q,rfl,a_8 hn⟩
   have mq:=ae' hq;have nq:q.1∈nmW o:=by rw[<- be_ o wt];exact List.mem_map_of_mem mq
   have lo':out.length<=5:=by
    rw[eo,aa'];have:=eF_ ((qsW o wt).take i) fW h;rw[am'] at this;omega
   refine⟨_,rfl,rfl,λNx hN=>?_⟩;refine⟨_,rfl,_,rfl,d,.str (fW q.1),rfl,?_,_,rfl,rfl,_,rfl,?_⟩
   ·rw[<- bu_ (g:=λn=>V.str (fW n)) nq];exact .k (k:=Sum.inr q.1) (sm _ _ W1.hd)
   have tk:wAt ((qsW o wt).take (i+1)) fW h=wAt ((qsW o wt).take i) fW h++(if fW q.1=h then [q.2.1] else []):=by
    unfold wAt;rw[aw',hq,List.filter_append,an'];congr 1;by_cases c:fW q.1=h<;>simp[c]
   refine ite2 (λc=>?_) (λc=>?_)
   ·have c:fW q.1=h:=by simpa using c
    refine⟨_,rfl,g,dxg,_,rfl,sm _ _ g11,hwt,_,rfl,g,p,.str q.1,some q.1,hsW,tsW,qsW o wt,fp,rfl,W1.G.same sm,ndW o wt,rfl,.inl ⟨q,mq,rfl,?_⟩⟩;refine⟨out,hD',by omega,hN _ _ ⟨ar_ sm hD,a1_,?_⟩⟩;rw[tk,a_9 c,an',eo];rfl
   ·have c:¬fW q.1=h:=by simpa using c
    refine hN out _ ⟨sm,hD',?_⟩;rw[tk,a_4 c,aN'];exact eo
  rw[aa',aa',ao'] at eo;rw[eo] at hD5;exact⟨D,_,rfl,.of hD5,by rw[k7_];exact k H5 (s1.trans sm)⟩
theorem dX':a3' ["_law_goods","_law_stand","_law_rule","_law_drop","_law_high","_law_weights"] ["_law_goods","_law_stand","_law_rule","_law_drop"] (a1' sGives):=f__
abbrev gnN:List Str:=["_law_name","_law_goods","_law_high","_law_stand"]
inductive dv' (K:F__) (CG CW:Addr) (vs:List V) (H:Hp) (Q:VK) (E:XK):Prop
 |mk:∀(g p d:Addr) (wt:Int) (fp:List Addr),∀r∈rl,vs=[.ref g,.ref d,.str r.1,.int (dW r.2.2.2 wt)]->guB ["fall","calm"] r=true->1<=wt->wt<=1000000000->Wst K CG CW H g p d r.2.2.2 wt fp->(∀H',Same H H'->Q (.bl false) H')->dv' K CG CW vs H Q E
theorem gF_{l:List Int}{p:Int->Bool}(h:∀x∈l,p x=false):(l.map p).any id=false:=by
 rw[List.any_eq_false];intro b hb;obtain⟨x,hx,rfl⟩:=af'.mp hb;rw[h x hx];decide
theorem if_{f0:Addr}{fd:Ad}(F:Fun K "_law_gives" "_law_gives" sGives f0 fd)(B:Bi mg)(TG:TxtG K CG)(cN:CalM P w K mg base CG 1 "names" ["self"] (bD' K CG CW))(cW:CalX P w K mg base CG 2 "weight" ["self","piece"] (bg' K CG CW CP)):FnOk P w K mg base CX0 3 f0 fd ["_law_goods","_law_stand","_law_rule","_law_drop"] (dv' K CG CW):=by
 refine F.ok dX' (λvs H Q E h=>?_) (λcdv A outer s H vs Q E hr h=>?_)
 ·obtain⟨g,p,d,wt,fp,r,hr,rfl,_⟩:=h;rfl
 ·obtain⟨g,p,d,wt,fp,r,hr',rfl,hg,w1,w2,W,k⟩:=h;have hu:=ba_ hr;have sz:=b__;have hr1:Room 1 _:=hr.mono (by decide);obtain⟨c0,c1,c2⟩:=iY_ r hr' hg;obtain⟨d0,d4,_⟩:=gy_ (kC_ hr' hg) w1 w2;refine' ⟨_,?r0,?kk⟩
  case' r0=>refine' a3_ ?s1 ?r1
  case' r1=>refine' a3_ ?s2 ?r2
  case' r2=>refine' a3_ ?s3 ?r3
  case' r3=>refine' a3_ ?s4 (a4_ ?s5)
  case s1=>exact ad_ (i:=4) dX'.nd rfl (Or.inr rfl) (au_ b6_ (ax_ (a0_ ag_ (a0_ ag_ a2_))) (aG_ dM_ (by rfl) B.int PyProof.Rows.Boot.«int» (a0_ (aI_ eh_ (pv 3) a6_ (nomark _)) a2_)) (λ_ _=>rfl))
  case' s2=>refine' cR_ (i:=5) gnN 1 [0,4,1] dX'.nd rfl (Or.inl rfl) (aj_ (b3_ cN TG.cl hr1 (pv 0))) (λfp s H=>?g1) (λfp s H=>?c1) (λfp s H=>?e1)
  case g1=>exact ac_ (i:=0) (show gnN.Nodup by decide +kernel) rfl (Or.inl rfl)
  case c1=>exact dt_ (ae_ b9_ (aP_ hu (pv 3) (pv 0) (λ_ _=>rfl)) (pv 2) (nomark _))
  case e1=>exact di_ cW TG.cl hr (pv 1) (a0_ (pv 0) a2_)
  case s3=>exact al_ (ae_ b9_ (bP_ eJ_ (pv 2) cz_ (cn_ a6_)) ag_ (nomark _)) (a4_ (a8_ (ab_ (ci_ rfl) (by rfl) B.any PyProof.Rows.Boot.«any» (a0_ (aO_ ["_law_weight","_law_drop"] 1 [3] (aj_ (pv 5)) (λfp s H=>ac_ (i:=0) (show (["_law_weight","_law_drop"]:List Str).Nodup by decide +kernel) rfl (Or.inl rfl)) (λfp s H=>aK_) (λfp s H=>aI_ dq_ (pv 0) (am_ bd_ (ab_ bx_ (by rfl) B.abs PyProof.Rows.Boot.«abs» (a0_ (pv 1) a2_)) a6_) (nomark _))) a2_)))) a9_
  case s4=>exact al_ (ae_ b9_ (bP_ eJ_ (pv 2) (cn_ (jG_ ha_ a6_)) cz_) ag_ (nomark _)) (a4_ (a8_ (ab_ (ci_ rfl) (by rfl) B.any PyProof.Rows.Boot.«any» (a0_ (aO_ ["_law_weight","_law_drop"] 1 [3] (aj_ (pv 5)) (λfp s H=>ac_ (i:=0) (show (["_law_weight","_law_drop"]:List Str).Nodup by decide +kernel) rfl (Or.inl rfl)) (λfp s H=>aK_) (λfp s H=>aI_ eh_ (am_ aT_ a6_ (ab_ bx_ (by rfl) B.abs PyProof.Rows.Boot.«abs» (a0_ (pv 1) a2_))) (am_ aT_ a6_ (pv 0)) (nomark _))) a2_)))) a9_
  case s5=>exact a8_ (ab_ (ci_ rfl) (by rfl) B.any PyProof.Rows.Boot.«any» (a0_ (aO_ ["_law_weight","_law_drop"] 1 [3] (aj_ (pv 5)) (λfp s H=>ac_ (i:=0) (show (["_law_weight","_law_drop"]:List Str).Nodup by decide +kernel) rfl (Or.inl rfl)) (λfp s H=>aK_) (λfp s H=>aI_ kt_ (ab_ bx_ (by rfl) B.abs PyProof.Rows.Boot.«abs» (a0_ (pv 1) a2_)) (am_ aT_ a6_ (pv 0)) (nomark _))) a2_))
  case' kk=>skip
  generalize eD:dW r.2.2.2 wt=D0 at d0 d4 ⊢;generalize eo:r.2.2.2=o at W c2;refine⟨by show 2<=sizeLine;decide,λlh nlh=>?_⟩;obtain⟨s0,e0⟩:=nw__ (o:=.lst [.str "b",.str "a"]) nlh;generalize upd H lh (.lst [.str "b",.str "a"])=H0 at s0 e0 ⊢;refine⟨_,rfl,_,_,rfl,rfl,.inr ⟨_,rfl,?_⟩⟩;show rIxL _ _ (V.int (if decide (0<D0)=true then 1 else 0)) _ _;rw[a_2 d0];refine⟨lh,_,1,.str "a",rfl,rfl,.of e0,rfl,?_⟩;have W0:=W.same s0;clear W e0;refine setG ?_;dsimp only;refine seqG (λσ H2=>∃lw,Same H H2/\H2 lw=some (.lst ((wAt (qsW o wt) fW "a").map V.int))/\σ=[some (.ref g),some (.ref d),some (.str r.1),some (.int D0),some (.str "a"),some (.ref lw)]) ?a2 ?a1
  case a1=>
   intro N hN;obtain⟨dxg,dw,dy,vs',fpw,g1,g2,_⟩:=id W0.G.ex;have hnm:(gflds p dw dy).lookup ("names":Str)=none:=aE_ _ _ _ Z0 Z0 Z0;have hwt:(gflds p dw dy).lookup ("weight":Str)=none:=aE_ _ _ _ Z0 Z0 Z0;have n5:=lenW o wt;refine⟨_,rfl,g,dxg,_,rfl,g1,hnm,g,p,hsW,tsW,qsW o wt,fp,rfl,W0.G,λln nln=>?_⟩;obtain⟨s1,e1⟩:=nw__ (o:=.lst (((qsW o wt).map (·.1)).map V.str)) nln;generalize upd H0 ln (.lst (((qsW o wt).map (·.1)).map V.str))=H1 at s1 e1 ⊢;refine⟨ln,rfl,⟨_,.of e1⟩,λD hD=>?_⟩;have W1:=W0.same s1;have g11:=s1 _ _ g1;refine as_ (own:=1) (fv:=[some (.ref g),some (.str "a"),some (.ref d)]) (xs:=((qsW o wt).map (·.1)).map V.str) rfl gok1 (λi out H'=>Same H1 H'/\H' D=some (.lst out)/\out=(wAt ((qsW o wt).take i) fW "a").map V.int) ⟨Same.new hD,a1_,rfl⟩ (λi out H' _ ⟨sm,_,_⟩=>.of (sm _ _ e1)) (λout H5 ⟨sm,hD5,eo⟩=>?_) (λi y out H' hy ⟨sm,hD',eo⟩=>?_);rotate_left
   ·obtain⟨n,hn,rfl⟩:=ai_ hy
    obtain⟨q,hq,rfl⟩:∃q,(qsW o wt)[i]? = some q/\q.1=n:=by
     rw[aj'] at hn;cases z:(qsW o wt)[i]? with
     |none=>rw[z] at hn;cases hn
     |some q=>rw[z] at hn;exact⟨q,rfl,a_8 hn⟩
    have mq:=ae' hq;have nq:q.1∈nmW o:=by rw[<- be_ o wt];exact List.mem_map_of_mem mq
    have lo':out.length<=5:=by
     rw[eo,aa'];have:=eF_ ((qsW o wt).take i) fW "a";rw[am'] at this;omega
    refine⟨_,rfl,rfl,λNx hN=>?_⟩;refine⟨_,rfl,_,rfl,d,.str (fW q.1),rfl,?_,_,rfl,rfl,_,rfl,?_⟩
    ·rw[<- bu_ (g:=λn=>V.str (fW n)) nq];exact .k (k:=Sum.inr q.1) (sm _ _ W1.hd)
    have tk:wAt ((qsW o wt).take (i+1)) fW "a"=wAt ((qsW o wt).take i) fW "a"++(if fW q.1="a" then [q.2.1] else []):=by
     unfold wAt;rw[aw',hq,List.filter_append,an'];congr 1;by_cases c:fW q.1="a"<;>simp[c]
    refine ite2 (λc=>?_) (λc=>?_)
    ·have c:fW q.1="a":=by simpa using c
     refine⟨_,rfl,g,dxg,_,rfl,sm _ _ g11,hwt,_,rfl,g,p,.str q.1,some q.1,hsW,tsW,qsW o wt,fp,rfl,W1.G.same sm,ndW o wt,rfl,.inl ⟨q,mq,rfl,?_⟩⟩;refine⟨out,hD',by omega,hN _ _ ⟨ar_ sm hD,a1_,?_⟩⟩;rw[tk,a_9 c,an',eo];rfl
    ·have c:¬fW q.1="a":=by simpa using c
     refine hN out _ ⟨sm,hD',?_⟩;rw[tk,a_4 c,aN'];exact eo
   rw[aa',aa',ao'] at eo;rw[eo] at hD5;exact hN _ _ ⟨D,s0.trans (s1.trans sm),hD5,rfl⟩
  rintro _ H2 ⟨lw,s2,e2,rfl⟩;have n5:(wAt (qsW o wt) fW "a").length<=5:=aM' (eF_ _ _ _) (lenW o wt);have aw:∀x∈wAt (qsW o wt) fW "a",x=wt:=λx hx=>kR_ hx;generalize wAt (qsW o wt) fW "a"=ws at e2 n5 aw;have ab:(if D0<0 then -D0 else D0)=D0:=a_4 Z1;refine⟨_,rfl,_,rfl,r.1,rfl,by omega,rfl,_,rfl,?_⟩;rw[c1];rcases dW_c hr' hg wt with⟨a,e⟩|⟨a,b,e⟩|⟨a,b,e⟩
  ·rw[a_2 a];refine iteT ?_;refine⟨_,rfl,lw,rfl,⟨_,.of e2⟩,λD hD=>?_⟩;refine as_ (own:=1) (fv:=[some (.int D0)]) (xs:=ws.map V.int) rfl gok1 (λi out H'=>Same H2 H'/\H' D=some (.lst out)/\out=((ws.take i).map λx=>decide (x<=D0 / 4)).map V.bl) ⟨Same.new hD,a1_,rfl⟩ (λi out H' _ ⟨sm,_,_⟩=>.of (sm _ _ e2)) (λout H5 ⟨sm,hD5,eo'⟩=>?_) (λi y out H' hy ⟨sm,hD',eo'⟩=>?_)
   ·rw[aa',ao'] at eo';rw[eo'] at hD5;refine⟨D,_,rfl,.of hD5,?_⟩;have:=k H5 (s2.trans sm);rw[<- gF_ (l:=ws) (p:=λx=>decide (x<=D0 / 4)) λx hx=>by rw[aw x hx,c__];omega] at this;exact this
   ·obtain⟨x,hx,rfl⟩:∃x,ws[i]? = some x/\y=V.int x:=by
     rw[aj'] at hy;cases z:ws[i]? with
     |none=>rw[z] at hy;cases hy
     |some x=>rw[z] at hy;exact⟨x,rfl,(a_8 hy).symm⟩
    have xw:=aw x (ae' hx)
    have lo':out.length<=5:=by
     rw[eo',aa',aa',am'];omega
    refine⟨_,rfl,rfl,λNx hN=>yesT ?_⟩;refine⟨_,rfl,_,rfl,D0,rfl,?_⟩;rw[ab];refine⟨_,_,rfl,rfl,⟨by decide,by decide⟩,_,_,rfl,rfl,?_⟩;refine⟨out,hD',by omega,hN _ _ ⟨ar_ sm hD,a1_,?_⟩⟩;rw[aw',hx,an',an',eo'];rfl
  ·rw[a_7 a];refine iteF ?_;refine⟨_,rfl,_,rfl,_,rfl,r.1,rfl,by omega,rfl,_,rfl,?_⟩;show if decide (V.str (Txt.slice r.1 (some (-4)) none)=V.str "fall")=true then _ else _;rw[c2,<- eo,a_2 b];refine iteT ?_;refine⟨_,rfl,lw,rfl,⟨_,.of e2⟩,λD hD=>?_⟩;refine as_ (own:=1) (fv:=[some (.int D0)]) (xs:=ws.map V.int) rfl gok1 (λi out H'=>Same H2 H'/\H' D=some (.lst out)/\out=((ws.take i).map λx=>decide (2 * x<2 * D0)).map V.bl) ⟨Same.new hD,a1_,rfl⟩ (λi out H' _ ⟨sm,_,_⟩=>.of (sm _ _ e2)) (λout H5 ⟨sm,hD5,eo'⟩=>?_) (λi y out H' hy ⟨sm,hD',eo'⟩=>?_)
   ·rw[aa',ao'] at eo';rw[eo'] at hD5;refine⟨D,_,rfl,.of hD5,?_⟩;have:=k H5 (s2.trans sm);rw[<- gF_ (l:=ws) (p:=λx=>decide (2 * x<2 * D0)) λx hx=>by rw[aw x hx,c__];omega] at this;exact this
   ·obtain⟨x,hx,rfl⟩:∃x,ws[i]? = some x/\y=V.int x:=by
     rw[aj'] at hy;cases z:ws[i]? with
     |none=>rw[z] at hy;cases hy
     |some x=>rw[z] at hy;exact⟨x,rfl,(a_8 hy).symm⟩
    have xw:=aw x (ae' hx)
    have lo':out.length<=5:=by
     rw[eo',aa',aa',am'];omega
    refine⟨_,rfl,rfl,λNx hN=>yesT ?_⟩;refine⟨_,rfl,D0,rfl,?_⟩;rw[ab];refine⟨_,_,rfl,rfl,.inl ⟨by decide,by decide⟩,_,rfl,_,_,rfl,rfl,.inl ⟨by decide,by decide⟩,_,_,rfl,rfl,?_⟩;refine⟨out,hD',by omega,hN _ _ ⟨ar_ sm hD,a1_,?_⟩⟩;rw[aw',hx,an',an',eo'];rfl
  ·rw[a_7 a];refine iteF ?_;refine⟨_,rfl,_,rfl,_,rfl,r.1,rfl,by omega,rfl,_,rfl,?_⟩;show if decide (V.str (Txt.slice r.1 (some (-4)) none)=V.str "fall")=true then _ else _;rw[c2,<- eo,a_7 b];refine iteF ?_;refine⟨_,rfl,lw,rfl,⟨_,.of e2⟩,λD hD=>?_⟩;refine as_ (own:=1) (fv:=[some (.int D0)]) (xs:=ws.map V.int) rfl gok1 (λi out H'=>Same H2 H'/\H' D=some (.lst out)/\out=((ws.take i).map λx=>decide (2 * x<=D0)).map V.bl) ⟨Same.new hD,a1_,rfl⟩ (λi out H' _ ⟨sm,_,_⟩=>.of (sm _ _ e2)) (λout H5 ⟨sm,hD5,eo'⟩=>?_) (λi y out H' hy ⟨sm,hD',eo'⟩=>?_)
   ·rw[aa',ao'] at eo';rw[eo'] at hD5;refine⟨D,_,rfl,.of hD5,?_⟩;have:=k H5 (s2.trans sm);rw[<- gF_ (l:=ws) (p:=λx=>decide (2 * x<=D0)) λx hx=>by rw[aw x hx,c__];omega] at this;exact this
   ·obtain⟨x,hx,rfl⟩:∃x,ws[i]? = some x/\y=V.int x:=by
     rw[aj'] at hy;cases z:ws[i]? with
     |none=>rw[z] at hy;cases hy
     |some x=>rw[z] at hy;exact⟨x,rfl,(a_8 hy).symm⟩
    have xw:=aw x (ae' hx)
    have lo':out.length<=5:=by
     rw[eo',aa',aa',am'];omega
    refine⟨_,rfl,rfl,λNx hN=>yesT ?_⟩;refine⟨_,rfl,D0,rfl,?_⟩;rw[ab];refine⟨_,rfl,_,_,rfl,rfl,.inl ⟨by decide,by decide⟩,_,_,rfl,rfl,?_⟩;refine⟨out,hD',by omega,hN _ _ ⟨ar_ sm hD,a1_,?_⟩⟩;rw[aw',hx,an',an',eo'];rfl
end
variable{K:F__}{C p:Addr}{fp:List Addr}
theorem bd'.firm{H:Hp}(W:bd' K C H p hs ts fp){b:Addr}(hb:b∈fp):∃o,H b=some o/\∀vs,o≠.tbl vs:=by
 obtain⟨dx,d1,l2,d3,zs,as,rfl,h1,h2,h3,h4,h5,h6,h7⟩:=W.ex;simp only[al'] at hb;rcases hb with rfl|rfl|rfl|rfl|hb
 ·exact⟨_,h1,by intro vs z;cases z⟩
 ·exact⟨_,h2,by intro vs z;cases z⟩
 ·exact⟨_,h3,by intro vs z;cases z⟩
 ·exact⟨_,h5,by intro vs z;cases z⟩
 ·obtain⟨i,hi,e⟩:=aB' hb;exact⟨_,h7 i ((a2' hs)[i]' Z1) b (ab' Z1) (by rw[<- e];exact ab' hi),by intro vs z;cases z⟩
variable{CG CW g:Addr}
theorem a6'.firm{H:Hp}(G:a6' K CG CW H g p hs ts qs fp):∃fp',a6' K CG CW H g p hs ts qs fp'/\(∀b∈fp',b∈fp)/\∀b∈fp',∃o,H b=some o/\∀vs,o≠.tbl vs:=by
 obtain⟨dx,dw,dy,vs,fpw,h1,h2,h3,h4,h5,m1,m2,m3,m4,m5⟩:=G.ex;refine⟨g::dw::dy::(fpw++vs.filterMap λv=>match v with | .ref a=>some a|_=>none),⟨dx,dw,dy,vs,fpw,h1,h2,h3,h4,h5,by simp,by simp,by simp,λb hb=>by simp[hb],λv hv a z=>?_⟩,λb hb=>?_,λb hb=>?_⟩
 ·have:a∈vs.filterMap λv=>match v with | .ref a=>some a|_=>none:=aF'.mpr ⟨v,hv,by rw[z]⟩;simp only[al',au'];exact .inr (.inr (.inr (.inr this)))
 ·simp only[al',au'] at hb;rcases hb with rfl|rfl|rfl|hb|hb
  ·exact m1
  ·exact m2
  ·exact m3
  ·exact m4 b hb
  ·obtain⟨v,hv,e⟩:=aF'.mp hb;cases v with
   |ref a=>cases e;exact m5 _ hv _ rfl
   |_=>cases e
 ·simp only[al',au'] at hb;rcases hb with rfl|rfl|rfl|hb|hb
  ·exact⟨_,h1,by intro vs z;cases z⟩
  ·exact⟨_,h3,by intro vs z;cases z⟩
  ·exact⟨_,h4,by intro vs z;cases z⟩
  ·exact h2.firm hb
  ·obtain⟨v,hv,e⟩:=aF'.mp hb;obtain⟨i,hi,ev⟩:=aB' hv;have le:=a_3 h5;have w:=an_ h5 i hi Z1;rw[ev] at w;cases o:(qs[i]' Z1).2.2 with
   |none=>
    rw[o] at w;rw[show v=.non from w] at e;cases e
   |some ws=>
    rw[o] at w;obtain⟨a,ys,ea,ha,_⟩:=w;rw[ea] at e;cases e;exact⟨_,ha,by intro vs z;cases z⟩
theorem iO_{H:Hp}{a:Addr}{xs:List V}(s:NT H H')(h:SqL K H a xs):SqL K H' a xs:=by
 rcases h with (h|⟨o,h⟩)|h
 ·exact .inl (.inl (s.lst h))
 ·exact .inl (.inr ⟨o,s _ _ h nofun⟩)
 ·exact .inr h
inductive rNeDS (x:V) (y:V) (H:Hp) (Q:VK):Prop
 |mk:∀(a b:Addr) (ms ns:List Str) (f:Str->Str),x=.ref a->y=.ref b->H a=some (.dK (stF ms f))->H b=some (.dK (stF ns f))->ms.length=ns.length->(∀m∈ms,m∈ns)->Q (.bl false) H->rNeDS x y H Q
theorem je_{X:Cx}(hu:X.A.units<cLine):OpR X (compareOp .NotEq) rNeDS:=by
 intro pins s σ H x y v u Q I rx ry h;obtain⟨a,b,ms,ns,f,rfl,rfl,ha,hb,le,sub,q⟩:=h;cases rx;cases ry;obtain⟨za,na,va,ra,da⟩:=bD_ I.hok (.inl ha);obtain⟨zb,nb,vb,rb,db⟩:=bD_ I.hok (.inl hb);have la:=ra.length;have lb:=rb.length;rw[b4_] at la lb;refine PySem.W.keq_ne na nb da db hu (r:=ms.all λn=>decide (f n=f n)) (λ_=>g6_ rb ms va ra sub) ⟨.bl _,H,I,rfl,?_⟩;rw[<- la,<- lb,le];have al:(ms.all λn=>decide (f n=f n))=true:=by simp
 rw[al];simpa using q
variable{H:Hp}
theorem But.same{l:Addr}{H1 H2:Hp}(b:But l H1 H2)(n:H l=none)(s:Same H H1):Same H H2:=λc o e=>b c o (s c o e) (a7_ e n)
variable{T a:Addr}{q:Str}
theorem a8'.putD{xs:List (Key × V)}{o:HO}(h:a8' H T q)(ha:H a=some (.dK xs)):a8' (upd H a o) T q:=by
 obtain⟨es,hT,all⟩:=h;exact⟨es,by rw[a5_ (aM_ hT ha nofun)];exact hT,λe he=>by rw[a5_ (aM_ (all e he) ha nofun)];exact all e he⟩
def rnW:List Str:=["shares one","shares all","least one fall","least one calm","below one fall","below one calm","turns fall","turns calm"]
theorem k8_:∀n∈rnW,∃r∈rl,r.1=n/\guB ["fall","calm"] r=true:=by decide +kernel
structure Wf (K:F__) (CG CW T1 T2:Addr) (H0 H:Hp) (g p d:Addr) (o:Option Str) (wt:Int) (fp:List Addr):Prop where
 W:Wst K CG CW H g p d o wt fp
 has:∀b∈fp,∃o,H b=some o/\∀vs,o≠.tbl vs
 nd:H0 d=none
 tb:Tb H T1 T2
 nt:NT H0 H
variable{T1 T2 d:Addr}{o:Option Str}{wt:Int}{H0:Hp}
theorem Wf.mv(F:Wf K CG CW T1 T2 H0 H g p d o wt fp)(s:NT H H')(tb:Tb H' T1 T2):Wf K CG CW T1 T2 H0 H' g p d o wt fp:=
 ⟨⟨F.W.G.nt s,F.W.dfp,s.dK F.W.hd⟩,λb hb=>let ⟨o,e,n⟩:=F.has b hb;⟨o,s _ _ e n,n⟩,F.nd,tb,F.nt.trans s⟩
theorem Wf.same(F:Wf K CG CW T1 T2 H0 H g p d o wt fp)(s:Same H H'):Wf K CG CW T1 T2 H0 H' g p d o wt fp:=F.mv (.of s) ⟨F.tb.a.same s,F.tb.b.same s,F.tb.ne⟩
theorem Wf.stn(F:Wf K CG CW T1 T2 H0 H g p d o wt fp):Stn K CG CW H g p d hsW tsW (qsW o wt) fp (nmW o) fW:=⟨F.W.G,F.W.dfp,F.W.hd,kk_ o wt,F.has⟩
theorem Wf.std(F:Wf K CG CW T1 T2 H0 H g p d o wt fp)(w1:1<=wt)(w2:wt<=1000000000):Std K CG CW H g p d hsW tsW (qsW o wt) fp (nmW o) fW:=⟨F.W.G,ej',F.W.dfp,F.W.hd,kk_ o wt,ndW o wt,(WdW w1 w2).h64,λq hq=>((WdW w1 w2).wq q hq).1⟩
def spLaw(K:F__)(T1 T2:Addr):Sp:=λvs H Q _=>∃(a:Addr) (ns:List Int),vs=[.ref a]/\Tb H T1 T2/\SqL K H a (ns.map V.int)/\ns.length<=63/\∀H',Q (.bl true) H'
theorem ca':a3' ["_law_script","_law_rules","_law_k","_law_state_here","_law_weight","_law_rule","_law_goods","_law_stand","_law_drop","_law_told","_law_kept"] ["_law_script"] (a1' sLaw):=f__
abbrev lnN:List Str:=["_law_name","_law_goods","_law_weight"]
variable{P:Ae}{w:Af}{mg:Str->Option Aa}{base:Heap}{CP:Addr}
theorem ks_{f0:Addr}{fd:Ad}(F:Fun K "law" "law" sLaw f0 fd)(B:Bi mg)(TG:TxtG K CG)(TW:Txt K mg CW)(cC:Cal P w K mg base 1 "_law_cell_at" ["_law_script","_law_k"] (spCell K))(cSt:Cal P w K mg base 1 "_law_state" ["_law_cell","_law_k"] spState)(cD:Cal P w K mg base 2 "_law_digit" ["_law_state_here","_law_base"] spDigit)
  (cWo:Cal P w K mg base 9 "worst_of" ["weight","rule"] (spWorst K CG CW)) (cWR:Cal P w K mg base 3 "_law_web_right" ["_law_web"] (spWebR K CW)) (cFr:CalM P w K mg base CG 1 "are_free" ["self"] (dD' K CG CW)) (cN:CalM P w K mg base CG 1 "names" ["self"] (bD' K CG CW)) (cW:CalX P w K mg base CG 2 "weight" ["self","piece"] (bg' K CG CW CP)) (cHe:Cal P w K mg base 3 "_law_held" ["_law_goods","_law_stand","_law_hand"] (dG' K CG CW)) (cSL:Cal P w K mg base 1 "_law_steep" ["_law_weight","_law_rule"] eb') (cGi:Cal P w K mg base 3 "_law_gives" ["_law_goods","_law_stand","_law_rule","_law_drop"] (dv' K CG CW))
  (cRe:Cal P w K mg base 10 "at_rest" ["goods","stand","rule"] (dQ' K CG CW T1 T2)) (cMv:Cal P w K mg base 9 "moves_of" ["goods","stand","rule","moment"] (c7' K CG CW T1 T2)) (cSp:Cal P w K mg base 7 "spread" ["goods","stand"] (cP' K CG CW)) (cSte:Cal P w K mg base 5 "steepest" ["goods","stand"] (dU' K CG CW)) (cGa:Cal P w K mg base 6 "gap_of" ["web","weight","rule"] (spGap K CW)):FnOk P w K mg base CX0 11 f0 fd ["_law_script"] (spLaw K T1 T2):=by
 refine F.ok ca' (λvs H Q E h=>?_) (λcdv A outer s H vs Q E hr h=>?_)
 ·obtain⟨a,ns,rfl,_⟩:=h;rfl
 ·obtain⟨ls,ns,rfl,tb,hls,h63,k⟩:=h;have sz:=b__;have hu:=ba_ hr;have hr1:Room 1 _:=hr.mono (by decide);have hr2:Room 2 _:=hr.mono (by decide);have hr3:Room 3 _:=hr.mono (by decide);have hr5:Room 5 _:=hr.mono (by decide);have hr6:Room 6 _:=hr.mono (by decide);have hr7:Room 7 _:=hr.mono (by decide);have hr9:Room 9 _:=hr.mono (by decide);refine' ⟨_,?r0,?kk⟩
  case' r0=>refine' a3_ ?s1 ?r1
  case' r1=>refine' a3_ ?s2 ?r2
  case' r2=>refine' a3_ ?s3 (a4_ (a8_ bC_))
  case s1=>exact ad_ (i:=1) ca'.nd rfl (Or.inl rfl) (ax_ (a0_ ag_ (a0_ ag_ (a0_ ag_ (a0_ ag_ (a0_ ag_ (a0_ ag_ a2_)))))))
  case s2=>exact ad_ (i:=1) ca'.nd rfl (Or.inl rfl) (am_ kA_ (pv 1) (ax_ (a0_ ag_ (a0_ ag_ a2_))))
  case' s3=>refine' aV_ b_1 rfl ?i3 (ac_ (i:=2) ca'.nd rfl (Or.inl rfl)) ?b0
  case i3=>exact e1_ (by rfl) B.range (a0_ (am_ bh_ a6_ (ab_ (h9_ rfl) (by rfl) B.min PyProof.Rows.Boot.«min» (a0_ (ab_ av_ (by rfl) B.len b_8 (a0_ (pv 0) a2_)) (a0_ a6_ a2_)))) a2_)
  case' b0=>refine' a3_ ?b1 ?t1
  case' t1=>refine' a3_ ?b2 (a4_ ?b3)
  case b1=>exact ad_ (i:=3) ca'.nd rfl (Or.inl rfl) (af_ cSt hr1 (a0_ (af_ cC hr1 (a0_ (pv 0) (a0_ (pv 2) a2_))) (a0_ (pv 2) a2_)))
  case b2=>exact ad_ (i:=4) ca'.nd rfl (Or.inr rfl) (au_ b6_ (ax_ (a0_ (am_ bh_ a6_ (af_ cD hr2 (a0_ (pv 3) (a0_ a6_ a2_)))) (a0_ (am_ bh_ a6_ (af_ cD hr2 (a0_ (pv 3) (a0_ (am_ iV_ a6_ a6_) a2_)))) (a0_ (am_ iV_ a6_ a6_) a2_)))) (af_ cD hr2 (a0_ (pv 3) (a0_ a6_ a2_))) (λ_ _=>rfl))
  case' b3=>refine' aV_ b_1 rfl (aj_ (pv 1)) (ac_ (i:=5) ca'.nd rfl (Or.inl rfl)) ?d0
  case' d0=>refine' a3_ ?c1 ?u1
  case' u1=>refine' a3_ ?c2 ?u2
  case' u2=>refine' a3_ ?c3 ?u3
  case' u3=>refine' a3_ ?c4 ?u4
  case' u4=>refine' a3_ ?c5 ?u5
  case' u5=>refine' a3_ ?c6 ?u6
  case' u6=>refine' a3_ ?c7 ?u7
  case' u7=>refine' a3_ ?c8 ?u8
  case' u8=>refine' a3_ ?c9 ?u9
  case' u9=>refine' a3_ ?c10 (a4_ ?c11)
  case c1=>exact h6_ (af_ cWo hr9 (a0_ (pv 4) (a0_ (pv 5) a2_))) (bR_ rfl (aq_ (ac_ (i:=6) ca'.nd rfl (Or.inr rfl)) (aq_ (ac_ (i:=7) ca'.nd rfl (Or.inl rfl)) bc_)))
  case' c2=>refine' al_ (PW.pt (cI_ ?q1 (cI_ ?q2 (bF_ ?q3)))) (a4_ (a8_ bC_)) a9_
  case q1=>exact aC_ (ay_ (af_ cWR hr3 (a0_ (ak_ (pv 6) rfl) a2_)))
  case q2=>exact aC_ (ay_ (b3_ cFr TG.cl hr1 (pv 6)))
  case q3=>exact ae_ (cx_ cmpS (bG' hr 0)) (ab_ (cs_ rfl) (by rfl) B.sorted PyProof.Rows.Boot.«sorted» (a0_ (pv 7) a2_)) (b3_ cN TG.cl hr1 (pv 6)) (nomark _)
  case' c3=>refine' al_ (ae_ (cx_ cmpS (bG' hr 0)) (aO_ lnN 1 [6,4] (aj_ (b3_ cN TG.cl hr1 (pv 6))) (λfp s H=>?g1) (λfp s H=>?q4) (λfp s H=>pv 0)) (ax_ a2_) (nomark _)) (a4_ (a8_ bC_)) a9_
  case g1=>exact ac_ (i:=0) (show lnN.Nodup by decide +kernel) rfl (Or.inl rfl)
  case q4=>exact dt_ (ae_ eh_ (di_ cW TG.cl hr2 (pv 1) (a0_ (pv 0) a2_)) (pv 2) (nomark _))
  case c4=>exact ad_ (i:=8) ca'.nd rfl (Or.inl rfl) (am_ bM_ (af_ cHe hr3 (a0_ (pv 6) (a0_ (pv 7) (a0_ ag_ a2_)))) (af_ cHe hr3 (a0_ (pv 6) (a0_ (pv 7) (a0_ ag_ a2_)))))
  case' c5=>refine' al_ (PW.pt (cI_ ?q5 (bF_ ?q6))) (a4_ (a8_ bC_)) a9_
  case q5=>exact ae_ df_ (ab_ bx_ (by rfl) B.abs PyProof.Rows.Boot.«abs» (a0_ (pv 8) a2_)) (af_ cSL hr1 (a0_ (pv 4) (a0_ (pv 5) a2_))) (nomark _)
  case q6=>exact ay_ (af_ cGi hr3 (a0_ (pv 6) (a0_ (pv 7) (a0_ (pv 5) (a0_ (pv 8) a2_)))))
  case' c6=>refine' al_ (PW.pt (cI_ ?q7 (bF_ ?q8))) (a4_ (a8_ bC_)) a9_
  case q7=>exact aC_ (ay_ (af_ cRe hr (a0_ (pv 6) (a0_ (pv 7) (a0_ (pv 5) a2_)))))
  case q8=>exact ae_ (cx_ cmpS (bG' hr 0)) (af_ cMv hr9 (a0_ (pv 6) (a0_ (pv 7) (a0_ (pv 5) (a0_ a6_ a2_))))) (ax_ a2_) (nomark _)
  case c7=>exact ad_ (i:=9) ca'.nd rfl (Or.inl rfl) (ax_ (a0_ (af_ cSp hr7 (a0_ (pv 6) (a0_ (pv 7) a2_))) (a0_ (af_ cSte hr5 (a0_ (pv 6) (a0_ (pv 7) a2_))) (a0_ (af_ cGa hr6 (a0_ (ak_ (pv 6) rfl) (a0_ (pv 4) (a0_ (pv 5) a2_)))) a2_))))
  case c8=>exact al_ (ae_ (cx_ (cmp2 cmpZ cmpZ) (bG' hr _)) (pv 9) (am_ kn_ (ax_ (a0_ (aR_ (a0_ (ab_ bx_ (by rfl) B.abs PyProof.Rows.Boot.«abs» (a0_ (pv 8) a2_)) (a0_ a6_ a2_))) a2_)) a6_) (nomark _)) (a4_ (a8_ bC_)) a9_
  case c9=>exact ad_ (i:=10) ca'.nd rfl (Or.inl rfl) (aG_ fC_ (by rfl) B.dict PyProof.Rows.Boot.«dict» (a0_ (pv 7) a2_))
  case c10=>exact bv_ hu (pv 7) ag_ ag_ rfl
  case c11=>exact al_ (ae_ (je_ (Nat.lt_of_succ_lt (bG' hr 0))) (au_ ap_ (af_ cWo hr9 (a0_ (pv 4) (a0_ (pv 5) a2_))) a6_ (λ_ _=>rfl)) (pv 10) (nomark _)) (a4_ (a8_ bC_)) a9_
  case' kk=>skip
  refine⟨by show 6<=sizeLine;decide,λl1 n1=>?_⟩;have a1:=Same.new (o:=.lst [.str "shares one",.str "shares all",.str "least one fall",.str "least one calm",.str "below one fall",.str "below one calm"]) n1;have b1:upd H l1 (.lst [.str "shares one",.str "shares all",.str "least one fall",.str "least one calm",.str "below one fall",.str "below one calm"]) l1=some _:=a1_;generalize upd H l1 (.lst [.str "shares one",.str "shares all",.str "least one fall",.str "least one calm",.str "below one fall",.str "below one calm"])=G1 at a1 b1 ⊢;refine setG ?_;dsimp only;refine⟨_,rfl,by show 2<=sizeLine;decide,λl2 n2=>?_⟩;have a2:=Same.new (o:=.lst [.str "turns fall",.str "turns calm"]) n2;have b2:upd G1 l2 (.lst [.str "turns fall",.str "turns calm"]) l2=some _:=a1_;generalize upd G1 l2 (.lst [.str "turns fall",.str "turns calm"])=G2 at a2 b2 ⊢;refine⟨l1,l2,_,_,rfl,rfl,a2 _ _ b1,b2,by decide,λlr n3=>?_⟩;obtain⟨a3,b3⟩:=nw__ (o:=.lst (rnW.map V.str)) n3;show b4' 1 (.ref lr) _ (upd G2 lr (.lst (rnW.map V.str))) _;generalize upd G2 lr (.lst (rnW.map V.str))=G3 at a3 b3 ⊢;have s3:=(a1.trans a2).trans a3;have hls3:SqL K G3 ls (ns.map V.int):=iO_ (.of s3) hls;have tb3:Tb G3 T1 T2:=⟨tb.a.same s3,tb.b.same s3,tb.ne⟩;clear a1 a2 a3 b1 b2 n1 n2 n3 s3 hls tb;refine setG ?_;dsimp only;refine seqG (λσ H'=>True) (λσ H' _=>k _) (λN hN=>?_);have hln:(ns.map V.int).length<=63:=by rw[aa'];exact h63
  obtain⟨cnt,c4,ec⟩:∃c:Nat,c<=8/\(1+(if (7:Int)<((ns.map V.int).length:Int) then (7:Int) else ((ns.map V.int).length:Int)))=(c:Int):=by
   by_cases c:(7:Int)<((ns.map V.int).length:Int)
   ·rw[a_9 c];exact⟨8,by decide,rfl⟩
   ·rw[a_4 c];exact⟨1+(ns.map V.int).length,by omega,by omega⟩
  refine⟨_,rfl,ls,_,rfl,.inl hls3,_,_,rfl,_,_,rfl,rfl,(cnt:Int),b_9 (λz=>[V.int z]) ec,by omega,by omega,?_⟩;refine dN_ (λi σ H'=>NT G3 H'/\Tb H' T1 T2/\∃v2 v3 v4 v5 v6 v7 v8 v9 v10:Option V,σ=[some (.ref ls),some (.ref lr),v2,v3,v4,v5,v6,v7,v8,v9,v10]) ⟨NT.refl G3,tb3,none,none,none,none,none,none,none,none,none,rfl⟩ ?_ (λσ H' _=>hN _ _ trivial);rintro i σ H0 hi ⟨nt0,tb0,v2,v3,v4,v5,v6,v7,v8,v9,v10,rfl⟩;refine setG ?_;dsimp only;rw[aU'] at hi;have lr0:=nt0.lst b3;have ls0:=iO_ nt0 hls3;refine seqG (λσ H'=>∃l,Same H0 H'/\H0 l=none/\stt H' l/\σ=[some (.ref ls),some (.ref lr),some (.int i),some (.ref l),v4,v5,v6,v7,v8,v9,v10]) ?m2 (λN1 hN1=>?m1)
  case m1=>
   refine⟨_,rfl,_,rfl,ls,ns,_,rfl,by omega,ls0,λc=>?_⟩;refine⟨_,rfl,c,i,by rw[Int.zero_add];rfl,by omega,λl H1 s1 nl st=>hN1 _ _ ⟨l,s1,nl,st,?_⟩⟩;show [some (V.ref ls),some (V.ref lr),some (V.int (0+(i:Int))),some (V.ref l),v4,v5,v6,v7,v8,v9,v10]=_;rw[Int.zero_add]
  rintro σ H1 ⟨l,s1,nl,st1,rfl⟩;refine seqG (λσ H'=>∃wt:Int,1<=wt/\wt<=1000000000/\Same H0 H'/\σ=[some (.ref ls),some (.ref lr),some (.int i),some (.ref l),some (.int wt),v5,v6,v7,v8,v9,v10]) ?m4 (λN1 hN1=>?m3)
  case m3=>
   refine⟨_,rfl,l,9,rfl,by decide,by decide,st1,λr1 H2 x0 x1 b2 st2=>⟨_,_,rfl,rfl,?_⟩⟩;refine⟨_,rfl,_,_,rfl,rfl,⟨by decide,by decide,by decide⟩,l,(10:Int) ^ (9:Int).toNat,rfl,by decide,by decide,st2,λr2 H3 y0 y1 b3 st3=>⟨_,_,rfl,rfl,?_⟩⟩;have y1:r2<1000000000:=y1;refine⟨_,_,rfl,rfl,⟨by decide,by decide,by decide⟩,by show 3<=sizeLine;decide,λlx nx=>?_⟩;obtain⟨s4,e4⟩:=nw__ (o:=.lst [.int (1+r1),.int (1+r2),.int ((10:Int) ^ (9:Int).toNat)]) nx;have xl:=st3.ne nx;generalize upd H3 lx (.lst [.int (1+r1),.int (1+r2),.int ((10:Int) ^ (9:Int).toNat)])=H4 at s4 e4 ⊢;refine⟨_,rfl,l,3,rfl,by decide,by decide,st3.same s4,λr3 H5 u0 u1 b5 st5=>?_⟩
   obtain⟨v,hv,x,rfl,z1,z2⟩:=hitL (p:=λv:V=>∃x:Int,v=V.int x/\1<=x/\x<=1000000000) (xs:=[V.int (1+r1),.int (1+r2),.int ((10:Int) ^ (9:Int).toNat)]) (n:=3) rfl u0 u1 (λv hv=>by
    simp only[al',List.not_mem_nil,or_false] at hv;rcases hv with rfl|rfl|rfl
    ·exact⟨_,rfl,by omega,by omega⟩
    ·exact⟨_,rfl,by omega,by omega⟩
    ·exact⟨_,rfl,by decide,by decide⟩)
   exact⟨lx,_,_,_,rfl,rfl,.of (b5 _ _ e4 xl),hv,setG (hN1 _ _ ⟨x,z1,z2,b5.same nl ((b3.same nl (b2.same nl s1)).trans s4),rfl⟩)⟩
  rintro σ H2 ⟨wt,w1,w2,s2,rfl⟩;have tb2:Tb H2 T1 T2:=⟨tb0.a.same s2,tb0.b.same s2,tb0.ne⟩;have lr2:=s2 _ _ lr0;refine⟨_,rfl,lr,rfl,⟨_,.of lr2⟩,aH_ (K:=K) (a:=lr) (xs:=rnW.map V.str) (λj σ H'=>NT H2 H'/\Tb H' T1 T2/\∃v5 v6 v7 v8 v9 v10:Option V,σ=[some (.ref ls),some (.ref lr),some (.int i),some (.ref l),some (.int wt),v5,v6,v7,v8,v9,v10]) ⟨NT.refl H2,tb2,v5,v6,v7,v8,v9,v10,rfl⟩ (λj σ H' _ ⟨nt,_⟩=>.of (nt.lst lr2)) ?_ ?_⟩;rotate_left
  ·rintro σ H3 ⟨nt3,tb3',u5,u6,u7,u8,u9,u10,rfl⟩;exact⟨(nt0.trans (.of s2)).trans nt3,tb3',_,_,_,_,_,_,_,_,_,rfl⟩
  rintro j x σ H3 hx ⟨nt3,tb3',u5,u6,u7,u8,u9,u10,rfl⟩;obtain⟨n,hn,rfl⟩:=ai_ hx;obtain⟨r,hr',rfl,hg⟩:=k8_ n (ae' hn);refine setG ?_;dsimp only;refine seqG (λσ H'=>∃g p d fp,Wf K CG CW T1 T2 H3 H' g p d r.2.2.2 wt fp/\σ=[some (.ref ls),some (.ref lr),some (.int i),some (.ref l),some (.int wt),some (.str r.1),some (.ref g),some (.ref d),u8,u9,u10]) ?e1b (λN1 hN1=>?e1a)
  case e1a=>
   refine⟨_,rfl,_,rfl,wt,r,hr',rfl,w1,w2,hg,λt g p d fp H4 s4 ht GA fr nd dfp hd=>?_⟩;obtain⟨fp',GA',sub,has⟩:=GA.firm;exact⟨t,_,rfl,.of ht,rfl,_,_,rfl,_,_,rfl,rfl,hN1 _ _ ⟨g,p,d,fp',⟨⟨GA',λm=>dfp (sub _ m),hd⟩,has,nd,⟨tb3'.a.same s4,tb3'.b.same s4,tb3'.ne⟩,.of s4⟩,rfl⟩⟩
  rintro σ H4 ⟨g,p,d,fp,W3,rfl⟩;have o3:=kC_ hr' hg;obtain⟨d0,d4,eL⟩:=gy_ o3 w1 w2;have Wd3:=WdW (o:=r.2.2.2) w1 w2;have nm5:=(bs_ r.2.2.2).2.2.1;refine seqG (λσ H'=>Wf K CG CW T1 T2 H3 H' g p d r.2.2.2 wt fp/\σ=[some (.ref ls),some (.ref lr),some (.int i),some (.ref l),some (.int wt),some (.str r.1),some (.ref g),some (.ref d),u8,u9,u10]) ?e2b (λN1 hN1=>?e2a)
  case e2a=>
   obtain⟨dxg,dw,dy,vs',fpw,g1,g2,_⟩:=id W3.W.G.ex;have hfr:(gflds p dw dy).lookup ("are_free":Str)=none:=aE_ _ _ _ Z0 Z0 Z0;have hnm:(gflds p dw dy).lookup ("names":Str)=none:=aE_ _ _ _ Z0 Z0 Z0;refine⟨_,rfl,g,CG,dxg,_,_,rfl,g1,TG.cl,TG.nW,aJ_ _ _ _,p,fpw,rfl,g2,λH5 s5=>⟨_,rfl,?_⟩⟩;refine iteF ?_;have W5:=W3.same s5;refine⟨_,rfl,g,dxg,_,rfl,s5 _ _ g1,hfr,g,p,hsW,tsW,qsW r.2.2.2 wt,fp,rfl,W5.W.G,by have:=lenW r.2.2.2 wt;omega,λH6 s6=>⟨_,rfl,?_⟩⟩;rw[show ((qsW r.2.2.2 wt).all λq=>q.2.2.isNone)=true from List.all_eq_true.mpr λq hq=>by rw[(c7_ hq).1];rfl];refine iteF ?_;have W6:=W5.same s6;refine⟨_,rfl,d,_,nmW r.2.2.2,rfl,W6.W.hd,bL_ ..,by omega,λl6 n6=>?_⟩;obtain⟨s7,e7⟩:=nw__ (o:=.lst ((bt' (nmW r.2.2.2)).map V.str)) n6;generalize upd H6 l6 (.lst ((bt' (nmW r.2.2.2)).map V.str))=H7 at s7 e7 ⊢;have W7:=W6.same s7;refine⟨_,rfl,g,dxg,_,rfl,s7 _ _ (s6 _ _ (s5 _ _ g1)),hnm,g,p,hsW,tsW,qsW r.2.2.2 wt,fp,rfl,W7.W.G,λl8 n8=>?_⟩;obtain⟨s8,e8⟩:=nw__ (o:=.lst (((qsW r.2.2.2 wt).map (·.1)).map V.str)) n8;generalize upd H7 l8 (.lst (((qsW r.2.2.2 wt).map (·.1)).map V.str))=H8 at s8 e8 ⊢;have W8:=W7.same s8;rw[(bs_ r.2.2.2).1] at e7;rw[be_] at e8;refine⟨nmW r.2.2.2,nmW r.2.2.2,⟨l6,_,rfl,.of (s8 _ _ e7),bn_ _⟩,⟨l8,_,rfl,.of e8,bn_ _⟩,_,rfl,?_⟩;rw[show (if true=true then !decide (nmW r.2.2.2=nmW r.2.2.2) else decide (nmW r.2.2.2=nmW r.2.2.2))=false by simp];exact iteF (hN1 _ _ ⟨W8,rfl⟩)
  clear W3;rintro σ H4 ⟨W3,rfl⟩;refine seqG (λσ H'=>Wf K CG CW T1 T2 H3 H' g p d r.2.2.2 wt fp/\σ=[some (.ref ls),some (.ref lr),some (.int i),some (.ref l),some (.int wt),some (.str r.1),some (.ref g),some (.ref d),u8,u9,u10]) ?e3b (λN1 hN1=>?e3a)
  case e3a=>
   obtain⟨dxg,dw,dy,vs',fpw,g1,g2,_⟩:=id W3.W.G.ex;have hnm:(gflds p dw dy).lookup ("names":Str)=none:=aE_ _ _ _ Z0 Z0 Z0;have hwt:(gflds p dw dy).lookup ("weight":Str)=none:=aE_ _ _ _ Z0 Z0 Z0;refine⟨_,rfl,g,dxg,_,rfl,g1,hnm,g,p,hsW,tsW,qsW r.2.2.2 wt,fp,rfl,W3.W.G,λln nln=>?_⟩;obtain⟨s5,e5⟩:=nw__ (o:=.lst (((qsW r.2.2.2 wt).map (·.1)).map V.str)) nln;generalize upd H4 ln (.lst (((qsW r.2.2.2 wt).map (·.1)).map V.str))=H5 at s5 e5 ⊢;have W5:=W3.same s5;have g15:=s5 _ _ g1;refine⟨ln,rfl,⟨_,.of e5⟩,λD hD=>?_⟩;refine as_ (own:=1) (fv:=[some (.ref g),some (.int wt)]) (xs:=((qsW r.2.2.2 wt).map (·.1)).map V.str) rfl gok1 (λi out H'=>Same H5 H'/\H' D=some (.lst out)/\out=[]) ⟨Same.new hD,a1_,rfl⟩ (λi out H' _ ⟨sm,_,_⟩=>.of (sm _ _ e5)) (λout H6 ⟨sm,hD6,eo⟩=>?_) (λi y out H' hy ⟨sm,hD',eo⟩=>?_)
   ·subst eo;refine⟨by show 0<=sizeLine;decide,λl7 n7=>?_⟩;have s7:=Same.new (o:=.lst []) n7;refine⟨([]:List Str),[],⟨D,_,rfl,.of (s7 _ _ hD6),.nil⟩,⟨l7,_,rfl,.of a1_,.nil⟩,_,rfl,?_⟩;exact iteF (hN1 _ _ ⟨(W5.same sm).same s7,rfl⟩)
   ·obtain⟨n,hn,rfl⟩:=ai_ hy;obtain⟨q,mq,rfl⟩:=af'.mp (ae' hn);refine⟨_,rfl,rfl,λNx hN=>?_⟩;refine⟨_,rfl,g,dxg,_,rfl,sm _ _ g15,hwt,_,rfl,g,p,.str q.1,some q.1,hsW,tsW,qsW r.2.2.2 wt,fp,rfl,W5.W.G.same sm,ndW _ wt,rfl,.inl ⟨q,mq,rfl,?_⟩⟩;refine⟨_,rfl,_,_,rfl,rfl,_,rfl,?_⟩;rw[show decide (wt<q.2.1)=false by obtain⟨_,e|e⟩:=c7_ mq<;>rw[e]<;>simp<;>omega]
    exact iteF (hN _ _ ⟨sm,hD',eo⟩)
  clear W3;rintro σ H4 ⟨W3,rfl⟩;refine seqG (λσ H'=>Wf K CG CW T1 T2 H3 H' g p d r.2.2.2 wt fp/\σ=[some (.ref ls),some (.ref lr),some (.int i),some (.ref l),some (.int wt),some (.str r.1),some (.ref g),some (.ref d),some (.int (dW r.2.2.2 wt)),u9,u10]) ?e4b (λN1 hN1=>?e4a)
  case e4a=>
   refine⟨_,rfl,_,rfl,g,p,d,"a",r.2.2.2,wt,fp,rfl,W3.W,λH5 s5=>?_⟩;have W5:=W3.same s5;refine⟨_,rfl,_,rfl,g,p,d,"b",r.2.2.2,wt,fp,rfl,W5.W,λH6 s6=>?_⟩;refine⟨_,_,rfl,rfl,?_⟩;rw[eL];exact setG (hN1 _ _ ⟨W5.same s6,rfl⟩)
  clear W3;rintro σ H4 ⟨W3,rfl⟩;have ab:(if dW r.2.2.2 wt<0 then -dW r.2.2.2 wt else dW r.2.2.2 wt)=dW r.2.2.2 wt:=a_4 Z1;refine seqG (λσ H'=>Wf K CG CW T1 T2 H3 H' g p d r.2.2.2 wt fp/\σ=[some (.ref ls),some (.ref lr),some (.int i),some (.ref l),some (.int wt),some (.str r.1),some (.ref g),some (.ref d),some (.int (dW r.2.2.2 wt)),u9,u10]) ?e5b (λN1 hN1=>?e5a)
  case e5a=>
   refine⟨_,rfl,_,rfl,?_⟩;rw[ab];refine⟨_,rfl,_,rfl,wt,r,hr',rfl,hg,w1,w2,λH5 s5=>?_⟩;refine⟨rfl,_,rfl,?_⟩;rw[show (!decide (V.int (dW r.2.2.2 wt)=V.int (dW r.2.2.2 wt)))=false by simp];refine iteF ?_;have W5:=W3.same s5;exact⟨_,rfl,_,rfl,_,rfl,_,rfl,g,p,d,wt,fp,r,hr',rfl,hg,w1,w2,W5.W,λH6 s6=>⟨_,rfl,iteF (hN1 _ _ ⟨W5.same s6,rfl⟩)⟩⟩
  clear W3;rintro σ H4 ⟨W3,rfl⟩;refine seqG (λσ H'=>Wf K CG CW T1 T2 H3 H' g p d r.2.2.2 wt fp/\σ=[some (.ref ls),some (.ref lr),some (.int i),some (.ref l),some (.int wt),some (.str r.1),some (.ref g),some (.ref d),some (.int (dW r.2.2.2 wt)),u9,u10]) ?e6b (λN1 hN1=>?e6a)
  case e6a=>
   refine⟨_,rfl,_,rfl,_,rfl,g,p,d,hsW,tsW,qsW r.2.2.2 wt,fp,nmW r.2.2.2,fW,r,hr',rfl,W3.stn,Wd3,W3.tb,λH5 bt tb5=>⟨_,rfl,?_⟩⟩;rw[restW hr' hg w1];refine iteF ?_;have W5:=W3.mv (bt.nt W3.tb) tb5;refine⟨_,rfl,_,rfl,_,rfl,g,p,d,0,hsW,tsW,qsW r.2.2.2 wt,fp,nmW r.2.2.2,fW,r,hr',rfl,by decide,W5.stn,Wd3,W5.tb,λlm ys H6 bt6 tb6 nl6 hl6 tu=>?_⟩;have W6:=W5.mv (bt6.nt W5.tb) tb6;rw[mvW hr' hg w1] at tu;cases tu;refine⟨by show 0<=sizeLine;decide,λl7 n7=>?_⟩;have s7:=Same.new (o:=.lst []) n7;refine⟨([]:List Str),[],⟨lm,_,rfl,.of (s7 _ _ hl6),.nil⟩,⟨l7,_,rfl,.of a1_,.nil⟩,_,rfl,?_⟩;exact iteF (hN1 _ _ ⟨W6.same s7,rfl⟩)
  clear W3;rintro σ H4 ⟨W3,rfl⟩;refine seqG (λσ H'=>∃lt t1 t2 t3,Wf K CG CW T1 T2 H3 H' g p d r.2.2.2 wt fp/\H' lt=some (.lst [.ref t1,.ref t2,.ref t3])/\H' t1=some (.tup [.int (dW r.2.2.2 wt),.int 1])/\H' t2=some (.tup [.int (dW r.2.2.2 wt),.int 1])/\H' t3=some (.tup [.int (dW r.2.2.2 wt),.int 1])/\σ=[some (.ref ls),some (.ref lr),some (.int i),some (.ref l),some (.int wt),some (.str r.1),some (.ref g),some (.ref d),some (.int (dW r.2.2.2 wt)),some (.ref lt),u10]) ?e7b (λN1 hN1=>?e7a)
  case e7a=>
   refine⟨_,rfl,_,rfl,g,p,d,hsW,tsW,qsW r.2.2.2 wt,fp,nmW r.2.2.2,fW,rfl,W3.std w1 w2,Wd3.wq,λt1 r1 H5 s5 R1 e5=>?_⟩;rw[riseW o3 w1 w2 R1] at e5;have W5:=W3.same s5;refine⟨_,rfl,_,rfl,g,p,d,hsW,tsW,qsW r.2.2.2 wt,fp,nmW r.2.2.2,fW,rfl,W5.std w1 w2,Wd3.wq,λt2 r2 H6 s6 R2 e6=>?_⟩;rw[steepW o3 w1 w2 R2] at e6;have W6:=W5.same s6;obtain⟨dxg,dw,dy,vs',fpw,g1,g2,_⟩:=id W6.W.G.ex;refine⟨_,rfl,g,CG,dxg,_,_,rfl,g1,TG.cl,TG.nW,aJ_ _ _ _,_,rfl,_,rfl,p,wt,1,hsW,tsW,fpw,r,hr',rfl,hg,g2,⟨w1,w2,ej',mostW⟩,λt3 H7 s7 n7 e7=>?_⟩;rw[gapW o3 w1 w2] at e7;refine⟨by show 3<=sizeLine;decide,λlt n8=>?_⟩;have s8:=Same.new (o:=.lst [.ref t1,.ref t2,.ref t3]) n8;exact setG (hN1 _ _ ⟨lt,t1,t2,t3,(W6.same s7).same s8,a1_,s8 _ _ (s7 _ _ (s6 _ _ e5)),s8 _ _ (s7 _ _ e6),s8 _ _ e7,rfl⟩)
  clear W3;rintro σ H4 ⟨lt,t1,t2,t3,W3,hlt,h1,h2,h3,rfl⟩;refine seqG (λσ H'=>Wf K CG CW T1 T2 H3 H' g p d r.2.2.2 wt fp/\σ=[some (.ref ls),some (.ref lr),some (.int i),some (.ref l),some (.int wt),some (.str r.1),some (.ref g),some (.ref d),some (.int (dW r.2.2.2 wt)),some (.ref lt),u10]) ?e8b (λN1 hN1=>?e8a)
  case e8a=>
   refine⟨_,rfl,_,rfl,_,rfl,?_⟩;rw[ab];refine⟨by show 2<=sizeLine;decide,λt n5=>?_⟩;obtain⟨s5,e5⟩:=nw__ (o:=.tup [.int (dW r.2.2.2 wt),.int 1]) n5;generalize upd H4 t (.tup [.int (dW r.2.2.2 wt),.int 1])=H5 at s5 e5 ⊢;refine⟨by show 1<=sizeLine;decide,λl6 n6=>?_⟩;obtain⟨s6,e6⟩:=nw__ (o:=.lst [.ref t]) n6;generalize upd H5 l6 (.lst [.ref t])=H6 at s6 e6 ⊢;refine⟨l6,3,_,rfl,rfl,e6,by decide,by decide,by show 1 * 3<=sizeLine;decide,λl7 n7=>?_⟩;have s7:=Same.new (o:=.lst [.ref t,.ref t,.ref t]) n7;have s47:=(s5.trans s6).trans s7;refine⟨[(dW r.2.2.2 wt,1),(dW r.2.2.2 wt,1),(dW r.2.2.2 wt,1)],[(dW r.2.2.2 wt,1),(dW r.2.2.2 wt,1),(dW r.2.2.2 wt,1)],⟨lt,_,rfl,.of (s47 _ _ hlt),?_⟩,⟨l7,[.ref t,.ref t,.ref t],rfl,.of a1_,?_⟩,_,rfl,?_⟩
   ·exact .cons ⟨t1,_,_,rfl,.of (s47 _ _ h1),rfl,rfl⟩ (.cons ⟨t2,_,_,rfl,.of (s47 _ _ h2),rfl,rfl⟩ (.cons ⟨t3,_,_,rfl,.of (s47 _ _ h3),rfl,rfl⟩ .nil))
   ·have z:∃a u v,V.ref t=.ref a/\SqT K (upd H6 l7 (.lst [.ref t,.ref t,.ref t])) a [u,v]/\rZ (upd H6 l7 (.lst [.ref t,.ref t,.ref t])) u (dW r.2.2.2 wt)/\rZ (upd H6 l7 (.lst [.ref t,.ref t,.ref t])) v 1:=⟨t,_,_,rfl,.of (s7 _ _ (s6 _ _ e5)),rfl,rfl⟩;exact .cons z (.cons z (.cons z .nil))
   ·rw[show (if true=true then !decide ([(dW r.2.2.2 wt,(1:Int)),(dW r.2.2.2 wt,1),(dW r.2.2.2 wt,1)]=[(dW r.2.2.2 wt,1),(dW r.2.2.2 wt,1),(dW r.2.2.2 wt,1)]) else decide ([(dW r.2.2.2 wt,(1:Int)),(dW r.2.2.2 wt,1),(dW r.2.2.2 wt,1)]=[(dW r.2.2.2 wt,1),(dW r.2.2.2 wt,1),(dW r.2.2.2 wt,1)]))=false by simp];exact iteF (hN1 _ _ ⟨W3.same s47,rfl⟩)
  clear W3;rintro σ H4 ⟨W3,rfl⟩;clear hlt h1 h2 h3;refine⟨_,rfl,d,_,rfl,.of W3.W.hd,λdk ndk=>?_⟩;obtain⟨s5,e5⟩:=nw__ (o:=.dK (stF (nmW r.2.2.2) fW)) ndk;generalize upd H4 dk (.dK (stF (nmW r.2.2.2) fW))=H5 at s5 e5 ⊢;have W5:=W3.same s5;have dkd:dk≠d:=λz=>by rw[z,W3.W.hd] at ndk;cases ndk
  refine setG ?_;dsimp only;refine seqG (λσ H'=>NT H3 H'/\Tb H' T1 T2/\H' dk=some (.dK (stF (nmW r.2.2.2) fW))/\σ=[some (.ref ls),some (.ref lr),some (.int i),some (.ref l),some (.int wt),some (.str r.1),some (.ref g),some (.ref d),some (.int (dW r.2.2.2 wt)),some (.ref lt),some (.ref dk)]) ?e9b (λN1 hN1=>?e9a)
  case e9a=>
   refine⟨_,rfl,d,_,rfl,.k (k:=Sum.inr "more") W5.W.hd (by rw[b4_];omega),hN1 _ _ ⟨λb o e n=>?_,⟨a8'.putD W5.tb.a W5.W.hd,a8'.putD W5.tb.b W5.W.hd,W5.tb.ne⟩,?_,rfl⟩⟩
   ·rw[a5_ (a7_ e W5.nd)];exact W5.nt b o e n
   ·rw[a5_ dkd];exact e5
  clear W3 W5 s5 e5 ndk;rintro σ H6 ⟨nt6,tb6,hdk,rfl⟩;refine⟨_,rfl,_,rfl,wt,r,hr',rfl,w1,w2,hg,λt g2 p2 d2 fp2 H7 s7 ht GA2 _ _ _ hd2=>?_⟩;refine⟨t,_,1,.ref d2,rfl,rfl,.of ht,rfl,?_⟩;refine⟨_,rfl,d2,dk,nmW r.2.2.2,nmW r.2.2.2,fW,rfl,rfl,hd2,s7 _ _ hdk,rfl,λm hm=>hm,_,rfl,?_⟩;exact iteF ⟨(nt3.trans nt6).trans (.of s7),⟨tb6.a.same s7,tb6.b.same s7,tb6.ne⟩,_,_,_,_,_,_,rfl⟩
structure Fd (K:F__) (mg:Str->Option Aa) (x:Str) (st:Stmt):Prop where
 ex:∃f fd,Fun K x x st f fd/\mg x=some (.ref f)/\PySem.W.keepIn K (.ref f)=true
variable{f:Addr}{h:Heap}{x:Str}{st:Stmt}{cdv ct doc oc pm:Aa}{an od:Option Addr}{osl:Array (Option Aa)}
theorem fd_mk(X:K.In h)(G:h.Ns mainGlobals mg){kV:Aa}(a:PySem.W.nsIn K mainGlobals x=some (some (.ref f)))(l:K.lookup f=some ⟨oc,od,.func (PySem.W.fnOf x x (ba' st) (a7' st) (a1' st) .none kV doc pm an cdv ct),osl⟩)(c:PySem.W.codeIn K cdv x=true)(k:PySem.W.keepIn K (.ref f)=true):Fd K mg x st:=⟨_,_,gt_ l c k,c_0 X G a,k⟩
structure Md (K:F__) (C:Addr) (m qual:Str) (st:Stmt):Prop where
 ex:∃f fd,Fun K m qual st f fd/\Meth K C m f
variable{m qual:Str}
theorem md_mk{kV:Aa}(a:PySem.W.findIn K (.ref C) m=some (some (.ref f)))(i:PySem.W.isFn K (.ref f)=true)(l:K.lookup f=some ⟨oc,od,.func (PySem.W.fnOf m qual (ba' st) (a7' st) (a1' st) .none kV doc pm an cdv ct),osl⟩)(c:PySem.W.codeIn K cdv qual=true)(k:PySem.W.keepIn K (.ref f)=true):Md K C m qual st:=⟨_,_,gt_ l c k,a,i,k⟩
variable{k:Nat}{ps:List Str}{sp:Sp}
theorem cal(d:Fd K mg x st)(ok:∀f fd,Fun K x x st f fd->FnOk P w K mg base CX0 k f fd ps sp)(h:∀(kV doc pm:Aa) (an:Option Addr) (cdv ct:Aa) (us:List Aa),us.length=ps.length->bindArgs (PySem.W.fnOf x x (ba' st) (a7' st) (a1' st) .none kV doc pm an cdv ct) ⟨us,[]⟩=pure (ps.zip us)):Cal P w K mg base k x ps sp:=by
 obtain⟨f,fd,F,m,kp⟩:=d.ex;exact⟨f,fd,ok f fd F,m,kp,F.binds h⟩
theorem calM(d:Md K C m qual st)(ok:∀f fd,Fun K m qual st f fd->FnOk P w K mg base CX0 k f fd ps sp)(h:∀(kV doc pm:Aa) (an:Option Addr) (cdv ct:Aa) (us:List Aa),us.length=ps.length->bindArgs (PySem.W.fnOf m qual (ba' st) (a7' st) (a1' st) .none kV doc pm an cdv ct) ⟨us,[]⟩=pure (ps.zip us)):CalM P w K mg base C k m ps sp:=by
 obtain⟨f,fd,F,m⟩:=d.ex;exact⟨f,fd,ok f fd F,m,F.binds h⟩
theorem calX(d:Md K C m qual st)(ok:∀f fd,Fun K m qual st f fd->FnOk P w K mg base (CX1 P w) k f fd ps sp)(h:∀(kV doc pm:Aa) (an:Option Addr) (cdv ct:Aa) (us:List Aa),us.length=ps.length->bindArgs (PySem.W.fnOf m qual (ba' st) (a7' st) (a1' st) .none kV doc pm an cdv ct) ⟨us,[]⟩=pure (ps.zip us)):CalX P w K mg base C k m ps sp:=by
 obtain⟨f,fd,F,m⟩:=d.ex;exact⟨f,fd,ok f fd F,m,F.binds h⟩
theorem calC(d:Md K C "__init__" qual st)(hx:mg x=some (.ref C))(mk:PySem.W.makesIn K C=true)(kc:PySem.W.keepIn K (.ref C)=true)(ok:∀f fd,Fun K "__init__" qual st f fd->FnOk P w K mg base CX0 k f fd ps sp)(h:∀(kV doc pm:Aa) (an:Option Addr) (cdv ct:Aa) (us:List Aa),us.length=ps.length->bindArgs (PySem.W.fnOf "__init__" qual (ba' st) (a7' st) (a1' st) .none kV doc pm an cdv ct) ⟨us,[]⟩=pure (ps.zip us)):CalC P w K mg base C k x ps sp:=by
 obtain⟨f,fd,F,m⟩:=d.ex;exact⟨f,fd,ok f fd F,⟨mk,m.1,m.2,kc⟩,hx,F.binds h⟩
theorem tup3{p:Str}{x y:Tok}{z:Aa}{u:V}{n:Nat}{sl:Array (Option Aa)}(h:K.lookup a=some ⟨.type "tuple",od,.seq #[.str p x,.str q y,z] n,sl⟩)(r:RelV u z):∀H,SqT K H a [.str p,.str q,u]:=λH=>
 .inr ⟨_,_,_,h,rfl,rfl,(show 3<=sizeLine by decide),.cons ⟨x,rfl⟩ (.cons ⟨y,rfl⟩ (.cons r .nil))⟩
variable{t10 t11 t8 t9:Tok}
theorem rules_at{es:Array DictEntry}{ep:Nat}{t0 t1 t2 t3 t4 t5 t6 t7 t12 t13 t14 t15 t16:Tok}{b0 b1 b2 b3 b4 b5 b6 b7 b8 b9 b10 b11 b12 b13 b14 b15 b16:Addr}{od0 od1 od2 od3 od4 od5 od6 od7 od8 od9 od10 od11 od12 od13 od14 od15 od16:Option Addr}{x0 y0 n0 v0 x1 y1 n1 v1 x2 y2 n2 v2 x3 y3 n3 v3 x4 y4 n4 v4 x5 y5 n5 v5 x6 y6 n6 v6 x7 y7 n7 v7 x8 y8 n8 v8 x9 y9 n9 v9 x10 y10 n10 v10 x11 y11 n11 v11 x12 y12 n12 x13 y13 n13 x14 y14 n14 v14 x15 y15 n15 v15 x16 y16 n16 v16:Nat}{sl0 sl1 sl2 sl3 sl4 sl5 sl6 sl7 sl8 sl9 sl10 sl11 sl12 sl13 sl14 sl15 sl16:Array (Option Aa)}(m:mg "RULES"=some (.ref d))(hs:(d == sysModules)=false)(hl:K.lookup d=some ⟨.type "dict",none,.dict es ep,#[]⟩)(he:es.toList=d6' w [("least one high",t0,.ref b0),("least one fall",t1,.ref b1),("least one calm",t2,.ref b2),("least all high",t3,.ref b3),("least all fall",t4,.ref b4),("least all calm",t5,.ref b5),("below one high",t6,.ref b6),("below one fall",t7,.ref b7),("below one calm",t8,.ref b8),("below all high",t9,.ref b9),("below all fall",t10,.ref b10),("below all calm",t11,.ref b11),("shares one",t12,.ref b12),("shares all",t13,.ref b13),("turns high",t14,.ref b14),("turns fall",t15,.ref b15),("turns calm",t16,.ref b16)])(u0:K.lookup b0=some ⟨.type "tuple",od0,.seq #[.str "least" x0,.str "one" y0,.str "high" v0] n0,sl0⟩)(u1:K.lookup b1=some ⟨.type "tuple",od1,.seq #[.str "least" x1,.str "one" y1,.str "fall" v1] n1,sl1⟩)(u2:K.lookup b2=some ⟨.type "tuple",od2,.seq #[.str "least" x2,.str "one" y2,.str "calm" v2] n2,sl2⟩)(u3:K.lookup b3=some ⟨.type "tuple",od3,.seq #[.str "least" x3,.str "all" y3,.str "high" v3] n3,sl3⟩)(u4:K.lookup b4=some ⟨.type "tuple",od4,.seq #[.str "least" x4,.str "all" y4,.str "fall" v4] n4,sl4⟩)(u5:K.lookup b5=some ⟨.type "tuple",od5,.seq #[.str "least" x5,.str "all" y5,.str "calm" v5] n5,sl5⟩)(u6:K.lookup b6=some ⟨.type "tuple",od6,.seq #[.str "below" x6,.str "one" y6,.str "high" v6] n6,sl6⟩)(u7:K.lookup b7=some ⟨.type "tuple",od7,.seq #[.str "below" x7,.str "one" y7,.str "fall" v7] n7,sl7⟩)(u8:K.lookup b8=some ⟨.type "tuple",od8,.seq #[.str "below" x8,.str "one" y8,.str "calm" v8] n8,sl8⟩)(u9:K.lookup b9=some ⟨.type "tuple",od9,.seq #[.str "below" x9,.str "all" y9,.str "high" v9] n9,sl9⟩)(u10:K.lookup b10=some ⟨.type "tuple",od10,.seq #[.str "below" x10,.str "all" y10,.str "fall" v10] n10,sl10⟩)(u11:K.lookup b11=some ⟨.type "tuple",od11,.seq #[.str "below" x11,.str "all" y11,.str "calm" v11] n11,sl11⟩)(u12:K.lookup b12=some ⟨.type "tuple",od12,.seq #[.str "shares" x12,.str "one" y12,.none] n12,sl12⟩)(u13:K.lookup b13=some ⟨.type "tuple",od13,.seq #[.str "shares" x13,.str "all" y13,.none] n13,sl13⟩)(u14:K.lookup b14=some ⟨.type "tuple",od14,.seq #[.str "turns" x14,.str "all" y14,.str "high" v14] n14,sl14⟩)(u15:K.lookup b15=some ⟨.type "tuple",od15,.seq #[.str "turns" x15,.str "all" y15,.str "fall" v15] n15,sl15⟩)(u16:K.lookup b16=some ⟨.type "tuple",od16,.seq #[.str "turns" x16,.str "all" y16,.str "calm" v16] n16,sl16⟩) :
  c6' K w mg d [b0,b1,b2,b3,b4,b5,b6,b7,b8,b9,b10,b11,b12,b13,b14,b15,b16]:=by
 refine⟨m,rfl,⟨hs,?_,[("least one high",t0,.ref b0),("least one fall",t1,.ref b1),("least one calm",t2,.ref b2),("least all high",t3,.ref b3),("least all fall",t4,.ref b4),("least all calm",t5,.ref b5),("below one high",t6,.ref b6),("below one fall",t7,.ref b7),("below one calm",t8,.ref b8),("below all high",t9,.ref b9),("below all fall",t10,.ref b10),("below all calm",t11,.ref b11),("shares one",t12,.ref b12),("shares all",t13,.ref b13),("turns high",t14,.ref b14),("turns fall",t15,.ref b15),("turns calm",t16,.ref b16)],_,es,ep,hl,⟨rfl,rfl,rfl⟩,rfl,he,?_⟩,?_⟩
 ·rw[dT_ rfl];exact hj_
 ·exact .cons ⟨rfl,rfl⟩ (.cons ⟨rfl,rfl⟩ (.cons ⟨rfl,rfl⟩ (.cons ⟨rfl,rfl⟩ (.cons ⟨rfl,rfl⟩ (.cons ⟨rfl,rfl⟩ (.cons ⟨rfl,rfl⟩ (.cons ⟨rfl,rfl⟩ (.cons ⟨rfl,rfl⟩ (.cons ⟨rfl,rfl⟩ (.cons ⟨rfl,rfl⟩ (.cons ⟨rfl,rfl⟩ (.cons ⟨rfl,rfl⟩ (.cons ⟨rfl,rfl⟩ (.cons ⟨rfl,rfl⟩ (.cons ⟨rfl,rfl⟩ (.cons ⟨rfl,rfl⟩ (.nil)))))))))))))))))
 ·exact .cons (tup3 u0 ⟨_,rfl⟩) (.cons (tup3 u1 ⟨_,rfl⟩) (.cons (tup3 u2 ⟨_,rfl⟩) (.cons (tup3 u3 ⟨_,rfl⟩) (.cons (tup3 u4 ⟨_,rfl⟩) (.cons (tup3 u5 ⟨_,rfl⟩) (.cons (tup3 u6 ⟨_,rfl⟩) (.cons (tup3 u7 ⟨_,rfl⟩) (.cons (tup3 u8 ⟨_,rfl⟩) (.cons (tup3 u9 ⟨_,rfl⟩) (.cons (tup3 u10 ⟨_,rfl⟩) (.cons (tup3 u11 ⟨_,rfl⟩) (.cons (tup3 u12 rfl) (.cons (tup3 u13 rfl) (.cons (tup3 u14 ⟨_,rfl⟩) (.cons (tup3 u15 ⟨_,rfl⟩) (.cons (tup3 u16 ⟨_,rfl⟩) (.nil)))))))))))))))))
structure Tg (P:Ae) (w:Af) (b:Heap):Prop where
theorem caQ(q:Tg P w base)(d:Fd K mg x st)(ok:∀f fd,Fun K x x st f fd->FnOk P w K mg base CX0 k f fd ps sp)(h:∀(kV doc pm:Aa) (an:Option Addr) (cdv ct:Aa) (us:List Aa),us.length=ps.length->bindArgs (PySem.W.fnOf x x (ba' st) (a7' st) (a1' st) .none kV doc pm an cdv ct) ⟨us,[]⟩=pure (ps.zip us):=by first|(exact λ_ _ _ _ _ _ us (hl:us.length=1)=>match us,hl with | [_],_=>rfl)|(exact λ_ _ _ _ _ _ us (hl:us.length=2)=>match us,hl with | [_,_],_=>rfl)|(exact λ_ _ _ _ _ _ us (hl:us.length=3)=>match us,hl with | [_,_,_],_=>rfl)|(exact λ_ _ _ _ _ _ us (hl:us.length=4)=>match us,hl with | [_,_,_,_],_=>rfl)|(exact λ_ _ _ _ _ _ us (hl:us.length=5)=>match us,hl with | [_,_,_,_,_],_=>rfl)|(exact λ_ _ _ _ _ _ us (hl:us.length=0)=>match us,hl with | [],_=>rfl)):Cal P w K mg base k x ps sp:=cal d ok h
theorem caM(q:Tg P w base)(d:Md K C m qual st)(ok:∀f fd,Fun K m qual st f fd->FnOk P w K mg base CX0 k f fd ps sp)(h:∀(kV doc pm:Aa) (an:Option Addr) (cdv ct:Aa) (us:List Aa),us.length=ps.length->bindArgs (PySem.W.fnOf m qual (ba' st) (a7' st) (a1' st) .none kV doc pm an cdv ct) ⟨us,[]⟩=pure (ps.zip us):=by first|(exact λ_ _ _ _ _ _ us (hl:us.length=1)=>match us,hl with | [_],_=>rfl)|(exact λ_ _ _ _ _ _ us (hl:us.length=2)=>match us,hl with | [_,_],_=>rfl)|(exact λ_ _ _ _ _ _ us (hl:us.length=3)=>match us,hl with | [_,_,_],_=>rfl)|(exact λ_ _ _ _ _ _ us (hl:us.length=4)=>match us,hl with | [_,_,_,_],_=>rfl)|(exact λ_ _ _ _ _ _ us (hl:us.length=5)=>match us,hl with | [_,_,_,_,_],_=>rfl)|(exact λ_ _ _ _ _ _ us (hl:us.length=0)=>match us,hl with | [],_=>rfl)):CalM P w K mg base C k m ps sp:=calM d ok h
theorem caX(q:Tg P w base)(d:Md K C m qual st)(ok:∀f fd,Fun K m qual st f fd->FnOk P w K mg base (CX1 P w) k f fd ps sp)(h:∀(kV doc pm:Aa) (an:Option Addr) (cdv ct:Aa) (us:List Aa),us.length=ps.length->bindArgs (PySem.W.fnOf m qual (ba' st) (a7' st) (a1' st) .none kV doc pm an cdv ct) ⟨us,[]⟩=pure (ps.zip us):=by first|(exact λ_ _ _ _ _ _ us (hl:us.length=1)=>match us,hl with | [_],_=>rfl)|(exact λ_ _ _ _ _ _ us (hl:us.length=2)=>match us,hl with | [_,_],_=>rfl)|(exact λ_ _ _ _ _ _ us (hl:us.length=3)=>match us,hl with | [_,_,_],_=>rfl)|(exact λ_ _ _ _ _ _ us (hl:us.length=4)=>match us,hl with | [_,_,_,_],_=>rfl)|(exact λ_ _ _ _ _ _ us (hl:us.length=5)=>match us,hl with | [_,_,_,_,_],_=>rfl)|(exact λ_ _ _ _ _ _ us (hl:us.length=0)=>match us,hl with | [],_=>rfl)):CalX P w K mg base C k m ps sp:=calX d ok h
theorem caC(q:Tg P w base)(d:Md K C "__init__" qual st)(hx:mg x=some (.ref C))(mk:PySem.W.makesIn K C=true)(kc:PySem.W.keepIn K (.ref C)=true)(ok:∀f fd,Fun K "__init__" qual st f fd->FnOk P w K mg base CX0 k f fd ps sp)(h:∀(kV doc pm:Aa) (an:Option Addr) (cdv ct:Aa) (us:List Aa),us.length=ps.length->bindArgs (PySem.W.fnOf "__init__" qual (ba' st) (a7' st) (a1' st) .none kV doc pm an cdv ct) ⟨us,[]⟩=pure (ps.zip us):=by first|(exact λ_ _ _ _ _ _ us (hl:us.length=1)=>match us,hl with | [_],_=>rfl)|(exact λ_ _ _ _ _ _ us (hl:us.length=2)=>match us,hl with | [_,_],_=>rfl)|(exact λ_ _ _ _ _ _ us (hl:us.length=3)=>match us,hl with | [_,_,_],_=>rfl)|(exact λ_ _ _ _ _ _ us (hl:us.length=4)=>match us,hl with | [_,_,_,_],_=>rfl)|(exact λ_ _ _ _ _ _ us (hl:us.length=5)=>match us,hl with | [_,_,_,_,_],_=>rfl)|(exact λ_ _ _ _ _ _ us (hl:us.length=0)=>match us,hl with | [],_=>rfl)):CalC P w K mg base C k x ps sp:=calC d hx mk kc ok h
theorem jQ_(r:Rl)(hs:Xa)(ts:Xb)(qs:List Pc)(f:Str->Str)(h:Str)(W:Wd hs ts qs f):(cz' r hs ts qs f h).length<=1000:=by
 unfold cz';split
 ·exact aM' (hc_ r hs ts qs f h) (by decide)
 ·split
  ·exact aM' (hm_ r hs ts qs f h W) (by decide)
  ·exact fN_ r hs ts qs f h W
variable{l:PySem.W.OpenLaw}{as:List Addr}
theorem all_mk{fa CS fl fh fr c1 c2:Addr}{cdl:Aa}(X:K.In h)(G:h.Ns mainGlobals mg)(hfa:mg "law"=some (.ref fa))(f0:Fd K mg "is_whole" sIsW)(f1:Fd K mg "is_whole_from" dB')(f2:Fd K mg "is_whole_within" sWhole)(f3:Fd K mg "is_name" sName)(f4:Fd K mg "lesser_first" dF')(f5:Fd K mg "is_pair_of_names" sPair)(f6:Fd K mg "sorted_ties" dI')(f7:Fd K mg "greatest_divisor" sGd)(f8:Fd K mg "least_multiple" sLM)(f9:Fd K mg "fraction_of" sFrac)(f10:Fd K mg "is_less" sLess)(f11:Fd K mg "is_hand_with_strength" sHand)(f12:Fd K mg "checked_strengths" sStr)(f13:Fd K mg "checked_ties" sTies)(f14:Fd K mg "neighbours_of_all" sNear)(f15:Fd K mg "checked_ways" sCWays)(f16:Fd K mg "checked_piece" dq')(f17:Fd K mg "checked_pieces" cK')(f18:Fd K mg "checked_stand" dS')(f19:Fd K mg "loads_at" df')(f20:Fd K mg "multiple_of_strengths" sMult)(f21:Fd K mg "levels_at" dC')(f22:Fd K mg "rise_at" sRise)(f23:Fd K mg "spread_at" cu')(f24:Fd K mg "spread" d0')(f25:Fd K mg "steepest" sSteep)(f26:Fd K mg "is_rule" dV')(f27:Fd K mg "checked_words" sWords)(f28:Fd K mg "is_shares_or_guarded_by" sGuard)(f29:Fd K mg "is_let_by" sLet)(f30:Fd K mg "fits" sFits)(f31:Fd K mg "heaviest_move" sHvM)(f32:Fd K mg "moves_by_least" cX')(f33:Fd K mg "moves_by_below" c5')(f34:Fd K mg "share_moves" sShM)(f35:Fd K mg "moves_by_shares" cv')(f36:Fd K mg "moves_from" co')(f37:Fd K mg "ties_anew" sAnew)(f38:Fd K mg "first_row_without" cp')(f39:Fd K mg "moves_by_turns" db')(f40:Fd K mg "moves_seen" sSeen)(f41:Fd K mg "checked_start" dx')(f42:Fd K mg "checked_moments" cs')(f43:Fd K mg "moves_of" cW')(f44:Fd K mg "rows_by" dA')(f45:Fd K mg "rests_at" cM')(f46:Fd K mg "at_rest" dK')(f47:Fd K mg "checked_guard" du')(f48:Fd K mg "check_weight" cR')(f49:Fd K mg "gap_along" sAlong)(f50:Fd K mg "gap_of" sGap)(f51:Fd K mg "heavy_pieces" sHeavy)(f52:Fd K mg "worst_of" sWorst)(f53:Fd K mg "_law_cell_at" sCell)(f54:Fd K mg "_law_mixed" sMixed)(f55:Fd K mg "_law_state" sState)(f56:Fd K mg "_law_digit" sDigit)(f57:Fd K mg "_law_web_right" sWebR)(f58:Fd K mg "_law_held" sHeld)(f59:Fd K mg "_law_steep" dH')(f60:Fd K mg "_law_gives" sGives)(m0:Md K CW "__init__" "Web.__init__" sInit)(m1:Md K CW "has_hand" "Web.has_hand" sHas)(m2:Md K CW "hands" "Web.hands" sHands)(m3:Md K CW "strength" "Web.strength" cl')(m4:Md K CW "neighbours" "Web.neighbours" sNeigh)(m5:Md K CW "are_tied" "Web.are_tied" sTied)(m6:Md K CW "ties" "Web.ties" sTiesM)(m7:Md K CW "most_neighbours" "Web.most_neighbours" sMost)(m8:Md K CW "turns" "Web.turns" sTurns)(m9:Md K CG "__init__" "Goods.__init__" sGInit)(m10:Md K CG "has_piece" "Goods.has_piece" sGHas)(m11:Md K CG "names" "Goods.names" dz')(m12:Md K CG "weight" "Goods.weight" cN')(m13:Md K CG "may_go" "Goods.may_go" sGMay)(m14:Md K CG "are_free" "Goods.are_free" sGFree)(m15:Md K CS "__init__" "Sight.__init__" sSInit)(m16:Md K CS "lead" "Sight.lead" sLead)(m17:Md K CS "joint_strength" "Sight.joint_strength" sJoint){ocl kVl dcl pml ctl:Aa}{odl anl:Option Addr}{sll:Array (Option Aa)}{och kVh dch pmh cth:Aa}{odh anh:Option Addr}{slh:Array (Option Aa)}{ocr kVr dcr pmr ctr:Aa}{odr anr:Option Addr}{slr:Array (Option Aa)}(al:PySem.W.nsIn K mainGlobals "law"=some (some (.ref fl)))(ll:K.lookup fl=some ⟨ocl,odl,.func (PySem.W.fnOf "law" "law" (ba' sLaw) (a7' sLaw) (a1' sLaw) .none kVl dcl pml anl cdl ctl),sll⟩)(cl:PySem.W.codeIn K cdl "law"=true)(kl:PySem.W.keepIn K (.ref fl)=true)(ah:PySem.W.nsIn K mainGlobals "heaviest_first"=some (some (.ref fh)))(lh:K.lookup fh=some ⟨och,odh,.func (PySem.W.fnOf "heaviest_first" "heaviest_first" (ba' sHvF) (a7' sHvF) (a1' sHvF) .none kVh dch pmh anh (.ref c1) cth),slh⟩)(hcd:PySem.W.codeIn K (.ref c1) "heaviest_first"=true)(kh:PySem.W.keepIn K (.ref fh)=true)(h1:PySem.W.codeHdIn K c1 T1=true)(aW:PySem.W.nsIn K mainGlobals "Web"=some (some (.ref CW)))(aG:PySem.W.nsIn K mainGlobals "Goods"=some (some (.ref CG)))(aS:PySem.W.nsIn K mainGlobals "Sight"=some (some (.ref CS)))(eP:PySem.W.nsIn K mainGlobals "NoPiece"=some (some (.ref CP)))(xP:PySem.W.excIn K CP [.type "ValueError",.type "Exception",.type "BaseException",.type "object"] "ValueError.__new__"=true)(ar:PySem.W.findIn K (.ref CS) "rising_neighbours"=some (some (.ref fr)))(ir:PySem.W.isFn K (.ref fr)=true)(lr:K.lookup fr=some ⟨ocr,odr,.func (PySem.W.fnOf "rising_neighbours" "Sight.rising_neighbours" (ba' cw') (a7' cw') (a1' cw') .none kVr dcr pmr anr (.ref c2) ctr),slr⟩)(rcd:PySem.W.codeIn K (.ref c2) "Sight.rising_neighbours"=true)(kr:PySem.W.keepIn K (.ref fr)=true)(h2:PySem.W.codeHdIn K c2 T2=true)(c8_:PySem.W.nsIn K mainGlobals "MOST_LETTERS"=some (some (.int 8 t8)))(c9_:PySem.W.nsIn K mainGlobals "MOST_HANDS"=some (some (.int 8 t9)))(c10_:PySem.W.nsIn K mainGlobals "MOST_STRENGTH"=some (some (.int 1000 t10)))(c11_:PySem.W.nsIn K mainGlobals "MOST_WEIGHT"=some (some (.int 1000000000 t11)))(wpg:PySem.W.plainGet K CW Str.empty=true)(whd:PySem.W.hasDictIn K CW=true)(wpo:PySem.W.plainOver K CW=true)(wsa:PySem.W.findIn K (.ref CW) "__setattr__"=some (some (.builtin "object.__setattr__")))(wmk:PySem.W.makesIn K CW=true)(wkc:PySem.W.keepIn K (.ref CW)=true)(wn0:PySem.W.findIn K (.ref CW) "strength_by_hand"=some none)(wn1:PySem.W.findIn K (.ref CW) "sorted_pairs"=some none)(wn2:PySem.W.findIn K (.ref CW) "neighbours_by_hand"=some none)(gpg:PySem.W.plainGet K CG Str.empty=true)(ghd:PySem.W.hasDictIn K CG=true)(gpo:PySem.W.plainOver K CG=true)(gsa:PySem.W.findIn K (.ref CG) "__setattr__"=some (some (.builtin "object.__setattr__")))(gmk:PySem.W.makesIn K CG=true)(gkc:PySem.W.keepIn K (.ref CG)=true)(gn0:PySem.W.findIn K (.ref CG) "web"=some none)(gn1:PySem.W.findIn K (.ref CG) "weight_by_name"=some none)(gn2:PySem.W.findIn K (.ref CG) "ways_by_name"=some none)(spg:PySem.W.plainGet K CS Str.empty=true)(shd:PySem.W.hasDictIn K CS=true)(spo:PySem.W.plainOver K CS=true)(ssa:PySem.W.findIn K (.ref CS) "__setattr__"=some (some (.builtin "object.__setattr__")))(smk:PySem.W.makesIn K CS=true)(skc:PySem.W.keepIn K (.ref CS)=true)(sn0:PySem.W.findIn K (.ref CS) "wares"=some none)(sn1:PySem.W.findIn K (.ref CS) "load_by_hand"=some none)(sn2:PySem.W.findIn K (.ref CS) "level_by_hand"=some none)(sn3:PySem.W.findIn K (.ref CS) "pieces_by_hand"=some none)(iha:PySem.W.findIn K (.ref CW) "__class__"=some (some (.builtin "object.__class__")))(ihn:PySem.W.specialIn K (.builtin "object.__class__") "__get__"=some (some (.builtin "getset_descriptor.__get__")))(itk:PySem.W.takesIn K (.builtin "object.__class__")=some true)(imo:PySem.W.mroIn K CW (.type "object")=some true)(zS:PySem.W.nsIn K mainGlobals "sum"=some none)(z0:PySem.W.nsIn K mainGlobals "isinstance"=some none)(z1:PySem.W.nsIn K mainGlobals "int"=some none)(z2:PySem.W.nsIn K mainGlobals "bool"=some none)(z3:PySem.W.nsIn K mainGlobals "str"=some none)(z4:PySem.W.nsIn K mainGlobals "tuple"=some none)(z5:PySem.W.nsIn K mainGlobals "list"=some none)(z6:PySem.W.nsIn K mainGlobals "dict"=some none)(z7:PySem.W.nsIn K mainGlobals "len"=some none)(z8:PySem.W.nsIn K mainGlobals "all"=some none)(z9:PySem.W.nsIn K mainGlobals "sorted"=some none)(z10:PySem.W.nsIn K mainGlobals "max"=some none)(z11:PySem.W.nsIn K mainGlobals "range"=some none)(z12:PySem.W.nsIn K mainGlobals "any"=some none)(z13:PySem.W.nsIn K mainGlobals "enumerate"=some none)(z14:PySem.W.nsIn K mainGlobals "min"=some none)(z15:PySem.W.nsIn K mainGlobals "abs"=some none)(R:c6' K w mg d as) :
  ∃fd:Ad,(∀(s:Ac) (v:Aa),BindsTo s fd ⟨[v],[]⟩ [("_law_script",v)])/\(∀T'∈[T2,T1],isCodeTable h T')/\∀base:Heap,K.In base->base.Ns mainGlobals mg->(∀T'∈[T2,T1],base.BuiltinsAt mg T')->FnOk l.prog w K mg base CX0 11 fa fd ["_law_script"] (spLaw K T1 T2):=by
 have e:=hfa.symm.trans (c_0 X G al);cases e;have B:Bi mg:=⟨b_2 X G z0,b_2 X G z1,b_2 X G z2,b_2 X G z3,b_2 X G z4,b_2 X G z5,b_2 X G z6,b_2 X G z7,b_2 X G z8,b_2 X G z9,b_2 X G z10,b_2 X G z11,b_2 X G z12,b_2 X G z13,b_2 X G z14,b_2 X G z15⟩;have TW:Txt K mg CW:=⟨⟨wpg,whd,wpo,wsa⟩,wn0,wn1,wn2⟩;have TG:TxtG K CG:=⟨⟨gpg,ghd,gpo,gsa⟩,gn0,gn1,gn2⟩;have TS:TxtS K CS:=⟨⟨spg,shd,spo,ssa⟩,sn0,sn1,sn2,sn3⟩;have IW:InsK K CW:=⟨iha,ihn,itk,imo⟩;have RP:Ref K mg "NoPiece" CP:=⟨c_0 X G eP,xP⟩;have FL:=gt_ (st:=sLaw) ll cl kl;have FH:FunC K "heaviest_first" "heaviest_first" sHvF fh c1 _:=⟨⟨_,_,_,_,_,_,_,_,rfl,lh,hcd⟩,kh⟩;have FR:FunC K "rising_neighbours" "Sight.rising_neighbours" cw' fr c2 _:=⟨⟨_,_,_,_,_,_,_,_,rfl,lr,rcd⟩,kr⟩;refine⟨PySem.W.fnOf "law" "law" (ba' sLaw) (a7' sLaw) (a1' sLaw) .none kVl dcl pml anl cdl ctl,λs v=>.of_eq rfl,λT' hT'=>?_,λbase KB _ hbm=>?_⟩
 ·have cd:∀{c T0:Addr},PySem.W.codeHdIn K c T0=true->isCodeTable h T0:=λ{c _} z=>by
   obtain⟨o,vs',file,tf,flags,tg,inF,text,tt,q1,q2,q3,q4,_⟩:=PySem.W.codeHd_of_K X z;exact⟨c,o,vs',q1,q2,q3,q4⟩
  have hT':T'=T2∨T'=T1:=by simpa using hT'
  rcases hT' with rfl|rfl
  ·exact cd h2
  ·exact cd h1
 have q:Tg l.prog w base:=⟨⟩;have cIsW:=caQ q f0 λ_ _ F=>ka_ F B;have cWhole:=caQ q f2 λ_ _ F=>ih_ F cIsW;have cWhF:=caQ q f1 λ_ _ F=>h7_ F cIsW;have cName:=caQ q f3 λ_ _ F=>jo_ F B (c_0 X G c8_);have cLsr:=caQ q f4 λ_ _ F=>hC_ F;have cPair:=caQ q f5 λ_ _ F=>j8_ F B cName;have cSort:=caQ q f6 λ_ _ F=>h8_ F B cPair cLsr;have cHand:=caQ q f11 λ_ _ F=>k0_ F B cName cWhole (c_0 X G c10_);have cStr:=caQ q f12 λ_ _ F=>kj_ F B cHand (c_0 X G c9_);have cTies:=caQ q f13 λ_ _ F=>jv_ F B cSort;have cNear:=caQ q f14 λ_ _ F=>jx_ F cLsr;have cWeb:=caC q m0 (c_0 X G aW) wmk wkc λ_ _ F=>ju_ F TW B cStr cTies cNear;have mHas:=caM q m1 λ_ _ F=>kf_ F TW B;have mHasA:=caM q m1 λ_ _ F=>jA_ F TW B;have mHands:=caM q m2 λ_ _ F=>hP_ F TW B;have mStr:=caM q m3 λ_ _ F=>ez_ F TW mHas;have mNei:=caM q m4 λ_ _ F=>i5_ F TW B mHas;have mTied:=caM q m5 λ_ _ F=>hE_ F TW mHasA;have cCWy:=caQ q f15 λ_ _ F=>hW_ F TW cSort mTied;have cCP:=caQ q f16 λ_ _ F=>hd_ F B cName cWhole cCWy (c_0 X G c11_);have cCPs:=caQ q f17 λ_ _ F=>fM_ F B cCP;have cGoods:=caC q m9 (c_0 X G aG) gmk gkc λ_ _ F=>hV_ F TG TW IW B (c_0 X G aW) cCPs;have gHas:=caM q m10 λ_ _ F=>k6_ (CW:=CW) F TG B;have gNames:=caM q m11 λ_ _ F=>gD_ (CW:=CW) F TG B;have gWeight:=caX q m12 λ_ _ F=>fl_ F TG RP gHas;have gMay:=caX q m13 λ_ _ F=>jS_ F TG TW RP gHas mTied cLsr;have cGd:=caQ q f7 λ_ _ F=>kV_ F;have cLM:=caQ q f8 λ_ _ F=>kT_ F cGd;have cFr:=caQ q f9 λ_ _ F=>j5_ F cGd;have cFrL:=caQ q f9 λ_ _ F=>i7_ F cGd;have cLess:=caQ q f10 λ_ _ F=>jp_ F;have cCS:=caQ q f18 λ_ _ F=>h3_ F B TG TW gHas mHas gNames;have cLA:=caQ q f19 λ_ _ F=>fy_ F B TG TW mHands gWeight;have cMu:=caQ q f20 λ_ _ F=>jY_ F TW cLM mHands mStr;have cLv:=caQ q f21 λ_ _ F=>gS_ F TG TW cLA cMu mStr;have cHF:Cal l.prog w K mg base 6 "heaviest_first" ["goods","placed"] (spHvF K CG CW T1):=⟨_,_,kI_ FH B TG TW (PySem.W.codeHd_of_K KB h1) (hbm T1 Z2) mHands gWeight,c_0 X G ah,kh,FH.fn.binds (λ_ _ _ _ _ _ us (hl:us.length=2)=>match us,hl with | [_,_],_=>rfl)⟩;have cSight:=caC q m15 (c_0 X G aS) smk skc λ_ _ F=>iC_ F TS cLA cLv cHF;have sLd:=caM q m16 λ_ _ F=>jX_ F TS TG TW mStr;have sJn:=caM q m17 λ_ _ F=>iB_ F TS TG TW mStr;have sRi:CalM l.prog w K mg base CS 4 "rising_neighbours" ["self","hand"] (dl' K CS CG CW T2):=⟨_,_,jC_ FR B TS TG TW (PySem.W.codeHd_of_K KB h2) (hbm T2 Z2) mNei,⟨ar,ir,kr⟩,FR.fn.binds (λ_ _ _ _ _ _ us (hl:us.length=2)=>match us,hl with | [_,_],_=>rfl)⟩;have cIR:=caQ q f26 λ_ _ F=>g1_ F B R;have cWs:=caQ q f27 λ_ _ F=>iE_ F R cIR;have cFi:=caQ q f30 λ_ _ F=>k4_ F;have cHM:=caQ q f31 λ_ _ F=>kB_ F TS TG sLd sJn cFi gWeight gMay;have cBL:=caQ q f32 λ_ _ F=>fO_ F TS sRi cHM;have cBB:=caQ q f33 λ_ _ F=>fz_ F TS sRi sLd cHM;have mMo:=caM q m7 λ_ _ F=>jL_ F TW B;have cShM:=caQ q f34 λ_ _ F=>kH_ F TS TG TW sLd sJn mMo gWeight gMay;have cBS:=caQ q f35 λ_ _ F=>el_ F TS TG TW mNei sLd cShM;have cMF:=caQ q f36 λ_ _ F=>fR_ (fA_ F cBL) (fG_ F cBB) (fs_ F cBS);have cAn:=caQ q f37 λ_ _ F=>jc_ F;have mTi:=caM q m6 λ_ _ F=>ir_ F TW cAn;have cRo:=caQ q f38 λ_ _ F=>kw_ F B;have mTu:=caM q m8 λ_ _ F=>hU_ F B TW mTi cRo;have cBT:=caQ q f39 λ_ _ F=>fm_ F B TS TG TW mTu cHM;have cSe:=caQ q f40 λ_ _ F=>iy_ (jP_ F TS TG TW (λr z=>z) jQ_ cWs mHands cMF) (hG_ F cWs cBT);have cSta:=caQ q f41 λ_ _ F=>gw_ F cWs cCS;have cMo:=caQ q f42 λ_ _ F=>ey_ F cWhF;have cRB:=caQ q f44 λ_ _ F=>fU_ F B TW cWs mTu;have cRA:=caQ q f45 λ_ _ F=>ip_ F B TG cSight cSe cRB;have cMv:=caQ q f43 λ_ _ F=>fZ_ F cSta cSight cSe cMo;have cRe:=caQ q f46 λ_ _ F=>ia_ F cSta cRA;have cRi:=caQ q f22 λ_ _ F=>j6_ F B B.min cLv;have cSpA:=caQ q f23 λ_ _ F=>eB_ F TG cRi cMu cFrL;have cSp:=caQ q f24 λ_ _ F=>hi_ F cCS cSpA;have cSte:=caQ q f25 λ_ _ F=>hF_ F B B.abs TG TW cCS cLv mTi cMu cFrL;have cGu:=caQ q f28 λ_ _ F=>i4_ F cWs;have cLet:=caQ q f29 λ_ _ F=>km_ F cGu;have cCG:=caQ q f47 λ_ _ F=>ho_ F cLet cWs;have cCWt:=caQ q f48 λ_ _ F=>fr_ F (c_0 X G c11_) cWhole;have cAl:=caQ q f49 λ_ _ F=>hI_ F TW mStr mMo cFr;have cGa:=caQ q f50 λ_ _ F=>ku_ F TW cCG cCWt cFr mTi cAl cLess;have cHv:=caQ q f51 λ_ _ F=>iz_ F;have cWo:=caQ q f52 λ_ _ F=>hN_ F B cCG cCWt cHv cWeb cGoods;have gFr:=caM q m14 λ_ _ F=>hK_ (CW:=CW) F TG B;have cCell:=caQ q f53 λ_ _ F=>j4_ F B;have cMx:=caQ q f54 λ_ _ F=>hH_ F;have cStt:=caQ q f55 λ_ _ F=>iA_ F;have cDig:=caQ q f56 λ_ _ F=>hJ_ F cMx;have cWR:=caQ q f57 λ_ _ F=>jd_ F TW mHands mTi mStr;have cHe:=caQ q f58 λ_ _ F=>iv_ F B (b_2 X G zS) TG gNames gWeight;have cSL:=caQ q f59 λ_ _ F=>hf_ F B;have cGi:=caQ q f60 λ_ _ F=>if_ F B TG gNames gWeight;exact ks_ FL B TG TW cCell cStt cDig cWo cWR gFr gNames gWeight cHe cSL cGi cRe cMv cSp cSte cGa
theorem gB_(h:H T=some (.tbl #[])):a8' H T q:=⟨[],h,λe he=>by cases he⟩
theorem walk{q:Ae}{loose:List Str}{XP:(Str->Option Aa)->Heap->Prop}{d:DefRec}{K:Params->F__}{eas:∀P:Params,as=(K P).map (·.1)}(hn:l.most=some 63)(hdf:d.params.defaults=[])(hts:([T2,T1].all λT=>!as.contains T)=true)(ne:T1≠T2)(F:∀(w:Af) (mg:Str->Option Aa) (fa:Addr) (h:Heap),(K w.params).In h->h.Ns mainGlobals mg->mg d.name=some (.ref fa)->
   ∃fd:Ad,(∀(s:Ac) (u:Aa),BindsTo s fd ⟨[u],[]⟩ [("_law_script",u)])/\(∀T'∈[T2,T1],isCodeTable h T')/\∀base:Heap,(K w.params).In base->base.Ns mainGlobals mg->(∀T'∈[T2,T1],base.BuiltinsAt mg T')->FnOk l.prog w (K w.params) mg base CX0 11 fa fd ["_law_script"] (spLaw (K w.params) T1 T2)) :
  PySem.W.WalkO q loose XP (PySem.W.kmHook K as eas [T2,T1]).says l.row.toRowW d [] (λf vs=>PySem.call f vs):=
 L2.walk_ofT (n:=63) (k:=11) (x:="_law_script") (CX:=λ_=>CX0) (sp:=λw=>spLaw (K w.params) T1 T2) hn (by decide) hdf ⟨rfl,by decide,by decide⟩ hts F (λ_ _ a ns hl hT hS=>⟨a,ns,rfl,⟨gB_ (hT T1 Z2),gB_ (hT T2 Z2),ne⟩,hS,hl,λ_=>rfl⟩) λ_ _ _ _ _ z=>z
end Ev
namespace PySem.W.Fast
def tw16204743166965548576:=()
def tw9311681517233020385:=()
def tw6263264502378277731:=()
def tw13723519657494224965:=()
def tw13031122378007520901:=()
def tw16840650916353410725:=()
def tw3466529979555907333:=()
def tw5120932315411539718:=()
def tw1558202227484519302:=()
def tw4289912227436155015:=()
def tw8062758973018715975:=()
def tw8961892543791544361:=()
def tw9396895850520639018:=()
def tw9340992955595730252:=()
def tw7135219008427201100:=()
def tw14037630744689151628:=()
def tw4001311018190622380:=()
def tw9457556307078399820:=()
def tw3683939009242278860:=()
def tw525582898853671086:=()
def tw4948403357711320686:=()
def tw13019560281058136686:=()
def tw16189591455895245967:=()
def tw6058000645228116143:=()
def tw14918118252062363536:=()
def tw4649778953741064112:=()
def tw2701206939722181552:=()
def tw10739026992247639986:=()
def tw9812691462529906707:=()
def tw6482960571699038291:=()
def tw9402761207624303859:=()
def tw8105398677654266996:=()
def tw4640017519438494932:=()
def tw7638736983439266260:=()
def tw5475580665930087924:=()
def tw10111481482995498644:=()
def tw8168491866728193109:=()
def tw10492869426427045911:=()
def tw12560156594845972505:=()
def tw9861604395814438009:=()
def tw12424599402228037049:=()
def tw4726919710865603994:=()
def tw10467059012856787546:=()
def tw12269672009556091195:=()
def tw11306471993080530012:=()
def tw380427408552450461:=()
def tw630064764150418815:=()
def tw2897444590039210265:=()
def tw8011254828132202551:=()
def tw406917000735123144:=()
def tw12255687578343843917:=()
def tw9544696488892050704:=()
def tw1640893682841036691:=()
def tw7438771685964340049:=()
def tw11536801335978055830:=()
def tw17061151329233083696:=()
def tw9368770326019071021:=()
def tw4366150865845292780:=()
def tw10997629776214382735:=()
def tw5437485939806181711:=()
def tw9283506453197614589:=()
def tw11932734875908280782:=()
def tw8009307734022864824:=()
def tw8340771942095786001:=()
def tw17058725122309887196:=()
def tw7541692683853546904:=()
def tw1127337004184244085:=()
def tw3797587137073904646:=()
def tw5323805970781534402:=()
def tw8128476060044950125:=()
def tw4188723020303869338:=()
def tw2414065205669094666:=()
def tw15766780679610058931:=()
def tw10389659564185877203:=()
def tw12856018743893130045:=()
def tw1981761256439582195:=()
def tw5337712155166660621:=()
def tw14862883966605573387:=()
def tw3553423534762790161:=()
def tw3389792202793897627:=()
def tw17761541379635331144:=()
def tw18269577849375588404:=()
def tw11656681010710199910:=()
def tw1191843345002233293:=()
def tw16118534453658381682:=()
def tw17615491663059351359:=()
def tw4888633773889719393:=()
def tw16196748447593957765:=()
def tw8584364377337980109:=()
def tw17686122214276964313:=()
def tw1005177997664346489:=()
def tw8820806405200781962:=()
def tw772333643895242350:=()
def tw14812948507761848348:=()
def tw17157809285265446689:=()
def tw15821785435191097359:=()
def tw17611708073003847712:=()
def tw4393662125095459932:=()
def tw9997121612875932157:=()
def tw10472553767070277371:=()
def tw18393774540874186517:=()
def tw11755780232502903278:=()
def tw1189897826033848182:=()
def tw18171041735385570906:=()
def tw283668126689747528:=()
def tw8925988694344832968:=()
def tw729091794076709329:=()
def tw10759407062393765181:=()
def tw13670157064154617314:=()
def tw3978852005852999877:=()
def tw1632571758655858995:=()
def tw18376382568728512243:=()
def tw5044186801423074975:=()
def tw15776498356436433396:=()
def tw13668714349051359568:=()
def tw8710194765820874115:=()
def tw8709642961842711418:=()
def tw18081611052099312347:=()
def tw16816761689608887331:=()
def tw10131291748837192722:=()
def tw16911147072378918201:=()
def tw8522594006367778032:=()
def tw13941450229501134772:=()
def tw230967251389261170:=()
def tw15096514060119742237:=()
def tw3157000717948939936:=()
def tw13196475864141836111:=()
def tw5276082940227414674:=()
def tw7490172603554239892:=()
def tw1966578722400946379:=()
def tw8471960709576984200:=()
def tw912576639413342444:=()
def tw1859378662521873973:=()
def tw1433001687089700214:=()
def tw1283857128567868390:=()
def tw9113328860723255474:=()
def tw4201266383750374446:=()
def tw6582888552428413317:=()
def tw835401032874781487:=()
def tw7619349050975947033:=()
def tw10103406451808884580:=()
def tw13792670434245596599:=()
def tw16903041754006958816:=()
def tw17749614868664214239:=()
def tw17295440646112603266:=()
def tw5536484810855061974:=()
def tw5179566920918059137:=()
def tw12345619900817954786:=()
def tw10550801419886833747:=()
def tw14247361030247545537:=()
def tw16518261096527461051:=()
def tw4261776111051419081:=()
def tw6989727774596213347:=()
def tw11750215165495838234:=()
def tw11091757315073713718:=()
def tw14715759031239413992:=()
def tw13005882408689907674:=()
def tw3492983770374889626:=()
def tw7012904301376396995:=()
def tw3747862169314384443:=()
def tw16108378714495103296:=()
def tw10040920620140443068:=()
def tw1230530456692422449:=()
def tw144683726900642432:=()
def tw16005072524883876509:=()
def tw17578996487332938493:=()
def tw6543777950955164477:=()
def tw11026486411707469916:=()
def tw16690726594559834037:=()
def tw8175972790059872806:=()
def tw4459272089425237055:=()
def tw7187404974341013352:=()
def tw2444274665340607386:=()
def tw15679705629361665858:=()
def tw3738490958062007821:=()
def tw18215942354337043746:=()
def tw6974328519271292451:=()
def tw13138304701382234042:=()
def tw16861307552828900523:=()
def tw9824303171902940274:=()
def tw17442362890132935995:=()
def tw1100389468739785263:=()
def tw1978523741873432783:=()
def tw15983894149815981875:=()
def tw16641101127966109385:=()
def tw11626402289461954393:=()
def tw2240216600351419055:=()
def tw15137704182217496708:=()
def tw18326285208213401464:=()
def tw5883147149106610582:=()
def tw11456284124882503303:=()
def tw8160102205440477188:=()
def tw56920500160794829:=()
def tw15372391958479290313:=()
def tw13578133281379455628:=()
def tw13829119339158915076:=()
def tw17062305107784455306:=()
def tw4070001058349792791:=()
def tw5027541007901169161:=()
def tw13277034480402903772:=()
def tw7343430034246449222:=()
def tw850123705935755658:=()
def tw11496732941634259501:=()
def tw8528659069646941904:=()
def tw6201257835083245616:=()
def tw5896258208344873135:=()
def tw4992914142230013364:=()
def tw13071288276556572602:=()
def tw2000150417158697924:=()
def tw1956818704478592242:=()
def tw6304670399436676243:=()
def tw16675290931378758933:=()
def tw17448545408911208639:=()
def tw10472966381601890842:=()
end PySem.W.Fast
open PySem PySem.W PyProof.Rows
set_option maxRecDepth 100000 in
theorem PySem.Challenge.cw_evenpieces_k47_as_steep_as_may_be_holds : PySem.Challenge.rw_evenpieces_k47_as_steep_as_may_be.Holds := by
 w_on;o_law;k_head;(case hw=>w_witness2)
 k_fill
 refine Ev.walk (l:=PySem.Challenge.rw_evenpieces_k47_as_steep_as_may_be) rfl rfl (by rfl) (by decide) ?F
 case F=>
  intro w mg fa h KX G hmg;refine' Ev.all_mk KX G hmg (Ev.fd_mk KX G ?_ ?_ ?_ ?_) (Ev.fd_mk KX G ?_ ?_ ?_ ?_) (Ev.fd_mk KX G ?_ ?_ ?_ ?_) (Ev.fd_mk KX G ?_ ?_ ?_ ?_) (Ev.fd_mk KX G ?_ ?_ ?_ ?_) (Ev.fd_mk KX G ?_ ?_ ?_ ?_) (Ev.fd_mk KX G ?_ ?_ ?_ ?_) (Ev.fd_mk KX G ?_ ?_ ?_ ?_) (Ev.fd_mk KX G ?_ ?_ ?_ ?_) (Ev.fd_mk KX G ?_ ?_ ?_ ?_) (Ev.fd_mk KX G ?_ ?_ ?_ ?_) (Ev.fd_mk KX G ?_ ?_ ?_ ?_) (Ev.fd_mk KX G ?_ ?_ ?_ ?_) (Ev.fd_mk KX G ?_ ?_ ?_ ?_) (Ev.fd_mk KX G ?_ ?_ ?_ ?_) (Ev.fd_mk KX G ?_ ?_ ?_ ?_) (Ev.fd_mk KX G ?_ ?_ ?_ ?_) (Ev.fd_mk KX G ?_ ?_ ?_ ?_) (Ev.fd_mk KX G ?_ ?_ ?_ ?_) (Ev.fd_mk KX G ?_ ?_ ?_ ?_) (Ev.fd_mk KX G ?_ ?_ ?_ ?_) (Ev.fd_mk KX G ?_ ?_ ?_ ?_) (Ev.fd_mk KX G ?_ ?_ ?_ ?_) (Ev.fd_mk KX G ?_ ?_ ?_ ?_) (Ev.fd_mk KX G ?_ ?_ ?_ ?_) (Ev.fd_mk KX G ?_ ?_ ?_ ?_) (Ev.fd_mk KX G ?_ ?_ ?_ ?_) (Ev.fd_mk KX G ?_ ?_ ?_ ?_) (Ev.fd_mk KX G ?_ ?_ ?_ ?_) (Ev.fd_mk KX G ?_ ?_ ?_ ?_) (Ev.fd_mk KX G ?_ ?_ ?_ ?_) (Ev.fd_mk KX G ?_ ?_ ?_ ?_) (Ev.fd_mk KX G ?_ ?_ ?_ ?_) (Ev.fd_mk KX G ?_ ?_ ?_ ?_) (Ev.fd_mk KX G ?_ ?_ ?_ ?_) (Ev.fd_mk KX G ?_ ?_ ?_ ?_) (Ev.fd_mk KX G ?_ ?_ ?_ ?_) (Ev.fd_mk KX G ?_ ?_ ?_ ?_) (Ev.fd_mk KX G ?_ ?_ ?_ ?_) (Ev.fd_mk KX G ?_ ?_ ?_ ?_) (Ev.fd_mk KX G ?_ ?_ ?_ ?_) (Ev.fd_mk KX G ?_ ?_ ?_ ?_) (Ev.fd_mk KX G ?_ ?_ ?_ ?_) (Ev.fd_mk KX G ?_ ?_ ?_ ?_) (Ev.fd_mk KX G ?_ ?_ ?_ ?_) (Ev.fd_mk KX G ?_ ?_ ?_ ?_) (Ev.fd_mk KX G ?_ ?_ ?_ ?_) (Ev.fd_mk KX G ?_ ?_ ?_ ?_) (Ev.fd_mk KX G ?_ ?_ ?_ ?_) (Ev.fd_mk KX G ?_ ?_ ?_ ?_) (Ev.fd_mk KX G ?_ ?_ ?_ ?_) (Ev.fd_mk KX G ?_ ?_ ?_ ?_) (Ev.fd_mk KX G ?_ ?_ ?_ ?_) (Ev.fd_mk KX G ?_ ?_ ?_ ?_) (Ev.fd_mk KX G ?_ ?_ ?_ ?_) (Ev.fd_mk KX G ?_ ?_ ?_ ?_) (Ev.fd_mk KX G ?_ ?_ ?_ ?_) (Ev.fd_mk KX G ?_ ?_ ?_ ?_) (Ev.fd_mk KX G ?_ ?_ ?_ ?_) (Ev.fd_mk KX G ?_ ?_ ?_ ?_) (Ev.fd_mk KX G ?_ ?_ ?_ ?_) (Ev.md_mk ?_ ?_ ?_ ?_ ?_) (Ev.md_mk ?_ ?_ ?_ ?_ ?_) (Ev.md_mk ?_ ?_ ?_ ?_ ?_) (Ev.md_mk ?_ ?_ ?_ ?_ ?_) (Ev.md_mk ?_ ?_ ?_ ?_ ?_) (Ev.md_mk ?_ ?_ ?_ ?_ ?_) (Ev.md_mk ?_ ?_ ?_ ?_ ?_) (Ev.md_mk ?_ ?_ ?_ ?_ ?_) (Ev.md_mk ?_ ?_ ?_ ?_ ?_) (Ev.md_mk ?_ ?_ ?_ ?_ ?_) (Ev.md_mk ?_ ?_ ?_ ?_ ?_) (Ev.md_mk ?_ ?_ ?_ ?_ ?_) (Ev.md_mk ?_ ?_ ?_ ?_ ?_) (Ev.md_mk ?_ ?_ ?_ ?_ ?_) (Ev.md_mk ?_ ?_ ?_ ?_ ?_) (Ev.md_mk ?_ ?_ ?_ ?_ ?_) (Ev.md_mk ?_ ?_ ?_ ?_ ?_) (Ev.md_mk ?_ ?_ ?_ ?_ ?_) ?_ ?_ ?_ ?_ ?_ ?_ ?_ ?_ ?h1 ?aW ?aG ?aS ?eP ?xP ?_ ?_ ?_ ?_ ?_ ?h2 ?_ ?_ ?_ ?_ ?_ ?_ ?_ ?_ ?_ ?_ ?_ ?_ ?_ ?_ ?_ ?_ ?_ ?_ ?_ ?_ ?_ ?_ ?_ ?_ ?_ ?_ ?_ ?_ ?_ ?_ ?_ ?_ ?_ ?_ ?_ ?_ ?_ ?_ ?_ ?_ ?_ ?_ ?_ ?_ ?_ ?_ ?_ ?_ ?_ ?_ ?_ ?_ ?_ (Ev.rules_at ?rm ?rs ?rl ?re ?_ ?_ ?_ ?_ ?_ ?_ ?_ ?_ ?_ ?_ ?_ ?_ ?_ ?_ ?_ ?_ ?_)
  (case aW=>k_is);(case aG=>k_is);(case aS=>k_is);(case eP=>k_is)
  any_goals k_is
  (case h1=>kernel_rfl);(case xP=>k_exc);(case h2=>kernel_rfl)
  case' rm=>refine' PySem.W.mg_of KX G ?rmn
  (first|(case rmn=>k_is)|(case rm=>k_is))
  (try (case rl=>k_is))
  (case rs=>rfl)
  (case re=>rfl)
  any_goals k_is

import PyProof.Rows.All
import Wide.All
import OpenK.AllK
import Wide.FinOn
import Lean
import PyProof.EqAt
import PyProof.EqKinds
import PyProof.TupleCall
import PyProof.FString
import PyProof.Rows.FStr
import KE.KIntText
import PyProof.FitsReplace
import KE.IntTextLaws
import PySem.Challenge.RW_evenpieces_k72_texts_of_no_web
set_option maxHeartbeats 0
set_option Elab.async false
set_option linter.all false
abbrev Xa:=List (PySem.Str × Int)
abbrev Xb:=List (PySem.Str × PySem.Str)
set_option maxRecDepth 100000
theorem a__:type_of% @PySem.wpAny_bind:=@PySem.wpAny_bind
abbrev Aa:=PySem.Value
abbrev Ab:=PySem.Shared
theorem a_0:type_of% @PySem.Heap.get?_push_of_some:=@PySem.Heap.get?_push_of_some
theorem a_1:type_of% @decide_eq_true:=@decide_eq_true
theorem a_2:type_of% @decide_eq_false:=@decide_eq_false
theorem a_3:type_of% @PySem.Paired.length:=@PySem.Paired.length
theorem a_4:type_of% @PySem.wpAny_pure:=@PySem.wpAny_pure
abbrev Ad:=PySem.Program
theorem a_5:type_of% @if_neg:=@if_neg
theorem a_6:type_of% @PySem.Heap.lt_size:=@PySem.Heap.lt_size
theorem a_7:type_of% @PySem.strLen_append:=@PySem.strLen_append
theorem a_8:type_of% @PySem.F.excBase_ValueError:=@PySem.F.excBase_ValueError
abbrev Ae:=PySem.FuncData
theorem a_9:type_of% @PySem.sizeLine_eq:=@PySem.sizeLine_eq
theorem b__:type_of% @if_pos:=@if_pos
theorem b_0:type_of% @PySem.Heap.get?_push_size:=@PySem.Heap.get?_push_size
theorem b_1:type_of% @decide_eq_true_eq:=@decide_eq_true_eq
theorem b_2:type_of% @PySem.F.plainAttrs_str:=@PySem.F.plainAttrs_str
theorem b_3:type_of% @PySem.boot_len:=@PySem.boot_len
theorem b_4:type_of% @PySem.W.mg_of:=@PySem.W.mg_of
theorem b_5:type_of% @PySem.Heap.get?_update_other:=@PySem.Heap.get?_update_other
abbrev Af:=PySem.World
theorem b_6:type_of% @PySem.W.mg_none_of:=@PySem.W.mg_none_of
theorem b_7:type_of% @Option.some.inj:=@Option.some.inj
abbrev Ag:=PySem.Around
theorem b_8:type_of% @PyProof.Rows.part_short:=@PyProof.Rows.part_short
theorem b_9:type_of% @PySem.F.slot_str_split:=@PySem.F.slot_str_split
theorem c__:type_of% @PySem.wpAny_loadPart':=@PySem.wpAny_loadPart'
theorem c_0:type_of% @PySem.PassesOwn.never:=@PySem.PassesOwn.never
theorem c_1:type_of% @PySem.F.plainAttrs_list:=@PySem.F.plainAttrs_list
theorem c_2:type_of% @PySem.Heap.get?_update_self:=@PySem.Heap.get?_update_self
theorem c_3:type_of% @Sum.inr.inj:=@Sum.inr.inj
theorem c_4:type_of% @PySem.wpAny_holding:=@PySem.wpAny_holding
theorem c_5:type_of% @congrArg:=@congrArg
theorem c_6:type_of% @PySem.wpAny_mono:=@PySem.wpAny_mono
theorem c_7:type_of% @of_decide_eq_true:=@of_decide_eq_true
theorem c_8:type_of% @PySem.F.type_list_append:=@PySem.F.type_list_append
theorem c_9:type_of% @PySem.F.slot_list_append:=@PySem.F.slot_list_append
theorem d__:type_of% @PySem.F.type_str_join:=@PySem.F.type_str_join
theorem d_0:type_of% @PySem.F.slot_str_join:=@PySem.F.slot_str_join
theorem d_1:type_of% @PySem.Obj.isFreed_of_fields:=@PySem.Obj.isFreed_of_fields
theorem d_2:type_of% @PySem.wpAny_truthy_bool:=@PySem.wpAny_truthy_bool
theorem d_3:type_of% @PySem.F.type_str_split:=@PySem.F.type_str_split
theorem d_4:type_of% @PySem.Obj.data_mapFields:=@PySem.Obj.data_mapFields
abbrev Ah:=String
theorem d_5:type_of% @PySem.mem_of_lookup:=@PySem.mem_of_lookup
theorem d_6:type_of% @PySem.W.kia_one:=@PySem.W.kia_one
theorem d_7:type_of% @PySem.Heap.FunFrames.of_keeps:=@PySem.Heap.FunFrames.of_keeps
theorem d_8:type_of% @PySem.wpAny_setField:=@PySem.wpAny_setField
theorem d_9:type_of% @Classical.byContradiction:=@Classical.byContradiction
theorem e__:type_of% @List.cons.inj:=@List.cons.inj
theorem e_0:type_of% @PySem.wpAny_field:=@PySem.wpAny_field
theorem e_1:type_of% @PySem.W.hideAll_get:=@PySem.W.hideAll_get
theorem Z0{p:Prop}[Decidable p](h:decide p=true:=by decide +kernel):p:=of_decide_eq_true h
theorem Z1{p:Prop}(h:p:=by omega):p:=h
theorem Z2{p:Prop}(h:p:=by simp):p:=h
abbrev F__:=PySem.W.Frag
theorem aa':type_of% @List.length_map:=@List.length_map
theorem ab':type_of% @List.mem_map:=@List.mem_map
theorem ac':type_of% @List.getElem?_eq_some_iff:=@List.getElem?_eq_some_iff
theorem ad':type_of% @List.getElem?_eq_getElem:=@List.getElem?_eq_getElem
theorem ae':type_of% @List.mem_of_getElem?:=@List.mem_of_getElem?
theorem af':type_of% @List.length_take:=@List.length_take
theorem ag':type_of% @List.map_append:=@List.map_append
theorem ah':type_of% @List.mem_cons:=@List.mem_cons
theorem ai':type_of% @Nat.le_refl:=@Nat.le_refl
theorem aj':type_of% @List.mem_cons_of_mem:=@List.mem_cons_of_mem
theorem ak':type_of% @List.map_map:=@List.map_map
theorem am':type_of% @List.size_toArray:=@List.size_toArray
theorem an':type_of% @List.length_append:=@List.length_append
theorem ao':type_of% @List.take_length:=@List.take_length
theorem ap':type_of% @List.mem_cons_self:=@List.mem_cons_self
theorem aq':type_of% @List.mem_append:=@List.mem_append
theorem ar':type_of% @Nat.lt_of_lt_of_le:=@Nat.lt_of_lt_of_le
theorem au':type_of% @Bool.and_eq_true:=@Bool.and_eq_true
theorem av':type_of% @Nat.ne_of_lt:=@Nat.ne_of_lt
theorem aw':type_of% @List.map_cons:=@List.map_cons
theorem ax':type_of% @List.map_congr_left:=@List.map_congr_left
theorem ay':type_of% @Bool.false_ne_true:=@Bool.false_ne_true
theorem az':type_of% @List.getElem?_map:=@List.getElem?_map
theorem aA':type_of% @List.mem_filterMap:=@List.mem_filterMap
theorem aB':type_of% @Array.getElem?_eq_some_iff:=@Array.getElem?_eq_some_iff
theorem aC':type_of% @List.length_cons:=@List.length_cons
theorem aD':type_of% @List.append_nil:=@List.append_nil
theorem aE':type_of% @List.filter_append:=@List.filter_append
theorem aF':type_of% @List.take_of_length_le:=@List.take_of_length_le
theorem aG':type_of% @List.mem_append_right:=@List.mem_append_right
theorem aH':type_of% @List.pairwise_map:=@List.pairwise_map
theorem aI':type_of% @List.take_add_one:=@List.take_add_one
theorem aJ':type_of% @List.getElem_of_mem:=@List.getElem_of_mem
theorem aK':type_of% @Array.length_toList:=@Array.length_toList
theorem aL':type_of% @List.all_eq_true:=@List.all_eq_true
theorem aM':type_of% @List.nodup_iff_pairwise_ne:=@List.nodup_iff_pairwise_ne
theorem aN':type_of% @Nat.zero_le:=@Nat.zero_le
theorem aO':type_of% @Nat.le_trans:=@Nat.le_trans
theorem aP':type_of% @Option.isSome_iff_exists:=@Option.isSome_iff_exists
theorem aQ':type_of% @List.cons_lt_cons_iff:=@List.cons_lt_cons_iff
theorem aR':type_of% @List.nil_append:=@List.nil_append
theorem aS':type_of% @List.not_mem_nil:=@List.not_mem_nil
theorem aT':type_of% @Bool.true_and:=@Bool.true_and
theorem aU':type_of% @List.mem_filter:=@List.mem_filter
theorem aV':type_of% @List.nodup_cons:=@List.nodup_cons
theorem aW':type_of% @List.length_filter_le:=@List.length_filter_le
theorem aX':type_of% @Int.eq_ofNat_of_zero_le:=@Int.eq_ofNat_of_zero_le
theorem aY':type_of% @List.lookup_cons:=@List.lookup_cons
theorem aZ':type_of% @List.length_replicate:=@List.length_replicate
theorem a0':type_of% @List.length_drop:=@List.length_drop
theorem a1':type_of% @Bool.false_and:=@Bool.false_and
theorem a2':type_of% @List.length_nil:=@List.length_nil
theorem a3':type_of% @Nat.lt_irrefl:=@Nat.lt_irrefl
theorem a4':type_of% @Nat.ne_of_gt:=@Nat.ne_of_gt
namespace L2
open PySem PySem.Spec PyProof.Rows
abbrev Key:=Sum Int Str
def dX':Key->Aa->Bool
 |.inl k,v=>Value.isInt k v
 |.inr x,v=>Value.isStrOf x v
def keyH(w:Af):Key->Int
 |.inl k=>hashInt k
 |.inr x=>hashStr w x
theorem aK_:∀{k:Key} {v:Aa},dX' k v=true->(∃i t,k=Sum.inl i/\v=Value.int i t)∨(∃x t,k=Sum.inr x/\v=Value.str x t)
 |.inl i,v,h=>by
  obtain⟨t,e⟩:=Value.isInt_shape (k:=i) (v:=v) h;exact .inl ⟨i,t,rfl,e⟩
 |.inr x,v,h=>by
  obtain⟨t,e⟩:=Value.isStrOf_shape (x:=x) (v:=v) h;exact .inr ⟨x,t,rfl,e⟩
theorem hY_(i:Int)(t:Tok):dX' (.inl i) (.int i t)=true:=by simp[dX',Value.isInt]
theorem if_(x:Str)(t:Tok):dX' (.inr x) (.str x t)=true:=by simp[dX',Value.isStrOf]
theorem lK_(a b:Int):decide ((Sum.inl a:Key)=Sum.inl b)=(a == b):=by
 by_cases e:a=b
 ·subst e;simp
 ·have h:¬(Sum.inl a:Key)=Sum.inl b:=λq=>e (Sum.inl.inj q);rw[a_2 h];exact (beq_eq_false_iff_ne.mpr e).symm
theorem ln_(a b:Str):decide ((Sum.inr a:Key)=Sum.inr b)=decide (a=b):=by
 by_cases e:a=b
 ·subst e;simp
 ·have h:¬(Sum.inr a:Key)=Sum.inr b:=λq=>e (c_3 q);rw[a_2 h,a_2 e]
theorem l1_(a:Int)(b:Str):decide ((Sum.inl a:Key)=Sum.inr b)=false:=a_2 (λq=>nomatch q)
theorem lm_(a:Str)(b:Int):decide ((Sum.inr a:Key)=Sum.inl b)=false:=a_2 (λq=>nomatch q)
def bd'(prog:Ad)(w:Af):PySem.KeyKind prog w Key where
 is:=dX'
 hash:=keyH w
 inj:=λv a b ha hb=>by
  rcases aK_ ha with⟨i,t,rfl,rfl⟩|⟨x,t,rfl,rfl⟩
  ·rcases aK_ hb with⟨j,u,rfl,e⟩|⟨y,u,rfl,e⟩
   ·injection e with e1 _;rw[e1]
   ·exact nomatch e
  ·rcases aK_ hb with⟨j,u,rfl,e⟩|⟨y,u,rfl,e⟩
   ·exact nomatch e
   ·injection e with e1 _;rw[e1]
 byValue:=λk v h=>by
  rcases aK_ h with⟨i,t,rfl,rfl⟩|⟨x,t,rfl,rfl⟩<;>rfl
 pyHash:=λhv h=>by
  rcases aK_ hv with⟨i,t,rfl,rfl⟩|⟨x,t,rfl,rfl⟩
  ·exact wpAny_pyHash_int h
  ·exact wpAny_pyHash_str h
 eqBool:=λhu hv h=>by
  rcases aK_ hu with⟨i,t,rfl,rfl⟩|⟨x,t,rfl,rfl⟩
  ·rcases aK_ hv with⟨j,u,rfl,rfl⟩|⟨y,u,rfl,rfl⟩
   ·rw[lK_] at h;exact wpAny_eqBool_int h
   ·rw[l1_] at h;exact SeqAt.EqAt.int_str i t y u _ _ _ _ h
  ·rcases aK_ hv with⟨j,u,rfl,rfl⟩|⟨y,u,rfl,rfl⟩
   ·rw[lm_] at h;exact SeqAt.EqAt.str_int x t j u _ _ _ _ h
   ·rw[ln_] at h;exact wpAny_eqBool_str h
 «strs»:=λk x t v h=>by
  rcases aK_ h with⟨i,u,rfl,e⟩|⟨y,u,rfl,e⟩
  ·exact nomatch e
  ·injection e with e1 _
   subst e1;cases v<;>rfl
theorem fK_(prog:Ad)(w:Af)(i:Int)(t:Tok):(bd' prog w).is (.inl i) (.int i t)=true:=hY_ i t
theorem fu_(prog:Ad)(w:Af)(x:Str)(t:Tok):(bd' prog w).is (.inr x) (.str x t)=true:=if_ x t
inductive V where
 |non|bl (b:Bool)|int (i:Int)|str (x:Str)|byt (b:Array UInt8)|flt (b:UInt64)|ref (a:Addr)|ty (n:Ah)
 deriving DecidableEq
def RelV:V->Aa->Prop
 |.non,u=>u=Value.none
 |.bl b,u=>u=Value.bool b
 |.int i,u=>∃t,u=Value.int i t
 |.str x,u=>∃t,u=Value.str x t
 |.byt b,u=>∃t,u=Value.bytes b t
 |.flt b,u=>∃t,u=Value.float b t
 |.ref a,u=>u=Value.ref a
 |.ty n,u=>u=Value.type n
abbrev Vals:List V->List Aa->Prop:=Paired RelV
theorem Vals.length{xs:List V}{us:List Aa}(r:Vals xs us):xs.length=us.length:=a_3 r
theorem Vals.get:∀{xs:List V} {us:List Aa} {i:Nat} {x:V},Vals xs us->xs[i]? = some x->∃u,us[i]? = some u/\RelV x u
 |_,_,_,_,.nil,e=>by simp at e
 |_,_,0,_,.cons r _,e=>by simp at e;subst e;exact⟨_,rfl,r⟩
 |_,_,i+1,x,.cons _ t,e=>by
  obtain⟨u,h1,h2⟩:=Vals.get (i:=i) (x:=x) t (by simpa using e);exact⟨u,by simpa using h1,h2⟩
theorem Vals.set{x:V}{u:Aa}(r:RelV x u):∀{xs:List V} {us:List Aa} (i:Nat),Vals xs us->Vals (xs.set i x) (us.set i u)
 |_,_,_,.nil=>.nil
 |_,_,0,.cons _ t=>.cons r t
 |_,_,i+1,.cons q t=>.cons q (Vals.set r i t)
theorem Vals.append:∀{xs ys:List V} {us ws:List Aa},Vals xs us->Vals ys ws->Vals (xs++ys) (us++ws)
 |_,_,_,_,.nil,s=>s
 |_,_,_,_,.cons r t,s=>.cons r (Vals.append t s)
theorem Vals.take:∀{xs:List V} {us:List Aa} (n:Nat),Vals xs us->Vals (xs.take n) (us.take n)
 |_,_,0,_=>.nil
 |_,_,_+1,.nil=>.nil
 |_,_,n+1,.cons r t=>.cons r (Vals.take n t)
theorem Vals.drop:∀{xs:List V} {us:List Aa} (n:Nat),Vals xs us->Vals (xs.drop n) (us.drop n)
 |_,_,0,r=>r
 |_,_,_+1,.nil=>.nil
 |_,_,n+1,.cons _ t=>Vals.drop n t
def RelO:Option V->Option Aa->Prop
 |some v,some u=>RelV v u
 |none,none=>True
 |_,_=>False
def KV{κ:Type}:List (κ × V)->List (κ × Aa)->Prop:=Paired λ(p:κ × V) (q:κ × Aa)=>p.1=q.1/\RelV p.2 q.2
def kV:Key->V
 |.inl i=>.int i
 |.inr x=>.str x
inductive HO where
  |lst (xs:List V)
  |tup (xs:List V)
  |dK (kvs:List (Key × V))|dT (kvs:List (List Key × V))
  |set (S:Int->Bool) (n:Nat)
  |ins (C dx:Addr) (fs:List (Str × V))
  |own (x:Addr)
  |xd (fs:List (Str × V))
  |met (f x:Addr)
  |rng (lo hi:Int)
  |frz (o:Obj) (u:HO)
  |tbl (ps:Array Aa)
  |ext (φ:Heap->Prop)
abbrev Hp:=Addr->Option HO
def upd(H:Hp)(a:Addr)(o:HO):Hp:=λb=>if b=a then some o else H b
variable{a:Addr}
theorem a1_{H:Hp}{o:HO}:upd H a o a=some o:=by unfold upd;rw[b__ rfl]
variable{b:Addr}
theorem a8_{H:Hp}{o:HO}(h:b≠a):upd H a o b=H b:=by unfold upd;rw[a_5 h]
theorem bZ_{H:Hp}{o u:HO}:upd (upd H a o) a u=upd H a u:=by
 funext b;unfold upd;split<;>rfl
theorem bK_{H:Hp}{o u:HO}(h:H a=some o)(h':H b=some u)(d:o≠u):a≠b:=by
 intro e;subst e;rw[h] at h';exact d (b_7 h')
theorem a9_{H:Hp}{o:HO}(h:H a=some o)(h':H b=none):a≠b:=by
 intro e;subst e;rw[h] at h';cases h'
section
variable(P:Ad)(w:Af)
def bn'(H:Hp)(h:Heap)(a:Addr):HO->Prop
 |.lst xs=>xs.length<=sizeLine/\∃(its:List Aa) (n:Nat),Vals xs its/\h.get? a=some { cls:=.type "list",data:=.seq its.toArray n }
 |.tup xs=>xs.length<=sizeLine/\∃its:List Aa,Vals xs its/\IsTup h a its.toArray/\∃o,h.get? a=some o/\o.dict=none
 |.dK kvs=>kvs.length<=sizeLine/\(a == sysModules)=false/\∃vs,KV kvs vs/\h.DictOf (bd' P w) a vs
 |.dT kvs=>kvs.length<=sizeLine/\(a == sysModules)=false/\∃xs:List (List Key × Addr × Aa),
   Paired (λ(p:List Key × V) (q:List Key × Addr × Aa)=>p.1=q.1/\H q.2.1=some (.tup (p.1.map kV))/\RelV p.2 q.2.2) kvs xs /\
   ∃o es ep,h.get? a=some o/\o.ExactDict/\o.data=.dict es ep/\es.toList=xs.map (entryOfKey (tupleKind (bd' P w)))/\(xs.map (·.1)).Nodup
 |.set S n=>h.SetOf (intKind P w) a S n
 |.ins C dx fs=>H dx=some (.own a)/\fs.length<=1000/\dx≠a/\h.get? a=some (PySem.W.instObj C dx) /\
   ∃mA,h.Ns1 dx mA/\(∀f,RelO (fs.lookup f) (mA f))/\PySem.Within mA (fs.map (·.1))
 |.own _=>∃o,h.get? a=some o
 |.xd fs=>∃mA,h.Ns1 a mA/\∀f,RelO (fs.lookup f) (mA f)
 |.rng lo hi=>∃t u v,h.get? a=some { cls:=.type "range",data:=.fields #[.int lo t,.int hi u,.int 1 v] }
 |.frz o u=>h.get? a=some o/\bn' H h a u
 |.tbl ps=>h.get? a=some { cls:=.none,data:=.fields ps }
 |.met f x=>h.get? a=some (PySem.W.methodObj (.ref f) (.ref x))
 |.ext φ=>φ h/\(∃o,h.get? a=some o)/\∀h1 h2:Heap,φ h1->(∀o,h1.get? a=some o->h2.get? a=some o)->φ h2
def HOk(H:Hp)(h:Heap):Prop:=∀a o,H a=some o->bn' P w H h a o
end
section
variable{P:Ad}{w:Af}{H H':Hp}{h h':Heap}{a:Addr}{o:HO}
theorem bn'.lt(x:bn' P w H h a o):a<h.objs.size:=by
 cases o with
 |lst xs=>obtain⟨_,_,_,_,e⟩:=x;exact a_6 e
 |tup xs=>obtain⟨_,_,_,p,_⟩:=x;exact p.lt
 |dK kvs=>obtain⟨_,_,_,_,o,_,_,e,_⟩:=x;exact a_6 e
 |dT kvs=>obtain⟨_,_,_,_,o,_,_,e,_⟩:=x;exact a_6 e
 |set S n=>obtain⟨o,_,_,_,e,_⟩:=x;exact a_6 e
 |ins C dx fs=>obtain⟨_,_,_,e,_⟩:=x;exact a_6 e
 |own y=>obtain⟨_,e⟩:=x;exact a_6 e
 |xd fs=>obtain⟨_,⟨_,_,_,e,_⟩,_⟩:=x;exact a_6 e
 |rng lo hi=>obtain⟨_,_,_,e⟩:=x;exact a_6 e
 |frz ob u=>obtain⟨e,_⟩:=x;exact a_6 e
 |tbl ps=>exact a_6 (show h.get? a=some _ from x)
 |met f y=>exact a_6 (show h.get? a=some _ from x)
 |ext φ=>obtain⟨_,⟨_,e⟩,_⟩:=x;exact a_6 e
theorem Paired.mapP{α β:Type}{F G:α->β->Prop}:∀{l₁:List α} {l₂:List β},Paired F l₁ l₂->(∀a b,F a b->G a b)->Paired G l₁ l₂
 |_,_,.nil,_=>.nil
 |_,_,.cons r t,f=>.cons (f _ _ r) (Paired.mapP t f)
theorem bn'.stay(x:bn' P w H h a o)(k:∀b u,(b=a∨H b=some (.own a))->h.get? b=some u->h'.get? b=some u)
  (ho:∀b,H b=some (.own a)->H' b=some (.own a)) (ht:∀b xs,H b=some (.tup xs)->H' b=some (.tup xs)):bn' P w H' h' a o:=by
 induction o with
 |lst xs=>obtain⟨z,its,n,r,e⟩:=x;exact⟨z,its,n,r,k _ _ (.inl rfl) e⟩
 |tup xs=>obtain⟨z,its,r,⟨ob,e,c⟩,o2,e2,c2⟩:=x;exact⟨z,its,r,⟨ob,k _ _ (.inl rfl) e,c⟩,o2,k _ _ (.inl rfl) e2,c2⟩
 |dK kvs=>obtain⟨z,y,vs,r,ob,es,ep,e,c⟩:=x;exact⟨z,y,vs,r,ob,es,ep,k _ _ (.inl rfl) e,c⟩
 |dT kvs=>
  obtain⟨z,y,xs,r,ob,es,ep,e,c⟩:=x;exact⟨z,y,xs,Paired.mapP r λp q z=>⟨z.1,ht _ _ z.2.1,z.2.2⟩,ob,es,ep,k _ _ (.inl rfl) e,c⟩
 |set S n=>obtain⟨ob,es,ep,t,e,c⟩:=x;exact⟨ob,es,ep,t,k _ _ (.inl rfl) e,c⟩
 |ins C dx fs=>
  obtain⟨d,z,ne,e,mA,⟨od,es,ep,e2,c⟩,r⟩:=x;exact⟨ho _ d,z,ne,k _ _ (.inl rfl) e,mA,⟨od,es,ep,k _ _ (.inr d) e2,c⟩,r⟩
 |own y=>obtain⟨ob,e⟩:=x;exact⟨ob,k _ _ (.inl rfl) e⟩
 |xd fs=>obtain⟨mA,⟨od,es,ep,e,c⟩,r⟩:=x;exact⟨mA,⟨od,es,ep,k _ _ (.inl rfl) e,c⟩,r⟩
 |rng lo hi=>obtain⟨t,u,v,e⟩:=x;exact⟨t,u,v,k _ _ (.inl rfl) e⟩
 |frz ob u ih=>obtain⟨e,q⟩:=x;exact⟨k _ _ (.inl rfl) e,ih q⟩
 |tbl ps=>
  have e:h.get? a=some { cls:=.none,data:=.fields ps }:=x;show h'.get? a=some { cls:=.none,data:=.fields ps };exact k a _ (.inl rfl) e
 |met f y=>
  have e:h.get? a=some (PySem.W.methodObj (.ref f) (.ref y)):=x;show h'.get? a=some (PySem.W.methodObj (.ref f) (.ref y));exact k a _ (.inl rfl) e
 |ext φ=>obtain⟨p,⟨o,e⟩,st⟩:=x;exact⟨st _ _ p λo q=>k _ _ (.inl rfl) q,⟨o,k _ _ (.inl rfl) e⟩,st⟩
theorem HOk.lt(x:HOk P w H h)(e:H a=some o):a<h.objs.size:=(x a o e).lt
theorem HOk.fresh(x:HOk P w H h)(e:h.objs.size<=a):H a=none:=by
 cases q:H a with
 |none=>rfl
 |some u=>exact absurd (ar' (x.lt q) e) (a3' _)
theorem HOk.kept(x:HOk P w H h)(k:∀b u,h.get? b=some u->h'.get? b=some u):HOk P w H h':=λa o e=>
 (x a o e).stay (λb u _ q=>k b u q) (λ_ q=>q) λ_ _ q=>q
theorem HOk.laid(x:HOk P w H h)(k:∀b u,h.get? b=some u->h'.get? b=some u)(hp:h.objs.size<=a)(new:bn' P w (upd H a o) h' a o):HOk P w (upd H a o) h':=λb u e=>by
 have hn:=x.fresh hp;by_cases hb:b=a
 ·subst hb;rw[a1_] at e;cases e;exact new
 ·rw[a8_ hb] at e;exact (x b u e).stay (λc v _ q=>k c v q) (λc q=>by rw[a8_ (a9_ q hn)];exact q) λc xs q=>by rw[a8_ (a9_ q hn)];exact q
end
def Rd(H:Hp)(a:Addr)(u:HO):Prop:=H a=some u∨∃o,H a=some (.frz o u)
variable{P:Ad}{h:Heap}
theorem Rd.ok{w:Af}{H:Hp}{u:HO}(r:Rd H a u)(x:HOk P w H h):bn' P w H h a u:=by
 rcases r with r|⟨o,r⟩
 ·exact x a u r
 ·obtain⟨_,q⟩:=x a _ r;exact q
def Mut:Option HO->Prop
 |some (.lst _)=>True
 |some (.dK _)=>True
 |some (.dT _)=>True
 |some (.set _ _)=>True
 |some (.ins _ _ _)=>True
 |some (.ext _)=>True
 |_=>False
section
variable{P:Ad}{w:Af}{H:Hp}{h h':Heap}{x e:Addr}{o':HO}
theorem HOk.write(ok:HOk P w H h)(mu:Mut (H x))(he:e=x∨H e=some (.own x))(k:∀b u,b≠e->h.get? b=some u->h'.get? b=some u)(heo:∃u,h'.get? e=some u)
  (new:bn' P w (upd H x o') h' x o'):HOk P w (upd H x o') h':=λb u q=>by
 have nown:∀c y,H c=some (.own y)->c≠x:=λc y r z=>by subst z;rw[r] at mu;exact mu
 have ntup:∀c xs,H c=some (.tup xs)->c≠x:=λc xs r z=>by subst z;rw[r] at mu;exact mu
 by_cases hb:b=x
 ·subst hb;rw[a1_] at q;cases q;exact new
 ·rw[a8_ hb] at q;by_cases hbe:b=e
  ·have q':H b=some (.own x):=by
    rcases he with z|z
    ·exact absurd (hbe.trans z) hb
    ·rw[hbe];exact z
   rw[q] at q';cases q';obtain⟨v,hv⟩:=heo;exact⟨v,by rw[hbe];exact hv⟩
  ·refine (ok b u q).stay (λc v hc r=>k c v ?_ r) (λc r=>by rw[a8_ (nown c b r)];exact r) λc xs r=>by rw[a8_ (ntup c xs r)];exact r
   rcases hc with rfl|hc
   ·exact hbe
   ·rintro rfl;rcases he with z|z
    ·exact nown c b hc z
    ·rw[hc] at z;cases z;exact hb rfl
end
structure Un (fs ex:List Addr) (H H':Hp) (h h':Heap):Prop where
 keep:∀b o,h.get? b=some o->H b=none->b∉fs->b∉ex->h'.get? b=some o
 slot:∀b o,h.get? b=some o->H b=none->b∈fs->b∉ex->∃sl,h'.get? b=some { o with slots:=sl }
 free:∀b o,h.get? b=some o->H b=none->b∉ex->H' b=none
 there:∀b o,h.get? b=some o->b∉ex->∃o',h'.get? b=some o'
 tups:∀b xs,H b=some (.tup xs)->H' b=some (.tup xs)
 frzs:∀b o u,H b=some (.frz o u)->H' b=some (.frz o u)
 tbls:∀b ps,H b=some (.tbl ps)->∃more,H' b=some (.tbl (ps++more))
section
variable{fs fs' ex ex':List Addr}{H H1 H2:Hp}{h h1 h2 h':Heap}{a x e:Addr}{o:HO}
theorem Un.any(u:Un fs ex H H1 h h1){ob:Obj}(q:h.get? b=some ob)(n:H b=none)(hx:b∉ex):∃sl,h1.get? b=some { ob with slots:=sl }:=by
 by_cases hb:b∈fs
 ·exact u.slot b ob q n hb hx
 ·exact⟨ob.slots,u.keep b ob q n hb hx⟩
theorem Un.kept(k:∀b u,h.get? b=some u->h'.get? b=some u):Un fs ex H H h h':=
 ⟨λb ob q _ _ _=>k b ob q,λb ob q _ _ _=>⟨ob.slots,k b ob q⟩,λ_ _ _ n _=>n,λb ob q _=>⟨ob,k b ob q⟩,λ_ _ q=>q,λ_ _ _ q=>q,λ_ ps q=>⟨#[],by rw[q];simp⟩⟩
theorem Un.refl:Un fs ex H H h h:=Un.kept λ_ _ q=>q
theorem Un.laid(k:∀b u,h.get? b=some u->h'.get? b=some u)(hp:h.objs.size<=a)(hn:H a=none):Un fs ex H (upd H a o) h h' where
 keep:=λb u q _ _ _=>k b u q
 slot:=λb u q _ _ _=>⟨u.slots,k b u q⟩
 free:=λb u q n _=>by rw[a8_ (av' (ar' (a_6 q) hp))];exact n
 there:=λb u q _=>⟨u,k b u q⟩
 tups:=λb xs q=>by rw[a8_ (a9_ q hn)];exact q
 frzs:=λb u xs q=>by rw[a8_ (a9_ q hn)];exact q
 tbls:=λb ps q=>⟨#[],by rw[a8_ (a9_ q hn),q];simp⟩
theorem Un.write(mu:Mut (H x))(he:e=x∨H e=some (.own x))(k:∀b u,b≠e->h.get? b=some u->h'.get? b=some u)(heo:∃u,h'.get? e=some u):Un fs ex H (upd H x o) h h':=by
 have hx:∀b,H b=none->b≠x:=λb n z=>by subst z;rw[n] at mu;exact mu
 have hb:∀b,H b=none->b≠e:=λb n z=>by
  subst z;rcases he with r|r
  ·exact hx b n r
  ·rw[n] at r;cases r
 have hm:∀b u,H b=some u->¬Mut (some u)->b≠x:=λb u q nm z=>by subst z;rw[q] at mu;exact nm mu
 refine⟨λb u q n _ _=>k b u (hb b n) q,λb u q n _ _=>⟨u.slots,k b u (hb b n) q⟩,λb u q n _=>by rw[a8_ (hx b n)];exact n,λb u q _=>?_,
  λb xs q=>by rw[a8_ (hm b _ q λz=>z)];exact q,λb u xs q=>by rw[a8_ (hm b _ q λz=>z)];exact q,λb ps q=>⟨#[],by rw[a8_ (hm b _ q λz=>z),q];simp⟩⟩
 by_cases hbe:b=e
 ·subst hbe;exact heo
 ·exact⟨u,k b u hbe q⟩
end
def trk(h:Heap)(H:Hp):List Addr:=(List.range h.objs.size).filter λa=>(H a).isSome
def hidT(h:Heap)(H:Hp):Heap:=PySem.W.hideAll h (trk h H)
theorem hS_(h:Heap)(H:Hp):(hidT h H).objs.size=h.objs.size:=PySem.W.hideAll_size _ _
variable{o:Obj}
theorem jA_{H:Hp}(e:h.get? b=some o)(n:H b=none):(hidT h H).get? b=some o:=
 e_1 _ e λhm=>by
  have q:(H b).isSome=true:=(aU'.mp hm).2;rw[n] at q;simp at q
theorem kb_{H:Hp}(e:(hidT h H).get? b=some o):h.get? b=some o/\H b=none:=by
 have e':h.get? b=some o:=PySem.W.of_hideAll (trk h H) e;refine⟨e',?_⟩;cases q:H b with
 |none=>rfl
 |some x=>
  have hm:b∈trk h H:=aU'.mpr ⟨List.mem_range.mpr (a_6 e'),by simp[q]⟩;have z:(hidT h H).get? b=none:=PySem.W.hideAll_none (trk h H) hm;rw[z] at e;cases e
structure Mod (K:F__) (mg:Str->Option Aa) (base:Heap):Prop where
 kin:K.In base
 glob:base.Ns mainGlobals mg
 blt:∃mb,base.Ns builtinsNs mb/\∀x:Str,x≠"__name__"->mb x=bootBuiltins x
 nolimit:base.NoLimit
structure Cx where
 prog:Ad
 w:Af
 K:F__
 mg:Str->Option Aa
 base:Heap
 A:Ag
 N:List Str
 s₀:Ab
 H₀:Hp
 env:Env
 outer:List Env
 stack:List Env
 ex:List Addr
 fn:Str->Bool
 calm:Bool
 pn:List (Addr × Obj)
 xe:Aa->Ab->Prop
def frs(l:List Env):List Addr:=l.filterMap (·.frame)
abbrev Cx.fs(X:Cx):List Addr:=frs X.outer
def Vis(sc:Scope)(x:Str):Prop:=sc.names.lookup x=some .local∨sc.names.lookup x=some .cell∨sc.names.lookup x=some .free
def Loc(sc:Scope)(x:Str):Prop:=sc.names.lookup x=some .local∨sc.names.lookup x=some .cell
def Look(env:Env)(h:Heap)(m:Str->Option Aa)(x:Str)(u:Aa):Prop:=
 (env.kindOf x=some .local/\m x=some u)∨((env.kindOf x=some .cell∨env.kindOf x=some .free)/\∃c,env.cells.lookup x=some c/\h.IsCell c (some u))
structure Cx.Ok (X:Cx):Prop where
 mod:Mod X.K X.mg X.base
 kind:X.env.scope.kind=.function
 glob:X.env.globals=mainGlobals
 blt:X.env.builtins=builtinsNs
 above:X.s₀.heap.objs.size<=X.env.locals
 inj:∀x y c,X.env.cells.lookup x=some c->X.env.cells.lookup y=some c->x=y
 has:∀x,(X.env.kindOf x=some .cell∨X.env.kindOf x=some .free)->∃c,X.env.cells.lookup x=some c
 cab:∀x c,X.fn x=true->X.env.cells.lookup x=some c->X.s₀.heap.objs.size<=c
 hd:X.calm=true->X.A.handled=none
 frames:X.A.frames=some X.stack
 stk:X.stack=X.outer∨(X.stack=X.env::X.outer/\X.env.frame=some X.env.locals)
 exf:∀b∈X.ex,b≠X.env.locals/\∀x c,X.env.cells.lookup x=some c->c≠b
 bs:∀b o,X.base.get? b=some o->X.s₀.heap.get? b=some o/\X.H₀ b=none
 bsz:X.base.objs.size<=X.s₀.heap.objs.size
 noex:∀b o,X.base.get? b=some o->b∉X.ex
 exfs:∀b∈X.ex,b∉X.fs
 funs:X.s₀.heap.FunFrames X.base X.outer
 frf:∀b∈X.fs,X.H₀ b=none
structure Inv (X:Cx) (pins:List (Addr × Obj)) (σ:List (Option V)) (H:Hp) (s:Ab):Prop where
 ok:X.Ok
 os:s.os=X.s₀.os
 bare:AllBare s.gens
 base:Un X.fs X.ex X.H₀ H X.s₀.heap s.heap
 loc:∃m,s.heap.Ns X.env.locals m/\∀(i:Nat) (x:Str) (v:V),X.N[i]? = some x->σ[i]? = some (some v)->Vis X.env.scope x->∃u,RelV v u/\Look X.env s.heap m x u
 cell:∀x c,X.env.cells.lookup x=some c->∃v,s.heap.IsCell c v
 free:H X.env.locals=none
 freeC:∀x c,X.env.cells.lookup x=some c->H c=none
 pin:∀p∈X.pn++pins,s.heap.get? p.1=some p.2/\H p.1=none/\p.1≠X.env.locals/\p.1∉X.fs/\∀v,p.2.data≠.cell v
 hok:HOk X.prog X.w H s.heap
 len:σ.length=X.N.length
variable{g':Array GenState}{t':Nat}{d':Drawn}{ch:List Addr}
variable{it:Addr}
variable{N:List Str}
variable{M:Model}
variable{s':Ab}
section
variable{X:Cx}{pins:List (Addr × Obj)}{σ:List (Option V)}{H H':Hp}{s:Ab}{h':Heap}
theorem Cx.Ok.nofr(ok:X.Ok)(e:X.base.get? b=some o):b∉X.fs:=λhb=>by
 have:=(ok.funs.mem hb).1;rw[e] at this;cases this
theorem Inv.bs(I:Inv X pins σ H s):∀b o,X.base.get? b=some o->s.heap.get? b=some o/\H b=none:=λb o e=>
 ⟨I.base.keep b o (I.ok.bs b o e).1 (I.ok.bs b o e).2 (I.ok.nofr e) (I.ok.noex b o e),I.base.free b o (I.ok.bs b o e).1 (I.ok.bs b o e).2 (I.ok.noex b o e)⟩
theorem Inv.bk(I:Inv X pins σ H s):∀b o,X.base.get? b=some o->s.heap.get? b=some o:=λb o e=>(I.bs b o e).1
theorem Inv.mod(I:Inv X pins σ H s):Mod X.K X.mg X.base:=I.ok.mod
theorem Inv.kIn(I:Inv X pins σ H s):X.K.In s.heap:=I.ok.mod.kin.keeps I.bk
theorem Inv.lt(I:Inv X pins σ H s):X.env.locals<s.heap.objs.size:=let ⟨_,hn,_⟩:=I.loc;hn.lt
theorem Inv.sz(I:Inv X pins σ H s):X.s₀.heap.objs.size<=s.heap.objs.size:=aO' I.ok.above (Nat.le_of_lt I.lt)
theorem Inv.nofs(I:Inv X pins σ H s)(h:s.heap.objs.size<=a):a∉X.fs:=λhb=>by
 obtain⟨_,o,ho,_⟩:=I.ok.funs.mem hb;exact absurd (ar' (a_6 ho) (aO' I.sz h)) (a3' _)
theorem Inv.cne(I:Inv X pins σ H s):∀x c,X.env.cells.lookup x=some c->c≠X.env.locals:=λx c e z=>by
 obtain⟨v,o,ho,hd⟩:=I.cell x c e;obtain⟨m,⟨o',es,ep,ho',hd',_⟩,_⟩:=I.loc;rw[z,ho'] at ho;cases ho;rw[hd'] at hd;cases hd
theorem Inv.funs(I:Inv X pins σ H s):s.heap.FunFrames X.base X.outer:=by
 have all:∀(l:List Env),(∀b∈frs l,b∈X.fs)->X.s₀.heap.FunFrames X.base l->s.heap.FunFrames X.base l:=by
  intro l
  induction l with
  |nil=>intro _ _;trivial
  |cons env r ih=>
   intro hs hl;obtain⟨hk,⟨L,o,hf,hn,ho,hd⟩,hr⟩:=hl;have hL:L∈X.fs:=hs L (by unfold frs;rw[List.filterMap_cons,hf];exact ap');obtain⟨sl,e⟩:=I.base.slot L o ho (I.ok.frf L hL) hL λz=>I.ok.exfs L z hL;exact⟨hk,⟨L,_,hf,hn,e,hd⟩,ih (λb hb=>hs b (by unfold frs;rw[List.filterMap_cons,hf];exact aj' _ hb)) hr⟩
 exact all X.outer (λ_ hb=>hb) I.ok.funs
theorem Inv.stack(I:Inv X pins σ H s):s.heap.FunFrames X.base X.stack:=by
 rcases I.ok.stk with e|⟨e,hf⟩
 ·rw[e];exact I.funs
 ·rw[e];obtain⟨m,hn,_⟩:=I.loc;refine .cons (by rw[I.ok.kind];decide) hf hn ?_ I.funs;exact Heap.get?_none_of_le (aO' I.ok.bsz I.ok.above)
theorem Inv.stkSub(I:Inv X pins σ H s):∀b∈frs X.stack,b∈X.env.locals::X.fs:=λb hb=>by
 rcases I.ok.stk with e|⟨e,hf⟩
 ·rw[e] at hb;exact aj' _ hb
 ·rw[e] at hb;unfold frs at hb;rw[List.filterMap_cons,hf] at hb;exact hb
theorem Inv.stkFree(I:Inv X pins σ H s):∀b∈frs X.stack,H b=none:=λb hb=>by
 rcases ah'.mp (I.stkSub b hb) with e|hb
 ·rw[e];exact I.free
 ·obtain⟨_,o,ho,_⟩:=I.ok.funs.mem hb;exact I.base.free b o ho (I.ok.frf b hb) λz=>I.ok.exfs b z hb
theorem Inv.step(I:Inv X pins σ H s)(hch:∀b∈ch,(b∈X.ex∨X.s₀.heap.objs.size<=b)/\b≠X.env.locals/\(∀x c,X.env.cells.lookup x=some c->c≠b)/\∀p∈X.pn++pins,p.1≠b)(keep:∀b o,b≠X.env.locals->b∉X.fs->b∉ch->s.heap.get? b=some o->H b=none->h'.get? b=some o)(slot:∀b o,b≠X.env.locals->b∈X.fs->b∉ch->s.heap.get? b=some o->H b=none->∃sl,h'.get? b=some { o with slots:=sl })(free:∀b o,b∉ch->s.heap.get? b=some o->H b=none->H' b=none)(there:∀b o,b∉ch->s.heap.get? b=some o->∃o',h'.get? b=some o')(tups:∀b xs,H b=some (.tup xs)->H' b=some (.tup xs))(frzs:∀b o u,H b=some (.frz o u)->H' b=some (.frz o u))(tbls:∀b ps,H b=some (.tbl ps)->∃more,H' b=some (.tbl (ps++more)))(ns:∀m,s.heap.Ns X.env.locals m->h'.Ns X.env.locals m)(hok:HOk X.prog X.w H' h')(hg:AllBare g') :
  Inv X pins σ H' { s with heap:=h',gens:=g',drawn:=d',toks:=t' }:=by
 have neL:∀b o,X.s₀.heap.get? b=some o->b≠X.env.locals:=λb o e=>av' (ar' (a_6 e) I.ok.above)
 have neC:∀b o,X.s₀.heap.get? b=some o->b∉X.ex->b∉ch:=λb o e hx hb=>by
  rcases (hch b hb).1 with z|z
  ·exact hx z
  ·exact absurd (ar' (a_6 e) z) (a3' _)
 have cellK:∀x c,X.env.cells.lookup x=some c->∀v,s.heap.IsCell c v->h'.IsCell c v:=λx c e v ⟨o,ho,hd⟩=>by
  have nch:c∉ch:=λz=>(hch c z).2.2.1 x c e rfl;by_cases hc:c∈X.fs
  ·obtain⟨sl,q⟩:=slot c o (I.cne x c e) hc nch ho (I.freeC x c e);exact⟨_,q,hd⟩
  ·exact⟨o,keep c o (I.cne x c e) hc nch ho (I.freeC x c e),hd⟩
 refine⟨I.ok,I.os,hg,⟨λb o e n hb hx=>?_,λb o e n hb hx=>?_,λb o e n hx=>?_,λb o e hx=>?_,λb xs e=>tups b xs (I.base.tups b xs e),λb o xs e=>frzs b o xs (I.base.frzs b o xs e),λb ps e=>?_⟩,?_,λx c e=>?_,?_,λx c e=>?_,λp hp=>?_,hok,I.len⟩
 ·exact keep b o (neL b o e) hb (neC b o e hx) (I.base.keep b o e n hb hx) (I.base.free b o e n hx)
 ·obtain⟨sl,e1⟩:=I.base.slot b o e n hb hx;obtain⟨sl',e2⟩:=slot b _ (neL b o e) hb (neC b o e hx) e1 (I.base.free b o e n hx);exact⟨sl',e2⟩
 ·obtain⟨o',e1⟩:=I.base.there b o e hx;exact free b o' (neC b o e hx) e1 (I.base.free b o e n hx)
 ·obtain⟨o',e1⟩:=I.base.there b o e hx;exact there b o' (neC b o e hx) e1
 ·obtain⟨m1,e1⟩:=I.base.tbls b ps e;obtain⟨m2,e2⟩:=tbls b _ e1;exact⟨m1++m2,by rw[e2,Array.append_assoc]⟩
 ·obtain⟨m,hn,hl⟩:=I.loc;refine⟨m,ns m hn,λi x v e1 e2 e3=>?_⟩;obtain⟨u,r,l⟩:=hl i x v e1 e2 e3;refine⟨u,r,?_⟩;rcases l with l|⟨k,c,e,z⟩
  ·exact .inl l
  ·exact .inr ⟨k,c,e,cellK x c e _ z⟩
 ·obtain⟨v,z⟩:=I.cell x c e;exact⟨v,cellK x c e v z⟩
 ·obtain⟨m,⟨o,_,_,ho,_⟩,_⟩:=I.loc;exact free _ o (λz=>(hch _ z).2.1 rfl) ho I.free
 ·obtain⟨v,o,ho,hd⟩:=I.cell x c e;exact free c o (λz=>(hch c z).2.2.1 x c e rfl) ho (I.freeC x c e)
 ·obtain⟨e,n,ne,nf,d⟩:=I.pin p hp;have nch:p.1∉ch:=λz=>(hch p.1 z).2.2.2 p hp rfl;exact⟨keep p.1 p.2 ne nf nch e n,free p.1 p.2 nch e n,ne,nf,d⟩
theorem Inv.un(I:Inv X pins σ H s)(u:Un X.fs [] H H' s.heap h')(hok:HOk X.prog X.w H' h'):Inv X pins σ H' { s with heap:=h',toks:=t' }:=by
 obtain⟨m,⟨o,es,ep,ho,r⟩,_⟩:=id I.loc;obtain⟨sl,hL⟩:=u.any ho I.free Z2
 exact I.step (g':=s.gens) (d':=s.drawn) (ch:=[]) (λ_ z=>nomatch z) (λb o _ hb _ e n=>u.keep b o e n hb Z2) (λb o _ hb _ e n=>u.slot b o e n hb Z2) (λb o _ e n=>u.free b o e n Z2) (λb o _ e=>u.there b o e Z2) u.tups u.frzs u.tbls (λm' hm=>by
  obtain⟨o',es',ep',ho',r'⟩:=hm;rw[ho] at ho';cases ho';exact⟨_,es',ep',hL,r'⟩) hok I.bare
theorem Inv.call(I:Inv X pins σ H s)(u:Un (frs X.stack) ch H H' s.heap h')(hok:HOk X.prog X.w H' h')(hg:AllBare g')(hch:∀b∈ch,(b∈X.ex∨X.s₀.heap.objs.size<=b)/\b≠X.env.locals/\(∀x c,X.env.cells.lookup x=some c->c≠b)/\∀p∈X.pn++pins,p.1≠b) :
  Inv X pins σ H' { s with heap:=h',gens:=g',drawn:=d',toks:=t' }:=by
 obtain⟨m,⟨o,es,ep,ho,r⟩,_⟩:=id I.loc;obtain⟨sl,hL⟩:=u.any ho I.free λz=>(hch _ z).2.1 rfl
 exact I.step (ch:=ch) hch (λb o hL hb hc e n=>u.keep b o e n (λz=>(ah'.mp (I.stkSub b z)).elim hL hb) hc) (λb o _ _ hc e n=>u.any e n hc) (λb o hc e n=>u.free b o e n hc) (λb o hc e=>u.there b o e hc) u.tups u.frzs u.tbls (λm' hm=>by
  obtain⟨o',es',ep',ho',r'⟩:=hm;rw[ho] at ho';cases ho';exact⟨_,es',ep',hL,r'⟩) hok hg
theorem Inv.turned(I:Inv X pins σ H s)(k:∀b o,b≠it->s.heap.get? b=some o->h'.get? b=some o)(hn:H it=none)(hL:it≠X.env.locals)(h1:it∈X.ex∨X.s₀.heap.objs.size<=it)(h2:∀x c,X.env.cells.lookup x=some c->c≠it)(h3:∀p∈X.pn++pins,p.1≠it):Inv X pins σ H { s with heap:=h',toks:=t' }:=by
 have nit:∀b u,H b=some u->b≠it:=λb u e z=>by rw[z,hn] at e;cases e
 refine I.step (g':=s.gens) (d':=s.drawn) (ch:=[it]) (λb hb=>?_) (λb o _ _ hc e _=>k b o (λz=>hc (by simp[z])) e) (λb o _ _ hc e _=>⟨o.slots,k b o (λz=>hc (by simp[z])) e⟩) (λ_ _ _ _ n=>n)
  (λb o hc e=>⟨o,k b o (λz=>hc (by simp[z])) e⟩) (λ_ _ e=>e) (λ_ _ _ e=>e) (λb ps e=>⟨#[],by rw[e];simp⟩) (λm hm=>?_) (λb u e=>?_) I.bare
 ·have e:b=it:=by simpa using hb
  subst e;exact⟨h1,hL,h2,h3⟩
 ·obtain⟨o,es,ep,ho,r⟩:=hm;exact⟨o,es,ep,k _ o (Ne.symm hL) ho,r⟩
 ·refine (I.hok b u e).stay (λc v hc q=>k c v ?_ q) (λ_ q=>q) λ_ _ q=>q;rcases hc with z|z
  ·rw[z];exact nit b u e
  ·exact nit c _ z
theorem Inv.tok(I:Inv X pins σ H s)(t:Nat):Inv X pins σ H { s with toks:=t }:=I.un (h':=s.heap) (t':=t) Un.refl I.hok
theorem Inv.kept(I:Inv X pins σ H s)(k:∀b u,s.heap.get? b=some u->h'.get? b=some u):Inv X pins σ H { s with heap:=h',toks:=t' }:=I.un (Un.kept k) (I.hok.kept k)
theorem Inv.laid{o:HO}(I:Inv X pins σ H s)(k:∀b u,s.heap.get? b=some u->h'.get? b=some u)(hp:s.heap.objs.size<=a)(new:bn' X.prog X.w (upd H a o) h' a o) :
  Inv X pins σ (upd H a o) { s with heap:=h',toks:=t' }:=I.un (Un.laid k hp (I.hok.fresh hp)) (I.hok.laid k hp new)
theorem Inv.write{x e:Addr}{o:HO}(I:Inv X pins σ H s)(mu:Mut (H x))(he:e=x∨H e=some (.own x))(k:∀b u,b≠e->s.heap.get? b=some u->h'.get? b=some u)(heo:∃u,h'.get? e=some u)(new:bn' X.prog X.w (upd H x o) h' x o):Inv X pins σ (upd H x o) { s with heap:=h',toks:=t' }:=I.un (Un.write mu he k heo) (I.hok.write mu he k heo new)
theorem Inv.pins_of{pins':List (Addr × Obj)}(I:Inv X pins σ H s)(h:∀p∈pins',s.heap.get? p.1=some p.2/\H p.1=none/\p.1≠X.env.locals/\p.1∉X.fs/\∀v,p.2.data≠.cell v):Inv X pins' σ H s:=
 ⟨I.ok,I.os,I.bare,I.base,I.loc,I.cell,I.free,I.freeC,λp hp=>(aq'.mp hp).elim (λz=>I.pin p (List.mem_append_left _ z)) (h p),I.hok,I.len⟩
theorem ej_(hN:N.Nodup){i j:Nat}{x:Str}(a:N[i]? = some x)(b:N[j]? = some x):i=j:=by
 obtain⟨h1,e1⟩:=ac'.mp a;obtain⟨h2,e2⟩:=ac'.mp b;exact (List.getElem_inj hN).mp (e1.trans e2.symm)
theorem fq_{A:Ag}{E:Aa->Ab->Prop}{i:Nat}{x:Str}{v:V}{u:Aa}{Q:Unit->Ab->Prop}(I:Inv X pins σ H s)(hN:X.N.Nodup)(hi:X.N[i]? = some x)(hx:Loc X.env.scope x)(r:RelV v u)(h:∀s',Inv X pins (σ.set i (some v)) H s'->(∃a,Heap.SameBut a s.heap s'.heap/\(a=X.env.locals∨X.env.cells.lookup x=some a))->Q () s')(hf:X.fn x=true∨X.env.scope.names.lookup x=some .local:=by first|exact .inl rfl|exact .inr rfl|assumption):wpAny M A (storeName X.env x u) Q E s:=by
 obtain⟨m,hn,hl⟩:=id I.loc;have hcls:(X.env.scope.kind == .class || (X.env.scope.kind == .module&&X.env.locals != X.env.globals))=false:=by rw[I.ok.kind];rfl
 have hiσ:i<σ.length:=by rw[I.len];exact (ac'.mp hi).1
 have cne:=I.cne
 have tracked:∀{a:Addr} {h':Heap},(∃o,s.heap.get? a=some o/\H a=none)->Heap.SameBut a s.heap h'->HOk X.prog X.w H h':=λ{a h'} ha hs b ob e=>by
  obtain⟨_,_,hfree⟩:=ha;refine (I.hok b ob e).stay (λc w' hc q=>(hs.2 c ?_).trans q) (λ_ q=>q) λ_ _ q=>q;rintro rfl;rcases hc with rfl|hc
  ·rw[hfree] at e;cases e
  ·rw[hfree] at hc;cases hc
 rcases hx with hk|hk
 ·refine wpAny_storeName_local hk hn (λh' hn' hs=>?_) hcls;obtain⟨oL,_,_,hoL,_⟩:=id hn;refine h _ ⟨I.ok,I.os,I.bare,⟨λb o e n hb hx=>?_,λb o e n hb hx=>?_,I.base.free,λb o e hx=>?_,I.base.tups,I.base.frzs,I.base.tbls⟩,⟨_,hn',λj y v' e1 e2 e3=>?_⟩,λy c e=>?_,I.free,I.freeC,λp hp=>?_,tracked ⟨oL,hoL,I.free⟩ hs,by simpa using I.len⟩ ⟨_,hs,.inl rfl⟩
  ·exact (hs.2 b (av' (ar' (a_6 e) I.ok.above))).trans (I.base.keep b o e n hb hx)
  ·obtain⟨sl,e1⟩:=I.base.slot b o e n hb hx;exact⟨sl,(hs.2 b (av' (ar' (a_6 e) I.ok.above))).trans e1⟩
  ·obtain⟨o',e1⟩:=I.base.there b o e hx;exact⟨o',(hs.2 b (av' (ar' (a_6 e) I.ok.above))).trans e1⟩
  ·by_cases hj:j=i
   ·subst hj;rw[hi] at e1;cases e1;rw[List.getElem?_set_self hiσ] at e2;cases e2;exact⟨u,r,.inl ⟨hk,by simp⟩⟩
   ·rw[List.getElem?_set_ne (Ne.symm hj)] at e2;obtain⟨u',r',q⟩:=hl j y v' e1 e2 e3;refine⟨u',r',?_⟩;rcases q with⟨k,e⟩|⟨k,c,e,z⟩
    ·refine .inl ⟨k,?_⟩;have:y≠x:=λe=>hj (ej_ hN e1 (e▸hi));simp[this,e]
    ·exact .inr ⟨k,c,e,z.sameBut hs (cne y c e)⟩
  ·obtain⟨w',z⟩:=I.cell y c e;exact⟨w',z.sameBut hs (cne y c e)⟩
  ·obtain⟨e,n,ne,nf,d⟩:=I.pin p hp;exact⟨(hs.2 p.1 ne).trans e,n,ne,nf,d⟩
 ·have hfn:X.fn x=true:=by
   rcases hf with z|z
   ·exact z
   ·rw[z] at hk;cases hk
  obtain⟨c,hc⟩:=I.ok.has x (.inl hk);obtain⟨w',z⟩:=I.cell x c hc;refine wpAny_storeName_cell I.ok.kind hk hc z (λh' hc' hs=>?_);obtain⟨oc,hoc,hocd⟩:=id z;refine h { s with heap:=h' } ⟨I.ok,I.os,I.bare,⟨λb o e n hb hx=>?_,λb o e n hb hx=>?_,I.base.free,λb o e hx=>?_,I.base.tups,I.base.frzs,I.base.tbls⟩,⟨m,hn.sameBut hs (Ne.symm (cne x c hc)),λj y v' e1 e2 e3=>?_⟩,λy c' e=>?_,I.free,I.freeC,λp hp=>?_,tracked ⟨oc,hoc,I.freeC x c hc⟩ hs,by simpa using I.len⟩ ⟨c,hs,.inr hc⟩
  ·exact (hs.2 b (av' (ar' (a_6 e) (I.ok.cab x c hfn hc)))).trans (I.base.keep b o e n hb hx)
  ·obtain⟨sl,e1⟩:=I.base.slot b o e n hb hx;exact⟨sl,(hs.2 b (av' (ar' (a_6 e) (I.ok.cab x c hfn hc)))).trans e1⟩
  ·obtain⟨o',e1⟩:=I.base.there b o e hx;exact⟨o',(hs.2 b (av' (ar' (a_6 e) (I.ok.cab x c hfn hc)))).trans e1⟩
  ·by_cases hj:j=i
   ·subst hj;rw[hi] at e1;cases e1;rw[List.getElem?_set_self hiσ] at e2;cases e2;exact⟨u,r,.inr ⟨.inl hk,c,hc,hc'⟩⟩
   ·rw[List.getElem?_set_ne (Ne.symm hj)] at e2;obtain⟨u',r',q⟩:=hl j y v' e1 e2 e3;refine⟨u',r',?_⟩;rcases q with q|⟨k,c',e,z'⟩
    ·exact .inl q
    ·refine .inr ⟨k,c',e,z'.sameBut hs ?_⟩;rintro rfl;exact hj (ej_ hN e1 (I.ok.inj _ _ _ e hc▸hi))
  ·by_cases hcc:c'=c
   ·subst hcc;exact⟨_,hc'⟩
   ·obtain⟨w2,z2⟩:=I.cell y c' e;exact⟨w2,z2.sameBut hs hcc⟩
  ·obtain⟨e,n,ne,nf,d⟩:=I.pin p hp;refine⟨(hs.2 p.1 ?_).trans e,n,ne,nf,d⟩;intro q;rw[q,hoc] at e;have q':oc=p.2:=b_7 e;exact d w' (by rw[<- q'];exact hocd)
theorem d8_{A:Ag}{E:Aa->Ab->Prop}{i:Nat}{x:Str}{v:V}{u:Aa}{Q:Unit->Ab->Prop}(I:Inv X pins σ H s)(hN:X.N.Nodup)(hi:X.N[i]? = some x)(hx:Loc X.env.scope x)(r:RelV v u)(h:∀s',Inv X pins (σ.set i (some v)) H s'->Q () s')(hf:X.fn x=true∨X.env.scope.names.lookup x=some .local:=by first|exact .inl rfl|exact .inr rfl|assumption):wpAny M A (storeName X.env x u) Q E s:=
 fq_ I hN hi hx r (λs' I' _=>h s' I') hf
theorem Inv.call'(I:Inv X pins σ H s)(ho:s'.os=s.os)(u:Un (frs X.stack) ch H H' s.heap s'.heap)(hok:HOk X.prog X.w H' s'.heap)(hg:AllBare s'.gens)(hch:∀b∈ch,(b∈X.ex∨X.s₀.heap.objs.size<=b)/\b≠X.env.locals/\(∀x c,X.env.cells.lookup x=some c->c≠b)/\∀p∈X.pn++pins,p.1≠b):Inv X pins σ H' s':=by
 obtain⟨h',g',d',t',o'⟩:=s';have e:o'=s.os:=ho;subst e;exact I.call (g':=g') (t':=t') (d':=d') u hok hg hch
end
abbrev XK:=Aa->Option Addr->Hp->Prop
abbrev St:=List (Option V)
abbrev VK:=V->Hp->Prop
abbrev TE:=St->Hp->VK->Prop
abbrev TT:=St->Hp->(Bool->Hp->Prop)->Prop
abbrev TA:=St->Hp->(List V->Hp->Prop)->Prop
structure Ends where
 nx:St->Hp->Prop
 rt:VK
 bk:St->Hp->Prop:=λ_ _=>False
 ct:St->Hp->Prop:=λ_ _=>False
abbrev TS:=Ends->St->Hp->Prop
def EP(X:Cx)(pins:List (Addr × Obj))(σ:St)(Q:VK)(u:Aa)(s':Ab):Prop:=∃v H',Inv X pins σ H' s'/\RelV v u/\Q v H'
def TP(X:Cx)(pins:List (Addr × Obj))(σ:St)(Q:Bool->Hp->Prop)(b:Bool)(s':Ab):Prop:=∃H',Inv X pins σ H' s'/\Q b H'
def AP(X:Cx)(pins:List (Addr × Obj))(σ:St)(Q:List V->Hp->Prop)(us:List Aa)(s':Ab):Prop:=∃vs H',Inv X pins σ H' s'/\Vals vs us/\Q vs H'
def SP(X:Cx)(pins:List (Addr × Obj))(D:Ends)(f:Flow)(s':Ab):Prop:=
 match f with
 |.next=>∃σ' H',Inv X pins σ' H' s'/\D.nx σ' H'
 |.brk=>∃σ' H',Inv X pins σ' H' s'/\D.bk σ' H'
 |.cont=>∃σ' H',Inv X pins σ' H' s'/\D.ct σ' H'
 |.ret u=>∃v σ' H',Inv X pins σ' H' s'/\RelV v u/\D.rt v H'
def PE(X:Cx)(e:Expr)(t:TE):Prop:=
 ∀(pins:List (Addr × Obj)) (s:Ab) (σ:St) (H:Hp) (Q:VK),Inv X pins σ H s->t σ H Q->wpAny (model X.prog X.w) X.A (eval e X.env) (EP X pins σ Q) X.xe s
def PT(X:Cx)(e:Expr)(t:TT):Prop:=
 ∀(pins:List (Addr × Obj)) (s:Ab) (σ:St) (H:Hp) (Q:Bool->Hp->Prop),Inv X pins σ H s->t σ H Q->wpAny (model X.prog X.w) X.A (isTrue e X.env (eval e X.env)) (TP X pins σ Q) X.xe s
def PW(X:Cx)(e:Expr)(t:TT):Prop:=
 ∀(whole:Sem Aa) (pins:List (Addr × Obj)) (s:Ab) (σ:St) (H:Hp) (Q:Bool->Hp->Prop),Inv X pins σ H s->t σ H Q->wpAny (model X.prog X.w) X.A (isTrue e X.env whole) (TP X pins σ Q) X.xe s
theorem PW.pt{X:Cx}{e:Expr}{t:TT}(h:PW X e t):PT X e t:=h _
def PA(X:Cx)(es:List Expr)(t:TA):Prop:=
 ∀(pos:Pos) (pins:List (Addr × Obj)) (s:Ab) (σ:St) (H:Hp) (Q:List V->Hp->Prop),Inv X pins σ H s->t σ H Q->wpAny (model X.prog X.w) X.A (spliced (backTo pos (starEach es X.env))) (AP X pins σ Q) X.xe s
def PS(X:Cx)(st:Stmt)(t:TS):Prop:=
 ∀(pins:List (Addr × Obj)) (s:Ab) (σ:St) (H:Hp) (D:Ends),Inv X pins σ H s->t D σ H->wpAny (model X.prog X.w) X.A (exec st X.env) (SP X pins D) X.xe s
def PSs(X:Cx)(st:List Stmt)(t:TS):Prop:=
 ∀(pins:List (Addr × Obj)) (s:Ab) (σ:St) (H:Hp) (D:Ends),Inv X pins σ H s->t D σ H->wpAny (model X.prog X.w) X.A (execs st X.env) (SP X pins D) X.xe s
theorem thn{α:Type}{t:Sem α}{Q Q':α->Ab->Prop}{A:Ag}{E:Aa->Ab->Prop}{s:Ab}(h:wpAny M A t Q E s)(hQ:∀a s,Q a s->Q' a s):wpAny M A t Q' E s:=c_6 h hQ λ_ _ x=>x
variable{pos:Pos}
variable{σ:St}
variable{op:CmpOp}
variable{c:Expr}
section
variable{X:Cx}
inductive tVar (i:Nat) (σ:St) (H:Hp) (Q:VK):Prop
 |mk:∀v,σ[i]? = some (some v)->Q v H->tVar i σ H Q
def tC(v:V):TE:=λ_ H Q=>Q v H
theorem lJ_{i:Nat}{x:Str}(hN:X.N[i]? = some x)(hv:Vis X.env.scope x)(hd:(x == ("__debug__":Str))=false:=by decide)(hcd:(x == ("__classdict__":Str))=false:=by decide):PE X (.Name x pos) (tVar i):=by
 intro pins s σ H Q I h;obtain⟨v,e,h⟩:=h;obtain⟨m,hn,hl⟩:=I.loc;obtain⟨u,r,l⟩:=hl i x v hN e hv;have fin:EP X pins σ Q u s:=⟨v,H,I,r,h⟩;rcases l with⟨hk,hm⟩|⟨hk,c,hc,hcell⟩
 ·exact wpAny_Name (wpAny_loadName_local I.ok.kind hk hn hm fin) hd
 ·rcases hk with hk|hk
  ·exact wpAny_Name (wpAny_loadName_cell I.ok.kind hk hc hcell fin) hd
  ·exact wpAny_Name (wpAny_loadName_free I.ok.kind hk hc hcell fin hcd) hd
theorem a4_{i j pos}:PE X (.Constant (.int i) j pos) (tC (.int i)):=λ_ _ _ H _ I h=>wpAny_Constant_int ⟨.int i,H,I.tok _,⟨_,rfl⟩,h⟩
theorem cr_{b j pos}:PE X (.Constant (.bool b) j pos) (tC (.bl b)):=λ_ _ _ H _ I h=>Constant_bool ⟨.bl b,H,I,rfl,h⟩
theorem dC_{j pos}:PE X (.Constant .none j pos) (tC .non):=λ_ _ _ H _ I h=>Constant_none ⟨.non,H,I,rfl,h⟩
theorem a7_{x j pos}:PE X (.Constant (.str x) j pos) (tC (.str x)):=λ_ _ _ H _ I h=>Calls.Constant_str ⟨.str x,H,I.tok _,⟨_,rfl⟩,h⟩
def Gl(X:Cx)(x:Str):Prop:=X.env.kindOf x=some .globalImplicit
theorem cl_{E:Aa->Ab->Prop}{pins:List (Addr × Obj)}{s:Ab}{H:Hp}{x:Str}{u:Aa}{Q:Aa->Ab->Prop}(I:Inv X pins σ H s)(hg:Gl X x)(hm:X.mg x=some u)(h:Q u s)(hd:(x == ("__debug__":Str))=false:=by decide):wpAny (model X.prog X.w) X.A (eval (.Name x pos) X.env) Q E s:=
 Calls.Name_function_global I.ok.kind hg (Calls.loadGlobal_global (by rw[I.ok.glob];exact I.mod.glob.keeps I.bk) hm h) hd
theorem dU_{E:Aa->Ab->Prop}{pins:List (Addr × Obj)}{s:Ab}{H:Hp}{x:Str}{u:Aa}{Q:Aa->Ab->Prop}(I:Inv X pins σ H s)(hg:Gl X x)(hm:X.mg x=none)(hv:bootBuiltins x=some u)(h:Q u s)(hn:x≠"__name__":=by decide)(hd:(x == ("__debug__":Str))=false:=by decide):wpAny (model X.prog X.w) X.A (eval (.Name x pos) X.env) Q E s:=by
 obtain⟨mb,h1,h2⟩:=I.mod.blt;exact Calls.Name_function_global I.ok.kind hg (Calls.loadGlobal_builtin (by rw[I.ok.glob];exact I.mod.glob.keeps I.bk) hm (by rw[I.ok.blt];exact h1.keeps I.bk) ((h2 x hn).trans hv) h) hd
theorem b5_{x:Str}{v:V}{u:Aa}(hg:Gl X x)(hm:X.mg x=some u)(r:RelV v u)(hd:(x == ("__debug__":Str))=false:=by decide):PE X (.Name x pos) (tC v):=
 λ_ _ _ H _ I h=>cl_ I hg hm ⟨v,H,I,r,h⟩ hd
theorem aV_{x:Str}{v:V}{u:Aa}(hg:Gl X x)(hm:X.mg x=none)(hv:bootBuiltins x=some u)(r:RelV v u)(hn:x≠"__name__":=by decide)(hd:(x == ("__debug__":Str))=false:=by decide):PE X (.Name x pos) (tC v):=
 λ_ _ _ H _ I h=>dU_ I hg hm hv ⟨v,H,I,r,h⟩ hn hd
variable{a b:Expr}{ta tb:TE}{pos:Pos}
def PC(X:Cx)(op:CmpOp)(a b:Expr)(t:TE):Prop:=
 ∀(pins:List (Addr × Obj)) (s:Ab) (σ:St) (H:Hp) (Q:VK),Inv X pins σ H s->t σ H Q->
  wpAny (model X.prog X.w) X.A (eval a X.env) (λv s₁=>wpAny (model X.prog X.w) X.A (eval b X.env) (λu s₂=>wpAny (model X.prog X.w) X.A (compareOp op v u) (EP X pins σ Q) X.xe s₂) X.xe s₁) X.xe s
theorem nobehind(b:Expr)(h:op≠.In)(h2:op≠.NotIn):behindInMarks op b=false:=by
 have e1:(op == CmpOp.In)=false:=by cases op<;>first|rfl|exact absurd rfl h
 have e2:(op == CmpOp.NotIn)=false:=by cases op<;>first|rfl|exact absurd rfl h2
 cases b<;>simp[behindInMarks,e1,e2]
def tIsN(ta:TE):TE:=λσ H Q=>ta σ H λx H1=>Q (.bl (decide (x=.non))) H1
theorem RelV.none_iff{x:V}{v:Aa}(r:RelV x v):(v == Value.none)=decide (x=.non):=by
 cases x with
 |non=>cases r;rfl
 |bl _=>cases r;rfl
 |int _=>obtain⟨t,rfl⟩:=r;rfl
 |str _=>obtain⟨t,rfl⟩:=r;rfl
 |byt _=>obtain⟨t,rfl⟩:=r;rfl
 |flt _=>obtain⟨t,rfl⟩:=r;rfl
 |ref _=>cases r;rfl
 |ty _=>cases r;rfl
theorem d0_{j pos'}(ha:PE X a ta):PC X .Is a (.Constant .none j pos') (tIsN ta):=by
 intro pins s σ H Q I h;refine thn (ha pins s σ H _ I h) λv s1 ⟨x,H1,I1,r1,q1⟩=>?_;exact Constant_none (is_none_gen ⟨.bl _,H1,I1,by rw[r1.none_iff];rfl,q1⟩)
inductive tBR (Q:Bool->Hp->Prop) (x:V) (H1:Hp):Prop
 |mk:∀c,x=.bl c->Q c H1->tBR Q x H1
def tB(t:TE):TT:=λσ H Q=>t σ H λx H1=>tBR Q x H1
theorem hE_{t:TE}(h:PC X op a b t)(h1:behindInMarks op b=false:=by first|exact nobehind _ (by decide) (by decide)|rfl):PE X (.Compare a [op] [b] pos) t:=λpins s σ H Q I hw=>wpAny_Compare1 (h pins s σ H Q I hw) h1
theorem bb_{t:TE}(h:PC X op a b t)(h1:behindInMarks op b=false:=by first|exact nobehind _ (by decide) (by decide)|rfl):PT X (.Compare a [op] [b] pos) (tB t):=by
 intro pins s σ H Q I hw;refine wpAny_isTrue_Compare1 (thn (h pins s σ H _ I hw) λv s1 h1=>thn h1 λu s2 h2=>thn h2 λc s3 ⟨x,H1,I1,r1,q1⟩=>?_) h1;obtain⟨d,rfl,q⟩:=q1;cases r1;exact d_2 ⟨H1,I1,q⟩
theorem az_{e:Expr}{t:TE}(h:PE X e t)(he:∀whole,isTrue e X.env whole=(do let v <- whole;standAt e.pos;holding [v] (truthy v)):=by intro _;rfl):PT X e (tB t):=by
 intro pins s σ H Q I hw;refine isTrue_plain (thn (h pins s σ H _ I hw) λv s1 ⟨x,H1,I1,r1,q1⟩=>?_) (he _);obtain⟨d,rfl,q⟩:=q1;cases r1;exact d_2 ⟨H1,I1,q⟩
variable{tA tB':TT}{rest:List Expr}
def tAnd(t u:TT):TT:=λσ H Q=>t σ H λc H1=>if c=true then u σ H1 Q else Q false H1
def tOr(t u:TT):TT:=λσ H Q=>t σ H λc H1=>if c=true then Q true H1 else u σ H1 Q
def tNot(t:TT):TT:=λσ H Q=>t σ H λc H1=>Q (!c) H1
theorem el_(ha:PT X a tA):PW X (.BoolOp .And [a] pos) tA:=by
 intro wh pins s σ H Q I h;refine isTrue_and (thn (ha pins s σ H Q I h) λc s1 e=>?_);cases c with
 |true=>exact isTrue_and_nil e
 |false=>exact e
theorem bI_(ha:PT X a tA):PW X (.BoolOp .Or [a] pos) tA:=by
 intro wh pins s σ H Q I h;refine isTrue_or (thn (ha pins s σ H Q I h) λc s1 e=>?_);cases c with
 |false=>exact isTrue_or_nil e
 |true=>exact e
theorem do_(ha:PT X a tA)(hb:PW X (.BoolOp .And (b::rest) pos) tB'):PW X (.BoolOp .And (a::b::rest) pos) (tAnd tA tB'):=by
 intro wh pins s σ H Q I h;refine isTrue_and (thn (ha pins s σ H _ I h) λc s1 ⟨H1,I1,q1⟩=>?_);cases c with
 |true=>exact hb wh pins s1 σ H1 Q I1 q1
 |false=>exact⟨H1,I1,q1⟩
theorem cm_(ha:PT X a tA)(hb:PW X (.BoolOp .Or (b::rest) pos) tB'):PW X (.BoolOp .Or (a::b::rest) pos) (tOr tA tB'):=by
 intro wh pins s σ H Q I h;refine isTrue_or (thn (ha pins s σ H _ I h) λc s1 ⟨H1,I1,q1⟩=>?_);cases c with
 |true=>exact⟨H1,I1,q1⟩
 |false=>exact hb wh pins s1 σ H1 Q I1 q1
theorem ax_(ha:PT X a tA):PT X (.UnaryOp .Not a pos) (tNot tA):=by
 intro pins s σ H Q I h;exact isTrue_not (ha pins s σ H (λc H1=>Q (!c) H1) I h)
inductive tAndVR (tb:TE) (σ:St) (Q:VK) (x:V) (H1:Hp):Prop
 |mk:∀c,x=.bl c->(if c=true then tb σ H1 Q else Q (.bl false) H1)->tAndVR tb σ Q x H1
def tAndV(ta tb:TE):TE:=λσ H Q=>ta σ H λx H1=>tAndVR tb σ Q x H1
inductive tOrVR (tb:TE) (σ:St) (Q:VK) (x:V) (H1:Hp):Prop
 |mk:∀c,x=.bl c->(if c=true then Q (.bl true) H1 else tb σ H1 Q)->tOrVR tb σ Q x H1
def tOrV(ta tb:TE):TE:=λσ H Q=>ta σ H λx H1=>tOrVR tb σ Q x H1
inductive tNotVR (Q:VK) (x:V) (H1:Hp):Prop
 |mk:∀c,x=.bl c->Q (.bl (!c)) H1->tNotVR Q x H1
def tNotV(ta:TE):TE:=λσ H Q=>ta σ H λx H1=>tNotVR Q x H1
theorem bs_{op}{t:TE}(h:PE X a t):PE X (.BoolOp op [a] pos) t:=λpins s σ H Q I hw=>BoolOp_one (h pins s σ H Q I hw)
theorem bh_(ha:PE X a ta)(hb:PE X (.BoolOp .And (b::rest) pos) tb):PE X (.BoolOp .And (a::b::rest) pos) (tAndV ta tb):=by
 intro pins s σ H Q I h;refine BoolOp_and (thn (ha pins s σ H _ I h) λv s1 ⟨x,H1,I1,r1,q1⟩=>?_);obtain⟨c,rfl,q1⟩:=q1;cases r1;refine d_2 ?_;cases c with
 |true=>exact hb pins s1 σ H1 Q I1 q1
 |false=>exact⟨.bl false,H1,I1,rfl,q1⟩
theorem ky_(ha:PE X a ta)(hb:PE X (.BoolOp .Or (b::rest) pos) tb):PE X (.BoolOp .Or (a::b::rest) pos) (tOrV ta tb):=by
 intro pins s σ H Q I h;refine BoolOp_or (thn (ha pins s σ H _ I h) λv s1 ⟨x,H1,I1,r1,q1⟩=>?_);obtain⟨c,rfl,q1⟩:=q1;cases r1;refine d_2 ?_;cases c with
 |false=>exact hb pins s1 σ H1 Q I1 q1
 |true=>exact⟨.bl true,H1,I1,rfl,q1⟩
theorem eX_(ha:PE X a ta):PE X (.UnaryOp .Not a pos) (tNotV ta):=by
 intro pins s σ H Q I h;refine UnaryOp_ (thn (ha pins s σ H _ I h) λv s1 ⟨x,H1,I1,r1,q1⟩=>?_);obtain⟨c,rfl,q1⟩:=q1;cases r1;exact not_of (d_2 ⟨.bl (!c),H1,I1,rfl,q1⟩)
def tIf(t:TT)(ta tb:TE):TE:=λσ H Q=>t σ H λc H1=>if c=true then ta σ H1 Q else tb σ H1 Q
theorem g5_(hc:PT X c tA)(ha:PE X a ta)(hb:PE X b tb):PE X (.IfExp c a b pos) (tIf tA ta tb):=by
 intro pins s σ H Q I h;refine wpAny_IfExp (thn (hc pins s σ H _ I h) λd s1 ⟨H1,I1,q1⟩=>?_);cases d with
 |true=>exact ha pins s1 σ H1 Q I1 q1
 |false=>exact hb pins s1 σ H1 Q I1 q1
end
def SqL(K:F__)(H:Hp)(a:Addr)(xs:List V):Prop:=
 Rd H a (.lst xs) ∨
  ∃(o:Obj) (its:Array Aa) (n:Nat),K.lookup a=some o/\o.cls=.type "list"/\o.dict=none/\o.data=.seq its n/\its.size<=sizeLine/\Vals xs its.toList
def SqT(K:F__)(H:Hp)(a:Addr)(xs:List V):Prop:=
 Rd H a (.tup xs) ∨
  ∃(o:Obj) (its:Array Aa) (n:Nat),K.lookup a=some o/\o.cls=.type "tuple"/\o.data=.seq its n/\its.size<=sizeLine/\Vals xs its.toList
def absV:Aa->Option V
 |.none=>some .non
 |.bool b=>some (.bl b)
 |.int i _=>some (.int i)
 |.str x _=>some (.str x)
 |.bytes b _=>some (.byt b)
 |.float b _=>some (.flt b)
 |.ref a=>some (.ref a)
 |.type n=>some (.ty n)
 |_=>none
theorem RelV.abs{x:V}{u:Aa}(r:RelV x u):absV u=some x:=by
 cases x with
 |non=>cases r;rfl
 |bl _=>cases r;rfl
 |int _=>obtain⟨t,rfl⟩:=r;rfl
 |str _=>obtain⟨t,rfl⟩:=r;rfl
 |byt _=>obtain⟨t,rfl⟩:=r;rfl
 |flt _=>obtain⟨t,rfl⟩:=r;rfl
 |ref _=>cases r;rfl
 |ty _=>cases r;rfl
theorem RelV.inj{x y:V}{u:Aa}(r:RelV x u)(q:RelV y u):x=y:=b_7 (r.abs.symm.trans q.abs)
theorem Vals.inj:∀{xs ys:List V} {us:List Aa},Vals xs us->Vals ys us->xs=ys
 |_,_,_,.nil,.nil=>rfl
 |_,_,_,.cons r t,.cons r' t'=>by rw[r.inj r',Vals.inj t t']
section
variable{X:Cx}{pins:List (Addr × Obj)}{σ:St}{H:Hp}{s:Ab}{a:Addr}{xs ys:List V}
theorem SqL.of{K:F__}(h:H a=some (.lst xs)):SqL K H a xs:=.inl (.inl h)
theorem SqT.of{K:F__}(h:H a=some (.tup xs)):SqT K H a xs:=.inl (.inl h)
theorem Inv.list(I:Inv X pins σ H s)(h:SqL X.K H a xs):∃its:List Aa,Vals xs its/\PlainL s.heap a its.toArray/\xs.length<=sizeLine:=by
 rcases h with h|⟨o,its,n,hk,hc,hd,hs,hz,r⟩
 ·obtain⟨z,its,n,r,e⟩:=h.ok I.hok;exact⟨its,r,⟨_,n,e,rfl,rfl,rfl⟩,z⟩
 ·refine⟨its.toList,r,⟨o,n,I.kIn a o hk,hc,hd,by simpa using hs⟩,?_⟩;have e:=r.length;simp only[aK'] at e;omega
theorem Inv.tuple(I:Inv X pins σ H s)(h:SqT X.K H a xs):∃its:List Aa,Vals xs its/\IsTup s.heap a its.toArray/\xs.length<=sizeLine:=by
 rcases h with h|⟨o,its,n,hk,hc,hs,hz,r⟩
 ·obtain⟨z,its,r,p,_⟩:=h.ok I.hok;exact⟨its,r,p,z⟩
 ·refine⟨its.toList,r,⟨o,I.kIn a o hk,hc,n,by simpa using hs⟩,?_⟩;have e:=r.length;simp only[aK'] at e;omega
theorem Inv.list_inj(I:Inv X pins σ H s)(h:SqL X.K H a xs)(h':SqL X.K H a ys):xs=ys:=by
 obtain⟨its,r,⟨o,n,e,_,_,d⟩,_⟩:=I.list h;obtain⟨its',r',⟨o',n',e',_,_,d'⟩,_⟩:=I.list h';rw[e] at e';cases e';rw[d] at d'
 injection d' with d1 _
 have:its=its':=by simpa using c_5 Array.toList d1
 subst this;exact r.inj r'
theorem Inv.tuple_inj(I:Inv X pins σ H s)(h:SqT X.K H a xs)(h':SqT X.K H a ys):xs=ys:=by
 obtain⟨its,r,⟨o,e,_,n,d⟩,_⟩:=I.tuple h;obtain⟨its',r',⟨o',e',_,n',d'⟩,_⟩:=I.tuple h';rw[e] at e';cases e';rw[d] at d'
 injection d' with d1 _
 have:its=its':=by simpa using c_5 Array.toList d1
 subst this;exact r.inj r'
end
abbrev Cx.wish(X:Cx)(E:Aa->Ab->Prop):Cx:={ X with xe:=E }
abbrev Cx.nox(X:Cx):Cx:=X.wish λ_ _=>False
theorem Cx.Ok.wish{X:Cx}(ok:X.Ok)(E:Aa->Ab->Prop):(X.wish E).Ok:=
 ⟨ok.mod,ok.kind,ok.glob,ok.blt,ok.above,ok.inj,ok.has,ok.cab,ok.hd,ok.frames,ok.stk,ok.exf,ok.bs,ok.bsz,ok.noex,ok.exfs,ok.funs,ok.frf⟩
theorem Cx.Ok.unwish{X:Cx}{E:Aa->Ab->Prop}(ok:(X.wish E).Ok):X.Ok:=
 ⟨ok.mod,ok.kind,ok.glob,ok.blt,ok.above,ok.inj,ok.has,ok.cab,ok.hd,ok.frames,ok.stk,ok.exf,ok.bs,ok.bsz,ok.noex,ok.exfs,ok.funs,ok.frf⟩
section
variable{X:Cx}{pins:List (Addr × Obj)}{σ:St}{H:Hp}{s:Ab}{E:Aa->Ab->Prop}
theorem Inv.wish(I:Inv X pins σ H s)(E:Aa->Ab->Prop):Inv (X.wish E) pins σ H s:=⟨I.ok.wish E,I.os,I.bare,I.base,I.loc,I.cell,I.free,I.freeC,I.pin,I.hok,I.len⟩
theorem Inv.unwish(I:Inv (X.wish E) pins σ H s):Inv X pins σ H s:=⟨I.ok.unwish,I.os,I.bare,I.base,I.loc,I.cell,I.free,I.freeC,I.pin,I.hok,I.len⟩
theorem SP.unwish{D:Ends}{f:Flow}(h:SP (X.wish E) pins D f s'):SP X pins D f s':=by
 cases f with
 |next=>obtain⟨σ',H',I,q⟩:=h;exact⟨σ',H',I.unwish,q⟩
 |brk=>obtain⟨σ',H',I,q⟩:=h;exact⟨σ',H',I.unwish,q⟩
 |cont=>obtain⟨σ',H',I,q⟩:=h;exact⟨σ',H',I.unwish,q⟩
 |ret u=>obtain⟨v,σ',H',I,r,q⟩:=h;exact⟨v,σ',H',I.unwish,r,q⟩
theorem PSs.nox{st:List Stmt}{t:TS}(h:PSs X.nox st t):PSs X st t:=λpins s σ H D I hw=>
 c_6 (h pins s σ H D (I.wish _) hw) (λ_ _ q=>q.unwish) λ_ _ z=>False.elim z
end
section
variable{X:Cx}{st:Stmt}{rest:List Stmt}{t u:TS}{e:Expr}{te:TE}{pos:Pos}
def tNext:TS:=λD σ H=>D.nx σ H
def tSeq(t u:TS):TS:=λD σ H=>t { D with nx:=u D } σ H
theorem aa_:PSs X [] tNext:=λ_ _ σ H _ I h=>wpAny_execs_nil ⟨σ,H,I,h⟩
theorem a3_(h1:PS X st t)(h2:PSs X rest u):PSs X (st::rest) (tSeq t u):=by
 intro pins s σ H D I h;refine wpAny_execs_cons (thn (h1 pins s σ H { D with nx:=u D } I h) λf s1 q=>?_);cases f with
 |next=>
  obtain⟨σ',H',I',q⟩:=q;exact h2 pins s1 σ' H' D I' q
 |ret v=>exact q
 |brk=>exact q
 |cont=>exact q
theorem a5_(h1:PS X st t):PSs X [st] t:=by
 intro pins s σ H D I h;refine wpAny_execs_cons (thn (h1 pins s σ H D I h) λf s1 q=>?_);cases f with
 |next=>exact wpAny_execs_nil q
 |ret v=>exact q
 |brk=>exact q
 |cont=>exact q
theorem Inv.quiet{pins:List (Addr × Obj)}{H:Hp}{s:Ab}(I:Inv X pins σ H s):interactive X.env=false:=by simp[interactive,I.ok.kind]
def tDrop(te:TE):TS:=λD σ H=>te σ H λ_ H1=>D.nx σ H1
theorem bv_(he:PE X e te)(hs:swapsWith e none pos.line X.env=pure false:=by rfl):PS X (.Expr e pos) (tDrop te):=by
 intro pins s σ H D I h;exact wpAny_Expr_any (thn (he pins s σ H _ I h) λv s1 ⟨x,H1,I1,r1,q1⟩=>⟨σ,H1,I1,q1⟩) I.quiet hs
def tRet(te:TE):TS:=λD σ H=>te σ H D.rt
theorem af_(he:PE X e te):PS X (.Return (some e) pos) (tRet te):=by
 intro pins s σ H D I h;exact wpAny_Return_some (thn (he pins s σ H _ I h) λv s1 ⟨x,H1,I1,r1,q1⟩=>⟨x,σ,H1,I1,r1,q1⟩)
def tIfS(c:TT)(t u:TS):TS:=λD σ H=>c σ H λb H1=>if b=true then t D σ H1 else u D σ H1
theorem ak_{a b:List Stmt}{tc:TT}(hc:PT X c tc)(ha:PSs X a t)(hb:PSs X b u):PS X (.If c a b pos) (tIfS tc t u):=by
 intro pins s σ H D I h;refine wpAny_If (thn (hc pins s σ H _ I h) λd s1 ⟨H1,I1,q1⟩=>?_);cases d with
 |true=>exact ha pins s1 σ H1 D I1 q1
 |false=>exact hb pins s1 σ H1 D I1 q1
def tNever:TS:=λ_ _ _=>False
theorem ab_{sts:List Stmt}:PSs X sts tNever:=λ_ _ _ _ _ _ h=>h.elim
end
abbrev TG:=V->St->Hp->(St->Hp->Prop)->Prop
abbrev TGs:=List V->St->Hp->(St->Hp->Prop)->Prop
def PG(X:Cx)(target:Expr)(t:TG):Prop:=
 ∀(pins:List (Addr × Obj)) (s:Ab) (σ:St) (H:Hp) (v:V) (u:Aa) (Q:St->Hp->Prop),Inv X pins σ H s->RelV v u->t v σ H Q->
  wpAny (model X.prog X.w) X.A (assign target X.env u) (λ_ s'=>∃σ' H',Inv X pins σ' H' s'/\Q σ' H') X.xe s
def PGs(X:Cx)(ts:List Expr)(t:TGs):Prop:=
 ∀(pins:List (Addr × Obj)) (s:Ab) (σ:St) (H:Hp) (vs:List V) (us:List Aa) (Q:St->Hp->Prop),Inv X pins σ H s->Vals vs us->t vs σ H Q->
  wpAny (model X.prog X.w) X.A (assignInOrder ((assignEach ts X.env).map (·.2)) us) (λ_ s'=>∃σ' H',Inv X pins σ' H' s'/\Q σ' H') X.xe s
abbrev TSet:=V->V->V->Hp->(Hp->Prop)->Prop
def PSet(X:Cx)(t:TSet):Prop:=
 ∀(pins:List (Addr × Obj)) (s:Ab) (σ:St) (H:Hp) (o i v:V) (ov iv u:Aa) (Q:Hp->Prop),Inv X pins σ H s->RelV o ov->RelV i iv->RelV v u->t o i v H Q->
  wpAny (model X.prog X.w) X.A (setItem ov iv u) (λ_ s'=>∃H',Inv X pins σ H' s'/\Q H') X.xe s
variable{es:List Expr}
variable{k n:Nat}
variable{tg:Expr}{te:TE}
section
variable{X:Cx}{pos:Pos}
def b1'(i:Nat):TG:=λv σ H Q=>Q (σ.set i (some v)) H
theorem ac_{i:Nat}{x:Str}(hN:X.N.Nodup)(hi:X.N[i]? = some x)(hx:Loc X.env.scope x)(hf:X.fn x=true∨X.env.scope.names.lookup x=some .local:=by first|exact .inl rfl|exact .inr rfl|assumption):PG X (.Name x pos) (b1' i):=by
 intro pins s σ H v u Q I r h;exact wpAny_assign_Name (d8_ I hN hi hx r (λs' I'=>⟨_,H,I',h⟩) hf)
def gNil:TGs:=λvs σ H Q=>vs=[]/\Q σ H
inductive dh' (t:TG) (u:TGs) (vs:List V) (σ:St) (H:Hp) (Q:St->Hp->Prop):Prop
 |mk:∀v r,vs=v::r->(t v σ H λσ' H'=>u r σ' H' Q)->dh' t u vs σ H Q
theorem b3_:PGs X [] gNil:=by
 intro pins s σ H vs us Q I r h;obtain⟨e,h⟩:=h;subst e;cases r;exact assignInOrder_nil ⟨σ,H,I,h⟩
theorem aj_{e:Expr}{t:TG}{u:TGs}(h1:PG X e t)(h2:PGs X es u)(hs:(assignEach (e::es) X.env).map (·.2)=assign e X.env::(assignEach es X.env).map (·.2):=by rfl):PGs X (e::es) (dh' t u):=by
 intro pins s σ H vs us Q I r h;obtain⟨v,vr,e1,h⟩:=h;subst e1;cases r with
 |cons r rr=>
  rw[hs];refine assignInOrder_cons (thn (h1 pins s σ H _ _ _ I r h) λ_ s1 ⟨σ1,H1,I1,q1⟩=>?_);exact h2 pins s1 σ1 H1 _ _ Q I1 rr q1
inductive gTup (K:F__) (n:Nat) (t:TGs) (v:V) (σ:St) (H:Hp) (Q:St->Hp->Prop):Prop
 |mk:∀a xs,v=.ref a->SqT K H a xs->xs.length=n->t xs σ H Q->gTup K n t v σ H Q
theorem ch_{t:TGs}(hc:X.calm=true)(h:PGs X es t)(hn:(assignEach es X.env).length=n:=by rfl)(hst:(assignEach es X.env).findIdx? (·.1)=none:=by rfl):PG X (.Tuple es k pos) (gTup X.K n t):=by
 intro pins s σ H v u Q I r hw;obtain⟨a,xs,e1,hq,hl,hw⟩:=hw;subst e1;cases r;obtain⟨its,rv,ht,hz⟩:=I.tuple hq;refine assign_Tuple_tuple (I.ok.hd hc) ht (by simp[hn,<- hl,rv.length]) hst λh' hx=>?_;have I1:Inv X pins σ H { s with heap:=h' }:=I.kept (t':=s.toks) λb o e=>hx b o (av' (a_6 e)) e;exact h pins _ σ H xs _ Q I1 (by simpa using rv) hw
def gSub(to ti:TE)(t:TSet):TG:=λv σ H Q=>to σ H λo H1=>ti σ H1 λi H2=>t o i v H2 λH3=>Q σ H3
theorem hw_{o i:Expr}{to ti:TE}{t:TSet}(ho:PE X o to)(hi:PE X i ti)(hs:PSet X t)
  (ha:∀v,assign (.Subscript o i pos) X.env v=(do
   let ov <- holding [v] (eval o X.env)
   let iv <- holding [v,ov] (eval i X.env)
   standAt pos
   holding [v,ov,iv] (setItem ov iv v)
   release [v,ov,iv] []):=by intro _;rfl):PG X (.Subscript o i pos) (gSub to ti t):=by
 intro pins s σ H v u Q I r h;rw[ha];refine a__ (c_4 (thn (ho pins s σ H _ I h) λov s1 ⟨x,H1,I1,r1,q1⟩=>?_));refine a__ (c_4 (thn (hi pins s1 σ H1 _ I1 q1) λiv s2 ⟨y,H2,I2,r2,q2⟩=>?_));refine a__ (wpAny_standAt (a__ (c_4 (thn (hs pins s2 σ H2 x y v ov iv u _ I2 r1 r2 r q2) λ_ s3 ⟨H3,I3,q3⟩=>?_))));exact wpAny_release ⟨σ,H3,I3,q3⟩
def tAsg(te:TE)(g:TG):TS:=λD σ H=>te σ H λx H1=>g x σ H1 D.nx
theorem gs_{e:Expr}{g:TG}(he:PE X e te)(hg:PG X tg g)(hs:swapsWithSole [tg] e pos.line X.env=pure false:=by rfl)(hw:swappedStores [tg] e X.env=pure none:=by rfl)(h1:(assignEach [tg] X.env).map (·.2)=[assign tg X.env]:=by rfl):PS X (.Assign [tg] e pos) (tAsg te g):=by
 intro pins s σ H D I h;refine wpAny_Assign_stores (thn (he pins s σ H _ I h) λv s1 ⟨x,H1,I1,r1,q1⟩=>?_) hs hw;rw[h1];exact thn (hg pins s1 σ H1 x v _ I1 r1 q1) λ_ s2 q=>q
theorem ae_{i:Nat}{x:Str}{e:Expr}{pos':Pos}(hN:X.N.Nodup)(hi:X.N[i]? = some x)(hx:Loc X.env.scope x)(he:PE X e te)(hs:swapsWith e (some (.Name x pos')) pos.line X.env=pure false:=by rfl)(hf:X.fn x=true∨X.env.scope.names.lookup x=some .local:=by first|exact .inl rfl|exact .inr rfl|assumption) :
  PS X (.Assign [.Name x pos'] e pos) (tAsg te (b1' i)):=by
 intro pins s σ H D I h;refine wpAny_Assign_Name (thn (he pins s σ H _ I h) λv s1 ⟨y,H1,I1,r1,q1⟩=>?_) hs;exact d8_ I1 hN hi hx r1 (λs2 I2=>⟨_,H1,I2,q1⟩) hf
end
section
variable{X:Cx}{pos:Pos}
end
structure It where
 go:Nat->Hp->Prop
 yld:Nat->Hp->V->Hp->Prop
 stop:Nat->Hp->Prop
def FpOk(X:Cx)(pins:List (Addr × Obj))(H:Hp)(b:Addr):Prop:=
 H b=none/\b≠X.env.locals/\b∉X.fs/\(b∈X.ex∨X.s₀.heap.objs.size<=b)/\(∀x c,X.env.cells.lookup x=some c->c≠b)/\∀p∈X.pn++pins,p.1≠b
theorem Inv.fpOk{X:Cx}{pins:List (Addr × Obj)}{H H':Hp}{s:Ab}(I:Inv X pins σ H s)(hb:s.heap.objs.size<=b)(hn:H' b=none):FpOk X pins H' b:=by
 refine⟨hn,a4' (ar' I.lt hb),I.nofs hb,.inr (aO' I.sz hb),λx c e z=>?_,λp hp z=>?_⟩
 ·obtain⟨v,q⟩:=I.cell x c e;exact absurd (ar' q.lt (by rw[z];exact hb)) (a3' _)
 ·exact absurd (ar' (a_6 (I.pin p hp).1) (by rw[z];exact hb)) (a3' _)
structure Turn (P:Ad) (w:Af) (K:F__) (tg:Expr) (J:It) (fp:List Addr) (it:Addr) (tn:Nat->Heap->Prop):Prop where
 mem:it∈fp
 obj:∀i h,tn i h->∀b∈fp,∃o,h.get? b=some o/\∀v,o.data≠.cell v
 keep:∀i h h',tn i h->(∀b∈fp,∀o,h.get? b=some o->h'.get? b=some o)->tn i h'
 item:∀(X:Cx),X.prog=P->X.w=w->X.K=K->X.calm=true->∀(i:Nat) (pins:List (Addr × Obj)) (s:Ab) (σ:St) (H:Hp) (E:Aa->Ab->Prop),Inv X pins σ H s->(∀b∈fp,FpOk X pins H b)->tn i s.heap->J.go i H->
  wpAny (model P w) X.A (pyNext (.ref it)) (λr s1=>∃u,r=some u /\
   wpAny (model P w) X.A (letOwnedTupleGo tg (.ref it) u) (λ_ s2=>∃x H',Inv X pins σ H' s2/\RelV x u/\J.yld i H x H'/\tn (i+1) s2.heap/\∀b∈fp,H' b=none) E s1) E s
 done:∀(X:Cx),X.prog=P->X.w=w->X.K=K->X.calm=true->∀(i:Nat) (pins:List (Addr × Obj)) (s:Ab) (σ:St) (H:Hp) (E:Aa->Ab->Prop),Inv X pins σ H s->(∀b∈fp,FpOk X pins H b)->tn i s.heap->J.stop i H->
  wpAny (model P w) X.A (pyNext (.ref it)) (λr s1=>r=none/\Inv X pins σ H s1) E s
 self:∀(A:Ag) (i:Nat) (s:Ab) (Q:Aa->Ab->Prop) (E:Aa->Ab->Prop),tn i s.heap->Q (.ref it) s->wpAny (model P w) A (pyIter (.ref it)) Q E s
abbrev TI:=St->Hp->(It->Hp->Prop)->Prop
def PIE(X:Cx)(pins:List (Addr × Obj))(σ:St)(tg:Expr)(R:It->Hp->Prop)(itv:Aa)(s2:Ab):Prop:=
 ∃(it:Addr) (fp:List Addr) (tn:Nat->Heap->Prop) (J:It) (H':Hp),itv=.ref it/\Inv X pins σ H' s2/\Turn X.prog X.w X.K tg J fp it tn/\tn 0 s2.heap/\(∀b∈fp,FpOk X pins H' b)/\R J H'
def PI(X:Cx)(tg iter:Expr)(wi:TI):Prop:=
 ∀(pins:List (Addr × Obj)) (s:Ab) (σ:St) (H:Hp) (R:It->Hp->Prop),Inv X pins σ H s->wi σ H R->
  wpAny (model X.prog X.w) X.A (eval iter X.env) (λv s1=>wpAny (model X.prog X.w) X.A (pyIter v) (PIE X pins σ tg R) X.xe s1) X.xe s
variable{u:Aa}
theorem jn_{A:Ag}{E:Aa->Ab->Prop}{s:Ab}{n:Ah}{vs:Array Aa}{Q:Unit->Ab->Prop}(ho:s.heap.get? it=some o)(hc:o.cls=.type n)(hd:o.data=.fields vs)(hn:["enumerate","zip","dict_itemiterator","dict_reverseitemiterator","odict_iterator","itertools.zip_longest","itertools.pairwise"].contains n=false)(hQ:Q () s):wpAny M A (letOwnedTupleGo tg (.ref it) u) Q E s:=by
 unfold letOwnedTupleGo
 cases tg<;>first
  |exact a_4 hQ
  |(cases u<;>first
    |exact a_4 hQ
    |(refine a__ (wpAny_load ho ?_)
      rw[hc,hd];show wpAny M A (if (["enumerate","zip","dict_itemiterator","dict_reverseitemiterator","odict_iterator","itertools.zip_longest","itertools.pairwise"].contains n&&vs[0]? == some (rawInt _))=true then _ else _) Q E s;rw[a_5 (by intro h;rw[hn,a1'] at h;cases h)];exact a_4 hQ))
def Itl(K:F__)(a:Addr):It:=
 ⟨λi H=>∃xs x,SqL K H a xs/\xs[i]? = some x,λi H x H'=>H'=H/\∀xs,SqL K H a xs->xs[i]? = some x,λi H=>∃xs,SqL K H a xs/\xs.length<=i⟩
def Itr(lo:Int)(n:Nat):It:=⟨λi _=>i<n,λi H x H'=>H'=H/\x=.int (lo+i),λi _=>n<=i⟩
variable{w:Af}
theorem hV_{K:F__}(a it:Addr):Turn P w K tg (Itl K a) [it] it (λi h=>h.IsListIter it a i) where
 mem:=by simp
 obj:=λi h st b hb=>by
  have e:b=it:=by simpa using hb
  subst e;obtain⟨o,e,c,d⟩:=st;exact⟨o,e,λv z=>by rw[d] at z;cases z⟩
 keep:=λi h h' st k=>st.at λo e=>k it Z2 o e
 item:=by
  intro X hP hw hK hc i pins s σ H E I hf st hg;subst hP hw hK;obtain⟨xs,x,hq,hx⟩:=hg;obtain⟨its,rv,p,hz⟩:=I.list hq;obtain⟨u,hu,ru⟩:=rv.get hx;obtain⟨f0,f1,f2,f3,f4,f5⟩:=hf it Z2;refine wpAny_pyNext_list_item st p.isList (x:=u) (by simpa using hu) λh' st' sb=>?_;have I1:Inv X pins σ H { s with heap:=h' }:=I.turned (t':=s.toks) (λb o hb e=>(sb.2 b hb).trans e) f0 f1 f3 f4 f5;obtain⟨o,e,c,d⟩:=id st';exact⟨u,rfl,jn_ (s:={ s with heap:=h' }) e c d (by decide) ⟨x,H,I1,ru,⟨rfl,λys hy=>by rw[I.list_inj hy hq];exact hx⟩,st',λb hb=>(hf b hb).1⟩⟩
 done:=by
  intro X hP hw hK hc i pins s σ H E I hf st hg;subst hP hw hK;obtain⟨xs,hq,hx⟩:=hg;obtain⟨its,rv,p,hz⟩:=I.list hq;obtain⟨f0,f1,f2,f3,f4,f5⟩:=hf it Z2;have hl:=rv.length;exact wpAny_pyNext_list_end (I.ok.hd hc) st p.isList (by simp;omega) λh' eb=>⟨rfl,I.turned (t':=s.toks) (λb o hb e=>eb b o hb e) f0 f1 f3 f4 f5⟩
 self:=λ_ _ _ _ _ st h=>wpAny_pyIter_listiter st h
theorem hb_{K:F__}(it:Addr)(lo:Int)(n:Nat):Turn P w K tg (Itr lo n) [it] it (λi h=>IsRangeIter h it (lo+(i:Nat) * 1) ((n:Int) - (i:Nat)) 1) where
 mem:=by simp
 obj:=λi h st b hb=>by
  have e:b=it:=by simpa using hb
  subst e
  exact⟨_,st,λv z=>by
   have z':Data.fields _=Data.cell v:=z;cases z'⟩
 keep:=λi h h' st k=>k it Z2 _ st
 item:=by
  intro X hP hw hK hc i pins s σ H E I hf st hg;subst hP hw hK;obtain⟨f0,f1,f2,f3,f4,f5⟩:=hf it Z2;have W:=Walks.range (prog:=X.prog) (w:=X.w) (I.ok.hd hc) it lo 1 n;refine W.item i s _ _ hg st λv h' tk hv st' kk=>?_;obtain⟨t,rfl⟩:=hv;have I1:Inv X pins σ H { s with heap:=h',toks:=tk }:=I.turned (λb o hb e=>kk b o (by simpa using hb) e) f0 f1 f3 f4 f5;refine⟨_,rfl,jn_ (s:={ s with heap:=h',toks:=tk }) (n:="range_iterator") st' rfl rfl (by decide) ⟨.int (lo+i),H,I1,⟨t,?_⟩,⟨rfl,rfl⟩,st',λb hb=>(hf b hb).1⟩⟩;rw[Int.mul_one]
 done:=by
  intro X hP hw hK hc i pins s σ H E I hf st hg;subst hP hw hK;obtain⟨f0,f1,f2,f3,f4,f5⟩:=hf it Z2;exact wpAny_pyNext_range_end (I.ok.hd hc) st (by have:n<=i:=hg;omega) λh' eb=>⟨rfl,I.turned (t':=s.toks) (λb o hb e=>eb b o hb e) f0 f1 f3 f4 f5⟩
 self:=λ_ _ _ _ _ st h=>wpAny_pyIter_rangeiter st h
inductive iListR (K:F__) (R:It->Hp->Prop) (x:V) (H1:Hp):Prop
 |mk:∀a,x=.ref a->(∃xs,SqL K H1 a xs)->R (Itl K a) H1->iListR K R x H1
def iList(K:F__)(tl:TE):TI:=λσ H R=>tl σ H λx H1=>iListR K R x H1
variable{X:Cx}
theorem am_{l:Expr}{tl:TE}(hl:PE X l tl):PI X tg l (iList X.K tl):=by
 intro pins s σ H R I h;refine thn (hl pins s σ H _ I h) λv s1 ⟨x,H1,I1,r1,q1⟩=>?_;obtain⟨a,e,⟨xs,hq⟩,q⟩:=q1;subst e;cases r1;obtain⟨its,rv,p,hz⟩:=I1.list hq;refine wpAny_pyIter_list p.isList ?_;refine⟨s1.heap.objs.size,[s1.heap.objs.size],_,_,H1,rfl,I1.kept (t':=s1.toks) λb o e=>a_0 _ e,hV_ a _,⟨_,b_0 _ rfl,rfl,rfl⟩,λb hb=>?_,q⟩;have e:b=s1.heap.objs.size:=by simpa using hb
 subst e;exact I1.fpOk (ai' _) (I1.hok.fresh (ai' _))
variable{pins:List (Addr × Obj)}{lo:Int}
theorem gd_{H:Hp}{s:Ab}{R:It->Hp->Prop}{E:Aa->Ab->Prop}{hi:Int}{t u v:Tok}{tk:Nat}(I:Inv X pins σ H s)(h1:-(2 ^ 62)<=lo)(h2:lo<2 ^ 62)(h3:-(2 ^ 62)<=hi)(h4:hi<2 ^ 62)(q:R (Itr lo (hi - lo).toNat) H):wpAny (model X.prog X.w) X.A (pyIter (.ref s.heap.objs.size)) (PIE X pins σ tg R) E { s with heap:=s.heap.push { cls:=.type "range",data:=.fields #[.int lo t,.int hi u,.int 1 v] },toks:=tk }:=by
 refine wpAny_pyIter_range (IsRange.new ..) (small_one h1 h2 h3 h4) ?_;have I1:Inv X pins σ H { s with heap:=s.heap.push { cls:=.type "range",data:=.fields #[.int lo t,.int hi u,.int 1 v] },toks:=tk }:=I.kept λb o e=>a_0 _ e
 refine⟨(s.heap.push { cls:=.type "range",data:=.fields #[.int lo t,.int hi u,.int 1 v] }).objs.size,[(s.heap.push { cls:=.type "range",data:=.fields #[.int lo t,.int hi u,.int 1 v] }).objs.size],_,_,H,rfl,
  I1.kept (t':=tk) λb o e=>a_0 _ e,hb_ _ lo (hi - lo).toNat,?_,λb hb=>?_,q⟩
 ·have e1:lo+((0:Nat):Int) * 1=lo:=by simp
  have e2:(((hi - lo).toNat:Nat):Int) - ((0:Nat):Int)=Builtin.Range.rangeSize lo hi 1:=by rw[rangeSize_one];split<;>omega
  show IsRangeIter _ _ (lo+((0:Nat):Int) * 1) ((((hi - lo).toNat:Nat):Int) - ((0:Nat):Int)) 1;rw[e1,e2];exact b_0 _ rfl
 ·have e:b=(s.heap.push { cls:=.type "range",data:=.fields #[.int lo t,.int hi u,.int 1 v] }).objs.size:=by simpa using hb
  subst e;exact I1.fpOk (ai' _) (I1.hok.fresh (ai' _))
inductive iRng1R (R:It->Hp->Prop) (vs:List V) (H1:Hp):Prop
 |mk:∀j:Int,vs=[.int j]->-(2 ^ 62)<=j->j<2 ^ 62->R (Itr 0 j.toNat) H1->iRng1R R vs H1
def iRng1(ta:TA):TI:=λσ H R=>ta σ H λvs H1=>iRng1R R vs H1
inductive iRng2R (R:It->Hp->Prop) (vs:List V) (H1:Hp):Prop
 |mk:∀i j:Int,vs=[.int i,.int j]->(-(2 ^ 62)<=i/\i<2 ^ 62/\-(2 ^ 62)<=j/\j<2 ^ 62)->R (Itr i (j - i).toNat) H1->iRng2R R vs H1
def iRng2(ta:TA):TI:=λσ H R=>ta σ H λvs H1=>iRng2R R vs H1
variable{ta:TA}{p:Pos}
theorem eM_{a:Expr}(hg:Gl X "range")(hm:X.mg "range"=none)(ha:PA X [a] ta)(hs:starEach [a] X.env=[(false,eval a X.env)]:=by rfl):PI X tg (.Call (.Name "range" p) [a] [] pos) (iRng1 ta):=by
 intro pins s σ H R I h;refine Call_ (dU_ I hg hm boot_range (PyProof.Rows.callWith_type1 (thn (ha pos pins s σ H _ I h) λus s1 ⟨vs,H1,I1,r1,q1⟩=>?_) hs rfl));obtain⟨j,e,q1,q2,q⟩:=q1;subst e;cases r1 with
 |cons r rr=>
  cases rr;obtain⟨t,rfl⟩:=r;exact call_range_1 (gd_ I1 Z1 Z1 q1 q2 (by simpa using q))
theorem ir_{a b:Expr}(hg:Gl X "range")(hm:X.mg "range"=none)(ha:PA X [a,b] ta)(hs:starEach [a,b] X.env=[(false,eval a X.env),(false,eval b X.env)]:=by rfl)(hs2:starEach [b] X.env=[(false,eval b X.env)]:=by rfl) :
  PI X tg (.Call (.Name "range" p) [a,b] [] pos) (iRng2 ta):=by
 intro pins s σ H R I h;refine Call_ (dU_ I hg hm boot_range (PyProof.Rows.callWith_type1 (thn (ha pos pins s σ H _ I h) λus s1 ⟨vs,H1,I1,r1,q1⟩=>?_) (by rw[hs,hs2]) (by rw[hs2];rfl)));obtain⟨i,j,e,⟨q1,q2,q3,q4⟩,q⟩:=q1;subst e;cases r1 with
 |cons r rr=>
  cases rr with
  |cons r' rr=>
   cases rr;obtain⟨t,rfl⟩:=r;obtain⟨t',rfl⟩:=r';exact call_range_2 (gd_ I1 q1 q2 q3 q4 q)
def tFor(wi:TI)(g:TG)(tb:TS):TS:=λD σ H=>wi σ H λJ H1=>∃W:Nat->Nat->St->Hp->Prop,(∃m,W 0 m σ H1)/\∀i m σ H,W i m σ H->
 (J.stop i H/\D.nx σ H)∨(J.go i H/\∃N:St->Hp->Prop,(∀σ' H',N σ' H'->∃m',m'<m/\W (i+1) m' σ' H')/\∀x H',J.yld i H x H'->g x σ H' λσ2 H2=>tb { D with nx:=N,ct:=N,bk:=D.nx } σ2 H2)
def d2'(fp:List Addr)(h:Heap):List (Addr × Obj):=fp.filterMap λb=>(h.get? b).map λo=>(b,o)
variable{fp:List Addr}
theorem cg_(hb:b∈fp)(e:h.get? b=some o):(b,o)∈d2' fp h:=aA'.mpr ⟨b,hb,by rw[e];rfl⟩
theorem hm_{p:Addr × Obj}(hp:p∈d2' fp h):p.1∈fp/\h.get? p.1=some p.2:=by
 obtain⟨b,hb,e⟩:=aA'.mp hp;cases q:h.get? b with
 |none=>rw[q] at e;cases e
 |some o=>
  rw[q] at e;have e':(b,o)=p:=b_7 e;subst e';exact⟨hb,q⟩
theorem Inv.pinned{H:Hp}{s:Ab}(I:Inv X pins σ H s)(hf:∀b∈fp,FpOk X pins H b)(ho:∀b∈fp,∃o,s.heap.get? b=some o/\∀v,o.data≠.cell v):Inv X (pins++d2' fp s.heap) σ H s:=
 I.pins_of λp hp=>(aq'.mp hp).elim (λz=>I.pin p (aG' _ z)) λz=>by
  obtain⟨hb,e⟩:=hm_ z;obtain⟨f0,f1,f2,_⟩:=hf p.1 hb;obtain⟨o,e',d⟩:=ho p.1 hb;rw[e] at e';cases e';exact⟨e,f0,f1,f2,d⟩
theorem Inv.unpinned{pl:List (Addr × Obj)}{H:Hp}{s:Ab}(I:Inv X (pins++pl) σ H s):Inv X pins σ H s:=I.pins_of λp hp=>I.pin p (aG' _ (List.mem_append_left _ hp))
variable{body:List Stmt}{tb:TS}
theorem b2_{iter:Expr}{wi:TI}{g:TG}(hp:PassesOwn (model X.prog X.w) X.A X.env X.xe)(hc:X.calm=true)(hi:PI X tg iter wi)(hg:PG X tg g)(hb:PSs X body tb)(hs:∀x,foldedSetIterable iter X.env x=pure x:=by intro _;rfl):PS X (.For tg iter body [] pos) (tFor wi g tb):=by
 intro pins s σ H D I h;refine wpAny_For (thn (hi pins s σ H _ I h) λv s1 h1=>thn h1 λitv s2 h2=>?_) hs;obtain⟨it,fp,tn,J,H2,e,I2,T,st2,f2,W,⟨m0,w0⟩,turn⟩:=h2;subst e;have stat:∀{H':Hp},(∀b∈fp,H' b=none)->∀b∈fp,FpOk X pins H' b:=λhn b hb=>⟨hn b hb,(f2 b hb).2⟩;refine codeAny_forLoop_any (λn s'=>∃i σ' H',Inv X pins σ' H' s'/\tn i s'.heap/\(∀b∈fp,H' b=none)/\W i n σ' H') ?_ m0 ⟨0,σ,H2,I2,st2,λb hb=>(f2 b hb).1,w0⟩;rintro n s3 ⟨i,σ3,H3,I3,st3,fr3,w3⟩;rcases turn i n σ3 H3 w3 with⟨stop,qn⟩|⟨go,N,hN,step⟩
 ·refine wpAny_passesOwn hp (thn (T.done X rfl rfl rfl hc i pins s3 σ3 H3 X.xe I3 (stat fr3) st3 stop) λr s4 ⟨hr,I4⟩=>?_);subst hr;exact wpAny_execs_nil ⟨σ3,H3,I4,qn⟩
 ·refine wpAny_passesOwn hp (thn (T.item X rfl rfl rfl hc i pins s3 σ3 H3 X.xe I3 (stat fr3) st3 go) λr s4 ⟨u,hr,h4⟩=>?_);subst hr;refine wpAny_passesOwn hp (thn h4 λ_ s5 ⟨x,H5,I5,r5,y5,st5,fr5⟩=>?_);have I5':=I5.pinned (stat fr5) (T.obj _ _ st5);refine wpAny_passesOwn hp (thn (hg _ s5 σ3 H5 x u _ I5' r5 (step x H5 y5)) λ_ s6 ⟨σ6,H6,I6,q6⟩=>?_);refine wpAny_passesOwn hp (thn (hb _ s6 σ6 H6 _ I6 q6) λf s7 q7=>?_)
  have again:∀{σ7:St} {H7:Hp},Inv X (pins++d2' fp s5.heap) σ7 H7 s7->N σ7 H7->∃m,m<n/\∃i σ' H',Inv X pins σ' H' s7/\tn i s7.heap/\(∀b∈fp,H' b=none)/\W i m σ' H':=λ{σ7 H7} I7 n7=>by
   obtain⟨m',hm,w7⟩:=hN σ7 H7 n7;refine⟨m',hm,i+1,σ7,H7,I7.unpinned,T.keep _ _ _ st5 λb hb o e=>(I7.pin (b,o) (aG' _ (aG' _ (cg_ hb e)))).1,λb hb=>?_,w7⟩;obtain⟨o,e,d⟩:=T.obj _ _ st5 b hb;exact (I7.pin (b,o) (aG' _ (aG' _ (cg_ hb e)))).2.1
  cases f with
  |next=>obtain⟨σ7,H7,I7,n7⟩:=q7;exact again I7 n7
  |cont=>obtain⟨σ7,H7,I7,n7⟩:=q7;exact again I7 n7
  |brk=>obtain⟨σ7,H7,I7,q7⟩:=q7;exact⟨σ7,H7,I7.unpinned,q7⟩
  |ret v=>obtain⟨x7,σ7,H7,I7,r7,q7⟩:=q7;exact⟨x7,σ7,H7,I7.unpinned,r7,q7⟩
theorem aX_{K:F__}{xs:List V}{g:TG}{D:Ends}{H:Hp}(Pv:Nat->St->Hp->Prop)(h0:Pv 0 σ H)(hl:∀i σ H,i<=xs.length->Pv i σ H->SqL K H a xs)(hs:∀i x σ H,xs[i]? = some x->Pv i σ H->g x σ H λσ2 H2=>tb { D with nx:=Pv (i+1),ct:=Pv (i+1),bk:=D.nx } σ2 H2)(hd:∀σ H,Pv xs.length σ H->D.nx σ H) :
  ∃W:Nat->Nat->St->Hp->Prop,(∃m,W 0 m σ H)/\∀i m σ H,W i m σ H->
   ((Itl K a).stop i H/\D.nx σ H)∨((Itl K a).go i H/\∃N:St->Hp->Prop,(∀σ' H',N σ' H'->∃m',m'<m/\W (i+1) m' σ' H')/\∀x H',(Itl K a).yld i H x H'->g x σ H' λσ2 H2=>tb { D with nx:=N,ct:=N,bk:=D.nx } σ2 H2):=by
 refine⟨λi m σ H=>m=xs.length - i/\i<=xs.length/\Pv i σ H,⟨xs.length,by simp,aN' _,h0⟩,?_⟩;rintro i m σ H ⟨rfl,hi,p⟩;have q:=hl i σ H hi p;by_cases hlt:i<xs.length
 ·refine .inr ⟨⟨xs,xs[i],q,by simp[hlt]⟩,Pv (i+1),λσ' H' p'=>⟨xs.length - (i+1),by omega,rfl,hlt,p'⟩,λx H' y=>?_⟩;obtain⟨e,y⟩:=y;subst e;exact hs i x σ _ (y xs q) p
 ·have e:i=xs.length:=by omega
  subst e;exact .inl ⟨⟨xs,q,ai' _⟩,hd σ H p⟩
theorem dJ_{g:TG}{D:Ends}{H:Hp}(Pv:Nat->St->Hp->Prop)(h0:Pv 0 σ H)(hs:∀i σ H,i<n->Pv i σ H->g (.int (lo+i)) σ H λσ2 H2=>tb { D with nx:=Pv (i+1),ct:=Pv (i+1),bk:=D.nx } σ2 H2)(hd:∀σ H,Pv n σ H->D.nx σ H) :
  ∃W:Nat->Nat->St->Hp->Prop,(∃m,W 0 m σ H)/\∀i m σ H,W i m σ H->
   ((Itr lo n).stop i H/\D.nx σ H)∨((Itr lo n).go i H/\∃N:St->Hp->Prop,(∀σ' H',N σ' H'->∃m',m'<m/\W (i+1) m' σ' H')/\∀x H',(Itr lo n).yld i H x H'->g x σ H' λσ2 H2=>tb { D with nx:=N,ct:=N,bk:=D.nx } σ2 H2):=by
 refine⟨λi m σ H=>m=n - i/\i<=n/\Pv i σ H,⟨n,by simp,aN' _,h0⟩,?_⟩;rintro i m σ H ⟨rfl,hi,p⟩;by_cases hlt:i<n
 ·refine .inr ⟨hlt,Pv (i+1),λσ' H' p'=>⟨n - (i+1),by omega,rfl,hlt,p'⟩,λx H' y=>?_⟩;obtain⟨e,y⟩:=y;subst e y;exact hs i σ _ hlt p
 ·have e:i=n:=by omega
  subst e;exact .inl ⟨ai' _,hd σ H p⟩
abbrev R2:=V->V->Hp->VK->Prop
def OpR(X:Cx)(f:Aa->Aa->Sem Aa)(r:R2):Prop:=
 ∀(pins:List (Addr × Obj)) (s:Ab) (σ:St) (H:Hp) (x y:V) (v u:Aa) (Q:VK),Inv X pins σ H s->RelV x v->RelV y u->r x y H Q->
  wpAny (model X.prog X.w) X.A (f v u) (EP X pins σ Q) X.xe s
def UnR(X:Cx)(f:Aa->Sem Aa)(r:V->Hp->VK->Prop):Prop:=
 ∀(pins:List (Addr × Obj)) (s:Ab) (σ:St) (H:Hp) (x:V) (v:Aa) (Q:VK),Inv X pins σ H s->RelV x v->r x H Q->
  wpAny (model X.prog X.w) X.A (f v) (EP X pins σ Q) X.xe s
def bx'(X:Cx)(f:Aa)(r:List V->Hp->VK->Prop):Prop:=
 ∀(pins:List (Addr × Obj)) (s:Ab) (σ:St) (H:Hp) (xs:List V) (us:List Aa) (Q:VK),Inv X pins σ H s->Vals xs us->r xs H Q->
  wpAny (model X.prog X.w) X.A (call f us) (EP X pins σ Q) X.xe s
def tOp(r:R2)(ta tb:TE):TE:=λσ H Q=>ta σ H λx H1=>tb σ H1 λy H2=>r x y H2 Q
def tUn(r:V->Hp->VK->Prop)(ta:TE):TE:=λσ H Q=>ta σ H λx H1=>r x H1 Q
inductive rI (C:Int->Int->Prop) (g:Int->Int->V) (x:V) (y:V) (H:Hp) (Q:VK):Prop
 |mk:∀i j,x=.int i->y=.int j->C i j->Q (g i j) H->rI C g x y H Q
inductive rI0 (g:Int->Int->V) (x:V) (y:V) (H:Hp) (Q:VK):Prop
 |mk:∀i j,x=.int i->y=.int j->Q (g i j) H->rI0 g x y H Q
inductive rU (g:Int->V) (x:V) (H:Hp) (Q:VK):Prop
 |mk:∀i,x=.int i->Q (g i) H->rU g x H Q
variable{r:R2}
variable{g:Int->Int->Int}
variable{j:Int}
section
variable{X:Cx}{a b c:Expr}{ta tb tc:TE}{pos:Pos}
theorem binT(ha:PE X a ta)(hb:PE X b tb){s:Ab}{H:Hp}{R:V->V->Hp->Prop}(I:Inv X pins σ H s)(h:ta σ H λx H1=>tb σ H1 λy H2=>R x y H2){Q:Aa->Ab->Prop}{f:Aa->Aa->Sem Aa}(hf:∀v u s2 x y H2,Inv X pins σ H2 s2->RelV x v->RelV y u->R x y H2->wpAny (model X.prog X.w) X.A (f v u) Q X.xe s2) :
  wpAny (model X.prog X.w) X.A (eval a X.env) (λv s₁=>wpAny (model X.prog X.w) X.A (eval b X.env) (λu s₂=>wpAny (model X.prog X.w) X.A (f v u) Q X.xe s₂) X.xe s₁) X.xe s:=by
 refine thn (ha pins s σ H _ I h) λv s1 ⟨x,H1,I1,r1,q1⟩=>?_;refine thn (hb pins s1 σ H1 _ I1 q1) λu s2 ⟨y,H2,I2,r2,q2⟩=>?_;exact hf v u s2 x y H2 I2 r1 r2 q2
theorem ao_{op:Operator}(ho:OpR X (binaryOp op) r)(ha:PE X a ta)(hb:PE X b tb):PE X (.BinOp a op b pos) (tOp r ta tb):=by
 intro pins s σ H Q I h;exact wpAny_BinOp (binT ha hb I h λv u s2 x y H2 I2 rx ry q=>ho pins s2 σ H2 x y v u Q I2 rx ry q)
theorem lI_{op:UnaryOp}{r:V->Hp->VK->Prop}(ho:UnR X (unaryOp op) r)(ha:PE X a ta):PE X (.UnaryOp op a pos) (tUn r ta):=by
 intro pins s σ H Q I h;exact UnaryOp_ (thn (ha pins s σ H _ I h) λv s1 ⟨x,H1,I1,r1,q1⟩=>ho pins s1 σ H1 x v Q I1 r1 q1)
theorem opI{f:Aa->Aa->Sem Aa}{C:Int->Int->Prop}(rule:∀(i j:Int) (t u:Tok) (s:Ab) (Q:Aa->Ab->Prop) (E:Aa->Ab->Prop),C i j->Q (.int (g i j) s.toks) { s with toks:=s.toks+1 }->wpAny (model X.prog X.w) X.A (f (.int i t) (.int j u)) Q E s) :
  OpR X f (rI C λi j=>.int (g i j)):=by
 intro pins s σ H x y v u Q I rx ry h;obtain⟨i,j,rfl,rfl,hc,q⟩:=h;obtain⟨t,rfl⟩:=rx;obtain⟨t',rfl⟩:=ry;exact rule i j t t' s _ _ hc ⟨.int (g i j),H,I.tok _,⟨_,rfl⟩,q⟩
theorem opI0{f:Aa->Aa->Sem Aa}(rule:∀(i j:Int) (t u:Tok) (s:Ab) (Q:Aa->Ab->Prop) (E:Aa->Ab->Prop),Q (.int (g i j) s.toks) { s with toks:=s.toks+1 }->wpAny (model X.prog X.w) X.A (f (.int i t) (.int j u)) Q E s) :
  OpR X f (rI0 λi j=>.int (g i j)):=by
 intro pins s σ H x y v u Q I rx ry h;obtain⟨i,j,rfl,rfl,q⟩:=h;obtain⟨t,rfl⟩:=rx;obtain⟨t',rfl⟩:=ry;exact rule i j t t' s _ _ ⟨.int (g i j),H,I.tok _,⟨_,rfl⟩,q⟩
theorem opB0{f:Aa->Aa->Sem Aa}{g:Int->Int->Bool}
  (rule:∀(i j:Int) (t u:Tok) (s:Ab) (Q:Aa->Ab->Prop) (E:Aa->Ab->Prop),Q (.bool (g i j)) s->wpAny (model X.prog X.w) X.A (f (.int i t) (.int j u)) Q E s) :
  OpR X f (rI0 λi j=>.bl (g i j)):=by
 intro pins s σ H x y v u Q I rx ry h;obtain⟨i,j,rfl,rfl,q⟩:=h;obtain⟨t,rfl⟩:=rx;obtain⟨t',rfl⟩:=ry;exact rule i j t t' s _ _ ⟨.bl (g i j),H,I,rfl,q⟩
def CDiv(i j:Int):Prop:=0<j/\j<1073741824
def CPow(i j:Int):Prop:=0<=j/\j<=1000000/\i.natAbs<2 ^ 64
def CMul(i j:Int):Prop:=(-(2 ^ 64)<i/\i<2 ^ 64)∨(-(2 ^ 64)<j/\j<2 ^ 64)
theorem CMul.ok{i:Int}(h:CMul i j):IntMulOk i j:=by
 rcases h with⟨h1,h2⟩|⟨h1,h2⟩
 ·exact .of_left (intBits_le_64 h1 h2)
 ·exact .of_right (intBits_le_64 h1 h2)
theorem bc_:OpR X (binaryOp .Add) (rI0 λi j=>.int (i+j)):=opI0 λ_ _ _ _ _ _ _ q=>add_int q
theorem kY_:OpR X (binaryOp .Sub) (rI0 λi j=>.int (i - j)):=opI0 λ_ _ _ _ _ _ _ q=>sub_int q
theorem eY_:OpR X (binaryOp .Mult) (rI CMul λi j=>.int (i * j)):=opI λ_ _ _ _ _ _ _ hc q=>mul_int q hc.ok
theorem dH_:OpR X (binaryOp .FloorDiv) (rI CDiv λi j=>.int (i / j)):=opI λi j _ _ _ _ _ hc q=>by
 have h1:(0:Int)<j:=hc.1;have h2:j<1073741824:=hc.2;exact floordiv_int Z1 (by rw[Int.fdiv_eq_ediv_of_nonneg i Z1];exact q) (.inl (PyProof.noPylong_small Z1))
theorem dL_:OpR X (binaryOp .Mod) (rI (λ_ j=>0<j) λi j=>.int (i % j)):=opI λi j _ _ _ _ _ hc q=>by
 have h1:(0:Int)<j:=hc;exact mod_int' Z1 (by rw[Int.fmod_eq_emod_of_nonneg i Z1];exact q)
theorem le_:OpR X (binaryOp .Pow) (rI CPow λi j=>.int (i ^ j.toNat)):=opI λ_ _ _ _ _ _ _ hc q=>pow_int_small hc.1 hc.2.1 hc.2.2 q
theorem unI{f:Aa->Sem Aa}{g:Int->Int}
  (rule:∀(i:Int) (t:Tok) (s:Ab) (Q:Aa->Ab->Prop) (E:Aa->Ab->Prop),Q (.int (g i) s.toks) { s with toks:=s.toks+1 }->wpAny (model X.prog X.w) X.A (f (.int i t)) Q E s) :
  UnR X f (rU λi=>.int (g i)):=by
 intro pins s σ H x v Q I rx h;obtain⟨i,rfl,q⟩:=h;obtain⟨t,rfl⟩:=rx;exact rule i t s _ _ ⟨.int (g i),H,I.tok _,⟨_,rfl⟩,q⟩
theorem k2_:UnR X (unaryOp .USub) (rU λi=>.int (-i)):=unI λ_ _ _ _ _ q=>neg_int q
end
def scal:V->V->Bool
 |.non,.non=>true | .non,.int _=>true | .int _,.non=>true | .non,.bl _=>true | .bl _,.non=>true | .non,.str _=>true | .str _,.non=>true
 |.int _,.int _=>true | .bl _,.bl _=>true | .str _,.str _=>true | .byt _,.byt _=>true
 |.int _,.str _=>true | .str _,.int _=>true | .bl _,.str _=>true | .str _,.bl _=>true
 |_,_=>false
def rEq:R2:=λx y H Q=>scal x y=true/\Q (.bl (decide (x=y))) H
def rNe:R2:=λx y H Q=>scal x y=true/\Q (.bl (!decide (x=y))) H
theorem iA_{i:Int}:decide (V.int i=V.int j)=(i == j):=by
 rw[Bool.eq_iff_iff];simp
theorem jV_{i j:Bool}:decide (V.bl i=V.bl j)=(i == j):=by
 rw[Bool.eq_iff_iff];simp
theorem aY_{i j:Str}:decide (V.str i=V.str j)=(i == j):=by
 rw[Bool.eq_iff_iff];simp
theorem hl_{i j:Array UInt8}:decide (V.byt i=V.byt j)=(i.toList == j.toList):=by
 rw[Bool.eq_iff_iff];cases i;cases j;simp
variable{op':CmpOp}{r':R2}
section
variable{X:Cx}{a b c:Expr}{ta tb tc:TE}{pos:Pos}
theorem aO_{H:Hp}{s:Ab}{Q:VK}{k k':Bool}(I:Inv X pins σ H s)(q:Q (.bl k) H)(e:k=k'):EP X pins σ Q (.bool k') s:=by
 subst e;exact⟨.bl k,H,I,rfl,q⟩
theorem b6_:OpR X (compareOp .Eq) rEq:=by
 intro pins s σ H x y v u Q I rx ry h;obtain⟨hs,q⟩:=h;cases x with
 |non=>
  cases rx;cases y with
  |non=>cases ry;exact PySem.EqNone.eq_none_none (aO_ I q Z2)
  |bl j=>cases ry;exact PySem.EqNone.eq_none_bool (aO_ I q Z2)
  |int j=>obtain⟨t',rfl⟩:=ry;exact PySem.EqNone.eq_none_int (aO_ I q Z2)
  |str j=>obtain⟨t',rfl⟩:=ry;exact PySem.EqNone.eq_none_str (aO_ I q Z2)
  |_=>exact absurd (show false=true from hs) ay'
 |bl i=>
  cases rx;cases y with
  |non=>cases ry;exact PySem.EqNone.eq_bool_none (aO_ I q Z2)
  |bl j=>cases ry;exact eq_bool (aO_ I q jV_)
  |str j=>obtain⟨t',rfl⟩:=ry;exact PySem.EqMixed.eq_bool_str (aO_ I q Z2)
  |_=>exact absurd (show false=true from hs) ay'
 |int i=>
  obtain⟨t,rfl⟩:=rx;cases y with
  |non=>cases ry;exact PySem.EqNone.eq_int_none (aO_ I q Z2)
  |int j=>obtain⟨t',rfl⟩:=ry;exact eq_int (aO_ I q iA_)
  |str j=>obtain⟨t',rfl⟩:=ry;exact PySem.EqMixed.eq_int_str (aO_ I q Z2)
  |_=>exact absurd (show false=true from hs) ay'
 |str i=>
  obtain⟨t,rfl⟩:=rx;cases y with
  |non=>cases ry;exact PySem.EqNone.eq_str_none (aO_ I q Z2)
  |bl j=>cases ry;exact PySem.EqMixed.eq_str_bool (aO_ I q Z2)
  |int j=>obtain⟨t',rfl⟩:=ry;exact PySem.EqMixed.eq_str_int (aO_ I q Z2)
  |str j=>obtain⟨t',rfl⟩:=ry;exact eq_str (aO_ I q aY_)
  |_=>exact absurd (show false=true from hs) ay'
 |byt i=>
  obtain⟨t,rfl⟩:=rx;cases y with
  |byt j=>obtain⟨t',rfl⟩:=ry;exact PySem.W.eq_bytes (aO_ I q hl_)
  |_=>exact absurd (show false=true from hs) ay'
 |_=>cases y<;>exact absurd (show false=true from hs) ay'
theorem d6_:OpR X (compareOp .NotEq) rNe:=by
 intro pins s σ H x y v u Q I rx ry h;obtain⟨hs,q⟩:=h;cases x with
 |non=>
  cases rx;cases y with
  |non=>cases ry;exact PySem.EqNone.ne_none_none (aO_ I q Z2)
  |bl j=>cases ry;exact PySem.EqNone.ne_none_bool (aO_ I q Z2)
  |int j=>obtain⟨t',rfl⟩:=ry;exact PySem.EqNone.ne_none_int (aO_ I q Z2)
  |str j=>obtain⟨t',rfl⟩:=ry;exact PySem.EqNone.ne_none_str (aO_ I q Z2)
  |_=>exact absurd (show false=true from hs) ay'
 |bl i=>
  cases rx;cases y with
  |non=>cases ry;exact PySem.EqNone.ne_bool_none (aO_ I q Z2)
  |bl j=>cases ry;exact ne_bool (aO_ I q (c_5 not jV_))
  |str j=>obtain⟨t',rfl⟩:=ry;exact PySem.EqMixed.ne_bool_str (aO_ I q Z2)
  |_=>exact absurd (show false=true from hs) ay'
 |int i=>
  obtain⟨t,rfl⟩:=rx;cases y with
  |non=>cases ry;exact PySem.EqNone.ne_int_none (aO_ I q Z2)
  |int j=>obtain⟨t',rfl⟩:=ry;exact ne_int (aO_ I q (c_5 not iA_))
  |str j=>obtain⟨t',rfl⟩:=ry;exact PySem.EqMixed.ne_int_str (aO_ I q Z2)
  |_=>exact absurd (show false=true from hs) ay'
 |str i=>
  obtain⟨t,rfl⟩:=rx;cases y with
  |non=>cases ry;exact PySem.EqNone.ne_str_none (aO_ I q Z2)
  |bl j=>cases ry;exact PySem.EqMixed.ne_str_bool (aO_ I q Z2)
  |int j=>obtain⟨t',rfl⟩:=ry;exact PySem.EqMixed.ne_str_int (aO_ I q Z2)
  |str j=>obtain⟨t',rfl⟩:=ry;exact ne_str (aO_ I q (c_5 not aY_))
  |_=>exact absurd (show false=true from hs) ay'
 |byt i=>
  obtain⟨t,rfl⟩:=rx;cases y with
  |byt j=>obtain⟨t',rfl⟩:=ry;exact PySem.W.ne_bytes (aO_ I q (c_5 not hl_))
  |_=>exact absurd (show false=true from hs) ay'
 |_=>cases y<;>exact absurd (show false=true from hs) ay'
theorem lg_:OpR X (compareOp .Lt) (rI0 λi j=>.bl (decide (i<j))):=opB0 λ_ _ _ _ _ _ _ q=>lt_int q
theorem cp_:OpR X (compareOp .LtE) (rI0 λi j=>.bl (decide (i<=j))):=opB0 λ_ _ _ _ _ _ _ q=>le_int q
theorem kC_:OpR X (compareOp .Gt) (rI0 λi j=>.bl (decide (j<i))):=opB0 λ_ _ _ _ _ _ _ q=>gt_int q
theorem lT_:OpR X (compareOp .GtE) (rI0 λi j=>.bl (decide (j<=i))):=opB0 λ_ _ _ _ _ _ _ q=>ge_int q
inductive do' (x:V) (y:V) (H:Hp) (Q:VK):Prop
 |mk:∀i j,x=.str i->y=.str j->Q (.bl (decide (i.cps.toList<j.cps.toList))) H->do' x y H Q
theorem fr_:OpR X (compareOp .Lt) do':=by
 intro pins s σ H x y v u Q I rx ry h;obtain⟨i,j,rfl,rfl,q⟩:=h;obtain⟨t,rfl⟩:=rx;obtain⟨t',rfl⟩:=ry;exact lt_str (aO_ I q rfl)
inductive ck' (x:V) (y:V) (H:Hp) (Q:VK):Prop
 |mk:∀i j,x=.str i->y=.str j->Q (.bl (!(!(Builtin.Str.occurrences j i 0 j.length 1).isEmpty))) H->ck' x y H Q
theorem d2_:OpR X (compareOp .NotIn) ck':=by
 intro pins s σ H x y v u Q I rx ry h;obtain⟨i,j,rfl,rfl,q⟩:=h;obtain⟨t,rfl⟩:=rx;obtain⟨t',rfl⟩:=ry;exact notIn_str (aO_ I q rfl)
theorem nomark(b:Expr)(h:op≠.In:=by decide)(h2:op≠.NotIn:=by decide):behindInMarks op b=false:=by
 have e1:(op == CmpOp.In)=false:=by cases op<;>first|rfl|exact absurd rfl h
 have e2:(op == CmpOp.NotIn)=false:=by cases op<;>first|rfl|exact absurd rfl h2
 cases b<;>simp[behindInMarks,e1,e2]
theorem b7_(ho:OpR X (compareOp op) r)(ha:PE X a ta)(hb:PE X b tb)(hm:behindInMarks op b=false):PE X (.Compare a [op] [b] pos) (tOp r ta tb):=by
 intro pins s σ H Q I h;exact wpAny_Compare1 (binT ha hb I h λv u s2 x y H2 I2 rx ry q=>ho pins s2 σ H2 x y v u Q I2 rx ry q) hm
inductive tTestR (Q:Bool->Hp->Prop) (x:V) (H':Hp):Prop
 |mk:∀k,x=.bl k->Q k H'->tTestR Q x H'
def tTest(t:TE):TT:=λσ H Q=>t σ H λx H'=>tTestR Q x H'
theorem ah_(ho:OpR X (compareOp op) r)(ha:PE X a ta)(hb:PE X b tb)(hm:behindInMarks op b=false):PT X (.Compare a [op] [b] pos) (tTest (tOp r ta tb)):=by
 intro pins s σ H Q I h
 refine wpAny_isTrue_Compare1 (thn (ha pins s σ H _ I h) λv s1 ⟨x,H1,I1,r1,q1⟩=>thn (hb pins s1 σ H1 _ I1 q1) λu s2 ⟨y,H2,I2,r2,q2⟩=>
  thn (ho pins s2 σ H2 x y v u _ I2 r1 r2 q2) λc s3 ⟨z,H3,I3,r3,k,e,q3⟩=>?_) hm
 subst e;cases r3;exact d_2 ⟨H3,I3,q3⟩
inductive tChainR (r':R2) (tc:TE) (σ:St) (Q:VK) (y:V) (z:V) (H3:Hp):Prop
 |mk:∀k,z=.bl k->(if k=true then tc σ H3 λw' H4=>r' y w' H4 Q else Q (.bl false) H3)->tChainR r' tc σ Q y z H3
def tChain(r r':R2)(ta tb tc:TE):TE:=λσ H Q=>ta σ H λx H1=>tb σ H1 λy H2=>r x y H2 λz H3=>tChainR r' tc σ Q y z H3
theorem cy_(ho:OpR X (compareOp op) r)(ho':OpR X (compareOp op') r')(ha:PE X a ta)(hb:PE X b tb)(hc:PE X c tc)(hm:lastMarks [op,op'] [b,c]=false:=by with_unfolding_all rfl):PE X (.Compare a [op,op'] [b,c] pos) (tChain r r' ta tb tc):=by
 intro pins s σ H Q I h
 refine Compare_chain (thn (ha pins s σ H _ I h) λv s1 ⟨x,H1,I1,r1,q1⟩=>chain_link (thn (hb pins s1 σ H1 _ I1 q1) λu s2 ⟨y,H2,I2,r2,q2⟩=>
  thn (ho pins s2 σ H2 x y v u _ I2 r1 r2 q2) λd s3 ⟨z,H3,I3,r3,k,e,q3⟩=>?_)) hm
 subst e;cases r3;refine d_2 ?_;cases k with
 |false=>exact ite_ff ⟨.bl false,H3,I3,rfl,q3⟩
 |true=>exact ite_tt (chain_last (thn (hc pins s3 σ H3 _ I3 q3) λw' s4 ⟨z',H4,I4,r4,q4⟩=>ho' pins s4 σ H4 y z' u w' Q I4 r2 r4 q4))
theorem dc_(ho:OpR X (compareOp op) r)(ho':OpR X (compareOp op') r')(ha:PE X a ta)(hb:PE X b tb)(hc:PE X c tc)(hm:lastMarks [op,op'] [b,c]=false:=by with_unfolding_all rfl):PT X (.Compare a [op,op'] [b,c] pos) (tTest (tChain r r' ta tb tc)):=by
 intro pins s σ H Q I h
 refine isTrue_chain (thn (ha pins s σ H _ I h) λv s1 ⟨x,H1,I1,r1,q1⟩=>test_link (thn (hb pins s1 σ H1 _ I1 q1) λu s2 ⟨y,H2,I2,r2,q2⟩=>
  thn (ho pins s2 σ H2 x y v u _ I2 r1 r2 q2) λd s3 ⟨z,H3,I3,r3,k,e,q3⟩=>?_)) hm
 subst e;cases r3;refine d_2 ?_;cases k with
 |false=>
  obtain⟨k',e',q'⟩:=q3;cases e';exact ite_ff ⟨H3,I3,q'⟩
 |true=>
  refine ite_tt (test_last (thn (hc pins s3 σ H3 _ I3 q3) λw' s4 ⟨z',H4,I4,r4,q4⟩=>thn (ho' pins s4 σ H4 y z' u w' _ I4 r2 r4 q4) λd' s5 ⟨z2,H5,I5,r5,k2,e2,q5⟩=>?_));subst e2;cases r5;exact d_2 ⟨H5,I5,q5⟩
theorem line63:(sizeLine:Nat)<2 ^ 63:=by rw[a_9];decide
inductive cY' (x:V) (y:V) (H:Hp) (Q:VK):Prop
 |mk:∀i j,x=.str i->y=.str j->i.length+j.length<=sizeLine->Q (.str (i++j)) H->cY' x y H Q
theorem aG_:OpR X (binaryOp .Add) cY':=by
 intro pins s σ H x y v u Q I rx ry h;obtain⟨i,j,rfl,rfl,hz,q⟩:=h;obtain⟨t,rfl⟩:=rx;obtain⟨t',rfl⟩:=ry;exact add_str (λt' tk=>⟨.str (i++j),H,I.tok _,⟨_,rfl⟩,q⟩) hz
theorem vals1{x:V}{us:List Aa}(r:Vals [x] us):∃u,us=[u]/\RelV x u:=by
 cases r with
 |cons r1 r2=>cases r2;exact⟨_,rfl,r1⟩
theorem vals2{x y:V}{us:List Aa}(r:Vals [x,y] us):∃u w',us=[u,w']/\RelV x u/\RelV y w':=by
 cases r with
 |cons r1 r2=>
  cases r2 with
  |cons r3 r4=>cases r4;exact⟨_,_,rfl,r1,r3⟩
inductive dw' (xs:List V) (H:Hp) (Q:VK):Prop
 |mk:∀i j,xs=[.int i,.int j]->Q (.int (if j > i then j else i)) H->dw' xs H Q
theorem iI_(hc:X.calm=true):bx' X (.builtin "max") dw':=by
 intro pins s σ H xs us Q I r h;obtain⟨i,j,rfl,q⟩:=h;obtain⟨u,w',rfl,⟨t,rfl⟩,⟨t',rfl⟩⟩:=vals2 r;refine max_two_ints (I.ok.hd hc) λh' tk k=>⟨_,H,I.kept k,?_,q⟩;by_cases hj:j > i
 ·rw[b__ hj,b__ hj];exact⟨_,rfl⟩
 ·rw[a_5 hj,a_5 hj];exact⟨_,rfl⟩
inductive dy' (xs:List V) (H:Hp) (Q:VK):Prop
 |mk:∀i j,xs=[.int i,.int j]->Q (.int (if j<i then j else i)) H->dy' xs H Q
theorem i8_(hc:X.calm=true):bx' X (.builtin "min") dy':=by
 intro pins s σ H xs us Q I r h;obtain⟨i,j,rfl,q⟩:=h;obtain⟨u,w',rfl,⟨t,rfl⟩,⟨t',rfl⟩⟩:=vals2 r;refine min_two_ints (I.ok.hd hc) λh' tk k=>⟨_,H,I.kept k,?_,q⟩;by_cases hj:j<i
 ·rw[b__ hj,b__ hj];exact⟨_,rfl⟩
 ·rw[a_5 hj,a_5 hj];exact⟨_,rfl⟩
theorem ih_:bx' X (.type "int") (λxs H Q=>(∃i,xs=[.int i]/\Q (.int i) H)∨∃k,xs=[.bl k]/\Q (.int (if k then 1 else 0)) H):=by
 intro pins s σ H xs us Q I r h;rcases h with⟨i,rfl,q⟩|⟨k,rfl,q⟩
 ·obtain⟨u,rfl,t,rfl⟩:=vals1 r;exact call_int_int ⟨.int i,H,I,⟨_,rfl⟩,q⟩
 ·obtain⟨u,rfl,r1⟩:=vals1 r;cases r1;exact call_int_bool ⟨.int (if k then 1 else 0),H,I.tok _,⟨_,rfl⟩,q⟩
inductive cm' (xs:List V) (H:Hp) (Q:VK):Prop
 |mk:∀i,xs=[.int i]->i.natAbs.log2<1920->Q (.str (toString i)) H->cm' xs H Q
theorem fh_:bx' X (.type "str") cm':=by
 intro pins s σ H xs us Q I r h;obtain⟨i,rfl,hz,q⟩:=h;obtain⟨u,rfl,t,rfl⟩:=vals1 r;exact PySem.P.str_of_int hz ⟨.str _,H,I.tok _,⟨_,rfl⟩,q⟩
end
structure ObjM (h:Heap) (x dx C:Addr) (mA:Str->Option Aa):Prop where
 obj:h.get? x=some (PySem.W.instObj C dx)
 ns:h.Ns1 dx mA
 ne:dx≠x
variable{mA:Str->Option Aa}
theorem hJ_{dx:Addr}(n:h.Ns1 dx mA):∃od,h.get? dx=some od/\∀name,PySem.W.lookIn name od=some (mA name):=by
 obtain⟨o,es,ep,ho,hd,hk,_,hm⟩:=n;refine⟨o,ho,λname=>?_⟩;have e:=hm name;unfold nsFind findBy at e;rw[<- Array.find?_toList] at e;unfold PySem.W.lookIn;rw[hd];dsimp only;split
 ·rename_i y q
  rw[q] at e;exact c_5 some e
 ·rename_i q
  rw[q] at e
  have a:es.toList.any (·.refKey)=false:=by
   rw[List.any_eq_false];intro y hy;obtain⟨z,t,hkey⟩:=hk y (Array.mem_toList_iff.mp hy);simp[DictEntry.refKey,hkey]
  have a':¬es.toList.any (·.refKey)=true:=by rw[a];exact ay'
  rw[a_5 a'];exact c_5 some e
theorem ObjM.look{x dx C:Addr}(I:ObjM h x dx C mA):∃od,PySem.W.InstAt h x (PySem.W.instObj C dx) C (some od)/\∀name,PySem.W.lookIn name od=some (mA name):=
 let ⟨od,ho,hl⟩:=hJ_ I.ns
 ⟨od,⟨I.obj,rfl,rfl,ho⟩,hl⟩
variable{pl:Sem Bool}
variable{kw:List (Str × Aa)}
section
variable{prog:Ad}{w:Af}{A:Ag}{E:Aa->Ab->Prop}{s:Ab}{K:F__}{x dx C f:Addr}{mA:Str->Option Aa}{name:Str}{v:Aa}
theorem kR_{expr:Bool}{Q:Aa->Ab->Prop}(X:K.In s.heap)(I:ObjM s.heap x dx C mA)(hg:PySem.W.plainGet K C name=true)(hh:PySem.W.hasDictIn K C=true)
  (ha:PySem.W.findIn K (.ref C) name=some none) (hv:mA name=some v) (hv':PySem.W.handedIn v=true) (h:Q v { s with toks:=s.toks+1 }) :
  wpAny (model prog w) A (getAttr (.ref x) name expr) Q E s:=by
 obtain⟨od,J,hl⟩:=I.look;exact PySem.W.get_value X J (PySem.W.plainGet_of hg).1 (PySem.W.findObj_own hh ha rfl (by rw[hl,hv])) hv' h
theorem jz_{Q:Aa × List Aa->Ab->Prop}(X:K.In s.heap)(I:ObjM s.heap x dx C mA)(hg:PySem.W.plainGet K C name=true)(hf:PySem.W.findIn K (.ref C) name=some (some (.ref f)))(ht:PySem.W.isFn K (.ref f)=true)(hv:mA name=none)(h:Q (.ref f,[.ref x]) s) :
  wpAny (model prog w) A (getMethod (.ref x) name pl) Q E s:=by
 obtain⟨od,J,hl⟩:=I.look;exact PySem.W.method_fn X J (PySem.W.plainGet_of hg).1 (PySem.W.plainGet_of hg).2 hf (beq_iff_eq.mp ht) (by show (PySem.W.lookIn name od).map (·.isSome)=some false;rw[hl,hv];rfl) h
theorem kq_{ns:List Str}{Q:Unit->Ab->Prop}(X:K.In s.heap)(I:ObjM s.heap x dx C mA)
  (hs:PySem.W.findIn K (.ref C) "__setattr__"=some (some (.builtin "object.__setattr__"))) (hp:PySem.W.plainOver K C=true) (ht:PySem.W.takerIn K C name=some none) (hh:PySem.W.hasDictIn K C=true)
  (hw:PySem.Within mA ns) (hsz:ns.length<=sizeLine)
  (h:∀h',ObjM h' x dx C (λy=>if y=name then some v else mA y)->Heap.SameBut dx s.heap h'->Q () { s with heap:=h',toks:=s.toks+2 }) :
  wpAny (model prog w) A (setAttr (.ref x) name v) Q E s:=by
 obtain⟨od,J,hl⟩:=I.look;refine PySem.W.set_plain X J hs (PySem.W.osa_open (s:={ s with toks:=s.toks+1 }) (r:=none) X J hp ht λb=>?_);obtain⟨cd,hc,hd'⟩:=PySem.W.any_some hh;have hx:s.heap.get? x=some ⟨.ref C,some dx,.plain,#[]⟩:=I.obj;refine a__ (a_4 (a__ (a__ (wpAny_loadPart hx (a__ (PySem.W.Looks.here (s:={ s with toks:=s.toks+1 }) (PySem.W.looks_clsIn X hc) ?_))))));rw[hd'];refine a_4 (a:=some dx) (a__ (a_4 (a__ ?_)));refine wpAny_nsSet1 (s:={ s with toks:=s.toks+1 }) I.ns λh' hn2 hs2=>?_;obtain⟨oD,esD,epD,hoD,hdD,hcD⟩:=hn2.count (PySem.Within.cons name v hw);refine a__ (wpAny_lookBehind hoD (by rw[hdD];exact pastItsLine_dict (aO' hcD (by rw[aC'];omega))) ?_);exact a_4 (h _ ⟨(hs2.2 _ (Ne.symm I.ne)).trans I.obj,hn2,I.ne⟩ hs2)
theorem j1_{R:Result->Ab->Prop}{vs:List Aa}(X:K.In s.heap)(hm:PySem.W.makesIn K C=true)(hi:PySem.W.findIn K (.ref C) "__init__"=some (some (.ref f)))(hf:PySem.W.typeIn K (.ref f)=some (.type "function"))(h:codeAny (model prog w) (A.under (.builtin "type.__call__" ⟨.ref C::vs,kw⟩)) (.call (.ref f) ⟨.ref (s.heap.objs.size+1)::vs,kw⟩) (PySem.W.InitBack (s.heap.objs.size+1) R)
   { s with heap:=(s.heap.push PySem.W.emptyDict).push (PySem.W.instObj C s.heap.objs.size) }) :
  codeAny (model prog w) A (.call (.ref C) ⟨vs,kw⟩) R s:=by
 obtain⟨hh,g,d,t,os⟩:=s;exact PySem.W.make_core (PySem.W.makes_of X hm) (PySem.W.looks_findIn X hi) (λself=>PySem.W.bind_fn X self hf) (.inl rfl) h
end
def putF(f:Str)(v:V):List (Str × V)->List (Str × V)
 |[]=>[(f,v)]
 |(g,x)::r=>if g=f then (g,v)::r else (g,x)::putF f v r
theorem an_(f g:Str)(v:V):∀fs:List (Str × V),(putF f v fs).lookup g=if g=f then some v else fs.lookup g
 |[]=>by
  show List.lookup g [(f,v)]=_;by_cases h:g=f
  ·have hb:(g == f)=true:=beq_iff_eq.mpr h;simp only[List.lookup,hb,b__ h]
  ·have hb:(g == f)=false:=beq_eq_false_iff_ne.mpr h;simp only[List.lookup,hb,a_5 h]
 |(k,x)::r=>by
  have ih:=an_ f g v r;rw[show putF f v ((k,x)::r)=(if k=f then (k,v)::r else (k,x)::putF f v r) from rfl];by_cases hk:k=f
  ·rw[b__ hk];by_cases h:g=k
   ·have hb:(g == k)=true:=beq_iff_eq.mpr h;simp only[List.lookup,hb,b__ (h.trans hk)]
   ·have hb:(g == k)=false:=beq_eq_false_iff_ne.mpr h;simp only[List.lookup,hb,a_5 (λe:g=f=>h (e.trans hk.symm))]
  ·rw[a_5 hk];by_cases h:g=k
   ·have hb:(g == k)=true:=beq_iff_eq.mpr h;simp only[List.lookup,hb,a_5 (λe:g=f=>hk (h.symm.trans e))]
   ·have hb:(g == k)=false:=beq_eq_false_iff_ne.mpr h;simp only[List.lookup,hb];exact ih
theorem dv_(f:Str)(v:V):∀fs:List (Str × V),f∈(putF f v fs).map (·.1)/\∀g,g∈fs.map (·.1)->g∈(putF f v fs).map (·.1)
 |[]=>⟨by simp[putF],λg h=>by simp at h⟩
 |(k,x)::r=>by
  obtain⟨i1,i2⟩:=dv_ f v r;rw[show putF f v ((k,x)::r)=(if k=f then (k,v)::r else (k,x)::putF f v r) from rfl];by_cases hk:k=f
  ·rw[b__ hk];subst hk;exact⟨by simp,λg h=>by simpa using h⟩
  ·rw[a_5 hk];refine⟨?_,λg h=>?_⟩
   ·rw[aw'];exact aj' _ i1
   ·rw[aw'] at h ⊢;rcases ah'.mp h with e|e
    ·exact ah'.mpr (.inl e)
    ·exact aj' _ (i2 g e)
theorem dM_(f:Str)(v:V):∀fs:List (Str × V),(putF f v fs).length<=fs.length+1
 |[]=>by simp[putF]
 |(k,x)::r=>by
  have ih:=dM_ f v r;rw[show putF f v ((k,x)::r)=(if k=f then (k,v)::r else (k,x)::putF f v r) from rfl];by_cases hk:k=f
  ·rw[b__ hk,aC',aC'];omega
  ·rw[a_5 hk,aC',aC'];omega
variable{o:Option Aa}{v:V}
theorem RelO.some_of(r:RelO (some v) o):∃u,o=some u/\RelV v u:=by
 cases o with
 |none=>exact (show False from r).elim
 |some u=>exact⟨u,rfl,r⟩
theorem RelO.none_of(r:RelO none o):o=none:=by
 cases o with
 |none=>rfl
 |some u=>exact (show False from r).elim
theorem iu_(r:RelV v u):PySem.W.handedIn u=true:=by
 cases v with
 |non=>cases (show u=Value.none from r);rfl
 |bl b=>cases (show u=Value.bool b from r);rfl
 |int i=>obtain⟨t,e⟩:=(show ∃t,u=Value.int i t from r);cases e;rfl
 |str x=>obtain⟨t,e⟩:=(show ∃t,u=Value.str x t from r);cases e;rfl
 |byt b=>obtain⟨t,e⟩:=(show ∃t,u=Value.bytes b t from r);cases e;rfl
 |flt b=>obtain⟨t,e⟩:=(show ∃t,u=Value.float b t from r);cases e;rfl
 |ref a=>cases (show u=Value.ref a from r);rfl
 |ty n=>cases (show u=Value.type n from r);rfl
section
variable{P:Ad}{w:Af}{H H':Hp}{h h':Heap}{a C dx:Addr}{fs fs':List (Str × V)}
theorem ew_(hok:HOk P w H h)(e:H a=some (.ins C dx fs)):∃mA,ObjM h a dx C mA/\(∀f,RelO (fs.lookup f) (mA f))/\PySem.Within mA (fs.map (·.1))/\fs.length<=1000/\H dx=some (.own a):=by
 obtain⟨d,z,ne,ob,mA,n,r,q⟩:=(show bn' P w H h a (.ins C dx fs) from hok a _ e);exact⟨mA,⟨ob,n,ne⟩,r,q,z,d⟩
end
structure Cls (K:F__) (C:Addr):Prop where
 pg:PySem.W.plainGet K C Str.empty=true
 hd:PySem.W.hasDictIn K C=true
 po:PySem.W.plainOver K C=true
 sa:PySem.W.findIn K (.ref C) "__setattr__"=some (some (.builtin "object.__setattr__"))
theorem Cls.get{K:F__}{C:Addr}(c:Cls K C)(f:Str):PySem.W.plainGet K C f=true:=c.pg
def bY'(K:F__)(C:Addr)(f:Str):Prop:=PySem.W.findIn K (.ref C) f=some none
theorem bY'.taker{K:F__}{C:Addr}{f:Str}(n:bY' K C f):PySem.W.takerIn K C f=some none:=by
 unfold PySem.W.takerIn;rw[show PySem.W.findIn K (.ref C) f=some none from n];rfl
structure Con (K:F__) (C:Addr) (f:Str) (v:V) (u:Aa):Prop where
 at_:PySem.W.findIn K (.ref C) f=some (some u)
 rel:RelV v u
 get:PySem.W.specialIn K u "__get__"=some none
 cp:PySem.W.copiedNames.contains f=false
structure Meth (K:F__) (C:Addr) (m:Str) (f:Addr):Prop where
 at_:PySem.W.findIn K (.ref C) m=some (some (.ref f))
 fn:PySem.W.isFn K (.ref f)=true
 kp:PySem.W.keepIn K (.ref f)=true
section
variable{X:Cx}{pins:List (Addr × Obj)}{σ:St}{H:Hp}{s:Ab}{a C dx:Addr}{fs:List (Str × V)}{f:Str}{v:V}{A:Ag}{E:Aa->Ab->Prop}
theorem h2_{b:Bool}{Q:Aa->Ab->Prop}(I:Inv X pins σ H s)(e:H a=some (.ins C dx fs))(c:Cls X.K C)(n:bY' X.K C f)(l:fs.lookup f=some v)
  (h:∀u s',Inv X pins σ H s'->RelV v u->Q u s'):wpAny (model X.prog X.w) A (getAttr (.ref a) f b) Q E s:=by
 obtain⟨mA,O,r,_,_,_⟩:=ew_ I.hok e;obtain⟨u,hu,ru⟩:=RelO.some_of (v:=v) (o:=mA f) (by rw[<- l];exact r f);exact kR_ I.kIn O (c.get f) c.hd n hu (iu_ ru) (h u _ (I.tok _) ru)
theorem e9_{m:Str}{g:Addr}{Q:Aa × List Aa->Ab->Prop}(I:Inv X pins σ H s)(e:H a=some (.ins C dx fs))(c:Cls X.K C)(k:Meth X.K C m g)(l:fs.lookup m=none)(h:Q (.ref g,[.ref a]) s):wpAny (model X.prog X.w) A (getMethod (.ref a) m pl) Q E s:=by
 obtain⟨mA,O,r,_,_,_⟩:=ew_ I.hok e;have hn:mA m=none:=RelO.none_of (by rw[<- l];exact r m);exact jz_ I.kIn O (c.get m) k.at_ k.fn hn h
theorem gP_{y:V}{Q:Unit->Ab->Prop}(I:Inv X pins σ H s)(e:H a=some (.ins C dx fs))(c:Cls X.K C)(n:bY' X.K C f)(hl:fs.length<1000)(ry:RelV y u)(h:∀s',Inv X pins σ (upd H a (.ins C dx (putF f y fs))) s'->Q () s'):wpAny (model X.prog X.w) A (setAttr (.ref a) f u) Q E s:=by
 obtain⟨mA,O,r,wi,_,ho⟩:=ew_ I.hok e;have hz:(fs.map (·.1)).length<=sizeLine:=by rw[aa',a_9];omega
 refine kq_ I.kIn O c.sa c.po n.taker c.hd wi hz λh' O' sb=>h _ ?_;have hd:∃o,h'.get? dx=some o:=let ⟨o,_,_,e',_⟩:=O'.ns;⟨o,e'⟩;refine I.write (x:=a) (e:=dx) (by rw[e];exact True.intro) (.inr ho) (λb q hb z=>(sb.2 b hb).trans z) hd ?_;refine⟨by rw[a8_ O.ne];exact ho,?_,O.ne,O'.obj,_,O'.ns,λg=>?_,λg hg=>?_⟩
 ·have:=dM_ f y fs;omega
 ·show RelO ((putF f y fs).lookup g) (if g=f then some u else mA g);rw[an_];by_cases q:g=f
  ·rw[b__ q,b__ q];exact ry
  ·rw[a_5 q,a_5 q];exact r g
 ·by_cases q:g=f
  ·rw[q];exact (dv_ f y fs).1
  ·refine (dv_ f y fs).2 g (wi g λz=>hg ?_);show (if g=f then some u else mA g)=none;rw[a_5 q];exact z
theorem Inv.made(I:Inv X pins σ H s):Inv X pins σ (upd (upd H s.heap.objs.size (.own (s.heap.objs.size+1))) (s.heap.objs.size+1) (.ins C s.heap.objs.size []))
  { s with heap:=(s.heap.push PySem.W.emptyDict).push (PySem.W.instObj C s.heap.objs.size) }:=by
 have e1:(s.heap.push PySem.W.emptyDict).get? s.heap.objs.size=some PySem.W.emptyDict:=b_0 s.heap rfl
 have e2:((s.heap.push PySem.W.emptyDict).push (PySem.W.instObj C s.heap.objs.size)).get? (s.heap.objs.size+1)=some (PySem.W.instObj C s.heap.objs.size):=by
  have:=b_0 (s.heap.push PySem.W.emptyDict) (o:=PySem.W.instObj C s.heap.objs.size) rfl;rwa [Heap.size_push] at this
 have e3:(s.heap.push PySem.W.emptyDict).Ns s.heap.objs.size (λ_=>none):=⟨PySem.W.emptyDict,#[],_,e1,rfl,(λe he=>absurd he Z2),λ_=>rfl⟩;have I1:=I.laid (a:=s.heap.objs.size) (o:=.own (s.heap.objs.size+1)) (h':=s.heap.push PySem.W.emptyDict) (t':=s.toks) (λb u q=>a_0 _ q) (ai' _) ⟨_,e1⟩;refine I1.laid (a:=s.heap.objs.size+1) (o:=.ins C s.heap.objs.size []) (t':=s.toks) (λb u q=>a_0 _ q) (Nat.le_of_eq (Heap.size_push _ _)) ?_;have ne:s.heap.objs.size≠s.heap.objs.size+1:=av' (Nat.lt_succ_self _);refine⟨by rw[a8_ ne,a1_],aN' _,ne,e2,λ_=>none,(Heap.Ns1.of_empty e3).at λo q=>a_0 _ q,λ_=>True.intro,λy hy=>absurd rfl hy⟩
theorem k3_{prog:Ad}{env:Env}{e:Expr}{f:Str}{s:Ab}{Q:Aa->Ab->Prop}(hb:attributeBase e f env (eval e env)=eval e env)(h:wpAny (model prog w) A (eval e env) (λo s₁=>wpAny (model prog w) A (getAttr o f true) Q E s₁) E s):wpAny (model prog w) A (eval (.Attribute e f pos) env) Q E s:=
 Attribute_any_ h (by rw[arm_eval_Attribute,hb])
end
inductive tFldR (K:F__) (f:Str) (Q:VK) (x:V) (H1:Hp):Prop
 |mk:∀a C dx fs v,x=.ref a->H1 a=some (.ins C dx fs)->Cls K C->bY' K C f->fs.lookup f=some v->Q v H1->tFldR K f Q x H1
def tFld(K:F__)(ta:TE)(f:Str):TE:=λσ H Q=>ta σ H λx H1=>tFldR K f Q x H1
inductive sFldR (K:F__) (f:Str) (D:Ends) (σ:St) (y:V) (x:V) (H2:Hp):Prop
 |mk:∀a C dx fs,x=.ref a->H2 a=some (.ins C dx fs)->Cls K C->bY' K C f->fs.length<1000->D.nx σ (upd H2 a (.ins C dx (putF f y fs)))->sFldR K f D σ y x H2
def sFld(K:F__)(ta tv:TE)(f:Str):TS:=λD σ H=>tv σ H λy H1=>ta σ H1 λx H2=>sFldR K f D σ y x H2
section
variable{X:Cx}{o e value:Expr}{f:Str}{pos pos' tpos:Pos}{ta tv:TE}
theorem bz_(he:PE X e ta)(hb:attributeBase e f X.env (eval e X.env)=eval e X.env):PE X (.Attribute e f pos) (tFld X.K ta f):=by
 intro pins s σ H Q I h;refine k3_ hb (thn (he pins s σ H _ I h) λu s1 ⟨x,H1,I1,rx,a,C,dx,fs,v,ex,ea,c,n,l,q⟩=>?_);subst ex;obtain rfl:u=Value.ref a:=rx;exact h2_ I1 ea c n l λu' s2 I2 ru=>⟨v,H1,I2,ru,q⟩
theorem e1_(ha:PE X o ta)(hv:PE X value tv)(hs:swapsWith value (some (.Attribute o f pos')) pos.line X.env=pure false):PS X (.Assign [.Attribute o f pos'] value pos) (sFld X.K ta tv f):=by
 intro pins s σ H D I h;refine plainObj_wpAny_Assign_Attribute (thn (hv pins s σ H _ I h) λu s1 ⟨y,H1,I1,ry,q⟩=>thn (ha pins s1 σ H1 _ I1 q) λov s2 ⟨x,H2,I2,rx,a,C,dx,fs,ex,ea,c,n,l,q2⟩=>?_) hs;subst ex;obtain rfl:ov=Value.ref a:=rx;exact gP_ I2 ea c n l ry λs3 I3=>⟨σ,_,I3,q2⟩
end
section
variable{X:Cx}{pins:List (Addr × Obj)}{σ:St}{H:Hp}{s:Ab}{A:Ag}{E:Aa->Ab->Prop}{Q:Aa->Ab->Prop}{c:Aa}{b:Bool}
inductive TyOf (K:F__) (H:Hp):V->Aa->Prop where
 |non:TyOf K H .non (.type "NoneType")
 |bl (x:Bool):TyOf K H (.bl x) (.type "bool")
 |int (i:Int):TyOf K H (.int i) (.type "int")
 |str (x:Str):TyOf K H (.str x) (.type "str")
 |flt (x:UInt64):TyOf K H (.flt x) (.type "float")
 |lst {a:Addr} {xs:List V} (e:H a=some (.lst xs)):TyOf K H (.ref a) (.type "list")
 |frz {a:Addr} {o:Obj} {xs:List V} (e:H a=some (.frz o (.lst xs))):TyOf K H (.ref a) (.type "list")
 |tup {a:Addr} {xs:List V} (e:H a=some (.tup xs)):TyOf K H (.ref a) (.type "tuple")
 |dK {a:Addr} {kvs:List (Key × V)} (e:H a=some (.dK kvs)):TyOf K H (.ref a) (.type "dict")
 |dT {a:Addr} {kvs:List (List Key × V)} (e:H a=some (.dT kvs)):TyOf K H (.ref a) (.type "dict")
 |ins {a C dx:Addr} {fs:List (Str × V)} (e:H a=some (.ins C dx fs)) (cl:Cls K C) (ha:PySem.W.findIn K (.ref C) "__class__"=some (some (.builtin "object.__class__")))
   (hn:PySem.W.specialIn K (.builtin "object.__class__") "__get__"=some (some (.builtin "getset_descriptor.__get__"))) (htk:PySem.W.takesIn K (.builtin "object.__class__")=some true)
   (hm:PySem.W.mroIn K C (.type "object")=some true):TyOf K H (.ref a) (.ref C)
theorem f1_{x:V}{t:Aa}(I:Inv X pins σ H s)(rx:RelV x u)(ty:TyOf X.K H x t)(e:PySem.W.kitOne X.K t c=some b)(h:∀tk,Q (.bool b) { s with toks:=tk }) :
  wpAny (model X.prog X.w) A (call (.builtin "isinstance") [u,c]) Q E s:=by
 cases ty with
 |non=>cases (show u=Value.none from rx);exact d_6 PySem.W.kitx_none I.kIn True.intro e nofun h
 |bl y=>cases (show u=Value.bool y from rx);exact d_6 PySem.W.kitx_bool I.kIn True.intro e nofun h
 |int i=>obtain⟨t,q⟩:=(show ∃t,u=Value.int i t from rx);cases q;exact d_6 PySem.W.kitx_int I.kIn True.intro e nofun h
 |str y=>obtain⟨t,q⟩:=(show ∃t,u=Value.str y t from rx);cases q;exact d_6 PySem.W.kitx_str I.kIn True.intro e nofun h
 |flt y=>obtain⟨t,q⟩:=(show ∃t,u=Value.float y t from rx);cases q;exact d_6 PySem.W.kitx_float I.kIn True.intro e nofun h
 |@lst a xs ea=>
  cases (show u=Value.ref a from rx);obtain⟨_,_,n,_,h1⟩:=(show bn' X.prog X.w H s.heap a (.lst xs) from I.hok a _ ea);exact d_6 PySem.W.kitx_list I.kIn ⟨_,h1,rfl⟩ e nofun h
 |@frz a ob xs ea=>
  cases (show u=Value.ref a from rx);obtain⟨_,_,_,n,_,h1⟩:=(show bn' X.prog X.w H s.heap a (.frz ob (.lst xs)) from I.hok a _ ea);exact d_6 PySem.W.kitx_list I.kIn ⟨_,h1,rfl⟩ e nofun h
 |@tup a xs ea=>
  cases (show u=Value.ref a from rx);obtain⟨_,_,_,p,_⟩:=(show bn' X.prog X.w H s.heap a (.tup xs) from I.hok a _ ea);obtain⟨o,h1,h2,_⟩:=p;exact d_6 PySem.W.kitx_tuple I.kIn ⟨o,h1,h2⟩ e nofun h
 |@dK a kvs ea=>
  cases (show u=Value.ref a from rx);obtain⟨_,_,vs,_,p⟩:=(show bn' X.prog X.w H s.heap a (.dK kvs) from I.hok a _ ea);obtain⟨o,es,ep,h1,h2,_⟩:=p;exact d_6 PySem.W.kitx_dict I.kIn ⟨o,h1,h2.1⟩ e nofun h
 |@dT a kvs ea=>
  cases (show u=Value.ref a from rx);obtain⟨_,_,xs,_,o,es,ep,h1,h2,_⟩:=(show bn' X.prog X.w H s.heap a (.dT kvs) from I.hok a _ ea);exact d_6 PySem.W.kitx_dict I.kIn ⟨o,h1,h2.1⟩ e nofun h
 |@ins a C dx fs ea cl ha hn htk hm=>
  cases (show u=Value.ref a from rx);obtain⟨mA,O,_⟩:=ew_ I.hok ea;obtain⟨od,J,_⟩:=O.look;exact d_6 (PySem.W.kitx_own (cl.get _) cl.hd ha hn htk hm) I.kIn J e nofun h
end
structure Room (k:Nat) (A:Ag):Prop where
 hd:A.handled=none
 dp:A.depth+3 * k+5<recursionLimit
 un:A.units+16 * k+200<cLine
theorem Room.mono{j:Nat}{A:Ag}(r:Room k A)(h:j<=k):Room j A:=⟨r.hd,by have:=r.dp;omega,by have:=r.un;omega⟩
theorem Room.deeper{A:Ag}(r:Room (k+1) A)(env:Env):Room k (A.deeper env):=
 ⟨r.hd,by have:=r.dp;show A.depth+1+3 * k+5<_;omega,by have:=r.un;show A.units+3+16 * k+200<_;omega⟩
theorem gU_{A:Ag}{C:Addr}{us:List Aa}:(A.under (.builtin "type.__call__" ⟨.ref C::us,kw⟩)).depth=A.depth+1:=by
 first|rfl|simp[Around.under,Code.weight,Code.isCreation,Code.isGuard,Code.isCaller,Code.frames,Code.isFrame,guardIds]
theorem gN_{A:Ag}{C:Addr}{us:List Aa}:(A.under (.builtin "type.__call__" ⟨.ref C::us,kw⟩)).units=A.units+1:=by
 first|rfl|simp[Around.under,Code.cUnits,Code.frames,Code.isFrame]
theorem Room.make{A:Ag}(r:Room (k+1) A)(C:Addr)(us:List Aa)(kw:List (Str × Aa)):Room k (A.under (.builtin "type.__call__" ⟨.ref C::us,kw⟩)):=
 ⟨r.hd,by have:=r.dp;rw[gU_];omega,by have:=r.un;rw[gN_];omega⟩
theorem Room.depth{A:Ag}(r:Room k A):A.depth<recursionLimit:=by have:=r.dp;omega
theorem Room.units{A:Ag}(r:Room k A):A.units+64<cLine:=by have:=r.un;omega
def tNil:TA:=λ_ H Q=>Q [] H
def bD'(ta:TE)(tr:TA):TA:=λσ H Q=>ta σ H λx H1=>tr σ H1 λxs H2=>Q (x::xs) H2
section
variable{X:Cx}{e:Expr}{es:List Expr}{te:TE}{t:TA}{pos:Pos}
theorem a2_:PA X [] tNil:=λ_ _ _ _ H Q I h=>Calls.spliced_nil ⟨[],H,I,.nil,h⟩
theorem a0_(ha:PE X e te)(hr:PA X es t)(hs:starEach (e::es) X.env=(false,eval e X.env)::starEach es X.env:=by rfl):PA X (e::es) (bD' te t):=by
 intro pos pins s σ H Q I h;rw[hs];show wpAny _ _ (spliced ((false,eval e X.env)::backTo pos (starEach es X.env))) _ _ s;refine Calls.spliced_cons (thn (ha pins s σ H _ I h) λu s1 ⟨x,H1,I1,r1,q1⟩=>?_);exact thn (hr pos pins s1 σ H1 _ I1 q1) λus s2 ⟨xs,H2,I2,r2,q2⟩=>⟨x::xs,H2,I2,.cons r1 r2,q2⟩
def tTup(t:TA):TE:=λσ H Q=>t σ H λxs H1=>xs.length<=sizeLine/\∀p,H1 p=none->Q (.ref p) (upd H1 p (.tup xs))
def tLst(t:TA):TE:=λσ H Q=>t σ H λxs H1=>xs.length<=sizeLine/\∀p,H1 p=none->Q (.ref p) (upd H1 p (.lst xs))
theorem b0_{x1}(h:PA X es t):PE X (.Tuple es x1 pos) (tTup t):=by
 intro pins s σ H Q I hq;refine wpAny_Tuple_spliced (thn (h pos pins s σ H _ I hq) λus s1 ⟨xs,H1,I1,r,z,q⟩=>⟨by rw[<- r.length];exact z,?_⟩);have hf:H1 s1.heap.objs.size=none:=I1.hok.fresh (ai' _);refine⟨.ref s1.heap.objs.size,upd H1 s1.heap.objs.size (.tup xs),I1.laid (t':=s1.toks) (λb u e=>a_0 _ e) (ai' _) ?_,rfl,q _ hf⟩;exact⟨z,us,r,⟨_,b_0 _ rfl,rfl,_,rfl⟩,_,b_0 _ rfl,rfl⟩
theorem as_(h:PA X es t):PE X (.List es pos) (tLst t):=by
 intro pins s σ H Q I hq;refine wpAny_List_spliced (thn (h pos pins s σ H _ I hq) λus s1 ⟨xs,H1,I1,r,z,q⟩=>⟨by rw[<- r.length];exact z,?_⟩);have hf:H1 s1.heap.objs.size=none:=I1.hok.fresh (ai' _);refine⟨.ref s1.heap.objs.size,upd H1 s1.heap.objs.size (.lst xs),I1.laid (t':=s1.toks) (λb u e=>a_0 _ e) (ai' _) ?_,rfl,q _ hf⟩;exact⟨z,us,0,r,b_0 _ rfl⟩
end
abbrev Sp:=List V->Hp->VK->XK->Prop
abbrev CXT:=List Env->Hp->Ab->XK->Aa->Ab->Prop
structure Env0 (P:Ad) (w:Af) (K:F__) (mg:Str->Option Aa) (base:Heap) (A:Ag) (outer:List Env) (s:Ab) (H:Hp):Prop where
 frames:A.frames=some outer
 mod:Mod K mg base
 bs:∀b o,base.get? b=some o->s.heap.get? b=some o/\H b=none
 bsz:base.objs.size<=s.heap.objs.size
 funs:s.heap.FunFrames base outer
 frf:∀b∈frs outer,H b=none
 hok:HOk P w H s.heap
 bare:AllBare s.gens
def CE(outer:List Env)(P:Ad)(w:Af)(H:Hp)(s:Ab)(Q:VK)(u:Aa)(s':Ab):Prop:=
 ∃v H',s'.os=s.os/\AllBare s'.gens/\Un (frs outer) [] H H' s.heap s'.heap/\HOk P w H' s'.heap/\RelV v u/\Q v H'
def CR(CX:CXT)(outer:List Env)(P:Ad)(w:Af)(H:Hp)(s:Ab)(Q:VK)(E:XK)(r:Result)(s':Ab):Prop:=
 match r with
 |.ok (.ret u)=>CE outer P w H s Q u s'
 |.ok _=>False
 |.error e=>CX outer H s E e s'
structure FnOk (P:Ad) (w:Af) (K:F__) (mg:Str->Option Aa) (base:Heap) (CX:CXT) (k:Nat) (f:Addr) (fd:Ae) (ps:List Str) (sp:Sp):Prop where
 len:∀vs H Q E,sp vs H Q E->vs.length=ps.length
 run:∀(A:Ag) (outer:List Env) (s:Ab) (H:Hp) (args:Args) (us:List Aa) (vs:List V) (Q:VK) (E:XK),Room k A->Env0 P w K mg base A outer s H->BindsTo s fd args (ps.zip us)->Vals vs us->sp vs H Q E->
  codeAny (model P w) A (.call (.ref f) args) (CR CX outer P w H s Q E) s
variable{H:Hp}{A:Ag}{K:F__}{mg:Str->Option Aa}{base:Heap}{outer:List Env}
theorem Env0.make{s:Ab}(e:Env0 P w K mg base A outer s H)(C:Addr)(us:List Aa)(kw:List (Str × Aa)) :
  Env0 P w K mg base (A.under (.builtin "type.__call__" ⟨.ref C::us,kw⟩)) outer s H:=⟨by first|exact e.frames|(simpa [Around.under,Code.envs,Code.isFrame,pushEnvs] using e.frames),e.mod,e.bs,e.bsz,e.funs,e.frf,e.hok,e.bare⟩
section
variable{X:Cx}{pins:List (Addr × Obj)}{σ:St}{H:Hp}{s s':Ab}
theorem Inv.env0(I:Inv X pins σ H s):Env0 X.prog X.w X.K X.mg X.base X.A X.stack s H:=
 ⟨I.ok.frames,I.ok.mod,I.bs,aO' I.ok.bsz I.sz,I.stack,I.stkFree,I.hok,I.bare⟩
theorem Inv.after{Q:VK}(I:Inv X pins σ H s)(h:CE X.stack X.prog X.w H s Q u s'):EP X pins σ Q u s':=by
 obtain⟨v,H',os,bare,un,hok,r,q⟩:=h;obtain⟨hh,g,d,t,os'⟩:=s';obtain rfl:os'=s.os:=os;exact⟨v,H',I.call (h':=hh) (g':=g) (d':=d) (t':=t) (ch:=[]) un hok bare (λb z=>absurd z Z2),r,q⟩
end
def tCall(sp:Sp)(dvs:List V)(E:XK)(t:TA):TE:=λσ H Q=>t σ H λvs H1=>sp (vs++dvs) H1 Q E
inductive tMethR (C:Addr) (m:Str) (sp:Sp) (dvs:List V) (E:XK) (t:TA) (σ:St) (Q:VK) (x:V) (H1:Hp):Prop
 |mk:∀a dx fs,x=.ref a->H1 a=some (.ins C dx fs)->fs.lookup m=none->(t σ H1 λvs H2=>sp (x::(vs++dvs)) H2 Q E)->tMethR C m sp dvs E t σ Q x H1
def tMeth(C:Addr)(m:Str)(sp:Sp)(dvs:List V)(E:XK)(ta:TE)(t:TA):TE:=λσ H Q=>ta σ H λx H1=>tMethR C m sp dvs E t σ Q x H1
def tMake(C:Addr)(sp:Sp)(dvs:List V)(E:XK)(t:TA):TE:=λσ H Q=>t σ H λvs H1=>∀x dx,H1 x=none->H1 dx=none->dx≠x->
 sp (.ref x::(vs++dvs)) (upd (upd H1 dx (.own x)) x (.ins C dx [])) (λv H2=>v=.non/\Q (.ref x) H2) E
def b9'(K:F__)(fd:Ae)(ps:List Str)(ds:List Aa):Prop:=
 ∀(s:Ab) (us:List Aa),K.In s.heap->(us++ds).length=ps.length->BindsTo s fd ⟨us,[]⟩ (ps.zip (us++ds))
variable{fd:Ae}{ps:List Str}
theorem b9'.all(h:∀us:List Aa,us.length=ps.length->bindArgs fd ⟨us,[]⟩=pure (ps.zip us)):b9' K fd ps []:=λs us _ hl=>by
 rw[aD'] at hl ⊢;exact .of_eq (h us hl)
def by'(CX:CXT)(X:Cx)(E:XK):Prop:=∀(pins:List (Addr × Obj)) (σ:St) (H:Hp) (s:Ab) (e:Aa) (s':Ab),Inv X pins σ H s->CX X.stack H s E e s'->X.xe e s'
variable{E:XK}{Q:VK}{f:Addr}{dvs vs:List V}{CX:CXT}{sp:Sp}{ds:List Aa}
theorem hK_{s:Ab}{us:List Aa}(F:FnOk X.prog X.w X.K X.mg X.base CX k f fd ps sp)(hr:Room k X.A)(hb:b9' X.K fd ps ds)(hd:Vals dvs ds)(hx:by' CX X E)(I:Inv X pins σ H s)(r:Vals vs us)(h:sp (vs++dvs) H Q E):wpAny (model X.prog X.w) X.A (call (.ref f) us) (EP X pins σ Q) X.xe s:=by
 have r2:Vals (vs++dvs) (us++ds):=r.append hd;have hl:(us++ds).length=ps.length:=by rw[<- r2.length];exact F.len _ _ _ _ h
 refine wpAny_call (codeAny_mono (F.run X.A X.stack s H ⟨us,[]⟩ (us++ds) (vs++dvs) Q E hr I.env0 (hb s us I.kIn hl) r2 h) λr s' hq=>?_);cases r with
 |error e=>exact hx pins σ H s e s' I hq
 |ok fl=>
  cases fl with
  |ret u=>exact I.after hq
  |next=>exact False.elim hq
  |brk=>exact False.elim hq
  |cont=>exact False.elim hq
variable{x:Str}{e:Expr}{t:TA}
theorem fU_(F:FnOk X.prog X.w X.K X.mg X.base CX k f fd ps sp)(hr:Room k X.A)(hg:Gl X x)(hm:X.mg x=some (.ref f))(hk:PySem.W.keepIn X.K (.ref f)=true)(hb:b9' X.K fd ps ds)(hd:Vals dvs ds)(hx:by' CX X E)
  (ha:PA X (e::es) t) (hdb:(x == ("__debug__":Str))=false:=by decide) (he:starEach (e::es) X.env=(false,eval e X.env)::starEach es X.env:=by rfl) (hpl:(backTo pos (starEach es X.env)).any (·.1)=false:=by rfl) :
  PE X (.Call (.Name x p) (e::es) [] pos) (tCall sp dvs E t):=by
 intro pins s σ H Q I h;refine wpAny_Call_Name_kw (cl_ I hg hm ?_ hdb);refine PySem.W.callWith_K (h₀:=X.base) I.ok.mod.kin hk (thn (ha pos pins s σ H _ I h) λus s1 ⟨vs,H1,I1,r,q⟩=>⟨I1.kIn,?_⟩) he hpl;exact hK_ F hr hb hd hx I1 r q
variable{o:Expr}{ta:TE}{C:Addr}{m:Str}{apos:Pos}
theorem hN_(he:PE X o ta)(c:Cls X.K C)(hm:Meth X.K C m f)(F:FnOk X.prog X.w X.K X.mg X.base CX k f fd ps sp)(hr:Room k X.A)(hb:b9' X.K fd ps ds)(hd:Vals dvs ds)(hx:by' CX X E)(ha:PA X (e::es) t)(hst:starEach (e::es) X.env=(false,eval e X.env)::starEach es X.env:=by rfl)(hpl:(backTo pos (starEach es X.env)).any (·.1)=false:=by rfl)(ht:eval (.Call (.Attribute o m apos) (e::es) [] pos) X.env=(do
   let ov <- eval o X.env
   standAt apos.atName
   let (f,first) <- holding [ov] (getMethod ov m pl)
   callWith pos f first (backTo pos (starEach (e::es) X.env)) (backToKw pos (keywordEach [] X.env))):=by rfl) :
  PE X (.Call (.Attribute o m apos) (e::es) [] pos) (tMeth C m sp dvs E ta t):=by
 intro pins s σ H Q I h;refine PySem.W.methodCall_KW (pl:=pl) (thn (he pins s σ H _ I h) λu s1 ⟨x,H1,I1,rx,a,dx,fs,ex,ea,l,q⟩=>?_) ht;subst ex;obtain rfl:u=Value.ref a:=rx;refine e9_ I1 ea c hm l ?_;refine PySem.W.callWith_K (first:=[.ref a]) (h₀:=X.base) I.ok.mod.kin hm.kp (thn (ha pos pins s1 σ H1 _ I1 q) λus s2 ⟨vs,H2,I2,r,q2⟩=>⟨I2.kIn,?_⟩) hst hpl;exact hK_ (us:=.ref a::us) (vs:=.ref a::vs) F hr hb hd hx I2 (.cons rfl r) q2
theorem ja_(he:PE X o ta)(c:Cls X.K C)(hm:Meth X.K C m f)(F:FnOk X.prog X.w X.K X.mg X.base CX k f fd ps sp)(hr:Room k X.A)(hb:b9' X.K fd ps ds)(hd:Vals dvs ds)(hx:by' CX X E)(ht:eval (.Call (.Attribute o m apos) [] [] pos) X.env=(do
   let ov <- eval o X.env
   standAt apos.atName
   let (f,first) <- holding [ov] (getMethod ov m pl)
   callWith pos f first (backTo pos (starEach [] X.env)) (backToKw pos (keywordEach [] X.env))):=by rfl) :
  PE X (.Call (.Attribute o m apos) [] [] pos) (tMeth C m sp dvs E ta tNil):=by
 intro pins s σ H Q I h;refine PySem.W.methodCall_KW (pl:=pl) (thn (he pins s σ H _ I h) λu s1 ⟨x,H1,I1,rx,a,dx,fs,ex,ea,l,q⟩=>?_) ht;subst ex;obtain rfl:u=Value.ref a:=rx;refine e9_ I1 ea c hm l ?_;exact PySem.W.callWith_K0 (first:=[.ref a]) I1.kIn hm.kp (hK_ (us:=[.ref a]) (vs:=[.ref a]) F hr hb hd hx I1 (.cons rfl .nil) q)
structure Mk (K:F__) (C f:Addr):Prop where
 makes:PySem.W.makesIn K C=true
 init:PySem.W.findIn K (.ref C) "__init__"=some (some (.ref f))
 fn:PySem.W.isFn K (.ref f)=true
 kp:PySem.W.keepIn K (.ref C)=true
theorem iY_{s:Ab}{us:List Aa}(M:Mk X.K C f)(F:FnOk X.prog X.w X.K X.mg X.base CX k f fd ps sp)(hr:Room (k+1) X.A)(hb:b9' X.K fd ps ds)(hd:Vals dvs ds)(hx:by' CX X E)(I:Inv X pins σ H s)(r:Vals vs us)(h:∀x dx,H x=none->H dx=none->dx≠x->sp (.ref x::(vs++dvs)) (upd (upd H dx (.own x)) x (.ins C dx [])) (λv H2=>v=.non/\Q (.ref x) H2) E) :
  wpAny (model X.prog X.w) X.A (call (.ref C) us) (EP X pins σ Q) X.xe s:=by
 have hq:=h (s.heap.objs.size+1) s.heap.objs.size (I.hok.fresh (Nat.le_succ _)) (I.hok.fresh (ai' _)) (av' (Nat.lt_succ_self _));have I2:=Inv.made (C:=C) I;have r2:Vals (V.ref (s.heap.objs.size+1)::(vs++dvs)) (Value.ref (s.heap.objs.size+1)::(us++ds)):=.cons rfl (r.append hd)
 have hl:(Value.ref (s.heap.objs.size+1)::us++ds).length=ps.length:=by
  have e:=r2.length;rw[F.len _ _ _ _ hq] at e;exact e.symm
 refine wpAny_call (j1_ (f:=f) I.kIn M.makes M.init (beq_iff_eq.mp M.fn) (codeAny_mono (F.run _ X.stack _ _ ⟨Value.ref (s.heap.objs.size+1)::us,[]⟩ (Value.ref (s.heap.objs.size+1)::(us++ds)) _ _ E (hr.make C us [])
  (I2.env0.make C us []) (hb _ (Value.ref (s.heap.objs.size+1)::us) I2.kIn hl) r2 hq) λr s' hq'=>?_))
 cases r with
 |error e=>exact hx pins σ _ _ e s' I2 hq'
 |ok fl=>
  cases fl with
  |ret u=>
   obtain⟨v,H',I3,rv,ev,q3⟩:=I2.after hq';subst ev;exact⟨rv,⟨V.ref (s.heap.objs.size+1),H',I3,rfl,q3⟩⟩
  |next=>exact False.elim hq'
  |brk=>exact False.elim hq'
  |cont=>exact False.elim hq'
theorem hr_(M:Mk X.K C f)(F:FnOk X.prog X.w X.K X.mg X.base CX k f fd ps sp)(hr:Room (k+1) X.A)(hg:Gl X x)(hm:X.mg x=some (.ref C))(hb:b9' X.K fd ps ds)(hd:Vals dvs ds)(hx:by' CX X E)
  (ha:PA X (e::es) t) (hdb:(x == ("__debug__":Str))=false:=by decide) (he:starEach (e::es) X.env=(false,eval e X.env)::starEach es X.env:=by rfl) (hpl:(backTo pos (starEach es X.env)).any (·.1)=false:=by rfl) :
  PE X (.Call (.Name x p) (e::es) [] pos) (tMake C sp dvs E t):=by
 intro pins s σ H Q I h;refine wpAny_Call_Name_kw (cl_ I hg hm ?_ hdb);refine PySem.W.callWith_K (h₀:=X.base) I.ok.mod.kin M.kp (thn (ha pos pins s σ H _ I h) λus s1 ⟨vs,H1,I1,r,q⟩=>⟨I1.kIn,?_⟩) he hpl;exact iY_ M F hr hb hd hx I1 r q
structure KBinds (K:F__) (fd:Ae) (ps ks:List Str) (g:List Aa->List Aa->List Aa) (gV:List V->List V->List V):Prop where
 to:∀(s:Ab) (us ws:List Aa),K.In s.heap->(g us ws).length=ps.length->BindsTo s fd ⟨us,ks.zip ws⟩ (ps.zip (g us ws))
 rel:∀{vs:List V} {us:List Aa} {zs:List V} {ws:List Aa},Vals vs us->Vals zs ws->Vals (gV vs zs) (g us ws)
structure a6' (N P:List Str) (sc:Scope):Prop where
 kind:sc.kind=.function
 co:sc.isCoroutine=false
 gen:sc.isGenerator=false
 nd:N.Nodup
 pre:N.take P.length=P
 par:∀x∈P,sc.names.lookup x=some .local∨sc.names.lookup x=some .cell
 nofree:∀y∈sc.names,y.2≠.free
theorem f3_{kindOf:Str->Option NameKind}{x:Str}:∀{binds:List (Str × Aa)} {m:Str->Option Aa},(∀v,(x,v)∉binds)->bindL kindOf binds m x=m x
 |[],_,_=>rfl
 |(n,v)::r,m,h=>by
  unfold bindL;rw[f3_ λw hw=>h w (aj' _ hw)];split
  ·have:x≠n:=by rintro rfl;exact h v ap'
   simp[this]
  ·rfl
theorem eZ_{kindOf:Str->Option NameKind}{x:Str}:∀{binds:List (Str × Aa)} {m:Str->Option Aa},(∀v,(x,v)∉binds)->bindC kindOf binds m x=m x
 |[],_,_=>rfl
 |(n,v)::r,m,h=>by
  unfold bindC;rw[eZ_ λw hw=>h w (aj' _ hw)];split
  ·rfl
  ·have:x≠n:=by rintro rfl;exact h v ap'
   simp[this]
theorem eL_{kindOf:Str->Option NameKind}{x:Str}{v:Aa}:∀{P:List Str} {vs:List Aa} {i:Nat} {m:Str->Option Aa},P.Nodup->P[i]? = some x->vs[i]? = some v->kindOf x=some .local->
  bindL kindOf (P.zip vs) m x=some v
 |[],_,_,_,_,h,_,_=>by simp at h
 |_::_,[],_,_,_,_,h,_=>by simp at h
 |p::P,w::vs,0,m,nd,h1,h2,hk=>by
  simp at h1 h2;subst h1;subst h2;show bindL kindOf ((p,w)::P.zip vs) m p=_;unfold bindL;rw[f3_ λv hv=>(aV'.mp nd).1 (List.of_mem_zip hv).1,b__ hk];simp
 |p::P,w::vs,i+1,m,nd,h1,h2,hk=>by
  show bindL kindOf ((p,w)::P.zip vs) m x=_;unfold bindL;exact eL_ (i:=i) (aV'.mp nd).2 (by simpa using h1) (by simpa using h2) hk
theorem eV_{kindOf:Str->Option NameKind}{x:Str}{v:Aa}:∀{P:List Str} {vs:List Aa} {i:Nat} {m:Str->Option Aa},P.Nodup->P[i]? = some x->vs[i]? = some v->kindOf x≠some .local->
  bindC kindOf (P.zip vs) m x=some v
 |[],_,_,_,_,h,_,_=>by simp at h
 |_::_,[],_,_,_,_,h,_=>by simp at h
 |p::P,w::vs,0,m,nd,h1,h2,hk=>by
  simp at h1 h2;subst h1;subst h2;show bindC kindOf ((p,w)::P.zip vs) m p=_;unfold bindC;rw[eZ_ λv hv=>(aV'.mp nd).1 (List.of_mem_zip hv).1,a_5 hk];simp
 |p::P,w::vs,i+1,m,nd,h1,h2,hk=>by
  show bindC kindOf ((p,w)::P.zip vs) m x=_;unfold bindC;exact eV_ (i:=i) (aV'.mp nd).2 (by simpa using h1) (by simpa using h2) hk
def start(N:List Str)(vs:List V):St:=vs.map some++List.replicate (N.length - vs.length) none
def cxOf(CX:CXT)(P:Ad)(w:Af)(K:F__)(mg:Str->Option Aa)(base:Heap)(N:List Str)(qual:Str)(scope:Scope)(f:Addr)(cd:Aa)(A:Ag)(outer:List Env)(s:Ab)(H:Hp)(E:XK):Cx where
 prog:=P
 w:=w
 K:=K
 mg:=mg
 base:=base
 A:=A.deeper (envOfC qual scope s.heap.objs.size f cd)
 N:=N
 s₀:=s
 H₀:=H
 env:=envOfC qual scope s.heap.objs.size f cd
 outer:=outer
 stack:=envOfC qual scope s.heap.objs.size f cd::outer
 ex:=[]
 calm:=true
 fn:=λ_=>true
 pn:=[]
 xe:=λe s'=>wpAny (model P w) (A.deeper (envOfC qual scope s.heap.objs.size f cd)) (leaving (envOfC qual scope s.heap.objs.size f cd) e) (λ_ s''=>CX outer H s E e s'') (λe' s''=>CX outer H s E e' s'') s'
theorem gk_{sc:Scope}(h:sc.names.lookup x=some .cell):∃c,(cellsFrom n sc.names []).lookup x=some c:=by
 have q:=PySem.W.cellsFrom_some sc.names n [] (.inl h);exact aP'.mp q
variable{qual:Str}{scope:Scope}
theorem hd_{cd:Aa}{s s1:Ab}{us:List Aa}(S:a6' N ps scope)(hd:A.handled=none)(e0:Env0 P w K mg base A outer s H)(hl:vs.length=ps.length)(r:Vals vs us)(x:InCallC s s.heap.objs.size (bindL (envOfC qual scope s.heap.objs.size f cd).kindOf (ps.zip us) λ_=>none) (cellsFrom (s.heap.objs.size+1) scope.names []) (bindC (envOfC qual scope s.heap.objs.size f cd).kindOf (ps.zip us) λ_=>none) s1) :
  Inv (cxOf CX P w K mg base N qual scope f cd A outer s H E) [] (start N vs) H s1:=by
 have hpl:ps.length<=N.length:=by have:=c_5 List.length S.pre;rw[af'] at this;omega
 obtain⟨h1,tk,rfl,hk⟩:=x.done;have noA:∀b:Addr,b∉(cxOf CX P w K mg base N qual scope f cd A outer s H E).ex:=λb z=>absurd (show b∈([]:List Addr) from z) Z2
 refine⟨⟨e0.mod,S.kind,rfl,rfl,ai' _,λy z c h1 h2=>?_,λy hy=>?_,λy c _ h=>?_,λ_=>hd,Around.frames_deeper e0.frames,.inr ⟨rfl,rfl⟩,λb z=>absurd z (noA b),e0.bs,e0.bsz,λb _ _=>noA b,λb z=>absurd z (noA b),e0.funs,e0.frf⟩,
  rfl,e0.bare,Un.kept hk,⟨_,x.toInCall.ns,λi y v h1 h2 h3=>?_⟩,λy c h=>⟨_,x.cell y c h⟩,e0.hok.fresh (ai' _),λy c h=>?_,λp hp=>absurd (show p∈([]:List (Addr × Obj)) from hp) Z2,e0.hok.kept hk,?_⟩
 ·exact name_of_addr x.apart (d_5 h1) (d_5 h2)
 ·have hy:scope.names.lookup y=some .cell∨scope.names.lookup y=some .free:=hy;rcases hy with hy|hy
  ·exact gk_ hy
  ·exact absurd rfl (S.nofree _ (d_5 hy))
 ·exact Nat.le_of_lt (x.above y c (d_5 h))
 ·have hi:i<vs.length:=by
   unfold start at h2;by_cases hi:i<vs.length
   ·exact hi
   ·rw[List.getElem?_append_right (by simpa using hi)] at h2;rw[List.getElem?_replicate] at h2;split at h2<;>cases h2
  have ha:vs[i]? = some v:=by
   unfold start at h2;rw[List.getElem?_append_left (by simpa using hi),az'] at h2;cases e:vs[i]? with
   |none=>rw[e] at h2;cases h2
   |some a=>rw[e] at h2;cases h2;rfl
  obtain⟨u,hu,rv⟩:=r.get ha
  have hp:ps[i]? = some y:=by
   rw[<- S.pre,List.getElem?_take_of_lt Z1];exact h1
  have ndP:ps.Nodup:=by rw[<- S.pre];exact S.nd.sublist (List.take_sublist _ _)
  refine⟨u,rv,?_⟩;rcases S.par y (ae' hp) with k|k
  ·exact .inl ⟨k,eL_ ndP hp hu k⟩
  ·obtain⟨c,e⟩:=gk_ (n:=s.heap.objs.size+1) k;refine .inr ⟨.inl k,c,e,?_⟩;have q:=x.cell y c e;rw[eV_ ndP hp hu (by show scope.names.lookup y≠_;rw[k];decide)] at q;exact q
 ·exact e0.hok.fresh (Nat.le_of_lt (x.above y c (d_5 h)))
 ·unfold start;show _=N.length;rw[an',aa',aZ'];omega
theorem kP_{name:Str}{params:Arguments}{dV kV doc pm cdv ct oc:Aa}{an od:Option Addr}{osl:Array (Option Aa)}(lk:K.lookup f=some ⟨oc,od,.func (PySem.W.fnOf name qual params body scope dV kV doc pm an cdv ct),osl⟩)(hcd:PySem.W.codeIn K cdv qual=true)(S:a6' N ps scope)(len:∀vs H Q E,sp vs H Q E->vs.length=ps.length)(hbody:∀(A:Ag) (outer:List Env) (s:Ab) (H:Hp) (vs:List V) (Q:VK) (E:XK),Room k (A.deeper (envOfC qual scope s.heap.objs.size f cdv))->sp vs H Q E->
   ∃t,PSs (cxOf CX P w K mg base N qual scope f cdv A outer s H E) body t/\t { nx:=λ_ H'=>Q .non H',rt:=Q } (start N vs) H) :
  FnOk P w K mg base CX (k+1) f (PySem.W.fnOf name qual params body scope dV kV doc pm an cdv ct) ps sp:=by
 refine⟨len,λA outer s H args us vs Q E hr e0 hb r hsp=>?_⟩;have hl:=len _ _ _ _ hsp;have KX:K.In s.heap:=e0.mod.kin.keeps λb o e=>(e0.bs b o e).1;have lim:s.heap.NoLimit:=e0.mod.nolimit.keeps λb o e=>(e0.bs b o e).1
 have hkind:∀y∈ps.zip us,scope.names.lookup y.1=some .local∨(scope.names.lookup y.1=some .cell/\((cellsFrom (s.heap.objs.size+1) scope.names []).lookup y.1).isSome=true):=λ⟨n,v⟩ hy=>by
  rcases S.par n (List.of_mem_zip hy).1 with q|q
  ·exact .inl q
  ·exact .inr ⟨q,PySem.W.cellsFrom_some _ _ _ (.inl q)⟩
 refine codeAny_call_function hr.depth (KX _ _ lk) rfl S.co S.gen rfl (PySem.W.codeRec_of KX hcd) (hb _ _ _ _ ?_);refine wpAny_newFunctionEnv_cells S.kind hkind λenv he s1 x=>?_;subst he;refine⟨lim.keeps x.toInCall.keep,codeAny_func ?_⟩;obtain⟨t,ht,hq⟩:=hbody A outer s H vs Q E (hr.deeper _) hsp;have I:Inv (cxOf CX P w K mg base N qual scope f cdv A outer s H E) [] (start N vs) H s1:=hd_ S hr.hd e0 hl r x;refine c_6 (ht [] s1 (start N vs) H _ I hq) (λfl s' hs=>?_) λe s' hs=>hs
 have fin:∀{σ':St} {H':Hp} {v:V} {u:Aa},Inv (cxOf CX P w K mg base N qual scope f cdv A outer s H E) [] σ' H' s'->RelV v u->Q v H'->CE outer P w H s Q u s':=
  λ{σ' H' v u} J rv q=>⟨v,H',J.os,J.bare,J.base,J.hok,rv,q⟩
 cases fl with
 |ret u=>
  obtain⟨v,σ',H',J,rv,q⟩:=hs;exact fin J rv q
 |next=>
  obtain⟨σ',H',J,q⟩:=hs;exact fin (v:=V.non) (u:=Value.none) J rfl q
 |brk=>
  obtain⟨_,_,_,q⟩:=hs;exact False.elim q
 |cont=>
  obtain⟨_,_,_,q⟩:=hs;exact False.elim q
def tCB(r:List V->Hp->VK->Prop)(t:TA):TE:=λσ H Q=>t σ H λvs H1=>r vs H1 Q
variable{r:List V->Hp->VK->Prop}{id:Ah}
theorem a6_(hc:bx' X (.builtin id) r)(hg:Gl X x)(hm:X.mg x=none)(hv:bootBuiltins x=some (.builtin id))(ha:PA X (e::es) t)(hn:x≠"__name__":=by decide)(hdb:(x == ("__debug__":Str))=false:=by decide)
  (he:starEach (e::es) X.env=(false,eval e X.env)::starEach es X.env:=by rfl) (hpl:(backTo pos (starEach es X.env)).any (·.1)=false:=by rfl):PE X (.Call (.Name x p) (e::es) [] pos) (tCB r t):=by
 intro pins s σ H Q I h;refine wpAny_Call_Name_kw (dU_ I hg hm hv ?_ hn hdb);exact PyProof.Rows.callWith_builtin1 (thn (ha pos pins s σ H _ I h) λus s1 ⟨vs,H1,I1,r1,q1⟩=>hc pins s1 σ H1 vs us Q I1 r1 q1) he hpl
variable{T:Ah}
theorem aA_(hc:bx' X (.type T) r)(hg:Gl X x)(hm:X.mg x=none)(hv:bootBuiltins x=some (.type T))(ha:PA X (e::es) t)(hn:x≠"__name__":=by decide)(hdb:(x == ("__debug__":Str))=false:=by decide)
  (he:starEach (e::es) X.env=(false,eval e X.env)::starEach es X.env:=by rfl) (hpl:(backTo pos (starEach es X.env)).any (·.1)=false:=by rfl):PE X (.Call (.Name x p) (e::es) [] pos) (tCB r t):=by
 intro pins s σ H Q I h;refine wpAny_Call_Name_kw (dU_ I hg hm hv ?_ hn hdb);exact PyProof.Rows.callWith_type1 (thn (ha pos pins s σ H _ I h) λus s1 ⟨vs,H1,I1,r1,q1⟩=>hc pins s1 σ H1 vs us Q I1 r1 q1) he hpl
end L2
namespace HT
open PySem PyProof.Rows
section
open PySem.SeqAt
open PySem.AutoSeq1 (wpAny_loadPart')
open PySem.MeetsSeq PySem.MeetsSeq2 PySem.MeetsSeq3
end
def sIx(n d:Nat):Option Int->Nat
 |none=>d
 |some v=>if v<0 then (v+(n:Int)).toNat else min v.toNat n
theorem sIx_none(n d:Nat):sIx n d none=d:=rfl
theorem sIx_nat(n d k:Nat):sIx n d (some (k:Int))=min k n:=by
 show (if (k:Int)<0 then ((k:Int)+(n:Int)).toNat else min (k:Int).toNat n)=min k n;rw[a_5 Z1,Int.toNat_natCast]
end HT
namespace L2
open PySem PySem.Spec PyProof.Rows
abbrev TO:=St->Hp->(Option Int->Hp->Prop)->Prop
def PO(X:Cx)(e:Option Expr)(t:TO):Prop:=
 ∀(pins:List (Addr × Obj)) (s:Ab) (σ:St) (H:Hp) (Q:Option Int->Hp->Prop),Inv X pins σ H s->t σ H Q->
  wpAny (model X.prog X.w) X.A (evalPart e X.env) (λu s'=>∃o H',Inv X pins σ H' s'/\IsPart u o/\Q o H') X.xe s
def dU':TO:=λ_ H Q=>Q none H
inductive tPartR (Q:Option Int->Hp->Prop) (x:V) (H1:Hp):Prop
 |mk:∀i,x=.int i->Q (some i) H1->tPartR Q x H1
def el'(t:TE):TO:=λσ H Q=>t σ H λx H1=>tPartR Q x H1
section
variable{X:Cx}{e:Expr}{te:TE}{lo hi:Option Expr}{tl th:TO}{pos p2:Pos}
theorem aD_:PO X none dU':=by
 intro pins s σ H Q I h;rw[evalPart_none];exact a_4 ⟨none,H,I,.none,h⟩
theorem aB_(h:PE X e te):PO X (some e) (el' te):=by
 intro pins s σ H Q I hw;rw[evalPart_some];refine thn (h pins s σ H _ I hw) λu s1 ⟨x,H1,I1,r1,q1⟩=>?_;obtain⟨i,rfl,q⟩:=q1;obtain⟨t,rfl⟩:=r1;exact⟨some i,H1,I1,.int i t,q⟩
def SlR(X:Cx)(r:V->Option Int->Option Int->Hp->VK->Prop):Prop:=
 ∀(pins:List (Addr × Obj)) (s:Ab) (σ:St) (H:Hp) (x:V) (v vl vu:Aa) (lo hi:Option Int) (sl:Addr) (Q:VK),Inv X pins σ H s->RelV x v->s.heap.IsSliceOf sl vl vu .none->IsPart vl lo->IsPart vu hi->r x lo hi H Q->
  ∃T id,typeLookup (.type T) "__getitem__"=pure (some (.builtin id))/\s.TypeIs v T/\wpAny (model X.prog X.w) X.A (getItem v (.ref sl)) (EP X pins σ Q) X.xe s
def tSl(r:V->Option Int->Option Int->Hp->VK->Prop)(te:TE)(tl th:TO):TE:=λσ H Q=>te σ H λx H1=>tl σ H1 λl H2=>th σ H2 λu H3=>r x l u H3 Q
theorem ar_{r:V->Option Int->Option Int->Hp->VK->Prop}(hr:SlR X r)(he:PE X e te)(hl:PO X lo tl)(hu:PO X hi th):PE X (.Subscript e (.Slice lo hi none p2) pos) (tSl r te tl th):=by
 intro pins s σ H Q I h;refine Subscript_ (thn (he pins s σ H _ I h) λv s1 ⟨x,H1,I1,r1,q1⟩=>?_);refine wpAny_Slice (thn (hl pins s1 σ H1 _ I1 q1) λvl s2 ⟨l,H2,I2,pl,q2⟩=>thn (hu pins s2 σ H2 _ I2 q2) λvu s3 ⟨u,H3,I3,pu,q3⟩=>?_);rw[evalPart_none];refine a_4 ?_;have I4:Inv X pins σ H3 { s3 with heap:=s3.heap.push { cls:=.type "slice",data:=.fields #[vl,vu,.none] } }:=I3.kept (t':=s3.toks) λb ob q=>a_0 _ q;obtain⟨T,id,hT,ht,hg⟩:=hr pins { s3 with heap:=s3.heap.push { cls:=.type "slice",data:=.fields #[vl,vu,.none] } } σ H3 x v vl vu l u s3.heap.objs.size Q I4 r1 (Heap.IsSliceOf.new ..) pl pu q3;show wpAny (model X.prog X.w) X.A (subscriptTail e (.Slice lo hi none p2) v (.ref s3.heap.objs.size)) (EP X pins σ Q) X.xe { s3 with heap:=s3.heap.push { cls:=.type "slice",data:=.fields #[vl,vu,.none] } };exact tail_any (ops:=[.ref s3.heap.objs.size,v]) ht hT hg (by with_unfolding_all rfl)
def cutV(xs:List V)(lo hi:Option Int):List V:=(xs.drop (HT.sIx xs.length 0 lo)).take (HT.sIx xs.length xs.length hi - HT.sIx xs.length 0 lo)
theorem fH_(xs:List V)(lo hi:Option Int):(cutV xs lo hi).length<=xs.length:=by
 unfold cutV;rw[af',a0'];omega
end
def ixN(n:Nat)(i:Int):Option Nat:=if 0<=i then (if i<n then some i.toNat else none) else if -(n:Int)<=i then some (i+n).toNat else none
def atI{α:Type}(xs:List α)(i:Int):Option α:=(ixN xs.length i).bind λj=>xs[j]?
variable{j n:Nat}
theorem iE_{i:Int}(h:ixN n i=some j):seqIndex? i n=some j/\j<n/\-(n:Int)<=i/\i<n:=by
 unfold ixN at h;by_cases h0:0<=i
 ·rw[b__ h0] at h;by_cases h1:i<n
  ·rw[b__ h1] at h;have e:i.toNat=j:=b_7 h;exact⟨by rw[seqIndex_of h0 h1,e],by omega,by omega,h1⟩
  ·rw[a_5 h1] at h;cases h
 ·rw[a_5 h0] at h;by_cases h1:-(n:Int)<=i
  ·rw[b__ h1] at h;have e:(i+n).toNat=j:=b_7 h;exact⟨by rw[seqIndex_neg Z1 h1,e],by omega,h1,by omega⟩
  ·rw[a_5 h1] at h;cases h
theorem fA_{α:Type}{xs:List α}{i:Int}{v:α}(h:atI xs i=some v):∃j,seqIndex? i xs.length=some j/\xs[j]? = some v/\j<xs.length/\-(xs.length:Int)<=i/\i<xs.length:=by
 unfold atI at h;cases e:ixN xs.length i with
 |none=>rw[e] at h;cases h
 |some j=>
  rw[e] at h;obtain⟨h1,h2,h3,h4⟩:=iE_ e;exact⟨j,h1,h,h2,h3,h4⟩
theorem bK'{α:Type}{xs:List α}{v:α}(h:xs[j]? = some v):atI xs (j:Int)=some v:=by
 have hj:j<xs.length:=(ac'.mp h).1
 have e:ixN xs.length (j:Int)=some j:=by
  unfold ixN;rw[b__ Z1,b__ Z1];simp
 unfold atI;rw[e];exact h
theorem gy_{α:Type}(xs:List α)(v:α):atI (xs++[v]) (-1)=some v:=by
 have hl:(xs++[v]).length=xs.length+1:=by simp
 have e:ixN (xs++[v]).length (-1)=some xs.length:=by
  unfold ixN;rw[hl,a_5 (by decide),b__ Z1];congr 1;omega
 unfold atI;rw[e];show (xs++[v])[xs.length]? = some v;simp
def PlainIx(b:Expr):Prop:=∀o i,subscripted b false o i=operate [o,i] (getItem o i)
def IxR(X:Cx)(r:R2):Prop:=
 ∀(value slice:Expr) (pins:List (Addr × Obj)) (s:Ab) (σ:St) (H:Hp) (x y:V) (v u:Aa) (Q:VK),Inv X pins σ H s->RelV x v->RelV y u->r x y H Q->
  subscripted slice false v u=operate [v,u] (getItem v u)->wpAny (model X.prog X.w) X.A (subscriptTail value slice v u) (EP X pins σ Q) X.xe s
def MtR(X:Cx)(id:Ah)(r:V->List V->Hp->VK->Prop):Prop:=
 ∀(pins:List (Addr × Obj)) (s:Ab) (σ:St) (H:Hp) (x:V) (xs:List V) (v:Aa) (us:List Aa) (Q:VK),Inv X pins σ H s->RelV x v->Vals xs us->r x xs H Q->
  wpAny (model X.prog X.w) X.A (call (.builtin id) (v::us)) (EP X pins σ Q) X.xe s
variable{pins:List (Addr × Obj)}{σ:St}{s:Ab}{its its':List Aa}
variable{A:Ag}{u:Aa}
variable{T:Ah}
section
variable{X:Cx}{a b:Expr}{ta tb:TE}{pos:Pos}
theorem ag_{r:R2}(hr:IxR X r)(ha:PE X a ta)(hb:PE X b tb)(hs:PlainIx b):PE X (.Subscript a b pos) (tOp r ta tb):=by
 intro pins s σ H Q I h;exact Subscript_ (binT ha hb I h λv u s2 x y H2 I2 rx ry q=>hr a b pins s2 σ H2 x y v u Q I2 rx ry q (hs _ _))
inductive rIxL (K:F__) (x:V) (y:V) (H:Hp) (Q:VK):Prop
 |mk:∀p xs i v,x=.ref p->y=.int i->SqL K H p xs->atI xs i=some v->Q v H->rIxL K x y H Q
inductive rIxT (K:F__) (x:V) (y:V) (H:Hp) (Q:VK):Prop
 |mk:∀p xs i v,x=.ref p->y=.int i->SqT K H p xs->atI xs i=some v->Q v H->rIxT K x y H Q
inductive rIxS (x:V) (y:V) (H:Hp) (Q:VK):Prop
 |mk:∀z i c,x=.str z->y=.int i->z.length<=sizeLine->atI z.cps.toList i=some c->Q (.str ⟨#[c]⟩) H->rIxS x y H Q
theorem ad_:IxR X (rIxL X.K):=by
 intro value slice pins s σ H x y v u Q I rx ry h hs;obtain⟨p,xs,i,z,rfl,rfl,hq,he,q⟩:=h;cases rx;obtain⟨t,rfl⟩:=ry;obtain⟨its,r,pl,hz⟩:=I.list hq;obtain⟨j,h1,h2,h3,h4,h5⟩:=fA_ he;obtain⟨w,ew,rw'⟩:=r.get h2;have hl:=r.length;have hn:=line63;have fin:EP X pins σ Q w s:=⟨z,H,I,rw',q⟩;by_cases h0:0<=i
 ·have hj:i.toNat=j:=by
   rw[seqIndex_of h0 h5] at h1;exact b_7 h1
  exact item_listR pl.isList h0 Z1 (by rw[hj];simpa using ew) fin hs
 ·have hj:(i+(its.toArray.size:Int)).toNat=j:=by
   rw[seqIndex_neg Z1 h4] at h1;rw[am',<- hl];exact b_7 h1
  exact subscriptTail_builtinR (x:=w) pl.isList.typeIs slot_list_getitem.lookup
   (wpAny_getItem_list_neg (Q:=λr s'=>r=w/\EP X pins σ Q r s') pl.isList Z1 (by rw[am']<;>omega) Z1 (by rw[hj];simpa using ew) ⟨rfl,fin⟩) hs
theorem aL_:IxR X (rIxT X.K):=by
 intro value slice pins s σ H x y v u Q I rx ry h hs;obtain⟨p,xs,i,z,rfl,rfl,hq,he,q⟩:=h;cases rx;obtain⟨t,rfl⟩:=ry;obtain⟨its,r,pl,hz⟩:=I.tuple hq;obtain⟨j,h1,h2,h3,h4,h5⟩:=fA_ he;obtain⟨w,ew,rw'⟩:=r.get h2;have hl:=r.length;have hn:=line63;have fin:EP X pins σ Q w s:=⟨z,H,I,rw',q⟩
 exact subscriptTail_builtinR (x:=w) pl.typeIs slot_tuple_getitem.lookup
  (getItem_tuple (j:=j) (Q:=λr s'=>r=w/\EP X pins σ Q r s') pl Z1 Z1 (by rw[am',<- hl];exact h1) (by simpa using ew) ⟨rfl,fin⟩) hs
theorem eb_:IxR X rIxS:=by
 intro value slice pins s σ H x y v u Q I rx ry h hs;obtain⟨z,i,c,rfl,rfl,hz,he,q⟩:=h;obtain⟨t,rfl⟩:=rx;obtain⟨t',rfl⟩:=ry;obtain⟨j,h1,h2,h3,h4,h5⟩:=fA_ he;have hl:z.cps.toList.length=z.length:=by simp[Str.length]
 rw[hl] at h1 h4 h5;have hn:=line63
 exact tail_any (typeIs_str s z t) slot_str_getitem.lookup (getItem_str (c:=c) (by
  have e1:decide (i < -(2 ^ 63:Int))=false:=a_2 Z1;have e2:decide (i ≥ 2 ^ 63)=false:=a_2 Z1;rw[e1,e2,Bool.or_false]) (by rw[h1];simpa using h2) ⟨.str ⟨#[c]⟩,H,I.tok _,⟨_,rfl⟩,q⟩) hs
theorem h3_(its:List Aa)(n j:Nat)(u:Aa):Obj.mapSeq (·.setIfInBounds j u) { cls:=.type "list",data:=.seq its.toArray n }={ cls:=.type "list",data:=.seq (its.set j u).toArray n }:=by
 simp[Obj.mapSeq]
theorem Inv.lst{pins:List (Addr × Obj)}{σ:St}{H:Hp}{s:Ab}{p:Addr}{xs:List V}(I:Inv X pins σ H s)(h:H p=some (.lst xs)) :
  ∃(its:List Aa) (n:Nat),Vals xs its/\s.heap.get? p=some { cls:=.type "list",data:=.seq its.toArray n }/\xs.length<=sizeLine:=by
 obtain⟨z,its,n,r,e⟩:=I.hok p _ h;exact⟨its,n,r,e,z⟩
theorem Inv.lstUpd{H:Hp}{p:Addr}{xs ys:List V}{n':Nat}{f:Obj->Obj}(I:Inv X pins σ H s)(h:H p=some (.lst xs))(ho:s.heap.get? p=some { cls:=.type "list",data:=.seq its.toArray n })(hf:f { cls:=.type "list",data:=.seq its.toArray n }={ cls:=.type "list",data:=.seq its'.toArray n' })(r:Vals ys its')(hz:ys.length<=sizeLine)(t:Nat) :
  Inv X pins σ (upd H p (.lst ys)) { s with heap:=s.heap.update p f,toks:=t }:=by
 have e:(s.heap.update p f).get? p=some { cls:=.type "list",data:=.seq its'.toArray n' }:=by
  rw[c_2 f ho (by rw[hf]<;>rfl),hf]
 refine I.write (x:=p) (e:=p) (by rw[h];trivial) (.inl rfl) (λb u hb q=>(b_5 _ _ (Ne.symm hb)).trans q) ⟨_,e⟩ ?_;exact⟨hz,its',n',r,e⟩
inductive rSetL (o:V) (i:V) (v:V) (H:Hp) (Q:Hp->Prop):Prop
 |mk:∀p xs k j,o=.ref p->i=.int k->H p=some (.lst xs)->ixN xs.length k=some j->Q (upd H p (.lst (xs.set j v)))->rSetL o i v H Q
theorem en_:PSet X rSetL:=by
 intro pins s σ H o i v ov iv u Q I ro ri rv h;obtain⟨p,xs,k,j,rfl,rfl,hp,hj,q⟩:=h;cases ro;obtain⟨t,rfl⟩:=ri;obtain⟨its,n,r,ho,hz⟩:=I.lst hp;obtain⟨h1,h2,h3,h4⟩:=iE_ hj;have hl:=r.length;have hn:=line63
 have I':Inv X pins σ (upd H p (.lst (xs.set j v))) { s with heap:=s.heap.update p (Obj.mapSeq (·.setIfInBounds j u)) }:=
  I.lstUpd hp ho (h3_ its n j u) (r.set rv j) (by rw[List.length_set];exact hz) s.toks
 by_cases h0:0<=k
 ·have hk:k.toNat=j:=by
   rw[seqIndex_of h0 h4] at h1;exact b_7 h1
  exact PySem.W.ki_setAt ho h0 Z1 (by rw[am',<- hl];exact h4) (by rw[hk];exact⟨_,I',q⟩)
 ·have hk:(k+(its.toArray.size:Int)).toNat=j:=by
   rw[seqIndex_neg Z1 h3] at h1;rw[am',<- hl];exact b_7 h1
  exact PySem.W.ki_setBack ho Z1 (by rw[am',<- hl];exact h3) Z1 (by rw[hk];exact⟨_,I',q⟩)
theorem fa_(lo hi:Option Int)(n:Nat):(sliceBounds lo hi none n).1=((HT.sIx n 0 lo:Nat):Int)/\(sliceBounds lo hi none n).2.1=((HT.sIx n n hi:Nat):Int)/\(sliceBounds lo hi none n).2.2=1:=by
 refine⟨?_,?_,rfl⟩
 ·cases lo with
  |none=>simp[sliceBounds,HT.sIx]
  |some i=>
   simp only[sliceBounds,HT.sIx,Option.getD_none,show (1:Int) > 0 by decide,if_true];by_cases h:i<0
   ·simp only[h,if_true]<;>omega
   ·simp only[h,if_false]<;>omega
 ·cases hi with
  |none=>simp[sliceBounds,HT.sIx]
  |some i=>
   simp only[sliceBounds,HT.sIx,Option.getD_none,show (1:Int) > 0 by decide,if_true];by_cases h:i<0
   ·simp only[h,if_true]<;>omega
   ·simp only[h,if_false]<;>omega
theorem eq_(its:List Aa)(lo hi:Option Int):slicePick its.toArray lo hi none=((its.drop (HT.sIx its.length 0 lo)).take (HT.sIx its.length its.length hi - HT.sIx its.length 0 lo)).toArray:=by
 obtain⟨h1,h2,h3⟩:=fa_ lo hi its.toArray.size;unfold slicePick;rw[h1,h2,h3];simp only[sliceRange_one,pick_run,am']<;>rfl
inductive rSlL (K:F__) (x:V) (lo:Option Int) (hi:Option Int) (H:Hp) (Q:VK):Prop
 |mk:∀a xs,x=.ref a->SqL K H a xs->(∀p,H p=none->Q (.ref p) (upd H p (.lst (cutV xs lo hi))))->rSlL K x lo hi H Q
theorem aF_:SlR X (rSlL X.K):=by
 intro pins s σ H x v vl vu lo hi sl Q I rx hs pl pu h;obtain⟨a,xs,rfl,hx,q⟩:=h;cases rx;obtain⟨its,r,ht,hz⟩:=I.list hx;have hlen:=r.length;refine⟨"list",_,slot_list_getitem.lookup,ht.isList.typeIs,?_⟩;refine wpAny_getItem_list_slice ht.isList hs pl pu .none Z2 ?_ (by rw[am']<;>omega)
 rw[eq_,<- hlen];refine⟨.ref s.heap.objs.size,_,I.laid (t':=s.toks) (o:=.lst (cutV xs lo hi)) (λb ob q=>a_0 _ q) (ai' _) ?_,rfl,q _ (I.hok.fresh (ai' _))⟩;exact⟨aO' (fH_ xs lo hi) hz,_,0,(r.drop (HT.sIx xs.length 0 lo)).take (HT.sIx xs.length xs.length hi - HT.sIx xs.length 0 lo),b_0 _ rfl⟩
def flatV:V->Bool
 |.non=>true
 |.bl _=>true
 |.int _=>true
 |.str _=>true
 |_=>false
def eqV:V->V->Bool
 |.non,.non=>true
 |.bl a,.bl b=>a == b
 |.bl a,.int b=>(if a then 1 else 0) == b
 |.int a,.bl b=>a == (if b then 1 else 0)
 |.int a,.int b=>a == b
 |.str a,.str b=>a == b
 |_,_=>false
theorem jY_{y x:V}{v:Aa}(ry:RelV y u)(rx:RelV x v)(fy:flatV y=true)(fx:flatV x=true):SeqAt.EqAt A s u v (eqV y x):=by
 cases y with
 |non=>
  cases ry;cases x with
  |non=>cases rx;exact SeqAt.EqAt.same _
  |bl b=>cases rx;exact SeqAt.EqAt.none_bool b
  |int b=>obtain⟨t,rfl⟩:=rx;exact SeqAt.EqAt.none_int b t
  |str b=>obtain⟨t,rfl⟩:=rx;exact SeqAt.EqAt.none_str b t
  |_=>exact absurd (show false=true from fx) ay'
 |bl a=>
  cases ry;cases x with
  |non=>cases rx;exact SeqAt.EqAt.bool_none a
  |bl b=>cases rx;exact SeqAt.EqAt.bool_bool a b
  |int b=>obtain⟨t,rfl⟩:=rx;exact SeqAt.EqAt.bool_int a b t
  |str b=>obtain⟨t,rfl⟩:=rx;exact SeqAt.EqAt.bool_str a b t
  |_=>exact absurd (show false=true from fx) ay'
 |int a=>
  obtain⟨t',rfl⟩:=ry;cases x with
  |non=>cases rx;exact SeqAt.EqAt.int_none a t'
  |bl b=>cases rx;exact SeqAt.EqAt.int_bool a t' b
  |int b=>obtain⟨t,rfl⟩:=rx;exact SeqAt.EqAt.int_int a t' b t
  |str b=>obtain⟨t,rfl⟩:=rx;exact SeqAt.EqAt.int_str a t' b t
  |_=>exact absurd (show false=true from fx) ay'
 |str a=>
  obtain⟨t',rfl⟩:=ry;cases x with
  |non=>cases rx;exact SeqAt.EqAt.str_none a t'
  |bl b=>cases rx;exact SeqAt.EqAt.str_bool a t' b
  |int b=>obtain⟨t,rfl⟩:=rx;exact SeqAt.EqAt.str_int a t' b t
  |str b=>obtain⟨t,rfl⟩:=rx;exact SeqAt.EqAt.str_str a t' b t
  |_=>exact absurd (show false=true from fx) ay'
 |_=>exact absurd (show false=true from fy) ay'
inductive cn' (K:F__) (xs:List V) (H:Hp) (Q:VK):Prop
 |mk:∀p ys,xs=[.ref p]->(SqL K H p ys∨SqT K H p ys)->Q (.int ys.length) H->cn' K xs H Q
theorem ai_:bx' X (.builtin "len") (cn' X.K):=by
 intro pins s σ H xs us Q I r h;obtain⟨p,ys,rfl,hq,q⟩:=h;obtain⟨u,rfl,rx⟩:=vals1 r;cases rx;have hn:=line63;rcases hq with hq|hq
 ·obtain⟨its,r',pl,hz⟩:=I.list hq;have hlen:=r'.length;exact Calls.call_len_list pl.isList (by simp only[am']<;>omega) ⟨.int ys.length,H,I.tok _,⟨s.toks+1,by rw[am',hlen]⟩,q⟩
 ·obtain⟨its,r',pl,hz⟩:=I.tuple hq;have hlen:=r'.length;exact len_tuple pl (by simp only[am']<;>omega) ⟨.int ys.length,H,I.tok _,⟨s.toks+1,by rw[am',hlen]⟩,q⟩
inductive cp' (xs:List V) (H:Hp) (Q:VK):Prop
 |mk:∀z,xs=[.str z]->z.length<=sizeLine->Q (.int z.length) H->cp' xs H Q
theorem bg_:bx' X (.builtin "len") cp':=by
 intro pins s σ H xs us Q I r h;obtain⟨z,rfl,hz,q⟩:=h;obtain⟨u,rfl,t,rfl⟩:=vals1 r;have hn:=line63;exact len_str Z1 ⟨.int z.length,H,I.tok _,⟨_,rfl⟩,q⟩
inductive bX' (K:F__) (xs:List V) (H:Hp) (Q:VK):Prop
 |mk:∀p ys,xs=[.ref p]->(SqL K H p ys∨SqT K H p ys)->(∀l,H l=none->Q (.ref l) (upd H l (.lst ys)))->bX' K xs H Q
theorem fc_:bx' X (.type "list") (bX' X.K):=by
 intro pins s σ H xs us Q I r h;obtain⟨p,ys,rfl,hq,q⟩:=h;obtain⟨u,rfl,rx⟩:=vals1 r;cases rx
 have fin:∀(its:List Aa),Vals ys its->ys.length<=sizeLine->∀(h':Heap) (c':Nat),(∀b o',s.heap.get? b=some o'->h'.get? b=some o')->
   h'.get? s.heap.objs.size=some { cls:=.type "list",dict:=none,data:=.seq its.toArray c',slots:=#[] }->EP X pins σ Q (.ref s.heap.objs.size) { s with heap:=h' }:=λits r' hz h' c' kp e=>
  ⟨.ref s.heap.objs.size,_,I.laid (t':=s.toks) kp (ai' _) (show bn' X.prog X.w _ h' _ (.lst ys) from ⟨hz,its,c',r',e⟩),rfl,q _ (I.hok.fresh (ai' _))⟩
 rcases hq with hq|hq
 ·obtain⟨its,r',pl,hz⟩:=I.list hq;have hlen:=r'.length;obtain⟨o,ho,hc,n,hd⟩:=pl.isList;exact call_list_seq p (.inl rfl) ho hc hd (λh' c' kp e=>fin its r' hz h' c' kp e) (by simp only[am']<;>omega)
 ·obtain⟨its,r',pl,hz⟩:=I.tuple hq;have hlen:=r'.length;obtain⟨o,ho,hc,n,hd⟩:=pl;exact call_list_seq p (.inr rfl) ho hc hd (λh' c' kp e=>fin its r' hz h' c' kp e) (by simp only[am']<;>omega)
inductive bN' (K:F__) (xs:List V) (H:Hp) (Q:VK):Prop
 |mk:∀p ys,xs=[.ref p]->((SqL K H p ys/\∀l,H l=none->Q (.ref l) (upd H l (.tup ys)))∨(SqT K H p ys/\Q (.ref p) H))->bN' K xs H Q
theorem eJ_:bx' X (.type "tuple") (bN' X.K):=by
 intro pins s σ H xs us Q I r h;obtain⟨p,ys,rfl,h⟩:=h;obtain⟨u,rfl,rx⟩:=vals1 r;cases rx;rcases h with⟨hq,q⟩|⟨hq,q⟩
 ·obtain⟨its,r',pl,hz⟩:=I.list hq;have hlen:=r'.length;refine call_tuple_list pl.isList (λh' kp=>?_) (by simp only[am']<;>omega)
  have I1:Inv X pins σ H { s with heap:=h' }:=I.kept (t':=s.toks) kp
  have I2:Inv X pins σ (upd H h'.objs.size (.tup ys)) { s with heap:=h'.push { cls:=.type "tuple",data:=.seq its.toArray } }:=
   I1.laid (t':=s.toks) (λb o e=>a_0 _ e) (ai' _) (show bn' X.prog X.w _ _ _ (.tup ys) from ⟨hz,its,r',IsTup.new _ _,_,b_0 _ rfl,rfl⟩)
  exact⟨.ref h'.objs.size,_,I2,rfl,q _ (I1.hok.fresh (ai' _))⟩
 ·obtain⟨its,r',pl,hz⟩:=I.tuple hq;exact call_tuple_same pl ⟨.ref p,H,I,rfl,q⟩
def tyV(K:F__)(T:Ah)(x:V)(H:Hp):Prop:=match x with
 |.str _=>T="str"
 |.int _=>T="int"
 |.ref p=>(T="list"/\∃xs,SqL K H p xs)∨(T="tuple"/\∃o,K.lookup p=some o/\o.cls=.type "tuple"/\o.dict=none) ∨
   (T="dict"/\((∃kvs,H p=some (.dK kvs))∨∃kvs,H p=some (.dT kvs)))∨(T="set"/\∃S n,H p=some (.set S n))
 |_=>False
theorem jZ_{H:Hp}{x:V}{v:Aa}(I:Inv X pins σ H s)(r:RelV x v)(ty:tyV X.K T x H) :
  s.TypeIs v T/\∀a,v=.ref a->∃ob,s.heap.get? a=some ob/\ob.dict=none:=by
 cases x with
 |str z=>
  obtain⟨t,rfl⟩:=r;cases (show T="str" from ty);exact⟨typeIs_str s z t,λ_ e=>nomatch e⟩
 |int i=>
  obtain⟨t,rfl⟩:=r;cases (show T="int" from ty);exact⟨typeIs_int s i t,λ_ e=>nomatch e⟩
 |ref p=>
  cases r;rcases ty with⟨rfl,xs,hq⟩|⟨rfl,o,hk,hc,hd⟩|⟨rfl,hk⟩|⟨rfl,S,n,hk⟩
  ·obtain⟨its,_,pl,_⟩:=I.list hq;refine⟨pl.isList.typeIs,λa e=>?_⟩;cases e;obtain⟨o,n,e,c,hd,_⟩:=pl;exact⟨o,e,hd⟩
  ·refine⟨⟨o,I.kIn p o hk,hc⟩,λa e=>?_⟩;cases e;exact⟨o,I.kIn _ o hk,hd⟩
  ·have z:∃o,s.heap.get? p=some o/\o.ExactDict:=by
    rcases hk with⟨kvs,hk⟩|⟨kvs,hk⟩
    ·obtain⟨_,_,_,_,o,_,_,e,ex,_⟩:=I.hok p _ hk;exact⟨o,e,ex⟩
    ·obtain⟨_,_,_,_,o,_,_,e,ex,_⟩:=I.hok p _ hk;exact⟨o,e,ex⟩
   obtain⟨o,e,ex⟩:=z;refine⟨⟨o,e,ex.1⟩,λa e2=>?_⟩;cases e2;exact⟨o,e,ex.2.1⟩
  ·obtain⟨o,_,_,_,e,ex,_⟩:=I.hok p _ hk;refine⟨⟨o,e,ex.1⟩,λa e2=>?_⟩;cases e2;exact⟨o,e,ex.2.1⟩
 |_=>exact False.elim ty
def tBM0(K:F__)(T:Ah)(r:V->List V->Hp->VK->Prop)(to:TE):TE:=λσ H Q=>to σ H λx H1=>tyV K T x H1/\r x [] H1 Q
def tBM(K:F__)(T:Ah)(r:V->List V->Hp->VK->Prop)(to:TE)(t:TA):TE:=λσ H Q=>to σ H λx H1=>tyV K T x H1/\t σ H1 λxs H2=>r x xs H2 Q
variable{o e:Expr}{es:List Expr}{to:TE}{t:TA}{name:Str}{apos cpos:Pos}{T id:Ah}{r:V->List V->Hp->VK->Prop}
theorem ld_(pa:PlainAttrs T)(slot:Slot T name id)(hty:typeOf (.builtin id)=pure (.type "method_descriptor"))(hm:MtR X id r)(ho:PE X o to)
  (hbase:attributeBase o name X.env (eval o X.env)=eval o X.env:=by rfl) (hline:(apos.endLine == cpos.line)=true:=by rfl):PE X (.Call (.Attribute o name apos) [] [] cpos) (tBM0 X.K T r to):=by
 intro pins s σ H Q I h;refine wpAny_Call_method0_late hbase hline (thn (ho pins s σ H _ I h) λv s1 ⟨x,H1,I1,r1,ty,q1⟩=>?_);obtain⟨h1,h2⟩:=jZ_ I1 r1 ty;exact⟨T,id,pa,slot,hty,h1,h2,Calls.callWith_builtin rfl (PySem.evalArgs_none (hm pins s1 σ H1 x [] v [] Q I1 r1 .nil q1))⟩
theorem bi_(pa:PlainAttrs T)(slot:Slot T name id)(hty:typeOf (.builtin id)=pure (.type "method_descriptor"))(hm:MtR X id r)(ho:PE X o to)(ha:PA X (e::es) t)
  (hbase:attributeBase o name X.env (eval o X.env)=eval o X.env:=by rfl)
  (hfew:((backTo cpos (starEach (e::es) X.env)).all (λx=>!x.1)&&(backToKw cpos (keywordEach [] X.env)).all (λx=>x.1.isSome)
   && decide ((e::es).length+([]:List Keyword).length+(if ([]:List Keyword).isEmpty then 0 else 1)<30))=true:=by rfl)
  (hline:(apos.endLine == cpos.line)=true:=by rfl) (hs:starEach (e::es) X.env=(false,eval e X.env)::starEach es X.env:=by rfl) (hplain:(backTo cpos (starEach es X.env)).any (·.1)=false:=by rfl) :
  PE X (.Call (.Attribute o name apos) (e::es) [] cpos) (tBM X.K T r to t):=by
 intro pins s σ H Q I h;refine wpAny_Call_method_late hbase hfew hline rfl (thn (ho pins s σ H _ I h) λv s1 ⟨x,H1,I1,r1,ty,q1⟩=>?_);obtain⟨h1,h2⟩:=jZ_ I1 r1 ty;refine⟨T,id,pa,slot,hty,h1,h2,?_⟩;have hA:=ha cpos pins s1 σ H1 _ I1 q1;rw[hs] at hA ⊢;refine Calls.callWith_builtin (by show (false || (backTo cpos (starEach es X.env)).any (·.1))=false;rw[hplain]<;>rfl) (Calls.evalArgs_plain ?_)
 exact thn hA λus s2 ⟨vs,H2,I2,r2,q2⟩=>hm pins s2 σ H2 x vs v us Q I2 r1 r2 q2
end
def MtM(X:Cx)(id:Ah)(r:V->List V->Hp->VK->Prop):Prop:=
 ∀(pins:List (Addr × Obj)) (s:Ab) (σ:St) (H:Hp) (x:V) (xs:List V) (v:Aa) (us:List Aa) (Q:VK),Inv X pins σ H s->RelV x v->Vals xs us->r x xs H Q->
  wpAny (model X.prog X.w) X.A (call (.builtin id) (v::us)) (EP X pins σ Q) X.xe s
theorem Vals.one:∀{x:V} {us:List Aa},Vals [x] us->∃u,us=[u]/\RelV x u
 |_,_,.cons r .nil=>⟨_,rfl,r⟩
variable{t':Nat}
section
variable{X:Cx}{pins:List (Addr × Obj)}{σ:St}{H:Hp}{s:Ab}{l b:Addr}{xs ys zs:List V}
theorem Inv.lset{f:Array Aa->Array Aa}(I:Inv X pins σ H s)(hH:H l=some (.lst xs))(e:s.heap.get? l=some { cls:=.type "list",data:=.seq its.toArray n })(hf:f its.toArray=its'.toArray)(hv:Vals ys its')(hz:ys.length<=sizeLine) :
  Inv X pins σ (upd H l (.lst ys)) { s with heap:=s.heap.update l (Obj.mapSeq f),toks:=t' }:=by
 have q:=PySem.IsL.update e f;rw[hf] at q;refine I.write (x:=l) (e:=l) (by rw[hH];exact trivial) (.inl rfl) (λb' u hb hu=>(b_5 s.heap (Obj.mapSeq f) (Ne.symm hb)).trans hu) ⟨_,q⟩ ?_;exact⟨hz,its',_,hv,q⟩
theorem Inv.lnew(I:Inv X pins σ H s)(hv:Vals ys its)(hz:ys.length<=sizeLine) :
  Inv X pins σ (upd H s.heap.objs.size (.lst ys)) { s with heap:=s.heap.push { cls:=.type "list",data:=.seq its.toArray },toks:=t' }:=
 I.laid (λ_ _ q=>a_0 _ q) (ai' _) ⟨hz,its,0,hv,b_0 _ rfl⟩
theorem Inv.fresh(I:Inv X pins σ H s):H s.heap.objs.size=none:=I.hok.fresh (ai' _)
theorem Inv.lstM(I:Inv X pins σ H s)(hH:H l=some (.lst xs)):xs.length<=sizeLine/\∃(its:List Aa) (n:Nat),Vals xs its/\xs.length=its.length/\s.heap.get? l=some { cls:=.type "list",data:=.seq its.toArray n }:=by
 obtain⟨z,its,n,r,e⟩:=I.hok l _ hH;exact⟨z,its,n,r,r.length,e⟩
theorem notLongL(h:n<=sizeLine):Builtin.List.listTooLong n=false:=by
 unfold Builtin.List.listTooLong;exact a_2 Z1
end
inductive er' (x:V) (vs:List V) (H:Hp) (Q:VK):Prop
 |mk:∀l xs y,x=.ref l->vs=[y]->H l=some (.lst xs)->xs.length<sizeLine->Q .non (upd H l (.lst (xs++[y])))->er' x vs H Q
variable{X:Cx}
theorem b9_:MtM X "list.append" er':=by
 intro pins s σ H x vs v us Q I rx rv h;obtain⟨l,xs,y,rfl,rfl,hH,hz,q⟩:=h;cases rx;obtain⟨u,rfl,ru⟩:=rv.one;obtain⟨z,its,n,r,hl,e⟩:=I.lstM hH;refine call_meets F.slot_list_append ⟨_,e,rfl⟩ F.entry_list_append (F.args_list_append_2 _ _) (PySem.list_append l its.toArray n u (by rw[am'];omega)) ⟨e,?_⟩;refine⟨.non,_,I.lset (its':=its++[u]) hH e Z2 (r.append (.cons ru .nil)) ?_,rfl,q⟩;rw[an',List.length_singleton];omega
inductive rExtend (x:V) (vs:List V) (H:Hp) (Q:VK):Prop
 |mk:∀l b xs zs,x=.ref l->vs=[.ref b]->H l=some (.lst xs)->H b=some (.lst zs)->xs.length+zs.length<=sizeLine->Q .non (upd H l (.lst (xs++zs)))->rExtend x vs H Q
theorem il_:MtM X "list.extend" rExtend:=by
 intro pins s σ H x vs v us Q I rx rv h;obtain⟨l,b,xs,zs,rfl,rfl,hH,hB,hz,q⟩:=h;cases rx;obtain⟨u,rfl,ru⟩:=rv.one;cases ru;obtain⟨z,its,n,r,hl,e⟩:=I.lstM hH;obtain⟨z2,its2,n2,r2,hl2,e2⟩:=I.lstM hB;have hsz:its.toArray.size+its2.toArray.size<=sizeLine:=by rw[am',am'];omega
 have hlong:¬(!its.toArray.isEmpty&&Builtin.List.listTooLong (its.toArray.size+its2.toArray.size))=true:=by
  rw[notLongL hsz,Bool.and_false];exact ay'
 refine call_meets F.slot_list_extend ⟨_,e,rfl⟩ F.entry_list_extend (F.args_list_extend_2 _ _)
  (AutoSeq1.list_extend_list_list_0 l its.toArray n b its2.toArray n2 hlong (by rw[am'];omega) Z1) ⟨e,e2,?_⟩
 refine⟨.non,_,I.lset (its':=its++its2) hH e Z2 (r.append r2) ?_,rfl,q⟩;rw[an'];omega
inductive rCat (x:V) (y:V) (H:Hp) (Q:VK):Prop
 |mk:∀l b xs zs,x=.ref l->y=.ref b->H l=some (.lst xs)->H b=some (.lst zs)->xs.length+zs.length<=sizeLine->(∀p,H p=none->Q (.ref p) (upd H p (.lst (xs++zs))))->rCat x y H Q
theorem aU_:OpR X (binaryOp .Add) rCat:=by
 intro pins s σ H x y v u Q I rx ry h;obtain⟨l,b,xs,zs,rfl,rfl,hH,hB,hz,q⟩:=h;cases rx;cases ry;obtain⟨z,its,n,r,hl,e⟩:=I.lstM hH;obtain⟨z2,its2,n2,r2,hl2,e2⟩:=I.lstM hB;refine PySem.P.add_list e e2 ?_ (by rw[am',am'];omega);have ea:its.toArray++its2.toArray=(its++its2).toArray:=by simp
 rw[ea];exact⟨.ref _,_,I.lnew (t':=s.toks) (r.append r2) (by rw[an'];omega),rfl,q _ I.fresh⟩
variable{o:Option V}
section
variable{κ:Type}[DecidableEq κ]
def valV(kvs:List (κ × V))(k:κ):Option V:=(kvs.find? λkv=>decide (kv.1=k)).map (·.2)
def putK(kvs:List (κ × V))(k:κ)(v:V):List (κ × V):=
 if (kvs.any λkv=>decide (kv.1=k))=true then kvs.map (λkv=>if kv.1=k then (kv.1,v) else kv) else kvs++[(k,v)]
theorem bW_{p:κ × V}{r:List (κ × V)}{k:κ}(e:p.1=k):valV (p::r) k=some p.2:=by simp[valV,List.find?_cons,e]
theorem bL_{p:κ × V}{r:List (κ × V)}{k:κ}(e:¬p.1=k):valV (p::r) k=valV r k:=by simp[valV,List.find?_cons,e]
theorem cD_(k:κ):∀kvs:List (κ × V),(kvs.any λkv=>decide (kv.1=k))=(valV kvs k).isSome
 |[]=>rfl
 |p::r=>by
  rw[List.any_cons];by_cases e:p.1=k
  ·simp only[bW_ e,a_1 e,Bool.true_or,Option.isSome_some]
  ·rw[bL_ e,a_2 e,Bool.false_or];exact cD_ k r
theorem cs_(kvs:List (κ × V))(k:κ)(v:V):(putK kvs k v).length<=kvs.length+1:=by
 unfold putK;split
 ·rw[aa'];omega
 ·rw[an',aC',a2'];omega
theorem by_{kvs:List (κ × V)}{k:κ}(v:V)(h:valV kvs k=none):putK kvs k v=kvs++[(k,v)]:=by
 unfold putK;rw[cD_,h];exact a_5 (by decide)
theorem RelO.isSome_eq{u:Option Aa}(r:RelO o u):o.isSome=u.isSome:=by
 cases o with
 |none=>cases u with
  |none=>rfl
  |some _=>exact (show False from r).elim
 |some _=>cases u with
  |none=>exact (show False from r).elim
  |some _=>rfl
theorem KV.val{kvs:List (κ × V)}{vs:List (κ × Aa)}(r:KV kvs vs)(k:κ):RelO (valV kvs k) (valueAt vs k):=by
 unfold KV at r
 induction r with
 |nil=>exact True.intro
 |@cons p q ps qs h t ih=>
  obtain⟨h1,h2⟩:=h;by_cases e:p.1=k
  ·have e':q.1=k:=h1.symm.trans e;have b:valueAt (q::qs) k=some q.2:=by simp[valueAt,List.find?_cons,e']
   rw[bW_ e,b];exact h2
  ·have e':¬q.1=k:=λz=>e (h1.trans z);have b:valueAt (q::qs) k=valueAt qs k:=by simp[valueAt,List.find?_cons,e']
   rw[bL_ e,b];exact ih
theorem KV.any{kvs:List (κ × V)}{vs:List (κ × Aa)}(r:KV kvs vs)(k:κ):(kvs.any λkv=>decide (kv.1=k))=vs.any λkv=>decide (kv.1=k):=by
 unfold KV at r
 induction r with
 |nil=>rfl
 |cons h t ih=>rw[List.any_cons,List.any_cons,ih,h.1]
theorem KV.repl{kvs:List (κ × V)}{vs:List (κ × Aa)}(r:KV kvs vs)(k:κ){y:V}(ry:RelV y u) :
  KV (kvs.map λkv=>if kv.1=k then (kv.1,y) else kv) (vs.map λkv=>if kv.1=k then (kv.1,u) else kv):=by
 unfold KV at r ⊢
 induction r with
 |nil=>exact .nil
 |@cons p q ps qs h t ih=>
  rw[aw',aw'];refine .cons ?_ ih;obtain⟨h1,h2⟩:=h;by_cases e:p.1=k
  ·rw[b__ e,b__ (h1.symm.trans e)];exact⟨h1,ry⟩
  ·rw[a_5 e,a_5 (λz=>e (h1.trans z))];exact⟨h1,h2⟩
theorem KV.put{kvs:List (κ × V)}{vs:List (κ × Aa)}(r:KV kvs vs)(k:κ){y:V}(ry:RelV y u):KV (putK kvs k y) (stored vs k u):=by
 unfold putK stored;rw[r.any k];by_cases e:(vs.any λkv=>decide (kv.1=k))=true
 ·rw[b__ e,b__ e];exact r.repl k ry
 ·rw[a_5 e,a_5 e];exact Paired.snoc r ⟨rfl,ry⟩
theorem KV.keys{kvs:List (κ × V)}{vs:List (κ × Aa)}(r:KV kvs vs):kvs.map (·.1)=vs.map (·.1):=by
 unfold KV at r
 induction r with
 |nil=>rfl
 |cons h t ih=>rw[aw',aw',ih,h.1]
theorem KV.length{kvs:List (κ × V)}{vs:List (κ × Aa)}(r:KV kvs vs):kvs.length=vs.length:=a_3 r
end
variable{P:Ad}{w:Af}
theorem gD_{k:Key}(r:RelV (kV k) u):(bd' P w).is k u=true:=by
 cases k with
 |inl i=>obtain⟨t,e⟩:=(show ∃t,u=Value.int i t from r);subst e;exact fK_ P w i t
 |inr x=>obtain⟨t,e⟩:=(show ∃t,u=Value.str x t from r);subst e;exact fu_ P w x t
theorem f9_{P:Ad}{w:Af}:∀{ks:List Key} {us:List Aa},Vals (ks.map kV) us->ItemsAre (bd' P w) ks us
 |[],_,r=>by rw[List.map_nil] at r;cases r;exact .nil
 |k::ks,_,r=>by
  rw[aw'] at r;cases r with
  |cons h t=>exact .cons (gD_ h) (f9_ t)
abbrev KT(H:Hp):List (List Key × V)->List (List Key × Addr × Aa)->Prop:=Paired λp q=>p.1=q.1/\H q.2.1=some (.tup (p.1.map kV))/\RelV p.2 q.2.2
variable{H:Hp}{xs:List (List Key × Addr × Aa)}{kvs:List (List Key × V)}
theorem KT.val(r:KT H kvs xs)(k:List Key):RelO (valV kvs k) ((atKey xs k).map (·.2)):=by
 induction r with
 |nil=>exact True.intro
 |@cons p q ps qs h t ih=>
  obtain⟨h1,_,h2⟩:=h;by_cases e:p.1=k
  ·have e':q.1=k:=h1.symm.trans e;have b:atKey (q::qs) k=some q.2:=by simp[atKey,List.find?_cons,e']
   rw[bW_ e,b];exact h2
  ·have e':¬q.1=k:=λz=>e (h1.trans z);have b:atKey (q::qs) k=atKey qs k:=by simp[atKey,List.find?_cons,e']
   rw[bL_ e,b];exact ih
theorem KT.repl(r:KT H kvs xs)(k:List Key){y:V}(ry:RelV y u) :
  KT H (kvs.map λkv=>if kv.1=k then (kv.1,y) else kv) (xs.map (putAt k u)):=by
 induction r with
 |nil=>exact .nil
 |@cons p q ps qs h t ih=>
  rw[aw',aw'];refine .cons ?_ ih;obtain⟨h1,h2,h3⟩:=h;unfold putAt;by_cases e:p.1=k
  ·rw[b__ e,b__ (h1.symm.trans e)];exact⟨h1,h2,ry⟩
  ·rw[a_5 e,a_5 (λz=>e (h1.trans z))];exact⟨h1,h2,h3⟩
variable{b:Addr}
theorem KT.put(r:KT H kvs xs)(k:List Key){y:V}(hb:H b=some (.tup (k.map kV)))(ry:RelV y u) :
  KT H (putK kvs k y) (storedH xs k b u):=by
 have e:(kvs.any λkv=>decide (kv.1=k))=(atKey xs k).isSome:=by
  rw[cD_,(r.val k).isSome_eq,Option.isSome_map]
 unfold putK storedH;rw[e];by_cases q:(atKey xs k).isSome=true
 ·rw[b__ q,b__ q];exact r.repl k ry
 ·rw[a_5 q,a_5 q];exact Paired.snoc r ⟨rfl,hb,ry⟩
variable{H':Hp}
theorem KT.keeps(r:KT H kvs xs)(ht:∀b ys,H b=some (.tup ys)->H' b=some (.tup ys)):KT H' kvs xs:=
 Paired.mapP r λ_ _ z=>⟨z.1,ht _ _ z.2.1,z.2.2⟩
variable{h:Heap}{a:Addr}
theorem l6_{u:HO}(ok:HOk P w H h)(e:Rd H a u):bn' P w H h a u:=e.ok ok
theorem dy_{kvs:List (Key × V)}(ok:HOk P w H h)(e:Rd H a (.dK kvs)):kvs.length<=sizeLine/\(a == sysModules)=false/\∃vs,KV kvs vs/\h.DictOf (bd' P w) a vs:=
 show bn' P w H h a (.dK kvs) from l6_ ok e
theorem iV_{kvs:List (Key × V)}(ok:HOk P w H h)(e:H a=some (.dK kvs)):kvs.length<=sizeLine/\(a == sysModules)=false/\∃vs,KV kvs vs/\h.DictOf (bd' P w) a vs:=dy_ ok (.inl e)
theorem f2_{ks:List Key}(ok:HOk P w H h)(e:H a=some (.tup (ks.map kV))):(tupleKind (bd' P w)).is h ks a:=by
 obtain⟨_,its,r,⟨o,h1,h2,n,h3⟩,_⟩:=(show bn' P w H h a (.tup (ks.map kV)) from ok a _ e);exact⟨o,its.toArray,n,h1,h2,h3,by simpa using f9_ r⟩
theorem gL_(ok:HOk P w H h)(e:Rd H a (.dT kvs)):kvs.length<=sizeLine/\(a == sysModules)=false /\
  ∃xs,KT H kvs xs/\h.DictOfH (tupleKind (bd' P w)) a xs:=by
 obtain⟨z,y,xs,r,o,es,ep,h1,h2,h3,h4,h5⟩:=(show bn' P w H h a (.dT kvs) from l6_ ok e);refine⟨z,y,xs,r,o,es,ep,h1,h2,h3,h4,λx hx=>?_,h5⟩
 have all:∀{l:List (List Key × V)} {m:List (List Key × Addr × Aa)},KT H l m->∀x∈m,(tupleKind (bd' P w)).is h x.1 x.2.1:=by
  intro l m q
  induction q with
  |nil=>intro x hx;exact nomatch hx
  |@cons p q ps qs hq t ih=>
   intro x hx;rcases ah'.mp hx with e|hx
   ·subst e;exact f2_ ok (by rw[<- hq.1];exact hq.2.1)
   ·exact ih x hx
 exact all r x hx
theorem lR_(ok:HOk P w H h)(e:H a=some (.dT kvs)):kvs.length<=sizeLine/\(a == sysModules)=false /\
  ∃xs,KT H kvs xs/\h.DictOfH (tupleKind (bd' P w)) a xs:=gL_ ok (.inl e)
def DGet(H:Hp)(a:Addr)(y:V)(r:Option V):Prop:=
 (∃kvs k,Rd H a (.dK kvs)/\y=kV k/\r=valV kvs k)∨∃kvs k b,Rd H a (.dT kvs)/\y=.ref b/\H b=some (.tup (k.map kV))/\r=valV kvs k
def DPut(H:Hp)(a:Addr)(y v:V)(H':Hp):Prop:=
 (∃kvs k,H a=some (.dK kvs)/\y=kV k/\kvs.length<sizeLine/\H'=upd H a (.dK (putK kvs k v))) ∨
 ∃kvs k b,H a=some (.dT kvs)/\y=.ref b/\H b=some (.tup (k.map kV))/\kvs.length<sizeLine/\H'=upd H a (.dT (putK kvs k v))
theorem DGet.k{kvs:List (Key × V)}{k:Key}(e:H a=some (.dK kvs)):DGet H a (kV k) (valV kvs k):=.inl ⟨kvs,k,.inl e,rfl,rfl⟩
theorem DGet.t{k:List Key}(e:H a=some (.dT kvs))(eb:H b=some (.tup (k.map kV))):DGet H a (.ref b) (valV kvs k):=.inr ⟨kvs,k,b,.inl e,rfl,eb,rfl⟩
theorem DPut.k{kvs:List (Key × V)}{k:Key}{v:V}(e:H a=some (.dK kvs))(hl:kvs.length<sizeLine):DPut H a (kV k) v (upd H a (.dK (putK kvs k v))):=.inl ⟨kvs,k,e,rfl,hl,rfl⟩
theorem DPut.t{k:List Key}{v:V}(e:H a=some (.dT kvs))(eb:H b=some (.tup (k.map kV)))(hl:kvs.length<sizeLine) :
  DPut H a (.ref b) v (upd H a (.dT (putK kvs k v))):=.inr ⟨kvs,k,b,e,rfl,eb,hl,rfl⟩
variable{h':Heap}
variable{kvs:List (Key × V)}
section
variable{X:Cx}{pins:List (Addr × Obj)}{σ:St}{H:Hp}{s:Ab}{a:Addr}{y v:V}{u r:Aa}{o:Option V}{A:Ag}{E:Aa->Ab->Prop}
theorem Inv.big(I:Inv X pins σ H s):sysModules<s.heap.objs.size:=by
 have h:mainGlobals<s.heap.objs.size:=(I.mod.glob.keeps I.bk).lt;exact Nat.lt_trans (by decide) h
theorem ht_{Q:Aa->Ab->Prop}(hu:A.units+1<cLine)(I:Inv X pins σ H s)(g:DGet H a y (some v))(ry:RelV y u)(h:∀w' s',Inv X pins σ H s'->RelV v w'->Q w' s') :
  wpAny (model X.prog X.w) A (getItem (.ref a) u) Q E s:=by
 rcases g with⟨kvs,k,e,ey,l⟩|⟨kvs,k,b,e,ey,eb,l⟩
 ·subst ey;obtain⟨z,hd,vs,rel,dd⟩:=dy_ I.hok e;obtain⟨w',hw,rw'⟩:=RelO.some_of (v:=v) (o:=valueAt vs k) (by rw[l];exact rel.val k);exact wpAny_getItem_of (gD_ ry) dd.mapOf hw (h w' _ (I.tok _) rw')
 ·subst ey;cases (show u=Value.ref b from ry);obtain⟨z,hd,xs,rel,dd⟩:=gL_ I.hok e;obtain⟨w',hw,rw'⟩:=RelO.some_of (v:=v) (o:=(atKey xs k).map (·.2)) (by rw[l];exact rel.val k);obtain⟨p,hp,hp2⟩:=Option.map_eq_some_iff.mp hw;refine wpAny_getItem_heap (tupleKind_room_in1 hu) (f2_ I.hok eb) dd hp ?_;rw[hp2];exact h w' _ (I.tok _) rw'
theorem d_in{Q:Aa->Ab->Prop}(hu:A.units+1<cLine)(I:Inv X pins σ H s)(g:DGet H a y o)(ry:RelV y u)(h:∀s',Inv X pins σ H s'->Q (.bool o.isSome) s') :
  wpAny (model X.prog X.w) A (compareOp .In u (.ref a)) Q E s:=by
 rcases g with⟨kvs,k,e,ey,l⟩|⟨kvs,k,b,e,ey,eb,l⟩
 ·subst ey;obtain⟨z,hd,vs,rel,dd⟩:=dy_ I.hok e;refine wpAny_in_of (gD_ ry) hd dd.mapOf ?_;rw[<- (rel.val k).isSome_eq,<- l];exact h _ (I.tok _)
 ·subst ey;cases (show u=Value.ref b from ry);obtain⟨z,hd,xs,rel,dd⟩:=gL_ I.hok e;refine wpAny_in_heap (tupleKind_room_in1 hu) (f2_ I.hok eb) hd dd ?_;have q:=(rel.val k).isSome_eq;rw[Option.isSome_map] at q;rw[<- q,<- l];exact h _ (I.tok _)
theorem kH_{Q:Aa->Ab->Prop}(hu:A.units+1<cLine)(I:Inv X pins σ H s)(g:DGet H a y o)(ry:RelV y u)(h:∀s',Inv X pins σ H s'->Q (.bool (!o.isSome)) s') :
  wpAny (model X.prog X.w) A (compareOp .NotIn u (.ref a)) Q E s:=by
 rcases g with⟨kvs,k,e,ey,l⟩|⟨kvs,k,b,e,ey,eb,l⟩
 ·subst ey;obtain⟨z,hd,vs,rel,dd⟩:=dy_ I.hok e;refine wpAny_notIn_of (gD_ ry) hd dd.mapOf ?_;rw[<- (rel.val k).isSome_eq,<- l];exact h _ (I.tok _)
 ·subst ey;cases (show u=Value.ref b from ry);obtain⟨z,hd,xs,rel,dd⟩:=gL_ I.hok e;refine wpAny_notIn_heap (tupleKind_room_in1 hu) (f2_ I.hok eb) hd dd ?_;have q:=(rel.val k).isSome_eq;rw[Option.isSome_map] at q;rw[<- q,<- l];exact h _ (I.tok _)
theorem hA_{ob:HO}(I:Inv X pins σ H s)(mu:Mut (H a))(hs:Heap.SameBut a s.heap h')(he:∃q,h'.get? a=some q)(new:bn' X.prog X.w (upd H a ob) h' a ob) :
  Inv X pins σ (upd H a ob) { s with heap:=h',toks:=t' }:=
 I.write (x:=a) (e:=a) mu (.inl rfl) (λb q hb z=>(hs.2 b hb).trans z) he new
theorem jN_{vs:List (Key × Aa)}(z:kvs.length<=sizeLine)(hd:(a == sysModules)=false)(rel:KV kvs vs)(dd:h'.DictOf (bd' P w) a vs) :
  bn' P w H' h' a (.dK kvs):=⟨z,hd,vs,rel,dd⟩
theorem ii_{Q:Unit->Ab->Prop}(hu:A.units+1<cLine)(I:Inv X pins σ H s)(g:DPut H a y v H')(ry:RelV y u)(rv:RelV v r)(h:∀s',Inv X pins σ H' s'->Q () s') :
  wpAny (model X.prog X.w) A (setItem (.ref a) u r) Q E s:=by
 rcases g with⟨kvs,k,e,ey,l,eH⟩|⟨kvs,k,b,e,ey,eb,l,eH⟩
 ·subst ey eH;obtain⟨z,hd,vs,rel,dd⟩:=iV_ I.hok e;have hz:vs.length<=sizeLine:=by rw[<- rel.length];exact z
  have hl:(putK kvs k v).length<=sizeLine:=by have:=cs_ kvs k v;omega
  refine wpAny_setItem_pairs (hsz:=hz) (gD_ ry) dd λh' dd' hs=>h _ ?_;have he:∃q,h'.get? a=some q:=let ⟨q,_,_,hq,_⟩:=dd';⟨q,hq⟩;exact hA_ I (by rw[e];exact True.intro) hs he (jN_ hl hd (rel.put k rv) dd')
 ·subst ey eH;cases (show u=Value.ref b from ry);obtain⟨z,hd,xs,rel,dd⟩:=lR_ I.hok e;have hz:xs.length<=sizeLine:=by rw[<- a_3 rel];exact z
  have hl:(putK kvs k v).length<=sizeLine:=by have:=cs_ kvs k v;omega
  refine wpAny_setItem_heap (hsz:=hz) (tupleKind_room_in1 hu) (f2_ I.hok eb) dd λh' dd' hs=>h _ ?_;obtain⟨q,es,ep,hq,h2,h3,h4,_,h5⟩:=dd';refine hA_ I (by rw[e];exact True.intro) hs ⟨q,hq⟩ ⟨hl,hd,_,(rel.put k eb rv).keeps λc ys ec=>?_,q,es,ep,hq,h2,h3,h4,h5⟩;rw[a8_ (bK_ ec e nofun)];exact ec
end
variable{E:Aa->Ab->Prop}
theorem lQ_{Q:Aa->Ab->Prop}(I:Inv X pins σ H s)(e:Rd H a (.dK kvs))(h:∀t s',Inv X pins σ H s'->Q (.int kvs.length t) s'):wpAny (model X.prog X.w) A (call (.builtin "len") [.ref a]) Q E s:=by
 obtain⟨z,hd,vs,rel,dd⟩:=dy_ I.hok e;refine call_len_dict hd dd (by rw[<- rel.length];rw[a_9] at z;omega) ?_;rw[<- rel.length];exact h _ _ (I.tok _)
def NoSl(i:Expr):Prop:=∀ov iv,subscripted i false ov iv=operate [ov,iv] (getItem ov iv)
variable{value:Expr}{pos:Pos}
theorem kp_{prog:Ad}{env:Env}{slice:Expr}{id:Ah}{Q:Aa->Ab->Prop}(hl:typeLookup (.type T) "__getitem__"=pure (some (.builtin id)))(hs:NoSl slice)(h:wpAny (model prog w) A (eval value env) (λo s₁=>wpAny (model prog w) A (eval slice env) (λi s₂=>s₂.TypeIs o T/\wpAny (model prog w) A (getItem o i) Q E s₂) E s₁) E s) :
  wpAny (model prog w) A (eval (.Subscript value slice pos) env) Q E s:=by
 refine Subscript_ (c_6 h (λo s₁ h₁=>c_6 h₁ (λi s₂ h₂=>?_) λ_ _ x=>x) λ_ _ x=>x);obtain⟨hT,h₂⟩:=h₂;unfold subscriptTail;refine a__ ?_;rw[getitemInPython_of_ne hT.not_modules];refine a__ (wpAny_specialOf hT hl ?_)
 have fin:wpAny (model prog w) A (subscripted slice false o i) (λr s₃=>wpAny (model prog w) A (letTemporaryGo value o r >>= λ_=>pure r) Q E s₃) E s₂:=by
  rw[hs o i];exact wpAny_operating (c_6 h₂ (λr s₃ h₃=>a__ (wpAny_letTemporaryGo (a_4 h₃))) λ_ _ x=>x)
 first
  |exact a_4 (a__ fin)
  |exact a__ (a_4 (a__ fin))
  |exact a__ fin
theorem fL_{y:V}(I:Inv X pins σ H s)(g:DGet H a y o):s.TypeIs (.ref a) "dict":=by
 rcases g with⟨kvs,k,e,_,_⟩|⟨kvs,k,b,e,_,_,_⟩
 ·obtain⟨_,_,vs,_,dd⟩:=dy_ I.hok e;exact dd.typeIs
 ·obtain⟨_,_,xs,_,dd⟩:=gL_ I.hok e;exact dd.typeIs
inductive tDGetR (Q:VK) (x:V) (y:V) (H2:Hp):Prop
 |mk:∀a v,x=.ref a->DGet H2 a y (some v)->Q v H2->tDGetR Q x y H2
def tDGet(td ty:TE):TE:=λσ H Q=>td σ H λx H1=>ty σ H1 λy H2=>tDGetR Q x y H2
inductive tDInR (Q:VK) (y:V) (x:V) (H2:Hp):Prop
 |mk:∀a o,x=.ref a->DGet H2 a y o->Q (.bl o.isSome) H2->tDInR Q y x H2
def tDIn(ty td:TE):TE:=λσ H Q=>ty σ H λy H1=>td σ H1 λx H2=>tDInR Q y x H2
inductive ez' (Q:VK) (y:V) (x:V) (H2:Hp):Prop
 |mk:∀a o,x=.ref a->DGet H2 a y o->Q (.bl (!o.isSome)) H2->ez' Q y x H2
def tDNotIn(ty td:TE):TE:=λσ H Q=>ty σ H λy H1=>td σ H1 λx H2=>ez' Q y x H2
inductive sDPutR (D:Ends) (σ:St) (v:V) (x:V) (y:V) (H3:Hp):Prop
 |mk:∀a H4,x=.ref a->DPut H3 a y v H4->D.nx σ H4->sDPutR D σ v x y H3
def sDPut(td ty tv:TE):TS:=λD σ H=>tv σ H λv H1=>td σ H1 λx H2=>ty σ H2 λy H3=>sDPutR D σ v x y H3
variable{i o:Expr}{td ty:TE}
theorem cL_(hu:X.A.units+1<cLine)(ho:PE X o td)(hi:PE X i ty)(hs:NoSl i):PE X (.Subscript o i pos) (tDGet td ty):=by
 intro pins s σ H Q I h;refine kp_ PySem.F.slot_dict_getitem.lookup hs (thn (ho pins s σ H _ I h) λu s1 ⟨x,H1,I1,rx,q1⟩=>thn (hi pins s1 σ H1 _ I1 q1) λiv s2 ⟨y,H2,I2,ry,a,v,ex,g,q2⟩=>?_);subst ex;obtain rfl:u=Value.ref a:=rx;exact⟨fL_ I2 g,ht_ hu I2 g ry λw' s3 I3 rw'=>⟨v,H2,I3,rw',q2⟩⟩
theorem cx_(hu:X.A.units+1<cLine)(hi:PE X i ty)(ho:PE X o td):PC X .In i o (tDIn ty td):=by
 intro pins s σ H Q I h;refine thn (hi pins s σ H _ I h) λiv s1 ⟨y,H1,I1,ry,q1⟩=>thn (ho pins s1 σ H1 _ I1 q1) λu s2 ⟨x,H2,I2,rx,a,ov,ex,g,q2⟩=>?_;subst ex;obtain rfl:u=Value.ref a:=rx;exact d_in hu I2 g ry λs3 I3=>⟨.bl ov.isSome,H2,I3,rfl,q2⟩
theorem cG_(hu:X.A.units+1<cLine)(hi:PE X i ty)(ho:PE X o td):PC X .NotIn i o (tDNotIn ty td):=by
 intro pins s σ H Q I h;refine thn (hi pins s σ H _ I h) λiv s1 ⟨y,H1,I1,ry,q1⟩=>thn (ho pins s1 σ H1 _ I1 q1) λu s2 ⟨x,H2,I2,rx,a,ov,ex,g,q2⟩=>?_;subst ex;obtain rfl:u=Value.ref a:=rx;exact kH_ hu I2 g ry λs3 I3=>⟨.bl (!ov.isSome),H2,I3,rfl,q2⟩
variable{pos':Pos}{tv:TE}
theorem ct_(hu:X.A.units+1<cLine)(ho:PE X o td)(hi:PE X i ty)(hv:PE X value tv)(hs:swapsWith value (some (.Subscript o i pos')) pos.line X.env=pure false) :
  PS X (.Assign [.Subscript o i pos'] value pos) (sDPut td ty tv):=by
 intro pins s σ H D I h;refine wpAny_Assign_Subscript (thn (hv pins s σ H _ I h) λr s1 ⟨v,H1,I1,rv,q1⟩=>thn (ho pins s1 σ H1 _ I1 q1) λu s2 ⟨x,H2,I2,rx,q2⟩=>thn (hi pins s2 σ H2 _ I2 q2) λiv s3 ⟨y,H3,I3,ry,a,H4,ex,g,q3⟩=>?_) hs;subst ex;obtain rfl:u=Value.ref a:=rx;exact ii_ hu I3 g ry rv λs4 I4=>⟨σ,H4,I4,q3⟩
theorem jh_(h:Heap)(hb:sysModules<h.objs.size):bn' P w H (h.push { cls:=.type "dict",data:=.dict #[] }) h.objs.size (.dK []):=
 ⟨aN' _,beq_eq_false_iff_ne.mpr (Ne.symm (av' hb)),[],.nil,Heap.DictOf.new h⟩
theorem jD_(h:Heap)(hb:sysModules<h.objs.size):bn' P w H (h.push { cls:=.type "dict",data:=.dict #[] }) h.objs.size (.dT []):=
 ⟨aN' _,beq_eq_false_iff_ne.mpr (Ne.symm (av' hb)),[],.nil,_,#[],0,b_0 _ rfl,⟨rfl,rfl,rfl⟩,rfl,rfl,List.nodup_nil⟩
def tDNewK:TE:=λ_ H Q=>∀p,H p=none->Q (.ref p) (upd H p (.dK []))
def tDNewT:TE:=λ_ H Q=>∀p,H p=none->Q (.ref p) (upd H p (.dT []))
theorem cz_:PE X (.Dict [] [] pos) tDNewK:=λpins s σ H Q I h=>
 wpAny_Dict_empty ⟨.ref s.heap.objs.size,_,I.laid (a:=s.heap.objs.size) (o:=.dK []) (t':=s.toks) (λ_ _ q=>a_0 _ q) (ai' _) (jh_ s.heap I.big),rfl,h _ (I.hok.fresh (ai' _))⟩
theorem gw_:PE X (.Dict [] [] pos) tDNewT:=λpins s σ H Q I h=>
 wpAny_Dict_empty ⟨.ref s.heap.objs.size,_,I.laid (a:=s.heap.objs.size) (o:=.dT []) (t':=s.toks) (λ_ _ q=>a_0 _ q) (ai' _) (jD_ s.heap I.big),rfl,h _ (I.hok.fresh (ai' _))⟩
def c2'(kvs more:List (Key × V)):List (Key × V):=more.foldl (λacc kv=>putK acc kv.1 kv.2) kvs
theorem cv_:∀(more kvs:List (Key × V)),(c2' kvs more).length<=kvs.length+more.length
 |[],kvs=>by show kvs.length<=kvs.length+0;omega
 |p::r,kvs=>by
  have h1:=cv_ r (putK kvs p.1 p.2);have h2:=cs_ kvs p.1 p.2;show (c2' (putK kvs p.1 p.2) r).length<=_;rw[aC'];omega
structure M1 (X:Cx) (o:Expr) (m:Str) (apos:Pos) (e:Expr) (cpos:Pos):Prop where
 base:attributeBase o m X.env (eval o X.env)=eval o X.env
 few:((backTo cpos (starEach [e] X.env)).all (λx=>!x.1)&&(backToKw cpos (keywordEach [] X.env)).all (λx=>x.1.isSome)
  && decide (([e]:List Expr).length+([]:List Keyword).length+(if ([]:List Keyword).isEmpty then 0 else 1)<30))=true
 line:(apos.endLine == cpos.line)=true
 trees:backTo cpos (starEach [e] X.env)=[(false,eval e X.env)]
structure M2 (X:Cx) (o:Expr) (m:Str) (apos:Pos) (e f:Expr) (cpos:Pos):Prop where
 base:attributeBase o m X.env (eval o X.env)=eval o X.env
 few:((backTo cpos (starEach [e,f] X.env)).all (λx=>!x.1)&&(backToKw cpos (keywordEach [] X.env)).all (λx=>x.1.isSome)
  && decide (([e,f]:List Expr).length+([]:List Keyword).length+(if ([]:List Keyword).isEmpty then 0 else 1)<30))=true
 line:(apos.endLine == cpos.line)=true
 trees:backTo cpos (starEach [e,f] X.env)=[(false,eval e X.env),(false,eval f X.env)]
def IsD(H:Hp)(a:Addr):Prop:=(∃kvs,Rd H a (.dK kvs))∨∃kvs,Rd H a (.dT kvs)
theorem lE_(I:Inv X pins σ H s)(d:IsD H a) :
  s.TypeIs (.ref a) "dict"/\(∀b,Value.ref a=.ref b->∃ob,s.heap.get? b=some ob/\ob.dict=none)/\(a == sysModules)=false:=by
 rcases d with⟨kvs,e⟩|⟨kvs,e⟩
 ·obtain⟨_,hd,vs,_,dd⟩:=dy_ I.hok e;refine⟨dd.typeIs,λb q=>?_,hd⟩;cases q;obtain⟨ob,_,_,h1,h2,_⟩:=dd;exact⟨ob,h1,h2.2.1⟩
 ·obtain⟨_,hd,xs,_,dd⟩:=gL_ I.hok e;refine⟨dd.typeIs,λb q=>?_,hd⟩;cases q;obtain⟨ob,_,_,h1,h2,_⟩:=dd;exact⟨ob,h1,h2.2.1⟩
end L2
namespace Att
open PySem PySem.W PySem.Calls PyProof.Rows
variable{P:Params}{h:Heap}
theorem dG_:∀(ns:List Int) (vs:List Aa),WellAll P h vs (ns.map WData.int)->IntsAre vs ns:=by
 intro ns
 induction ns with
 |nil=>
  intro vs w;rw[List.map_nil] at w;cases w;exact .nil
 |cons n ns ih=>
  intro vs w;rw[aw'] at w;cases w with
  |cons a b=>
   cases a;exact .cons _ _ (ih _ b)
variable{l:OpenLaw}{n:Nat}
theorem iv_(hn:l.most=some n){args:List WData}{vals:List Aa}(hpre:l.row.toRowW.claim.pre args=true)(hwl:WellAll P h vals args) :
  ∃a vs ns,vals=[Value.ref a]/\args=[WData.list (ns.map WData.int)]/\h.get? a=some { cls:=.type "list",data:=.seq vs.toArray }/\IntsAre vs ns/\ns.length<=n:=by
 have hsh:WShape.hasAll [] args [.list .int]=true:=(pre_splitW hpre).1;have hc:l.pre.holds [] { args:=args }=true:=(pre_splitW hpre).2;obtain⟨d,r,rfl,h1,h2⟩:=hasAllW_cons hsh;obtain rfl:=hasAllW_nil h2;obtain⟨xs,rfl,h3⟩:=hasW_list h1;obtain⟨ns,rfl⟩:=items_int h3
 have hlen:ns.length<=n:=by
  unfold OpenLaw.pre at hc
  have h4:(WTm.not (.lt (.lit (.int (n:Int))) (.len (.arg 0)))).holds [] { args:=[.list (ns.map .int)] }=true:=by
   have h4:=(holds_andW hc).1;rw[hn] at h4;exact h4
  have h5:=condW_of h4 (w_not (w_lt w_lit (w_len_list (w_arg rfl))));rw[aa'] at h5;refine Nat.le_of_not_lt λq=>?_;have q':(n:Int)<((ns.length:Nat):Int):=by omega
  first
   |(rw[a_1 q'] at h5;exact absurd h5 (by decide))
   |(simp at h5;omega)
 cases hwl with
 |cons w1 w2=>
  cases w2;cases w1 with
  |list ho hall=>exact⟨_,_,ns,rfl,rfl,ho,dG_ ns _ hall,hlen⟩
theorem iq_(l:OpenLaw)(args:List WData):l.row.toRowW.claim.post args (.bool true) args=true:=
 postW_of (r:=l.row.toRowW) (X:=(true == true))
  (show WShape.has [] (.bool true) .bool=true by first|rfl|decide|simp[WShape.has,WShape.arms,WShape.armsAll])
  (show (WTm.eq .res (.lit (.bool true))).value [] { args:=args,res:=some (.bool true),after:=args }=some (.bool (true == true)) from w_eq_bool (w_res rfl) w_lit) rfl
theorem attach_call{q:Ad}{loose:List Str}{XP:(Str->Option Aa)->Heap->Prop}{YP:Af->Heap->Prop}{d:DefRec}(hn:l.most=some n)(hdf:d.params.defaults=[])(call:∀(w:Af) (s₀ s₁:Ab) (mg mb:Str->Option Aa) (fa:Addr) (o:Obj) (pm cd doc:Aa) (a:Addr) (vs:List Aa) (ns:List Int),
   Ground q loose [] XP w s₀ mg mb s₁.heap->YP w s₁.heap->
   s₁.heap.get? fa=some o->o.data=.func (docDef d.name d.params d.body d.scope pm cd doc)->s₁.heap.CodeRec cd d.name->mg d.name=some (.ref fa)->
   s₁.heap.get? a=some { cls:=.type "list",data:=.seq vs.toArray }->IntsAre vs ns->ns.length<=n->s₁.gens=#[]->
   codeAny (model l.prog w) callerA (.call (.ref fa) ⟨[.ref a],[]⟩) (λr s'=>r=.ok (.ret (.bool true))/\OldK s₁.heap s'.heap/\s'.os=s₁.os/\AllBare s'.gens) s₁) :
  WalkO q loose XP YP l.row.toRowW d [] (λf vs=>PySem.call f vs):=by
 intro w s₀ s₁ mg mb G Y fa o pm cd doc dV kV ho hd hcd hD hmg hg args vals as hpre hlay hrd hwl hlo;obtain rfl:dV=.none:=Dflts.none hD hdf;obtain rfl:kV=.none:=Dflts.noKw hD;obtain⟨a,vs,ns,rfl,rfl,hobj,hints,hlen⟩:=iv_ hn hpre hwl;refine enter_call (codeAny_mono (call w s₀ s₁ mg mb fa o pm cd doc a vs ns G Y ho (fd_plain hd) hcd hmg hobj hints hlen hg) λr s' hq=>?_);obtain⟨rfl,h2,h3,h4⟩:=hq;exact⟨.inl ⟨.bool true,.bool true,[],rfl,λ_=>rfl,.bool true,iq_ l _,λ_=>⟨List.Pairwise.nil,λ_ hm=>(nomatch hm)⟩⟩,h2,h3,h4⟩
end Att
namespace L2
open PySem PySem.Spec PyProof.Rows
theorem f8_:∀{vs:List Aa} {ns:List Int},IntsAre vs ns->Vals (ns.map V.int) vs
 |_,_,.nil=>.nil
 |_,_,.cons n t h=>.cons ⟨t,rfl⟩ (f8_ h)
def Only(H:Hp):Prop:=∀b,H b=none∨∃o xs,H b=some (.frz o (.lst xs))
variable{k:Nat}{a:Addr}{fd:Ae}{sp:Sp}
theorem j7_{P:Ad}{w:Af}{K:F__}{mg mb:Str->Option Aa}{CX:CXT}{fa:Addr}{x:Str}{s₁:Ab}{vs:List Aa}{ns:List Int}(KX:K.In s₁.heap)(hns:s₁.heap.Ns mainGlobals mg)(hb:s₁.heap.Ns builtinsNs mb)(hbb:∀x:Str,x≠"__name__"->mb x=bootBuiltins x)(hlim:s₁.heap.NoLimit)(hg:s₁.gens=#[])(ha:s₁.heap.get? a=some { cls:=.type "list",data:=.seq vs.toArray })(hi:IntsAre vs ns)(hl:ns.length<=sizeLine)(hr:Room k callerA)(F:∀base:Heap,K.In base->base.Ns mainGlobals mg->FnOk P w K mg base CX k fa fd [x] sp)(hbind:∀(s:Ab) (u:Aa),BindsTo s fd ⟨[u],[]⟩ [(x,u)])(hsp:∀H:Hp,Only H->SqL K H a (ns.map V.int)->sp [.ref a] H (λv _=>v=.bl true) λ_ _ _=>False)(hCX:∀H e s',CX [] H s₁ (λ_ _ _=>False) e s'->False) :
  codeAny (model P w) callerA (.call (.ref fa) ⟨[.ref a],[]⟩) (λr s'=>r=.ok (.ret (.bool true))/\OldK s₁.heap s'.heap/\s'.os=s₁.os/\AllBare s'.gens) s₁:=by
 have rv:=f8_ hi;have lenV:=hi.length
 have core:∀H:Hp,Only H->SqL K H a (ns.map V.int)->HOk P w H s₁.heap->(∀b,H b≠none->b=a)->(H a≠none->K.lookup a=none)->
   codeAny (model P w) callerA (.call (.ref fa) ⟨[.ref a],[]⟩) (λr s'=>r=.ok (.ret (.bool true))/\OldK s₁.heap s'.heap/\s'.os=s₁.os/\AllBare s'.gens) s₁:=by
  intro H hO hS hok hA hK;have base_of:∀{b:Addr} {o:Obj},s₁.heap.get? b=some o->H b=none->(hidT s₁.heap H).get? b=some o:=λe n=>jA_ e n
  have noA:∀{b:Addr} {o:Obj} {es:Array DictEntry} {ep:Nat},s₁.heap.get? b=some o->o.data=.dict es ep->H b=none:=λ{b o es ep} e d=>by
   cases q:H b with
   |none=>rfl
   |some u=>
    have e':b=a:=hA b (by rw[q];simp);subst e';rw[ha] at e;cases e;have d':Data.seq vs.toArray _=Data.dict es ep:=d;cases d'
  have nsK:∀{b:Addr} {m:Str->Option Aa},s₁.heap.Ns b m->(hidT s₁.heap H).Ns b m:=λ{b m} ⟨o,es,ep,e,d,r⟩=>⟨o,es,ep,base_of e (noA e d),d,r⟩
  have hKb:K.In (hidT s₁.heap H):=λb o e=>base_of (KX b o e) (by
   cases q:H b with
   |none=>rfl
   |some u=>
    have e':b=a:=hA b (by rw[q];simp);subst e';rw[hK (by rw[q];simp)] at e;cases e)
  have hM:Mod K mg (hidT s₁.heap H):=⟨hKb,nsK hns,⟨mb,nsK hb,hbb⟩,let ⟨mc,h1,h2⟩:=hlim;⟨mc,nsK h1,h2⟩⟩;have e0:Env0 P w K mg (hidT s₁.heap H) callerA [] s₁ H:=⟨rfl,hM,λb o e=>kb_ e,Nat.le_of_eq (hS_ _ _),trivial,λb hb=>absurd (show b∈([]:List Addr) from hb) Z2,hok,.of_eq hg⟩;refine codeAny_mono ((F _ hKb (nsK hns)).run callerA [] s₁ H ⟨[.ref a],[]⟩ [.ref a] [.ref a] _ _ hr e0 (hbind s₁ (.ref a)) (.cons rfl .nil) (hsp H hO hS)) λr s' h=>?_;cases r with
  |error e=>exact (hCX H e s' h).elim
  |ok fl=>
   cases fl with
   |next=>exact False.elim h
   |brk=>exact False.elim h
   |cont=>exact False.elim h
   |ret u=>
    obtain⟨v,H',os,bare,un,hok',r',q⟩:=h;have q':v=.bl true:=q;subst q';obtain rfl:u=Value.bool true:=r';refine⟨rfl,OldK.of_keep λb o e=>?_,os,bare⟩;cases q:H b with
    |none=>exact un.keep b o e q (by intro z;exact absurd (show b∈([]:List Addr) from z) Z2) Z2
    |some u=>
     rcases hO b with z|⟨ob,xs,z⟩
     ·rw[q] at z;cases z
     ·have z2:=un.frzs b ob _ z;obtain⟨e1,_⟩:=hok b _ z;obtain⟨e2,_⟩:=hok' b _ z2;rw[e] at e1;cases e1;exact e2
 cases hk:K.lookup a with
 |some o=>
  have e:=KX a o hk;rw[ha] at e;cases e;refine core (λ_=>none) (λ_=>.inl rfl) (.inr ⟨_,vs.toArray,_,hk,rfl,rfl,rfl,by rw[am',lenV];exact hl,by simpa using rv⟩) (λb u z=>by have z':(none:Option HO)=some u:=z;cases z') (λb z=>absurd rfl z) λz=>absurd rfl z
 |none=>
  refine core (λb=>if b=a then some (.frz { cls:=.type "list",data:=.seq vs.toArray } (.lst (ns.map V.int))) else none) (λb=>?_) (.inl (.inr ⟨{ cls:=.type "list",data:=.seq vs.toArray },b__ rfl⟩)) (λb u z=>?_) (λb z=>?_) λ_=>hk
  ·by_cases hb:b=a
   ·exact .inr ⟨_,_,b__ hb⟩
   ·exact .inl (a_5 hb)
  ·by_cases hb:b=a
   ·have z':=(b__ hb).symm.trans z;cases z';subst hb;exact⟨ha,by rw[aa'];exact hl,vs,_,rv,ha⟩
   ·have z':=(a_5 hb).symm.trans z;cases z'
  ·by_cases hb:b=a
   ·exact hb
   ·exact absurd (a_5 hb) z
theorem walk_of{l:PySem.W.OpenLaw}{n:Nat}{q:Ad}{loose:List Str}{XP:(Str->Option Aa)->Heap->Prop}{YP:Af->Heap->Prop}{d:DefRec}{K:Params->F__}{CX:Af->CXT}{sp:Af->Sp}{x:Str}(hn:l.most=some n)(hn2:n<=sizeLine)(hdf:d.params.defaults=[])(hr:Room k callerA)(hY:∀(w:Af) (h:Heap),YP w h->(K w.params).In h)(F:∀(w:Af) (mg:Str->Option Aa) (fa:Addr) (h:Heap),(K w.params).In h->h.Ns mainGlobals mg->mg d.name=some (.ref fa)->
   ∃fd:Ae,(∀(s:Ab) (u:Aa),BindsTo s fd ⟨[u],[]⟩ [(x,u)]) /\
    ∀base:Heap,(K w.params).In base->base.Ns mainGlobals mg->FnOk l.prog w (K w.params) mg base (CX w) k fa fd [x] (sp w))(hsp:∀(w:Af) (H:Hp) (a:Addr) (ns:List Int),ns.length<=n->Only H->SqL (K w.params) H a (ns.map V.int)->sp w [.ref a] H (λv _=>v=.bl true) λ_ _ _=>False)(hCX:∀(w:Af) (H:Hp) (s:Ab) (e:Aa) (s':Ab),CX w [] H s (λ_ _ _=>False) e s'->False) :
  PySem.W.WalkO q loose XP YP l.row.toRowW d [] (λf vs=>PySem.call f vs):=by
 refine Att.attach_call hn hdf λw s₀ s₁ mg mb fa o pm cd doc a vs ns G Y ho hd hcd hmg hobj hints hlen hg=>?_;have KX:=hY w _ Y;obtain⟨fd,hb,hF⟩:=F w mg fa _ KX G.T.g hmg;exact j7_ KX G.T.g G.T.b G.T.builtins G.T.nolimit hg hobj hints (aO' hlen hn2) hr hF hb (λH hO hS=>hsp w H a ns hlen hO hS) λH e s'=>hCX w H s₁ e s'
def bG'(s:Stmt)(j:Nat):Stmt:=match s with
 |.ClassDef _ _ _ body _ _ _ _ _ _ _=>body.getD j (.Pass ⟨0,0,0,0⟩)
 |_=>.Pass ⟨0,0,0,0⟩
def br'(s:Stmt):Arguments:=match s with
 |.FunctionDef _ a _ _ _ _ _ _ _ _=>a
 |_=>{ posonlyargs:=[],args:=[],vararg:=none,kwonlyargs:=[],kw_defaults:=[],kwarg:=none,defaults:=[] }
def bj'(s:Stmt):List Stmt:=match s with
 |.FunctionDef _ _ b _ _ _ _ _ _ _=>b
 |_=>[]
def a5'(s:Stmt):Scope:=match s with
 |.FunctionDef _ _ _ _ _ _ sc _ _ _=>sc
 |_=>{ kind:=.function,names:=[],isGenerator:=false,isCoroutine:=false }
abbrev CX0:CXT:=λ_ _ _ _ _ _=>False
abbrev E0:XK:=λ_ _ _=>False
variable{X:Cx}
theorem pass0:by' CX0 X E0:=λ_ _ _ _ _ _ _ h=>h.elim
structure Fun (K:F__) (x qual:Str) (st:Stmt) (f:Addr) (fd:Ae):Prop where
 ex:∃(oc:Aa) (od:Option Addr) (kV doc pm:Aa) (an:Option Addr) (cdv ct:Aa) (osl:Array (Option Aa)),
  fd=PySem.W.fnOf x qual (br' st) (bj' st) (a5' st) .none kV doc pm an cdv ct/\K.lookup f=some ⟨oc,od,.func fd,osl⟩/\PySem.W.codeIn K cdv qual=true
 kp:PySem.W.keepIn K (.ref f)=true
variable{qual:Str}{st:Stmt}{f:Addr}{N ps:List Str}
section
variable{P:Ad}{w:Af}{K:F__}{mg:Str->Option Aa}{base:Heap}
theorem Fun.ok{x:Str}(F:Fun K x qual st f fd)(S:a6' N ps (a5' st))(len:∀vs H Q E,sp vs H Q E->vs.length=ps.length)(hbody:∀(cdv:Aa) (A:Ag) (outer:List Env) (s:Ab) (H:Hp) (vs:List V) (Q:VK) (E:XK),Room k (A.deeper (envOfC qual (a5' st) s.heap.objs.size f cdv))->sp vs H Q E->
   ∃t,PSs (cxOf CX0 P w K mg base N qual (a5' st) f cdv A outer s H E).nox (bj' st) t/\t { nx:=λ_ H'=>Q .non H',rt:=Q } (start N vs) H):FnOk P w K mg base CX0 (k+1) f fd ps sp:=by
 obtain⟨oc,od,kV,doc,pm,an,cdv,ct,osl,rfl,lk,hcd⟩:=F.ex;refine kP_ lk hcd S len λA outer s H vs Q E hr hsp=>?_;obtain⟨t,h,q⟩:=hbody cdv A outer s H vs Q E hr hsp;exact⟨t,h.nox,q⟩
theorem Fun.binds{x:Str}(F:Fun K x qual st f fd)(h:∀(kV doc pm:Aa) (an:Option Addr) (cdv ct:Aa) (us:List Aa),us.length=ps.length->bindArgs (PySem.W.fnOf x qual (br' st) (bj' st) (a5' st) .none kV doc pm an cdv ct) ⟨us,[]⟩=pure (ps.zip us)):b9' K fd ps []:=by
 obtain⟨oc,od,kV,doc,pm,an,cdv,ct,osl,rfl,lk,hcd⟩:=F.ex;exact .all (h kV doc pm an cdv ct)
theorem hn_{x:Str}{oc:Aa}{od an:Option Addr}{osl:Array (Option Aa)}{kV doc pm cdv ct:Aa}(l:K.lookup f=some ⟨oc,od,.func (PySem.W.fnOf x qual (br' st) (bj' st) (a5' st) .none kV doc pm an cdv ct),osl⟩)(c:PySem.W.codeIn K cdv qual=true)(k:PySem.W.keepIn K (.ref f)=true):Fun K x qual st f (PySem.W.fnOf x qual (br' st) (bj' st) (a5' st) .none kV doc pm an cdv ct):=⟨⟨oc,od,kV,doc,pm,an,cdv,ct,osl,rfl,l,c⟩,k⟩
end
theorem bn_{A:Ag}(hr:Room k A):A.units+1<cLine:=Nat.lt_of_le_of_lt (Nat.add_le_add_left (by decide:1<=64) _) hr.units
variable{pos:Pos}
theorem pv(i:Nat){x:Str}(hN:X.N[i]? = some x:=by rfl)(hv:Vis X.env.scope x:=by first|exact Or.inl rfl|exact Or.inr (Or.inl rfl)|exact Or.inr (Or.inr rfl))(hd:(x == ("__debug__":Str))=false:=by decide)(hcd:(x == ("__classdict__":Str))=false:=by decide):PE X (.Name x pos) (tVar i):=lJ_ hN hv hd hcd
inductive dr' (xs:List V) (H:Hp) (Q:VK):Prop
 |mk:∀a kvs,xs=[V.ref a]->H a=some (.dK kvs)->Q (.int kvs.length) H->dr' xs H Q
theorem fe_:bx' X (.builtin "len") dr':=by
 intro pins s σ H xs us Q I r h;obtain⟨a,kvs,rfl,ha,q⟩:=h;obtain⟨u,rfl,ru⟩:=vals1 r;cases ru;exact lQ_ I (.inl ha) λt s' I'=>⟨.int kvs.length,H,I',⟨t,rfl⟩,q⟩
variable{A B:Prop}
theorem iteF(h:B):if false=true then A else B:=by
 rw[a_5 ay'];exact h
theorem iteT(h:A):if true=true then A else B:=by
 rw[b__ rfl];exact h
variable{c:Prop}
theorem ite2[Decidable c](h1:c->A)(h2:¬c->B):if c then A else B:=by
 by_cases h:c
 ·rw[b__ h];exact h1 h
 ·rw[a_5 h];exact h2 h
theorem eW'[Decidable c](hc:c)(h:B):if (!decide c)=true then A else B:=by
 rw[a_1 hc];exact iteF h
def Same(H H':Hp):Prop:=∀b o,H b=some o->H' b=some o
theorem Same.refl(H:Hp):Same H H:=λ_ _ h=>h
variable{H1:Hp}
theorem Same.trans{H H2:Hp}(a:Same H H1)(b:Same H1 H2):Same H H2:=λc o h=>b c o (a c o h)
variable{H':Hp}
theorem Same.free{H:Hp}(e:Same H H'){l:Addr}(h:H' l=Option.none):H l=Option.none:=by
 cases q:H l with
 |none=>rfl
 |some o=>
  rw[e l o q] at h;cases h
variable{xs:List V}
theorem Same.seq{K:F__}{H:Hp}(e:Same H H')(h:SqL K H a xs):SqL K H' a xs:=by
 rcases h with (h|⟨o,h⟩)|h
 ·exact .inl (.inl (e _ _ h))
 ·exact .inl (.inr ⟨o,e _ _ h⟩)
 ·exact .inr h
section
variable{κ:Type}[DecidableEq κ]
theorem k4_{kvs:List (κ × V)}{k:κ}{v:V}(h:valV kvs k=some v):k∈kvs.map (·.1):=by
 have q:(kvs.any λkv=>decide (kv.1=k))=true:=by
  rw[cD_,h]
  all_goals rfl
 obtain⟨p,hp,e⟩:=List.any_eq_true.mp q;exact ab'.mpr ⟨p,hp,c_7 e⟩
theorem i4_:∀{l:List κ} {k:κ},l.Nodup->¬k∈l->(l++[k]).Nodup
 |[],k,_,_=>by simp
 |a::r,k,h,hk=>by
  obtain⟨h1,h2⟩:=aV'.mp h;show (a::(r++[k])).Nodup;refine aV'.mpr ⟨λm=>?_,i4_ h2 λm=>hk (ah'.mpr (Or.inr m))⟩;rcases aq'.mp m with q|q
  ·exact h1 q
  ·exact hk (ah'.mpr (Or.inl (List.mem_singleton.mp q).symm))
end
def bv'(env:Env):List (Str × NameKind)->List (Str × Addr)->List (Str × Addr)
 |[],cs=>cs
 |(n,k)::r,cs=>bv' env r (if k == .free then (n,(env.cells.lookup n).getD 0)::cs else cs)
theorem bJ_{env:Env}(f:Str × NameKind->List (Str × Addr)->Sem (ForInStep (List (Str × Addr))))
  (hf:∀n k cs,f (n,k) cs=if (k == .free)=true then (do let a <- cellOf env n;pure (.yield ((n,a)::cs))) else pure (.yield cs)) :
  ∀(names:List (Str × NameKind)) (cs:List (Str × Addr)),(∀x∈names,x.2=.free->∃c,env.cells.lookup x.1=some c)->forIn names cs f=(pure (bv' env names cs):Sem _)
 |[],cs,_=>by rw[List.forIn_nil];rfl
 |(n,k)::r,cs,h=>by
  rw[List.forIn_cons,hf];have hr:∀x∈r,x.2=.free->∃c,env.cells.lookup x.1=some c:=λx hx=>h x (aj' _ hx);unfold bv';by_cases hk:(k == NameKind.free)=true
  ·obtain⟨c,hc⟩:=h (n,k) ap' (by simpa using hk);have hc:env.cells.lookup n=some c:=hc;rw[b__ hk,b__ hk];have e:cellOf env n=pure c:=by unfold cellOf;rw[hc]
   rw[e];simp only[pure_bind];rw[bJ_ f hf r _ hr,hc];rfl
  ·rw[a_5 hk,a_5 hk];simp only[pure_bind];exact bJ_ f hf r _ hr
variable{scope:Scope}{env:Env}
theorem cw_(h:∀x∈scope.names,x.2=.free->∃c,env.cells.lookup x.1=some c):closureFor scope env=pure (bv' env scope.names []):=by
 simp only[closureFor];rw[bJ_ (env:=env) _ (λn k cs=>by by_cases hk:(k == NameKind.free)=true<;>simp[hk]) scope.names [] h]
 simp only[pure_bind]
theorem e2_{env:Env}:∀{names:List (Str × NameKind)} {cs:List (Str × Addr)} {x:Str} {c:Addr},(x,c)∈bv' env names cs->(x,c)∈cs∨((x,NameKind.free)∈names/\c=(env.cells.lookup x).getD 0)
 |[],cs,x,c,h=>.inl h
 |(n,k)::r,cs,x,c,h=>by
  unfold bv' at h;rcases e2_ h with h|⟨h,e⟩
  ·by_cases hk:(k == NameKind.free)=true
   ·rw[b__ hk] at h;rcases ah'.mp h with q|q
    ·cases q;have:k=.free:=by simpa using hk
     subst this;exact .inr ⟨ap',rfl⟩
    ·exact .inl q
   ·rw[a_5 hk] at h;exact .inl h
  ·exact .inr ⟨aj' _ h,e⟩
theorem cN_{env:Env}:∀{names:List (Str × NameKind)} {cs:List (Str × Addr)} {x:Str},(x,NameKind.free)∈names∨(∃c,(x,c)∈cs)->∃c,(x,c)∈bv' env names cs
 |[],cs,x,h=>by
  rcases h with h|h
  ·cases h
  ·exact h
 |(n,k)::r,cs,x,h=>by
  unfold bv';refine cN_ ?_;rcases h with h|⟨c,h⟩
  ·rcases ah'.mp h with e|h
   ·cases e;exact .inr ⟨(env.cells.lookup n).getD 0,by rw[b__ (by decide)];exact ap'⟩
   ·exact .inl h
  ·refine .inr ⟨c,?_⟩;split
   ·exact aj' _ h
   ·exact h
theorem bU_:∀(names:List (Str × NameKind)) (n:Nat) (acc cl:List (Str × Addr)),cellsFrom n names (acc++cl)=cellsFrom n names acc++cl
 |[],_,_,_=>rfl
 |(x,k)::r,n,acc,cl=>by
  unfold cellsFrom;split
  ·exact bU_ r (n+1) ((x,n)::acc) cl
  ·exact bU_ r n acc cl
theorem bS_:∀{names:List (Str × NameKind)} {n:Nat} {acc:List (Str × Addr)} {x:Str} {c:Addr},(x,c)∈cellsFrom n names acc->(x,c)∈acc∨(x,NameKind.cell)∈names
 |[],_,_,_,_,h=>.inl h
 |(y,k)::r,n,acc,x,c,h=>by
  unfold cellsFrom at h;by_cases hk:(k == NameKind.cell)=true
  ·rw[b__ hk] at h;rcases bS_ h with h|h
   ·rcases ah'.mp h with e|h
    ·cases e;have:k=.cell:=by simpa using hk
     subst this;exact .inr ap'
    ·exact .inl h
   ·exact .inr (aj' _ h)
  ·rw[a_5 hk] at h;rcases bS_ h with h|h
   ·exact .inl h
   ·exact .inr (aj' _ h)
theorem bR_{α:Type}:∀{l:List (Str × α)} {x:Str} {c:α},(x,c)∈l->∃c',l.lookup x=some c'
 |(k,v)::r,x,c,h=>by
  rw[aY'];cases hb:x == k with
  |true=>exact⟨v,rfl⟩
  |false=>
   rcases ah'.mp h with e|h
   ·cases e;simp at hb
   ·exact bR_ h
def cpEnv(scope:Scope)(C:Addr)(env:Env):Env:=
 { scope:=relabel scope env,locals:=C,globals:=env.globals,cells:=cellsFrom (C+1) scope.names (bv' env scope.names []),qual:=env.qual,func:=none,code:=env.code,frame:=env.frame,builtins:=env.builtins }
theorem du_{M:Model}{A:Ag}{E:Aa->Ab->Prop}{s:Ab}{cl:List (Str × Addr)}{Q:Env->Ab->Prop}(h:Q { scope:=scope,locals:=s.heap.objs.size,globals:=env.globals,cells:=cellsFrom (s.heap.objs.size+1) scope.names cl,qual:=env.qual,func:=none,code:=env.code,frame:=env.frame,builtins:=env.builtins }
   { s with heap:=pushCells (s.heap.push { cls:=.type "dict",data:=.dict #[] }) scope.names }) :
  wpAny M A (newFunctionEnv scope env.globals cl [] env.qual none .none (some env)) Q E s:=by
 simp only[newFunctionEnv,Option.isSome_some,if_true];refine a__ (wpAny_alloc ?_);refine a__ (wpAny_layCells _ (λname kind cells=>by cases hkc:kind == NameKind.cell<;>simp[hkc]) _ _ _ _ ?_)
 rw[show ({ s with heap:=s.heap.push { cls:=.type "dict",data:=.dict #[] } }:Ab).heap.objs.size=s.heap.objs.size+1 from Heap.size_push ..];rw[List.forIn_nil];exact a__ (a_4 (a_4 h))
def dW'(PN:List Str)(ps:Scope)(N:List Str)(own:Nat)(fr:List Nat)(scope:Scope):Bool:=
 decide (scope.kind=.function)&&decide N.Nodup&&decide (own+fr.length=N.length)
 && (scope.names.all λy=>decide (scope.names.lookup y.1=some y.2))
 && (scope.names.all λy=>if y.2=.free then decide (ps.names.lookup y.1=some .cell) || decide (ps.names.lookup y.1=some .free) else true)
 && ((fr.map λj=>PN[j]?) == (N.drop own).map some)
 && ((N.drop own).all λx=>decide (scope.names.lookup x=some .free))
structure CpOk (PN:List Str) (ps:Scope) (N:List Str) (own:Nat) (fr:List Nat) (scope:Scope):Prop where
 kind:scope.kind=.function
 nd:N.Nodup
 len:own+fr.length=N.length
 look:∀y∈scope.names,scope.names.lookup y.1=some y.2
 par:∀y∈scope.names,y.2=.free->ps.names.lookup y.1=some .cell∨ps.names.lookup y.1=some .free
 frs:(fr.map λj=>PN[j]?)=(N.drop own).map some
 frk:∀x∈N.drop own,scope.names.lookup x=some .free
variable{own:Nat}{fr:List Nat}
theorem CpOk.of{PN:List Str}{ps:Scope}(h:dW' PN ps N own fr scope=true):CpOk PN ps N own fr scope:=by
 unfold dW' at h;simp only[au',b_1,aL',beq_iff_eq] at h;obtain⟨⟨⟨⟨⟨⟨h1,h2⟩,h3⟩,h4⟩,h5⟩,h6⟩,h7⟩:=h;refine⟨h1,h2,h3,h4,λy hy e=>?_,h6,h7⟩;have q:=h5 y hy;rw[b__ e] at q;simpa using q
def b3'(own:Nat)(fr:List Nat)(σ:St):St:=List.replicate own none++fr.map λj=>(σ[j]?).join
def bo'(X:Cx)(N:List Str)(scope:Scope)(fp:List Addr)(s:Ab)(H:Hp):Cx where
 prog:=X.prog
 w:=X.w
 K:=X.K
 mg:=X.mg
 base:=X.base
 A:=X.A
 N:=N
 s₀:=s
 H₀:=H
 env:=cpEnv scope s.heap.objs.size X.env
 outer:=X.stack
 stack:=X.stack
 ex:=fp
 fn:=λx=>decide (scope.names.lookup x=some .local) || decide (scope.names.lookup x=some .cell)
 calm:=X.calm
 pn:=[]
 xe:=λ_ _=>False
theorem d1_{ps:Scope}{env:Env}(he:env.scope=ps){x:Str}:∀{names:List (Str × NameKind)} {k:NameKind},names.lookup x=some k->
  (names.map λ(n,k)=>if (k == NameKind.free&&env.scope.kind == .function&&env.kindOf n == some .cell) then (n,NameKind.cell) else (n,k)).lookup x =
   some (if (k == NameKind.free&&env.scope.kind == .function&&env.kindOf x == some .cell) then .cell else k)
 |(n,k')::r,k,h=>by
  rw[aY'] at h;rw[aw'];cases hb:x == n with
  |true=>
   rw[hb] at h;cases h;have e:x=n:=by simpa using hb
   subst e;dsimp only;split<;>simp[aY']
  |false=>
   rw[hb] at h;have ih:=d1_ he (env:=env) h;dsimp only;split<;>(rw[aY',hb];exact ih)
theorem cS_{env:Env}{x:Str}:∀{names:List (Str × NameKind)} {k:NameKind},(names.map λ(n,k)=>if (k == NameKind.free&&env.scope.kind == .function&&env.kindOf n == some .cell) then (n,NameKind.cell) else (n,k)).lookup x=some k->∃k',names.lookup x=some k'/\(k'=k∨(k'=.free/\k=.cell))
 |(n,k')::r,k,h=>by
  rw[aw'] at h;rw[aY'];dsimp only at h;cases hb:x == n with
  |true=>
   refine⟨k',rfl,?_⟩;by_cases hc:(k' == NameKind.free&&env.scope.kind == .function&&env.kindOf n == some .cell)=true
   ·rw[b__ hc,aY',hb] at h;cases h;simp only[au',beq_iff_eq] at hc;exact .inr ⟨hc.1.1,rfl⟩
   ·rw[a_5 hc,aY',hb] at h;cases h;exact .inl rfl
  |false=>
   have h':(r.map λ(n,k)=>if (k == NameKind.free&&env.scope.kind == .function&&env.kindOf n == some .cell) then (n,NameKind.cell) else (n,k)).lookup x=some k:=by
    split at h<;>(rw[aY',hb] at h;exact h)
   exact cS_ h'
theorem eg_{α:Type}{x:Str}{c:α}:∀{l r:List (Str × α)},(l++r).lookup x=some c->(x,c)∈l∨(x,c)∈r:=λh=>aq'.mp (d_5 h)
section
variable{X:Cx}{pins:List (Addr × Obj)}{σ:St}{H:Hp}{s:Ab}{N:List Str}{own:Nat}{fr:List Nat}{scope:Scope}{fp:List Addr}
theorem eA'(I:Inv X pins σ H s)(S:CpOk X.N X.env.scope N own fr scope){x:Str}{c:Addr}(h:(x,c)∈bv' X.env scope.names []):X.env.cells.lookup x=some c/\(x,NameKind.free)∈scope.names:=by
 rcases e2_ h with h|⟨h,e⟩
 ·cases h
 ·obtain⟨c',hc⟩:=I.ok.has x (S.par _ h rfl);refine⟨?_,h⟩;rw[e,hc];rfl
theorem Inv.block(I:Inv X pins σ H s)(S:CpOk X.N X.env.scope N own fr scope)(hfp:∀b∈fp,FpOk X pins H b)(hfo:∀b∈fp,∃o,s.heap.get? b=some o) :
  Inv (bo' X N scope fp s H) [] (b3' own fr σ) H { s with heap:=pushCells (s.heap.push { cls:=.type "dict",data:=.dict #[] }) scope.names }:=by
 have kept:∀b o,s.heap.get? b=some o->(pushCells (s.heap.push { cls:=.type "dict",data:=.dict #[] }) scope.names).get? b=some o:=λb o e=>pushCells_keeps _ _ b o (a_0 _ e);have cok:=cellsFrom_ok scope.names (s.heap.push { cls:=.type "dict",data:=.dict #[] }) (s.heap.objs.size+1) [] ⟨λ_ _ hm=>(nomatch hm),List.Pairwise.nil⟩ (by rw[Heap.size_push];exact ai' _);rw[Heap.size_push] at cok;have ecs:cellsFrom (s.heap.objs.size+1) scope.names (bv' X.env scope.names [])=cellsFrom (s.heap.objs.size+1) scope.names []++bv' X.env scope.names []:=bU_ _ _ [] _
 have lookC:∀{x c},(cellsFrom (s.heap.objs.size+1) scope.names (bv' X.env scope.names [])).lookup x=some c->((x,c)∈cellsFrom (s.heap.objs.size+1) scope.names []/\(x,NameKind.cell)∈scope.names/\s.heap.objs.size+1<=c)∨(X.env.cells.lookup x=some c/\(x,NameKind.free)∈scope.names):=λ{x c} h=>by
  rw[ecs] at h;rcases eg_ h with h|h
  ·refine .inl ⟨h,?_,(cok.empty _ _ h).2⟩;rcases bS_ h with q|q
   ·cases q
   ·exact q
  ·exact .inr (eA' I S h)
 have oldC:∀{x c},X.env.cells.lookup x=some c->c<s.heap.objs.size:=λ{x c} h=>by
  obtain⟨v,hv⟩:=I.cell x c h;exact hv.lt
 have hb:∀b∈fp,b<s.heap.objs.size:=λb hb=>let ⟨o,e⟩:=hfo b hb;a_6 e
 refine⟨⟨I.ok.mod,S.kind,I.ok.glob,I.ok.blt,ai' _,λx y c h1 h2=>?_,λx hx=>?_,λx c hf h=>?_,I.ok.hd,I.ok.frames,.inl rfl,λb hb'=>⟨av' (hb b hb'),λx c h=>?_⟩,I.bs,?_,λb o e hb'=>?_,λb hb' hs=>?_,I.stack,I.stkFree⟩,
  rfl,I.bare,Un.kept kept,⟨_,(Heap.Ns.new s.heap (.type "dict")).keeps (pushCells_keeps _ _),λi x v h1 h2 h3=>?_⟩,λx c h=>?_,I.hok.fresh (ai' _),λx c h=>?_,λp hp=>absurd (show p∈([]:List (Addr × Obj)) from hp) Z2,I.hok.kept kept,?_⟩
 ·-- inj
  rcases lookC h1 with⟨m1,k1,l1⟩|⟨m1,k1⟩<;>rcases lookC h2 with⟨m2,k2,l2⟩|⟨m2,k2⟩
  ·exact name_of_addr cok.apart m1 m2
  ·exact absurd (oldC m2) (Nat.not_lt.mpr (Nat.le_of_succ_le l1))
  ·exact absurd (oldC m1) (Nat.not_lt.mpr (Nat.le_of_succ_le l2))
  ·exact I.ok.inj x y c m1 m2
 ·-- has
  have key:(x,NameKind.cell)∈scope.names∨(x,NameKind.free)∈scope.names:=by
   rcases hx with hx|hx
   ·obtain⟨k',e,q⟩:=cS_ (env:=X.env) (show _=some NameKind.cell from hx);have m:=d_5 e;rcases q with q|⟨q,_⟩
    ·exact .inl (q▸m)
    ·exact .inr (q▸m)
   ·obtain⟨k',e,q⟩:=cS_ (env:=X.env) (show _=some NameKind.free from hx);have m:=d_5 e;rcases q with q|⟨_,q⟩
    ·exact .inr (q▸m)
    ·cases q
  show ∃c,(cellsFrom (s.heap.objs.size+1) scope.names (bv' X.env scope.names [])).lookup x=some c
  have:((cellsFrom (s.heap.objs.size+1) scope.names (bv' X.env scope.names [])).lookup x).isSome=true:=by
   refine PySem.W.cellsFrom_some _ _ _ ?_;rcases key with q|q
   ·exact .inl (S.look _ q)
   ·obtain⟨c,m⟩:=cN_ (env:=X.env) (names:=scope.names) (cs:=[]) (x:=x) (.inl q);obtain⟨c',e⟩:=bR_ m;exact .inr (by rw[e];rfl)
  exact aP'.mp this
 ·-- cab
  rcases lookC h with⟨_,_,l⟩|⟨_,k⟩
  ·exact Nat.le_of_succ_le l
  ·have e:=S.look _ k;have hf:(decide (scope.names.lookup x=some .local) || decide (scope.names.lookup x=some .cell))=true:=hf;rw[show scope.names.lookup x=some .free from e] at hf;exact absurd hf (by decide)
 ·rcases lookC h with⟨_,_,l⟩|⟨q,_⟩
  ·exact a4' (ar' (hb b hb') (Nat.le_of_succ_le l))
  ·exact (hfp b hb').2.2.2.2.1 x c q
 ·exact aO' I.ok.bsz I.sz
 ·rcases (hfp b hb').2.2.2.1 with q|q
  ·exact I.ok.noex b o e q
  ·exact absurd (ar' (a_6 e) I.ok.bsz) Z1
 ·rcases ah'.mp (I.stkSub b hs) with q|q
  ·exact (hfp b hb').2.1 q
  ·exact (hfp b hb').2.2.1 q
 ·-- names
  have hi:own<=i:=by
   refine Nat.le_of_not_lt λhlt=>?_;unfold b3' at h2;rw[List.getElem?_append_left (by rw[aZ'];exact hlt),List.getElem?_replicate,b__ hlt] at h2;cases h2
  have h2':(fr.map λj=>(σ[j]?).join)[i - own]? = some (some v):=by
   unfold b3' at h2;rw[List.getElem?_append_right (by rw[aZ'];exact hi),aZ'] at h2;exact h2
  have h1:N[i]? = some x:=h1;have hx:(N.drop own)[i - own]? = some x:=by rw[List.getElem?_drop,show own+(i - own)=i by omega];exact h1
  rw[az'] at h2';cases ej:fr[i - own]? with
  |none=>rw[ej] at h2';cases h2'
  |some j=>
   rw[ej] at h2';have h2':(σ[j]?).join=some v:=b_7 h2'
   have hσ:σ[j]? = some (some v):=by
    cases q:σ[j]? with
    |none=>rw[q] at h2';cases h2'
    |some o=>rw[q] at h2';exact c_5 some h2'
   have hN:X.N[j]? = some x:=by
    have q:=c_5 (λl=>l[i - own]?) S.frs;simp only[az',ej,hx,Option.map_some] at q;exact b_7 q
   have kf:=S.frk x (ae' hx);have mf:=d_5 kf;obtain⟨m,hm,hv⟩:=I.loc;have pk:=S.par _ mf rfl;obtain⟨u,ru,lk⟩:=hv j x v hN hσ (pk.elim (λq=>.inr (.inl q)) λq=>.inr (.inr q));refine⟨u,ru,?_⟩;have pk':X.env.kindOf x=some .cell∨X.env.kindOf x=some .free:=pk;rcases lk with⟨k,_⟩|⟨_,c,hc,hcell⟩
   ·rw[k] at pk';rcases pk' with q|q<;>cases q
   ·obtain⟨c',m1⟩:=cN_ (env:=X.env) (names:=scope.names) (cs:=[]) (x:=x) (.inl mf);have e1:=(eA' I S m1).1;rw[hc] at e1;cases e1;refine .inr ⟨?_,c,?_,hcell.keeps kept⟩
    ·have q:=d1_ (env:=X.env) rfl kf;show (relabel scope X.env).names.lookup x=some .cell∨(relabel scope X.env).names.lookup x=some .free;unfold relabel;rw[q];split
     ·exact .inl rfl
     ·exact .inr rfl
    ·obtain⟨c2,e2⟩:=aP'.mp (PySem.W.cellsFrom_some (x:=x) scope.names (s.heap.objs.size+1) (bv' X.env scope.names []) (.inr (by obtain⟨c',e⟩:=bR_ m1;rw[e];rfl)));show (cellsFrom (s.heap.objs.size+1) scope.names (bv' X.env scope.names [])).lookup x=some c;rcases lookC e2 with⟨_,q,_⟩|⟨q,_⟩
     ·have:=S.look _ q;rw[show scope.names.lookup x=some .free from kf] at this;cases this
     ·rw[hc] at q;cases q;exact e2
 ·-- cells
  rcases lookC h with⟨q,_,_⟩|⟨q,_⟩
  ·exact⟨_,(cok.empty _ _ q).1⟩
  ·obtain⟨v,hv⟩:=I.cell x c q;exact⟨v,hv.keeps kept⟩
 ·rcases lookC h with⟨q,_,l⟩|⟨q,_⟩
  ·exact I.hok.fresh Z1
  ·exact I.freeC x c q
 ·show (b3' own fr σ).length=N.length;unfold b3';rw[an',aZ',aa'];exact S.len
end
def PTs(X:Cx)(ifs:List Expr)(t:TT):Prop:=
 ∀(pins:List (Addr × Obj)) (s:Ab) (σ:St) (H:Hp) (Q:Bool->Hp->Prop),Inv X pins σ H s->t σ H Q->
  wpAny (model X.prog X.w) X.A (forIn ifs true λc r=>if r=true then do let ok <- isTrue c X.env (eval c X.env);pure (ForInStep.yield ok) else pure (ForInStep.yield r)) (TP X pins σ Q) X.xe s
def tYes:TT:=λ_ H Q=>Q true H
variable{σ:St}
theorem yesT{H:Hp}{A B:Hp->Prop}(h:A H):tYes σ H λb H4=>if b=true then A H4 else B H4:=by
 unfold tYes;exact iteT h
theorem aW_:PTs X [] tYes:=λ_ _ _ H _ I h=>wpAny_tests_nil ⟨H,I,h⟩
theorem bw_{c:Expr}{t:TT}(h:PT X c t):PTs X [c] t:=λpins s σ H Q I q=>wpAny_tests_one (h pins s σ H Q I q)
def CompW(J:It)(g:TG)(tc:TT)(te:TE)(σ0:St)(D:Addr)(H1:Hp)(Q:VK):Prop:=∃W:Nat->Nat->St->Hp->Prop,
 (∃m,W 0 m σ0 (upd H1 D (.lst [])))/\∀i m σ' H',W i m σ' H'->(J.stop i H'/\Q (.ref D) H') ∨
  (J.go i H'/\∃Nx:St->Hp->Prop,(∀σ2 H2,Nx σ2 H2->∃m',m'<m/\W (i+1) m' σ2 H2) /\
   ∀x H2,J.yld i H' x H2->g x σ' H2 λσ3 H3=>tc σ3 H3 λb H4=>if b=true then te σ3 H4 λy H5=>∃out,H5 D=some (.lst out)/\out.length<sizeLine/\Nx σ3 (upd H5 D (.lst (out++[y]))) else Nx σ3 H4)
def tComp(wi:TI)(own:Nat)(fr:List Nat)(g:TG)(tc:TT)(te:TE):TE:=λσ H Q=>wi σ H λJ H1=>∀D,H1 D=none->CompW J g tc te (b3' own fr σ) D H1 Q
variable{Q:VK}{J:It}{D:Addr}{elt iter tg:Expr}{ifs:List Expr}{g:TG}{tc:TT}{te:TE}
theorem i0_{R:Result->Ab->Prop}{pins:List (Addr × Obj)}{s2:Ab}{it:Addr}{fp:List Addr}{tn:Nat->Heap->Prop}(S:CpOk X.N X.env.scope N own fr scope)(hc:X.calm=true)(hg:∀fp s H,PG (bo' X N scope fp s H) tg g)(ht:∀fp s H,PTs (bo' X N scope fp s H) ifs tc)(he:∀fp s H,PE (bo' X N scope fp s H) elt te)(I3:Inv X pins σ (upd H1 D (.lst [])) s2)(T:Turn X.prog X.w X.K tg J fp it tn)(st:tn 0 s2.heap)(f2:∀b∈fp,FpOk X pins (upd H1 D (.lst [])) b)(k:CompW J g tc te (b3' own fr σ) D H1 Q)(hR:∀H' s',Inv X pins σ H' s'->(∃m,s'.heap.Ns s2.heap.objs.size m)->H' s2.heap.objs.size=none->Q (.ref D) H'->R (.ok .next) s') :
  codeAny (model X.prog X.w) X.A (.compStart (.ListComp elt [⟨tg,iter,ifs,0⟩] scope pos) 0 (.ref it) (.ref D) (cpEnv scope s2.heap.objs.size X.env)) R
   { s2 with heap:=pushCells (s2.heap.push { cls:=.type "dict",data:=.dict #[] }) scope.names }:=by
 obtain⟨W,⟨m0,w0⟩,turn⟩:=k;have I4:=I3.block (N:=N) S f2 (λb hb=>let ⟨o,e,_⟩:=T.obj _ _ st b hb;⟨o,e⟩);have kept:∀b o,s2.heap.get? b=some o->(pushCells (s2.heap.push { cls:=.type "dict",data:=.dict #[] }) scope.names).get? b=some o:=λb o e=>pushCells_keeps _ _ b o (a_0 _ e);have st4:tn 0 (pushCells (s2.heap.push { cls:=.type "dict",data:=.dict #[] }) scope.names):=T.keep _ _ _ st λb hb o e=>kept b o e
 have fx:∀{H':Hp},(∀b∈fp,H' b=none)->∀b∈fp,FpOk (bo' X N scope fp s2 (upd H1 D (.lst []))) [] H' b:=λhn b hb=>
  ⟨hn b hb,(I4.ok.exf b hb).1,I4.ok.exfs b hb,.inl hb,(I4.ok.exf b hb).2,λp hp=>absurd (show p∈([]:List (Addr × Obj)) from hp) Z2⟩
 have loop:codeAny (model X.prog X.w) X.A (.compLoop (.ListComp elt [⟨tg,iter,ifs,0⟩] scope pos) 0 (.ref it) (.ref D) (cpEnv scope s2.heap.objs.size X.env)) R
   { s2 with heap:=pushCells (s2.heap.push { cls:=.type "dict",data:=.dict #[] }) scope.names }:=by
  refine codeAny_loop rfl (λn s'=>∃i σ' H',Inv (bo' X N scope fp s2 (upd H1 D (.lst []))) [] σ' H' s'/\tn i s'.heap/\(∀b∈fp,H' b=none)/\W i n σ' H') (λn s' hI=>?_) m0 ⟨0,_,_,I4,st4,λb hb=>(f2 b hb).1,w0⟩;obtain⟨i,σ',H',I5,st5,fr5,w5⟩:=hI;show wpAny _ X.A ((compTurn (.ListComp elt [⟨tg,iter,ifs,0⟩] scope pos) 0 (.ref it) (.ref D) (cpEnv scope s2.heap.objs.size X.env)).onRaise (λx=>do noteFrame x (cpEnv scope s2.heap.objs.size X.env);theTreesLotGoes x)) _ _ s';refine wpAny_noted (c_6 (E:=λ_ _=>False) ?_ (λ_ _ q=>q) λ_ _ q=>q.elim);rw[compTurn_list];refine a__ (wpAny_standAt (a__ ?_));rcases turn i n σ' H' w5 with⟨stop,q⟩|⟨go,Nx,hN,step⟩
  ·refine thn (T.done (bo' X N scope fp s2 (upd H1 D (.lst []))) rfl rfl rfl hc i [] s' σ' H' _ I5 (fx fr5) st5 stop) λr s6 ⟨hr,I6⟩=>?_;subst hr;refine a_4 (hR H' s6 (I3.call' I6.os I6.base I6.hok I6.bare λb hb=>?_) ?_ I6.free q)
   ·exact⟨(f2 b hb).2.2.2.1,(f2 b hb).2.1,(f2 b hb).2.2.2.2.1,(f2 b hb).2.2.2.2.2⟩
   ·obtain⟨m,hm,_⟩:=I6.loc;exact⟨m,hm⟩
  ·refine thn (T.item (bo' X N scope fp s2 (upd H1 D (.lst []))) rfl rfl rfl hc i [] s' σ' H' _ I5 (fx fr5) st5 go) λr s6 ⟨u,hr,h6⟩=>?_;subst hr;refine a__ (thn h6 λ_ s7 ⟨x,H7,I7,r7,y7,st7,fr7⟩=>?_);have I7':=I7.pinned (fx fr7) (T.obj _ _ st7)
   have back:∀{σ8:St} {H8:Hp} {s8:Ab},Inv (bo' X N scope fp s2 (upd H1 D (.lst []))) ([]++d2' fp s7.heap) σ8 H8 s8->Nx σ8 H8->∃m,m<n/\∃i σ' H',Inv (bo' X N scope fp s2 (upd H1 D (.lst []))) [] σ' H' s8/\tn i s8.heap/\(∀b∈fp,H' b=none)/\W i m σ' H':=λ{σ8 H8 s8} I8 n8=>by
    obtain⟨m',hm,w8⟩:=hN σ8 H8 n8;refine⟨m',hm,i+1,σ8,H8,I8.unpinned,T.keep _ _ _ st7 λb hb o e=>(I8.pin (b,o) (aG' _ (aG' _ (cg_ hb e)))).1,λb hb=>?_,w8⟩;obtain⟨o,e,d⟩:=T.obj _ _ st7 b hb;exact (I8.pin (b,o) (aG' _ (aG' _ (cg_ hb e)))).2.1
   refine a__ (thn (hg fp s2 (upd H1 D (.lst [])) _ s7 σ' H7 x u _ I7' r7 (step x H7 y7)) λ_ s8 ⟨σ8,H8,I8,q8⟩=>?_);refine a__ (thn (ht fp s2 (upd H1 D (.lst [])) _ s8 σ8 H8 _ I8 q8) λb s9 ⟨H9,I9,q9⟩=>?_);cases b with
   |false=>
    simp only[Bool.false_eq_true,if_false] at q9 ⊢;exact a_4 ⟨rfl,back I9 q9⟩
   |true=>
    simp only[if_true] at q9 ⊢;refine a__ (a__ (thn (he fp s2 (upd H1 D (.lst [])) _ s9 σ8 H9 _ I9 q9) λy s10 ⟨yv,H10,I10,r10,out,hD,hz,q10⟩=>?_));refine a__ (thn (b9_ (X:=bo' X N scope fp s2 (upd H1 D (.lst []))) _ s10 σ8 H10 (.ref D) [yv] (.ref D) [y] (λ_ H'=>Nx σ8 H') I10 rfl (.cons r10 .nil) ⟨D,out,yv,rfl,rfl,hD,hz,q10⟩) λ_ s11 ⟨_,H11,I11,_,q11⟩=>?_);exact a_4 (a_4 ⟨rfl,back I11 q11⟩)
 exact codeAny_compStart_list loop (T.self _ 0 _ _ _ st4 loop)
variable{wi:TI}
theorem aS_(N:List Str)(own:Nat)(fr:List Nat)(hi:PI X tg iter wi)(hg:∀fp s H,PG (bo' X N scope fp s H) tg g)(ht:∀fp s H,PTs (bo' X N scope fp s H) ifs tc)(he:∀fp s H,PE (bo' X N scope fp s H) elt te)
  (S:dW' X.N X.env.scope N own fr scope=true:=by kernel_rfl) (hc:X.calm=true:=by rfl) (hs:∀x,foldedSetIterable iter X.env x=pure x:=by intro _;rfl) :
  PE X (.ListComp elt [⟨tg,iter,ifs,0⟩] scope pos) (tComp wi own fr g tc te):=by
 intro pins s σ H Q I h;have S':=CpOk.of S;rw[eval_ListComp];have hclos:closureFor scope X.env=pure (bv' X.env scope.names []):=cw_ λx hx e=>I.ok.has x.1 (S'.par x hx e);refine wpAny_comprehension_free (use:=none) rfl hs hclos S'.kind (λx hx e=>by rw[S'.look x hx,e]) (thn (hi pins s σ H _ I h) λv s1 h1=>thn h1 λitv s2 h2=>?_);obtain⟨it,fp,tn,J,H1,rfl,I2,T,st2,f2,k⟩:=h2;refine wpAny_newObj_type (du_ ?_);have hD:H1 s2.heap.objs.size=none:=I2.fresh;have I3:=I2.lnew (ys:=[]) (its:=[]) (t':=s2.toks) .nil (aN' _);have kept:∀b o,s2.heap.get? b=some o->(s2.heap.push { cls:=.type "list",data:=.seq ([]:List Aa).toArray }).get? b=some o:=λb o e=>a_0 _ e;refine i0_ (own:=own) (fr:=fr) (Q:=Q) S' hc hg ht he I3 T (T.keep _ _ _ st2 λb hb o e=>kept b o e) (λb hb=>?_) (k _ hD) ?_
 ·refine⟨?_,(f2 b hb).2⟩;obtain⟨o,e,_⟩:=T.obj _ _ st2 b hb;rw[a8_ (av' (a_6 e))];exact (f2 b hb).1
 ·rintro H' s' I' ⟨m,hm⟩ hn q;refine⟨m,hm,λh' hs'=>⟨.ref s2.heap.objs.size,H',?_,rfl,q⟩⟩
  exact I'.turned (t':=s'.toks) (λb o hb e=>hs'.extBut b o hb e) hn (a4' I3.lt) (.inr I3.sz) (λx c hcx e=>by
   obtain⟨v,hv⟩:=I3.cell x c hcx
   exact absurd hv.lt (by rw[e];exact a3' _)) λp hp e=>by
    have:=(I3.pin p hp).1;rw[e] at this;exact absurd (a_6 this) (a3' _)
def tAsgC(i:Nat)(te:TE):TS:=λD σ H=>te σ H λx H1=>D.nx (σ.set i (some x)) H1
theorem bP_{i:Nat}{x:Str}{px:Pos}(N:List Str)(own:Nat)(fr:List Nat)(hN:X.N.Nodup)(hi':X.N[i]? = some x)(hx:Loc X.env.scope x)
  (hi:PI X tg iter wi) (hg:∀fp s H,PG (bo' X N scope fp s H) tg g) (ht:∀fp s H,PTs (bo' X N scope fp s H) ifs tc) (he:∀fp s H,PE (bo' X N scope fp s H) elt te) {pos':Pos}
  (S:dW' X.N X.env.scope N own fr scope=true:=by kernel_rfl) (hc:X.calm=true:=by rfl) (hs:∀x,foldedSetIterable iter X.env x=pure x:=by intro _;rfl)
  (hf:X.fn x=true∨X.env.scope.names.lookup x=some .local:=by first|exact .inl rfl|exact .inr rfl|assumption)
  (hsw:swapsWith (.ListComp elt [⟨tg,iter,ifs,0⟩] scope pos) (some (.Name x px)) pos'.line X.env=pure true:=by rfl) :
  PS X (.Assign [.Name x px] (.ListComp elt [⟨tg,iter,ifs,0⟩] scope pos) pos') (tAsgC i (tComp wi own fr g tc te)):=by
 intro pins s σ H E I h;have S':=CpOk.of S;rw[exec_Assign_Name_used _ _ _ _ hsw];refine a__ (wpAny_standAt (a__ ?_));show wpAny _ X.A (do let _ <- comprehension (.ListComp elt [⟨tg,iter,ifs,0⟩] scope pos) scope X.env _ (newList []) false (eval iter X.env) (some (assign (.Name x px) X.env))) _ _ s;have hclos:closureFor scope X.env=pure (bv' X.env scope.names []):=cw_ λx hx e=>I.ok.has x.1 (S'.par x hx e)
 refine a__ (c_6 (wpAny_comprehension_free (use:=some (assign (.Name x px) X.env)) (Q:=λ_ s'=>SP X pins E .next s') rfl hs hclos S'.kind (λx hx e=>by rw[S'.look x hx,e]) (thn (hi pins s σ H _ I h) λv s1 h1=>thn h1 λitv s2 h2=>?_))
  (λ_ s' hq=>a_4 (a_4 hq)) λ_ _ e=>e)
 obtain⟨it,fp,tn,J,H1,rfl,I2,T,st2,f2,k⟩:=h2;refine wpAny_newObj_type (du_ ?_);have hD:H1 s2.heap.objs.size=none:=I2.fresh;have I3:=I2.lnew (ys:=[]) (its:=[]) (t':=s2.toks) .nil (aN' _);have kept:∀b o,s2.heap.get? b=some o->(s2.heap.push { cls:=.type "list",data:=.seq ([]:List Aa).toArray }).get? b=some o:=λb o e=>a_0 _ e;refine i0_ (own:=own) (fr:=fr) (Q:=λx H1=>E.nx (σ.set i (some x)) H1) S' hc hg ht he I3 T (T.keep _ _ _ st2 λb hb o e=>kept b o e) (λb hb=>?_) (k _ hD) ?_
 ·refine⟨?_,(f2 b hb).2⟩;obtain⟨o,e,_⟩:=T.obj _ _ st2 b hb;rw[a8_ (av' (a_6 e))];exact (f2 b hb).1
 ·rintro H' s' I' ⟨m,hm⟩ hn q
  have cne:∀y c,X.env.cells.lookup y=some c->c≠(s2.heap.push { cls:=.type "list",data:=.seq ([]:List Aa).toArray }).objs.size:=λy c hcx e=>by
   obtain⟨v,hv⟩:=I3.cell y c hcx;exact absurd hv.lt (by rw[e];exact a3' _)
  show wpAny _ X.A (assign (.Name x px) X.env (.ref s2.heap.objs.size)) _ _ s';refine wpAny_assign_Name (fq_ (v:=V.ref s2.heap.objs.size) I' hN hi' hx rfl (λs'' I'' ⟨a,hs2,ha⟩=>?_) hf)
  have hCa:(s2.heap.push { cls:=.type "list",data:=.seq ([]:List Aa).toArray }).objs.size≠a:=by
   rcases ha with e|e
   ·rw[e];exact a4' I3.lt
   ·exact (cne x a e).symm
  refine⟨m,hm.sameBut hs2 hCa,λh' hs'=>⟨_,H',?_,q⟩⟩
  exact I''.turned (t':=s''.toks) (λb o hb e=>hs'.extBut b o hb e) hn (a4' I3.lt) (.inr I3.sz) cne λp hp e=>by
    have:=(I3.pin p hp).1;rw[e] at this;exact absurd (a_6 this) (a3' _)
def GOk(g:TG)(own:Nat)(fv:List (Option V))(dec:V->Hp->List (Option V)->Prop):Prop:=
 ∀(x:V) (o:List (Option V)) (H:Hp) (k:St->Hp->Prop) (o3:List (Option V)),o.length=own->dec x H o3->k (o3++fv) H->g x (o++fv) H k
variable{fv:List (Option V)}
theorem gok1:GOk (b1' 0) 1 fv (λx _ o3=>o3=[some x]):=λx o H k o3 hl e h=>by
 subst e
 match o,hl with
 |[a],_=>exact h
inductive dec2 (K:F__) (x:V) (H:Hp) (o3:List (Option V)):Prop
 |mk:∀p u v,x=.ref p->SqT K H p [u,v]->o3=[some u,some v]->dec2 K x H o3
inductive dec3 (K:F__) (x:V) (H:Hp) (o3:List (Option V)):Prop
 |mk:∀p u v w,x=.ref p->SqT K H p [u,v,w]->o3=[some u,some v,some w]->dec3 K x H o3
variable{K:F__}
theorem gok2:GOk (gTup K 2 (dh' (b1' 0) (dh' (b1' 1) gNil))) 2 fv (dec2 K):=λx o H k o3 hl e h=>by
 obtain⟨p,u,v,rfl,hp,rfl⟩:=e
 match o,hl with
 |[a,b],_=>exact⟨p,[u,v],rfl,hp,rfl,u,[v],rfl,v,[],rfl,rfl,h⟩
theorem gok3:GOk (gTup K 3 (dh' (b1' 0) (dh' (b1' 1) (dh' (b1' 2) gNil)))) 3 fv (dec3 K):=λx o H k o3 hl e h=>by
 obtain⟨p,u,v,w,rfl,hp,rfl⟩:=e
 match o,hl with
 |[a,b,c],_=>exact⟨p,[u,v,w],rfl,hp,rfl,u,[v,w],rfl,v,[w],rfl,w,[],rfl,rfl,h⟩
variable{H:Hp}{dec:V->Hp->List (Option V)->Prop}{σ0:St}
theorem cT_(hσ:σ0=List.replicate own none++fv)(G:GOk g own fv dec)(n:Nat)(Pv:Nat->List V->Hp->Prop)(h0:Pv 0 [] (upd H D (.lst [])))(hstop:∀out H',Pv n out H'->J.stop n H'/\Q (.ref D) H')(hgo:∀i out H',i<n->Pv i out H'->J.go i H'/\∀x H2,J.yld i H' x H2->∃o3,dec x H2 o3/\o3.length=own/\∀Nx:Hp->Prop,(∀out' H2,Pv (i+1) out' H2->Nx H2)->
   tc (o3++fv) H2 λb H4=>if b=true then te (o3++fv) H4 λy H5=>∃out2,H5 D=some (.lst out2)/\out2.length<sizeLine/\Nx (upd H5 D (.lst (out2++[y]))) else Nx H4) :
  CompW J g tc te σ0 D H Q:=by
 subst hσ;refine⟨λi m σ' H'=>m=n - i/\i<=n/\(∃o:List (Option V),σ'=o++fv/\o.length=own)/\∃out,Pv i out H',⟨n,by simp,aN' _,⟨_,rfl,aZ'⟩,_,h0⟩,?_⟩;rintro i m σ' H' ⟨rfl,hi,⟨o,rfl,ho⟩,out,p⟩;by_cases hlt:i<n
 ·obtain⟨go,k⟩:=hgo i out H' hlt p;refine .inr ⟨go,λσ2 H2=>(∃o:List (Option V),σ2=o++fv/\o.length=own)/\∃out,Pv (i+1) out H2,λσ2 H2 q=>⟨n - (i+1),by omega,rfl,hlt,q⟩,λx H2 y=>?_⟩;obtain⟨o3,d,l3,q⟩:=k x H2 y;exact G x o H2 _ o3 ho d (q (λH2=>(∃o:List (Option V),o3++fv=o++fv/\o.length=own)/\∃out,Pv (i+1) out H2) λout' H2 z=>⟨⟨o3,rfl,l3⟩,out',z⟩)
 ·have e:i=n:=by omega
  subst e;exact .inl (hstop out H' p)
theorem aq_(hσ:σ0=List.replicate own none++fv)(G:GOk g own fv dec)(Pv:Nat->List V->Hp->Prop)(h0:Pv 0 [] (upd H D (.lst [])))(hl:∀i out H',i<=xs.length->Pv i out H'->SqL K H' a xs)(hd:∀out H',Pv xs.length out H'->Q (.ref D) H')(hgo:∀i x out H',xs[i]? = some x->Pv i out H'->∃o3,dec x H' o3/\o3.length=own/\∀Nx:Hp->Prop,(∀out' H2,Pv (i+1) out' H2->Nx H2)->
   tc (o3++fv) H' λb H4=>if b=true then te (o3++fv) H4 λy H5=>∃out2,H5 D=some (.lst out2)/\out2.length<sizeLine/\Nx (upd H5 D (.lst (out2++[y]))) else Nx H4) :
  CompW (Itl K a) g tc te σ0 D H Q:=by
 refine cT_ hσ G xs.length Pv h0 (λout H' p=>⟨⟨xs,hl _ _ _ (ai' _) p,ai' _⟩,hd out H' p⟩) λi out H' hi p=>?_;have q:=hl i out H' (Nat.le_of_lt hi) p;refine⟨⟨xs,xs[i],q,by simp[hi]⟩,λx H2 y=>?_⟩;obtain⟨e,y⟩:=y;subst e;exact hgo i x out _ (y xs q) p
end L2
namespace EvS
open PySem PySem.W PyProof.Rows
def Ok{α:Type}(f:Nat->Nat->Bool)(n:Nat):KasT α->(α->Prop)->Prop
 |.ret a,Q=>Q a
 |.ask i j k,Q=>i<n/\j<n/\Ok f n (k (f i j)) Q
theorem Ok.bind{α β:Type}{f:Nat->Nat->Bool}{n:Nat}{g:α->KasT β}{Q:β->Prop}:∀{t:KasT α} {R:α->Prop},Ok f n t R->(∀a,R a->Ok f n (g a) Q)->Ok f n (t.bind g) Q
 |.ret a,R,h,k=>k a h
 |.ask i j t,R,h,k=>⟨h.1,h.2.1,Ok.bind h.2.2 k⟩
theorem Ok.imp{α:Type}{f:Nat->Nat->Bool}{n:Nat}{Q R:α->Prop}(k:∀a,Q a->R a):∀{t:KasT α},Ok f n t Q->Ok f n t R
 |.ret a,h=>k a h
 |.ask i j t,h=>⟨h.1,h.2.1,Ok.imp k h.2.2⟩
theorem Ok.wp{α:Type}{f:Nat->Nat->Bool}{n:Nat}{cmp:Nat->Nat->(Bool->Ab->Prop)->Ab->Prop}{s:Ab}(hc:∀i j C,i<n->j<n->C (f i j) s->cmp i j C s){Q:α->Prop}{G:α->Ab->Prop}(k:∀a,Q a->G a s) :
  ∀{t:KasT α},Ok f n t Q->t.kasWp cmp G s
 |.ret a,h=>k a h
 |.ask i j t,h=>hc i j _ h.1 h.2.1 (Ok.wp hc k h.2.2)
structure Ord (f:Nat->Nat->Bool):Prop where
 rfl':∀i,f i i=false
 trans:∀{i j k},f j i=false->f k j=false->f k i=false
 tot:∀{i j},f i j=true->f j i=false
variable{p:Array Nat}
variable{i j:Nat}
variable{k:Nat}
variable{n:Nat}
variable{lo:Nat}
variable{nrem:Nat}
section
variable{f:Nat->Nat->Bool}(O:Ord f){N:Nat}
abbrev at'(p:Array Nat)(i:Nat):Nat:=p.getD i 0
def Up(f:Nat->Nat->Bool)(p:Array Nat)(k:Nat):Prop:=∀i j,i<=j->j<k->f (at' p j) (at' p i)=false
def Down(f:Nat->Nat->Bool)(p:Array Nat)(k:Nat):Prop:=∀i j,i<=j->j<k->f (at' p i) (at' p j)=false
def Like(f:Nat->Nat->Bool)(p:Array Nat)(lo k:Nat):Prop:=∀i,lo<=i->i<k->f (at' p i) (at' p (k - 1))=false/\f (at' p (k - 1)) (at' p i)=false
def Good(N:Nat)(p:Array Nat):Prop:=p.Perm (List.range N).toArray
theorem Good.size(h:Good N p):p.size=N:=by
 have:=h.size_eq;simpa using this
theorem Good.lt(h:Good N p)(hN:0<N)(i:Nat):at' p i<N:=by
 unfold at';by_cases hi:i<p.size
 ·have e:p.getD i 0=p[i]:=by simp[Array.getD,hi]
  rw[e];have m:p[i]∈(List.range N).toArray:=h.mem_iff.mp (Array.getElem_mem hi);simpa using m
 ·have e:p.getD i 0=0:=by simp[Array.getD,hi]
  rw[e];exact hN
theorem Good.rev(h:Good N p)(i j:Nat):Good N (kas_rev p i j):=(mirror_perm _ _ _ _).trans h
theorem Good.bub(h:Good N p)(i j:Nat):Good N (bubble p i j):=(bubble_perm _ _ _).trans h
theorem di_{q:Array Nat}(h:p[i]? = q[j]?):at' p i=at' q j:=by
 unfold at';rw[Array.getD_eq_getD_getElem?,Array.getD_eq_getD_getElem?,h]
theorem dn_(hj:j<=p.size)(k:Nat):at' (kas_rev p i j) k=if i<=k/\k<j then at' p (i+j - 1 - k) else at' p k:=by
 have e:=getElem?_mirror_all (i:=i) hj k;unfold kas_rev;split
 ·rename_i c
  rw[b__ c] at e;exact di_ e
 ·rename_i c
  rw[a_5 c] at e;exact di_ e
theorem jQ_{l:Nat}(hk:k<p.size)(hl:l<=k)(i:Nat):at' (bubble p k (k - l)) i=if i=l then at' p k else if l<i/\i<=k then at' p (i - 1) else at' p i:=by
 have e:=getElem?_bubble hk (k - l) Z1 i;rw[show k - (k - l)=l by omega] at e;by_cases c:i=l
 ·rw[b__ c] at e ⊢;exact di_ e
 ·rw[a_5 c] at e ⊢;split
  ·rename_i d
   rw[b__ d] at e;exact di_ e
  ·rename_i d
   rw[a_5 d] at e;exact di_ e
include O
theorem Up.more(h:Up f p n)(h1:1<=n)(c:f (at' p n) (at' p (n - 1))=false):Up f p (n+1):=λi j hij hj=>by
 by_cases e:j<n
 ·exact h i j hij e
 ·have e:j=n:=by omega
  subst e;by_cases e2:i=j
  ·subst e2;exact O.rfl' _
  ·exact O.trans (h i (j - 1) Z1 Z1) c
theorem Down.more(h:Down f p n)(h1:1<=n)(c:f (at' p (n - 1)) (at' p n)=false):Down f p (n+1):=λi j hij hj=>by
 by_cases e:j<n
 ·exact h i j hij e
 ·have e:j=n:=by omega
  subst e;by_cases e2:i=j
  ·subst e2;exact O.rfl' _
  ·exact O.trans c (h i (j - 1) Z1 Z1)
theorem hT_{p:Array Nat}(g:Good N p)(hN:0<N):∀(m n:Nat),1<=n->Up f p n->Ok f N (kas_asc p m n) λr=>n<=r/\r<=n+m/\Up f p r/\(r<n+m->f (at' p r) (at' p (r - 1))=true)
 |0,n,_,h=>⟨ai' _,ai' _,h,λq=>absurd q Z1⟩
 |m+1,n,h1,h=>by
  refine⟨g.lt hN _,g.lt hN _,?_⟩;dsimp only;by_cases c:f (at' p n) (at' p (n - 1))=true
  ·rw[b__ c];exact⟨ai' _,by omega,h,λ_=>c⟩
  ·rw[a_5 c];refine (hT_ g hN m (n+1) Z1 (h.more O h1 (by simpa using c))).imp λr ⟨a,b,u,z⟩=>⟨by omega,by omega,u,λq=>z Z1⟩
theorem Like.rev(h:Like f p lo k)(hk:k<=p.size)(i:Nat):f (at' (kas_rev p lo k) i) (at' p i)=false/\f (at' p i) (at' (kas_rev p lo k) i)=false:=by
 rw[dn_ hk];split
 ·rename_i c
  obtain⟨a1,a2⟩:=h i c.1 c.2;obtain⟨b1,b2⟩:=h (lo+k - 1 - i) Z1 Z1;exact⟨O.trans a2 b1,O.trans b2 a1⟩
 ·exact⟨O.rfl' _,O.rfl' _⟩
theorem Down.rev(h:Down f p n)(l:Like f p lo k)(hk:k<=p.size):Down f (kas_rev p lo k) n:=λi j hij hj=>by
 obtain⟨a1,_⟩:=l.rev O hk i;obtain⟨_,b2⟩:=l.rev O hk j;exact O.trans (O.trans b2 (h i j hij hj)) a1
theorem eD_(hN:0<N):∀(m:Nat) (p:Array Nat) (n q:Nat),Good N p->1<=n->q+1<=n->n+m<=N->Down f p n->Like f p (n - (q+1)) n->
  Ok f N (kas_desc m p n q) λr=>Good N r.1/\n<=r.2.1/\r.2.1<=n+m/\Down f r.1 r.2.1/\r.2.2+1<=r.2.1/\Like f r.1 (r.2.1 - (r.2.2+1)) r.2.1
 |0,p,n,q,g,h1,hq,hn,d,l=>⟨g,ai' _,ai' _,d,hq,l⟩
 |m+1,p,n,q,g,h1,hq,hn,d,l=>by
  refine⟨g.lt hN _,g.lt hN _,?_⟩;dsimp only;by_cases c:f (at' p n) (at' p (n - 1))=true
  ·rw[b__ c];have d2:Down f p (n+1):=d.more O h1 (O.tot c)
   have one:∀p':Array Nat,Like f p' (n+1 - (0+1)) (n+1):=λp' i h2 h3=>by
    have e:i=n+1 - 1:=by omega
    subst e;exact⟨O.rfl' _,O.rfl' _⟩
   by_cases hq0:q > 0
   ·rw[b__ hq0];have hk:n<=p.size:=by rw[g.size];omega
    exact (eD_ hN m _ (n+1) 0 (g.rev _ _) Z1 Z1 Z1 (d2.rev O l hk) (one _)).imp λr ⟨a,b,b2,z⟩=>⟨a,by omega,by omega,z⟩
   ·rw[a_5 hq0];exact (eD_ hN m _ (n+1) 0 g Z1 Z1 Z1 d2 (one _)).imp λr ⟨a,b,b2,z⟩=>⟨a,by omega,by omega,z⟩
  ·rw[a_5 c];refine⟨g.lt hN _,g.lt hN _,?_⟩;dsimp only;have c:f (at' p n) (at' p (n - 1))=false:=by simpa using c
   by_cases e:f (at' p (n - 1)) (at' p n)=true
   ·rw[b__ e];exact⟨g,ai' _,by show n<=n+(m+1);omega,d,hq,l⟩
   ·rw[a_5 e];have e:f (at' p (n - 1)) (at' p n)=false:=by simpa using e
    refine (eD_ hN m p (n+1) (q+1) g Z1 Z1 Z1 (d.more O h1 e) λi h2 h3=>?_).imp λr ⟨a,b,b2,z⟩=>⟨a,by omega,by omega,z⟩;show f (at' p i) (at' p n)=false/\f (at' p n) (at' p i)=false;by_cases ei:i=n
    ·subst ei;exact⟨O.rfl' _,O.rfl' _⟩
    ·obtain⟨a1,a2⟩:=l i Z1 Z1;exact⟨O.trans e a1,O.trans a2 c⟩
def eh'(f:Nat->Nat->Bool)(N nrem:Nat)(r:Nat × Array Nat):Prop:=Good N r.2/\1<=r.1/\r.1<=nrem/\Up f r.2 r.1
theorem hg_(hN:0<N)(g:Good N p)(h1:1<=n)(hn:n<=nrem)(hr:nrem<=N)(d:Down f p n):Ok f N (kas_tail3 n nrem p) (eh' f N nrem):=by
 unfold kas_tail3
 have u:Up f (kas_rev p 0 n) n:=λi j hij hj=>by
  rw[dn_ (by rw[g.size];omega),dn_ (by rw[g.size];omega),b__ Z1,b__ Z1];exact d _ _ Z1 Z1
 exact (hT_ O (g.rev _ _) hN (nrem - n) n h1 u).bind λm ⟨a,b,u,_⟩=>⟨g.rev _ _,by show 1<=m;omega,by show m<=nrem;omega,u⟩
theorem ds_(hN:0<N)(g:Good N p)(hn:n+1<=nrem)(hr:nrem<=N)(d:Down f p (n+1)):Ok f N (kas_descPart n nrem p) (eh' f N nrem):=by
 unfold kas_descPart;refine (eD_ O hN (nrem - (n+1)) p (n+1) 0 g Z1 Z1 Z1 d λi h2 h3=>?_).bind λr ⟨g',a,b,d',hq,l⟩=>?_
 ·have e:i=n+1 - 1:=by omega
  subst e;exact⟨O.rfl' _,O.rfl' _⟩
 ·split
  ·exact hg_ O hN (g'.rev _ _) Z1 Z1 hr (d'.rev O l (by rw[g'.size];omega))
  ·exact hg_ O hN g' Z1 Z1 hr d'
theorem jp_(hN:0<N)(g:Good N p)(h1:1<=nrem)(hr:nrem<=N):Ok f N (kas_count nrem p) (eh' f N nrem):=by
 unfold kas_count;refine (hT_ O g hN (nrem - 1) 1 (ai' _) λi j hij hj=>?_).bind λn ⟨a,b,u,st⟩=>?_
 ·have e:i=j:=by omega
  subst e;exact O.rfl' _
 ·by_cases e:(n == nrem)=true
  ·rw[b__ e];exact⟨g,a,by show n<=nrem;omega,u⟩
  ·rw[a_5 e];have e:n≠nrem:=by simpa using e
   have c:=st Z1;by_cases h2:n > 1
   ·rw[b__ h2];refine⟨g.lt hN _,g.lt hN _,?_⟩;dsimp only;by_cases c2:f (at' p 0) (at' p (n - 1))=true
    ·rw[b__ c2];exact⟨g,a,by show n<=nrem;omega,u⟩
    ·rw[a_5 c2];have c2:f (at' p 0) (at' p (n - 1))=false:=by simpa using c2
     refine ds_ O hN (g.rev _ _) Z1 hr λi j hij hj=>?_;by_cases ej:j<n
     ·rw[dn_ (by rw[g.size];omega),dn_ (by rw[g.size];omega),b__ Z1,b__ Z1];exact u _ _ Z1 Z1
     ·have ej:j=n:=by omega
      subst ej;by_cases ei:i=j
      ·subst ei;exact O.rfl' _
      ·rw[dn_ (by rw[g.size];omega),dn_ (by rw[g.size];omega),b__ Z1,a_5 Z1];exact O.trans (O.trans (O.tot c) c2) (u 0 _ Z1 Z1)
   ·rw[a_5 h2];have e1:n=1:=by omega
    subst e1;refine ds_ O hN g Z1 hr λi j hij hj=>?_;by_cases ei:i=j
    ·subst ei;exact O.rfl' _
    ·have q1:i=0:=by omega
     have q2:j=1:=by omega
     subst q1;subst q2;exact O.tot c
theorem ev_(hN:0<N){p:Array Nat}{k:Nat}(g:Good N p)(u:Up f p k):∀(m l r:Nat),r - l<=m->l<=r->r<=k->(∀i,i<l->f (at' p k) (at' p i)=false)->(∀i,r<=i->i<k->f (at' p k) (at' p i)=true)->
  Ok f N (kas_place p k m l r) λx=>x<=k/\(∀i,i<x->f (at' p k) (at' p i)=false)/\∀i,x<=i->i<k->f (at' p k) (at' p i)=true
 |0,l,r,hm,hl,hr,h1,h2=>by
  have e:l=r:=by omega
  subst e;exact⟨hr,h1,h2⟩
 |m+1,l,r,hm,hl,hr,h1,h2=>by
  unfold kas_place;by_cases e:l ≥ r
  ·rw[b__ e];have e:l=r:=by omega
   subst e;exact⟨hr,h1,h2⟩
  ·rw[a_5 e];refine⟨g.lt hN _,g.lt hN _,?_⟩;dsimp only;by_cases c:f (at' p k) (at' p ((l+r) / 2))=true
   ·rw[b__ c];refine ev_ hN g u m l _ Z1 Z1 Z1 h1 λi h3 h4=>?_;by_cases ei:f (at' p k) (at' p i)=true
    ·exact ei
    ·have ei:f (at' p k) (at' p i)=false:=by simpa using ei
     have:=O.trans (u _ i h3 h4) ei;rw[c] at this;cases this
   ·rw[a_5 c];have c:f (at' p k) (at' p ((l+r) / 2))=false:=by simpa using c
    exact ev_ hN g u m _ r Z1 Z1 hr (λi h3=>O.trans (u i _ Z1 Z1) c) h2
theorem jL_(hN:0<N):∀(m:Nat) (p:Array Nat) (k:Nat),Good N p->k+m=N->Up f p k->Ok f N (kas_bin m p k) λr=>Good N r/\Up f r N
 |0,p,k,g,e,u=>by
  have e:k=N:=by omega
  subst e;exact⟨g,u⟩
 |m+1,p,k,g,e,u=>by
  unfold kas_bin;refine (ev_ O hN g u k 0 k Z1 Z1 (ai' _) (λi h=>absurd h Z1) λi h1 h2=>absurd h2 Z1).bind λl ⟨hl,h1,h2⟩=>?_;have hk:k<p.size:=by rw[g.size];omega
  refine jL_ hN m _ (k+1) (g.bub _ _) Z1 λi j hij hj=>?_;rw[jQ_ hk hl,jQ_ hk hl];by_cases ej:j=l
  ·rw[b__ ej];by_cases ei:i=l
   ·rw[b__ ei];exact O.rfl' _
   ·rw[a_5 ei,a_5 Z1];exact h1 i Z1
  ·rw[a_5 ej];by_cases ej2:l<j/\j<=k
   ·rw[b__ ej2];by_cases ei:i=l
    ·rw[b__ ei];exact O.tot (h2 (j - 1) Z1 Z1)
    ·rw[a_5 ei];by_cases ei2:l<i/\i<=k
     ·rw[b__ ei2];exact u _ _ Z1 Z1
     ·rw[a_5 ei2];exact u _ _ Z1 Z1
   ·rw[a_5 ej2];rw[a_5 (show ¬i=l by omega),a_5 (show ¬(l<i/\i<=k) by omega)];exact u _ _ Z1 Z1
theorem kA_(hN:0<N):Ok f N (kas_sort N) λp=>Good N p/\Up f p N:=by
 unfold kas_sort;refine (jp_ O hN (p:=(List.range N).toArray) (Array.Perm.refl _) hN (ai' _)).bind λr ⟨g,h1,h2,u⟩=>?_;split
 ·rename_i c
  rw[show max r.1 1=r.1 by omega];exact jL_ O hN _ _ _ g Z1 u
 ·rename_i c
  have e:r.1=N:=by omega
  exact⟨g,e▸u⟩
end
def Asks(prog:Ad)(w:Af)(A:Ag)(f:Nat->Nat->Bool)(vs:List Aa)(s:Ab):Prop:=
 ∃κ,(∀Q:SortKind->Ab->Prop,Q κ s->wpAny (model prog w) A (keyKind' vs.toArray) Q (λ_ _=>False) s)/\∀i j C,i<vs.length->j<vs.length->C (f i j) s->kas_ask prog w A κ vs i j C s
def c3'(a:Addr)(h h':Heap):Prop:=∀b o,b≠a->h.get? b=some o->h'.get? b=some o
def cN'(p:Array Nat)(vs:List Aa):List Aa:=p.toList.map λi=>vs.getD i Value.none
theorem fP_(vs:List Aa):cN' (List.range vs.length).toArray vs=vs:=by
 unfold cN';apply List.ext_getElem?;intro i;simp only[az'];by_cases h:i<vs.length
 ·simp[h]
 ·simp[Nat.le_of_not_lt h]
variable{f:Nat->Nat->Bool}{prog:Ad}{w:Af}{A:Ag}{E:Aa->Ab->Prop}{s:Ab}
theorem iW_{a:Addr}{vs:List Aa}{P:Fin->Ab->Prop}(O:Ord f)(ho:s.heap.get? a=some (seqObj "list" vs.toArray n))(h64:vs.length<64)(hask:2<=vs.length->∀h',c3' a s.heap h'->Asks prog w A f vs { s with heap:=h' })(h:∀(p:Array Nat) (h':Heap) (e:Nat),Good vs.length p->Up f p vs.length->h'.get? a=some (seqObj "list" (cN' p vs).toArray e)->c3' a s.heap h'->P (.done (.ret .none)) { s with heap:=h' }) :
  wpAny (model prog w) A (Builtin.«list.sort» ⟨[.ref a],[]⟩) P E s:=by
 have haz:a<s.heap.objs.size:=a_6 ho;obtain⟨e1,ho1⟩:∃e1,(s.heap.update a (Obj.mapSeq λ_=>(#[]:Array Aa))).get? a=some (seqObj "list" #[] e1):=⟨_,get?_update_seq ho (λ_=>#[])⟩
 have l64:vs.length<=sizeLine:=by
  have:=a_9;omega
 rw[list_sort_plain];refine a__ (listItems_at ho rfl (a__ (listUpdate_at ho rfl (a__ (seqEpoch_at ho1 rfl (a__ (wpAny_newTuple (a__ (wpAny_newList (c_4 ?_) (aN' _))) l64)))) (by simpa using l64) (aN' _))))
 have keep:∀g:Array Aa->Array Aa,c3' a s.heap ((((s.heap.update a (Obj.mapSeq λ_=>(#[]:Array Aa))).push (seqObj "tuple" vs.toArray 0)).push (seqObj "list" #[] 0)).update a (Obj.mapSeq g)):=λg b o hb e=>by
  refine (b_5 _ _ (Ne.symm hb)).trans (a_0 _ (a_0 _ ?_));exact (b_5 _ _ (Ne.symm hb)).trans e
 have keep0:c3' a s.heap (((s.heap.update a (Obj.mapSeq λ_=>(#[]:Array Aa))).push (seqObj "tuple" vs.toArray 0)).push (seqObj "list" #[] 0)):=λb o hb e=>
  a_0 _ (a_0 _ ((b_5 _ _ (Ne.symm hb)).trans e))
 have hoB:(((s.heap.update a (Obj.mapSeq λ_=>(#[]:Array Aa))).push (seqObj "tuple" vs.toArray 0)).push (seqObj "list" #[] 0)).get? a=some (seqObj "list" #[] e1):=a_0 _ (a_0 _ ho1);show wpAny (model prog w) A _ P E { s with heap:=((s.heap.update a (Obj.mapSeq λ_=>(#[]:Array Aa))).push (seqObj "tuple" vs.toArray 0)).push (seqObj "list" #[] 0) };dsimp only;by_cases h2:vs.toArray.size<2
 ·rw[b__ h2,b__ h2];refine a__ (a_4 ?_);rw[StateT.run_pure]
  have eout:((vs.toArray.zip vs.toArray).map λx:Keyed=>x.2)=(cN' (List.range vs.length).toArray vs).toArray:=by
   rw[fP_];apply Array.ext';simp[List.map_snd_zip]
  refine a__ (a_4 (a__ (seqEpoch_at hoB rfl (a__ (listUpdate_at hoB rfl ?_ (aN' _) ?_)))))
  ·simp only[bne_self_eq_false,Bool.false_eq_true,if_false];refine a_4 (h (List.range vs.length).toArray _ _ (Array.Perm.refl _) (λi j hij hj=>?_) ((get?_update_seq hoB _).trans (c_5 (λz=>some (seqObj "list" z _)) eout)) (keep _))
   ·have e:i=j:=by
     simp only[am'] at h2;omega
    subst e;exact O.rfl' _
  ·have e:((vs.toArray.zip vs.toArray).map λx:Keyed=>x.2).size<=sizeLine+1:=by
    simp only[Array.size_map,Array.size_zip,am'];omega
   exact e
 ·rw[a_5 h2,a_5 h2]
  have h2':2<=vs.length:=by
   simp only[am'] at h2;omega
  obtain⟨κ,hk,hc⟩:=hask h2' _ keep0;refine a__ (c_6 (hk (λk s'=>k=κ/\s'=_) ⟨rfl,rfl⟩) (λk s' hks=>?_) λ_ _ x=>x.elim);obtain⟨rfl,rfl⟩:=hks
  refine a__ (c_6 (kat_run (ks:=vs) (vs:=vs) (G:=λp s'=>s'={ s with heap:=((s.heap.update a (Obj.mapSeq λ_=>(#[]:Array Aa))).push (seqObj "tuple" vs.toArray 0)).push (seqObj "list" #[] 0) }/\Good vs.length p/\Up f p vs.length)
   (Q:=λst' s'=>∃p:Array Nat,arrOf st'=p.map (kas_item (vs.toArray.zip vs.toArray))/\failedOf st'=none/\s'={ s with heap:=((s.heap.update a (Obj.mapSeq λ_=>(#[]:Array Aa))).push (seqObj "tuple" vs.toArray 0)).push (seqObj "list" #[] 0) }/\Good vs.length p/\Up f p vs.length)
   rfl h2' h64 (λp st' s' _ q1 q2 q3=>⟨p,q1,q2,q3⟩) (Ok.wp hc (λp q=>⟨rfl,q⟩) (kA_ O Z1))) ?_ λ_ _ x=>x)
  rintro⟨⟨⟩,st'⟩ s' ⟨p,har,hf,hs',g,u⟩;have hs':s'={ s with heap:=((s.heap.update a (Obj.mapSeq λ_=>(#[]:Array Aa))).push (seqObj "tuple" vs.toArray 0)).push (seqObj "list" #[] 0) }:=hs';subst hs'
  have eout:((arrOf st').map λx:Keyed=>x.2)=(cN' p vs).toArray:=by
   rw[har];apply Array.ext';unfold cN';simp only[Array.map_map,Array.toList_map,List.toList_toArray];refine ax' λi _=>?_;show (kas_item (vs.toArray.zip vs.toArray) i).2=_;unfold kas_item;by_cases hi:i<vs.length
   ·simp[Array.getD,hi]
   ·simp[Array.getD,hi,Nat.le_of_not_lt hi]
  have esz:((arrOf st').map λx:Keyed=>x.2).size=vs.length:=by
   rw[eout];unfold cN';simp only[am',aa',aK'];exact g.size
  refine a__ (seqEpoch_at hoB rfl (a__ (listUpdate_at hoB rfl ?_ (aN' _) (by rw[esz];omega))));rw[hf];simp only[bne_self_eq_false,Bool.false_eq_true,if_false];exact a_4 (h p _ _ g u ((get?_update_seq hoB _).trans (c_5 (λz=>some (seqObj "list" z _)) eout)) (keep _))
theorem ea_{x:Aa}{Q:Aa->Ab->Prop}(O:Ord f)(hcol:wpAny (model prog w) A.in1 (collect x) (λvs s1=>vs.length<64/\(2<=vs.length->∀h':Heap,(∀b o,s1.heap.get? b=some o->h'.get? b=some o)->Asks prog w A.in1.in1 f vs { s1 with heap:=h' }) /\
   ∀(p:Array Nat) (h':Heap) (e:Nat),Good vs.length p->Up f p vs.length->h'.get? s1.heap.objs.size=some (seqObj "list" (cN' p vs).toArray e)->(∀b o,s1.heap.get? b=some o->h'.get? b=some o)->Q (.ref s1.heap.objs.size) { s1 with heap:=h' }) E s) :
  wpAny (model prog w) A (call (.builtin "sorted") [x]) Q E s:=by
 refine Calls.call_function_entry kind_sorted plain_sorted entry_sorted (args_sorted1 _) ?_;unfold Builtin.«sorted»;refine a__ (m:=checkCount "sorted" 1 1 _) (a_4 (a__ (c_6 hcol (λvs s1 q=>?_) λ_ _ z=>z)));obtain⟨h64,hask,hQ⟩:=q;refine a__ (wpAny_newList ?_ (by have:=a_9;omega));have hn:(s1.heap.push (seqObj "list" vs.toArray 0)).get? s1.heap.objs.size=some (seqObj "list" vs.toArray 0):=b_0 _ rfl
 have old:∀h',c3' s1.heap.objs.size (s1.heap.push (seqObj "list" vs.toArray 0)) h'->∀b o,s1.heap.get? b=some o->h'.get? b=some o:=λh' k b o e=>
  k b o (av' (a_6 e)) (a_0 _ e)
 refine a__ (c_4 (wpAny_call_entry slot_list_sort ⟨_,hn,rfl⟩ entry_list_sort (iW_ O hn h64 (λh2 h' k=>hask h2 h' (old h' k)) λp h' e g u q k=>⟨_,rfl,?_⟩) (args_list_sort _)));exact a_4 ⟨_,rfl,hQ p h' e g u q (old h' k)⟩
end EvS
namespace L2
open PySem PySem.Spec PyProof.Rows PySem.W EvS
def kLt:Key->Key->Bool
 |.inl i,.inl j=>decide (i<j)
 |.inl _,.inr _=>true
 |.inr _,.inl _=>false
 |.inr x,.inr y=>decide (x.cps.toList<y.cps.toList)
def lexK:List Key->List Key->Bool
 |[],[]=>false
 |[],_::_=>true
 |_::_,[]=>false
 |a::r,b::q=>if a=b then lexK r q else kLt a b
theorem hQ_:∀a:Key,kLt a a=false
 |.inl i=>by simp[kLt]
 |.inr x=>by simp[kLt,List.lt_irrefl]
theorem fs_:∀{a b:Key},kLt a b=true->kLt b a=false
 |.inl i,.inl j,h=>by
  simp only[kLt,b_1,decide_eq_false_iff_not] at *;omega
 |.inl _,.inr _,_=>rfl
 |.inr _,.inl _,h=>by cases h
 |.inr x,.inr y,h=>by
  simp only[kLt,b_1,decide_eq_false_iff_not] at *;exact λq=>List.lt_irrefl _ (List.lt_trans h q)
theorem id_:∀{a b:Key},kLt a b=false->kLt b a=false->a=b
 |.inl i,.inl j,h,h2=>by
  simp only[kLt,decide_eq_false_iff_not] at *;rw[show i=j by omega]
 |.inl _,.inr _,h,_=>by cases h
 |.inr _,.inl _,_,h=>by cases h
 |.inr x,.inr y,h,h2=>by
  simp only[kLt,decide_eq_false_iff_not] at *;rw[ext_toList (List.le_antisymm (List.not_lt.mp h2) (List.not_lt.mp h))]
theorem hH_:∀{a b c:Key},kLt a b=true->kLt b c=true->kLt a c=true
 |.inl i,.inl j,.inl k,h,h2=>by
  simp only[kLt,b_1] at *;omega
 |.inl _,.inl _,.inr _,_,_=>rfl
 |.inl _,.inr _,.inr _,_,_=>rfl
 |.inl _,.inr _,.inl _,_,h=>by cases h
 |.inr _,.inl _,_,h,_=>by cases h
 |.inr _,.inr _,.inl _,_,h=>by cases h
 |.inr x,.inr y,.inr z,h,h2=>by
  simp only[kLt,b_1] at *;exact List.lt_trans h h2
theorem cB_:∀a:List Key,lexK a a=false
 |[]=>rfl
 |a::r=>by
  unfold lexK;rw[b__ rfl];exact cB_ r
theorem cd_:∀{a b:List Key},lexK a b=true->lexK b a=false
 |[],[],h=>by cases h
 |[],_::_,_=>rfl
 |_::_,[],h=>by cases h
 |a::r,b::q,h=>by
  unfold lexK at h ⊢;by_cases e:a=b
  ·rw[b__ e] at h;rw[b__ e.symm];exact cd_ h
  ·rw[a_5 e] at h;rw[a_5 (Ne.symm e)];exact fs_ h
theorem de_:∀{a b:List Key},lexK a b=false->lexK b a=false->a=b
 |[],[],_,_=>rfl
 |[],_::_,h,_=>by cases h
 |_::_,[],_,h=>by cases h
 |a::r,b::q,h,h2=>by
  unfold lexK at h h2;by_cases e:a=b
  ·rw[b__ e] at h;rw[b__ e.symm] at h2;rw[e,de_ h h2]
  ·rw[a_5 e] at h;rw[a_5 (Ne.symm e)] at h2;exact absurd (id_ h h2) e
theorem bB_:∀{a b c:List Key},lexK a b=true->lexK b c=true->lexK a c=true
 |[],_,[],h,h2=>by
  rename_i b
  cases b with
  |nil=>cases h
  |cons _ _=>cases h2
 |[],_,_::_,_,_=>rfl
 |_::_,[],_,h,_=>by cases h
 |_::_,_::_,[],_,h=>by cases h
 |a::r,b::q,c::t,h,h2=>by
  unfold lexK at h h2 ⊢;by_cases e:a=b
  ·subst e;rw[b__ rfl] at h;by_cases e2:a=c
   ·rw[b__ e2] at h2 ⊢;exact bB_ h h2
   ·rw[a_5 e2] at h2 ⊢;exact h2
  ·rw[a_5 e] at h;by_cases e2:b=c
   ·subst e2;rw[a_5 e];exact h
   ·rw[a_5 e2] at h2;have h3:=hH_ h h2;rw[a_5 (λq=>by rw[q,hQ_] at h3;cases h3)];exact h3
theorem e0_{a b c:List Key}(h:lexK b a=false)(h2:lexK c b=false):lexK c a=false:=by
 cases e:lexK c a with
 |false=>rfl
 |true=>
  by_cases e1:lexK a b=true
  ·have:=bB_ e e1;rw[h2] at this;cases this
  ·have e1:lexK a b=false:=by simpa using e1
   have:=de_ e1 h;subst this;rw[h2] at e;cases e
def Asc(ks:List (List Key)):Prop:=ks.Pairwise λa b=>lexK b a=false
theorem c9_:∀{a b:List (List Key)},a.Perm b->Asc a->Asc b->a=b
 |[],b,p,_,_=>by
  have:=p.length_eq;cases b with
  |nil=>rfl
  |cons _ _=>cases this
 |x::r,[],p,_,_=>by
  have:=p.length_eq;cases this
 |x::r,y::q,p,h1,h2=>by
  obtain⟨a1,a2⟩:=List.pairwise_cons.mp h1;obtain⟨b1,b2⟩:=List.pairwise_cons.mp h2
  have e:x=y:=by
   rcases ah'.mp (p.mem_iff.mp ap') with m|m
   ·exact m
   ·rcases ah'.mp (p.mem_iff.mpr ap') with m2|m2
    ·exact m2.symm
    ·exact de_ (b1 _ m) (a1 _ m2)
  subst e;rw[c9_ ((List.perm_cons _).mp p) a2 b2]
def sortKs(ks:List (List Key)):List (List Key):=ks.mergeSort λa b=>!lexK b a
theorem aw_(ks:List (List Key)):(sortKs ks).Perm ks:=List.mergeSort_perm _ _
theorem br_(ks:List (List Key)):Asc (sortKs ks):=by
 have:=List.pairwise_mergeSort (le:=λa b=>!lexK b a) (λa b c h1 h2=>by
  simp only[Bool.not_eq_true'] at *;exact e0_ h1 h2) (λa b=>by
  simp only[Bool.or_eq_true,Bool.not_eq_true'];by_cases e:lexK b a=true
  ·exact .inr (cd_ e)
  ·exact .inl (by simpa using e)) ks
 exact this.imp λh=>by simpa using h
variable{ks:List (List Key)}
theorem dj_{ks':List (List Key)}(p:ks'.Perm ks)(h:Asc ks'):ks'=sortKs ks:=c9_ (p.trans (aw_ ks).symm) h (br_ ks)
variable{p:Array Nat}
theorem c4_{α:Type}{n:Nat}(g:Good n p)(F:Nat->α):(p.toList.map F).Perm ((List.range n).map F):=by
 have e:p.toList.Perm (List.range n):=by
  have:=Array.perm_iff_toList_perm.mp g;simpa using this
 exact e.map F
theorem hu_{f:Nat->Nat->Bool}(hf:∀i j,i<ks.length->j<ks.length->f i j=lexK (ks.getD i []) (ks.getD j []))(g:Good ks.length p)(u:Up f p ks.length):Asc (p.toList.map λi=>ks.getD i []):=by
 unfold Asc;rw[aH',List.pairwise_iff_getElem];intro i j hi hj hij;have hs:=g.size;rw[aK'] at hi hj;have hj':j<ks.length:=by omega
 have q:=u i j (Nat.le_of_lt hij) hj';have hN:0<ks.length:=by omega
 rw[hf _ _ (g.lt hN _) (g.lt hN _)] at q;have e1:at' p i=p.toList[i]:=by simp[at',Array.getD,hi]
 have e2:at' p j=p.toList[j]:=by simp[at',Array.getD,hj]
 rw[e1,e2] at q;exact q
theorem g3_(ks:List (List Key)):Ord λi j=>lexK (ks.getD i []) (ks.getD j []):=⟨λ_=>cB_ _,λh h2=>e0_ h h2,λh=>cd_ h⟩
theorem bC_{α:Type}(d:α)(l:List α):((List.range l.length).map λi=>l.getD i d)=l:=by
 apply List.ext_getElem?;intro i;simp only[az'];by_cases h:i<l.length
 ·simp[h]
 ·simp[Nat.le_of_not_lt h]
variable{ys:List V}{vs:List Aa}
theorem gp_(r:Vals ys vs)(g:Good vs.length p):Vals (p.toList.map λi=>ys.getD i .non) (cN' p vs):=by
 unfold cN'
 have key:∀l:List Nat,(∀i∈l,i<vs.length)->Vals (l.map λi=>ys.getD i .non) (l.map λi=>vs.getD i Value.none):=λl=>by
  induction l with
  |nil=>exact λ_=>.nil
  |cons i l ih=>
   intro h;refine .cons ?_ (ih λj hj=>h j (aj' _ hj));have hi:=h i ap';have hy:i<ys.length:=by rw[r.length];exact hi
   obtain⟨u,hu,ru⟩:=r.get (ad' hy);have e1:ys.getD i .non=ys[i]:=by simp[hy]
   have e2:vs.getD i Value.none=u:=by simp[hu]
   show RelV (ys.getD i .non) (vs.getD i Value.none);rw[e1,e2];exact ru
 refine key p.toList λi hi=>?_;have m:i∈(List.range vs.length).toArray:=g.mem_iff.mp (by simpa using hi);simpa using m
theorem hi_:∀{ss:List Str} {vs:List Aa},Vals (ss.map V.str) vs->StrsAre vs ss
 |[],_,.nil=>.nil
 |x::r,_,.cons h t=>by
  obtain⟨tk,rfl⟩:=h;exact .cons x tk (hi_ t)
def bL'(ss:List Str):List Str:=(sortKs (ss.map λx=>[Sum.inr x])).map λk=>match k with
 |[.inr x]=>x
 |_=>⟨#[]⟩
def keyS(x:Str):List Key:=[Sum.inr x]
variable{prog:Ad}{w:Af}{A:Ag}{s:Ab}
theorem hM_{ss:List Str}(r:StrsAre vs ss)(h2:2<=vs.length):Asks prog w A (λi j=>lexK ((ss.map keyS).getD i []) ((ss.map keyS).getD j [])) vs s:=by
 refine⟨oneType',λQ q=>?_,λi j C hi hj hC=>?_⟩
 ·match vs,h2 with
  |v₁::v₂::t,_=>
   rw[keyKind_strs r];exact a_4 q
 ·unfold kas_ask;rw[keyLt'_oneType]
  have look:∀k,k<vs.length->∃x t,vs.getD k Value.none=.str x t/\(ss.map keyS).getD k []=[Sum.inr x]:=λk hk=>by
   have e:=r.strs;obtain⟨x,t,q⟩:=r.all vs[k] (List.getElem_mem hk);refine⟨x,t,by simp[hk,q],?_⟩
   have hk':k<ss.length:=by
    rw[<- e,aa'];exact hk
   have e2:ss[k]=x:=by
    have e3:(vs.map strOf)[k]? = ss[k]?:=by rw[e]
    rw[az',ad' hk,ad' hk',q] at e3;exact (b_7 e3).symm
   simp[hk',e2,keyS]
  obtain⟨x,t,e1,e2⟩:=look i hi;obtain⟨y,u,e3,e4⟩:=look j hj;rw[e1,e3];dsimp only at hC;rw[e2,e4] at hC;refine oneLt_str ?_;unfold lexK at hC;by_cases e:x=y
  ·subst e;rw[b__ rfl] at hC;have:decide (x.cps.toList<x.cps.toList)=false:=by simp[List.lt_irrefl]
   rw[this];exact hC
  ·rw[a_5 (λq=>e (c_3 q))] at hC;exact hC
def isS:Key->Bool
 |.inl _=>false
 |.inr _=>true
variable{a b:Key}
theorem hG_{E:Aa->Ab->Prop}{c:Bool}{p q:Aa}{Q:Bool->Ab->Prop}(ra:RelV (kV a) p)(rb:RelV (kV b) q)(hk:isS a=isS b)(h:Q (kLt a b) s) :
  wpAny (model prog w) A (oneLt' c p q) Q E s:=by
 cases a with
 |inl i=>
  cases b with
  |inr y=>cases hk
  |inl j=>
   obtain⟨t,rfl⟩:=ra;obtain⟨u,rfl⟩:=rb;cases c with
   |true=>exact oneLt_int h
   |false=>exact kat_one _ _ (lt_int (show PySem.W.BoolBack Q (.bool _) s from h))
 |inr x=>
  cases b with
  |inl j=>cases hk
  |inr y=>
   obtain⟨t,rfl⟩:=ra;obtain⟨u,rfl⟩:=rb;cases c with
   |true=>exact oneLt_str h
   |false=>exact kat_one _ _ (PyProof.Rows.lt_str (show PySem.W.BoolBack Q (.bool _) s from h))
theorem kz_(hk:isS a=isS b):eqV (kV a) (kV b)=decide (a=b):=by
 cases a with
 |inl i=>
  cases b with
  |inr y=>cases hk
  |inl j=>
   show (i == j)=_;by_cases e:i=j
   ·subst e;simp
   ·rw[a_2 (λq=>e (Sum.inl.inj q))];simpa using e
 |inr x=>
  cases b with
  |inl j=>cases hk
  |inr y=>
   show (x == y)=_;by_cases e:x=y
   ·subst e;simp
   ·rw[a_2 (λq=>e (c_3 q))];simpa using e
theorem gz_(a:Key):flatV (kV a)=true:=by cases a<;>rfl
theorem dP_{prog:Ad}{w:Af}{A:Ag}{s:Ab}{Q:Bool->Ab->Prop}:∀{k1 k2:List Key} {us vs:List Aa} (i:Nat),Vals (k1.map kV) us->Vals (k2.map kV) vs->k1.map isS=k2.map isS->Q (lexK k1 k2) s->KatLex prog w A true false Q (us.zip vs) i s
 |[],[],_,_,i,.nil,.nil,_,h=>h
 |[],_::_,_,_,_,_,_,h,_=>by cases h
 |_::_,[],_,_,_,_,_,h,_=>by cases h
 |a::k1,b::k2,u::us,v::vs,i,.cons ra r1,.cons rb r2,hk,h=>by
  obtain⟨e1,e2⟩:=e__ hk;refine kat_cons ?_;refine jY_ ra rb (gz_ a) (gz_ b) prog w _ _ ?_;rw[kz_ e1];unfold lexK at h;by_cases e:a=b
  ·rw[b__ e] at h;rw[a_1 e];exact kat_yes (dP_ (i+1) r1 r2 e2 h)
  ·rw[a_5 e] at h;rw[a_2 e];exact kat_no (hG_ ra rb e1 h)
def a8'(K:F__)(H:Hp):List V->List (List Key)->Prop:=Paired λy k=>∃a,y=V.ref a/\H a=some (.tup (k.map kV))
def Alike(ks:List (List Key))(sh:List Bool):Prop:=sh≠[]/\∀k∈ks,k.map isS=sh
theorem hF_{X:Cx}{pins:List (Addr × Obj)}{σ:St}{H:Hp}{s':Ab}{sh:List Bool}(I:Inv X pins σ H s)(r:Vals ys vs)(t:a8' X.K H ys ks)(al:Alike ks sh)(h2:2<=vs.length)(kp:∀b o,s.heap.get? b=some o->s'.heap.get? b=some o):Asks X.prog X.w A (λi j=>lexK (ks.getD i []) (ks.getD j [])) vs s':=by
 have look:∀k,k<vs.length->∃a its,vs.getD k Value.none=.ref a/\Vals ((ks.getD k []).map kV) its/\IsTup s'.heap a its.toArray/\ks.getD k []∈ks:=λk hk=>by
  have hy:k<ys.length:=by rw[r.length];exact hk
  have hk2:k<ks.length:=by rw[<- a_3 t];exact hy
  obtain⟨u,hu,ru⟩:=r.get (ad' hy)
  have gen:∀{ys:List V} {ks:List (List Key)} (k:Nat) (hy:k<ys.length) (hk2:k<ks.length),a8' X.K H ys ks->∃a,ys[k]=V.ref a/\H a=some (.tup (ks[k].map kV)):=λ{ys ks} k hy hk2 t=>by
   induction t generalizing k with
   |nil=>exact absurd hy Z2
   |cons h t ih=>
    cases k with
    |zero=>exact h
    |succ k=>exact ih k (by simpa using hy) (by simpa using hk2)
  obtain⟨a,e,sq⟩:=gen k hy hk2 t;obtain⟨its,ri,ti,_⟩:=I.tuple (SqT.of sq);rw[e] at ru;cases ru;have e2:ks.getD k []=ks[k]:=by simp[hk2]
  refine⟨a,its,by simp[hu],by rw[e2];exact ri,ti.keeps kp,?_⟩;rw[e2];exact List.getElem_mem hk2
 obtain⟨hne,hal⟩:=al
 obtain⟨c,sh',rfl⟩:∃c sh',sh=c::sh':=by
  cases sh with
  |nil=>exact absurd rfl hne
  |cons c sh'=>exact⟨c,sh',rfl⟩
 refine⟨tuples' true,λQ q=>?_,λi j C hi hj hC=>?_⟩
 ·have firsts:∀l:List Aa,(∀v∈l,∃(a:Addr) (its:List Aa) (k:List Key),v=.ref a/\Vals (k.map kV) its/\IsTup s'.heap a its.toArray/\k.map isS=c::sh')->∃fs,KatTups s'.heap l fs/\fs.length=l.length/\∀v∈fs,Looks (model X.prog X.w) s'.heap (typeOf v) (.type (if c then "str" else "int")):=λl=>by
   induction l with
   |nil=>exact λ_=>⟨[],.nil,rfl,λ_ h=>nomatch h⟩
   |cons v l ih=>
    intro h;obtain⟨fs,h1,h2,h3⟩:=ih λv hv=>h v (aj' _ hv);obtain⟨a,its,k,rfl,rv,⟨o,ho,hc,n,hd⟩,hk⟩:=h v ap'
    match k,its,rv,hk with
    |k0::k,u::its,.cons r0 _,hk=>
     refine⟨u::fs,.cons ho hc hd Z2 h1,by simp[h2],λv hv=>?_⟩;rcases ah'.mp hv with e|hv
     ·subst e;have e0:=(e__ hk).1;cases k0 with
      |inl i=>
       obtain⟨t,rfl⟩:=r0;rw[<- e0];exact .now
      |inr x=>
       obtain⟨t,rfl⟩:=r0;rw[<- e0];exact .now
     ·exact h3 v hv
  obtain⟨fs,h1,h3,h4⟩:=firsts vs λv hv=>by
   obtain⟨k,hk,rfl⟩:=aJ' hv;obtain⟨a,its,e,rv,ti,m⟩:=look k hk;refine⟨a,its,_,?_,rv,ti,hal _ m⟩;rw[<- e];simp[hk]
  refine kat_kind h1 Z1 h4 (by cases c<;>decide) ?_
  have e:((Value.type (if c then "str" else "int")) != Value.type "tuple")=true:=by cases c<;>decide
  rw[e];exact q
 ·unfold kas_ask;obtain⟨a,its,e1,r1,⟨o,ho,_,n,hd⟩,m1⟩:=look i hi;obtain⟨b,its2,e2,r2,⟨o2,ho2,_,n2,hd2⟩,m2⟩:=look j hj;rw[e1,e2];refine kat_lt ho hd ho2 hd2 ?_;have l1:=r1.length;have l2:=r2.length;have l3:=c_5 List.length ((hal _ m1).trans (hal _ m2).symm);simp only[aa'] at l1 l2 l3;rw[show decide (its.toArray.size<its2.toArray.size)=false by simp;omega];exact dP_ 0 r1 r2 ((hal _ m1).trans (hal _ m2).symm) hC
end L2
namespace EvD
open PySem PySem.W PyProof.Rows
def Raw(h:Heap)(d:Addr)(es:Array DictEntry)(ep:Nat):Prop:=∃o,h.get? d=some o/\o.ExactDict/\o.data=.dict es ep
variable{h h':Heap}{d:Addr}{es:Array DictEntry}{ep:Nat}
theorem Raw.stay(x:Raw h d es ep)(k:∀o,h.get? d=some o->h'.get? d=some o):Raw h' d es ep:=let ⟨o,e,r⟩:=x;⟨o,k o e,r⟩
variable{s:Ab}
theorem Raw.ty(x:Raw s.heap d es ep):s.TypeIs (.ref d) "dict":=let ⟨o,e,c,_⟩:=x;⟨o,e,c.1⟩
variable{prog:Ad}{w:Af}{A:Ag}{E:Aa->Ab->Prop}
theorem iR_{Q:Aa->Ab->Prop}(hd:(d == sysModules)=false)(x:Raw s.heap d es ep)(q:Q (.ref s.heap.objs.size) { s with heap:=s.heap.push { cls:=.type "dict_keyiterator",data:=.fields #[.ref d,.int 0 0,.int es.size 0,.int ep 0] } }) :
  wpAny (model prog w) A (pyIter (.ref d)) Q E s:=by
 obtain⟨o,ho,hc,hdat⟩:=id x;refine wpAny_pyIter_slot x.ty F.slot_dict_iter (wpAny_call_entry F.slot_dict_iter x.ty F.entry_dict_iter ?_ (F.args_dict_iter_1 _));unfold Builtin.«dict.__iter__» Builtin.Dict.dictSlotNone;refine a__ (a__ (wpAny_notOrdered_dict x.ty (show wpAny _ _ (pure (Value.ref d)) _ _ s from a_4 (show wpAny _ _ (Builtin.Dict.showsAll d >>= _) _ _ s from ?_))));unfold Builtin.Dict.showsAll;rw[a_5 (by rw[hd];decide)];refine a__ (a_4 (a__ (wpAny_dictEntries ho hdat (a__ (wpAny_dictEpoch ho hdat (a__ (wpAny_newObj_type (a_4 ⟨_,rfl,"dict_keyiterator",_,⟨_,b_0 _ rfl,rfl⟩,F.slot_dict_keyiterator_next.lookup,?_⟩))))))));exact q
variable{Q:Option Aa->Ab->Prop}{it:Addr}{i:Nat}
theorem j5_(hit:s.heap.IsKeyIter it d i es.size ep)(x:Raw s.heap d es ep)(hi:i<es.size)(q:∀h',h'.IsKeyIter it d (i+1) es.size ep->Heap.SameBut it s.heap h'->Q (some es[i].key) { s with heap:=h' }):wpAny (model prog w) A (pyNext (.ref it)) Q E s:=by
 obtain⟨o,ho,hc,hd⟩:=id hit;obtain⟨od,hod,hcd,hdd⟩:=id x;unfold pyNext;refine a__ (wpAny_attempt (wpAny_callSpecial?_slot (name:=Str.ofString "__next__") hit.typeIs F.slot_dict_keyiterator_next (wpAny_call_entry F.slot_dict_keyiterator_next hit.typeIs F.entry_dict_keyiterator_next ?_ (F.args_dict_keyiterator_next_1 _))));refine a__ (a_4 (a__ (a__ ?_)))
 first|refine a__ (wpAny_typeNameOfWhole_keyiter hit.typeIs (a_4 (a__ (wpAny_fieldsOf ho hd ?_))))|refine a__ (wpAny_typeNameOf_keyiter hit.typeIs (a_4 (a__ (wpAny_fieldsOf ho hd ?_))))
 simp only[show Builtin.Dict_items.ownsTuple "dict_keyiterator"=false by decide,Bool.false_eq_true,if_false];refine (show wpAny _ _ (if (Value.ref d == Value.none)=true then _ else _) _ _ s from ?_);rw[a_5 (λz=>by cases z)];refine a__ (a_4 (a__ (wpAny_dictEntries hod hdd ?_)));rw[a_5 Z2];refine a__ (a_4 (a__ (wpAny_dictEpoch hod hdd ?_)));rw[a_5 Z2];refine a_4 ?_;simp only[show ¬((i:Int)<0) from by omega,if_false,Int.toNat_natCast,Array.getElem?_eq_getElem hi];refine a__ ?_
 first|refine a__ (wpAny_typeNameOfWhole_keyiter hit.typeIs (a_4 (a__ (wpAny_isOneOf_keyiter hit.typeIs ?_))))|refine a__ (wpAny_typeNameOf_keyiter hit.typeIs (a_4 (a__ (wpAny_isOneOf_keyiter hit.typeIs ?_))))
 refine (show wpAny _ _ (setField (.ref it) 1 (rawInt ((i:Int)+1)) >>= _) _ _ s from a__ (d_8 ho hd Z2 ?_))
 have turned:(s.heap.update it (Obj.mapFields (·.setIfInBounds 1 (rawInt ((i:Int)+1))))).IsKeyIter it d (i+1) es.size ep:=
  ⟨_,c_2 _ ho (d_1 (d_4 hd _)),(Obj.cls_mapFields ..).trans hc,by rw[d_4 hd];simp[rawInt]⟩
 refine a__ (c_4 (a__ (wpAny_isOneOf_keyiter (s:={ s with heap:=s.heap.update it (Obj.mapFields (·.setIfInBounds 1 (rawInt ((i:Int)+1)))) }) turned.typeIs ?_)));exact (show wpAny _ _ (pure es[i].key) _ _ _ from a_4 (a_4 ⟨_,rfl,a_4 (q _ turned (Heap.SameBut.update ..))⟩))
theorem jB_(hh:A.handled=none)(hit:s.heap.IsKeyIter it d es.size es.size ep)(x:Raw s.heap d es ep)(q:∀h',Heap.ExtBut it s.heap h'->Q none { s with heap:=h' }):wpAny (model prog w) A (pyNext (.ref it)) Q E s:=by
 obtain⟨o,ho,hc,hd⟩:=id hit;obtain⟨od,hod,hcd,hdd⟩:=id x;unfold pyNext;refine a__ (wpAny_attempt (wpAny_callSpecial?_slot (name:=Str.ofString "__next__") hit.typeIs F.slot_dict_keyiterator_next (wpAny_call_entry F.slot_dict_keyiterator_next hit.typeIs F.entry_dict_keyiterator_next ?_ (F.args_dict_keyiterator_next_1 _))));refine a__ (a_4 (a__ (a__ ?_)))
 first|refine a__ (wpAny_typeNameOfWhole_keyiter hit.typeIs (a_4 (a__ (wpAny_fieldsOf ho hd ?_))))|refine a__ (wpAny_typeNameOf_keyiter hit.typeIs (a_4 (a__ (wpAny_fieldsOf ho hd ?_))))
 simp only[show Builtin.Dict_items.ownsTuple "dict_keyiterator"=false by decide,Bool.false_eq_true,if_false];refine (show wpAny _ _ (if (Value.ref d == Value.none)=true then _ else _) _ _ s from ?_);rw[a_5 (λz=>by cases z)];refine a__ (a_4 (a__ (wpAny_dictEntries hod hdd ?_)));rw[a_5 Z2];refine a__ (a_4 (a__ (wpAny_dictEpoch hod hdd ?_)));rw[a_5 Z2];refine a_4 ?_;simp only[show ¬((es.size:Int)<0) from by omega,if_false,Int.toNat_natCast,Array.getElem?_eq_none (ai' _)];refine a__ ?_
 first|refine a__ (wpAny_typeNameOfWhole_keyiter hit.typeIs (a_4 ?g))|refine a__ (wpAny_typeNameOf_keyiter hit.typeIs (a_4 ?g))
 refine (show wpAny _ _ (setField (.ref it) 0 .none >>= _) _ _ s from a__ (d_8 ho hd Z2 (show wpAny _ _ (newExc (.type "StopIteration") [] >>= _) _ _ _ from a__ ?_)));simp only[newExc,newTuple];refine a__ (wpAny_newObj_type (a__ (m:=firstArgMember _ _) (wpAny_of_eq (a:=Value.none) (by first|rfl|(simp only[firstArgMember];rfl)) (wpAny_newObj_type ?_ (by size_fits)))) (by size_fits));simp only[raiseNew];refine a__ (wpAny_handled ?_);rw[show A.in1.handled=none from hh];refine a__ (a_4 (wpAny_throw ?_));exact a__ (wpAny_isInstance (T:="StopIteration") (b:=true) ⟨_,b_0 _ rfl,rfl⟩ isSubtype_stop (a_4 (q _ (((Heap.SameBut.update ..).extBut.push _).push _))))
theorem hD_(hh:A.handled=none)(I d:Addr)(hne:d≠I)(es:Array DictEntry)(ep:Nat) :
  Walks prog w A I [I,d] [I] es.size (λi v=>∃h:i<es.size,v=es[i].key) (λi h=>h.IsKeyIter I d i es.size ep/\Raw h d es ep) where
 sub:=λb hb=>by simp only[List.mem_singleton] at hb;simp[hb]
 frame:=λ_ _ _ st k=>⟨st.1.at λo e=>k I Z2 o e,st.2.stay λo e=>k d Z2 o e⟩
 item:=λi s Q E hi st hQ=>j5_ st.1 st.2 hi λh' hit' hs'=>hQ _ h' s.toks ⟨hi,rfl⟩ ⟨hit',st.2.stay λo e=>hs'.extBut d o hne e⟩ λb o hb e=>hs'.extBut b o (λh=>hb (by simp[h])) e
 done:=λs Q E st hQ=>jB_ hh st.1 st.2 λh' he'=>hQ h' s.toks λb o hb e=>he' b o (λh=>hb (by simp[h])) e
 self:=λ_ _ _ _ st hQ=>wpAny_pyIter_keyiter st.1 hQ
theorem kr_(lo:(d == sysModules)=false):KdlSrc prog w "dict" d d es.size (λi v=>∃h:i<es.size,v=es[i].key) (λh=>Raw h d es ep) where
 type:=λs x=>x.ty
 there:=λh x=>let ⟨o,e,_⟩:=x;⟨a_6 e,a_6 e⟩
 keep:=λh h' x k=>x.stay λo e=>k d (.inl rfl) o e
 notList:=by decide
 notTuple:=by decide
 hint:=λ_ _ s _ x q=>kdl_hint_dict x.ty q
 iter:=λA s hh x=>⟨_,_,λE Q q=>iR_ lo x q,hD_ hh _ d (let ⟨o,e,_⟩:=x;av' (a_6 e)) es ep,⟨⟨_,b_0 _ rfl,rfl,rfl⟩,x.stay λo e=>a_0 _ e⟩⟩
theorem dR_:typeLookup (.type "list") "keys"=pure none:=by rw[typeLookup_type,builtinLookup_eq_fast];kernel_rfl
variable{a:Addr}{xs:Array Aa}{k:Nat}{tk:Tok}{R:Result->Ab->Prop}
theorem iD_(hx:s.heap.get? a=some (seqObj "list" xs k))(h:raisesAttr (.ref a) "keys" A R s) :
  codeAny (model prog w) A (.call (.builtin "list.__getattribute__") ⟨[.ref a,.str "keys" tk],[]⟩) R s:=by
 refine codeAny_call_builtin F.slot_list_getattribute.plain am_entry_list_getattribute (F.slot_list_getattribute.check _ _ _ _ _ _ _ _ ⟨_,hx,rfl⟩ (F.args_list_getattribute_2 _ _) ?_);exact meets_getattribute_miss_list a xs k #[] "keys" tk dR_ (by decide) (by size_fits) prog w A R s ⟨hx,h⟩
theorem noKeys(hx:s.heap.get? a=some (seqObj "list" xs k))(hA:A.handled=none)(h:∀h' tk,(∀b o,s.heap.get? b=some o->h'.get? b=some o)->Q none { s with heap:=h',toks:=tk }):wpAny (model prog w) A (getAttr? (.ref a) "keys") Q E s:=by
 obtain⟨hp,g,d,tk,os⟩:=s;have ty:∀tk',(⟨hp,g,d,tk',os⟩:Ab).TypeIs (.ref a) "list":=λ_=>⟨_,hx,rfl⟩;have f1:=sub_AttributeError;have f2:=F.slot_list_getattribute.lookup;have f3:=F.slot_list_getattribute.bind (.ref a);have f4:=am_list_getattr_none;unfold getAttr? getAttrBy? getAttrBy
 repeat (any_goals (first|assumption|exact ty _|wp_step))
 refine iD_ hx ⟨hA,λh' tk' e hx'=>?_⟩;obtain⟨t',u',he⟩:=hx'.there;show wpAny _ _ (getattributeRaised _ _ _ _ _ _ _) _ _ _;unfold getattributeRaised
 repeat (any_goals (first|assumption|wp_step))
 exact h _ _ hx'.keeps
theorem eS_:entryFor table "dict.update.loop"=some Builtin.«dict.update.loop»:=entryFor_of_tree (by kernel_rfl)
theorem cA_:plainId "dict.update.loop"=true:=by decide +kernel
theorem k0_(d it:Addr)(i:Int)(tk:Tok):Builtin.«dict.update.loop» ⟨[.ref d,.ref it,.int i tk,.none],[]⟩=(do
  let r <- pyNext (.ref it)
  match r with
  |none=>do Builtin.Dict.addKeywords d [];ret .none
  |some item=>do
   holding [item] (do
    let pair <- (Builtin.Dict.pairItems item).tryCatch λe=>do
     if !(<- isInstance e (.type "TypeError")) then throw e
     rule "dict.update.element-no-sequence"
     raiseError "TypeError" s!"cannot convert dictionary update sequence element #{i} to a sequence"
    match pair with
    |[k,v]=>holding [k,v] (dictSet d k v)
    |l=>do
     rule "dict.update.element-length"
     raiseError "ValueError" s!"dictionary update sequence element #{i} has length {l.length}; 2 is required")
   again (.builtin "dict.update.loop" ⟨[.ref d,.ref it,rawInt (i+1),.none],[]⟩)):=by
 unfold Builtin.«dict.update.loop»;refine c_5 (λf=>pyNext (.ref it) >>= f) (funext λr=>?_);cases r<;>rfl
variable{b l:Addr}{ys:Array Aa}
variable{its:List Aa}
section
variable{prog:Ad}{w:Af}{K:Type}[DecidableEq K]{knd:PySem.KeyKind prog w K}{A:Ag}
def en'(knd:PySem.KeyKind prog w K)(h:Heap):List Aa->List (K × Aa)->Prop:=Paired λv p=>∃a key,v=.ref a/\IsTup h a #[key,p.2]/\knd.is p.1 key=true
def mergeP(kvs:List (K × Aa))(ps:List (K × Aa)):List (K × Aa):=ps.foldl (λacc p=>stored acc p.1 p.2) kvs
theorem gM_(kvs:List (K × Aa))(k:K)(v:Aa):(stored kvs k v).length<=kvs.length+1:=by
 unfold stored;split
 ·simp
 ·simp
theorem dl_(t:IsTup h b ys)(q:h.IsListIter it l i):b≠it:=λz=>by
 obtain⟨o,ho,hc,_⟩:=t;obtain⟨o2,ho2,hc2,_⟩:=q;subst z;rw[ho] at ho2;cases ho2;rw[hc] at hc2;exact absurd hc2 (by decide)
theorem fX_{kvs:List (K × Aa)}(t:IsTup h b ys)(q:h.DictOf knd d kvs):b≠d:=λz=>by
 obtain⟨o,ho,hc,_⟩:=t;obtain⟨o2,es,ep,ho2,hc2,_⟩:=q;subst z;rw[ho] at ho2;cases ho2;have hc3:=hc2.1;rw[hc] at hc3;exact absurd hc3 (by decide)
theorem fb_{kvs:List (K × Aa)}(q:h.DictOf knd d kvs)(k:∀o,h.get? d=some o->h'.get? d=some o):h'.DictOf knd d kvs:=by
 obtain⟨o,es,ep,ho,r⟩:=q;exact⟨o,es,ep,k _ ho,r⟩
theorem iO_{key x:Aa}{k:K}{kvs:List (K × Aa)}(hdi:d≠it)(hi:its.toArray[i]? = some (.ref a))(ht:IsTup s.heap a #[key,x])(hk:knd.is k key=true)(hit:s.heap.IsListIter it l i)(hl:s.heap.IsList l its.toArray)(hd:s.heap.DictOf knd d kvs)(hz:kvs.length<=1000)(hR:∀h2,h2.DictOf knd d (stored kvs k x)->(∀b o,b≠d->b≠it->s.heap.get? b=some o->h2.get? b=some o)->h2.IsListIter it l (i+1)->codeAny (model prog w) A (.builtin "dict.update.loop" ⟨[.ref d,.ref it,rawInt ((i:Int)+1),.none],[]⟩) R { s with heap:=h2,toks:=s.toks+1 }) :
  codeAny (model prog w) A (.builtin "dict.update.loop" ⟨[.ref d,.ref it,.int i tk,.none],[]⟩) R s:=by
 refine codeAny_builtin eS_ ?_;rw[Around.under_plainId cA_ _,k0_];refine a__ (wpAny_pyNext_list_item hit hl hi λh1 hit1 hs1=>?_);obtain⟨ot,hot,hct,nt,hdt⟩:=id ht;have hot1:h1.get? a=some ot:=hs1.extBut _ _ (dl_ ht hit) hot;refine a__ (c_4 (a__ (wpAny_tryCatch ?_)));unfold Builtin.Dict.pairItems;refine a__ (wpAny_typeOf (T:="tuple") ⟨ot,hot1,hct⟩ ?_);rw[b__ (by decide)];unfold seqItems?;refine a__ (a__ (wpAny_load hot1 ?_));rw[hdt];refine a_4 (a_4 ?_);refine (show wpAny _ _ (holding [key,x] (dictSet d key x)) _ _ _ from c_4 (wpAny_dictSet_pairs hk (fb_ hd λo q=>hs1.extBut _ _ hdi q) (λh2 hd2 hs2=>?_) (by have:=a_9;omega)));exact a_4 ⟨plainId_quiet cA_ _,hR h2 hd2 (λb o h3 h4 q=>hs2.extBut _ _ h3 (hs1.extBut _ _ h4 q)) (hit1.extBut hs2.extBut (Ne.symm hdi))⟩
theorem kh_{kvs:List (K × Aa)}(hdi:d≠it)(hh:A.handled=none)(hi:its.toArray[i]? = none)(hit:s.heap.IsListIter it l i)(hl:s.heap.IsList l its.toArray)(hd:s.heap.DictOf knd d kvs)(hR:∀h',h'.DictOf knd d kvs->(∀b o,b≠it->s.heap.get? b=some o->h'.get? b=some o)->R (.ok (.ret .none)) { s with heap:=h' }) :
  codeAny (model prog w) A (.builtin "dict.update.loop" ⟨[.ref d,.ref it,.int i tk,.none],[]⟩) R s:=by
 refine codeAny_builtin eS_ ?_;rw[Around.under_plainId cA_ _,k0_];refine a__ (wpAny_pyNext_list_end hh hit hl hi λh' he=>?_);exact a__ (m:=Builtin.Dict.addKeywords d []) (a_4 (a_4 (hR h' (fb_ hd λo q=>he _ _ hdi q) λb o hb q=>he b o hb q)))
theorem kX_(hil:l≠it)(hdi:d≠it)(hdl:d≠l)(hh:A.handled=none)(rest:List Aa):∀(ps:List (K × Aa)) (i:Nat) (kvs:List (K × Aa)) (s:Ab) (R:Result->Ab->Prop) (tk:Tok),its.drop i=rest->en' knd s.heap rest ps->
  s.heap.IsListIter it l i->s.heap.IsList l its.toArray->s.heap.DictOf knd d kvs->kvs.length+ps.length<=1000->
  (∀h' tk',h'.DictOf knd d (mergeP kvs ps)->(∀b o,b≠d->b≠it->s.heap.get? b=some o->h'.get? b=some o)->R (.ok (.ret .none)) { s with heap:=h',toks:=tk' })->
  codeAny (model prog w) A (.builtin "dict.update.loop" ⟨[.ref d,.ref it,.int i tk,.none],[]⟩) R s:=by
 induction rest with
 |nil=>
  intro ps i kvs s R tk e hp hit hl hd hz hR;cases hp
  have hi:its.toArray[i]? = none:=by
   have:=c_5 List.length e;simp only[a0',a2'] at this;simp;omega
  exact kh_ hdi hh hi hit hl hd λh' hd' kp=>hR h' s.toks hd' λb o _ hb q=>kp b o hb q
 |cons v rest ih=>
  intro ps i kvs s R tk e hp hit hl hd hz hR;cases hp with
  |@cons _ p _ ps h0 hr=>
  obtain⟨a,key,hv,ht,hk⟩:=h0;obtain⟨k,x⟩:=p;subst hv
  have hi:its.toArray[i]? = some (.ref a):=by
   have q:(its.drop i)[0]? = some (.ref a):=by rw[e];rfl
   rw[List.getElem?_drop] at q;simpa using q
  have e':its.drop (i+1)=rest:=by
   rw[<- List.drop_drop,e];rfl
  simp only[aC'] at hz;refine iO_ hdi hi ht hk hit hl hd Z1 λh2 hd2 kp hit2=>?_;have c1:((i:Int)+1)=((i+1:Nat):Int):=by omega
  rw[c1];refine ih ps (i+1) (stored kvs k x) _ R 0 e' (L2.Paired.mapP hr λv p ⟨b,ky,e1,t1,k1⟩=>⟨b,ky,e1,?_,k1⟩) hit2 (hl.at λo q=>kp _ _ (Ne.symm hdl) hil q) hd2 (by have:=gM_ kvs k x;omega) λh' tk' hd' kp'=>hR h' tk' hd' λb o h3 h4 q=>kp' b o h3 h4 (kp b o h3 h4 q);obtain⟨o,ho,r⟩:=id t1;exact⟨o,kp _ _ (fX_ t1 hd) (dl_ t1 hit) ho,r⟩
theorem fm_{n:Nat}{ps:List (K × Aa)}{Q:Aa->Ab->Prop}(hh:A.handled=none)(ho:s.heap.get? l=some (seqObj "list" its.toArray n))(hp:en' knd s.heap its ps)(hz:ps.length<=1000)(h:∀h' tk',h'.DictOf knd s.heap.objs.size (mergeP [] ps)->(∀b o,s.heap.get? b=some o->h'.get? b=some o)->Q (.ref s.heap.objs.size) { s with heap:=h',toks:=tk' }) :
  wpAny (model prog w) A (call (.type "dict") [.ref l]) Q E s:=by
 refine callType_codes (Q₁:=λobj s₁=>obj=.ref s.heap.objs.size/\s₁={ s with heap:=s.heap.push { cls:=.type "dict",data:=.dict #[] } }) F.kt_called_dict (F.kt_typeCall_dict_1 _) F.entry_dict_init (kt_code_dict_new _ ⟨rfl,rfl⟩) ?_;rintro obj s₁ ⟨rfl,rfl⟩;have hnew:(s.heap.push { cls:=.type "dict",data:=.dict #[] }).DictOf knd s.heap.objs.size []:=Heap.DictOf.new s.heap;have hl1:(s.heap.push { cls:=.type "dict",data:=.dict #[] }).get? l=some (seqObj "list" its.toArray n):=a_0 _ ho;refine⟨hnew.typeIs,F.args_dict_init_2 _ _,?_⟩;unfold Builtin.«dict.__init__» Builtin.Dict.selfAndRest;refine a__ (a__ (wpAny_notOrdered_dict hnew.typeIs ?_));refine (show wpAny _ _ (pure (s.heap.objs.size,[Value.ref l])) _ _ _ from a_4 ?_);refine (show wpAny _ _ (Builtin.Dict.updateFrom "dict.__init__" s.heap.objs.size (.ref l) [] .none) _ _ _ from ?_);unfold Builtin.Dict.updateFrom;refine a__ (wpAny_typeOf (T:="list") ⟨_,hl1,rfl⟩ ?_);rw[b__ (by decide)];refine a__ (noKeys hl1 hh λh2 tk2 k2=>?_);simp only[Option.isNone_none,if_true];have hl2:h2.get? l=some (seqObj "list" its.toArray n):=k2 _ _ hl1;refine a__ (wpAny_rule (a__ (wpAny_pyIter_list ⟨_,hl2,rfl,_,rfl⟩ ?_)));refine a_4 ⟨plainId_quiet cA_ _,?_⟩;have all:∀{b o},s.heap.get? b=some o->(h2.push { cls:=.type "list_iterator",data:=.fields #[.ref l,.int 0 0] }).get? b=some o:=λq=>a_0 _ (k2 _ _ (a_0 _ q))
 have hd2:h2.DictOf knd s.heap.objs.size []:=by
  obtain⟨o,es,ep,ho,r⟩:=hnew;exact⟨o,es,ep,k2 _ _ ho,r⟩
 have sz2:s.heap.objs.size<h2.objs.size:=by
  obtain⟨o,es,ep,ho,r⟩:=hd2;exact a_6 ho
 have lz:l<s.heap.objs.size:=a_6 ho
 refine kX_ (A:=A.in1) (knd:=knd) (its:=its) (it:=h2.objs.size) (l:=l) (d:=s.heap.objs.size) (av' (Nat.lt_trans lz sz2)) (av' sz2) (a4' lz) hh its ps 0 [] _ _ 0 rfl (L2.Paired.mapP hp λv p ⟨b,ky,e1,t1,k1⟩=>⟨b,ky,e1,t1.keeps λb o q=>all q,k1⟩)
  ⟨_,b_0 _ rfl,rfl,rfl⟩ ⟨_,a_0 _ hl2,rfl,_,rfl⟩ (by
   obtain⟨o,es,ep,ho,r⟩:=hd2;exact⟨o,es,ep,a_0 _ ho,r⟩) (by simpa using hz) λh' tk' hd' kp=>⟨rfl,h h' tk' hd' λb o q=>?_⟩
 have bl:b<s.heap.objs.size:=a_6 q;exact kp b o (av' bl) (av' (Nat.lt_trans bl sz2)) (all q)
end
end EvD
namespace L2
open PySem PySem.Spec PyProof.Rows PySem.W EvS EvD
variable{ys:List V}
theorem a8'.same{K:F__}{H H':Hp}{ks:List (List Key)}(t:a8' K H ys ks)(e:Same H H'):a8' K H' ys ks:=Paired.mapP t λy k ⟨a,z,q⟩=>⟨a,z,e _ _ q⟩
theorem Same.new{H:Hp}{l:Addr}{o:HO}(h:H l=none):Same H (upd H l o):=λb u e=>by rw[a8_ (a9_ e h)];exact e
section
variable{X:Cx}{pins:List (Addr × Obj)}{σ:St}{H H':Hp}{s:Ab}{h':Heap}{t':Nat}
theorem Inv.many(I:Inv X pins σ H s)(k:∀b o,s.heap.get? b=some o->h'.get? b=some o)(hold:Same H H')(hnew:∀b,H b=none->b<s.heap.objs.size->H' b=none)
  (hob:∀b o,H' b=some o->H b=none->∃xs its,o=.tup xs/\xs.length<=sizeLine/\Vals xs its/\IsTup h' b its.toArray/\∃o,h'.get? b=some o/\o.dict=none):Inv X pins σ H' { s with heap:=h',toks:=t' }:=by
 refine I.un ⟨λb o q _ _ _=>k b o q,λb o q _ _ _=>⟨o.slots,k b o q⟩,λb o q n _=>hnew b n (a_6 q),λb o q _=>⟨o,k b o q⟩,λb xs q=>hold b _ q,λb o u q=>hold b _ q,λb ps q=>⟨#[],by rw[Array.append_empty];exact hold b _ q⟩⟩ λb o q=>?_;cases e:H b with
 |some u=>
  have e2:=hold b u e;rw[q] at e2;cases e2;exact (I.hok b o e).stay (λc v _ z=>k c v z) (λc z=>hold c _ z) λc xs z=>hold c _ z
 |none=>
  obtain⟨xs,its,rfl,z,r,t⟩:=hob b o q e;exact⟨z,its,r,t⟩
end
variable{R:List Aa->Ab->Prop}
section
variable{X:Cx}{pins:List (Addr × Obj)}{σ:St}{H:Hp}{s:Ab}{A:Ag}{E:Aa->Ab->Prop}
theorem gt_{p:Addr}(I:Inv X pins σ H s)(h:SqL X.K H p ys)(hz:ys.length<=100000)(q:∀vs s1,Inv X pins σ H s1->Vals ys vs->R vs s1):wpAny (model X.prog X.w) A (collect (.ref p)) R E s:=by
 obtain⟨its,r,pl,_⟩:=I.list h;have hl:=r.length;refine collect_list pl.isList (q its _ ?_ r) (by have:=a_9;omega);refine I.kept (t':=s.toks) λb u e=>?_;have lt:b<s.heap.objs.size:=a_6 e;rw[Heap.get?_update_ne _ _ _ _ (av' lt)];exact a_0 _ e
theorem cX_{P:Nat->Aa->Prop}{acc:Array Aa}(h:ItemsOf P acc ys.length)(hp:∀(j:Nat) v,P j v->∀y,ys[j]? = some y->RelV y v):Vals ys acc.toList:=by
 have gen:∀(ys:List V) (vs:List Aa),ys.length=vs.length->(∀(j:Nat) y v,ys[j]? = some y->vs[j]? = some v->RelV y v)->Vals ys vs:=λys=>by
  induction ys with
  |nil=>
   intro vs hl _;cases vs with
   |nil=>exact .nil
   |cons _ _=>cases hl
  |cons y ys ih=>
   intro vs hl h;cases vs with
   |nil=>cases hl
   |cons v vs=>exact .cons (h 0 y v rfl rfl) (ih vs (by simpa using hl) λj y v a b=>h (j+1) y v (by simpa using a) (by simpa using b))
 refine gen ys acc.toList (by rw[aK'];exact h.1.symm) λj y v a b=>hp j v (h.2 j v ?_) y a;rw[<- Array.getElem?_toList];exact b
theorem jP_{d:Addr}{kvs:List (Key × V)}(I:Inv X pins σ H s)(h:Rd H d (.dK kvs)):∃(P:Nat->Aa->Prop) (OK:Heap->Prop),KdlSrc X.prog X.w "dict" d d (kvs.map λkv=>kV kv.1).length P OK/\OK s.heap/\∀(j:Nat) v,P j v->∀y,(kvs.map λkv=>kV kv.1)[j]? = some y->RelV y v:=by
 obtain⟨z,hd,vs,rel,dd⟩:=dy_ I.hok h;obtain⟨ep,dat⟩:=dd.dictAt;have hl:=rel.length;refine⟨λi v=>∃k x,vs[i]? = some (k,x)/\(bd' X.prog X.w).is k v=true,λh=>h.DictAt (bd' X.prog X.w) d vs ep,(by rw[aa',hl];exact kdl_dict (knd:=bd' X.prog X.w) (kvs:=vs) (ep:=ep) hd),dat,λj v ⟨k,x,e,hk⟩ y hy=>?_⟩;rw[az'] at hy;have ek:kvs.map (·.1)=vs.map (·.1):=rel.keys;have e2:(kvs.map (·.1))[j]? = (vs.map (·.1))[j]?:=by rw[ek]
 rw[az',az',e] at e2;cases e3:kvs[j]? with
 |none=>rw[e3] at e2;cases e2
 |some kv=>
  rw[e3] at e2 hy;have e4:kv.1=k:=b_7 e2;have e5:kV kv.1=y:=b_7 hy;rw[<- e5,e4];have hk:dX' k v=true:=hk;rcases aK_ hk with⟨i,t,rfl,rfl⟩|⟨x,t,rfl,rfl⟩
  ·exact⟨t,rfl⟩
  ·exact⟨t,rfl⟩
theorem lu_{d:Addr}{kvs:List (Key × V)}(hh:A.handled=none)(I:Inv X pins σ H s)(h:Rd H d (.dK kvs))(q:∀vs s1,Inv X pins σ H s1->Vals (kvs.map λkv=>kV kv.1) vs->R vs s1):wpAny (model X.prog X.w) A (collect (.ref d)) R E s:=by
 obtain⟨P,OK,S,ok,hp⟩:=jP_ I h;refine kdu_collect S hh ok ?_ λh' tk acc k a=>q _ _ (I.kept k) (cX_ a hp);rw[aa'];exact (dy_ I.hok h).1
theorem lC_{d:Addr}{kvs:List (List Key × V)}(I:Inv X pins σ H s)(h:Rd H d (.dT kvs)):∃(ys:List V) (P:Nat->Aa->Prop) (OK:Heap->Prop),a8' X.K H ys (kvs.map (·.1))/\ys.length<=sizeLine/\KdlSrc X.prog X.w "dict" d d ys.length P OK/\OK s.heap/\∀(j:Nat) v,P j v->∀y,ys[j]? = some y->RelV y v:=by
 obtain⟨z,hd,xs,rel,o,es,ep,ho,hc,hdat,hes,nd⟩:=h.ok I.hok
 have l1:es.size=xs.length:=by
  have:=c_5 List.length hes;simpa using this
 have l2:=a_3 rel;refine⟨xs.map λx=>V.ref x.2.1,λi v=>∃h:i<es.size,v=es[i].key,λh=>Raw h d es ep,?_,by rw[aa'];omega,(by rw[aa',<- l1];exact kr_ (es:=es) (ep:=ep) hd),⟨o,ho,hc,hdat⟩,λj v ⟨hj,e⟩ y hy=>?_⟩
 ·have gen:∀{kvs:List (List Key × V)} {xs:List (List Key × Addr × Aa)},KT H kvs xs->a8' X.K H (xs.map λx=>V.ref x.2.1) (kvs.map (·.1)):=λ{kvs xs} r=>by
   induction r with
   |nil=>exact .nil
   |cons h _ ih=>exact .cons ⟨_,rfl,h.2.1⟩ ih
  exact gen rel
 ·rw[az'] at hy;have hx:j<xs.length:=by omega
  rw[ad' hx] at hy;have e1:V.ref xs[j].2.1=y:=b_7 hy
  have e2:es[j]=entryOfKey (tupleKind (bd' X.prog X.w)) xs[j]:=by
   have e3:es.toList[j]? = (xs.map (entryOfKey (tupleKind (bd' X.prog X.w))))[j]?:=by rw[hes]
   rw[az',ad' hx,Array.getElem?_toList,Array.getElem?_eq_getElem hj] at e3;exact b_7 e3
  rw[<- e1,e,e2];rfl
theorem lh_{d:Addr}{kvs:List (List Key × V)}(hh:A.handled=none)(I:Inv X pins σ H s)(h:Rd H d (.dT kvs))(q:∀ys vs s1,Inv X pins σ H s1->Vals ys vs->a8' X.K H ys (kvs.map (·.1))->R vs s1):wpAny (model X.prog X.w) A (collect (.ref d)) R E s:=by
 obtain⟨ys,P,OK,t,z,S,ok,hp⟩:=lC_ I h;exact kdu_collect S hh ok z λh' tk acc k a=>q ys _ _ (I.kept k) (cX_ a hp) t
def bA'(v d:Addr):HO:=.ext λh=>h.IsItemsView v d
def bz'(K:F__)(H:Hp):List V->List (Key × V)->Prop:=Paired λy p=>∃a,y=V.ref a/\H a=some (.tup [kV p.1,p.2])
theorem iw_{v d:Addr}{kvs:List (Key × V)}(hh:A.handled=none)(I:Inv X pins σ H s)(hv:H v=some (bA' v d))(h:Rd H d (.dK kvs))(q:∀H1 ys vs s1,Inv X pins σ H1 s1->Same H H1->Vals ys vs->bz' X.K H1 ys kvs->R vs s1) :
  wpAny (model X.prog X.w) A (collect (.ref v)) R E s:=by
 obtain⟨z,hd,vs,rel,dd⟩:=dy_ I.hok h;obtain⟨ep,dat⟩:=dd.dictAt;obtain⟨iv,_,_⟩:=I.hok v _ hv;have hl:=rel.length;refine kdx_collect (knd:=bd' X.prog X.w) (kvs:=vs) (ep:=ep) hh iv dat Z1 λh' tk as k la G=>?_;have up:∀b,b∈as->s.heap.objs.size<b:=G.above
 have at1:∀(j:Nat) b p,as[j]? = some b->kvs[j]? = some p->∃its,Vals [kV p.1,p.2] its/\IsTup h' b its.toArray/\∃o,h'.get? b=some o/\o.dict=none:=λj b p hj hp=>by
  obtain⟨key,kk,x,e1,e2,e3⟩:=G.pairs j b hj
  have gen:∀{kvs:List (Key × V)} {vs:List (Key × Aa)},KV kvs vs->∀(j:Nat),vs[j]? = some (kk,x)->kvs[j]? = some p->p.1=kk/\RelV p.2 x:=λ{kvs vs} r=>by
   induction r with
   |nil=>intro j e;simp at e
   |@cons p' q _ _ h _ ih=>
    intro j e e';cases j with
    |zero=>
     have e:q=(kk,x):=by simpa using e
     have e':p'=p:=by simpa using e'
     subst e';rw[e] at h;exact h
    |succ j=>exact ih j (by simpa using e) (by simpa using e')
  obtain⟨g1,g2⟩:=gen rel j e1 hp;refine⟨[key,x],.cons ?_ (.cons g2 .nil),⟨_,e3,rfl,_,rfl⟩,_,e3,rfl⟩;rw[g1];have e2:dX' kk key=true:=e2;rcases aK_ e2 with⟨i,t,rfl,rfl⟩|⟨x,t,rfl,rfl⟩
  ·exact⟨t,rfl⟩
  ·exact⟨t,rfl⟩
 have look:∀{as:List Addr} {kvs:List (Key × V)},as.Pairwise (· < ·)->∀(j:Nat) b p,as[j]? = some b->kvs[j]? = some p->(as.zip kvs).lookup b=some p:=λ{as}=>by
  induction as with
  |nil=>intro kvs _ j b p e;simp at e
  |cons a as ih=>
   intro kvs pw j b p e e';cases kvs with
   |nil=>simp at e'
   |cons q kvs=>
    obtain⟨p1,p2⟩:=List.pairwise_cons.mp pw;show ((a,q)::as.zip kvs).lookup b=some p;cases j with
    |zero=>
     have e:a=b:=by simpa using e
     have e':q=p:=by simpa using e'
     subst e;subst e';rw[List.lookup_cons_self]
    |succ j=>
     have e:as[j]? = some b:=by simpa using e
     have e':kvs[j]? = some p:=by simpa using e'
     have lt:=p1 b (ae' e);rw[aY',show (b == a)=false by simp only[beq_eq_false_iff_ne];exact a4' lt];exact ih p2 j b p e e'
 have lk:as.length=kvs.length:=by omega
 let H1:Hp:=λb=>if b∈as then ((as.zip kvs).lookup b).map λp=>HO.tup [kV p.1,p.2] else H b
 have h1in:∀(j:Nat) b p,as[j]? = some b->kvs[j]? = some p->H1 b=some (.tup [kV p.1,p.2]):=λj b p e e'=>by
  show (if b∈as then _ else _)=_;rw[b__ (ae' e),look G.rise j b p e e'];rfl
 have h1out:∀b,b∉as->H1 b=H b:=λb hb=>a_5 hb;have old:∀b,b<s.heap.objs.size->b∉as:=λb hb m=>absurd (up b m) Z1;refine q H1 (as.map V.ref) _ _ (I.many (t':=tk) k (λb o e=>by rw[h1out b (old b (I.hok.lt e))];exact e) (λb e hb=>by rw[h1out b (old b hb)];exact e) λb o e e0=>?_) (λb o e=>by rw[h1out b (old b (I.hok.lt e))];exact e) ?_ ?_
 ·by_cases m:b∈as
  ·obtain⟨j,hj⟩:=List.mem_iff_getElem?.mp m
   have jl:j<kvs.length:=by
    have:=(ac'.mp hj).1;omega
   have e':=h1in j b kvs[j] hj (ad' jl);rw[e] at e';cases e';obtain⟨its,r,t⟩:=at1 j b _ hj (ad' jl);exact⟨_,its,rfl,by show 2<=sizeLine;decide,r,t⟩
  ·rw[h1out b m,e0] at e;cases e
 ·have gen:∀as:List Addr,Vals (as.map V.ref) (as.map Value.ref):=λas=>by
   induction as with
   |nil=>exact .nil
   |cons a as ih=>exact .cons rfl ih
  exact gen as
 ·have gen:∀(as':List Addr) (kvs':List (Key × V)),as'.length=kvs'.length->(∀(j:Nat) b p,as'[j]? = some b->kvs'[j]? = some p->H1 b=some (.tup [kV p.1,p.2]))->bz' X.K H1 (as'.map V.ref) kvs':=λas'=>by
   induction as' with
   |nil=>
    intro kvs' hl _;cases kvs' with
    |nil=>exact .nil
    |cons _ _=>cases hl
   |cons a as' ih=>
    intro kvs' hl h;cases kvs' with
    |nil=>cases hl
    |cons p kvs'=>exact .cons ⟨a,rfl,h 0 a p rfl rfl⟩ (ih kvs' (by simpa using hl) λj b p e e'=>h (j+1) b p (by simpa using e) (by simpa using e'))
  exact gen as kvs lk h1in
end
theorem ge_{a b:List Str}(h:a.map keyS=b.map keyS):a=b:=by
 induction a generalizing b with
 |nil=>
  cases b with
  |nil=>rfl
  |cons _ _=>cases h
 |cons x a ih=>
  cases b with
  |nil=>cases h
  |cons y b=>
   obtain⟨h1,h2⟩:=e__ h;have h1:[(Sum.inr x:Key)]=[Sum.inr y]:=h1;cases h1;rw[ih h2]
theorem cO_(ss:List Str):(bL' ss).map keyS=sortKs (ss.map keyS):=by
 have all:∀k∈sortKs (ss.map keyS),∃x,k=keyS x:=λk hk=>by
  obtain⟨x,_,e⟩:=ab'.mp ((aw_ _).mem_iff.mp hk);exact⟨x,e.symm⟩
 have gen:∀l:List (List Key),(∀k∈l,∃x,k=keyS x)->(l.map λk=>match k with | [.inr x]=>x|_=>(⟨#[]⟩:Str)).map keyS=l:=λl=>by
  induction l with
  |nil=>exact λ_=>rfl
  |cons k l ih=>
   intro h;obtain⟨x,rfl⟩:=h k ap';rw[aw',aw',ih λk hk=>h k (aj' _ hk)];rfl
 exact gen _ all
theorem aP_(ss:List Str):(bL' ss).Perm ss:=by
 have p:((bL' ss).map keyS).Perm (ss.map keyS):=by rw[cO_];exact aw_ _
 have back:∀l:List Str,(l.map keyS).map (λk=>match k with | [.inr x]=>x|_=>(⟨#[]⟩:Str))=l:=λl=>by
  rw[ak']
  induction l with
  |nil=>rfl
  |cons x l ih=>rw[aw',ih];rfl
 have q:=p.map (λk=>match k with | [.inr x]=>x|_=>(⟨#[]⟩:Str));rwa [back,back] at q
variable{u:Aa}
section
variable{X:Cx}{pins:List (Addr × Obj)}{σ:St}{H:Hp}{s:Ab}
theorem cZ_{ss:List Str}{Q:VK}(h64:ss.length<64)(hcol:wpAny (model X.prog X.w) X.A.in1 (collect u) (λvs s1=>∃H1,Inv X pins σ H1 s1/\Vals (ss.map V.str) vs/\∀l,H1 l=none->Q (.ref l) (upd H1 l (.lst ((bL' ss).map V.str)))) X.xe s) :
  wpAny (model X.prog X.w) X.A (call (.builtin "sorted") [u]) (EP X pins σ Q) X.xe s:=by
 refine ea_ (g3_ (ss.map keyS)) (thn hcol λvs s1 ⟨H1,I1,r,q⟩=>?_);have hl:vs.length=ss.length:=by rw[<- r.length,aa']
 refine⟨by omega,λh2 h' _=>hM_ (hi_ r) h2,λp h' e g up hD kp=>?_⟩;have g':Good (ss.map keyS).length p:=by rw[aa',<- hl];exact g
 have asc:=hu_ (ks:=ss.map keyS) (λi j _ _=>rfl) g' (by rw[aa',<- hl];exact up)
 have perm:(p.toList.map λi=>(ss.map keyS).getD i []).Perm (ss.map keyS):=by
  have:=c4_ g' λi=>(ss.map keyS).getD i [];rwa [bC_] at this
 have es:=dj_ perm asc
 have inr:∀i∈p.toList,i<ss.length:=λi hi=>by
  have m:i∈(List.range vs.length).toArray:=g.mem_iff.mp (by simpa using hi);rw[hl] at m;simpa using m
 have e1:(p.toList.map λi=>ss.getD i ⟨#[]⟩)=bL' ss:=by
  refine ge_ ?_;rw[cO_,<- es,ak'];refine ax' λi hi=>?_;have:=inr i hi;simp[this]
 have rv:=gp_ r g
 have e2:(p.toList.map λi=>(ss.map V.str).getD i .non)=(bL' ss).map V.str:=by
  rw[<- e1,ak'];refine ax' λi hi=>?_;have:=inr i hi;simp[this]
 rw[e2] at rv;refine⟨.ref s1.heap.objs.size,_,I1.laid (t':=s1.toks) kp (ai' _) (show bn' X.prog X.w _ h' _ (.lst ((bL' ss).map V.str)) from ⟨?_,cN' p vs,e,rv,hD⟩),rfl,q _ (I1.hok.fresh (ai' _))⟩;rw[aa',(aP_ ss).length_eq];have:=a_9;omega
theorem iP_{K:F__}{H:Hp}{ks:List (List Key)}(t:a8' K H ys ks):∀l:List Nat,(∀i∈l,i<ys.length)->a8' K H (l.map λi=>ys.getD i .non) (l.map λi=>ks.getD i []):=λl=>by
 induction l with
 |nil=>exact λ_=>.nil
 |cons i l ih=>
  intro h;refine .cons ?_ (ih λj hj=>h j (aj' _ hj));have hi:=h i ap'
  have gen:∀{ys:List V} {ks:List (List Key)} (i:Nat),i<ys.length->a8' K H ys ks->∃a,ys.getD i .non=V.ref a/\H a=some (.tup ((ks.getD i []).map kV)):=λ{ys ks} i hy t=>by
   induction t generalizing i with
   |nil=>exact absurd hy Z2
   |cons h t ih=>
    cases i with
    |zero=>exact h
    |succ i=>exact ih i (by simpa using hy)
  exact gen i hi t
theorem c0_{ks:List (List Key)}{sh:List Bool}{Q:VK}(h64:ks.length<64)(al:Alike ks sh)(hcol:wpAny (model X.prog X.w) X.A.in1 (collect u) (λvs s1=>∃H1 ys,Inv X pins σ H1 s1/\Vals ys vs/\a8' X.K H1 ys ks/\∀l zs,H1 l=none->a8' X.K H1 zs (sortKs ks)->zs.Perm ys->Q (.ref l) (upd H1 l (.lst zs))) X.xe s) :
  wpAny (model X.prog X.w) X.A (call (.builtin "sorted") [u]) (EP X pins σ Q) X.xe s:=by
 refine ea_ (g3_ ks) (thn hcol λvs s1 ⟨H1,ys,I1,r,t,q⟩=>?_);have l1:=r.length;have l2:=a_3 t;have hl:vs.length=ks.length:=by omega
 refine⟨by omega,λh2 h' k=>hF_ I1 r t al h2 k,λp h' e g up hD kp=>?_⟩;have g':Good ks.length p:=by rw[<- hl];exact g
 have asc:=hu_ (ks:=ks) (λi j _ _=>rfl) g' (by rw[<- hl];exact up)
 have perm:(p.toList.map λi=>ks.getD i []).Perm ks:=by
  have:=c4_ g' λi=>ks.getD i [];rwa [bC_] at this
 have es:=dj_ perm asc
 have inr:∀i∈p.toList,i<ys.length:=λi hi=>by
  have m:i∈(List.range vs.length).toArray:=g.mem_iff.mp (by simpa using hi);rw[<- l1] at m;simpa using m
 have tz:=iP_ t p.toList inr;rw[es] at tz;have rv:=gp_ r g
 have pz:(p.toList.map λi=>ys.getD i .non).Perm ys:=by
  have:=c4_ (n:=ys.length) (by rw[l1];exact g) λi=>ys.getD i .non;rwa [bC_] at this
 refine⟨.ref s1.heap.objs.size,_,I1.laid (t':=s1.toks) kp (ai' _) (show bn' X.prog X.w _ h' _ (.lst (p.toList.map λi=>ys.getD i .non)) from ⟨?_,cN' p vs,e,rv,hD⟩),rfl,q _ _ (I1.hok.fresh (ai' _)) tz pz⟩;rw[pz.length_eq];have:=a_9;omega
end
inductive eK' (K:F__) (xs:List V) (H:Hp) (Q:VK):Prop
 |mk:∀p ss,xs=[.ref p]->SqL K H p (ss.map V.str)->ss.length<64->(∀l,H l=none->Q (.ref l) (upd H l (.lst ((bL' ss).map V.str))))->eK' K xs H Q
variable{X:Cx}
theorem gY_:bx' X (.builtin "sorted") (eK' X.K):=by
 intro pins s σ H xs us Q I r h;obtain⟨p,ss,rfl,hp,h64,q⟩:=h;obtain⟨u,rfl,ru⟩:=vals1 r;cases ru;exact cZ_ h64 (gt_ I hp (by rw[aa'];omega) λvs s1 I1 r1=>⟨H,I1,r1,q⟩)
inductive rSortT (K:F__) (xs:List V) (H:Hp) (Q:VK):Prop
 |mk:∀p ys ks sh,xs=[.ref p]->SqL K H p ys->a8' K H ys ks->Alike ks sh->ks.length<64->(∀l zs,H l=none->a8' K H zs (sortKs ks)->zs.Perm ys->Q (.ref l) (upd H l (.lst zs)))->rSortT K xs H Q
theorem dY_:bx' X (.builtin "sorted") (rSortT X.K):=by
 intro pins s σ H xs us Q I r h;obtain⟨p,ys,ks,sh,rfl,hp,t,al,h64,q⟩:=h;obtain⟨u,rfl,ru⟩:=vals1 r;cases ru;have l:=a_3 t;exact c0_ h64 al (gt_ I hp Z1 λvs s1 I1 r1=>⟨H,ys,I1,r1,t,q⟩)
inductive rSortDT (K:F__) (xs:List V) (H:Hp) (Q:VK):Prop
 |mk:∀d kvs sh,xs=[.ref d]->H d=some (.dT kvs)->Alike (kvs.map (·.1)) sh->kvs.length<64->(∀l zs,H l=none->a8' K H zs (sortKs (kvs.map (·.1)))->Q (.ref l) (upd H l (.lst zs)))->rSortDT K xs H Q
theorem fS_(hc:X.calm=true):bx' X (.builtin "sorted") (rSortDT X.K):=by
 intro pins s σ H xs us Q I r h;obtain⟨d,kvs,sh,rfl,hd,al,h64,q⟩:=h;obtain⟨u,rfl,ru⟩:=vals1 r;cases ru;exact c0_ (by rw[aa'];exact h64) al (lh_ (I.ok.hd hc) I (.inl hd) λys vs s1 I1 r1 t=>⟨H,ys,I1,r1,t,λl zs n t' _=>q l zs n t'⟩)
inductive rSortDS (xs:List V) (H:Hp) (Q:VK):Prop
 |mk:∀d kvs ss,xs=[.ref d]->H d=some (.dK kvs)->kvs.map (·.1)=ss.map Sum.inr->ss.length<64->(∀l,H l=none->Q (.ref l) (upd H l (.lst ((bL' ss).map V.str))))->rSortDS xs H Q
theorem fF_(hc:X.calm=true):bx' X (.builtin "sorted") rSortDS:=by
 intro pins s σ H xs us Q I r h;obtain⟨d,kvs,ss,rfl,hd,ek,h64,q⟩:=h;obtain⟨u,rfl,ru⟩:=vals1 r;cases ru;refine cZ_ h64 (lu_ (I.ok.hd hc) I (.inl hd) λvs s1 I1 r1=>⟨H,I1,?_,q⟩)
 have e:(kvs.map λkv=>kV kv.1)=ss.map V.str:=by
  rw[show (kvs.map λkv=>kV kv.1)=(kvs.map (·.1)).map kV by rw[ak'];rfl,ek,ak'];rfl
 rwa [e] at r1
inductive rSortI (K:F__) (xs:List V) (H:Hp) (Q:VK):Prop
 |mk:∀(v d:Addr) (kvs:List (Key × V)) (ks:List (Key × Key)) (sh:List Bool),xs=[.ref v]->H v=some (bA' v d)->H d=some (.dK kvs)->kvs=ks.map (λk:Key × Key=>(k.1,kV k.2))->Alike (ks.map λk=>[k.1,k.2]) sh->ks.length<64->(∀l H1 zs,Same H H1->H1 l=none->a8' K H1 zs (sortKs (ks.map λk=>[k.1,k.2]))->Q (.ref l) (upd H1 l (.lst zs)))->rSortI K xs H Q
theorem gV_(hc:X.calm=true):bx' X (.builtin "sorted") (rSortI X.K):=by
 intro pins s σ H xs us Q I r h;obtain⟨v,d,kvs,ks,sh,rfl,hv,hd,ek,al,h64,q⟩:=h;obtain⟨u,rfl,ru⟩:=vals1 r;cases ru;refine c0_ (by rw[aa'];exact h64) al (iw_ (I.ok.hd hc) I hv (.inl hd) λH1 ys vs s1 I1 sm r1 t=>⟨H1,ys,I1,r1,?_,λl zs n t' _=>q l H1 zs sm n t'⟩);subst ek
 have gen:∀(ks:List (Key × Key)) (ys:List V),bz' X.K H1 ys (ks.map (λk:Key × Key=>(k.1,kV k.2)))->a8' X.K H1 ys (ks.map λk=>[k.1,k.2]):=λks=>by
  induction ks with
  |nil=>
   intro ys t;cases t;exact .nil
  |cons k ks ih=>
   intro ys t;cases t with
   |cons h t=>exact .cons h (ih _ t)
 exact gen ks ys t
inductive rListD (xs:List V) (H:Hp) (Q:VK):Prop
 |mk:∀d kvs,xs=[.ref d]->Rd H d (.dK kvs)->(∀l,H l=none->Q (.ref l) (upd H l (.lst (kvs.map λkv=>kV kv.1))))->rListD xs H Q
theorem cY_(hc:X.calm=true):bx' X (.type "list") rListD:=by
 intro pins s σ H xs us Q I r h;obtain⟨d,kvs,rfl,hd,q⟩:=h;obtain⟨u,rfl,ru⟩:=vals1 r;cases ru;obtain⟨P,OK,S,ok,hp⟩:=jP_ I hd;have z:=(dy_ I.hok hd).1;refine kdl_call S (I.ok.hd hc) ok (by rw[aa'];exact z) λh' tk acc c k hD a=>?_;refine⟨.ref s.heap.objs.size,_,I.laid (t':=tk) k (ai' _) (show bn' X.prog X.w _ h' _ (.lst (kvs.map λkv=>kV kv.1)) from ⟨by rw[aa'];exact z,acc.toList,c,cX_ a hp,by rw[Array.toArray_toList];exact hD⟩),rfl,q _ I.fresh⟩
theorem KV.mergeP{κ:Type}[DecidableEq κ]:∀{more:List (κ × V)} {rs:List (κ × Aa)} {kvs:List (κ × V)} {vs:List (κ × Aa)},KV more rs->KV kvs vs->KV (more.foldl (λacc kv=>putK acc kv.1 kv.2) kvs) (EvD.mergeP vs rs):=λ{more rs kvs vs} h=>by
 induction h generalizing kvs vs with
 |nil=>exact λh=>h
 |@cons p q _ _ h _ ih=>
  intro h2;obtain⟨k,y⟩:=p;obtain⟨k',u⟩:=q;obtain⟨h1,h3⟩:=h;have h1:k=k':=h1;subst h1;exact ih (h2.put k h3)
inductive rDictOf (K:F__) (xs:List V) (H:Hp) (Q:VK):Prop
 |mk:∀p ys kvs,xs=[.ref p]->H p=some (.lst ys)->bz' K H ys kvs->kvs.length<=1000->(∀l,H l=none->Q (.ref l) (upd H l (.dK (c2' [] kvs))))->rDictOf K xs H Q
theorem bd_(hc:X.calm=true):bx' X (.type "dict") (rDictOf X.K):=by
 intro pins s σ H xs us Q I r h;obtain⟨p,ys,kvs,rfl,hp,t,hz,q⟩:=h;obtain⟨u,rfl,ru⟩:=vals1 r;cases ru;obtain⟨z,its,n,rv,hl,ho⟩:=I.lstM hp
 have gen:∀{ys:List V} {its:List Aa} {kvs:List (Key × V)},Vals ys its->bz' X.K H ys kvs->∃ps,KV kvs ps/\en' (bd' X.prog X.w) s.heap its ps:=λ{ys its kvs} rv t=>by
  induction t generalizing its with
  |nil=>
   cases rv;exact⟨[],.nil,.nil⟩
  |@cons y p ys kvs h t ih=>
   cases rv with
   |cons r0 rv=>
    obtain⟨ps,h1,h2⟩:=ih rv;obtain⟨a,e,sq⟩:=h;subst e;cases r0;obtain⟨tv,rt,it,_⟩:=I.tuple (SqT.of sq);obtain⟨key,x,e2,rk,rx⟩:=vals2 rt;subst e2;refine⟨(p.1,x)::ps,Paired.cons (show p.1=p.1/\RelV p.2 x from ⟨rfl,rx⟩) h1,Paired.cons (show ∃a' key',Value.ref a=.ref a'/\IsTup s.heap a' #[key',x]/\(bd' X.prog X.w).is p.1 key'=true from ⟨a,key,rfl,it,gD_ rk⟩) h2⟩
 obtain⟨ps,h1,h2⟩:=gen rv t;have lp:=KV.length h1;refine fm_ (knd:=bd' X.prog X.w) (I.ok.hd hc) ho h2 Z1 λh' tk hd kp=>?_;refine⟨.ref s.heap.objs.size,_,I.laid (t':=tk) kp (ai' _) (jN_ ?_ (beq_eq_false_iff_ne.mpr (Ne.symm (av' I.big))) (KV.mergeP h1 .nil) hd),rfl,q _ I.fresh⟩;have:=cv_ kvs [];have:=a_9;simp only[a2'] at *;show (c2' [] kvs).length<=sizeLine;omega
theorem ep_:∀{bs:List Bool} {vs:List Aa},Vals (bs.map V.bl) vs->vs=bs.map Value.bool
 |[],_,.nil=>rfl
 |b::bs,_,.cons h t=>by
  cases h;rw[ep_ t];rfl
inductive rAll (K:F__) (g:List Bool->Bool) (xs:List V) (H:Hp) (Q:VK):Prop
 |mk:∀p bs,xs=[.ref p]->SqL K H p (bs.map V.bl)->Q (.bl (g bs)) H->rAll K g xs H Q
theorem cC_(hc:X.calm=true):bx' X (.builtin "all") (rAll X.K λbs=>bs.all id):=by
 intro pins s σ H xs us Q I r h;obtain⟨p,bs,rfl,hp,q⟩:=h;obtain⟨u,rfl,ru⟩:=vals1 r;cases ru;obtain⟨its,rv,pl,z⟩:=I.list hp;obtain rfl:=ep_ rv;have hl:=pl.isList;have lt:p<s.heap.objs.size:=by obtain⟨_,e,_⟩:=hl;exact a_6 e
 refine call_all_walk (wpAny_pyIter_list hl ⟨s.heap.objs.size,[s.heap.objs.size,p],[s.heap.objs.size],(bs.map Value.bool).toArray.size,_,_,λi=>(bs[i]?).getD true,rfl,Walks.list (A:=X.A.in1) (I.ok.hd hc) _ p (av' lt) _,⟨⟨_,b_0 _ rfl,rfl,rfl⟩,hl.push _⟩,λi v s' Q' E' hP hQ=>?_,λh' tk hk=>?_⟩)
 ·have hP:(bs.map Value.bool).toArray[i]? = some v:=hP;simp only[List.getElem?_toArray,az'] at hP;cases e:bs[i]? with
  |none=>rw[e] at hP;cases hP
  |some b=>
   have hQ:Q' ((bs[i]?).getD true) s':=hQ;rw[e] at hP hQ;cases hP;exact d_2 hQ
 ·have e:((List.range (bs.map Value.bool).toArray.size).all λi=>(bs[i]?).getD true)=bs.all id:=by
   rw[am',aa'];exact LSm.range_all bs
  rw[e];exact⟨.bl _,H,I.kept (LSm.kept_iter hk),rfl,q⟩
theorem jj_(hc:X.calm=true):bx' X (.builtin "any") (rAll X.K λbs=>bs.any id):=by
 intro pins s σ H xs us Q I r h;obtain⟨p,bs,rfl,hp,q⟩:=h;obtain⟨u,rfl,ru⟩:=vals1 r;cases ru;obtain⟨its,rv,pl,z⟩:=I.list hp;obtain rfl:=ep_ rv;have hl:=pl.isList;have lt:p<s.heap.objs.size:=by obtain⟨_,e,_⟩:=hl;exact a_6 e
 refine call_any_walk (wpAny_pyIter_list hl ⟨s.heap.objs.size,[s.heap.objs.size,p],[s.heap.objs.size],(bs.map Value.bool).toArray.size,_,_,λi=>(bs[i]?).getD false,rfl,Walks.list (A:=X.A.in1) (I.ok.hd hc) _ p (av' lt) _,⟨⟨_,b_0 _ rfl,rfl,rfl⟩,hl.push _⟩,λi v s' Q' E' hP hQ=>?_,λh' tk hk=>?_⟩)
 ·have hP:(bs.map Value.bool).toArray[i]? = some v:=hP;simp only[List.getElem?_toArray,az'] at hP;cases e:bs[i]? with
  |none=>rw[e] at hP;cases hP
  |some b=>
   have hQ:Q' ((bs[i]?).getD false) s':=hQ;rw[e] at hP hQ;cases hP;exact d_2 hQ
 ·have e:((List.range (bs.map Value.bool).toArray.size).any λi=>(bs[i]?).getD false)=bs.any id:=by
   rw[am',aa'];exact LSm.range_any bs
  rw[e];exact⟨.bl _,H,I.kept (LSm.kept_iter hk),rfl,q⟩
end L2
namespace EvN
open PySem PySem.SeqAt PyProof.Rows
open AutoSeq1 (wpAny_loadPart')
open MeetsSeq MeetsSeq2 MeetsSeq3 SeqRoads2
theorem lN_(l b:Addr)(xs ys:Array Aa)(n m:Nat)(dl db:Option Addr)(sl sb:Array (Option Aa))(hs:xs.size=ys.size)(e:Nat->Bool)(k:Nat) :
  ∀i:Nat,xs.size - i=k->Meets (Builtin.«list.__eq__.loop» ⟨[.ref l,.ref b,rawInt i,rawInt 3],[]⟩)
   (λA R s=>(s.heap.get? l=some { cls:=.type "list",dict:=dl,data:=.seq xs n,slots:=sl }/\s.heap.get? b=some { cls:=.type "list",dict:=db,data:=.seq ys m,slots:=sb }) /\
    (∀j (h1:j<xs.size) (h2:j<ys.size),EqAt A.in1 s xs[j] ys[j] (e j))/\R (.ok (.ret (.bool (!((List.range xs.size).drop i).all e)))) s):=by
 induction k with
 |zero=>
  intro i hk prog w A R s ⟨⟨gl,gb⟩,he,h⟩;obtain⟨hp,g,d,tk,os⟩:=s
  wp_walk using c__ gl,c__ gb
  rw[show xs[((i:Nat):Int).toNat]? = none by simp;omega,show ys[((i:Nat):Int).toNat]? = none by simp;omega];rw[show (List.range xs.size).drop i=[] by simp;omega] at h
  wp_walk using c__ gl,c__ gb
  refine (show R (.ok (.ret (.bool (xs.size != ys.size)))) _ from ?_);rw[show (xs.size != ys.size)=false by simp[hs]];exact h
 |succ k ih=>
  intro i hk prog w A R s ⟨⟨gl,gb⟩,he,h⟩;obtain⟨hp,g,d,tk,os⟩:=s
  wp_walk using c__ gl,c__ gb
  have z1:i<xs.size:=by omega
  have z2:i<ys.size:=by omega
  have q1:xs[((i:Nat):Int).toNat]? = some xs[i]:=by simp[z1]
  have q2:ys[((i:Nat):Int).toNat]? = some ys[i]:=by simp[z2]
  rw[show (List.range xs.size).drop i=i::(List.range xs.size).drop (i+1) by simp[List.drop_eq_getElem_cons,z1],List.all_cons] at h;rw[q1,q2];refine a__ (he i z1 z2 prog w _ _ ?_);cases c:e i with
  |true=>
   rw[c] at h
   wp_walk
   rw[show ((i:Int)+1)=((i+1:Nat):Int) by omega];refine⟨plainId_quiet plain_eq_loop _,codeAny_builtin entry_eq_loop ?_⟩;rw[Around.under_plainId plain_eq_loop _];exact ih (i+1) Z1 prog w A R _ ⟨⟨gl,gb⟩,he,by simpa using h⟩
  |false=>
   rw[c] at h
   wp_walk using c__ gl,c__ gb
   rw[q1,q2]
   wp_walk
   simpa using h
theorem jd_(l b:Addr)(xs ys:Array Aa)(n m:Nat)(dl db:Option Addr)(sl sb:Array (Option Aa))(hs:xs.size=ys.size)(e:Nat->Bool) :
  Meets (Builtin.«list.__ne__» ⟨[.ref l,.ref b],[]⟩)
   (λA R s=>(s.heap.get? l=some { cls:=.type "list",dict:=dl,data:=.seq xs n,slots:=sl }/\s.heap.get? b=some { cls:=.type "list",dict:=db,data:=.seq ys m,slots:=sb }) /\
    (∀j (h1:j<xs.size) (h2:j<ys.size),EqAt A.in1 s xs[j] ys[j] (e j))/\R (.ok (.ret (.bool (!(List.range xs.size).all e)))) s):=by
 intro prog w A R s ⟨⟨gl,gb⟩,he,h⟩;obtain⟨hp,g,d,tk,os⟩:=s;have f3:=AutoSeq1.sub_list_list;have no:¬(xs.size != ys.size)=true:=by simp[hs]
 wp_walk using c__ gl,c__ gb
 refine⟨plainId_quiet plain_eq_loop _,codeAny_builtin entry_eq_loop ?_⟩;rw[Around.under_plainId plain_eq_loop _];exact lN_ l b xs ys n m dl db sl sb hs e _ 0 rfl prog w A R _ ⟨⟨gl,gb⟩,he,by simpa using h⟩
theorem j9_(l b:Addr)(xs ys:Array Aa)(n m:Nat)(dl db:Option Addr)(sl sb:Array (Option Aa))(hs:(xs.size != ys.size)=true) :
  Meets (Builtin.«list.__ne__» ⟨[.ref l,.ref b],[]⟩)
   (λA R s=>(s.heap.get? l=some { cls:=.type "list",dict:=dl,data:=.seq xs n,slots:=sl }/\s.heap.get? b=some { cls:=.type "list",dict:=db,data:=.seq ys m,slots:=sb })/\R (.ok (.ret (.bool true))) s):=
 .of_wp λprog w A R s ⟨⟨gl,gb⟩,h⟩=>by
  obtain⟨hp,g,d,tk,os⟩:=s;have f3:=AutoSeq1.sub_list_list
  wp_walk using c__ gl,c__ gb
  exact⟨_,rfl,h⟩
variable{b l:Addr}{xs ys:Array Aa}{E Q:Aa->Ab->Prop}{prog:Ad}{w:Af}{A:Ag}{s:Ab}
theorem ne_listAt{e:Nat->Bool}(hl:s.heap.IsList l xs)(hb:s.heap.IsList b ys)(hs:xs.size=ys.size)(hu:A.units<cLine)(he:∀j (h1:j<xs.size) (h2:j<ys.size),EqAt A.in1 s xs[j] ys[j] (e j))(h:Q (.bool (!(List.range xs.size).all e)) s):wpAny (model prog w) A (compareOp .NotEq (.ref l) (.ref b)) Q E s:=by
 obtain⟨⟨c1,d1,t1,l1⟩,o1,k1,n1,z1⟩:=id hl;obtain⟨⟨c2,d2,t2,l2⟩,o2,k2,n2,z2⟩:=id hb;simp only at k1 z1 k2 z2;subst k1 z1 k2 z2;exact richCompare_meets_room (op:=.NotEq) ⟨_,o1,rfl⟩ ⟨_,o2,rfl⟩ F.slot_list_ne F.entry_list_ne (F.args_list_ne_2 _ _) (jd_ l b xs ys n1 n2 d1 d2 l1 l2 hs e) ⟨⟨o1,o2⟩,he,show Value.bool (!(List.range xs.size).all e)≠Value.notImplemented/\Q (.bool (!(List.range xs.size).all e)) s from ⟨(λx=>nomatch x),h⟩⟩ hu
theorem ne_sizesAt(hl:s.heap.IsList l xs)(hb:s.heap.IsList b ys)(hs:(xs.size != ys.size)=true)(hu:A.units<cLine)(h:Q (.bool true) s):wpAny (model prog w) A (compareOp .NotEq (.ref l) (.ref b)) Q E s:=by
 obtain⟨⟨c1,d1,t1,l1⟩,o1,k1,n1,z1⟩:=id hl;obtain⟨⟨c2,d2,t2,l2⟩,o2,k2,n2,z2⟩:=id hb;simp only at k1 z1 k2 z2;subst k1 z1 k2 z2;exact richCompare_meets_room (op:=.NotEq) ⟨_,o1,rfl⟩ ⟨_,o2,rfl⟩ F.slot_list_ne F.entry_list_ne (F.args_list_ne_2 _ _) (j9_ l b xs ys n1 n2 d1 d2 l1 l2 hs) ⟨⟨o1,o2⟩,show Value.bool true≠Value.notImplemented/\Q (.bool true) s from ⟨(λx=>nomatch x),h⟩⟩ hu
end EvN
namespace L2
open PySem PySem.Spec PyProof.Rows PySem.W EvS EvD
abbrev Rp(D:Type):=Hp->V->D->Prop
structure Cmp (X:Cx) (n:Nat) {D:Type} [DecidableEq D] (R:Rp D):Prop where
 eq:∀{pins:List (Addr × Obj)} {σ:St} {H:Hp} {s:Ab} {A:Ag} {x y:V} {u v:Aa} {d e:D},Inv X pins σ H s->RelV x u->RelV y v->R H x d->R H y e->A.units+n<cLine->SeqAt.EqAt A s u v (decide (d=e))
 one:∀{pins:List (Addr × Obj)} {σ:St} {H:Hp} {s:Ab} {x:V} {d e:D},Inv X pins σ H s->R H x d->R H x e->d=e
def rS:Rp Str:=λ_ x d=>x=.str d
def r2(K:F__){D1 D2:Type}(R1:Rp D1)(R2:Rp D2):Rp (D1 × D2):=λH x d=>∃a u v,x=.ref a/\SqT K H a [u,v]/\R1 H u d.1/\R2 H v d.2
def rL(K:F__){D:Type}(R:Rp D):Rp (List D):=λH x ds=>∃a xs,x=.ref a/\SqL K H a xs/\Paired (R H) xs ds
variable{X:Cx}
theorem cmpS:Cmp X 0 rS where
 eq:=λ{pins σ H s A x y u v d e} I ru rv hx hy hu=>by
  have hx:x=.str d:=hx;have hy:y=.str e:=hy;subst hx;subst hy;have q:=jY_ (A:=A) (s:=s) ru rv rfl rfl
  have e2:eqV (.str d) (.str e)=decide (d=e):=by
   show (d == e)=_;by_cases h:d=e
   ·subst h;simp
   ·simp[h]
  rwa [e2] at q
 one:=λ{pins σ H s x d e} I hx hy=>by
  have hx:x=.str d:=hx;have hy:x=.str e:=hy;rw[hx] at hy;exact V.str.inj hy
theorem dW_{h:Heap}{a:Addr}{its:Array Aa}(t:IsTup h a its):h.IsTuple a its:=t
variable{n:Nat}
theorem cmp2{m:Nat}{D1 D2:Type}[DecidableEq D1][DecidableEq D2]{R1:Rp D1}{R2:Rp D2}(c1:Cmp X n R1)(c2:Cmp X m R2):Cmp X (max n m+1) (r2 X.K R1 R2) where
 one:=λ{pins σ H s x d e} I hx hy=>by
  obtain⟨a,u,v,rfl,t,q1,q2⟩:=hx;obtain⟨b,u',v',e0,t',q1',q2'⟩:=hy;cases e0;have e1:=I.tuple_inj t t';cases e1;exact Prod.ext (c1.one I q1 q1') (c2.one I q2 q2')
 eq:=λ{pins σ H s A x y u v d e} I ru rv hx hy hu=>by
  have hx':=hx;have hy':=hy;obtain⟨a,x1,x2,rfl,t,q1,q2⟩:=hx;obtain⟨b,y1,y2,rfl,t',q1',q2'⟩:=hy;cases ru;cases rv;by_cases hab:a=b
  ·subst hab;have e1:=I.tuple_inj t t';cases e1;have:d=e:=Prod.ext (c1.one I q1 q1') (c2.one I q2 q2');rw[a_1 this];exact SeqAt.EqAt.same _
  ·obtain⟨its,r,it,_⟩:=I.tuple t;obtain⟨its',r',it',_⟩:=I.tuple t';obtain⟨u1,u2,rfl,r1,r2⟩:=vals2 r;obtain⟨w1,w2,rfl,r1',r2'⟩:=vals2 r'
   have key:=SeqAt.EqAt.of_refs hab (SeqAt.RcAt.tuples (A:=A) (s:=s) (e:=λj=>if j=0 then decide (d.1=e.1) else decide (d.2=e.2)) (dW_ it) (dW_ it') Z1 λj h1 h2=>by
    match j,h1,h2 with
    |0,_,_=>exact c1.eq I r1 r1' q1 q1' (by show A.units+1+n<cLine;omega)
    |1,_,_=>exact c2.eq I r2 r2' q2 q2' (by show A.units+1+m<cLine;omega))
   have e3:((List.range (min [u1,u2].toArray.size [w1,w2].toArray.size)).all (λj=>if j=0 then decide (d.1=e.1) else decide (d.2=e.2))&&[u1,u2].toArray.size == [w1,w2].toArray.size)=decide (d=e):=by
    show (decide (d.1=e.1)&&(decide (d.2=e.2)&&true)&&true)=_;by_cases h1:d.1=e.1
    ·by_cases h2:d.2=e.2
     ·have:d=e:=Prod.ext h1 h2;simp[this]
     ·have:¬d=e:=λz=>h2 (by rw[z]);simp[h1,h2,this]
    ·have:¬d=e:=λz=>h1 (by rw[z]);simp[h1,this]
   rw[e3] at key;exact key
theorem aC_{α β:Type}{F:α->β->Prop}:∀{l:List α} {m:List β},Paired F l m->∀(i:Nat) (h1:i<l.length) (h2:i<m.length),F l[i] m[i]
 |_,_,.cons h t,0,_,_=>h
 |_,_,.cons h t,i+1,h1,h2=>aC_ t i (by simpa using h1) (by simpa using h2)
theorem d4_{D:Type}[DecidableEq D]:∀{ds es:List D},ds.length=es.length->((List.range ds.length).all λj=>decide (ds[j]? = es[j]?))=decide (ds=es):=λ{ds es} hl=>by
 by_cases h:ds=es
 ·subst h;simp
 ·rw[a_2 h]
  have:∃i,i<ds.length/\ds[i]?≠es[i]?:=by
   refine d_9 λhn=>h ?_;apply List.ext_getElem?;intro i;by_cases hi:i<ds.length
   ·exact d_9 λq=>hn ⟨i,hi,q⟩
   ·rw[List.getElem?_eq_none Z1,List.getElem?_eq_none Z1]
  obtain⟨i,hi,q⟩:=this;rw[List.all_eq_false];exact⟨i,by simpa using hi,by simpa using q⟩
variable{pins:List (Addr × Obj)}{σ:St}{s:Ab}{A:Ag}
theorem gg_{D:Type}[DecidableEq D]{R:Rp D}(c:Cmp X n R){H:Hp}(I:Inv X pins σ H s){xs ys:List V}{us vs:List Aa}{ds es:List D}(ru:Vals xs us)(rv:Vals ys vs)(hx:Paired (R H) xs ds)(hy:Paired (R H) ys es)(hu:A.units+n<cLine) :
  ∀j (h1:j<us.toArray.size) (h2:j<vs.toArray.size),SeqAt.EqAt A s us.toArray[j] vs.toArray[j] (decide (ds[j]? = es[j]?)):=λj h1 h2=>by
 have l1:=ru.length;have l2:=rv.length;have l3:=a_3 hx;have l4:=a_3 hy;simp only[am'] at h1 h2;have q:=c.eq (A:=A) I (aC_ ru j Z1 h1) (aC_ rv j Z1 h2) (aC_ hx j Z1 Z1) (aC_ hy j Z1 Z1) hu
 have e:decide (ds[j]? = es[j]?)=decide (ds[j]' Z1=es[j]' Z1):=by
  rw[ad' Z1,ad' Z1];by_cases z:ds[j]' Z1=es[j]' Z1
  ·simp[z]
  ·simp[z]
 rw[e];exact q
def rEqD{D:Type}[DecidableEq D](R:Rp D)(neg:Bool):V->V->Hp->VK->Prop:=λx y H Q=>∃d e,R H x d/\R H y e/\Q (.bl (if neg then !decide (d=e) else decide (d=e))) H
theorem jR_{D:Type}[DecidableEq D]{R:Rp D}(c:Cmp X n R)(hu:X.A.units+n+1<cLine):OpR X (compareOp .Eq) (rEqD (rL X.K R) false):=by
 intro pins s σ H x y v u Q I rx ry h;obtain⟨d,e,⟨a,xs,rfl,t,q⟩,⟨b,ys,rfl,t',q'⟩,hq⟩:=h;cases rx;cases ry;obtain⟨us,r,pl,_⟩:=I.list t;obtain⟨vs,r',pl',_⟩:=I.list t';have l1:=r.length;have l2:=r'.length;have l3:=a_3 q;have l4:=a_3 q';by_cases hl:d.length=e.length
 ·refine SeqAt.eq_listAt pl.isList pl'.isList (by simp only[am'];omega) Z1 (gg_ c I r r' q q' (A:=X.A.in1) (by show X.A.units+1+n<cLine;omega)) ⟨.bl _,H,I,rfl,?_⟩;rw[show us.toArray.size=d.length by simp only[am'];omega,d4_ hl];exact hq
 ·refine SeqAt.eq_list_lengthsAt pl.isList pl'.isList (by simp only[am',bne_iff_ne];omega) Z1 ⟨.bl _,H,I,rfl,?_⟩;have hq:Q (.bl (decide (d=e))) H:=hq;rwa [a_2 (λz=>hl (by rw[z]))] at hq
theorem e3_{D:Type}[DecidableEq D]{R:Rp D}(c:Cmp X n R)(hu:X.A.units+n+1<cLine):OpR X (compareOp .NotEq) (rEqD (rL X.K R) true):=by
 intro pins s σ H x y v u Q I rx ry h;obtain⟨d,e,⟨a,xs,rfl,t,q⟩,⟨b,ys,rfl,t',q'⟩,hq⟩:=h;cases rx;cases ry;obtain⟨us,r,pl,_⟩:=I.list t;obtain⟨vs,r',pl',_⟩:=I.list t';have l1:=r.length;have l2:=r'.length;have l3:=a_3 q;have l4:=a_3 q';have hq:Q (.bl (!decide (d=e))) H:=hq;by_cases hl:d.length=e.length
 ·refine EvN.ne_listAt pl.isList pl'.isList (by simp only[am'];omega) Z1 (gg_ c I r r' q q' (A:=X.A.in1) (by show X.A.units+1+n<cLine;omega)) ⟨.bl _,H,I,rfl,?_⟩;rw[show us.toArray.size=d.length by simp only[am'];omega,d4_ hl];exact hq
 ·refine EvN.ne_sizesAt pl.isList pl'.isList (by simp only[am',bne_iff_ne];omega) Z1 ⟨.bl _,H,I,rfl,?_⟩;rwa [a_2 (λz=>hl (by rw[z]))] at hq
def rInD(K:F__){D:Type}[DecidableEq D](R:Rp D)(neg:Bool):V->V->Hp->VK->Prop:=λx y H Q=>∃d es,R H x d/\rL K R H y es/\Q (.bl (if neg then !decide (d∈es) else decide (d∈es))) H
theorem lH_{D:Type}[DecidableEq D]{R:Rp D}(c:Cmp X n R){H:Hp}(I:Inv X pins σ H s){x:V}{u:Aa}{d:D}(ru:RelV x u)(hx:R H x d)(hu:A.units+n<cLine):∀{ys:List V} {vs:List Aa} {es:List D},Vals ys vs->Paired (R H) ys es->
  ∃f:Aa->Bool,(∀w∈vs,SeqAt.EqAt A s w u (f w))/\vs.any f=decide (d∈es):=λ{ys vs es} rv hy=>by
 let f:Aa->Bool:=λw=>@decide (∃y e,RelV y w/\R H y e/\e=d) (Classical.propDecidable _)
 have sound:∀y w e,RelV y w->R H y e->f w=decide (e=d):=λy w e h1 h2=>by
  by_cases z:e=d
  ·rw[a_1 z];exact @a_1 _ (Classical.propDecidable _) ⟨y,e,h1,h2,z⟩
  ·rw[a_2 z];refine @a_2 _ (Classical.propDecidable _) λ⟨y',e',g1,g2,g3⟩=>z ?_;have:y'=y:=RelV.inj g1 h1;subst this;rw[<- g3];exact c.one I h2 g2
 refine⟨f,?_,?_⟩
 ·induction rv generalizing es with
  |nil=>exact λw hw=>nomatch hw
  |cons h t ih=>
   cases hy with
   |cons g t'=>
    intro w hw;rcases ah'.mp hw with rfl|hw
    ·rw[sound _ _ _ h g];exact c.eq I h ru g hx hu
    ·exact ih t' w hw
 ·induction rv generalizing es with
  |nil=>
   cases hy;simp
  |cons h t ih=>
   cases hy with
   |@cons _ e _ es g t'=>
    rw[List.any_cons,ih t',sound _ _ _ h g];by_cases z:e=d
    ·subst z;simp
    ·by_cases z2:d∈es
     ·simp[z2]
     ·have:¬d∈e::es:=λq=>by
       rcases ah'.mp q with q|q
       ·exact z q.symm
       ·exact z2 q
      rw[a_2 z,a_2 z2,a_2 this];rfl
theorem gj_{D:Type}[DecidableEq D]{R:Rp D}(c:Cmp X n R)(hu:X.A.units+n+1<cLine):OpR X (compareOp .In) (rInD X.K R false):=by
 intro pins s σ H x y v u Q I rx ry h;obtain⟨d,es,hx,⟨a,ys,rfl,t,q⟩,hq⟩:=h;cases ry;obtain⟨us,r,pl,_⟩:=I.list t;obtain⟨f,h1,h2⟩:=lH_ c I (A:=X.A.in1) rx hx (by show X.A.units+1+n<cLine;omega) r q;refine SeqAt.in_listAt f pl.isList (λw hw=>h1 w (by simpa using hw)) ⟨.bl _,H,I,rfl,?_⟩;rw[show us.toArray.any f=us.any f by simp,h2];exact hq
inductive rIsi (K:F__) (xs:List V) (H:Hp) (Q:VK):Prop
 |mk:∀x T t b,xs=[x,.ty T]->TyOf K H x t->PySem.W.kitOne K t (.type T)=some b->Q (.bl b) H->rIsi K xs H Q
theorem aH_:bx' X (.builtin "isinstance") (rIsi X.K):=by
 intro pins s σ H xs us Q I r h;obtain⟨x,T,t,b,rfl,ty,e,q⟩:=h;obtain⟨u,w',rfl,ru,rw'⟩:=vals2 r;cases (show w'=Value.type T from rw');exact f1_ I ru ty e λtk=>⟨.bl b,H,I.tok tk,rfl,q⟩
inductive dq' (x:V) (y:V) (H:Hp) (Q:VK):Prop
 |mk:∀i j,x=.str i->y=.str j->Q (.bl (!decide (j.cps.toList<i.cps.toList))) H->dq' x y H Q
theorem cu_:OpR X (compareOp .LtE) dq':=by
 intro pins s σ H x y v u Q I rx ry h;obtain⟨i,j,rfl,rfl,q⟩:=h;obtain⟨t,rfl⟩:=rx;obtain⟨t',rfl⟩:=ry;exact PySem.P.le_str ⟨.bl _,H,I,rfl,q⟩
inductive tViewR (mk:Addr->Addr->HO) (Q:VK) (x:V) (H1:Hp):Prop
 |mk:∀d kvs,x=.ref d->H1 d=some (.dK kvs)->(∀v,H1 v=none->Q (.ref v) (upd H1 v (mk v d)))->tViewR mk Q x H1
def tView(mk:Addr->Addr->HO)(td:TE):TE:=λσ H Q=>td σ H λx H1=>tViewR mk Q x H1
variable{H:Hp}{d:Addr}
theorem kg_{cls:Ah}(I:Inv X pins σ H s)(φ:Heap->Prop)(hφ:φ (s.heap.push { cls:=.type cls,data:=.fields #[.ref d] }))(hs:∀h1 h2:Heap,φ h1->(∀o,h1.get? s.heap.objs.size=some o->h2.get? s.heap.objs.size=some o)->φ h2) :
  Inv X pins σ (upd H s.heap.objs.size (.ext φ)) { s with heap:=s.heap.push { cls:=.type cls,data:=.fields #[.ref d] } }:=
 I.laid (t':=s.toks) (λ_ _ q=>a_0 _ q) (ai' _) ⟨hφ,⟨_,b_0 _ rfl⟩,hs⟩
theorem df_{o:Expr}{td:TE}{apos cpos:Pos}(ho:PE X o td)(hbase:attributeBase o "items" X.env (eval o X.env)=eval o X.env:=by rfl)(hline:(apos.endLine == cpos.line)=true:=by rfl):PE X (.Call (.Attribute o "items" apos) [] [] cpos) (tView bA' td):=by
 intro pins s σ H Q I h;refine wpAny_Call_method0_late hbase hline (thn (ho pins s σ H _ I h) λv s1 ⟨x,H1,I1,r1,d,kvs,e,hd,q⟩=>?_);subst e;cases r1;obtain⟨t1,t2,t3⟩:=lE_ I1 (.inl ⟨kvs,.inl hd⟩);obtain⟨_,_,vs,rel,dd⟩:=iV_ I1.hok hd;refine⟨"dict","dict.items",PySem.F.plainAttrs_dict,PySem.F.slot_dict_items,PySem.F.type_dict_items,t1,t2,Calls.callWith_builtin rfl (PySem.evalArgs_none ?_)⟩;refine call_meetsIn PySem.F.slot_dict_items t1 PySem.F.entry_dict_items (PySem.F.args_dict_items_1 _) (meets_dict_items (bd' X.prog X.w) d t3) ⟨⟨vs,dd⟩,?_⟩;exact⟨.ref _,_,kg_ I1 _ ⟨_,b_0 _ rfl,rfl,rfl⟩ λh1 h2 ⟨o,e,r⟩ k=>⟨o,k o e,r⟩,rfl,q _ I1.fresh⟩
variable{kvs:List (Key × V)}
theorem Inv.freeze(I:Inv X pins σ H s)(h:H d=some (.dK kvs)):∃o,s.heap.get? d=some o/\Inv X pins σ (upd H d (.frz o (.dK kvs))) s:=by
 obtain⟨z,hd,vs,rel,dd⟩:=iV_ I.hok h;obtain⟨o,es,ep,ho,r⟩:=id dd;have other:∀{b u},H b=some u->u≠.dK kvs->upd H d (.frz o (.dK kvs)) b=some u:=λ{b u} e ne=>by rw[a8_ (bK_ e h ne)];exact e
 refine⟨o,ho,I.un (h':=s.heap) (t':=s.toks) ⟨λb u q _ _ _=>q,λb u q _ _ _=>⟨u.slots,q⟩,λb u q n _=>?_,λb u q _=>⟨u,q⟩,λb xs q=>other q Z2,λb u v q=>other q Z2,λb ps q=>⟨#[],by rw[Array.append_empty];exact other q Z2⟩⟩ λb u q=>?_⟩
 ·by_cases e:b=d
  ·subst e;rw[h] at n;cases n
  ·rw[a8_ e];exact n
 ·by_cases e:b=d
  ·subst e;rw[a1_] at q;cases q;exact⟨ho,z,hd,vs,rel,dd⟩
  ·rw[a8_ e] at q;exact (I.hok b u q).stay (λc v _ z=>z) (λc z=>other z Z2) λc xs z=>other z Z2
variable{o:Obj}
theorem Inv.thaw(I:Inv X pins σ H s)(h:H d=some (.frz o (.dK kvs)))(h0:∀o u,X.H₀ d≠some (.frz o u)):Inv X pins σ (upd H d (.dK kvs)) s:=by
 have other:∀{b u},H b=some u->(∀o v,u≠.frz o v)->upd H d (.dK kvs) b=some u:=λ{b u} e ne=>by rw[a8_ (bK_ e h (ne _ _))];exact e
 have none':∀{b},H b=none->upd H d (.dK kvs) b=none:=λ{b} e=>by
  rw[a8_ (λz=>by subst z;rw[h] at e;cases e)];exact e
 refine⟨I.ok,I.os,I.bare,⟨I.base.keep,I.base.slot,λb u q n hx=>none' (I.base.free b u q n hx),I.base.there,λb xs q=>other (I.base.tups b xs q) Z2,λb u v q=>?_,λb ps q=>?_⟩,I.loc,I.cell,none' I.free,λx c e=>none' (I.freeC x c e),λp hp=>?_,λb u q=>?_,I.len⟩
 ·have:=I.base.frzs b u v q;rw[a8_ (λz=>by subst z;exact h0 _ _ q)];exact this
 ·obtain⟨more,e⟩:=I.base.tbls b ps q;exact⟨more,other e Z2⟩
 ·obtain⟨a1,a2,a3⟩:=I.pin p hp;exact⟨a1,none' a2,a3⟩
 ·by_cases e:b=d
  ·subst e;rw[a1_] at q;cases q;obtain⟨ho,z,hd,vs,rel,dd⟩:=I.hok b _ h;exact⟨z,hd,vs,rel,dd⟩
  ·rw[a8_ e] at q;exact (I.hok b u q).stay (λc v _ z=>z) (λc z=>other z Z2) λc xs z=>other z Z2
theorem e8_{es:Array DictEntry}{ep:Nat}(I:Inv X pins σ H s)(h:H d=some (.frz o (.dK kvs)))(ho:o.data=.dict es ep):∃vs,KV kvs vs/\s.heap.DictAt (bd' X.prog X.w) d vs ep:=by
 obtain⟨e,z,hd,vs,rel,o',es',ep',e',c',d',r⟩:=I.hok d _ h;rw[e] at e';cases e';rw[ho] at d';cases d';exact⟨vs,rel,o,es,e,c',ho,r⟩
theorem lx_{κ:Type}{kvs:List (κ × V)}{vs:List (κ × Aa)}(r:KV kvs vs):∀(i:Nat) {k:κ} {x:V},kvs[i]? = some (k,x)->∃u,vs[i]? = some (k,u)/\RelV x u:=by
 induction r with
 |nil=>intro i k x e;simp at e
 |@cons p q _ _ h _ ih=>
  intro i k x e;cases i with
  |zero=>
   have e:p=(k,x):=by simpa using e
   subst e;refine⟨q.2,?_,h.2⟩;rw[List.getElem?_cons_zero];have h1:k=q.1:=h.1;rw[h1]
  |succ i=>exact ih i (by simpa using e)
def Its(x:Str):It:=⟨λi _=>i<x.cps.size,λi H v H'=>H'=H/\∃c,x.cps[i]? = some c/\v=.str ⟨#[c]⟩,λi _=>x.cps.size<=i⟩
variable{P:Ad}{w:Af}{K:F__}{tg:Expr}
theorem h5_(it:Addr)(x:Str)(t:Tok):Turn P w K tg (Its x) [it] it (λi h=>i<=x.cps.size/\h.IsStrIter it "str_ascii_iterator" x t i) where
 mem:=by simp
 obj:=λi h st b hb=>by
  obtain rfl:b=it:=by simpa using hb
  obtain⟨o,e,c,d⟩:=st.2;exact⟨o,e,λv z=>by rw[d] at z;cases z⟩
 keep:=λi h h' st k=>⟨st.1,let ⟨o,ho,r⟩:=st.2;⟨o,k it Z2 o ho,r⟩⟩
 item:=by
  intro X hP hw hK hc i pins s σ H E I hf st hg;subst hP hw hK;have hg:i<x.cps.size:=hg;obtain⟨f0,f1,f2,f3,f4,f5⟩:=hf it Z2;refine wpAny_pyNext_ascii_item st.2 (c:=x.cps[i]) (by simp[hg]) λh' st' sb=>?_;have I1:Inv X pins σ H { s with heap:=h',toks:=s.toks+1 }:=I.turned (t':=s.toks+1) (λb o hb e=>(sb.2 b hb).trans e) f0 f1 f3 f4 f5;obtain⟨o',e,c,dd⟩:=id st';exact⟨_,rfl,jn_ (s:={ s with heap:=h',toks:=s.toks+1 }) e c dd (by decide) ⟨.str ⟨#[x.cps[i]]⟩,H,I1,⟨_,rfl⟩,⟨rfl,_,by simp[hg],rfl⟩,⟨hg,st'⟩,λb hb=>(hf b hb).1⟩⟩
 done:=by
  intro X hP hw hK hc i pins s σ H E I hf st hg;subst hP hw hK;have hg:x.cps.size<=i:=hg;obtain⟨f0,f1,f2,f3,f4,f5⟩:=hf it Z2;exact wpAny_pyNext_ascii_end (I.ok.hd hc) st.2 (by simp[hg]) λh' eb=>⟨rfl,I.turned (t':=s.toks) (λb o hb e=>eb b o hb e) f0 f1 f3 f4 f5⟩
 self:=λ_ _ _ _ _ st h=>wpAny_pyIter_striter_ascii st.2 h
theorem ie_(it:Addr)(x:Str)(t:Tok):Turn P w K tg (Its x) [it] it (λi h=>i<=x.cps.size/\h.IsStrIter it "str_iterator" x t i) where
 mem:=by simp
 obj:=λi h st b hb=>by
  obtain rfl:b=it:=by simpa using hb
  obtain⟨o,e,c,d⟩:=st.2;exact⟨o,e,λv z=>by rw[d] at z;cases z⟩
 keep:=λi h h' st k=>⟨st.1,let ⟨o,ho,r⟩:=st.2;⟨o,k it Z2 o ho,r⟩⟩
 item:=by
  intro X hP hw hK hc i pins s σ H E I hf st hg;subst hP hw hK;have hg:i<x.cps.size:=hg;obtain⟨f0,f1,f2,f3,f4,f5⟩:=hf it Z2;refine wpAny_pyNext_wide_item st.2 (c:=x.cps[i]) (by simp[hg]) λh' st' sb=>?_;have I1:Inv X pins σ H { s with heap:=h',toks:=s.toks+1 }:=I.turned (t':=s.toks+1) (λb o hb e=>(sb.2 b hb).trans e) f0 f1 f3 f4 f5;obtain⟨o',e,c,dd⟩:=id st';exact⟨_,rfl,jn_ (s:={ s with heap:=h',toks:=s.toks+1 }) e c dd (by decide) ⟨.str ⟨#[x.cps[i]]⟩,H,I1,⟨_,rfl⟩,⟨rfl,_,by simp[hg],rfl⟩,⟨hg,st'⟩,λb hb=>(hf b hb).1⟩⟩
 done:=by
  intro X hP hw hK hc i pins s σ H E I hf st hg;subst hP hw hK;have hg:x.cps.size<=i:=hg;obtain⟨f0,f1,f2,f3,f4,f5⟩:=hf it Z2;exact wpAny_pyNext_wide_end (I.ok.hd hc) st.2 (by simp[hg]) λh' eb=>⟨rfl,I.turned (t':=s.toks) (λb o hb e=>eb b o hb e) f0 f1 f3 f4 f5⟩
 self:=λ_ _ _ _ _ st h=>wpAny_pyIter_striter_wide st.2 h
inductive iStrR (R:It->Hp->Prop) (v:V) (H1:Hp):Prop
 |mk:∀x,v=.str x->R (Its x) H1->iStrR R v H1
def iStr(tl:TE):TI:=λσ H R=>tl σ H λv H1=>iStrR R v H1
theorem eP_{l:Expr}{tl:TE}(hl:PE X l tl):PI X tg l (iStr tl):=by
 intro pins s σ H R I h;refine thn (hl pins s σ H _ I h) λv s1 ⟨y,H1,I1,r1,x,e,q⟩=>?_;subst e;obtain⟨t,rfl⟩:=r1
 have fp:∀b∈[s1.heap.objs.size],FpOk X pins H1 b:=λb hb=>by
  obtain rfl:b=s1.heap.objs.size:=by simpa using hb
  exact I1.fpOk (ai' _) (I1.hok.fresh (ai' _))
 cases ha:x.cps.all (· < 128)
 ·refine wpAny_pyIter_wide ha ?_;exact⟨s1.heap.objs.size,[s1.heap.objs.size],_,_,H1,rfl,I1.kept (t':=s1.toks) λb o e=>a_0 _ e,ie_ _ x t,⟨aN' _,_,b_0 _ rfl,rfl,rfl⟩,fp,q⟩
 ·refine wpAny_pyIter_ascii ha ?_;exact⟨s1.heap.objs.size,[s1.heap.objs.size],_,_,H1,rfl,I1.kept (t':=s1.toks) λb o e=>a_0 _ e,h5_ _ x t,⟨aN' _,_,b_0 _ rfl,rfl,rfl⟩,fp,q⟩
theorem opK{f:Aa->Aa->Sem Aa}(r:F__->R2)(h:OpR X f (r X.K))(hK:X.K=K:=by rfl):OpR X f (r K):=by
 subst hK;exact h
theorem di'{f:Aa}(r:F__->List V->Hp->VK->Prop)(h:bx' X f (r X.K))(hK:X.K=K:=by rfl):bx' X f (r K):=by
 subst hK;exact h
theorem ixK(r:F__->R2)(h:IxR X (r X.K))(hK:X.K=K:=by rfl):IxR X (r K):=by
 subst hK;exact h
abbrev eu'(K:F__):=bX' K
abbrev rTupOf(K:F__):=bN' K
theorem cListOf(hK:X.K=K:=by rfl):bx' X (.type "list") (eu' K):=di' eu' fc_ hK
theorem cTupOf(hK:X.K=K:=by rfl):bx' X (.type "tuple") (rTupOf K):=di' rTupOf eJ_ hK
theorem cn_{N:List Str}{scope:Scope}{fp:List Addr}{es:List Expr}{k:Nat}{pos:Pos}{t:TGs}(h:PGs (bo' X N scope fp s H) es t)(hc:X.calm=true:=by rfl)(hn:(assignEach es (bo' X N scope fp s H).env).length=n:=by rfl)(hst:(assignEach es (bo' X N scope fp s H).env).findIdx? (·.1)=none:=by rfl):PG (bo' X N scope fp s H) (.Tuple es k pos) (gTup X.K n t):=ch_ (X:=bo' X N scope fp s H) hc h hn hst
end L2
namespace Ev
open PySem L2
def top(i:Nat):Stmt:=PySem.Challenge.pw_evenpieces_k72_texts_of_no_web.main.body.getD i (.Pass ⟨0,0,0,0⟩)
abbrev sIsW:Stmt:=top 11
abbrev sWhole:Stmt:=top 12
abbrev sName:Stmt:=top 13
abbrev eq':Stmt:=top 14
abbrev sPair:Stmt:=top 15
abbrev dB':Stmt:=top 16
abbrev sAnew:Stmt:=top 17
abbrev sHand:Stmt:=top 21
abbrev sStr:Stmt:=top 22
abbrev sTies:Stmt:=top 23
abbrev sNear:Stmt:=top 24
abbrev sWeb:Stmt:=top 25
def ltS(a b:Str):Bool:=decide (a.cps.toList<b.cps.toList)
def ord2(a b:Str):Str × Str:=if ltS a b=true then (a,b) else (b,a)
variable{f:Addr}{fd:Ae}
variable{X:Cx}{k:Nat}{ps:List Str}{sp:Sp}{pos:Pos}{e:Expr}{es:List Expr}{t:TA}
section
variable{P:Ad}{w:Af}{K:F__}{mg:Str->Option Aa}{base:Heap}
theorem f__{N p:List Str}{c:Scope}(h:a6' N p c:=by exact⟨rfl,rfl,rfl,by decide +kernel,rfl,by decide +kernel,by decide +kernel⟩):a6' N p c:=h
theorem scLesser:a6' ["one","other"] ["one","other"] (a5' eq'):=f__
def ci':Sp:=λvs H Q _=>∃a b,vs=[.str a,.str b]/\∀t,H t=none->Q (.ref t) (upd H t (.tup [.str (ord2 a b).1,.str (ord2 a b).2]))
theorem i7_(F:Fun K "lesser_first" "lesser_first" eq' f fd):FnOk P w K mg base CX0 1 f fd ["one","other"] ci':=by
 refine F.ok scLesser (λvs H Q E h=>?_) (λcdv A outer s H vs Q E hr h=>?_)
 ·obtain⟨a,b,rfl,_⟩:=h;rfl
 ·obtain⟨a,b,rfl,k⟩:=h;refine⟨_,a5_ (af_ (g5_ (ah_ fr_ (pv 0) (pv 1) (nomark _)) (b0_ (a0_ (pv 0) (a0_ (pv 1) a2_))) (b0_ (a0_ (pv 1) (a0_ (pv 0) a2_))))),?_⟩;refine⟨_,rfl,_,rfl,a,b,rfl,rfl,_,rfl,?_⟩;refine ite2 (λc=>?_) (λc=>?_)
  ·refine⟨_,rfl,_,rfl,by show 2<=sizeLine;decide,λt ht=>?_⟩;have:=k t ht;rwa [show ord2 a b=(a,b) from b__ c] at this
  ·refine⟨_,rfl,_,rfl,by show 2<=sizeLine;decide,λt ht=>?_⟩;have:=k t ht;rwa [show ord2 a b=(b,a) from a_5 c] at this
theorem scWhole:a6' ["thing","least","most"] ["thing","least","most"] (a5' sWhole):=f__
def df':Sp:=λvs H Q _=>∃i a b:Int,vs=[.int i,.int a,.int b]/\Q (.bl (decide (a<=i)&&decide (i<=b))) H
structure Bi (mg:Str->Option Aa):Prop where
 isi:mg "isinstance"=none
 int:mg "int"=none
 bool:mg "bool"=none
 str:mg "str"=none
 tuple:mg "tuple"=none
 list:mg "list"=none
 dict:mg "dict"=none
 len:mg "len"=none
 all:mg "all"=none
 sorted:mg "sorted"=none
 max:mg "max"=none
 range:mg "range"=none
 any:mg "any"=none
 enum:mg "enumerate"=none
structure Cal (P:Ad) (w:Af) (K:F__) (mg:Str->Option Aa) (base:Heap) (k:Nat) (x:Str) (ps:List Str) (sp:Sp):Prop where
 ex:∃f fd,FnOk P w K mg base CX0 k f fd ps sp/\mg x=some (.ref f)/\PySem.W.keepIn K (.ref f)=true/\b9' K fd ps []
theorem al_{x:Str}{p:Pos}(c:Cal X.prog X.w X.K X.mg X.base k x ps sp)(hr:Room k X.A)(ha:PA X (e::es) t)(hg:Gl X x:=by rfl)(hdb:(x == ("__debug__":Str))=false:=by decide)(he:starEach (e::es) X.env=(false,eval e X.env)::starEach es X.env:=by rfl)(hpl:(backTo pos (starEach es X.env)).any (·.1)=false:=by rfl):PE X (.Call (.Name x p) (e::es) [] pos) (tCall sp [] E0 t):=by
 obtain⟨f,fd,F,m,kp,b⟩:=c.ex;exact fU_ F hr hg m kp b .nil pass0 ha hdb he hpl
theorem scIsW:a6' ["thing"] ["thing"] (a5' sIsW):=f__
def spIsW:Sp:=λvs H Q _=>∃i:Int,vs=[.int i]/\Q (.bl true) H
theorem lD_(F:Fun K "is_whole" "is_whole" sIsW f fd)(B:Bi mg):FnOk P w K mg base CX0 1 f fd ["thing"] spIsW:=by
 refine F.ok scIsW (λvs H Q E h=>?_) (λcdv A outer s H vs Q E hr h=>?_)
 ·obtain⟨i,rfl,_⟩:=h;rfl
 ·obtain⟨i,rfl,k⟩:=h;refine⟨_,a5_ (af_ (bh_ (a6_ aH_ (by rfl) B.isi PyProof.Rows.Boot.«isinstance» (a0_ (pv 0) (a0_ (aV_ (v:=.ty "int") (by rfl) B.int PyProof.Rows.Boot.«int» rfl) a2_))) (bs_ (eX_ (a6_ aH_ (by rfl) B.isi PyProof.Rows.Boot.«isinstance» (a0_ (pv 0) (a0_ (aV_ (v:=.ty "bool") (by rfl) B.bool PyProof.Rows.Boot.«bool» rfl) a2_))))))),?_⟩;exact⟨_,rfl,_,_,_,_,rfl,.int i,rfl,_,rfl,iteT ⟨_,rfl,_,_,_,_,rfl,.int i,rfl,_,rfl,k⟩⟩
theorem iZ_(F:Fun K "is_whole_within" "is_whole_within" sWhole f fd)(cI:Cal P w K mg base 1 "is_whole" ["thing"] spIsW):FnOk P w K mg base CX0 2 f fd ["thing","least","most"] df':=by
 refine F.ok scWhole (λvs H Q E h=>?_) (λcdv A outer s H vs Q E hr h=>?_)
 ·obtain⟨i,a,b,rfl,_⟩:=h;rfl
 ·obtain⟨i,a,b,rfl,k⟩:=h;refine⟨_,a5_ (af_ (bh_ (al_ cI hr (a0_ (pv 0) a2_)) (bs_ (cy_ cp_ cp_ (pv 1) (pv 0) (pv 2))))),?_⟩;refine⟨_,rfl,i,rfl,_,rfl,iteT ?_⟩;refine⟨_,rfl,_,rfl,_,_,rfl,rfl,_,rfl,?_⟩;refine ite2 (λc=>?_) (λc=>?_)
  ·refine⟨_,rfl,_,_,rfl,rfl,?_⟩;rw[c] at k;exact k
  ·rw[show decide (a<=i)=false by simpa using c] at k;exact k
def okc(c:Nat):Bool:=decide (97<=c)&&decide (c<=122)
def ba'(x:Str):Bool:=decide (1<=x.length)&&decide (x.length<=8)&&x.cps.toList.all okc
theorem scName:a6' ["thing"] ["thing"] (a5' sName):=f__
def cX':Sp:=λvs H Q _=>∃x:Str,vs=[.str x]/\x.length<=100000/\∀H',Same H H'->Q (.bl (ba' x)) H'
theorem kM_{c:Nat}:(!decide ((⟨#[c]⟩:Str).cps.toList<("a":Str).cps.toList))=decide (97<=c):=by
 have e:("a":Str).cps.toList=[97]:=by decide +kernel
 rw[e];show (!decide ([c] < [97]))=decide (97<=c);by_cases h:97<=c
 ·have:¬[c] < [97]:=by simp[aQ'];omega
  simp[this,h]
 ·have:[c] < [97]:=by simp[aQ'];omega
  simp[this,h]
theorem kN_{c:Nat}:(!decide (("z":Str).cps.toList<(⟨#[c]⟩:Str).cps.toList))=decide (c<=122):=by
 have e:("z":Str).cps.toList=[122]:=by decide +kernel
 rw[e];show (!decide ([122] < [c]))=decide (c<=122);by_cases h:c<=122
 ·have:¬[122] < [c]:=by simp[aQ'];omega
  simp[this,h]
 ·have:[122] < [c]:=by simp[aQ'];omega
  simp[this,h]
theorem km_(F:Fun K "is_name" "is_name" sName f fd)(B:Bi mg){t8:Tok}(m8:mg "MOST_LETTERS"=some (.int 8 t8)):FnOk P w K mg base CX0 1 f fd ["thing"] cX':=by
 refine F.ok scName (λvs H Q E h=>?_) (λcdv A outer s H vs Q E hr h=>?_)
 ·obtain⟨x,rfl,_⟩:=h;rfl
 ·obtain⟨x,rfl,hz,k⟩:=h;have sz:=a_9
  refine⟨_,a3_ (ak_ (cm_ (ax_ (az_ (a6_ aH_ (by rfl) B.isi PyProof.Rows.Boot.«isinstance» (a0_ (pv 0) (a0_ (aV_ (v:=.ty "str") (by rfl) B.str PyProof.Rows.Boot.«str» rfl) a2_)))))
    (bI_ (ax_ (dc_ cp_ cp_ a4_ (a6_ bg_ (by rfl) B.len b_3 (a0_ (pv 0) a2_)) (b5_ (v:=.int 8) (by rfl) m8 ⟨t8,rfl⟩))))).pt (a5_ (af_ cr_)) aa_)
   (a5_ (af_ (a6_ (cC_ rfl) (by rfl) B.all PyProof.Rows.Boot.«all» (a0_
    (aS_ ["letter"] 1 [] (eP_ (pv 0)) (λfp s H=>ac_ (i:=0) (show (["letter"]:List Str).Nodup by decide +kernel) rfl (Or.inl rfl)) (λfp s H=>aW_) (λfp s H=>cy_ cu_ cu_ a7_ (pv 0) a7_)) a2_)))),?_⟩
  refine⟨_,rfl,_,_,_,_,rfl,.str x,rfl,_,rfl,?_⟩;refine iteF ?_;refine⟨_,rfl,x,rfl,by omega,_,_,rfl,rfl,_,rfl,?_⟩
  have fin:(decide (1<=x.length)&&decide (x.length<=8))=false->∀H',Same H H'->Q (.bl false) H':=λe H' sm=>by
   have:=k H' sm;rwa [show ba' x=false by unfold ba';rw[e];rfl] at this
  refine ite2 (λc=>?_) (λc=>?_)
  ·have c1:1<=x.length:=by
    have:(1:Int)<=(x.length:Int):=by simpa using c
    omega
   refine⟨_,_,rfl,rfl,_,rfl,?_⟩;refine ite2 (λc2=>?_) (λc2=>?_)
   ·-- too long
    have c3:¬x.length<=8:=by
     have:¬((x.length:Int)<=8):=by simpa using c2
     omega
    exact fin (by rw[a_2 c3,Bool.and_false]) H (Same.refl H)
   ·have c3:x.length<=8:=by
     have:(x.length:Int)<=8:=by simpa using c2
     omega
    refine⟨_,rfl,x,rfl,λD hD=>?_⟩;refine cT_ (own:=1) (fv:=[]) rfl gok1 x.cps.size (λi out H'=>H'=upd H D (.lst out)/\out=((x.cps.toList.take i).map okc).map V.bl) ⟨rfl,by simp⟩ (λout H' ⟨e1,e2⟩=>?_) (λi out H' hi ⟨e1,e2⟩=>?_)
    ·refine⟨ai' _,D,x.cps.toList.map okc,rfl,.of ?_,?_⟩
     ·rw[e1,a1_,e2,aF' Z2]
     ·have:=k H' (by rw[e1];exact Same.new hD);rwa [show ba' x=(x.cps.toList.map okc).all id by unfold ba';rw[a_1 c1,a_1 c3,List.all_map];rfl] at this
    ·refine⟨hi,λv H2 y=>?_⟩;obtain⟨eH,c,hc,rfl⟩:=y;subst eH;refine⟨_,rfl,rfl,λNx hN=>yesT ?_⟩
     have lo:out.length<sizeLine:=by
      rw[e2];have hs:x.length=x.cps.size:=rfl;simp only[aa',af',aK'];omega
     have nx:Nx (upd H2 D (.lst (out++[V.bl (okc c)]))):=hN (out++[V.bl (okc c)]) _ ⟨by rw[e1,bZ_],by
      rw[e2,aI'];simp[hc]⟩
     have atD:H2 D=some (.lst out):=by rw[e1,a1_]
     refine⟨_,rfl,_,_,rfl,rfl,_,rfl,?_⟩;rw[kM_];refine ite2 (λc2=>?_) (λc2=>?_)
     ·refine⟨_,_,rfl,rfl,out,atD,lo,?_⟩;rw[kN_];rwa [show okc c=decide (c<=122) by unfold okc;rw[c2];rfl] at nx
     ·refine⟨out,atD,lo,?_⟩;rwa [show okc c=false by unfold okc;rw[show decide (97<=c)=false by simpa using c2];rfl] at nx
  ·have c1:¬1<=x.length:=by
    have:¬((1:Int)<=(x.length:Int)):=by simpa using c
    omega
   exact⟨_,rfl,iteT (fin (by rw[a_2 c1];rfl) H (Same.refl H))⟩
end
def kT(t:Str × Str):List Key:=[.inr t.1,.inr t.2]
def da'(t:Str × Str):Prop:=ba' t.1=true/\ba' t.2=true/\t.1≠t.2
theorem av_{x:Str}(h:ba' x=true):x.length<=8:=by
 unfold ba' at h;simp only[au',b_1] at h;exact h.1.2
theorem hpT{H:Hp}{p:Addr}{t:Str × Str}(h:H p=some (.tup ((kT t).map kV))):H p=some (.tup [.str t.1,.str t.2]):=h
variable{ks:List (List Key)}
variable{D:Addr}{o:HO}
section
variable{P:Ad}{w:Af}{K:F__}{mg:Str->Option Aa}{base:Heap}
theorem scPair:a6' ["thing"] ["thing"] (a5' sPair):=f__
def eI':Sp:=λvs H Q _=>∃(p:Addr) (a b:Str),vs=[.ref p]/\H p=some (.tup [.str a,.str b])/\a.length<=100000/\b.length<=100000/\∀H',Same H H'->Q (.bl (ba' a&&ba' b&&!decide (a=b))) H'
theorem kF_(F:Fun K "is_pair_of_names" "is_pair_of_names" sPair f fd)(B:Bi mg)(cN:Cal P w K mg base 1 "is_name" ["thing"] cX'):FnOk P w K mg base CX0 2 f fd ["thing"] eI':=by
 refine F.ok scPair (λvs H Q E h=>?_) (λcdv A outer s H vs Q E hr h=>?_)
 ·obtain⟨p,a,b,rfl,_⟩:=h;rfl
 ·obtain⟨p,a,b,rfl,hp,la,lb,k⟩:=h
  refine⟨_,a3_ (ak_ (cm_ (ax_ (az_ (a6_ aH_ (by rfl) B.isi PyProof.Rows.Boot.«isinstance» (a0_ (pv 0) (a0_ (aV_ (v:=.ty "tuple") (by rfl) B.tuple PyProof.Rows.Boot.«tuple» rfl) a2_)))))
    (bI_ (ah_ d6_ (a6_ ai_ (by rfl) B.len b_3 (a0_ (pv 0) a2_)) a4_ (nomark _)))).pt (a5_ (af_ cr_)) aa_)
   (a5_ (af_ (bh_ (al_ cN hr (a0_ (ag_ aL_ (pv 0) a4_ (λ_ _=>rfl)) a2_)) (bh_ (al_ cN hr (a0_ (ag_ aL_ (pv 0) a4_ (λ_ _=>rfl)) a2_))
    (bs_ (b7_ d6_ (ag_ aL_ (pv 0) a4_ (λ_ _=>rfl)) (ag_ aL_ (pv 0) a4_ (λ_ _=>rfl)) (nomark _))))))),?_⟩
  refine⟨_,rfl,_,_,_,_,rfl,.tup hp,rfl,_,rfl,iteF ?_⟩;refine⟨_,rfl,p,_,rfl,.inr (.of hp),rfl,_,rfl,?_⟩;refine eW' (show V.int ((2:Nat):Int)=V.int 2 from rfl) ?_;refine⟨_,rfl,p,_,_,_,rfl,rfl,.of hp,rfl,a,rfl,la,λH1 s1=>⟨_,rfl,?_⟩⟩;have hp1:=s1 _ _ hp;refine ite2 (λc=>?_) (λc=>?_)
  ·refine⟨_,rfl,p,_,_,_,rfl,rfl,.of hp1,rfl,b,rfl,lb,λH2 s2=>⟨_,rfl,?_⟩⟩;have hp2:=s2 _ _ hp1;have kk:=k H2 (s1.trans s2);refine ite2 (λc2=>?_) (λc2=>?_)
   ·refine⟨_,rfl,p,_,_,_,rfl,rfl,.of hp2,rfl,_,rfl,p,_,_,_,rfl,rfl,.of hp2,rfl,rfl,?_⟩;rw[c,c2] at kk
    have e:decide (V.str a=V.str b)=decide (a=b):=by
     by_cases z:a=b
     ·simp[z]
     ·simp[z]
    show Q (.bl (!decide (V.str a=V.str b))) H2;rw[e];exact kk
   ·rw[c,show ba' b=false by simpa using c2] at kk;exact kk
  ·have kk:=k H1 s1;rw[show ba' a=false by simpa using c] at kk;exact kk
theorem bI':a6' ["ties","found","pair","tie"] ["ties"] (a5' dB'):=f__
def cq'(K:F__):Sp:=λvs H Q _=>∃(l:Addr) (ys:List V) (ts:Xb),vs=[.ref l]/\H l=some (.lst ys)/\a8' K H ys (ts.map kT)/\(∀t∈ts,da' t)/\(ts.map λt=>kT (ord2 t.1 t.2)).Nodup/\ts.length<64 /\
 ∀l' zs H',Same H H'->H l'=none->H' l'=some (.lst zs)->a8' K H' zs (sortKs (ts.map λt=>kT (ord2 t.1 t.2)))->Q (.ref l') H'
theorem aQ_{α β γ:Type}{F:α->γ->Prop}{g:β->γ}{ys:List α}{ts:List β}(t:Paired F ys (ts.map g)){i:Nat}{y:α}(h:ys[i]? = some y):∃x,ts[i]? = some x/\F y (g x):=by
 have hi:i<ys.length:=(ac'.mp h).1;have hl:=a_3 t;rw[aa'] at hl;have:=aC_ t i hi (by rw[aa'];omega);rw[List.getElem_map] at this;refine⟨ts[i],ad' Z1,?_⟩;rw[(ac'.mp h).2] at this;exact this
theorem aN_{κ:Type}[DecidableEq κ]{kvs:List (κ × V)}{k:κ}(h:k∉kvs.map (·.1)):valV kvs k=none:=by
 cases e:valV kvs k with
 |none=>rfl
 |some v=>exact absurd (k4_ e) h
theorem ay_{α β:Type}(g:α->β){ts:List α}{i:Nat}{x:α}(h:ts[i]? = some x):(ts.take (i+1)).map g=(ts.take i).map g++[g x]:=by
 rw[aI',h,ag'];rfl
theorem c6_{α β:Type}{g:α->β}{ts:List α}{i:Nat}{x:α}(h:(ts.map g).Nodup)(hx:ts[i]? = some x):g x∉(ts.take i).map g:=by
 intro m;have hi:i<ts.length:=(ac'.mp hx).1;obtain⟨y,hy,e⟩:=ab'.mp m;obtain⟨j,hj,e2⟩:=aJ' hy;rw[af'] at hj;rw[List.getElem_take] at e2;rw[aM',aH',List.pairwise_iff_getElem] at h;refine h j i Z1 hi Z1 ?_;rw[e2,e,(ac'.mp hx).2]
theorem fn_(F:Fun K "sorted_ties" "sorted_ties" dB' f fd)(B:Bi mg)(cP:Cal P w K mg base 2 "is_pair_of_names" ["thing"] eI')(cL:Cal P w K mg base 1 "lesser_first" ["one","other"] ci'):FnOk P w K mg base CX0 3 f fd ["ties"] (cq' K):=by
 refine F.ok bI' (λvs H Q E h=>?_) (λcdv A outer s H vs Q E hr h=>?_)
 ·obtain⟨l,ys,ts,rfl,_⟩:=h;rfl
 ·obtain⟨l,ys,ts,rfl,hl,tu,good,nd,h64,k⟩:=h;have hu:=bn_ hr;have hr1:Room 1 _:=hr.mono (by decide);have sz:=a_9
  refine⟨_,a3_ (ak_ (ax_ (az_ (a6_ aH_ (by rfl) B.isi PyProof.Rows.Boot.«isinstance» (a0_ (pv 0) (a0_ (aV_ (v:=.ty "list") (by rfl) B.list PyProof.Rows.Boot.«list» rfl) a2_))))) ab_ aa_)
   (a3_ (ae_ (i:=1) bI'.nd rfl (Or.inl rfl) gw_)
   (a3_ (b2_ c_0 rfl (am_ (pv 0)) (ac_ (i:=2) bI'.nd rfl (Or.inl rfl))
    (a3_ (ak_ (ax_ (az_ (al_ cP hr (a0_ (pv 2) a2_)))) ab_ aa_)
    (a3_ (ae_ (i:=3) bI'.nd rfl (Or.inl rfl) (al_ cL hr1 (a0_ (ag_ aL_ (pv 2) a4_ (λ_ _=>rfl)) (a0_ (ag_ aL_ (pv 2) a4_ (λ_ _=>rfl)) a2_))))
    (a3_ (ak_ (bb_ (cx_ hu (pv 3) (pv 1))) ab_ aa_)
    (a5_ (ct_ hu (pv 1) (pv 3) cr_ rfl))))))
   (a5_ (af_ (a6_ (fS_ rfl) (by rfl) B.sorted PyProof.Rows.Boot.«sorted» (a0_ (pv 1) a2_)))))),?_⟩
  refine⟨_,rfl,_,_,_,_,rfl,.lst hl,rfl,_,rfl,iteF ?_⟩;intro d hd;have s0:Same H (upd H d (.dT [])):=Same.new hd;refine⟨_,rfl,l,rfl,⟨_,.of (s0 _ _ hl)⟩,aX_ (K:=K) (a:=l) (xs:=ys) (λi σ H2=>∃(v3 v4:Option V),σ=[some (.ref l),some (.ref d),v3,v4]/\Same H H2/\H2 d=some (.dT ((ts.take i).map λt=>(kT (ord2 t.1 t.2),V.bl true)))) ⟨none,none,rfl,s0,a1_⟩ (λi σ H2 _ ⟨_,_,_,s2,_⟩=>.of (s2 _ _ hl)) ?_ ?_⟩
  ·rintro i y σ H2 hy ⟨v3,v4,rfl,s2,hd2⟩;obtain⟨t,ht,a,rfl,ha⟩:=aQ_ tu hy;obtain⟨g1,g2,g3⟩:=good t (ae' ht);have ha2:=s2 _ _ (hpT ha);refine⟨_,rfl,a,t.1,t.2,rfl,ha2,by have:=av_ g1;omega,by have:=av_ g2;omega,λH3 s3=>⟨_,rfl,?_⟩⟩;have ha3:=s3 _ _ ha2;have hd3:=s3 _ _ hd2;rw[g1,g2,a_2 g3];refine iteF ?_;refine⟨_,rfl,a,_,_,_,rfl,rfl,.of ha3,rfl,_,rfl,a,_,_,_,rfl,rfl,.of ha3,rfl,t.1,t.2,rfl,λb hb=>?_⟩;have s4:Same H3 (upd H3 b (.tup [.str (ord2 t.1 t.2).1,.str (ord2 t.1 t.2).2])):=Same.new hb;have hd4:=s4 _ _ hd3;have hb4:upd H3 b (.tup [.str (ord2 t.1 t.2).1,.str (ord2 t.1 t.2).2]) b=some (.tup ((kT (ord2 t.1 t.2)).map kV)):=a1_
   have nov:valV ((ts.take i).map λt=>(kT (ord2 t.1 t.2),V.bl true)) (kT (ord2 t.1 t.2))=none:=aN_ (by
    rw[ak'];exact c6_ (g:=λt=>kT (ord2 t.1 t.2)) nd ht)
   refine⟨_,rfl,_,rfl,d,_,rfl,.t (k:=kT (ord2 t.1 t.2)) hd4 hb4,_,rfl,?_⟩;rw[nov];refine iteF ?_;refine⟨_,rfl,_,rfl,d,_,rfl,.t (k:=kT (ord2 t.1 t.2)) hd4 hb4 (by rw[aa',af'];omega),?_⟩;refine⟨_,_,rfl,λc o e=>?_,?_⟩
   ·rw[a8_ (a9_ e hd)];exact s4 _ _ (s3 _ _ (s2 _ _ e))
   ·rw[a1_,by_ _ nov,ay_ _ ht]
  ·rintro σ H2 ⟨v3,v4,rfl,s2,hd2⟩;have le:=a_3 tu;rw[aa'] at le;rw[le,ao'] at hd2;refine⟨_,rfl,d,_,[true,true],rfl,hd2,⟨by decide,λk hk=>?_⟩,by rw[aa'];exact h64,λl' zs hn tz=>?_⟩
   ·rw[ak'] at hk;obtain⟨t,_,rfl⟩:=ab'.mp hk;rfl
   ·rw[ak'] at tz;exact k l' zs _ (s2.trans (Same.new hn)) (s2.free hn) a1_ (tz.same (Same.new hn))
theorem scAnew:a6' ["ties"] ["ties"] (a5' sAnew):=f__
def eN'(K:F__):Sp:=λvs H Q _=>∃(l:Addr) (ys:List V) (ts:Xb),vs=[.ref l]/\H l=some (.lst ys)/\a8' K H ys (ts.map kT)/\ts.length<=1000 /\
 ∀l' zs H',Same H H'->H l'=none->H' l'=some (.lst zs)->a8' K H' zs (ts.map kT)->Q (.ref l') H'
theorem b4_{K:F__}{H:Hp}{ys:List V}{a:Addr}{k:List Key}(t:a8' K H ys ks)(h:H a=some (.tup (k.map kV))):a8' K H (ys++[.ref a]) (ks++[k]):=Paired.snoc t ⟨a,rfl,h⟩
theorem au_{H H1:Hp}(h:Same H H1)(hD:H D=none):Same H (upd H1 D o):=λb u e=>by rw[a8_ (a9_ e hD)];exact h b u e
theorem b1_{K:F__}{H:Hp}{ys:List V}{xs:List V}(t:a8' K H ys ks)(hD:H D=some (.lst xs)):a8' K (upd H D o) ys ks:=Paired.mapP t λy k ⟨a,z,q⟩=>⟨a,z,by rw[a8_ (bK_ q hD nofun)];exact q⟩
theorem kD_(F:Fun K "ties_anew" "ties_anew" sAnew f fd):FnOk P w K mg base CX0 1 f fd ["ties"] (eN' K):=by
 refine F.ok scAnew (λvs H Q E h=>?_) (λcdv A outer s H vs Q E hr h=>?_)
 ·obtain⟨l,ys,ts,rfl,_⟩:=h;rfl
 ·obtain⟨l,ys,ts,rfl,hl,tu,hz,k⟩:=h;have sz:=a_9
  refine⟨_,a5_ (af_ (aS_ ["one","other"] 2 [] (am_ (pv 0)) (λfp s H=>cn_ (n:=2) (aj_ (ac_ (i:=0) (show (["one","other"]:List Str).Nodup by decide +kernel) rfl (Or.inl rfl)) (aj_ (ac_ (i:=1) (show (["one","other"]:List Str).Nodup by decide +kernel) rfl (Or.inl rfl)) b3_)))
   (λfp s H=>aW_) (λfp s H=>b0_ (a0_ (pv 0) (a0_ (pv 1) a2_))))),?_⟩
  refine⟨_,rfl,l,rfl,⟨_,.of hl⟩,λD hD=>?_⟩;have le:=a_3 tu;rw[aa'] at le;refine aq_ (own:=2) (fv:=[]) (xs:=ys) rfl gok2 (λi out H'=>Same H H'/\H' D=some (.lst out)/\a8' K H' out ((ts.take i).map kT)) ⟨Same.new hD,a1_,.nil⟩ (λi out H' _ ⟨sm,_,_⟩=>.of (sm _ _ hl)) (λout H' ⟨sm,hd,tz⟩=>?_) (λi x out H' hx ⟨sm,hd,tz⟩=>?_)
  ·rw[le,ao'] at tz;exact k D out H' sm hD hd tz
  ·obtain⟨t,ht,a,rfl,ha⟩:=aQ_ tu hx;refine⟨_,⟨a,_,_,rfl,.of (sm _ _ (hpT ha)),rfl⟩,rfl,λNx hN=>yesT ?_⟩;refine⟨_,rfl,_,rfl,by show 2<=sizeLine;decide,λp hp=>⟨out,(Same.new hp) _ _ hd,?_,?_⟩⟩
   ·have:=a_3 tz;rw[aa',af'] at this;omega
   ·have hp2:upd H' p (.tup [.str t.1,.str t.2]) p=some (.tup ((kT t).map kV)):=a1_;refine hN (out++[.ref p]) _ ⟨au_ (sm.trans (Same.new hp)) hD,a1_,?_⟩;rw[ay_ _ ht];exact b1_ (b4_ (tz.same (Same.new hp)) hp2) ((Same.new hp) _ _ hd)
end
def kH(h:Str × Int):List Key:=[.inr h.1,.inl h.2]
def goodH(h:Str × Int):Prop:=ba' h.1=true/\1<=h.2/\h.2<=1000
def kvOf:List Key->Key × V
 |[k,v]=>(k,kV v)
 |_=>(.inl 0,.non)
def sortH(hs:Xa):List (Key × V):=(sortKs (hs.map kH)).map kvOf
theorem hpH{H:Hp}{p:Addr}{t:Str × Int}(h:H p=some (.tup ((kH t).map kV))):H p=some (.tup [.str t.1,.int t.2]):=h
theorem e5_:∀(more kvs:List (Key × V)),(kvs.map (·.1)++more.map (·.1)).Nodup->c2' kvs more=kvs++more
 |[],kvs,_=>by
  show kvs=kvs++[];rw[aD']
 |p::more,kvs,h=>by
  show c2' (putK kvs p.1 p.2) more=kvs++p::more
  have hn:valV kvs p.1=none:=aN_ λm=>by
   rw[aw',List.nodup_append] at h;exact h.2.2 p.1 m p.1 ap' rfl
  rw[by_ _ hn,e5_ more (kvs++[(p.1,p.2)])]
  ·simp
  ·simpa using h
theorem bp_{more:List (Key × V)}(h:(more.map (·.1)).Nodup):c2' [] more=more:=by
 rw[e5_ more [] (by simpa using h)];rfl
theorem e4_(hs:Xa):((sortH hs).map (·.1)).Perm (hs.map λh=>Sum.inr h.1):=by
 unfold sortH;rw[ak'];have p:=(aw_ (hs.map kH)).map λk=>(kvOf k).1;rw[ak'] at p;exact p
theorem dp_{hs:Xa}(h:(hs.map (·.1)).Nodup):((sortH hs).map (·.1)).Nodup:=by
 refine (e4_ hs).nodup_iff.mpr ?_;have:(hs.map λh=>(Sum.inr h.1:Key))=(hs.map (·.1)).map Sum.inr:=by rw[ak'];rfl
 rw[this,aM',aH'];exact h.imp λn e=>n (c_3 e)
theorem cL'{A:Ag}(hr:Room k A)(n:Nat)(h:n+1<=64:=by decide):A.units+n+1<cLine:=by
 have:=hr.units;omega
variable{tk:Tok}
variable{ns:List Str}
section
variable{P:Ad}{w:Af}{K:F__}{mg:Str->Option Aa}{base:Heap}
theorem scHand:a6' ["thing"] ["thing"] (a5' sHand):=f__
def eG':Sp:=λvs H Q _=>∃(p:Addr) (a:Str) (n:Int),vs=[.ref p]/\H p=some (.tup [.str a,.int n])/\a.length<=100000/\∀H',Same H H'->Q (.bl (ba' a&&(decide (1<=n)&&decide (n<=1000)))) H'
theorem kS_(F:Fun K "is_hand_with_strength" "is_hand_with_strength" sHand f fd)(B:Bi mg)(cN:Cal P w K mg base 1 "is_name" ["thing"] cX')(cW:Cal P w K mg base 2 "is_whole_within" ["thing","least","most"] df')(mS:mg "MOST_STRENGTH"=some (.int 1000 tk)) :
  FnOk P w K mg base CX0 3 f fd ["thing"] eG':=by
 refine F.ok scHand (λvs H Q E h=>?_) (λcdv A outer s H vs Q E hr h=>?_)
 ·obtain⟨p,a,b,rfl,_⟩:=h;rfl
 ·obtain⟨p,a,n,rfl,hp,la,k⟩:=h;have hr1:Room 1 _:=hr.mono (by decide)
  refine⟨_,a3_ (ak_ (cm_ (ax_ (az_ (a6_ aH_ (by rfl) B.isi PyProof.Rows.Boot.«isinstance» (a0_ (pv 0) (a0_ (aV_ (v:=.ty "tuple") (by rfl) B.tuple PyProof.Rows.Boot.«tuple» rfl) a2_)))))
    (bI_ (ah_ d6_ (a6_ ai_ (by rfl) B.len b_3 (a0_ (pv 0) a2_)) a4_ (nomark _)))).pt (a5_ (af_ cr_)) aa_)
   (a5_ (af_ (bh_ (al_ cN hr1 (a0_ (ag_ aL_ (pv 0) a4_ (λ_ _=>rfl)) a2_)) (bs_ (al_ cW hr (a0_ (ag_ aL_ (pv 0) a4_ (λ_ _=>rfl)) (a0_ a4_ (a0_ (b5_ (v:=.int 1000) (by rfl) mS ⟨tk,rfl⟩) a2_)))))))),?_⟩
  refine⟨_,rfl,_,_,_,_,rfl,.tup hp,rfl,_,rfl,iteF ?_⟩;refine⟨_,rfl,p,_,rfl,.inr (.of hp),rfl,_,rfl,?_⟩;refine eW' (show V.int ((2:Nat):Int)=V.int 2 from rfl) ?_;refine⟨_,rfl,p,_,_,_,rfl,rfl,.of hp,rfl,a,rfl,la,λH1 s1=>⟨_,rfl,?_⟩⟩;have hp1:=s1 _ _ hp;have kk:=k H1 s1;refine ite2 (λc=>?_) (λc=>?_)
  ·refine⟨_,rfl,p,_,_,_,rfl,rfl,.of hp1,rfl,n,1,1000,rfl,?_⟩;rw[c] at kk;exact kk
  ·rw[show ba' a=false by simpa using c] at kk;exact kk
theorem eX':a6' ["hands","found","hand"] ["hands"] (a5' sStr):=f__
def spStr(K:F__):Sp:=λvs H Q _=>∃(l:Addr) (ys:List V) (hs:Xa),vs=[.ref l]/\H l=some (.lst ys)/\a8' K H ys (hs.map kH)/\(∀h∈hs,goodH h)/\(hs.map (·.1)).Nodup/\1<=hs.length/\hs.length<=8 /\
 ∀d H',Same H H'->H d=none->H' d=some (.dK (sortH hs))->Q (.ref d) H'
theorem jS_(F:Fun K "checked_strengths" "checked_strengths" sStr f fd)(B:Bi mg)(cH:Cal P w K mg base 3 "is_hand_with_strength" ["thing"] eG')(mH:mg "MOST_HANDS"=some (.int 8 tk)):FnOk P w K mg base CX0 4 f fd ["hands"] (spStr K):=by
 refine F.ok eX' (λvs H Q E h=>?_) (λcdv A outer s H vs Q E hr h=>?_)
 ·obtain⟨l,ys,hs,rfl,_⟩:=h;rfl
 ·obtain⟨l,ys,hs,rfl,hl,tu,good,nd,h1,h8,k⟩:=h;have hu:=bn_ hr;have sz:=a_9;have le:=a_3 tu;rw[aa'] at le
  refine⟨_,a3_ (ak_ (cm_ (ax_ (az_ (a6_ aH_ (by rfl) B.isi PyProof.Rows.Boot.«isinstance» (a0_ (pv 0) (a0_ (aV_ (v:=.ty "list") (by rfl) B.list PyProof.Rows.Boot.«list» rfl) a2_)))))
    (bI_ (ax_ (dc_ cp_ cp_ a4_ (a6_ ai_ (by rfl) B.len b_3 (a0_ (pv 0) a2_)) (b5_ (v:=.int 8) (by rfl) mH ⟨tk,rfl⟩))))).pt ab_ aa_)
   (a3_ (ae_ (i:=1) eX'.nd rfl (Or.inl rfl) cz_)
   (a3_ (b2_ c_0 rfl (am_ (pv 0)) (ac_ (i:=2) eX'.nd rfl (Or.inl rfl))
    (a3_ (ak_ (ax_ (az_ (al_ cH hr (a0_ (pv 2) a2_)))) ab_ aa_)
    (a3_ (ak_ (bb_ (cx_ hu (ag_ aL_ (pv 2) a4_ (λ_ _=>rfl)) (pv 1))) ab_ aa_)
    (a5_ (ct_ hu (pv 1) (ag_ aL_ (pv 2) a4_ (λ_ _=>rfl)) (ag_ aL_ (pv 2) a4_ (λ_ _=>rfl)) rfl)))))
   (a5_ (af_ (aA_ (bd_ rfl) (by rfl) B.dict PyProof.Rows.Boot.«dict» (a0_ (a6_ (gV_ rfl) (by rfl) B.sorted PyProof.Rows.Boot.«sorted» (a0_ (df_ (pv 1)) a2_)) a2_)))))),?_⟩
  refine⟨_,rfl,_,_,_,_,rfl,.lst hl,rfl,_,rfl,iteF ?_⟩;refine⟨_,rfl,l,_,rfl,.inl (.of hl),_,_,rfl,rfl,_,rfl,?_⟩;rw[a_1 (show (1:Int)<=(ys.length:Int) by omega)];refine iteT ⟨_,_,rfl,rfl,_,rfl,?_⟩;rw[a_1 (show (ys.length:Int)<=8 by omega)];refine iteF ?_;intro d hd;have s0:Same H (upd H d (.dK [])):=Same.new hd;refine⟨_,rfl,l,rfl,⟨_,.of (s0 _ _ hl)⟩,aX_ (K:=K) (a:=l) (xs:=ys) (λi σ H2=>∃(v2:Option V),σ=[some (.ref l),some (.ref d),v2]/\Same H H2/\H2 d=some (.dK ((hs.take i).map λh=>(Sum.inr h.1,V.int h.2)))) ⟨none,rfl,s0,a1_⟩ (λi σ H2 _ ⟨_,_,s2,_⟩=>.of (s2 _ _ hl)) ?_ ?_⟩
  ·rintro i y σ H2 hy ⟨v2,rfl,s2,hd2⟩;obtain⟨t,ht,a,rfl,ha⟩:=aQ_ tu hy;obtain⟨g1,g2,g3⟩:=good t (ae' ht);have ha2:=s2 _ _ (hpH ha);refine⟨_,rfl,a,t.1,t.2,rfl,ha2,by have:=av_ g1;omega,λH3 s3=>⟨_,rfl,?_⟩⟩;have ha3:=s3 _ _ ha2;have hd3:=s3 _ _ hd2;rw[g1,a_1 g2,a_1 g3];refine iteF ?_
   have nov:valV ((hs.take i).map λh=>((Sum.inr h.1:Key),V.int h.2)) (Sum.inr t.1)=none:=aN_ (by
    rw[ak'];have q:=c6_ (g:=λh:Str × Int=>h.1) nd ht;intro m;obtain⟨h,hh,e⟩:=ab'.mp m;exact q (ab'.mpr ⟨h,hh,c_3 e⟩))
   refine⟨_,rfl,a,_,_,_,rfl,rfl,.of ha3,rfl,_,rfl,d,_,rfl,.k (k:=Sum.inr t.1) hd3,_,rfl,?_⟩;rw[nov];refine iteF ?_;refine⟨_,rfl,a,_,_,_,rfl,rfl,.of ha3,rfl,_,rfl,_,rfl,a,_,_,_,rfl,rfl,.of ha3,rfl,d,_,rfl,.k (k:=Sum.inr t.1) hd3 (by rw[aa',af'];omega),?_⟩;refine⟨_,rfl,λc o e=>?_,?_⟩
   ·rw[a8_ (a9_ e hd)];exact s3 _ _ (s2 _ _ e)
   ·rw[a1_,by_ _ nov,ay_ _ ht]
  ·rintro σ H2 ⟨v2,rfl,s2,hd2⟩;rw[le,ao'] at hd2;refine⟨_,rfl,d,_,rfl,hd2,λv hv=>?_⟩;have s3:Same H2 (upd H2 v (bA' v d)):=Same.new hv;refine⟨v,d,_,hs.map λh=>(Sum.inr h.1,Sum.inl h.2),[true,false],rfl,a1_,s3 _ _ hd2,by rw[ak'];rfl,⟨by decide,λq hq=>?_⟩,by rw[aa'];omega,λl' H4 zs s4 hn tz=>?_⟩
   ·rw[ak'] at hq;obtain⟨h,_,rfl⟩:=ab'.mp hq;rfl
   ·have ez:((hs.map λh=>((Sum.inr h.1:Key),(Sum.inl h.2:Key))).map λk=>[k.1,k.2])=hs.map kH:=by rw[ak'];rfl
    rw[ez] at tz
    have pz:bz' K (upd H4 l' (.lst zs)) zs (sortH hs):=by
     have shape:∀k∈sortKs (hs.map kH),∃a b,k=[a,b]:=λk hk=>by
      obtain⟨h,_,e⟩:=ab'.mp ((aw_ _).mem_iff.mp hk);exact⟨_,_,e.symm⟩
     have gen:∀(ks:List (List Key)) (zs:List V),(∀k∈ks,∃a b,k=[a,b])->a8' K (upd H4 l' (.lst zs)) zs ks->bz' K (upd H4 l' (.lst zs)) zs (ks.map kvOf):=λks=>by
      intro zs;generalize upd H4 l' (.lst zs)=HH;intro sh t
      induction t with
      |nil=>exact .nil
      |cons h t ih=>
       obtain⟨a,b,rfl⟩:=sh _ ap';exact .cons h (ih λk hk=>sh k (aj' _ hk))
     exact gen _ _ shape (tz.same (Same.new hn))
    refine⟨l',zs,_,rfl,a1_,pz,?_,λd' hd'=>?_⟩
    ·have:=(e4_ hs).length_eq;simp only[aa'] at this;omega
    ·rw[bp_ (dp_ nd)];have sAll:Same H (upd H4 l' (.lst zs)):=(s2.trans (s3.trans s4)).trans (Same.new hn);exact k d' _ (sAll.trans (Same.new hd')) (sAll.free hd') a1_
theorem cG':a6' ["ties","strengths","found","one","other"] ["ties","strengths"] (a5' sTies):=f__
inductive eO' (K:F__) (vs:List V) (H:Hp) (Q:VK) (E:XK):Prop
 |mk:∀(l d:Addr) (ys:List V) (ts:Xb) (kvs:List (Key × V)),vs=[.ref l,.ref d]->H l=some (.lst ys)->a8' K H ys (ts.map kT)->(∀t∈ts,da' t)->(ts.map λt=>kT (ord2 t.1 t.2)).Nodup->ts.length<64->H d=some (.dK kvs)->(∀t∈ts,(valV kvs (Sum.inr t.1)).isSome=true/\(valV kvs (Sum.inr t.2)).isSome=true)->(∀l' zs H',Same H H'->H l'=none->H' l'=some (.lst zs)->a8' K H' zs (sortKs (ts.map λt=>kT (ord2 t.1 t.2)))->Q (.ref l') H')->eO' K vs H Q E
theorem bl_(a b:Str):ord2 a b=(a,b)∨ord2 a b=(b,a):=by
 unfold ord2;split
 ·exact .inl rfl
 ·exact .inr rfl
theorem k5_(F:Fun K "checked_ties" "checked_ties" sTies f fd)(B:Bi mg)(cS:Cal P w K mg base 3 "sorted_ties" ["ties"] (cq' K)):FnOk P w K mg base CX0 4 f fd ["ties","strengths"] (eO' K):=by
 refine F.ok cG' (λvs H Q E h=>?_) (λcdv A outer s H vs Q E hr h=>?_)
 ·obtain⟨l,d,ys,ts,kvs,rfl,_⟩:=h;rfl
 ·obtain⟨l,d,ys,ts,kvs,rfl,hl,tu,good,nd,h64,hd,there,k⟩:=h;have hu:=bn_ hr
  refine⟨_,a3_ (ae_ (i:=2) cG'.nd rfl (Or.inl rfl) (al_ cS hr (a0_ (pv 0) a2_)))
   (a3_ (ak_ (bb_ (d0_ (pv 2))) ab_ aa_)
   (a3_ (b2_ c_0 rfl (am_ (pv 2)) (ch_ rfl (aj_ (ac_ (i:=3) cG'.nd rfl (Or.inl rfl)) (aj_ (ac_ (i:=4) cG'.nd rfl (Or.inl rfl)) b3_)))
    (a5_ (ak_ (cm_ (bb_ (cG_ hu (pv 3) (pv 1))) (bI_ (bb_ (cG_ hu (pv 4) (pv 1))))).pt ab_ aa_)))
   (a5_ (af_ (pv 2))))),?_⟩
  refine⟨_,rfl,l,ys,ts,rfl,hl,tu,good,nd,h64,λl' zs H1 s1 hf hl1 tz=>?_⟩;refine⟨_,rfl,_,rfl,iteF ?_⟩;refine⟨_,rfl,l',rfl,⟨_,.of hl1⟩,aX_ (K:=K) (a:=l') (xs:=zs) (λi σ H2=>∃(v3 v4:Option V),σ=[some (.ref l),some (.ref d),some (.ref l'),v3,v4]/\H2=H1) ⟨none,none,rfl,rfl⟩ (λi σ H2 _ ⟨_,_,_,e⟩=>by subst e;exact .of hl1) ?_ ?_⟩
  ·rintro i y σ H2 hy ⟨v3,v4,rfl,rfl⟩;have ez:=a_3 tz;have hi:i<zs.length:=(ac'.mp hy).1;obtain⟨a,e,ha⟩:=aC_ tz i hi Z1;rw[(ac'.mp hy).2] at e;subst e;obtain⟨t,ht,e⟩:=ab'.mp ((aw_ _).mem_iff.mp (List.getElem_mem (show i<(sortKs (ts.map λt=>kT (ord2 t.1 t.2))).length by omega)));rw[<- e] at ha;obtain⟨t1,t2⟩:=there t ht
   have both:(valV kvs (Sum.inr (ord2 t.1 t.2).1)).isSome=true/\(valV kvs (Sum.inr (ord2 t.1 t.2).2)).isSome=true:=by
    rcases bl_ t.1 t.2 with q|q
    ·rw[q];exact⟨t1,t2⟩
    ·rw[q];exact⟨t2,t1⟩
   have hd1:=s1 _ _ hd;refine⟨a,_,rfl,.of (hpT ha),rfl,_,_,rfl,_,_,rfl,rfl,?_⟩;refine⟨_,rfl,_,rfl,d,_,rfl,.k (k:=Sum.inr (ord2 t.1 t.2).1) hd1,_,rfl,?_⟩;rw[both.1];refine iteF ?_;refine⟨_,rfl,_,rfl,d,_,rfl,.k (k:=Sum.inr (ord2 t.1 t.2).2) hd1,_,rfl,?_⟩;rw[both.2];refine iteF ?_;exact⟨_,_,rfl,rfl⟩
  ·rintro σ H2 ⟨v3,v4,rfl,rfl⟩;exact⟨_,rfl,k l' zs _ s1 hf hl1 tz⟩
def near(ns:List Str)(ts:Xb)(n:Str):List Str:=ns.filter λo=>decide (ord2 n o∈ts)
theorem scNear:a6' ["names","ties","found","hand"] ["names","ties"] (a5' sNear):=f__
def b2'(ns:List Str)(as:List Addr):List (Key × V):=(ns.zip as).map λp=>(Sum.inr p.1,V.ref p.2)
inductive eL' (K:F__) (vs:List V) (H:Hp) (Q:VK) (E:XK):Prop
 |mk:∀(l1 l2:Addr) (ns:List Str) (zs:List V) (ts:Xb),vs=[.ref l1,.ref l2]->H l1=some (.lst (ns.map V.str))->H l2=some (.lst zs)->a8' K H zs (ts.map kT)->ns.Nodup->ns.length<=1000->l1≠l2->(∀d as H',Same H H'->H d=none->as.length=ns.length->H' d=some (.dK (b2' ns as))->(∀(i:Nat) n a,ns[i]? = some n->as[i]? = some a->H a=none/\H' a=some (.lst ((near ns ts n).map V.str)))->Q (.ref d) H')->eL' K vs H Q E
theorem it_{K:F__}{H:Hp}:∀{ts:Xb} {zs:List V},a8' K H zs (ts.map kT)->Paired (r2 K rS rS H) zs ts
 |[],_,.nil=>.nil
 |t::ts,_,.cons ⟨a,e,h⟩ r=>.cons ⟨a,_,_,e,.of (hpT h),rfl,rfl⟩ (it_ r)
theorem aE_{i:Nat}{x:V}(h:(ns.map V.str)[i]? = some x):∃n,ns[i]? = some n/\x=.str n:=by
 rw[az'] at h;cases e:ns[i]? with
 |none=>rw[e] at h;cases h
 |some n=>rw[e] at h;exact⟨n,rfl,(b_7 h).symm⟩
theorem dA_{α:Type}(p:α->Bool){l:List α}{i:Nat}{x:α}(h:l[i]? = some x):(l.take (i+1)).filter p=(l.take i).filter p++(if p x then [x] else []):=PySem.take_succ_filter p l i x h
theorem ko_(F:Fun K "neighbours_of_all" "neighbours_of_all" sNear f fd)(cL:Cal P w K mg base 1 "lesser_first" ["one","other"] ci'):FnOk P w K mg base CX0 2 f fd ["names","ties"] (eL' K):=by
 refine F.ok scNear (λvs H Q E h=>?_) (λcdv A outer s H vs Q E hr h=>?_)
 ·obtain⟨l1,l2,ns,zs,ts,rfl,_⟩:=h;rfl
 ·obtain⟨l1,l2,ns,zs,ts,rfl,hl1,hl2,tz,nd,h8,hne,k⟩:=h;have hu:=bn_ hr;have hu3:=hr.units;have sz:=a_9
  refine⟨_,a3_ (ae_ (i:=2) scNear.nd rfl (Or.inl rfl) cz_)
   (a3_ (b2_ c_0 rfl (am_ (pv 0)) (ac_ (i:=3) scNear.nd rfl (Or.inr rfl))
    (a5_ (ct_ hu (pv 2) (pv 3) (aS_ ["other","hand","ties"] 1 [3,1] (am_ (pv 0)) (λfp s H=>ac_ (i:=0) (show (["other","hand","ties"]:List Str).Nodup by decide +kernel) rfl (Or.inl rfl))
     (λfp s H=>bw_ (ah_ (opK (K:=K) (λK=>rInD K (r2 K rS rS) false) (gj_ (cmp2 cmpS cmpS) (cL' hr _))) (al_ cL hr (a0_ (pv 1) (a0_ (pv 0) a2_))) (pv 2) (by with_unfolding_all rfl))) (λfp s H=>pv 0)) rfl)))
   (a5_ (af_ (pv 2)))),?_⟩
  intro d hd;have s0:Same H (upd H d (.dK [])):=Same.new hd
  refine⟨_,rfl,l1,rfl,⟨_,.of (s0 _ _ hl1)⟩,aX_ (K:=K) (a:=l1) (xs:=ns.map V.str) (λi σ H2=>∃(v3:Option V) (as:List Addr),σ=[some (.ref l1),some (.ref l2),some (.ref d),v3]/\Same H H2/\as.length=i/\H2 d=some (.dK (b2' (ns.take i) as)) /\
   ∀(j:Nat) n a,ns[j]? = some n->as[j]? = some a->H a=none/\a≠d/\H2 a=some (.lst ((near ns ts n).map V.str))) ⟨none,[],rfl,s0,rfl,a1_,λj n a _ e=>by simp at e⟩ (λi σ H2 _ ⟨_,_,_,s2,_⟩=>.of (s2 _ _ hl1)) ?_ ?_⟩
  ·rintro i y σ H2 hy ⟨v3,as,rfl,s2,la,hd2,lists⟩;obtain⟨n,hn,rfl⟩:=aE_ hy;have hi:i<ns.length:=(ac'.mp hn).1
   have lk:(b2' (ns.take i) as).length=i:=by
    unfold b2';rw[aa',List.length_zip,af'];omega
   refine⟨_,rfl,l1,rfl,⟨_,.of (s2 _ _ hl1)⟩,λD hD=>?_⟩;refine aq_ (own:=1) (fv:=[some (.str n),some (.ref l2)]) (xs:=ns.map V.str) rfl gok1 (λj out H'=>Same H2 H'/\H' D=some (.lst out)/\out=((ns.take j).filter λo=>decide (ord2 n o∈ts)).map V.str) ⟨Same.new hD,a1_,rfl⟩ (λj out H' _ ⟨sm,_,_⟩=>.of (sm _ _ (s2 _ _ hl1))) (λout H' ⟨sm,hD',eo⟩=>?_) (λj x out H' hx ⟨sm,hD',eo⟩=>?_)
   ·rw[aa',ao'] at eo
    have nov:valV (b2' (ns.take i) as) (Sum.inr n)=none:=aN_ λm=>by
     unfold b2' at m;rw[ak'] at m;obtain⟨p,hp,e⟩:=ab'.mp m;have e:p.1=n:=c_3 e;have q:=c6_ (g:=id) (by rw[List.map_id];exact nd) hn;rw[List.map_id] at q;exact q (e▸(List.of_mem_zip hp).1)
    have neD:D≠d:=λz=>by subst z;rw[hD] at hd2;cases hd2
    refine⟨_,rfl,_,rfl,d,_,rfl,.k (k:=Sum.inr n) (sm _ _ hd2) Z1,?_⟩;refine⟨_,as++[D],rfl,λc o e=>?_,by rw[an',la];rfl,?_,λj n' a hn' ha=>?_⟩
    ·rw[a8_ (a9_ e hd)];exact sm _ _ (s2 _ _ e)
    ·rw[a1_,by_ _ nov];congr 2;unfold b2';rw[aI',hn,List.zip_append (by rw[af'];omega),ag'];rfl
    ·by_cases hj:j<as.length
     ·rw[List.getElem?_append_left hj] at ha;obtain⟨q1,q2,q3⟩:=lists j n' a hn' ha;refine⟨q1,q2,?_⟩;rw[a8_ q2];exact sm _ _ q3
     ·have hj2:j=i:=by
       have:=(ac'.mp ha).1;rw[an'] at this;simp only[List.length_singleton] at this;omega
      subst hj2;rw[List.getElem?_append_right Z1,la,Nat.sub_self] at ha;have ha:D=a:=by simpa using ha
      subst ha;rw[hn] at hn';cases hn';refine⟨s2.free hD,neD,?_⟩;rw[a8_ neD,hD',eo];rfl
   ·obtain⟨o,ho,rfl⟩:=aE_ hx;refine⟨_,rfl,rfl,λNx hN=>?_⟩;refine⟨_,rfl,_,rfl,n,o,rfl,λt ht=>?_⟩;have s3:Same H' (upd H' t (.tup [.str (ord2 n o).1,.str (ord2 n o).2])):=Same.new ht;have tz':=((tz.same s2).same sm).same s3
    have lo:out.length<sizeLine:=by
     rw[eo,aa'];have:=aW' (λo=>decide (ord2 n o∈ts)) (ns.take j);rw[af'] at this;omega
    refine⟨_,rfl,ord2 n o,ts,⟨t,_,_,rfl,.of a1_,rfl,rfl⟩,⟨l2,zs,rfl,.of (s3 _ _ (sm _ _ (s2 _ _ hl2))),it_ tz'⟩,_,rfl,?_⟩;refine ite2 (λc=>?_) (λc=>?_)
    ·refine⟨_,rfl,out,s3 _ _ hD',lo,hN _ _ ⟨au_ (sm.trans s3) hD,a1_,?_⟩⟩;have c:decide (ord2 n o∈ts)=true:=by simpa using c
     rw[dA_ _ ho,b__ c,ag',eo];rfl
    ·refine hN _ _ ⟨sm.trans s3,s3 _ _ hD',?_⟩;have c:¬decide (ord2 n o∈ts)=true:=by simpa using c
     rw[dA_ _ ho,a_5 c,aD',eo]
  ·rintro σ H2 ⟨v3,as,rfl,s2,la,hd2,lists⟩;rw[aa'] at la hd2;rw[ao'] at hd2;exact⟨_,rfl,k d as _ s2 hd la hd2 λj n a h1 h2=>⟨(lists j n a h1 h2).1,(lists j n a h1 h2).2.2⟩⟩
end
abbrev sInit:Stmt:=bG' sWeb 0
abbrev sHas:Stmt:=bG' sWeb 1
abbrev sHands:Stmt:=bG' sWeb 2
abbrev de':Stmt:=bG' sWeb 3
abbrev sTied:Stmt:=bG' sWeb 5
abbrev sTiesM:Stmt:=bG' sWeb 6
def fstK:List Key->Str
 |.inr a::_=>a
 |_=>⟨#[]⟩
def twoK:List Key->Str × Str
 |[.inr a,.inr b]=>(a,b)
 |_=>(⟨#[]⟩,⟨#[]⟩)
def a9'(hs:Xa):List Str:=(sortKs (hs.map kH)).map fstK
def tsOf(ts:Xb):Xb:=(sortKs (ts.map λt=>kT (ord2 t.1 t.2))).map twoK
theorem aZ_(ts:Xb):(tsOf ts).map kT=sortKs (ts.map λt=>kT (ord2 t.1 t.2)):=by
 unfold tsOf;rw[ak']
 have all:∀k∈sortKs (ts.map λt=>kT (ord2 t.1 t.2)),∃t:Str × Str,k=kT t:=λk hk=>by
  obtain⟨t,_,e⟩:=ab'.mp ((aw_ _).mem_iff.mp hk);exact⟨_,e.symm⟩
 generalize sortKs (ts.map λt=>kT (ord2 t.1 t.2))=l at all
 induction l with
 |nil=>rfl
 |cons k l ih=>
  obtain⟨t,rfl⟩:=all k ap';rw[aw',ih λk hk=>all k (aj' _ hk)];rfl
theorem bH_(hs:Xa):∀k∈sortKs (hs.map kH),∃h:Str × Int,h∈hs/\k=kH h:=λk hk=>by
 obtain⟨t,ht,e⟩:=ab'.mp ((aw_ _).mem_iff.mp hk);exact⟨t,ht,e.symm⟩
theorem gf_(hs:Xa):((sortH hs).map λkv=>kV kv.1)=(a9' hs).map V.str:=by
 unfold sortH a9';rw[ak',ak'];refine ax' λk hk=>?_;obtain⟨h,_,rfl⟩:=bH_ hs k hk;rfl
theorem gh_(hs:Xa):(sortH hs).map (·.1)=(a9' hs).map Sum.inr:=by
 unfold sortH a9';rw[ak',ak'];refine ax' λk hk=>?_;obtain⟨h,_,rfl⟩:=bH_ hs k hk;rfl
theorem aI_(hs:Xa):(a9' hs).Perm (hs.map (·.1)):=by
 unfold a9';have p:=(aw_ (hs.map kH)).map fstK;rw[ak'] at p;exact p
theorem c3_{κ:Type}[DecidableEq κ]{kvs:List (κ × V)}{k:κ}(h:k∈kvs.map (·.1)):(valV kvs k).isSome=true:=by
 rw[<- cD_];obtain⟨p,hp,e⟩:=ab'.mp h;exact List.any_eq_true.mpr ⟨p,hp,a_1 e⟩
theorem cR_{hs:Xa}{n:Str}:(valV (sortH hs) (Sum.inr n)).isSome=decide (n∈hs.map (·.1)):=by
 by_cases h:n∈hs.map (·.1)
 ·rw[a_1 h];refine c3_ ?_;rw[gh_];exact ab'.mpr ⟨n,(aI_ hs).mem_iff.mpr h,rfl⟩
 ·rw[a_2 h,aN_]
  ·rfl
  ·rw[gh_];intro m;obtain⟨x,hx,e⟩:=ab'.mp m;cases e;exact h ((aI_ hs).mem_iff.mp hx)
theorem n12:¬(("strength_by_hand":Str)="sorted_pairs"):=by decide +kernel
theorem n13:¬(("strength_by_hand":Str)="neighbours_by_hand"):=by decide +kernel
theorem n23:¬(("sorted_pairs":Str)="neighbours_by_hand"):=by decide +kernel
def flds(d1 l2 d3:Addr):List (Str × V):=putF "neighbours_by_hand" (.ref d3) (putF "sorted_pairs" (.ref l2) (putF "strength_by_hand" (.ref d1) []))
theorem gv_(d1 l2 d3:Addr):(flds d1 l2 d3).lookup ("strength_by_hand":Str)=some (.ref d1):=by
 unfold flds;rw[an_,a_5 n13,an_,a_5 n12,an_,b__ rfl]
theorem ll_(d1 l2 d3:Addr):(flds d1 l2 d3).lookup ("sorted_pairs":Str)=some (.ref l2):=by
 unfold flds;rw[an_,a_5 n23,an_,b__ rfl]
theorem l0_(d1 l2 d3:Addr):(flds d1 l2 d3).lookup ("neighbours_by_hand":Str)=some (.ref d3):=by
 unfold flds;rw[an_,b__ rfl]
variable{m:Str}
theorem bV_(d1 l2 d3:Addr)(h1:¬m="strength_by_hand")(h2:¬m="sorted_pairs")(h3:¬m="neighbours_by_hand"):(flds d1 l2 d3).lookup m=none:=by
 unfold flds;rw[an_,a_5 h3,an_,a_5 h2,an_,a_5 h1]
 all_goals rfl
structure bw' (K:F__) (C:Addr) (H:Hp) (p:Addr) (hs:Xa) (ts:Xb) (fp:List Addr):Prop where
 ex:∃(dx d1 l2 d3:Addr) (zs:List V) (as:List Addr),fp=p::d1::l2::d3::as/\H p=some (.ins C dx (flds d1 l2 d3))/\H d1=some (.dK (sortH hs))/\H l2=some (.lst zs)/\a8' K H zs ((tsOf ts).map kT)/\H d3=some (.dK (b2' (a9' hs) as))/\as.length=(a9' hs).length /\
  ∀(i:Nat) n a,(a9' hs)[i]? = some n->as[i]? = some a->H a=some (.lst ((near (a9' hs) (tsOf ts) n).map V.str))
variable{H':Hp}
theorem bw'.keep{K:F__}{C:Addr}{H:Hp}{p:Addr}{hs:Xa}{ts:Xb}{fp:List Addr}(W:bw' K C H p hs ts fp)(k:∀b∈fp,∀o,H b=some o->H' b=some o)(kt:∀b xs,H b=some (.tup xs)->H' b=some (.tup xs)):bw' K C H' p hs ts fp:=by
 obtain⟨dx,d1,l2,d3,zs,as,rfl,h1,h2,h3,h4,h5,h6,h7⟩:=W.ex;refine⟨dx,d1,l2,d3,zs,as,rfl,k _ Z2 _ h1,k _ Z2 _ h2,k _ Z2 _ h3,Paired.mapP h4 λy q ⟨a,e,z⟩=>⟨a,e,kt _ _ z⟩,k _ Z2 _ h5,h6,λi n a e1 e2=>k _ ?_ _ (h7 i n a e1 e2)⟩;have:=ae' e2;simp[this]
theorem bw'.same{K:F__}{C:Addr}{H:Hp}{p:Addr}{hs:Xa}{ts:Xb}{fp:List Addr}(W:bw' K C H p hs ts fp)(s:Same H H'):bw' K C H' p hs ts fp:=W.keep (λb _ o e=>s b o e) λb xs e=>s b _ e
structure Good (hs:Xa) (ts:Xb):Prop where
 hok:∀h∈hs,goodH h
 hnd:(hs.map (·.1)).Nodup
 h1:1<=hs.length
 h8:hs.length<=8
 tok:∀t∈ts,da' t
 tnd:(ts.map λt=>kT (ord2 t.1 t.2)).Nodup
 t64:ts.length<64
 tin:∀t∈ts,t.1∈hs.map (·.1)/\t.2∈hs.map (·.1)
theorem Good.nnd{hs:Xa}{ts:Xb}(G:Good hs ts):(a9' hs).Nodup:=(aI_ hs).nodup_iff.mpr G.hnd
theorem Good.nlen{hs:Xa}{ts:Xb}(G:Good hs ts):(a9' hs).length=hs.length:=by
 rw[(aI_ hs).length_eq,aa']
theorem bf_(ts:Xb):(tsOf ts).length=ts.length:=by
 unfold tsOf;rw[aa',(aw_ _).length_eq,aa']
structure Txt (K:F__) (mg:Str->Option Aa) (C:Addr):Prop where
 cl:Cls K C
 nS:bY' K C "strength_by_hand"
 nP:bY' K C "sorted_pairs"
 nN:bY' K C "neighbours_by_hand"
section
variable{P:Ad}{w:Af}{K:F__}{mg:Str->Option Aa}{base:Heap}
theorem dt':a6' ["self","hands","ties","strengths","checked"] ["self","hands","ties"] (a5' sInit):=f__
inductive eF' (K:F__) (C:Addr) (vs:List V) (H:Hp) (Q:VK) (E:XK):Prop
 |mk:∀(p dx lh lt:Addr) (ys zs:List V) (hs:Xa) (ts:Xb),vs=[.ref p,.ref lh,.ref lt]->H p=some (.ins C dx [])->H lh=some (.lst ys)->a8' K H ys (hs.map kH)->H lt=some (.lst zs)->a8' K H zs (ts.map kT)->Good hs ts->(∀fp H',(∀b o,H b=some o->b≠p->H' b=some o)->bw' K C H' p hs ts fp->(∀b∈fp,b=p∨H b=none)->Q .non H')->eF' K C vs H Q E
theorem kK_{C:Addr}(F:Fun K "__init__" "Web.__init__" sInit f fd)(T:Txt K mg C)(B:Bi mg)(cS:Cal P w K mg base 4 "checked_strengths" ["hands"] (spStr K))(cT:Cal P w K mg base 4 "checked_ties" ["ties","strengths"] (eO' K))(cN:Cal P w K mg base 2 "neighbours_of_all" ["names","ties"] (eL' K)) :
  FnOk P w K mg base CX0 5 f fd ["self","hands","ties"] (eF' K C):=by
 refine F.ok dt' (λvs H Q E h=>?_) (λcdv A outer s H vs Q E hr h=>?_)
 ·obtain⟨p,dx,lh,lt,ys,zs,hs,ts,rfl,_⟩:=h;rfl
 ·obtain⟨p,dx,lh,lt,ys,zs,hs,ts,rfl,hp,hlh,th,hlt,tt,G,k⟩:=h;have hr3:Room 3 _:=hr.mono (by decide);have hr2:Room 2 _:=hr.mono (by decide)
  refine⟨_,a3_ (ae_ (i:=3) dt'.nd rfl (Or.inl rfl) (al_ cS hr (a0_ (pv 1) a2_)))
   (a3_ (ae_ (i:=4) dt'.nd rfl (Or.inl rfl) (al_ cT hr (a0_ (pv 2) (a0_ (pv 3) a2_))))
   (a3_ (e1_ (pv 0) (pv 3) rfl) (a3_ (e1_ (pv 0) (pv 4) rfl)
   (a5_ (e1_ (pv 0) (al_ cN hr2 (a0_ (aA_ (cY_ rfl) (by rfl) B.list PyProof.Rows.Boot.«list» (a0_ (pv 3) a2_)) (a0_ (pv 4) a2_))) rfl))))),?_⟩
  refine⟨_,rfl,lh,ys,hs,rfl,hlh,th,G.hok,G.hnd,G.h1,G.h8,λd1 H1 s1 f1 hd1=>?_⟩;refine⟨_,rfl,_,rfl,lt,d1,zs,ts,_,rfl,s1 _ _ hlt,tt.same s1,G.tok,G.tnd,G.t64,hd1,λt ht=>?_,λl2 zs2 H2 s2 f2 hl2 tz=>?_⟩
  ·rw[cR_,cR_];exact⟨a_1 (G.tin t ht).1,a_1 (G.tin t ht).2⟩
  have hd12:=s2 _ _ hd1;have hp2:=s2 _ _ (s1 _ _ hp);have p1:p≠d1:=bK_ hp2 hd12 nofun;have p2:p≠l2:=bK_ hp2 hl2 nofun;refine⟨_,rfl,_,rfl,p,C,dx,[],rfl,hp2,T.cl,T.nS,by show 0<1000;decide,?_⟩;refine⟨_,rfl,_,rfl,p,C,dx,_,rfl,a1_,T.cl,T.nP,by show 1<1000;decide,?_⟩
  let H3:Hp:=upd (upd H2 p (.ins C dx (putF "strength_by_hand" (.ref d1) []))) p (.ins C dx (putF "sorted_pairs" (.ref l2) (putF "strength_by_hand" (.ref d1) [])))
  have h3:∀{b o},H2 b=some o->b≠p->H3 b=some o:=λe ne=>by
   show upd (upd H2 p _) p _ _=_;rw[a8_ ne,a8_ ne];exact e
  have h3p:H3 p=some (.ins C dx (putF "sorted_pairs" (.ref l2) (putF "strength_by_hand" (.ref d1) []))):=a1_
  have none3:∀{b},H3 b=none->H2 b=none:=λ{b} e=>by
   by_cases z:b=p
   ·subst z;rw[h3p] at e;cases e
   ·have e:upd (upd H2 p _) p _ b=none:=e;rw[a8_ z,a8_ z] at e;exact e
  have tz3:a8' K H3 zs2 ((tsOf ts).map kT):=by
   rw[aZ_];exact Paired.mapP tz λy q ⟨a,e,z⟩=>⟨a,e,h3 z (bK_ z hp2 nofun)⟩
  refine⟨_,rfl,d1,_,rfl,.inl (h3 hd12 p1.symm),λl1 hl1=>?_⟩;rw[gf_];have s4:Same H3 (upd H3 l1 (.lst ((a9' hs).map V.str))):=Same.new hl1;have ne12:l1≠l2:=(a9_ (H:=H3) (h3 hl2 p2.symm) hl1).symm;refine⟨_,rfl,l1,l2,a9' hs,zs2,tsOf ts,rfl,a1_,s4 _ _ (h3 hl2 p2.symm),tz3.same s4,G.nnd,by rw[G.nlen];have:=G.h8;omega,ne12,λd3 as H5 s5 f5 la hd3 lists=>?_⟩;have hp5:=s5 _ _ (s4 _ _ h3p);refine⟨_,rfl,p,C,dx,_,rfl,hp5,T.cl,T.nN,by show 2<1000;decide,?_⟩
  have up:∀{b o},H2 b=some o->b≠p->upd H5 p (.ins C dx (flds d1 l2 d3)) b=some o:=λe ne=>by
   rw[a8_ ne];exact s5 _ _ (s4 _ _ (h3 e ne))
  have fr5:∀{b},upd H3 l1 (.lst ((a9' hs).map V.str)) b=none->H b=none:=λe=>s1.free (s2.free (none3 (s4.free e)));have hd3p:d3≠p:=(a9_ (s4 _ _ h3p) f5).symm;refine k (p::d1::l2::d3::as) _ (λb o e ne=>up (s2 _ _ (s1 _ _ e)) ne) ⟨dx,d1,l2,d3,zs2,as,rfl,a1_,up hd12 p1.symm,up hl2 p2.symm,?_,?_,la,λi n a e1 e2=>?_⟩ λb hb=>?_
  ·exact Paired.mapP (tz3.same (s4.trans s5)) λy q ⟨a,e,z⟩=>⟨a,e,by rw[a8_ (bK_ z hp5 nofun)];exact z⟩
  ·rw[a8_ hd3p];exact hd3
  ·obtain⟨q1,q2⟩:=lists i n a e1 e2;rw[a8_ (bK_ q2 hp5 nofun)];exact q2
  ·simp only[ah'] at hb;rcases hb with rfl|rfl|rfl|rfl|hb
   ·exact .inl rfl
   ·exact .inr f1
   ·exact .inr (s1.free f2)
   ·exact .inr (fr5 f5)
   ·obtain⟨i,hi,e⟩:=aJ' hb;have e1:as[i]? = some b:=by rw[ad' hi,e]
    have hn:i<(a9' hs).length:=by omega
    exact .inr (fr5 (lists i _ b (ad' hn) e1).1)
end
structure CalM (P:Ad) (w:Af) (K:F__) (mg:Str->Option Aa) (base:Heap) (C:Addr) (k:Nat) (m:Str) (ps:List Str) (sp:Sp):Prop where
 ex:∃f fd,FnOk P w K mg base CX0 k f fd ps sp/\Meth K C m f/\b9' K fd ps []
variable{o:Expr}{apos:Pos}{ta:TE}{pl:Sem Bool}
theorem d7_{C:Addr}(c:CalM X.prog X.w X.K X.mg X.base C k m ps sp)(cl:Cls X.K C)(hr:Room k X.A)(he:PE X o ta)(ha:PA X (e::es) t)(hst:starEach (e::es) X.env=(false,eval e X.env)::starEach es X.env:=by rfl)(hpl:(backTo pos (starEach es X.env)).any (·.1)=false:=by rfl)(ht:eval (.Call (.Attribute o m apos) (e::es) [] pos) X.env=(do
   let ov <- eval o X.env
   standAt apos.atName
   let (f,first) <- holding [ov] (getMethod ov m pl)
   callWith pos f first (backTo pos (starEach (e::es) X.env)) (backToKw pos (keywordEach [] X.env))):=by rfl) :
  PE X (.Call (.Attribute o m apos) (e::es) [] pos) (tMeth C m sp [] E0 ta t):=by
 obtain⟨f,fd,F,hm,b⟩:=c.ex;exact hN_ he cl hm F hr b .nil pass0 ha hst hpl ht
theorem dX_{C:Addr}(c:CalM X.prog X.w X.K X.mg X.base C k m ps sp)(cl:Cls X.K C)(hr:Room k X.A)(he:PE X o ta)(ht:eval (.Call (.Attribute o m apos) [] [] pos) X.env=(do
   let ov <- eval o X.env
   standAt apos.atName
   let (f,first) <- holding [ov] (getMethod ov m pl)
   callWith pos f first (backTo pos (starEach [] X.env)) (backToKw pos (keywordEach [] X.env))):=by rfl) :
  PE X (.Call (.Attribute o m apos) [] [] pos) (tMeth C m sp [] E0 ta tNil):=by
 obtain⟨f,fd,F,hm,b⟩:=c.ex;exact ja_ he cl hm F hr b .nil pass0 ht
theorem gK_{hs:Xa}(nd:(hs.map (·.1)).Nodup){x:Str}{n:Int}(h:(x,n)∈hs):valV (sortH hs) (Sum.inr x)=some (.int n):=by
 have m:((Sum.inr x:Key),V.int n)∈sortH hs:=by
  unfold sortH;refine ab'.mpr ⟨kH (x,n),(aw_ _).mem_iff.mpr (ab'.mpr ⟨_,h,rfl⟩),rfl⟩
 have nk:=dp_ nd;generalize sortH hs=kvs at m nk
 induction kvs with
 |nil=>cases m
 |cons p r ih=>
  obtain⟨n1,n2⟩:=aV'.mp nk;rcases ah'.mp m with e|m
  ·rw[<- e];exact bW_ rfl
  ·rw[bL_ (λe:p.1=Sum.inr x=>n1 (ab'.mpr ⟨_,m,e.symm⟩))];exact ih m n2
variable{as:List Addr}
theorem im_(nd:ns.Nodup)(la:as.length=ns.length){i:Nat}{n:Str}(hn:ns[i]? = some n):∃a,as[i]? = some a/\valV (b2' ns as) (Sum.inr n)=some (.ref a):=by
 induction ns generalizing as i with
 |nil=>simp at hn
 |cons x ns ih=>
  cases as with
  |nil=>cases la
  |cons b as=>
   obtain⟨n1,n2⟩:=aV'.mp nd;cases i with
   |zero=>
    have e:x=n:=by simpa using hn
    subst e;exact⟨b,rfl,bW_ rfl⟩
   |succ i=>
    have hn:ns[i]? = some n:=by simpa using hn
    obtain⟨a,h1,h2⟩:=ih n2 (by simpa using la) hn;refine⟨a,by simpa using h1,?_⟩;show valV ((Sum.inr x,V.ref b)::b2' ns as) (Sum.inr n)=_;rw[bL_ λe=>n1 (by rw[show x=n from c_3 e];exact ae' hn)];exact h2
section
variable{P:Ad}{w:Af}{K:F__}{mg:Str->Option Aa}{base:Heap}
theorem scHas:a6' ["self","thing"] ["self","thing"] (a5' sHas):=f__
inductive e3' (K:F__) (C:Addr) (vs:List V) (H:Hp) (Q:VK) (E:XK):Prop
 |mk:∀(p:Addr) (x:Str) (hs:Xa) (ts:Xb) (fp:List Addr),vs=[.ref p,.str x]->bw' K C H p hs ts fp->Q (.bl (decide (x∈hs.map (·.1)))) H->e3' K C vs H Q E
theorem l3_{C:Addr}(F:Fun K "has_hand" "Web.has_hand" sHas f fd)(T:Txt K mg C)(B:Bi mg):FnOk P w K mg base CX0 1 f fd ["self","thing"] (e3' K C):=by
 refine F.ok scHas (λvs H Q E h=>?_) (λcdv A outer s H vs Q E hr h=>?_)
 ·obtain⟨p,x,hs,ts,fp,rfl,_⟩:=h;rfl
 ·obtain⟨p,x,hs,ts,fp,rfl,W,k⟩:=h;have hu:=bn_ hr;obtain⟨dx,d1,l2,d3,zs,as,rfl,h1,h2,h3,h4,h5,h6,h7⟩:=W.ex;refine⟨_,a5_ (af_ (bh_ (a6_ aH_ (by rfl) B.isi PyProof.Rows.Boot.«isinstance» (a0_ (pv 1) (a0_ (aV_ (v:=.ty "str") (by rfl) B.str PyProof.Rows.Boot.«str» rfl) a2_))) (bs_ (hE_ (cx_ hu (pv 1) (bz_ (pv 0) rfl)))))),?_⟩;refine⟨_,rfl,_,_,_,_,rfl,.str x,rfl,_,rfl,iteT ?_⟩;refine⟨_,rfl,_,rfl,p,C,dx,_,_,rfl,h1,T.cl,T.nS,gv_ _ _ _,d1,_,rfl,.k (k:=Sum.inr x) h2,?_⟩;rw[cR_];exact k
theorem scHands:a6' ["self"] ["self"] (a5' sHands):=f__
inductive dH' (K:F__) (C:Addr) (vs:List V) (H:Hp) (Q:VK) (E:XK):Prop
 |mk:∀(p:Addr) (hs:Xa) (ts:Xb) (fp:List Addr),vs=[.ref p]->bw' K C H p hs ts fp->(∀l,H l=none->Q (.ref l) (upd H l (.lst ((a9' hs).map V.str))))->dH' K C vs H Q E
theorem iL_{C:Addr}(F:Fun K "hands" "Web.hands" sHands f fd)(T:Txt K mg C)(B:Bi mg):FnOk P w K mg base CX0 1 f fd ["self"] (dH' K C):=by
 refine F.ok scHands (λvs H Q E h=>?_) (λcdv A outer s H vs Q E hr h=>?_)
 ·obtain⟨p,hs,ts,fp,rfl,_⟩:=h;rfl
 ·obtain⟨p,hs,ts,fp,rfl,W,k⟩:=h;obtain⟨dx,d1,l2,d3,zs,as,rfl,h1,h2,h3,h4,h5,h6,h7⟩:=W.ex;refine⟨_,a5_ (af_ (aA_ (cY_ rfl) (by rfl) B.list PyProof.Rows.Boot.«list» (a0_ (bz_ (pv 0) rfl) a2_))),?_⟩;refine⟨_,rfl,p,C,dx,_,_,rfl,h1,T.cl,T.nS,gv_ _ _ _,d1,_,rfl,.inl h2,λl hl=>?_⟩;rw[gf_];exact k l hl
theorem eV':a6' ["self","hand"] ["self","hand"] (a5' de'):=f__
inductive b8' (K:F__) (C:Addr) (vs:List V) (H:Hp) (Q:VK) (E:XK):Prop
 |mk:∀(p:Addr) (x:Str) (n:Int) (hs:Xa) (ts:Xb) (fp:List Addr),vs=[.ref p,.str x]->bw' K C H p hs ts fp->(hs.map (·.1)).Nodup->(x,n)∈hs->Q (.int n) H->b8' K C vs H Q E
theorem fw_{C:Addr}(F:Fun K "strength" "Web.strength" de' f fd)(T:Txt K mg C)(cH:CalM P w K mg base C 1 "has_hand" ["self","thing"] (e3' K C)):FnOk P w K mg base CX0 2 f fd ["self","hand"] (b8' K C):=by
 refine F.ok eV' (λvs H Q E h=>?_) (λcdv A outer s H vs Q E hr h=>?_)
 ·obtain⟨p,x,n,hs,ts,fp,rfl,_⟩:=h;rfl
 ·obtain⟨p,x,n,hs,ts,fp,rfl,W,nd,hx,k⟩:=h;have hu:=bn_ hr;obtain⟨dx,d1,l2,d3,zs,as,rfl,h1,h2,h3,h4,h5,h6,h7⟩:=id W.ex;refine⟨_,a3_ (ak_ (ax_ (az_ (d7_ cH T.cl hr (pv 0) (a0_ (pv 1) a2_)))) ab_ aa_) (a5_ (af_ (cL_ hu (bz_ (pv 0) rfl) (pv 1) (λ_ _=>rfl)))),?_⟩;refine⟨_,rfl,p,dx,_,rfl,h1,bV_ _ _ _ Z0 Z0 Z0,_,rfl,p,x,hs,ts,_,rfl,W,_,rfl,?_⟩;rw[a_1 (ab'.mpr ⟨_,hx,rfl⟩)];refine iteF ?_;refine⟨_,rfl,p,C,dx,_,_,rfl,h1,T.cl,T.nS,gv_ _ _ _,_,rfl,d1,_,rfl,?_,k⟩;rw[<- gK_ nd hx];exact .k (k:=Sum.inr x) h2
theorem lA_{H:Hp}{hs:Xa}{ts:Xb}{x:Str}(nd:(a9' hs).Nodup)(hx:x∈hs.map (·.1))(la:as.length=(a9' hs).length)(h7:∀(i:Nat) n a,(a9' hs)[i]? = some n->as[i]? = some a->H a=some (.lst ((near (a9' hs) (tsOf ts) n).map V.str))):∃a,valV (b2' (a9' hs) as) (Sum.inr x)=some (.ref a)/\H a=some (.lst ((near (a9' hs) (tsOf ts) x).map V.str)):=by
 obtain⟨i,hi,e⟩:=aJ' ((aI_ hs).mem_iff.mpr hx);have hn:(a9' hs)[i]? = some x:=by rw[ad' hi,e]
 obtain⟨a,h1,h2⟩:=im_ nd la hn;exact⟨a,h2,h7 i x a hn h1⟩
theorem scTied:a6' ["self","one","other"] ["self","one","other"] (a5' sTied):=f__
theorem eB_{H:Hp}:∀ns:List Str,Paired (rS H) (ns.map V.str) ns
 |[]=>.nil
 |_::ns=>.cons rfl (eB_ ns)
theorem scTiesM:a6' ["self"] ["self"] (a5' sTiesM):=f__
inductive dN' (K:F__) (C:Addr) (vs:List V) (H:Hp) (Q:VK) (E:XK):Prop
 |mk:∀(p:Addr) (hs:Xa) (ts:Xb) (fp:List Addr),vs=[.ref p]->bw' K C H p hs ts fp->ts.length<64->(∀l zs H',Same H H'->H l=none->H' l=some (.lst zs)->a8' K H' zs ((tsOf ts).map kT)->Q (.ref l) H')->dN' K C vs H Q E
theorem ji_{C:Addr}(F:Fun K "ties" "Web.ties" sTiesM f fd)(T:Txt K mg C)(cA:Cal P w K mg base 1 "ties_anew" ["ties"] (eN' K)):FnOk P w K mg base CX0 2 f fd ["self"] (dN' K C):=by
 refine F.ok scTiesM (λvs H Q E h=>?_) (λcdv A outer s H vs Q E hr h=>?_)
 ·obtain⟨p,hs,ts,fp,rfl,_⟩:=h;rfl
 ·obtain⟨p,hs,ts,fp,rfl,W,h64,k⟩:=h;obtain⟨dx,d1,l2,d3,zs,as,rfl,h1,h2,h3,h4,h5,h6,h7⟩:=W.ex;refine⟨_,a5_ (af_ (al_ cA hr (a0_ (bz_ (pv 0) rfl) a2_))),?_⟩;exact⟨_,rfl,p,C,dx,_,_,rfl,h1,T.cl,T.nP,ll_ _ _ _,l2,zs,tsOf ts,rfl,h3,h4,by rw[bf_];omega,k⟩
end
end Ev
namespace L2
open PySem PySem.Spec PyProof.Rows PySem.W
def Ite(K:F__)(a:Addr):It:=
 ⟨λi H=>∃xs x,SqL K H a xs/\xs[i]? = some x,λi H y H'=>∃t x,y=.ref t/\H t=none/\(∀xs,SqL K H a xs->xs[i]? = some x)/\H'=upd H t (.tup [.int i,x]),λi H=>∃xs,SqL K H a xs/\xs.length=i⟩
variable{X:Cx}{pins:List (Addr × Obj)}{σ:St}{s:Ab}{h':Heap}{t':Nat}{fp:List Addr}
theorem Inv.turnedN{H:Hp}{T:Addr}{xs:List V}{its:List Aa}(I:Inv X pins σ H s)(k:∀b o,b∉fp->s.heap.get? b=some o->h'.get? b=some o)(hf:∀b∈fp,FpOk X pins H b)(hT:s.heap.objs.size<=T)(hz:xs.length<=sizeLine)(r:Vals xs its)(ht:IsTup h' T its.toArray/\∃o,h'.get? T=some o/\o.dict=none):Inv X pins σ (upd H T (.tup xs)) { s with heap:=h',toks:=t' }:=by
 have fT:H T=none:=I.hok.fresh hT;have nf:∀b u,H b=some u->b∉fp:=λb u e hb=>by rw[(hf b hb).1] at e;cases e
 have old:∀{b u},H b=some u->upd H T (.tup xs) b=some u:=λe=>by rw[a8_ (a9_ e fT)];exact e
 refine I.step (g':=s.gens) (d':=s.drawn) (ch:=fp) (λb hb=>?_) (λb o _ _ hc e _=>k b o hc e) (λb o _ _ hc e _=>⟨o.slots,k b o hc e⟩) (λb o _ e n=>?_)
  (λb o hc e=>⟨o,k b o hc e⟩) (λb ys e=>old e) (λb o u e=>old e) (λb ps e=>⟨#[],by rw[Array.append_empty];exact old e⟩) (λm hm=>?_) (λb u e=>?_) I.bare
 ·obtain⟨f0,f1,f2,f3,f4,f5⟩:=hf b hb;exact⟨f3,f1,f4,f5⟩
 ·rw[a8_ (λz=>by subst z;exact absurd (a_6 e) (Nat.not_lt.mpr hT))];exact n
 ·obtain⟨o,es,ep,ho,r⟩:=hm;exact⟨o,es,ep,k _ o (λhb=>(hf _ hb).2.1 rfl) ho,r⟩
 ·by_cases z:b=T
  ·subst z;rw[a1_] at e;cases e;exact⟨hz,its,r,ht⟩
  ·rw[a8_ z] at e;refine (I.hok b u e).stay (λc v hc q=>k c v ?_ q) (λ_ q=>old q) λ_ _ q=>old q;rcases hc with z|z
   ·rw[z];exact nf b u e
   ·exact nf c _ z
theorem Inv.turnedF{H:Hp}(I:Inv X pins σ H s)(k:∀b o,b∉fp->s.heap.get? b=some o->h'.get? b=some o)(hf:∀b∈fp,FpOk X pins H b):Inv X pins σ H { s with heap:=h',toks:=t' }:=by
 have nf:∀b u,H b=some u->b∉fp:=λb u e hb=>by rw[(hf b hb).1] at e;cases e
 refine I.step (g':=s.gens) (d':=s.drawn) (ch:=fp) (λb hb=>?_) (λb o _ _ hc e _=>k b o hc e) (λb o _ _ hc e _=>⟨o.slots,k b o hc e⟩) (λb o _ e n=>n)
  (λb o hc e=>⟨o,k b o hc e⟩) (λb ys e=>e) (λb o u e=>e) (λb ps e=>⟨#[],by rw[Array.append_empty];exact e⟩) (λm hm=>?_) (λb u e=>?_) I.bare
 ·obtain⟨f0,f1,f2,f3,f4,f5⟩:=hf b hb;exact⟨f3,f1,f4,f5⟩
 ·obtain⟨o,es,ep,ho,r⟩:=hm;exact⟨o,es,ep,k _ o (λhb=>(hf _ hb).2.1 rfl) ho,r⟩
 ·refine (I.hok b u e).stay (λc v hc q=>k c v ?_ q) (λ_ q=>q) λ_ _ q=>q;rcases hc with z|z
  ·rw[z];exact nf b u e
  ·exact nf c _ z
variable{P:Ad}{elts:List Expr}{k:Nat}{pos:Pos}
theorem hs_{w:Af}{K:F__}(a e it:Addr)(h1:e≠it)(h2:a≠e)(h3:a≠it):Turn P w K (.Tuple elts k pos) (Ite K a) [e,it] e (λi h=>(∃old,IsEnum h e it i old)/\h.IsListIter it a i) where
 mem:=by simp
 obj:=λi h st b hb=>by
  obtain⟨⟨old,q⟩,o,e2,c,d⟩:=st;rcases ah'.mp hb with rfl|hb
  ·exact⟨_,q,λv z=>by cases z⟩
  ·obtain rfl:b=it:=by simpa using hb
   exact⟨o,e2,λv z=>by rw[d] at z;cases z⟩
 keep:=λi h h' st kk=>by
  obtain⟨⟨old,q⟩,st2⟩:=st;exact⟨⟨old,kk e Z2 _ q⟩,st2.at λo q2=>kk it Z2 o q2⟩
 item:=by
  intro X hP hw hK hc i pins s σ H E I hf st hg;subst hP hw hK;obtain⟨xs,x,hq,hx⟩:=hg;obtain⟨its,rv,p,hz⟩:=I.list hq;obtain⟨u,hu,ru⟩:=rv.get hx;have W:=WalksT.enumerate (prog:=X.prog) (w:=X.w) (A:=X.A) (I.ok.hd hc) e it a h1 h2 h3 its.toArray
  have hi:i<its.toArray.size:=by
   simp only[am'];exact (ac'.mp hu).1
  obtain⟨old,he⟩:=st.1;have hit:=st.2;refine wpAny_pyNext_enum_item he hit p.isList (x:=u) (by rw[List.getElem?_toArray];exact hu) h1 λh' ho hit' hTo hsz hk=>?_;have helt:e<s.heap.objs.size:=a_6 he;have hilt:it<s.heap.objs.size:=by obtain⟨_,x,_⟩:=hit;exact a_6 x
  have mid:(∃x,IsEnumOut h' e it ((i:Int)+1) x s.heap.objs.size)/\h'.IsListIter it a (i+1)/\h'.IsList a its.toArray/\s.heap.objs.size≠e/\s.heap.objs.size≠it:=⟨⟨_,ho⟩,hit',p.isList.at λo x=>hk a o h2 h3 x,a4' helt,a4' hilt⟩;have kk:∀b o,b∉[e,it]->s.heap.get? b=some o->h'.get? b=some o:=λb o hb x=>hk b o (λe'=>hb (by simp[e'])) (λe'=>hb (by simp[e'])) x;have isT:h'.IsTuple s.heap.objs.size #[.int i s.toks,u]:=⟨_,hTo,rfl,_,rfl⟩;obtain⟨T,eT⟩:∃T,T=s.heap.objs.size:=⟨_,rfl⟩;obtain⟨t,et⟩:∃t,t=s.toks:=⟨_,rfl⟩;obtain⟨tk,htk⟩:∃tk,tk=s.toks+1:=⟨_,rfl⟩;rw[<- eT] at isT mid hTo ⊢;have hT:s.heap.objs.size<=T:=Nat.le_of_eq eT.symm;rw[<- et] at isT hTo;rw[<- htk];refine⟨_,rfl,W.go elts k pos i T { s with heap:=h',toks:=tk } _ _ mid λh2' st' kk2=>?_⟩;have nT:T∉[e,it]:=W.apart i T h' mid
  have isT2:h2'.IsTuple T #[.int i t,u]:=by
   obtain⟨o,q,r⟩:=isT;exact⟨o,kk2 T o nT q,r⟩
  have I1:Inv X pins σ (upd H T (.tup [.int i,x])) { s with heap:=h2',toks:=tk }:=I.turnedN (t':=tk) (fp:=[e,it]) (its:=[.int i t,u]) (λb o hb q=>kk2 b o hb (kk b o hb q)) hf hT (by show 2<=sizeLine;decide) (.cons ⟨t,rfl⟩ (.cons ru .nil)) ⟨isT2,_,kk2 T _ nT hTo,rfl⟩;refine⟨.ref T,_,I1,rfl,⟨T,x,rfl,I.hok.fresh hT,λys hy=>by rw[I.list_inj hy hq];exact hx,rfl⟩,⟨?_,st'.2.1⟩,λb hb=>?_⟩
  ·obtain⟨old,q⟩:=st'.1;exact⟨old,by simpa using q⟩
  ·rw[a8_ (λz:b=T=>nT (by rw[<- z];exact hb))];exact (hf b hb).1
 done:=by
  intro X hP hw hK hc i pins s σ H E I hf st hg;subst hP hw hK;obtain⟨xs,hq,hx⟩:=hg;obtain⟨its,rv,p,hz⟩:=I.list hq;have W:=WalksT.enumerate (prog:=X.prog) (w:=X.w) (A:=X.A) (I.ok.hd hc) e it a h1 h2 h3 its.toArray
  have hn:its.toArray.size=i:=by
   have:=rv.length;simp only[am'];omega
  refine W.done s _ _ (by rw[hn];exact⟨st.1,st.2,p.isList⟩) λh' tk kk=>⟨rfl,I.turnedF (t':=tk) (fp:=[e,it]) kk hf⟩
 self:=λA i s Q E st h=>by
  obtain⟨old,q⟩:=st.1;exact wpAny_pyIter_enum q h
inductive iEnumR (K:F__) (R:It->Hp->Prop) (vs:List V) (H1:Hp):Prop
 |mk:∀a,vs=[.ref a]->(∃xs,SqL K H1 a xs)->R (Ite K a) H1->iEnumR K R vs H1
def iEnum(K:F__)(ta:TA):TI:=λσ H R=>ta σ H λvs H1=>iEnumR K R vs H1
theorem kt_{kk:Nat}{p2:Pos}{a:Expr}{ta:TA}{p:Pos}(hg:Gl X "enumerate")(hm:X.mg "enumerate"=none)(ha:PA X [a] ta)(hs:starEach [a] X.env=[(false,eval a X.env)]:=by rfl):PI X (.Tuple elts kk p2) (.Call (.Name "enumerate" p) [a] [] pos) (iEnum X.K ta):=by
 intro pins s σ H R I h;refine Call_ (dU_ I hg hm boot_enumerate (PyProof.Rows.callWith_type1 (thn (ha pos pins s σ H _ I h) λus s1 ⟨vs,H1,I1,r1,q1⟩=>?_) hs rfl));obtain⟨l,e,⟨xs,hq⟩,q⟩:=q1;subst e;cases r1 with
 |cons r rr=>
  cases rr;cases r;obtain⟨its,rv,pl,hz⟩:=I1.list hq;have ll:l<s1.heap.objs.size:=by obtain⟨_,e,_⟩:=pl.isList;exact a_6 e
  refine call_enumerate_list pl.isList λh' he hi hn kp=>?_;refine wpAny_pyIter_enum he ?_;refine⟨s1.heap.objs.size+1,[s1.heap.objs.size+1,s1.heap.objs.size],_,_,H1,rfl,I1.kept (t':=s1.toks) kp,hs_ l _ _ (Nat.succ_ne_self _) (av' (Nat.lt_succ_of_lt ll)) (av' ll),⟨⟨_,he⟩,hi⟩,λb hb=>?_,q⟩
  have e:s1.heap.objs.size<=b:=by
   rcases ah'.mp hb with rfl|hb
   ·exact Nat.le_succ _
   ·obtain rfl:b=s1.heap.objs.size:=by simpa using hb
    exact ai' _
  exact I1.fpOk e (I1.hok.fresh e)
variable{a:Addr}
theorem jJ_{K:F__}{xs:List V}{g:TG}{tb:TS}{D:Ends}{H:Hp}(Pv:Nat->St->Hp->Prop)(h0:Pv 0 σ H)(hl:∀i σ H,i<=xs.length->Pv i σ H->SqL K H a xs)(hs:∀i x σ H,xs[i]? = some x->Pv i σ H->∀t,H t=none->g (.ref t) σ (upd H t (.tup [.int i,x])) λσ2 H2=>tb { D with nx:=Pv (i+1),ct:=Pv (i+1),bk:=D.nx } σ2 H2)(hd:∀σ H,Pv xs.length σ H->D.nx σ H) :
  ∃W:Nat->Nat->St->Hp->Prop,(∃m,W 0 m σ H)/\∀i m σ H,W i m σ H->
   ((Ite K a).stop i H/\D.nx σ H)∨((Ite K a).go i H/\∃N:St->Hp->Prop,(∀σ' H',N σ' H'->∃m',m'<m/\W (i+1) m' σ' H')/\∀x H',(Ite K a).yld i H x H'->g x σ H' λσ2 H2=>tb { D with nx:=N,ct:=N,bk:=D.nx } σ2 H2):=by
 refine⟨λi m σ H=>m=xs.length - i/\i<=xs.length/\Pv i σ H,⟨xs.length,by simp,aN' _,h0⟩,?_⟩;rintro i m σ H ⟨rfl,hi,p⟩;have q:=hl i σ H hi p;by_cases hlt:i<xs.length
 ·refine .inr ⟨⟨xs,xs[i],q,by simp[hlt]⟩,Pv (i+1),λσ' H' p'=>⟨xs.length - (i+1),by omega,rfl,hlt,p'⟩,λx H' y=>?_⟩;obtain⟨t,x,rfl,ht,y,rfl⟩:=y;exact hs i x σ H (y xs q) p t ht
 ·have e:i=xs.length:=by omega
  subst e;exact .inl ⟨⟨xs,q,rfl⟩,hd σ H p⟩
def TrE(h base:Heap)(e:Addr)(cls cx fl:Aa):Prop:=∃oe vs T oT ts,h.get? e=some oe/\(oe.cls=cls/\oe.dict=none)/\oe.data=Data.fields vs/\vs[1]? = some (Value.ref T)/\vs[2]? = some cx/\base.get? T=none/\T≠e/\h.get? T=some oT/\oT.data=Data.fields ts/\ts[3]? = some fl
def FlC(base:Heap)(l:List Env)(e:Addr)(cls cx fl:Aa)(h:Heap):Prop:=base.StaysIn h/\base.get? e=none/\h.FunFrames base l/\TrE h base e cls cx fl
abbrev FlE(base:Heap)(l:List Env)(e:Addr)(cls fl:Aa)(h:Heap):Prop:=FlC base l e cls Value.none fl h
variable{base h:Heap}{l:List Env}{e:Addr}{cls cx fl:Aa}
theorem FlC.less{env:Env}(f:FlC base (env::l) e cls cx fl h):FlC base l e cls cx fl h:=⟨f.1,f.2.1,f.2.2.1.2.2,f.2.2.2⟩
theorem FlC.obj(f:FlC base l e cls cx fl h):∃oe vs,h.get? e=some oe/\oe.cls=cls/\oe.data=Data.fields vs/\oe.dict=none/\vs[2]? = some cx:=by
 obtain⟨_,_,_,oe,vs,T,oT,ts,h1,h2,h3,h4,h5,_⟩:=f;exact⟨oe,vs,h1,h2.1,h3,h2.2,h5⟩
theorem FlE.w(f:FlE base l e cls Value.none h):∃a0,Heap.FlyingW base l e cls a0 h:=by
 obtain⟨f1,f2,f3,oe,vs,T,oT,ts,he,⟨hc,_⟩,hd,h1,h2,hnT,hTe,hT,hdT,h3⟩:=f;have z:0<vs.size:=ar' (by decide) (aB'.mp h2).1;exact⟨vs[0],f1,f2,f3,oe,vs,T,oT,ts,he,⟨hc,Array.getElem?_eq_getElem z⟩,hd,h1,hnT,hTe,hT,hdT,h3⟩
def FlB(base:Heap)(l:List Env)(e:Addr)(cls a0:Aa)(h:Heap):Prop:=Heap.FlyingW base l e cls a0 h/\FlE base l e cls Value.none h
theorem FlE.b(f:FlE base l e cls Value.none h):∃a0,FlB base l e cls a0 h:=by
 obtain⟨a0,q⟩:=f.w;exact⟨a0,q,f⟩
section
variable{M:Model}{A:Ag}{E:Aa->Ab->Prop}{s:Ab}{base:Heap}{env:Env}{outer:List Env}{L e:Addr}{cls cx fl:Aa}{Q:Unit->Ab->Prop}
theorem entryE{oe:Obj}{vs:Array Aa}{head:Aa}{hadNext:Bool}(hfr:A.frames=some (env::outer))(hl:s.heap.FunFrames base (env::outer))(hf:env.frame=some L)(he:s.heap.get? e=some oe)(hkb:base.StaysIn s.heap)(hen:base.get? e=none)(hd:oe.data=Data.fields vs)(hdd:oe.dict=none)(h2:vs[2]? = some cx)
  (h:∀h',FlC base (env::outer) e oe.cls cx (rawInt L) h'->s.heap.UpToSlots h'->Q () { s with heap:=h' }) :
  wpAny M A (do
   let a <- PySem.frameOf env
   let pl <- entryPlaceOf L hadNext
   let b <- EntryCells.newEntry head a Value.none (rawInt L) Value.none pl
   setField (Value.ref e) 1 b) Q E s:=by
 have hsz:1<vs.size:=ar' (by decide) (aB'.mp h2).1
 have hene:e∉List.filterMap (λx=>x.frame) (env::outer):=λhm=>by
  obtain⟨_,o,ho,hnf⟩:=Heap.FunFrames.mem hl hm;rw[he] at ho;cases ho;exact hnf vs hd
 refine a__ (wpAny_frameOf_fun hfr hl hf λh₁ hs₁=>a__ (wpAny_entryPlaceOf λpl hpl=>?_));unfold EntryCells.newEntry newFields;have hsz1:h₁.objs.size=s.heap.objs.size:=hs₁.1;have he₁:=(hs₁.right.left e hene).trans he;have hlt:∀b o,s.heap.get? b=some o->b≠h₁.objs.size:=λb o q=>av' (by rw[hsz1];exact a_6 q)
 have hbn:base.get? h₁.objs.size=none:=by
  cases q:base.get? h₁.objs.size with
  |none=>rfl
  |some o=>exact absurd rfl (hlt _ o (hkb _ o q))
 have hbase:∀b o,base.get? b=some o->h₁.get? b=some o:=λb o q=>(hs₁.right.left b (λhm=>by
  have:=(Heap.FunFrames.mem hl hm).1;rw[q] at this;cases this)).trans (hkb b o q)
 obtain⟨tbs,htb,ht3⟩:∃tbs:Array Aa,([head,Value.ref L,Value.none,rawInt ↑L,Value.none]++if pl.isEmpty=true then List.replicate 6 Value.none else pl).toArray=tbs/\tbs[3]? = some (rawInt ↑L):=⟨_,rfl,by simp⟩
 have hts:tbs.size<=sizeLine+2:=by
  rw[<- htb];rcases hpl with rfl|⟨a,b,c,d,c9,b10,_,rfl⟩
  ·show 11<=sizeLine+2;decide
  ·show 11<=sizeLine+2;decide
 refine a__ (wpAny_newObj_type ?_ (by rw[htb];exact hts));rw[htb];have he₂:(h₁.push { cls:=Value.type "traceback",data:=Data.fields tbs }).get? e=some oe:=a_0 _ he₁;have hn₂:(h₁.push { cls:=Value.type "traceback",data:=Data.fields tbs }).get? h₁.objs.size=some { cls:=Value.type "traceback",data:=Data.fields tbs }:=b_0 h₁ rfl;have hTe:h₁.objs.size≠e:=(hlt e oe he).symm;refine d_8 he₂ hd hsz ?_;have hd₃:=d_4 hd λx=>x.setIfInBounds 1 (Value.ref h₁.objs.size);have he₃:=c_2 (Obj.mapFields λx=>x.setIfInBounds 1 (Value.ref h₁.objs.size)) he₂ (d_1 hd₃);have hn₃:=(b_5 (h₁.push { cls:=Value.type "traceback",data:=Data.fields tbs }) (Obj.mapFields λx=>x.setIfInBounds 1 (Value.ref h₁.objs.size)) hTe.symm).trans hn₂
 have oth:∀b o,b≠e->h₁.get? b=some o->((h₁.push { cls:=Value.type "traceback",data:=Data.fields tbs }).update e (Obj.mapFields λx=>x.setIfInBounds 1 (Value.ref h₁.objs.size))).get? b=some o:=λb o n1 q=>
  (b_5 _ _ n1.symm).trans (a_0 _ q)
 have hec:((Obj.mapFields λx=>x.setIfInBounds 1 (Value.ref h₁.objs.size)) oe).cls=oe.cls/\((Obj.mapFields λx=>x.setIfInBounds 1 (Value.ref h₁.objs.size)) oe).dict=oe.dict:=by
  obtain⟨c,dt,da,sl⟩:=oe;have:da=Data.fields vs:=hd;subst this;exact⟨rfl,rfl⟩
 have ups:∀b o,s.heap.get? b=some o->(∀vs,o.data≠Data.fields vs)->∃sl,((h₁.push { cls:=Value.type "traceback",data:=Data.fields tbs }).update e (Obj.mapFields λx=>x.setIfInBounds 1 (Value.ref h₁.objs.size))).get? b=some { cls:=o.cls,dict:=o.dict,data:=o.data,slots:=sl }:=λb o q nf=>by
  obtain⟨sl,q1⟩:=hs₁.right.right b o q;refine⟨sl,oth b _ (λz=>?_) q1⟩;subst z;rw[he] at q;cases q;exact nf vs hd
 refine h _ ⟨λb o q=>oth b o (λz=>?_) (hbase b o q),hen,d_7 (λb o q nf=>?_) hl,⟨_,_,h₁.objs.size,_,_,he₃,⟨hec.1,hec.2.trans hdd⟩,hd₃,?_,?_,hbn,hTe,hn₃,rfl,ht3⟩⟩ ups
 ·subst z;rw[hen] at q;cases q
 ·obtain⟨sl,q1⟩:=ups b o q nf;exact⟨_,q1,rfl⟩
 ·simp[hsz]
 ·rw[Array.getElem?_setIfInBounds];simpa using h2
theorem setE{fr:Option Addr}(f:FlC base l e cls cx fl s.heap)(hQ:∀h',FlC base l e cls cx (fr.elim Value.none λa=>rawInt a) h'->s.heap.UpToSlots h'->Q () { s with heap:=h' }):wpAny M A (setFlight (Value.ref e) fr) Q E s:=by
 obtain⟨f1,f2,f3,oe,vs,T,oT,ts,he,hc,hd,h1,h2,hnT,hTe,hT,hdT,h3⟩:=f;have z3:3<ts.size:=(aB'.mp h3).1;have other:∀b,b≠T->(s.heap.update T (Obj.mapFields λx=>x.setIfInBounds 3 (fr.elim Value.none λa=>rawInt a))).get? b=s.heap.get? b:=λb hb=>b_5 _ _ hb.symm
 have nrec:∀b o,s.heap.get? b=some o->(∀vs,o.data≠Data.fields vs)->b≠T:=λb o q nf z=>by
  subst z;rw[hT] at q;cases q;exact nf ts hdT
 unfold setFlight;refine a__ (e_0 he hd h1 ?_);rw[b__ Z2];refine d_8 hT hdT z3 ?_;have hd4:=d_4 hdT λx=>x.setIfInBounds 3 (fr.elim Value.none λa=>rawInt a);have hT4:=c_2 (Obj.mapFields λx=>x.setIfInBounds 3 (fr.elim Value.none λa=>rawInt a)) hT (d_1 hd4);refine hQ _ ⟨λb o q=>(other b (λz=>?_)).trans (f1 b o q),f2,d_7 (λb o q nf=>⟨o,(other b (nrec b o q nf)).trans q,rfl⟩) f3,oe,vs,T,_,_,(other e hTe.symm).trans he,hc,hd,h1,h2,hnT,hTe,hT4,hd4,?_⟩ λb o q nf=>⟨o.slots,(other b (nrec b o q nf)).trans q⟩
 ·subst z;rw[hnT] at q;cases q
 ·simp[z3]
theorem noteE(hfr:A.frames=some (env::outer))(hf:env.frame=some L)(f:FlC base (env::outer) e cls cx Value.none s.heap)
  (hQ:∀h',FlC base (env::outer) e cls cx (rawInt L) h'->s.heap.UpToSlots h'->Q () { s with heap:=h' }):wpAny M A (noteFrame (Value.ref e) env) Q E s:=by
 obtain⟨f1,f2,f3,oe,vs,T,oT,ts,he,⟨hc,hdd⟩,hd,h1,h2,hnT,hTe,hT,hdT,h3⟩:=f;subst hc;unfold noteFrame;rw[hf];dsimp only;refine a__ (e_0 he hd h1 ?_);rw[b__ Z2];refine a__ (e_0 hT hdT h3 ?_);rw[a_5 (by simp[rawInt])];refine a__ (d_8 hT hdT (aB'.mp h3).1 ?_);have other:∀b,b≠T->(s.heap.update T (Obj.mapFields λx=>x.setIfInBounds 3 Value.none)).get? b=s.heap.get? b:=λb hb=>b_5 _ _ hb.symm
 have nrec:∀b o,s.heap.get? b=some o->(∀vs,o.data≠Data.fields vs)->b≠T:=λb o q nf z=>by
  subst z;rw[hT] at q;cases q;exact nf ts hdT
 refine entryE (base:=base) (s:={ s with heap:=s.heap.update T (Obj.mapFields λx=>x.setIfInBounds 3 Value.none) }) hfr (d_7 (λb o q nf=>⟨o,(other b (nrec b o q nf)).trans q,rfl⟩) f3) hf ((other e hTe.symm).trans he) (λb o q=>(other b (λz=>?_)).trans (f1 b o q)) f2 hd hdd h2 λh' g u=>hQ h' g λb o q nf=>u b o ((other b (nrec b o q nf)).trans q) nf;subst z;rw[hnT] at q;cases q
theorem bM_(hf:env.frame=some L)(f:FlC base l e cls cx (rawInt L) s.heap)(h:Q () s):wpAny M A (noteFrame (Value.ref e) env) Q E s:=by
 obtain⟨f1,f2,f3,oe,vs,T,oT,ts,he,hc,hd,h1,h2,hnT,hTe,hT,hdT,h3⟩:=f;unfold noteFrame;rw[hf];dsimp only;refine a__ (e_0 he hd h1 ?_);rw[b__ Z2];refine a__ (e_0 hT hdT h3 ?_);rw[b__ Z2];exact a_4 h
theorem dV_{vs:List Aa}(hfr:A.frames=some (env::outer))(hf:env.frame=some L)(hkb:base.StaysIn h)(hl:h.FunFrames base (env::outer))(hx:Heap.MadeExcOf h s.heap e cls vs)(hQ:∀h',FlC base (env::outer) e cls Value.none (rawInt L) h'->s.heap.UpToSlots h'->Q () { s with heap:=h' }):wpAny M A (noteFrame (Value.ref e) env) Q E s:=by
 obtain⟨t,he,htn,ht⟩:=hx.there
 have fresh:∀b,h.get? b=none->base.get? b=none:=λb hb=>by
  cases hq:base.get? b with
  |none=>rfl
  |some o'=>have:=hkb b o' hq;rw[hb] at this;cases this
 unfold noteFrame;rw[hf];dsimp only;refine a__ (e_0 he rfl rfl ?_);rw[a_5 Z2];exact entryE (base:=base) hfr (hl.of_keeps λb o hb _=>⟨o,hx.keeps b o hb,rfl⟩) hf he (λb o hb=>hx.keeps b o (hkb b o hb)) (fresh e hx.new) rfl rfl rfl hQ
end
theorem bn'.here{w:Af}{H:Hp}{o:HO}(x:bn' P w H h a o):∃u,h.get? a=some u:=by
 cases o with
 |lst xs=>obtain⟨_,_,_,_,e⟩:=x;exact⟨_,e⟩
 |tup xs=>obtain⟨_,_,_,⟨o,e,_⟩,_⟩:=x;exact⟨_,e⟩
 |dK kvs=>obtain⟨_,_,_,_,o,_,_,e,_⟩:=x;exact⟨_,e⟩
 |dT kvs=>obtain⟨_,_,_,_,o,_,_,e,_⟩:=x;exact⟨_,e⟩
 |set S n=>obtain⟨o,_,_,_,e,_⟩:=x;exact⟨_,e⟩
 |ins C dx fs=>obtain⟨_,_,_,e,_⟩:=x;exact⟨_,e⟩
 |own y=>exact x
 |xd fs=>obtain⟨_,⟨_,_,_,e,_⟩,_⟩:=x;exact⟨_,e⟩
 |rng lo hi=>obtain⟨_,_,_,e⟩:=x;exact⟨_,e⟩
 |frz ob u=>obtain⟨e,_⟩:=x;exact⟨_,e⟩
 |tbl ps=>exact⟨_,show h.get? a=some _ from x⟩
 |met f y=>exact⟨_,show h.get? a=some _ from x⟩
 |ext φ=>obtain⟨_,e,_⟩:=x;exact e
def InB(B:Heap)(l:List Env)(H:Hp)(h0 h:Heap):Prop:=
 ∀b o,h.get? b=some o->b∉frs l->((H b).isSome=true∨∃o0,h0.get? b=some o0)->B.get? b=some o
section
variable{P:Ad}{w:Af}{H H':Hp}{B h0 h h1:Heap}{l:List Env}
theorem b8_(hok:HOk P w H' h)(fr:∀b∈frs l,H' b=none)(i:InB B l H' h0 h)(st:B.StaysIn h1):HOk P w H' h1:=λb o e=>
 (hok b o e).stay (λc u hc q=>by
  have hs:∃x,H' c=some x:=by
   rcases hc with z|z
   ·exact⟨o,z▸e⟩
   ·exact⟨_,z⟩
  obtain⟨x,hx⟩:=hs;exact st c u (i c u q (λm=>by rw[fr c m] at hx;cases hx) (.inl (by rw[hx];rfl)))) (λ_ q=>q) (λ_ _ q=>q)
theorem bm_(un:Un (frs l) [] H H' h0 h)(ff:h.FunFrames B l)(i:InB B l H' h0 h)(st:B.StaysIn h1)(up:h.UpToSlots h1):Un (frs l) [] H H' h0 h1 where
 keep:=λb o q n hb hx=>st b o (i b o (un.keep b o q n hb hx) hb (.inr ⟨o,q⟩))
 slot:=λb o q n hb hx=>by
  obtain⟨sl,e⟩:=un.slot b o q n hb hx;obtain⟨_,o',e',d⟩:=ff.mem hb;rw[e] at e';cases e';obtain⟨sl2,e2⟩:=up b _ e d;exact⟨sl2,e2⟩
 free:=un.free
 there:=λb o q hx=>by
  obtain⟨o',e⟩:=un.there b o q hx;by_cases hb:b∈frs l
  ·obtain⟨_,o2,e',d⟩:=ff.mem hb;rw[e] at e';cases e';obtain⟨sl2,e2⟩:=up b _ e d;exact⟨_,e2⟩
  ·exact⟨o',st b o' (i b o' e hb (.inr ⟨o,q⟩))⟩
 tups:=un.tups
 frzs:=un.frzs
 tbls:=un.tbls
theorem bx_(hok:HOk P w H' h)(un:Un (frs l) [] H H' h0 h)(i:InB B l H' h0 h)(st:B.StaysIn h1):InB B l H' h0 h1:=λb o e hb c=>by
 have:∃u,h.get? b=some u:=by
  rcases c with z|⟨o0,z⟩
  ·obtain⟨x,hx⟩:=aP'.mp z;exact (hok b x hx).here
  ·exact un.there b o0 z Z2
 obtain⟨u,hu⟩:=this;have q:=i b u hu hb c;have:=st b u q;rw[e] at this;cases this;exact q
end
def CX1(P:Ad)(w:Af):CXT:=λl H s E e s'=>
 ∃a cls H' B a0,e=Value.ref a/\s'.os=s.os/\AllBare s'.gens/\Un (frs l) [] H H' s.heap s'.heap/\HOk P w H' s'.heap/\FlB B l a cls a0 s'.heap/\InB B l H' s.heap s'.heap/\E cls none H'
section
variable{X:Cx}{pins:List (Addr × Obj)}{σ:St}{H H':Hp}{s s1:Ab}{B h:Heap}{a:Addr}{cls a0:Aa}{E:XK}
theorem cf_(I:Inv X pins σ H s)(un:Un (frs X.stack) [] H H' s.heap h):∀b∈frs X.stack,H' b=none:=λb hb=>by
 obtain⟨_,o,ho,_⟩:=I.stack.mem hb;exact un.free b o ho (I.stkFree b hb) Z2
theorem dh_(I:Inv X pins σ H s)(hex:X.ex=[])(os:s1.os=s.os)(bare:AllBare s1.gens)(un:Un (frs X.stack) [] H H' s.heap h)(hok:HOk X.prog X.w H' h)(i:InB B X.stack H' s.heap h)(ff:h.FunFrames B X.stack)(up:h.UpToSlots s1.heap)
  (fl:FlB B X.outer a cls a0 s1.heap) (hE:E cls none H'):CX1 X.prog X.w X.outer X.H₀ X.s₀ E (.ref a) s1:=by
 have un1:=bm_ un ff i fl.1.1 up;have hok1:=b8_ hok (cf_ I un) i fl.1.1;have I1:Inv X pins σ H' s1:=I.call' os un1 hok1 bare (λb z=>absurd z Z2);have bs:=I1.base;rw[hex] at bs;refine⟨a,cls,H',B,a0,rfl,I1.os,I1.bare,bs,I1.hok,fl,λb o e hb c=>?_,hE⟩
 have nL:b≠X.env.locals:=by
  rcases c with z|⟨o0,z⟩
  ·intro q;rw[q,I1.free] at z;cases z
  ·exact av' (ar' (a_6 z) I.ok.above)
 refine bx_ hok un i fl.1.1 b o e (λhm=>?_) (c.imp id λ⟨o0,z⟩=>I.base.there b o0 z (by rw[hex];simp));rcases ah'.mp (I.stkSub b hm) with z|z
 ·exact nL z
 ·exact hb z
end
section
variable{P:Ad}{w:Af}{K:F__}{mg:Str->Option Aa}{base:Heap}{N:List Str}{qual:Str}{scope:Scope}{f:Addr}{cd:Aa}{A:Ag}{outer:List Env}{s:Ab}{H:Hp}{E:XK}
theorem passes1:by' (CX1 P w) (cxOf (CX1 P w) P w K mg base N qual scope f cd A outer s H E) E:=by
 intro pins σ H1 s1 e s' I hc;obtain⟨a,cls,H',B,a0,rfl,os,bare,un,hok,fl,i,hE⟩:=hc;show wpAny _ _ (leaving _ _) _ _ _;unfold leaving;refine a__ (noteE (base:=B) I.ok.frames rfl fl.2 λh1 hd up=>setE (fr:=none) hd λh2 f2 up2=>?_);obtain⟨a1,fb⟩:=FlE.b (FlC.less f2);exact dh_ (s1:={ s' with heap:=h2 }) I rfl os bare un hok i fl.1.2.2.1 (up.trans up2) fb hE
def dv'(X:Cx)(E:XK):Prop:=∀(pins:List (Addr × Obj)) (σ:St) (H:Hp) (s:Ab) (h':Heap) (e:Addr) (cls:Aa) (vs:List Aa),Inv X pins σ H s->Heap.MadeExcOf s.heap h' e cls vs->E cls none H->X.xe (.ref e) { s with heap:=h' }
theorem raises1:dv' (cxOf (CX1 P w) P w K mg base N qual scope f cd A outer s H E) E:=by
 intro pins σ H1 s1 h' e cls vs I hx hE;have ff:=PySem.W.funFrames_hide (as:=frs (cxOf (CX1 P w) P w K mg base N qual scope f cd A outer s H E).stack) I.stack (λenv he b hb=>aA'.mpr ⟨env,he,hb⟩);show wpAny _ _ (leaving _ _) _ _ _;unfold leaving;refine a__ (dV_ (base:=PySem.W.hideAll s1.heap (frs (cxOf (CX1 P w) P w K mg base N qual scope f cd A outer s H E).stack)) (h:=s1.heap) I.ok.frames rfl (λb o q=>PySem.W.of_hideAll _ q) ff hx λh1 hd up=>setE (fr:=none) hd λh2 f2 up2=>?_);obtain⟨a1,fb⟩:=FlE.b (FlC.less f2);exact dh_ (s1:={ s1 with heap:=h2 }) I rfl rfl I.bare Un.refl I.hok (λb o q hb _=>e_1 _ q hb) ff ((Heap.UpToSlots.of_keeps hx.keeps).trans (up.trans up2)) fb hE
end
variable{x:Str}{C:Addr}{newId:Ah}
theorem i2_{K:F__}{mg:Str->Option Aa}{bmB:List Aa}(X:K.In h)(hm:mg x=some (.ref C))(q:PySem.W.excIn K C bmB newId=true):OwnCls x C bmB newId mg h:=by
 refine⟨hm,?_⟩;unfold PySem.W.excIn at q;split at q
 ·rename_i dd cd sl ho
  split at q
  ·rename_i C' bm k0 k1 k2 k3 n k5 hm' hs
   simp only[au',beq_iff_eq,Bool.not_eq_true'] at q;obtain⟨⟨⟨⟨⟨rfl,rfl⟩,hdel⟩,ht⟩,hok⟩,hni⟩:=q;obtain⟨nm,bs,mro,ns,qn,hd,sn,sub,ab,col,del⟩:=cd;dsimp only at hm' hdel hok hni;subst hm' hdel
   have hsl:sl=#[k0,k1,k2,k3,some (.builtin n),k5]:=by
    obtain⟨l⟩:=sl;simp only at hs;rw[hs]
   subst hsl;exact⟨bm,ns,nm,qn,bs,hd,sn,sub,ab,col,dd,k0,k1,k2,k3,k5,_,X _ _ ho,.of_isNs (PySem.W.isNs_of_in X hok),PySem.W.nsMap_none_of_in X hok hni,PySem.W.tail_of_in X ht⟩
  ·cases q
 ·cases q
def tRaise(cls:Aa)(E:XK)(t:TA):TS:=λ_ σ H=>t σ H λvs H1=>vs.length<=sizeLine/\E cls none H1
variable{bm:List Aa}{B initId:Ah}{cpos np:Pos}{e₀:Expr}{t:TA}{E:XK}
theorem aJ_(hh:X.calm=true)(R:dv' X E)(hm:X.mg x=some (.ref C))(qx:PySem.W.excIn X.K C bm newId=true)(FB:ExcBaseFacts B newId initId bm)(hg:Gl X x)(ha:PA X [e₀] t)
  (he:starEach [e₀] X.env=(false,eval e₀ X.env)::starEach [] X.env:=by rfl) (hpl:(backTo cpos (starEach [e₀] X.env)).any (·.1)=false:=by rfl) (hd:(x == ("__debug__":Str))=false:=by decide) :
  PS X (.Raise (some (.Call (.Name x np) [e₀] [] cpos)) none pos) (tRaise (.ref C) E t):=by
 intro pins s σ H D I h;have O:=i2_ I.ok.mod.kin hm qx;obtain⟨tl,N,nm,q,bs,hdct,sn,sub,ab,col,dd,k0,k1,k2,k3,k5,mN,hC,hN,hni,T⟩:=O.obj
 refine wpAny_Raise_call_subT (C:=C) (nm:=nm) (q:=q) (N:=N) (bs:=bs) (bm:=tl) (hdct:=hdct) (sn:=sn) (sub:=sub) (ab:=ab) (col:=col) (dd:=dd) (k0:=k0) (k1:=k1) (k2:=k2) (k3:=k3) (k5:=k5)
  FB (mN:=mN) (T.hasType FB.hasBase) (I.ok.hd hh) hpl hni (cl_ I hg O.bound ⟨rfl,?_⟩ hd)
 have ha':=ha cpos pins s σ H _ I h;rw[he] at ha' ⊢;refine Calls.evalArgs_plain (c_6 ha' (λus s₂ ⟨vs,H1,I1,r,z,q⟩=>⟨rfl,by rw[<- r.length];exact z,I1.bk _ _ hC,hN.keeps I1.bk,T.keeps I1.bk,λh' e hm=>R pins σ H1 s₂ h' e _ _ I1 hm q⟩) λ_ _ y=>y)
variable{f:Addr}{fd:Ae}{ps:List Str}{sp:Sp}
section
variable{P:Ad}{w:Af}{K:F__}{mg:Str->Option Aa}{base:Heap}
theorem Fun.okX{qual:Str}{st:Stmt}{N:List Str}(F:Fun K x qual st f fd)(S:a6' N ps (a5' st))(len:∀vs H Q E,sp vs H Q E->vs.length=ps.length)(hbody:∀(cdv:Aa) (A:Ag) (outer:List Env) (s:Ab) (H:Hp) (vs:List V) (Q:VK) (E:XK),Room k (A.deeper (envOfC qual (a5' st) s.heap.objs.size f cdv))->sp vs H Q E->
   ∃t,PSs (cxOf (CX1 P w) P w K mg base N qual (a5' st) f cdv A outer s H E) (bj' st) t/\t { nx:=λ_ H'=>Q .non H',rt:=Q } (start N vs) H):FnOk P w K mg base (CX1 P w) (k+1) f fd ps sp:=by
 obtain⟨oc,od,kV,doc,pm,an,cdv,ct,osl,rfl,lk,hcd⟩:=F.ex;refine kP_ lk hcd S len λA outer s H vs Q E hr hsp=>?_;obtain⟨t,h,q⟩:=hbody cdv A outer s H vs Q E hr hsp;exact⟨t,h,q⟩
theorem FnOk.up{CX:CXT}(F:FnOk P w K mg base CX0 k f fd ps sp):FnOk P w K mg base CX k f fd ps sp:=
 ⟨F.len,λA outer s H args us vs Q E hr he hb hv hs=>codeAny_mono (F.run A outer s H args us vs Q E hr he hb hv hs) λr s' h=>by
  cases r with
  |error e=>exact h.elim
  |ok fl=>cases fl<;>exact h⟩
end
open PySem.Calls Builtin Builtin.ObjectAttr Builtin.Getset_descriptor
structure ExcK (K:F__) (C:Addr):Prop where
 cl:(clsIn K C).isSome=true
 ga:findIn K (.ref C) "__getattribute__"=some (some (.builtin "BaseException.__getattribute__"))
 ha:findIn K (.ref C) "__getattr__"=some none
 ca:findIn K (.ref C) "__class__"=some (some (.builtin "object.__class__"))
 gt:specialIn K (.builtin "object.__class__") "__get__"=some (some (.builtin "getset_descriptor.__get__"))
 tk:takesIn K (.builtin "object.__class__")=some true
 mo:mroIn K C (.type "object")=some true
 mb:mroIn K C (.type "BaseException")=some true
variable{M:Model}
section
variable{prog:Ad}{w:Af}{A:Ag}{E:Aa->Ab->Prop}{s:Ab}{K:F__}{x C:Addr}
theorem eA_{R:Result->Ab->Prop}{tp:Aa}(X:K.In s.heap)(L0:Looks (model prog w) s.heap (typeOf (.ref x)) (.ref C))(hm:mroIn K C (.type "object")=some true)
  (h:R (.ok (.ret (.ref C))) s):codeAny (model prog w) A (.call (.builtin "getset_descriptor.__get__") ⟨[.builtin "object.__class__",.ref x,tp],[]⟩) R s:=by
 obtain⟨hh,g,dr,t,os⟩:=s;have L1:=looks_mroIn (M:=model prog w) X hm;refine codeAny_call_builtin KF.slot_gs.plain KF.entry_gs (KF.slot_gs.check _ _ _ _ _ _ _ _ KF.type_class (KF.args_gs _ _ _) ?_);unfold Builtin.«getset_descriptor.__get__» descrGet;rw[dga_obj];refine a__ (a_4 ?_);unfold descrGetter descrCheckInstance descrNameAndClass isInstance;simp only[KF.owner_class]
 repeat lk
 refine⟨Code.quiet_builtin _ Z0,codeAny_builtin KF.entry_class ?_⟩;unfold Builtin.«object.__class__» shownTypeOf
 repeat lk
 exact h
theorem iU_(k:ExcK K C)(X:K.In h):Looks M h (find (.ref x) (.ref C) "__class__") (.bind (.builtin "getset_descriptor.__get__") (.builtin "object.__class__")):=by
 refine (looks_findIn X k.ca).andThen ((show Looks M h (getOf (some (.builtin "object.__class__"))) _ from looks_specialIn X k.gt).andThen ?_);exact (show Looks M h (dataDescriptor? (some _) (some _)) (some (_,_)) from (looks_takesIn X k.tk).andThen .now).andThen (Looks.tag .now)
theorem hO_{tk:Tok}{Q:Fin->Ab->Prop}(k:ExcK K C)(X:K.In s.heap)(L0:Looks (model prog w) s.heap (typeOf (.ref x)) (.ref C))(hq:Q (.done (.ret (.ref C))) s) :
  wpAny (model prog w) A (Builtin.«object.__getattribute__» ⟨[.ref x,.str "__class__" tk],[]⟩) Q E s:=by
 obtain⟨hh,g,dr,t,os⟩:=s;have L1:=iU_ (M:=model prog w) (x:=x) k X;unfold Builtin.«object.__getattribute__»;refine a__ (a_4 ?_);refine a__ (a_4 ?_);refine a__ (L0.at ?_);refine a__ (L1.at ?_);show wpAny _ _ (holding [_] (call _ [_,.ref x,.ref C]) >>= ret) _ _ _;exact a__ (c_4 (wpAny_call (eA_ X L0 k.mo (a_4 hq))))
theorem dT_{Q:Option Aa->Ab->Prop}(k:ExcK K C)(X:K.In s.heap)(L0:∀M,Looks M s.heap (typeOf (.ref x)) (.ref C))(h:Q (some (.ref C)) { s with toks:=s.toks+1 }) :
  wpAny (model prog w) A (getAttr? (.ref x) "__class__") Q E s:=by
 obtain⟨hh,g,d,t,os⟩:=s;have L0':=L0 (model prog w);have L1:=looks_findIn (M:=model prog w) X k.ga;have L2:=looks_findIn (M:=model prog w) X k.ha;have LB:Looks (model prog w) hh (isInstance (.ref x) (.type "BaseException")) true:=L0'.andThen (looks_mroIn X k.mb);have hk:builtinKind "BaseException.__getattribute__"=some .slot:=by decide +kernel
 have hsplit:splitId "BaseException.__getattribute__"=some ("BaseException","__getattribute__"):=by decide +kernel
 unfold getAttr? getAttrBy? getAttrBy;refine a__ (wpAny_mkText (a__ (wpAny_attempt (c_4 (a__ (L0'.at (a__ (L1.at ?_))))))));show wpAny _ _ (getAttrByItsOwn _ _ _ _ _ _) _ _ _;unfold getAttrByItsOwn hookBefore;refine a__ (L2.at ?_);refine a__ (wpAny_attempt (c_4 ?_));show wpAny _ _ (boundAndCalled _ _ _) _ _ _;unfold boundAndCalled;refine a__ (wpAny_of_eq (PySem.F.attr_ValueError.ga.bind (.ref x)) ?_);refine wpAny_call (codeAny_call_builtin PySem.F.attr_ValueError.ga.plain PySem.F.entry_bexc_ga ?_);simp only[checkBuiltinCall,hk,hsplit];refine a__ (LB.at ?_);have ha:=PySem.F.args_bexc_ga (.ref x) (.str "__class__" t)
 have key:∀{A':Ag} {E':Aa->Ab->Prop} {R:Unit->Ab->Prop},R () ⟨hh,g,d,t+1,os⟩->wpAny (model prog w) A' (match Manifest.signature? "BaseException.__getattribute__" with
   |some sig=>Bind.checkArgs "BaseException.__getattribute__" sig { pos:=[Value.ref x]++[Value.str (Str.ofString "__class__") t] }
   |x=>pure ()) R E' ⟨hh,g,d,t+1,os⟩:=by
  intro A' E' R hR
  have ha':(match Manifest.signature? "BaseException.__getattribute__" with
   |some sig=>Bind.checkArgs "BaseException.__getattribute__" sig { pos:=[Value.ref x]++[Value.str (Str.ofString "__class__") t] }
   |x=>pure ())=pure ():=ha
  rw[ha'];exact a_4 hR
 rw[a_5 (by decide)];refine key ?_;refine hO_ (C:=C) k X L0' ?_;exact a_4 (a_4 h)
theorem iQ_(k:ExcK K C):KitX K (.ref a) (.ref C) (λh=>∃o,h.get? a=some o/\o.cls=.ref C) where
 ty:=λM h _ ⟨o,h1,h2⟩=>h2▸(Looks.ld h1).andThen .now
 it:=λ_ _ X _=>by
  obtain⟨cdD,hcD⟩:=aP'.mp k.cl;unfold clsIn at hcD;split at hcD
  ·rename_i c' d' cd' sl' ho
   intro A' Q' E' s' kk q;unfold isType loadHead;exact a__ (wpAny_loadPart (kk _ _ (X _ _ ho)) (a_4 q))
  ·cases hcD
 ne:=λh tp dd its n sl X htp=>by
  obtain⟨cdD,hcD⟩:=aP'.mp k.cl;refine Bool.eq_false_iff.mpr λq=>?_;have e:C=tp:=Value.ref.inj (beq_iff_eq.mp q);subst e;unfold clsIn at hcD;split at hcD
  ·rename_i c' d' cd' sl' ho
   have z:=(X _ _ ho).symm.trans htp;cases z
  ·cases hcD
 ca:=λX ⟨o,h1,h2⟩ q=>dT_ k X (λM=>h2▸(Looks.ld h1).andThen .now) q
end
def clsV:V->Option Aa
 |.ref C=>some (.ref C)
 |.ty T=>some (.type T)
 |_=>none
theorem j3_{c:V}{u v:Aa}(r:RelV c u)(h:clsV c=some v):u=v:=by
 cases c with
 |ref C=>cases h;exact r
 |ty T=>cases h;exact r
 |_=>cases h
inductive rIsiC (K:F__) (xs:List V) (H:Hp) (Q:VK):Prop
 |mk:∀x C t b,xs=[x,.ref C]->TyOf K H x t->PySem.W.kitOne K t (.ref C)=some b->Q (.bl b) H->rIsiC K xs H Q
theorem f4_:bx' X (.builtin "isinstance") (rIsiC X.K):=by
 intro pins s σ H xs us Q I r h;obtain⟨x,C,t,b,rfl,ty,e,q⟩:=h;obtain⟨u,w',rfl,ru,rw'⟩:=vals2 r;cases (show w'=Value.ref C from rw');exact f1_ I ru ty e λtk=>⟨.bl b,H,I.tok tk,rfl,q⟩
abbrev Cx.inX(X:Cx)(a:Addr):Cx:={ X with A:=X.A.mark (some (.ref a)),calm:=false }
theorem Cx.Ok.inX(ok:X.Ok)(a:Addr):(X.inX a).Ok:=
 ⟨ok.mod,ok.kind,ok.glob,ok.blt,ok.above,ok.inj,ok.has,ok.cab,λz=>absurd z Z2,ok.frames,ok.stk,ok.exf,ok.bs,ok.bsz,ok.noex,ok.exfs,ok.funs,ok.frf⟩
variable{H:Hp}
theorem Inv.inX(I:Inv X pins σ H s)(a:Addr):Inv (X.inX a) pins σ H s:=⟨I.ok.inX a,I.os,I.bare,I.base,I.loc,I.cell,I.free,I.freeC,I.pin,I.hok,I.len⟩
theorem Inv.outX(ok:X.Ok)(I:Inv (X.inX a) pins σ H s):Inv X pins σ H s:=⟨ok,I.os,I.bare,I.base,I.loc,I.cell,I.free,I.freeC,I.pin,I.hok,I.len⟩
theorem dx_{A:Ag}{E:Aa->Ab->Prop}{i:Nat}{n:Str}{Q:Unit->Ab->Prop}(I:Inv X pins σ H s)(hN:X.N.Nodup)(hi:X.N[i]? = some n)(hl:X.env.scope.names.lookup n=some .local)(h:∀s',Inv X pins (σ.set i none) H s'->Q () s'):wpAny M A (do bindName X.env n .none;unbindBehindTheSuite X.env n pos) Q E s:=by
 obtain⟨m,hn,hl'⟩:=id I.loc;have hcls:(X.env.scope.kind == .class || (X.env.scope.kind == .module&&X.env.locals != X.env.globals))=false:=by rw[I.ok.kind];rfl
 have hiσ:i<σ.length:=by rw[I.len];exact (ac'.mp hi).1
 have cne:=I.cne;refine wpAny_nameGoes_keeps hl hn hcls λh' v hn' hs=>?_;obtain⟨oL,_,_,hoL,_⟩:=id hn;refine h _ ⟨I.ok,I.os,I.bare,⟨λb o e n hb hx=>?_,λb o e n hb hx=>?_,I.base.free,λb o e hx=>?_,I.base.tups,I.base.frzs,I.base.tbls⟩,⟨_,hn',λj y v' e1 e2 e3=>?_⟩,λy c e=>?_,I.free,I.freeC,λp hp=>?_,λb ob e=>?_,by simpa using I.len⟩
 ·exact (hs.2 b (av' (ar' (a_6 e) I.ok.above))).trans (I.base.keep b o e n hb hx)
 ·obtain⟨sl,e1⟩:=I.base.slot b o e n hb hx;exact⟨sl,(hs.2 b (av' (ar' (a_6 e) I.ok.above))).trans e1⟩
 ·obtain⟨o',e1⟩:=I.base.there b o e hx;exact⟨o',(hs.2 b (av' (ar' (a_6 e) I.ok.above))).trans e1⟩
 ·by_cases hj:j=i
  ·subst hj;rw[List.getElem?_set_self hiσ] at e2;cases e2
  ·rw[List.getElem?_set_ne (Ne.symm hj)] at e2;obtain⟨u',r',q⟩:=hl' j y v' e1 e2 e3;refine⟨u',r',?_⟩;rcases q with⟨k,e⟩|⟨k,c,e,z⟩
   ·refine .inl ⟨k,?_⟩;have:y≠n:=λe=>hj (ej_ hN e1 (e▸hi));simp[this,e]
   ·exact .inr ⟨k,c,e,z.sameBut hs (cne y c e)⟩
 ·obtain⟨w',z⟩:=I.cell y c e;exact⟨w',z.sameBut hs (cne y c e)⟩
 ·obtain⟨e,n,ne,nf,d⟩:=I.pin p hp;exact⟨(hs.2 p.1 ne).trans e,n,ne,nf,d⟩
 ·refine (I.hok b ob e).stay (λc w' hc q=>(hs.2 c ?_).trans q) (λ_ q=>q) λ_ _ q=>q;rintro rfl;rcases hc with z|hc
  ·rw[<- z,I.free] at e;cases e
  ·rw[I.free] at hc;cases hc
def Ends.gone(D:Ends)(i:Nat):Ends:={ nx:=λσ H=>D.nx (σ.set i none) H,rt:=D.rt,bk:=λσ H=>D.bk (σ.set i none) H,ct:=λσ H=>D.ct (σ.set i none) H }
end L2
namespace Ev
open PySem L2
abbrev eR':Stmt:=top 28
abbrev dR':Stmt:=top 29
abbrev cQ':Stmt:=top 30
abbrev eb':Stmt:=top 31
abbrev sCell:Stmt:=top 51
abbrev sDigit:Stmt:=top 52
abbrev sNames:Stmt:=top 53
abbrev sLWeb:Stmt:=top 54
abbrev dA':Stmt:=top 61
abbrev dL':Stmt:=top 33
abbrev c9':Stmt:=top 36
abbrev dP':Stmt:=top 37
abbrev b7':Stmt:=top 38
abbrev sFigs:Stmt:=top 39
abbrev dY':Stmt:=top 40
abbrev c4':Stmt:=top 41
abbrev eo':Stmt:=top 42
abbrev sIsRow:Stmt:=top 43
abbrev cR':Stmt:=top 44
abbrev eM':Stmt:=top 45
abbrev cl':Stmt:=top 46
abbrev eS':Stmt:=top 47
abbrev bS':Stmt:=top 48
abbrev ct':Stmt:=top 49
abbrev c8':Stmt:=top 58
abbrev ey':Stmt:=top 62
abbrev cf':Stmt:=top 63
abbrev sGood:Stmt:=top 64
abbrev dS':Stmt:=top 65
abbrev sLaw:Stmt:=top 66
def But(l:Addr)(H H':Hp):Prop:=∀b o,H b=some o->b≠l->H' b=some o
theorem But.refl(l:Addr)(H:Hp):But l H H:=λ_ _ e _=>e
variable{l:Addr}{H H1:Hp}
theorem But.trans{H2:Hp}(h:But l H H1)(h2:But l H1 H2):But l H H2:=λb o e n=>h2 b o (h b o e n) n
theorem But.of(h:Same H H1):But l H H1:=λb o e _=>h b o e
theorem But.upd{o:HO}:But l H (upd H l o):=λb u e n=>by rw[a8_ n];exact e
def stt(H:Hp)(l:Addr):Prop:=(∃n:Int,H l=some (.lst [.int n]))∨∃n m c:Int,H l=some (.lst [.int n,.int m,.int c])
theorem stt.some(h:stt H l):∃xs,H l=some (.lst xs):=by
 rcases h with⟨n,e⟩|⟨n,m,c,e⟩
 ·exact⟨_,e⟩
 ·exact⟨_,e⟩
variable{H':Hp}
theorem But.free{b:Addr}(h:But l H H')(s:stt H' l)(e:H' b=none):H b=none:=by
 cases z:H b with
 |none=>rfl
 |some o=>
  by_cases q:b=l
  ·subst q;obtain⟨xs,e2⟩:=s.some;rw[e] at e2;cases e2
  ·rw[h b o z q] at e;cases e
theorem bK'{α:Type}{xs:List α}{i:Int}(h0:0<=i)(h1:i<xs.length):atI xs i=xs[i.toNat]?:=by
 unfold atI ixN;rw[b__ h0,b__ h1];rfl
def c5':Sp:=λvs H Q _=>∃(l:Addr) (b:Int),vs=[.ref l,.int b]/\0<b/\b<1073741824/\stt H l/\∀r H',0<=r->r<b->But l H H'->stt H' l->Q (.int r) H'
theorem small(x:Int):-(2 ^ 64)<x % 2147483647/\x % 2147483647<2 ^ 64:=by
 have h1:=Int.emod_nonneg x (b:=2147483647) (by decide);have h2:=Int.emod_lt_of_pos x (b:=2147483647) (by decide);exact⟨by omega,by omega⟩
theorem gl_:("abcdefghijklmnopqrstuvwxyz":Str).cps.toList=[97,98,99,100,101,102,103,104,105,106,107,108,109,110,111,112,113,114,115,116,117,118,119,120,121,122]:=by decide +kernel
variable{r:Int}
theorem lf_(h0:0<=r)(h1:r<26):∃c,atI ("abcdefghijklmnopqrstuvwxyz":Str).cps.toList r=some c/\okc c=true:=by
 rw[gl_,bK' h0 (by simpa using h1)];have hn:r.toNat<26:=by omega
 refine⟨_,ad' (by simpa using hn),?_⟩;have all:∀c∈[97,98,99,100,101,102,103,104,105,106,107,108,109,110,111,112,113,114,115,116,117,118,119,120,121,122],okc c=true:=by decide +kernel
 exact all _ (List.getElem_mem _)
theorem hit2{α:Type}{a b:α}(h0:0<=r)(h1:r<2):atI [a,b] r=some a∨atI [a,b] r=some b:=by
 have:r=0∨r=1:=by omega
 rcases this with rfl|rfl
 ·exact .inl rfl
 ·exact .inr rfl
variable{K:F__}
theorem bj_{ys:List V}{ks:List (List Key)}(t:a8' K H ys ks)(b:But l H H'){xs:List V}(hl:H l=some (.lst xs)):a8' K H' ys ks:=Paired.mapP t λy k ⟨a,z,q⟩=>⟨a,z,b _ _ q (bK_ q hl nofun)⟩
variable{ns:List Str}
theorem bE_{D:Addr}(h:H D=some (.lst (ns.map V.str))):rL K rS H (.ref D) ns:=⟨D,_,rfl,.of h,eB_ ns⟩
def kO(t:Str × Str):List Key:=kT (ord2 t.1 t.2)
structure TI (ns:List Str) (k j:Nat) (ts:Xb):Prop where
 at':∀t∈ts,∃(a b:Nat) (x y:Str),b<a/\(a<k∨(a=k/\b<j))/\ns[a]? = some x/\ns[b]? = some y/\(t=(x,y)∨t=(y,x))
 nd:(ts.map kO).Nodup
 len:ts.length<=7 * k+j
theorem fp_{a b:Str × Str}(h:kT a=kT b):a=b:=by
 unfold kT at h;obtain⟨h1,h2⟩:=e__ h;obtain⟨h2,_⟩:=e__ h2;exact Prod.ext (c_3 h1) (c_3 h2)
variable{i j:Nat}
theorem dD_(nd:ns.Nodup){x:Str}(h:ns[i]? = some x)(h2:ns[j]? = some x):i=j:=by
 obtain⟨hi,e1⟩:=ac'.mp h;obtain⟨hj,e2⟩:=ac'.mp h2;exact (List.getElem_inj nd).mp (e1.trans e2.symm)
theorem lz_{a b c d:Str}(h:kO (a,b)=kO (c,d)):(a=c/\b=d)∨(a=d/\b=c):=by
 have h:=fp_ h;dsimp only at h;rcases bl_ a b with e|e<;>rcases bl_ c d with e2|e2<;>rw[e,e2] at h<;>have h1:=(Prod.mk.inj h).1<;>have h2:=(Prod.mk.inj h).2
 ·exact .inl ⟨h1,h2⟩
 ·exact .inr ⟨h1,h2⟩
 ·exact .inr ⟨h2,h1⟩
 ·exact .inl ⟨h2,h1⟩
theorem gx_(ns:List Str)(k:Nat):cutV (ns.map V.str) none (some (k:Int))=(ns.take k).map V.str:=by
 unfold cutV;rw[HT.sIx_none,HT.sIx_nat,List.drop_zero,Nat.sub_zero,List.map_take,aa'];by_cases h:k<=ns.length
 ·rw[Nat.min_eq_left h]
 ·rw[Nat.min_eq_right Z1,aF' (by rw[aa'];omega),aF' (by rw[aa'];omega)]
theorem stt.same(h:stt H l)(s:Same H H'):stt H' l:=by
 rcases h with⟨n,e⟩|⟨n,m,c,e⟩
 ·exact .inl ⟨n,s _ _ e⟩
 ·exact .inr ⟨n,m,c,s _ _ e⟩
theorem co_(a:Str):ltS a a=false:=hQ_ (Sum.inr a)
theorem cJ_{a b:Str}(h:ltS a b=true):ltS b a=false:=fs_ (a:=Sum.inr a) (b:=Sum.inr b) h
theorem fx_{a b:Str}(h:ltS a b=false)(h2:ltS b a=false):a=b:=c_3 (id_ (a:=Sum.inr a) (b:=Sum.inr b) h h2)
theorem lexS(a b:Str):lexK (keyS a) (keyS b)=ltS a b:=by
 show (if (Sum.inr a:Key)=Sum.inr b then false else ltS a b)=ltS a b;by_cases h:a=b
 ·subst h;rw[b__ rfl,co_]
 ·rw[a_5 λe=>h (c_3 e)]
def SAsc(ns:List Str):Prop:=ns.Pairwise λa b=>ltS b a=false
theorem SAsc.keys(h:SAsc ns):Asc (ns.map keyS):=by
 unfold Asc;rw[aH'];exact h.imp λq=>by rw[lexS];exact q
theorem bQ_{a b:List Str}(p:a.Perm b)(h1:SAsc a)(h2:SAsc b):a=b:=ge_ (c9_ (p.map keyS) h1.keys h2.keys)
theorem dg_(ss:List Str):SAsc (bL' ss):=by
 have h:=br_ (ss.map keyS);rw[<- cO_] at h;unfold Asc at h;rw[aH'] at h;exact h.imp λq=>by rw[lexS] at q;exact q
theorem eC_(hs:Xa):SAsc (a9' hs):=by
 unfold a9' SAsc;rw[aH'];refine (br_ (hs.map kH)).imp_of_mem λ{a b} ha hb q=>?_;obtain⟨x,_,rfl⟩:=bH_ hs a ha;obtain⟨y,_,rfl⟩:=bH_ hs b hb;show ltS y.1 x.1=false;by_cases h:y.1=x.1
 ·rw[h,co_]
 ·have q:(if (Sum.inr y.1:Key)=Sum.inr x.1 then lexK [Sum.inl y.2] [Sum.inl x.2] else ltS y.1 x.1)=false:=q;rwa [a_5 λe=>h (c_3 e)] at q
theorem gO_(hs:Xa):a9' hs=bL' (hs.map (·.1)):=bQ_ ((aI_ hs).trans (aP_ _).symm) (eC_ hs) (dg_ _)
theorem jx_(a b:Str):bL' [a,b]=[(ord2 a b).1,(ord2 a b).2]:=by
 refine bQ_ ((aP_ _).trans ?_) (dg_ _) ?_
 ·rcases bl_ a b with e|e
  ·rw[e]
  ·rw[e];exact List.Perm.swap _ _ _
 ·unfold SAsc ord2;by_cases h:ltS a b=true
  ·rw[b__ h]
   exact .cons (λx hx=>by
    obtain rfl:x=b:=by simpa using hx
    exact cJ_ h) (.cons (λx hx=>by cases hx) .nil)
  ·rw[a_5 h]
   exact .cons (λx hx=>by
    obtain rfl:x=a:=by simpa using hx
    simpa using h) (.cons (λx hx=>by cases hx) .nil)
theorem dm_(a b:Str):ord2 a b=ord2 b a:=by
 unfold ord2;by_cases h:ltS a b=true
 ·rw[b__ h,a_5 (by rw[cJ_ h];decide)]
 ·by_cases h2:ltS b a=true
  ·rw[a_5 h,b__ h2]
  ·have:=fx_ (by simpa using h) (by simpa using h2);subst this;rw[a_5 h]
theorem dz_{α β:Type}{f:α->β}:∀{l:List α},(l.map f).Nodup->∀{a b:α},a∈l->b∈l->f a=f b->a=b
 |[],_,_,_,h,_,_=>by cases h
 |x::l,nd,a,b,ha,hb,e=>by
  rw[aw'] at nd;obtain⟨n1,n2⟩:=aV'.mp nd;rcases ah'.mp ha with ha'|ha'<;>rcases ah'.mp hb with hb'|hb'
  ·rw[ha',hb']
  ·exact absurd (ab'.mpr ⟨b,hb',by rw[<- ha',e]⟩) n1
  ·exact absurd (ab'.mpr ⟨a,ha',by rw[<- hb',e]⟩) n1
  ·exact dz_ n2 ha' hb' e
variable{ts:Xb}
theorem bt'{x:Str × Str}:x∈tsOf ts ↔ ∃t∈ts,ord2 t.1 t.2=x:=by
 have e:kT x∈(tsOf ts).map kT ↔ x∈tsOf ts:=⟨λh=>by
  obtain⟨y,hy,e⟩:=ab'.mp h;rw[<- fp_ e];exact hy,λh=>ab'.mpr ⟨x,h,rfl⟩⟩
 rw[<- e,aZ_,(aw_ _).mem_iff,ab'];exact⟨λ⟨t,ht,q⟩=>⟨t,ht,fp_ q⟩,λ⟨t,ht,q⟩=>⟨t,ht,by rw[q]⟩⟩
theorem scCell:a6' ["_law_script","_law_k"] ["_law_script","_law_k"] (a5' sCell):=f__
def spCell(K:F__):Sp:=λvs H Q _=>∃(l:Addr) (ns:List Int) (k:Int),vs=[.ref l,.int k]/\0<=k/\SqL K H l (ns.map V.int)/\∀n,Q (.int n) H
variable{f:Addr}{fd:Ae}{P:Ad}{w:Af}{mg:Str->Option Aa}{base:Heap}
theorem kc_(F:Fun K "_law_cell_at" "_law_cell_at" sCell f fd)(B:Bi mg):FnOk P w K mg base CX0 1 f fd ["_law_script","_law_k"] (spCell K):=by
 refine F.ok scCell (λvs H Q E h=>?_) (λcdv A outer s H vs Q E hr h=>?_)
 ·obtain⟨l,ns,k,rfl,_⟩:=h;rfl
 ·obtain⟨l,ns,i,rfl,h0,hl,k⟩:=h;refine⟨_,a3_ (ak_ (ah_ lg_ (pv 1) (a6_ ai_ (by rfl) B.len b_3 (a0_ (pv 0) a2_)) (nomark _)) (a5_ (af_ (ag_ ad_ (pv 0) (pv 1) (λ_ _=>rfl)))) aa_) (a5_ (af_ a4_)),?_⟩;refine⟨_,rfl,_,rfl,l,_,rfl,.inl hl,_,_,rfl,rfl,_,rfl,?_⟩;refine ite2 (λc=>?_) (λc=>?_)
  ·have c:i<(ns.map V.int).length:=by simpa using c
   have e:atI (ns.map V.int) i=some (.int (ns[i.toNat]'(by rw[aa'] at c;omega))):=by
    rw[bK' h0 c,az',ad' (by rw[aa'] at c;omega)];rfl
   exact⟨_,rfl,_,rfl,l,_,_,_,rfl,rfl,hl,e,k _⟩
  ·exact k 0
theorem c7':a6' ["_law_state","_law_base","_law_cell","_law_found","_law_number"] ["_law_state","_law_base"] (a5' sDigit):=f__
theorem pick2{n:Int}(b:Bool):∃m:Int,atI [V.int 0,V.int n] (if b then 1 else 0)=some (.int m):=by
 cases b
 ·exact⟨0,rfl⟩
 ·exact⟨n,rfl⟩
theorem j4_(F:Fun K "_law_digit" "_law_digit" sDigit f fd)(B:Bi mg):FnOk P w K mg base CX0 1 f fd ["_law_state","_law_base"] c5':=by
 refine F.ok c7' (λvs H Q E h=>?_) (λcdv A outer s H vs Q E hr h=>?_)
 ·obtain⟨l,b,rfl,_⟩:=h;rfl
 ·obtain⟨l,b,rfl,h0,h1,st,k⟩:=h
  refine⟨_,a3_ (ak_ (ah_ b6_ (a6_ ai_ (by rfl) B.len b_3 (a0_ (pv 0) a2_)) a4_ (nomark _))
    (a3_ (ae_ (i:=2) c7'.nd rfl (Or.inl rfl) (ag_ ad_ (pv 0) a4_ (λ_ _=>rfl)))
    (a3_ (gs_ (ag_ ad_ (as_ (a0_ a4_ (a0_ (pv 2) a2_))) (aA_ ih_ (by rfl) B.int PyProof.Rows.Boot.«int» (a0_ (b7_ lT_ (pv 2) (ao_ le_ a4_ a4_) (nomark _)) a2_)) (λ_ _=>rfl)) (hw_ (pv 0) a4_ en_))
    (a5_ (bv_ (bi_ c_1 PySem.F.slot_list_extend PySem.F.type_list_extend il_ (pv 0) (a0_ (as_ (a0_ (ao_ dL_ (pv 2) a4_) (a0_ a4_ a2_))) a2_)))))) aa_)
   (a3_ (ak_ (ah_ kC_ (ag_ ad_ (pv 0) a4_ (λ_ _=>rfl)) a4_ (nomark _))
    (a3_ (ae_ (i:=3) c7'.nd rfl (Or.inl rfl) (ao_ dL_ (ag_ ad_ (pv 0) a4_ (λ_ _=>rfl)) (pv 1)))
    (a3_ (gs_ (ao_ dH_ (ag_ ad_ (pv 0) a4_ (λ_ _=>rfl)) (pv 1)) (hw_ (pv 0) a4_ en_))
    (a5_ (af_ (pv 3))))) aa_)
   (a3_ (gs_ (ao_ bc_ (ag_ ad_ (pv 0) a4_ (λ_ _=>rfl)) a4_) (hw_ (pv 0) a4_ en_))
   (a3_ (ae_ (i:=4) c7'.nd rfl (Or.inl rfl) (ao_ dL_ (ao_ eY_ (ao_ bc_ (ao_ bc_ (ag_ ad_ (pv 0) a4_ (λ_ _=>rfl)) (ao_ eY_ a4_ (ag_ ad_ (pv 0) a4_ (λ_ _=>rfl)))) a4_) a4_) a4_))
   (a3_ (ae_ (i:=4) c7'.nd rfl (Or.inl rfl) (ao_ dL_ (ao_ eY_ (pv 4) (ao_ bc_ (ao_ dH_ (pv 4) a4_) a4_)) a4_))
   (a5_ (af_ (ao_ dL_ (ao_ dL_ (ao_ eY_ (pv 4) (ao_ bc_ (ao_ dH_ (pv 4) a4_) a4_)) a4_) (pv 1)))))))),?_⟩
  rcases st with⟨n,hl0⟩|⟨n,m,c,hl⟩
  case' inl=>
   refine⟨_,rfl,l,_,rfl,.inl (.of hl0),rfl,_,rfl,iteT ?_⟩;refine⟨_,rfl,l,_,_,_,rfl,rfl,.of hl0,rfl,?_⟩;refine⟨_,rfl,by show 2<=sizeLine;decide,λp hp=>?_⟩;have lp:l≠p:=a9_ hl0 hp;refine⟨_,rfl,_,_,rfl,rfl,⟨by decide,by decide,by decide⟩,_,_,rfl,rfl,.inr ⟨_,rfl,?_⟩⟩;obtain⟨n',hn'⟩:=pick2 (n:=n) (decide ((10:Int) ^ (18:Int).toNat<=n));refine⟨p,_,_,_,rfl,rfl,.of a1_,hn',?_⟩;refine⟨_,rfl,l,_,_,0,rfl,rfl,by rw[a8_ lp];exact hl0,rfl,?_⟩;have hl1:(upd (upd H p (.lst [.int 0,.int n])) l (.lst ([V.int n].set 0 (.int n')))) l=some (.lst [.int n']):=a1_;have bt1:But l H (upd (upd H p (.lst [.int 0,.int n])) l (.lst ([V.int n].set 0 (.int n')))):=(But.of (Same.new hp)).trans But.upd;generalize (upd (upd H p (.lst [.int 0,.int n])) l (.lst ([V.int n].set 0 (.int n'))))=Ha at hl1 bt1 ⊢;refine⟨_,rfl,.inl ⟨rfl,_,.of hl1⟩,_,rfl,_,_,rfl,rfl,by show (0:Int)<2147483647;decide,by show 2<=sizeLine;decide,λq hq=>?_⟩;refine⟨l,q,_,_,rfl,rfl,Same.new hq _ _ hl1,a1_,by show 1+2<=sizeLine;decide,?_⟩;have bt:But l H (upd (upd Ha q (.lst [.int (n % 2147483647),.int 0])) l (.lst ([.int n']++[.int (n % 2147483647),.int 0]))):=bt1.trans ((But.of (Same.new hq)).trans But.upd);have hl:(upd (upd Ha q (.lst [.int (n % 2147483647),.int 0])) l (.lst ([.int n']++[.int (n % 2147483647),.int 0]))) l=some (.lst [.int n',.int (n % 2147483647),.int 0]):=a1_;generalize (upd (upd Ha q (.lst [.int (n % 2147483647),.int 0])) l (.lst ([.int n']++[.int (n % 2147483647),.int 0])))=H1 at bt hl ⊢
  case' inr=>
   refine⟨_,rfl,l,_,rfl,.inl (.of hl),rfl,_,rfl,iteF ?_⟩;have bt:=But.refl l H
  all_goals
   refine⟨_,rfl,l,_,_,_,rfl,rfl,.of hl,rfl,_,_,rfl,rfl,_,rfl,?_⟩;refine ite2 (λc=>?_) (λc=>?_)
   ·refine⟨_,rfl,l,_,_,_,rfl,rfl,.of hl,rfl,_,rfl,_,_,rfl,rfl,h0,?_⟩;refine⟨_,rfl,l,_,_,_,rfl,rfl,.of hl,rfl,_,rfl,_,_,rfl,rfl,⟨h0,h1⟩,_,rfl,l,_,_,0,rfl,rfl,hl,rfl,?_⟩;exact⟨_,rfl,k _ _ (Int.emod_nonneg _ Z1) (Int.emod_lt_of_pos _ h0) (bt.trans But.upd) (.inr ⟨_,_,_,a1_⟩)⟩
   ·refine⟨_,rfl,l,_,_,_,rfl,rfl,.of hl,rfl,_,_,rfl,rfl,_,rfl,l,_,_,2,rfl,rfl,hl,rfl,?_⟩;refine⟨_,rfl,l,_,_,_,rfl,rfl,.of a1_,rfl,_,rfl,l,_,_,_,rfl,rfl,.of a1_,rfl,_,_,rfl,rfl,.inl ⟨by decide,by decide⟩,_,_,rfl,rfl,_,_,rfl,rfl,_,_,rfl,rfl,.inr ⟨by decide,by decide⟩,_,_,rfl,rfl,by show (0:Int)<2147483647;decide,?_⟩;refine⟨_,rfl,_,rfl,_,_,rfl,rfl,⟨by decide,by decide⟩,_,_,rfl,rfl,_,_,rfl,rfl,.inl (small _),_,_,rfl,rfl,by show (0:Int)<2147483647;decide,?_⟩;refine⟨_,rfl,_,rfl,_,_,rfl,rfl,⟨by decide,by decide⟩,_,_,rfl,rfl,_,_,rfl,rfl,.inl (small _),_,_,rfl,rfl,by show (0:Int)<2147483399;decide,_,rfl,_,_,rfl,rfl,h0,?_⟩;exact k _ _ (Int.emod_nonneg _ Z1) (Int.emod_lt_of_pos _ h0) (bt.trans But.upd) (.inr ⟨_,_,_,a1_⟩)
theorem pa_s{X:Cx}{x:Str}{pos:Pos}{es:List Expr}{t:TA}(hr:PA X es t):PA X (.Constant (.str x) j pos::es) (bD' (tC (.str x)) t):=a0_ a7_ hr (by rfl)
def strC:Expr->Option Str
 |.Constant (.str x) _ _=>some x
 |_=>none
def tStrs(xs:List Str):TA:=λ_ H Q=>Q (xs.map V.str) H
theorem fz_{X:Cx}:∀{es:List Expr} {xs:List Str},es.map strC=xs.map some->PA X es (tStrs xs)
 |[],[],_=>a2_
 |[],_::_,h=>by cases h
 |_::_,[],h=>by cases h
 |e::es,x::xs,h=>by
  rw[aw',aw'] at h;obtain⟨h1,h2⟩:=e__ h;have ih:=fz_ (X:=X) h2;unfold strC at h1;split at h1
  ·cases h1;exact pa_s ih
  ·cases h1
def bh':List Str:=["hand","tie","piece","yard","free","fixed","none","tick","come","go","rest","run","show","ok"]
theorem je_:bh'.Nodup:=by decide +kernel
theorem jE_:∀n∈bh',ba' n=true:=by decide +kernel
structure Nm (m:Nat) (ns:List Str):Prop where
 len:ns.length=m
 nd:ns.Nodup
 ok:∀n∈ns,ba' n=true
 end_:∀n∈ns,n∈bh'∨∃k,k<m/\n.cps.toList.getLast? = some (97+k % 26)
theorem gB_(ns:List Str)(k:Nat)(h:k<=ns.length):cutV (ns.map V.str) (some (k:Int)) none=(ns.drop k).map V.str:=by
 unfold cutV;rw[HT.sIx_nat,HT.sIx_none,aa',Nat.min_eq_left h,List.map_drop,aF'];rw[a0',aa'];omega
variable{m:Nat}
theorem iX_{t:Nat}(hm:m<15)(ht:t<=14):Nm m ((bh'.drop t++bh'.take t).take m):=by
 have p:(bh'.drop t++bh'.take t).Perm bh':=List.perm_append_comm.trans (by rw[List.take_append_drop]);have sub:=List.take_sublist m (bh'.drop t++bh'.take t);have hl:(bh'.drop t++bh'.take t).length=14:=p.length_eq;refine⟨?_,sub.nodup (p.nodup_iff.mpr je_),λn hn=>jE_ n (p.mem_iff.mp (sub.subset hn)),λn hn=>.inl (p.mem_iff.mp (sub.subset hn))⟩;rw[af',hl];omega
def Tl(m k:Nat)(n:Str):Prop:=ba' n=true/\∃w:List Nat,n.cps.toList=w++(if 26<m then [97+k / 26] else [])++[97+k % 26]
theorem l8_{n:Str}(hm:m<=676)(hi:i<m)(hj:j<m)(a:Tl m i n)(b:Tl m j n):i=j:=by
 obtain⟨_,w1,e1⟩:=a;obtain⟨_,w2,e2⟩:=b;rw[e1] at e2;have l:=c_5 List.getLast? e2;rw[List.getLast?_append,List.getLast?_append] at l;simp at l;by_cases h:26<m
 ·rw[b__ h,b__ h] at e2;have z:=List.append_inj' e2 rfl;have z2:=List.append_inj' z.1 rfl;have:=(e__ z2.2).1;omega
 ·omega
theorem jl_(hm:m<=676)(hl:ns.length=m)(h:∀k n,ns[k]? = some n->Tl m k n):Nm m ns:=by
 refine⟨hl,?_,λn hn=>?_,λn hn=>?_⟩
 ·rw[aM',List.pairwise_iff_getElem];intro i j hi hj lt e;have a:=h i _ (ad' hi);have b:=h j _ (ad' hj);rw[e] at a;have:=l8_ hm Z1 Z1 a b;omega
 ·obtain⟨k,hk,e⟩:=aJ' hn;exact (h k n (by rw[ad' hk,e])).1
 ·obtain⟨k,hk,e⟩:=aJ' hn;obtain⟨_,w,e2⟩:=h k n (by rw[ad' hk,e]);refine .inr ⟨k,by omega,?_⟩;rw[e2,List.getLast?_append];rfl
variable{q:Nat}
theorem he_(h:q<26):atI ("abcdefghijklmnopqrstuvwxyz":Str).cps.toList (q:Int)=some (97+q):=by
 rw[gl_,bK' Z1 (by show (q:Int)<((26:Nat):Int);omega),Int.toNat_natCast];have all:∀i:Fin 26,[97,98,99,100,101,102,103,104,105,106,107,108,109,110,111,112,113,114,115,116,117,118,119,120,121,122][i.val]? = some (97+i.val):=by decide +kernel
 exact all ⟨q,h⟩
theorem cH_(x:Str)(c:Nat):(x++(⟨#[c]⟩:Str)).cps.toList=x.cps.toList++[c]:=PySem.W.KT.app_list _ _
theorem bF_(x:Str):x.length=x.cps.toList.length:=by rw[aK'];rfl
theorem hP_(h:q<26):okc (97+q)=true:=by
 unfold okc;rw[a_1 Z1,a_1 Z1];rfl
theorem bM':a6' ["_law_state","_law_many","_law_letters","_law_words","_law_turn","_law_names_here","_law_k","_law_word","_law_j"] ["_law_state","_law_many"] (a5' sNames):=f__
def ev':Sp:=λvs H Q _=>∃(l:Addr) (m:Nat),vs=[.ref l,.int m]/\m<=30/\stt H l/\∀(a:Addr) (ns:List Str) (H':Hp),But l H H'->stt H' l->H a=none->H' a=some (.lst (ns.map V.str))->Nm m ns->Q (.ref a) H'
theorem iT_(F:Fun K "_law_names" "_law_names" sNames f fd)(B:Bi mg)(cD:Cal P w K mg base 1 "_law_digit" ["_law_state","_law_base"] c5'):FnOk P w K mg base CX0 2 f fd ["_law_state","_law_many"] ev':=by
 refine F.ok bM' (λvs H Q E h=>?_) (λcdv A outer s H vs Q E hr h=>?_)
 ·obtain⟨l,m,rfl,_⟩:=h;rfl
 ·obtain⟨l,m,rfl,m30,st,k⟩:=h;have sz:=a_9;refine' ⟨_,?u0,?kk⟩
  case' u0=>refine' a3_ ?u1 ?u2
  case u1=>exact ae_ (i:=2) bM'.nd rfl (Or.inl rfl) a7_
  case' u2=>refine' a3_ ?u3 ?u4
  case' u3=>refine' ae_ (i:=3) ?u5 ?u6 ?u7 ?u8
  case u5=>exact bM'.nd
  case u6=>exact rfl
  case u7=>exact Or.inl rfl
  case' u8=>refine' as_ ?u9
  first|(case' u9=>refine' fz_ (xs:=bh') ?u10)|(case' u8=>refine' fz_ (xs:=bh') ?u10)
  first|(case u10=>exact by decide +kernel)|(case u9=>exact by decide +kernel)
  case' u4=>refine' a3_ ?u11 ?u12
  case' u11=>refine' ak_ ?u13 ?u14 ?u15
  case' u13=>refine' PW.pt ?u16
  first|(case' u16=>refine' do_ ?u17 ?u18)|(case' u13=>refine' do_ ?u17 ?u18)
  case u17=>exact ah_ lg_ (pv 1) a4_ (nomark _)
  case u18=>exact el_ (ah_ b6_ (al_ cD hr (a0_ (pv 0) (a0_ a4_ a2_))) a4_ (nomark _))
  case' u14=>refine' a3_ ?u19 ?u20
  case u19=>exact ae_ (i:=4) bM'.nd rfl (Or.inl rfl) (al_ cD hr (a0_ (pv 0) (a0_ a4_ a2_)))
  case' u20=>refine' a5_ ?u21
  first|(case' u21=>refine' af_ ?u22)|(case' u20=>refine' af_ ?u22)
  first|(case' u22=>refine' ar_ ?u23 ?u24 ?u25 ?u26)|(case' u21=>refine' ar_ ?u23 ?u24 ?u25 ?u26)
  case u23=>exact aF_
  case u24=>exact ao_ aU_ (ar_ aF_ (pv 3) (aB_ (pv 4)) aD_) (ar_ aF_ (pv 3) aD_ (aB_ (pv 4)))
  case u25=>exact aD_
  case u26=>exact aB_ (pv 1)
  case u15=>exact aa_
  case' u12=>refine' a3_ ?u27 ?u28
  case u27=>exact ae_ (i:=5) bM'.nd rfl (Or.inl rfl) (as_ a2_)
  case' u28=>refine' a3_ ?u29 ?u30
  case' u29=>refine' b2_ ?u31 ?u32 ?u33 ?u34 ?u35
  case u31=>exact c_0
  case u32=>exact rfl
  case u33=>exact eM_ (by rfl) B.range (a0_ (pv 1) a2_)
  case u34=>exact ac_ (i:=6) bM'.nd rfl (Or.inl rfl)
  case' u35=>refine' a3_ ?u36 ?u37
  case u36=>exact ae_ (i:=7) bM'.nd rfl (Or.inl rfl) a7_
  case' u37=>refine' a3_ ?u38 ?u39
  case' u38=>refine' b2_ ?u40 ?u41 ?u42 ?u43 ?u44
  case u40=>exact c_0
  case u41=>exact rfl
  case' u42=>refine' eM_ ?u45 ?u46 ?u47
  case u45=>exact by rfl
  case u46=>exact B.range
  case u47=>exact a0_ (al_ cD hr (a0_ (pv 0) (a0_ (ao_ kY_ a4_ (ao_ dH_ (pv 1) a4_)) a2_))) a2_
  case u43=>exact ac_ (i:=8) bM'.nd rfl (Or.inl rfl)
  case' u44=>refine' a5_ ?u48
  first|(case' u48=>refine' ae_ (i:=7) ?u49 ?u50 ?u51 ?u52)|(case' u44=>refine' ae_ (i:=7) ?u49 ?u50 ?u51 ?u52)
  case u49=>exact bM'.nd
  case u50=>exact rfl
  case u51=>exact Or.inl rfl
  case u52=>exact ao_ aG_ (pv 7) (ag_ eb_ (pv 2) (al_ cD hr (a0_ (pv 0) (a0_ a4_ a2_))) (λ_ _=>rfl))
  case' u39=>refine' a3_ ?u53 ?u54
  case' u53=>refine' ak_ ?u55 ?u56 ?u57
  case u55=>exact ah_ kC_ (pv 1) a4_ (nomark _)
  case' u56=>refine' a5_ ?u58
  first|(case' u58=>refine' ae_ (i:=7) ?u59 ?u60 ?u61 ?u62)|(case' u56=>refine' ae_ (i:=7) ?u59 ?u60 ?u61 ?u62)
  case u59=>exact bM'.nd
  case u60=>exact rfl
  case u61=>exact Or.inl rfl
  case u62=>exact ao_ aG_ (pv 7) (ag_ eb_ (pv 2) (ao_ dH_ (pv 6) a4_) (λ_ _=>rfl))
  case u57=>exact aa_
  case' u54=>refine' a5_ ?u63
  first|(case' u63=>refine' bv_ ?u64)|(case' u54=>refine' bv_ ?u64)
  first|(case' u64=>refine' bi_ ?u65 ?u66 ?u67 ?u68 ?u69 ?u70)|(case' u63=>refine' bi_ ?u65 ?u66 ?u67 ?u68 ?u69 ?u70)
  case u65=>exact c_1
  case u66=>exact c_9
  case u67=>exact c_8
  case u68=>exact b9_
  case u69=>exact pv 5
  case u70=>exact a0_ (ao_ aG_ (pv 7) (ag_ eb_ (pv 2) (ao_ dL_ (pv 6) a4_) (λ_ _=>rfl))) a2_
  case u30=>exact a5_ (af_ (pv 5))
  case' kk=>skip
  refine⟨by show 14<=sizeLine;decide,λlw hlw=>?_⟩;have hw0:upd H lw (.lst (bh'.map V.str)) lw=some (.lst (bh'.map V.str)):=a1_;have s0:Same H (upd H lw (.lst (bh'.map V.str))):=Same.new hlw
  have lwl:lw≠l:=by
   obtain⟨xs,e⟩:=st.some;exact (a9_ e hlw).symm
  have st0:=st.same s0;show tSeq _ _ _ _ (upd H lw (.lst (bh'.map V.str)));generalize upd H lw (.lst (bh'.map V.str))=H0 at hw0 s0 st0 ⊢;refine⟨_,rfl,_,_,rfl,rfl,_,rfl,?_⟩;refine ite2 (λc=>?yes) (λc=>?no)
  case' yes=>
   refine⟨_,rfl,l,8,rfl,by decide,by decide,st0,λr H1 r0 r8 b1 st1=>⟨rfl,_,rfl,?_⟩⟩;refine ite2 (λc2=>?words) (λc2=>?more)
  case words=>
   have c:m<15:=by
    have:(m:Int)<15:=by simpa using c
    omega
   have hw1:=b1 _ _ hw0 lwl;refine⟨_,rfl,l,14,rfl,by decide,by decide,st1,λt H2 t0 t14 b2 st2=>?_⟩;have hw2:=b2 _ _ hw1 lwl;obtain⟨t,rfl⟩:=aX' t0;have t14:t<14:=by omega
   refine⟨_,rfl,_,rfl,_,rfl,lw,_,rfl,.of hw2,λp1 hp1=>?_⟩;rw[gB_ _ _ (by show t<=14;omega)];have s3:=Same.new (o:=.lst ((bh'.drop t).map V.str)) hp1;refine⟨_,rfl,_,rfl,_,rfl,lw,_,rfl,.of (s3 _ _ hw2),λp2 hp2=>?_⟩;rw[gx_];have s4:=Same.new (o:=.lst ((bh'.take t).map V.str)) hp2;refine⟨p1,p2,_,_,rfl,rfl,s4 _ _ a1_,a1_,?_,λp3 hp3=>?_⟩
   ·rw[aa',aa',a0',af'];show 14 - t+min t 14<=sizeLine;omega
   have s5:=Same.new (o:=.lst ((bh'.drop t).map V.str++(bh'.take t).map V.str)) hp3;refine⟨_,rfl,_,rfl,p3,_,rfl,.of a1_,λp4 hp4=>?_⟩
   have e:cutV ((bh'.drop t).map V.str++(bh'.take t).map V.str) none (some (m:Int))=((bh'.drop t++bh'.take t).take m).map V.str:=by
    rw[<- ag',gx_]
   rw[e];have s6:=s3.trans (s4.trans s5);have b6:=(But.of s0).trans (b1.trans (b2.trans (But.of s6)));have st6:=st2.same s6;exact k p4 _ _ (b6.trans (But.of (Same.new hp4))) (st6.same (Same.new hp4)) (b6.free st6 hp4) a1_ (iX_ c Z1)
  case' no=>
   generalize hH:H0=H1;have b1:But l H0 H1:=by rw[hH];exact But.refl l H1
   have st1:stt H1 l:=by rw[<- hH];exact st0
  all_goals
   refine⟨by show 0<=sizeLine;decide,λa ha=>?_⟩;have s2:=Same.new (o:=.lst []) ha;have b0:But l H H1:=(But.of s0).trans b1;have ha0:H a=none:=b0.free st1 ha
   have hla:l≠a:=by
    obtain⟨xs,e⟩:=st1.some;exact a9_ e ha
   refine⟨_,rfl,_,rfl,by show (-(2 ^ 62):Int)<=(m:Int);omega,by show (m:Int)<(2 ^ 62:Int);omega,?_⟩
   refine dJ_ (lo:=0) (n:=(m:Int).toNat) (λi σ H2=>∃(v4 v6 v7 v8:Option V) (ns:List Str),σ=[some (.ref l),some (.int m),some (.str "abcdefghijklmnopqrstuvwxyz"),some (.ref lw),v4,some (.ref a),v6,v7,v8]/\But l H H2/\stt H2 l/\H2 a=some (.lst (ns.map V.str))/\ns.length=i/\∀k n,ns[k]? = some n->Tl m k n)
    ⟨_,_,_,_,[],rfl,b0.trans (But.of s2),st1.same s2,a1_,rfl,λk n e=>by simp at e⟩ ?_ ?_
   ·rintro i σ H2 hi ⟨v4,v6,v7,v8,ns,rfl,b2,st2,ha2,ln,tl⟩;rw[Int.zero_add];have hi:i<m:=by omega
    refine⟨_,rfl,_,rfl,_,_,rfl,rfl,⟨by decide,by decide⟩,_,_,rfl,rfl,l,8 - (m:Int) / 27,rfl,by omega,by omega,st2,λr H3 r0 rb b3 st3=>⟨_,rfl,by show (-(2 ^ 62):Int)<=r;omega,by show r<(2 ^ 62:Int);omega,?_⟩⟩
    refine dJ_ (lo:=0) (n:=r.toNat) (λj σ H4=>∃(x:Str) (v8:Option V),σ=[some (.ref l),some (.int m),some (.str "abcdefghijklmnopqrstuvwxyz"),some (.ref lw),v4,some (.ref a),some (.int i),some (.str x),v8]/\But l H H4/\stt H4 l/\H4 a=some (.lst (ns.map V.str))/\x.length=j/\x.cps.toList.all okc=true)
     ⟨"",_,rfl,b2.trans b3,st3,b3 _ _ ha2 hla.symm,rfl,rfl⟩ ?_ ?_
    ·rintro j σ H4 hj ⟨x,v8,rfl,b4,st4,ha4,hx,ho⟩;refine⟨_,rfl,_,rfl,_,rfl,l,26,rfl,by decide,by decide,st4,λq H5 q0 q26 b5 st5=>?_⟩;obtain⟨c,hc,oc⟩:=lf_ q0 q26;refine⟨_,_,_,rfl,rfl,by decide +kernel,hc,_,_,rfl,rfl,?_,_,_,rfl,b4.trans b5,st5,b5 _ _ ha4 hla.symm,?_,?_⟩
     ·have:(⟨#[c]⟩:Str).length=1:=rfl;omega
     ·rw[bF_,cH_,an',<- bF_,hx];rfl
     ·rw[cH_,List.all_append,ho];simp[oc]
    ·rintro σ H4 ⟨x,v8,rfl,b4,st4,ha4,hx,ho⟩;refine⟨_,rfl,_,_,rfl,rfl,_,rfl,?_⟩;refine ite2 (λc3=>?_) (λc3=>?_)
     have c3:26<m:=by
      have:(26:Int)<(m:Int):=by simpa using c3
      omega
     have hc3:atI ("abcdefghijklmnopqrstuvwxyz":Str).cps.toList ((i:Int) / 26)=some (97+i / 26):=by
      have:=he_ (q:=i / 26) Z1;rw[<- this];congr 1
     refine⟨_,rfl,_,rfl,_,rfl,_,_,rfl,rfl,⟨by decide,by decide⟩,_,_,_,rfl,rfl,by decide +kernel,hc3,_,_,rfl,rfl,by show x.length+1<=sizeLine;omega,?_⟩;have ex:(x++(⟨#[97+i / 26]⟩:Str)).cps.toList=x.cps.toList++(if 26<m then [97+i / 26] else []):=by rw[b__ c3];exact cH_ _ _
     generalize x++(⟨#[97+i / 26]⟩:Str)=x' at ex ⊢;rotate_left 1
     have c3:¬26<m:=by
      have:¬(26:Int)<(m:Int):=by simpa using c3
      omega
     have ex:x.cps.toList=x.cps.toList++(if 26<m then [97+i / 26] else []):=by rw[a_5 c3,aD']
     obtain⟨x',hx'⟩:∃x':Str,x'=x:=⟨_,rfl⟩;rw[<- hx'];have ex:x'.cps.toList=x.cps.toList++(if 26<m then [97+i / 26] else []):=by rw[hx'];exact ex
     all_goals
      have hc4:atI ("abcdefghijklmnopqrstuvwxyz":Str).cps.toList ((i:Int) % 26)=some (97+i % 26):=by
       have:=he_ (q:=i % 26) (Nat.mod_lt _ (by decide));rw[<- this];congr 1
      have lx:x'.length<=7:=by
       rw[bF_,ex,an',<- bF_,hx];by_cases hm:26<m
       ·rw[b__ hm];show r.toNat+1<=7;omega
       ·rw[a_5 hm];show r.toNat+0<=7;omega
      refine⟨_,rfl,.inl ⟨rfl,_,.of ha4⟩,_,rfl,_,rfl,_,rfl,_,_,rfl,rfl,by show (0:Int)<26;decide,_,_,_,rfl,rfl,by decide +kernel,hc4,_,_,rfl,rfl,?_,a,_,_,rfl,rfl,ha4,?_,?_⟩
      ·have:(⟨#[97+i % 26]⟩:Str).length=1:=rfl;omega
      ·rw[aa'];omega
      ·refine⟨_,_,_,_,ns++[x'++(⟨#[97+i % 26]⟩:Str)],rfl,λb o e ne=>?_,?_,?_,?_,λkk n hn=>?_⟩
       ·rw[a8_ (a9_ e ha0)];exact b4 _ _ e ne
       ·unfold stt;rw[a8_ hla];exact st4
       ·rw[a1_,ag'];rfl
       ·rw[an',ln];rfl
       ·by_cases hk:kk<ns.length
        ·rw[List.getElem?_append_left hk] at hn;exact tl kk n hn
        ·have hk2:kk=i:=by
          have:=(ac'.mp hn).1;rw[an'] at this;simp only[List.length_singleton] at this;omega
         subst hk2;rw[List.getElem?_append_right Z1,ln,Nat.sub_self] at hn;have hn:x'++(⟨#[97+kk % 26]⟩:Str)=n:=by simpa using hn
         subst hn;have ey:(x'++(⟨#[97+kk % 26]⟩:Str)).cps.toList=x'.cps.toList++[97+kk % 26]:=cH_ _ _;refine⟨?_,x.cps.toList,by rw[ey,ex]⟩;unfold ba';rw[bF_,ey,an',<- bF_,a_1 (by show 1<=x'.length+1;omega),a_1 (by show x'.length+1<=8;omega),List.all_append,ex,List.all_append,ho];have o1:([97+kk % 26]:List Nat).all okc=true:=by simp[hP_ (Nat.mod_lt kk (show 0<26 by decide))]
         have o2:(if 26<m then [97+kk / 26] else ([]:List Nat)).all okc=true:=by
          by_cases hm:26<m
          ·rw[b__ hm];simp[hP_ (show kk / 26<26 by omega)]
          ·rw[a_5 hm];rfl
         rw[o1,o2];rfl
   ·rintro σ H2 ⟨v4,v6,v7,v8,ns,rfl,b2,st2,ha2,ln,tl⟩;exact⟨_,rfl,k a ns H2 b2 st2 ha0 ha2 (jl_ Z1 Z1 tl)⟩
theorem hq_(ys:List V)(k:Nat):cutV ys none (some (k:Int))=ys.take k:=by
 unfold cutV;rw[HT.sIx_none,HT.sIx_nat,List.drop_zero,Nat.sub_zero];by_cases h:k<=ys.length
 ·rw[Nat.min_eq_left h]
 ·rw[Nat.min_eq_right Z1,aF' (ai' _),aF' Z1]
theorem i6_(ys:List V)(k:Nat):cutV ys (some (k:Int)) none=ys.drop k:=by
 unfold cutV;rw[HT.sIx_nat,HT.sIx_none];by_cases h:k<=ys.length
 ·rw[Nat.min_eq_left h,aF' (by rw[a0'];omega)]
 ·rw[Nat.min_eq_right Z1,List.drop_eq_nil_of_le (ai' _),List.drop_eq_nil_of_le Z1,List.take_nil]
theorem dr_{α β:Type}{F:α->β->Prop}:∀{ys:List α} {ks:List β} (n:Nat),Paired F ys ks->Paired F (ys.take n) (ks.take n)
 |_,_,0,_=>.nil
 |_,_,_+1,.nil=>.nil
 |_,_,n+1,.cons a t=>.cons a (dr_ n t)
theorem dB_{α β:Type}{F:α->β->Prop}:∀{ys:List α} {ks:List β} (n:Nat),Paired F ys ks->Paired F (ys.drop n) (ks.drop n)
 |_,_,0,h=>h
 |_,_,_+1,.nil=>.nil
 |_,_,n+1,.cons _ t=>dB_ n t
theorem aT_{α β:Type}{F:α->β->Prop}:∀{ys ys':List α} {ks ks':List β},Paired F ys ks->Paired F ys' ks'->Paired F (ys++ys') (ks++ks')
 |_,_,_,_,.nil,h=>h
 |_,_,_,_,.cons a t,h=>.cons a (aT_ t h)
theorem js_{α:Type}(l:List α)(t:Nat):(l.drop t++l.take t).Perm l:=List.perm_append_comm.trans (by rw[List.take_append_drop])
theorem hit3{α:Type}{p:α->Prop}{a b c:α}(h0:0<=r)(h1:r<3)(ha:p a)(hb:p b)(hc:p c):∃x,atI [a,b,c] r=some x/\p x:=by
 have:r=0∨r=1∨r=2:=by omega
 rcases this with rfl|rfl|rfl
 ·exact⟨_,rfl,ha⟩
 ·exact⟨_,rfl,hb⟩
 ·exact⟨_,rfl,hc⟩
structure TJ (ns:List Str) (k q:Nat) (ts:Xb):Prop where
 at':∀t∈ts,∃(a b:Nat) (x y:Str),a<b/\(a<k∨(a=k/\b<k+1+q))/\ns[a]? = some x/\ns[b]? = some y/\(t=(x,y)∨t=(y,x))
 nd:(ts.map kO).Nodup
 len:ts.length<=7 * k+q
variable{k:Nat}
theorem TJ.skip(h:TJ ns k j ts):TJ ns k (j+1) ts:=
 ⟨λt ht=>let ⟨a,b,x,y,h1,h2,h3,h4,h5⟩:=h.at' t ht;⟨a,b,x,y,h1,by omega,h3,h4,h5⟩,h.nd,by have:=h.len;omega⟩
theorem TJ.next(h:TJ ns k q ts)(h7:q<=7):TJ ns (k+1) 0 ts:=
 ⟨λt ht=>let ⟨a,b,x,y,h1,h2,h3,h4,h5⟩:=h.at' t ht;⟨a,b,x,y,h1,by omega,h3,h4,h5⟩,h.nd,by have:=h.len;omega⟩
theorem TJ.add(h:TJ ns k q ts)(nd:ns.Nodup){x y:Str}{t:Str × Str}(hx:ns[k]? = some x)(hy:ns[k+1+q]? = some y)(ht:t=(x,y)∨t=(y,x)):TJ ns k (q+1) (ts++[t]):=by
 refine⟨λu hu=>?_,?_,by have:=h.len;rw[an'];simp only[List.length_singleton];omega⟩
 ·rcases aq'.mp hu with hu|hu
  ·exact h.skip.at' u hu
  ·obtain rfl:u=t:=by simpa using hu
   exact⟨k,k+1+q,x,y,by omega,.inr ⟨rfl,by omega⟩,hx,hy,ht⟩
 ·rw[ag'];refine i4_ h.nd λm=>?_;obtain⟨u,hu,e⟩:=ab'.mp m;obtain⟨a,b,c,d,h1,h2,h3,h4,h5⟩:=h.at' u hu
  have key:(c=x/\d=y)∨(c=y/\d=x):=by
   rcases h5 with rfl|rfl<;>rcases ht with rfl|rfl<;>rcases lz_ e with⟨q1,q2⟩|⟨q1,q2⟩<;>simp_all
  rcases key with⟨rfl,rfl⟩|⟨rfl,rfl⟩
  ·have:=dD_ nd h3 hx;have:=dD_ nd h4 hy;omega
  ·have:=dD_ nd h3 hy;have:=dD_ nd h4 hx;omega
theorem TJ.good(h:TJ ns k j ts)(nd:ns.Nodup)(ok:∀n∈ns,ba' n=true):∀t∈ts,da' t/\t.1∈ns/\t.2∈ns:=λt ht=>by
 obtain⟨a,b,x,y,h1,h2,h3,h4,h5⟩:=h.at' t ht;have mx:=ae' h3;have my:=ae' h4
 have ne:x≠y:=λe=>by
  subst e;have:=dD_ nd h3 h4;omega
 rcases h5 with rfl|rfl
 ·exact⟨⟨ok _ mx,ok _ my,ne⟩,mx,my⟩
 ·exact⟨⟨ok _ my,ok _ mx,ne.symm⟩,my,mx⟩
def EndB(m:Nat)(n:Str):Prop:=n∈bh'∨∃k,k<m/\n.cps.toList.getLast? = some (97+k % 26)
theorem cr':a6' ["_law_state","_law_most","_law_names_here","_law_hands","_law_thin","_law_ties","_law_k","_law_one","_law_other","_law_turn"] ["_law_state","_law_most"] (a5' sLWeb):=f__
def spLWeb(K:F__):Sp:=λvs H Q _=>∃(l:Addr),vs=[.ref l,.int 8]/\stt H l/\∀(t lh lt:Addr) (ys zs:List V) (hs:Xa) (ts:Xb) (H':Hp),But l H H'->stt H' l->H' t=some (.tup [.ref lh,.ref lt])->H lh=none->H lt=none->lh≠lt->
 H' lh=some (.lst ys)->a8' K H' ys (hs.map kH)->H' lt=some (.lst zs)->a8' K H' zs (ts.map kT)->Good hs ts->(∀n∈hs.map (·.1),EndB 8 n)->Q (.ref t) H'
theorem ke_(F:Fun K "_law_web" "_law_web" sLWeb f fd)(B:Bi mg)(cD:Cal P w K mg base 1 "_law_digit" ["_law_state","_law_base"] c5')(cN:Cal P w K mg base 2 "_law_names" ["_law_state","_law_many"] ev'):FnOk P w K mg base CX0 3 f fd ["_law_state","_law_most"] (spLWeb K):=by
 refine F.ok cr' (λvs H Q E h=>?_) (λcdv A outer s H vs Q E hr h=>?_)
 ·obtain⟨l,rfl,_⟩:=h;rfl
 ·obtain⟨l,rfl,st,k⟩:=h;have sz:=a_9;have hr1:Room 1 _:=hr.mono (by decide)
  refine' ⟨_,a3_ (ae_ (i:=2) cr'.nd rfl (Or.inl rfl) (al_ cN hr (a0_ (pv 0) (a0_ (ao_ bc_ a4_ (al_ cD hr1 (a0_ (pv 0) (a0_ (pv 1) a2_)))) a2_))))
   (a3_ (bP_ (i:=3) ["_law_name","_law_state"] 1 [0] cr'.nd rfl (Or.inl rfl) (am_ (pv 2)) (λfp s H=>ac_ (i:=0) (show (["_law_name","_law_state"]:List Str).Nodup by decide +kernel) rfl (Or.inl rfl)) (λfp s H=>aW_)
    (λfp s H=>?he))
   (a3_ (ae_ (i:=4) cr'.nd rfl (Or.inl rfl) (ao_ bc_ a4_ (al_ cD hr1 (a0_ (pv 0) (a0_ a4_ a2_)))))
   (a3_ (ae_ (i:=5) cr'.nd rfl (Or.inl rfl) (as_ a2_))
   (a3_ (b2_ c_0 rfl (kt_ (by rfl) B.enum (a0_ (pv 2) a2_)) (ch_ rfl (aj_ (ac_ (i:=6) cr'.nd rfl (Or.inl rfl)) (aj_ (ac_ (i:=7) cr'.nd rfl (Or.inl rfl)) b3_)))
    (a5_ (b2_ c_0 rfl (am_ (ar_ aF_ (pv 2) (aB_ (ao_ bc_ (pv 6) a4_)) aD_)) (ac_ (i:=8) cr'.nd rfl (Or.inl rfl))
     (a5_ (ak_ (ah_ b6_ (al_ cD hr1 (a0_ (pv 0) (a0_ (pv 4) a2_))) a4_ (nomark _))
      (a5_ (bv_ (bi_ c_1 c_9 c_8 b9_ (pv 5) (a0_ (ag_ ad_ (as_ (a0_ (b0_ (a0_ (pv 7) (a0_ (pv 8) a2_))) (a0_ (b0_ (a0_ (pv 8) (a0_ (pv 7) a2_))) a2_))) (al_ cD hr1 (a0_ (pv 0) (a0_ a4_ a2_))) (λ_ _=>rfl)) a2_))))
      aa_)))))
   (a3_ (ae_ (i:=9) cr'.nd rfl (Or.inl rfl) (al_ cD hr1 (a0_ (pv 0) (a0_ (a6_ ai_ (by rfl) B.len b_3 (a0_ (pv 3) a2_)) a2_))))
   (a5_ (af_ (b0_ (a0_ (ao_ aU_ (ar_ aF_ (pv 3) (aB_ (pv 9)) aD_) (ar_ aF_ (pv 3) aD_ (aB_ (pv 9)))) (a0_ (pv 5) a2_)))))))))),?_⟩
  case he=>exact b0_ (a0_ (pv 0) (a0_ (ao_ bc_ a4_ (al_ cD hr1 (a0_ (pv 1) (a0_ (ag_ (ixK (K:=K) rIxL ad_) (as_ (a0_ a4_ (a0_ a4_ (a0_ a4_ a2_)))) (al_ cD hr1 (a0_ (pv 1) (a0_ a4_ a2_))) (λ_ _=>rfl)) a2_)))) a2_))
  refine⟨_,rfl,_,rfl,_,rfl,l,8,rfl,by decide,by decide,st,λr H1 r0 r8 b1 st1=>⟨_,_,rfl,rfl,?_⟩⟩;obtain⟨r,rfl⟩:=aX' r0;refine⟨l,1+r,by show [V.ref l,V.int (1+(r:Int))]=[V.ref l,V.int ((1+r:Nat):Int)];rw[Int.natCast_add];rfl,by omega,st1,λln ns H2 b2 st2 fn hn2 N=>?_⟩;have n8:ns.length<=8:=by rw[N.len];omega
  have n1:1<=ns.length:=by rw[N.len];omega
  have lnl:ln≠l:=λe=>by
   subst e;obtain⟨xs,e2⟩:=st1.some;rw[fn] at e2;cases e2
  refine⟨_,rfl,ln,rfl,⟨_,.of hn2⟩,λlh0 hlh0=>?_⟩
  have lh0l:lh0≠l:=by
   obtain⟨xs,e⟩:=st2.some;exact (a9_ e hlh0).symm
  refine aq_ (own:=1) (fv:=[some (.ref l)]) (xs:=ns.map V.str) rfl gok1 (λi out H'=>∃hs:Xa,But l H2 H'/\stt H' l/\H' lh0=some (.lst out)/\a8' K H' out (hs.map kH)/\hs.map (·.1)=ns.take i/\∀h∈hs,1<=h.2/\h.2<=1000) ⟨[],But.of (Same.new hlh0),st2.same (Same.new hlh0),a1_,.nil,rfl,by simp⟩ (λi out H' _ ⟨_,b,_⟩=>.of (b _ _ hn2 lnl)) (λys0 H3 ⟨hs0,b3,st3,hh3,tu3,en,gh⟩=>?_) (λi x out H' hx ⟨hs,b,stx,hD,tu,en,gh⟩=>?_);rotate_left 1
  ·obtain⟨n,hn,rfl⟩:=aE_ hx
   have li:out.length=i:=by
    have h1:=a_3 tu;rw[aa'] at h1;have h2:=c_5 List.length en;rw[aa',af'] at h2;have:=(ac'.mp hn).1;omega
   have hi:=(ac'.mp hn).1;refine⟨_,rfl,rfl,λNx hN=>yesT ?_⟩;refine⟨_,rfl,_,rfl,by show 3<=sizeLine;decide,λp hp=>?_⟩;have s4:=Same.new (o:=.lst [.int 3,.int 12,.int 1000]) hp
   have lp:p≠l:=by
    obtain⟨xs,e⟩:=stx.some;exact (a9_ e hp).symm
   refine⟨_,rfl,l,3,rfl,by decide,by decide,stx.same s4,λr1 H5 q0 q1 b5 st5=>?_⟩;obtain⟨y,hy,bb,eb,e1,e2⟩:=hit3 (p:=λy:V=>∃n:Int,y=.int n/\0<n/\n<=1000) (a:=V.int 3) (b:=.int 12) (c:=.int 1000) q0 q1 ⟨3,rfl,by decide,by decide⟩ ⟨12,rfl,by decide,by decide⟩ ⟨1000,rfl,by decide,by decide⟩;subst eb;refine⟨p,_,_,_,rfl,rfl,.of (b5 _ _ a1_ lp),hy,l,bb,rfl,e1,by omega,st5,λr2 H6 q2 q3 b6 st6=>⟨_,_,rfl,rfl,by show 2<=sizeLine;decide,λt ht=>?_⟩⟩;have b36:But l H' H6:=(But.of s4).trans (b5.trans b6);have hD6:=b36 _ _ hD lh0l;have s7:=Same.new (o:=.tup [.str n,.int (1+r2)]) ht;obtain⟨xs0,hlx⟩:=stx.some;have tu6:=bj_ tu b36 hlx;have tt:upd H6 t (.tup [.str n,.int (1+r2)]) t=some (.tup ((kH (n,1+r2)).map kV)):=a1_;refine⟨out,s7 _ _ hD6,by omega,hN _ _ ⟨hs++[(n,1+r2)],λb' o e ne=>?_,?_,a1_,?_,?_,λh hh=>?_⟩⟩
   ·rw[a8_ (a9_ e hlh0)];exact s7 _ _ (b36 _ _ (b _ _ e ne) ne)
   ·have:=st6.same s7;unfold stt;rw[a8_ lh0l.symm];exact this
   ·rw[ag'];exact b1_ (b4_ (tu6.same s7) tt) (s7 _ _ hD6)
   ·rw[ag',en,aI',hn];rfl
   ·rcases aq'.mp hh with hh|hh
    ·exact gh h hh
    ·obtain rfl:h=(n,1+r2):=by simpa using hh
     exact⟨by show 1<=1+r2;omega,by show 1+r2<=1000;omega⟩
  rw[aa',ao'] at en;have ln3:=b3 _ _ hn2 lnl;have lh0n:H2 lh0=none:=hlh0;refine⟨_,rfl,l,4,rfl,by decide,by decide,st3,λr3 H4 q0 q1 b4 st4=>⟨_,_,rfl,rfl,?_⟩⟩;refine⟨by show 0<=sizeLine;decide,λa ha=>?_⟩;have s5:=Same.new (o:=.lst []) ha
  have hla:l≠a:=by
   obtain⟨xs,e⟩:=st4.some;exact a9_ e ha
  have ln4:=b4 _ _ ln3 lnl;have hh4:=b4 _ _ hh3 lh0l;have lna:ln≠a:=a9_ ln4 ha;have lha:lh0≠a:=a9_ hh4 ha;have B4:But l H H4:=b1.trans (b2.trans (b3.trans b4));have ha0:H a=none:=B4.free st4 ha;have hlh00:H lh0=none:=(b1.trans b2).free st2 hlh0;obtain⟨xs3,hl3⟩:=st3.some;have tu4:=bj_ tu3 b4 hl3
  let Iv:Nat->Nat->Hp->Prop:=λkk q H'=>∃zs ts,But l H H'/\stt H' l/\H' ln=some (.lst (ns.map V.str))/\H' lh0=some (.lst ys0)/\a8' K H' ys0 (hs0.map kH)/\H' a=some (.lst zs)/\a8' K H' zs (ts.map kT)/\TJ ns kk q ts
  refine⟨_,rfl,ln,rfl,⟨_,.of (s5 _ _ ln4)⟩,jJ_ (K:=K) (a:=ln) (xs:=ns.map V.str) (λi σ H'=>∃(v6 v7 v8 v9:Option V),σ=[some (.ref l),some (.int 8),some (.ref ln),some (.ref lh0),some (.int (1+r3)),some (.ref a),v6,v7,v8,v9]/\Iv i 0 H')
   ⟨none,none,none,none,rfl,[],[],B4.trans (But.of s5),st4.same s5,s5 _ _ ln4,s5 _ _ hh4,tu4.same s5,a1_,.nil,⟨by simp,.nil,aN' _⟩⟩ (λi σ H' _ ⟨_,_,_,_,_,_,_,_,_,q,_⟩=>.of q) ?_ ?_⟩
  ·rintro i x σ H6 hx ⟨v6,v7,v8,v9,rfl,zs6,ts6,b6,st6,hn6,hh6,th6,ha6,tu6,tj6⟩ u hu;obtain⟨one,hone,rfl⟩:=aE_ hx;have hi:i<ns.length:=(ac'.mp hone).1;have s7:Same H6 (upd H6 u (.tup [.int i,.str one])):=Same.new hu;have hu7:upd H6 u (.tup [.int i,.str one]) u=some (.tup [.int i,.str one]):=a1_;refine⟨u,_,rfl,.of hu7,rfl,_,_,rfl,_,_,rfl,rfl,?_⟩;generalize upd H6 u (.tup [.int i,.str one])=H7 at s7 hu7 ⊢;refine⟨_,rfl,_,rfl,_,_,rfl,rfl,_,rfl,ln,_,rfl,.of (s7 _ _ hn6),λp hp=>?_⟩;have ec:cutV (ns.map V.str) (some ((i:Int)+1)) none=(ns.drop (i+1)).map V.str:=gB_ ns (i+1) Z1;rw[ec];have s8:Same H7 (upd H7 p (.lst ((ns.drop (i+1)).map V.str))):=Same.new hp
   have lp:l≠p:=by
    obtain⟨xs,e⟩:=(st6.same s7).some;exact a9_ e hp
   have pa:p≠a:=(a9_ (s7 _ _ ha6) hp).symm;have s78:=s7.trans s8
   refine⟨p,rfl,⟨_,.of a1_⟩,aX_ (K:=K) (a:=p) (xs:=(ns.drop (i+1)).map V.str) (λj σ H'=>∃(v8 v9:Option V),σ=[some (.ref l),some (.int 8),some (.ref ln),some (.ref lh0),some (.int (1+r3)),some (.ref a),some (.int i),some (.str one),v8,v9]/\H' p=some (.lst ((ns.drop (i+1)).map V.str))/\Iv i j H')
    ⟨_,_,rfl,a1_,zs6,ts6,b6.trans (But.of s78),st6.same s78,s78 _ _ hn6,s78 _ _ hh6,th6.same s78,s78 _ _ ha6,tu6.same s78,tj6⟩ (λj σ H' _ ⟨_,_,_,q,_⟩=>.of q) ?_ ?_⟩
   ·rintro j y σ H9 hy ⟨v8,v9,rfl,hp9,zs9,ts9,b9,st9,hn9,hh9,th9,ha9,tu9,tj9⟩;obtain⟨o,ho,rfl⟩:=aE_ hy;rw[List.getElem?_drop] at ho;refine⟨_,rfl,_,rfl,l,1+r3,rfl,by omega,by omega,st9,λr4 H10 q2 q3 b10 st10=>⟨rfl,_,rfl,?_⟩⟩;obtain⟨xs9,hl9⟩:=st9.some;have hn10:=b10 _ _ hn9 lnl;have hh10:=b10 _ _ hh9 lh0l;have ha10:=b10 _ _ ha9 hla.symm;have hp10:=b10 _ _ hp9 lp.symm;have tu10:=bj_ tu9 b10 hl9;have th10:=bj_ th9 b10 hl9;refine ite2 (λc=>?_) (λc=>?_)
    ·refine⟨_,rfl,.inl ⟨rfl,_,.of ha10⟩,_,rfl,_,rfl,by show 2<=sizeLine;decide,λt1 ht1=>?_⟩;have s11:=Same.new (o:=.tup [.str one,.str o]) ht1;refine⟨_,rfl,_,rfl,by show 2<=sizeLine;decide,λt2 ht2=>?_⟩;have s12:=Same.new (o:=.tup [.str o,.str one]) ht2;refine⟨by show 2<=sizeLine;decide,λlx hlx=>?_⟩;have s13:=Same.new (o:=.lst [.ref t1,.ref t2]) hlx;have s14:=(s11.trans s12).trans s13;have st13:=st10.same s14;refine⟨_,rfl,l,2,rfl,by decide,by decide,st13,λr5 H14 q4 q5 b14 st14=>?_⟩
     have lxl:lx≠l:=by
      obtain⟨xs,e⟩:=(st10.same (s11.trans s12)).some;exact (a9_ e hlx).symm
     have hlx14:=b14 _ _ (show upd (upd (upd H10 t1 (.tup [.str one,.str o])) t2 (.tup [.str o,.str one])) lx (.lst [.ref t1,.ref t2]) lx=_ from a1_) lxl;obtain⟨xs13,hl13⟩:=st13.some;have ht1':=s13 _ _ (s12 _ _ (show upd H10 t1 (.tup [.str one,.str o]) t1=_ from a1_));have ht2':=s13 _ _ (show upd (upd H10 t1 (.tup [.str one,.str o])) t2 (.tup [.str o,.str one]) t2=_ from a1_);have ht1'':=b14 _ _ ht1' (bK_ ht1' hl13 nofun);have ht2'':=b14 _ _ ht2' (bK_ ht2' hl13 nofun)
     have pick:∃(t:Addr) (tt:Str × Str),atI [V.ref t1,V.ref t2] r5=some (.ref t)/\H14 t=some (.tup ((kT tt).map kV))/\(tt=(one,o)∨tt=(o,one)):=by
      rcases hit2 (a:=V.ref t1) (b:=V.ref t2) q4 q5 with e|e
      ·exact⟨t1,(one,o),e,ht1'',.inl rfl⟩
      ·exact⟨t2,(o,one),e,ht2'',.inr rfl⟩
     obtain⟨t,tt,et,ht,etc⟩:=pick;have b1014:But l H10 H14:=(But.of s14).trans b14;obtain⟨xs10,hl10⟩:=st10.some;have ha14:=b1014 _ _ ha10 hla.symm;have hn14:=b1014 _ _ hn10 lnl;have hh14:=b1014 _ _ hh10 lh0l;have hp14:=b1014 _ _ hp10 lp.symm;have tu14:=bj_ tu10 b1014 hl10;have th14:=bj_ th10 b1014 hl10;have lz:=a_3 tu9;rw[aa'] at lz;have tl:=tj9.len
     have hj:j<8:=by
      have:=(ac'.mp ho).1;omega
     refine⟨lx,_,_,_,rfl,rfl,.of hlx14,et,a,_,_,rfl,rfl,ha14,by omega,?_⟩;refine⟨_,_,rfl,by rw[a8_ pa];exact hp14,_,ts9++[tt],λb o e ne=>?_,?_,by rw[a8_ lna];exact hn14,by rw[a8_ lha];exact hh14,b1_ th14 ha14,a1_,?_,tj9.add N.nd hone ho etc⟩
     ·rw[a8_ (a9_ e ha0)];exact b1014 _ _ (b10 _ _ (b9 _ _ e ne) ne) ne
     ·unfold stt;rw[a8_ hla];exact st14
     ·rw[ag'];exact b1_ (b4_ tu14 ht) ha14
    ·exact⟨_,_,rfl,hp10,zs9,ts9,b9.trans b10,st10,hn10,hh10,th10,ha10,tu10,tj9.skip⟩
   ·rintro σ H9 ⟨v8,v9,rfl,hp9,zs9,ts9,b9,st9,hn9,hh9,th9,ha9,tu9,tj9⟩;exact⟨_,_,_,_,rfl,zs9,ts9,b9,st9,hn9,hh9,th9,ha9,tu9,tj9.next (by rw[aa',a0'];omega)⟩
  ·rintro σ H6 ⟨v6,v7,v8,v9,rfl,zs6,ts6,b6,st6,hn6,hh6,th6,ha6,tu6,tj6⟩;rw[aa'] at tj6
   have ly:ys0.length=ns.length:=by
    have h1:=a_3 th6;rw[aa'] at h1;have h2:=c_5 List.length en;rw[aa'] at h2;omega
   refine⟨_,rfl,_,rfl,lh0,_,rfl,.inl (.of hh6),l,_,rfl,by show (0:Int)<(ys0.length:Int);omega,by show (ys0.length:Int)<1073741824;omega,st6,λtn H7 q0 q1 b7 st7=>?_⟩;obtain⟨tn,rfl⟩:=aX' q0;obtain⟨xs6,hl6⟩:=st6.some;have hh7:=b7 _ _ hh6 lh0l;have ha7:=b7 _ _ ha6 hla.symm;have tu7:=bj_ tu6 b7 hl6;have th7:=bj_ th6 b7 hl6;refine⟨_,rfl,_,rfl,_,rfl,lh0,_,rfl,.of hh7,λp1 hp1=>?_⟩;rw[i6_];have s8:=Same.new (o:=.lst (ys0.drop tn)) hp1;refine⟨_,rfl,_,rfl,_,rfl,lh0,_,rfl,.of (s8 _ _ hh7),λp2 hp2=>?_⟩;rw[hq_];have s9:=Same.new (o:=.lst (ys0.take tn)) hp2;refine⟨p1,p2,_,_,rfl,rfl,s9 _ _ a1_,a1_,by rw[a0',af'];omega,λp3 hp3=>?_⟩;have s10:=Same.new (o:=.lst (ys0.drop tn++ys0.take tn)) hp3;have s710:=s8.trans (s9.trans s10);refine⟨_,rfl,by show 2<=sizeLine;decide,λt ht=>?_⟩;have s11:=Same.new (o:=.tup [.ref p3,.ref a]) ht;have s711:=s710.trans s11;have b67:=b6.trans b7;have perm:=js_ hs0 tn;have pm:=perm.map (·.1);have gt:=tj6.good N.nd N.ok;have mem:∀n,n∈(hs0.drop tn++hs0.take tn).map (·.1) ↔ n∈ns:=λn=>by rw[pm.mem_iff,en]
   refine k t p3 a _ zs6 (hs0.drop tn++hs0.take tn) ts6 _ (b67.trans (But.of s711)) (st7.same s711) a1_ ((b67.trans (But.of (s8.trans s9))).free (st7.same (s8.trans s9)) hp3) ha0 (λe=>?_) (s11 _ _ a1_) ?_ (s711 _ _ ha7) (tu7.same s711) ⟨λh hh=>?_,?_,?_,?_,λt ht=>(gt t ht).1,tj6.nd,by have:=tj6.len;omega,λt ht=>⟨(mem _).mpr (gt t ht).2.1,(mem _).mpr (gt t ht).2.2⟩⟩ λn hn=>?_
   ·subst e;rw[(s8.trans s9) _ _ ha7] at hp3;cases hp3
   ·rw[ag',List.map_drop,List.map_take];have tt7:a8' K H7 (ys0.drop tn++ys0.take tn) ((hs0.map kH).drop tn++(hs0.map kH).take tn):=aT_ (dB_ tn th7) (dr_ tn th7);exact tt7.same s711
   ·have hm:=perm.mem_iff.mp hh;obtain⟨g1,g2⟩:=gh h hm;exact⟨N.ok _ (by rw[<- en];exact ab'.mpr ⟨h,hm,rfl⟩),g1,g2⟩
   ·refine pm.nodup_iff.mpr ?_;rw[en];exact N.nd
   ·have:=pm.length_eq;rw[aa',en] at this;omega
   ·have:=pm.length_eq;rw[aa',en] at this;omega
   ·rcases N.end_ n ((mem n).mp hn) with z|⟨kk,h1,h2⟩
    ·exact .inl z
    ·exact .inr ⟨kk,by omega,h2⟩
end Ev
namespace HT
open PySem PySem.Spec PyProof.Rows
end HT
namespace L2
open PySem PySem.Spec PyProof.Rows
end L2
namespace Ev
open PySem L2
structure du' (ts ws:Xb):Prop where
 good:∀w∈ws,da' w
 nd:(ws.map kO).Nodup
 inn:∀w∈ws,kO w∈ts.map kO
 len:ws.length<=ts.length
def WyAt(K:F__)(H:Hp)(v:V):Option (Xb)->Prop
 |none=>v=.non
 |some ws=>∃a ys,v=.ref a/\H a=some (.lst ys)/\a8' K H ys (ws.map kT)
variable{H':Hp}
theorem WyAt.same{K:F__}{H:Hp}{v:V}{o:Option (Xb)}(h:WyAt K H v o)(s:Same H H'):WyAt K H' v o:=by
 cases o with
 |none=>exact h
 |some ws=>
  obtain⟨a,ys,e,ha,t⟩:=h;exact⟨a,ys,e,s _ _ ha,t.same s⟩
section
variable{P:Ad}{w:Af}{K:F__}{mg:Str->Option Aa}{base:Heap}
end
abbrev Pc:=Str × Int × Option (Xb)
def PcAt(K:F__)(H:Hp)(y:V)(p:Pc):Prop:=∃t v,y=.ref t/\H t=some (.tup [.str p.1,.int p.2.1,v])/\WyAt K H v p.2.2
abbrev dJ'(K:F__)(H:Hp)(ys:List V)(ps:List Pc):Prop:=Paired (PcAt K H) ys ps
structure cP' (ts:Xb) (p:Pc):Prop where
 nm:ba' p.1=true
 w1:1<=p.2.1
 w2:p.2.1<=1000000000
 ws:∀ws,p.2.2=some ws->du' ts ws
theorem PcAt.same{K:F__}{H:Hp}{y:V}{p:Pc}(h:PcAt K H y p)(s:Same H H'):PcAt K H' y p:=by
 obtain⟨t,v,e,ht,hv⟩:=h;exact⟨t,v,e,s _ _ ht,hv.same s⟩
section
variable{P:Ad}{w:Af}{K:F__}{mg:Str->Option Aa}{base:Heap}
end
def StrV(K:F__)(H:Hp)(v:V):Option Str->Prop
 |some x=>v=.str x
 |none=>∃t,TyOf K H v t/\PySem.W.kitOne K t (.type "str")=some false
def inB(ns:List Str):Option Str->Bool
 |some x=>decide (x∈ns)
 |none=>false
def e1'(hs:Xa)(ts:Xb):Option Str->Option Str->Bool
 |some x,some y=>decide (x∈hs.map (·.1))&&(decide (y∈hs.map (·.1))&&decide (y∈near (a9' hs) (tsOf ts) x))
 |_,_=>false
theorem c8_(hs:Xa)(ts:Xb)(x y:Str):e1' hs ts (some x) (some y)=(decide (x∈hs.map (·.1))&&(decide (y∈hs.map (·.1))&&decide (y∈near (a9' hs) (tsOf ts) x))):=rfl
variable{f:Addr}{fd:Ae}
variable{H0:Hp}
variable{v:V}{o:Option (Xb)}{D:Addr}{u:HO}
section
variable{P:Ad}{w:Af}{K:F__}{mg:Str->Option Aa}{base:Heap}
inductive eH' (K:F__) (C:Addr) (vs:List V) (H:Hp) (Q:VK) (E:XK):Prop
 |mk:∀(p:Addr) (v:V) (x:Option Str) (hs:Xa) (ts:Xb) (fp:List Addr),vs=[.ref p,v]->bw' K C H p hs ts fp->StrV K H v x->Q (.bl (inB (hs.map (·.1)) x)) H->eH' K C vs H Q E
theorem kw_{C:Addr}(F:Fun K "has_hand" "Web.has_hand" sHas f fd)(T:Txt K mg C)(B:Bi mg):FnOk P w K mg base CX0 1 f fd ["self","thing"] (eH' K C):=by
 refine F.ok scHas (λvs H Q E h=>?_) (λcdv A outer s H vs Q E hr h=>?_)
 ·obtain⟨p,v,x,hs,ts,fp,rfl,_⟩:=h;rfl
 ·obtain⟨p,v,x,hs,ts,fp,rfl,W,sv,k⟩:=h;have hu:=bn_ hr;obtain⟨dx,d1,l2,d3,zs,as,rfl,h1,h2,h3,h4,h5,h6,h7⟩:=W.ex;refine⟨_,a5_ (af_ (bh_ (a6_ aH_ (by rfl) B.isi PyProof.Rows.Boot.«isinstance» (a0_ (pv 1) (a0_ (aV_ (v:=.ty "str") (by rfl) B.str PyProof.Rows.Boot.«str» rfl) a2_))) (bs_ (hE_ (cx_ hu (pv 1) (bz_ (pv 0) rfl)))))),?_⟩;cases x with
  |some x=>
   cases (show v=.str x from sv);refine⟨_,rfl,_,_,_,_,rfl,.str x,rfl,_,rfl,iteT ?_⟩;refine⟨_,rfl,_,rfl,p,C,dx,_,_,rfl,h1,T.cl,T.nS,gv_ _ _ _,d1,_,rfl,.k (k:=Sum.inr x) h2,?_⟩;rw[cR_];exact k
  |none=>
   obtain⟨t,ty,e⟩:=sv;exact⟨_,rfl,_,_,_,_,rfl,ty,e,_,rfl,iteF k⟩
inductive c6' (K:F__) (C:Addr) (vs:List V) (H:Hp) (Q:VK) (E:XK):Prop
 |mk:∀(p:Addr) (v u:V) (x y:Option Str) (hs:Xa) (ts:Xb) (fp:List Addr),vs=[.ref p,v,u]->bw' K C H p hs ts fp->(a9' hs).Nodup->StrV K H v x->StrV K H u y->Q (.bl (e1' hs ts x y)) H->c6' K C vs H Q E
theorem j0_{C:Addr}(F:Fun K "are_tied" "Web.are_tied" sTied f fd)(T:Txt K mg C)(cH:CalM P w K mg base C 1 "has_hand" ["self","thing"] (eH' K C)):FnOk P w K mg base CX0 2 f fd ["self","one","other"] (c6' K C):=by
 refine F.ok scTied (λvs H Q E h=>?_) (λcdv A outer s H vs Q E hr h=>?_)
 ·obtain⟨p,v,u,x,y,hs,ts,fp,rfl,_⟩:=h;rfl
 ·obtain⟨p,v,u,x,y,hs,ts,fp,rfl,W,nd,sv,su,k⟩:=h;have hu:=bn_ hr;obtain⟨dx,d1,l2,d3,zs,as,rfl,h1,h2,h3,h4,h5,h6,h7⟩:=id W.ex;have hno:(flds d1 l2 d3).lookup ("has_hand":Str)=none:=bV_ _ _ _ Z0 Z0 Z0;refine⟨_,a5_ (af_ (bh_ (d7_ cH T.cl hr (pv 0) (a0_ (pv 1) a2_)) (bh_ (d7_ cH T.cl hr (pv 0) (a0_ (pv 2) a2_)) (bs_ (b7_ (gj_ cmpS (cL' hr 0)) (pv 2) (cL_ hu (bz_ (pv 0) rfl) (pv 1) (λ_ _=>rfl)) (by with_unfolding_all rfl)))))),?_⟩;refine⟨_,rfl,p,dx,_,rfl,h1,hno,_,rfl,p,v,x,hs,ts,_,rfl,W,sv,_,rfl,?_⟩;cases x with
  |none=>exact iteF k
  |some x=>
   cases (show v=.str x from sv);refine ite2 (λc=>?_) (λc=>?_)
   ·have hx:x∈hs.map (·.1):=c_7 c;obtain⟨a,e1,ha⟩:=lA_ nd hx h6 h7;refine⟨_,rfl,p,dx,_,rfl,h1,hno,_,rfl,p,u,y,hs,ts,_,rfl,W,su,_,rfl,?_⟩;cases y with
    |none=>exact iteF k
    |some y=>
     cases (show u=.str y from su);rw[c8_,a_1 hx,aT'] at k;refine ite2 (λc2=>?_) (λc2=>?_)
     ·have hy:y∈hs.map (·.1):=c_7 c2;rw[a_1 hy,aT'] at k;refine⟨_,rfl,_,rfl,p,C,dx,_,_,rfl,h1,T.cl,T.nN,l0_ _ _ _,_,rfl,d3,.ref a,rfl,?_,y,_,rfl,⟨a,_,rfl,.of ha,eB_ _⟩,k⟩;rw[<- e1];exact .k (k:=Sum.inr x) h5
     ·have hy:¬y∈hs.map (·.1):=λz=>c2 (a_1 z);rw[a_2 hy,a1'] at k;exact k
   ·have hx:¬x∈hs.map (·.1):=λz=>c (a_1 z);cases y with
    |none=>exact k
    |some y=>
     rw[c8_,a_2 hx,a1'] at k;exact k
theorem jc_{hs:Xa}{ts ws:Xb}(G:Good hs ts)(W:du' ts ws){t:Str × Str}(ht:t∈tsOf ws):e1' hs ts (some t.1) (some t.2)=true:=by
 obtain⟨x,hx,ex⟩:=bt'.mp ht;obtain⟨u,hu,eu⟩:=ab'.mp (W.inn x hx);have eo:ord2 u.1 u.2=t:=(fp_ eu).trans ex
 have both:t.1∈hs.map (·.1)/\t.2∈hs.map (·.1)/\ord2 t.1 t.2=t:=by
  obtain⟨g1,g2⟩:=G.tin u hu;rcases bl_ u.1 u.2 with e|e
  ·rw[<- eo,e];exact⟨g1,g2,e⟩
  ·rw[<- eo,e];exact⟨g2,g1,(dm_ _ _).trans e⟩
 obtain⟨m1,m2,m3⟩:=both;have m4:t.2∈near (a9' hs) (tsOf ts) t.1:=aU'.mpr ⟨(aI_ hs).mem_iff.mpr m2,a_1 (by rw[m3];exact bt'.mpr ⟨u,hu,eo⟩)⟩;rw[c8_,a_1 m1,a_1 m2,a_1 m4];rfl
theorem b0':a6' ["web","ways","found","one","other"] ["web","ways"] (a5' eR'):=f__
inductive dD' (K:F__) (C:Addr) (vs:List V) (H:Hp) (Q:VK) (E:XK):Prop
 |mk:∀(p:Addr) (v:V) (o:Option (Xb)) (hs:Xa) (ts:Xb) (fp:List Addr),vs=[.ref p,v]->bw' K C H p hs ts fp->Good hs ts->WyAt K H v o->(∀ws,o=some ws->du' ts ws)->(∀v' H',Same H H'->WyAt K H' v' (o.map tsOf)->(∀a,v'=.ref a->H a=none)->Q v' H')->dD' K C vs H Q E
theorem jF_{C:Addr}(F:Fun K "checked_ways" "checked_ways" eR' f fd)(T:Txt K mg C)(cS:Cal P w K mg base 3 "sorted_ties" ["ties"] (cq' K))(cT:CalM P w K mg base C 2 "are_tied" ["self","one","other"] (c6' K C)):FnOk P w K mg base CX0 4 f fd ["web","ways"] (dD' K C):=by
 refine F.ok b0' (λvs H Q E h=>?_) (λcdv A outer s H vs Q E hr h=>?_)
 ·obtain⟨p,v,o,hs,ts,fp,rfl,_⟩:=h;rfl
 ·obtain⟨p,v,o,hs,ts,fp,rfl,W,G,wy,gw,k⟩:=h;have hu:=bn_ hr;have hr2:Room 2 _:=hr.mono (by decide)
  refine⟨_,a3_ (ak_ (bb_ (d0_ (pv 1))) (a5_ (af_ dC_)) aa_)
   (a3_ (ae_ (i:=2) b0'.nd rfl (Or.inl rfl) (al_ cS hr (a0_ (pv 1) a2_)))
   (a3_ (ak_ (bb_ (d0_ (pv 2))) ab_ aa_)
   (a3_ (b2_ c_0 rfl (am_ (pv 2)) (ch_ rfl (aj_ (ac_ (i:=3) b0'.nd rfl (Or.inl rfl)) (aj_ (ac_ (i:=4) b0'.nd rfl (Or.inl rfl)) b3_)))
    (a5_ (ak_ (ax_ (az_ (d7_ cT T.cl hr2 (pv 0) (a0_ (pv 3) (a0_ (pv 4) a2_))))) ab_ aa_)))
   (a5_ (af_ (pv 2)))))),?_⟩
  cases o with
  |none=>
   cases (show v=.non from wy);exact⟨_,rfl,_,rfl,iteT (k .non H (Same.refl H) rfl (λa z=>by cases z))⟩
  |some ws=>
   obtain⟨a,ys,rfl,ha,tu⟩:=wy;have Wo:=gw ws rfl;refine⟨_,rfl,_,rfl,iteF ?_⟩;refine⟨_,rfl,a,ys,ws,rfl,ha,tu,Wo.good,Wo.nd,by have:=Wo.len;have:=G.t64;omega,λl' zs H1 s1 hf hl1 tz=>?_⟩;refine⟨_,rfl,_,rfl,iteF ?_⟩;have W1:=W.same s1;obtain⟨dx,d1,l2,d3,zs0,as,rfl,h1,h2,h3,h4,h5,h6,h7⟩:=id W1.ex;have hno:(flds d1 l2 d3).lookup ("are_tied":Str)=none:=bV_ _ _ _ Z0 Z0 Z0;rw[<- aZ_] at tz;refine⟨_,rfl,l',rfl,⟨_,.of hl1⟩,aX_ (K:=K) (a:=l') (xs:=zs) (λi σ H2=>∃(v3 v4:Option V),σ=[some (.ref p),some (.ref a),some (.ref l'),v3,v4]/\H2=H1) ⟨none,none,rfl,rfl⟩ (λi σ H2 _ ⟨_,_,_,e⟩=>by subst e;exact .of hl1) ?_ ?_⟩
   ·rintro i y σ H2 hy ⟨v3,v4,rfl,rfl⟩;obtain⟨t,ht,q,rfl,hq⟩:=aQ_ tz hy;refine⟨q,_,rfl,.of (hpT hq),rfl,_,_,rfl,_,_,rfl,rfl,?_⟩;refine⟨_,rfl,p,dx,_,rfl,h1,hno,_,rfl,_,rfl,p,_,_,some t.1,some t.2,hs,ts,_,rfl,W1,G.nnd,rfl,rfl,_,rfl,?_⟩;rw[jc_ G Wo (ae' ht)];refine iteF ?_;exact⟨_,_,rfl,rfl⟩
   ·rintro σ H2 ⟨v3,v4,rfl,rfl⟩;exact⟨_,rfl,k (.ref l') _ s1 ⟨l',zs,rfl,hl1,tz⟩ (λc z=>by cases z;exact hf)⟩
def nrm(p:Pc):Pc:=(p.1,p.2.1,p.2.2.map tsOf)
def cM'(K:F__)(H0 H:Hp)(y:V)(p:Pc):Prop:=∃t v,y=.ref t/\H t=some (.tup [.str p.1,.int p.2.1,v])/\WyAt K H v p.2.2/\∀a,v=.ref a->H0 a=none
theorem cM'.same{K:F__}{H:Hp}{y:V}{p:Pc}(h:cM' K H0 H y p)(s:Same H H'):cM' K H0 H' y p:=by
 obtain⟨t,v,e,ht,hv,hn⟩:=h;exact⟨t,v,e,s _ _ ht,hv.same s,hn⟩
theorem WyAt.up{K:F__}{H:Hp}(h:WyAt K H v o)(n1:∀xs,H D≠some (.lst xs))(n2:∀xs,H D≠some (.tup xs)):WyAt K (upd H D u) v o:=by
 cases o with
 |none=>exact h
 |some ws=>
  obtain⟨a,ys,e,ha,t⟩:=h;exact⟨a,ys,e,by rw[a8_ (λz:a=D=>n1 ys (z▸ha))];exact ha,Paired.mapP t λy k ⟨b,z,q⟩=>⟨b,z,by rw[a8_ (λz:b=D=>n2 _ (z▸q))];exact q⟩⟩
theorem cM'.up{K:F__}{H:Hp}{y:V}{p:Pc}(h:cM' K H0 H y p)(n1:∀xs,H D≠some (.lst xs))(n2:∀xs,H D≠some (.tup xs)):cM' K H0 (upd H D u) y p:=by
 obtain⟨t,v,e,ht,hv,hn⟩:=h;exact⟨t,v,e,by rw[a8_ (λz:t=D=>n2 _ (z▸ht))];exact ht,hv.up n1 n2,hn⟩
theorem eo_{ps:List Pc}{cs:List V}(nd:(ps.map (·.1)).Nodup)(hl:cs.length=ps.length):∀{j:Nat} {q:Pc} {c:V},ps[j]? = some q->cs[j]? = some c->valV ((ps.zip cs).map λq=>((Sum.inr q.1.1:Key),q.2)) (Sum.inr q.1)=some c:=by
 induction ps generalizing cs with
 |nil=>
  intro j q c h;simp at h
 |cons p ps ih=>
  intro j q c h1 h2;cases cs with
  |nil=>cases hl
  |cons b cs=>
   rw[aw'] at nd;obtain⟨n1,n2⟩:=aV'.mp nd;cases j with
   |zero=>
    have e1:p=q:=by simpa using h1
    have e2:b=c:=by simpa using h2
    subst e1 e2;exact bW_ rfl
   |succ j=>
    have h1:ps[j]? = some q:=by simpa using h1
    have h2:cs[j]? = some c:=by simpa using h2
    show valV ((Sum.inr p.1,b)::((ps.zip cs).map λq=>((Sum.inr q.1.1:Key),q.2))) (Sum.inr q.1)=_;rw[bL_ λe=>n1 (by rw[show p.1=q.1 from c_3 e];exact ab'.mpr ⟨q,ae' h1,rfl⟩)];exact ih n2 (by simpa using hl) h1 h2
theorem eQ':a6' ["web","piece"] ["web","piece"] (a5' dR'):=f__
inductive ch' (K:F__) (C:Addr) (vs:List V) (H:Hp) (Q:VK) (E:XK):Prop
 |mk:∀(p:Addr) (y:V) (q:Pc) (hs:Xa) (ts:Xb) (fp:List Addr),vs=[.ref p,y]->bw' K C H p hs ts fp->Good hs ts->PcAt K H y q->cP' ts q->(∀y' H',Same H H'->cM' K H H' y' (nrm q)->Q y' H')->ch' K C vs H Q E
theorem eO_{C:Addr}(F:Fun K "checked_piece" "checked_piece" dR' f fd)(B:Bi mg)(cN:Cal P w K mg base 1 "is_name" ["thing"] cX')(cW:Cal P w K mg base 2 "is_whole_within" ["thing","least","most"] df')(cC:Cal P w K mg base 4 "checked_ways" ["web","ways"] (dD' K C)){tk:Tok}(mW:mg "MOST_WEIGHT"=some (.int 1000000000 tk)) :
  FnOk P w K mg base CX0 5 f fd ["web","piece"] (ch' K C):=by
 refine F.ok eQ' (λvs H Q E h=>?_) (λcdv A outer s H vs Q E hr h=>?_)
 ·obtain⟨p,y,q,hs,ts,fp,rfl,_⟩:=h;rfl
 ·obtain⟨p,y,q,hs,ts,fp,rfl,W,G,⟨t,v,rfl,ht,wy⟩,gp,k⟩:=h;have hr1:Room 1 _:=hr.mono (by decide);have hr2:Room 2 _:=hr.mono (by decide)
  refine⟨_,a3_ (ak_ (cm_ (ax_ (az_ (a6_ aH_ (by rfl) B.isi PyProof.Rows.Boot.«isinstance» (a0_ (pv 1) (a0_ (aV_ (v:=.ty "tuple") (by rfl) B.tuple PyProof.Rows.Boot.«tuple» rfl) a2_)))))
    (bI_ (ah_ d6_ (a6_ ai_ (by rfl) B.len b_3 (a0_ (pv 1) a2_)) a4_ (nomark _)))).pt ab_ aa_)
   (a3_ (ak_ (ax_ (az_ (al_ cN hr1 (a0_ (ag_ aL_ (pv 1) a4_ (λ_ _=>rfl)) a2_)))) ab_ aa_)
   (a3_ (ak_ (ax_ (az_ (al_ cW hr2 (a0_ (ag_ aL_ (pv 1) a4_ (λ_ _=>rfl)) (a0_ a4_ (a0_ (b5_ (v:=.int 1000000000) (by rfl) mW ⟨tk,rfl⟩) a2_)))))) ab_ aa_)
   (a5_ (af_ (b0_ (a0_ (ag_ aL_ (pv 1) a4_ (λ_ _=>rfl)) (a0_ (ag_ aL_ (pv 1) a4_ (λ_ _=>rfl)) (a0_ (al_ cC hr (a0_ (pv 0) (a0_ (ag_ aL_ (pv 1) a4_ (λ_ _=>rfl)) a2_))) a2_)))))))),?_⟩
  refine⟨_,rfl,_,_,_,_,rfl,.tup ht,rfl,_,rfl,iteF ?_⟩;refine⟨_,rfl,t,_,rfl,.inr (.of ht),rfl,_,rfl,?_⟩;refine eW' (show V.int ((3:Nat):Int)=V.int 3 from rfl) ?_;refine⟨_,rfl,t,_,_,_,rfl,rfl,.of ht,rfl,q.1,rfl,by have:=av_ gp.nm;omega,λH1 s1=>⟨_,rfl,?_⟩⟩;rw[gp.nm];refine iteF ?_;have ht1:=s1 _ _ ht;refine⟨_,rfl,t,_,_,_,rfl,rfl,.of ht1,rfl,q.2.1,1,1000000000,rfl,_,rfl,?_⟩;rw[a_1 gp.w1,a_1 gp.w2];refine iteF ?_;refine⟨_,rfl,t,_,_,_,rfl,rfl,.of ht1,rfl,_,rfl,t,_,_,_,rfl,rfl,.of ht1,rfl,_,rfl,_,rfl,t,_,_,_,rfl,rfl,.of ht1,rfl,p,v,q.2.2,hs,ts,fp,rfl,W.same s1,G,wy.same s1,gp.ws,λv' H2 s2 wy2 hf=>?_⟩;refine⟨by show 3<=sizeLine;decide,λt' ht'=>?_⟩;exact k (.ref t') _ (s1.trans (s2.trans (Same.new ht'))) ⟨t',v',rfl,a1_,wy2.same (Same.new ht'),λa z=>s1.free (hf a z)⟩
theorem bC':a6' ["web","pieces","found","piece","checked"] ["web","pieces"] (a5' cQ'):=f__
structure Qs (ps qs:List Pc):Prop where
 nms:qs.map (·.1)=bL' (ps.map (·.1))
 mem:∀q∈qs,∃p∈ps,q=nrm p
inductive cj' (K:F__) (C:Addr) (vs:List V) (H:Hp) (Q:VK) (E:XK):Prop
 |mk:∀(p l:Addr) (ys:List V) (ps:List Pc) (hs:Xa) (ts:Xb) (fp:List Addr),vs=[.ref p,.ref l]->bw' K C H p hs ts fp->Good hs ts->H l=some (.lst ys)->dJ' K H ys ps->(∀q∈ps,cP' ts q)->(ps.map (·.1)).Nodup->ps.length<64->(∀l' zs qs H',Same H H'->H' l'=some (.lst zs)->Paired (cM' K H H') zs qs->Qs ps qs->Q (.ref l') H')->cj' K C vs H Q E
theorem nw__{H:Hp}{a:Addr}{o:HO}(n:H a=none):Same H (upd H a o)/\upd H a o a=some o:=⟨Same.new n,a1_⟩
theorem gJ_{C:Addr}(F:Fun K "checked_pieces" "checked_pieces" cQ' f fd)(B:Bi mg)(cP:Cal P w K mg base 5 "checked_piece" ["web","piece"] (ch' K C)):FnOk P w K mg base CX0 6 f fd ["web","pieces"] (cj' K C):=by
 refine F.ok bC' (λvs H Q E h=>?_) (λcdv A outer s H vs Q E hr h=>?_)
 ·obtain⟨p,l,ys,ps,hs,ts,fp,rfl,_⟩:=h;rfl
 ·obtain⟨p,l,ys,ps,hs,ts,fp,rfl,W,G,hl,pc,gp,nd,h64,k⟩:=h;have hu:=bn_ hr;have sz:=a_9;have le:=a_3 pc
  refine⟨_,a3_ (ak_ (ax_ (az_ (a6_ aH_ (by rfl) B.isi PyProof.Rows.Boot.«isinstance» (a0_ (pv 1) (a0_ (aV_ (v:=.ty "list") (by rfl) B.list PyProof.Rows.Boot.«list» rfl) a2_))))) ab_ aa_)
   (a3_ (ae_ (i:=2) bC'.nd rfl (Or.inr rfl) cz_)
   (a3_ (b2_ c_0 rfl (am_ (pv 1)) (ac_ (i:=3) bC'.nd rfl (Or.inl rfl))
    (a3_ (ae_ (i:=4) bC'.nd rfl (Or.inl rfl) (al_ cP hr (a0_ (pv 0) (a0_ (pv 3) a2_))))
    (a3_ (ak_ (bb_ (cx_ hu (ag_ aL_ (pv 4) a4_ (λ_ _=>rfl)) (pv 2))) ab_ aa_)
    (a5_ (ct_ hu (pv 2) (ag_ aL_ (pv 4) a4_ (λ_ _=>rfl)) (pv 4) rfl)))))
   (a5_ (af_ (aS_ ["name","found"] 1 [2] (am_ (a6_ (fF_ rfl) (by rfl) B.sorted PyProof.Rows.Boot.«sorted» (a0_ (pv 2) a2_))) (λfp s H=>ac_ (i:=0) (show (["name","found"]:List Str).Nodup by decide +kernel) rfl (Or.inl rfl)) (λfp s H=>aW_)
    (λfp s H=>cL_ hu (pv 1) (pv 0) (λ_ _=>rfl))))))),?_⟩
  refine⟨_,rfl,_,_,_,_,rfl,.lst hl,rfl,_,rfl,iteF ?_⟩;intro d hd;have s0:Same H (upd H d (.dK [])):=Same.new hd;refine⟨_,rfl,l,rfl,⟨_,.of (s0 _ _ hl)⟩,aX_ (K:=K) (a:=l) (xs:=ys) (λi σ H2=>∃(v3 v4:Option V) (cs:List V),σ=[some (.ref p),some (.ref l),some (.ref d),v3,v4]/\Same H H2/\Paired (cM' K H H2) cs ((ps.take i).map nrm)/\H2 d=some (.dK (((ps.take i).zip cs).map λq=>(Sum.inr q.1.1,q.2)))) ⟨none,none,[],rfl,s0,.nil,a1_⟩ (λi σ H2 _ ⟨_,_,_,_,s2,_⟩=>.of (s2 _ _ hl)) ?_ ?_⟩
  ·rintro i y σ H2 hy ⟨v3,v4,cs,rfl,s2,pn,hd2⟩;have hi:i<ys.length:=(ac'.mp hy).1;have hq:ps[i]? = some (ps[i]' Z1):=ad' Z1;have py:=aC_ pc i hi Z1;rw[(ac'.mp hy).2] at py;generalize ps[i]' Z1=q at hq py;refine⟨_,rfl,_,rfl,p,y,q,hs,ts,fp,rfl,W.same s2,G,py.same s2,gp q (ae' hq),λy' H3 s3 pw=>?_⟩;obtain⟨t,v,rfl,ht,wy,hf⟩:=pw;have hd3:=s3 _ _ hd2;have lc:=a_3 pn;rw[aa',af'] at lc
   have keys:((((ps.take i).zip cs).map λq=>((Sum.inr q.1.1:Key),q.2)).map (·.1))=((ps.take i).map (·.1)).map Sum.inr:=by
    rw[ak'];have:((λx:Key × V=>x.1) ∘ λq:Pc × V=>((Sum.inr q.1.1:Key),q.2))=(λp:Pc=>(Sum.inr p.1:Key)) ∘ Prod.fst:=rfl;rw[this,<- ak',List.map_fst_zip (by rw[af'];omega),ak'];rfl
   have nov:valV (((ps.take i).zip cs).map λq=>((Sum.inr q.1.1:Key),q.2)) (Sum.inr q.1)=none:=aN_ (by
    rw[keys];intro m;obtain⟨x,hx,e⟩:=ab'.mp m;cases e;exact c6_ (g:=λp:Pc=>p.1) nd hq hx)
   refine⟨_,rfl,t,_,_,_,rfl,rfl,.of ht,rfl,_,rfl,d,_,rfl,.k (k:=Sum.inr q.1) hd3,_,rfl,?_⟩;rw[nov];refine iteF ?_;refine⟨_,rfl,_,rfl,_,rfl,t,_,_,_,rfl,rfl,.of ht,rfl,d,_,rfl,.k (k:=Sum.inr q.1) hd3 (by rw[aa',List.length_zip,af'];omega),?_⟩;have s23:=s2.trans s3;have n1:∀xs,H3 d≠some (.lst xs):=λxs z=>by rw[hd3] at z;cases z
   have n2:∀xs,H3 d≠some (.tup xs):=λxs z=>by rw[hd3] at z;cases z
   refine⟨_,_,cs++[.ref t],rfl,λc o e=>?_,?_,?_⟩
   ·rw[a8_ (a9_ e hd)];exact s23 _ _ e
   ·rw[aI',hq,ag'];exact aT_ (Paired.mapP pn λy q h=>(h.same s3).up n1 n2) (.cons (cM'.up ⟨t,v,rfl,ht,wy,λa z=>s2.free (hf a z)⟩ n1 n2) .nil)
   ·rw[a1_,by_ _ nov,aI',hq,List.zip_append (by rw[af'];omega),ag'];rfl
  ·rintro σ H2 ⟨v3,v4,cs,rfl,s2,pn,hd2⟩;rw[le,ao'] at pn hd2;have lc:=a_3 pn;rw[aa'] at lc
   have keys:(((ps.zip cs).map λq=>((Sum.inr q.1.1:Key),q.2)).map (·.1))=(ps.map (·.1)).map Sum.inr:=by
    rw[ak'];have:((λx:Key × V=>x.1) ∘ λq:Pc × V=>((Sum.inr q.1.1:Key),q.2))=(λp:Pc=>(Sum.inr p.1:Key)) ∘ Prod.fst:=rfl;rw[this,<- ak',List.map_fst_zip Z1,ak'];rfl
   refine⟨_,rfl,d,_,ps.map (·.1),rfl,hd2,keys,by rw[aa'];exact h64,λls hls=>?_⟩;obtain⟨s3,hl3⟩:=nw__ (o:=.lst ((bL' (ps.map (·.1))).map V.str)) hls;refine⟨ls,rfl,⟨_,.of hl3⟩,λD hD=>?_⟩;generalize upd H2 ls (.lst ((bL' (ps.map (·.1))).map V.str))=H3 at s3 hl3 hD ⊢;have lss:(bL' (ps.map (·.1))).length=ps.length:=by rw[(aP_ _).length_eq,aa']
   refine aq_ (own:=1) (fv:=[some (.ref d)]) (xs:=(bL' (ps.map (·.1))).map V.str) rfl gok1 (λi out H'=>∃qs:List Pc,Same H3 H'/\H' D=some (.lst out)/\Paired (cM' K H H2) out qs/\qs.map (·.1)=(bL' (ps.map (·.1))).take i/\∀q∈qs,∃p∈ps,q=nrm p) ⟨[],Same.new hD,a1_,.nil,rfl,by simp⟩ (λi out H' _ ⟨_,sm,_⟩=>.of (sm _ _ hl3)) (λzs H4 ⟨qs,s4,hD4,pq,en,mem⟩=>?_) (λi x out H' hx ⟨qs,sm,hD',pq,en,mem⟩=>?_)
   ·rw[aa',ao'] at en;exact k D zs qs H4 (s2.trans (s3.trans s4)) hD4 (Paired.mapP pq λy q h=>h.same (s3.trans s4)) ⟨en,mem⟩
   ·obtain⟨n,hn,rfl⟩:=aE_ hx;have hm:n∈ps.map (·.1):=(aP_ _).mem_iff.mp (ae' hn);obtain⟨q,hq,eq⟩:=ab'.mp hm;obtain⟨j,hj,ej⟩:=aJ' hq;have hqj:ps[j]? = some q:=by rw[ad' hj,ej]
    have hcj:cs[j]? = some (cs[j]' Z1):=ad' Z1;have hv:=eo_ nd lc hqj hcj;have pj:=aC_ pn j Z1 (by rw[aa'];omega);rw[List.getElem_map,ej] at pj;generalize cs[j]' Z1=c at hcj hv pj;rw[eq] at hv;have lo:=a_3 pq;have lq:=c_5 List.length en;rw[aa',af'] at lq;have hi:i<(bL' (ps.map (·.1))).length:=(ac'.mp hn).1;refine⟨_,rfl,rfl,λNx hN=>yesT ?_⟩;refine⟨_,rfl,_,rfl,d,c,rfl,?_,out,hD',by omega,hN _ _ ⟨qs++[nrm q],au_ sm hD,a1_,?_,?_,?_⟩⟩
    ·rw[<- hv];exact .k (k:=Sum.inr n) (sm _ _ (s3 _ _ hd2))
    ·exact aT_ pq (.cons pj .nil)
    ·rw[ag',en,aI',hn,<- eq];rfl
    ·intro q' hq';rcases aq'.mp hq' with hq'|hq'
     ·exact mem q' hq'
     ·obtain rfl:q'=nrm q:=by simpa using hq'
      exact⟨q,hq,rfl⟩
end
abbrev eP':Stmt:=bG' eb' 0
abbrev sGHas:Stmt:=bG' eb' 1
abbrev ej':Stmt:=bG' eb' 2
abbrev dC':Stmt:=bG' eb' 3
abbrev sGWays:Stmt:=bG' eb' 4
def gflds(p dw dy:Addr):List (Str × V):=putF "ways_by_name" (.ref dy) (putF "weight_by_name" (.ref dw) (putF "web" (.ref p) []))
theorem g12:¬(("web":Str)="weight_by_name"):=by decide +kernel
theorem g13:¬(("web":Str)="ways_by_name"):=by decide +kernel
theorem g23:¬(("weight_by_name":Str)="ways_by_name"):=by decide +kernel
theorem ey_(p dw dy:Addr):(gflds p dw dy).lookup ("web":Str)=some (.ref p):=by
 unfold gflds;rw[an_,a_5 g13,an_,a_5 g12,an_,b__ rfl]
theorem fT_(p dw dy:Addr):(gflds p dw dy).lookup ("weight_by_name":Str)=some (.ref dw):=by
 unfold gflds;rw[an_,a_5 g23,an_,b__ rfl]
theorem kL_(p dw dy:Addr):(gflds p dw dy).lookup ("ways_by_name":Str)=some (.ref dy):=by
 unfold gflds;rw[an_,b__ rfl]
theorem be_(p dw dy:Addr){m:Str}(h1:¬m="web")(h2:¬m="weight_by_name")(h3:¬m="ways_by_name"):(gflds p dw dy).lookup m=none:=by
 unfold gflds;rw[an_,a_5 h3,an_,a_5 h2,an_,a_5 h1]
 all_goals rfl
def wKV(qs:List Pc):List (Key × V):=qs.map λq=>(Sum.inr q.1,V.int q.2.1)
def yKV(qs:List Pc)(vs:List V):List (Key × V):=(qs.zip vs).map λx=>(Sum.inr x.1.1,x.2)
theorem g8_(qs:List Pc):(wKV qs).map (·.1)=(qs.map (·.1)).map Sum.inr:=by
 unfold wKV;rw[ak',ak'];rfl
variable{qs:List Pc}
theorem jG_{vs:List V}(h:vs.length=qs.length):(yKV qs vs).map (·.1)=(qs.map (·.1)).map Sum.inr:=by
 unfold yKV;rw[ak'];have:((λx:Key × V=>x.1) ∘ λq:Pc × V=>((Sum.inr q.1.1:Key),q.2))=(λp:Pc=>(Sum.inr p.1:Key)) ∘ Prod.fst:=rfl;rw[this,<- ak',List.map_fst_zip Z1,ak'];rfl
structure bc' (K:F__) (CG CW:Addr) (H:Hp) (g p:Addr) (hs:Xa) (ts:Xb) (qs:List Pc) (fp:List Addr):Prop where
 ex:∃(dx dw dy:Addr) (vs:List V) (fpw:List Addr),H g=some (.ins CG dx (gflds p dw dy))/\bw' K CW H p hs ts fpw/\H dw=some (.dK (wKV qs))/\H dy=some (.dK (yKV qs vs))/\Paired (λv (q:Pc)=>WyAt K H v q.2.2) vs qs /\
  g∈fp/\dw∈fp/\dy∈fp/\(∀b∈fpw,b∈fp)/\∀v∈vs,∀a,v=.ref a->a∈fp
theorem cq_{α β:Type}{F G:α->β->Prop}:∀{l:List α} {m:List β},Paired F l m->(∀a∈l,∀b,F a b->G a b)->Paired G l m
 |_,_,.nil,_=>.nil
 |_,_,.cons h t,f=>.cons (f _ ap' _ h) (cq_ t λa ha=>f a (aj' _ ha))
theorem WyAt.keep{K:F__}{H:Hp}(h:WyAt K H v o)(k:∀a,v=.ref a->∀u,H a=some u->H' a=some u)(kt:∀b xs,H b=some (.tup xs)->H' b=some (.tup xs)):WyAt K H' v o:=by
 cases o with
 |none=>exact h
 |some ws=>
  obtain⟨a,ys,e,ha,t⟩:=h;exact⟨a,ys,e,k a e _ ha,Paired.mapP t λy q ⟨b,z,hb⟩=>⟨b,z,kt _ _ hb⟩⟩
variable{fp:List Addr}
theorem bc'.keep{K:F__}{CG CW:Addr}{H:Hp}{g p:Addr}{hs:Xa}{ts:Xb}(G:bc' K CG CW H g p hs ts qs fp)(k:∀b∈fp,∀o,H b=some o->H' b=some o)(kt:∀b xs,H b=some (.tup xs)->H' b=some (.tup xs)):bc' K CG CW H' g p hs ts qs fp:=by
 obtain⟨dx,dw,dy,vs,fpw,h1,h2,h3,h4,h5,m1,m2,m3,m4,m5⟩:=G.ex;exact⟨dx,dw,dy,vs,fpw,k _ m1 _ h1,h2.keep (λb hb o e=>k b (m4 b hb) o e) kt,k _ m2 _ h3,k _ m3 _ h4,cq_ h5 λv hv q h=>h.keep (λa z u e=>k a (m5 v hv a z) u e) kt,m1,m2,m3,m4,m5⟩
theorem bc'.same{K:F__}{CG CW:Addr}{H:Hp}{g p:Addr}{hs:Xa}{ts:Xb}(G:bc' K CG CW H g p hs ts qs fp)(s:Same H H'):bc' K CG CW H' g p hs ts qs fp:=G.keep (λb _ o e=>s b o e) λb xs e=>s b _ e
structure TxtG (K:F__) (CG:Addr):Prop where
 cl:Cls K CG
 nW:bY' K CG "web"
 nG:bY' K CG "weight_by_name"
 nY:bY' K CG "ways_by_name"
structure InsK (K:F__) (C:Addr):Prop where
 ha:PySem.W.findIn K (.ref C) "__class__"=some (some (.builtin "object.__class__"))
 hn:PySem.W.specialIn K (.builtin "object.__class__") "__get__"=some (some (.builtin "getset_descriptor.__get__"))
 tk:PySem.W.takesIn K (.builtin "object.__class__")=some true
 mo:PySem.W.mroIn K C (.type "object")=some true
theorem gm_(K:F__)(c:Aa):PySem.W.kitOne K c c=some true:=by
 unfold PySem.W.kitOne;rw[b__ (beq_self_eq_true c)]
theorem gn_{K:F__}{H0 H:Hp}:∀{zs:List V} {qs:List Pc},Paired (cM' K H0 H) zs qs->∃vs:List V,vs.length=qs.length/\Paired (λz (x:Pc × V)=>∃t,z=.ref t/\H t=some (.tup [.str x.1.1,.int x.1.2.1,x.2])) zs (qs.zip vs)/\Paired (λv (q:Pc)=>WyAt K H v q.2.2) vs qs/\∀v∈vs,∀a,v=.ref a->H0 a=none
 |_,_,.nil=>⟨[],rfl,.nil,.nil,by simp⟩
 |_,_,.cons ⟨t,v,e,ht,wy,hn⟩ r=>by
  obtain⟨vs,h1,h2,h3,h4⟩:=gn_ r;refine⟨v::vs,by simp[h1],.cons ⟨t,e,ht⟩ h2,.cons wy h3,λu hu=>?_⟩;rcases ah'.mp hu with rfl|hu
  ·exact hn
  ·exact h4 u hu
theorem gq_{K:F__}{l:Addr}{zs:List V}{xs:List (Pc × V)}{H:Hp}{Q:VK}{σ0:St}{j:Nat}(sel:Pc × V->V)(hj:∀x:Pc × V,[some (V.str x.1.1),some (V.int x.1.2.1),some x.2][j]? = some (some (sel x)))(hσ:σ0=[none,none,none])(hl:H l=some (.lst zs))(pz:Paired (λz (x:Pc × V)=>∃t,z=.ref t/\H t=some (.tup [.str x.1.1,.int x.1.2.1,x.2])) zs xs)(h1000:xs.length<=1000)(hD:H D=none)(q:∀H' out,Same H H'->H' D=some (.lst out)->bz' K H' out (xs.map λx=>(Sum.inr x.1.1,sel x))->Q (.ref D) H') :
  CompW (Itl K l) (gTup K 3 (dh' (b1' 0) (dh' (b1' 1) (dh' (b1' 2) gNil)))) tYes (tTup (bD' (tVar 0) (bD' (tVar j) tNil))) σ0 D H Q:=by
 have sz:=a_9;have le:=a_3 pz;refine aq_ (own:=3) (fv:=[]) (xs:=zs) hσ gok3 (λi out H'=>Same H H'/\H' D=some (.lst out)/\bz' K H' out ((xs.take i).map λx=>(Sum.inr x.1.1,sel x))) ⟨Same.new hD,a1_,.nil⟩ (λi out H' _ ⟨sm,_,_⟩=>.of (sm _ _ hl)) (λout H4 ⟨sm,hD4,eo⟩=>?_) (λi y out H' hy ⟨sm,hD',eo⟩=>?_)
 ·rw[le,ao'] at eo;exact q _ _ sm hD4 eo
 ·have hi:i<zs.length:=(ac'.mp hy).1;have hx:xs[i]? = some (xs[i]' Z1):=ad' Z1;obtain⟨t,et,ht⟩:=aC_ pz i hi Z1;rw[(ac'.mp hy).2] at et;subst et;generalize xs[i]' Z1=x at hx ht;have lo:=a_3 eo;rw[aa',af'] at lo;refine⟨_,⟨t,_,_,_,rfl,.of (sm _ _ ht),rfl⟩,rfl,λNx hN=>yesT ?_⟩;refine⟨_,rfl,_,hj x,by show 2<=sizeLine;decide,λp hp=>?_⟩;have s2:=Same.new (o:=.tup [.str x.1.1,sel x]) hp;refine⟨out,s2 _ _ hD',by omega,hN _ _ ⟨au_ (sm.trans s2) hD,a1_,?_⟩⟩;rw[ay_ _ hx];have pD:∀{b:Addr} {ys:List V},upd H' p (.tup [.str x.1.1,sel x]) b=some (.tup ys)->b≠D:=λhb=>bK_ hb (s2 _ _ hD') nofun;refine aT_ (Paired.mapP eo λy kv ⟨b,z,hb⟩=>⟨b,z,by rw[a8_ (pD (s2 _ _ hb))];exact s2 _ _ hb⟩) (.cons ⟨p,rfl,?_⟩ .nil);have hp2:upd H' p (.tup [.str x.1.1,sel x]) p=some (.tup [.str x.1.1,sel x]):=a1_;rw[a8_ (pD hp2)];exact hp2
section
variable{P:Ad}{w:Af}{K:F__}{mg:Str->Option Aa}{base:Heap}
theorem dI':a6' ["self","web","pieces","checked"] ["self","web","pieces"] (a5' eP'):=f__
inductive dM' (K:F__) (CG CW:Addr) (vs:List V) (H:Hp) (Q:VK) (E:XK):Prop
 |mk:∀(g dx p l:Addr) (ys:List V) (ps:List Pc) (hs:Xa) (ts:Xb) (fpw:List Addr),vs=[.ref g,.ref p,.ref l]->H g=some (.ins CG dx [])->bw' K CW H p hs ts fpw->g∉fpw->Good hs ts->H l=some (.lst ys)->dJ' K H ys ps->(∀q∈ps,cP' ts q)->(ps.map (·.1)).Nodup->ps.length<64->(∀qs fp H',(∀b o,H b=some o->b≠g->H' b=some o)->bc' K CG CW H' g p hs ts qs fp->Qs ps qs->(∀b∈fp,b=g∨b∈fpw∨H b=none)->Q .non H')->dM' K CG CW vs H Q E
theorem iS_{CG CW:Addr}(F:Fun K "__init__" "Goods.__init__" eP' f fd)(T:TxtG K CG)(TW:Txt K mg CW)(IW:InsK K CW)(B:Bi mg)(mWeb:mg "Web"=some (.ref CW))(cP:Cal P w K mg base 6 "checked_pieces" ["web","pieces"] (cj' K CW)):FnOk P w K mg base CX0 7 f fd ["self","web","pieces"] (dM' K CG CW):=by
 refine F.ok dI' (λvs H Q E h=>?_) (λcdv A outer s H vs Q E hr h=>?_)
 ·obtain⟨g,dx,p,l,ys,ps,hs,ts,fpw,rfl,_⟩:=h;rfl
 ·obtain⟨g,dx,p,l,ys,ps,hs,ts,fpw,rfl,hg,W,gw,G,hl,pc,gp,nd,h64,k⟩:=h
  refine⟨_,a3_ (ak_ (ax_ (az_ (a6_ f4_ (by rfl) B.isi PyProof.Rows.Boot.«isinstance» (a0_ (pv 1) (a0_ (b5_ (v:=.ref CW) (by rfl) mWeb rfl) a2_))))) ab_ aa_)
   (a3_ (ae_ (i:=3) dI'.nd rfl (Or.inl rfl) (al_ cP hr (a0_ (pv 1) (a0_ (pv 2) a2_))))
   (a3_ (e1_ (pv 0) (pv 1) rfl)
   (a3_ (e1_ (pv 0) (aA_ (bd_ rfl) (by rfl) B.dict PyProof.Rows.Boot.«dict» (a0_ (aS_ ["name","weight","ways"] 3 [] (am_ (pv 3)) (λfp s H=>cn_ (n:=3) (aj_ (ac_ (i:=0) (show (["name","weight","ways"]:List Str).Nodup by decide +kernel) rfl (Or.inl rfl)) (aj_ (ac_ (i:=1) (show (["name","weight","ways"]:List Str).Nodup by decide +kernel) rfl (Or.inl rfl)) (aj_ (ac_ (i:=2) (show (["name","weight","ways"]:List Str).Nodup by decide +kernel) rfl (Or.inl rfl)) b3_)))) (λfp s H=>aW_) (λfp s H=>b0_ (a0_ (pv 0) (a0_ (pv 1) a2_)))) a2_)) rfl)
   (a5_ (e1_ (pv 0) (aA_ (bd_ rfl) (by rfl) B.dict PyProof.Rows.Boot.«dict» (a0_ (aS_ ["name","weight","ways"] 3 [] (am_ (pv 3)) (λfp s H=>cn_ (n:=3) (aj_ (ac_ (i:=0) (show (["name","weight","ways"]:List Str).Nodup by decide +kernel) rfl (Or.inl rfl)) (aj_ (ac_ (i:=1) (show (["name","weight","ways"]:List Str).Nodup by decide +kernel) rfl (Or.inl rfl)) (aj_ (ac_ (i:=2) (show (["name","weight","ways"]:List Str).Nodup by decide +kernel) rfl (Or.inl rfl)) b3_)))) (λfp s H=>aW_) (λfp s H=>b0_ (a0_ (pv 0) (a0_ (pv 2) a2_)))) a2_)) rfl))))),?_⟩
  obtain⟨dxw,d1,l2,d3,zs0,as,ef,w1,_⟩:=id W.ex;refine⟨_,rfl,_,_,_,_,rfl,.ins w1 TW.cl IW.ha IW.hn IW.tk IW.mo,gm_ _ _,_,rfl,iteF ?_⟩;refine⟨_,rfl,_,rfl,p,l,ys,ps,hs,ts,fpw,rfl,W,G,hl,pc,gp,nd,h64,λlc zs qs H1 s1 hlc pn Qq=>?_⟩;obtain⟨vs,lv,pz,wys,vnew⟩:=gn_ pn;have hg1:=s1 _ _ hg
  have lq:qs.length=ps.length:=by
   have:=c_5 List.length Qq.nms;rw[aa',(aP_ _).length_eq,aa'] at this;exact this
  have qnd:(qs.map (·.1)).Nodup:=by
   rw[Qq.nms];exact (aP_ _).nodup_iff.mpr nd
  refine⟨_,rfl,_,rfl,g,CG,dx,[],rfl,hg1,T.cl,T.nW,by show 0<1000;decide,?_⟩;have up1:∀{b o},H1 b=some o->b≠g->upd H1 g (.ins CG dx (putF "web" (.ref p) [])) b=some o:=λe ne=>by rw[a8_ ne];exact e
  have hg2:upd H1 g (.ins CG dx (putF "web" (.ref p) [])) g=some (.ins CG dx (putF "web" (.ref p) [])):=a1_
  have fr1:∀{b},upd H1 g (.ins CG dx (putF "web" (.ref p) [])) b=none->H1 b=none:=λ{b} e=>by
   by_cases z:b=g
   ·rw[z,a1_] at e;cases e
   ·rw[a8_ z] at e;exact e
  generalize upd H1 g (.ins CG dx (putF "web" (.ref p) []))=H2 at up1 hg2 fr1 ⊢;have lcg:lc≠g:=bK_ hlc hg1 nofun;have pz2:Paired (λz (x:Pc × V)=>∃t,z=.ref t/\H2 t=some (.tup [.str x.1.1,.int x.1.2.1,x.2])) zs (qs.zip vs):=Paired.mapP pz λz x ⟨t,e,ht⟩=>⟨t,e,up1 ht (bK_ ht hg1 nofun)⟩;have z1000:(qs.zip vs).length<=1000:=by rw[List.length_zip];omega
  refine⟨_,rfl,lc,rfl,⟨_,.of (up1 hlc lcg)⟩,λD hD=>?_⟩;refine gq_ (λx=>.int x.1.2.1) (λx=>rfl) rfl (up1 hlc lcg) pz2 z1000 hD λH3 out s3 hD3 pa3=>?_;refine⟨D,out,_,rfl,hD3,pa3,by rw[aa'];exact z1000,λdw hdw=>?_⟩
  have ekv:((qs.zip vs).map λx:Pc × V=>((Sum.inr x.1.1:Key),V.int x.1.2.1))=wKV qs:=by
   unfold wKV;have:(λx:Pc × V=>((Sum.inr x.1.1:Key),V.int x.1.2.1))=(λq:Pc=>((Sum.inr q.1:Key),V.int q.2.1)) ∘ Prod.fst:=rfl;rw[this,<- ak',List.map_fst_zip Z1]
  have ndk:(qs.map (·.1)).map (Sum.inr:Str->Key) |>.Nodup:=by
   rw[aM',aH'];exact qnd.imp λn e=>n (c_3 e)
  rw[ekv,bp_ (by rw[g8_];exact ndk)];have s4:=Same.new (o:=.dK (wKV qs)) hdw;have hg4:=s4 _ _ (s3 _ _ hg2);refine⟨_,rfl,g,CG,dx,_,rfl,hg4,T.cl,T.nG,by show 1<1000;decide,?_⟩;have s24:=s3.trans s4;have hdw4:upd H3 dw (.dK (wKV qs)) dw=some (.dK (wKV qs)):=a1_;have dwg:dw≠g:=(a9_ (s3 _ _ hg2) hdw).symm;have fr4:∀{b},upd H3 dw (.dK (wKV qs)) b=none->H2 b=none:=λe=>s24.free e;have dwn:H2 dw=none:=s3.free hdw;generalize upd H3 dw (.dK (wKV qs))=H4 at s4 hg4 s24 hdw4 fr4 ⊢;have up5:∀{b o},H4 b=some o->b≠g->upd H4 g (.ins CG dx (putF "weight_by_name" (.ref dw) (putF "web" (.ref p) []))) b=some o:=λe ne=>by rw[a8_ ne];exact e
  have hg5:upd H4 g (.ins CG dx (putF "weight_by_name" (.ref dw) (putF "web" (.ref p) []))) g=some (.ins CG dx (putF "weight_by_name" (.ref dw) (putF "web" (.ref p) []))):=a1_
  have fr5:∀{b},upd H4 g (.ins CG dx (putF "weight_by_name" (.ref dw) (putF "web" (.ref p) []))) b=none->H4 b=none:=λ{b} e=>by
   by_cases z:b=g
   ·rw[z,a1_] at e;cases e
   ·rw[a8_ z] at e;exact e
  generalize upd H4 g (.ins CG dx (putF "weight_by_name" (.ref dw) (putF "web" (.ref p) [])))=H5 at up5 hg5 fr5 ⊢;have up15:∀{b o},H1 b=some o->b≠g->H5 b=some o:=λe ne=>up5 (s24 _ _ (up1 e ne)) ne;have pz5:Paired (λz (x:Pc × V)=>∃t,z=.ref t/\H5 t=some (.tup [.str x.1.1,.int x.1.2.1,x.2])) zs (qs.zip vs):=Paired.mapP pz λz x ⟨t,e,ht⟩=>⟨t,e,up15 ht (bK_ ht hg1 nofun)⟩;refine⟨_,rfl,lc,rfl,⟨_,.of (up15 hlc lcg)⟩,λD2 hD2=>?_⟩;refine gq_ (λx=>x.2) (λx=>rfl) rfl (up15 hlc lcg) pz5 z1000 hD2 λH6 out2 s6 hD6 pa6=>?_;refine⟨D2,out2,_,rfl,hD6,pa6,by rw[aa'];exact z1000,λdy hdy=>?_⟩;rw[show ((qs.zip vs).map λx:Pc × V=>((Sum.inr x.1.1:Key),x.2))=yKV qs vs from rfl,bp_ (by rw[jG_ lv];exact ndk)];have s7:=Same.new (o:=.dK (yKV qs vs)) hdy;have s57:=s6.trans s7;have hg7:=s57 _ _ hg5;refine⟨_,rfl,g,CG,dx,_,rfl,hg7,T.cl,T.nY,by show 2<1000;decide,?_⟩;have hdy7:upd H6 dy (.dK (yKV qs vs)) dy=some (.dK (yKV qs vs)):=a1_;have dyg:dy≠g:=(a9_ (s6 _ _ hg5) hdy).symm;have dyn:H5 dy=none:=s6.free hdy;generalize upd H6 dy (.dK (yKV qs vs))=H7 at s7 s57 hg7 hdy7 ⊢
  have fin:∀{b o},H1 b=some o->b≠g->upd H7 g (.ins CG dx (gflds p dw dy)) b=some o:=λe ne=>by
   rw[a8_ ne];exact s57 _ _ (up15 e ne)
  have tupf:∀b xs,H1 b=some (.tup xs)->upd H7 g (.ins CG dx (gflds p dw dy)) b=some (.tup xs):=λb xs e=>fin e (bK_ e hg1 nofun);have nH:∀{b},H1 b=none->H b=none:=λe=>s1.free e;refine k qs (g::dw::dy::(fpw++vs.filterMap λv=>match v with | .ref a=>some a|_=>none)) _ (λb o e ne=>fin (s1 _ _ e) ne) ⟨dx,dw,dy,vs,fpw,a1_,?_,?_,?_,?_,by simp,by simp,by simp,λb hb=>by simp[hb],λv hv a z=>?_⟩ Qq λb hb=>?_
  ·exact W.keep (λb hb o e=>fin (s1 _ _ e) (λz=>gw (z▸hb))) λb xs e=>tupf b xs (s1 _ _ e)
  ·rw[a8_ dwg];exact s57 _ _ (up5 hdw4 dwg)
  ·rw[a8_ dyg];exact hdy7
  ·exact cq_ wys λv hv q h=>h.keep (λa z u e=>fin e (λzz=>by
    subst zz;have:=vnew v hv _ z;rw[hg] at this;cases this)) λb xs e=>tupf b xs e
  ·refine aj' _ (aj' _ (aj' _ (aG' _ (aA'.mpr ⟨v,hv,?_⟩))));rw[z]
  ·simp only[ah',aq',aA'] at hb;rcases hb with rfl|rfl|rfl|hb|⟨v,hv,e⟩
   ·exact .inl rfl
   ·exact .inr (.inr (nH (fr1 dwn)))
   ·exact .inr (.inr (nH (fr1 (s24.free (fr5 dyn)))))
   ·exact .inr (.inl hb)
   ·cases v with
    |ref a=>
     cases e;exact .inr (.inr (vnew _ hv _ rfl))
    |_=>cases e
end
end Ev
namespace L2
open PySem
theorem pass1{P:Ad}{w:Af}{X:Cx}:by' (CX1 P w) X E0:=λ_ _ _ _ _ _ _ h=>by
 obtain⟨_,_,_,_,_,_,_,_,_,_,_,_,z⟩:=h;exact z.elim
end L2
namespace Ev
open PySem L2
structure CalX (P:Ad) (w:Af) (K:F__) (mg:Str->Option Aa) (base:Heap) (C:Addr) (k:Nat) (m:Str) (ps:List Str) (sp:Sp):Prop where
 ex:∃f fd,FnOk P w K mg base (CX1 P w) k f fd ps sp/\Meth K C m f/\b9' K fd ps []
theorem lp_{X:Cx}{C:Addr}{k:Nat}{m:Str}{ps:List Str}{sp:Sp}{pos apos:Pos}{o e:Expr}{es:List Expr}{ta:TE}{t:TA}{pl:Sem Bool}(c:CalX X.prog X.w X.K X.mg X.base C k m ps sp)(cl:Cls X.K C)(hr:Room k X.A)(he:PE X o ta)(ha:PA X (e::es) t)
  (hst:starEach (e::es) X.env=(false,eval e X.env)::starEach es X.env:=by rfl) (hpl:(backTo pos (starEach es X.env)).any (·.1)=false:=by rfl)
  (ht:eval (.Call (.Attribute o m apos) (e::es) [] pos) X.env=(do
   let ov <- eval o X.env
   standAt apos.atName
   let (f,first) <- holding [ov] (getMethod ov m pl)
   callWith pos f first (backTo pos (starEach (e::es) X.env)) (backToKw pos (keywordEach [] X.env))):=by rfl) :
  PE X (.Call (.Attribute o m apos) (e::es) [] pos) (tMeth C m sp [] E0 ta t):=by
 obtain⟨f,fd,F,hm,b⟩:=c.ex;exact hN_ he cl hm F hr b .nil pass1 ha hst hpl ht
theorem fR_{kvs:List (Key × V)}{ns:List Str}(h:kvs.map (·.1)=ns.map Sum.inr)(x:Str):(valV kvs (Sum.inr x)).isSome=decide (x∈ns):=by
 by_cases hx:x∈ns
 ·rw[a_1 hx];refine c3_ ?_;rw[h];exact ab'.mpr ⟨x,hx,rfl⟩
 ·rw[a_2 hx,aN_]
  ·rfl
  ·rw[h];intro m;obtain⟨y,hy,e⟩:=ab'.mp m;cases e;exact hx hy
variable{q:Pc}
theorem l2_{qs:List Pc}(nd:(qs.map (·.1)).Nodup)(hq:q∈qs):valV (wKV qs) (Sum.inr q.1)=some (.int q.2.1):=by
 obtain⟨j,hj,e⟩:=aJ' hq;have:=eo_ (ps:=qs) (cs:=qs.map λq=>V.int q.2.1) nd (by rw[aa']) (j:=j) (q:=q) (c:=.int q.2.1) (by rw[ad' hj,e]) (by rw[az',ad' hj,e];rfl)
 have e2:((qs.zip (qs.map λq=>V.int q.2.1)).map λq=>((Sum.inr q.1.1:Key),q.2))=wKV qs:=by
  unfold wKV;rw[List.zip_map_right,ak']
  have:qs.zip qs=qs.map λq=>(q,q):=by
   clear nd hq this hj e j
   induction qs with
   |nil=>rfl
   |cons a l ih=>rw[List.zip_cons_cons,ih,aw']
  rw[this,ak'];rfl
 rwa [e2] at this
theorem lr_{qs:List Pc}{vs:List V}(nd:(qs.map (·.1)).Nodup){K:F__}{H:Hp}(h:Paired (λv (q:Pc)=>WyAt K H v q.2.2) vs qs)(hq:q∈qs):∃v∈vs,valV (yKV qs vs) (Sum.inr q.1)=some v/\WyAt K H v q.2.2:=by
 obtain⟨j,hj,e⟩:=aJ' hq;have hl:=a_3 h;have hv:j<vs.length:=by omega
 have p:=aC_ h j hv hj;rw[e] at p;exact⟨vs[j],List.getElem_mem hv,eo_ nd Z1 (by rw[ad' hj,e]) (ad' hv),p⟩
variable{f:Addr}{fd:Ae}
section
variable{P:Ad}{w:Af}{K:F__}{mg:Str->Option Aa}{base:Heap}
theorem scGHas:a6' ["self","thing"] ["self","thing"] (a5' sGHas):=f__
inductive cW' (K:F__) (CG CW:Addr) (vs:List V) (H:Hp) (Q:VK) (E:XK):Prop
 |mk:∀(g p:Addr) (v:V) (x:Option Str) (hs:Xa) (ts:Xb) (qs:List Pc) (fp:List Addr),vs=[.ref g,v]->bc' K CG CW H g p hs ts qs fp->StrV K H v x->Q (.bl (inB (qs.map (·.1)) x)) H->cW' K CG CW vs H Q E
theorem k8_{CG CW:Addr}(F:Fun K "has_piece" "Goods.has_piece" sGHas f fd)(T:TxtG K CG)(B:Bi mg):FnOk P w K mg base CX0 1 f fd ["self","thing"] (cW' K CG CW):=by
 refine F.ok scGHas (λvs H Q E h=>?_) (λcdv A outer s H vs Q E hr h=>?_)
 ·obtain⟨g,p,v,x,hs,ts,qs,fp,rfl,_⟩:=h;rfl
 ·obtain⟨g,p,v,x,hs,ts,qs,fp,rfl,G,sv,k⟩:=h;have hu:=bn_ hr;obtain⟨dx,dw,dy,vs,fpw,h1,h2,h3,h4,h5,m1,m2,m3,m4,m5⟩:=G.ex;refine⟨_,a5_ (af_ (bh_ (a6_ aH_ (by rfl) B.isi PyProof.Rows.Boot.«isinstance» (a0_ (pv 1) (a0_ (aV_ (v:=.ty "str") (by rfl) B.str PyProof.Rows.Boot.«str» rfl) a2_))) (bs_ (hE_ (cx_ hu (pv 1) (bz_ (pv 0) rfl)))))),?_⟩;cases x with
  |some x=>
   cases (show v=.str x from sv);refine⟨_,rfl,_,_,_,_,rfl,.str x,rfl,_,rfl,iteT ?_⟩;refine⟨_,rfl,_,rfl,g,CG,dx,_,_,rfl,h1,T.cl,T.nG,fT_ _ _ _,dw,_,rfl,.k (k:=Sum.inr x) h3,?_⟩;rw[fR_ (g8_ qs)];exact k
  |none=>
   obtain⟨t,ty,e⟩:=sv;exact⟨_,rfl,_,_,_,_,rfl,ty,e,_,rfl,iteF k⟩
theorem scGNames:a6' ["self"] ["self"] (a5' ej'):=f__
inductive bU' (K:F__) (CG CW:Addr) (vs:List V) (H:Hp) (Q:VK) (E:XK):Prop
 |mk:∀(g p:Addr) (hs:Xa) (ts:Xb) (qs:List Pc) (fp:List Addr),vs=[.ref g]->bc' K CG CW H g p hs ts qs fp->(∀l,H l=none->Q (.ref l) (upd H l (.lst ((qs.map (·.1)).map V.str))))->bU' K CG CW vs H Q E
theorem ib_{CG CW:Addr}(F:Fun K "names" "Goods.names" ej' f fd)(T:TxtG K CG)(B:Bi mg):FnOk P w K mg base CX0 1 f fd ["self"] (bU' K CG CW):=by
 refine F.ok scGNames (λvs H Q E h=>?_) (λcdv A outer s H vs Q E hr h=>?_)
 ·obtain⟨g,p,hs,ts,qs,fp,rfl,_⟩:=h;rfl
 ·obtain⟨g,p,hs,ts,qs,fp,rfl,G,k⟩:=h;obtain⟨dx,dw,dy,vs,fpw,h1,h2,h3,h4,h5,m1,m2,m3,m4,m5⟩:=G.ex;refine⟨_,a5_ (af_ (aA_ (cY_ rfl) (by rfl) B.list PyProof.Rows.Boot.«list» (a0_ (bz_ (pv 0) rfl) a2_))),?_⟩;refine⟨_,rfl,g,CG,dx,_,_,rfl,h1,T.cl,T.nG,fT_ _ _ _,dw,_,rfl,.inl h3,λl hl=>?_⟩
  have e:((wKV qs).map λkv=>kV kv.1)=(qs.map (·.1)).map V.str:=by
   unfold wKV;rw[ak',ak'];rfl
  rw[e];exact k l hl
structure Ref (K:F__) (mg:Str->Option Aa) (x:Str) (C:Addr):Prop where
 mg:mg x=some (.ref C)
 ex:PySem.W.excIn K C [.type "ValueError",.type "Exception",.type "BaseException",.type "object"] "ValueError.__new__"=true
theorem scGWeight:a6' ["self","piece"] ["self","piece"] (a5' dC'):=f__
inductive cs' (K:F__) (CG CW CP:Addr) (vs:List V) (H:Hp) (Q:VK) (E:XK):Prop
 |mk:∀(g p:Addr) (v:V) (x:Option Str) (hs:Xa) (ts:Xb) (qs:List Pc) (fp:List Addr),vs=[.ref g,v]->bc' K CG CW H g p hs ts qs fp->(qs.map (·.1)).Nodup->StrV K H v x->((∃q∈qs,x=some q.1/\Q (.int q.2.1) H)∨(inB (qs.map (·.1)) x=false/\E (.ref CP) none H))->cs' K CG CW CP vs H Q E
theorem gR_{CG CW CP:Addr}(F:Fun K "weight" "Goods.weight" dC' f fd)(T:TxtG K CG)(R:Ref K mg "NoPiece" CP)(cH:CalM P w K mg base CG 1 "has_piece" ["self","thing"] (cW' K CG CW)):FnOk P w K mg base (CX1 P w) 2 f fd ["self","piece"] (cs' K CG CW CP):=by
 refine F.okX scGWeight (λvs H Q E h=>?_) (λcdv A outer s H vs Q E hr h=>?_)
 ·obtain⟨g,p,v,x,hs,ts,qs,fp,rfl,_⟩:=h;rfl
 ·obtain⟨g,p,v,x,hs,ts,qs,fp,rfl,G,nd,sv,k⟩:=h;have hu:=bn_ hr;obtain⟨dx,dw,dy,vs,fpw,h1,h2,h3,h4,h5,m1,m2,m3,m4,m5⟩:=id G.ex;have hno:(gflds p dw dy).lookup ("has_piece":Str)=none:=be_ _ _ _ Z0 Z0 Z0;refine⟨_,a3_ (ak_ (ax_ (az_ (d7_ cH T.cl hr (pv 0) (a0_ (pv 1) a2_)))) (a5_ (aJ_ rfl raises1 R.mg R.ex a_8 (by rfl) (a0_ a7_ a2_))) aa_) (a5_ (af_ (cL_ hu (bz_ (pv 0) rfl) (pv 1) (λ_ _=>rfl)))),?_⟩;refine⟨_,rfl,g,dx,_,rfl,h1,hno,_,rfl,g,p,v,x,hs,ts,qs,fp,rfl,G,sv,_,rfl,?_⟩;rcases k with⟨q,hq,rfl,k⟩|⟨hb,k⟩
  ·cases (show v=.str q.1 from sv);rw[show inB (qs.map (·.1)) (some q.1)=true from a_1 (ab'.mpr ⟨q,hq,rfl⟩)];refine iteF ?_;refine⟨_,rfl,g,CG,dx,_,_,rfl,h1,T.cl,T.nG,fT_ _ _ _,_,rfl,dw,_,rfl,?_,k⟩;rw[<- l2_ nd hq];exact .k (k:=Sum.inr q.1) h3
  ·rw[hb];exact iteT ⟨by show 1<=sizeLine;decide,k⟩
theorem scGWays:a6' ["self","piece","ties"] ["self","piece"] (a5' sGWays):=f__
inductive dZ' (K:F__) (CG CW CP:Addr) (vs:List V) (H:Hp) (Q:VK) (E:XK):Prop
 |mk:∀(g p:Addr) (v:V) (x:Option Str) (hs:Xa) (ts:Xb) (qs:List Pc) (fp:List Addr),vs=[.ref g,v]->bc' K CG CW H g p hs ts qs fp->(qs.map (·.1)).Nodup->StrV K H v x->((∃q∈qs,x=some q.1/\(∀ws,q.2.2=some ws->ws.length<=1000)/\∀v' H',Same H H'->WyAt K H' v' q.2.2->(∀a,v'=.ref a->H a=none)->Q v' H')∨(inB (qs.map (·.1)) x=false/\E (.ref CP) none H))->dZ' K CG CW CP vs H Q E
theorem jr_{CG CW CP:Addr}(F:Fun K "ways" "Goods.ways" sGWays f fd)(T:TxtG K CG)(R:Ref K mg "NoPiece" CP)(cH:CalM P w K mg base CG 1 "has_piece" ["self","thing"] (cW' K CG CW))(cA:Cal P w K mg base 1 "ties_anew" ["ties"] (eN' K)):FnOk P w K mg base (CX1 P w) 2 f fd ["self","piece"] (dZ' K CG CW CP):=by
 refine F.okX scGWays (λvs H Q E h=>?_) (λcdv A outer s H vs Q E hr h=>?_)
 ·obtain⟨g,p,v,x,hs,ts,qs,fp,rfl,_⟩:=h;rfl
 ·obtain⟨g,p,v,x,hs,ts,qs,fp,rfl,G,nd,sv,k⟩:=h;have hu:=bn_ hr;obtain⟨dx,dw,dy,vs,fpw,h1,h2,h3,h4,h5,m1,m2,m3,m4,m5⟩:=id G.ex;have hno:(gflds p dw dy).lookup ("has_piece":Str)=none:=be_ _ _ _ Z0 Z0 Z0
  refine⟨_,a3_ (ak_ (ax_ (az_ (d7_ cH T.cl hr (pv 0) (a0_ (pv 1) a2_)))) (a5_ (aJ_ rfl raises1 R.mg R.ex a_8 (by rfl) (a0_ a7_ a2_))) aa_)
   (a3_ (ae_ (i:=2) scGWays.nd rfl (Or.inl rfl) (cL_ hu (bz_ (pv 0) rfl) (pv 1) (λ_ _=>rfl)))
   (a5_ (af_ (g5_ (bb_ (d0_ (pv 2))) dC_ (al_ cA hr (a0_ (pv 2) a2_)))))),?_⟩
  refine⟨_,rfl,g,dx,_,rfl,h1,hno,_,rfl,g,p,v,x,hs,ts,qs,fp,rfl,G,sv,_,rfl,?_⟩;rcases k with⟨q,hq,rfl,h1000,k⟩|⟨hb,k⟩
  ·cases (show v=.str q.1 from sv);rw[show inB (qs.map (·.1)) (some q.1)=true from a_1 (ab'.mpr ⟨q,hq,rfl⟩)];refine iteF ?_;obtain⟨u,hu',eu,wy⟩:=lr_ nd h5 hq;refine⟨_,rfl,g,CG,dx,_,_,rfl,h1,T.cl,T.nY,kL_ _ _ _,_,rfl,dy,u,rfl,?_,?_⟩
   ·rw[<- eu];exact .k (k:=Sum.inr q.1) h4
   ·refine⟨_,rfl,_,rfl,?_⟩;cases e:q.2.2 with
    |none=>
     rw[e] at wy k;cases (show u=.non from wy);exact iteT (k .non H (Same.refl H) rfl (λa z=>by cases z))
    |some ws=>
     rw[e] at wy k;obtain⟨a,ys,rfl,ha,tu⟩:=wy;refine iteF ⟨_,rfl,a,ys,ws,rfl,ha,tu,h1000 ws e,λl' zs H' sm hf hl' tz=>k (.ref l') H' sm ⟨l',zs,rfl,hl',tz⟩ (λc z=>by cases z;exact hf)⟩
  ·rw[hb];exact iteT ⟨by show 1<=sizeLine;decide,k⟩
end
end Ev
namespace L2
open PySem PySem.Spec PyProof.Rows PySem.W
variable{P:Ad}{w:Af}
theorem ki_{k:Key}{key:Aa}(h:(bd' P w).is k key=true):RelV (kV k) key:=by
 have e2:dX' k key=true:=h;rcases aK_ e2 with⟨i,t,rfl,rfl⟩|⟨x,t,rfl,rfl⟩
 ·exact⟨t,rfl⟩
 ·exact⟨t,rfl⟩
def Itm(d:Addr)(o:Obj)(kvs:List (Key × V)):It:=⟨λi H=>H d=some (.frz o (.dK kvs))/\i<kvs.length,λi H y H'=>∃t k x,y=.ref t/\H t=none/\kvs[i]? = some (k,x)/\H'=upd H t (.tup [kV k,x]),λi H=>H d=some (.frz o (.dK kvs))/\kvs.length<=i⟩
variable{elts:List Expr}{kk:Nat}
theorem gH_{K:F__}{pos:Pos}(d it:Addr)(o:Obj)(kvs:List (Key × V)){es:Array DictEntry}{ep:Nat}(ho:o.data=.dict es ep):Turn P w K (.Tuple elts kk pos) (Itm d o kvs) [it] it (λi h=>∃ok ov,IsItemIter h it d i kvs.length ep ok ov) where
 mem:=by simp
 obj:=λi h st b hb=>by
  obtain rfl:b=it:=by simpa using hb
  obtain⟨ok,ov,q⟩:=st;exact⟨_,q,λv z=>by cases z⟩
 keep:=λi h h' st k=>by
  obtain⟨ok,ov,q⟩:=st;exact⟨ok,ov,k it Z2 _ q⟩
 item:=by
  intro X hP hw hK hc i pins s σ H E I hf st hg;subst hP hw hK;obtain⟨hd,hi⟩:=hg;obtain⟨vs,rel,dat⟩:=e8_ I hd ho;obtain⟨⟨k,x⟩,hx⟩:∃p,kvs[i]? = some p:=⟨kvs[i],by simp[hi]⟩;obtain⟨u,hu,ru⟩:=lx_ rel i hx;obtain⟨ok,ov,st⟩:=st;have itl:it<s.heap.objs.size:=a_6 st;rw[rel.length] at st;refine wpAny_pyNext_items_item st dat hu λkey h' hk out ht sz kp=>?_;refine⟨_,rfl,wpAny_letOwnedTupleGo_items (s:={ s with heap:=h' }) out λh2 st2 sb=>?_⟩;have nT:s.heap.objs.size≠it:=a4' itl;have I1:Inv X pins σ (upd H s.heap.objs.size (.tup [kV k,x])) { s with heap:=h2 }:=I.turnedN (t':=s.toks) (fp:=[it]) (its:=[key,u]) (λb o hb q=>(sb.2 b (by simpa using hb)).trans (kp b o (by simpa using hb) q)) hf (ai' _) (by show 2<=sizeLine;decide) (.cons (ki_ hk) (.cons ru .nil)) ⟨⟨_,(sb.2 _ nT).trans ht,rfl,_,rfl⟩,_,(sb.2 _ nT).trans ht,rfl⟩;refine⟨.ref _,_,I1,rfl,⟨_,k,x,rfl,I.hok.fresh (ai' _),hx,rfl⟩,⟨_,_,by rw[rel.length];exact st2⟩,λb hb=>?_⟩;have e:b=it:=by simpa using hb
  rw[a8_ (λz=>nT (z.symm.trans e))];exact (hf b hb).1
 done:=by
  intro X hP hw hK hc i pins s σ H E I hf st hg;subst hP hw hK;obtain⟨hd,hi⟩:=hg;obtain⟨vs,rel,dat⟩:=e8_ I hd ho;obtain⟨f0,f1,f2,f3,f4,f5⟩:=hf it Z2;obtain⟨ok,ov,st⟩:=st;rw[rel.length] at st hi;exact wpAny_pyNext_items_end (I.ok.hd hc) st dat (by simp;omega) λh' eb=>⟨rfl,I.turned (t':=s.toks) (λb o hb e=>eb b o hb e) f0 f1 f3 f4 f5⟩
 self:=λA i s Q E st h=>by
  obtain⟨ok,ov,q⟩:=st;exact kcp_self q h
inductive iItemsR (R:It->Hp->Prop) (x:V) (H1:Hp):Prop
 |mk:∀v d kvs,x=.ref v->H1 v=some (bA' v d)->H1 d=some (.dK kvs)->(∀o,R (Itm d o kvs) (upd H1 d (.frz o (.dK kvs))))->iItemsR R x H1
def iItems(tv:TE):TI:=λσ H R=>tv σ H λx H1=>iItemsR R x H1
variable{X:Cx}
theorem ed_{p2:Pos}{e:Expr}{tv:TE}(he:PE X e tv):PI X (.Tuple elts kk p2) e (iItems tv):=by
 intro pins s σ H R I h;refine thn (he pins s σ H _ I h) λu s1 ⟨x,H1,I1,r1,v,d,kvs,ex,hv,hd,q⟩=>?_;subst ex;cases r1;obtain⟨iv,_,_⟩:=I1.hok v _ hv;obtain⟨o,ho,I2⟩:=I1.freeze hd;obtain⟨z,_,vs,rel,o',es,ep,ho',c',dt,r⟩:=iV_ I1.hok hd;rw[ho] at ho';cases ho';refine wpAny_pyIter_items (knd:=bd' X.prog X.w) (kvs:=vs) (ep:=ep) iv ⟨o,es,ho,c',dt,r⟩ ?_;refine⟨s1.heap.objs.size,[s1.heap.objs.size],_,_,_,rfl,I2.kept (t':=s1.toks) λb o e=>a_0 _ e,gH_ d _ o kvs dt,?_,λb hb=>?_,q o⟩
 ·rw[rel.length];exact⟨.none,.none,b_0 _ rfl⟩
 ·obtain rfl:b=s1.heap.objs.size:=by simpa using hb
  exact I2.fpOk (ai' _) (I2.hok.fresh (ai' _))
theorem dN_{d:Addr}{o:Obj}{kvs:List (Key × V)}{g:TG}{tb:TS}{D:Ends}{σ:St}{H:Hp}(Pv:Nat->St->Hp->Prop)(h0:Pv 0 σ H)(hl:∀i σ H,i<=kvs.length->Pv i σ H->H d=some (.frz o (.dK kvs)))
  (hs:∀i k x σ H,kvs[i]? = some (k,x)->Pv i σ H->∀t,H t=none->g (.ref t) σ (upd H t (.tup [kV k,x])) λσ2 H2=>tb { D with nx:=Pv (i+1),ct:=Pv (i+1),bk:=D.nx } σ2 H2) (hd:∀σ H,Pv kvs.length σ H->D.nx σ H) :
  ∃W:Nat->Nat->St->Hp->Prop,(∃m,W 0 m σ H)/\∀i m σ H,W i m σ H->
   ((Itm d o kvs).stop i H/\D.nx σ H)∨((Itm d o kvs).go i H/\∃N:St->Hp->Prop,(∀σ' H',N σ' H'->∃m',m'<m/\W (i+1) m' σ' H')/\∀x H',(Itm d o kvs).yld i H x H'->g x σ H' λσ2 H2=>tb { D with nx:=N,ct:=N,bk:=D.nx } σ2 H2):=by
 refine⟨λi m σ H=>m=kvs.length - i/\i<=kvs.length/\Pv i σ H,⟨kvs.length,by simp,aN' _,h0⟩,?_⟩;rintro i m σ H ⟨rfl,hi,p⟩;have q:=hl i σ H hi p;by_cases hlt:i<kvs.length
 ·refine .inr ⟨⟨q,hlt⟩,Pv (i+1),λσ' H' p'=>⟨kvs.length - (i+1),by omega,rfl,hlt,p'⟩,λx H' y=>?_⟩;obtain⟨t,k,x,rfl,ht,hx,rfl⟩:=y;exact hs i k x σ H hx p t ht
 ·have e:i=kvs.length:=by omega
  subst e;exact .inl ⟨⟨q,ai' _⟩,hd σ H p⟩
inductive tThawS (t:TS) (D:Ends) (σ:St) (H:Hp):Prop
 |mk:∀d kvs,H d=some (.dK kvs)->t { nx:=λσ1 H1=>∃o,H1 d=some (.frz o (.dK kvs))/\D.nx σ1 (upd H1 d (.dK kvs)),rt:=λv H1=>∃o,H1 d=some (.frz o (.dK kvs))/\D.rt v (upd H1 d (.dK kvs)) } σ H->tThawS t D σ H
theorem fE_{st:Stmt}{t:TS}(h:PS X st t):PS X st (tThawS t):=by
 intro pins s σ H D I q;obtain⟨d,kvs,hd,q⟩:=q
 have nf:∀o u,X.H₀ d≠some (.frz o u):=λo u z=>by
  have:=I.base.frzs _ _ _ z;rw[hd] at this;cases this
 refine thn (h pins s σ H _ I q) λf s' p=>?_;cases f with
 |next=>
  obtain⟨σ1,H1,I1,o,hf,q1⟩:=p;exact⟨σ1,_,I1.thaw hf nf,q1⟩
 |brk=>
  obtain⟨σ1,H1,I1,q1⟩:=p;exact False.elim q1
 |cont=>
  obtain⟨σ1,H1,I1,q1⟩:=p;exact False.elim q1
 |ret u=>
  obtain⟨v,σ1,H1,I1,r,o,hf,q1⟩:=p;exact⟨v,σ1,_,I1.thaw hf nf,r,q1⟩
end L2
namespace Ev
open PySem L2
structure Fz (d:Addr) (o:Obj) (kvs:List (Key × V)) (H H':Hp):Prop where
 at_:H' d=some (.frz o (.dK kvs))
 sm:∀b u,b≠d->H b=some u->H' b=some u
section
variable{d:Addr}{o:Obj}{kvs:List (Key × V)}{H H' H2:Hp}
theorem Fz.start:Fz d o kvs H (upd H d (.frz o (.dK kvs))):=⟨a1_,λb u ne e=>by rw[a8_ ne];exact e⟩
theorem Fz.step(f:Fz d o kvs H H')(s:Same H' H2):Fz d o kvs H H2:=⟨s _ _ f.at_,λb u ne e=>s _ _ (f.sm b u ne e)⟩
theorem Fz.thaw(f:Fz d o kvs H H')(hd:H d=some (.dK kvs)):Same H (upd H' d (.dK kvs)):=λb u e=>by
 by_cases z:b=d
 ·subst z;rw[hd] at e;cases e;exact a1_
 ·rw[a8_ z];exact f.sm b u z e
theorem Fz.goods{K:F__}{CG CW g p:Addr}{hs:Xa}{ts:Xb}{qs:List Pc}{fp:List Addr}(f:Fz d o kvs H H')(hd:H d=some (.dK kvs))(G:bc' K CG CW H g p hs ts qs fp)(nd:d∉fp):bc' K CG CW H' g p hs ts qs fp:=
 G.keep (λb hb u e=>f.sm b u (λz=>nd (z▸hb)) e) λb xs e=>f.sm b _ (bK_ e hd nofun) e
end
def mKV(ns:List Str)(g:Str->V):List (Key × V):=ns.map λn=>(Sum.inr n,g n)
theorem eH_(ns:List Str)(g:Str->V):(mKV ns g).map (·.1)=ns.map Sum.inr:=by
 unfold mKV;rw[ak'];rfl
theorem c1_(ns:List Str)(g:Str->V):(mKV ns g).length=ns.length:=aa' _
variable{n:Str}
theorem kd_{ns:List Str}{g:Str->V}(h:n∈ns):valV (mKV ns g) (Sum.inr n)=some (g n):=by
 induction ns with
 |nil=>cases h
 |cons m ns ih=>
  by_cases e:m=n
  ·subst e;exact bW_ rfl
  ·have:valV (mKV (m::ns) g) (Sum.inr n)=valV (mKV ns g) (Sum.inr n):=bL_ λz=>e (c_3 z);rw[this];rcases ah'.mp h with z|z
   ·exact absurd z.symm e
   ·exact ih z
variable{i:Nat}
theorem ik_{ns:List Str}{g:Str->V}{k:Key}{x:V}(h:(mKV ns g)[i]? = some (k,x)):∃n,ns[i]? = some n/\k=Sum.inr n/\x=g n:=by
 unfold mKV at h;rw[az'] at h;cases e:ns[i]? with
 |none=>rw[e] at h;cases h
 |some n=>
  rw[e] at h;have h:=b_7 h;exact⟨n,rfl,(c_5 Prod.fst h).symm,(c_5 Prod.snd h).symm⟩
theorem dI_{ns:List Str}(h:ns[i]? = some n):ns.take (i+1)=ns.take i++[n]:=by
 rw[aI',h];rfl
abbrev stF(ns:List Str)(f:Str->Str):List (Key × V):=mKV ns λn=>.str (f n)
variable{ps:List Pc}
theorem Qs.nd{qs:List Pc}(Q:Qs ps qs)(nd:(ps.map (·.1)).Nodup):(qs.map (·.1)).Nodup:=by
 rw[Q.nms];exact (aP_ _).nodup_iff.mpr nd
theorem Qs.len{qs:List Pc}(Q:Qs ps qs):qs.length=ps.length:=by
 have:=c_5 List.length Q.nms;rw[aa',(aP_ _).length_eq,aa'] at this;exact this
theorem hZ_{α:Type}{ps:List (Str × α)}(nd:(ps.map (·.1)).Nodup){a b:Str × α}(ha:a∈ps)(hb:b∈ps)(e:a.1=b.1):a=b:=by
 induction ps with
 |nil=>cases ha
 |cons p ps ih=>
  rw[aw',aV'] at nd;rcases ah'.mp ha with za|ha
  ·rcases ah'.mp hb with zb|hb
   ·rw[za,zb]
   ·rw[za] at e;exact absurd (show p.1∈ps.map (·.1) from ab'.mpr ⟨b,hb,e.symm⟩) nd.1
  ·rcases ah'.mp hb with zb|hb
   ·rw[zb] at e;exact absurd (show p.1∈ps.map (·.1) from ab'.mpr ⟨a,ha,e⟩) nd.1
   ·exact ih nd.2 ha hb
def strOf(hs:Xa)(n:Str):Int:=((hs.find? λh=>decide (h.1=n)).map (·.2)).getD 0
theorem bu_{hs:Xa}(h:n∈hs.map (·.1)):(n,strOf hs n)∈hs:=by
 unfold strOf;obtain⟨x,hx,e⟩:=ab'.mp h;cases q:hs.find? λh=>decide (h.1=n) with
 |none=>
  have:=List.find?_eq_none.mp q x hx;simp[e] at this
 |some y=>
  have m:=List.mem_of_find?_eq_some q;have:=List.find?_some q;have e2:y.1=n:=by simpa using this
  show (n,y.2)∈hs;rw[<- e2];exact m
theorem ef_{hs:Xa}(nd:(hs.map (·.1)).Nodup){s:Int}(h:(n,s)∈hs):strOf hs n=s:=by
 have m:=bu_ (ab'.mpr ⟨_,h,rfl⟩:n∈hs.map (·.1));exact c_5 Prod.snd (hZ_ nd m h rfl)
variable{CG CW:Addr}
section
variable{P:Ad}{w:Af}{K:F__}{mg:Str->Option Aa}{base:Heap}
structure StandOk (hs:Xa) (qs:List Pc) (ns:List Str) (f:Str->Str):Prop where
 perm:ns.Perm (qs.map (·.1))
 at_:∀n∈ns,f n∈hs.map (·.1)
theorem bJ':a6' ["goods","stand","piece","hand","names"] ["goods","stand"] (a5' dL'):=f__
inductive cT' (K:F__) (CG CW:Addr) (vs:List V) (H:Hp) (Q:VK) (E:XK):Prop
 |mk:∀(g p d:Addr) (hs:Xa) (ts:Xb) (qs:List Pc) (fp:List Addr) (ns:List Str) (f:Str->Str),vs=[.ref g,.ref d]->bc' K CG CW H g p hs ts qs fp->d∉fp->H d=some (.dK (stF ns f))->StandOk hs qs ns f->(qs.map (·.1)).Nodup->qs.length<64->(∀d' H',Same H H'->H d'=none->H' d'=some (.dK (stF (qs.map (·.1)) f))->Q (.ref d') H')->cT' K CG CW vs H Q E
theorem ic_{f:Addr}{fd:Ae}(F:Fun K "checked_stand" "checked_stand" dL' f fd)(B:Bi mg)(T:TxtG K CG)(TW:Txt K mg CW)(cH:CalM P w K mg base CG 1 "has_piece" ["self","thing"] (cW' K CG CW))(cW:CalM P w K mg base CW 1 "has_hand" ["self","thing"] (e3' K CW))(cN:CalM P w K mg base CG 1 "names" ["self"] (bU' K CG CW)) :
  FnOk P w K mg base CX0 2 f fd ["goods","stand"] (cT' K CG CW):=by
 refine F.ok bJ' (λvs H Q E h=>?_) (λcdv A outer s H vs Q E hr h=>?_)
 ·obtain⟨g,p,d,hs,ts,qs,fp,ns,f,rfl,_⟩:=h;rfl
 ·obtain⟨g,p,d,hs,ts,qs,fp,ns,f,rfl,G,dfp,hd,so,nd,h64,k⟩:=h;have hu:=bn_ hr;have sz:=a_9;refine' ⟨_,?r0,?kk⟩
  case' r0=>refine' a3_ ?s1 ?r1
  case s1=>exact ak_ (ax_ (az_ (a6_ aH_ (by rfl) B.isi PyProof.Rows.Boot.«isinstance» (a0_ (pv 1) (a0_ (aV_ (v:=.ty "dict") (by rfl) B.dict PyProof.Rows.Boot.«dict» rfl) a2_))))) ab_ aa_
  case' r1=>refine' a3_ ?s2 ?r2
  case' s2=>refine' fE_ (b2_ c_0 rfl ?i2 ?g2 ?b2)
  case i2=>exact ed_ (df_ (pv 1))
  case g2=>exact ch_ rfl (aj_ (ac_ (i:=2) bJ'.nd rfl (Or.inl rfl)) (aj_ (ac_ (i:=3) bJ'.nd rfl (Or.inl rfl)) b3_))
  case b2=>exact a3_ (ak_ (ax_ (az_ (d7_ cH T.cl hr (pv 0) (a0_ (pv 2) a2_)))) ab_ aa_) (a5_ (ak_ (ax_ (az_ (d7_ cW TW.cl hr (bz_ (pv 0) rfl) (a0_ (pv 3) a2_)))) ab_ aa_))
  case' r2=>refine' a3_ ?s3 ?r3
  case s3=>exact ae_ (i:=4) bJ'.nd rfl (Or.inl rfl) (dX_ cN T.cl hr (pv 0))
  case' r3=>refine' a3_ ?s4 (a5_ ?s5)
  case s4=>exact ak_ (ah_ d6_ (a6_ fe_ (by rfl) B.len b_3 (a0_ (pv 1) a2_)) (a6_ ai_ (by rfl) B.len b_3 (a0_ (pv 4) a2_)) (nomark _)) ab_ aa_
  case s5=>exact af_ (aA_ (bd_ rfl) (by rfl) B.dict PyProof.Rows.Boot.«dict» (a0_ (aS_ ["piece","stand"] 1 [1] (am_ (pv 4)) (λfp s H=>ac_ (i:=0) (show (["piece","stand"]:List Str).Nodup by decide +kernel) rfl (Or.inl rfl)) (λfp s H=>aW_) (λfp s H=>b0_ (a0_ (pv 0) (a0_ (cL_ hu (pv 1) (pv 0) (λ_ _=>rfl)) a2_)))) a2_))
  case' kk=>skip
  have lns:ns.length=qs.length:=by rw[so.perm.length_eq,aa']
  refine⟨_,rfl,_,_,_,_,rfl,.dK hd,rfl,_,rfl,iteF ?_⟩;refine⟨d,_,hd,?_⟩;refine⟨_,rfl,d,_,rfl,hd,λv hv=>?_⟩;obtain⟨s1,hv1⟩:=nw__ (o:=bA' v d) hv;have G1:=G.same s1;have hd1:=s1 _ _ hd;generalize upd H v (bA' v d)=H1 at s1 hv1 G1 hd1 ⊢;refine⟨v,d,_,rfl,hv1,hd1,λo=>?_⟩;refine dN_ (λi σ H'=>∃(v2 v3:Option V),σ=[some (.ref g),some (.ref d),v2,v3,none]/\Fz d o (stF ns f) H1 H') ⟨none,none,rfl,Fz.start⟩ (λi σ H' _ ⟨_,_,_,z⟩=>z.at_) ?_ ?_
  ·rintro i ky x σ H2 hx ⟨v2,v3,rfl,fz⟩ t ht;obtain⟨n,hn,rfl,rfl⟩:=ik_ hx;have nm:=ae' hn;have s2:=Same.new (o:=.tup [.str n,.str (f n)]) ht;have fz2:=fz.step s2;have e2:upd H2 t (.tup [.str n,.str (f n)]) t=some (.tup [.str n,.str (f n)]):=a1_;show gTup _ _ _ _ _ (upd H2 t (.tup [.str n,.str (f n)])) _;generalize upd H2 t (.tup [.str n,.str (f n)])=H3 at s2 fz2 e2 ⊢;refine⟨t,_,rfl,.of e2,rfl,_,_,rfl,_,_,rfl,rfl,?_⟩;have G3:=fz2.goods hd1 G1 dfp;obtain⟨dx,dw,dy,vs,fpw,h1,h2,h3,h4,h5,m1,m2,m3,m4,m5⟩:=id G3.ex;obtain⟨dxw,d1,l2,d3,zs0,as,ef,w1,_⟩:=id h2.ex;have hno:(gflds p dw dy).lookup ("has_piece":Str)=none:=be_ _ _ _ Z0 Z0 Z0;have hnw:(flds d1 l2 d3).lookup ("has_hand":Str)=none:=bV_ _ _ _ Z0 Z0 Z0;refine⟨_,rfl,g,dx,_,rfl,h1,hno,_,rfl,g,p,.str n,some n,hs,ts,qs,fp,rfl,G3,rfl,_,rfl,?_⟩;rw[show inB (qs.map (·.1)) (some n)=true from a_1 (so.perm.mem_iff.mp nm)];refine iteF ?_;refine⟨_,rfl,g,CG,dx,_,_,rfl,h1,T.cl,T.nW,ey_ _ _ _,p,dxw,_,rfl,w1,hnw,_,rfl,p,f n,hs,ts,fpw,rfl,h2,_,rfl,?_⟩;rw[a_1 (so.at_ n nm)];exact iteF ⟨_,_,rfl,fz2⟩
  rintro σ H2 ⟨v2,v3,rfl,fz⟩;refine⟨o,fz.at_,?_⟩;have s2:=s1.trans (fz.thaw hd1);have hd2:upd H2 d (.dK (stF ns f)) d=some (.dK (stF ns f)):=a1_;generalize upd H2 d (.dK (stF ns f))=H3 at s2 hd2 ⊢;have G3:=G.same s2;obtain⟨dx,dw,dy,vs,fpw,h1,h2,h3,h4,h5,m1,m2,m3,m4,m5⟩:=id G3.ex;refine⟨_,rfl,g,dx,_,rfl,h1,be_ _ _ _ Z0 Z0 Z0,g,p,hs,ts,qs,fp,rfl,G3,λln hln=>?_⟩;obtain⟨s3,e3⟩:=nw__ (o:=.lst ((qs.map (·.1)).map V.str)) hln;have hd3:=s3 _ _ hd2;generalize upd H3 ln (.lst ((qs.map (·.1)).map V.str))=H4 at s3 e3 hd3 ⊢;refine⟨_,rfl,d,_,rfl,hd3,_,rfl,ln,_,rfl,.inl (.of e3),rfl,_,rfl,?_⟩;rw[c1_,aa',aa',lns];simp only[bne_self_eq_false,decide_true,Bool.not_true];refine iteF ?_;have s04:=s2.trans s3;refine⟨_,rfl,ln,rfl,⟨_,.of e3⟩,λD hD=>?_⟩;refine aq_ (own:=1) (fv:=[some (.ref d)]) (xs:=(qs.map (·.1)).map V.str) rfl gok1 (λi out H'=>Same H4 H'/\H' D=some (.lst out)/\bz' K H' out (stF ((qs.map (·.1)).take i) f)) ⟨Same.new hD,a1_,.nil⟩ (λi out H' _ ⟨sm,_,_⟩=>.of (sm _ _ e3)) (λout H5 ⟨sm,hD5,pa⟩=>?_) (λi y out H' hy ⟨sm,hD',pa⟩=>?_)
  ·rw[aa',ao'] at pa;refine⟨D,out,_,rfl,hD5,pa,by rw[c1_,aa'];omega,λd' hd'=>?_⟩
   have ndk:((stF (qs.map (·.1)) f).map (·.1)).Nodup:=by
    rw[eH_,aM',aH'];exact nd.imp λn e=>n (c_3 e)
   rw[bp_ ndk];exact k d' _ ((s04.trans sm).trans (Same.new hd')) (s04.free (sm.free hd')) a1_
  ·obtain⟨n,hn,rfl⟩:=aE_ hy;have hi:i<(qs.map (·.1)).length:=(ac'.mp hn).1;rw[aa'] at hi;have nm:n∈ns:=so.perm.mem_iff.mpr (ae' hn);refine⟨_,rfl,rfl,λNx hN=>yesT ?_⟩;refine⟨_,rfl,_,rfl,_,rfl,d,.str (f n),rfl,?_,by show 2<=sizeLine;decide,λt ht=>?_⟩
   ·rw[<- kd_ (g:=λn=>V.str (f n)) nm];exact .k (k:=Sum.inr n) (sm _ _ hd3)
   have s5:=Same.new (o:=.tup [.str n,.str (f n)]) ht;have lo:=a_3 pa;rw[c1_,af',aa'] at lo;refine⟨out,s5 _ _ hD',by omega,hN _ _ ⟨au_ (sm.trans s5) hD,a1_,?_⟩⟩;have ht5:upd H' t (.tup [.str n,.str (f n)]) t=some (.tup [.str n,.str (f n)]):=a1_;have pD:∀{b:Addr} {ys:List V},upd H' t (.tup [.str n,.str (f n)]) b=some (.tup ys)->b≠D:=λhb=>bK_ hb (s5 _ _ hD') nofun;rw[dI_ hn];show bz' K _ _ (((qs.map (·.1)).take i++[n]).map _);rw[ag'];exact aT_ (Paired.mapP pa λy kv ⟨b,z,hb⟩=>⟨b,z,by rw[a8_ (pD (s5 _ _ hb))];exact s5 _ _ hb⟩) (.cons ⟨t,rfl,by rw[a8_ (pD ht5)];exact ht5⟩ .nil)
end
variable{K:F__}{C p:Addr}{hs:Xa}{ts:Xb}{fp:List Addr}{H:Hp}
theorem bw'.has(W:bw' K C H p hs ts fp){b:Addr}(hb:b∈fp):∃o,H b=some o:=by
 obtain⟨dx,d1,l2,d3,zs,as,rfl,h1,h2,h3,h4,h5,h6,h7⟩:=W.ex;simp only[ah'] at hb;rcases hb with rfl|rfl|rfl|rfl|hb
 ·exact⟨_,h1⟩
 ·exact⟨_,h2⟩
 ·exact⟨_,h3⟩
 ·exact⟨_,h5⟩
 ·obtain⟨i,hi,e⟩:=aJ' hb;exact⟨_,h7 i ((a9' hs)[i]' Z1) b (ad' Z1) (by rw[<- e];exact ad' hi)⟩
variable{g:Addr}{qs:List Pc}
theorem bc'.slim(G:bc' K CG CW H g p hs ts qs fp):∃fp',bc' K CG CW H g p hs ts qs fp'/\∀b∈fp',∃o,H b=some o:=by
 obtain⟨dx,dw,dy,vs,fpw,h1,h2,h3,h4,h5,m1,m2,m3,m4,m5⟩:=G.ex;refine⟨g::dw::dy::(fpw++vs.filterMap λv=>match v with | .ref a=>some a|_=>none),⟨dx,dw,dy,vs,fpw,h1,h2,h3,h4,h5,by simp,by simp,by simp,λb hb=>by simp[hb],λv hv a z=>?_⟩,λb hb=>?_⟩
 ·have:a∈vs.filterMap λv=>match v with | .ref a=>some a|_=>none:=aA'.mpr ⟨v,hv,by rw[z]⟩;simp only[ah',aq'];exact .inr (.inr (.inr (.inr this)))
 ·simp only[ah',aq'] at hb;rcases hb with rfl|rfl|rfl|hb|hb
  ·exact⟨_,h1⟩
  ·exact⟨_,h3⟩
  ·exact⟨_,h4⟩
  ·exact h2.has hb
  ·obtain⟨v,hv,e⟩:=aA'.mp hb;obtain⟨i,hi,ev⟩:=aJ' hv;have le:=a_3 h5;have w:=aC_ h5 i hi Z1;rw[ev] at w;cases o:(qs[i]' Z1).2.2 with
   |none=>
    rw[o] at w;rw[show v=.non from w] at e;cases e
   |some ws=>
    rw[o] at w;obtain⟨a,ys,ea,ha,_⟩:=w;rw[ea] at e;cases e;exact⟨_,ha⟩
variable{d:Addr}{o:Obj}{kvs:List (Key × V)}{H1:Hp}
theorem Fz.start'(s:Same H H1):Fz d o kvs H (upd H1 d (.frz o (.dK kvs))):=⟨a1_,λb u ne e=>by rw[a8_ ne];exact s _ _ e⟩
variable{d2:Addr}{H':Hp}{u:HO}
theorem Fz.put(f:Fz d o kvs H H')(hn:H d2=none)(ne:d2≠d):Fz d o kvs H (upd H' d2 u):=⟨by rw[a8_ ne.symm];exact f.at_,λb u nb e=>by rw[a8_ (a9_ e hn)];exact f.sm b u nb e⟩
structure Placed (K:F__) (CG CW:Addr) (H:Hp) (g p d:Addr) (hs:Xa) (ts:Xb) (qs:List Pc) (fp:List Addr) (f:Str->Str):Prop where
 G:bc' K CG CW H g p hs ts qs fp
 Gd:Good hs ts
 dfp:d∉fp
 hd:H d=some (.dK (stF (qs.map (·.1)) f))
 at_:∀n∈qs.map (·.1),f n∈hs.map (·.1)
 nd:(qs.map (·.1)).Nodup
 h64:qs.length<64
structure Std (K:F__) (CG CW:Addr) (H:Hp) (g p d:Addr) (hs:Xa) (ts:Xb) (qs:List Pc) (fp:List Addr) (ns:List Str) (f:Str->Str):Prop where
 G:bc' K CG CW H g p hs ts qs fp
 Gd:Good hs ts
 dfp:d∉fp
 hd:H d=some (.dK (stF ns f))
 ok:StandOk hs qs ns f
 nd:(qs.map (·.1)).Nodup
 h64:qs.length<64
 wp:∀q∈qs,0<=q.2.1
variable{ns:List Str}{f:Str->Str}
theorem Std.same(S:Std K CG CW H g p d hs ts qs fp ns f)(s:Same H H'):Std K CG CW H' g p d hs ts qs fp ns f:=⟨S.G.same s,S.Gd,S.dfp,s _ _ S.hd,S.ok,S.nd,S.h64,S.wp⟩
theorem Std.placed{d':Addr}(S:Std K CG CW H g p d hs ts qs fp ns f)(s:Same H H')(hn:H d'=none)(hd:H' d'=some (.dK (stF (qs.map (·.1)) f))):∃fp',Placed K CG CW H' g p d' hs ts qs fp' f:=by
 obtain⟨fp',G',has⟩:=S.G.slim;refine⟨fp',G'.same s,S.Gd,λm=>?_,hd,λn hn=>S.ok.at_ n (S.ok.perm.mem_iff.mpr hn),S.nd,S.h64⟩;obtain⟨o,e⟩:=has d' m;rw[hn] at e;cases e
variable{σ:St}
theorem seqG{t u:TS}{D:Ends}(R:St->Hp->Prop)(later:∀σ H,R σ H->u D σ H)(now:∀N:St->Hp->Prop,(∀σ H,R σ H->N σ H)->t { D with nx:=N } σ H):tSeq t u D σ H:=now (u D) later
theorem setG{v:V}{N:St->Hp->Prop}(h:N (σ.set i (some v)) H):b1' i v σ H N:=h
structure CalC (P:Ad) (w:Af) (K:F__) (mg:Str->Option Aa) (base:Heap) (C:Addr) (k:Nat) (x:Str) (ps:List Str) (sp:Sp):Prop where
 ex:∃f fd,FnOk P w K mg base CX0 k f fd ps sp/\Mk K C f/\mg x=some (.ref C)/\b9' K fd ps []
theorem l7_{X:Cx}{k:Nat}{x:Str}{ps:List Str}{sp:Sp}{p pos:Pos}{e:Expr}{es:List Expr}{t:TA}(c:CalC X.prog X.w X.K X.mg X.base C k x ps sp)(hr:Room (k+1) X.A)(ha:PA X (e::es) t)(hg:Gl X x:=by rfl)(hdb:(x == ("__debug__":Str))=false:=by decide)(he:starEach (e::es) X.env=(false,eval e X.env)::starEach es X.env:=by rfl)(hpl:(backTo pos (starEach es X.env)).any (·.1)=false:=by rfl):PE X (.Call (.Name x p) (e::es) [] pos) (tMake C sp [] E0 t):=by
 obtain⟨f,fd,F,M,m,b⟩:=c.ex;exact hr_ M F hr hg m b .nil pass0 ha hdb he hpl
structure Lay (K:F__) (CG CW:Addr) (H:Hp) (lh lp g p:Addr) (yh yp:List V) (hs:Xa) (ts:Xb) (ps qs:List Pc) (fp:List Addr):Prop where
 hh:H lh=some (.lst yh)
 th:a8' K H yh (hs.map kH)
 hp:H lp=some (.lst yp)
 pc:dJ' K H yp ps
 G:bc' K CG CW H g p hs ts qs fp
structure Sure (hs:Xa) (ts:Xb) (ps qs:List Pc):Prop where
 Gd:Good hs ts
 gp:∀q∈ps,cP' ts q
 nd:(ps.map (·.1)).Nodup
 h30:ps.length<=30
 Q:Qs ps qs
end Ev
namespace L2
open PySem PySem.Spec PyProof.Rows
variable{X:Cx}
def tFmt(t:TE):TE:=λσ H Q=>t σ H λx H1=>(∃z:Str,x=.str z/\z.length<=sizeLine/\Q (.str z) H1)∨∃i:Int,x=.int i/\i.natAbs.log2<1920/\Q (.str (toString i)) H1
variable{pos:Pos}
theorem ci_{v:Expr}{t:TE}(h:PE X v t):PE X (.FormattedValue v (-1) none pos) (tFmt t):=by
 intro pins s σ H Q I ht;refine PySem.wpAny_FormattedValue_plain (thn (h pins s σ H _ I ht) λu s1 ⟨x,H1,I1,r1,q1⟩=>?_);rcases q1 with⟨z,rfl,hz,q⟩|⟨i,rfl,hz,q⟩
 ·obtain⟨tk,rfl⟩:=r1;exact PySem.wpAny_formatField_str ⟨.str z,H1,I1,⟨_,rfl⟩,q⟩ ⟨.str z,H1,I1.tok _,⟨_,rfl⟩,q⟩ hz
 ·obtain⟨tk,rfl⟩:=r1;exact PySem.wpAny_formatField_int hz ⟨.str _,H1,I1.tok _,⟨_,rfl⟩,q⟩
def tJoins:List TE->Str->TE
 |[],acc=>λσ H Q=>acc.length<=sizeLine/\Q (.str acc) H
 |t::ts,acc=>λσ H Q=>t σ H λx H1=>∃y,x=.str y/\(acc++y).length<=sizeLine/\tJoins ts (acc++y) σ H1 Q
inductive PEs (X:Cx):List Expr->List TE->Prop
 |nil:PEs X [] []
 |cons {e:Expr} {t:TE} {es:List Expr} {ts:List TE} (h:PE X e t) (hs:PEs X es ts):PEs X (e::es) (t::ts)
theorem g9_{pins:List (Addr × Obj)}{σ:St}{Q:VK}:∀{es:List Expr} {ts:List TE},PEs X es ts->∀(acc:Str) (s:Ab) (H:Hp),Inv X pins σ H s->tJoins ts acc σ H Q->
  PySem.Joins (model X.prog X.w) X.A X.xe (evalEach es X.env) acc (λout s1=>out.length<=sizeLine/\EP X pins σ Q (.str out s1.toks) { s1 with toks:=s1.toks+1 }) s
 |_,_,.nil,acc,s,H,I,h=>⟨h.1,.str acc,H,I.tok _,⟨_,rfl⟩,h.2⟩
 |_,_,.cons he hs,acc,s,H,I,h=>by
  show wpAny (model X.prog X.w) X.A (eval _ X.env) _ X.xe s;refine thn (he pins s σ H _ I h) λu s1 ⟨x,H1,I1,r1,q1⟩=>?_;obtain⟨y,rfl,hz,q⟩:=q1;obtain⟨tk,rfl⟩:=r1;exact⟨y,tk,rfl,hz,g9_ hs _ s1 H1 I1 q⟩
theorem cK_{e1 e2:Expr}{es:List Expr}{ts:List TE}(h:PEs X (e1::e2::es) ts):PE X (.JoinedStr (e1::e2::es) pos) (tJoins ts Str.empty):=λpins s σ H Q I ht=>
 PySem.wpAny_JoinedStr (g9_ h Str.empty s H I ht)
inductive cb' (xs:List V) (H:Hp) (Q:VK):Prop
 |mk:∀(x:Str) (n:Int),xs=[.str x]->x.length<=640->PySem.intText? x=some n->Q (.int n) H->cb' xs H Q
theorem ba_:bx' X (.type "int") cb':=by
 intro pins s σ H xs us Q I r h;obtain⟨x,n,rfl,hz,hn,q⟩:=h;obtain⟨u,rfl,t,rfl⟩:=vals1 r;exact PySem.W.KIN.call_text hn hz ⟨.int n,H,I.tok _,⟨_,rfl⟩,q⟩
inductive rSlS (x:V) (lo:Option Int) (hi:Option Int) (H:Hp) (Q:VK):Prop
 |mk:∀z,x=.str z->z.length<=sizeLine->Q (.str (Txt.slice z lo hi)) H->rSlS x lo hi H Q
variable{X:Cx}
theorem jT_:SlR X rSlS:=by
 intro pins s σ H x v vl vu lo hi sl Q I rx hs pl pu h;obtain⟨z,rfl,hz,q⟩:=h;obtain⟨t,rfl⟩:=rx;refine⟨"str",_,PySem.F.slot_str_getitem.lookup,typeIs_str _ _ _,?_⟩
 have fin:∀lo hi,Q (.str (Txt.slice z lo hi)) H->(Txt.slice z lo hi).length<=sizeLine/\∀t' k,EP X pins σ Q (.str (Txt.slice z lo hi) t') { s with toks:=k }:=λlo hi q=>
  ⟨aO' (Txt.slice_le z _ _) hz,λt' k=>⟨.str _,H,I.kept (h':=s.heap) (t':=k) λ_ _ e=>e,⟨t',rfl⟩,q⟩⟩
 cases pl with
 |none=>
  cases pu with
  |none=>exact wpAny_getItem_str_slice (l:=none) (u:=none) (st:=none) hs rfl (post_val_or_str (fin _ _ q))
  |int j u=>exact wpAny_getItem_str_slice (l:=none) (u:=some (j,u)) (st:=none) hs rfl (post_val_or_str (fin _ _ q))
 |int i u=>
  cases pu with
  |none=>exact wpAny_getItem_str_slice (l:=some (i,u)) (u:=none) (st:=none) hs rfl (post_val_or_str (fin _ _ q))
  |int j u'=>exact wpAny_getItem_str_slice (l:=some (i,u)) (u:=some (j,u')) (st:=none) hs rfl (post_val_or_str (fin _ _ q))
open PySem.Builtin PySem.Builtin.Str
theorem g6_:∀{ss:List Str} {us:List Aa},Vals (ss.map V.str) us->StrsAre us ss
 |[],_,.nil=>.nil
 |x::ss,_,.cons r rs=>by
  obtain⟨t,rfl⟩:=r;exact .cons x t (g6_ rs)
theorem fd_:∀(l:List (Str × Tok)),Vals ((l.map (·.1)).map V.str) (strValues l)
 |[]=>.nil
 |(x,t)::l=>.cons ⟨t,rfl⟩ (fd_ l)
inductive rJoin (K:F__) (x:V) (vs:List V) (H:Hp) (Q:VK):Prop
 |mk:∀(sep:Str) (p:Addr) (ss:List Str),x=.str sep->vs=[.ref p]->SqL K H p (ss.map V.str)->(ss.map (·.length)).sum+ss.length * sep.length<=16777216->Q (.str (Txt.join sep ss)) H->rJoin K x vs H Q
theorem bO_:MtM X "str.join" (rJoin X.K):=by
 intro pins s σ H x vs v us Q I rx rv h;obtain⟨sep,p,ss,rfl,rfl,hp,hz,q⟩:=h;obtain⟨t,rfl⟩:=rx;obtain⟨u,rfl,ru⟩:=rv.one;cases (show u=Value.ref p from ru);obtain⟨its,r,ht,_⟩:=I.list hp;exact join_list ht.isList (g6_ r) hz λt' k=>⟨.str _,H,I.tok k,⟨t',rfl⟩,q⟩
end L2
namespace Ev
open PySem L2
variable{fd:Ae}
section
variable{P:Ad}{w:Af}{K:F__}{mg:Str->Option Aa}{base:Heap}
def tieT(t:Str × Str):Str:=Str.empty++t.1++("-":Str)++t.2
def bE':Option (Xb)->Str
 |none=>"free"
 |some []=>"fixed"
 |some (t::ts)=>Txt.join "," ((t::ts).map tieT)
theorem ek_(t:Str × Str):(tieT t).length=t.1.length+1+t.2.length:=by
 unfold tieT;rw[a_7,a_7,a_7];show 0+t.1.length+1+t.2.length=_;omega
theorem er_:∀{ts:Xb},(∀t∈ts,t.1.length<=8/\t.2.length<=8)->((ts.map tieT).map (·.length)).sum<=17 * ts.length
 |[],_=>aN' _
 |t::ts,h=>by
  have h1:=h t Z2;have h2:=er_ (ts:=ts) λx hx=>h x (by simp[hx]);rw[aw',aw',List.sum_cons,aC'];have:=ek_ t;show (tieT t).length+_<=_;omega
theorem lw_{H:Hp}:∀{ys:List V} {ts:Xb},a8' K H ys (ts.map kT)->Paired (r2 K rS rS H) ys ts
 |_,[],.nil=>.nil
 |_,t::ts,.cons ⟨a,e,h⟩ r=>.cons ⟨a,.str t.1,.str t.2,e,.of h,rfl,rfl⟩ (lw_ r)
theorem e2':a6' ["ways"] ["ways"] (a5' c9'):=f__
def cy'(K:F__):Sp:=λvs H Q _=>∃(v:V) (o:Option (Xb)),vs=[v]/\WyAt K H v o/\(∀ws,o=some ws->ws.length<=1000/\∀t∈ws,t.1.length<=8/\t.2.length<=8)/\∀H',Same H H'->Q (.str (bE' o)) H'
theorem fM_{f:Addr}(F:Fun K "ways_text" "ways_text" c9' f fd):FnOk P w K mg base CX0 3 f fd ["ways"] (cy' K):=by
 refine F.ok e2' (λvs H Q E h=>?_) (λcdv A outer s H vs Q E hr h=>?_)
 ·obtain⟨v,o,rfl,_⟩:=h;rfl
 ·obtain⟨v,o,rfl,wy,hz,k⟩:=h;have sz:=a_9;refine' ⟨_,a3_ ?s1 (a3_ ?s2 (a5_ ?s3)),?kk⟩
  case s1=>exact ak_ (bb_ (d0_ (pv 0))) (a5_ (af_ a7_)) aa_
  case s2=>exact ak_ (ah_ (jR_ (cmp2 cmpS cmpS) (cL' hr _)) (pv 0) (as_ a2_) (nomark _)) (a5_ (af_ a7_)) aa_
  case' s3=>refine' af_ (bi_ b_2 d_0 d__ bO_ a7_ (a0_ (aS_ ["one","other"] 2 [] (am_ (pv 0)) (λfp s H=>cn_ (n:=2) (aj_ (ac_ (i:=0) (show (["one","other"]:List Str).Nodup by decide +kernel) rfl (Or.inl rfl)) (aj_ (ac_ (i:=1) (show (["one","other"]:List Str).Nodup by decide +kernel) rfl (Or.inl rfl)) b3_)))
   (λfp s H=>aW_) (λfp s H=>?j)) a2_))
  case j=>exact cK_ (.cons (ci_ (pv 0)) (.cons a7_ (.cons (ci_ (pv 1)) .nil)))
  case' kk=>skip
  cases o with
  |none=>
   cases (show v=.non from wy);exact⟨_,rfl,_,rfl,iteT (k H (Same.refl H))⟩
  |some ws=>
   obtain⟨a,ys,rfl,ha,tu⟩:=wy;obtain⟨wz,wl⟩:=hz ws rfl;refine⟨_,rfl,_,rfl,iteF ?_⟩;refine⟨_,rfl,by show 0<=sizeLine;decide,λl nl=>?_⟩;obtain⟨s1,k1⟩:=nw__ (o:=.lst []) nl;generalize upd H l (.lst [])=H1 at s1 k1 ⊢;have tu1:=tu.same s1;refine⟨ws,[],⟨a,ys,rfl,.of (s1 _ _ ha),?_⟩,⟨l,[],rfl,.of k1,.nil⟩,_,rfl,?_⟩
   ·exact lw_ tu1
   cases ws with
   |nil=>exact iteT (k _ s1)
   |cons w0 wr=>
    rw[a_2 Z2];refine iteF ?_;refine⟨rfl,_,rfl,a,rfl,⟨_,.of (s1 _ _ ha)⟩,λD hD=>?_⟩;have le:=a_3 tu1;rw[aa'] at le;refine aq_ (own:=2) (fv:=[]) (xs:=ys) rfl gok2 (λi out H'=>Same H1 H'/\H' D=some (.lst out)/\out=(((w0::wr).take i).map tieT).map V.str) ⟨Same.new hD,a1_,rfl⟩ (λi out H' _ ⟨sm,_,_⟩=>.of (sm _ _ (s1 _ _ ha))) (λout H' ⟨sm,hd,eo⟩=>?_) (λi x out H' hx ⟨sm,hd,eo⟩=>?_)
    ·rw[le,ao'] at eo;refine⟨",",D,_,rfl,rfl,.of (by rw[hd,eo]),?_,k _ (s1.trans sm)⟩;have:=er_ wl;rw[aa'];show _+_ * 1<=_;omega
    ·obtain⟨t,ht,b,rfl,hb⟩:=aQ_ tu1 hx;have wt:=wl t (ae' ht);refine⟨_,⟨b,_,_,rfl,.of (sm _ _ (hpT hb)),rfl⟩,rfl,λNx hN=>yesT ?_⟩;refine⟨_,rfl,.inl ⟨t.1,rfl,by omega,_,rfl,?_,_,rfl,?_,_,rfl,.inl ⟨t.2,rfl,by omega,_,rfl,?_,?_,out,hd,?_,?_⟩⟩⟩
     ·rw[a_7];show 0+t.1.length<=_;omega
     ·rw[a_7,a_7];show 0+t.1.length+1<=_;omega
     ·have:=ek_ t;show (tieT t).length<=_;omega
     ·have:=ek_ t;show (tieT t).length<=_;omega
     ·rw[eo,aa',aa',af'];omega
     ·refine hN (out++[.str (tieT t)]) _ ⟨au_ sm hD,a1_,?_⟩;rw[eo,ay_ _ ht,ag'];rfl
end
def cc'(n:Str)(k:Int):Str:=Str.empty++("hand ":Str)++n++(" ":Str)++(toString k:Str)
def tieR(t:Str × Str):Str:=Str.empty++("tie ":Str)++t.1++(" ":Str)++t.2
def webR(hs:Xa)(ts:Xb):List Str:=(a9' hs).map (λn=>cc' n (strOf hs n))++(tsOf ts).map tieR
variable{k:Int}
theorem dq_{n:Str}(hn:n.length<=8)(k0:0<=k)(k1:k<10 ^ 10):(cc' n k).length<=24:=by
 have h:=PySem.W.KT.len_num k0 k1;unfold cc';rw[a_7,a_7,a_7,a_7];show 0+5+n.length+1+(PySem.Str.ofString (toString k)).length<=_;omega
variable{t:Str × Str}
theorem g2_(h1:t.1.length<=8)(h2:t.2.length<=8):(tieR t).length<=24:=by
 unfold tieR;rw[a_7,a_7,a_7,a_7];show 0+4+t.1.length+1+t.2.length<=_;omega
theorem cj_{hs:Xa}{ts:Xb}(G:Good hs ts){n:Str}(h:n∈a9' hs):1<=strOf hs n/\strOf hs n<=1000:=(G.hok _ (bu_ ((aI_ hs).mem_iff.mp h))).2
theorem gc_{hs:Xa}{ts:Xb}(G:Good hs ts){n:Str}(h:n∈a9' hs):n.length<=8:=av_ (G.hok _ (bu_ ((aI_ hs).mem_iff.mp h))).1
theorem go_{hs:Xa}{ts:Xb}(G:Good hs ts)(h:t∈tsOf ts):t.1.length<=8/\t.2.length<=8:=by
 obtain⟨u,hu,rfl⟩:=bt'.mp h;obtain⟨a,b,_⟩:=G.tok u hu;have a:=av_ a;have b:=av_ b;unfold ord2;split
 ·exact⟨a,b⟩
 ·exact⟨b,a⟩
section
variable{P:Ad}{w:Af}{K:F__}{mg:Str->Option Aa}{base:Heap}
theorem cx':a6' ["web","rows","hand","strength"] ["web"] (a5' dP'):=f__
inductive cv' (K:F__) (C:Addr) (vs:List V) (H:Hp) (Q:VK) (E:XK):Prop
 |mk:∀(p:Addr) (hs:Xa) (ts:Xb) (fp:List Addr),vs=[.ref p]->bw' K C H p hs ts fp->Good hs ts->(∀l H',Same H H'->H l=none->H' l=some (.lst ((webR hs ts).map V.str))->Q (.ref l) H')->cv' K C vs H Q E
theorem hc_{f C:Addr}(F:Fun K "web_rows" "web_rows" dP' f fd)(T:Txt K mg C)(cH:CalM P w K mg base C 1 "hands" ["self"] (dH' K C))(cS:CalM P w K mg base C 2 "strength" ["self","hand"] (b8' K C))(cT:CalM P w K mg base C 2 "ties" ["self"] (dN' K C)):FnOk P w K mg base CX0 3 f fd ["web"] (cv' K C):=by
 refine F.ok cx' (λvs H Q E h=>?_) (λcdv A outer s H vs Q E hr h=>?_)
 ·obtain⟨p,hs,ts,fp,rfl,_⟩:=h;rfl
 ·obtain⟨p,hs,ts,fp,rfl,W,G,k⟩:=h;have sz:=a_9;have hr1:Room 1 _:=hr.mono (by decide);have hr2:Room 2 _:=hr.mono (by decide);refine' ⟨_,a3_ ?s1 (a3_ ?s2 (a5_ ?s3)),?kk⟩
  case s1=>exact ae_ (i:=1) cx'.nd rfl (Or.inl rfl) (as_ a2_)
  case' s2=>refine' b2_ c_0 rfl (am_ (dX_ cH T.cl hr1 (pv 0))) (ac_ (i:=2) cx'.nd rfl (Or.inl rfl)) (a3_ ?b1 (a5_ ?b2))
  case b1=>exact ae_ (i:=3) cx'.nd rfl (Or.inl rfl) (d7_ cS T.cl hr2 (pv 0) (a0_ (pv 2) a2_))
  case b2=>exact bv_ (bi_ c_1 c_9 c_8 b9_ (pv 1) (a0_ (cK_ (.cons a7_ (.cons (ci_ (pv 2)) (.cons a7_ (.cons (ci_ (pv 3)) .nil))))) a2_))
  case' s3=>refine' af_ (ao_ aU_ (pv 1) (aS_ ["one","other"] 2 [] (am_ (dX_ cT T.cl hr2 (pv 0))) (λfp s H=>cn_ (n:=2) (aj_ (ac_ (i:=0) (show (["one","other"]:List Str).Nodup by decide +kernel) rfl (Or.inl rfl)) (aj_ (ac_ (i:=1) (show (["one","other"]:List Str).Nodup by decide +kernel) rfl (Or.inl rfl)) b3_)))
   (λfp s H=>aW_) (λfp s H=>?j)))
  case j=>exact cK_ (.cons a7_ (.cons (ci_ (pv 0)) (.cons a7_ (.cons (ci_ (pv 1)) .nil))))
  case' kk=>skip
  refine⟨by show 0<=sizeLine;decide,λlr nr=>?_⟩;obtain⟨s1,e1⟩:=nw__ (o:=.lst []) nr;refine setG ?_;dsimp only;generalize upd H lr (.lst [])=H1 at s1 e1 ⊢;have W1:=W.same s1;have w1x:=id W1.ex;obtain⟨dxw,d1,l2,d3,zs0,as,ef,w1,_⟩:=w1x;refine⟨_,rfl,p,dxw,_,rfl,w1,bV_ _ _ _ Z0 Z0 Z0,p,hs,ts,fp,rfl,W1,λlh nh=>?_⟩;obtain⟨s2,e2⟩:=nw__ (o:=.lst ((a9' hs).map V.str)) nh;generalize upd H1 lh (.lst ((a9' hs).map V.str))=H2 at s2 e2 ⊢;have ne:lr≠lh:=a9_ e1 nh;have nl8:(a9' hs).length<=8:=by have:=G.nlen;have:=G.h8;omega
  refine⟨lh,rfl,⟨_,.of e2⟩,aX_ (K:=K) (a:=lh) (xs:=(a9' hs).map V.str) (λi σ H3=>∃v2 v3:Option V,σ=[some (.ref p),some (.ref lr),v2,v3]/\Same H H3/\H3 lh=some (.lst ((a9' hs).map V.str))/\H3 lr=some (.lst ((((a9' hs).take i).map λn=>cc' n (strOf hs n)).map V.str))) ⟨none,none,rfl,s1.trans s2,e2,s2 _ _ e1⟩ (λi σ H3 _ ⟨_,_,_,_,hh,_⟩=>.of hh) ?_ ?_⟩
  ·rintro i y σ H3 hy ⟨v2,v3,rfl,sm,hh,hlr⟩;obtain⟨n,hn,rfl⟩:=aE_ hy;have hm:=ae' hn;have sk:=cj_ G hm;have nl:=gc_ G hm;have W3:=W.same sm;obtain⟨dxw,d1,l2,d3,zs0,as,ef,w1,_⟩:=id W3.ex;refine⟨_,rfl,p,dxw,_,rfl,w1,bV_ _ _ _ Z0 Z0 Z0,_,rfl,p,n,strOf hs n,hs,ts,fp,rfl,W3,G.hnd,bu_ ((aI_ hs).mem_iff.mp hm),?_⟩;refine setG ?_;dsimp only;have hl:=dq_ (n:=n) (k:=strOf hs n) nl Z1 Z1;have tl:=PySem.W.KT.len_num (n:=strOf hs n) Z1 Z1;refine⟨_,rfl,.inl ⟨rfl,_,.of hlr⟩,_,rfl,?_,_,rfl,.inl ⟨n,rfl,by omega,_,rfl,?_,_,rfl,?_,_,rfl,.inr ⟨strOf hs n,rfl,?_,_,rfl,?_,?_,lr,_,_,rfl,rfl,hlr,?_,?_⟩⟩⟩
   ·show (0+5:Nat)<=_;omega
   ·rw[a_7,a_7];show 0+5+n.length<=_;omega
   ·rw[a_7,a_7,a_7];show 0+5+n.length+1<=_;omega
   ·exact Nat.lt_of_le_of_lt (Nat.log2_le_self _) Z1
   ·show (cc' n (strOf hs n)).length<=_;omega
   ·show (cc' n (strOf hs n)).length<=_;omega
   ·rw[aa',aa',af'];omega
   ·refine⟨_,_,rfl,au_ sm nr,by rw[a8_ ne.symm];exact hh,?_⟩;rw[a1_,dI_ hn,ag',ag'];rfl
  ·rintro σ H3 ⟨v2,v3,rfl,sm,hh,hlr⟩;rw[aa',ao'] at hlr;have W3:=W.same sm;obtain⟨dxw,d1,l2,d3,zs0,as,ef,w1,_⟩:=id W3.ex;refine⟨_,rfl,_,rfl,p,dxw,_,rfl,w1,bV_ _ _ _ Z0 Z0 Z0,p,hs,ts,fp,rfl,W3,G.t64,λlt zs H4 s4 nt hlt tz=>?_⟩;refine⟨lt,rfl,⟨_,.of hlt⟩,λD hD=>?_⟩;have le:=a_3 tz;rw[aa'] at le;have t64:=G.t64;have tl:=bf_ ts;refine aq_ (own:=2) (fv:=[]) (xs:=zs) rfl gok2 (λi out H'=>Same H4 H'/\H' D=some (.lst out)/\out=(((tsOf ts).take i).map tieR).map V.str) ⟨Same.new hD,a1_,rfl⟩ (λi out H' _ ⟨sm,_,_⟩=>.of (sm _ _ hlt)) (λout H' ⟨sm2,hd,eo⟩=>?_) (λi x out H' hx ⟨sm2,hd,eo⟩=>?_)
   ·rw[le,ao'] at eo;have hlr':=sm2 _ _ (s4 _ _ hlr);refine⟨lr,D,_,_,rfl,rfl,hlr',hd,?_,λq nq=>?_⟩
    ·rw[eo,aa',aa',aa',aa'];omega
    ·have s5:=Same.new (o:=.lst ((((a9' hs).map λn=>cc' n (strOf hs n)).map V.str)++out)) nq;have sa:=(sm.trans s4).trans sm2;refine k q _ (sa.trans s5) (sa.free nq) ?_;rw[a1_,eo,<- ag'];rfl
   ·obtain⟨t,ht,b,rfl,hb⟩:=aQ_ tz hx;have wt:=go_ G (ae' ht);have lt:=g2_ wt.1 wt.2;refine⟨_,⟨b,_,_,rfl,.of (sm2 _ _ (hpT hb)),rfl⟩,rfl,λNx hN=>yesT ?_⟩;refine⟨_,rfl,?_,_,rfl,.inl ⟨t.1,rfl,by omega,_,rfl,?_,_,rfl,?_,_,rfl,.inl ⟨t.2,rfl,by omega,_,rfl,?_,?_,out,hd,?_,?_⟩⟩⟩
    ·show (0+4:Nat)<=_;omega
    ·rw[a_7,a_7];show 0+4+t.1.length<=_;omega
    ·rw[a_7,a_7,a_7];show 0+4+t.1.length+1<=_;omega
    ·show (tieR t).length<=_;omega
    ·show (tieR t).length<=_;omega
    ·rw[eo,aa',aa',af'];omega
    ·refine hN (out++[.str (tieR t)]) _ ⟨au_ sm2 hD,a1_,?_⟩;rw[eo,ay_ _ ht,ag'];rfl
theorem eh_{hs:Xa}{ts:Xb}(G:Good hs ts):(webR hs ts).length<=71/\∀x∈webR hs ts,x.length<=24:=by
 constructor
 ·unfold webR;rw[an',aa',aa',bf_,G.nlen];have:=G.h8;have:=G.t64;omega
 ·intro x hx;rcases aq'.mp hx with hx|hx
  ·obtain⟨n,hn,rfl⟩:=ab'.mp hx;have sk:=cj_ G hn;exact dq_ (gc_ G hn) Z1 Z1
  ·obtain⟨t,ht,rfl⟩:=ab'.mp hx;exact g2_ (go_ G ht).1 (go_ G ht).2
theorem hR_{ss:List Str}{m:Nat}(h:∀x∈ss,x.length<=m):(ss.map (·.length)).sum<=m * ss.length:=by
 induction ss with
 |nil=>exact aN' _
 |cons x xs ih=>
  have h1:=h x Z2;have h2:=ih λy hy=>h y (by simp[hy]);rw[aw',List.sum_cons,aC',Nat.mul_succ];show x.length+_<=_;omega
end
def dc'(n:Str)(k:Int)(h w:Str):Str:=Str.empty++("piece ":Str)++n++(" ":Str)++(toString k:Str)++(" ":Str)++h++(" ":Str)++w
def ca'(f:Str->Str)(q:Pc):Str:=dc' q.1 q.2.1 (f q.1) (bE' q.2.2)
def bZ'(hs:Xa)(ts:Xb)(qs:List Pc)(f:Str->Str):Str:=Txt.join "\n" (webR hs ts++qs.map (ca' f))
structure PcT (q:Pc):Prop where
 n:q.1.length<=8
 w0:0<=q.2.1
 w1:q.2.1<10 ^ 10
 ws:∀ws,q.2.2=some ws->ws.length<=1000/\∀t∈ws,t.1.length<=8/\t.2.length<=8
 wl:(bE' q.2.2).length<=2000
theorem h8_{n h w:Str}(hn:n.length<=8)(hh:h.length<=8)(k0:0<=k)(k1:k<10 ^ 10)(hw:w.length<=2000):(dc' n k h w).length<=2040:=by
 have h:=PySem.W.KT.len_num k0 k1;unfold dc';rw[a_7,a_7,a_7,a_7,a_7,a_7,a_7,a_7];show 0+6+n.length+1+(PySem.Str.ofString (toString k)).length+1+_+1+w.length<=_;omega
variable{f:Addr}
section
variable{P:Ad}{w:Af}{K:F__}{mg:Str->Option Aa}{base:Heap}
theorem bi':a6' ["goods","stand","placed","rows","piece","hand","weight","ways"] ["goods","stand"] (a5' b7'):=f__
inductive bl' (K:F__) (CG CW:Addr) (vs:List V) (H:Hp) (Q:VK) (E:XK):Prop
 |mk:∀(g p d:Addr) (hs:Xa) (ts:Xb) (qs:List Pc) (fp:List Addr) (ns:List Str) (f:Str->Str),vs=[.ref g,.ref d]->Std K CG CW H g p d hs ts qs fp ns f->(∀q∈qs,PcT q)->(∀H',Same H H'->Q (.str (bZ' hs ts qs f)) H')->bl' K CG CW vs H Q E
theorem f7_{CG CW CP:Addr}(F:Fun K "goods_text" "goods_text" b7' f fd)(T:TxtG K CG)(cC:Cal P w K mg base 2 "checked_stand" ["goods","stand"] (cT' K CG CW))(cR:Cal P w K mg base 3 "web_rows" ["web"] (cv' K CW))(cW:CalX P w K mg base CG 2 "weight" ["self","piece"] (cs' K CG CW CP))(cY:CalX P w K mg base CG 2 "ways" ["self","piece"] (dZ' K CG CW CP))(cT:Cal P w K mg base 3 "ways_text" ["ways"] (cy' K)) :
  FnOk P w K mg base CX0 4 f fd ["goods","stand"] (bl' K CG CW):=by
 refine F.ok bi' (λvs H Q E h=>?_) (λcdv A outer s H vs Q E hr h=>?_)
 ·obtain⟨g,p,d,hs,ts,qs,fp,ns,f,rfl,_⟩:=h;rfl
 ·obtain⟨g,p,d,hs,ts,qs,fp,ns,f,rfl,S,pq,k⟩:=h;have hu:=bn_ hr;have sz:=a_9;have hr2:Room 2 _:=hr.mono (by decide);have hr3:Room 3 _:=hr.mono (by decide);refine' ⟨_,?r0,?kk⟩
  case' r0=>refine' a3_ ?s1 ?r1
  case' r1=>refine' a3_ ?s2 ?r2
  case' r2=>refine' a3_ ?s3 (a5_ ?s4)
  case s1=>exact ae_ (i:=2) bi'.nd rfl (Or.inl rfl) (al_ cC hr2 (a0_ (pv 0) (a0_ (pv 1) a2_)))
  case s2=>exact ae_ (i:=3) bi'.nd rfl (Or.inl rfl) (al_ cR hr3 (a0_ (bz_ (pv 0) rfl) a2_))
  case' s3=>refine' fE_ (b2_ c_0 rfl ?i2 ?g2 (a3_ ?b1 (a3_ ?b2 (a5_ ?b3))))
  case i2=>exact ed_ (df_ (pv 2))
  case g2=>exact ch_ rfl (aj_ (ac_ (i:=4) bi'.nd rfl (Or.inl rfl)) (aj_ (ac_ (i:=5) bi'.nd rfl (Or.inl rfl)) b3_))
  case b1=>exact ae_ (i:=6) bi'.nd rfl (Or.inl rfl) (lp_ cW T.cl hr2 (pv 0) (a0_ (pv 4) a2_))
  case b2=>exact ae_ (i:=7) bi'.nd rfl (Or.inl rfl) (al_ cT hr3 (a0_ (lp_ cY T.cl hr2 (pv 0) (a0_ (pv 4) a2_)) a2_))
  case b3=>exact bv_ (bi_ c_1 c_9 c_8 b9_ (pv 3) (a0_ (cK_ (.cons a7_ (.cons (ci_ (pv 4)) (.cons a7_ (.cons (ci_ (pv 6)) (.cons a7_ (.cons (ci_ (pv 5)) (.cons a7_ (.cons (ci_ (pv 7)) .nil))))))))) a2_))
  case s4=>exact af_ (bi_ b_2 d_0 d__ bO_ a7_ (a0_ (pv 3) a2_))
  case' kk=>skip
  refine⟨_,rfl,_,rfl,g,p,d,hs,ts,qs,fp,ns,f,rfl,S.G,S.dfp,S.hd,S.ok,S.nd,S.h64,λdp H1 s1 n1 e1=>?_⟩;refine setG ?_;dsimp only;obtain⟨fpx,Pl⟩:=S.placed s1 n1 e1;obtain⟨dx,dw,dy,vs,fpw,h1,h2,h3,h4,h5,m1,m2,m3,m4,m5⟩:=id Pl.G.ex;refine⟨_,rfl,g,CG,dx,_,_,rfl,h1,T.cl,T.nW,ey_ _ _ _,p,hs,ts,fpw,rfl,h2,S.Gd,λlr H2 s2 n2 e2=>?_⟩;refine setG ?_;dsimp only;have lrd:lr≠dp:=(a9_ Pl.hd n2).symm;refine⟨dp,_,s2 _ _ Pl.hd,?_⟩;refine⟨_,rfl,dp,_,rfl,s2 _ _ Pl.hd,λv hv=>?_⟩;obtain⟨s3,hv1⟩:=nw__ (o:=bA' v dp) hv;have e3:=s3 _ _ e2;have s03:=s2.trans s3;generalize upd H2 v (bA' v dp)=H7 at s3 hv1 e3 s03 ⊢;refine⟨v,dp,_,rfl,hv1,s03 _ _ Pl.hd,λo=>?_⟩;refine dN_ (λi σ H'=>∃(v4 v5 v6 v7:Option V),σ=[some (.ref g),some (.ref d),some (.ref dp),some (.ref lr),v4,v5,v6,v7]/\Fz dp o (stF (qs.map (·.1)) f) H1 H'/\H' lr=some (.lst ((webR hs ts++(qs.take i).map (ca' f)).map V.str))) ⟨none,none,none,none,rfl,Fz.start' s03,?_⟩ (λi σ H' _ ⟨_,_,_,_,_,z,_⟩=>z.at_) ?_ ?_
  ·rw[a8_ lrd,e3,List.take_zero,List.map_nil,aD']
  ·rintro i ky x σ H8 hx ⟨v4,v5,v6,v7,rfl,fz,e8⟩ t ht;obtain⟨n,hn,rfl,rfl⟩:=ik_ hx
   have hi:i<qs.length:=by
    have:=(ac'.mp hn).1;rwa [aa'] at this
   have hq:qs[i]? = some (qs[i]'hi):=ad' hi
   have en:n=(qs[i]'hi).1:=by
    rw[az',hq] at hn;exact (b_7 hn).symm
   have fm:f n∈a9' hs:=(aI_ hs).mem_iff.mpr (Pl.at_ n (ae' hn));generalize qs[i]'hi=q at hq en;subst en;have qm:=ae' hq;have pt:=pq q qm;have s8:=Same.new (o:=.tup [.str q.1,.str (f q.1)]) ht;have fz2:=fz.step s8;have e9:=s8 _ _ e8;have et:upd H8 t (.tup [.str q.1,.str (f q.1)]) t=some (.tup [.str q.1,.str (f q.1)]):=a1_;show gTup _ _ _ _ _ (upd H8 t (.tup [.str q.1,.str (f q.1)])) _;generalize upd H8 t (.tup [.str q.1,.str (f q.1)])=H9 at s8 fz2 e9 et ⊢;refine⟨t,_,rfl,.of et,rfl,_,_,rfl,_,_,rfl,rfl,?_⟩;have G9:=fz2.goods Pl.hd Pl.G Pl.dfp;obtain⟨dx,dw,dy,vs,fpw,h1,h2,h3,h4,h5,m1,m2,m3,m4,m5⟩:=id G9.ex;have hno:(gflds p dw dy).lookup ("weight":Str)=none:=be_ _ _ _ Z0 Z0 Z0;have hny:(gflds p dw dy).lookup ("ways":Str)=none:=be_ _ _ _ Z0 Z0 Z0;refine⟨_,rfl,g,dx,_,rfl,h1,hno,_,rfl,g,p,.str q.1,some q.1,hs,ts,qs,fpx,rfl,G9,Pl.nd,rfl,.inl ⟨q,qm,rfl,?_⟩⟩;refine setG ?_;dsimp only;refine⟨_,rfl,g,dx,_,rfl,h1,hny,_,rfl,g,p,.str q.1,some q.1,hs,ts,qs,fpx,rfl,G9,Pl.nd,rfl,.inl ⟨q,qm,rfl,λws e=>(pt.ws ws e).1,λv' H10 s10 wy _=>?_⟩⟩;refine⟨v',q.2.2,rfl,wy,pt.ws,λH11 s11=>?_⟩;refine setG ?_;dsimp only;have e11:=s11 _ _ (s10 _ _ e9);have fz3:=(fz2.step s10).step s11;have c0:(Str.empty:Str).length=0:=rfl;have c6:("piece ":Str).length=6:=rfl;have c1:(" ":Str).length=1:=rfl;have l1:=pt.n;have l2:=pt.wl;have l3:=gc_ S.Gd fm;have l4:=PySem.W.KT.len_num pt.w0 pt.w1;have l5:((toString q.2.1:Ah):Str).length<=10:=l4;have w0:=pt.w0;have w1:=pt.w1;refine⟨_,rfl,.inl ⟨rfl,_,.of e11⟩,_,rfl,?_,_,rfl,.inl ⟨q.1,rfl,by omega,_,rfl,?_,_,rfl,?_,_,rfl,.inr ⟨q.2.1,rfl,?_,_,rfl,?_,_,rfl,?_,_,rfl,.inl ⟨f q.1,rfl,by omega,_,rfl,?_,_,rfl,?_,_,rfl,.inl ⟨bE' q.2.2,rfl,by omega,_,rfl,?_,?_,lr,_,_,rfl,rfl,e11,?_,?_⟩⟩⟩⟩⟩
   ·simp only[a_7,c0,c6,c1];omega
   ·simp only[a_7,c0,c6,c1];omega
   ·simp only[a_7,c0,c6,c1];omega
   ·by_cases z:q.2.1.natAbs=0
    ·rw[z];decide
    ·exact (Nat.log2_lt z).mpr (ar' (show q.2.1.natAbs<2 ^ 64 by omega) (Nat.pow_le_pow_right (by decide) (by decide)))
   ·simp only[a_7,c0,c6,c1];omega
   ·simp only[a_7,c0,c6,c1];omega
   ·simp only[a_7,c0,c6,c1];omega
   ·simp only[a_7,c0,c6,c1];omega
   ·simp only[a_7,c0,c6,c1];omega
   ·simp only[a_7,c0,c6,c1];omega
   ·have:=(eh_ S.Gd).1;have:=Pl.h64;rw[aa',an',aa',af'];omega
   ·refine⟨_,_,_,_,rfl,fz3.put n2 lrd,?_⟩
    have e5:webR hs ts++(qs.take (i+1)).map (ca' f)=(webR hs ts++(qs.take i).map (ca' f))++[ca' f q]:=by
     rw[aI',hq];simp
    have e6:(webR hs ts++(qs.take (i+1)).map (ca' f)).map V.str=(webR hs ts++(qs.take i).map (ca' f)).map V.str++[V.str (ca' f q)]:=by
     rw[e5,ag'];rfl
    rw[a1_,e6];rfl
  rintro σ H8 ⟨v4,v5,v6,v7,rfl,fz,e8⟩;refine⟨o,fz.at_,?_⟩;rw[c1_,aa',ao'] at e8;obtain⟨a1,a2⟩:=eh_ S.Gd;have h64:=Pl.h64
  have al:∀x∈webR hs ts++qs.map (ca' f),x.length<=2040:=λx hx=>by
   rcases aq'.mp hx with hx|hx
   ·have:=a2 x hx;omega
   ·obtain⟨q,hq,rfl⟩:=ab'.mp hx;have pt:=pq q hq;exact h8_ pt.n (gc_ S.Gd ((aI_ hs).mem_iff.mpr (Pl.at_ q.1 (ab'.mpr ⟨q,hq,rfl⟩)))) pt.w0 pt.w1 pt.wl
  have sl:=hR_ al;refine⟨rfl,_,rfl,"\n",lr,_,rfl,rfl,.of (by rw[a8_ lrd];exact e8),?_,k _ (s1.trans (fz.thaw Pl.hd))⟩;rw[an',aa'] at sl;rw[an',aa'];show _+_ * 1<=_;omega
end
def okd(c:Nat):Bool:=decide (48<=c)&&decide (c<=57)
def figB(x:Str):Bool:=decide (1<=x.length)&&decide (x.length<=10)&&x.cps.toList.all okd&&(!decide (atI x.cps.toList 0=some 48) || decide (x="0"))
variable{c:Nat}
theorem lv_:(!decide ((⟨#[c]⟩:Str).cps.toList<("0":Str).cps.toList))=decide (48<=c):=by
 have e:("0":Str).cps.toList=[48]:=by decide +kernel
 rw[e];show (!decide ([c] < [48]))=decide (48<=c);by_cases h:48<=c
 ·have:¬[c] < [48]:=by simp[aQ'];omega
  simp[this,h]
 ·have:[c] < [48]:=by simp[aQ'];omega
  simp[this,h]
theorem l9_:(!decide (("9":Str).cps.toList<(⟨#[c]⟩:Str).cps.toList))=decide (c<=57):=by
 have e:("9":Str).cps.toList=[57]:=by decide +kernel
 rw[e];show (!decide ([57] < [c]))=decide (c<=57);by_cases h:c<=57
 ·have:¬[57] < [c]:=by simp[aQ'];omega
  simp[this,h]
 ·have:[57] < [c]:=by simp[aQ'];omega
  simp[this,h]
theorem scFigs:a6' ["word"] ["word"] (a5' sFigs):=f__
def spFigs:Sp:=λvs H Q _=>∃x:Str,vs=[.str x]/\x.length<=100000/\∀H',Same H H'->Q (.bl (figB x)) H'
variable{w:Af}{P:Ad}{K:F__}{mg:Str->Option Aa}{base:Heap}
theorem kU_(F:Fun K "is_figures" "is_figures" sFigs f fd)(B:Bi mg){t10:Tok}(m10:mg "MOST_FIGURES"=some (.int 10 t10)):FnOk P w K mg base CX0 1 f fd ["word"] spFigs:=by
 refine F.ok scFigs (λvs H Q E h=>?_) (λcdv A outer s H vs Q E hr h=>?_)
 ·obtain⟨x,rfl,_⟩:=h;rfl
 ·obtain⟨x,rfl,hz,k⟩:=h;have sz:=a_9;refine' ⟨_,a3_ ?s1 (a3_ ?s2 (a5_ ?s3)),?kk⟩
  case s1=>exact ak_ (ax_ (dc_ cp_ cp_ a4_ (a6_ bg_ (by rfl) B.len b_3 (a0_ (pv 0) a2_)) (b5_ (v:=.int 10) (by rfl) m10 ⟨t10,rfl⟩))) (a5_ (af_ cr_)) aa_
  case s2=>exact ak_ (ax_ (az_ (a6_ (cC_ rfl) (by rfl) B.all PyProof.Rows.Boot.«all» (a0_ (aS_ ["sign"] 1 [] (eP_ (pv 0)) (λfp s H=>ac_ (i:=0) (show (["sign"]:List Str).Nodup by decide +kernel) rfl (Or.inl rfl)) (λfp s H=>aW_) (λfp s H=>cy_ cu_ cu_ a7_ (pv 0) a7_)) a2_)))) (a5_ (af_ cr_)) aa_
  case s3=>exact af_ (ky_ (b7_ d6_ (ag_ eb_ (pv 0) a4_ (λ_ _=>rfl)) a7_ (nomark _)) (bs_ (b7_ b6_ (pv 0) a7_ (nomark _))))
  case' kk=>skip
  refine⟨_,rfl,x,rfl,by omega,_,_,rfl,rfl,_,rfl,?_⟩
  have fin:(decide (1<=x.length)&&decide (x.length<=10))=false->∀H',Same H H'->Q (.bl false) H':=λe H' sm=>by
   have:=k H' sm;rwa [show figB x=false by unfold figB;rw[e];rfl] at this
  refine ite2 (λc=>?_) (λc=>?_);rotate_left
  ·have c1:¬1<=x.length:=by
    have:¬((1:Int)<=(x.length:Int)):=by simpa using c
    omega
   exact⟨_,rfl,iteT (fin (by rw[a_2 c1];rfl) H (Same.refl H))⟩
  have c1:1<=x.length:=by
   have:(1:Int)<=(x.length:Int):=by simpa using c
   omega
  refine⟨_,_,rfl,rfl,_,rfl,?_⟩;refine ite2 (λc2=>?_) (λc2=>?_)
  ·have c3:¬x.length<=10:=by
    have:¬((x.length:Int)<=10):=by simpa using c2
    omega
   exact fin (by rw[a_2 c3,Bool.and_false]) H (Same.refl H)
  have c3:x.length<=10:=by
   have:(x.length:Int)<=10:=by simpa using c2
   omega
  refine⟨_,rfl,x,rfl,λD hD=>?_⟩;refine cT_ (own:=1) (fv:=[]) rfl gok1 x.cps.size (λi out H'=>H'=upd H D (.lst out)/\out=((x.cps.toList.take i).map okd).map V.bl) ⟨rfl,by simp⟩ (λout H' ⟨e1,e2⟩=>?_) (λi out H' hi ⟨e1,e2⟩=>?_)
  ·have sm:Same H H':=by rw[e1];exact Same.new hD
   have kk:=k H' sm;refine⟨ai' _,D,x.cps.toList.map okd,rfl,.of ?_,?_⟩
   ·rw[e1,a1_,e2,aF' Z2]
   ·have ea:(x.cps.toList.map okd).all id=x.cps.toList.all okd:=by rw[List.all_map];rfl
    refine⟨_,rfl,?_⟩;unfold figB at kk;rw[a_1 c1,a_1 c3] at kk;refine ite2 (λc=>?_) (λc=>?_)
    ·have ha:x.cps.toList.all okd=false:=by
      rw[<- ea];have c:(!((x.cps.toList.map okd).all id))=true:=c;simpa using c
     rw[ha,Bool.and_false,a1'] at kk;exact kk
    ·have ha:x.cps.toList.all okd=true:=by
      rw[<- ea];have c:¬(!((x.cps.toList.map okd).all id))=true:=c;simpa using c
     obtain⟨c0,h0⟩:∃c0,atI x.cps.toList 0=some c0:=by
      cases e:x.cps.toList with
      |nil=>
       have:x.cps.toList.length=x.length:=by rw[aK'];rfl
       rw[e] at this;simp at this;omega
      |cons a l=>exact⟨a,L2.bK' (j:=0) (v:=a) rfl⟩
     have e0:("0":Str)=⟨#[48]⟩:=by decide +kernel
     have e1:decide (V.str ⟨#[c0]⟩=V.str "0")=decide (some c0=some (48:Nat)):=by
      rw[e0];by_cases z:c0=48
      ·simp[z]
      ·simp[z]
     have e2:decide (V.str x=V.str "0")=decide (x="0"):=by
      by_cases z:x="0"
      ·simp[z]
      ·simp[z]
     rw[ha,h0,Bool.and_true,Bool.and_true,aT'] at kk;refine⟨_,rfl,x,0,c0,rfl,rfl,by omega,h0,rfl,_,rfl,?_⟩;rw[e1];refine ite2 (λc=>?_) (λc=>?_)
     ·rw[c,Bool.true_or] at kk;exact kk
     ·rw[show (!decide (some c0=some (48:Nat)))=false by simpa using c,Bool.false_or] at kk;refine⟨_,rfl,rfl,?_⟩;rw[e2];exact kk
  ·refine⟨hi,λv H2 y=>?_⟩;obtain⟨eH,c,hc,rfl⟩:=y;subst eH;refine⟨_,rfl,rfl,λNx hN=>yesT ?_⟩
   have lo:out.length<sizeLine:=by
    rw[e2];have hs:x.length=x.cps.size:=rfl;simp only[aa',af',aK'];omega
   have nx:Nx (upd H2 D (.lst (out++[V.bl (okd c)]))):=hN (out++[V.bl (okd c)]) _ ⟨by rw[e1,bZ_],by
    rw[e2,aI'];simp[hc]⟩
   have atD:H2 D=some (.lst out):=by rw[e1,a1_]
   refine⟨_,rfl,_,_,rfl,rfl,_,rfl,?_⟩;rw[lv_];refine ite2 (λc2=>?_) (λc2=>?_)
   ·refine⟨_,_,rfl,rfl,out,atD,lo,?_⟩;rw[l9_];rwa [show okd c=decide (c<=57) by unfold okd;rw[c2];rfl] at nx
   ·refine⟨out,atD,lo,?_⟩;rwa [show okd c=false by unfold okd;rw[show decide (48<=c)=false by simpa using c2];rfl] at nx
end Ev
namespace L2
open PySem PySem.Spec PyProof.Rows
def CXH(P:Ad)(w:Af)(L:Addr):CXT:=λl H s E e s'=>
 ∃a cls H' B,e=Value.ref a/\s'.os=s.os/\AllBare s'.gens/\Un (frs l) [] H H' s.heap s'.heap/\HOk P w H' s'.heap/\FlE B l a cls (rawInt L) s'.heap/\InB B l H' s.heap s'.heap/\E cls none H'
inductive XQ (X:Cx) (E:XK) (e:Aa) (s':Ab):Prop
 |mk:∀pins σ H s,Inv X pins σ H s->(CX1 X.prog X.w X.stack H s E e s'∨CXH X.prog X.w X.env.locals X.stack H s E e s'∨∃h' a cls vs,e=Value.ref a/\s'={ s with heap:=h' }/\Heap.MadeExcOf s.heap h' a cls vs/\E cls none H)->XQ X E e s'
variable{B:Heap}{L:Addr}{cls:Aa}{M:Model}{A:Ag}{E:Aa->Ab->Prop}{s:Ab}
theorem f6_{env:Env}{l:List Env}{e:Addr}{cx:Aa}(hf:env.frame=some L)(hh:FlC B l e cls cx (rawInt L) s.heap)(hQ:∀h',FlC B l e cls cx (rawInt L) h'->s.heap.UpToSlots h'->E (.ref e) { s with heap:=h' }):cameBackBy M A env E (.ref e) s:=by
 unfold cameBackBy;have hh2:=hh;obtain⟨f1,f2,f3,oe,vs,T,oT,ts,he,hc,hd,h1,h2,hnT,hTe,hT,hdT,h3⟩:=hh;refine a__ (e_0 he hd h1 ?_);rw[a_5 Z2,hf];exact setE (fr:=some L) hh2 λh' q up=>hQ h' q up
variable{E:XK}{s':Ab}{X:Cx}
theorem hx_{pins:List (Addr × Obj)}{σ:St}{H H':Hp}{h1:Heap}{a:Addr}(I:Inv X pins σ H s)(os:s'.os=s.os)(bare:AllBare s'.gens)(un:Un (frs X.stack) [] H H' s.heap s'.heap)(hok:HOk X.prog X.w H' s'.heap)(ff:s'.heap.FunFrames B X.stack)(i:InB B X.stack H' s.heap s'.heap)(hE:E cls none H')(hd:FlE B X.stack a cls (rawInt L) h1)(up:s'.heap.UpToSlots h1):CXH X.prog X.w L X.stack H s E (.ref a) { s' with heap:=h1 }:=
 ⟨a,cls,H',B,rfl,os,bare,bm_ un ff i hd.1 up,b8_ hok (cf_ I un) i hd.1,hd,bx_ hok un i hd.1,hE⟩
theorem passQ(hst:X.stack=X.env::X.outer)(hfr:X.env.frame=some X.env.locals):PassesOwn (model X.prog X.w) X.A X.env (XQ X E):=by
 intro e s' h;obtain⟨pins,σ,H,s,I,c⟩:=h
 have back:∀s2,CXH X.prog X.w X.env.locals X.stack H s E e s2->cameBackBy (model X.prog X.w) X.A X.env (XQ X E) e s2:=λs2 hc=>by
  obtain⟨a,cls,H',B,rfl,os,bare,un,hok,hd,i,hE⟩:=hc;exact f6_ hfr hd λh' q up=>⟨pins,σ,H,s,I,.inr (.inl (hx_ I os bare un hok hd.2.2.1 i hE q up))⟩
 unfold notedBy
 have fin:wpAny (model X.prog X.w) X.A (noteFrame e X.env) (λ_ s2=>CXH X.prog X.w X.env.locals X.stack H s E e s2) (cameBackBy (model X.prog X.w) X.A X.env (XQ X E)) s':=by
  rcases c with c|c|⟨h',a,cls,vs,rfl,rfl,hx,hE⟩
  ·obtain⟨a,cls,H',B,a0,rfl,os,bare,un,hok,fl,i,hE⟩:=c;refine noteE (base:=B) (outer:=X.outer) (by rw[I.ok.frames,hst]) hfr (by rw[<- hst];exact fl.2) λh4 hd up=>?_;rw[<- hst] at hd;exact hx_ I os bare un hok fl.1.2.2.1 i hE hd up
  ·obtain⟨a,cls,H',B,rfl,os,bare,un,hok,hd,i,hE⟩:=c;exact bM_ hfr hd ⟨a,cls,H',B,rfl,os,bare,un,hok,hd,i,hE⟩
  ·have ff:=PySem.W.funFrames_hide (as:=frs X.stack) I.stack (λenv he b hb=>aA'.mpr ⟨env,he,hb⟩);have hk:(PySem.W.hideAll s.heap (frs X.stack)).StaysIn s.heap:=λb o q=>PySem.W.of_hideAll _ q;have ff1:Heap.FunFrames h' (PySem.W.hideAll s.heap (frs X.stack)) X.stack:=ff.of_keeps λb o hb _=>⟨o,hx.keeps b o hb,rfl⟩;refine dV_ (s:={ s with heap:=h' }) (base:=PySem.W.hideAll s.heap (frs X.stack)) (outer:=X.outer) (h:=s.heap) (by rw[I.ok.frames,hst]) hfr hk (by rw[<- hst];exact ff) hx λh4 nt k4=>?_;rw[<- hst] at nt;have un:Un (frs X.stack) [] H H s.heap h':=Un.kept hx.keeps;have hok:HOk X.prog X.w H h':=I.hok.kept hx.keeps
   have i:InB (PySem.W.hideAll s.heap (frs X.stack)) X.stack H s.heap h':=λb o q hb c=>by
    rcases c with c|⟨o0,z⟩
    ·obtain⟨u,hu⟩:=aP'.mp c;obtain⟨o1,z⟩:=(I.hok b u hu).here;have:=hx.keeps b o1 z;rw[q] at this;cases this;exact e_1 _ z hb
    ·have:=hx.keeps b o0 z;rw[q] at this;cases this;exact e_1 _ z hb
   exact hx_ (s':={ s with heap:=h' }) I rfl I.bare un hok ff1 i hE nt k4
 exact c_6 fin (λ_ s2 q=>back s2 q) λ_ _ z=>z
abbrev cxQ(P:Ad)(w:Af)(K:F__)(mg:Str->Option Aa)(base:Heap)(N:List Str)(qual:Str)(scope:Scope)(f:Addr)(cd:Aa)(A:Ag)(outer:List Env)(s:Ab)(H:Hp)(E:XK):Cx:=
 (cxOf (CX1 P w) P w K mg base N qual scope f cd A outer s H E).wish (XQ (cxOf (CX1 P w) P w K mg base N qual scope f cd A outer s H E) E)
variable{P:Ad}{w:Af}{K:F__}{mg:Str->Option Aa}{base:Heap}
section
variable{N:List Str}{qual:Str}{scope:Scope}{f:Addr}{cd:Aa}{A:Ag}{outer:List Env}{s:Ab}{H:Hp}{E:XK}
theorem ownQ:PassesOwn (model P w) (cxQ P w K mg base N qual scope f cd A outer s H E).A (cxQ P w K mg base N qual scope f cd A outer s H E).env (cxQ P w K mg base N qual scope f cd A outer s H E).xe:=passQ (X:=cxOf (CX1 P w) P w K mg base N qual scope f cd A outer s H E) rfl rfl
theorem passesQ:by' (CX1 P w) (cxQ P w K mg base N qual scope f cd A outer s H E) E:=λpins σ H1 s1 e s' I hc=>⟨pins,σ,H1,s1,I.unwish,.inl hc⟩
theorem raisesQ:dv' (cxQ P w K mg base N qual scope f cd A outer s H E) E:=λpins σ H1 s1 h' e cls vs I hx hE=>⟨pins,σ,H1,s1,I.unwish,.inr (.inr ⟨h',e,cls,vs,rfl,rfl,hx,hE⟩)⟩
theorem leaveQ{e:Aa}(h:XQ (cxOf (CX1 P w) P w K mg base N qual scope f cd A outer s H E) E e s'):(cxOf (CX1 P w) P w K mg base N qual scope f cd A outer s H E).xe e s':=by
 obtain⟨pins,σ,H1,s1,I,c⟩:=h;rcases c with c|c|⟨h',a,cls,vs,rfl,rfl,hx,hE⟩
 ·exact passes1 pins σ H1 s1 e s' I c
 ·obtain⟨a,cls,H',B,rfl,os,bare,un,hok,hd,i,hE⟩:=c;show wpAny _ _ (leaving _ _) _ _ _;unfold leaving;refine a__ (bM_ rfl hd (setE (fr:=none) hd λh1 fl up=>?_));obtain⟨a1,fb⟩:=FlE.b (FlC.less fl);exact dh_ (s1:={ s' with heap:=h1 }) I rfl os bare un hok i hd.2.2.1 up fb hE
 ·exact raises1 pins σ H1 s1 h' a cls vs I hx hE
end
theorem Fun.okQ{x qual:Str}{st:Stmt}{f:Addr}{fd:Ae}{N ps:List Str}{k:Nat}{sp:Sp}(F:Fun K x qual st f fd)(S:a6' N ps (a5' st))(len:∀vs H Q E,sp vs H Q E->vs.length=ps.length)
  (hbody:∀(cdv:Aa) (A:Ag) (outer:List Env) (s:Ab) (H:Hp) (vs:List V) (Q:VK) (E:XK),Room k (A.deeper (envOfC qual (a5' st) s.heap.objs.size f cdv))->sp vs H Q E->
   PassesOwn (model P w) (cxQ P w K mg base N qual (a5' st) f cdv A outer s H E).A (cxQ P w K mg base N qual (a5' st) f cdv A outer s H E).env (cxQ P w K mg base N qual (a5' st) f cdv A outer s H E).xe->
   by' (CX1 P w) (cxQ P w K mg base N qual (a5' st) f cdv A outer s H E) E->dv' (cxQ P w K mg base N qual (a5' st) f cdv A outer s H E) E->
   ∃t,PSs (cxQ P w K mg base N qual (a5' st) f cdv A outer s H E) (bj' st) t/\t { nx:=λ_ H'=>Q .non H',rt:=Q } (start N vs) H):FnOk P w K mg base (CX1 P w) (k+1) f fd ps sp:=
 F.okX S len λcdv A outer s H vs Q E hr hsp=>by
  obtain⟨t,h,q⟩:=hbody cdv A outer s H vs Q E hr hsp ownQ passesQ raisesQ;exact⟨t,λpins s1 σ H1 D I hw=>c_6 (h pins s1 σ H1 D (I.wish _) hw) (λ_ _ q=>q.unwish) λ_ _ z=>leaveQ z,q⟩
section
variable{X:Cx}{k:Nat}{ps:List Str}{x:Str}{p pos:Pos}{e:Expr}{es:List Expr}{tn:TE}{t:TA}
end
open PySem.Builtin PySem.Builtin.Str
inductive rSplitB (x:V) (vs:List V) (H:Hp) (Q:VK):Prop
 |mk:∀(z y:Str) (c:Nat),x=.str z->vs=[.str y]->y=⟨#[c]⟩->z.length<=50000->(∀l,H l=none->Q (.ref l) (upd H l (.lst ((Txt.split z y).map V.str))))->rSplitB x vs H Q
theorem bk_:MtM X "str.split" rSplitB:=by
 intro pins s σ H x vs v us Q I rx rv h;obtain⟨z,y,c,rfl,rfl,ey,hz,q⟩:=h;obtain⟨t,rfl⟩:=rx;obtain⟨u,rfl,t2,rfl⟩:=rv.one;have sz:=a_9;have hy:(y.length == 0)=false:=by rw[ey];rfl
 have hn:(partsBetween z (occurrences z y 0 z.length (z.length+1)) y.length).length<=60000:=by
  rw[length_partsBetween];have:=StrLaws.occ_length_le z y 0 z.length (z.length+1);omega
 have sl:=PyProof.Rows.split_le z y
 have fin:∀(l:List (Str × Tok)) (k:Nat),l.map (·.1)=Txt.split z y->EP X pins σ Q (.ref s.heap.objs.size) { s with toks:=k,heap:=s.heap.push { cls:=.type "list",data:=.seq (strValues l).toArray } }:=λl k e=>by
  have vl:=fd_ l;rw[e] at vl;refine⟨.ref s.heap.objs.size,_,I.laid (t':=k) (o:=.lst ((Txt.split z y).map V.str)) (λb ob q=>a_0 _ q) (ai' _) ?_,rfl,q _ (I.hok.fresh (ai' _))⟩;refine⟨?_,_,0,vl,b_0 _ rfl⟩;rw[aa'];omega
 cases hA:(decide (z.length<y.length) || decide (strKind z<strKind y)) with
 |true=>
  refine call_meets b_9 (typeIs_str _ _ _) PySem.F.entry_str_split (PySem.F.args_str_split_2 _ _) (meets_str_split_cannot_occur z y t t2 hA) ?_;exact fin [(z,t)] _ (by unfold Txt.split;rw[b__ hA];rfl)
 |false=>
  cases hB:(occurrences z y 0 z.length (z.length+1)).isEmpty with
  |true=>
   refine call_meets b_9 (typeIs_str _ _ _) PySem.F.entry_str_split (PySem.F.args_str_split_2 _ _) (meets_str_split_not_found z y t t2 hA hy hB) ?_;exact fin [(z,t)] _ (by unfold Txt.split;rw[a_5 (by rw[hA];decide),b__ hB];rfl)
  |false=>
   refine call_meets b_9 (typeIs_str _ _ _) PySem.F.entry_str_split (PySem.F.args_str_split_2 _ _) (meets_str_split_sep z y t t2 hA hy hB Z1 Z1) ?_;show wants _ _ _ { s with toks:=_,heap:=s.heap.push { cls:=.type "list",data:=.seq (strsFrom s.toks (partsBetween z (occurrences z y 0 z.length (z.length+1)) y.length)).toArray } };rw[strsFrom_eq];exact fin (numbered s.toks _) _ ((numbered_texts _ _).trans (by unfold Txt.split;rw[a_5 (by rw[hA];decide),a_5 (by rw[hB];decide)]))
end L2
namespace Ev
open PySem L2
def pairB:List Str->Bool
 |[a,b]=>ba' a&&ba' b
 |_=>false
def dj'(x:Str):Bool:=pairB (Txt.split x "-")
theorem ed':a6' ["word","names"] ["word"] (a5' dY'):=f__
def db':Sp:=λvs H Q _=>∃x:Str,vs=[.str x]/\x.length<=50000/\∀H',Same H H'->Q (.bl (dj' x)) H'
variable{f:Addr}{fd:Ae}{P:Ad}{w:Af}{K:F__}{mg:Str->Option Aa}{base:Heap}
theorem gI_(F:Fun K "is_tie_word" "is_tie_word" dY' f fd)(B:Bi mg)(cN:Cal P w K mg base 1 "is_name" ["thing"] cX'):FnOk P w K mg base CX0 2 f fd ["word"] db':=by
 refine F.ok ed' (λvs H Q E h=>?_) (λcdv A outer s H vs Q E hr h=>?_)
 ·obtain⟨x,rfl,_⟩:=h;rfl
 ·obtain⟨x,rfl,hz,k⟩:=h;have sz:=a_9;refine' ⟨_,a3_ ?s1 (a5_ ?s2),?kk⟩
  case s1=>exact ae_ (i:=1) ed'.nd rfl (Or.inl rfl) (bi_ b_2 b_9 d_3 bk_ (pv 0) (a0_ a7_ a2_))
  case s2=>exact af_ (bh_ (b7_ b6_ (a6_ ai_ (by rfl) B.len b_3 (a0_ (pv 1) a2_)) a4_ (nomark _)) (bh_ (al_ cN hr (a0_ (ag_ ad_ (pv 1) a4_ (λ_ _=>rfl)) a2_)) (bs_ (al_ cN hr (a0_ (ag_ ad_ (pv 1) a4_ (λ_ _=>rfl)) a2_)))))
  case' kk=>skip
  refine⟨_,rfl,rfl,x,"-",45,rfl,rfl,rfl,by omega,λl nl=>?_⟩;refine setG ?_;dsimp only;unfold dj' at k;have sh:∀r∈Txt.split x "-",r.length<=x.length:=λr h=>b_8 h;change tRet _ _ _ (upd H l (.lst ((Txt.split x "-").map V.str)));generalize Txt.split x "-"=ns at k sh ⊢;obtain⟨s1,k1⟩:=nw__ (o:=.lst (ns.map V.str)) nl;generalize upd H l (.lst (ns.map V.str))=H1 at s1 k1 ⊢;refine⟨_,rfl,l,_,rfl,.inl (.of k1),rfl,_,rfl,?_⟩
  match ns,k,sh,k1 with
  |[],k,sh,k1=>exact iteF (k H1 s1)
  |[a],k,sh,k1=>exact iteF (k H1 s1)
  |[a,b],k,sh,k1=>
   have la:=sh a Z2;have lb:=sh b Z2;refine iteT ?_;refine⟨_,rfl,l,_,_,.str a,rfl,rfl,.of k1,rfl,a,rfl,by omega,λH2 s2=>⟨_,rfl,?_⟩⟩;have kk:∀H',Same H H'->Q (.bl (ba' a&&ba' b)) H':=k;refine ite2 (λc=>?_) (λc=>?_)
   ·rw[c,aT'] at kk;exact⟨_,rfl,l,_,_,.str b,rfl,rfl,.of (s2 _ _ k1),rfl,b,rfl,by omega,λH3 s3=>kk H3 ((s1.trans s2).trans s3)⟩
   ·have c:ba' a=false:=by simpa using c
    rw[c,a1'] at kk;exact kk H2 (s1.trans s2)
  |a::b::c::r,k,sh,k1=>
   have e:decide (V.int (((a::b::c::r).map V.str).length:Nat)=V.int 2)=false:=a_2 λz=>by
    have:=V.int.inj z;simp at this;omega
   rw[e];exact iteF (k H1 s1)
theorem jM_{X:Cx}{o e:Expr}{es:List Expr}{to:TE}{t:TA}{name:Str}{apos cpos:Pos}{T id:Ah}{r:V->List V->Hp->VK->Prop}(pa:PlainAttrs T)(slot:Slot T name id)(hty:typeOf (.builtin id)=pure (.type "method_descriptor"))(hm:MtR X id r)(ho:PE X o to)(ha:PA X (e::es) t)(hK:X.K=K:=by rfl)(hbase:attributeBase o name X.env (eval o X.env)=eval o X.env:=by rfl)(hfew:((backTo cpos (starEach (e::es) X.env)).all (λx=>!x.1)&&(backToKw cpos (keywordEach [] X.env)).all (λx=>x.1.isSome)
   && decide ((e::es).length+([]:List Keyword).length+(if ([]:List Keyword).isEmpty then 0 else 1)<30))=true:=by rfl)(hline:(apos.endLine == cpos.line)=true:=by rfl)(hs:starEach (e::es) X.env=(false,eval e X.env)::starEach es X.env:=by rfl)(hplain:(backTo cpos (starEach es X.env)).any (·.1)=false:=by rfl) :
  PE X (.Call (.Attribute o name apos) (e::es) [] cpos) (tBM K T r to t):=by
 subst hK;exact bi_ pa slot hty hm ho ha hbase hfew hline hs hplain
def c1'(x:Str):Bool:=decide (x="free") || (decide (x="fixed") || (Txt.split x ",").all dj')
theorem aY_(a b:Str):decide (V.str a=V.str b)=decide (a=b):=by
 by_cases z:a=b
 ·simp[z]
 ·simp[z]
def WyV(H:Hp)(v:V)(x:Str):Prop:=(x="free"/\v=.non)∨(x≠"free"/\x="fixed"/\∃l,v=.ref l/\H l=some (.lst [])) ∨
 (x≠"free"/\x≠"fixed"/\∃l ys,v=.ref l/\H l=some (.lst ys)/\Paired (λy p=>∃a,y=.ref a/\H a=some (.tup ((Txt.split p "-").map V.str))) ys (Txt.split x ","))
theorem eY':a6' ["word"] ["word"] (a5' c4'):=f__
def cz':Sp:=λvs H Q _=>∃x:Str,vs=[.str x]/\x.length<=50000/\∀H',Same H H'->Q (.bl (c1' x)) H'
theorem fV_(F:Fun K "is_ways_word" "is_ways_word" c4' f fd)(B:Bi mg)(cT:Cal P w K mg base 2 "is_tie_word" ["word"] db'):FnOk P w K mg base CX0 3 f fd ["word"] cz':=by
 refine F.ok eY' (λvs H Q E h=>?_) (λcdv A outer s H vs Q E hr h=>?_)
 ·obtain⟨x,rfl,_⟩:=h;rfl
 ·obtain⟨x,rfl,hz,k⟩:=h;have sz:=a_9;refine' ⟨_,a5_ ?s1,?kk⟩
  case' s1=>refine' af_ (ky_ (b7_ b6_ (pv 0) a7_ (nomark _)) (ky_ (b7_ b6_ (pv 0) a7_ (nomark _)) (bs_ (a6_ (cC_ rfl) (by rfl) B.all PyProof.Rows.Boot.«all» (a0_ (aS_ ["tie"] 1 [] (am_ ?sp) (λfp s H=>ac_ (i:=0) (show (["tie"]:List Str).Nodup by decide +kernel) rfl (Or.inl rfl)) (λfp s H=>aW_) (λfp s H=>?el)) a2_)))))
  case sp=>exact bi_ b_2 b_9 d_3 bk_ (pv 0) (a0_ a7_ a2_)
  case el=>exact al_ cT hr (a0_ (pv 0) a2_)
  case' kk=>skip
  unfold c1' at k;refine⟨_,rfl,rfl,_,rfl,?_⟩;rw[aY_];refine ite2 (λc=>?_) (λc=>?_)
  ·rw[c,Bool.true_or] at k;exact k H (Same.refl H)
  rw[show decide (x="free")=false by simpa using c,Bool.false_or] at k;refine⟨_,rfl,rfl,_,rfl,?_⟩;rw[aY_];refine ite2 (λc=>?_) (λc=>?_)
  ·rw[c,Bool.true_or] at k;exact k H (Same.refl H)
  rw[show decide (x="fixed")=false by simpa using c,Bool.false_or] at k;refine⟨_,rfl,rfl,x,",",44,rfl,rfl,rfl,by omega,λl nl=>?_⟩;have sh:∀r∈Txt.split x ",",r.length<=x.length:=λr h=>b_8 h;have sl:=PyProof.Rows.split_le x ",";generalize Txt.split x ","=ns at k sh sl ⊢;obtain⟨s1,k1⟩:=nw__ (o:=.lst (ns.map V.str)) nl;generalize upd H l (.lst (ns.map V.str))=H1 at s1 k1 ⊢;refine⟨l,rfl,⟨_,.of k1⟩,λD hD=>?_⟩;refine aq_ (own:=1) (fv:=[]) (xs:=ns.map V.str) rfl gok1 (λi out H'=>Same H1 H'/\H' D=some (.lst out)/\out=((ns.take i).map dj').map V.bl) ⟨Same.new hD,a1_,rfl⟩ (λi out H' _ ⟨sm,_,_⟩=>.of (sm _ _ k1)) (λout H' ⟨sm,hd,eo⟩=>?_) (λi y out H' hy ⟨sm,hd,eo⟩=>?_)
  ·rw[aa',ao'] at eo;rw[eo] at hd;refine⟨D,ns.map dj',rfl,.of hd,?_⟩;have kk:=k H' (s1.trans sm);rwa [show ns.all dj'=(ns.map dj').all id by rw[List.all_map];rfl] at kk
  ·obtain⟨n,hn,rfl⟩:=aE_ hy;have ln:=sh n (ae' hn);refine⟨_,rfl,rfl,λNx hN=>yesT ?_⟩;refine⟨_,rfl,n,rfl,by omega,λH2 s2=>⟨out,s2 _ _ hd,?_,hN _ _ ⟨au_ (sm.trans s2) hD,a1_,?_⟩⟩⟩
   ·rw[eo,aa',aa',af'];omega
   ·rw[eo,dI_ hn,ag',ag'];rfl
theorem scWaysIn:a6' ["word"] ["word"] (a5' eo'):=f__
def cS':Sp:=λvs H Q _=>∃x:Str,vs=[.str x]/\x.length<=50000/\∀v H',Same H H'->WyV H' v x->(∀a,v=.ref a->H a=none)->Q v H'
theorem i3_(F:Fun K "ways_in" "ways_in" eo' f fd)(B:Bi mg):FnOk P w K mg base CX0 1 f fd ["word"] cS':=by
 refine F.ok scWaysIn (λvs H Q E h=>?_) (λcdv A outer s H vs Q E hr h=>?_)
 ·obtain⟨x,rfl,_⟩:=h;rfl
 ·obtain⟨x,rfl,hz,k⟩:=h;have sz:=a_9;refine' ⟨_,a3_ ?s1 (a3_ ?s2 (a5_ ?s3)),?kk⟩
  case s1=>exact ak_ (ah_ b6_ (pv 0) a7_ (nomark _)) (a5_ (af_ dC_)) aa_
  case s2=>exact ak_ (ah_ b6_ (pv 0) a7_ (nomark _)) (a5_ (af_ (as_ a2_))) aa_
  case' s3=>refine' af_ (aS_ ["tie"] 1 [] (am_ ?sp) (λfp s H=>ac_ (i:=0) (show (["tie"]:List Str).Nodup by decide +kernel) rfl (Or.inl rfl)) (λfp s H=>aW_) (λfp s H=>?el))
  case sp=>exact bi_ b_2 b_9 d_3 bk_ (pv 0) (a0_ a7_ a2_)
  case el=>exact aA_ (cTupOf (K:=K)) (by rfl) B.tuple PyProof.Rows.Boot.«tuple» (a0_ (jM_ (K:=K) b_2 b_9 d_3 bk_ (pv 0) (a0_ a7_ a2_)) a2_)
  case' kk=>skip
  refine⟨_,rfl,rfl,_,rfl,?_⟩;rw[aY_];refine ite2 (λc=>?_) (λc=>?_)
  ·exact k _ H (Same.refl H) (.inl ⟨by simpa using c,rfl⟩) (λa z=>by cases z)
  have n1:x≠"free":=by simpa using c
  refine⟨_,rfl,rfl,_,rfl,?_⟩;rw[aY_];refine ite2 (λc=>?_) (λc=>?_)
  ·exact⟨by show 0<=sizeLine;decide,λl nl=>k _ _ (Same.new nl) (.inr (.inl ⟨n1,by simpa using c,l,rfl,a1_⟩)) (λa z=>by cases z;exact nl)⟩
  have n2:x≠"fixed":=by simpa using c
  refine⟨_,rfl,rfl,x,",",44,rfl,rfl,rfl,by omega,λl nl=>?_⟩;have kx:∀v H',Same H H'->(∃l ys,v=.ref l/\H' l=some (.lst ys)/\Paired (λy p=>∃a,y=.ref a/\H' a=some (.tup ((Txt.split p "-").map V.str))) ys (Txt.split x ","))->(∀a,v=.ref a->H a=none)->Q v H':=λv H' sm h=>k v H' sm (.inr (.inr ⟨n1,n2,h⟩));have sh:∀r∈Txt.split x ",",r.length<=x.length:=λr h=>b_8 h;have sl:=PyProof.Rows.split_le x ",";generalize Txt.split x ","=ns at kx sh sl ⊢;obtain⟨s1,k1⟩:=nw__ (o:=.lst (ns.map V.str)) nl;generalize upd H l (.lst (ns.map V.str))=H1 at s1 k1 ⊢;refine⟨l,rfl,⟨_,.of k1⟩,λD hD=>?_⟩;refine aq_ (own:=1) (fv:=[]) (xs:=ns.map V.str) rfl gok1 (λi out H'=>Same H1 H'/\H' D=some (.lst out)/\Paired (λy p=>∃a,y=.ref a/\H' a=some (.tup ((Txt.split p "-").map V.str))) out (ns.take i)) ⟨Same.new hD,a1_,.nil⟩ (λi out H' _ ⟨sm,_,_⟩=>.of (sm _ _ k1)) (λout H' ⟨sm,hd,eo⟩=>?_) (λi y out H' hy ⟨sm,hd,eo⟩=>?_)
  ·rw[aa',ao'] at eo;exact kx _ _ (s1.trans sm) ⟨D,out,rfl,hd,eo⟩ (λa z=>by cases z;exact s1.free hD)
  ·obtain⟨n,hn,rfl⟩:=aE_ hy;have ln:=sh n (ae' hn);refine⟨_,rfl,rfl,λNx hN=>yesT ?_⟩;refine⟨_,rfl,rfl,n,"-",45,rfl,rfl,rfl,by omega,λl2 nl2=>?_⟩;obtain⟨s2,k2⟩:=nw__ (o:=.lst ((Txt.split n "-").map V.str)) nl2;generalize upd H' l2 (.lst ((Txt.split n "-").map V.str))=H2 at s2 k2 ⊢;refine⟨l2,_,rfl,.inl ⟨.of k2,λt nt=>?_⟩⟩;obtain⟨s3,k3⟩:=nw__ (o:=.tup ((Txt.split n "-").map V.str)) nt;generalize upd H2 t (.tup ((Txt.split n "-").map V.str))=H3 at s3 k3 ⊢;have s23:=s2.trans s3;have hD3:=s23 _ _ hd;have lo:=a_3 eo;rw[af'] at lo;refine⟨out,hD3,by omega,hN _ _ ⟨au_ (sm.trans s23) hD,a1_,?_⟩⟩
   have ne:∀{a:Addr} {ys:List V},H3 a=some (.tup ys)->a≠D:=λh z=>by
    rw[z,hD3] at h;cases h
   rw[dI_ hn];exact aT_ (Paired.mapP eo λy p ⟨a,z,ha⟩=>⟨a,z,by rw[a8_ (ne (s23 _ _ ha))];exact s23 _ _ ha⟩) (.cons ⟨t,rfl,by rw[a8_ (ne k3)];exact k3⟩ .nil)
def rowB(ws:List Str):Bool:=
 if ws.getD 0 ""="hand" then decide (ws.length=3)&&figB (ws.getD 2 "")
 else if ws.getD 0 ""="tie" then decide (ws.length=3)
 else if ws.getD 0 ""="piece" then decide (ws.length=5)&&(figB (ws.getD 2 "")&&c1' (ws.getD 4 ""))
 else false
variable{ws:List Str}{i:Nat}
theorem atS(h:i<ws.length):atI (ws.map V.str) (i:Int)=some (.str (ws.getD i "")):=by
 refine L2.bK' ?_;rw[az',ad' h];simp[List.getD,ad' h]
theorem ia_(n m:Nat):decide (V.int (n:Int)=V.int (m:Int))=decide (n=m):=by
 by_cases z:n=m
 ·simp[z]
 ·have:¬(V.int (n:Int)=V.int (m:Int)):=λe=>z (by have:=V.int.inj e;omega);simp[z,this]
theorem d9_(h:i<ws.length):ws.getD i ""∈ws:=by
 simp[List.getD,ad' h]
theorem len3(n:Nat):decide (V.int (n:Int)=V.int 3)=decide (n=3):=ia_ n 3
theorem len5(n:Nat):decide (V.int (n:Int)=V.int 5)=decide (n=5):=ia_ n 5
theorem scIsRow:a6' ["words"] ["words"] (a5' sIsRow):=f__
def dV'(K:F__):Sp:=λvs H Q _=>∃(l:Addr) (ws:List Str),vs=[.ref l]/\H l=some (.lst (ws.map V.str))/\ws≠[]/\(∀x∈ws,x.length<=50000)/\∀H',Same H H'->Q (.bl (rowB ws)) H'
theorem iN_(F:Fun K "is_row_of_goods" "is_row_of_goods" sIsRow f fd)(B:Bi mg)(cF:Cal P w K mg base 1 "is_figures" ["word"] spFigs)(cW:Cal P w K mg base 3 "is_ways_word" ["word"] cz'):FnOk P w K mg base CX0 4 f fd ["words"] (dV' K):=by
 refine F.ok scIsRow (λvs H Q E h=>?_) (λcdv A outer s H vs Q E hr h=>?_)
 ·obtain⟨l,ws,rfl,_⟩:=h;rfl
 ·obtain⟨l,ws,rfl,hl,ne,lens,k⟩:=h;have sz:=a_9;have hr1:Room 1 _:=hr.mono (by decide);refine' ⟨_,a3_ ?s1 (a3_ ?s2 (a3_ ?s3 (a5_ ?s4))),?kk⟩
  case s1=>exact ak_ (ah_ b6_ (ag_ ad_ (pv 0) a4_ (λ_ _=>rfl)) a7_ (nomark _)) (a5_ (af_ (bh_ (b7_ b6_ (a6_ ai_ (by rfl) B.len b_3 (a0_ (pv 0) a2_)) a4_ (nomark _)) (bs_ (al_ cF hr1 (a0_ (ag_ ad_ (pv 0) a4_ (λ_ _=>rfl)) a2_)))))) aa_
  case s2=>exact ak_ (ah_ b6_ (ag_ ad_ (pv 0) a4_ (λ_ _=>rfl)) a7_ (nomark _)) (a5_ (af_ (b7_ b6_ (a6_ ai_ (by rfl) B.len b_3 (a0_ (pv 0) a2_)) a4_ (nomark _)))) aa_
  case s3=>exact ak_ (ah_ b6_ (ag_ ad_ (pv 0) a4_ (λ_ _=>rfl)) a7_ (nomark _)) (a5_ (af_ (bh_ (b7_ b6_ (a6_ ai_ (by rfl) B.len b_3 (a0_ (pv 0) a2_)) a4_ (nomark _)) (bh_ (al_ cF hr1 (a0_ (ag_ ad_ (pv 0) a4_ (λ_ _=>rfl)) a2_)) (bs_ (al_ cW hr (a0_ (ag_ ad_ (pv 0) a4_ (λ_ _=>rfl)) a2_))))))) aa_
  case s4=>exact af_ cr_
  case' kk=>skip
  have h0:0<ws.length:=List.length_pos_iff.mpr ne;have at0:=atS (i:=0) h0;have ll:(ws.map V.str).length=ws.length:=aa' ..;unfold rowB at k;refine⟨_,rfl,l,_,_,_,rfl,rfl,.of hl,at0,rfl,_,rfl,?_⟩;rw[aY_];refine ite2 (λc=>?_) (λc=>?_)
  ·rw[b__ (by simpa using c)] at k;refine⟨_,rfl,l,_,rfl,.inl (.of hl),rfl,_,rfl,?_⟩;rw[ll,len3];refine ite2 (λc2=>?_) (λc2=>?_)
   ·rw[c2,aT'] at k;have c3:ws.length=3:=by simpa using c2
    exact⟨_,rfl,l,_,_,_,rfl,rfl,.of hl,atS (i:=2) Z1,_,rfl,by have:=lens _ (d9_ (i:=2) (ws:=ws) Z1);omega,k⟩
   ·rw[show decide (ws.length=3)=false by simpa using c2,a1'] at k;exact k H (Same.refl H)
  rw[a_5 (by simpa using c)] at k;refine⟨_,rfl,l,_,_,_,rfl,rfl,.of hl,at0,rfl,_,rfl,?_⟩;rw[aY_];refine ite2 (λc=>?_) (λc=>?_)
  ·rw[b__ (by simpa using c)] at k;refine⟨_,rfl,l,_,rfl,.inl (.of hl),rfl,?_⟩;rw[ll,len3];exact k H (Same.refl H)
  rw[a_5 (by simpa using c)] at k;refine⟨_,rfl,l,_,_,_,rfl,rfl,.of hl,at0,rfl,_,rfl,?_⟩;rw[aY_];refine ite2 (λc=>?_) (λc=>?_)
  ·rw[b__ (by simpa using c)] at k;refine⟨_,rfl,l,_,rfl,.inl (.of hl),rfl,_,rfl,?_⟩;rw[ll,len5];refine ite2 (λc2=>?_) (λc2=>?_)
   ·rw[c2,aT'] at k;have c3:ws.length=5:=by simpa using c2
    refine⟨_,rfl,l,_,_,_,rfl,rfl,.of hl,atS (i:=2) Z1,_,rfl,by have:=lens _ (d9_ (i:=2) (ws:=ws) Z1);omega,λH1 s1=>⟨_,rfl,?_⟩⟩;refine ite2 (λc4=>?_) (λc4=>?_)
    ·rw[c4,aT'] at k;exact⟨_,rfl,l,_,_,_,rfl,rfl,.of (s1 _ _ hl),atS (i:=4) Z1,_,rfl,lens _ (d9_ (i:=4) (ws:=ws) Z1),λH2 s2=>k H2 (s1.trans s2)⟩
    ·rw[show figB (ws.getD 2 "")=false by simpa using c4,a1'] at k;exact k H1 s1
   ·rw[show decide (ws.length=5)=false by simpa using c2,a1'] at k;exact k H (Same.refl H)
  ·rw[a_5 (by simpa using c)] at k;exact k H (Same.refl H)
end Ev
namespace L2
open PySem PySem.Spec PyProof.Rows
variable{X:Cx}{body:List Stmt}{tb:TS}{hd:ExceptHandler}{pos:Pos}
theorem fJ_(hb:PSs X.nox body tb):PS X (.Try body [hd] [] [] pos) tb:=by
 intro pins s σ H R I h;refine wpAny_Try_except (c_6 (hb pins s σ H R (I.wish _) h) (λf s1 q=>?_) λe s1 z=>False.elim z);have q:=q.unwish;cases f with
 |next=>exact wpAny_execs_nil q
 |ret v=>exact q
 |brk=>exact q
 |cont=>exact q
end L2
namespace Ev
open PySem L2
def RwAt(H:Hp)(ys:List V)(wss:List (List Str)):Prop:=Paired (λy (ws:List Str)=>∃a,y=.ref a/\H a=some (.lst (ws.map V.str))) ys wss
variable{H:Hp}{ys:List V}{wss:List (List Str)}
theorem RwAt.same{H':Hp}(h:RwAt H ys wss)(s:Same H H'):RwAt H' ys wss:=Paired.mapP h λy ws ⟨a,e,q⟩=>⟨a,e,s _ _ q⟩
def isW(k:Str)(ws:List Str):Bool:=decide (ws.getD 0 ""=k)
def handW(ws:List Str):Str × Int:=(ws.getD 1 "",(PySem.intText? (ws.getD 2 "")).getD 0)
def tieW(ws:List Str):Str × Str:=(ws.getD 1 "",ws.getD 2 "")
def be'(wss:List (List Str)):Xa:=(wss.filter (isW "hand")).map handW
def bm'(wss:List (List Str)):Xb:=(wss.filter (isW "tie")).map tieW
structure WsOk (ws:List Str):Prop where
 ne:0<ws.length
 h3:isW "hand" ws=true->3<=ws.length/\(ws.getD 2 "").length<=640/\∃n,PySem.intText? (ws.getD 2 "")=some n
 t3:isW "tie" ws=true->3<=ws.length
variable{i:Nat}
theorem dS_(h:RwAt H ys wss){y:V}(e:ys[i]? = some y):∃ws a,wss[i]? = some ws/\y=.ref a/\H a=some (.lst (ws.map V.str)):=by
 have le:=a_3 h;have hi:=(ac'.mp e).1;have w:=aC_ h i hi Z1;have ey:ys[i]=y:=(ac'.mp e).2;rw[ey] at w;obtain⟨a,z,q⟩:=w;exact⟨_,a,ad' Z1,z,q⟩
theorem ap_{α:Type}{xs:List α}{x:α}(h:xs[i]? = some x):xs.take (i+1)=xs.take i++[x]:=by
 rw[aI',h];rfl
theorem ca_(a:List (List Str))(ws:List Str):be' (a++[ws])=be' a++if isW "hand" ws=true then [handW ws] else []:=by
 unfold be';rw[aE',ag'];by_cases c:isW "hand" ws=true
 ·rw[b__ c,List.filter_cons_of_pos c];rfl
 ·rw[a_5 c,List.filter_cons_of_neg c];rfl
theorem cE_(a:List (List Str))(ws:List Str):bm' (a++[ws])=bm' a++if isW "tie" ws=true then [tieW ws] else []:=by
 unfold bm';rw[aE',ag'];by_cases c:isW "tie" ws=true
 ·rw[b__ c,List.filter_cons_of_pos c];rfl
 ·rw[a_5 c,List.filter_cons_of_neg c];rfl
theorem fi_(a:List (List Str)):(be' a).length<=a.length:=by
 unfold be';rw[aa'];exact aW' ..
theorem ei_(a:List (List Str)):(bm' a).length<=a.length:=by
 unfold bm';rw[aa'];exact aW' ..
theorem ce':a6' ["rows","hands","ties","error"] ["rows"] (a5' eM'):=f__
def dF'(K:F__)(C:Addr):Sp:=λvs H Q _=>∃(l:Addr) (ys:List V) (wss:List (List Str)),vs=[.ref l]/\H l=some (.lst ys)/\RwAt H ys wss/\wss.length<=1000/\(∀ws∈wss,WsOk ws)/\Good (be' wss) (bm' wss) /\
 ∀p fp H',Same H H'->H p=none->bw' K C H' p (be' wss) (bm' wss) fp->(∀b∈fp,H b=none)->Q (.ref p) H'
variable{f:Addr}{fd:Ae}{P:Ad}{w:Af}{K:F__}{mg:Str->Option Aa}{base:Heap}
theorem iJ_{C:Addr}(F:Fun K "web_in" "web_in" eM' f fd)(B:Bi mg)(cW:CalC P w K mg base C 5 "Web" ["self","hands","ties"] (eF' K C)):FnOk P w K mg base CX0 7 f fd ["rows"] (dF' K C):=by
 refine F.ok ce' (λvs H Q E h=>?_) (λcdv A outer s H vs Q E hr h=>?_)
 ·obtain⟨l,ys,wss,rfl,_⟩:=h;rfl
 ·obtain⟨l,ys,wss,rfl,hl,rw0,l1000,ok,G,k⟩:=h;have sz:=a_9;refine' ⟨_,a3_ ?s1 (a3_ ?s2 (a5_ ?s3)),?kk⟩
  case' s1=>refine' bP_ (i:=1) ["words"] 1 [] ce'.nd rfl (Or.inl rfl) (am_ (pv 0)) (λfp s H=>ac_ (i:=0) (show (["words"]:List Str).Nodup by decide +kernel) rfl (Or.inl rfl)) (λfp s H=>?t1) (λfp s H=>?e1)
  case t1=>exact bw_ (ah_ b6_ (ag_ (ixK (K:=K) rIxL ad_) (pv 0) a4_ (λ_ _=>rfl)) a7_ (nomark _))
  case e1=>exact b0_ (a0_ (ag_ (ixK (K:=K) rIxL ad_) (pv 0) a4_ (λ_ _=>rfl)) (a0_ (aA_ ba_ (by rfl) B.int PyProof.Rows.Boot.«int» (a0_ (ag_ (ixK (K:=K) rIxL ad_) (pv 0) a4_ (λ_ _=>rfl)) a2_)) a2_))
  case' s2=>refine' bP_ (i:=2) ["words"] 1 [] ce'.nd rfl (Or.inl rfl) (am_ (pv 0)) (λfp s H=>ac_ (i:=0) (show (["words"]:List Str).Nodup by decide +kernel) rfl (Or.inl rfl)) (λfp s H=>?t2) (λfp s H=>?e2)
  case t2=>exact bw_ (ah_ b6_ (ag_ (ixK (K:=K) rIxL ad_) (pv 0) a4_ (λ_ _=>rfl)) a7_ (nomark _))
  case e2=>exact b0_ (a0_ (ag_ (ixK (K:=K) rIxL ad_) (pv 0) a4_ (λ_ _=>rfl)) (a0_ (ag_ (ixK (K:=K) rIxL ad_) (pv 0) a4_ (λ_ _=>rfl)) a2_))
  case s3=>exact fJ_ (a5_ (af_ (l7_ cW hr (a0_ (pv 1) (a0_ (pv 2) a2_)))))
  case' kk=>skip
  refine⟨_,rfl,l,rfl,⟨_,.of hl⟩,λD hD=>?_⟩;refine aq_ (own:=1) (fv:=[]) (xs:=ys) rfl gok1 (λi out H'=>Same H H'/\H' D=some (.lst out)/\a8' K H' out ((be' (wss.take i)).map kH)) ⟨Same.new hD,a1_,.nil⟩ (λi out H' _ ⟨sm,_,_⟩=>.of (sm _ _ hl)) (λout H1 ⟨s1,hD1,tu1⟩=>?_) (λi y out H' hy ⟨sm,hd,tz⟩=>?_);rotate_left
  ·obtain⟨ws,a,hw,rfl,ha⟩:=dS_ rw0 hy;have o:=ok ws (ae' hw);refine⟨_,rfl,rfl,λNx hN=>?_⟩;refine⟨_,rfl,a,_,_,_,rfl,rfl,.of (sm _ _ ha),atS (i:=0) o.ne,rfl,_,rfl,?_⟩;rw[aY_];refine ite2 (λc=>?_) (λc=>?_)
   ·obtain⟨l3,l640,n,en⟩:=o.h3 c;refine⟨_,rfl,a,_,_,_,rfl,rfl,.of (sm _ _ ha),atS (i:=1) Z1,_,rfl,a,_,_,_,rfl,rfl,.of (sm _ _ ha),atS (i:=2) Z1,_,n,rfl,l640,en,by show 2<=sizeLine;decide,λt nt=>?_⟩;have s5:=Same.new (o:=.tup [.str (ws.getD 1 ""),.int n]) nt
    have e5:upd H' t (.tup [.str (ws.getD 1 ""),.int n]) t=some (.tup ((kH (handW ws)).map kV)):=by
     rw[a1_];show _=some (HO.tup [.str (ws.getD 1 ""),.int ((PySem.intText? (ws.getD 2 "")).getD 0)]);rw[en];rfl
    generalize upd H' t (.tup [.str (ws.getD 1 ""),.int n])=H5 at s5 e5 ⊢;have lo:=a_3 tz;have:=fi_ (wss.take i);rw[aa'] at lo;rw[af'] at this;refine⟨out,s5 _ _ hd,by omega,hN (out++[.ref t]) _ ⟨au_ (sm.trans s5) hD,a1_,?_⟩⟩;rw[ap_ hw,ca_,b__ (show isW "hand" ws=true from c),ag'];exact b1_ (b4_ (tz.same s5) e5) (s5 _ _ hd)
   ·refine hN out _ ⟨sm,hd,?_⟩;rw[ap_ hw,ca_,a_5 (show ¬isW "hand" ws=true from c),aD'];exact tz
  have le:=a_3 rw0;rw[le,ao'] at tu1;refine setG ?_;dsimp only;refine⟨_,rfl,l,rfl,⟨_,.of (s1 _ _ hl)⟩,λD2 hD2=>?_⟩;refine aq_ (own:=1) (fv:=[]) (xs:=ys) rfl gok1 (λi out H'=>Same H1 H'/\H' D2=some (.lst out)/\a8' K H' out ((bm' (wss.take i)).map kT)) ⟨Same.new hD2,a1_,.nil⟩ (λi out H' _ ⟨sm,_,_⟩=>.of (sm _ _ (s1 _ _ hl))) (λout2 H2 ⟨s2,hD3,tu2⟩=>?_) (λi y out H' hy ⟨sm,hd,tz⟩=>?_);rotate_left
  ·obtain⟨ws,a,hw,rfl,ha⟩:=dS_ (rw0.same s1) hy;have o:=ok ws (ae' hw);refine⟨_,rfl,rfl,λNx hN=>?_⟩;refine⟨_,rfl,a,_,_,_,rfl,rfl,.of (sm _ _ ha),atS (i:=0) o.ne,rfl,_,rfl,?_⟩;rw[aY_];refine ite2 (λc=>?_) (λc=>?_)
   ·have l3:=o.t3 c;refine⟨_,rfl,a,_,_,_,rfl,rfl,.of (sm _ _ ha),atS (i:=1) Z1,_,rfl,a,_,_,_,rfl,rfl,.of (sm _ _ ha),atS (i:=2) Z1,by show 2<=sizeLine;decide,λt nt=>?_⟩;have s5:=Same.new (o:=.tup [.str (ws.getD 1 ""),.str (ws.getD 2 "")]) nt;have e5:upd H' t (.tup [.str (ws.getD 1 ""),.str (ws.getD 2 "")]) t=some (.tup ((kT (tieW ws)).map kV)):=a1_;generalize upd H' t (.tup [.str (ws.getD 1 ""),.str (ws.getD 2 "")])=H5 at s5 e5 ⊢;have lo:=a_3 tz;have:=ei_ (wss.take i);rw[aa'] at lo;rw[af'] at this;refine⟨out,s5 _ _ hd,by omega,hN (out++[.ref t]) _ ⟨au_ (sm.trans s5) hD2,a1_,?_⟩⟩;rw[ap_ hw,cE_,b__ (show isW "tie" ws=true from c),ag'];exact b1_ (b4_ (tz.same s5) e5) (s5 _ _ hd)
   ·refine hN out _ ⟨sm,hd,?_⟩;rw[ap_ hw,cE_,a_5 (show ¬isW "tie" ws=true from c),aD'];exact tz
  rw[le,ao'] at tu2;refine setG ?_;dsimp only;refine⟨_,rfl,_,rfl,λpw dx hpw hdx ne=>?_⟩;have sa:Same H2 (upd H2 dx (.own pw)):=Same.new hdx;have sb:Same (upd H2 dx (.own pw)) (upd (upd H2 dx (.own pw)) pw (.ins C dx [])):=Same.new (by rw[a8_ (λz=>ne z.symm)];exact hpw);have sx:=sa.trans sb;have hpx:upd (upd H2 dx (.own pw)) pw (.ins C dx []) pw=some (.ins C dx []):=a1_;generalize upd (upd H2 dx (.own pw)) pw (.ins C dx [])=Hx at sx hpx ⊢;have s12:=s1.trans s2;have s0x:=s12.trans sx;refine⟨pw,dx,D,D2,_,_,be' wss,bm' wss,rfl,hpx,(s2.trans sx) _ _ hD1,(tu1.same s2).same sx,sx _ _ hD3,tu2.same sx,G,λfp H6 keep WA fresh=>⟨rfl,?_⟩⟩;have np:H pw=none:=s12.free hpw
  exact k pw fp H6 (λb o e=>keep b o (s0x _ _ e) (a9_ e np)) np WA (λb hb=>by
   rcases fresh b hb with rfl|h
   ·exact np
   ·exact s0x.free h)
def pairW(p:Str):Str × Str:=((Txt.split p "-").getD 0 "",(Txt.split p "-").getD 1 "")
def d8'(x:Str):Option (Xb):=if x="free" then none else if x="fixed" then some [] else some ((Txt.split x ",").map pairW)
def dn'(ws:List Str):Pc:=(ws.getD 1 "",(PySem.intText? (ws.getD 2 "")).getD 0,d8' (ws.getD 4 ""))
def a7'(wss:List (List Str)):List Pc:=(wss.filter (isW "piece")).map dn'
structure WpOk (ws:List Str):Prop where
 l5:5<=ws.length
 i640:(ws.getD 2 "").length<=640
 int:∃n,PySem.intText? (ws.getD 2 "")=some n
 w4:(ws.getD 4 "").length<=50000
 two:ws.getD 4 ""≠"free"->ws.getD 4 ""≠"fixed"->∀p∈Txt.split (ws.getD 4 "") ",",(Txt.split p "-").length=2
theorem bN_(a:List (List Str))(ws:List Str):a7' (a++[ws])=a7' a++if isW "piece" ws=true then [dn' ws] else []:=by
 unfold a7';rw[aE',ag'];by_cases c:isW "piece" ws=true
 ·rw[b__ c,List.filter_cons_of_pos c];rfl
 ·rw[a_5 c,List.filter_cons_of_neg c];rfl
theorem c5_(a:List (List Str)):(a7' a).length<=a.length:=by
 unfold a7';rw[aa'];exact aW' ..
theorem lc_{l:List Str}(h:l.length=2):l=[l.getD 0 "",l.getD 1 ""]:=by
 match l,h with
 |[a,b],_=>rfl
variable{v:V}{x:Str}
theorem hU_(h:WyV H v x)(two:x≠"free"->x≠"fixed"->∀p∈Txt.split x ",",(Txt.split p "-").length=2):WyAt K H v (d8' x):=by
 unfold d8';rcases h with⟨e,rfl⟩|⟨n1,e,l,rfl,hl⟩|⟨n1,n2,l,ys,rfl,hl,pr⟩
 ·rw[b__ e];rfl
 ·rw[a_5 n1,b__ e];exact⟨l,[],rfl,hl,.nil⟩
 ·rw[a_5 n1,a_5 n2];refine⟨l,ys,rfl,hl,?_⟩;have tw:=two n1 n2;generalize Txt.split x ","=ns at pr tw;clear hl;show Paired _ ys ((ns.map pairW).map kT)
  induction pr with
  |nil=>exact .nil
  |@cons y p ys ns h t ih=>
   obtain⟨a,rfl,ha⟩:=h;refine .cons ⟨a,rfl,?_⟩ (ih λq hq=>tw q (aj' _ hq));rw[ha,lc_ (tw p ap')];rfl
variable{a:Addr}{o:HO}
theorem et_(h:H a=some o):upd H a o=H:=by
 funext b
 by_cases z:b=a
 ·rw[z,a1_,h]
 ·rw[a8_ z]
theorem dQ_{G:Hp}(s:Same H G):Same (upd H a o) (upd G a o):=λb u e=>by
 by_cases z:b=a
 ·rw[z,a1_] at e;rw[z,a1_];exact e
 ·rw[a8_ z] at e;rw[a8_ z];exact s _ _ e
theorem da_{G:Hp}{ps:List Pc}(h:dJ' K H ys ps)(s:Same H G):dJ' K G ys ps:=Paired.mapP h λy p ⟨t,v,e,q,w⟩=>⟨t,v,e,s _ _ q,w.same s⟩
variable{o:Option (Xb)}
theorem jK_{D:Addr}{u:HO}{xs:List V}(h:WyAt K H v o)(hD:H D=some (.lst xs))(ne:∀a,v=.ref a->a≠D):WyAt K (upd H D u) v o:=by
 cases o with
 |none=>exact h
 |some ws=>
  obtain⟨a,ys,e,ha,tu⟩:=h;refine⟨a,ys,e,by rw[a8_ (ne a e)];exact ha,Paired.mapP tu λy k ⟨b,z,q⟩=>⟨b,z,?_⟩⟩;rw[a8_ (λz=>by rw[z,hD] at q;cases q)];exact q
theorem bu':a6' ["rows","web","pieces","error"] ["rows"] (a5' cl'):=f__
def co'(K:F__)(CG CW:Addr):Sp:=λvs H Q _=>∃(l:Addr) (ys:List V) (wss:List (List Str)),vs=[.ref l]/\H l=some (.lst ys)/\RwAt H ys wss/\wss.length<=1000/\(∀ws∈wss,WsOk ws)/\(∀ws∈wss,isW "piece" ws=true->WpOk ws)/\Good (be' wss) (bm' wss)/\(∀q∈a7' wss,cP' (bm' wss) q)/\((a7' wss).map (·.1)).Nodup/\(a7' wss).length<64 /\
 ∀g p qs fp H',Same H H'->H g=none->bc' K CG CW H' g p (be' wss) (bm' wss) qs fp->Qs (a7' wss) qs->(∀b∈fp,H b=none)->Q (.ref g) H'
variable{CG CW:Addr}
theorem e7_(F:Fun K "goods_in" "goods_in" cl' f fd)(B:Bi mg)(cI:Cal P w K mg base 7 "web_in" ["rows"] (dF' K CW))(cY:Cal P w K mg base 1 "ways_in" ["word"] cS')(cG:CalC P w K mg base CG 7 "Goods" ["self","web","pieces"] (dM' K CG CW)):FnOk P w K mg base CX0 9 f fd ["rows"] (co' K CG CW):=by
 refine F.ok bu' (λvs H Q E h=>?_) (λcdv A outer s H vs Q E hr h=>?_)
 ·obtain⟨l,ys,wss,rfl,_⟩:=h;rfl
 ·obtain⟨l,ys,wss,rfl,hl,rw0,l1000,ok,okp,G,gp,nd,h64,k⟩:=h;have sz:=a_9;have hr1:Room 1 _:=hr.mono (by decide);have hr7:Room 7 _:=hr.mono (by decide);refine' ⟨_,a3_ ?s1 (a3_ ?s2 (a5_ ?s3)),?kk⟩
  case s1=>exact ae_ (i:=1) bu'.nd rfl (Or.inl rfl) (al_ cI hr7 (a0_ (pv 0) a2_))
  case' s2=>refine' bP_ (i:=2) ["words"] 1 [] bu'.nd rfl (Or.inl rfl) (am_ (pv 0)) (λfp s H=>ac_ (i:=0) (show (["words"]:List Str).Nodup by decide +kernel) rfl (Or.inl rfl)) (λfp s H=>?t1) (λfp s H=>?e1)
  case t1=>exact bw_ (ah_ b6_ (ag_ (ixK (K:=K) rIxL ad_) (pv 0) a4_ (λ_ _=>rfl)) a7_ (nomark _))
  case e1=>exact b0_ (a0_ (ag_ (ixK (K:=K) rIxL ad_) (pv 0) a4_ (λ_ _=>rfl)) (a0_ (aA_ ba_ (by rfl) B.int PyProof.Rows.Boot.«int» (a0_ (ag_ (ixK (K:=K) rIxL ad_) (pv 0) a4_ (λ_ _=>rfl)) a2_)) (a0_ (al_ cY hr1 (a0_ (ag_ (ixK (K:=K) rIxL ad_) (pv 0) a4_ (λ_ _=>rfl)) a2_)) a2_)))
  case s3=>exact fJ_ (a5_ (af_ (l7_ cG hr (a0_ (pv 1) (a0_ (pv 2) a2_)))))
  case' kk=>skip
  refine⟨_,rfl,l,ys,wss,rfl,hl,rw0,l1000,ok,G,λp fpw H0 s0 np W0 fr0=>?_⟩;refine setG ?_;dsimp only;refine⟨_,rfl,l,rfl,⟨_,.of (s0 _ _ hl)⟩,λD hD=>?_⟩;refine aq_ (own:=1) (fv:=[]) (xs:=ys) rfl gok1 (λi out H'=>Same H0 H'/\H' D=some (.lst out)/\∀u,dJ' K (upd H' D u) out (a7' (wss.take i))) ⟨Same.new hD,a1_,λu=>.nil⟩ (λi out H' _ ⟨sm,_,_⟩=>.of (sm _ _ (s0 _ _ hl))) (λout H1 ⟨s1,hD1,tu1⟩=>?_) (λi y out H' hy ⟨sm,hd,tz⟩=>?_);rotate_left
  ·obtain⟨ws,a,hw,rfl,ha⟩:=dS_ (rw0.same s0) hy;have o:=ok ws (ae' hw);refine⟨_,rfl,rfl,λNx hN=>?_⟩;refine⟨_,rfl,a,_,_,_,rfl,rfl,.of (sm _ _ ha),atS (i:=0) o.ne,rfl,_,rfl,?_⟩;rw[aY_];refine ite2 (λc=>?_) (λc=>?_)
   ·have op:=okp ws (ae' hw) c;obtain⟨n,en⟩:=op.int;have l5:=op.l5;refine⟨_,rfl,a,_,_,_,rfl,rfl,.of (sm _ _ ha),atS (i:=1) Z1,_,rfl,a,_,_,_,rfl,rfl,.of (sm _ _ ha),atS (i:=2) Z1,_,n,rfl,op.i640,en,_,rfl,a,_,_,_,rfl,rfl,.of (sm _ _ ha),atS (i:=4) Z1,_,rfl,op.w4,λv H2 s2 wy fr=>?_⟩;have wa:=hU_ (K:=K) wy op.two;refine⟨by show 3<=sizeLine;decide,λt nt=>?_⟩;have s5:=Same.new (o:=.tup [.str (ws.getD 1 ""),.int n,v]) nt
    have e5:upd H2 t (.tup [.str (ws.getD 1 ""),.int n,v]) t=some (.tup [.str (dn' ws).1,.int (dn' ws).2.1,v]):=by
     rw[a1_];show _=some (HO.tup [.str (ws.getD 1 ""),.int ((PySem.intText? (ws.getD 2 "")).getD 0),v]);rw[en];rfl
    generalize upd H2 t (.tup [.str (ws.getD 1 ""),.int n,v])=H5 at s5 e5 ⊢;have s25:=s2.trans s5;have lo:=a_3 (tz (.lst []));have:=c5_ (wss.take i);rw[af'] at this;have hD5:=s25 _ _ hd;refine⟨out,hD5,by omega,hN (out++[.ref t]) _ ⟨au_ (sm.trans s25) hD,a1_,λu=>?_⟩⟩;rw[ap_ hw,bN_,b__ (show isW "piece" ws=true from c),bZ_];refine aT_ (da_ (tz u) (dQ_ s25)) (.cons ⟨t,v,rfl,?_,jK_ (wa.same s5) hD5 λa z e=>?_⟩ .nil)
    ·rw[a8_ (λz=>by rw[z,hD5] at e5;cases e5)];exact e5
    ·have:=fr a z;rw[e,hd] at this;cases this
   ·refine hN out _ ⟨sm,hd,?_⟩;rw[ap_ hw,bN_,a_5 (show ¬isW "piece" ws=true from c),aD'];exact tz
  have le:=a_3 rw0;rw[le,ao'] at tu1;refine setG ?_;dsimp only;have pcs:=tu1 (.lst out);rw[et_ hD1] at pcs;refine⟨_,rfl,_,rfl,λg dg hg hdg neg=>?_⟩;have ga:Same H1 (upd H1 dg (.own g)):=Same.new hdg;have gb:Same (upd H1 dg (.own g)) (upd (upd H1 dg (.own g)) g (.ins CG dg [])):=Same.new (by rw[a8_ (λz=>neg z.symm)];exact hg);have gx:=ga.trans gb;have hgx:upd (upd H1 dg (.own g)) g (.ins CG dg []) g=some (.ins CG dg []):=a1_;generalize upd (upd H1 dg (.own g)) g (.ins CG dg [])=Hx at gx hgx ⊢;have s01:=s0.trans s1;have sx:=s01.trans gx;have ng:H g=none:=s01.free hg
  have gfp:g∉fpw:=λm=>by
   obtain⟨o,e⟩:=bw'.has W0 m;rw[s1.free hg] at e;cases e
  refine⟨g,dg,p,D,out,a7' wss,be' wss,bm' wss,fpw,rfl,hgx,(W0.same s1).same gx,gfp,G,gx _ _ hD1,da_ pcs gx,gp,nd,h64,λqs fp' H7 keep7 GA Q7 fr7=>⟨rfl,?_⟩⟩;refine k g p qs fp' H7 (λb o e=>keep7 b o (sx _ _ e) (a9_ e ng)) ng GA Q7 (λb hb=>?_);rcases fr7 b hb with rfl|h|h
  ·exact ng
  ·exact fr0 b h
  ·exact sx.free h
theorem ei':a6' ["goods","stand","error"] ["goods","stand"] (a5' eS'):=f__
theorem gr_(F:Fun K "text_again" "text_again" eS' f fd)(cT:Cal P w K mg base 4 "goods_text" ["goods","stand"] (bl' K CG CW)):FnOk P w K mg base CX0 5 f fd ["goods","stand"] (bl' K CG CW):=by
 refine F.ok ei' (λvs H Q E h=>?_) (λcdv A outer s H vs Q E hr h=>?_)
 ·obtain⟨g,p,d,hs,ts,qs,fp,ns,f,rfl,_⟩:=h;rfl
 ·obtain⟨g,p,d,hs,ts,qs,fp,ns,f,rfl,S,pq,k⟩:=h;refine' ⟨_,a5_ (fJ_ (a5_ (af_ (al_ cT hr (a0_ (pv 0) (a0_ (pv 1) a2_)))))),?kk⟩;exact⟨_,rfl,_,rfl,g,p,d,hs,ts,qs,fp,ns,f,rfl,S,pq,k⟩
theorem d3':a6' ["text"] ["text"] (a5' cR'):=f__
def rowsT(x:Str):List (List Str):=(Txt.split x "\n").map λr=>Txt.split r " "
def cu':Sp:=λvs H Q _=>∃x:Str,vs=[.str x]/\x.length<=50000/\∀l ys H',Same H H'->H l=none->H' l=some (.lst ys)->RwAt H' ys (rowsT x)->Q (.ref l) H'
theorem gG_(F:Fun K "words_of_rows" "words_of_rows" cR' f fd)(B:Bi mg):FnOk P w K mg base CX0 1 f fd ["text"] cu':=by
 refine F.ok d3' (λvs H Q E h=>?_) (λcdv A outer s H vs Q E hr h=>?_)
 ·obtain⟨x,rfl,_⟩:=h;rfl
 ·obtain⟨x,rfl,hz,k⟩:=h;have sz:=a_9;refine' ⟨_,a3_ ?s1 (a5_ ?s2),?kk⟩
  case s1=>exact ak_ (ax_ (az_ (a6_ aH_ (by rfl) B.isi PyProof.Rows.Boot.«isinstance» (a0_ (pv 0) (a0_ (aV_ (v:=.ty "str") (by rfl) B.str PyProof.Rows.Boot.«str» rfl) a2_))))) ab_ aa_
  case' s2=>refine' af_ (aS_ ["row"] 1 [] (am_ ?sp) (λfp s H=>ac_ (i:=0) (show (["row"]:List Str).Nodup by decide +kernel) rfl (Or.inl rfl)) (λfp s H=>aW_) (λfp s H=>?el))
  case sp=>exact bi_ b_2 b_9 d_3 bk_ (pv 0) (a0_ a7_ a2_)
  case el=>exact jM_ (K:=K) b_2 b_9 d_3 bk_ (pv 0) (a0_ a7_ a2_)
  case' kk=>skip
  refine⟨_,rfl,_,_,_,_,rfl,.str x,rfl,_,rfl,iteF ?_⟩;refine⟨_,rfl,rfl,x,"\n",10,rfl,rfl,rfl,by omega,λl nl=>?_⟩;have sh:∀r∈Txt.split x "\n",r.length<=x.length:=λr h=>b_8 h;have sl:=PyProof.Rows.split_le x "\n";unfold rowsT at k;generalize Txt.split x "\n"=ns at k sh sl ⊢;obtain⟨s1,k1⟩:=nw__ (o:=.lst (ns.map V.str)) nl;generalize upd H l (.lst (ns.map V.str))=H1 at s1 k1 ⊢;refine⟨l,rfl,⟨_,.of k1⟩,λD hD=>?_⟩;refine aq_ (own:=1) (fv:=[]) (xs:=ns.map V.str) rfl gok1 (λi out H'=>Same H1 H'/\H' D=some (.lst out)/\∀u,RwAt (upd H' D u) out ((ns.take i).map λr=>Txt.split r " ")) ⟨Same.new hD,a1_,λu=>.nil⟩ (λi out H' _ ⟨sm,_,_⟩=>.of (sm _ _ k1)) (λout H' ⟨sm,hd,eo⟩=>?_) (λi y out H' hy ⟨sm,hd,eo⟩=>?_)
  ·have e:=eo (.lst out);rw[aa',ao',et_ hd] at e;exact k D out H' (s1.trans sm) (s1.free hD) hd e
  ·obtain⟨n,hn,rfl⟩:=aE_ hy;have ln:=sh n (ae' hn);refine⟨_,rfl,rfl,λNx hN=>yesT ?_⟩;refine⟨_,rfl,rfl,n," ",32,rfl,rfl,rfl,by omega,λl2 nl2=>?_⟩;obtain⟨s2,k2⟩:=nw__ (o:=.lst ((Txt.split n " ").map V.str)) nl2;have ne:l2≠D:=(a9_ hd nl2).symm;generalize upd H' l2 (.lst ((Txt.split n " ").map V.str))=H2 at s2 k2 ⊢;have lo:=a_3 (eo (.lst []));rw[aa',af'] at lo;refine⟨out,s2 _ _ hd,by omega,hN _ _ ⟨au_ (sm.trans s2) hD,a1_,λu=>?_⟩⟩;rw[bZ_,ap_ hn,ag'];exact aT_ ((eo u).same (dQ_ s2)) (.cons ⟨l2,rfl,by rw[a8_ ne];exact k2⟩ .nil)
variable{hs:Xa}{ts:Xb}{qs:List Pc}
theorem bc'.slim2{g p:Addr}{fp:List Addr}(G:bc' K CG CW H g p hs ts qs fp):∃fp',bc' K CG CW H g p hs ts qs fp'/\∀b∈fp',(∃o,H b=some o)/\b∈fp:=by
 obtain⟨dx,dw,dy,vs,fpw,h1,h2,h3,h4,h5,m1,m2,m3,m4,m5⟩:=G.ex;refine⟨g::dw::dy::(fpw++vs.filterMap λv=>match v with | .ref a=>some a|_=>none),⟨dx,dw,dy,vs,fpw,h1,h2,h3,h4,h5,by simp,by simp,by simp,λb hb=>by simp[hb],λv hv a z=>?_⟩,λb hb=>?_⟩
 ·have:a∈vs.filterMap λv=>match v with | .ref a=>some a|_=>none:=aA'.mpr ⟨v,hv,by rw[z]⟩;simp only[ah',aq'];exact .inr (.inr (.inr (.inr this)))
 ·simp only[ah',aq'] at hb;rcases hb with rfl|rfl|rfl|hb|hb
  ·exact⟨⟨_,h1⟩,m1⟩
  ·exact⟨⟨_,h3⟩,m2⟩
  ·exact⟨⟨_,h4⟩,m3⟩
  ·exact⟨h2.has hb,m4 _ hb⟩
  ·obtain⟨v,hv,e⟩:=aA'.mp hb;obtain⟨i,hi,ev⟩:=aJ' hv;have le:=a_3 h5;have w:=aC_ h5 i hi Z1;rw[ev] at w;cases o:(qs[i]' Z1).2.2 with
   |none=>
    rw[o] at w;rw[show v=.non from w] at e;cases e
   |some ws=>
    rw[o] at w;obtain⟨a,ys,ea,ha,_⟩:=w;rw[ea] at e;cases e;exact⟨⟨_,ha⟩,m5 v hv _ ea⟩
def cw'(wss:List (List Str)):Xb:=(wss.filter (isW "piece")).map λws=>(ws.getD 1 "",ws.getD 3 "")
theorem cc_(a:List (List Str))(ws:List Str):cw' (a++[ws])=cw' a++if isW "piece" ws=true then [(ws.getD 1 "",ws.getD 3 "")] else []:=by
 unfold cw';rw[aE',ag'];by_cases c:isW "piece" ws=true
 ·rw[b__ c,List.filter_cons_of_pos c];rfl
 ·rw[a_5 c,List.filter_cons_of_neg c];rfl
theorem eQ_(a:List (List Str)):(cw' a).length<=a.length:=by
 unfold cw';rw[aa'];exact aW' ..
def kvS(p:Str × Str):Key × V:=(Sum.inr p.1,.str p.2)
structure TxOk (wss:List (List Str)) (f:Str->Str):Prop where
 l:wss.length<=1000
 row:∀ws∈wss,rowB ws=true
 wl:∀ws∈wss,∀x∈ws,x.length<=50000
 ok:∀ws∈wss,WsOk ws
 okp:∀ws∈wss,isW "piece" ws=true->WpOk ws
 G:Good (be' wss) (bm' wss)
 gp:∀q∈a7' wss,cP' (bm' wss) q
 nd:((a7' wss).map (·.1)).Nodup
 h64:(a7' wss).length<64
 ff:∀ws∈wss,isW "piece" ws=true->f (ws.getD 1 "")=ws.getD 3 ""
 at_:∀n∈(a7' wss).map (·.1),f n∈(be' wss).map (·.1)
variable{f:Str->Str}
theorem gA_(h:∀ws∈wss,isW "piece" ws=true->f (ws.getD 1 "")=ws.getD 3 ""):(cw' wss).map kvS=stF ((a7' wss).map (·.1)) f:=by
 show _=((a7' wss).map (·.1)).map _;unfold cw' a7';rw[ak',ak',ak'];refine ax' λws hw=>?_;obtain⟨m,c⟩:=aU'.mp hw;show ((Sum.inr (ws.getD 1 ""):Key),V.str (ws.getD 3 ""))=(Sum.inr (ws.getD 1 ""),V.str (f (ws.getD 1 "")));rw[h ws m c]
theorem bg':a6' ["text","rows","goods","stand"] ["text"] (a5' bS'):=f__
def bW'(K:F__)(CG CW:Addr):Sp:=λvs H Q _=>∃(x:Str) (f:Str->Str),vs=[.str x]/\x.length<=50000/\TxOk (rowsT x) f/\(∀qs,Qs (a7' (rowsT x)) qs->∀q∈qs,PcT q)/\(∀qs,Qs (a7' (rowsT x)) qs->bZ' (be' (rowsT x)) (bm' (rowsT x)) qs f=x) /\
 ∀t g p d qs fp H',Same H H'->H t=none->H' t=some (.tup [.ref g,.ref d])->Std K CG CW H' g p d (be' (rowsT x)) (bm' (rowsT x)) qs fp ((a7' (rowsT x)).map (·.1)) f->Qs (a7' (rowsT x)) qs->H d=none->(∀b∈fp,H b=none)->Q (.ref t) H'
variable{f0:Addr}
theorem d3_(F:Fun K "read_goods" "read_goods" bS' f0 fd)(B:Bi mg)(cW:Cal P w K mg base 1 "words_of_rows" ["text"] cu')(cR:Cal P w K mg base 4 "is_row_of_goods" ["words"] (dV' K))(cI:Cal P w K mg base 9 "goods_in" ["rows"] (co' K CG CW))(cA:Cal P w K mg base 5 "text_again" ["goods","stand"] (bl' K CG CW)):FnOk P w K mg base CX0 10 f0 fd ["text"] (bW' K CG CW):=by
 refine F.ok bg' (λvs H Q E h=>?_) (λcdv A outer s H vs Q E hr h=>?_)
 ·obtain⟨x,f,rfl,_⟩:=h;rfl
 ·obtain⟨x,f,rfl,hz,T,pct,back,k⟩:=h;have sz:=a_9;have hr1:Room 1 _:=hr.mono (by decide);have hr4:Room 4 _:=hr.mono (by decide);have hr5:Room 5 _:=hr.mono (by decide);refine' ⟨_,?r0,?kk⟩
  case' r0=>refine' a3_ ?s1 ?r1
  case' r1=>refine' a3_ ?s2 ?r2
  case' r2=>refine' a3_ ?s3 ?r3
  case' r3=>refine' a3_ ?s4 (a3_ ?s5 (a5_ ?s6))
  case s1=>exact ae_ (i:=1) bg'.nd rfl (Or.inl rfl) (al_ cW hr1 (a0_ (pv 0) a2_))
  case' s2=>refine' ak_ (ax_ (az_ (a6_ (cC_ rfl) (by rfl) B.all PyProof.Rows.Boot.«all» (a0_ (aS_ ["words"] 1 [] (am_ (pv 1)) (λfp s H=>ac_ (i:=0) (show (["words"]:List Str).Nodup by decide +kernel) rfl (Or.inl rfl)) (λfp s H=>aW_) (λfp s H=>?e1)) a2_)))) ab_ aa_
  case e1=>exact al_ cR hr4 (a0_ (pv 0) a2_)
  case s3=>exact ae_ (i:=2) bg'.nd rfl (Or.inl rfl) (al_ cI hr (a0_ (pv 1) a2_))
  case' s4=>refine' ae_ (i:=3) bg'.nd rfl (Or.inl rfl) (aA_ (bd_ rfl) (by rfl) B.dict PyProof.Rows.Boot.«dict» (a0_ (aS_ ["words"] 1 [] (am_ (pv 1)) (λfp s H=>ac_ (i:=0) (show (["words"]:List Str).Nodup by decide +kernel) rfl (Or.inl rfl)) (λfp s H=>?t2) (λfp s H=>?e2)) a2_))
  case t2=>exact bw_ (ah_ b6_ (ag_ (ixK (K:=K) rIxL ad_) (pv 0) a4_ (λ_ _=>rfl)) a7_ (nomark _))
  case e2=>exact b0_ (a0_ (ag_ (ixK (K:=K) rIxL ad_) (pv 0) a4_ (λ_ _=>rfl)) (a0_ (ag_ (ixK (K:=K) rIxL ad_) (pv 0) a4_ (λ_ _=>rfl)) a2_))
  case s5=>exact ak_ (ah_ d6_ (al_ cA hr5 (a0_ (pv 2) (a0_ (pv 3) a2_))) (pv 0) (nomark _)) ab_ aa_
  case s6=>exact af_ (b0_ (a0_ (pv 2) (a0_ (pv 3) a2_)))
  case' kk=>skip
  refine⟨_,rfl,x,rfl,hz,λl ys H1 s1 nl hl rw1=>?_⟩;generalize rowsT x=wss at T pct back k rw1;refine setG ?_;dsimp only;have le:=a_3 rw1;have l1000:=T.l;refine⟨_,rfl,l,rfl,⟨_,.of hl⟩,λD hD=>?_⟩;refine aq_ (own:=1) (fv:=[]) (xs:=ys) rfl gok1 (λi out H'=>Same H1 H'/\H' D=some (.lst out)/\out=((wss.take i).map rowB).map V.bl) ⟨Same.new hD,a1_,rfl⟩ (λi out H' _ ⟨sm,_,_⟩=>.of (sm _ _ hl)) (λout H2 ⟨s2,hd2,eo⟩=>?_) (λi y out H' hy ⟨sm,hd,eo⟩=>?_);rotate_left
  ·obtain⟨ws,a,hw,rfl,ha⟩:=dS_ rw1 hy;have wm:=ae' hw;have ne:ws≠[]:=λz=>by have:=(T.ok ws wm).ne;rw[z] at this;simp at this
   refine⟨_,rfl,rfl,λNx hN=>yesT ?_⟩;refine⟨_,rfl,a,ws,rfl,sm _ _ ha,ne,T.wl ws wm,λH2 s2=>⟨out,s2 _ _ hd,?_,hN _ _ ⟨au_ (sm.trans s2) hD,a1_,?_⟩⟩⟩
   ·rw[eo,aa',aa',af'];omega
   ·rw[eo,ap_ hw,ag',ag'];rfl
  rw[le,ao'] at eo;rw[eo] at hd2;refine⟨D,wss.map rowB,rfl,.of hd2,_,rfl,?_⟩
  have al:(wss.map rowB).all id=true:=by
   rw[List.all_map,aL'];exact T.row
  refine ite2 (λc=>?_) (λc=>?_)
  ·have c:(!((wss.map rowB).all id))=true:=c;rw[al] at c;cases c
  have hl2:=s2 _ _ hl;have rw2:=rw1.same s2;refine⟨_,rfl,l,ys,wss,rfl,hl2,rw2,T.l,T.ok,T.okp,T.G,T.gp,T.nd,T.h64,λg p qs fp H3 s3 ng GA Qq fr=>?_⟩;refine setG ?_;dsimp only;have hl3:=s3 _ _ hl2;have rw3:=rw2.same s3;have s03:=(s1.trans s2).trans s3;refine⟨_,rfl,l,rfl,⟨_,.of hl3⟩,λD2 hD2=>?_⟩;refine aq_ (own:=1) (fv:=[]) (xs:=ys) rfl gok1 (λi out H'=>Same H3 H'/\H' D2=some (.lst out)/\bz' K H' out ((cw' (wss.take i)).map kvS)) ⟨Same.new hD2,a1_,.nil⟩ (λi out H' _ ⟨sm,_,_⟩=>.of (sm _ _ hl3)) (λout H4 ⟨s4,hd4,pa⟩=>?_) (λi y out H' hy ⟨sm,hd,tz⟩=>?_);rotate_left
  ·obtain⟨ws,a,hw,rfl,ha⟩:=dS_ rw3 hy;have wm:=ae' hw;refine⟨_,rfl,rfl,λNx hN=>?_⟩;refine⟨_,rfl,a,_,_,_,rfl,rfl,.of (sm _ _ ha),atS (i:=0) (T.ok ws wm).ne,rfl,_,rfl,?_⟩;rw[aY_];refine ite2 (λc=>?_) (λc=>?_)
   ·have l5:=(T.okp ws wm c).l5;refine⟨_,rfl,a,_,_,_,rfl,rfl,.of (sm _ _ ha),atS (i:=1) Z1,_,rfl,a,_,_,_,rfl,rfl,.of (sm _ _ ha),atS (i:=3) Z1,by show 2<=sizeLine;decide,λt nt=>?_⟩;obtain⟨s5,e5⟩:=nw__ (o:=.tup [.str (ws.getD 1 ""),.str (ws.getD 3 "")]) nt;generalize upd H' t (.tup [.str (ws.getD 1 ""),.str (ws.getD 3 "")])=H5 at s5 e5 ⊢;have lo:=a_3 tz;have:=eQ_ (wss.take i);rw[aa'] at lo;rw[af'] at this;have hD5:=s5 _ _ hd
    have pD:∀{b:Addr} {zs:List V},H5 b=some (.tup zs)->b≠D2:=λhb z=>by
     rw[z,hD5] at hb;cases hb
    refine⟨out,hD5,by omega,hN (out++[.ref t]) _ ⟨au_ (sm.trans s5) hD2,a1_,?_⟩⟩;rw[ap_ hw,cc_,b__ (show isW "piece" ws=true from c),ag'];exact aT_ (Paired.mapP tz λy kv ⟨b,z,hb⟩=>⟨b,z,by rw[a8_ (pD (s5 _ _ hb))];exact s5 _ _ hb⟩) (.cons ⟨t,rfl,by rw[a8_ (pD e5)];exact e5⟩ .nil)
   ·refine hN out _ ⟨sm,hd,?_⟩;rw[ap_ hw,cc_,a_5 (show ¬isW "piece" ws=true from c),aD'];exact tz
  rw[le,ao',gA_ T.ff] at pa;have h64:=T.h64;refine⟨D2,out,_,rfl,hd4,pa,by rw[c1_,aa'];omega,λd hd=>?_⟩
  have ndk:((stF ((a7' wss).map (·.1)) f).map (·.1)).Nodup:=by
   rw[eH_,aM',aH'];exact T.nd.imp λn e=>n (c_3 e)
  rw[bp_ ndk];obtain⟨s5,e5⟩:=nw__ (o:=.dK (stF ((a7' wss).map (·.1)) f)) hd;refine setG ?_;dsimp only;generalize upd H4 d (.dK (stF ((a7' wss).map (·.1)) f))=H5 at s5 e5 ⊢;have s35:=s4.trans s5;have d3:H3 d=none:=s4.free hd;obtain⟨fp',GA',al'⟩:=GA.slim2
  have dfp:d∉fp':=λm=>by
   obtain⟨⟨o,e⟩,_⟩:=al' d m;rw[d3] at e;cases e
  have S:Std K CG CW H5 g p d (be' wss) (bm' wss) qs fp' ((a7' wss).map (·.1)) f:=by
   refine⟨GA'.same s35,T.G,dfp,e5,⟨?_,T.at_⟩,Qq.nd T.nd,?_,λq hq=>?_⟩
   ·rw[Qq.nms];exact (aP_ _).symm
   ·have:=Qq.len;omega
   ·obtain⟨p',hp',rfl⟩:=Qq.mem q hq;have:=(T.gp p' hp').w1;show 0<=p'.2.1;omega
  refine⟨_,rfl,_,rfl,g,p,d,_,_,qs,fp',_,f,rfl,S,pct qs Qq,λH6 s6=>?_⟩;refine⟨_,rfl,rfl,_,rfl,?_⟩;rw[back qs Qq];refine eW' rfl ?_;refine⟨_,rfl,_,rfl,by show 2<=sizeLine;decide,λt nt=>?_⟩;have s7:=Same.new (o:=.tup [.ref g,.ref d]) nt;have s37:=(s35.trans s6).trans s7;have s07:=s03.trans s37;exact k t g p d qs fp' _ s07 (s03.free ((s35.trans s6).free nt)) a1_ ((S.same s6).same s7) Qq (s03.free d3) (λb hb=>(s1.trans s2).free (fr b (al' b hb).2))
theorem bQ':a6' ["text","goods"] ["text"] (a5' ct'):=f__
def d9'(K:F__)(CG CW:Addr):Sp:=λvs H Q _=>∃(x:Str) (f:Str->Str),vs=[.str x]/\x.length<=50000/\TxOk (rowsT x) f/\(∀qs,Qs (a7' (rowsT x)) qs->∀q∈qs,PcT q)/\(∀qs,Qs (a7' (rowsT x)) qs->bZ' (be' (rowsT x)) (bm' (rowsT x)) qs f=x)/\a7' (rowsT x)=[] /\
 ∀p fp H',Same H H'->bw' K CW H' p (be' (rowsT x)) (bm' (rowsT x)) fp->(∀b∈fp,H b=none)->Q (.ref p) H'
theorem h0_(F:Fun K "read_web" "read_web" ct' f0 fd)(T:TxtG K CG)(cR:Cal P w K mg base 10 "read_goods" ["text"] (bW' K CG CW))(cN:CalM P w K mg base CG 1 "names" ["self"] (bU' K CG CW)):FnOk P w K mg base CX0 11 f0 fd ["text"] (d9' K CG CW):=by
 refine F.ok bQ' (λvs H Q E h=>?_) (λcdv A outer s H vs Q E hr h=>?_)
 ·obtain⟨x,f,rfl,_⟩:=h;rfl
 ·obtain⟨x,f,rfl,hz,Tx,pct,back,pn,k⟩:=h;have sz:=a_9;have hr1:Room 1 _:=hr.mono (by decide);refine' ⟨_,a3_ ?s1 (a3_ ?s2 (a5_ ?s3)),?kk⟩
  case s1=>exact ae_ (i:=1) bQ'.nd rfl (Or.inl rfl) (ag_ aL_ (al_ cR hr (a0_ (pv 0) a2_)) a4_ (λ_ _=>rfl))
  case s2=>exact ak_ (ah_ (e3_ cmpS (cL' hr 0)) (dX_ cN T.cl hr1 (pv 1)) (as_ a2_) (nomark _)) ab_ aa_
  case s3=>exact af_ (bz_ (pv 1) rfl)
  case' kk=>skip
  refine⟨_,rfl,x,f,rfl,hz,Tx,pct,back,λt g p d qs fp H1 s1 nt ht S Qq nd fr=>?_⟩;refine⟨t,_,_,_,rfl,rfl,.of ht,rfl,?_⟩;refine setG ?_;dsimp only;obtain⟨dx,dw,dy,vs,fpw,h1,h2,h3,h4,h5,m1,m2,m3,m4,m5⟩:=id S.G.ex
  have q0:qs=[]:=by
   have:=Qq.len;rw[pn] at this;exact List.length_eq_zero_iff.mp this
  have hno:(gflds p dw dy).lookup ("names":Str)=none:=be_ _ _ _ Z0 Z0 Z0;refine⟨_,rfl,g,dx,_,rfl,h1,hno,g,p,_,_,qs,fp,rfl,S.G,λl nl=>?_⟩;have s2:=Same.new (o:=.lst ((qs.map (·.1)).map V.str)) nl;have e2:upd H1 l (.lst ((qs.map (·.1)).map V.str)) l=some (.lst []):=by rw[a1_,q0];rfl
  generalize upd H1 l (.lst ((qs.map (·.1)).map V.str))=H2 at s2 e2 ⊢;refine⟨by show 0<=sizeLine;decide,λl2 nl2=>?_⟩;obtain⟨s3,e3⟩:=nw__ (o:=.lst []) nl2;generalize upd H2 l2 (.lst [])=H3 at s3 e3 ⊢;refine⟨[],[],⟨l,[],rfl,.of (s3 _ _ e2),.nil⟩,⟨l2,[],rfl,.of e3,.nil⟩,_,rfl,iteF ?_⟩;have s13:=s2.trans s3;exact⟨_,rfl,g,CG,dx,_,_,rfl,s13 _ _ h1,T.cl,T.nW,ey_ _ _ _,k p fpw H3 (s1.trans s13) (h2.same s13) (λb hb=>fr b (m4 b hb))⟩
theorem lk_:("\n":Str)=⟨#[10]⟩:=by decide +kernel
theorem eR_:(" ":Str)=⟨#[32]⟩:=by decide +kernel
theorem bo_(a b:Str):(a++b).cps.toList=a.cps.toList++b.cps.toList:=by rw[PySem.Str.cps_append,Array.toList_append]
variable{a:Str}
theorem bX_{b:Str}(h:a.cps.toList=b.cps.toList):a=b:=by
 apply Str.ext';exact Array.toList_inj.mp h
theorem fl_{c:Nat}:∀{a b s t:List Nat},c∉a->c∉b->a++c::s=b++c::t->a=b/\s=t
 |[],[],_,_,_,_,h=>⟨rfl,(e__ h).2⟩
 |[],y::b,s,t,_,hb,h=>by
  have:=(e__ h).1;exact absurd (this▸ap') hb
 |x::a,[],s,t,ha,_,h=>by
  have:=(e__ h).1;exact absurd (this▸ap') ha
 |x::a,y::b,s,t,ha,hb,h=>by
  obtain⟨e,h⟩:=e__ h;obtain⟨e1,e2⟩:=fl_ (λm=>ha (aj' _ m)) (λm=>hb (aj' _ m)) h;exact⟨by rw[e,e1],e2⟩
theorem aM_(c:Nat)(x y:Str)(r:List Str):(Str.join ⟨#[c]⟩ (x::y::r)).cps.toList=x.cps.toList++c::(Str.join ⟨#[c]⟩ (y::r)).cps.toList:=by
 show (x++⟨#[c]⟩++Str.join ⟨#[c]⟩ (y::r)).cps.toList=_;rw[bo_,bo_,List.append_assoc];rfl
theorem gb_(c:Nat):∀(ps qs:List Str),ps≠[]->qs≠[]->(∀p∈ps,c∉p.cps.toList)->(∀q∈qs,c∉q.cps.toList)->(Str.join ⟨#[c]⟩ ps).cps.toList=(Str.join ⟨#[c]⟩ qs).cps.toList->ps=qs
 |[],_,h,_,_,_,_=>absurd rfl h
 |_::_,[],_,h,_,_,_=>absurd rfl h
 |[x],[y],_,_,_,_,e=>by rw[bX_ (a:=x) (b:=y) e]
 |[x],y::z::r,_,_,h,_,e=>by
  rw[aM_] at e
  have:c∈x.cps.toList:=by
   have e:x.cps.toList=_:=e;rw[e];simp
  exact absurd this (h x ap')
 |x::z::r,[y],_,_,_,h,e=>by
  rw[aM_] at e
  have:c∈y.cps.toList:=by
   have e:_=y.cps.toList:=e;rw[<- e];simp
  exact absurd this (h y ap')
 |x::x2::r,y::y2::q,_,_,h1,h2,e=>by
  rw[aM_,aM_] at e;obtain⟨e1,e2⟩:=fl_ (h1 x ap') (h2 y ap') e;rw[bX_ e1,gb_ c (x2::r) (y2::q) Z2 Z2 (λp m=>h1 p (aj' _ m)) (λp m=>h2 p (aj' _ m)) e2]
theorem bq_(c:Nat)(ps:List Str)(h:ps≠[])(hf:∀p∈ps,c∉p.cps.toList):Txt.split (Txt.join ⟨#[c]⟩ ps) ⟨#[c]⟩=ps:=by
 refine gb_ c _ ps (λe=>?_) h (StrLaws.split_free _ c) hf ?_
 ·have:=PyProof.Rows.split_pos (Txt.join ⟨#[c]⟩ ps) ⟨#[c]⟩;rw[e] at this;simp at this
 ·rw[StrLaws.join_split];show (Builtin.Str.glued _ ps).cps.toList=_;rw[StrLaws.glued_eq_join]
theorem jlen(sep:Str)(ss:List Str):(Txt.join sep ss).length<=(ss.map (·.length)).sum+ss.length * sep.length:=by
 show (Builtin.Str.glued sep ss).length<=_;rw[size_glued];have:(ss.length - 1) * sep.length<=ss.length * sep.length:=Nat.mul_le_mul_right _ Z1;omega
theorem fj_{ss:List Str}{m:Nat}(h:∀x∈ss,x.length<=m):(ss.map (·.length)).sum<=m * ss.length:=by
 induction ss with
 |nil=>simp
 |cons x ss ih=>
  have a:=h x ap';have b:=ih λy hy=>h y (aj' _ hy);rw[aw',List.sum_cons,aC',Nat.mul_add,Nat.mul_one];omega
theorem eN_{rs:List Str}(h:rs≠[])(hf:∀r∈rs,10∉r.cps.toList):rowsT (Txt.join "\n" rs)=rs.map λr=>Txt.split r " ":=by
 unfold rowsT;rw[lk_,bq_ 10 rs h hf]
theorem jn(c:Nat)(ss:List Str):Txt.join ⟨#[c]⟩ ss=Str.join ⟨#[c]⟩ ss:=StrLaws.glued_eq_join _ ss
theorem em_l:(Str.empty:Str).cps.toList=[]:=rfl
theorem jk_(c:Nat):(⟨#[c]⟩:Str).cps.toList=[c]:=rfl
theorem cM_(n:Str)(k:Int):cc' n k=Txt.join " " ["hand",n,(toString k:Ah)]:=by
 refine bX_ ?_;rw[eR_,jn,aM_,aM_];show (cc' n k).cps.toList=_;unfold cc';rw[bo_,bo_,bo_,bo_,em_l,aR',eR_,jk_];have e:("hand ":Str).cps.toList=("hand":Str).cps.toList++[32]:=by decide +kernel
 rw[e];simp only[List.append_assoc,List.singleton_append];rfl
theorem dt_(t:Str × Str):tieR t=Txt.join " " ["tie",t.1,t.2]:=by
 refine bX_ ?_;rw[eR_,jn,aM_,aM_];show (tieR t).cps.toList=_;unfold tieR;rw[bo_,bo_,bo_,bo_,em_l,aR',eR_,jk_];have e:("tie ":Str).cps.toList=("tie":Str).cps.toList++[32]:=by decide +kernel
 rw[e];simp only[List.append_assoc,List.singleton_append];rfl
theorem dK_(t:Str × Str):tieT t=Txt.join "-" [t.1,t.2]:=by
 have h:("-":Str)=⟨#[45]⟩:=by decide +kernel
 refine bX_ ?_;rw[h,jn,aM_];show (tieT t).cps.toList=_;unfold tieT;rw[bo_,bo_,bo_,em_l,aR',h,jk_];simp only[List.append_assoc,List.singleton_append];rfl
theorem dw_(n:Str)(k:Int)(h u:Str):dc' n k h u=Txt.join " " ["piece",n,(toString k:Ah),h,u]:=by
 refine bX_ ?_;rw[eR_,jn,aM_,aM_,aM_,aM_];show (dc' n k h u).cps.toList=_;unfold dc';rw[bo_,bo_,bo_,bo_,bo_,bo_,bo_,bo_,em_l,aR',eR_,jk_];have e:("piece ":Str).cps.toList=("piece":Str).cps.toList++[32]:=by decide +kernel
 rw[e];simp only[List.append_assoc,List.singleton_append];rfl
theorem eu_{ws:List Str}(h:ws≠[])(hf:∀w∈ws,32∉w.cps.toList):Txt.split (Txt.join " " ws) " "=ws:=by
 rw[eR_];exact bq_ 32 ws h hf
variable{c:Nat}
theorem aR_(h:ba' x=true)(m:c∈x.cps.toList):97<=c/\c<=122:=by
 unfold ba' at h;simp only[au',aL'] at h;have:=h.2 c m;unfold okc at this;simpa using this
variable{k:Int}
theorem c7_(h0:0<=k)(hc:c∈(PySem.Str.ofString (toString k)).cps.toList):48<=c/\c<=57:=by
 obtain⟨m,rfl⟩:=aX' h0;rw[PySem.W.KIN.signs_num] at hc;obtain⟨ch,hch,e⟩:=ab'.mp hc;have r:=PyProof.Rows.digit_range (Nat.isDigit_of_mem_toDigits (by decide) (by decide) hch);rw[<- e];exact r
variable{n:Str}
theorem cV_(hn:ba' n=true)(hk:0<=k):Txt.split (cc' n k) " "=(["hand",n,(toString k:Ah)]:List Str):=by
 rw[cM_];refine eu_ Z2 λw hw m=>?_;simp only[ah',aS',or_false] at hw;rcases hw with rfl|rfl|rfl
 ·revert m;decide +kernel
 ·have:=aR_ hn m;omega
 ·have:=c7_ hk m;omega
variable{t:Str × Str}
theorem dk_(h1:ba' t.1=true)(h2:ba' t.2=true):Txt.split (tieR t) " "=(["tie",t.1,t.2]:List Str):=by
 rw[dt_];refine eu_ Z2 λw hw m=>?_;simp only[ah',aS',or_false] at hw;rcases hw with rfl|rfl|rfl
 ·revert m;decide +kernel
 ·have:=aR_ h1 m;omega
 ·have:=aR_ h2 m;omega
theorem dF_(h1:ba' t.1=true)(h2:ba' t.2=true):Txt.split (tieT t) "-"=[t.1,t.2]:=by
 have h:("-":Str)=⟨#[45]⟩:=by decide +kernel
 rw[dK_,h];refine bq_ 45 _ Z2 λw hw m=>?_;simp only[ah',aS',or_false] at hw;rcases hw with rfl|rfl
 ·have:=aR_ h1 m;omega
 ·have:=aR_ h2 m;omega
theorem cb_(c:Nat):∀{ss:List Str} {x:Nat},x∈(Str.join ⟨#[c]⟩ ss).cps.toList->x=c∨∃s∈ss,x∈s.cps.toList
 |[],x,h=>by simp[Str.join,Str.empty] at h
 |[a],x,h=>.inr ⟨a,by simp,h⟩
 |a::b::r,x,h=>by
  rw[aM_] at h;rcases aq'.mp h with h|h
  ·exact .inr ⟨a,by simp,h⟩
  ·rcases ah'.mp h with h|h
   ·exact .inl h
   ·rcases cb_ c h with h|⟨s,hs,h⟩
    ·exact .inl h
    ·exact .inr ⟨s,aj' _ hs,h⟩
theorem h4_(c:Nat){r:List Str}{x:Nat}(h:x∈a.cps.toList):x∈(Str.join ⟨#[c]⟩ (a::r)).cps.toList:=by
 cases r with
 |nil=>exact h
 |cons b r=>
  rw[aM_];exact List.mem_append_left _ h
def dm'(o:Option (Xb)):Prop:=∀ws,o=some ws->∀t∈ws,ba' t.1=true/\ba' t.2=true
theorem iF_:(",":Str)=⟨#[44]⟩:=by decide +kernel
theorem lL_:("-":Str)=⟨#[45]⟩:=by decide +kernel
theorem db_(h1:ba' t.1=true)(h2:ba' t.2=true)(m:c∈(tieT t).cps.toList):c=45∨(97<=c/\c<=122):=by
 rw[dK_,lL_,jn] at m;rcases cb_ 45 m with h|⟨s,hs,h⟩
 ·exact .inl h
 ·simp only[ah',aS',or_false] at hs;rcases hs with rfl|rfl
  ·exact .inr (aR_ h1 h)
  ·exact .inr (aR_ h2 h)
theorem f5_(g:dm' o)(m:c∈(bE' o).cps.toList):c=44∨c=45∨(97<=c/\c<=122):=by
 match o,g,m with
 |none,_,m=>
  have e:("free":Str).cps.toList=[102,114,101,101]:=by decide +kernel
  have m:c∈("free":Str).cps.toList:=m;rw[e] at m;simp at m;omega
 |some [],_,m=>
  have e:("fixed":Str).cps.toList=[102,105,120,101,100]:=by decide +kernel
  have m:c∈("fixed":Str).cps.toList:=m;rw[e] at m;simp at m;omega
 |some (t::ts),g,m=>
  have m:c∈(Txt.join "," ((t::ts).map tieT)).cps.toList:=m;rw[iF_,jn] at m;rcases cb_ 44 m with h|⟨s,hs,h⟩
  ·exact .inl h
  ·obtain⟨u,hu,rfl⟩:=ab'.mp hs;obtain⟨a,b⟩:=g _ rfl u hu;rcases db_ a b h with h|h
   ·exact .inr (.inl h)
   ·exact .inr (.inr h)
theorem kn_(t:Str × Str):45∈(tieT t).cps.toList:=by
 rw[dK_,lL_,jn,aM_];simp
theorem ix_(g:dm' o):d8' (bE' o)=o:=by
 match o,g with
 |none,_=>decide +kernel
 |some [],_=>decide +kernel
 |some (t::ts),g=>
  have m:45∈(bE' (some (t::ts))).cps.toList:=by
   show 45∈(Txt.join "," ((t::ts).map tieT)).cps.toList;rw[iF_,jn];exact h4_ 44 (kn_ t)
  have n1:bE' (some (t::ts))≠"free":=λz=>by
   rw[z] at m;revert m;decide +kernel
  have n2:bE' (some (t::ts))≠"fixed":=λz=>by
   rw[z] at m;revert m;decide +kernel
  unfold d8';rw[a_5 n1,a_5 n2];show some ((Txt.split (Txt.join "," ((t::ts).map tieT)) ",").map pairW)=_;rw[iF_,bq_ 44 _ Z2 λp hp mm=>?_]
  ·rw[ak'];congr 1
   conv=>rhs;rw[<- List.map_id (t::ts)]
   refine ax' λu hu=>?_;obtain⟨a,b⟩:=g _ rfl u hu;show pairW (tieT u)=u;unfold pairW;rw[dF_ a b];rfl
  ·obtain⟨u,hu,rfl⟩:=ab'.mp hp;obtain⟨a,b⟩:=g _ rfl u hu;have:=db_ a b mm;omega
theorem fY_{h:Str}(hn:ba' n=true)(hk:0<=k)(hh:ba' h=true)(g:dm' o):Txt.split (dc' n k h (bE' o)) " "=(["piece",n,(toString k:Ah),h,bE' o]:List Str):=by
 rw[dw_];refine eu_ Z2 λw hw m=>?_;simp only[ah',aS',or_false] at hw;rcases hw with rfl|rfl|rfl|rfl|rfl
 ·revert m;decide +kernel
 ·have:=aR_ hn m;omega
 ·have:=c7_ hk m;omega
 ·have:=aR_ hh m;omega
 ·have:=f5_ g m;omega
theorem i1_(n:Nat)(h:1<=n):∃c r,Nat.toDigits 10 n=c::r/\c.toNat≠48:=by
 induction n using Nat.strongRecOn with
 |ind n ih=>
  by_cases z:n<10
  ·refine⟨n.digitChar,[],Nat.toDigits_of_lt_base z,?_⟩;have:n=1∨n=2∨n=3∨n=4∨n=5∨n=6∨n=7∨n=8∨n=9:=by omega
   rcases this with rfl|rfl|rfl|rfl|rfl|rfl|rfl|rfl|rfl<;>decide
  ·obtain⟨c,r,e,hc⟩:=ih (n / 10) Z1 Z1;refine⟨c,r++[(n % 10).digitChar],?_,hc⟩;rw[Nat.toDigits_of_base_le (by decide) Z1,e];rfl
theorem i9_(x:Str):x.length=x.cps.toList.length:=by simp[Str.length]
theorem hy_(h0:1<=k)(h1:k<=1000000000):figB ((toString k:Ah):Str)=true:=by
 obtain⟨m,rfl⟩:=aX' (show 0<=k by omega);obtain⟨c,r,e,hc⟩:=i1_ m Z1;have sg:((toString ((m:Nat):Int):Ah):Str).cps.toList=(Nat.toDigits 10 m).map Char.toNat:=PySem.W.KIN.signs_num m;have l1:((toString ((m:Nat):Int):Ah):Str).length<=10:=PySem.W.KT.len_num Z1 Z1
 have l2:1<=((toString ((m:Nat):Int):Ah):Str).length:=by
  rw[i9_,sg,e];simp
 unfold figB;rw[a_1 l1,a_1 l2];simp only[aT',au'];refine⟨aL'.mpr λx hx=>?_,?_⟩
 ·have:=c7_ (k:=(m:Int)) Z1 hx;unfold okd;simp only[au',b_1];exact this
 ·rw[sg,e,aw',show atI (c.toNat::r.map Char.toNat) 0=some c.toNat from L2.bK' (j:=0) rfl];simp[hc]
theorem dd_(h0:0<=k)(h1:k<=1000000000):PySem.intText? ((toString k:Ah):Str)=some k:=PySem.W.KIN.num_reads h0 Z1
theorem em_(h0:0<=k)(h1:k<=1000000000):((toString k:Ah):Str).length<=10:=PySem.W.KT.len_num h0 Z1
theorem j2_(g:dm' o):c1' (bE' o)=true:=by
 match o,g with
 |none,_=>decide +kernel
 |some [],_=>decide +kernel
 |some (t::ts),g=>
  unfold c1'
  have e:Txt.split (bE' (some (t::ts))) ","=(t::ts).map tieT:=by
   show Txt.split (Txt.join "," ((t::ts).map tieT)) ","=_;rw[iF_,bq_ 44 _ Z2 λp hp mm=>?_];obtain⟨u,hu,rfl⟩:=ab'.mp hp;obtain⟨a,b⟩:=g _ rfl u hu;have:=db_ a b mm;omega
  rw[e]
  have:((t::ts).map tieT).all dj'=true:=by
   rw[aL'];intro p hp;obtain⟨u,hu,rfl⟩:=ab'.mp hp;obtain⟨a,b⟩:=g _ rfl u hu;unfold dj';rw[dF_ a b];show (ba' u.1&&ba' u.2)=true;rw[a,b];rfl
  rw[this];simp
theorem jy_(g:dm' o)(n1:bE' o≠"free")(n2:bE' o≠"fixed"):∀p∈Txt.split (bE' o) ",",(Txt.split p "-").length=2:=by
 match o,g,n1,n2 with
 |none,_,n1,_=>exact absurd rfl n1
 |some [],_,_,n2=>exact absurd rfl n2
 |some (t::ts),g,_,_=>
  intro p hp
  have e:Txt.split (bE' (some (t::ts))) ","=(t::ts).map tieT:=by
   show Txt.split (Txt.join "," ((t::ts).map tieT)) ","=_;rw[iF_,bq_ 44 _ Z2 λp hp mm=>?_];obtain⟨u,hu,rfl⟩:=ab'.mp hp;obtain⟨a,b⟩:=g _ rfl u hu;have:=db_ a b mm;omega
  rw[e] at hp;obtain⟨u,hu,rfl⟩:=ab'.mp hp;obtain⟨a,b⟩:=g _ rfl u hu;rw[dF_ a b];rfl
theorem gu_(h:∀ws,o=some ws->ws.length<=63/\∀t∈ws,t.1.length<=8/\t.2.length<=8):(bE' o).length<=1134:=by
 match o,h with
 |none,_=>decide +kernel
 |some [],_=>decide +kernel
 |some (t::ts),h=>
  obtain⟨a,b⟩:=h _ rfl;have:=jlen "," ((t::ts).map tieT);have c:=er_ b;rw[aa'] at this;have e:(",":Str).length=1:=rfl;rw[e] at this;show (Txt.join "," ((t::ts).map tieT)).length<=_;omega
theorem ho_(a b:Str):ord2 (ord2 a b).1 (ord2 a b).2=ord2 a b:=by
 rcases bl_ a b with e|e
 ·rw[e];exact e
 ·rw[e];show ord2 b a=(b,a);rw[dm_,e]
theorem lb_(h:t∈tsOf ts):ord2 t.1 t.2=t:=by
 obtain⟨u,_,rfl⟩:=bt'.mp h;exact ho_ _ _
theorem ls_(ts:Xb):(tsOf ts).map kO=(tsOf ts).map kT:=ax' λt h=>by
 show kT (ord2 t.1 t.2)=_;rw[lb_ h]
theorem cW_:∀{a b:Xb},a.map kT=b.map kT->a=b
 |[],[],_=>rfl
 |[],_::_,h=>by simp at h
 |_::_,[],h=>by simp at h
 |x::a,y::b,h=>by
  rw[aw',aw'] at h;obtain⟨h1,h2⟩:=e__ h;rw[fp_ h1,cW_ h2]
theorem hW_(ts:Xb):tsOf (tsOf ts)=tsOf ts:=by
 refine cW_ ?_;rw[aZ_];have e:((tsOf ts).map λt=>kT (ord2 t.1 t.2))=(tsOf ts).map kT:=ls_ ts;rw[e];refine c9_ (aw_ _) (br_ _) ?_;rw[aZ_];exact br_ _
theorem ck_{hs:Xa}(h:∀t∈ts,da' t)(m:t∈tsOf ts):da' t:=by
 obtain⟨u,hu,rfl⟩:=bt'.mp m;obtain⟨a,b,c⟩:=h u hu;rcases bl_ u.1 u.2 with e|e
 ·rw[e];exact⟨a,b,c⟩
 ·rw[e];exact⟨b,a,λz=>c z.symm⟩
theorem lS_(h:(ts.map kO).Nodup):((tsOf ts).map kO).Nodup:=by
 rw[ls_,aZ_];exact (aw_ _).nodup_iff.mpr h
def hsN(hs:Xa):Xa:=(a9' hs).map λn=>(n,strOf hs n)
theorem dE_(hs:Xa):(hsN hs).map (·.1)=a9' hs:=by
 unfold hsN;rw[ak'];exact List.map_id' _
theorem io_(hs:Xa):a9' (hsN hs)=a9' hs:=by
 rw[gO_ (hsN hs),dE_];exact bQ_ (aP_ _) (dg_ _) (eC_ hs)
theorem kJ_(G:Good hs ts)(m:n∈a9' hs):strOf (hsN hs) n=strOf hs n:=by
 refine ef_ ?_ (ab'.mpr ⟨n,m,rfl⟩);rw[dE_];exact G.nnd
theorem jU_(G:Good hs ts):Good (hsN hs) (tsOf ts):=by
 refine⟨λh hh=>?_,?_,?_,?_,λt ht=>ck_ (hs:=hs) G.tok ht,lS_ G.tnd,?_,λt ht=>?_⟩
 ·obtain⟨n,hn,rfl⟩:=ab'.mp hh;exact G.hok _ (bu_ ((aI_ hs).mem_iff.mp hn))
 ·rw[dE_];exact G.nnd
 ·show 1<=((a9' hs).map _).length;rw[aa',G.nlen];exact G.h1
 ·show ((a9' hs).map _).length<=8;rw[aa',G.nlen];exact G.h8
 ·rw[bf_];exact G.t64
 ·rw[dE_];obtain⟨u,hu,rfl⟩:=bt'.mp ht;obtain⟨a,b⟩:=G.tin u hu;have a:=(aI_ hs).mem_iff.mpr a;have b:=(aI_ hs).mem_iff.mpr b;rcases bl_ u.1 u.2 with e|e
  ·rw[e];exact⟨a,b⟩
  ·rw[e];exact⟨b,a⟩
structure Tell (hs:Xa) (ts:Xb) (qs:List Pc) (f:Str->Str):Prop where
 G:Good hs ts
 gp:∀q∈qs,cP' (tsOf ts) q
 nd:(qs.map (·.1)).Nodup
 l30:qs.length<=30
 at_:∀n∈qs.map (·.1),f n∈a9' hs
def cO'(hs:Xa)(n:Str):List Str:=["hand",n,(toString (strOf hs n):Ah)]
def tieL(t:Str × Str):List Str:=["tie",t.1,t.2]
def cI'(f:Str->Str)(q:Pc):List Str:=["piece",q.1,(toString q.2.1:Ah),f q.1,bE' q.2.2]
def wssG(hs:Xa)(ts:Xb)(qs:List Pc)(f:Str->Str):List (List Str):=(a9' hs).map (cO' hs)++(tsOf ts).map tieL++qs.map (cI' f)
theorem f0_(G:Good hs ts)(h:n∈a9' hs):ba' n=true:=(G.hok _ (bu_ ((aI_ hs).mem_iff.mp h))).1
variable{q:Pc}
theorem Tell.ws(T:Tell hs ts qs f)(h:q∈qs):dm' q.2.2:=λws e t ht=>by
 have:=((T.gp q h).ws ws e).good t ht;exact⟨this.1,this.2.1⟩
theorem Tell.wl(T:Tell hs ts qs f)(h:q∈qs):(bE' q.2.2).length<=1134:=by
 have g:=T.gp q h;refine gu_ λws e=>?_;have w:=g.ws ws e;refine⟨?_,λt ht=>?_⟩
 ·have:=w.len;have:=T.G.t64;rw[bf_] at *;omega
 ·have:=w.good t ht;exact⟨av_ this.1,av_ this.2.1⟩
theorem hz_(T:Tell hs ts qs f):rowsT (bZ' hs ts qs f)=wssG hs ts qs f:=by
 unfold bZ'
 have ne:webR hs ts++qs.map (ca' f)≠[]:=by
  intro z;have a:=c_5 List.length z;rw[an'] at a;unfold webR at a;rw[an',aa',T.G.nlen,a2'] at a;have:=T.G.h1;omega
 rw[eN_ ne λr hr m=>?_]
 ·unfold webR wssG;rw[ag',ag',ak',ak',ak'];congr 1
  ·congr 1
   ·refine ax' λn hn=>?_;have s:=cj_ T.G hn;exact cV_ (f0_ T.G hn) Z1
   ·refine ax' λt ht=>?_;have g:=ck_ (hs:=hs) T.G.tok ht;exact dk_ g.1 g.2.1
  ·refine ax' λq hq=>?_;have g:=T.gp q hq;refine fY_ g.nm (by have:=g.w1;omega) (f0_ T.G (T.at_ q.1 (ab'.mpr ⟨q,hq,rfl⟩))) (T.ws hq)
 ·have base:∀{ws:List Str},r=Txt.join " " ws->(∀w∈ws,10∉w.cps.toList)->False:=λ{ws} e hw=>by
   rw[e,eR_,jn] at m;rcases cb_ 32 m with z|⟨x,hx,z⟩
   ·cases z
   ·exact hw x hx z
  rcases aq'.mp hr with hr|hr
  ·unfold webR at hr;rcases aq'.mp hr with hr|hr
   ·obtain⟨n,hn,rfl⟩:=ab'.mp hr;refine base (cM_ _ _) λw hw c=>?_;have s:=cj_ T.G hn;simp only[ah',aS',or_false] at hw;rcases hw with rfl|rfl|rfl
    ·revert c;decide +kernel
    ·have:=aR_ (f0_ T.G hn) c;omega
    ·have:=c7_ Z1 c;omega
   ·obtain⟨t,ht,rfl⟩:=ab'.mp hr;have g:=ck_ (hs:=hs) T.G.tok ht;refine base (dt_ _) λw hw c=>?_;simp only[ah',aS',or_false] at hw;rcases hw with rfl|rfl|rfl
    ·revert c;decide +kernel
    ·have:=aR_ g.1 c;omega
    ·have:=aR_ g.2.1 c;omega
  ·obtain⟨q,hq,rfl⟩:=ab'.mp hr;have g:=T.gp q hq;refine base (dw_ _ _ _ _) λw hw c=>?_;simp only[ah',aS',or_false] at hw;rcases hw with rfl|rfl|rfl|rfl|rfl
   ·revert c;decide +kernel
   ·have:=aR_ g.nm c;omega
   ·have:=c7_ (by have:=g.w1;omega) c;omega
   ·have:=aR_ (f0_ T.G (T.at_ q.1 (ab'.mpr ⟨q,hq,rfl⟩))) c;omega
   ·have:=f5_ (T.ws hq) c;omega
theorem cF_(n:Str):isW "hand" (cO' hs n)=true/\isW "tie" (cO' hs n)=false/\isW "piece" (cO' hs n)=false:=⟨a_1 rfl,a_2 (show ¬("hand":Str)="tie" by decide +kernel),a_2 (show ¬("hand":Str)="piece" by decide +kernel)⟩
theorem cP_(t:Str × Str):isW "hand" (tieL t)=false/\isW "tie" (tieL t)=true/\isW "piece" (tieL t)=false:=⟨a_2 (show ¬("tie":Str)="hand" by decide +kernel),a_1 rfl,a_2 (show ¬("tie":Str)="piece" by decide +kernel)⟩
theorem c2_(q:Pc):isW "hand" (cI' f q)=false/\isW "tie" (cI' f q)=false/\isW "piece" (cI' f q)=true:=⟨a_2 (show ¬("piece":Str)="hand" by decide +kernel),a_2 (show ¬("piece":Str)="tie" by decide +kernel),a_1 rfl⟩
theorem cU_{α β:Type}{p:β->Bool}{g:α->β}(l:List α)(h:∀a,p (g a)=true):(l.map g).filter p=l.map g:=List.filter_eq_self.mpr λx hx=>by
 obtain⟨a,_,rfl⟩:=ab'.mp hx;exact h a
theorem bG_{α β:Type}{p:β->Bool}{g:α->β}(l:List α)(h:∀a,p (g a)=false):(l.map g).filter p=[]:=List.filter_eq_nil_iff.mpr λx hx=>by
 obtain⟨a,_,rfl⟩:=ab'.mp hx;rw[h a];decide
theorem eK_(T:Tell hs ts qs f):be' (wssG hs ts qs f)=hsN hs:=by
 unfold be' wssG;rw[aE',aE',cU_ _ λn=>(cF_ n).1,bG_ _ λt=>(cP_ t).1,bG_ _ λq=>(c2_ q).1,aD',aD',ak'];unfold hsN;refine ax' λn hn=>?_;have s:=cj_ T.G hn;show (n,(PySem.intText? ((toString (strOf hs n):Ah):Str)).getD 0)=_;rw[dd_ Z1 Z1];rfl
theorem fv_:bm' (wssG hs ts qs f)=tsOf ts:=by
 unfold bm' wssG;rw[aE',aE',bG_ _ λn=>(cF_ n).2.1,cU_ _ λt=>(cP_ t).2.1,bG_ _ λq=>(c2_ q).2.1,aD',aR',ak'];exact List.map_id' _
theorem bY_(T:Tell hs ts qs f):a7' (wssG hs ts qs f)=qs:=by
 unfold a7' wssG;rw[aE',aE',bG_ _ λn=>(cF_ n).2.2,bG_ _ λt=>(cP_ t).2.2,cU_ _ λq=>(c2_ q).2.2,aR',aR',ak']
 conv=>rhs;rw[<- List.map_id qs]
 refine ax' λq hq=>?_;have g:=T.gp q hq;show (q.1,(PySem.intText? ((toString q.2.1:Ah):Str)).getD 0,d8' (bE' q.2.2))=q;rw[dd_ (by have:=g.w1;omega) g.w2,ix_ (T.ws hq)];rfl
theorem bD_{ws:List Str}(h:ws∈wssG hs ts qs f):(∃n∈a9' hs,ws=cO' hs n)∨(∃t∈tsOf ts,ws=tieL t)∨∃q∈qs,ws=cI' f q:=by
 unfold wssG at h;rcases aq'.mp h with h|h
 ·rcases aq'.mp h with h|h
  ·obtain⟨n,hn,rfl⟩:=ab'.mp h;exact .inl ⟨n,hn,rfl⟩
  ·obtain⟨n,hn,rfl⟩:=ab'.mp h;exact .inr (.inl ⟨n,hn,rfl⟩)
 ·obtain⟨n,hn,rfl⟩:=ab'.mp h;exact .inr (.inr ⟨n,hn,rfl⟩)
theorem Tell.tx(T:Tell hs ts qs f):TxOk (wssG hs ts qs f) f:=by
 have ft:isW "hand"=isW "hand":=rfl;refine⟨?_,λws h=>?_,λws h x hx=>?_,λws h=>?_,λws h c=>?_,?_,?_,?_,?_,λws h c=>?_,?_⟩
 ·unfold wssG;rw[an',an',aa',aa',aa',T.G.nlen,bf_];have:=T.G.h8;have:=T.G.t64;have:=T.l30;omega
 ·rcases bD_ h with⟨n,hn,rfl⟩|⟨t,ht,rfl⟩|⟨q,hq,rfl⟩
  ·have s:=cj_ T.G hn;unfold rowB;rw[b__ (show (cO' hs n).getD 0 ""="hand" from rfl)];show (decide (3=3)&&figB ((toString (strOf hs n):Ah):Str))=true;rw[hy_ s.1 Z1];rfl
  ·unfold rowB;rw[a_5 (show ¬(tieL t).getD 0 ""="hand" from (show ¬("tie":Str)="hand" by decide +kernel)),b__ (show (tieL t).getD 0 ""="tie" from rfl)];rfl
  ·have g:=T.gp q hq;unfold rowB;rw[a_5 (show ¬(cI' f q).getD 0 ""="hand" from (show ¬("piece":Str)="hand" by decide +kernel)),a_5 (show ¬(cI' f q).getD 0 ""="tie" from (show ¬("piece":Str)="tie" by decide +kernel)),b__ (show (cI' f q).getD 0 ""="piece" from rfl)];show (decide (5=5)&&(figB ((toString q.2.1:Ah):Str)&&c1' (bE' q.2.2)))=true;rw[hy_ g.w1 g.w2,j2_ (T.ws hq)];rfl
 ·rcases bD_ h with⟨n,hn,rfl⟩|⟨t,ht,rfl⟩|⟨q,hq,rfl⟩
  ·have s:=cj_ T.G hn;have a:=em_ (k:=strOf hs n) Z1 Z1;have b:=av_ (f0_ T.G hn);have hx:x∈(["hand",n,(toString (strOf hs n):Ah)]:List Str):=hx;simp only[ah',aS',or_false] at hx;rcases hx with rfl|rfl|rfl
   ·decide +kernel
   ·omega
   ·omega
  ·have g:=ck_ (hs:=hs) T.G.tok ht;have a:=av_ g.1;have b:=av_ g.2.1;have hx:x∈(["tie",t.1,t.2]:List Str):=hx;simp only[ah',aS',or_false] at hx;rcases hx with rfl|rfl|rfl
   ·decide +kernel
   ·omega
   ·omega
  ·have g:=T.gp q hq;have a:=em_ (k:=q.2.1) (by have:=g.w1;omega) g.w2;have b:=av_ g.nm;have c:=T.wl hq;have d:=av_ (f0_ T.G (T.at_ q.1 (ab'.mpr ⟨q,hq,rfl⟩)));have hx:x∈(["piece",q.1,(toString q.2.1:Ah),f q.1,bE' q.2.2]:List Str):=hx;simp only[ah',aS',or_false] at hx;rcases hx with rfl|rfl|rfl|rfl|rfl
   ·decide +kernel
   ·omega
   ·omega
   ·omega
   ·omega
 ·rcases bD_ h with⟨n,hn,rfl⟩|⟨t,ht,rfl⟩|⟨q,hq,rfl⟩
  ·have s:=cj_ T.G hn;have a:=em_ (k:=strOf hs n) Z1 Z1;exact⟨by show 0<3;decide,λ_=>⟨ai' 3,by show ((toString (strOf hs n):Ah):Str).length<=640;omega,_,dd_ Z1 Z1⟩,λ_=>ai' 3⟩
  ·refine⟨by show 0<3;decide,λc=>?_,λ_=>ai' 3⟩;rw[(cP_ t).1] at c;cases c
  ·refine⟨by show 0<5;decide,λc=>?_,λc=>?_⟩
   ·rw[(c2_ q).1] at c;cases c
   ·rw[(c2_ q).2.1] at c;cases c
 ·rcases bD_ h with⟨n,hn,rfl⟩|⟨t,ht,rfl⟩|⟨q,hq,rfl⟩
  ·rw[(cF_ n).2.2] at c;cases c
  ·rw[(cP_ t).2.2] at c;cases c
  ·have g:=T.gp q hq;have a:=em_ (k:=q.2.1) (by have:=g.w1;omega) g.w2;have w:=T.wl hq;exact⟨ai' 5,by show ((toString q.2.1:Ah):Str).length<=640;omega,⟨_,dd_ (by have:=g.w1;omega) g.w2⟩,by show (bE' q.2.2).length<=50000;omega,λn1 n2=>jy_ (T.ws hq) n1 n2⟩
 ·rw[eK_ T,fv_];exact jU_ T.G
 ·rw[bY_ T,fv_];exact T.gp
 ·rw[bY_ T];exact T.nd
 ·rw[bY_ T];have:=T.l30;omega
 ·rcases bD_ h with⟨n,hn,rfl⟩|⟨t,ht,rfl⟩|⟨q,hq,rfl⟩
  ·rw[(cF_ n).2.2] at c;cases c
  ·rw[(cP_ t).2.2] at c;cases c
  ·rfl
 ·rw[bY_ T,eK_ T,dE_];exact T.at_
theorem lG_(G:Good hs ts):webR (hsN hs) (tsOf ts)=webR hs ts:=by
 unfold webR;rw[io_,hW_];congr 1;refine ax' λn hn=>?_;rw[kJ_ G hn]
theorem jt_(G:Good hs ts):bZ' (hsN hs) (tsOf ts) qs f=bZ' hs ts qs f:=by
 unfold bZ';rw[lG_ G]
end Ev
namespace L2
open PySem PySem.Spec PyProof.Rows PySem.W
theorem g4_{X:Cx}{st:Stmt}{t:TS}(h:PS X st t):PS X st (λD σ H=>∃d kvs o,H d=some (.frz o (.dK kvs))/\(∀o u,X.H₀ d≠some (.frz o u))/\t D σ (upd H d (.dK kvs))):=by
 intro pins s σ H D I q;obtain⟨d,kvs,o,hd,nf,q⟩:=q;exact h pins s σ _ D (I.thaw hd nf) q
end L2
namespace Ev
open PySem L2
theorem iteSF{c A B:Prop}[Decidable c](hc:¬c)(h:A):if (!decide c)=true then A else B:=by
 rw[a_2 hc];exact iteT h
structure CalF (P:Ad) (w:Af) (K:F__) (mg:Str->Option Aa) (base:Heap) (k:Nat) (x:Str) (ps:List Str) (sp:Sp):Prop where
 ex:∃f fd,FnOk P w K mg base (CX1 P w) k f fd ps sp/\mg x=some (.ref f)/\PySem.W.keepIn K (.ref f)=true/\b9' K fd ps []
theorem g1_{X:Cx}{E:XK}{k:Nat}{x:Str}{ps:List Str}{sp:Sp}{p pos:Pos}{e:Expr}{es:List Expr}{t:TA}(c:CalF X.prog X.w X.K X.mg X.base k x ps sp)(hr:Room k X.A)(hx:by' (CX1 X.prog X.w) X E)(ha:PA X (e::es) t)(hg:Gl X x:=by rfl)(hdb:(x == ("__debug__":Str))=false:=by decide)
  (he:starEach (e::es) X.env=(false,eval e X.env)::starEach es X.env:=by rfl) (hpl:(backTo pos (starEach es X.env)).any (·.1)=false:=by rfl):PE X (.Call (.Name x p) (e::es) [] pos) (tCall sp [] E t):=by
 obtain⟨f,fd,F,m,kp,b⟩:=c.ex;exact fU_ F hr hg m kp b .nil hx ha hdb he hpl
variable{CG CS CW f:Addr}{fd:Ae}
section
variable{P:Ad}{w:Af}{K:F__}{mg:Str->Option Aa}{base:Heap}
def NoStd(K:F__)(H:Hp)(hs:Xa)(qs:List Pc)(fp:List Addr)(v:V):Prop:=(∃t,TyOf K H v t/\PySem.W.kitOne K t (.type "dict")=some false) ∨
 ∃(d:Addr) (ns:List Str) (f:Str->Str),v=.ref d/\d∉fp/\H d=some (.dK (stF ns f))/\((∃n∈ns,n∉qs.map (·.1)∨f n∉hs.map (·.1))∨ns.length≠qs.length)
inductive dx' (K:F__) (CG CW CS:Addr) (vs:List V) (H:Hp) (E:XK):Prop
 |mk:∀(g p:Addr) (v:V) (hs:Xa) (ts:Xb) (qs:List Pc) (fp:List Addr),vs=[.ref g,v]->bc' K CG CW H g p hs ts qs fp->NoStd K H hs qs fp v->(∀H',Same H H'->E (.ref CS) none H')->dx' K CG CW CS vs H E
def bP'(K:F__)(CG CW CS:Addr):Sp:=λvs H _ E=>dx' K CG CW CS vs H E
theorem h6_(F:Fun K "checked_stand" "checked_stand" dL' f fd)(B:Bi mg)(R:Ref K mg "NoStand" CS)(T:TxtG K CG)(TW:Txt K mg CW)(cH:CalM P w K mg base CG 1 "has_piece" ["self","thing"] (cW' K CG CW))(cW:CalM P w K mg base CW 1 "has_hand" ["self","thing"] (e3' K CW))(cN:CalM P w K mg base CG 1 "names" ["self"] (bU' K CG CW)) :
  FnOk P w K mg base (CX1 P w) 2 f fd ["goods","stand"] (bP' K CG CW CS):=by
 refine F.okQ bJ' (λvs H Q E h=>?_) (λcdv A outer s H vs Q E hr h own ps rs=>?_)
 ·obtain⟨g,p,v,hs,ts,qs,fp,rfl,_⟩:=h;rfl
 ·obtain⟨g,p,v,hs,ts,qs,fp,rfl,G,no,k⟩:=h;have hu:=bn_ hr;refine' ⟨_,?r0,?kk⟩
  case' r0=>refine' a3_ ?s1 ?r1
  case s1=>exact ak_ (ax_ (az_ (a6_ aH_ (by rfl) B.isi PyProof.Rows.Boot.«isinstance» (a0_ (pv 1) (a0_ (aV_ (v:=.ty "dict") (by rfl) B.dict PyProof.Rows.Boot.«dict» rfl) a2_))))) (a5_ (aJ_ rfl rs R.mg R.ex a_8 (by rfl) (a0_ a7_ a2_))) aa_
  case' r1=>refine' a3_ ?s2 ?r2
  case' s2=>refine' fE_ (b2_ own rfl ?i2 ?g2 ?b2)
  case i2=>exact ed_ (df_ (pv 1))
  case g2=>exact ch_ rfl (aj_ (ac_ (i:=2) bJ'.nd rfl (Or.inl rfl)) (aj_ (ac_ (i:=3) bJ'.nd rfl (Or.inl rfl)) b3_))
  case b2=>exact a3_ (ak_ (ax_ (az_ (d7_ cH T.cl hr (pv 0) (a0_ (pv 2) a2_)))) (a5_ (g4_ (aJ_ rfl rs R.mg R.ex a_8 (by rfl) (a0_ a7_ a2_)))) aa_) (a5_ (ak_ (ax_ (az_ (d7_ cW TW.cl hr (bz_ (pv 0) rfl) (a0_ (pv 3) a2_)))) (a5_ (g4_ (aJ_ rfl rs R.mg R.ex a_8 (by rfl) (a0_ a7_ a2_)))) aa_))
  case' r2=>refine' a3_ ?s3 ?r3
  case s3=>exact ae_ (i:=4) bJ'.nd rfl (Or.inl rfl) (dX_ cN T.cl hr (pv 0))
  case' r3=>refine' a3_ ?s4 ab_
  case s4=>exact ak_ (ah_ d6_ (a6_ fe_ (by rfl) B.len b_3 (a0_ (pv 1) a2_)) (a6_ ai_ (by rfl) B.len b_3 (a0_ (pv 4) a2_)) (nomark _)) (a5_ (aJ_ rfl rs R.mg R.ex a_8 (by rfl) (a0_ a7_ a2_))) aa_
  case' kk=>skip
  have one:1<=sizeLine:=by decide
  rcases no with⟨t,ty,e⟩|⟨d,ns,f,rfl,dfp,hd,bad⟩
  ·exact⟨_,rfl,_,_,_,_,rfl,ty,e,_,rfl,iteT ⟨one,k H (Same.refl H)⟩⟩
  refine⟨_,rfl,_,_,_,_,rfl,.dK hd,rfl,_,rfl,iteF ?_⟩;refine⟨d,_,hd,?_⟩;refine⟨_,rfl,d,_,rfl,hd,λv hv=>?_⟩;obtain⟨s1,hv1⟩:=nw__ (o:=bA' v d) hv;have G1:=G.same s1;have hd1:=s1 _ _ hd;generalize upd H v (bA' v d)=H1 at s1 hv1 G1 hd1 ⊢;refine⟨v,d,_,rfl,hv1,hd1,λo=>?_⟩;refine dN_ (λi σ H'=>∃(v2 v3:Option V),σ=[some (.ref g),some (.ref d),v2,v3,none]/\Fz d o (stF ns f) H1 H'/\∀n∈ns.take i,n∈qs.map (·.1)/\f n∈hs.map (·.1)) ⟨none,none,rfl,Fz.start,by simp⟩ (λi σ H' _ ⟨_,_,_,z,_⟩=>z.at_) ?_ ?_
  ·rintro i ky x σ H2 hx ⟨v2,v3,rfl,fz,ok⟩ t ht;obtain⟨n,hn,rfl,rfl⟩:=ik_ hx;have nm:=ae' hn;have s2:=Same.new (o:=.tup [.str n,.str (f n)]) ht;have fz2:=fz.step s2;have e2:upd H2 t (.tup [.str n,.str (f n)]) t=some (.tup [.str n,.str (f n)]):=a1_;show gTup _ _ _ _ _ (upd H2 t (.tup [.str n,.str (f n)])) _;generalize upd H2 t (.tup [.str n,.str (f n)])=H3 at s2 fz2 e2 ⊢;refine⟨t,_,rfl,.of e2,rfl,_,_,rfl,_,_,rfl,rfl,?_⟩;have G3:=fz2.goods hd1 G1 dfp;obtain⟨dx,dw,dy,vs,fpw,h1,h2,h3,h4,h5,m1,m2,m3,m4,m5⟩:=id G3.ex;obtain⟨dxw,d1,l2,d3,zs0,as,ef,w1,_⟩:=id h2.ex;have hno:(gflds p dw dy).lookup ("has_piece":Str)=none:=be_ _ _ _ Z0 Z0 Z0;have hnw:(flds d1 l2 d3).lookup ("has_hand":Str)=none:=bV_ _ _ _ Z0 Z0 Z0;refine⟨_,rfl,g,dx,_,rfl,h1,hno,_,rfl,g,p,.str n,some n,hs,ts,qs,fp,rfl,G3,rfl,_,rfl,?_⟩
   have out:∀(oo:Obj) (u:HO),H d≠some (.frz oo u):=λoo u z=>by
    rw[hd] at z;cases z
   by_cases cn:n∈qs.map (·.1)
   ·rw[show inB (qs.map (·.1)) (some n)=true from a_1 cn];refine iteF ?_;refine⟨_,rfl,g,CG,dx,_,_,rfl,h1,T.cl,T.nW,ey_ _ _ _,p,dxw,_,rfl,w1,hnw,_,rfl,p,f n,hs,ts,fpw,rfl,h2,_,rfl,?_⟩;by_cases c:f n∈hs.map (·.1)
    ·rw[a_1 c];refine iteF ⟨_,_,rfl,fz2,λm hm=>?_⟩;rw[dI_ hn] at hm;rcases aq'.mp hm with hm|hm
     ·exact ok m hm
     ·rw[List.mem_singleton.mp hm];exact⟨cn,c⟩
    ·rw[a_2 c];exact iteT ⟨d,_,o,fz2.at_,out,one,k _ (s1.trans (fz2.thaw hd1))⟩
   ·rw[show inB (qs.map (·.1)) (some n)=false from a_2 cn];exact iteT ⟨d,_,o,fz2.at_,out,one,k _ (s1.trans (fz2.thaw hd1))⟩
  rintro σ H2 ⟨v2,v3,rfl,fz,ok⟩;refine⟨o,fz.at_,?_⟩;have s2:=s1.trans (fz.thaw hd1);have hd2:upd H2 d (.dK (stF ns f)) d=some (.dK (stF ns f)):=a1_;generalize upd H2 d (.dK (stF ns f))=H3 at s2 hd2 ⊢;have G3:=G.same s2;obtain⟨dx,dw,dy,vs,fpw,h1,h2,h3,h4,h5,m1,m2,m3,m4,m5⟩:=id G3.ex;refine⟨_,rfl,g,dx,_,rfl,h1,be_ _ _ _ Z0 Z0 Z0,g,p,hs,ts,qs,fp,rfl,G3,λln hln=>?_⟩;obtain⟨s3,e3⟩:=nw__ (o:=.lst ((qs.map (·.1)).map V.str)) hln;have hd3:=s3 _ _ hd2;generalize upd H3 ln (.lst ((qs.map (·.1)).map V.str))=H4 at s3 e3 hd3 ⊢;refine⟨_,rfl,d,_,rfl,hd3,_,rfl,ln,_,rfl,.inl (.of e3),rfl,_,rfl,?_⟩;rcases bad with⟨n,hn,nb⟩|ne
  ·rw[c1_,ao'] at ok;obtain⟨a,b⟩:=ok n hn;rcases nb with nb|nb
   ·exact absurd a nb
   ·exact absurd b nb
  ·refine iteSF (λz=>ne ?_) ⟨one,k _ (s2.trans s3)⟩;rw[c1_,aa',aa'] at z
   injection z with z
   omega
theorem ee_(F:Fun K "goods_text" "goods_text" b7' f fd)(cC:CalF P w K mg base 2 "checked_stand" ["goods","stand"] (bP' K CG CW CS)):FnOk P w K mg base (CX1 P w) 3 f fd ["goods","stand"] (bP' K CG CW CS):=by
 refine F.okQ bi' (λvs H Q E h=>?_) (λcdv A outer s H vs Q E hr h own ps rs=>?_)
 ·obtain⟨g,p,v,hs,ts,qs,fp,rfl,_⟩:=h;rfl
 ·obtain⟨g,p,v,hs,ts,qs,fp,rfl,h1,h2,h3⟩:=h;refine⟨_,a3_ (ae_ (i:=2) bi'.nd rfl (Or.inl rfl) (g1_ cC hr ps (a0_ (pv 0) (a0_ (pv 1) a2_)))) ab_,?_⟩;exact⟨_,rfl,_,rfl,g,p,v,hs,ts,qs,fp,rfl,h1,h2,h3⟩
end
abbrev tOrd(K:F__):TE:=tCB (rTupOf K) (bD' (tCB (eK' K) (bD' (tCB (eu' K) (bD' (tVar 0) tNil)) tNil)) tNil)
abbrev tSrt(K:F__)(i:Nat):TE:=tCB (rSortT K) (bD' (tComp (iList K (tVar i)) 1 [] (b1' 0) tYes (tOrd K)) tNil)
theorem srtG{K:F__}{σ:St}{i:Nat}{lt:Addr}{zs:List V}{ts:Xb}{H:Hp}{Q:VK}(hi:σ[i]? = some (some (.ref lt)))(hlt:H lt=some (.lst zs))(tt:a8' K H zs (ts.map kT))(h64:ts.length<64)(q:∀l zs' H',Same H H'->H l=none->H' l=some (.lst zs')->a8' K H' zs' ((tsOf ts).map kT)->Q (.ref l) H'):tSrt K i σ H Q:=by
 have sz:=a_9;have lz:=a_3 tt;rw[aa'] at lz;refine⟨_,hi,lt,rfl,⟨_,.of hlt⟩,λD2 hD2=>?_⟩;refine aq_ (own:=1) (fv:=[]) (xs:=zs) rfl gok1 (λi out H'=>Same H H'/\H' D2=some (.lst out)/\a8' K H' out ((ts.take i).map kO)) ⟨Same.new hD2,a1_,.nil⟩ (λi out H' _ ⟨sm,_,_⟩=>.of (sm _ _ hlt)) (λout H6 ⟨s6,hD6,t6⟩=>?_) (λj y out H' hy ⟨sm,hD',to⟩=>?_);rotate_left
 ·obtain⟨t,ht,a,rfl,ha⟩:=aQ_ tt hy;refine⟨_,rfl,rfl,λNx hN=>yesT ?_⟩;have ha':=sm _ _ (hpT ha);refine⟨_,rfl,a,_,rfl,.inr (.of ha'),λla hla=>?_⟩;refine⟨la,[t.1,t.2],rfl,.of a1_,by show 2<64;decide,λlc hlc=>?_⟩;rw[jx_];refine⟨lc,_,rfl,.inl ⟨.of a1_,λtq htq=>?_⟩⟩;have sA:=((Same.new (o:=.lst [.str t.1,.str t.2]) hla).trans (Same.new (o:=.lst ([(ord2 t.1 t.2).1,(ord2 t.1 t.2).2].map V.str)) hlc)).trans (Same.new (o:=.tup ([(ord2 t.1 t.2).1,(ord2 t.1 t.2).2].map V.str)) htq);have lo:=a_3 to;rw[aa',af'] at lo;refine⟨out,sA _ _ hD',by omega,hN _ _ ⟨au_ (sm.trans sA) hD2,a1_,?_⟩⟩;rw[ay_ _ ht];exact b1_ (b4_ (to.same sA) a1_) (sA _ _ hD')
 rw[lz,ao'] at t6;refine⟨D2,out,ts.map kO,[true,true],rfl,.of hD6,t6,⟨by decide,λq hq=>?_⟩,by rw[aa'];exact h64,λl3 zs3 hl3 tz3 _=>?_⟩
 ·obtain⟨t,_,rfl⟩:=ab'.mp hq;rfl
 have tz7:a8' K (upd H6 l3 (.lst zs3)) zs3 ((tsOf ts).map kT):=by
  rw[aZ_];exact tz3.same (Same.new hl3)
 exact q l3 zs3 _ (s6.trans (Same.new hl3)) (s6.free hl3) a1_ tz7
theorem k1_(x:Str):Str.empty++x=x:=bX_ (by rw[bo_,em_l,aR'])
theorem hf_(n:Str)(k:Int):("hand ":Str)++n++(" ":Str)++(toString k:Str)=cc' n k:=by
 unfold cc';rw[k1_]
theorem in_(t:Str × Str):("tie ":Str)++t.1++(" ":Str)++t.2=tieR t:=by
 unfold tieR;rw[k1_]
theorem jg_{k:Int}(h0:0<=k)(h1:k<=1000000000):k.natAbs.log2<1920:=by
 by_cases z:k.natAbs=0
 ·rw[z];decide
 ·exact (Nat.log2_lt z).mpr (ar' (show k.natAbs<2 ^ 64 by omega) (Nat.pow_le_pow_right (by decide) (by decide)))
theorem kf_{hs:Xa}(nd:(hs.map (·.1)).Nodup):sortKs (hs.map kH)=(hsN hs).map kH:=by
 unfold hsN a9';rw[ak',ak']
 conv=>lhs;rw[<- List.map_id (sortKs (hs.map kH))]
 refine ax' λk hk=>?_;obtain⟨h,hh,rfl⟩:=bH_ hs k hk;show kH h=kH (h.1,strOf hs h.1);rw[ef_ nd (n:=h.1) (s:=h.2) hh]
section
variable{P:Ad}{w:Af}{K:F__}{mg:Str->Option Aa}{base:Heap}
theorem cE':a6' ["_law_hands","_law_ties","_law_rows","_law_pairs"] ["_law_hands","_law_ties"] (a5' c8'):=f__
inductive b5' (K:F__) (vs:List V) (H:Hp) (Q:VK) (E:XK):Prop
 |mk:∀(lh lt:Addr) (yh yt:List V) (hs:Xa) (ts:Xb),vs=[.ref lh,.ref lt]->H lh=some (.lst yh)->a8' K H yh (hs.map kH)->H lt=some (.lst yt)->a8' K H yt (ts.map kT)->Good hs ts->(∀l H',Same H H'->H l=none->H' l=some (.lst ((webR hs ts).map V.str))->Q (.ref l) H')->b5' K vs H Q E
theorem fG_(F:Fun K "_law_web_rows" "_law_web_rows" c8' f fd)(B:Bi mg):FnOk P w K mg base CX0 1 f fd ["_law_hands","_law_ties"] (b5' K):=by
 refine F.ok cE' (λvs H Q E h=>?_) (λcdv A outer s H vs Q E hr h=>?_)
 ·obtain⟨lh,lt,yh,yt,hs,ts,rfl,_⟩:=h;rfl
 ·obtain⟨lh,lt,yh,yt,hs,ts,rfl,hlh,th,hlt,tt,G,k⟩:=h;have sz:=a_9;refine' ⟨_,a3_ ?s1 (a3_ ?s2 (a5_ ?s3)),?kk⟩
  case' s1=>refine' bP_ (i:=2) ["_law_name","_law_strength"] 2 [] cE'.nd rfl (Or.inl rfl) (am_ (a6_ dY_ (by rfl) B.sorted PyProof.Rows.Boot.«sorted» (a0_ (pv 0) a2_))) (λfp s H=>cn_ (n:=2) (aj_ (ac_ (i:=0) (show (["_law_name","_law_strength"]:List Str).Nodup by decide +kernel) rfl (Or.inl rfl)) (aj_ (ac_ (i:=1) (show (["_law_name","_law_strength"]:List Str).Nodup by decide +kernel) rfl (Or.inl rfl)) b3_))) (λfp s H=>aW_) (λfp s H=>?e1)
  case e1=>exact ao_ aG_ (ao_ aG_ (ao_ aG_ a7_ (pv 0)) a7_) (aA_ fh_ (by rfl) B.str PyProof.Rows.Boot.«str» (a0_ (pv 1) a2_))
  case' s2=>refine' ae_ (i:=3) cE'.nd rfl (Or.inl rfl) (a6_ dY_ (by rfl) B.sorted PyProof.Rows.Boot.«sorted» (a0_ (aS_ ["_law_tie"] 1 [] (am_ (pv 1)) (λfp s H=>ac_ (i:=0) (show (["_law_tie"]:List Str).Nodup by decide +kernel) rfl (Or.inl rfl)) (λfp s H=>aW_) (λfp s H=>?e2)) a2_))
  case e2=>exact aA_ (cTupOf (K:=K)) (by rfl) B.tuple PyProof.Rows.Boot.«tuple» (a0_ (a6_ (di' (K:=K) eK' gY_) (by rfl) B.sorted PyProof.Rows.Boot.«sorted» (a0_ (aA_ (cListOf (K:=K)) (by rfl) B.list PyProof.Rows.Boot.«list» (a0_ (pv 0) a2_)) a2_)) a2_)
  case' s3=>refine' af_ (ao_ aU_ (pv 2) (aS_ ["_law_one","_law_other"] 2 [] (am_ (pv 3)) (λfp s H=>cn_ (n:=2) (aj_ (ac_ (i:=0) (show (["_law_one","_law_other"]:List Str).Nodup by decide +kernel) rfl (Or.inl rfl)) (aj_ (ac_ (i:=1) (show (["_law_one","_law_other"]:List Str).Nodup by decide +kernel) rfl (Or.inl rfl)) b3_))) (λfp s H=>aW_) (λfp s H=>?e3)))
  case e3=>exact ao_ aG_ (ao_ aG_ (ao_ aG_ a7_ (pv 0)) a7_) (pv 1)
  case' kk=>skip
  have h8:=G.h8;have t64:=G.t64;refine⟨_,rfl,lh,yh,hs.map kH,[true,false],rfl,.of hlh,th,⟨by decide,λq hq=>?_⟩,by rw[aa'];omega,λl1 z1 n1 t1 _=>?_⟩
  ·obtain⟨t,_,rfl⟩:=ab'.mp hq;rfl
  rw[kf_ G.hnd] at t1;obtain⟨s1,e1⟩:=nw__ (o:=.lst z1) n1;have t1:=t1.same s1;generalize upd H l1 (.lst z1)=H1 at s1 e1 t1 ⊢;have le1:=a_3 t1;rw[aa'] at le1
  have lN:(hsN hs).length=hs.length:=by
   unfold hsN;rw[aa',G.nlen]
  refine⟨l1,rfl,⟨_,.of e1⟩,λD hD=>?_⟩;refine aq_ (own:=2) (fv:=[]) (xs:=z1) rfl gok2 (λi out H'=>Same H1 H'/\H' D=some (.lst out)/\out=(((hsN hs).take i).map λh=>cc' h.1 h.2).map V.str) ⟨Same.new hD,a1_,rfl⟩ (λi out H' _ ⟨sm,_,_⟩=>.of (sm _ _ e1)) (λout H2 ⟨s2,hd2,eo⟩=>?_) (λi x out H' hx ⟨sm,hd,eo⟩=>?_);rotate_left
  ·obtain⟨h,hh,b,rfl,hb⟩:=aQ_ t1 hx;obtain⟨nm,w1,w2⟩:=(jU_ G).hok h (ae' hh);have nl:=av_ nm;have hl:=dq_ (n:=h.1) (k:=h.2) nl Z1 Z1;have tl:=PySem.W.KT.len_num (n:=h.2) Z1 Z1;have tl:((toString h.2:Ah):Str).length<=10:=tl;have hb:H1 b=some (.tup [.str h.1,.int h.2]):=hb;refine⟨_,⟨b,_,_,rfl,.of (sm _ _ hb),rfl⟩,rfl,λNx hN=>yesT ?_⟩;refine⟨_,rfl,_,_,rfl,rfl,?_,_,_,rfl,rfl,?_,_,rfl,h.2,rfl,jg_ Z1 Z1,_,_,rfl,rfl,?_,out,hd,?_,?_⟩
   ·show 5+h.1.length<=_;omega
   ·rw[a_7];show 5+h.1.length+1<=_;omega
   ·rw[a_7,a_7];show 5+h.1.length+1+((toString h.2:Ah):Str).length<=_;omega
   ·rw[eo,aa',aa',af'];omega
   ·rw[hf_];refine hN (out++[.str (cc' h.1 h.2)]) _ ⟨au_ sm hD,a1_,?_⟩;rw[eo,ay_ _ hh,ag'];rfl
  rw[le1,ao'] at eo;refine setG ?_;dsimp only;have s02:=s1.trans s2;refine srtG (i:=1) rfl (s02 _ _ hlt) (tt.same s02) t64 λl3 z3 H3 s3 n3 e3 t3=>?_;refine setG ?_;dsimp only;have le3:=a_3 t3;rw[aa'] at le3;have tl3:=bf_ ts;refine⟨_,rfl,_,rfl,l3,rfl,⟨_,.of e3⟩,λD3 hD3=>?_⟩;refine aq_ (own:=2) (fv:=[]) (xs:=z3) rfl gok2 (λi out H'=>Same H3 H'/\H' D3=some (.lst out)/\out=(((tsOf ts).take i).map tieR).map V.str) ⟨Same.new hD3,a1_,rfl⟩ (λi out H' _ ⟨sm,_,_⟩=>.of (sm _ _ e3)) (λout4 H4 ⟨s4,hd4,eo4⟩=>?_) (λi x out H' hx ⟨sm2,hd,eo⟩=>?_);rotate_left
  ·obtain⟨t,ht,b,rfl,hb⟩:=aQ_ t3 hx;have wt:=go_ G (ae' ht);refine⟨_,⟨b,_,_,rfl,.of (sm2 _ _ (hpT hb)),rfl⟩,rfl,λNx hN=>yesT ?_⟩;refine⟨_,rfl,_,_,rfl,rfl,?_,_,_,rfl,rfl,?_,_,rfl,_,_,rfl,rfl,?_,out,hd,?_,?_⟩
   ·show 4+t.1.length<=_;omega
   ·rw[a_7];show 4+t.1.length+1<=_;omega
   ·rw[a_7,a_7];show 4+t.1.length+1+t.2.length<=_;omega
   ·rw[eo,aa',aa',af'];omega
   ·rw[in_];refine hN (out++[.str (tieR t)]) _ ⟨au_ sm2 hD3,a1_,?_⟩;rw[eo,ay_ _ ht,ag'];rfl
  rw[le3,ao'] at eo4;have hd2':=s4 _ _ (s3 _ _ hd2);refine⟨D,D3,_,_,rfl,rfl,hd2',hd4,?_,λq nq=>?_⟩
  ·rw[eo,eo4,aa',aa',aa',aa'];omega
  ·have s5:=Same.new (o:=.lst (out++out4)) nq;have sa:=(s02.trans s3).trans s4;refine k q _ (sa.trans s5) (sa.free nq) ?_;rw[a1_,eo,eo4,<- ag'];unfold webR hsN;rw[ak'];rfl
end
end Ev
namespace L2
open PySem PySem.Spec PySem.Calls PyProof.Rows PySem.W
variable{oe:Obj}{vs:Array Aa}
variable{dd:Option Addr}{l:List Env}{h:Heap}
section
variable{M:Model}{A:Ag}{E:Aa->Ab->Prop}{s:Ab}{base:Heap}{env:Env}{outer:List Env}{L e:Addr}{cls a0:Aa}{Q:Unit->Ab->Prop}
def TracedD(h base:Heap)(e:Addr)(cls a0:Aa)(dd:Option Addr):Prop:=∃oe vs T oT ts,h.get? e=some oe/\(oe.cls=cls/\vs[0]? = some a0)/\oe.data=Data.fields vs/\vs[1]? = some (Value.ref T)/\base.get? T=none/\T≠e/\h.get? T=some oT/\oT.data=Data.fields ts/\ts[3]? = some Value.none/\oe.dict=dd
def bp'(base:Heap)(l:List Env)(e:Addr)(cls a0:Aa)(dd:Option Addr)(h:Heap):Prop:=base.StaysIn h/\base.get? e=none/\h.FunFrames base l/\TracedD h base e cls a0 dd
theorem eg'{head:Aa}{hadNext:Bool}(hfr:A.frames=some (env::outer))(hl:s.heap.FunFrames base (env::outer))(hf:env.frame=some L)(he:s.heap.get? e=some oe)(hkb:base.StaysIn s.heap)(hen:base.get? e=none)(hd:oe.data=Data.fields vs)(hsz:1<vs.size)(h0:vs[0]? = some a0)(h:∀h',base.StaysIn h'->h'.FunFrames base (env::outer)->TracedD h' base e oe.cls a0 oe.dict->s.heap.UpToSlots h'->Q () { s with heap:=h' }) :
  wpAny M A (do
   let a <- PySem.frameOf env
   let pl <- entryPlaceOf L hadNext
   let b <- EntryCells.newEntry head a Value.none (rawInt L) Value.none pl
   setField (Value.ref e) 1 b) (λ_ s'=>wpAny M A (setFlight (Value.ref e) none) Q E s') E s:=by
 have hene:e∉List.filterMap (λx=>x.frame) (env::outer):=λhm=>by
  obtain⟨_,o,ho,hnf⟩:=Heap.FunFrames.mem hl hm;rw[he] at ho;cases ho;exact hnf vs hd
 refine a__ (wpAny_frameOf_fun hfr hl hf λh₁ hs₁=>a__ (wpAny_entryPlaceOf λpl hpl=>?_));unfold EntryCells.newEntry newFields;have hsz1:h₁.objs.size=s.heap.objs.size:=hs₁.1;have he₁:=(hs₁.right.left e hene).trans he;have hlt:∀b o,s.heap.get? b=some o->b≠h₁.objs.size:=λb o q=>av' (by rw[hsz1];exact a_6 q)
 have hbn:base.get? h₁.objs.size=none:=by
  cases q:base.get? h₁.objs.size with
  |none=>rfl
  |some o=>exact absurd rfl (hlt _ o (hkb _ o q))
 have hbase:∀b o,base.get? b=some o->h₁.get? b=some o:=λb o q=>(hs₁.right.left b (λhm=>by
  have:=(Heap.FunFrames.mem hl hm).1;rw[q] at this;cases this)).trans (hkb b o q)
 obtain⟨tbs,htb,ht3⟩:∃tbs:Array Aa,([head,Value.ref L,Value.none,rawInt ↑L,Value.none]++if pl.isEmpty=true then List.replicate 6 Value.none else pl).toArray=tbs/\3<tbs.size:=⟨_,rfl,by simp⟩
 have hts:tbs.size<=sizeLine+2:=by
  rw[<- htb];rcases hpl with rfl|⟨a,b,c,d,c9,b10,_,rfl⟩
  ·show 11<=sizeLine+2;decide
  ·show 11<=sizeLine+2;decide
 refine a__ (wpAny_newObj_type ?_ (by rw[htb];exact hts));rw[htb];have he₂:(h₁.push { cls:=Value.type "traceback",data:=Data.fields tbs }).get? e=some oe:=a_0 _ he₁;have hn₂:(h₁.push { cls:=Value.type "traceback",data:=Data.fields tbs }).get? h₁.objs.size=some { cls:=Value.type "traceback",data:=Data.fields tbs }:=b_0 h₁ rfl;have hTe:h₁.objs.size≠e:=(hlt e oe he).symm;refine d_8 he₂ hd hsz ?_;have hd₃:=d_4 hd λx=>x.setIfInBounds 1 (Value.ref h₁.objs.size);have he₃:=c_2 (Obj.mapFields λx=>x.setIfInBounds 1 (Value.ref h₁.objs.size)) he₂ (d_1 hd₃);have hn₃:=(b_5 (h₁.push { cls:=Value.type "traceback",data:=Data.fields tbs }) (Obj.mapFields λx=>x.setIfInBounds 1 (Value.ref h₁.objs.size)) hTe.symm).trans hn₂;unfold setFlight;refine a__ (e_0 (x:=.ref h₁.objs.size) he₃ hd₃ (by simp[hsz]) ?_);rw[b__ Z2];refine d_8 hn₃ rfl ht3 ?_;have hd₄:=d_4 (o:={ cls:=Value.type "traceback",data:=Data.fields tbs }) rfl λx=>x.setIfInBounds 3 Value.none;have hn₄:=c_2 (Obj.mapFields λx=>x.setIfInBounds 3 Value.none) hn₃ (d_1 hd₄);have he₄:=(b_5 ((h₁.push { cls:=Value.type "traceback",data:=Data.fields tbs }).update e (Obj.mapFields λx=>x.setIfInBounds 1 (Value.ref h₁.objs.size))) (Obj.mapFields λx=>x.setIfInBounds 3 Value.none) hTe).trans he₃
 have oth:∀b o,b≠e->b≠h₁.objs.size->h₁.get? b=some o->(((h₁.push { cls:=Value.type "traceback",data:=Data.fields tbs }).update e (Obj.mapFields λx=>x.setIfInBounds 1 (Value.ref h₁.objs.size))).update h₁.objs.size (Obj.mapFields λx=>x.setIfInBounds 3 Value.none)).get? b=some o:=λb o n1 n2 q=>
  (b_5 _ _ n2.symm).trans ((b_5 _ _ n1.symm).trans (a_0 _ q))
 have hec:((Obj.mapFields λx=>x.setIfInBounds 1 (Value.ref h₁.objs.size)) oe).cls=oe.cls/\((Obj.mapFields λx=>x.setIfInBounds 1 (Value.ref h₁.objs.size)) oe).dict=oe.dict:=by
  obtain⟨c,dt,da,sl⟩:=oe;have:da=Data.fields vs:=hd;subst this;exact⟨rfl,rfl⟩
 have ups:∀b o,s.heap.get? b=some o->(∀vs,o.data≠Data.fields vs)->∃sl,(((h₁.push { cls:=Value.type "traceback",data:=Data.fields tbs }).update e (Obj.mapFields λx=>x.setIfInBounds 1 (Value.ref h₁.objs.size))).update h₁.objs.size (Obj.mapFields λx=>x.setIfInBounds 3 Value.none)).get? b=some { cls:=o.cls,dict:=o.dict,data:=o.data,slots:=sl }:=λb o q nf=>by
  obtain⟨sl,q1⟩:=hs₁.right.right b o q;refine⟨sl,oth b _ (λz=>?_) (hlt b o q) q1⟩;subst z;rw[he] at q;cases q;exact nf vs hd
 refine h _ (λb o q=>oth b o (λz=>?_) (λz=>?_) (hbase b o q)) (d_7 (λb o q nf=>?_) hl) ⟨_,_,h₁.objs.size,_,_,he₄,⟨hec.1,?_⟩,hd₃,?_,hbn,hTe,hn₄,hd₄,?_,hec.2⟩ ups
 ·subst z;rw[hen] at q;cases q
 ·subst z;rw[hbn] at q;cases q
 ·obtain⟨sl,q1⟩:=ups b o q nf;exact⟨_,q1,rfl⟩
 ·rw[Array.getElem?_setIfInBounds];simpa using h0
 ·simp[hsz]
 ·simp[ht3]
theorem bp'.obj(f:bp' base l e cls a0 dd h):∃oe vs,h.get? e=some oe/\oe.cls=cls/\oe.data=Data.fields vs/\oe.dict=dd:=by
 obtain⟨f1,f2,f3,oe,vs,T,oT,ts,h1,h2,h3,h4,h5,h6,h7,h8,h9,h10⟩:=f;exact⟨oe,vs,h1,h2.1,h3,h10⟩
theorem bp'.less(f:bp' base (env::outer) e cls a0 dd h):bp' base outer e cls a0 dd h:=⟨f.1,f.2.1,f.2.2.1.2.2,f.2.2.2⟩
theorem d5_(hfr:A.frames=some (env::outer))(hf:env.frame=some L)(hfl:bp' base (env::outer) e cls a0 dd s.heap)(hQ:∀h',bp' base (env::outer) e cls a0 dd h'->s.heap.UpToSlots h'->Q () { s with heap:=h' }):wpAny M A (noteFrame (Value.ref e) env) (λ_ s₂=>wpAny M A (setFlight (Value.ref e) none) Q E s₂) E s:=by
 obtain⟨f1,f2,f3,oe,vs,T,oT,ts,he,⟨hc,h0⟩,hd,h1,hnT,hTe,hT,hdT,h3,hdd⟩:=hfl;unfold noteFrame;rw[hf];dsimp only;refine a__ (e_0 he hd h1 ?_);rw[b__ Z2];refine a__ (e_0 hT hdT h3 ?_);rw[a_5 (by simp[rawInt])];refine a__ (d_8 hT hdT (aB'.mp h3).1 ?_);have other:∀b,b≠T->(s.heap.update T (Obj.mapFields λx=>x.setIfInBounds 3 Value.none)).get? b=s.heap.get? b:=λb hb=>b_5 _ _ hb.symm
 have nrec:∀b o,s.heap.get? b=some o->(∀vs,o.data≠Data.fields vs)->b≠T:=λb o q nf z=>by
  subst z;rw[hT] at q;cases q;exact nf ts hdT
 refine eg' (base:=base) (s:={ s with heap:=s.heap.update T (Obj.mapFields λx=>x.setIfInBounds 3 Value.none) }) hfr (d_7 (λb o q nf=>⟨o,(other b (nrec b o q nf)).trans q,rfl⟩) f3) hf ((other e hTe.symm).trans he) (λb o q=>(other b (λz=>?_)).trans (f1 b o q)) f2 hd (aB'.mp h1).1 h0 λh' g1 g2 g3 g4=>?_
 ·subst z;rw[hnT] at q;cases q
 ·refine hQ h' ⟨g1,f2,g2,?_⟩ λb o q nf=>g4 b o ((other b (nrec b o q nf)).trans q) nf;rw[hc,hdd] at g3;exact g3
theorem h9_(hfr:A.frames=some (env::outer))(hf:env.frame=some L)(hfl:bp' base (env::outer) e cls a0 dd s.heap)(hQ:∀h',bp' base outer e cls a0 dd h'->s.heap.UpToSlots h'->Q () { s with heap:=h' }):wpAny M A (leaving env (Value.ref e)) Q E s:=by
 unfold leaving;exact a__ (d5_ hfr hf hfl λh' f u=>hQ h' f.less u)
theorem fk_(hfl:bp' base l e cls a0 dd s.heap)(hQ:∀h',bp' base l e cls a0 dd h'->s.heap.UpToSlots h'->Q () { s with heap:=h' }):wpAny M A (setFlight (Value.ref e) none) Q E s:=by
 obtain⟨f1,f2,f3,oe,vs,T,oT,ts,he,⟨hc,h0⟩,hd,h1,hnT,hTe,hT,hdT,h3,hdd⟩:=hfl;unfold setFlight;refine a__ (e_0 he hd h1 ?_);rw[b__ Z2];refine d_8 hT hdT (aB'.mp h3).1 ?_;have other:∀b,b≠T->(s.heap.update T (Obj.mapFields λx=>x.setIfInBounds 3 Value.none)).get? b=s.heap.get? b:=λb hb=>b_5 _ _ hb.symm
 have nrec:∀b o,s.heap.get? b=some o->(∀vs,o.data≠Data.fields vs)->b≠T:=λb o q nf z=>by
  subst z;rw[hT] at q;cases q;exact nf ts hdT
 have hd4:=d_4 hdT λx=>x.setIfInBounds 3 Value.none;have hT4:=c_2 (Obj.mapFields λx=>x.setIfInBounds 3 Value.none) hT (d_1 hd4);refine hQ _ ⟨λb o q=>(other b (λz=>?_)).trans (f1 b o q),f2,d_7 (λb o q nf=>⟨o,(other b (nrec b o q nf)).trans q,rfl⟩) f3,oe,vs,T,_,_,(other e hTe.symm).trans he,⟨hc,h0⟩,hd,h1,hnT,hTe,hT4,hd4,?_,hdd⟩ λb o q nf=>⟨o.slots,(other b (nrec b o q nf)).trans q⟩
 ·subst z;rw[hnT] at q;cases q
 ·have:=(aB'.mp h3).1;simp[this]
theorem es_(hfr:A.frames=some (env::outer))(hf:env.frame=some L)(st:base.StaysIn s.heap)(ff:s.heap.FunFrames base (env::outer))(hen:base.get? e=none)(he:s.heap.get? e=some oe)(hc:oe.cls=cls)(hdd:oe.dict=dd)(hd:oe.data=Data.fields vs)(h0:vs[0]? = some a0)(h1:vs[1]? = some Value.none)(hQ:∀h',bp' base outer e cls a0 dd h'->s.heap.UpToSlots h'->Q () { s with heap:=h' }):wpAny M A (leaving env (Value.ref e)) Q E s:=by
 unfold leaving noteFrame;rw[hf];dsimp only;refine a__ (a__ (e_0 he hd h1 ?_));rw[a_5 Z2];refine eg' (base:=base) hfr ff hf he st hen hd (aB'.mp h1).1 h0 λh' g1 g2 g3 g4=>?_;refine hQ h' ⟨g1,hen,g2.2.2,?_⟩ g4;rw[hc,hdd] at g3;exact g3
end
section
variable{prog:Ad}{w:Af}{A:Ag}{E:Aa->Ab->Prop}{h:Heap}{g:Array GenState}{d:Drawn}{t:Nat}{os:OsState}{nm q:Str}{C N f:Addr}{bs bm bmB:List Aa}{hdct:Bool}{sn:List Str}{sub:List Aa}{ab:Bool}{col:Option Bool}{dd:Option Addr}{k0 k1 k2 k3 k5:Option Aa}{B newId initId:Ah}{K:F__}{rest:List Aa}
end
open Builtin Builtin.ObjectAttr
def excMro(C CE:Addr):List Aa:=[.ref C,.ref CE,.type "ValueError",.type "Exception",.type "BaseException",.type "object"]
section
variable{prog:Ad}{w:Af}{A:Ag}{E:Aa->Ab->Prop}{s:Ab}{K:F__}{x C CE:Addr}{ox:Obj}{od:Option Obj}{name:Str}{tk:Tok}{v:Aa}{cd:ClassData}
end
abbrev bmV:List Aa:=[.type "ValueError",.type "Exception",.type "BaseException",.type "object"]
def excInO(K:F__)(C:Addr)(bmB:List Aa)(newId:Ah):Bool:=
 match K.lookup C with
 |some ⟨.type "type",_,.cls cd,sl⟩=>
  match cd.mro,sl.toList with
  |.ref C'::bm,[_,_,_,_,some (.builtin n),_]=>C' == C&&n == newId&&!cd.hasDel&&tailIn K bmB bm&&nsOkIn K cd.ns
  |_,_=>false
 |_=>false
def clsO(K:F__)(C CE:Addr):Bool:=
 match clsIn K C with
 |some cd=>cd.mro == excMro C CE&&cd.hasDict
 |none=>false
structure ExO (K:F__) (C CE:Addr):Prop where
 kx:ExcK K C
 ex:excInO K C bmV "ValueError.__new__"=true
 es:findIn K (.ref C) "__setattr__"=some (some (.builtin "object.__setattr__"))
 cl:clsO K C CE=true
structure ExF (K:F__) (C:Addr) (f:Str):Prop where
 tk:takerIn K C f=some none
 fd:findIn K (.ref C) f=some none
structure ExB (K:F__) (CE:Addr):Prop where
 sp:specialIn K (.ref CE) "__getattribute__"=some (some (.builtin "type.__getattribute__"))
 rd:readsIn K CE (.type "type")=true
 fc:findCls K (.ref CE) (.type "type") "__init__"=some (.val (.builtin "ValueError.__init__"))
def exq(e C:Addr)(dd:Option Addr):HO:=.ext λh=>∃o vs,h.get? e=some o/\o.cls=.ref C/\o.dict=dd/\o.data=.fields vs
section
variable{P:Ad}{w:Af}{H:Hp}{h:Heap}{e C a0 d:Addr}{dd:Option Addr}{fs:List (Str × V)}
theorem la_{o:Obj}(h1:h.get? e=some o)(h2:o.cls=.ref C)(h3:o.dict=dd)(h4:o.data=.fields vs):bn' P w H h e (exq e C dd):=⟨⟨o,vs,h1,h2,h3,h4⟩,⟨o,h1⟩,λ_ _ ⟨u,vs,q,r⟩ k=>⟨u,vs,k u q,r⟩⟩
end
section
variable{X:Cx}{C CE:Addr}{x f:Str}{p apos pos pos':Pos}{o e value:Expr}{es:List Expr}{ta tv:TE}{t:TA}
end
def CX2(P:Ad)(w:Af):CXT:=λl H s E e s'=>
 ∃a cls H' B a0 dd,e=Value.ref a/\s'.os=s.os/\AllBare s'.gens/\Un (frs l) [] H H' s.heap s'.heap/\HOk P w H' s'.heap/\bp' B l a cls a0 dd s'.heap/\InB B l H' s.heap s'.heap/\E cls dd H'
section
variable{X:Cx}{pins:List (Addr × Obj)}{σ:St}{H H':Hp}{s s1:Ab}{B h:Heap}{a:Addr}{cls a0:Aa}{dd:Option Addr}{E:XK}
theorem dZ_(I:Inv X pins σ H s)(hex:X.ex=[])(os:s1.os=s.os)(bare:AllBare s1.gens)(un:Un (frs X.stack) [] H H' s.heap h)(hok:HOk X.prog X.w H' h)(i:InB B X.stack H' s.heap h)(ff:h.FunFrames B X.stack)(up:h.UpToSlots s1.heap)
  (fl:bp' B X.outer a cls a0 dd s1.heap) (hE:E cls dd H'):CX2 X.prog X.w X.outer X.H₀ X.s₀ E (.ref a) s1:=by
 have un1:=bm_ un ff i fl.1 up;have hok1:=b8_ hok (cf_ I un) i fl.1;have I1:Inv X pins σ H' s1:=I.call' os un1 hok1 bare (λb z=>absurd z Z2);have bs:=I1.base;rw[hex] at bs;refine⟨a,cls,H',B,a0,dd,rfl,I1.os,I1.bare,bs,I1.hok,fl,λb o e hb c=>?_,hE⟩
 have nL:b≠X.env.locals:=by
  rcases c with z|⟨o0,z⟩
  ·intro q;rw[q,I1.free] at z;cases z
  ·exact av' (ar' (a_6 z) I.ok.above)
 refine bx_ hok un i fl.1 b o e (λhm=>?_) (c.imp id λ⟨o0,z⟩=>I.base.there b o0 z (by rw[hex];simp));rcases ah'.mp (I.stkSub b hm) with z|z
 ·exact nL z
 ·exact hb z
end
section
variable{P:Ad}{w:Af}{K:F__}{mg:Str->Option Aa}{base:Heap}{N:List Str}{qual:Str}{scope:Scope}{f:Addr}{cd:Aa}{A:Ag}{outer:List Env}{s:Ab}{H:Hp}{E:XK}
theorem passes2:by' (CX2 P w) (cxOf (CX2 P w) P w K mg base N qual scope f cd A outer s H E) E:=by
 intro pins σ H1 s1 e s' I hc;obtain⟨a,cls,H',B,a0,dd,rfl,os,bare,un,hok,fl,i,hE⟩:=hc;refine h9_ (base:=B) I.ok.frames rfl fl λh1 fl1 up=>?_;exact dZ_ (s1:={ s' with heap:=h1 }) I rfl os bare un hok i fl.2.2.1 up fl1 hE
end
def XE(X:Cx)(i:Nat)(C:Addr)(ts:TS)(R:Ends):XK:=λcls dd H'=>cls=.ref C/\∀(σ:St) (a:Addr),σ.length=X.N.length->H' a=none->ts (R.gone i) (σ.set i (some (.ref a))) (upd H' a (exq a C dd))
variable{D:Addr}
def tTry2(X:Cx)(i:Nat)(C:Addr)(tb:XK->TS)(ts:TS):TS:=λD σ H=>tb (XE X i C ts D) D σ H
variable{pins:List (Addr × Obj)}{σ:St}{s s':Ab}{R:Ends}{X:Cx}{i:Nat}{n x:Str}{C:Addr}{hpos np:Pos}{b₀:Stmt}{suite:List Stmt}{ts:TS}{rest:List ExceptHandler}
theorem gZ_{H:Hp}{e:Aa}(hN:X.N.Nodup)(hi:X.N[i]? = some n)(hl:X.env.scope.names.lookup n=some .local)(hst:X.stack=X.env::X.outer)(hfr:X.env.frame=some X.env.locals)(hg:Gl X x)(hm:X.mg x=some (.ref D))(hx:PySem.W.exmOne X.K (.ref C) (.ref D)=some true)(hs:∀a,PSs (X.inX a).nox (b₀::suite) ts)(I:Inv X pins σ H s)(hc:CX2 X.prog X.w X.stack H s (XE X i C ts R) e s')(hd:(x == ("__debug__":Str))=false:=by decide) :
  wpAny (model X.prog X.w) X.A (noteFrame e X.env) (λ_ s₂=>wpAny (model X.prog X.w) X.A (setFlight e none) (λ_ s₃=>
   wpAny (model X.prog X.w) X.A (handleBy e X.env (.ExceptHandler (some (.Name x np)) (some n) (b₀::suite) hpos::rest)) (SP X pins R) X.xe s₃) X.xe s₂) X.xe s':=by
 obtain⟨a,cls,H',B,a0,dd,rfl,os,bare,un,hok,fl,i',rfl,hE⟩:=hc;have fr:=cf_ I un;have ff:=fl.2.2.1;refine d5_ (base:=B) (by rw[I.ok.frames,hst]) hfr (by rw[<- hst];exact fl) λh₅ fl5 up45=>?_;rw[<- hst] at fl5;have un5:=bm_ un ff i' fl5.1 up45;have hok5:=b8_ hok fr i' fl5.1;have in5:=bx_ hok un i' fl5.1;have I5:Inv X pins σ H' { s' with heap:=h₅ }:=I.call' (s':={ s' with heap:=h₅ }) os un5 hok5 bare (λb z=>absurd z Z2);have J5:=I5.inX a;obtain⟨oe,vs5,he5,hce,_⟩:=fl5.obj;refine wpAny_handleBy_cons (codeAny_handlers_test (cl_ (X:=X.inX a) J5 hg hm ?_ hd)) (by intro q;cases q);refine (PySem.W.exm_one (K:=X.K) J5.kIn (by subst_eqs;exact hce▸(PySem.W.Looks.ld he5).andThen .now) hx).at ?_;refine codeAny_handlers_suite_as ?_;refine fk_ (base:=B) (by exact fl5) λh₆ fl6 up6=>?_;have ff5:=fl5.2.2.1;have un6:=bm_ un5 ff5 in5 fl6.1 up6;have hok6:=b8_ hok5 fr in5 fl6.1;have in6:=bx_ hok5 un5 in5 fl6.1;have I6:Inv X pins σ H' { s' with heap:=h₆ }:=I.call' (s':={ s' with heap:=h₆ }) os un6 hok6 bare (λb z=>absurd z Z2);obtain⟨ox,vs,hx6,hcx,hdx,hddx⟩:=fl6.obj
 have nfr:a∉frs X.stack:=λhm=>by
  obtain⟨_,o,ho,d⟩:=fl6.2.2.1.mem hm;have ho:h₆.get? a=some o:=ho;rw[hx6] at ho;cases ho;exact d _ hdx
 have nB:B.get? a=none:=fl6.2.1
 have nH:H' a=none:=by
  cases q:H' a with
  |none=>rfl
  |some u=>
   have z:=in6 a ox hx6 nfr (.inl (by rw[q];rfl));rw[nB] at z;cases z
 have nS:s.heap.get? a=none:=by
  cases q:s.heap.get? a with
  |none=>rfl
  |some u=>
   have z:=in6 a ox hx6 nfr (.inr ⟨u,q⟩);rw[nB] at z;cases z
 have ntr:∀c,H' c≠none->c≠a:=λc z q=>z (q▸nH)
 have un7:Un (frs X.stack) [] H (upd H' a (exq a C dd)) s.heap h₆:=
  ⟨un6.keep,un6.slot,λb o q m z=>by
   rw[a8_ (λy=>by rw[y,nS] at q;cases q)];exact un6.free b o q m z,un6.there,λb xs q=>by
   have:=un6.tups b xs q;rw[a8_ (ntr b (by rw[this];simp))];exact this,λb o u q=>by
   have:=un6.frzs b o u q;rw[a8_ (ntr b (by rw[this];simp))];exact this,λb p q=>by
   obtain⟨more,this⟩:=un6.tbls b p q;exact⟨more,by rw[a8_ (ntr b (by rw[this];simp))];exact this⟩⟩
 have hok7:HOk X.prog X.w (upd H' a (exq a C dd)) h₆:=λb u q=>by
  by_cases hb:b=a
  ·subst hb;rw[a1_] at q;cases q;exact la_ hx6 hcx hddx hdx
  ·rw[a8_ hb] at q;exact (hok6 b u q).stay (λ_ _ _ z=>z) (λc z=>by rw[a8_ (ntr c (by rw[z];simp))];exact z) λc xs z=>by rw[a8_ (ntr c (by rw[z];simp))];exact z
 have I7:Inv X pins σ (upd H' a (exq a C dd)) { s' with heap:=h₆ }:=I.call' (s':={ s' with heap:=h₆ }) os un7 hok7 bare (λb z=>absurd z Z2);refine d8_ (X:=X.inX a) (v:=.ref a) (I7.inX a) hN hi (.inl hl) rfl (λs8 I8=>?_) (.inr hl);refine c_6 (hs a pins s8 _ _ _ (I8.wish _) (hE σ a I.len nH)) (λf s9 q=>?_) λ_ _ z=>False.elim z;have q:=q.unwish;show wpAny _ _ _ _ _ _;cases f with
 |next=>
  obtain⟨σ',H9,I9,q⟩:=q;exact dx_ (X:=X) (I9.outX I.ok) hN hi hl λs10 I10=>⟨_,_,I10,q⟩
 |brk=>
  obtain⟨σ',H9,I9,q⟩:=q;exact dx_ (X:=X) (I9.outX I.ok) hN hi hl λs10 I10=>⟨_,_,I10,q⟩
 |cont=>
  obtain⟨σ',H9,I9,q⟩:=q;exact dx_ (X:=X) (I9.outX I.ok) hN hi hl λs10 I10=>⟨_,_,I10,q⟩
 |ret u=>
  obtain⟨v,σ',H9,I9,r,q⟩:=q;exact dx_ (X:=X) (I9.outX I.ok) hN hi hl λs10 I10=>⟨v,_,_,I10,r,q⟩
abbrev Cx.atW(X:Cx)(W:Aa->Ab->Prop)(pn:List (Addr × Obj)):Cx:={ X with xe:=W,pn:=pn }
theorem Cx.Ok.atW(ok:X.Ok)(W:Aa->Ab->Prop)(pn:List (Addr × Obj)):(X.atW W pn).Ok:=
 ⟨ok.mod,ok.kind,ok.glob,ok.blt,ok.above,ok.inj,ok.has,ok.cab,ok.hd,ok.frames,ok.stk,ok.exf,ok.bs,ok.bsz,ok.noex,ok.exfs,ok.funs,ok.frf⟩
theorem Inv.toAt{H:Hp}(I:Inv X pins σ H s)(W:Aa->Ab->Prop):Inv (X.atW W (X.pn++pins)) [] σ H s:=⟨I.ok.atW W _,I.os,I.bare,I.base,I.loc,I.cell,I.free,I.freeC,λp hp=>I.pin p (by simpa using hp),I.hok,I.len⟩
theorem Inv.ofAt{p2:List (Addr × Obj)}{H:Hp}{W:Aa->Ab->Prop}(ok:X.Ok)(I:Inv (X.atW W (X.pn++pins)) p2 σ H s):Inv X pins σ H s:=⟨ok,I.os,I.bare,I.base,I.loc,I.cell,I.free,I.freeC,λp hp=>I.pin p (List.mem_append_left _ hp),I.hok,I.len⟩
variable{pos:Pos}{body:List Stmt}{tb:XK->TS}
theorem kO_(hN:X.N.Nodup)(hi:X.N[i]? = some n)(hl:X.env.scope.names.lookup n=some .local)(hst:X.stack=X.env::X.outer)(hfr:X.env.frame=some X.env.locals)
  (hg:Gl X x) (hm:X.mg x=some (.ref D)) (hx:PySem.W.exmOne X.K (.ref C) (.ref D)=some true) (hb:∀(E:XK) (W:Aa->Ab->Prop) (pn:List (Addr × Obj)),by' (CX2 X.prog X.w) (X.atW W pn) E->PSs (X.atW W pn) body (tb E)) (hs:∀a,PSs (X.inX a).nox (b₀::suite) ts) (hd:(x == ("__debug__":Str))=false:=by decide) :
  PS X (.Try body [.ExceptHandler (some (.Name x np)) (some n) (b₀::suite) hpos] [] [] pos) (tTry2 X i C tb ts):=by
 intro pins s σ H R I h;have hb':=hb (XE X i C ts R) (λe s'=>∃σ H s,Inv X pins σ H s/\CX2 X.prog X.w X.stack H s (XE X i C ts R) e s') (X.pn++pins) (λp2 σ2 H2 s2 e s' I2 hc=>⟨σ2,H2,s2,I2.ofAt I.ok,hc⟩);refine wpAny_Try_except (c_6 (hb' [] s σ H R (I.toAt _) h) (λf s1 q=>?_) λe s1 ⟨σ',H',s0,I0,hc⟩=>gZ_ hN hi hl hst hfr hg hm hx hs I0 hc hd);cases f with
 |next=>
  obtain⟨σ',H',I',q⟩:=q;exact wpAny_execs_nil ⟨σ',H',I'.ofAt I.ok,q⟩
 |ret v=>
  obtain⟨v',σ',H',I',r,q⟩:=q;exact⟨v',σ',H',I'.ofAt I.ok,r,q⟩
 |brk=>
  obtain⟨σ',H',I',q⟩:=q;exact⟨σ',H',I'.ofAt I.ok,q⟩
 |cont=>
  obtain⟨σ',H',I',q⟩:=q;exact⟨σ',H',I'.ofAt I.ok,q⟩
section
variable{P:Ad}{w:Af}{K:F__}{mg:Str->Option Aa}{base:Heap}{N:List Str}{qual:Str}{scope:Scope}{f:Addr}{cd:Aa}{A:Ag}{outer:List Env}{s:Ab}{H:Hp}{E:XK}
theorem raises2:dv' (cxOf (CX2 P w) P w K mg base N qual scope f cd A outer s H E) E:=by
 intro pins σ H1 s1 h' e cls vs I hx hE;have ff:=PySem.W.funFrames_hide (as:=frs (cxOf (CX2 P w) P w K mg base N qual scope f cd A outer s H E).stack) I.stack (λenv he b hb=>aA'.mpr ⟨env,he,hb⟩);obtain⟨t,he,_⟩:=hx.there;refine es_ (s:={ s1 with heap:=h' }) (base:=PySem.W.hideAll s1.heap (frs (cxOf (CX2 P w) P w K mg base N qual scope f cd A outer s H E).stack)) (dd:=none) I.ok.frames rfl (λb o q=>hx.keeps _ _ (PySem.W.of_hideAll _ q)) (d_7 (λb o q _=>⟨o,hx.keeps _ _ q,rfl⟩) ff) ?_ he rfl rfl rfl rfl rfl λh1 fl up=>?_
 ·cases q:(PySem.W.hideAll s1.heap (frs (cxOf (CX2 P w) P w K mg base N qual scope f cd A outer s H E).stack)).get? e with
  |none=>rfl
  |some o=>
   have:=PySem.W.of_hideAll _ q;rw[hx.new] at this;cases this
 ·exact dZ_ (s1:={ s1 with heap:=h1 }) I rfl rfl I.bare Un.refl I.hok (λb o q hb _=>e_1 _ q hb) ff ((Heap.UpToSlots.of_keeps hx.keeps).trans up) fl hE
end
inductive dk' (K:F__) (xs:List V) (H:Hp) (Q:VK):Prop
 |mk:∀a C dd c cv b,xs=[.ref a,c]->clsV c=some cv->H a=some (exq a C dd)->ExcK K C->PySem.W.kitOne K (.ref C) cv=some b->Q (.bl b) H->dk' K xs H Q
theorem bt_:bx' X (.builtin "isinstance") (dk' X.K):=by
 intro pins s σ H xs us Q I r h;obtain⟨a,C,dd,c,cv,b,rfl,hc,ha,k,e,q⟩:=h;obtain⟨u,w',rfl,ru,rw'⟩:=vals2 r;cases (show u=Value.ref a from ru);cases j3_ rw' hc;obtain⟨o,vs,h1,h2,_⟩:=(I.hok a _ ha).1;exact d_6 (iQ_ k) I.kIn ⟨o,h1,h2⟩ e nofun λtk=>⟨.bl b,H,I.tok tk,rfl,q⟩
theorem eF_:entryFor table "proto.unchain"=some Builtin.«proto.unchain»:=entryFor_of_tree (by kernel_rfl)
def IsExc(h:Heap)(C:Addr):Prop:=∃nm q N bs bm hdct sn sub ab col dd k0 k1 k2 k3 k5 newId,h.get? C=some (excClassObj nm q C N bs bm hdct sn sub ab col dd k0 k1 k2 k3 k5 newId)/\bm.contains (Value.type "BaseException")=true
variable{e:Addr}{E Q:Aa->Ab->Prop}{A:Ag}
theorem eU_{M:Model}{msg:Ah}(x:IsExc s.heap C)(he:s.heap.get? e=some oe)(hc:oe.cls=.ref C)(hd:oe.data=Data.fields vs)(h:Q (.ref e) s):wpAny M A (excFromValue (.ref e) msg) Q E s:=by
 obtain⟨nm,q,N,bs,bm,hdct,sn,sub,ab,col,dd,k0,k1,k2,k3,k5,newId,hC,hbase⟩:=x;have hcB:(Value.ref C::bm).contains (Value.type "BaseException")=true:=by rw[List.contains_cons,hbase,Bool.or_true]
 have L0:Looks M s.heap (typeOf (.ref e)) (.ref C):=hc▸(Looks.ld he).andThen .now
 have Li:Looks M s.heap (isType (.ref e)) false:=by
  unfold isType loadHead;refine (Looks.ld he).andThen ?_;rw[hd];exact .now
 obtain⟨hp,g,d,tk,os⟩:=s;unfold excFromValue isExcClass;refine a__ (a__ (Li.at (wpAny_ite_false rfl (a_4 (wpAny_ite_false rfl ?_)))));unfold isInstance;refine a__ (a__ (L0.at (wpAny_isSubtype_exc hC ?_)));rw[hcB];exact wpAny_ite_true rfl (a_4 h)
variable{prog:Ad}{w:Af}{a:Addr}
theorem fo_{oa:Obj}{ws:Array Aa}{v:Aa}(ha:s.heap.get? a=some oa)(hd:oa.data=Data.fields ws)(h2:ws[2]? = some Value.none)(h:Q .none s):wpAny (model prog w) A (runValue (.builtin "proto.unchain" ⟨[v,.ref a,.ref a,.bool false],[]⟩)) Q E s:=by
 refine wpAny_runValue (codeAny_builtin eF_ ?_);unfold Builtin.«proto.unchain»;refine a__ (e_0 ha hd h2 ?_);rw[b__ Z2];exact a_4 h
variable{CT:Addr}{env:Env}
theorem gF_{x c:Sem Aa}{CA:Addr}{Q:Flow->Ab->Prop}(hh:A.handled=some (.ref a))(h:wpAny (model prog w) A x (λv s₁=>wpAny (model prog w) A c (λu s₂=>∃e oe vs oa ws,v=Value.ref e/\u=Value.ref a/\e≠a/\IsExc s₂.heap CT/\IsExc s₂.heap CA/\s₂.heap.get? e=some oe/\oe.cls=.ref CT/\oe.data=Data.fields vs/\vs[1]? = some Value.none/\vs.size=6 /\
   s₂.heap.get? a=some oa/\oa.cls=.ref CA/\oa.data=Data.fields ws/\ws[2]? = some Value.none/\e≠CT /\
   ∀h' oe' vs',h'.get? e=some oe'->oe'.cls=oe.cls->oe'.dict=oe.dict->oe'.data=Data.fields vs'->vs'[1]? = some Value.none->vs'[2]? = some (Value.ref a)->Heap.SameBut e s₂.heap h'->E (.ref e) { s₂ with heap:=h' }) E s₁) E s) :
  wpAny (model prog w) A (raiseStmt env (some x) (some c)) Q E s:=by
 unfold raiseStmt;refine a__ (c_6 h (λv s₁ h₁=>?_) λ_ _ z=>z);refine a__ (c_4 (c_6 h₁ (λu s₂ ⟨e,oe,vs,oa,ws,ev,eu,nea,xT,xA,he,hc,hd,h1,h6,ha,hca,hda,ha2,neC,hE⟩=>a__ (a_4 ?_)) λ_ _ z=>z));subst ev eu;refine a__ (c_4 (eU_ xT he hc hd ?_));dsimp only;rw[a_5 Z2];refine a__ (c_4 (eU_ xA ha hca hda ?_));refine a__ (d_8 (i:=3) he hd (by rw[h6];decide) ?_);have d3:=d_4 hd λy=>y.setIfInBounds 3 (Value.ref a);have e3:=c_2 (Obj.mapFields λy=>y.setIfInBounds 3 (Value.ref a)) he (d_1 d3);have s3:=Heap.SameBut.update s₂.heap e (Obj.mapFields λy=>y.setIfInBounds 3 (Value.ref a))
 have c3:((Obj.mapFields λy=>y.setIfInBounds 3 (Value.ref a)) oe).cls=oe.cls/\((Obj.mapFields λy=>y.setIfInBounds 3 (Value.ref a)) oe).dict=oe.dict:=by
  obtain⟨c,dt,da,sl⟩:=oe;have:da=Data.fields vs:=hd;subst this;exact⟨rfl,rfl⟩
 refine a__ (d_8 (i:=4) e3 d3 (by rw[Array.size_setIfInBounds,h6];decide) ?_);have d4:=d_4 d3 λy=>y.setIfInBounds 4 (Value.bool true);have e4:=c_2 (Obj.mapFields λy=>y.setIfInBounds 4 (Value.bool true)) e3 (d_1 d4);have s4:=s3.trans (Heap.SameBut.update (s₂.heap.update e (Obj.mapFields λy=>y.setIfInBounds 3 (Value.ref a))) e (Obj.mapFields λy=>y.setIfInBounds 4 (Value.bool true)))
 have c4:((Obj.mapFields λy=>y.setIfInBounds 4 (Value.bool true)) ((Obj.mapFields λy=>y.setIfInBounds 3 (Value.ref a)) oe)).cls=oe.cls/\((Obj.mapFields λy=>y.setIfInBounds 4 (Value.bool true)) ((Obj.mapFields λy=>y.setIfInBounds 3 (Value.ref a)) oe)).dict=oe.dict:=by
  obtain⟨c,dt,da,sl⟩:=oe;have:da=Data.fields vs:=hd;subst this;exact⟨rfl,rfl⟩
 generalize hvs:(vs.setIfInBounds 3 (Value.ref a)).setIfInBounds 4 (Value.bool true)=vs4 at d4
 have v1:vs4[1]? = some Value.none:=by
  rw[<- hvs,Array.getElem?_setIfInBounds_ne (by decide),Array.getElem?_setIfInBounds_ne (by decide)];exact h1
 have z4:vs4.size=6:=by rw[<- hvs];simp[h6]
 generalize (Obj.mapFields λy=>y.setIfInBounds 4 (Value.bool true)) ((Obj.mapFields λy=>y.setIfInBounds 3 (Value.ref a)) oe)=o4 at d4 e4 c4;dsimp only at s4 e4 ⊢;generalize (s₂.heap.update e (Obj.mapFields λy=>y.setIfInBounds 3 (Value.ref a))).update e (Obj.mapFields λy=>y.setIfInBounds 4 (Value.bool true))=h4 at s4 e4 ⊢
 have hCT4:IsExc h4 CT:=by
  obtain⟨nm,q,N,bs,bm,hdct,sn,sub,ab,col,dd,k0,k1,k2,k3,k5,newId,g1,g2⟩:=xT;exact⟨nm,q,N,bs,bm,hdct,sn,sub,ab,col,dd,k0,k1,k2,k3,k5,newId,(s4.2 CT neC.symm).trans g1,g2⟩
 have ha4:=(s4.2 a nea.symm).trans ha;obtain⟨nm,q,N,bs,bm,hdct,sn,sub,ab,col,dd,k0,k1,k2,k3,k5,newId,hC,hbase⟩:=hCT4;have L0:Looks (model prog w) h4 (typeOf (.ref e)) (.ref CT):=(c4.1.trans hc)▸(Looks.ld e4).andThen .now;have Lc:Looks (model prog w) h4 (typeOf (.ref CT)) (.type "type"):=(Looks.ld hC).andThen .now
 have Li:Looks (model prog w) h4 (isType (.ref e)) false:=by
  unfold isType loadHead;refine (Looks.ld e4).andThen ?_;rw[d4];exact .now
 refine a__ (Li.at (wpAny_ite_false rfl (a__ ?_)));unfold raisedInstance;refine a__ (L0.at (a__ (Lc.at (wpAny_ite_true rfl (a_4 ?_)))));unfold setFlight;refine a__ (a__ (e_0 e4 d4 v1 (wpAny_ite_false rfl (a_4 ?_))));unfold raiseNew;refine a__ (wpAny_handled ?_);rw[hh];dsimp only;rw[b__ (by simpa using nea.symm)];refine a__ (c_4 (fo_ ha4 hda ha2 ?_));refine a__ (d_8 (a:=e) (i:=2) e4 d4 (by rw[z4];decide) (wpAny_throw ?_));have d5:=d_4 d4 λy=>y.setIfInBounds 2 (Value.ref a);have e5:=c_2 (Obj.mapFields λy=>y.setIfInBounds 2 (Value.ref a)) e4 (d_1 d5)
 have c5:((Obj.mapFields λy=>y.setIfInBounds 2 (Value.ref a)) o4).cls=o4.cls/\((Obj.mapFields λy=>y.setIfInBounds 2 (Value.ref a)) o4).dict=o4.dict:=by
  obtain⟨c,dt,da,sl⟩:=o4;have:da=Data.fields vs4:=d4;subst this;exact⟨rfl,rfl⟩
 exact hE _ _ _ e5 (c5.1.trans c4.1) (c5.2.trans c4.2) d5 (by rw[Array.getElem?_setIfInBounds_ne (by decide)];exact v1) (by simp[z4]) (s4.trans (Heap.SameBut.update _ _ _))
variable{base:Heap}
theorem FlC.d{cls cx:Aa}(f:FlC base l e cls cx Value.none h):∃a0,bp' base l e cls a0 none h:=by
 obtain⟨f1,f2,f3,oe,vs,T,oT,ts,he,⟨hc,hdd⟩,hd,h1,h2,hnT,hTe,hT,hdT,h3⟩:=f;have z:0<vs.size:=ar' (by decide) (aB'.mp h2).1;exact⟨vs[0],f1,f2,f3,oe,vs,T,oT,ts,he,⟨hc,Array.getElem?_eq_getElem z⟩,hd,h1,hnT,hTe,hT,hdT,h3,hdd⟩
variable{H:Hp}
theorem ly_{v:V}(I:Inv X pins σ H s)(hN:X.N[i]? = some x)(hl:X.env.scope.names.lookup x=some .local)(hσ:σ[i]? = some (some v))(h:∀u,RelV v u->Q u s)(hd:(x == ("__debug__":Str))=false:=by decide)(hcd:(x == ("__classdict__":Str))=false:=by decide):wpAny (model X.prog X.w) X.A (eval (.Name x pos) X.env) Q E s:=by
 obtain⟨m,hn,hl'⟩:=I.loc;obtain⟨u,r,l⟩:=hl' i x v hN hσ (.inl hl);have fin:=h u r;rcases l with⟨hk,hm⟩|⟨hk,c,hc,hcell⟩
 ·exact wpAny_Name (wpAny_loadName_local I.ok.kind hk hn hm fin) hd
 ·rcases hk with hk|hk
  ·exact wpAny_Name (wpAny_loadName_cell I.ok.kind hk hc hcell fin) hd
  ·exact wpAny_Name (wpAny_loadName_free I.ok.kind hk hc hcell fin hcd) hd
variable{E:XK}{s1:Ab}{B:Heap}
theorem h1_{T:Addr}{a0:Aa}(I:Inv X pins σ H s)(hex:X.ex=[])(hfs:X.fs=frs X.outer)(hst:X.stack=X.env::X.outer)(he:H e=none)(hT:H T=none)(ne:X.s₀.heap.get? e=none)(nT:X.s₀.heap.get? T=none)(os:s1.os=s.os)(bare:AllBare s1.gens)(hB:B=PySem.W.hideAll s.heap (e::T::frs X.stack))(up:s.heap.UpToSlots s1.heap)(fl:bp' B X.outer e (.ref C) a0 dd s1.heap)(hE:E (.ref C) dd H):CX2 X.prog X.w X.outer X.H₀ X.s₀ E (.ref e) s1:=by
 have un:=I.base;rw[hex,hfs] at un;have hok:=I.hok
 have fso:∀b∈frs X.outer,H b=none:=λb hb=>by
  refine I.stkFree b ?_;rw[hst];obtain⟨v,hv,e⟩:=aA'.mp hb;exact aA'.mpr ⟨v,aj' _ hv,e⟩
 have i:InB B X.outer H X.s₀.heap s.heap:=λb o q hb c=>by
  rw[hB]
  have nL:b≠X.env.locals:=by
   rcases c with z|⟨o0,z⟩
   ·intro y;rw[y,I.free] at z;cases z
   ·exact av' (ar' (a_6 z) I.ok.above)
  refine e_1 _ q λhm=>?_;rcases ah'.mp hm with z|hm
  ·rcases c with y|⟨o0,y⟩
   ·rw[z,he] at y;cases y
   ·rw[z,ne] at y;cases y
  rcases ah'.mp hm with z|hm
  ·rcases c with y|⟨o0,y⟩
   ·rw[z,hT] at y;cases y
   ·rw[z,nT] at y;cases y
  ·rcases ah'.mp (I.stkSub b hm) with z|z
   ·exact nL z
   ·exact hb (hfs▸z)
 have ff:s.heap.FunFrames B X.outer:=by
  have z:=PySem.W.funFrames_hide (as:=e::T::frs X.stack) I.stack (λenv he b hb=>aj' _ (aj' _ (aA'.mpr ⟨env,he,hb⟩)));rw[<- hB,hst] at z;exact z.2.2
 exact⟨e,_,_,B,a0,dd,rfl,os.trans I.os,bare,bm_ un ff i fl.1 up,b8_ hok fso i fl.1,fl,bx_ hok un i fl.1,hE⟩
def dQ'(X:Cx)(E:XK):Prop:=∀(pins:List (Addr × Obj)) (σ:St) (H:Hp) (s s':Ab) (e T C:Addr) (cx:Aa),Inv X pins σ H s->H e=none->H T=none->X.s₀.heap.get? e=none->X.s₀.heap.get? T=none->s'.os=s.os->AllBare s'.gens->FlC (PySem.W.hideAll s.heap (e::T::frs X.stack)) X.stack e (.ref C) cx (rawInt X.env.locals) s'.heap->s.heap.UpToSlots s'.heap->E (.ref C) none H->X.xe (.ref e) s'
variable{P:Ad}{K:F__}{mg:Str->Option Aa}{N:List Str}{qual:Str}{scope:Scope}{f:Addr}{cd:Aa}{outer:List Env}
theorem raisesT:dQ' (cxOf (CX2 P w) P w K mg base N qual scope f cd A outer s H E) E:=by
 intro pins σ H1 s1 s' e T C cx I he hT ne nT os bare fl up hE;show wpAny _ _ (leaving _ _) _ _ _;unfold leaving;refine a__ (bM_ rfl fl (setE (fr:=none) fl λh1 f1 up1=>?_));obtain⟨a0,fd⟩:=FlC.d (FlC.less f1);exact h1_ (s1:={ s' with heap:=h1 }) I rfl rfl rfl he hT ne nT os bare rfl (up.trans up1) fd hE
variable{fd:Ae}{ps:List Str}{k:Nat}{sp:Sp}
theorem Fun.okT{st:Stmt}(F:Fun K x qual st f fd)(S:a6' N ps (a5' st))(len:∀vs H Q E,sp vs H Q E->vs.length=ps.length)(hbody:∀(cdv:Aa) (A:Ag) (outer:List Env) (s:Ab) (H:Hp) (vs:List V) (Q:VK) (E:XK),Room k (A.deeper (envOfC qual (a5' st) s.heap.objs.size f cdv))->sp vs H Q E->
   by' (CX2 P w) (cxOf (CX2 P w) P w K mg base N qual (a5' st) f cdv A outer s H E) E->dQ' (cxOf (CX2 P w) P w K mg base N qual (a5' st) f cdv A outer s H E) E->dv' (cxOf (CX2 P w) P w K mg base N qual (a5' st) f cdv A outer s H E) E->
   ∃t,PSs (cxOf (CX2 P w) P w K mg base N qual (a5' st) f cdv A outer s H E) (bj' st) t/\t { nx:=λ_ H'=>Q .non H',rt:=Q } (start N vs) H):FnOk P w K mg base (CX2 P w) (k+1) f fd ps sp:=by
 obtain⟨oc,od,kV,doc,pm,an,cdv,ct,osl,rfl,lk,hcd⟩:=F.ex;refine kP_ lk hcd S len λA outer s H vs Q E hr hsp=>?_;obtain⟨t,h,q⟩:=hbody cdv A outer s H vs Q E hr hsp passes2 raisesT raises2;exact⟨t,h,q⟩
variable{E:Aa->Ab->Prop}{B initId newId:Ah}{N:Addr}{cpos:Pos}{nm q:Str}{bm bmB bs sub:List Aa}{ab hdct:Bool}{sn:List Str}{col:Option Bool}{k0 k1 k2 k3 k5:Option Aa}
theorem j6_(F:ExcBaseFacts B newId initId bmB){mN:Str->Option Aa}{args:List Expr}(hplain:(backTo cpos (starEach args env)).any (·.1)=false)(hni:mN "__init__"=none)(h:wpAny (model prog w) A (eval (.Name x np) env) (λf s₁=>f=.ref C/\wpAny (model prog w) A (evalArgs (.ref C) true (backTo cpos (starEach args env)) [])
   (λa s₂=>a.kw=[]/\a.pos.length<=sizeLine/\s₂.heap.get? C=some (excClassObj nm q C N bs bm hdct sn sub ab col dd k0 k1 k2 k3 k5 newId)/\s₂.heap.Ns N mN/\OwnTail s₂.heap bmB bm /\
    ∀h' e,Heap.MadeExcOf s₂.heap h' e (.ref C) a.pos->Q (.ref e) { s₂ with heap:=h' }) E s₁) E s) :
  wpAny (model prog w) A (eval (.Call (.Name x np) args [] cpos) env) Q E s:=by
 refine wpAny_Call_ofName (c_6 h (λf s₁ h₁=>?_) λ_ _ y=>y);obtain⟨rfl,h₁⟩:=h₁;unfold callWith;refine a__ (c_4 (c_6 h₁ (λa s₂ h₂=>a__ (wpAny_standAt ?_)) λ_ _ y=>y));obtain⟨apos,akw⟩:=a;obtain⟨hkw,hlen,hC,hn,T,h₂⟩:=h₂;obtain rfl:akw=[]:=hkw;obtain⟨hp,g,d,tk,os⟩:=s₂;simp only[hplain];refine a__ (wpAny_keeperOf_exc hC ?_);exact a__ (wpAny_call_exc_subT (hrest:=hlen) F T hC hn hni λh' e hm=>a__ (c_4 (wpAny_point (a_4 (h₂ h' e hm)))))
theorem ga_(X:K.In h)(q:PySem.W.excIn K C bmV "ValueError.__new__"=true):IsExc h C:=by
 obtain⟨bm,N,nm,q,bs,hdct,sn,sub,ab,col,dd,k0,k1,k2,k3,k5,mN,hC,_,_,T⟩:=(i2_ (x:="") (mg:=λ_=>some (.ref C)) X rfl q).obj;exact⟨nm,q,N,bs,bm,hdct,sn,sub,ab,col,dd,k0,k1,k2,k3,k5,_,hC,T.hasType PySem.F.excBase_ValueError.hasBase⟩
theorem Inv.more{ps:List (Addr × Obj)}(I:Inv X pins σ H s)(h:∀p∈ps,s.heap.get? p.1=some p.2/\H p.1=none/\p.1≠X.env.locals/\p.1∉X.fs/\∀v,p.2.data≠.cell v):Inv X (pins++ps) σ H s:=
 ⟨I.ok,I.os,I.bare,I.base,I.loc,I.cell,I.free,I.freeC,λp hp=>by
  rw[<- List.append_assoc] at hp;rcases aq'.mp hp with z|z
  ·exact I.pin p z
  ·exact h p z,I.hok,I.len⟩
def XF(C CT:Addr)(t:TA)(E:XK):XK:=λcls _ H'=>cls=.ref C/\∀σ:St,t σ H' λvs H1=>vs.length<=sizeLine/\E (.ref CT) none H1
def tTryF(C CT:Addr)(tb:XK->TS)(t:TA)(E:XK):TS:=λD σ H=>tb (XF C CT t E) D σ H
variable{E:XK}{xT:Str}{np2 np3 rpos:Pos}{e₀:Expr}{t:TA}
theorem fO_{e:Aa}(hN:X.N.Nodup)(hi:X.N[i]? = some n)(hl:X.env.scope.names.lookup n=some .local)(hst:X.stack=X.env::X.outer)(hfr:X.env.frame=some X.env.locals)(hex:X.ex=[])(hg:Gl X x)(hm:X.mg x=some (.ref D))(hx:PySem.W.exmOne X.K (.ref C) (.ref D)=some true)(RT:dQ' X E)(hgT:Gl X xT)(hmT:X.mg xT=some (.ref CT))(qT:PySem.W.excIn X.K CT bmV "ValueError.__new__"=true)(qA:PySem.W.excIn X.K C bmV "ValueError.__new__"=true)(ha:∀a,PA (X.inX a).nox [e₀] t)(I:Inv X pins σ H s)(hc:CX1 X.prog X.w X.stack H s (XF C CT t E) e s')(hd:(x == ("__debug__":Str))=false:=by decide)(hdT:(xT == ("__debug__":Str))=false:=by decide)(hdn:(n == ("__debug__":Str))=false:=by decide)(hcn:(n == ("__classdict__":Str))=false:=by decide)(he:starEach [e₀] X.env=(false,eval e₀ X.env)::starEach [] X.env:=by rfl)(hpl:(backTo cpos (starEach [e₀] X.env)).any (·.1)=false:=by rfl) :
  wpAny (model X.prog X.w) X.A (noteFrame e X.env) (λ_ s₂=>wpAny (model X.prog X.w) X.A (setFlight e none) (λ_ s₃=>
   wpAny (model X.prog X.w) X.A (handleBy e X.env [.ExceptHandler (some (.Name x np)) (some n) [.Raise (some (.Call (.Name xT np2) [e₀] [] cpos)) (some (.Name n np3)) rpos] hpos]) (SP X pins R) X.xe s₃) X.xe s₂) X.xe s':=by
 obtain⟨a,cls,H',B,a0,rfl,os,bare,un,hok,⟨_,fl⟩,i',rfl,hE⟩:=hc;have fr:=cf_ I un;have ff:=fl.2.2.1;refine noteE (base:=B) (outer:=X.outer) (by rw[I.ok.frames,hst]) hfr (by rw[<- hst];exact fl) λh₄ f4 up4=>?_;refine setE (fr:=none) f4 λh₅ fl5 up5=>?_;rw[<- hst] at fl5;have up45:=up4.trans up5;have un5:=bm_ un ff i' fl5.1 up45;have hok5:=b8_ hok fr i' fl5.1;have in5:=bx_ hok un i' fl5.1;have I5:Inv X pins σ H' { s' with heap:=h₅ }:=I.call' (s':={ s' with heap:=h₅ }) os un5 hok5 bare (λb z=>absurd z Z2);have J5:=I5.inX a;obtain⟨oe,vs5,he5,hce,_⟩:=fl5.obj;refine wpAny_handleBy_cons (codeAny_handlers_test (cl_ (X:=X.inX a) J5 hg hm ?_ hd)) (by intro q;cases q);refine (PySem.W.exm_one (K:=X.K) J5.kIn (by subst_eqs;exact hce▸(PySem.W.Looks.ld he5).andThen .now) hx).at ?_;refine codeAny_handlers_suite_as ?_;refine setE (fr:=none) (base:=B) (by exact fl5) λh₆ fl6 up6=>?_;have ff5:=fl5.2.2.1;have un6:=bm_ un5 ff5 in5 fl6.1 up6;have hok6:=b8_ hok5 fr in5 fl6.1;have in6:=bx_ hok5 un5 in5 fl6.1;have I6:Inv X pins σ H' { s' with heap:=h₆ }:=I.call' (s':={ s' with heap:=h₆ }) os un6 hok6 bare (λb z=>absurd z Z2);obtain⟨ox,vs,hx6,hcx,hdx,hddx,hv2⟩:=fl6.obj
 have nfr:a∉frs X.stack:=λhm=>by
  obtain⟨_,o,ho,d⟩:=fl6.2.2.1.mem hm;have ho:h₆.get? a=some o:=ho;rw[hx6] at ho;cases ho;exact d _ hdx
 have nB:B.get? a=none:=fl6.2.1
 have nH:H' a=none:=by
  cases q:H' a with
  |none=>rfl
  |some u=>
   have z:=in6 a ox hx6 nfr (.inl (by rw[q];rfl));rw[nB] at z;cases z
 have nS:s.heap.get? a=none:=by
  cases q:s.heap.get? a with
  |none=>rfl
  |some u=>
   have z:=in6 a ox hx6 nfr (.inr ⟨u,q⟩);rw[nB] at z;cases z
 have locIn:X.env.locals∈frs X.stack:=by
  rw[hst];exact aA'.mpr ⟨X.env,ap',hfr⟩
 have s0n:∀{b:Addr} {s2:Ab} {p2:List (Addr × Obj)} {σ2:St} {H2:Hp},Inv X p2 σ2 H2 s2->s2.heap.get? b=none->X.s₀.heap.get? b=none:=λ{b s2 p2 σ2 H2} I2 z=>by
  cases q:X.s₀.heap.get? b with
  |none=>rfl
  |some o=>
   obtain⟨o',y⟩:=I2.base.there b o q (by rw[hex];simp);rw[z] at y;cases y
 have nfs:∀{b:Addr},X.s₀.heap.get? b=none->b∉X.fs:=λ{b} z hb=>by
  obtain⟨_,o,ho,_⟩:=I.ok.funs.mem hb;rw[z] at ho;cases ho
 have I6p:Inv X (pins++[(a,ox)]) σ H' { s' with heap:=h₆ }:=I6.more λp hp=>by
  obtain rfl:=List.mem_singleton.mp hp;exact⟨hx6,nH,λz=>nfr ((show a=_ from z)▸locIn),nfs (s0n I nS),λv z=>by rw[hdx] at z;cases z⟩
 refine d8_ (X:=X.inX a) (v:=.ref a) (I6p.inX a) hN hi (.inl hl) rfl (λs8 I8=>?_) (.inr hl)
 have hσ:(σ.set i (some (.ref a)))[i]? = some (some (.ref a)):=by
  rw[List.getElem?_set_self];rw[I.len];exact (ac'.mp hi).1
 refine wpAny_execs_cons ?_;rw[arm_exec_Raise];show wpAny _ _ (do standAt rpos;raiseStmt X.env (some (do let v <- eval (.Call (.Name xT np2) [e₀] [] cpos) X.env;standAt rpos;pure v)) (some (do let v <- eval (.Name n np3) X.env;standAt rpos;pure v))) _ _ _;refine a__ (wpAny_standAt (gF_ (a:=a) (CT:=CT) (CA:=C) rfl ?_));have O:=i2_ I8.ok.mod.kin hmT qT;obtain⟨tl,N,nm,qn,bs,hdct,sn,sub,ab,col,dd,k0,k1,k2,k3,k5,mN,hC,hNN,hni,TT⟩:=O.obj;refine a__ (c_6 (j6_ (C:=CT) (nm:=nm) (q:=qn) (N:=N) (bs:=bs) (bm:=tl) (hdct:=hdct) (sn:=sn) (sub:=sub) (ab:=ab) (col:=col) (dd:=dd) (k0:=k0) (k1:=k1) (k2:=k2) (k3:=k3) (k5:=k5) a_8 (mN:=mN) hpl hni (cl_ (X:=X.inX a) I8 hgT O.bound ⟨rfl,?_⟩ hdT)) (λv s₁ q=>a__ (wpAny_standAt (a_4 q))) λ_ _ y=>y);have ha':=ha a cpos (pins++[(a,ox)]) s8 _ _ _ (I8.wish _) (hE (σ.set i (some (.ref a))));rw[he] at ha' ⊢;refine Calls.evalArgs_plain (c_6 ha' (λus s₂ ⟨vs',H1,I1,r,z,q⟩=>⟨rfl,by rw[<- r.length];exact z,I1.bk _ _ hC,hNN.keeps I1.bk,TT.keeps I1.bk,λh' e2 hm2=>?_⟩) λ_ _ y=>False.elim y);have I1:=I1.unwish;have I1x:Inv X (pins++[(a,ox)]) (σ.set i (some (.ref a))) H1 s₂:=I1.outX I.ok;have ha2:s₂.heap.get? a=some ox:=(I1.pin (a,ox) Z2).1;have na2:H1 a=none:=(I1.pin (a,ox) Z2).2.1;obtain⟨t2,he2,_,_⟩:=hm2.there;have ne2:=hm2.new
 have nHe:H1 e2=none:=by
  cases q:H1 e2 with
  |none=>rfl
  |some u=>
   obtain⟨u',y⟩:=(I1.hok e2 u q).here;rw[ne2] at y;cases y
 have e2a:e2≠a:=λy=>by rw[y,ha2] at ne2;cases ne2
 have e2C:e2≠CT:=λy=>by rw[y,I1.bk _ _ hC] at ne2;cases ne2
 have I2:Inv (X.inX a) (pins++[(a,ox)]) (σ.set i (some (.ref a))) H1 { s₂ with heap:=h' }:=I1.call' (s':={ s₂ with heap:=h' }) (ch:=[]) rfl (Un.kept hm2.keeps) (I1.hok.kept hm2.keeps) I1.bare (λb z=>absurd z Z2);refine a__ (ly_ (X:=X.inX a) I2 hi hl hσ (λu ru=>a__ (wpAny_standAt (a_4 ?_))) hdn hcn);obtain rfl:u=Value.ref a:=ru;refine⟨e2,_,_,ox,vs,rfl,rfl,e2a,ga_ I2.kIn qT,ga_ I2.kIn qA,he2,rfl,rfl,rfl,rfl,hm2.keeps _ _ ha2,hcx,hdx,hv2,e2C,λh7 oe7 vs7 g1 g2 g3 g4 g5 g6 sb=>?_⟩
 have keep7:∀b o,s₂.heap.get? b=some o->h7.get? b=some o:=λb o y=>by
  rw[sb.2 b (λz=>by rw[z,ne2] at y;cases y)];exact hm2.keeps b o y
 have un7:Un (frs X.stack) [] H1 H1 s₂.heap h7:=Un.kept keep7;have hok7:HOk X.prog X.w H1 h7:=I1.hok.kept keep7;have I7:Inv X (pins++[(a,ox)]) (σ.set i (some (.ref a))) H1 { s₂ with heap:=h7 }:=I1x.call' (s':={ s₂ with heap:=h7 }) (ch:=[]) rfl un7 hok7 I1.bare (λb z=>absurd z Z2);have ff7:h7.FunFrames (PySem.W.hideAll h7 (e2::frs X.stack)) X.stack:=PySem.W.funFrames_hide (as:=e2::frs X.stack) I7.stack (λenv he b hb=>aj' _ (aA'.mpr ⟨env,he,hb⟩))
 have in7:InB (PySem.W.hideAll h7 (e2::frs X.stack)) X.stack H1 s₂.heap h7:=λb o y hb c=>e_1 _ y λhm=>by
  rcases ah'.mp hm with z|z
  ·rcases c with c|⟨o0,c⟩
   ·rw[z,nHe] at c;cases c
   ·rw[z,ne2] at c;cases c
  ·exact hb z
 have frS:X.A.frames=some (X.env::X.outer):=by rw[I.ok.frames,hst]
 have fr1:=cf_ I1x un7;unfold noteFrame;rw[hfr];dsimp only;refine a__ (e_0 g1 g4 g5 ?_);rw[a_5 Z2];refine entryE (base:=PySem.W.hideAll h7 (e2::frs X.stack)) (outer:=X.outer) (s:={ s₂ with heap:=h7 }) frS (by rw[<- hst];exact ff7) hfr g1 (λb o y=>PySem.W.of_hideAll _ y) (PySem.W.hideAll_none _ ap') g4 g3 g6 λh9 fl9 up9=>?_;rw[<- hst] at fl9;rw[g2] at fl9;have I9:Inv X (pins++[(a,ox)]) (σ.set i (some (.ref a))) H1 { s₂ with heap:=h9 }:=I1x.call' (s':={ s₂ with heap:=h9 }) (ch:=[]) rfl (bm_ un7 ff7 in7 fl9.1 up9) (b8_ hok7 fr1 in7 fl9.1) I1.bare (λb z=>absurd z Z2);obtain⟨q1,q2,q3,o9,v9,T,oT,ts,k1,⟨kc,kd⟩,k2,k3,k4,k5',k6,k7,k8,k9⟩:=id fl9
 have nT2:s₂.heap.get? T=none:=by
  cases y:s₂.heap.get? T with
  |none=>rfl
  |some o=>
   have y7:=keep7 T o y
   have hT:T∉e2::frs X.stack:=λhm=>by
    rcases ah'.mp hm with z|z
    ·exact k6 z
    ·obtain⟨_,o',ho',d'⟩:=q3.mem z;rw[k7] at ho';cases ho';exact d' _ k8
   rw[e_1 _ y7 hT] at k5';cases k5'
 have nHT:H1 T=none:=by
  cases y:H1 T with
  |none=>rfl
  |some u=>
   obtain⟨u',z⟩:=(I1.hok T u y).here;rw[nT2] at z;cases z
 have e0:=s0n I1x ne2;have T0:=s0n I1x nT2
 have I9p:Inv X ((pins++[(a,ox)])++[(e2,o9),(T,oT)]) (σ.set i (some (.ref a))) H1 { s₂ with heap:=h9 }:=I9.more λp hp=>by
  have lo:∃o,s₂.heap.get? X.env.locals=some o:=by
   obtain⟨m,hn,_⟩:=I1x.loc;obtain⟨o,_,_,ho,_⟩:=hn;exact⟨o,ho⟩
  obtain⟨oL,hoL⟩:=lo;rcases ah'.mp hp with rfl|hp
  ·exact⟨k1,nHe,λz=>(by rw[show e2=X.env.locals from z,hoL] at ne2;cases ne2),nfs e0,λv z=>(by have z:o9.data=_:=z;rw[k2] at z;cases z)⟩
  ·obtain rfl:=List.mem_singleton.mp hp;exact⟨k7,nHT,λz=>(by rw[show T=X.env.locals from z,hoL] at nT2;cases nT2),nfs T0,λv z=>(by have z:oT.data=_:=z;rw[k8] at z;cases z)⟩
 refine dx_ (X:=X) (A:=(X.inX a).A) I9p hN hi hl λs10 I10=>?_;have p1:s10.heap.get? e2=some o9:=(I10.pin (e2,o9) Z2).1;have p2:s10.heap.get? T=some oT:=(I10.pin (T,oT) Z2).1
 have hf10:FlC (PySem.W.hideAll s10.heap (e2::T::frs X.stack)) X.stack e2 (.ref CT) (.ref a) (rawInt X.env.locals) s10.heap:=
  ⟨λb o y=>PySem.W.of_hideAll _ y,PySem.W.hideAll_none _ ap',PySem.W.funFrames_hide (as:=e2::T::frs X.stack) I10.stack (λenv he b hb=>aj' _ (aj' _ (aA'.mpr ⟨env,he,hb⟩))),o9,v9,T,oT,ts,p1,⟨kc,kd⟩,k2,k3,k4,PySem.W.hideAll_none _ (aj' _ ap'),k6,p2,k8,k9⟩
 unfold PySem.passOn;refine a__ (e_0 p1 k2 k3 ?_);rw[a_5 Z2];rw[hfr];refine a__ (setE (fr:=some X.env.locals) hf10 λh11 f11 up11=>wpAny_throw ?_);unfold notedBy;refine bM_ hfr f11 ?_;show cameBackBy _ _ _ _ _ _;exact f6_ hfr f11 λh12 f12 up12=>RT _ _ _ s10 { s10 with heap:=h12 } e2 T CT (.ref a) I10 nHe nHT e0 T0 rfl I10.bare f12 (up11.trans up12) q
theorem fB_(hN:X.N.Nodup)(hi:X.N[i]? = some n)(hl:X.env.scope.names.lookup n=some .local)(hst:X.stack=X.env::X.outer)(hfr:X.env.frame=some X.env.locals)(hex:X.ex=[])
  (hg:Gl X x) (hm:X.mg x=some (.ref D)) (hx:PySem.W.exmOne X.K (.ref C) (.ref D)=some true) (RT:dQ' X E) (hgT:Gl X xT) (hmT:X.mg xT=some (.ref CT)) (qT:PySem.W.excIn X.K CT bmV "ValueError.__new__"=true) (qA:PySem.W.excIn X.K C bmV "ValueError.__new__"=true) (ha:∀a,PA (X.inX a).nox [e₀] t)
  (hb:∀(E':XK) (W:Aa->Ab->Prop) (pn:List (Addr × Obj)),by' (CX1 X.prog X.w) (X.atW W pn) E'->PSs (X.atW W pn) body (tb E')) (hd:(x == ("__debug__":Str))=false:=by decide) (hdT:(xT == ("__debug__":Str))=false:=by decide) (hdn:(n == ("__debug__":Str))=false:=by decide) (hcn:(n == ("__classdict__":Str))=false:=by decide)
  (he:starEach [e₀] X.env=(false,eval e₀ X.env)::starEach [] X.env:=by rfl) (hpl:(backTo cpos (starEach [e₀] X.env)).any (·.1)=false:=by rfl) :
  PS X (.Try body [.ExceptHandler (some (.Name x np)) (some n) [.Raise (some (.Call (.Name xT np2) [e₀] [] cpos)) (some (.Name n np3)) rpos] hpos] [] [] pos) (tTryF C CT tb t E):=by
 intro pins s σ H R I h;have hb':=hb (XF C CT t E) (λe s'=>∃σ H s,Inv X pins σ H s/\CX1 X.prog X.w X.stack H s (XF C CT t E) e s') (X.pn++pins) (λp2 σ2 H2 s2 e s' I2 hc=>⟨σ2,H2,s2,I2.ofAt I.ok,hc⟩);refine wpAny_Try_except (c_6 (hb' [] s σ H R (I.toAt _) h) (λf s1 q=>?_) λe s1 ⟨σ',H',s0,I0,hc⟩=>fO_ hN hi hl hst hfr hex hg hm hx RT hgT hmT qT qA ha I0 hc hd hdT hdn hcn he hpl);cases f with
 |next=>
  obtain⟨σ',H',I',q⟩:=q;exact wpAny_execs_nil ⟨σ',H',I'.ofAt I.ok,q⟩
 |ret v=>
  obtain⟨v',σ',H',I',r,q⟩:=q;exact⟨v',σ',H',I'.ofAt I.ok,r,q⟩
 |brk=>
  obtain⟨σ',H',I',q⟩:=q;exact⟨σ',H',I'.ofAt I.ok,q⟩
 |cont=>
  obtain⟨σ',H',I',q⟩:=q;exact⟨σ',H',I'.ofAt I.ok,q⟩
theorem FnOk.two{CX:CXT}{sp1 sp2:Sp}(F:FnOk P w K mg base CX k f fd ps sp1)(G:FnOk P w K mg base CX k f fd ps sp2)(h:∀vs H Q E,sp vs H Q E->sp1 vs H Q E∨sp2 vs H Q E):FnOk P w K mg base CX k f fd ps sp:=
 ⟨λvs H Q E q=>(h vs H Q E q).elim (F.len vs H Q E) (G.len vs H Q E),λA outer s H args us vs Q E hr e b v q=>(h vs H Q E q).elim (F.run A outer s H args us vs Q E hr e b v) (G.run A outer s H args us vs Q E hr e b v)⟩
end L2
namespace Ev
open PySem L2
structure GoodHs (hs:Xa):Prop where
 hok:∀h∈hs,goodH h
 hnd:(hs.map (·.1)).Nodup
 h1:1<=hs.length
 h8:hs.length<=8
structure d7' (ts:Xb):Prop where
 tok:∀t∈ts,da' t
 tnd:(ts.map λt=>kT (ord2 t.1 t.2)).Nodup
variable{i:Nat}
theorem cI_{α:Type}{p:α->Prop}{xs:List α}{x:α}(h:∀y∈xs.take i,p y)(hx:xs[i]? = some x)(px:p x):∀y∈xs.take (i+1),p y:=λy hy=>by
 rw[aI',hx] at hy;rcases aq'.mp hy with z|z
 ·exact h y z
 ·rw[show y=x by simpa using z];exact px
theorem fy_{α β:Type}{g:α->β}{xs:List α}{x:α}(h:((xs.take i).map g).Nodup)(hx:xs[i]? = some x)(nx:g x∉(xs.take i).map g):((xs.take (i+1)).map g).Nodup:=by
 rw[ay_ g hx,List.nodup_append];refine⟨h,by simp,λa ha b hb e=>?_⟩;rw[show b=g x by simpa using hb] at e;exact nx (e▸ha)
variable{f:Addr}{fd:Ae}{tk:Tok}
section
variable{P:Ad}{w:Af}{K:F__}{mg:Str->Option Aa}{base:Heap}
def spStrT(K:F__)(CN:Addr):Sp:=λvs H _ E=>∃(l:Addr) (ys:List V) (hs:Xa),vs=[.ref l]/\H l=some (.lst ys)/\a8' K H ys (hs.map kH)/\(∀h∈hs,h.1.length<=100000)/\¬GoodHs hs/\∀H',Same H H'->E (.ref CN) none H'
theorem kv_{CN:Addr}(F:Fun K "checked_strengths" "checked_strengths" sStr f fd)(B:Bi mg)(R:Ref K mg "NoWeb" CN)(cH:Cal P w K mg base 3 "is_hand_with_strength" ["thing"] eG')(mH:mg "MOST_HANDS"=some (.int 8 tk)):FnOk P w K mg base (CX1 P w) 4 f fd ["hands"] (spStrT K CN):=by
 refine F.okQ eX' (λvs H Q E h=>?_) (λcdv A outer s H vs Q E hr h own ps rs=>?_)
 ·obtain⟨l,ys,hs,rfl,_⟩:=h;rfl
 ·obtain⟨l,ys,hs,rfl,hl,tu,ln,bad,k⟩:=h;have hu:=bn_ hr;have sz:=a_9;have le:=a_3 tu;rw[aa'] at le;refine' ⟨_,a3_ ?s1 (a3_ ?s2 (a3_ ?s3 ab_)),?kk⟩
  case s1=>exact ak_ (cm_ (ax_ (az_ (a6_ aH_ (by rfl) B.isi PyProof.Rows.Boot.«isinstance» (a0_ (pv 0) (a0_ (aV_ (v:=.ty "list") (by rfl) B.list PyProof.Rows.Boot.«list» rfl) a2_)))))
    (bI_ (ax_ (dc_ cp_ cp_ a4_ (a6_ ai_ (by rfl) B.len b_3 (a0_ (pv 0) a2_)) (b5_ (v:=.int 8) (by rfl) mH ⟨tk,rfl⟩))))).pt (a5_ (aJ_ rfl rs R.mg R.ex a_8 (by rfl) (a0_ a7_ a2_))) aa_
  case s2=>exact ae_ (i:=1) eX'.nd rfl (Or.inl rfl) cz_
  case' s3=>refine' b2_ own rfl (am_ (pv 0)) (ac_ (i:=2) eX'.nd rfl (Or.inl rfl)) (a3_ ?b1 (a3_ ?b2 (a5_ ?b3)))
  case b1=>exact ak_ (ax_ (az_ (al_ cH hr (a0_ (pv 2) a2_)))) (a5_ (aJ_ rfl rs R.mg R.ex a_8 (by rfl) (a0_ a7_ a2_))) aa_
  case b2=>exact ak_ (bb_ (cx_ hu (ag_ aL_ (pv 2) a4_ (λ_ _=>rfl)) (pv 1))) (a5_ (aJ_ rfl rs R.mg R.ex a_8 (by rfl) (a0_ a7_ a2_))) aa_
  case b3=>exact ct_ hu (pv 1) (ag_ aL_ (pv 2) a4_ (λ_ _=>rfl)) (ag_ aL_ (pv 2) a4_ (λ_ _=>rfl)) rfl
  case' kk=>skip
  have fin:∀H',Same H H'->1<=sizeLine/\E (.ref CN) none H':=λH' s=>⟨by decide,k H' s⟩;refine⟨_,rfl,_,_,_,_,rfl,.lst hl,rfl,_,rfl,iteF ?_⟩;refine⟨_,rfl,l,_,rfl,.inl (.of hl),_,_,rfl,rfl,_,rfl,?_⟩;by_cases c1:(1:Int)<=(ys.length:Int);rotate_left 1
  ·rw[a_2 c1];exact iteF ⟨_,rfl,iteT (fin H (Same.refl H))⟩
  rw[a_1 c1];refine iteT ⟨_,_,rfl,rfl,_,rfl,?_⟩;by_cases c8:(ys.length:Int)<=8;rotate_left 1
  ·rw[a_2 c8];exact iteT (fin H (Same.refl H))
  rw[a_1 c8];refine iteF ?_;intro d hd;have s0:Same H (upd H d (.dK [])):=Same.new hd;refine⟨_,rfl,l,rfl,⟨_,.of (s0 _ _ hl)⟩,aX_ (K:=K) (a:=l) (xs:=ys) (λi σ H2=>∃(v2:Option V),σ=[some (.ref l),some (.ref d),v2]/\Same H H2/\(∀h∈hs.take i,goodH h)/\((hs.take i).map (·.1)).Nodup/\H2 d=some (.dK ((hs.take i).map λh=>(Sum.inr h.1,V.int h.2)))) ⟨none,rfl,s0,λh hh=>by simp at hh,by simp,a1_⟩ (λi σ H2 _ ⟨_,_,s2,_⟩=>.of (s2 _ _ hl)) ?_ ?_⟩
  ·rintro i y σ H2 hy ⟨v2,rfl,s2,ga,gn,hd2⟩;obtain⟨t,ht,a,rfl,ha⟩:=aQ_ tu hy;have ha2:=s2 _ _ (hpH ha);refine⟨_,rfl,a,t.1,t.2,rfl,ha2,ln t (ae' ht),λH3 s3=>⟨_,rfl,?_⟩⟩;cases gb:(ba' t.1&&(decide (1<=t.2)&&decide (t.2<=1000))) with
   |false=>exact iteT (fin H3 (s2.trans s3))
   |true=>
    refine iteF ?_
    have g:goodH t:=by
     simp only[au',b_1] at gb;exact gb
    have ha3:=s3 _ _ ha2;have hd3:=s3 _ _ hd2;refine⟨_,rfl,a,_,_,_,rfl,rfl,.of ha3,rfl,_,rfl,d,_,rfl,.k (k:=Sum.inr t.1) hd3,_,rfl,?_⟩;by_cases nx:t.1∈(hs.take i).map (·.1)
    ·rw[c3_ (by
      rw[ak'];obtain⟨h,hh,eh⟩:=ab'.mp nx;exact ab'.mpr ⟨h,hh,by rw[<- eh];rfl⟩)]
     exact iteT (fin H3 (s2.trans s3))
    ·have nov:valV ((hs.take i).map λh=>((Sum.inr h.1:Key),V.int h.2)) (Sum.inr t.1)=none:=aN_ (by
      rw[ak'];intro m;obtain⟨h,hh,e⟩:=ab'.mp m;exact nx (ab'.mpr ⟨h,hh,c_3 e⟩))
     rw[nov];refine iteF ?_;refine⟨_,rfl,a,_,_,_,rfl,rfl,.of ha3,rfl,_,rfl,_,rfl,a,_,_,_,rfl,rfl,.of ha3,rfl,d,_,rfl,.k (k:=Sum.inr t.1) hd3 (by rw[aa',af'];omega),?_⟩;refine⟨_,rfl,λc o e=>?_,cI_ ga ht g,fy_ gn ht nx,?_⟩
     ·rw[a8_ (a9_ e hd)];exact s3 _ _ (s2 _ _ e)
     ·rw[a1_,by_ _ nov,ay_ _ ht]
  ·rintro σ H2 ⟨v2,rfl,s2,ga,gn,hd2⟩;rw[le,ao'] at ga gn;exact absurd ⟨ga,gn,by omega,by omega⟩ bad
def spSortT(K:F__):Sp:=λvs H Q _=>∃(l:Addr) (ys:List V) (ts:Xb),vs=[.ref l]/\H l=some (.lst ys)/\a8' K H ys (ts.map kT)/\(∀t∈ts,t.1.length<=100000/\t.2.length<=100000)/\ts.length<64/\¬d7' ts/\∀H',Same H H'->Q .non H'
theorem jv_(F:Fun K "sorted_ties" "sorted_ties" dB' f fd)(B:Bi mg)(cP:Cal P w K mg base 2 "is_pair_of_names" ["thing"] eI')(cL:Cal P w K mg base 1 "lesser_first" ["one","other"] ci'):FnOk P w K mg base CX0 3 f fd ["ties"] (spSortT K):=by
 refine F.ok bI' (λvs H Q E h=>?_) (λcdv A outer s H vs Q E hr h=>?_)
 ·obtain⟨l,ys,ts,rfl,_⟩:=h;rfl
 ·obtain⟨l,ys,ts,rfl,hl,tu,ln,h64,bad,k⟩:=h;have hu:=bn_ hr;have hr1:Room 1 _:=hr.mono (by decide);have sz:=a_9;have le:=a_3 tu;rw[aa'] at le
  refine⟨_,a3_ (ak_ (ax_ (az_ (a6_ aH_ (by rfl) B.isi PyProof.Rows.Boot.«isinstance» (a0_ (pv 0) (a0_ (aV_ (v:=.ty "list") (by rfl) B.list PyProof.Rows.Boot.«list» rfl) a2_))))) ab_ aa_)
   (a3_ (ae_ (i:=1) bI'.nd rfl (Or.inl rfl) gw_)
   (a3_ (b2_ c_0 rfl (am_ (pv 0)) (ac_ (i:=2) bI'.nd rfl (Or.inl rfl))
    (a3_ (ak_ (ax_ (az_ (al_ cP hr (a0_ (pv 2) a2_)))) (a5_ (af_ dC_)) aa_)
    (a3_ (ae_ (i:=3) bI'.nd rfl (Or.inl rfl) (al_ cL hr1 (a0_ (ag_ aL_ (pv 2) a4_ (λ_ _=>rfl)) (a0_ (ag_ aL_ (pv 2) a4_ (λ_ _=>rfl)) a2_))))
    (a3_ (ak_ (bb_ (cx_ hu (pv 3) (pv 1))) (a5_ (af_ dC_)) aa_)
    (a5_ (ct_ hu (pv 1) (pv 3) cr_ rfl))))))
   ab_)),?_⟩
  refine⟨_,rfl,_,_,_,_,rfl,.lst hl,rfl,_,rfl,iteF ?_⟩;intro d hd;have s0:Same H (upd H d (.dT [])):=Same.new hd;refine⟨_,rfl,l,rfl,⟨_,.of (s0 _ _ hl)⟩,aX_ (K:=K) (a:=l) (xs:=ys) (λi σ H2=>∃(v3 v4:Option V),σ=[some (.ref l),some (.ref d),v3,v4]/\Same H H2/\(∀t∈ts.take i,da' t)/\((ts.take i).map λt=>kT (ord2 t.1 t.2)).Nodup/\H2 d=some (.dT ((ts.take i).map λt=>(kT (ord2 t.1 t.2),V.bl true)))) ⟨none,none,rfl,s0,λh hh=>by simp at hh,by simp,a1_⟩ (λi σ H2 _ ⟨_,_,_,s2,_⟩=>.of (s2 _ _ hl)) ?_ ?_⟩
  ·rintro i y σ H2 hy ⟨v3,v4,rfl,s2,ga,gn,hd2⟩;obtain⟨t,ht,a,rfl,ha⟩:=aQ_ tu hy;have ha2:=s2 _ _ (hpT ha);have lt:=ln t (ae' ht);refine⟨_,rfl,a,t.1,t.2,rfl,ha2,lt.1,lt.2,λH3 s3=>⟨_,rfl,?_⟩⟩;have ha3:=s3 _ _ ha2;have hd3:=s3 _ _ hd2;cases gb:(ba' t.1&&ba' t.2&&!decide (t.1=t.2)) with
   |false=>exact iteT (k _ (s2.trans s3))
   |true=>
    refine iteF ?_
    have g:da' t:=by
     simp only[au',Bool.not_eq_true',decide_eq_false_iff_not] at gb;exact⟨gb.1.1,gb.1.2,gb.2⟩
    refine⟨_,rfl,a,_,_,_,rfl,rfl,.of ha3,rfl,_,rfl,a,_,_,_,rfl,rfl,.of ha3,rfl,t.1,t.2,rfl,λb hb=>?_⟩;have s4:Same H3 (upd H3 b (.tup [.str (ord2 t.1 t.2).1,.str (ord2 t.1 t.2).2])):=Same.new hb;have hd4:=s4 _ _ hd3;have hb4:upd H3 b (.tup [.str (ord2 t.1 t.2).1,.str (ord2 t.1 t.2).2]) b=some (.tup ((kT (ord2 t.1 t.2)).map kV)):=a1_;refine⟨_,rfl,_,rfl,d,_,rfl,.t (k:=kT (ord2 t.1 t.2)) hd4 hb4,_,rfl,?_⟩;by_cases nx:kT (ord2 t.1 t.2)∈(ts.take i).map λt=>kT (ord2 t.1 t.2)
    ·rw[c3_ (by rw[ak'];exact nx)];exact iteT (k _ ((s2.trans s3).trans s4))
    ·have nov:valV ((ts.take i).map λt=>(kT (ord2 t.1 t.2),V.bl true)) (kT (ord2 t.1 t.2))=none:=aN_ (by rw[ak'];exact nx);rw[nov];refine iteF ?_;refine⟨_,rfl,_,rfl,d,_,rfl,.t (k:=kT (ord2 t.1 t.2)) hd4 hb4 (by rw[aa',af'];omega),?_⟩;refine⟨_,_,rfl,λc o e=>?_,cI_ ga ht g,fy_ gn ht nx,?_⟩
     ·rw[a8_ (a9_ e hd)];exact s4 _ _ (s3 _ _ (s2 _ _ e))
     ·rw[a1_,by_ _ nov,ay_ _ ht]
  ·rintro σ H2 ⟨v3,v4,rfl,s2,ga,gn,hd2⟩;rw[le,ao'] at ga gn;exact absurd ⟨ga,gn⟩ bad
def ek'(K:F__):Sp:=λvs H Q E=>cq' K vs H Q E∨spSortT K vs H Q E
inductive eJ' (K:F__) (CN:Addr) (vs:List V) (H:Hp) (E:XK):Prop
 |mk:∀(l d:Addr) (ys:List V) (ts:Xb) (kvs:List (Key × V)),vs=[.ref l,.ref d]->H l=some (.lst ys)->a8' K H ys (ts.map kT)->(∀t∈ts,t.1.length<=100000/\t.2.length<=100000)->ts.length<64->H d=some (.dK kvs)->¬(d7' ts/\∀t∈ts,(valV kvs (Sum.inr t.1)).isSome=true/\(valV kvs (Sum.inr t.2)).isSome=true)->(∀H',Same H H'->E (.ref CN) none H')->eJ' K CN vs H E
def em'(K:F__)(CN:Addr):Sp:=λvs H _ E=>eJ' K CN vs H E
theorem jf_{CN:Addr}(F:Fun K "checked_ties" "checked_ties" sTies f fd)(R:Ref K mg "NoWeb" CN)(cS:Cal P w K mg base 3 "sorted_ties" ["ties"] (ek' K)):FnOk P w K mg base (CX1 P w) 4 f fd ["ties","strengths"] (em' K CN):=by
 refine F.okQ cG' (λvs H Q E h=>?_) (λcdv A outer s H vs Q E hr h own ps rs=>?_)
 ·obtain⟨l,d,ys,ts,kvs,rfl,_⟩:=h;rfl
 ·obtain⟨l,d,ys,ts,kvs,rfl,hl,tu,ln,h64,hd,bad,k⟩:=h;have hu:=bn_ hr
  refine⟨_,a3_ (ae_ (i:=2) cG'.nd rfl (Or.inl rfl) (al_ cS hr (a0_ (pv 0) a2_)))
   (a3_ (ak_ (bb_ (d0_ (pv 2))) (a5_ (aJ_ rfl rs R.mg R.ex a_8 (by rfl) (a0_ a7_ a2_))) aa_)
   (a3_ (b2_ own rfl (am_ (pv 2)) (ch_ rfl (aj_ (ac_ (i:=3) cG'.nd rfl (Or.inl rfl)) (aj_ (ac_ (i:=4) cG'.nd rfl (Or.inl rfl)) b3_)))
    (a5_ (ak_ (cm_ (bb_ (cG_ hu (pv 3) (pv 1))) (bI_ (bb_ (cG_ hu (pv 4) (pv 1))))).pt (a5_ (aJ_ rfl rs R.mg R.ex a_8 (by rfl) (a0_ a7_ a2_))) aa_)))
   ab_)),?_⟩
  have fin:∀H',Same H H'->1<=sizeLine/\E (.ref CN) none H':=λH' s=>⟨by decide,k H' s⟩;by_cases gd:d7' ts;rotate_left 1
  ·refine⟨_,rfl,.inr ⟨l,ys,ts,rfl,hl,tu,ln,h64,gd,λH1 s1=>?_⟩⟩;exact⟨_,rfl,_,rfl,iteT (fin H1 s1)⟩
  refine⟨_,rfl,.inl ⟨l,ys,ts,rfl,hl,tu,gd.tok,gd.tnd,h64,λl' zs H1 s1 hf hl1 tz=>?_⟩⟩;refine⟨_,rfl,_,rfl,iteF ?_⟩;have hd1:=s1 _ _ hd;have ez:=a_3 tz;refine⟨_,rfl,l',rfl,⟨_,.of hl1⟩,aX_ (K:=K) (a:=l') (xs:=zs) (λi σ H2=>∃(v3 v4:Option V),σ=[some (.ref l),some (.ref d),some (.ref l'),v3,v4]/\H2=H1/\∀q∈(sortKs (ts.map λt=>kT (ord2 t.1 t.2))).take i,∀c∈q,(valV kvs c).isSome=true) ⟨none,none,rfl,rfl,λq hq=>by simp at hq⟩ (λi σ H2 _ ⟨_,_,_,e,_⟩=>by subst e;exact .of hl1) ?_ ?_⟩
  ·rintro i y σ H2 hy ⟨v3,v4,rfl,rfl,ga⟩;have hi:i<zs.length:=(ac'.mp hy).1;have hi':i<(sortKs (ts.map λt=>kT (ord2 t.1 t.2))).length:=by omega
   obtain⟨a,e,ha⟩:=aC_ tz i hi hi';rw[(ac'.mp hy).2] at e;subst e;have hq:(sortKs (ts.map λt=>kT (ord2 t.1 t.2)))[i]? = some ((sortKs (ts.map λt=>kT (ord2 t.1 t.2)))[i]'hi'):=ad' hi';obtain⟨t,ht,e⟩:=ab'.mp ((aw_ _).mem_iff.mp (List.getElem_mem hi'));rw[<- e] at ha hq;refine⟨a,_,rfl,.of (hpT ha),rfl,_,_,rfl,_,_,rfl,rfl,?_⟩;refine⟨_,rfl,_,rfl,d,_,rfl,.k (k:=Sum.inr (ord2 t.1 t.2).1) hd1,_,rfl,?_⟩;cases b1:(valV kvs (Sum.inr (ord2 t.1 t.2).1)).isSome with
   |false=>exact iteT (fin _ s1)
   |true=>
    refine iteF ?_;refine⟨_,rfl,_,rfl,d,_,rfl,.k (k:=Sum.inr (ord2 t.1 t.2).2) hd1,_,rfl,?_⟩;cases b2:(valV kvs (Sum.inr (ord2 t.1 t.2).2)).isSome with
    |false=>exact iteT (fin _ s1)
    |true=>
     refine iteF ⟨_,_,rfl,rfl,cI_ ga hq λc hc=>?_⟩;have hc:c=Sum.inr (ord2 t.1 t.2).1∨c=Sum.inr (ord2 t.1 t.2).2:=by simpa [kT] using hc
     rcases hc with rfl|rfl
     ·exact b1
     ·exact b2
  ·rintro σ H2 ⟨v3,v4,rfl,rfl,ga⟩;rw[ez,ao'] at ga;refine absurd ⟨gd,λt ht=>?_⟩ bad;have hm:kT (ord2 t.1 t.2)∈sortKs (ts.map λt=>kT (ord2 t.1 t.2)):=(aw_ _).mem_iff.mpr (ab'.mpr ⟨t,ht,rfl⟩);have a1:=ga _ hm (Sum.inr (ord2 t.1 t.2).1) (by simp[kT]);have a2:=ga _ hm (Sum.inr (ord2 t.1 t.2).2) (by simp[kT]);rcases bl_ t.1 t.2 with q|q
   ·rw[q] at a1 a2;exact⟨a1,a2⟩
   ·rw[q] at a1 a2;exact⟨a2,a1⟩
def spStrG(K:F__)(CN:Addr):Sp:=λvs H Q E=>spStr K vs H Q E∨spStrT K CN vs H Q E
inductive eU' (K:F__) (CN:Addr) (vs:List V) (H:Hp) (E:XK):Prop
 |mk:∀(p lh lt:Addr) (ys zs:List V) (hs:Xa) (ts:Xb),vs=[.ref p,.ref lh,.ref lt]->H lh=some (.lst ys)->a8' K H ys (hs.map kH)->H lt=some (.lst zs)->a8' K H zs (ts.map kT)->(∀h∈hs,h.1.length<=100000)->(∀t∈ts,t.1.length<=100000/\t.2.length<=100000)->ts.length<64->¬Good hs ts->(∀H',Same H H'->E (.ref CN) none H')->eU' K CN vs H E
def ew'(K:F__)(CN:Addr):Sp:=λvs H _ E=>eU' K CN vs H E
theorem jI_{CN:Addr}(F:Fun K "__init__" "Web.__init__" sInit f fd)(cS:CalF P w K mg base 4 "checked_strengths" ["hands"] (spStrG K CN))(cT:CalF P w K mg base 4 "checked_ties" ["ties","strengths"] (em' K CN)):FnOk P w K mg base (CX1 P w) 5 f fd ["self","hands","ties"] (ew' K CN):=by
 refine F.okQ dt' (λvs H Q E h=>?_) (λcdv A outer s H vs Q E hr h own ps rs=>?_)
 ·obtain⟨p,lh,lt,ys,zs,hs,ts,rfl,_⟩:=h;rfl
 ·obtain⟨p,lh,lt,ys,zs,hs,ts,rfl,hlh,th,hlt,tt,l1,l2,h64,bad,k⟩:=h;refine' ⟨_,a3_ ?s1 (a3_ ?s2 ab_),?kk⟩
  case s1=>exact ae_ (i:=3) dt'.nd rfl (Or.inl rfl) (g1_ cS hr ps (a0_ (pv 1) a2_))
  case s2=>exact ae_ (i:=4) dt'.nd rfl (Or.inl rfl) (g1_ cT hr ps (a0_ (pv 2) (a0_ (pv 3) a2_)))
  case' kk=>skip
  by_cases g:GoodHs hs
  ·refine⟨_,rfl,.inl ⟨lh,ys,hs,rfl,hlh,th,g.hok,g.hnd,g.h1,g.h8,λd H1 s1 f1 hd1=>?_⟩⟩;refine⟨_,rfl,_,rfl,lt,d,zs,ts,_,rfl,s1 _ _ hlt,tt.same s1,l2,h64,hd1,λ⟨gt,q⟩=>bad ⟨g.hok,g.hnd,g.h1,g.h8,gt.tok,gt.tnd,h64,λt ht=>?_⟩,λH' s=>k _ (s1.trans s)⟩;have:=q t ht;rw[cR_,cR_] at this;exact⟨c_7 this.1,c_7 this.2⟩
  ·exact⟨_,rfl,.inr ⟨lh,ys,hs,rfl,hlh,th,l1,g,λH' s=>k _ s⟩⟩
end
structure CalK (P:Ad) (w:Af) (K:F__) (mg:Str->Option Aa) (base:Heap) (C:Addr) (k:Nat) (x:Str) (ps:List Str) (sp:Sp):Prop where
 ex:∃f fd,FnOk P w K mg base (CX1 P w) k f fd ps sp/\Mk K C f/\mg x=some (.ref C)/\b9' K fd ps []
variable{X:Cx}{k:Nat}{x:Str}{sp:Sp}{pos:Pos}{e:Expr}{es:List Expr}{t:TA}
theorem jW_{C:Addr}{E:XK}{ps:List Str}{p:Pos}(c:CalK X.prog X.w X.K X.mg X.base C k x ps sp)(hr:Room (k+1) X.A)(hx:by' (CX1 X.prog X.w) X E)(ha:PA X (e::es) t)(hg:Gl X x:=by rfl)(hdb:(x == ("__debug__":Str))=false:=by decide)(he:starEach (e::es) X.env=(false,eval e X.env)::starEach es X.env:=by rfl)(hpl:(backTo pos (starEach es X.env)).any (·.1)=false:=by rfl):PE X (.Call (.Name x p) (e::es) [] pos) (tMake C sp [] E t):=by
 obtain⟨f,fd,F,M,m,b⟩:=c.ex;exact hr_ M F hr hg m b .nil hx ha hdb he hpl
structure CalG (P:Ad) (w:Af) (K:F__) (mg:Str->Option Aa) (base:Heap) (k:Nat) (x:Str) (ps:List Str) (sp:Sp):Prop where
 ex:∃f fd,FnOk P w K mg base (CX2 P w) k f fd ps sp/\mg x=some (.ref f)/\PySem.W.keepIn K (.ref f)=true/\b9' K fd ps []
theorem fW_{E:XK}{ps:List Str}{p:Pos}(c:CalG X.prog X.w X.K X.mg X.base k x ps sp)(hr:Room k X.A)(hx:by' (CX2 X.prog X.w) X E)(ha:PA X (e::es) t)(hg:Gl X x:=by rfl)(hdb:(x == ("__debug__":Str))=false:=by decide)(he:starEach (e::es) X.env=(false,eval e X.env)::starEach es X.env:=by rfl)(hpl:(backTo pos (starEach es X.env)).any (·.1)=false:=by rfl):PE X (.Call (.Name x p) (e::es) [] pos) (tCall sp [] E t):=by
 obtain⟨f,fd,F,m,kp,b⟩:=c.ex;exact fU_ F hr hg m kp b .nil hx ha hdb he hpl
theorem bA_{ws:List Str}{m:Nat}(h:∀x∈ws,x.length<=m):(ws.getD i "").length<=m:=by
 by_cases z:i<ws.length
 ·exact h _ (d9_ z)
 ·have:ws.getD i ""="":=by simp[List.getD,List.getElem?_eq_none (Nat.le_of_not_lt z)]
  rw[this];exact aN' _
variable{wss:List (List Str)}
theorem fD_(h:∀ws∈wss,∀x∈ws,x.length<=50000):∀h∈be' wss,h.1.length<=100000:=λp hp=>by
 obtain⟨ws,hw,rfl⟩:=ab'.mp hp;have:=bA_ (i:=1) (h ws (aU'.mp hw).1);show (ws.getD 1 "").length<=_;omega
theorem ha_(h:∀ws∈wss,∀x∈ws,x.length<=50000):∀t∈bm' wss,t.1.length<=100000/\t.2.length<=100000:=λp hp=>by
 obtain⟨ws,hw,rfl⟩:=ab'.mp hp;have h1:=bA_ (i:=1) (h ws (aU'.mp hw).1);have h2:=bA_ (i:=2) (h ws (aU'.mp hw).1);exact⟨by show (ws.getD 1 "").length<=_;omega,by show (ws.getD 2 "").length<=_;omega⟩
variable{CG CS:Addr}
section
variable{P:Ad}{w:Af}{K:F__}{mg:Str->Option Aa}{base:Heap}
def b6'(K:F__)(CT:Addr):Sp:=λvs H _ E=>∃(l:Addr) (ys:List V) (wss:List (List Str)),vs=[.ref l]/\H l=some (.lst ys)/\RwAt H ys wss/\wss.length<64/\(∀ws∈wss,WsOk ws)/\(∀ws∈wss,∀x∈ws,x.length<=50000)/\¬Good (be' wss) (bm' wss)/\∀H',Same H H'->E (.ref CT) none H'
theorem ig_{C CN CT:Addr}(F:Fun K "web_in" "web_in" eM' f fd)(B:Bi mg)(R:Ref K mg "NoWeb" CN)(RT:Ref K mg "NoText" CT)(xm:PySem.W.exmOne K (.ref CN) (.ref CN)=some true)(cW:CalK P w K mg base C 5 "Web" ["self","hands","ties"] (ew' K CN)):FnOk P w K mg base (CX2 P w) 7 f fd ["rows"] (b6' K CT):=by
 refine F.okT ce' (λvs H Q E h=>?_) (λcdv A outer s H vs Q E hr h hp ro rm=>?_)
 ·obtain⟨l,ys,wss,rfl,_⟩:=h;rfl
 ·obtain⟨l,ys,wss,rfl,hl,rw0,l64,ok,wl,bad,k⟩:=h;have l1000:wss.length<=1000:=by omega
  have sz:=a_9;refine' ⟨_,a3_ ?s1 (a3_ ?s2 (a5_ ?s3)),?kk⟩
  case' s1=>refine' bP_ (i:=1) ["words"] 1 [] ce'.nd rfl (Or.inl rfl) (am_ (pv 0)) (λfp s H=>ac_ (i:=0) (show (["words"]:List Str).Nodup by decide +kernel) rfl (Or.inl rfl)) (λfp s H=>?t1) (λfp s H=>?e1)
  case t1=>exact bw_ (ah_ b6_ (ag_ (ixK (K:=K) rIxL ad_) (pv 0) a4_ (λ_ _=>rfl)) a7_ (nomark _))
  case e1=>exact b0_ (a0_ (ag_ (ixK (K:=K) rIxL ad_) (pv 0) a4_ (λ_ _=>rfl)) (a0_ (aA_ ba_ (by rfl) B.int PyProof.Rows.Boot.«int» (a0_ (ag_ (ixK (K:=K) rIxL ad_) (pv 0) a4_ (λ_ _=>rfl)) a2_)) a2_))
  case' s2=>refine' bP_ (i:=2) ["words"] 1 [] ce'.nd rfl (Or.inl rfl) (am_ (pv 0)) (λfp s H=>ac_ (i:=0) (show (["words"]:List Str).Nodup by decide +kernel) rfl (Or.inl rfl)) (λfp s H=>?t2) (λfp s H=>?e2)
  case t2=>exact bw_ (ah_ b6_ (ag_ (ixK (K:=K) rIxL ad_) (pv 0) a4_ (λ_ _=>rfl)) a7_ (nomark _))
  case e2=>exact b0_ (a0_ (ag_ (ixK (K:=K) rIxL ad_) (pv 0) a4_ (λ_ _=>rfl)) (a0_ (ag_ (ixK (K:=K) rIxL ad_) (pv 0) a4_ (λ_ _=>rfl)) a2_))
  case s3=>exact fB_ (i:=3) ce'.nd rfl rfl rfl rfl rfl (by rfl) R.mg xm ro (by rfl) RT.mg RT.ex R.ex (λa=>a0_ a7_ a2_) (λE' W pn ps'=>a5_ (af_ (jW_ cW hr ps' (a0_ (pv 1) (a0_ (pv 2) a2_)))))
  case' kk=>skip
  refine⟨_,rfl,l,rfl,⟨_,.of hl⟩,λD hD=>?_⟩;refine aq_ (own:=1) (fv:=[]) (xs:=ys) rfl gok1 (λi out H'=>Same H H'/\H' D=some (.lst out)/\a8' K H' out ((be' (wss.take i)).map kH)) ⟨Same.new hD,a1_,.nil⟩ (λi out H' _ ⟨sm,_,_⟩=>.of (sm _ _ hl)) (λout H1 ⟨s1,hD1,tu1⟩=>?_) (λi y out H' hy ⟨sm,hd,tz⟩=>?_);rotate_left
  ·obtain⟨ws,a,hw,rfl,ha⟩:=dS_ rw0 hy;have o:=ok ws (ae' hw);refine⟨_,rfl,rfl,λNx hN=>?_⟩;refine⟨_,rfl,a,_,_,_,rfl,rfl,.of (sm _ _ ha),atS (i:=0) o.ne,rfl,_,rfl,?_⟩;rw[aY_];refine ite2 (λc=>?_) (λc=>?_)
   ·obtain⟨l3,l640,n,en⟩:=o.h3 c;refine⟨_,rfl,a,_,_,_,rfl,rfl,.of (sm _ _ ha),atS (i:=1) Z1,_,rfl,a,_,_,_,rfl,rfl,.of (sm _ _ ha),atS (i:=2) Z1,_,n,rfl,l640,en,by show 2<=sizeLine;decide,λt nt=>?_⟩;have s5:=Same.new (o:=.tup [.str (ws.getD 1 ""),.int n]) nt
    have e5:upd H' t (.tup [.str (ws.getD 1 ""),.int n]) t=some (.tup ((kH (handW ws)).map kV)):=by
     rw[a1_];show _=some (HO.tup [.str (ws.getD 1 ""),.int ((PySem.intText? (ws.getD 2 "")).getD 0)]);rw[en];rfl
    generalize upd H' t (.tup [.str (ws.getD 1 ""),.int n])=H5 at s5 e5 ⊢;have lo:=a_3 tz;have:=fi_ (wss.take i);rw[aa'] at lo;rw[af'] at this;refine⟨out,s5 _ _ hd,by omega,hN (out++[.ref t]) _ ⟨au_ (sm.trans s5) hD,a1_,?_⟩⟩;rw[ap_ hw,ca_,b__ (show isW "hand" ws=true from c),ag'];exact b1_ (b4_ (tz.same s5) e5) (s5 _ _ hd)
   ·refine hN out _ ⟨sm,hd,?_⟩;rw[ap_ hw,ca_,a_5 (show ¬isW "hand" ws=true from c),aD'];exact tz
  have le:=a_3 rw0;rw[le,ao'] at tu1;refine setG ?_;dsimp only;refine⟨_,rfl,l,rfl,⟨_,.of (s1 _ _ hl)⟩,λD2 hD2=>?_⟩;refine aq_ (own:=1) (fv:=[]) (xs:=ys) rfl gok1 (λi out H'=>Same H1 H'/\H' D2=some (.lst out)/\a8' K H' out ((bm' (wss.take i)).map kT)) ⟨Same.new hD2,a1_,.nil⟩ (λi out H' _ ⟨sm,_,_⟩=>.of (sm _ _ (s1 _ _ hl))) (λout2 H2 ⟨s2,hD3,tu2⟩=>?_) (λi y out H' hy ⟨sm,hd,tz⟩=>?_);rotate_left
  ·obtain⟨ws,a,hw,rfl,ha⟩:=dS_ (rw0.same s1) hy;have o:=ok ws (ae' hw);refine⟨_,rfl,rfl,λNx hN=>?_⟩;refine⟨_,rfl,a,_,_,_,rfl,rfl,.of (sm _ _ ha),atS (i:=0) o.ne,rfl,_,rfl,?_⟩;rw[aY_];refine ite2 (λc=>?_) (λc=>?_)
   ·have l3:=o.t3 c;refine⟨_,rfl,a,_,_,_,rfl,rfl,.of (sm _ _ ha),atS (i:=1) Z1,_,rfl,a,_,_,_,rfl,rfl,.of (sm _ _ ha),atS (i:=2) Z1,by show 2<=sizeLine;decide,λt nt=>?_⟩;have s5:=Same.new (o:=.tup [.str (ws.getD 1 ""),.str (ws.getD 2 "")]) nt;have e5:upd H' t (.tup [.str (ws.getD 1 ""),.str (ws.getD 2 "")]) t=some (.tup ((kT (tieW ws)).map kV)):=a1_;generalize upd H' t (.tup [.str (ws.getD 1 ""),.str (ws.getD 2 "")])=H5 at s5 e5 ⊢;have lo:=a_3 tz;have:=ei_ (wss.take i);rw[aa'] at lo;rw[af'] at this;refine⟨out,s5 _ _ hd,by omega,hN (out++[.ref t]) _ ⟨au_ (sm.trans s5) hD2,a1_,?_⟩⟩;rw[ap_ hw,cE_,b__ (show isW "tie" ws=true from c),ag'];exact b1_ (b4_ (tz.same s5) e5) (s5 _ _ hd)
   ·refine hN out _ ⟨sm,hd,?_⟩;rw[ap_ hw,cE_,a_5 (show ¬isW "tie" ws=true from c),aD'];exact tz
  rw[le,ao'] at tu2;refine setG ?_;dsimp only;refine⟨_,rfl,_,rfl,λpw dx hpw hdx ne=>?_⟩;have sa:Same H2 (upd H2 dx (.own pw)):=Same.new hdx;have sb:Same (upd H2 dx (.own pw)) (upd (upd H2 dx (.own pw)) pw (.ins C dx [])):=Same.new (by rw[a8_ (λz=>ne z.symm)];exact hpw);have sx:=sa.trans sb;have hpx:upd (upd H2 dx (.own pw)) pw (.ins C dx []) pw=some (.ins C dx []):=a1_;generalize upd (upd H2 dx (.own pw)) pw (.ins C dx [])=Hx at sx hpx ⊢;have s12:=s1.trans s2;have s0x:=s12.trans sx;have tl:=ei_ wss;exact⟨pw,D,D2,_,_,be' wss,bm' wss,rfl,(s2.trans sx) _ _ hD1,(tu1.same s2).same sx,sx _ _ hD3,tu2.same sx,fD_ wl,ha_ wl,by omega,bad,λH' s'=>⟨rfl,λσ=>⟨by show 1<=sizeLine;decide,k H' (s0x.trans s')⟩⟩⟩
theorem fZ_{CT:Addr}(F:Fun K "goods_in" "goods_in" cl' f fd)(cI:CalG P w K mg base 7 "web_in" ["rows"] (b6' K CT)):FnOk P w K mg base (CX2 P w) 9 f fd ["rows"] (b6' K CT):=by
 refine F.okT bu' (λvs H Q E h=>?_) (λcdv A outer s H vs Q E hr h hp ro rm=>?_)
 ·obtain⟨l,ys,wss,rfl,_⟩:=h;rfl
 ·obtain⟨l,ys,wss,rfl,hl,rw0,l64,ok,wl,bad,k⟩:=h;exact⟨_,a3_ (ae_ (i:=1) bu'.nd rfl (Or.inl rfl) (fW_ cI (hr.mono (by decide)) hp (a0_ (pv 0) a2_))) ab_,_,rfl,l,ys,wss,rfl,hl,rw0,l64,ok,wl,bad,k⟩
inductive ef' (K:F__) (CG CW CT:Addr) (vs:List V) (H:Hp) (E:XK):Prop
 |mk:∀(g p:Addr) (v:V) (hs:Xa) (ts:Xb) (qs:List Pc) (fp:List Addr),vs=[.ref g,v]->bc' K CG CW H g p hs ts qs fp->NoStd K H hs qs fp v->(∀H',Same H H'->E (.ref CT) none H')->ef' K CG CW CT vs H E
def eE'(K:F__)(CG CW CT:Addr):Sp:=λvs H _ E=>ef' K CG CW CT vs H E
theorem iz_{CW CT:Addr}(F:Fun K "text_again" "text_again" eS' f fd)(R:Ref K mg "NoStand" CS)(RT:Ref K mg "NoText" CT)(xm:PySem.W.exmOne K (.ref CS) (.ref CS)=some true)(cT:CalF P w K mg base 3 "goods_text" ["goods","stand"] (bP' K CG CW CS)):FnOk P w K mg base (CX2 P w) 5 f fd ["goods","stand"] (eE' K CG CW CT):=by
 refine F.okT ei' (λvs H Q E h=>?_) (λcdv A outer s H vs Q E hr h hp ro rm=>?_)
 ·obtain⟨g,p,v,hs,ts,qs,fp,rfl,_⟩:=h;rfl
 ·obtain⟨g,p,v,hs,ts,qs,fp,rfl,G,nS,k⟩:=h;refine' ⟨_,a5_ ?s1,?kk⟩
  case s1=>exact fB_ (i:=2) ei'.nd rfl rfl rfl rfl rfl (by rfl) R.mg xm ro (by rfl) RT.mg RT.ex R.ex (λa=>a0_ a7_ a2_) (λE' W pn ps'=>a5_ (af_ (g1_ cT (hr.mono (by decide)) ps' (a0_ (pv 0) (a0_ (pv 1) a2_)))))
  exact⟨_,rfl,_,rfl,g,p,v,hs,ts,qs,fp,rfl,G,nS,λH' s'=>⟨rfl,λσ=>⟨by show 1<=sizeLine;decide,k H' s'⟩⟩⟩
def bF'(K:F__)(CT:Addr):Sp:=λvs H _ E=>∃v t,vs=[v]/\TyOf K H v t/\PySem.W.kitOne K t (.type "str")=some false/\E (.ref CT) none H
theorem hL_{CT:Addr}(F:Fun K "words_of_rows" "words_of_rows" cR' f fd)(B:Bi mg)(RT:Ref K mg "NoText" CT):FnOk P w K mg base (CX2 P w) 1 f fd ["text"] (bF' K CT):=by
 refine F.okT d3' (λvs H Q E h=>?_) (λcdv A outer s H vs Q E hr h hp ro rm=>?_)
 ·obtain⟨v,t,rfl,_⟩:=h;rfl
 ·obtain⟨v,t,rfl,ty,e,k⟩:=h;refine' ⟨_,a3_ ?s1 ab_,?kk⟩
  case s1=>exact ak_ (ax_ (az_ (a6_ aH_ (by rfl) B.isi PyProof.Rows.Boot.«isinstance» (a0_ (pv 0) (a0_ (aV_ (v:=.ty "str") (by rfl) B.str PyProof.Rows.Boot.«str» rfl) a2_))))) (a5_ (aJ_ rfl rm RT.mg RT.ex a_8 (by rfl) (a0_ a7_ a2_))) aa_
  exact⟨_,rfl,_,_,_,_,rfl,ty,e,_,rfl,iteT ⟨by show 1<=sizeLine;decide,k⟩⟩
end
theorem hB_(a b:Str):ord2 (ord2 a b).1 (ord2 a b).2=ord2 a b:=by
 rcases bl_ a b with e|e
 ·rw[e];exact e
 ·rw[e];show ord2 b a=(b,a);rw[<- dm_,e]
theorem hC_{hs:Xa}{ts ws:Xb}(g:d7' ws)(h:∀t∈tsOf ws,e1' hs ts (some t.1) (some t.2)=true):du' ts ws:=by
 have inn:∀w∈ws,kO w∈ts.map kO:=λw hw=>by
  have m:ord2 w.1 w.2∈tsOf ws:=bt'.mpr ⟨w,hw,rfl⟩;have q:=h _ m;rw[c8_] at q;simp only[au',b_1] at q;have n:=(aU'.mp q.2.2).2;have n:=c_7 n;rw[hB_] at n;obtain⟨u,hu,eu⟩:=bt'.mp n;exact ab'.mpr ⟨u,hu,by unfold kO;rw[eu]⟩
 refine⟨g.tok,g.tnd,inn,?_⟩
 have:=List.Nodup.length_le_of_subset (l₁:=ws.map kO) (l₂:=ts.map kO) g.tnd (λx hx=>by
  obtain⟨w,hw,rfl⟩:=ab'.mp hx;exact inn w hw)
 rwa [aa',aa'] at this
def ds'(q:Pc):Prop:=q.1.length<=100000/\∀ws,q.2.2=some ws->ws.length<64/\∀t∈ws,t.1.length<=100000/\t.2.length<=100000
variable{CW:Addr}
section
variable{P:Ad}{w:Af}{K:F__}{mg:Str->Option Aa}{base:Heap}
inductive d6' (K:F__) (C CN:Addr) (vs:List V) (H:Hp) (E:XK):Prop
 |mk:∀(p:Addr) (v:V) (ws:Xb) (hs:Xa) (ts:Xb) (fp:List Addr),vs=[.ref p,v]->bw' K C H p hs ts fp->Good hs ts->WyAt K H v (some ws)->ws.length<64->(∀t∈ws,t.1.length<=100000/\t.2.length<=100000)->¬du' ts ws->(∀H',Same H H'->E (.ref CN) none H')->d6' K C CN vs H E
def dE'(K:F__)(C CN:Addr):Sp:=λvs H _ E=>d6' K C CN vs H E
theorem i5_{C CN:Addr}(F:Fun K "checked_ways" "checked_ways" eR' f fd)(T:Txt K mg C)(R:Ref K mg "NoGoods" CN)(cS:Cal P w K mg base 3 "sorted_ties" ["ties"] (ek' K))(cT:CalM P w K mg base C 2 "are_tied" ["self","one","other"] (c6' K C)):FnOk P w K mg base (CX1 P w) 4 f fd ["web","ways"] (dE' K C CN):=by
 refine F.okQ b0' (λvs H Q E h=>?_) (λcdv A outer s H vs Q E hr h own ps rs=>?_)
 ·obtain⟨p,v,ws,hs,ts,fp,rfl,_⟩:=h;rfl
 ·obtain⟨p,v,ws,hs,ts,fp,rfl,W,G,wy,h64,ln,bad,k⟩:=h;have hu:=bn_ hr;have hr2:Room 2 _:=hr.mono (by decide)
  refine⟨_,a3_ (ak_ (bb_ (d0_ (pv 1))) (a5_ (af_ dC_)) aa_)
   (a3_ (ae_ (i:=2) b0'.nd rfl (Or.inl rfl) (al_ cS hr (a0_ (pv 1) a2_)))
   (a3_ (ak_ (bb_ (d0_ (pv 2))) (a5_ (aJ_ rfl rs R.mg R.ex a_8 (by rfl) (a0_ a7_ a2_))) aa_)
   (a3_ (b2_ own rfl (am_ (pv 2)) (ch_ rfl (aj_ (ac_ (i:=3) b0'.nd rfl (Or.inl rfl)) (aj_ (ac_ (i:=4) b0'.nd rfl (Or.inl rfl)) b3_)))
    (a5_ (ak_ (ax_ (az_ (d7_ cT T.cl hr2 (pv 0) (a0_ (pv 3) (a0_ (pv 4) a2_))))) (a5_ (aJ_ rfl rs R.mg R.ex a_8 (by rfl) (a0_ a7_ a2_))) aa_)))
   ab_))),?_⟩
  have fin:∀H',Same H H'->1<=sizeLine/\E (.ref CN) none H':=λH' s=>⟨by decide,k H' s⟩;obtain⟨a,ys,rfl,ha,tu⟩:=wy;refine⟨_,rfl,_,rfl,iteF ?_⟩;by_cases gd:d7' ws;rotate_left 1
  ·exact⟨_,rfl,.inr ⟨a,ys,ws,rfl,ha,tu,ln,h64,gd,λH1 s1=>⟨_,rfl,_,rfl,iteT (fin H1 s1)⟩⟩⟩
  refine⟨_,rfl,.inl ⟨a,ys,ws,rfl,ha,tu,gd.tok,gd.tnd,h64,λl' zs H1 s1 hf hl1 tz=>?_⟩⟩;refine⟨_,rfl,_,rfl,iteF ?_⟩;have W1:=W.same s1;obtain⟨dx,d1,l2,d3,zs0,as,rfl,h1,h2,h3,h4,h5,h6,h7⟩:=id W1.ex;have hno:(flds d1 l2 d3).lookup ("are_tied":Str)=none:=bV_ _ _ _ Z0 Z0 Z0;rw[<- aZ_] at tz;have lz:=a_3 tz;rw[aa'] at lz;refine⟨_,rfl,l',rfl,⟨_,.of hl1⟩,aX_ (K:=K) (a:=l') (xs:=zs) (λi σ H2=>∃(v3 v4:Option V),σ=[some (.ref p),some (.ref a),some (.ref l'),v3,v4]/\H2=H1/\∀t∈(tsOf ws).take i,e1' hs ts (some t.1) (some t.2)=true) ⟨none,none,rfl,rfl,λt ht=>by simp at ht⟩ (λi σ H2 _ ⟨_,_,_,e,_⟩=>by subst e;exact .of hl1) ?_ ?_⟩
  ·rintro i y σ H2 hy ⟨v3,v4,rfl,rfl,ga⟩;obtain⟨t,ht,q,rfl,hq⟩:=aQ_ tz hy;refine⟨q,_,rfl,.of (hpT hq),rfl,_,_,rfl,_,_,rfl,rfl,?_⟩;refine⟨_,rfl,p,dx,_,rfl,h1,hno,_,rfl,_,rfl,p,_,_,some t.1,some t.2,hs,ts,_,rfl,W1,G.nnd,rfl,rfl,_,rfl,?_⟩;cases b:e1' hs ts (some t.1) (some t.2) with
   |false=>exact iteT (fin _ s1)
   |true=>exact iteF ⟨_,_,rfl,rfl,cI_ ga ht b⟩
  ·rintro σ H2 ⟨v3,v4,rfl,rfl,ga⟩;rw[lz,ao'] at ga;exact absurd (hC_ gd ga) bad
inductive dp' (K:F__) (C CN:Addr) (vs:List V) (H:Hp) (E:XK):Prop
 |mk:∀(p:Addr) (y:V) (q:Pc) (hs:Xa) (ts:Xb) (fp:List Addr),vs=[.ref p,y]->bw' K C H p hs ts fp->Good hs ts->PcAt K H y q->ds' q->¬cP' ts q->(∀H',Same H H'->E (.ref CN) none H')->dp' K C CN vs H E
def d4'(K:F__)(C CN:Addr):Sp:=λvs H _ E=>dp' K C CN vs H E
theorem gT_{C CN:Addr}(F:Fun K "checked_piece" "checked_piece" dR' f fd)(B:Bi mg)(R:Ref K mg "NoGoods" CN)(cN:Cal P w K mg base 1 "is_name" ["thing"] cX')(cW:Cal P w K mg base 2 "is_whole_within" ["thing","least","most"] df')(cC:CalF P w K mg base 4 "checked_ways" ["web","ways"] (dE' K C CN))(mW:mg "MOST_WEIGHT"=some (.int 1000000000 tk)) :
  FnOk P w K mg base (CX1 P w) 5 f fd ["web","piece"] (d4' K C CN):=by
 refine F.okQ eQ' (λvs H Q E h=>?_) (λcdv A outer s H vs Q E hr h own ps rs=>?_)
 ·obtain⟨p,y,q,hs,ts,fp,rfl,_⟩:=h;rfl
 ·obtain⟨p,y,q,hs,ts,fp,rfl,W,G,⟨t,v,rfl,ht,wy⟩,sh,bad,k⟩:=h;have hr1:Room 1 _:=hr.mono (by decide);have hr2:Room 2 _:=hr.mono (by decide)
  refine⟨_,a3_ (ak_ (cm_ (ax_ (az_ (a6_ aH_ (by rfl) B.isi PyProof.Rows.Boot.«isinstance» (a0_ (pv 1) (a0_ (aV_ (v:=.ty "tuple") (by rfl) B.tuple PyProof.Rows.Boot.«tuple» rfl) a2_)))))
    (bI_ (ah_ d6_ (a6_ ai_ (by rfl) B.len b_3 (a0_ (pv 1) a2_)) a4_ (nomark _)))).pt ab_ aa_)
   (a3_ (ak_ (ax_ (az_ (al_ cN hr1 (a0_ (ag_ aL_ (pv 1) a4_ (λ_ _=>rfl)) a2_)))) (a5_ (aJ_ rfl rs R.mg R.ex a_8 (by rfl) (a0_ a7_ a2_))) aa_)
   (a3_ (ak_ (ax_ (az_ (al_ cW hr2 (a0_ (ag_ aL_ (pv 1) a4_ (λ_ _=>rfl)) (a0_ a4_ (a0_ (b5_ (v:=.int 1000000000) (by rfl) mW ⟨tk,rfl⟩) a2_)))))) (a5_ (aJ_ rfl rs R.mg R.ex a_8 (by rfl) (a0_ a7_ a2_))) aa_)
   (a5_ (af_ (b0_ (a0_ (ag_ aL_ (pv 1) a4_ (λ_ _=>rfl)) (a0_ (ag_ aL_ (pv 1) a4_ (λ_ _=>rfl)) (a0_ (g1_ cC hr ps (a0_ (pv 0) (a0_ (ag_ aL_ (pv 1) a4_ (λ_ _=>rfl)) a2_))) a2_)))))))),?_⟩
  have fin:∀H',Same H H'->1<=sizeLine/\E (.ref CN) none H':=λH' s=>⟨by decide,k H' s⟩;refine⟨_,rfl,_,_,_,_,rfl,.tup ht,rfl,_,rfl,iteF ?_⟩;refine⟨_,rfl,t,_,rfl,.inr (.of ht),rfl,_,rfl,?_⟩;refine eW' (show V.int ((3:Nat):Int)=V.int 3 from rfl) ?_;refine⟨_,rfl,t,_,_,_,rfl,rfl,.of ht,rfl,q.1,rfl,sh.1,λH1 s1=>⟨_,rfl,?_⟩⟩;cases gn:ba' q.1 with
  |false=>exact iteT (fin H1 s1)
  |true=>
   refine iteF ?_;have ht1:=s1 _ _ ht;refine⟨_,rfl,t,_,_,_,rfl,rfl,.of ht1,rfl,q.2.1,1,1000000000,rfl,_,rfl,?_⟩;cases gw:(decide ((1:Int)<=q.2.1)&&decide (q.2.1<=1000000000)) with
   |false=>exact iteT (fin H1 s1)
   |true=>
    refine iteF ?_;simp only[au',b_1] at gw;obtain⟨ws,ew,bw⟩:∃ws,q.2.2=some ws/\¬du' ts ws:=d_9 λz=>bad ⟨gn,gw.1,gw.2,λws e=>d_9 λy=>z ⟨ws,e,y⟩⟩;rw[ew] at wy;obtain⟨l64,ln⟩:=sh.2 ws ew;exact⟨_,rfl,t,_,_,_,rfl,rfl,.of ht1,rfl,_,rfl,t,_,_,_,rfl,rfl,.of ht1,rfl,_,rfl,_,rfl,t,_,_,_,rfl,rfl,.of ht1,rfl,p,v,ws,hs,ts,fp,rfl,W.same s1,G,wy.same s1,l64,ln,bw,λH' s'=>k H' (s1.trans s')⟩
def d1'(K:F__)(C CN:Addr):Sp:=λvs H Q E=>ch' K C vs H Q E∨d4' K C CN vs H Q E
def eB'(ts:Xb)(ps:List Pc):Prop:=(∀q∈ps,cP' ts q)/\(ps.map (·.1)).Nodup
inductive dg' (K:F__) (C CN:Addr) (vs:List V) (H:Hp) (E:XK):Prop
 |mk:∀(p l:Addr) (ys:List V) (ps:List Pc) (hs:Xa) (ts:Xb) (fp:List Addr),vs=[.ref p,.ref l]->bw' K C H p hs ts fp->Good hs ts->H l=some (.lst ys)->dJ' K H ys ps->(∀q∈ps,ds' q)->ps.length<64->¬eB' ts ps->(∀H',Same H H'->E (.ref CN) none H')->dg' K C CN vs H E
def cB'(K:F__)(C CN:Addr):Sp:=λvs H _ E=>dg' K C CN vs H E
theorem ft_{C CN:Addr}(F:Fun K "checked_pieces" "checked_pieces" cQ' f fd)(B:Bi mg)(R:Ref K mg "NoGoods" CN)(cP:CalF P w K mg base 5 "checked_piece" ["web","piece"] (d1' K C CN)):FnOk P w K mg base (CX1 P w) 6 f fd ["web","pieces"] (cB' K C CN):=by
 refine F.okQ bC' (λvs H Q E h=>?_) (λcdv A outer s H vs Q E hr h own pss rs=>?_)
 ·obtain⟨p,l,ys,ps,hs,ts,fp,rfl,_⟩:=h;rfl
 ·obtain⟨p,l,ys,ps,hs,ts,fp,rfl,W,G,hl,pc,sh,h64,bad,k⟩:=h;have hu:=bn_ hr;have sz:=a_9;have le:=a_3 pc
  refine⟨_,a3_ (ak_ (ax_ (az_ (a6_ aH_ (by rfl) B.isi PyProof.Rows.Boot.«isinstance» (a0_ (pv 1) (a0_ (aV_ (v:=.ty "list") (by rfl) B.list PyProof.Rows.Boot.«list» rfl) a2_))))) ab_ aa_)
   (a3_ (ae_ (i:=2) bC'.nd rfl (Or.inr rfl) cz_)
   (a3_ (b2_ own rfl (am_ (pv 1)) (ac_ (i:=3) bC'.nd rfl (Or.inl rfl))
    (a3_ (ae_ (i:=4) bC'.nd rfl (Or.inl rfl) (g1_ cP hr pss (a0_ (pv 0) (a0_ (pv 3) a2_))))
    (a3_ (ak_ (bb_ (cx_ hu (ag_ aL_ (pv 4) a4_ (λ_ _=>rfl)) (pv 2))) (a5_ (aJ_ rfl rs R.mg R.ex a_8 (by rfl) (a0_ a7_ a2_))) aa_)
    (a5_ (ct_ hu (pv 2) (ag_ aL_ (pv 4) a4_ (λ_ _=>rfl)) (pv 4) rfl)))))
   ab_)),?_⟩
  have fin:∀H',Same H H'->1<=sizeLine/\E (.ref CN) none H':=λH' s=>⟨by decide,k H' s⟩;refine⟨_,rfl,_,_,_,_,rfl,.lst hl,rfl,_,rfl,iteF ?_⟩;intro d hd;have s0:Same H (upd H d (.dK [])):=Same.new hd;refine⟨_,rfl,l,rfl,⟨_,.of (s0 _ _ hl)⟩,aX_ (K:=K) (a:=l) (xs:=ys) (λi σ H2=>∃(v3 v4:Option V) (kvs:List (Key × V)),σ=[some (.ref p),some (.ref l),some (.ref d),v3,v4]/\Same H H2/\(∀q∈ps.take i,cP' ts q)/\((ps.take i).map (·.1)).Nodup/\H2 d=some (.dK kvs)/\kvs.map (·.1)=((ps.take i).map (·.1)).map Sum.inr) ⟨none,none,[],rfl,s0,λq hq=>by simp at hq,by simp,a1_,rfl⟩ (λi σ H2 _ ⟨_,_,_,_,s2,_⟩=>.of (s2 _ _ hl)) ?_ ?_⟩
  ·rintro i y σ H2 hy ⟨v3,v4,kvs,rfl,s2,ga,gn,hd2,keys⟩;have hi:i<ys.length:=(ac'.mp hy).1;have hq:ps[i]? = some (ps[i]' Z1):=ad' Z1;have py:=aC_ pc i hi Z1;rw[(ac'.mp hy).2] at py;generalize ps[i]' Z1=q at hq py;have qm:=ae' hq;by_cases g:cP' ts q;rotate_left 1
   ·exact⟨_,rfl,_,rfl,.inr ⟨p,y,q,hs,ts,fp,rfl,W.same s2,G,py.same s2,sh q qm,g,λH' s'=>k H' (s2.trans s')⟩⟩
   refine⟨_,rfl,_,rfl,.inl ⟨p,y,q,hs,ts,fp,rfl,W.same s2,G,py.same s2,g,λy' H3 s3 pw=>?_⟩⟩;obtain⟨t,v,rfl,ht,wy,hf⟩:=pw;have hd3:=s3 _ _ hd2;refine⟨_,rfl,t,_,_,_,rfl,rfl,.of ht,rfl,_,rfl,d,_,rfl,.k (k:=Sum.inr q.1) hd3,_,rfl,?_⟩;by_cases nx:q.1∈(ps.take i).map (·.1)
   ·rw[c3_ (by rw[keys];exact ab'.mpr ⟨_,nx,rfl⟩)];exact iteT (fin H3 (s2.trans s3))
   have nov:valV kvs (Sum.inr q.1)=none:=aN_ (by
    rw[keys];intro m;obtain⟨x,hx,e⟩:=ab'.mp m;cases e;exact nx hx)
   rw[nov];refine iteF ?_;have lk:=c_5 List.length keys;rw[aa',aa',aa',af'] at lk;refine⟨_,rfl,_,rfl,_,rfl,t,_,_,_,rfl,rfl,.of ht,rfl,d,_,rfl,.k (k:=Sum.inr q.1) hd3 Z1,?_⟩;refine⟨_,_,_,rfl,λc o e=>?_,cI_ ga hq g,fy_ gn hq nx,a1_,?_⟩
   ·rw[a8_ (a9_ e hd)];exact (s2.trans s3) _ _ e
   ·rw[by_ _ nov,ag',keys,ay_ _ hq,ag'];rfl
  ·rintro σ H2 ⟨v3,v4,kvs,rfl,s2,ga,gn,hd2,keys⟩;rw[le,ao'] at ga gn;exact absurd ⟨ga,gn⟩ bad
inductive ec' (K:F__) (CW CN:Addr) (vs:List V) (H:Hp) (E:XK):Prop
 |mk:∀(g p l:Addr) (ys:List V) (ps:List Pc) (hs:Xa) (ts:Xb) (fpw:List Addr),vs=[.ref g,.ref p,.ref l]->bw' K CW H p hs ts fpw->Good hs ts->H l=some (.lst ys)->dJ' K H ys ps->(∀q∈ps,ds' q)->ps.length<64->¬eB' ts ps->(∀H',Same H H'->E (.ref CN) none H')->ec' K CW CN vs H E
def dK'(K:F__)(CW CN:Addr):Sp:=λvs H _ E=>ec' K CW CN vs H E
theorem hk_{CN:Addr}(F:Fun K "__init__" "Goods.__init__" eP' f fd)(TW:Txt K mg CW)(IW:InsK K CW)(B:Bi mg)(mWeb:mg "Web"=some (.ref CW))(cP:CalF P w K mg base 6 "checked_pieces" ["web","pieces"] (cB' K CW CN)):FnOk P w K mg base (CX1 P w) 7 f fd ["self","web","pieces"] (dK' K CW CN):=by
 refine F.okQ dI' (λvs H Q E h=>?_) (λcdv A outer s H vs Q E hr h own pss rs=>?_)
 ·obtain⟨g,p,l,ys,ps,hs,ts,fpw,rfl,_⟩:=h;rfl
 ·obtain⟨g,p,l,ys,ps,hs,ts,fpw,rfl,W,G,hl,pc,sh,h64,bad,k⟩:=h
  refine⟨_,a3_ (ak_ (ax_ (az_ (a6_ f4_ (by rfl) B.isi PyProof.Rows.Boot.«isinstance» (a0_ (pv 1) (a0_ (b5_ (v:=.ref CW) (by rfl) mWeb rfl) a2_))))) ab_ aa_)
   (a3_ (ae_ (i:=3) dI'.nd rfl (Or.inl rfl) (g1_ cP hr pss (a0_ (pv 1) (a0_ (pv 2) a2_)))) ab_),?_⟩
  obtain⟨dxw,d1,l2,d3,zs0,as,ef,w1,_⟩:=id W.ex;refine⟨_,rfl,_,_,_,_,rfl,.ins w1 TW.cl IW.ha IW.hn IW.tk IW.mo,gm_ _ _,_,rfl,iteF ?_⟩;exact⟨_,rfl,_,rfl,p,l,ys,ps,hs,ts,fpw,rfl,W,G,hl,pc,sh,h64,bad,k⟩
end
def cA'(K:F__)(CT:Addr):Sp:=λvs H _ E=>∃(l:Addr) (ys:List V) (wss:List (List Str)),vs=[.ref l]/\H l=some (.lst ys)/\RwAt H ys wss/\wss.length<64/\(∀ws∈wss,WsOk ws)/\(∀ws∈wss,isW "piece" ws=true->WpOk ws)/\Good (be' wss) (bm' wss)/\(∀q∈a7' wss,ds' q)/\¬eB' (bm' wss) (a7' wss)/\∀H',Same H H'->E (.ref CT) none H'
variable{CN CT:Addr}{P:Ad}{w:Af}{K:F__}{mg:Str->Option Aa}{base:Heap}
theorem fC_(F:Fun K "goods_in" "goods_in" cl' f fd)(B:Bi mg)(R:Ref K mg "NoGoods" CN)(RT:Ref K mg "NoText" CT)(xm:PySem.W.exmOne K (.ref CN) (.ref CN)=some true)(cI:Cal P w K mg base 7 "web_in" ["rows"] (dF' K CW))(cY:Cal P w K mg base 1 "ways_in" ["word"] cS')(cG:CalK P w K mg base CG 7 "Goods" ["self","web","pieces"] (dK' K CW CN)):FnOk P w K mg base (CX2 P w) 9 f fd ["rows"] (cA' K CT):=by
 refine F.okT bu' (λvs H Q E h=>?_) (λcdv A outer s H vs Q E hr h hp ro rm=>?_)
 ·obtain⟨l,ys,wss,rfl,_⟩:=h;rfl
 ·obtain⟨l,ys,wss,rfl,hl,rw0,l64,ok,okp,G,sh,bad,k⟩:=h;have l1000:wss.length<=1000:=by omega
  have sz:=a_9;have hr1:Room 1 _:=hr.mono (by decide);have hr7:Room 7 _:=hr.mono (by decide);refine' ⟨_,a3_ ?s1 (a3_ ?s2 (a5_ ?s3)),?kk⟩
  case s1=>exact ae_ (i:=1) bu'.nd rfl (Or.inl rfl) (al_ cI hr7 (a0_ (pv 0) a2_))
  case' s2=>refine' bP_ (i:=2) ["words"] 1 [] bu'.nd rfl (Or.inl rfl) (am_ (pv 0)) (λfp s H=>ac_ (i:=0) (show (["words"]:List Str).Nodup by decide +kernel) rfl (Or.inl rfl)) (λfp s H=>?t1) (λfp s H=>?e1)
  case t1=>exact bw_ (ah_ b6_ (ag_ (ixK (K:=K) rIxL ad_) (pv 0) a4_ (λ_ _=>rfl)) a7_ (nomark _))
  case e1=>exact b0_ (a0_ (ag_ (ixK (K:=K) rIxL ad_) (pv 0) a4_ (λ_ _=>rfl)) (a0_ (aA_ ba_ (by rfl) B.int PyProof.Rows.Boot.«int» (a0_ (ag_ (ixK (K:=K) rIxL ad_) (pv 0) a4_ (λ_ _=>rfl)) a2_)) (a0_ (al_ cY hr1 (a0_ (ag_ (ixK (K:=K) rIxL ad_) (pv 0) a4_ (λ_ _=>rfl)) a2_)) a2_)))
  case s3=>exact fB_ (i:=3) bu'.nd rfl rfl rfl rfl rfl (by rfl) R.mg xm ro (by rfl) RT.mg RT.ex R.ex (λa=>a0_ a7_ a2_) (λE' W pn ps'=>a5_ (af_ (jW_ cG hr ps' (a0_ (pv 1) (a0_ (pv 2) a2_)))))
  case' kk=>skip
  refine⟨_,rfl,l,ys,wss,rfl,hl,rw0,l1000,ok,G,λp fpw H0 s0 np W0 fr0=>?_⟩;refine setG ?_;dsimp only;refine⟨_,rfl,l,rfl,⟨_,.of (s0 _ _ hl)⟩,λD hD=>?_⟩;refine aq_ (own:=1) (fv:=[]) (xs:=ys) rfl gok1 (λi out H'=>Same H0 H'/\H' D=some (.lst out)/\∀u,dJ' K (upd H' D u) out (a7' (wss.take i))) ⟨Same.new hD,a1_,λu=>.nil⟩ (λi out H' _ ⟨sm,_,_⟩=>.of (sm _ _ (s0 _ _ hl))) (λout H1 ⟨s1,hD1,tu1⟩=>?_) (λi y out H' hy ⟨sm,hd,tz⟩=>?_);rotate_left
  ·obtain⟨ws,a,hw,rfl,ha⟩:=dS_ (rw0.same s0) hy;have o:=ok ws (ae' hw);refine⟨_,rfl,rfl,λNx hN=>?_⟩;refine⟨_,rfl,a,_,_,_,rfl,rfl,.of (sm _ _ ha),atS (i:=0) o.ne,rfl,_,rfl,?_⟩;rw[aY_];refine ite2 (λc=>?_) (λc=>?_)
   ·have op:=okp ws (ae' hw) c;obtain⟨n,en⟩:=op.int;have l5:=op.l5;refine⟨_,rfl,a,_,_,_,rfl,rfl,.of (sm _ _ ha),atS (i:=1) Z1,_,rfl,a,_,_,_,rfl,rfl,.of (sm _ _ ha),atS (i:=2) Z1,_,n,rfl,op.i640,en,_,rfl,a,_,_,_,rfl,rfl,.of (sm _ _ ha),atS (i:=4) Z1,_,rfl,op.w4,λv H2 s2 wy fr=>?_⟩;have wa:=hU_ (K:=K) wy op.two;refine⟨by show 3<=sizeLine;decide,λt nt=>?_⟩;have s5:=Same.new (o:=.tup [.str (ws.getD 1 ""),.int n,v]) nt
    have e5:upd H2 t (.tup [.str (ws.getD 1 ""),.int n,v]) t=some (.tup [.str (dn' ws).1,.int (dn' ws).2.1,v]):=by
     rw[a1_];show _=some (HO.tup [.str (ws.getD 1 ""),.int ((PySem.intText? (ws.getD 2 "")).getD 0),v]);rw[en];rfl
    generalize upd H2 t (.tup [.str (ws.getD 1 ""),.int n,v])=H5 at s5 e5 ⊢;have s25:=s2.trans s5;have lo:=a_3 (tz (.lst []));have:=c5_ (wss.take i);rw[af'] at this;have hD5:=s25 _ _ hd;refine⟨out,hD5,by omega,hN (out++[.ref t]) _ ⟨au_ (sm.trans s25) hD,a1_,λu=>?_⟩⟩;rw[ap_ hw,bN_,b__ (show isW "piece" ws=true from c),bZ_];refine aT_ (da_ (tz u) (dQ_ s25)) (.cons ⟨t,v,rfl,?_,jK_ (wa.same s5) hD5 λa z e=>?_⟩ .nil)
    ·rw[a8_ (λz=>by rw[z,hD5] at e5;cases e5)];exact e5
    ·have:=fr a z;rw[e,hd] at this;cases this
   ·refine hN out _ ⟨sm,hd,?_⟩;rw[ap_ hw,bN_,a_5 (show ¬isW "piece" ws=true from c),aD'];exact tz
  have le:=a_3 rw0;rw[le,ao'] at tu1;refine setG ?_;dsimp only;have pcs:=tu1 (.lst out);rw[et_ hD1] at pcs;refine⟨_,rfl,_,rfl,λg dg hg hdg neg=>?_⟩;have ga:Same H1 (upd H1 dg (.own g)):=Same.new hdg;have gb:Same (upd H1 dg (.own g)) (upd (upd H1 dg (.own g)) g (.ins CG dg [])):=Same.new (by rw[a8_ (λz=>neg z.symm)];exact hg);have gx:=ga.trans gb;generalize upd (upd H1 dg (.own g)) g (.ins CG dg [])=Hx at gx ⊢;have pl:=c5_ wss;have s1x:=s1.trans gx;exact⟨g,p,D,out,a7' wss,be' wss,bm' wss,fpw,rfl,W0.same s1x,G,gx _ _ hD1,da_ pcs gx,sh,by omega,bad,λH' s'=>⟨rfl,λσ=>⟨by show 1<=sizeLine;decide,k H' ((s0.trans s1x).trans s')⟩⟩⟩
theorem iy_(h:figB x=true):x.length<=10/\∃n,PySem.intText? x=some n:=by
 unfold figB at h;simp only[au',b_1,aL'] at h;obtain⟨⟨⟨h1,h10⟩,hd⟩,_⟩:=h;refine⟨h10,_,intText_digits (λc hc=>?_) (λz=>?_) Z1⟩
 ·have:=hd c hc;unfold okd at this;simpa using this
 ·have:x.cps.toList.length=x.length:=rfl;rw[z] at this;simp at this;omega
variable{ws:List Str}
theorem jO_(h:rowB ws=true)(wl:∀x∈ws,x.length<=50000):WsOk ws/\(isW "piece" ws=true->WpOk ws):=by
 unfold rowB at h;have ne1:("hand":Str)≠"tie":=by decide
 have ne2:("hand":Str)≠"piece":=by decide
 have ne3:("tie":Str)≠"piece":=by decide
 by_cases c1:ws.getD 0 ""="hand"
 ·rw[b__ c1] at h;simp only[au',b_1] at h;obtain⟨l3,fg⟩:=h;obtain⟨l10,n,en⟩:=iy_ fg;refine⟨⟨by omega,λ_=>⟨by omega,by omega,n,en⟩,λz=>by omega⟩,λz=>?_⟩;have z:=c_7 z;exact absurd (c1.symm.trans z) ne2
 ·rw[a_5 c1] at h;by_cases c2:ws.getD 0 ""="tie"
  ·rw[b__ c2] at h;have l3:=c_7 h;refine⟨⟨by omega,λz=>absurd (c_7 z) c1,λz=>by omega⟩,λz=>?_⟩;have z:=c_7 z;exact absurd (c2.symm.trans z) ne3
  ·rw[a_5 c2] at h;by_cases c3:ws.getD 0 ""="piece"
   ·rw[b__ c3] at h;simp only[au',b_1] at h;obtain⟨l5,fg,wy⟩:=h;obtain⟨l10,n,en⟩:=iy_ fg;refine⟨⟨by omega,λz=>absurd (c_7 z) c1,λz=>absurd (c_7 z) c2⟩,λ_=>⟨by omega,by omega,⟨n,en⟩,bA_ wl,λn1 n2 p hp=>?_⟩⟩;unfold c1' at wy;rw[a_2 n1,a_2 n2,Bool.false_or,Bool.false_or,aL'] at wy;have:=wy p hp;unfold dj' pairB at this;split at this
    ·rename_i e
     rw[e];rfl
    ·cases this
   ·rw[a_5 c3] at h;cases h
theorem gW_(hz:x.length<=50000):∀ws∈rowsT x,∀y∈ws,y.length<=50000:=λws hw y hy=>by
 obtain⟨r,hr,rfl⟩:=ab'.mp hw;have h1:=b_8 hr;have h2:=b_8 hy;omega
theorem kG_(x:Str):∀ws∈rowsT x,ws≠[]:=λws hw z=>by
 obtain⟨r,hr,rfl⟩:=ab'.mp hw;have:=PyProof.Rows.split_len r 32;rw[show (⟨#[32]⟩:Str)=" " from rfl,z] at this;unfold PyProof.Rows.cnt at this;have h0:=PyProof.Rows.countIn_zero_le (.str ⟨#[32]⟩) (r.cps.toList.map λn=>PyData.str ⟨#[n]⟩);rw[a2'] at this;change ((0:Nat):Int)=_ at this;omega
variable{ps qs:List Pc}{hs:Xa}{ts:Xb}
theorem fI_(G:Good hs ts)(gp:∀q∈ps,cP' ts q)(Qq:Qs ps qs){q:Pc}(hq:q∈qs):PcT q:=by
 obtain⟨p,hp,rfl⟩:=Qq.mem q hq;have g:=gp p hp
 have a:∀ws,(nrm p).2.2=some ws->ws.length<=63/\∀t∈ws,t.1.length<=8/\t.2.length<=8:=λws e=>by
  have e:p.2.2.map tsOf=some ws:=e;cases o:p.2.2 with
  |none=>rw[o] at e;cases e
  |some us=>
   rw[o] at e;cases e;have w:=g.ws us o;refine⟨?_,λt ht=>?_⟩
   ·have:=w.len;have:=G.t64;rw[bf_];omega
   ·obtain⟨u,hu,rfl⟩:=bt'.mp ht;have:=w.good u hu;rcases bl_ u.1 u.2 with z|z
    ·rw[z];exact⟨av_ this.1,av_ this.2.1⟩
    ·rw[z];exact⟨av_ this.2.1,av_ this.1⟩
 refine⟨av_ g.nm,by have:=g.w1;show 0<=p.2.1;omega,by have:=g.w2;show p.2.1<10 ^ 10;omega,λws e=>⟨by have:=(a ws e).1;omega,(a ws e).2⟩,by have:=gu_ a;omega⟩
def dz'(K:F__)(CG CW CT:Addr):Sp:=λvs H Q E=>co' K CG CW vs H Q E∨b6' K CT vs H Q E∨cA' K CT vs H Q E
def eD'(K:F__)(CG CW CT:Addr):Sp:=λvs H Q E=>bl' K CG CW vs H Q E∨eE' K CG CW CT vs H Q E
def Told(x:Str)(f:Str->Str):Prop:=TxOk (rowsT x) f/\∃qs,Qs (a7' (rowsT x)) qs/\bZ' (be' (rowsT x)) (bm' (rowsT x)) qs f=x
def cH'(CT:Addr):Sp:=λvs H _ E=>∃(x:Str) (f:Str->Str),vs=[.str x]/\x.length<=50000/\(rowsT x).length<64/\(∀q∈a7' (rowsT x),ds' q)/\(((a7' (rowsT x)).map (·.1)).Nodup->∀ws∈rowsT x,isW "piece" ws=true->f (ws.getD 1 "")=ws.getD 3 "")/\¬Told x f/\∀H',Same H H'->E (.ref CT) none H'
variable{f0:Addr}
theorem ez_(F:Fun K "read_goods" "read_goods" bS' f0 fd)(B:Bi mg)(RT:Ref K mg "NoText" CT)(cW:Cal P w K mg base 1 "words_of_rows" ["text"] cu')(cR:Cal P w K mg base 4 "is_row_of_goods" ["words"] (dV' K))(cI:CalG P w K mg base 9 "goods_in" ["rows"] (dz' K CG CW CT))(cA:CalG P w K mg base 5 "text_again" ["goods","stand"] (eD' K CG CW CT)):FnOk P w K mg base (CX2 P w) 10 f0 fd ["text"] (cH' CT):=by
 refine F.okT bg' (λvs H Q E h=>?_) (λcdv A outer s H vs Q E hr h hp ro rm=>?_)
 ·obtain⟨x,f,rfl,_⟩:=h;rfl
 ·obtain⟨x,f,rfl,hz,l64,shp,ff0,bad,k⟩:=h;unfold Told at bad;have sz:=a_9;have hr1:Room 1 _:=hr.mono (by decide);have hr4:Room 4 _:=hr.mono (by decide);have hr5:Room 5 _:=hr.mono (by decide);refine' ⟨_,?r0,?kk⟩
  case' r0=>refine' a3_ ?s1 ?r1
  case' r1=>refine' a3_ ?s2 ?r2
  case' r2=>refine' a3_ ?s3 ?r3
  case' r3=>refine' a3_ ?s4 (a3_ ?s5 ab_)
  case s1=>exact ae_ (i:=1) bg'.nd rfl (Or.inl rfl) (al_ cW hr1 (a0_ (pv 0) a2_))
  case' s2=>refine' ak_ (ax_ (az_ (a6_ (cC_ rfl) (by rfl) B.all PyProof.Rows.Boot.«all» (a0_ (aS_ ["words"] 1 [] (am_ (pv 1)) (λfp s H=>ac_ (i:=0) (show (["words"]:List Str).Nodup by decide +kernel) rfl (Or.inl rfl)) (λfp s H=>aW_) (λfp s H=>?e1)) a2_)))) (a5_ (aJ_ rfl rm RT.mg RT.ex a_8 (by rfl) (a0_ a7_ a2_))) aa_
  case e1=>exact al_ cR hr4 (a0_ (pv 0) a2_)
  case s3=>exact ae_ (i:=2) bg'.nd rfl (Or.inl rfl) (fW_ cI hr hp (a0_ (pv 1) a2_))
  case' s4=>refine' ae_ (i:=3) bg'.nd rfl (Or.inl rfl) (aA_ (bd_ rfl) (by rfl) B.dict PyProof.Rows.Boot.«dict» (a0_ (aS_ ["words"] 1 [] (am_ (pv 1)) (λfp s H=>ac_ (i:=0) (show (["words"]:List Str).Nodup by decide +kernel) rfl (Or.inl rfl)) (λfp s H=>?t2) (λfp s H=>?e2)) a2_))
  case t2=>exact bw_ (ah_ b6_ (ag_ (ixK (K:=K) rIxL ad_) (pv 0) a4_ (λ_ _=>rfl)) a7_ (nomark _))
  case e2=>exact b0_ (a0_ (ag_ (ixK (K:=K) rIxL ad_) (pv 0) a4_ (λ_ _=>rfl)) (a0_ (ag_ (ixK (K:=K) rIxL ad_) (pv 0) a4_ (λ_ _=>rfl)) a2_))
  case s5=>exact ak_ (ah_ d6_ (fW_ cA hr5 hp (a0_ (pv 2) (a0_ (pv 3) a2_))) (pv 0) (nomark _)) (a5_ (aJ_ rfl rm RT.mg RT.ex a_8 (by rfl) (a0_ a7_ a2_))) aa_
  case' kk=>skip
  refine⟨_,rfl,x,rfl,hz,λl ys H1 s1 nl hl rw1=>?_⟩;have wl:=gW_ (x:=x) hz;have ne0:=kG_ x;generalize rowsT x=wss at l64 shp ff0 bad rw1 wl ne0;refine setG ?_;dsimp only;have le:=a_3 rw1;have l1000:wss.length<=1000:=by omega
  have fin:∀H',Same H H'->1<=sizeLine/\E (.ref CT) none H':=λH' s'=>⟨by decide,k H' s'⟩;refine⟨_,rfl,l,rfl,⟨_,.of hl⟩,λD hD=>?_⟩;refine aq_ (own:=1) (fv:=[]) (xs:=ys) rfl gok1 (λi out H'=>Same H1 H'/\H' D=some (.lst out)/\out=((wss.take i).map rowB).map V.bl) ⟨Same.new hD,a1_,rfl⟩ (λi out H' _ ⟨sm,_,_⟩=>.of (sm _ _ hl)) (λout H2 ⟨s2,hd2,eo⟩=>?_) (λi y out H' hy ⟨sm,hd,eo⟩=>?_);rotate_left
  ·obtain⟨ws,a,hw,rfl,ha⟩:=dS_ rw1 hy;have wm:=ae' hw;have ne:=ne0 ws wm;refine⟨_,rfl,rfl,λNx hN=>yesT ?_⟩;refine⟨_,rfl,a,ws,rfl,sm _ _ ha,ne,wl ws wm,λH2 s2=>⟨out,s2 _ _ hd,?_,hN _ _ ⟨au_ (sm.trans s2) hD,a1_,?_⟩⟩⟩
   ·rw[eo,aa',aa',af'];omega
   ·rw[eo,ap_ hw,ag',ag'];rfl
  rw[le,ao'] at eo;rw[eo] at hd2;refine⟨D,wss.map rowB,rfl,.of hd2,_,rfl,?_⟩;by_cases row:∀ws∈wss,rowB ws=true;rotate_left 1
  ·have al:(wss.map rowB).all id=false:=by
    rw[Bool.eq_false_iff,List.all_map];intro z;rw[aL'] at z;exact row z
   refine ite2 (λ_=>fin _ (s1.trans s2)) (λc=>?_);have c:¬(!((wss.map rowB).all id))=true:=c;rw[al] at c;exact absurd rfl c
  have al:(wss.map rowB).all id=true:=by
   rw[List.all_map,aL'];exact row
  refine ite2 (λc=>?_) (λc=>?_)
  ·have c:(!((wss.map rowB).all id))=true:=c;rw[al] at c;cases c
  have okW:∀ws∈wss,WsOk ws:=λws hw=>(jO_ (row ws hw) (wl ws hw)).1;have okP:∀ws∈wss,isW "piece" ws=true->WpOk ws:=λws hw=>(jO_ (row ws hw) (wl ws hw)).2;have hl2:=s2 _ _ hl;have rw2:=rw1.same s2;by_cases Gd:Good (be' wss) (bm' wss);rotate_left 1
  ·exact⟨_,rfl,.inr (.inl ⟨l,ys,wss,rfl,hl2,rw2,l64,okW,wl,Gd,λH' s'=>k H' ((s1.trans s2).trans s')⟩)⟩
  by_cases gps:eB' (bm' wss) (a7' wss);rotate_left 1
  ·exact⟨_,rfl,.inr (.inr ⟨l,ys,wss,rfl,hl2,rw2,l64,okW,okP,Gd,shp,gps,λH' s'=>k H' ((s1.trans s2).trans s')⟩)⟩
  obtain⟨gp,nd⟩:=gps;have ff:=ff0 nd;have pl:=c5_ wss;refine⟨_,rfl,.inl ⟨l,ys,wss,rfl,hl2,rw2,l1000,okW,okP,Gd,gp,nd,by omega,λg p qs fp H3 s3 ng GA Qq fr=>?_⟩⟩;refine setG ?_;dsimp only;have hl3:=s3 _ _ hl2;have rw3:=rw2.same s3;have s03:=(s1.trans s2).trans s3;refine⟨_,rfl,l,rfl,⟨_,.of hl3⟩,λD2 hD2=>?_⟩;refine aq_ (own:=1) (fv:=[]) (xs:=ys) rfl gok1 (λi out H'=>Same H3 H'/\H' D2=some (.lst out)/\bz' K H' out ((cw' (wss.take i)).map kvS)) ⟨Same.new hD2,a1_,.nil⟩ (λi out H' _ ⟨sm,_,_⟩=>.of (sm _ _ hl3)) (λout H4 ⟨s4,hd4,pa⟩=>?_) (λi y out H' hy ⟨sm,hd,tz⟩=>?_);rotate_left
  ·obtain⟨ws,a,hw,rfl,ha⟩:=dS_ rw3 hy;have wm:=ae' hw;refine⟨_,rfl,rfl,λNx hN=>?_⟩;refine⟨_,rfl,a,_,_,_,rfl,rfl,.of (sm _ _ ha),atS (i:=0) (okW ws wm).ne,rfl,_,rfl,?_⟩;rw[aY_];refine ite2 (λc=>?_) (λc=>?_)
   ·have l5:=(okP ws wm c).l5;refine⟨_,rfl,a,_,_,_,rfl,rfl,.of (sm _ _ ha),atS (i:=1) Z1,_,rfl,a,_,_,_,rfl,rfl,.of (sm _ _ ha),atS (i:=3) Z1,by show 2<=sizeLine;decide,λt nt=>?_⟩;obtain⟨s5,e5⟩:=nw__ (o:=.tup [.str (ws.getD 1 ""),.str (ws.getD 3 "")]) nt;generalize upd H' t (.tup [.str (ws.getD 1 ""),.str (ws.getD 3 "")])=H5 at s5 e5 ⊢;have lo:=a_3 tz;have:=eQ_ (wss.take i);rw[aa'] at lo;rw[af'] at this;have hD5:=s5 _ _ hd
    have pD:∀{b:Addr} {zs:List V},H5 b=some (.tup zs)->b≠D2:=λhb z=>by
     rw[z,hD5] at hb;cases hb
    refine⟨out,hD5,by omega,hN (out++[.ref t]) _ ⟨au_ (sm.trans s5) hD2,a1_,?_⟩⟩;rw[ap_ hw,cc_,b__ (show isW "piece" ws=true from c),ag'];exact aT_ (Paired.mapP tz λy kv ⟨b,z,hb⟩=>⟨b,z,by rw[a8_ (pD (s5 _ _ hb))];exact s5 _ _ hb⟩) (.cons ⟨t,rfl,by rw[a8_ (pD e5)];exact e5⟩ .nil)
   ·refine hN out _ ⟨sm,hd,?_⟩;rw[ap_ hw,cc_,a_5 (show ¬isW "piece" ws=true from c),aD'];exact tz
  rw[le,ao',gA_ ff] at pa;have h64:(a7' wss).length<64:=by omega
  refine⟨D2,out,_,rfl,hd4,pa,by rw[c1_,aa'];omega,λd hd=>?_⟩
  have ndk:((stF ((a7' wss).map (·.1)) f).map (·.1)).Nodup:=by
   rw[eH_,aM',aH'];exact nd.imp λn e=>n (c_3 e)
  rw[bp_ ndk];obtain⟨s5,e5⟩:=nw__ (o:=.dK (stF ((a7' wss).map (·.1)) f)) hd;refine setG ?_;dsimp only;generalize upd H4 d (.dK (stF ((a7' wss).map (·.1)) f))=H5 at s5 e5 ⊢;have s35:=s4.trans s5;have d3:H3 d=none:=s4.free hd;obtain⟨fp',GA',al'⟩:=GA.slim2
  have dfp:d∉fp':=λm=>by
   obtain⟨⟨o,e⟩,_⟩:=al' d m;rw[d3] at e;cases e
  by_cases at_:∀n∈(a7' wss).map (·.1),f n∈(be' wss).map (·.1);rotate_left 1
  ·obtain⟨n,hn,hf⟩:∃n,n∈(a7' wss).map (·.1)/\f n∉(be' wss).map (·.1):=by
    refine d_9 λz=>at_ λn hn=>d_9 λy=>z ⟨n,hn,y⟩
   exact⟨_,rfl,_,rfl,.inr ⟨g,p,.ref d,_,_,qs,fp',rfl,GA'.same s35,.inr ⟨d,_,f,rfl,dfp,e5,.inl ⟨n,hn,.inr hf⟩⟩,λH' s'=>k H' (s03.trans (s35.trans s'))⟩⟩
  have S:Std K CG CW H5 g p d (be' wss) (bm' wss) qs fp' ((a7' wss).map (·.1)) f:=by
   refine⟨GA'.same s35,Gd,dfp,e5,⟨?_,at_⟩,Qq.nd nd,?_,λq hq=>?_⟩
   ·rw[Qq.nms];exact (aP_ _).symm
   ·have:=Qq.len;omega
   ·obtain⟨p',hp',rfl⟩:=Qq.mem q hq;have:=(gp p' hp').w1;show 0<=p'.2.1;omega
  refine⟨_,rfl,_,rfl,.inl ⟨g,p,d,_,_,qs,fp',_,f,rfl,S,λq hq=>fI_ Gd gp Qq hq,λH6 s6=>?_⟩⟩;refine⟨_,rfl,rfl,_,rfl,?_⟩;refine ite2 (λ_=>fin _ (s03.trans (s35.trans s6))) (λc=>?_);have eq:bZ' (be' wss) (bm' wss) qs f=x:=by simpa using c
  exact absurd ⟨⟨l1000,row,wl,okW,okP,Gd,gp,nd,by omega,ff,at_⟩,qs,Qq,eq⟩ bad
theorem _root_.L2.TyOf.sameT{H H':Hp}{v:V}{t:Aa}(h:TyOf K H v t)(s:Same H H'):TyOf K H' v t:=by
 cases h with
 |non=>exact .non
 |bl y=>exact .bl y
 |int i=>exact .int i
 |str y=>exact .str y
 |flt y=>exact .flt y
 |lst ea=>exact .lst (s _ _ ea)
 |frz ea=>exact .frz (s _ _ ea)
 |tup ea=>exact .tup (s _ _ ea)
 |dK ea=>exact .dK (s _ _ ea)
 |dT ea=>exact .dT (s _ _ ea)
 |ins ea cl ha hn htk hm=>exact .ins (s _ _ ea) cl ha hn htk hm
theorem Qs.one{qs':List Pc}(Q:Qs ps qs)(Q':Qs ps qs')(nd:(ps.map (·.1)).Nodup):qs=qs':=by
 have key:∀(as bs:List Pc),as.map (·.1)=bs.map (·.1)->(∀q∈as,∃p∈ps,q=nrm p)->(∀q∈bs,∃p∈ps,q=nrm p)->as=bs:=by
  intro as
  induction as with
  |nil=>
   intro bs e _ _;cases bs with
   |nil=>rfl
   |cons _ _=>cases e
  |cons a as ih=>
   intro bs e h1 h2;cases bs with
   |nil=>cases e
   |cons b bs=>
    rw[aw',aw'] at e;obtain⟨e1,e2⟩:=e__ e;obtain⟨p,hp,ea⟩:=h1 a Z2;obtain⟨p',hp',eb⟩:=h2 b Z2
    have:p=p':=dz_ nd hp hp' (by
     show p.1=p'.1;rw[ea,eb] at e1;exact e1)
    rw[ih bs e2 (λq hq=>h1 q (by simp[hq])) (λq hq=>h2 q (by simp[hq])),ea,eb,this]
 exact key qs qs' (Q.nms.trans Q'.nms.symm) Q.mem Q'.mem
def exkIn(K:F__)(C:Addr):Bool:=(PySem.W.clsIn K C).isSome&&PySem.W.findIn K (.ref C) "__getattribute__" == some (some (.builtin "BaseException.__getattribute__"))&&PySem.W.findIn K (.ref C) "__getattr__" == some none&&PySem.W.findIn K (.ref C) "__class__" == some (some (.builtin "object.__class__")) &&
 PySem.W.specialIn K (.builtin "object.__class__") "__get__" == some (some (.builtin "getset_descriptor.__get__"))&&PySem.W.takesIn K (.builtin "object.__class__") == some true&&PySem.W.mroIn K C (.type "object") == some true&&PySem.W.mroIn K C (.type "BaseException") == some true
theorem lF_{C:Addr}(h:exkIn K C=true):ExcK K C:=by
 simp only[exkIn,au',beq_iff_eq] at h;obtain⟨⟨⟨⟨⟨⟨⟨a,b⟩,c⟩,d⟩,e⟩,f⟩,g⟩,i⟩:=h;exact⟨a,b,c,d,e,f,g,i⟩
structure PcOk (x:Str) (f:Str->Str):Prop where
 hz:x.length<=50000
 l64:(rowsT x).length<64
 sh:∀q∈a7' (rowsT x),ds' q
 ff:((a7' (rowsT x)).map (·.1)).Nodup->∀ws∈rowsT x,isW "piece" ws=true->f (ws.getD 1 "")=ws.getD 3 ""
def cK'(K:F__)(CG CW CT:Addr):Sp:=λvs H Q E=>bW' K CG CW vs H Q E∨cH' CT vs H Q E
def cC'(CT:Addr):Sp:=λvs H _ E=>∃(x:Str) (f:Str->Str),vs=[.str x]/\PcOk x f/\¬(Told x f/\a7' (rowsT x)=[])/\∀H',Same H H'->E (.ref CT) none H'
theorem g0_(F:Fun K "read_web" "read_web" ct' f0 fd)(T:TxtG K CG)(RT:Ref K mg "NoText" CT)(cR:CalG P w K mg base 10 "read_goods" ["text"] (cK' K CG CW CT))(cN:CalM P w K mg base CG 1 "names" ["self"] (bU' K CG CW)):FnOk P w K mg base (CX2 P w) 11 f0 fd ["text"] (cC' CT):=by
 refine F.okT bQ' (λvs H Q E h=>?_) (λcdv A outer s H vs Q E hr h hp ro rm=>?_)
 ·obtain⟨x,f,rfl,_⟩:=h;rfl
 ·obtain⟨x,f,rfl,ok,bad,k⟩:=h;have sz:=a_9;have hr1:Room 1 _:=hr.mono (by decide);refine' ⟨_,a3_ ?s1 (a3_ ?s2 ab_),?kk⟩
  case s1=>exact ae_ (i:=1) bQ'.nd rfl (Or.inl rfl) (ag_ aL_ (fW_ cR hr hp (a0_ (pv 0) a2_)) a4_ (λ_ _=>rfl))
  case s2=>exact ak_ (ah_ (e3_ cmpS (cL' hr 0)) (dX_ cN T.cl hr1 (pv 1)) (as_ a2_) (nomark _)) (a5_ (aJ_ rfl rm RT.mg RT.ex a_8 (by rfl) (a0_ a7_ a2_))) aa_
  case' kk=>skip
  by_cases td:Told x f;rotate_left 1
  ·exact⟨_,rfl,.inr ⟨x,f,rfl,ok.hz,ok.l64,ok.sh,ok.ff,td,k⟩⟩
  have pn:a7' (rowsT x)≠[]:=λz=>bad ⟨td,z⟩;obtain⟨Tx,qs0,Q0,e0⟩:=td;refine⟨_,rfl,.inl ⟨x,f,rfl,ok.hz,Tx,λqs Qq q hq=>fI_ Tx.G Tx.gp Qq hq,λqs Qq=>by rw[Qq.one Q0 Tx.nd];exact e0,λt g p d qs fp H1 s1 nt ht S Qq nd fr=>?_⟩⟩;refine⟨t,_,_,_,rfl,rfl,.of ht,rfl,?_⟩;refine setG ?_;dsimp only;obtain⟨dx,dw,dy,vs,fpw,h1,h2,h3,h4,h5,m1,m2,m3,m4,m5⟩:=id S.G.ex
  have q0:qs.map (·.1)≠[]:=λz=>pn (by
   have:=Qq.len;rw[List.map_eq_nil_iff.mp z] at this;exact List.length_eq_zero_iff.mp this.symm)
  have hno:(gflds p dw dy).lookup ("names":Str)=none:=be_ _ _ _ Z0 Z0 Z0;refine⟨_,rfl,g,dx,_,rfl,h1,hno,g,p,_,_,qs,fp,rfl,S.G,λl nl=>?_⟩;obtain⟨s2,e2⟩:=nw__ (o:=.lst ((qs.map (·.1)).map V.str)) nl;generalize upd H1 l (.lst ((qs.map (·.1)).map V.str))=H2 at s2 e2 ⊢;refine⟨by show 0<=sizeLine;decide,λl2 nl2=>?_⟩;obtain⟨s3,e3⟩:=nw__ (o:=.lst []) nl2;generalize upd H2 l2 (.lst [])=H3 at s3 e3 ⊢;refine⟨_,[],bE_ (s3 _ _ e2),⟨l2,[],rfl,.of e3,.nil⟩,_,rfl,?_⟩;rw[a_2 q0];exact iteT ⟨by show 1<=sizeLine;decide,k _ (s1.trans (s2.trans s3))⟩
theorem eE_(F:Fun K "read_goods" "read_goods" bS' f0 fd)(cW:CalG P w K mg base 1 "words_of_rows" ["text"] (bF' K CT)):FnOk P w K mg base (CX2 P w) 10 f0 fd ["text"] (bF' K CT):=by
 refine F.okT bg' (λvs H Q E h=>?_) (λcdv A outer s H vs Q E hr h hp ro rm=>?_)
 ·obtain⟨v,t,rfl,_⟩:=h;rfl
 ·obtain⟨v,t,rfl,ty,e,k⟩:=h;exact⟨_,a3_ (ae_ (i:=1) bg'.nd rfl (Or.inl rfl) (fW_ cW (hr.mono (by decide)) hp (a0_ (pv 0) a2_))) ab_,_,rfl,v,t,rfl,ty,e,k⟩
theorem fN_(F:Fun K "read_web" "read_web" ct' f0 fd)(cR:CalG P w K mg base 10 "read_goods" ["text"] (bF' K CT)):FnOk P w K mg base (CX2 P w) 11 f0 fd ["text"] (bF' K CT):=by
 refine F.okT bQ' (λvs H Q E h=>?_) (λcdv A outer s H vs Q E hr h hp ro rm=>?_)
 ·obtain⟨v,t,rfl,_⟩:=h;rfl
 ·obtain⟨v,t,rfl,ty,e,k⟩:=h;exact⟨_,a3_ (ae_ (i:=1) bQ'.nd rfl (Or.inl rfl) (ag_ aL_ (fW_ cR hr hp (a0_ (pv 0) a2_)) a4_ (λ_ _=>rfl))) ab_,_,rfl,v,t,rfl,ty,e,k⟩
def cF'(K:F__)(CG CW CT:Addr):Sp:=λvs H Q E=>d9' K CG CW vs H Q E∨cC' CT vs H Q E∨bF' K CT vs H Q E
structure RfT (K:F__) (mg:Str->Option Aa) (CT CE c0 CH CS CN CP:Addr):Prop where
 mT:mg "NoText"=some (.ref CT)
 mE:mg "EvenError"=some (.ref CE)
 m0:mg "NoGoods"=some (.ref c0)
 mH:mg "NoHand"=some (.ref CH)
 mS:mg "NoStand"=some (.ref CS)
 mN:mg "NoWeb"=some (.ref CN)
 mP:mg "NoPiece"=some (.ref CP)
 ex:ExcK K CT
 xm:PySem.W.exmOne K (.ref CT) (.ref CT)=some true
 k0:PySem.W.kitOne K (.ref CT) (.ref c0)=some false
 kH:PySem.W.kitOne K (.ref CT) (.ref CH)=some false
 kS:PySem.W.kitOne K (.ref CT) (.ref CS)=some false
 kN:PySem.W.kitOne K (.ref CT) (.ref CN)=some false
 kP:PySem.W.kitOne K (.ref CT) (.ref CP)=some false
 kE:PySem.W.kitOne K (.ref CT) (.ref CE)=some true
 kv:PySem.W.kitOne K (.ref CT) (.type "ValueError")=some true
def rfTIn(K:F__)(CT CE c0 CH CS CN CP:Addr):Bool:=exkIn K CT&&PySem.W.exmOne K (.ref CT) (.ref CT) == some true&&PySem.W.kitOne K (.ref CT) (.ref c0) == some false&&PySem.W.kitOne K (.ref CT) (.ref CH) == some false&&PySem.W.kitOne K (.ref CT) (.ref CS) == some false&&PySem.W.kitOne K (.ref CT) (.ref CN) == some false&&PySem.W.kitOne K (.ref CT) (.ref CP) == some false&&PySem.W.kitOne K (.ref CT) (.ref CE) == some true&&PySem.W.kitOne K (.ref CT) (.type "ValueError") == some true
variable{CH CP c0:Addr}
theorem l4_{CE:Addr}(h:rfTIn K CT CE c0 CH CS CN CP=true)(mT:mg "NoText"=some (.ref CT))(mE:mg "EvenError"=some (.ref CE))(m0:mg "NoGoods"=some (.ref c0))(mH:mg "NoHand"=some (.ref CH))(mS:mg "NoStand"=some (.ref CS))(mN:mg "NoWeb"=some (.ref CN))(mP:mg "NoPiece"=some (.ref CP)):RfT K mg CT CE c0 CH CS CN CP:=by
 simp only[rfTIn,au',beq_iff_eq] at h;obtain⟨⟨⟨⟨⟨⟨⟨⟨a,b⟩,c⟩,d⟩,e⟩,f⟩,g⟩,i⟩,j⟩:=h;exact⟨mT,mE,m0,mH,mS,mN,mP,lF_ a,b,c,d,e,f,g,i,j⟩
theorem len3s{α:Type}:∀{l:List α},l.length=3->∃a b c,l=[a,b,c]
 |[a,b,c],_=>⟨a,b,c,rfl⟩
def cg'(K:F__)(H:Hp)(v:V)(b:Bool):Prop:=(b=true/\∃t,TyOf K H v t/\PySem.W.kitOne K t (.type "str")=some false)∨∃x f,v=.str x/\PcOk x f/\((Told x f/\a7' (rowsT x)=[]) ↔ b=false)
theorem b4':a6' ["_law_text","_law_others","e"] ["_law_text"] (a5' dA'):=f__
def cZ'(K:F__):Sp:=λvs H Q _=>∃(v:V) (b:Bool),vs=[v]/\cg' K H v b/\∀H',Same H H'->Q (.bl b) H'
abbrev tIsT(K:F__)(v:V):TE:=tCB (dk' K) (bD' (tVar 2) (bD' (tC v) tNil))
abbrev tSuT(K:F__)(CE c0 CH CS CN CP:Addr):L2.TS:=tSeq (tAsg (tLst (bD' (tIsT K (.ref c0)) (bD' (tIsT K (.ref CH)) (bD' (tIsT K (.ref CS)) (bD' (tIsT K (.ref CN)) tNil))))) (b1' 1))
 (tAsg (tOp rCat (tVar 1) (tLst (bD' (tIsT K (.ref CP)) (bD' (tNotV (tIsT K (.ref CE))) (bD' (tNotV (tIsT K (.ty "ValueError"))) tNil))))) (b1' 1))
theorem gX_{CE:Addr}(F:Fun K "_law_refused" "_law_refused" dA' f0 fd)(B:Bi mg)(mV:mg "ValueError"=none)(mA:mg "any"=none)(R:RfT K mg CT CE c0 CH CS CN CP)(cR:CalG P w K mg base 11 "read_web" ["text"] (cF' K CG CW CT)):FnOk P w K mg base CX0 12 f0 fd ["_law_text"] (cZ' K):=by
 refine F.ok b4' (λvs H Q E h=>?_) (λcdv A outer s H vs Q E hr h=>?_)
 ·obtain⟨v,b,rfl,_⟩:=h;rfl
 ·obtain⟨v,b,rfl,rd,k⟩:=h;refine' ⟨_,a3_ ?s1 (a3_ ?s2 (a5_ ?s3)),?kk⟩
  case s1=>exact ae_ (i:=1) b4'.nd rfl (Or.inl rfl) (as_ (a0_ cr_ a2_))
  case' s2=>refine' kO_ (i:=2) (C:=CT) (tb:=λE'=>tDrop (tCall (cF' K CG CW CT) [] E' (bD' (tVar 0) tNil))) (ts:=tSuT K CE c0 CH CS CN CP) b4'.nd rfl rfl rfl rfl (by rfl) R.mT R.xm (λE' W pn hp=>?hb) (λa=>?hs)
  case hb=>exact a5_ (bv_ (fW_ cR hr hp (a0_ (pv 0) a2_)))
  case' hs=>refine' a3_ ?h1 (a5_ ?h2)
  case h1=>exact ae_ (i:=1) b4'.nd rfl (Or.inl rfl) (as_ (a0_ (a6_ (di' (K:=K) dk' bt_) (by rfl) B.isi PyProof.Rows.Boot.«isinstance» (a0_ (pv 2) (a0_ (b5_ (v:=.ref c0) (by rfl) R.m0 rfl) a2_))) (a0_ (a6_ (di' (K:=K) dk' bt_) (by rfl) B.isi PyProof.Rows.Boot.«isinstance» (a0_ (pv 2) (a0_ (b5_ (v:=.ref CH) (by rfl) R.mH rfl) a2_))) (a0_ (a6_ (di' (K:=K) dk' bt_) (by rfl) B.isi PyProof.Rows.Boot.«isinstance» (a0_ (pv 2) (a0_ (b5_ (v:=.ref CS) (by rfl) R.mS rfl) a2_))) (a0_ (a6_ (di' (K:=K) dk' bt_) (by rfl) B.isi PyProof.Rows.Boot.«isinstance» (a0_ (pv 2) (a0_ (b5_ (v:=.ref CN) (by rfl) R.mN rfl) a2_))) a2_)))))
  case h2=>exact ae_ (i:=1) b4'.nd rfl (Or.inl rfl) (ao_ aU_ (pv 1) (as_ (a0_ (a6_ (di' (K:=K) dk' bt_) (by rfl) B.isi PyProof.Rows.Boot.«isinstance» (a0_ (pv 2) (a0_ (b5_ (v:=.ref CP) (by rfl) R.mP rfl) a2_))) (a0_ (eX_ (a6_ (di' (K:=K) dk' bt_) (by rfl) B.isi PyProof.Rows.Boot.«isinstance» (a0_ (pv 2) (a0_ (b5_ (v:=.ref CE) (by rfl) R.mE rfl) a2_)))) (a0_ (eX_ (a6_ (di' (K:=K) dk' bt_) (by rfl) B.isi PyProof.Rows.Boot.«isinstance» (a0_ (pv 2) (a0_ (aV_ (v:=.ty "ValueError") (by rfl) mV PyProof.Rows.Boot.«ValueError» rfl) a2_)))) a2_)))))
  case s3=>exact af_ (eX_ (a6_ (jj_ rfl) (by rfl) mA PyProof.Rows.Boot.«any» (a0_ (pv 1) a2_)))
  case' kk=>skip
  refine⟨by show 1<=sizeLine;decide,λl0 hl0=>?_⟩;obtain⟨sa,ea⟩:=nw__ (o:=.lst [.bl true]) hl0;refine setG ?_;dsimp only;generalize upd H l0 (.lst [.bl true])=H0 at sa ea ⊢;refine seqG (λσ H'=>∃(u0:Option V) (l:Addr) (bs:List Bool) (v2:Option V),σ=[u0,some (.ref l),v2]/\Same H H'/\H' l=some (.lst (bs.map V.bl))/\(!(bs.any id))=b) ?later (λNx hN=>?now)
  case later=>
   rintro σ H' ⟨u0,l,bs,v2,rfl,s',e,eb⟩;refine⟨_,rfl,l,bs,rfl,.of e,_,rfl,?_⟩;show Q (.bl (!(bs.any id))) H';rw[eb];exact k H' s'
  have su:b=true->∀H1,Same H0 H1->∀(σ:St) (a:Addr),σ.length=3->H1 a=none->tSuT K CE c0 CH CS CN CP (Ends.gone { nx:=Nx,rt:=Q } 2) (σ.set 2 (some (.ref a))) (upd H1 a (exq a CT none)):=by
   rintro rfl H1 s1 σ a hl ha;obtain⟨u0,u1,u2,rfl⟩:=len3s hl;obtain⟨s2,e2⟩:=nw__ (o:=exq a CT none) ha;generalize upd H1 a (exq a CT none)=H2 at s2 e2 ⊢;refine⟨_,rfl,a,CT,none,_,_,_,rfl,rfl,e2,R.ex,R.k0,_,rfl,a,CT,none,_,_,_,rfl,rfl,e2,R.ex,R.kH,_,rfl,a,CT,none,_,_,_,rfl,rfl,e2,R.ex,R.kS,_,rfl,a,CT,none,_,_,_,rfl,rfl,e2,R.ex,R.kN,by show 4<=sizeLine;decide,λl hl=>?_⟩;obtain⟨s3,e3⟩:=nw__ (o:=.lst [.bl false,.bl false,.bl false,.bl false]) hl;refine setG ?_;dsimp only;generalize upd H2 l (.lst [.bl false,.bl false,.bl false,.bl false])=H3 at s3 e3 ⊢;have e23:=s3 _ _ e2;refine⟨_,rfl,_,rfl,a,CT,none,_,_,_,rfl,rfl,e23,R.ex,R.kP,_,rfl,a,CT,none,_,_,_,rfl,rfl,e23,R.ex,R.kE,_,rfl,_,rfl,a,CT,none,_,_,_,rfl,rfl,e23,R.ex,R.kv,_,rfl,by show 3<=sizeLine;decide,λl2 hl2=>?_⟩;have s4:=Same.new (o:=.lst [.bl false,.bl (!true),.bl (!true)]) hl2;have e4:upd H3 l2 (.lst [.bl false,.bl (!true),.bl (!true)]) l2=some (.lst [.bl false,.bl false,.bl false]):=a1_;generalize upd H3 l2 (.lst [.bl false,.bl (!true),.bl (!true)])=H4 at s4 e4 ⊢;refine⟨l,l2,_,_,rfl,rfl,s4 _ _ e3,e4,by show 7<=sizeLine;decide,λl3 hl3=>?_⟩;exact hN _ _ ⟨_,l3,[false,false,false,false,false,false,false],_,rfl,sa.trans (s1.trans (s2.trans (s3.trans (s4.trans (Same.new hl3))))),a1_,rfl⟩
  rcases rd with⟨rfl,t,ty,e⟩|⟨x,f,rfl,ok,ie⟩
  ·exact⟨_,rfl,.inr (.inr ⟨_,t,rfl,ty.sameT sa,e,rfl,λσ a hl ha=>su rfl H0 (Same.refl _) σ a hl ha⟩)⟩
  ·cases b with
   |true=>exact⟨_,rfl,.inr (.inl ⟨x,f,rfl,ok,λz=>(by cases ie.mp z),λH' s'=>⟨rfl,λσ a hl ha=>su rfl H' s' σ a hl ha⟩⟩)⟩
   |false=>
    obtain⟨⟨Tx,qs0,Q0,e0⟩,pn⟩:=ie.mpr rfl;exact⟨_,rfl,.inl ⟨x,f,rfl,ok.hz,Tx,λqs Qq q hq=>fI_ Tx.G Tx.gp Qq hq,λqs Qq=>(by rw[Qq.one Q0 Tx.nd];exact e0),pn,λp fp H' s' WA fr=>hN _ _ ⟨_,l0,[true],_,rfl,sa.trans s',s' _ _ ea,rfl⟩⟩⟩
def strB(x:Str):Bool:=decide (x≠"")&&(decide (x.length<=4)&&(x.cps.toList.all okd&&(!decide (atI x.cps.toList 0=some 48)&&decide ((PySem.intText? x).getD 0<=1000))))
def digs(n:Nat):List Nat:=if n<10 then [48+n] else if n<100 then [48+n / 10,48+n % 10] else if n<1000 then [48+n / 100,48+n / 10 % 10,48+n % 10] else [48+n / 1000,48+n / 100 % 10,48+n / 10 % 10,48+n % 10]
theorem k9_:∀n:Fin 1001,(Str.ofString (toString ((n.1:Nat):Int))).cps.toList=digs n.1:=by decide +kernel
theorem jX_(h:strB x=true):∃k:Int,1<=k/\k<=1000/\x=(toString k:Ah)/\PySem.intText? x=some k:=by
 unfold strB at h;simp only[au',b_1,aL',Bool.not_eq_true',decide_eq_false_iff_not] at h;obtain⟨h0,h4,hd,hz,hk⟩:=h
 have dg:∀c∈x.cps.toList,48<=c/\c<=57:=λc hc=>by
  have:=hd c hc;unfold okd at this;simpa using this
 have hne:x.cps.toList≠[]:=λz=>h0 (by
  obtain⟨a⟩:=x;have:a.toList=[]:=z;have:a=#[]:=by rw[<- Array.toList_eq_nil_iff];exact this
  rw[this];rfl)
 have hl:x.cps.toList.length<=4:=by
  have:x.length=x.cps.toList.length:=i9_ x;omega
 have iv:=intText_digits dg hne Z1;rw[iv] at hk ⊢;generalize hv:NumText.digitsVal x.cps.toList=n at iv hk
 have hn:n<=1000:=by
  have:((n:Nat):Int)<=1000:=hk;omega
 have first:∀c r,x.cps.toList=c::r->c≠48:=λc r e z=>hz (by rw[e,z];exact L2.bK' (j:=0) rfl)
 have e:digs n=x.cps.toList/\1<=n:=by
  generalize x.cps.toList=l at dg hne hl hv first
  match l,hne,hl with
  |[a],_,_=>
   have d1:=dg a Z2;have f:=first a [] rfl;have hv:0 * 10+(a - 48)=n:=hv;unfold digs;rw[b__ Z1];exact⟨by rw[<- hv];simp;omega,by omega⟩
  |[a,b],_,_=>
   have d1:=dg a Z2;have d2:=dg b Z2;have f:=first a [b] rfl;have hv:(0 * 10+(a - 48)) * 10+(b - 48)=n:=hv;unfold digs;rw[a_5 Z1,b__ Z1];have e1:48+n / 10=a:=by omega
   have e2:48+n % 10=b:=by omega
   exact⟨by rw[e1,e2],by omega⟩
  |[a,b,c],_,_=>
   have d1:=dg a Z2;have d2:=dg b Z2;have d3:=dg c Z2;have f:=first a [b,c] rfl;have hv:((0 * 10+(a - 48)) * 10+(b - 48)) * 10+(c - 48)=n:=hv;unfold digs;rw[a_5 Z1,a_5 Z1,b__ Z1];have e1:48+n / 100=a:=by omega
   have e2:48+n / 10 % 10=b:=by omega
   have e3:48+n % 10=c:=by omega
   exact⟨by rw[e1,e2,e3],by omega⟩
  |[a,b,c,d],_,_=>
   have d1:=dg a Z2;have d2:=dg b Z2;have d3:=dg c Z2;have d4:=dg d Z2;have f:=first a [b,c,d] rfl;have hv:(((0 * 10+(a - 48)) * 10+(b - 48)) * 10+(c - 48)) * 10+(d - 48)=n:=hv;unfold digs;rw[a_5 Z1,a_5 Z1,a_5 Z1];have e1:48+n / 1000=a:=by omega
   have e2:48+n / 100 % 10=b:=by omega
   have e3:48+n / 10 % 10=c:=by omega
   have e4:48+n % 10=d:=by omega
   exact⟨by rw[e1,e2,e3,e4],by omega⟩
 refine⟨(n:Int),by omega,by omega,?_,rfl⟩;have:=k9_ ⟨n,by omega⟩;rw[e.1] at this;obtain⟨⟨l⟩⟩:=x;have this:(Str.ofString (toString ((n:Nat):Int))).cps.toList=l:=this;rw[<- this]
def cD'(as:List Str)(w:Str):Bool:=match as.getLast? with
 |none=>true
 |some z=>ltS z w
def bT'(bs:Xb)(t:Str × Str):Bool:=match bs.getLast? with
 |none=>true
 |some z=>lexK (kT z) (kT t)
def bq'(st:List Str × Xb)(ws:List Str):Option (List Str × Xb):=
 if decide (ws.length=3)&&ba' (ws.getD 1 "") then
  if ws.getD 0 ""="hand" then (if st.2.isEmpty&&(strB (ws.getD 2 "")&&cD' st.1 (ws.getD 1 "")) then some (st.1++[ws.getD 1 ""],st.2) else none)
  else if decide (ws.getD 0 ""="tie")&&(decide (ws.getD 1 ""∈st.1)&&(decide (ws.getD 2 ""∈st.1)&&ltS (ws.getD 1 "") (ws.getD 2 ""))) then (if bT' st.2 (ws.getD 1 "",ws.getD 2 "") then some (st.1,st.2++[(ws.getD 1 "",ws.getD 2 "")]) else none)
  else none
 else none
def gRun:List Str × Xb->List (List Str)->Option (List Str × Xb)
 |st,[]=>some st
 |st,ws::r=>(bq' st ws).bind λst'=>gRun st' r
def bH'(wss:List (List Str)):Bool:=match gRun ([],[]) wss with
 |none=>false
 |some st=>decide (1<=st.1.length)&&decide (st.1.length<=8)
theorem eG_:∀{a b:List (List Str)} {st st':List Str × Xb},gRun st a=some st'->gRun st (a++b)=gRun st' b
 |[],_,_,_,h=>by cases h;rfl
 |ws::a,b,st,st',h=>by
  show (bq' st ws).bind _=_;have h:(bq' st ws).bind (λst''=>gRun st'' a)=some st':=h;cases e:bq' st ws with
  |none=>rw[e] at h;cases h
  |some s2=>
   rw[e] at h;exact eG_ (a:=a) (b:=b) h
variable{a b:Str}
theorem hv_{c:Str}(h:ltS a b=true)(h2:ltS b c=true):ltS a c=true:=by
 have:=bB_ (a:=[Sum.inr a]) (b:=[Sum.inr b]) (c:=[Sum.inr c]) (by
  show (if (Sum.inr a:Key)=Sum.inr b then _ else ltS a b)=true;rw[a_5 (λe=>by cases e;rw[co_] at h;cases h)];exact h) (by
  show (if (Sum.inr b:Key)=Sum.inr c then _ else ltS b c)=true;rw[a_5 (λe=>by cases e;rw[co_] at h2;cases h2)];exact h2)
 have this:(if (Sum.inr a:Key)=Sum.inr c then lexK [] [] else ltS a c)=true:=this;by_cases e:a=c
 ·rw[b__ (by rw[e])] at this;cases this
 ·rwa [a_5 (λz=>e (c_3 z))] at this
theorem ff_{α:Type}(as:List α)(a:α):(as++[a]).getLast? = some a:=by simp
variable{as:List Str}
theorem kT_{w:Str}(h:as.Pairwise λa b=>ltS a b=true)(o:cD' as w=true):∀a∈as,ltS a w=true:=λa ha=>by
 unfold cD' at o;cases e:as.getLast? with
 |none=>
  rw[List.getLast?_eq_none_iff.mp e] at ha;cases ha
 |some z=>
  rw[e] at o;obtain⟨r,rfl⟩:=List.getLast?_eq_some_iff.mp e;rcases aq'.mp ha with m|m
  ·exact hv_ ((List.pairwise_append.mp h).2.2 a m z Z2) o
  ·rw[show a=z by simpa using m];exact o
variable{t:Str × Str}{bs:Xb}
theorem jw_(h:bs.Pairwise λa b=>lexK (kT a) (kT b)=true)(o:bT' bs t=true):∀a∈bs,lexK (kT a) (kT t)=true:=λa ha=>by
 unfold bT' at o;cases e:bs.getLast? with
 |none=>
  rw[List.getLast?_eq_none_iff.mp e] at ha;cases ha
 |some z=>
  rw[e] at o;obtain⟨r,rfl⟩:=List.getLast?_eq_some_iff.mp e;rcases aq'.mp ha with m|m
  ·exact bB_ ((List.pairwise_append.mp h).2.2 a m z Z2) o
  ·rw[show a=z by simpa using m];exact o
theorem lj_{w:Str}(h:∀a∈as,ltS a w=true):cD' as w=true:=by
 unfold cD';cases e:as.getLast? with
 |none=>rfl
 |some z=>exact h z (List.mem_of_getLast? e)
theorem k6_(h:∀a∈bs,lexK (kT a) (kT t)=true):bT' bs t=true:=by
 unfold bT';cases e:bs.getLast? with
 |none=>rfl
 |some z=>exact h z (List.mem_of_getLast? e)
def dG'(p:Str × Str):List Str:=["hand",p.1,p.2]
theorem dO_{p:Str × Str}(h1:ba' p.1=true)(h2:strB p.2=true)(h3:cD' as p.1=true):bq' (as,[]) (dG' p)=some (as++[p.1],[]):=by
 unfold bq' dG';simp only[List.getD_cons_zero,List.getD_cons_succ];rw[h1,h2,h3];rfl
theorem ec_(h1:ba' t.1=true)(m1:t.1∈as)(m2:t.2∈as)(l:ltS t.1 t.2=true)(h3:bT' bs t=true):bq' (as,bs) (tieL t)=some (as,bs++[t]):=by
 unfold bq' tieL;simp only[List.getD_cons_zero,List.getD_cons_succ];rw[h1,l,a_1 m1,a_1 m2,show (t.1,t.2)=t from rfl,h3,a_5 (show ¬("tie":Str)="hand" by decide +kernel)];rfl
theorem eW_:∀{ps:Xb} {as:List Str},(∀p∈ps,ba' p.1=true/\strB p.2=true)->(as++ps.map (·.1)).Pairwise (λa b=>ltS a b=true)->gRun (as,[]) (ps.map dG')=some (as++ps.map (·.1),[])
 |[],as,_,_=>by simp[gRun]
 |p::ps,as,h,pw=>by
  have hp:=h p Z2;have o:cD' as p.1=true:=lj_ λa ha=>(List.pairwise_append.mp pw).2.2 a ha p.1 Z2;show (bq' (as,[]) (dG' p)).bind _=_;rw[dO_ hp.1 hp.2 o];have:=eW_ (ps:=ps) (as:=as++[p.1]) (λq hq=>h q (by simp[hq])) (by simpa using pw);simpa using this
theorem gC_:∀{us bs:Xb} {as:List Str},(∀t∈us,ba' t.1=true/\t.1∈as/\t.2∈as/\ltS t.1 t.2=true)->(bs++us).Pairwise (λa b=>lexK (kT a) (kT b)=true)->gRun (as,bs) (us.map tieL)=some (as,bs++us)
 |[],bs,as,_,_=>by simp[gRun]
 |t::us,bs,as,h,pw=>by
  obtain⟨h1,m1,m2,l⟩:=h t Z2;have o:bT' bs t=true:=k6_ λa ha=>(List.pairwise_append.mp pw).2.2 a ha t Z2;show (bq' (as,bs) (tieL t)).bind _=_;rw[ec_ h1 m1 m2 l o];have:=gC_ (us:=us) (bs:=bs++[t]) (as:=as) (λq hq=>h q (by simp[hq])) (by simpa using pw);simpa using this
theorem iH_{st:List Str × Xb}(h:bq' (as,bs) ws=some st) :
  (∃p:Str × Str,ws=dG' p/\bs=[]/\ba' p.1=true/\strB p.2=true/\cD' as p.1=true/\st=(as++[p.1],[])) ∨
  ∃t:Str × Str,ws=tieL t/\ba' t.1=true/\t.1∈as/\t.2∈as/\ltS t.1 t.2=true/\bT' bs t=true/\st=(as,bs++[t]):=by
 unfold bq' at h;by_cases c0:(decide (ws.length=3)&&ba' (ws.getD 1 ""))=true;rotate_left 1
 ·rw[a_5 c0] at h;cases h
 rw[b__ c0] at h;simp only[au',b_1] at c0;obtain⟨l3,n1⟩:=c0
 match ws,l3 with
 |[a,b,c],_=>
  simp only[List.getD_cons_zero,List.getD_cons_succ] at h n1;by_cases c1:a="hand"
  ·rw[b__ c1] at h;by_cases c2:(bs.isEmpty&&(strB c&&cD' as b))=true
   ·rw[b__ c2] at h;simp only[au'] at c2;have hb:bs=[]:=List.isEmpty_iff.mp c2.1;subst hb;cases h;exact .inl ⟨(b,c),by rw[c1];rfl,rfl,n1,c2.2.1,c2.2.2,rfl⟩
   ·rw[a_5 c2] at h;cases h
  ·rw[a_5 c1] at h;by_cases c2:(decide (a="tie")&&(decide (b∈as)&&(decide (c∈as)&&ltS b c)))=true
   ·rw[b__ c2] at h;simp only[au',b_1] at c2;obtain⟨e,m1,m2,l⟩:=c2;by_cases c3:bT' bs (b,c)=true
    ·rw[b__ c3] at h;cases h;exact .inr ⟨(b,c),by rw[e];rfl,n1,m1,m2,l,c3,rfl⟩
    ·rw[a_5 c3] at h;cases h
   ·rw[a_5 c2] at h;cases h
theorem hp_{α:Type}{R:α->α->Prop}{as:List α}{a:α}(h:as.Pairwise R)(k:∀x∈as,R x a):(as++[a]).Pairwise R:=List.pairwise_append.mpr ⟨h,List.pairwise_singleton _ _,λx hx y hy=>by rw[show y=a by simpa using hy];exact k x hx⟩
theorem ex_:∀{wss:List (List Str)} {as as':List Str} {bs bs':Xb},gRun (as,bs) wss=some (as',bs')->as.Pairwise (λa b=>ltS a b=true)->bs.Pairwise (λa b=>lexK (kT a) (kT b)=true)->
  ∃ps us:Xb,wss=ps.map dG'++us.map tieL/\as'=as++ps.map (·.1)/\bs'=bs++us/\(∀p∈ps,ba' p.1=true/\strB p.2=true)/\(∀t∈us,t.1∈as'/\t.2∈as'/\ltS t.1 t.2=true)/\as'.Pairwise (λa b=>ltS a b=true)/\bs'.Pairwise (λa b=>lexK (kT a) (kT b)=true)/\(bs≠[]->ps=[])
 |[],as,as',bs,bs',h,p1,p2=>by
  cases h;exact⟨[],[],rfl,by simp,by simp,λp hp=>(by cases hp),λt ht=>(by cases ht),p1,p2,λ_=>rfl⟩
 |ws::r,as,as',bs,bs',h,p1,p2=>by
  have h2:(bq' (as,bs) ws).bind (λst=>gRun st r)=some (as',bs'):=h;clear h;cases e:bq' (as,bs) ws with
  |none=>rw[e] at h2;cases h2
  |some st=>
   rw[e] at h2;rcases iH_ e with⟨p,ew,eb,n1,s1,o,es⟩|⟨t,ew,n1,m1,m2,l,o,es⟩
   ·subst eb es ew;obtain⟨ps,us,e1,e2,e3,e4,e5,e6,e7,_⟩:=ex_ (wss:=r) h2 (hp_ p1 (kT_ p1 o)) .nil;refine⟨p::ps,us,by rw[e1];rfl,by rw[e2];simp,e3,λq hq=>?_,e5,e6,e7,λz=>absurd rfl z⟩;rcases ah'.mp hq with z|z
    ·rw[z];exact⟨n1,s1⟩
    ·exact e4 q z
   ·subst es ew;obtain⟨ps,us,e1,e2,e3,e4,e5,e6,e7,e8⟩:=ex_ (wss:=r) h2 p1 (hp_ p2 (jw_ p2 o));have z:=e8 Z2;subst z;have ea:as'=as:=by rw[e2];simp
    refine⟨[],t::us,by rw[e1];rfl,by rw[ea];simp,by rw[e3];simp,λq hq=>(by cases hq),λq hq=>?_,e6,e7,λ_=>rfl⟩;rcases ah'.mp hq with z|z
    ·rw[z,ea];exact⟨m1,m2,l⟩
    ·exact e5 q z
theorem iM_:∀n:Fin 1001,n.1≠0->strB (Str.ofString (toString ((n.1:Nat):Int)))=true:=by decide +kernel
theorem kI_{k:Int}(h0:1<=k)(h1:k<=1000):strB ((toString k:Ah):Str)=true:=by
 obtain⟨n,rfl⟩:=aX' (show 0<=k by omega);exact iM_ ⟨n,by omega⟩ (by show n≠0;omega)
variable{ns:List Str}
theorem lB_(h:SAsc ns)(nd:ns.Nodup):ns.Pairwise λa b=>ltS a b=true:=by
 have:=List.Pairwise.and h nd
 exact this.imp λ{a b} q=>by
  cases e:ltS a b with
  |true=>rfl
  |false=>exact absurd (fx_ e q.1) q.2
theorem lq_(h:ns.Pairwise λa b=>ltS a b=true):SAsc ns/\ns.Nodup:=⟨h.imp λq=>cJ_ q,h.imp λ{a b} q e=>by rw[e,co_] at q;cases q⟩
theorem kk_(h:ltS a b=true):ord2 a b=(a,b):=by unfold ord2;rw[b__ h]
theorem l5_(g:∀t∈ts,da' t)(h:t∈tsOf ts):ltS t.1 t.2=true:=by
 obtain⟨u,hu,rfl⟩:=bt'.mp h;unfold ord2;by_cases c:ltS u.1 u.2=true
 ·rw[b__ c];exact c
 ·rw[a_5 c];cases e:ltS u.2 u.1 with
  |true=>rfl
  |false=>exact absurd (fx_ (by simpa using c) e) (g u hu).2.2
theorem gQ_(G:Good hs ts)(h:t∈tsOf ts):t.1∈a9' hs/\t.2∈a9' hs:=by
 obtain⟨u,hu,rfl⟩:=bt'.mp h;obtain⟨m1,m2⟩:=G.tin u hu;have m1:=(aI_ hs).mem_iff.mpr m1;have m2:=(aI_ hs).mem_iff.mpr m2;rcases bl_ u.1 u.2 with e|e
 ·rw[e];exact⟨m1,m2⟩
 ·rw[e];exact⟨m2,m1⟩
theorem kW_(nd:(ts.map kO).Nodup):(tsOf ts).Pairwise λa b=>lexK (kT a) (kT b)=true:=by
 have a1:Asc ((tsOf ts).map kT):=by rw[aZ_];exact br_ _
 have a2:((tsOf ts).map kT).Nodup:=by rw[aZ_];exact (aw_ _).nodup_iff.mpr nd
 have:=List.Pairwise.and a1 a2;rw[aH'] at this
 exact this.imp λ{a b} q=>by
  cases e:lexK (kT a) (kT b) with
  |true=>rfl
  |false=>exact absurd (de_ e q.1) q.2
theorem e6_(G:Good hs ts):bH' ((a9' hs).map (cO' hs)++(tsOf ts).map tieL)=true:=by
 have e:(a9' hs).map (cO' hs)=((a9' hs).map λn=>(n,((toString (strOf hs n):Ah):Str))).map dG':=by
  rw[ak'];rfl
 have en:(((a9' hs).map λn=>(n,((toString (strOf hs n):Ah):Str))).map (·.1))=a9' hs:=by
  rw[ak'];exact List.map_id' _
 have r1:=eW_ (ps:=(a9' hs).map λn=>(n,((toString (strOf hs n):Ah):Str))) (as:=[]) (λp hp=>by
  obtain⟨n,hn,rfl⟩:=ab'.mp hp;have g:=G.hok _ (bu_ ((aI_ hs).mem_iff.mp hn));exact⟨g.1,kI_ g.2.1 g.2.2⟩) (by
  rw[en,aR'];exact lB_ (eC_ hs) G.nnd)
 rw[en,aR'] at r1
 have r2:=gC_ (us:=tsOf ts) (bs:=[]) (as:=a9' hs) (λt ht=>⟨(ck_ (hs:=hs) G.tok ht).1,(gQ_ G ht).1,(gQ_ G ht).2,l5_ G.tok ht⟩) (by
  rw[aR'];exact kW_ G.tnd)
 unfold bH';rw[e,eG_ r1,r2];have:=G.nlen;have:=G.h1;have:=G.h8;simp only[au',b_1];omega
theorem ij_(h:bH' wss=true)(l64:wss.length<64):∃hs ts,Good hs ts/\wss=(a9' hs).map (cO' hs)++(tsOf ts).map tieL:=by
 unfold bH' at h;cases e:gRun ([],[]) wss with
 |none=>rw[e] at h;cases h
 |some st=>
  rw[e] at h;obtain⟨as',bs'⟩:=st;simp only[au',b_1] at h;obtain⟨ps,us,e1,e2,e3,e4,e5,e6,e7,_⟩:=ex_ e .nil .nil;rw[aR'] at e2 e3;subst e2 e3;obtain⟨sa,nd⟩:=lq_ e6
  have nb:∀n∈ps.map (·.1),ba' n=true:=λn hn=>by
   obtain⟨p,hp,rfl⟩:=ab'.mp hn;exact (e4 p hp).1
  have hn:(ps.map λp=>(p.1,(PySem.intText? p.2).getD 0)).map (·.1)=ps.map (·.1):=by
   rw[ak'];rfl
  have ll:=c_5 List.length e1;rw[an',aa',aa'] at ll;have kO_eq:∀t∈bs',kT (ord2 t.1 t.2)=kT t:=λt ht=>by rw[kk_ (e5 t ht).2.2]
  have km:(bs'.map λt=>kT (ord2 t.1 t.2))=bs'.map kT:=ax' kO_eq;have pk:(bs'.map kT).Pairwise λa b=>lexK a b=true:=aH'.mpr e7
  have G:Good (ps.map λp=>(p.1,(PySem.intText? p.2).getD 0)) bs':=by
   refine⟨λx hx=>?_,by rw[hn];exact nd,by rw[aa'];rw[aa'] at h;exact h.1,by rw[aa'];rw[aa'] at h;exact h.2,λt ht=>?_,?_,by omega,λt ht=>by rw[hn];exact⟨(e5 t ht).1,(e5 t ht).2.1⟩⟩
   ·obtain⟨p,hp,rfl⟩:=ab'.mp hx;obtain⟨k,k1,k2,_,ek⟩:=jX_ (e4 p hp).2;refine⟨(e4 p hp).1,?_,?_⟩
    ·show 1<=(PySem.intText? p.2).getD 0;rw[ek];exact k1
    ·show (PySem.intText? p.2).getD 0<=1000;rw[ek];exact k2
   ·obtain⟨m1,m2,l⟩:=e5 t ht;exact⟨nb _ m1,nb _ m2,λz=>by rw[z,co_] at l;cases l⟩
   ·rw[km];exact pk.imp λ{a b} q z=>by rw[z,cB_] at q;cases q
  refine⟨_,bs',G,?_⟩;have e8:a9' (ps.map λp=>(p.1,(PySem.intText? p.2).getD 0))=ps.map (·.1):=bQ_ ((aI_ _).trans (by rw[hn])) (eC_ _) sa
  have e9:tsOf bs'=bs':=cW_ (by
   rw[aZ_,km];exact (dj_ (List.Perm.refl _) (pk.imp λq=>cd_ q)).symm)
  rw[e1,e8,e9,ak'];congr 1;refine ax' λp hp=>?_;obtain⟨k,k1,k2,ew,ek⟩:=jX_ (e4 p hp).2;have es:strOf (ps.map λp=>(p.1,(PySem.intText? p.2).getD 0)) p.1=k:=ef_ (by rw[hn];exact nd) (ab'.mpr ⟨p,hp,by rw[ek];rfl⟩);show dG' p=cO' _ p.1;unfold dG' cO';rw[es,<- ew]
theorem fg_(x:Str):Txt.join "\n" ((rowsT x).map λws=>Txt.join " " ws)=x:=by
 have e:(rowsT x).map (λws=>Txt.join " " ws)=Txt.split x "\n":=by
  unfold rowsT;rw[ak']
  conv=>rhs;rw[<- List.map_id (Txt.split x "\n")]
  refine ax' λr _=>?_;show Txt.join " " (Txt.split r " ")=r;rw[show (" ":Str)=⟨#[32]⟩ from rfl,jn];exact StrLaws.join_split r _
 rw[e,show ("\n":Str)=⟨#[10]⟩ from rfl,jn];exact StrLaws.join_split x _
theorem ju_{f:Str->Str}(l64:(rowsT x).length<64):(Told x f/\a7' (rowsT x)=[]) ↔ bH' (rowsT x)=true:=by
 constructor
 ·rintro⟨⟨Tx,qs,Qq,e⟩,pn⟩
  have q0:qs=[]:=by
   have:=Qq.len;rw[pn] at this;exact List.length_eq_zero_iff.mp this
  subst q0;have T:Tell (be' (rowsT x)) (bm' (rowsT x)) [] f:=⟨Tx.G,λq hq=>(by cases hq),List.nodup_nil,by simp,λn hn=>(by cases hn)⟩;have r:=hz_ T;rw[e] at r;rw[r];have:=e6_ Tx.G;unfold wssG;rw[List.map_nil,aD'];exact this
 ·intro h;obtain⟨hs,ts,G,e⟩:=ij_ h l64;have T:Tell hs ts [] f:=⟨G,λq hq=>(by cases hq),List.nodup_nil,by simp,λn hn=>(by cases hn)⟩;have r:=hz_ T
  have ew:wssG hs ts [] f=rowsT x:=by
   unfold wssG;rw[List.map_nil,aD'];exact e.symm
  have ex:bZ' hs ts [] f=x:=by
   rw[<- fg_ x,<- ew,<- r,fg_]
  have pw:=bY_ T;rw[ew] at pw;refine⟨⟨ew▸T.tx,[],?_,?_⟩,pw⟩
  ·rw[pw];exact⟨(List.length_eq_zero_iff.mp (by rw[(aP_ _).length_eq];rfl)).symm,λq hq=>by cases hq⟩
  ·rw[<- ew,eK_ T,fv_,jt_ G];exact ex
theorem lP_:("abcdefghijklmnopqrstuvwxyz":Str).cps.toList=(List.range 26).map (97 + ·):=by decide +kernel
theorem lo_(c:Nat):(!(!(Builtin.Str.occurrences ("abcdefghijklmnopqrstuvwxyz":Str) ⟨#[c]⟩ 0 ("abcdefghijklmnopqrstuvwxyz":Str).length 1).isEmpty))=!okc c:=by
 rw[StrLaws.found_one,lP_];congr 1;unfold okc;by_cases h:97<=c/\c<=122
 ·rw[a_1 h.1,a_1 h.2];exact a_1 (ab'.mpr ⟨c - 97,List.mem_range.mpr Z1,by omega⟩)
 ·rw[show (decide (97<=c)&&decide (c<=122))=false by rw[<- Bool.not_eq_true,au',b_1,b_1];exact h];refine a_2 λm=>h ?_;obtain⟨i,hi,e⟩:=ab'.mp m;have:=List.mem_range.mp hi;omega
theorem lO_:("0123456789":Str).cps.toList=(List.range 10).map (48 + ·):=by decide +kernel
theorem li_(c:Nat):(!(!(Builtin.Str.occurrences ("0123456789":Str) ⟨#[c]⟩ 0 ("0123456789":Str).length 1).isEmpty))=!okd c:=by
 rw[StrLaws.found_one,lO_];congr 1;unfold okd;by_cases h:48<=c/\c<=57
 ·rw[a_1 h.1,a_1 h.2];exact a_1 (ab'.mpr ⟨c - 48,List.mem_range.mpr Z1,by omega⟩)
 ·rw[show (decide (48<=c)&&decide (c<=57))=false by rw[<- Bool.not_eq_true,au',b_1,b_1];exact h];refine a_2 λm=>h ?_;obtain⟨i,hi,e⟩:=ab'.mp m;have:=List.mem_range.mp hi;omega
def offs(ok:Nat->Bool)(l:List Nat):List Str:=(l.filter λc=>!ok c).map λc=>⟨#[c]⟩
theorem gi_{ok:Nat->Bool}{l:List Nat}:decide (offs ok l=[])=l.all ok:=by
 unfold offs;rw[Bool.eq_iff_iff,b_1,List.map_eq_nil_iff,List.filter_eq_nil_iff,aL'];constructor
 ·intro h c hc;simpa using h c hc
 ·intro h c hc;simpa using h c hc
theorem scIsName:a6' ["_law_word"] ["_law_word"] (a5' ey'):=f__
def dO':Sp:=λvs H Q _=>∃x:Str,vs=[.str x]/\x.length<=50000/\∀H',Same H H'->Q (.bl (ba' x)) H'
theorem iB_(F:Fun K "_law_is_name" "_law_is_name" ey' f fd)(B:Bi mg):FnOk P w K mg base CX0 1 f fd ["_law_word"] dO':=by
 refine F.ok scIsName (λvs H Q E h=>?_) (λcdv A outer s H vs Q E hr h=>?_)
 ·obtain⟨x,rfl,_⟩:=h;rfl
 ·obtain⟨x,rfl,hz,k⟩:=h;have sz:=a_9;refine' ⟨_,a5_ (af_ (bh_ ?a1 (bs_ (b7_ (jR_ cmpS (cL' hr 0)) ?a2 (as_ a2_) (nomark _))))),?kk⟩
  case a1=>exact cy_ cp_ cp_ a4_ (a6_ bg_ (by rfl) B.len b_3 (a0_ (pv 0) a2_)) a4_
  case a2=>exact aS_ ["_law_sign"] 1 [] (eP_ (pv 0)) (λfp s H=>ac_ (i:=0) (show (["_law_sign"]:List Str).Nodup by decide +kernel) rfl (Or.inl rfl)) (λfp s H=>bw_ (ah_ d2_ (pv 0) a7_ rfl)) (λfp s H=>pv 0)
  case' kk=>skip
  refine⟨_,rfl,x,rfl,by omega,_,_,rfl,rfl,_,rfl,?_⟩
  have fin:(decide (1<=x.length)&&decide (x.length<=8))=false->Q (.bl false) H:=λe=>by
   have:=k H (Same.refl H);rwa [show ba' x=false by unfold ba';rw[e];rfl] at this
  refine ite2 (λc=>?_) (λc=>?_);rotate_left
  ·have c1:¬1<=x.length:=by
    have:¬((1:Int)<=(x.length:Int)):=by simpa using c
    omega
   exact⟨_,rfl,iteF (fin (by rw[a_2 c1];rfl))⟩
  have c1:1<=x.length:=by
   have:(1:Int)<=(x.length:Int):=by simpa using c
   omega
  refine⟨_,_,rfl,rfl,_,rfl,?_⟩;refine ite2 (λc2=>?_) (λc2=>?_);rotate_left
  ·have c3:¬x.length<=8:=by
    have:¬((x.length:Int)<=8):=by simpa using c2
    omega
   exact fin (by rw[a_2 c3,Bool.and_false])
  have c3:x.length<=8:=by
   have:(x.length:Int)<=8:=by simpa using c2
   omega
  refine⟨_,rfl,x,rfl,λD hD=>?_⟩;refine cT_ (own:=1) (fv:=[]) rfl gok1 x.cps.size (λi out H'=>H'=upd H D (.lst out)/\out=(offs okc (x.cps.toList.take i)).map V.str) ⟨rfl,by simp[offs]⟩ (λout H' ⟨e1,e2⟩=>?_) (λi out H' hi ⟨e1,e2⟩=>?_)
  ·refine⟨ai' _,?_⟩;have sm:Same H H':=by rw[e1];exact Same.new hD
   have eD:H' D=some (.lst ((offs okc x.cps.toList).map V.str)):=by rw[e1,a1_,e2,aF' Z2]
   refine⟨by show 0<=sizeLine;decide,λl2 nl2=>?_⟩;have s3:=Same.new (o:=.lst []) nl2;refine⟨_,[],bE_ (s3 _ _ eD),⟨l2,[],rfl,.of a1_,.nil⟩,?_⟩;have:=k _ (sm.trans s3);unfold ba' at this;rw[a_1 c1,a_1 c3,aT',aT',<- gi_] at this;exact this
  ·subst e1;refine⟨hi,λy H2 yl=>?_⟩;obtain⟨eH,c,hc,rfl⟩:=yl;subst eH;have hc:x.cps.toList[i]? = some c:=by simpa using hc
   refine⟨_,rfl,rfl,λNx hN=>?_⟩;refine⟨_,rfl,_,_,rfl,rfl,_,rfl,?_⟩;rw[lo_];have tk:x.cps.toList.take (i+1)=x.cps.toList.take i++[c]:=by rw[aI',hc];rfl
   cases o:okc c with
   |true=>
    refine iteF (hN out _ ⟨rfl,?_⟩);rw[e2,tk];unfold offs;rw[aE'];simp[o]
   |false=>
    refine iteT ⟨_,rfl,out,a1_,?_,?_⟩
    ·rw[e2,aa']
     have h1:(offs okc (x.cps.toList.take i)).length<=(x.cps.toList.take i).length:=by
      unfold offs;rw[aa'];exact aW' ..
     have hs:x.length=x.cps.size:=rfl;simp only[af',aK'] at h1;omega
    ·rw[bZ_];refine hN _ _ ⟨rfl,?_⟩;rw[e2,tk];unfold offs;rw[aE'];simp[o]
theorem scIsStr:a6' ["_law_word"] ["_law_word"] (a5' cf'):=f__
def et':Sp:=λvs H Q _=>∃x:Str,vs=[.str x]/\x.length<=50000/\∀H',Same H H'->Q (.bl (strB x)) H'
theorem jo_(F:Fun K "_law_is_strength" "_law_is_strength" cf' f fd)(B:Bi mg):FnOk P w K mg base CX0 1 f fd ["_law_word"] et':=by
 refine F.ok scIsStr (λvs H Q E h=>?_) (λcdv A outer s H vs Q E hr h=>?_)
 ·obtain⟨x,rfl,_⟩:=h;rfl
 ·obtain⟨x,rfl,hz,k⟩:=h;have sz:=a_9;refine' ⟨_,a3_ (ak_ (cm_ (ah_ b6_ (pv 0) a7_ (nomark _)) (cm_ (ah_ kC_ (a6_ bg_ (by rfl) B.len b_3 (a0_ (pv 0) a2_)) a4_ (nomark _)) (bI_ (ah_ (e3_ cmpS (cL' hr 0)) ?a2 (as_ a2_) (nomark _))))).pt (a5_ (af_ cr_)) aa_) (a5_ ?s2),?kk⟩
  case a2=>exact aS_ ["_law_sign"] 1 [] (eP_ (pv 0)) (λfp s H=>ac_ (i:=0) (show (["_law_sign"]:List Str).Nodup by decide +kernel) rfl (Or.inl rfl)) (λfp s H=>bw_ (ah_ d2_ (pv 0) a7_ rfl)) (λfp s H=>pv 0)
  case s2=>exact af_ (bh_ (b7_ d6_ (ag_ eb_ (pv 0) a4_ (λ_ _=>rfl)) a7_ (nomark _)) (bs_ (b7_ cp_ (aA_ ba_ (by rfl) B.int PyProof.Rows.Boot.«int» (a0_ (pv 0) a2_)) a4_ (nomark _))))
  case' kk=>skip
  refine⟨_,rfl,rfl,_,rfl,?_⟩;refine ite2 (λc=>?_) (λc=>?_)
  ·have c0:x="":=by simpa using c
   have:=k H (Same.refl H);unfold strB at this;rw[a_2 (λz=>z c0)] at this;exact iteT this
  have c0:x≠"":=by simpa using c
  refine⟨_,rfl,x,rfl,by omega,_,_,rfl,rfl,_,rfl,?_⟩;refine ite2 (λc=>?_) (λc=>?_)
  ·have c4:¬x.length<=4:=by
    have:(4:Int)<(x.length:Int):=by simpa using c
    omega
   have:=k H (Same.refl H);unfold strB at this;rw[a_1 c0,a_2 c4] at this;exact iteT this
  have c4:x.length<=4:=by
   have:¬((4:Int)<(x.length:Int)):=by simpa using c
   omega
  refine⟨_,rfl,x,rfl,λD hD=>?_⟩;refine cT_ (own:=1) (fv:=[]) rfl gok1 x.cps.size (λi out H'=>H'=upd H D (.lst out)/\out=(offs okd (x.cps.toList.take i)).map V.str) ⟨rfl,by simp[offs]⟩ (λout H' ⟨e1,e2⟩=>?_) (λi out H' hi ⟨e1,e2⟩=>?_)
  ·refine⟨ai' _,?_⟩;have sm:Same H H':=by rw[e1];exact Same.new hD
   have eD:H' D=some (.lst ((offs okd x.cps.toList).map V.str)):=by rw[e1,a1_,e2,aF' Z2]
   refine⟨by show 0<=sizeLine;decide,λl2 nl2=>?_⟩;have s3:=Same.new (o:=.lst []) nl2;have kk:=k _ (sm.trans s3);unfold strB at kk;rw[a_1 c0,a_1 c4,aT',aT'] at kk;refine⟨_,[],bE_ (s3 _ _ eD),⟨l2,[],rfl,.of a1_,.nil⟩,_,rfl,?_⟩;rw[gi_];cases ha:x.cps.toList.all okd with
   |false=>
    rw[ha] at kk;exact iteT kk
   |true=>
    refine iteF ?_;rw[ha,aT'] at kk
    obtain⟨c0',h0⟩:∃c0,atI x.cps.toList 0=some c0:=by
     cases e:x.cps.toList with
     |nil=>
      exact absurd (by
       obtain⟨⟨l⟩⟩:=x;have:l=[]:=e;rw[this];rfl) c0
     |cons a l=>exact⟨a,L2.bK' (j:=0) (v:=a) rfl⟩
    have e0:("0":Str)=⟨#[48]⟩:=by decide +kernel
    refine⟨_,rfl,x,0,c0',rfl,rfl,by omega,h0,rfl,_,rfl,?_⟩;rw[h0] at kk;by_cases z:c0'=48
    ·rw[show decide (some c0'=some (48:Nat))=true by rw[z];rfl] at kk;refine ite2 (λc=>?_) (λ_=>kk);have c:¬(V.str ⟨#[c0']⟩=V.str "0"):=by simpa using c
     exact absurd (by rw[z,e0]) c
    ·rw[show decide (some c0'=some (48:Nat))=false by simpa using z] at kk;refine ite2 (λ_=>?_) (λc=>?_)
     ·obtain⟨n,en⟩:∃n,PySem.intText? x=some n:=by
       refine⟨_,intText_digits (λc hc=>?_) (λe=>?_) Z1⟩
       ·have:=aL'.mp ha c hc;unfold okd at this;simpa using this
       ·rw[e] at h0;cases h0
      rw[en] at kk;exact⟨_,rfl,x,n,rfl,by omega,en,n,1000,rfl,rfl,kk⟩
     ·have c:V.str ⟨#[c0']⟩=V.str "0":=by simpa using c
      rw[e0] at c;have:=V.str.inj c;have:c0'=48:=by simpa using this
      exact absurd this z
  ·subst e1;refine⟨hi,λy H2 yl=>?_⟩;obtain⟨eH,c,hc,rfl⟩:=yl;subst eH;have hc:x.cps.toList[i]? = some c:=by simpa using hc
   refine⟨_,rfl,rfl,λNx hN=>?_⟩;refine⟨_,rfl,_,_,rfl,rfl,_,rfl,?_⟩;rw[li_];have tk:x.cps.toList.take (i+1)=x.cps.toList.take i++[c]:=by rw[aI',hc];rfl
   cases o:okd c with
   |true=>
    refine iteF (hN out _ ⟨rfl,?_⟩);rw[e2,tk];unfold offs;rw[aE'];simp[o]
   |false=>
    refine iteT ⟨_,rfl,out,a1_,?_,?_⟩
    ·rw[e2,aa']
     have h1:(offs okd (x.cps.toList.take i)).length<=(x.cps.toList.take i).length:=by
      unfold offs;rw[aa'];exact aW' ..
     have hs:x.length=x.cps.size:=rfl;simp only[af',aK'] at h1;omega
    ·rw[bZ_];refine hN _ _ ⟨rfl,?_⟩;rw[e2,tk];unfold offs;rw[aE'];simp[o]
end Ev
namespace HT
open PySem PyProof.Rows
inductive StrsAre:List Aa->List Str->Prop
 |nil:StrsAre [] []
 |cons {vs:List Aa} {ns:List Str} (a:Str) (t:Tok) (h:StrsAre vs ns):StrsAre (.str a t::vs) (a::ns)
variable{ns:List Str}
theorem StrsAre.length{vs:List Aa}(h:StrsAre vs ns):vs.length=ns.length:=by
 induction h with
 |nil=>rfl
 |cons a t h ih=>rw[aC',aC',ih]
def lexGe:List Str->List Str->Bool
 |[],[]=>true
 |[],_::_=>false
 |_::_,[]=>true
 |x::xs,y::ys=>if x=y then lexGe xs ys else !decide (x.cps.toList<y.cps.toList)
theorem gS_(x y:Str)(xs ys:List Str):lexGe (x::xs) (y::ys)=if x=y then lexGe xs ys else !decide (x.cps.toList<y.cps.toList):=rfl
theorem is_(A:Ag)(s:Ab)(a:Str)(t:Tok)(c:Str)(u:Tok):∃e,SeqAt.EqAt A s (.str a t) (.str c u) e/\(e=true ↔ a=c):=⟨(a == c),SeqAt.EqAt.str_str a t c u,by simp⟩
theorem iK_(A:Ag)(s:Ab)(a:Str)(t:Tok)(c:Str)(u:Tok)(prog:Ad)(w:Af)(E:Aa->Ab->Prop)(Q:Aa->Ab->Prop)(h:Q (.bool (!decide (a.cps.toList<c.cps.toList))) s) :
  wpAny (model prog w) A (richCompare .GtE (.str a t) (.str c u)) Q E s:=
 (PySem.P.ge_str h:wpAny (model prog w) A (compareOp .GtE (.str a t) (.str c u)) Q E s)
section
open PySem.SeqAt
open PySem.AutoSeq1 (wpAny_loadPart')
open PySem.MeetsSeq PySem.MeetsSeq2 PySem.MeetsSeq3
theorem eI_(l b:Addr)(items items2:Array Aa)(n n2:Nat)(dd dd2:Option Addr)(sl sl2:Array (Option Aa))(ns ms:List Str)(hi:StrsAre items.toList ns)(hj:StrsAre items2.toList ms) :
  Meets (Builtin.«tuple.__ge__» ⟨[.ref l,.ref b],[]⟩)
   (λ_ R s=>s.heap.get? l=some { cls:=.type "tuple",dict:=dd,data:=.seq items n,slots:=sl }/\s.heap.get? b=some { cls:=.type "tuple",dict:=dd2,data:=.seq items2 n2,slots:=sl2 } /\
    R (.ok (.ret (.bool (lexGe ns ms)))) s):=
 .of_wp λprog w A R s h=>by
  obtain⟨hp,g,d,tk,os⟩:=s;obtain⟨hl,hb,h⟩:=h;have f2:=AutoSeq1.sub_tuple_tuple;have z1:items.size=ns.length:=by rw[<- hi.length];simp
  have z2:items2.size=ms.length:=by rw[<- hj.length];simp
  wp_walk using c__ hl,c__ hb,wpAny_forIn_list _ (λrest b s'=>b.1=none/\s'=⟨hp,g,d,tk,os⟩/\∃(vs ws:List Aa) (ns' ms':List Str),rest=vs.zip ws /\
   StrsAre vs ns'/\StrsAre ws ms'/\ns'.length+items2.size=ms'.length+items.size/\R (.ok (.ret (.bool (lexGe ns' ms')))) ⟨hp,g,d,tk,os⟩) _
  case turn=>
   rintro⟨y,x⟩ rest b s' ⟨hb',rfl,vs,ws,ns',ms',hz,hvi,hwi,hlen,hR⟩;cases hvi with
   |nil=>rw[List.zip_nil_left] at hz;cases hz
   |cons a t hvi'=>
    cases hwi with
    |nil=>rw[List.zip_nil_right] at hz;cases hz
    |cons c u hwi'=>
     rw[List.zip_cons_cons] at hz
     injection hz with hyx hrest
     injection hyx with hy hx
     subst hy hx;rw[gS_] at hR;simp only[aC'] at hlen;obtain⟨e,he,hiff⟩:=is_ A.in1 ⟨hp,g,d,tk,os⟩ a t c u;refine a__ (he prog w _ _ ?_);cases e with
     |true=>
      rw[b__ (hiff.mp rfl)] at hR
      wp_walk
      exact⟨rfl,rfl,_,_,_,_,hrest,hvi',hwi',by omega,hR⟩
     |false=>
      rw[a_5 (λq=>absurd (hiff.mpr q) ay')] at hR;have hri:=iK_ A.in1 ⟨hp,g,d,tk,os⟩ a t c u prog w
      wp_walk using hri
      exact⟨_,rfl,by simpa using hR⟩
  case fin=>
   rintro⟨b1,b2⟩ s' ⟨hb',rfl,vs,ws,ns',ms',hz,hvi,hwi,hlen,hR⟩;simp only at hb';subst hb'
   have hv:lexGe ns' ms'=decide (items2.size<=items.size):=by
    cases hvi with
    |nil=>
     cases hwi with
     |nil=>
      simp only[a2'] at hlen;exact (a_1 Z1).symm
     |cons c u hw=>
      simp only[a2',aC'] at hlen;exact (a_2 Z1).symm
    |cons a t hv=>
     cases hwi with
     |nil=>
      simp only[a2',aC'] at hlen;exact (a_1 Z1).symm
     |cons c u hw=>
      rw[List.zip_cons_cons] at hz;cases hz
   rw[hv] at hR
   wp_walk
   exact⟨_,rfl,by simpa [Builtin.Tuple.tupleCompareSizes] using hR⟩
  case h=>
   exact⟨rfl,rfl,items.toList,items2.toList,ns,ms,rfl,hi,hj,by omega,h⟩
end
variable{prog:Ad}{w:Af}{A:Ag}{E:Aa->Ab->Prop}{s:Ab}
theorem ge_tupStrs{l b:Addr}{items items2:Array Aa}{ms:List Str}{Q:Aa->Ab->Prop}(hl:IsTup s.heap l items)(hb:IsTup s.heap b items2)(hi:StrsAre items.toList ns)(hj:StrsAre items2.toList ms)(hu:A.units<cLine)(h:Q (.bool (lexGe ns ms)) s):wpAny (model prog w) A (compareOp .GtE (.ref l) (.ref b)) Q E s:=by
 obtain⟨⟨cls,dd,data,sl⟩,ho,hc,n,hd⟩:=id hl;obtain⟨⟨cls2,dd2,data2,sl2⟩,ho2,hc2,n2,hd2⟩:=id hb;simp only at hc hd hc2 hd2;subst hc hd hc2 hd2
 exact richCompare_meets_room (op:=.GtE) ⟨_,ho,rfl⟩ ⟨_,ho2,rfl⟩ PySem.F.slot_tuple_ge PySem.F.entry_tuple_ge (PySem.F.args_tuple_ge_2 _ _) (eI_ l b items items2 n n2 dd dd2 sl sl2 ns ms hi hj)
  ⟨ho,ho2,show Value.bool (lexGe ns ms)≠Value.notImplemented/\Q (.bool (lexGe ns ms)) s from ⟨(λx=>nomatch x),h⟩⟩ hu
end HT
namespace L2
open PySem PySem.Spec PyProof.Rows
inductive dl' (x:V) (y:V) (H:Hp) (Q:VK):Prop
 |mk:∀i j,x=.str i->y=.str j->Q (.bl (!decide (i.cps.toList<j.cps.toList))) H->dl' x y H Q
variable{X:Cx}
theorem ip_:OpR X (compareOp .GtE) dl':=by
 intro pins s σ H x y v u Q I rx ry h;obtain⟨i,j,rfl,rfl,q⟩:=h;obtain⟨t,rfl⟩:=rx;obtain⟨t',rfl⟩:=ry;exact PySem.P.ge_str ⟨.bl _,H,I,rfl,q⟩
theorem cQ_:∀{ns:List Str} {us:List Aa},Vals (ns.map V.str) us->HT.StrsAre us ns
 |[],_,.nil=>.nil
 |n::ns,_,.cons ⟨t,e⟩ r=>by subst e;exact .cons n t (cQ_ r)
inductive rGeT (K:F__) (x:V) (y:V) (H:Hp) (Q:VK):Prop
 |mk:∀a b ns ms,x=.ref a->y=.ref b->SqT K H a (ns.map V.str)->SqT K H b (ms.map V.str)->Q (.bl (HT.lexGe ns ms)) H->rGeT K x y H Q
theorem kZ_(hu:X.A.units<cLine):OpR X (compareOp .GtE) (rGeT X.K):=by
 intro pins s σ H x y v u Q I rx ry h;obtain⟨a,b,ns,ms,rfl,rfl,ha,hb,q⟩:=h;cases rx;cases ry;obtain⟨its,r1,p1,_⟩:=I.tuple ha;obtain⟨its2,r2,p2,_⟩:=I.tuple hb;exact HT.ge_tupStrs p1 p2 (cQ_ (us:=its.toArray.toList) r1) (cQ_ (us:=its2.toArray.toList) r2) hu ⟨.bl (HT.lexGe ns ms),H,I,rfl,q⟩
end L2
namespace Ev
open PySem L2
theorem kV_(a b c d:Str):HT.lexGe [a,b] [c,d]=!lexK (kT (a,b)) (kT (c,d)):=by
 unfold kT;show (if a=c then (if b=d then true else !ltS b d) else !ltS a c)=!(if (Sum.inr a:Key)=Sum.inr c then (if (Sum.inr b:Key)=Sum.inr d then lexK [] [] else ltS b d) else ltS a c);by_cases h:a=c
 ·subst h;by_cases h2:b=d
  ·subst h2;simp[cB_]
  ·have:¬(Sum.inr b:Key)=Sum.inr d:=λz=>h2 (c_3 z);simp[h2]
 ·have:¬(Sum.inr a:Key)=Sum.inr c:=λz=>h (c_3 z);simp[h]
variable{wss:List (List Str)}{ws:List Str}{st:List Str × Xb}
theorem ce_{st':List Str × Xb}(h:gRun st wss=some st'):gRun st (wss++[ws])=bq' st' ws:=by
 rw[eG_ h];show (bq' st' ws).bind _=_;cases bq' st' ws<;>rfl
theorem jb_{a b:List (List Str)}(h:gRun st a=none):gRun st (a++b)=none:=by
 induction a generalizing st with
 |nil=>cases h
 |cons ws a ih=>
  show (bq' st ws).bind _=none;have h:(bq' st ws).bind (λst''=>gRun st'' a)=none:=h;cases e:bq' st ws with
  |none=>rfl
  |some s2=>
   rw[e] at h;exact ih h
theorem ku_{i:Nat}(h:gRun ([],[]) (wss.take i)=some st)(hw:wss[i]? = some ws)(n:bq' st ws=none):bH' wss=false:=by
 have e:wss=wss.take i++[ws]++wss.drop (i+1):=by
  rw[<- ap_ hw,List.take_append_drop]
 have:gRun ([],[]) wss=none:=by
  rw[e];exact jb_ ((ce_ h).trans n)
 unfold bH';rw[this]
theorem kl_{K:F__}{H:Hp}:∀{ws:Xb} {ys:List V},a8' K H ys (ws.map kT)->Paired (r2 K rS rS H) ys ws
 |[],_,.nil=>.nil
 |_::_,_,.cons ⟨a,e,h⟩ t=>.cons ⟨a,_,_,e,.of h,rfl,rfl⟩ (kl_ t)
theorem ee':a6' ["_law_rows","_law_hands","_law_ties","_law_row","_law_words"] ["_law_rows"] (a5' sGood):=f__
def spGood:Sp:=λvs H Q _=>∃(l:Addr) (rs:List Str),vs=[.ref l]/\H l=some (.lst (rs.map V.str))/\rs.length<64/\(∀r∈rs,r.length<=1000)/\∀H',Same H H'->Q (.bl (bH' (rs.map λr=>Txt.split r " "))) H'
variable{P:Ad}{w:Af}{K:F__}{mg:Str->Option Aa}{base:Heap}
theorem k7_{f:Addr}{fd:Ae}(F:Fun K "_law_good" "_law_good" sGood f fd)(B:Bi mg)(cN:Cal P w K mg base 1 "_law_is_name" ["_law_word"] dO')(cS:Cal P w K mg base 1 "_law_is_strength" ["_law_word"] et'):FnOk P w K mg base CX0 2 f fd ["_law_rows"] spGood:=by
 refine F.ok ee' (λvs H Q E h=>?_) (λcdv A outer s H vs Q E hr h=>?_)
 ·obtain⟨l,rs,rfl,_⟩:=h;rfl
 ·obtain⟨l,rs,rfl,hl,l64,lr,k⟩:=h;have sz:=a_9;have hu:=bn_ hr;refine' ⟨_,a3_ ?s1 (a3_ ?s2 (a3_ ?s3 (a5_ ?s4))),?kk⟩
  case s1=>exact ae_ (i:=1) ee'.nd rfl (Or.inl rfl) (as_ a2_)
  case s2=>exact ae_ (i:=2) ee'.nd rfl (Or.inl rfl) (as_ a2_)
  case' s3=>refine' b2_ c_0 rfl (am_ (pv 0)) (ac_ (i:=3) ee'.nd rfl (Or.inl rfl)) (a3_ ?b1 (a3_ ?b2 (a5_ ?b3)))
  case b1=>exact ae_ (i:=4) ee'.nd rfl (Or.inl rfl) (bi_ b_2 b_9 d_3 bk_ (pv 3) (a0_ a7_ a2_))
  case b2=>exact ak_ (cm_ (ah_ d6_ (a6_ ai_ (by rfl) B.len b_3 (a0_ (pv 4) a2_)) a4_ (nomark _)) (bI_ (ax_ (az_ (al_ cN hr (a0_ (ag_ ad_ (pv 4) a4_ (λ_ _=>rfl)) a2_)))))).pt (a5_ (af_ cr_)) aa_
  case' b3=>refine' ak_ (ah_ b6_ (ag_ ad_ (pv 4) a4_ (λ_ _=>rfl)) a7_ (nomark _)) (a3_ ?h1 (a5_ ?h2)) (a5_ (ak_ (do_ (ah_ b6_ (ag_ ad_ (pv 4) a4_ (λ_ _=>rfl)) a7_ (nomark _)) (do_ (ah_ (gj_ cmpS (cL' hr 0)) (ag_ ad_ (pv 4) a4_ (λ_ _=>rfl)) (pv 1) ?m1) (do_ (ah_ (gj_ cmpS (cL' hr 0)) (ag_ ad_ (pv 4) a4_ (λ_ _=>rfl)) (pv 1) ?m2) (el_ (ah_ fr_ (ag_ ad_ (pv 4) a4_ (λ_ _=>rfl)) (ag_ ad_ (pv 4) a4_ (λ_ _=>rfl)) (nomark _)))))).pt (a3_ ?t1 (a5_ ?t2)) (a5_ (af_ cr_))))
  case m1=>rfl
  case m2=>rfl
  case' h1=>refine' ak_ (cm_ (ah_ (e3_ (cmp2 cmpS cmpS) (cL' hr (max 0 0+1))) (pv 2) (as_ a2_) (nomark _)) (cm_ (ax_ (az_ (al_ cS hr (a0_ (ag_ ad_ (pv 4) a4_ (λ_ _=>rfl)) a2_)))) (bI_ ?h1c))).pt (a5_ (af_ cr_)) aa_
  case h1c=>exact PW.pt (do_ (ah_ (e3_ cmpS (cL' hr 0)) (pv 1) (as_ a2_) (nomark _)) (el_ (ah_ ip_ (ag_ ad_ (pv 1) (lI_ k2_ a4_) (λ_ _=>rfl)) (ag_ ad_ (pv 4) a4_ (λ_ _=>rfl)) (nomark _))))
  case h2=>exact bv_ (bi_ c_1 c_9 c_8 b9_ (pv 1) (a0_ (ag_ ad_ (pv 4) a4_ (λ_ _=>rfl)) a2_))
  case t1=>exact ak_ (PW.pt (do_ (ah_ (e3_ (cmp2 cmpS cmpS) (cL' hr (max 0 0+1))) (pv 2) (as_ a2_) (nomark _)) (el_ (ah_ (kZ_ (Nat.lt_of_succ_lt hu)) (ag_ ad_ (pv 2) (lI_ k2_ a4_) (λ_ _=>rfl)) (b0_ (a0_ (ag_ ad_ (pv 4) a4_ (λ_ _=>rfl)) (a0_ (ag_ ad_ (pv 4) a4_ (λ_ _=>rfl)) a2_))) (nomark _))))) (a5_ (af_ cr_)) aa_
  case t2=>exact bv_ (bi_ c_1 c_9 c_8 b9_ (pv 2) (a0_ (b0_ (a0_ (ag_ ad_ (pv 4) a4_ (λ_ _=>rfl)) (a0_ (ag_ ad_ (pv 4) a4_ (λ_ _=>rfl)) a2_))) a2_))
  case s4=>exact af_ (cy_ cp_ cp_ a4_ (a6_ ai_ (by rfl) B.len b_3 (a0_ (pv 1) a2_)) a4_)
  case' kk=>skip
  refine⟨by show 0<=sizeLine;decide,λlh nlh=>?_⟩;obtain⟨sa,eh0⟩:=nw__ (o:=.lst []) nlh;refine setG ?_;dsimp only;generalize upd H lh (.lst [])=Ha at sa eh0 ⊢;refine⟨by show 0<=sizeLine;decide,λlt nlt=>?_⟩;obtain⟨sb,et0⟩:=nw__ (o:=.lst []) nlt;refine setG ?_;dsimp only;generalize upd Ha lt (.lst [])=Hb at sb et0 ⊢;have nht:lh≠lt:=a9_ eh0 nlt;have nlt0:=sa.free nlt;generalize hw0:(rs.map λr=>Txt.split r " ")=wss at k;have lw:wss.length=rs.length:=by rw[<- hw0,aa']
  refine⟨_,rfl,l,rfl,⟨_,.of ((sa.trans sb) _ _ hl)⟩,aX_ (K:=K) (a:=l) (xs:=rs.map V.str) (λi σ H2=>∃(v3 v4:Option V) (as:List Str) (bs:Xb) (ys:List V),σ=[some (.ref l),some (.ref lh),some (.ref lt),v3,v4]/\Same H H2/\H2 lh=some (.lst (as.map V.str))/\H2 lt=some (.lst ys)/\a8' K H2 ys (bs.map kT)/\gRun ([],[]) (wss.take i)=some (as,bs)/\as.length<=i/\bs.length<=i) ⟨none,none,[],[],[],rfl,sa.trans sb,sb _ _ eh0,et0,.nil,by simp[gRun],ai' _,ai' _⟩ (λi σ H2 _ ⟨_,_,_,_,_,_,s2,_⟩=>.of (s2 _ _ hl)) ?_ ?_⟩
  ·rintro i y σ H2 hy ⟨v3,v4,as,bs,ys,rfl,s2,eh,et,tu,gr,la,lb⟩;obtain⟨r,hr',rfl⟩:=aE_ hy;have rl:=lr r (ae' hr');have hwi:wss[i]? = some (Txt.split r " "):=by rw[<- hw0,az',hr'];rfl
   have ilt:i<rs.length:=(ac'.mp hr').1;have wsh:∀x∈Txt.split r " ",x.length<=1000:=λx hx=>aO' (b_8 hx) rl
   have no:bq' (as,bs) (Txt.split r " ")=none->∀H',Same H H'->Q (.bl false) H':=λn H' s'=>by
    have:=k H' s';rwa [ku_ gr hwi n] at this
   refine setG ?_;dsimp only;refine⟨_,rfl,rfl,r," ",32,rfl,rfl,rfl,by omega,λlw0 nlw=>?_⟩;have sl:=PyProof.Rows.split_le r " ";generalize hws:Txt.split r " "=ws at hwi wsh no sl ⊢;obtain⟨s3,ew⟩:=nw__ (o:=.lst (ws.map V.str)) nlw;refine setG ?_;dsimp only;generalize upd H2 lw0 (.lst (ws.map V.str))=H3 at s3 ew ⊢;have eh3:=s3 _ _ eh;have et3:=s3 _ _ et;have tu3:=tu.same s3;have s03:=s2.trans s3;refine⟨_,rfl,lw0,_,rfl,.inl (.of ew),rfl,_,rfl,?_⟩;by_cases l3:ws.length=3;rotate_left 1
   ·refine ite2 (λ_=>iteT (no (by unfold bq';rw[a_2 l3];rfl) H3 s03)) (λc=>?_);have c:(V.int ((ws.map V.str).length:Nat))=V.int 3:=by simpa using c
    rw[aa'] at c;have:=V.int.inj c;exact absurd Z1 l3
   match ws,l3 with
   |[a,b,c],_=>
    have la':=wsh a Z2;have lb':=wsh b Z2;have lc':=wsh c Z2;refine eW' rfl ?_;refine⟨_,rfl,lw0,_,1,_,rfl,rfl,.of ew,rfl,b,rfl,by omega,λH4 s4=>⟨_,rfl,?_⟩⟩;have ew4:=s4 _ _ ew;have eh4:=s4 _ _ eh3;have et4:=s4 _ _ et3;have tu4:=tu3.same s4;have s04:=s03.trans s4;cases nb:ba' b with
    |false=>exact iteT (no (by unfold bq';simp[nb]) H4 s04)
    |true=>
     refine iteF ?_;refine⟨_,rfl,lw0,_,0,_,rfl,rfl,.of ew4,rfl,rfl,_,rfl,?_⟩;by_cases ha:a="hand"
     ·rw[show decide (V.str a=V.str "hand")=true by rw[ha];rfl];refine iteT ?_;refine⟨_,rfl,by show 0<=sizeLine;decide,λle1 nle1=>?_⟩;obtain⟨s5,e5⟩:=nw__ (o:=.lst []) nle1;generalize upd H4 le1 (.lst [])=H5 at s5 e5 ⊢;refine⟨bs,[],⟨lt,ys,rfl,.of (s5 _ _ et4),kl_ (tu4.same s5)⟩,⟨le1,[],rfl,.of e5,.nil⟩,_,rfl,?_⟩;by_cases hb:bs=[];rotate_left 1
      ·rw[a_2 hb];exact iteT (no (by unfold bq';simp[nb,ha,hb]) H5 (s04.trans s5))
      rw[a_1 hb];refine iteF ?_;have ew5:=s5 _ _ ew4;refine⟨_,rfl,lw0,_,2,_,rfl,rfl,.of ew5,rfl,c,rfl,by omega,λH6 s6=>⟨_,rfl,?_⟩⟩;cases sb:strB c with
      |false=>exact iteT (no (by unfold bq';simp[nb,ha,sb]) H6 (s04.trans (s5.trans s6)))
      |true=>
       refine iteF ?_;refine⟨_,rfl,by show 0<=sizeLine;decide,λle2 nle2=>?_⟩;obtain⟨s7,e7⟩:=nw__ (o:=.lst []) nle2;generalize upd H6 le2 (.lst [])=H7 at s7 e7 ⊢;have s58:=s5.trans (s6.trans s7);refine⟨as,[],bE_ (s58 _ _ eh4),⟨le2,[],rfl,.of e7,.nil⟩,_,rfl,?_⟩;by_cases has:as=[]
       ·rw[a_1 has];refine iteF ?_;refine iteF ?_;have oa:cD' as b=true:=by rw[has];rfl
        have s08:=s04.trans s58;have eh8:=s58 _ _ eh4;refine⟨_,rfl,.inl ⟨rfl,_,.of eh8⟩,_,rfl,lw0,_,1,_,rfl,rfl,.of (s58 _ _ ew4),rfl,lh,_,_,rfl,rfl,eh8,by rw[aa'];omega,?_⟩;refine⟨_,_,as++[b],bs,ys,rfl,au_ s08 nlh,?_,?_,b1_ (tu4.same s58) eh8,?_,?_,?_⟩
        ·rw[a1_,ag'];rfl
        ·rw[a8_ nht.symm];exact s58 _ _ et4
        ·rw[ap_ hwi,ce_ gr];rw[ha,hb];exact dO_ (p:=(b,c)) nb sb oa
        ·rw[an'];simp;omega
        ·omega
       ·rw[a_2 has];refine iteT ?_;obtain⟨ini,z,ez⟩:∃ini z,as=ini++[z]:=⟨as.dropLast,as.getLast has,(List.dropLast_concat_getLast has).symm⟩;refine⟨_,rfl,1,rfl,lh,_,_,.str z,rfl,rfl,.of (s58 _ _ eh4),by rw[ez,ag'];exact gy_ _ _,_,rfl,lw0,_,1,_,rfl,rfl,.of (s58 _ _ ew4),rfl,z,b,rfl,rfl,_,rfl,?_⟩;have el:cD' as b=ltS z b:=by unfold cD';rw[ez,ff_]
        show if (!ltS z b)=true then _ else _;cases zl:ltS z b with
        |false=>exact iteT (no (by unfold bq';simp[nb,ha,el,zl]) H7 (s04.trans s58))
        |true=>
         refine iteF ?_;have oa:cD' as b=true:=el.trans zl;have s08:=s04.trans s58;have eh8:=s58 _ _ eh4;refine⟨_,rfl,.inl ⟨rfl,_,.of eh8⟩,_,rfl,lw0,_,1,_,rfl,rfl,.of (s58 _ _ ew4),rfl,lh,_,_,rfl,rfl,eh8,by rw[aa'];omega,?_⟩;refine⟨_,_,as++[b],bs,ys,rfl,au_ s08 nlh,?_,?_,b1_ (tu4.same s58) eh8,?_,?_,?_⟩
         ·rw[a1_,ag'];rfl
         ·rw[a8_ nht.symm];exact s58 _ _ et4
         ·rw[ap_ hwi,ce_ gr];rw[ha,hb];exact dO_ (p:=(b,c)) nb sb oa
         ·rw[an'];simp;omega
         ·omega
     ·rw[show decide (V.str a=V.str "hand")=false by simpa using ha];refine iteF ?_;refine⟨_,rfl,lw0,_,0,_,rfl,rfl,.of ew4,rfl,rfl,_,rfl,?_⟩;by_cases ht:a="tie";rotate_left 1
      ·rw[show decide (V.str a=V.str "tie")=false by simpa using ht];exact iteF (iteF (no (by unfold bq';simp[nb,ha,ht]) H4 s04))
      rw[show decide (V.str a=V.str "tie")=true by rw[ht];rfl];refine iteT ?_;refine⟨_,rfl,lw0,_,1,_,rfl,rfl,.of ew4,rfl,_,rfl,b,as,rfl,bE_ eh4,_,rfl,?_⟩;by_cases m1:b∈as;rotate_left 1
      ·rw[a_2 m1];exact iteF (iteF (no (by unfold bq';simp[nb,ha,m1]) H4 s04))
      rw[a_1 m1];refine iteT ?_;refine⟨_,rfl,lw0,_,2,_,rfl,rfl,.of ew4,rfl,_,rfl,c,as,rfl,bE_ eh4,_,rfl,?_⟩;by_cases m2:c∈as;rotate_left 1
      ·rw[a_2 m2];exact iteF (iteF (no (by unfold bq';simp[nb,ha,m2]) H4 s04))
      rw[a_1 m2];refine iteT ?_;refine⟨_,rfl,lw0,_,1,_,rfl,rfl,.of ew4,rfl,_,rfl,lw0,_,2,_,rfl,rfl,.of ew4,rfl,b,c,rfl,rfl,_,rfl,?_⟩;show if ltS b c=true then _ else _;cases lbc:ltS b c with
      |false=>exact iteF (no (by unfold bq';simp[nb,ha,lbc]) H4 s04)
      |true=>
       refine iteT ?_;refine⟨_,rfl,by show 0<=sizeLine;decide,λle1 nle1=>?_⟩;obtain⟨s5,e5⟩:=nw__ (o:=.lst []) nle1;generalize upd H4 le1 (.lst [])=H5 at s5 e5 ⊢;refine⟨bs,[],⟨lt,ys,rfl,.of (s5 _ _ et4),kl_ (tu4.same s5)⟩,⟨le1,[],rfl,.of e5,.nil⟩,_,rfl,?_⟩;by_cases hb:bs=[]
       ·rw[a_1 hb];refine iteF ?_;refine iteF ?_;have oa:bT' bs (b,c)=true:=by rw[hb];rfl
        have s58:=s5;have s08:=s04.trans s58;have ew8:=s58 _ _ ew4;have et8:=s58 _ _ et4;refine⟨_,rfl,.inl ⟨rfl,_,.of et8⟩,_,rfl,lw0,_,1,_,rfl,rfl,.of ew8,rfl,_,rfl,lw0,_,2,_,rfl,rfl,.of ew8,rfl,by show 2<=sizeLine;decide,λt9 nt9=>?_⟩;have s9:=Same.new (o:=.tup [.str b,.str c]) nt9;have e9:upd H5 t9 (.tup [.str b,.str c]) t9=some (.tup ((kT (b,c)).map kV)):=a1_;generalize upd H5 t9 (.tup [.str b,.str c])=H9 at s9 e9 ⊢;have et9:=s9 _ _ et8;have ly:=a_3 tu;rw[aa'] at ly;refine⟨lt,_,_,rfl,rfl,et9,by omega,?_⟩;refine⟨_,_,as,bs++[(b,c)],ys++[.ref t9],rfl,au_ (s08.trans s9) nlt0,?_,a1_,?_,?_,?_,?_⟩
        ·rw[a8_ nht];exact s9 _ _ (s58 _ _ eh4)
        ·rw[ag'];exact b1_ (b4_ ((tu4.same s58).same s9) e9) et9
        ·rw[ap_ hwi,ce_ gr,ht];exact ec_ (t:=(b,c)) nb m1 m2 lbc oa
        ·omega
        ·rw[an'];simp;omega
       ·rw[a_2 hb];refine iteT ?_;obtain⟨ini,z,ez⟩:∃ini z,bs=ini++[z]:=⟨bs.dropLast,bs.getLast hb,(List.dropLast_concat_getLast hb).symm⟩;have lyy:=a_3 tu;rw[aa'] at lyy;have lbs:bs.length=ini.length+1:=by rw[ez];simp
        have hyn:ys[ini.length]? = some (ys[ini.length]' Z1):=ad' Z1;obtain⟨z',hz',tz,etz,htz⟩:=aQ_ (tu4.same s5) hyn
        have ezz:z'=z:=by
         rw[ez] at hz';simpa using hz'.symm
        subst ezz
        have eys:ys=ys.take ini.length++[.ref tz]:=by
         rw[<- etz,<- ap_ hyn,aF' Z1]
        refine⟨_,rfl,1,rfl,lt,_,_,.ref tz,rfl,rfl,.of (s5 _ _ et4),by rw[eys];exact gy_ _ _,_,rfl,lw0,_,1,_,rfl,rfl,.of (s5 _ _ ew4),rfl,_,rfl,lw0,_,2,_,rfl,rfl,.of (s5 _ _ ew4),rfl,by show 2<=sizeLine;decide,λt6 nt6=>?_⟩;obtain⟨s6,e6⟩:=nw__ (o:=.tup [.str b,.str c]) nt6;generalize upd H5 t6 (.tup [.str b,.str c])=H6 at s6 e6 ⊢;have s58:=s5.trans s6;refine⟨tz,t6,[z'.1,z'.2],[b,c],rfl,rfl,.of (s6 _ _ (hpT htz)),.of e6,_,rfl,?_⟩;rw[kV_];have el:bT' bs (b,c)=lexK (kT (z'.1,z'.2)) (kT (b,c)):=by unfold bT';rw[ez,ff_]
        cases zl:lexK (kT (z'.1,z'.2)) (kT (b,c)) with
        |false=>exact iteT (no (by unfold bq';simp[nb,ha,el,zl]) H6 (s04.trans s58))
        |true=>
         refine iteF ?_;have oa:bT' bs (b,c)=true:=el.trans zl;have s08:=s04.trans s58;have ew8:=s58 _ _ ew4;have et8:=s58 _ _ et4;refine⟨_,rfl,.inl ⟨rfl,_,.of et8⟩,_,rfl,lw0,_,1,_,rfl,rfl,.of ew8,rfl,_,rfl,lw0,_,2,_,rfl,rfl,.of ew8,rfl,by show 2<=sizeLine;decide,λt9 nt9=>?_⟩;have s9:=Same.new (o:=.tup [.str b,.str c]) nt9;have e9:upd H6 t9 (.tup [.str b,.str c]) t9=some (.tup ((kT (b,c)).map kV)):=a1_;generalize upd H6 t9 (.tup [.str b,.str c])=H9 at s9 e9 ⊢;have et9:=s9 _ _ et8;have ly:=a_3 tu;rw[aa'] at ly;refine⟨lt,_,_,rfl,rfl,et9,by omega,?_⟩;refine⟨_,_,as,bs++[(b,c)],ys++[.ref t9],rfl,au_ (s08.trans s9) nlt0,?_,a1_,?_,?_,?_,?_⟩
         ·rw[a8_ nht];exact s9 _ _ (s58 _ _ eh4)
         ·rw[ag'];exact b1_ (b4_ ((tu4.same s58).same s9) e9) et9
         ·rw[ap_ hwi,ce_ gr,ht];exact ec_ (t:=(b,c)) nb m1 m2 lbc oa
         ·omega
         ·rw[an'];simp;omega
  ·rintro σ H2 ⟨v3,v4,as,bs,ys,rfl,s2,eh,et,tu,gr,la,lb⟩;rw[aa',<- lw,ao'] at gr;have kk:=k H2 s2;unfold bH' at kk;rw[gr] at kk;refine⟨_,rfl,lh,_,rfl,.inl (.of eh),_,_,rfl,rfl,_,rfl,?_⟩;have e8:((as.map V.str).length:Int)=(as.length:Int):=by rw[aa']
   refine ite2 (λc=>?_) (λc=>?_)
   ·have c:(1:Int)<=((as.map V.str).length:Int):=by simpa using c
    refine⟨_,_,rfl,rfl,?_⟩
    rw[show decide (((as.map V.str).length:Int)<=8)=(decide (1<=as.length)&&decide (as.length<=8)) by
     rw[a_1 (show 1<=as.length by omega),aT',e8];exact decide_eq_decide.mpr Z1]
    exact kk
   ·have c:¬(1:Int)<=((as.map V.str).length:Int):=by simpa using c
    have kk:Q (.bl (decide (1<=as.length)&&decide (as.length<=8))) H2:=kk;rw[a_2 (show ¬1<=as.length by omega),a1'] at kk;exact kk
def atW(wss:List (List Str))(n:Str):Str:=match wss.find? λws=>isW "piece" ws&&decide (ws.getD 1 ""=n) with
 |some ws=>ws.getD 3 ""
 |none=>""
theorem lM_(nd:((a7' wss).map (·.1)).Nodup):∀ws∈wss,isW "piece" ws=true->atW wss (ws.getD 1 "")=ws.getD 3 "":=λws hw hp=>by
 have nd:((wss.filter (isW "piece")).map λws=>ws.getD 1 "").Nodup:=by
  unfold a7' at nd;rw[ak'] at nd;exact nd
 unfold atW;cases e:wss.find? λws'=>isW "piece" ws'&&decide (ws'.getD 1 ""=ws.getD 1 "") with
 |none=>
  have:=List.find?_eq_none.mp e ws hw;simp[hp] at this
 |some ws'=>
  have h1:=List.find?_some e;have h2:=List.mem_of_find?_eq_some e;simp only[au',b_1] at h1;have:ws'=ws:=dz_ nd (aU'.mpr ⟨h2,h1.1⟩) (aU'.mpr ⟨hw,hp⟩) h1.2;rw[this]
variable{x:Str}
theorem h7_{ws:Xb}(h:x.length<=60)(e:d8' x=some ws):ws.length<64/\∀t∈ws,t.1.length<=100000/\t.2.length<=100000:=by
 unfold d8' at e;by_cases c1:x="free"
 ·rw[b__ c1] at e;cases e
 ·rw[a_5 c1] at e;by_cases c2:x="fixed"
  ·rw[b__ c2] at e;cases e;exact⟨by decide,λt ht=>by cases ht⟩
  ·rw[a_5 c2] at e;cases e;have:=PyProof.Rows.split_le x ",";refine⟨by rw[aa'];omega,λt ht=>?_⟩;obtain⟨p,hp,rfl⟩:=ab'.mp ht;have l1:=b_8 hp;have l2:=bA_ (i:=0) (m:=p.length) (ws:=Txt.split p "-") λy hy=>b_8 hy;have l3:=bA_ (i:=1) (m:=p.length) (ws:=Txt.split p "-") λy hy=>b_8 hy;exact⟨by show ((Txt.split p "-").getD 0 "").length<=_;omega,by show ((Txt.split p "-").getD 1 "").length<=_;omega⟩
theorem pcok(hz:x.length<=50000)(l64:(rowsT x).length<64)(sh:∀ws∈rowsT x,∀y∈ws,y.length<=60):PcOk x (atW (rowsT x)):=by
 refine⟨hz,l64,λq hq=>?_,lM_⟩;obtain⟨ws,hw,rfl⟩:=ab'.mp hq;have hw:=(aU'.mp hw).1;have l1:=bA_ (i:=1) (sh ws hw);have l4:=bA_ (i:=4) (sh ws hw);exact⟨by show (ws.getD 1 "").length<=_;omega,λus e=>h7_ l4 e⟩
theorem hX_{H:Hp}{rs:List Str}(h0:rs≠[])(l64:rs.length<64)(sh:∀r∈rs,r.length<=60)(nl:∀r∈rs,10∉r.cps.toList)(hz:(Txt.join "\n" rs).length<=50000):cg' K H (.str (Txt.join "\n" rs)) (!bH' (rs.map λr=>Txt.split r " ")):=by
 have e:=eN_ h0 nl;have l:(rowsT (Txt.join "\n" rs)).length<64:=by rw[e,aa'];exact l64
 refine .inr ⟨_,atW (rowsT (Txt.join "\n" rs)),rfl,pcok hz l λws hw y hy=>?_,?_⟩
 ·rw[e] at hw;obtain⟨r,hr,rfl⟩:=ab'.mp hw;exact aO' (b_8 hy) (sh r hr)
 ·rw[ju_ l,e];cases bH' (rs.map λr=>Txt.split r " ")<;>simp
end Ev
namespace L2
open PySem PySem.Spec PyProof.Rows PySem.W
inductive rMulS (x:V) (y:V) (H:Hp) (Q:VK):Prop
 |mk:∀z n,x=.str z->y=.int n->PySem.MulOk z n->Q (.str (Txt.mul z n)) H->rMulS x y H Q
variable{X:Cx}
theorem kE_:OpR X (binaryOp .Mult) rMulS:=by
 intro pins s σ H x y v u Q I rx ry h;obtain⟨z,n,rfl,rfl,ok,q⟩:=h;obtain⟨t,rfl⟩:=rx;obtain⟨t2,rfl⟩:=ry;exact SB.mul ok λt' k=>⟨.str _,H,I.tok _,⟨_,rfl⟩,q⟩
inductive rUpper (x:V) (vs:List V) (H:Hp) (Q:VK):Prop
 |mk:∀z:Str,x=.str z->vs=[]->z.length<=1000->Q (.str (Txt.upper z)) H->rUpper x vs H Q
theorem jH_:MtM X "str.upper" rUpper:=by
 intro pins s σ H x vs v us Q I rx rv h;obtain⟨z,rfl,rfl,hz,q⟩:=h;obtain⟨t,rfl⟩:=rx;cases rv;exact SCL.upper Z1 λ_=>⟨.str _,H,I.tok _,⟨_,rfl⟩,q⟩
end L2
namespace Ev
open PySem L2
def Wk(n:Nat)(x:Str):Prop:=x.length<=n/\10∉x.cps.toList
variable{m n:Nat}{x:Str}
theorem Wk.le(h:Wk n x)(k:n<=m):Wk m x:=⟨aO' h.1 k,h.2⟩
theorem Wk.app{y:Str}(h:Wk n x)(k:Wk m y):Wk (n+m) (x++y):=⟨by rw[a_7];have:=h.1;have:=k.1;omega,by
 rw[bo_];exact λz=>(aq'.mp z).elim h.2 k.2⟩
theorem Wk.slice(h:Wk n x)(lo hi:Option Int):Wk n (Txt.slice x lo hi):=⟨aO' (Txt.slice_le x lo hi) h.1,by
 unfold Txt.slice;split
 ·exact h.2
 ·intro z;obtain⟨i,_,e⟩:=aA'.mp z;exact h.2 (Array.mem_toList_iff.mpr (Array.mem_of_getElem? e))⟩
theorem Wk.join{ss:List Str}(h:∀x∈ss,Wk n x)(l:ss.length<=m):Wk (n * m+m) (Txt.join " " ss):=⟨by
  have a:=jlen " " ss;have b:=fj_ (m:=n) λx hx=>(h x hx).1;have c:ss.length * (" ":Str).length=ss.length:=Nat.mul_one _;have d:n * ss.length<=n * m:=Nat.mul_le_mul_left _ l;omega,by
 rw[show (" ":Str)=⟨#[32]⟩ from rfl,jn];intro z;rcases cb_ 32 z with e|⟨s,hs,e⟩
 ·cases e
 ·exact (h s hs).2 e⟩
def Gv(l:Addr)(σ:St)(H:Hp)(t:TE)(R:Hp->V->Prop):Prop:=∀(H':Hp) (Q:VK),But l H H'->stt H' l->(∀v H2,But l H' H2->stt H2 l->R H2 v->Q v H2)->t σ H' Q
def GvA(l:Addr)(σ:St)(H:Hp)(t:TA)(R:Hp->List V->Prop):Prop:=∀(H':Hp) (Q:List V->Hp->Prop),But l H H'->stt H' l->(∀v H2,But l H' H2->stt H2 l->R H2 v->Q v H2)->t σ H' Q
def GvO(l:Addr)(σ:St)(H:Hp)(t:TO)(o:Option Int):Prop:=∀(H':Hp) (Q:Option Int->Hp->Prop),But l H H'->stt H' l->(∀H2,But l H' H2->stt H2 l->Q o H2)->t σ H' Q
def LsN(l:Addr)(P:Str->Prop)(n:Nat)(H:Hp)(v:V):Prop:=∃(a:Addr) (xs:List Str),v=.ref a/\a≠l/\H a=some (.lst (xs.map V.str))/\xs.length<=n/\∀x∈xs,P x
def LLN(l:Addr)(H0:Hp)(P:Str->Prop)(m n:Nat)(H:Hp)(v:V):Prop:=∃(a:Addr) (vs:List V),v=.ref a/\a≠l/\H0 a=none/\H a=some (.lst vs)/\vs.length=m/\∀x∈vs,LsN l P n H x/\x≠.ref a
def StP(P:Str->Prop)(_:Hp)(v:V):Prop:=∃x,v=.str x/\P x
def SsN(P:Str->Prop)(n:Nat)(_:Hp)(vs:List V):Prop:=∃xs:List Str,vs=xs.map V.str/\xs.length<=n/\∀x∈xs,P x
def LsA(l:Addr)(P:Str->Prop)(m n:Nat)(H:Hp)(vs:List V):Prop:=vs.length=m/\∀v∈vs,LsN l P n H v
variable{l:Addr}{P:Str->Prop}{H H':Hp}{v:V}
theorem LsN.mono(h:LsN l P n H v)(b:But l H H'):LsN l P n H' v:=by
 obtain⟨a,xs,e,ne,ha,le,p⟩:=h;exact⟨a,xs,e,ne,b _ _ ha ne,le,p⟩
variable{P':Str->Prop}
theorem LsN.le(h:LsN l P n H v)(k:n<=m)(q:∀x,P x->P' x):LsN l P' m H v:=by
 obtain⟨a,xs,e,ne,ha,le,p⟩:=h;exact⟨a,xs,e,ne,ha,aO' le k,λx hx=>q x (p x hx)⟩
variable{H0:Hp}
theorem LLN.mono(h:LLN l H0 P m n H v)(b:But l H H'):LLN l H0 P m n H' v:=by
 obtain⟨a,vs,e,ne,h0,ha,le,p⟩:=h;exact⟨a,vs,e,ne,h0,b _ _ ha ne,le,λx hx=>⟨(p x hx).1.mono b,(p x hx).2⟩⟩
variable{q:Addr}
theorem LsN.ne(h:LsN l P n H v)(hq:H q=none):v≠.ref q:=by
 obtain⟨a,xs,e,ne,ha,le,p⟩:=h;subst e;intro z;cases z;rw[hq] at ha;cases ha
theorem LsN.upd{o:HO}(h:LsN l P n H v)(hq:v≠.ref q):LsN l P n (upd H q o) v:=by
 obtain⟨a,xs,e,ne,ha,le,p⟩:=h;refine⟨a,xs,e,ne,?_,le,p⟩;rw[a8_ (λz=>hq (by rw[e,z]))];exact ha
variable{a:Addr}
theorem eT_(st:stt H l)(h:H a=none):a≠l:=λz=>by
 obtain⟨xs,e⟩:=st.some;rw[<- z,h] at e;cases e
variable{t:TE}{σ:St}
theorem Gv.le(h:Gv l σ H t (LsN l P n))(k:n<=m)(q:∀x,P x->P' x):Gv l σ H t (LsN l P' m):=λH' Q b st kk=>h H' Q b st λv H2 b2 st2 r=>kk v H2 b2 st2 (r.le k q)
variable{R:Hp->V->Prop}{i:Nat}{D:Ends}{Hb:Hp}
theorem eZ'{u:TS}(h:Gv l σ Hb t R)(b:But l Hb H)(st:stt H l)(k:∀v H2,But l Hb H2->stt H2 l->R H2 v->u D (σ.set i (some v)) H2):tSeq (tAsg t (b1' i)) u D σ H:=h H _ b st λv H2 b2 st2 r=>k v H2 (b.trans b2) st2 r
theorem gvRet(h:Gv l σ Hb t R)(b:But l Hb H)(st:stt H l)(k:∀v H2,But l Hb H2->stt H2 l->R H2 v->D.rt v H2):tRet t D σ H:=h H _ b st λv H2 b2 st2 r=>k v H2 (b.trans b2) st2 r
theorem e0'(h:D.nx σ H):tNext D σ H:=h
theorem cU'(h:σ[i]? = some (some v))(r:∀H',But l H H'->R H' v):Gv l σ H (tVar i) R:=λH' Q b st k=>⟨v,h,k v H' (But.refl _ _) st (r H' b)⟩
theorem gvC(r:∀H',But l H H'->R H' v):Gv l σ H (tC v) R:=λH' Q b st k=>k v H' (But.refl _ _) st (r H' b)
theorem cJ':GvA l σ H tNil (SsN P 0):=λH' Q b st k=>k [] H' (But.refl _ _) st ⟨[],rfl,ai' _,λx hx=>by cases hx⟩
variable{ts:TA}
theorem bb'(h:Gv l σ H t (StP P))(hs:GvA l σ H ts (SsN P n)):GvA l σ H (bD' t ts) (SsN P (n+1)):=λH' Q b st k=>h H' _ b st λv H2 b2 st2 ⟨x,e,p⟩=>hs H2 _ (b.trans b2) st2 λvs H3 b3 st3 ⟨xs,es,le,q⟩=>k _ H3 (b2.trans b3) st3 ⟨x::xs,by rw[e,es];rfl,by simpa using le,λy hy=>by
  rcases ah'.mp hy with z|z
  ·rw[z];exact p
  ·exact q y z⟩
theorem dT':GvA l σ H tNil (LsA l P 0 n):=λH' Q b st k=>k [] H' (But.refl _ _) st ⟨rfl,λx hx=>by cases hx⟩
theorem bk'(h:Gv l σ H t (LsN l P n))(hs:GvA l σ H ts (LsA l P m n)):GvA l σ H (bD' t ts) (LsA l P (m+1) n):=λH' Q b st k=>h H' _ b st λv H2 b2 st2 r=>hs H2 _ (b.trans b2) st2 λvs H3 b3 st3 ⟨le,q⟩=>k _ H3 (b2.trans b3) st3 ⟨by simpa using le,λy hy=>by
  rcases ah'.mp hy with z|z
  ·rw[z];exact r.mono b3
  ·exact q y z⟩
theorem d5'{t:TA}(h:GvA l σ H t (SsN P n))(k:n<=1000):Gv l σ H (tLst t) (LsN l P n):=λH' Q b st kk=>h H' _ b st λvs H2 b2 st2 ⟨xs,e,le,p⟩=>by
 have sz:=a_9;refine⟨by rw[e,aa'];omega,λq hq=>kk _ _ (b2.trans (But.of (Same.new hq))) (st2.same (Same.new hq)) ⟨q,xs,rfl,eT_ st2 hq,?_,le,p⟩⟩;rw[a1_,e]
theorem eC'{t:TA}(h:GvA l σ H t (LsA l P m n))(k:m<=1000):Gv l σ H (tLst t) (LLN l H P m n):=λH' Q b st kk=>h H' _ b st λvs H2 b2 st2 ⟨le,p⟩=>by
 have sz:=a_9;exact⟨by omega,λq hq=>kk _ _ (b2.trans (But.of (Same.new hq))) (st2.same (Same.new hq)) ⟨q,vs,rfl,eT_ st2 hq,(b.trans b2).free st2 hq,a1_,le,λx hx=>⟨(p x hx).mono (But.of (Same.new hq)),(p x hx).ne hq⟩⟩⟩
variable{u:TE}
theorem bO'(h:Gv l σ H t (LsN l P m))(h2:Gv l σ H u (LsN l P n))(k:m+n<=1000):Gv l σ H (tOp rCat t u) (LsN l P (m+n)):=λH' Q b st kk=>h H' _ b st λv H2 b2 st2 r=>h2 H2 _ (b.trans b2) st2 λw H3 b3 st3 r2=>by
 have sz:=a_9;obtain⟨a,xs,rfl,ne,ha,le,p⟩:=r.mono b3;obtain⟨c,ys,rfl,ne2,hc,le2,p2⟩:=r2;refine⟨a,c,_,_,rfl,rfl,ha,hc,by rw[aa',aa'];omega,λq hq=>kk _ _ ((b2.trans b3).trans (But.of (Same.new hq))) (st3.same (Same.new hq)) ⟨q,xs++ys,rfl,eT_ st3 hq,?_,by rw[an'];omega,λx hx=>(aq'.mp hx).elim (p x) (p2 x)⟩⟩;rw[a1_,ag']
variable{m2:Nat}{Hx:Hp}
theorem gvCatE(bx:But l Hx H)(h:Gv l σ H t (λH2 v=>∃H0,LLN l H0 P m n H2 v))(h2:Gv l σ H u (λH2 v=>∃k H0,k<=m2/\LLN l H0 P k n H2 v))(k:m+m2<=1000):Gv l σ H (tOp rCat t u) (λH2 v=>∃k,m<=k/\k<=m+m2/\LLN l Hx P k n H2 v):=λH' Q b st kk=>h H' _ b st λv H2 b2 st2 ⟨_,r⟩=>h2 H2 _ (b.trans b2) st2 λw H3 b3 st3 ⟨m3,_,l3,r2⟩=>by
 have sz:=a_9;obtain⟨a,xs,rfl,ne,_,ha,le,p⟩:=r.mono b3;obtain⟨c,ys,rfl,ne2,_,hc,le2,p2⟩:=r2;refine⟨a,c,_,_,rfl,rfl,ha,hc,by omega,λq hq=>kk _ _ ((b2.trans b3).trans (But.of (Same.new hq))) (st3.same (Same.new hq)) ⟨m+m3,by omega,by omega,q,xs++ys,rfl,eT_ st3 hq,(((bx.trans b).trans b2).trans b3).free st3 hq,a1_,by rw[an'];omega,λx hx=>?_⟩⟩;have px:LsN l P n H3 x:=(aq'.mp hx).elim (λz=>(p x z).1) (λz=>(p2 x z).1);exact⟨px.mono (But.of (Same.new hq)),px.ne hq⟩
theorem gvCatL(bx:But l Hx H)(h:Gv l σ H t (λH2 v=>∃H0,LLN l H0 P m n H2 v))(h2:Gv l σ H u (LLN l H P m2 n))(k:m+m2<=1000):Gv l σ H (tOp rCat t u) (λH2 v=>∃k,m<=k/\k<=m+m2/\LLN l Hx P k n H2 v):=gvCatE bx h (λH' Q b st kk=>h2 H' Q b st λv H2 b2 st2 r=>kk v H2 b2 st2 ⟨m2,H,ai' _,r⟩) k
variable{K:F__}
theorem appG{u:TS}{ls:Addr}(hi:σ[i]? = some (some (.ref ls)))(h:Gv l σ H0 t (LsN l P n))(b:But l H0 H)(st:stt H l)(L:LLN l H0 P m n H (.ref ls))(h1:0<m)(k1:m<=1000)(k:∀H2,But l H0 H2->stt H2 l->LLN l H0 P (m+1) n H2 (.ref ls)->u D σ H2):tSeq (tDrop (tBM K "list" er' (tVar i) (bD' t tNil))) u D σ H:=by
 have sz:=a_9;have L0:=L;obtain⟨a,vs,e,ne,h0,ha,le,p⟩:=L0;cases e;refine⟨_,hi,.inl ⟨rfl,_,.of ha⟩,h H _ b st λv H1 b1 st1 r=>?_⟩;obtain⟨a,vs,e,ne,h0,ha,le,p⟩:=L.mono b1;cases e
 have nv:v≠.ref ls:=by
  obtain⟨c,xs,rfl,ne2,hc,_,_⟩:=r;intro z;cases z;rw[ha] at hc;have hc:vs=xs.map V.str:=by simpa using hc
  obtain⟨y,hy⟩:=List.exists_mem_of_length_pos (show 0<vs.length by omega);obtain⟨d,_,e,_⟩:=(p y hy).1;rw[hc] at hy;obtain⟨z,_,ez⟩:=ab'.mp hy;rw[e] at ez;cases ez
 refine⟨ls,vs,v,rfl,rfl,ha,by omega,k _ (λc o hc nc=>?_) ?_ ⟨ls,_,rfl,ne,h0,a1_,by simp[le],λx hx=>?_⟩⟩
 ·rw[a8_ (λz=>by rw[z,h0] at hc;cases hc)];exact (b.trans b1) _ _ hc nc
 ·have:=st1;unfold stt at this ⊢;rw[a8_ ne.symm];exact this
 ·have px:LsN l P n H1 x/\x≠.ref ls:=by
   rcases aq'.mp hx with z|z
   ·exact p x z
   ·rw[show x=v by simpa using z];exact⟨r,nv⟩
  exact⟨px.1.upd px.2,px.2⟩
theorem bR':GvO l σ H dU' none:=λH' Q b st k=>k H' (But.refl _ _) st
theorem d0'{i:Int}(h:Gv l σ H t λ_ v=>v=.int i):GvO l σ H (el' t) (some i):=λH' Q b st k=>h H' _ b st λv H2 b2 st2 e=>⟨i,e,k H2 b2 st2⟩
def cutN(n:Nat)(lo hi:Option Int):Nat:=min (HT.sIx n n hi - HT.sIx n 0 lo) (n - HT.sIx n 0 lo)
theorem kQ_(xs:List Str)(lo hi:Option Int):∃ys:List Str,cutV (xs.map V.str) lo hi=ys.map V.str/\ys.length=cutN xs.length lo hi/\∀y∈ys,y∈xs:=by
 refine⟨(xs.drop (HT.sIx xs.length 0 lo)).take (HT.sIx xs.length xs.length hi - HT.sIx xs.length 0 lo),?_,?_,λy hy=>List.mem_of_mem_drop (List.mem_of_mem_take hy)⟩
 ·unfold cutV;rw[aa',List.map_take,List.map_drop]
 ·rw[af',a0'];rfl
theorem gvSl{xs:List Str}{tl th:TO}{lo hi:Option Int}(h:σ[i]? = some (some (.ref a)))(ha:H a=some (.lst (xs.map V.str)))(ne:a≠l)(p:∀x∈xs,P x)(hl:GvO l σ H tl lo)(hh:GvO l σ H th hi):Gv l σ H (tSl (rSlL K) (tVar i) tl th) (LsN l P (cutN xs.length lo hi)):=λH' Q b st kk=>⟨_,h,hl H' _ b st λH2 b2 st2=>hh H2 _ (b.trans b2) st2 λH3 b3 st3=>by
 obtain⟨ys,e,le,sub⟩:=kQ_ xs lo hi;refine⟨a,_,rfl,.of (((b.trans b2).trans b3) _ _ ha ne),λq hq=>kk _ _ ((b2.trans b3).trans (But.of (Same.new hq))) (st3.same (Same.new hq)) ⟨q,ys,rfl,eT_ st3 hq,?_,Nat.le_of_eq le,λx hx=>p x (sub x hx)⟩⟩;rw[a1_,e]⟩
theorem gvJoin(h:Gv l σ H t (LsN l (Wk m) n))(k:m * n<=1000)(k2:n<=1000):Gv l σ H (tBM K "str" (rJoin K) (tC (.str " ")) (bD' t tNil)) (StP (Wk (m * n+n))):=λH' Q b st kk=>⟨rfl,h H' _ b st λv H2 b2 st2 r=>by
 obtain⟨a,xs,rfl,ne,ha,le,p⟩:=r;refine⟨" ",a,xs,rfl,rfl,.of ha,?_,kk _ _ b2 st2 ⟨_,rfl,Wk.join p le⟩⟩;have b:=fj_ (m:=m) λx hx=>(p x hx).1;have c:xs.length * (" ":Str).length=xs.length:=Nat.mul_one _;have d:m * xs.length<=m * n:=Nat.mul_le_mul_left _ le;omega⟩
theorem gvIx{xs:List V}{j:Int}(h:σ[i]? = some (some (.ref a)))(ha:H a=some (.lst xs))(ne:a≠l)(hx:atI xs j=some (.str x))(p:P x):Gv l σ H (tOp (rIxL K) (tVar i) (tC (.int j))) (StP P):=λH' Q b st kk=>⟨_,h,a,xs,j,_,rfl,rfl,.of (b _ _ ha ne),hx,kk _ _ (But.refl _ _) st ⟨x,rfl,p⟩⟩
variable{a b c:Str}
theorem gvComp{ti:TE}{fr:List Nat}{lw:Addr}(hi:Gv l σ H ti (LsN l (Wk 11) m))(hσ:b3' 1 fr σ=List.replicate 1 none++[some (.ref lw)])(hw:H lw=some (.lst ([a,b,c].map V.str)))(nw:lw≠l)(pw:∀x∈[a,b,c],Wk 11 x)(k1:m<=1000) :
  Gv l σ H (tComp (iList K ti) 1 fr (b1' 0) tYes (tOp rCat (tSl (rSlL K) (tVar 1) dU' (el' (tC (.int 2)))) (tLst (bD' (tVar 0) tNil)))) (λH2 v=>∃k H0,k<=m/\LLN l H0 (Wk 11) k 5 H2 v):=λH' Q bH st kk=>hi H' _ bH st λv H2 b2 st2 r=>by
 have sz:=a_9;obtain⟨la,xs,rfl,ne,ha,le,p⟩:=r;refine⟨la,rfl,⟨_,.of ha⟩,λD hD=>?_⟩;have nD:=eT_ st2 hD;have nDa:la≠D:=a9_ ha hD;have hw2:=(bH.trans b2) _ _ hw nw;have nDw:lw≠D:=a9_ hw2 hD;refine aq_ (own:=1) (fv:=[some (.ref lw)]) (xs:=xs.map V.str) hσ gok1 (λi out H3=>But l H2 H3/\stt H3 l/\H3 D=some (.lst out)/\out.length=i/\∀x∈out,LsN l (Wk 11) 5 H3 x/\x≠.ref D) ⟨But.of (Same.new hD),st2.same (Same.new hD),a1_,rfl,λx hx=>by cases hx⟩ (λi out H3 _ ⟨b3,_⟩=>.of (b3 _ _ ha ne)) (λout H3 ⟨b3,st3,hd3,eo,al⟩=>?_) (λi x out H3 hx ⟨b3,st3,hd3,eo,al⟩=>?_)
 ·exact kk _ _ (b2.trans b3) st3 ⟨_,H,by rw[aa'];exact le,D,out,rfl,nD,(bH.trans b2).free st2 hD,hd3,eo,al⟩
 ·obtain⟨y,hy,rfl⟩:=aE_ hx;have py:=p y (ae' hy);have il:=(ac'.mp hy).1;refine⟨_,rfl,rfl,λNx hN=>yesT ?_⟩;have hw3:=b3 _ _ hw2 nw;refine⟨_,rfl,2,rfl,lw,_,rfl,.of hw3,λq1 hq1=>?_⟩;have s4:=Same.new (o:=.lst (cutV ([a,b,c].map V.str) none (some 2))) hq1;have e4:upd H3 q1 (.lst (cutV ([a,b,c].map V.str) none (some 2))) q1=some (.lst [.str a,.str b]):=a1_;generalize upd H3 q1 (.lst (cutV ([a,b,c].map V.str) none (some 2)))=H4 at s4 e4 ⊢;refine⟨_,rfl,by show 1<=sizeLine;decide,λq2 hq2=>?_⟩;obtain⟨s5,e5⟩:=nw__ (o:=.lst [.str y]) hq2;generalize upd H4 q2 (.lst [.str y])=H5 at s5 e5 ⊢;refine⟨q1,q2,_,_,rfl,rfl,s5 _ _ e4,e5,by show 3<=sizeLine;decide,λq3 hq3=>?_⟩;have s6:=Same.new (o:=.lst ([V.str a,.str b]++[V.str y])) hq3;have e6:upd H5 q3 (.lst ([V.str a,.str b]++[V.str y])) q3=some (.lst (([a,b,y]:List Str).map V.str)):=a1_;have nq:=(a9_ ((s4.trans s5) _ _ hd3) hq3).symm;generalize upd H5 q3 (.lst ([V.str a,.str b]++[V.str y]))=H6 at s6 e6 ⊢;have s36:=(s4.trans s5).trans s6;have st6:=st3.same s36;have hd6:=s36 _ _ hd3;refine⟨out,hd6,by omega,hN _ _ ⟨λe o he ne'=>?_,?_,a1_,by simp[eo],λz hz=>?_⟩⟩
  ·rw[a8_ (a9_ he hD)];exact s36 _ _ (b3 _ _ he ne')
  ·have:=st6;unfold stt at this ⊢;rw[a8_ nD.symm];exact this
  ·have px:LsN l (Wk 11) 5 H6 z/\z≠.ref D:=by
    rcases aq'.mp hz with z'|z'
    ·exact⟨(al z z').1.mono (But.of s36),(al z z').2⟩
    ·rw[show z=.ref q3 by simpa using z'];refine⟨⟨q3,[a,b,y],rfl,eT_ (st3.same (s4.trans s5)) hq3,e6,by show 3<=5;decide,λu hu=>?_⟩,λz=>nq (by cases z;rfl)⟩;simp only[ah',List.mem_nil_iff,or_false] at hu;rcases hu with rfl|rfl|rfl
     ·exact pw _ Z2
     ·exact pw _ Z2
     ·exact py
   exact⟨px.1.upd px.2,px.2⟩
theorem bB'(h:(decide (x.length<=11)&&!(x.cps.toList.contains 10))=true):Gv l σ H (tC (.str x)) (StP (Wk 11)):=gvC λ_ _=>⟨x,rfl,by
 simp only[au',b_1] at h;exact⟨h.1,λz=>by simpa [z] using h.2⟩⟩
theorem jq_{X:Cx}(h:X.K=K):SlR X (rSlL K):=h▸aF_
variable{p:Int}
theorem ks_(h:0<=p):cutN n none (some p)+cutN n (some p) none<=n:=by
 unfold cutN HT.sIx;simp only;rw[a_5 Z1];omega
theorem iG_{q:Int}(h:0<=p)(k:p<=q):cutN n none (some p)+cutN n (some q) none<=n:=by
 unfold cutN HT.sIx;simp only;rw[a_5 Z1,a_5 Z1];omega
theorem kB_(h:0<=p):cutN n (some p) (some (p+1))<=1:=by
 unfold cutN HT.sIx;simp only;rw[a_5 Z1,a_5 Z1];omega
def eT':Str:=" !\"#$&'()*+,-./0123456789:;<=>?@ABCDEFGHIJKLMNOPQRSTUVWXYZ[\\]^_`abcdefghijklmnopqrstuvwxyz{|}~"
theorem signs_len:eT'.length=94/\eT'.cps.toList.length=94:=by decide +kernel
theorem jm_:∀c∈eT'.cps.toList,c≠10:=by decide +kernel
theorem hitL{α:Type}{p:α->Prop}{xs:List α}{r:Int}(hn:xs.length=n)(h0:0<=r)(h1:r<n)(h:∀x∈xs,p x):∃x,atI xs r=some x/\p x:=by
 have l:r.toNat<xs.length:=by omega
 exact⟨xs[r.toNat],by rw[bK' h0 Z1,ad' l],h _ (List.getElem_mem l)⟩
def RowB(r:Str):Prop:=∃a b c:Str,Txt.split r " "=[a,b,c]/\(a="hand"∨a="tie")/\Wk 11 b/\Wk 11 c/\Wk 24 r
theorem bf':a6' ["_law_state","_law_rows","_law_signs","_law_place","_law_row","_law_words","_law_way","_law_at_sign","_law_sign","_law_odd","_law_other","_law_some"] ["_law_state","_law_rows"] (a5' dS'):=f__
def cV':Sp:=λvs H Q _=>∃(l lr:Addr) (rs:List Str),vs=[.ref l,.ref lr]/\stt H l/\H lr=some (.lst (rs.map V.str))/\lr≠l/\1<=rs.length/\rs.length<=36/\(∀r∈rs,RowB r)/\∀(lo:Addr) (rs':List Str) (H':Hp),But l H H'->stt H' l->H' lo=some (.lst (rs'.map V.str))->rs'.length<=38->(∀r∈rs',Wk 60 r)->Q (.ref lo) H'
variable{P:Ad}{f:Addr}{fd:Ae}{w:Af}{mg:Str->Option Aa}{base:Heap}
theorem gE_(F:Fun K "_law_spoiled" "_law_spoiled" dS' f fd)(B:Bi mg)(cD:Cal P w K mg base 1 "_law_digit" ["_law_state","_law_base"] c5'):FnOk P w K mg base CX0 2 f fd ["_law_state","_law_rows"] cV':=by
 refine F.ok bf' (λvs H Q E h=>?_) (λcdv A outer s H vs Q E hr h=>?_)
 ·obtain⟨l,lr,rs,rfl,_⟩:=h;rfl
 ·obtain⟨l,lr,rs,rfl,st,hlr,nlr,r1,r36,rb,k⟩:=h;have sz:=a_9;have hu:=bn_ hr;refine' ⟨_,a3_ ?s1 (a3_ ?s2 (a3_ ?s3 (a3_ ?s4 (a3_ ?s5 (a3_ ?s6 (a3_ ?s7 (a3_ ?s8 ?r9))))))),?kk⟩
  case' r9=>refine' a3_ ?s9 (a3_ ?s10 (a3_ ?s11 (a3_ ?s12 (a3_ ?s13 (a5_ ?s14)))))
  case s1=>exact ae_ (i:=2) bf'.nd rfl (Or.inl rfl) a7_
  case s2=>exact ae_ (i:=3) bf'.nd rfl (Or.inl rfl) (al_ cD hr (a0_ (pv 0) (a0_ (a6_ ai_ (by rfl) B.len b_3 (a0_ (pv 1) a2_)) a2_)))
  case s3=>exact ae_ (i:=4) bf'.nd rfl (Or.inl rfl) (ag_ ad_ (pv 1) (pv 3) (λ_ _=>rfl))
  case s4=>exact ae_ (i:=5) bf'.nd rfl (Or.inr rfl) (bi_ b_2 b_9 d_3 bk_ (pv 4) (a0_ a7_ a2_))
  case s5=>exact ae_ (i:=6) bf'.nd rfl (Or.inl rfl) (al_ cD hr (a0_ (pv 0) (a0_ a4_ a2_)))
  case' s6=>refine' ak_ (ah_ b6_ (pv 6) a4_ (nomark _)) (a3_ ?a1 (a3_ ?a2 (a3_ ?a3 (a5_ ?a4)))) aa_
  case a1=>exact ae_ (i:=7) bf'.nd rfl (Or.inl rfl) (al_ cD hr (a0_ (pv 0) (a0_ (ao_ bc_ (a6_ bg_ (by rfl) B.len b_3 (a0_ (pv 4) a2_)) a4_) a2_)))
  case a2=>exact ae_ (i:=8) bf'.nd rfl (Or.inl rfl) (ag_ eb_ (pv 2) (al_ cD hr (a0_ (pv 0) (a0_ a4_ a2_))) (λ_ _=>rfl))
  case a3=>exact ae_ (i:=9) bf'.nd rfl (Or.inl rfl) (ao_ aG_ (ao_ aG_ (ar_ jT_ (pv 4) aD_ (aB_ (pv 7))) (pv 8)) (ar_ jT_ (pv 4) (aB_ (ao_ bc_ (pv 7) (al_ cD hr (a0_ (pv 0) (a0_ a4_ a2_))))) aD_))
  case a4=>exact af_ (ao_ aU_ (ao_ aU_ (ar_ aF_ (pv 1) aD_ (aB_ (pv 3))) (as_ (a0_ (pv 9) a2_))) (ar_ aF_ (pv 1) (aB_ (ao_ bc_ (pv 3) a4_)) aD_))
  case' s7=>refine' ak_ (ah_ b6_ (pv 6) a4_ (nomark _)) (a3_ ?b1 (a3_ ?b2 (a3_ ?b3 (a5_ ?b4)))) aa_
  case b1=>exact ae_ (i:=10) bf'.nd rfl (Or.inl rfl) (al_ cD hr (a0_ (pv 0) (a0_ (a6_ ai_ (by rfl) B.len b_3 (a0_ (pv 1) a2_)) a2_)))
  case b2=>exact ae_ (i:=11) bf'.nd rfl (Or.inl rfl) (as_ (a0_ (ao_ aU_ (ar_ aF_ (pv 1) aD_ (aB_ (pv 3))) (ar_ aF_ (pv 1) (aB_ (ao_ bc_ (pv 3) a4_)) aD_)) (a0_ (ao_ aU_ (pv 1) (as_ (a0_ (pv 4) a2_))) a2_)))
  case b3=>exact bv_ (bi_ c_1 c_9 c_8 b9_ (pv 11) (a0_ (ao_ aU_ (ao_ aU_ (ar_ aF_ (pv 1) aD_ (aB_ (pv 10))) (as_ (a0_ (pv 4) a2_))) (ar_ aF_ (pv 1) (aB_ (pv 10)) aD_)) a2_))
  case b4=>exact af_ (ag_ ad_ (pv 11) (al_ cD hr (a0_ (pv 0) (a0_ a4_ a2_))) (λ_ _=>rfl))
  case' s8=>refine' ak_ (ah_ b6_ (pv 6) a4_ (nomark _)) (a3_ ?c1 (a5_ ?c2)) aa_
  case c1=>exact ae_ (i:=10) bf'.nd rfl (Or.inl rfl) (ar_ aF_ (pv 1) (aB_ (ao_ bc_ (pv 3) a4_)) (aB_ (ao_ bc_ (pv 3) a4_)))
  case c2=>exact af_ (ao_ aU_ (ao_ aU_ (ao_ aU_ (ar_ aF_ (pv 1) aD_ (aB_ (pv 3))) (pv 10)) (as_ (a0_ (pv 4) a2_))) (ar_ aF_ (pv 1) (aB_ (ao_ bc_ (pv 3) a4_)) aD_))
  case' s9=>refine' ae_ (i:=11) bf'.nd rfl (Or.inl rfl) (as_ (a0_ ?x1 (a0_ ?x2 (a0_ ?x3 (a0_ ?x4 (a0_ ?x5 (a0_ ?x6 a2_)))))))
  case x1=>exact ao_ aU_ (pv 5) (as_ (a0_ a7_ a2_))
  case x2=>exact ar_ aF_ (pv 5) aD_ (aB_ a4_)
  case x3=>exact ao_ aU_ (ao_ aU_ (ar_ aF_ (pv 5) aD_ (aB_ a4_)) (as_ (a0_ a7_ a2_))) (ar_ aF_ (pv 5) (aB_ a4_) aD_)
  case x4=>exact ao_ aU_ (as_ (a0_ a7_ a2_)) (pv 5)
  case x5=>exact ao_ aU_ (pv 5) (as_ (a0_ a7_ a2_))
  case x6=>exact ao_ aU_ (as_ (a0_ a7_ a2_)) (ar_ aF_ (pv 5) (aB_ a4_) aD_)
  case' s10=>refine' ae_ (i:=11) bf'.nd rfl (Or.inl rfl) (ao_ aU_ (pv 11) (as_ (a0_ ?y1 (a0_ ?y2 (a0_ ?y3 a2_)))))
  case y1=>exact ao_ aU_ (as_ (a0_ a7_ a2_)) (ar_ aF_ (pv 5) (aB_ a4_) aD_)
  case y2=>exact ao_ aU_ (as_ (a0_ a7_ a2_)) (ar_ aF_ (pv 5) (aB_ a4_) aD_)
  case y3=>exact ao_ aU_ (as_ (a0_ (ld_ b_2 PySem.F.slot_str_upper PySem.F.type_str_upper jH_ (ag_ ad_ (pv 5) a4_ (λ_ _=>rfl))) a2_)) (ar_ aF_ (pv 5) (aB_ a4_) aD_)
  case s11=>exact bv_ (bi_ c_1 c_9 c_8 b9_ (pv 11) (a0_ (as_ (a0_ (ag_ ad_ (pv 5) a4_ (λ_ _=>rfl)) (a0_ (ag_ ad_ (pv 5) a4_ (λ_ _=>rfl)) (a0_ (ag_ ad_ (pv 5) a4_ (λ_ _=>rfl)) a2_)))) a2_))
  case' s12=>refine' ae_ (i:=11) bf'.nd rfl (Or.inl rfl) (ao_ aU_ (pv 11) (aS_ ["_law_one","_law_words"] 1 [5] (am_ ?li) (λfp s H=>ac_ (i:=0) (show (["_law_one","_law_words"]:List Str).Nodup by decide +kernel) rfl (Or.inl rfl)) (λfp s H=>aW_) (λfp s H=>?ce)))
  case li=>exact as_ (a0_ a7_ (a0_ a7_ (a0_ a7_ (a0_ a7_ (a0_ (ao_ kE_ a7_ a4_) (a0_ a7_ (a0_ a7_ (a0_ (ag_ ad_ (pv 5) a4_ (λ_ _=>rfl)) (a0_ a7_ (a0_ a7_ a2_))))))))))
  case ce=>exact ao_ aU_ (ar_ (jq_ (K:=K) rfl) (pv 1) aD_ (aB_ a4_)) (as_ (a0_ (pv 0) a2_))
  case' s13=>refine' ae_ (i:=11) bf'.nd rfl (Or.inl rfl) (ao_ aU_ (pv 11) (as_ (a0_ ?z1 (a0_ ?z2 (a0_ ?z3 (a0_ ?z4 a2_))))))
  case z1=>exact as_ (a0_ a7_ (a0_ a7_ (a0_ a7_ (a0_ (ag_ ad_ (pv 5) a4_ (λ_ _=>rfl)) (a0_ a7_ a2_)))))
  case z2=>exact as_ (a0_ a7_ a2_)
  case z3=>exact as_ (a0_ a7_ (a0_ a7_ (a0_ a7_ a2_)))
  case z4=>exact as_ (a0_ a7_ (a0_ a7_ (a0_ a7_ a2_)))
  case s14=>exact af_ (ao_ aU_ (ao_ aU_ (ar_ aF_ (pv 1) aD_ (aB_ (pv 3))) (as_ (a0_ (bi_ b_2 d_0 d__ bO_ a7_ (a0_ (ag_ ad_ (pv 11) (al_ cD hr (a0_ (pv 0) (a0_ (a6_ ai_ (by rfl) B.len b_3 (a0_ (pv 11) a2_)) a2_))) (λ_ _=>rfl)) a2_)) a2_))) (ar_ aF_ (pv 1) (aB_ (ao_ bc_ (pv 3) a4_)) aD_))
  case' kk=>skip
  refine setG ?_;dsimp only;refine⟨_,rfl,_,rfl,lr,_,rfl,.inl (.of hlr),l,_,rfl,by rw[aa'];omega,by rw[aa'];omega,st,λpl H1 p0 p1 b1 st1=>?_⟩;rw[aa'] at p1;refine setG ?_;dsimp only;have hlr1:=b1 _ _ hlr nlr
  obtain⟨v,hv,r,hrm,rfl⟩:=hitL (p:=λv=>∃r∈rs,v=V.str r) (xs:=rs.map V.str) (aa' _) p0 p1 (λv hv=>by
   obtain⟨r,hr,e⟩:=ab'.mp hv;exact⟨r,hr,e.symm⟩)
  refine⟨_,rfl,_,rfl,lr,_,pl,_,rfl,rfl,.of hlr1,hv,?_⟩;refine setG ?_;dsimp only;obtain⟨a,b,c,ew,ea,wb,wc,wr⟩:=rb r hrm;have rl:=wr.1;refine⟨_,rfl,rfl,r," ",32,rfl,rfl,rfl,by omega,λlw nlw=>?_⟩;rw[ew];obtain⟨s2,e2⟩:=nw__ (o:=.lst ([a,b,c].map V.str)) nlw;have nw:=eT_ st1 nlw;have st2:=st1.same s2;generalize upd H1 lw (.lst ([a,b,c].map V.str))=H2 at s2 e2 st2 ⊢;refine setG ?_;dsimp only;refine⟨_,rfl,l,7,rfl,by decide,by decide,st2,λwy H3 y0 y7 b3 st3=>?_⟩;refine setG ?_;dsimp only;have hlr3:=b3 _ _ (s2 _ _ hlr1) nlr;have hw:=b3 _ _ e2 nw;have B3:But l H H3:=(b1.trans (But.of s2)).trans b3;clear b1 s2 b3 hlr1 e2 nlw st2 st1;have wa:Wk 11 a:=by rcases ea with rfl|rfl<;>exact⟨by decide +kernel,by decide +kernel⟩
  have wu:Wk 11 (Txt.upper a):=by rcases ea with rfl|rfl<;>exact⟨by decide +kernel,by decide +kernel⟩
  have pw:∀x∈[a,b,c],Wk 11 x:=λx hx=>by
   simp only[ah',List.mem_nil_iff,or_false] at hx;rcases hx with rfl|rfl|rfl
   ·exact wa
   ·exact wb
   ·exact wc
  have prow:∀x∈rs,Wk 60 x:=λx hx=>by
   obtain⟨_,_,_,_,_,_,_,q⟩:=rb x hx;exact q.le (by decide)
  have fin:∀{n:Nat} {v:V} {H':Hp},But l H3 H'->stt H' l->LsN l (Wk 60) n H' v->n<=38->Q v H':=λ{n v H'} b' st' L le=>by
   obtain⟨q,xs,rfl,_,hq,lx,px⟩:=L;exact k q xs H' (B3.trans b') st' hq Z1 px
  have rowV:∀{σ:St} {Hb:Hp},σ[4]? = some (some (V.str r))->Gv l σ Hb (tVar 4) (StP (Wk 60)):=λh=>cU' h λ_ _=>⟨r,rfl,wr.le (by decide)⟩;have one:∀{σ:St} {Hb:Hp} {t:TE},Gv l σ Hb t (StP (Wk 60))->Gv l σ Hb (tLst (bD' t tNil)) (LsN l (Wk 60) 1):=λh=>d5' (bb' h cJ') (by decide);have rsl:∀{σ:St} {Hb:Hp} {tl th:TO} {lo hi:Option Int},But l H3 Hb->σ[1]? = some (some (V.ref lr))->GvO l σ Hb tl lo->GvO l σ Hb th hi->Gv l σ Hb (tSl (rSlL K) (tVar 1) tl th) (LsN l (Wk 60) (cutN rs.length lo hi)):=λhb h1 h2 h3=>gvSl h1 (hb _ _ hlr3 nlr) nlr prow h2 h3;have pls:∀{σ:St} {Hb:Hp},σ[3]? = some (some (V.int pl))->GvO l σ Hb (el' (tVar 3)) (some pl):=λh=>d0' (cU' h λ_ _=>rfl);have plus:∀{σ:St} {Hb:Hp} {i:Nat} {p j:Int},σ[i]? = some (some (V.int p))->GvO l σ Hb (el' (tOp (rI0 λi j=>.int (i+j)) (tVar i) (tC (.int j)))) (some (p+j)):=λh=>d0' λH' Q b st k=>⟨_,h,_,_,rfl,rfl,k _ _ (But.refl _ _) st rfl⟩;have g1:=iG_ (n:=rs.length) (p:=pl) (q:=pl+1) p0 Z1;have g2:=iG_ (n:=rs.length) (p:=pl) (q:=pl+2) p0 Z1;refine⟨_,rfl,rfl,_,rfl,?_⟩;refine ite2 (λ_=>?_) (λ_=>?_)
  ·refine⟨_,rfl,_,rfl,r,rfl,by omega,_,_,rfl,rfl,l,(r.length:Int)+1,rfl,by omega,by omega,st3,λat_ H4 a0 a1 b4 st4=>?_⟩;refine setG ?_;dsimp only;refine⟨_,rfl,_,rfl,l,94,rfl,by decide,by decide,st4,λi H5 i0 i1 b5 st5=>?_⟩;obtain⟨ch,hch,nc⟩:=hitL (p:=λc=>c≠10) signs_len.2 i0 i1 jm_;refine⟨eT',_,ch,rfl,rfl,by rw[signs_len.1];decide,hch,?_⟩;have wg:Wk 1 ⟨#[ch]⟩:=⟨ai' _,by simpa using nc.symm⟩;generalize (⟨#[ch]⟩:Str)=sg at wg ⊢;refine setG ?_;dsimp only;have w1:=wr.slice none (some at_);have w12:=w1.app wg;refine⟨_,rfl,_,rfl,_,rfl,r,rfl,by omega,_,rfl,_,_,rfl,rfl,by have:=w1.1;have:=wg.1;omega,_,rfl,_,rfl,_,rfl,l,2,rfl,by decide,by decide,st5,λd H6 d0 d1 b6 st6=>⟨_,_,rfl,rfl,_,rfl,r,rfl,by omega,?_⟩⟩;have w3:=wr.slice (some (at_+d)) none;refine⟨_,_,rfl,rfl,by have:=w12.1;have:=w3.1;omega,?_⟩;have wo:=(w12.app w3).le (show 24+1+24<=60 by decide);generalize Txt.slice r none (some at_)++sg++Txt.slice r (some (at_+d)) none=odd at wo ⊢;refine setG ?_;dsimp only;have b36:=(b4.trans b5).trans b6;refine gvRet (R:=LsN l (Wk 60) 38) (Hb:=H3) (Gv.le (bO' (bO' (rsl (But.refl _ _) rfl bR' (pls rfl)) (one (cU' rfl λ_ _=>⟨odd,rfl,wo⟩)) Z1) (rsl (But.refl _ _) rfl (plus rfl) bR') Z1) Z1 λ_ z=>z) b36 st6 λv H7 b7 st7 r7=>?_;exact fin b7 st7 r7 (by decide)
  refine e0' ?_;dsimp only;have br:=But.refl l H3;refine⟨_,rfl,rfl,_,rfl,?_⟩;refine ite2 (λ_=>?_) (λ_=>?_)
  ·refine⟨_,rfl,_,rfl,lr,_,rfl,.inl (.of hlr3),l,_,rfl,by rw[aa'];omega,by rw[aa'];omega,st3,λot H4 o0 o1 b4 st4=>?_⟩;refine setG ?_;dsimp only;have g3:=ks_ (n:=rs.length) (p:=ot) o0;refine eZ' (R:=LLN l H3 (Wk 60) 2 38) (Hb:=H3) (eC' (bk' (Gv.le (bO' (rsl br rfl bR' (pls rfl)) (rsl br rfl (plus rfl) bR') Z1) Z1 λ_ z=>z) (bk' (Gv.le (bO' (cU' rfl λH' b'=>⟨lr,rs,rfl,nlr,b' _ _ hlr3 nlr,ai' _,prow⟩) (one (rowV rfl)) Z1) Z1 λ_ z=>z) dT')) (by decide)) b4 st4 λv H5 b5 st5 r5=>?_;obtain⟨ls,_,rfl,_⟩:=id r5;refine appG (i:=11) (H0:=H3) (n:=38) rfl (Gv.le (bO' (bO' (rsl br rfl bR' (d0' (cU' rfl λ_ _=>rfl))) (one (rowV rfl)) Z1) (rsl br rfl (d0' (cU' rfl λ_ _=>rfl)) bR') Z1) Z1 λ_ z=>z) b5 st5 r5 (by decide) (by decide) λH6 b6 st6 r6=>?_;refine⟨_,rfl,_,rfl,l,3,rfl,by decide,by decide,st6,λj H7 j0 j3 b7 st7=>?_⟩;obtain⟨a',vs,e',ne',_,ha',le',al'⟩:=r6.mono b7;cases e';obtain⟨v,hv,L⟩:=hitL (p:=λv=>LsN l (Wk 60) 38 H7 v) le' j0 j3 λx hx=>(al' x hx).1;exact⟨ls,_,j,v,rfl,rfl,.of ha',hv,fin (b6.trans b7) st7 L (by decide)⟩
  refine e0' ?_;dsimp only;refine⟨_,rfl,rfl,_,rfl,?_⟩;refine ite2 (λ_=>?_) (λ_=>?_)
  ·have g4:=kB_ (n:=rs.length) (p:=pl+1) Z1;rw[show pl+1+1=pl+2 by omega] at g4;refine eZ' (R:=LsN l (Wk 60) (cutN rs.length (some (pl+1)) (some (pl+2)))) (Hb:=H3) (rsl br rfl (plus rfl) (plus rfl)) br st3 λv H4 b4 st4 r4=>?_;dsimp only;refine gvRet (R:=LsN l (Wk 60) 38) (Hb:=H4) (Gv.le (bO' (bO' (bO' (rsl b4 rfl bR' (pls rfl)) (cU' rfl λH' b'=>r4.mono b') Z1) (one (rowV rfl)) Z1) (rsl b4 rfl (plus rfl) bR') Z1) Z1 λ_ z=>z) (But.refl _ _) st4 λv H5 b5 st5 r5=>?_;exact fin (b4.trans b5) st5 r5 (by decide)
  refine e0' ?_;dsimp only;have ml:∀{σ:St} {Hb:Hp},Gv l σ Hb (tOp rMulS (tC (.str "1")) (tC (.int 11))) (StP (Wk 11)):=λ{σ Hb} H' Q b st k=>⟨"1",11,rfl,rfl,⟨by decide,by decide +kernel,by decide +kernel⟩,k _ _ (But.refl _ _) st ⟨_,rfl,by decide +kernel,by decide +kernel⟩⟩;have wV:∀{σ:St} {Hb:Hp},But l H3 Hb->σ[5]? = some (some (V.ref lw))->Gv l σ Hb (tVar 5) (LsN l (Wk 11) 3):=λhb h=>cU' h λH' b'=>⟨lw,[a,b,c],rfl,nw,b' _ _ (hb _ _ hw nw) nw,ai' _,pw⟩;have wS:∀{σ:St} {Hb:Hp} {tl th:TO} {lo hi:Option Int},But l H3 Hb->σ[5]? = some (some (V.ref lw))->GvO l σ Hb tl lo->GvO l σ Hb th hi->Gv l σ Hb (tSl (rSlL K) (tVar 5) tl th) (LsN l (Wk 11) (cutN 3 lo hi)):=λhb h1 h2 h3=>gvSl (xs:=[a,b,c]) h1 (hb _ _ hw nw) nw pw h2 h3;have int:∀{σ:St} {Hb:Hp} {i:Int},GvO l σ Hb (el' (tC (.int i))) (some i):=d0' (gvC λ_ _=>rfl);have w0:∀{σ:St} {Hb:Hp},But l H3 Hb->σ[5]? = some (some (V.ref lw))->Gv l σ Hb (tOp (rIxL K) (tVar 5) (tC (.int 0))) (StP (Wk 11)):=λhb h=>gvIx (x:=a) h (hb _ _ hw nw) nw rfl wa;have w1:∀{σ:St} {Hb:Hp},But l H3 Hb->σ[5]? = some (some (V.ref lw))->Gv l σ Hb (tOp (rIxL K) (tVar 5) (tC (.int 1))) (StP (Wk 11)):=λhb h=>gvIx (x:=b) h (hb _ _ hw nw) nw rfl wb;have w2:∀{σ:St} {Hb:Hp},But l H3 Hb->σ[5]? = some (some (V.ref lw))->Gv l σ Hb (tOp (rIxL K) (tVar 5) (tC (.int 2))) (StP (Wk 11)):=λhb h=>gvIx (x:=c) h (hb _ _ hw nw) nw rfl wc;have on1:∀{σ:St} {Hb:Hp} {t:TE},Gv l σ Hb t (StP (Wk 11))->Gv l σ Hb (tLst (bD' t tNil)) (LsN l (Wk 11) 1):=λh=>d5' (bb' h cJ') (by decide);have ws2:∀{σ:St} {Hb:Hp},But l H3 Hb->σ[5]? = some (some (V.ref lw))->Gv l σ Hb (tSl (rSlL K) (tVar 5) (el' (tC (.int 1))) dU') (LsN l (Wk 11) 2):=λhb h=>(wS hb h int bR').le (by decide) λ_ z=>z;have i5:∀x,Wk 11 x->Wk 11 x:=λ_ z=>z;refine eZ' (R:=LLN l H3 (Wk 11) 6 5) (Hb:=H3) ?n9 br st3 λv9 H9 b9 st9 r9=>?k9
  case' n9=>refine eC' (bk' ?n1 (bk' ?n2 (bk' ?n3 (bk' ?n4 (bk' ?n5 (bk' ?n6 dT')))))) (by decide)
  case n1=>exact Gv.le (bO' (wV br rfl) (on1 (bB' Z0)) (by decide)) (by decide) i5
  case n2=>exact Gv.le (wS br rfl bR' int) (by decide) i5
  case n3=>exact Gv.le (bO' (bO' (wS br rfl bR' int) (on1 (bB' Z0)) (by decide)) (ws2 br rfl) (by decide)) (by decide) i5
  case n4=>exact Gv.le (bO' (on1 (bB' Z0)) (wV br rfl) (by decide)) (by decide) i5
  case n5=>exact Gv.le (bO' (wV br rfl) (on1 (bB' Z0)) (by decide)) (by decide) i5
  case n6=>exact Gv.le (bO' (on1 (bB' Z0)) (ws2 br rfl) (by decide)) (by decide) i5
  have up:∀{σ:St} {Hb:Hp},But l H3 Hb->σ[5]? = some (some (V.ref lw))->Gv l σ Hb (tBM0 K "str" rUpper (tOp (rIxL K) (tVar 5) (tC (.int 0)))) (StP (Wk 11)):=λhb h H' Q b' st' kk=>⟨_,h,lw,_,0,.str a,rfl,rfl,.of (b' _ _ (hb _ _ hw nw) nw),rfl,rfl,a,rfl,rfl,aO' wa.1 (by decide),kk _ _ (But.refl _ _) st' ⟨_,rfl,wu⟩⟩;refine eZ' (R:=λH2 v=>∃k,6<=k/\k<=9/\LLN l H3 (Wk 11) k 5 H2 v) (Hb:=H9) (gvCatL b9 (cU' rfl λH' b'=>⟨_,r9.mono b'⟩) (eC' (bk' ?y1 (bk' ?y2 (bk' ?y3 dT'))) (by decide)) (by decide)) (But.refl _ _) st9 λv10 H10 b10 st10 r10=>?k10
  case y1=>exact Gv.le (bO' (on1 (bB' Z0)) (ws2 b9 rfl) (by decide)) (by decide) i5
  case y2=>exact Gv.le (bO' (on1 (bB' Z0)) (ws2 b9 rfl) (by decide)) (by decide) i5
  case y3=>exact Gv.le (bO' (on1 (up b9 rfl)) (ws2 b9 rfl) (by decide)) (by decide) i5
  obtain⟨m10,m10a,m10b,r10⟩:=r10;have b10:=b9.trans b10;clear r9 b9 st9;obtain⟨ls,_,rfl,_⟩:=id r10;refine appG (i:=11) (H0:=H3) (n:=5) rfl (Gv.le (d5' (bb' (w0 br rfl) (bb' (w2 br rfl) (bb' (w1 br rfl) cJ'))) (by decide)) (by decide) i5) b10 st10 r10 Z1 Z1 λH11 b11 st11 r11=>?_;clear r10 b10 st10;refine eZ' (R:=λH2 v=>∃k,m10+1<=k/\k<=m10+1+10/\LLN l H3 (Wk 11) k 5 H2 v) (Hb:=H11) (gvCatE b11 (cU' rfl λH' b'=>⟨_,r11.mono b'⟩) (gvComp (m:=10) (lw:=lw) (a:=a) (b:=b) (c:=c) ?li rfl (b11 _ _ hw nw) nw pw (by decide)) Z1) (But.refl _ _) st11 λv12 H12 b12 st12 r12=>?k12
  case li=>exact d5' (bb' (bB' Z0) (bb' (bB' Z0) (bb' (bB' Z0) (bb' (bB' Z0) (bb' ml (bb' (bB' Z0) (bb' (bB' Z0) (bb' (w1 b11 rfl) (bb' (bB' Z0) (bb' (bB' Z0) cJ')))))))))) (by decide)
  obtain⟨m12,m12a,m12b,r12⟩:=r12;have b12:=b11.trans b12;clear r11 b11 st11;refine eZ' (R:=λH2 v=>∃k,m12<=k/\k<=m12+4/\LLN l H3 (Wk 11) k 5 H2 v) (Hb:=H12) (gvCatL b12 (cU' rfl λH' b'=>⟨_,r12.mono b'⟩) (eC' (bk' ?z1 (bk' ?z2 (bk' ?z3 (bk' ?z4 dT')))) (by decide)) Z1) (But.refl _ _) st12 λv13 H13 b13 st13 r13=>?k13
  case z1=>exact Gv.le (d5' (bb' (bB' Z0) (bb' (bB' Z0) (bb' (bB' Z0) (bb' (w1 b12 rfl) (bb' (bB' Z0) cJ'))))) (by decide)) (by decide) i5
  case z2=>exact Gv.le (d5' (bb' (bB' Z0) cJ') (by decide)) (by decide) i5
  case z3=>exact Gv.le (d5' (bb' (bB' Z0) (bb' (bB' Z0) (bb' (bB' Z0) cJ'))) (by decide)) (by decide) i5
  case z4=>exact Gv.le (d5' (bb' (bB' Z0) (bb' (bB' Z0) (bb' (bB' Z0) cJ'))) (by decide)) (by decide) i5
  obtain⟨m13,m13a,m13b,r13⟩:=r13;have b13:=b12.trans b13;clear r12 b12 st12;obtain⟨lq,vs,rfl,nlq,_,hlq,lvs,al⟩:=id r13;refine gvRet (R:=LsN l (Wk 60) 38) (Hb:=H13) (Gv.le (bO' (bO' (rsl b13 rfl bR' (pls rfl)) (one (gvJoin (m:=11) (n:=5) (λH' Q' b' st' kk=>?jj) (by decide) (by decide))) Z1) (rsl b13 rfl (plus rfl) bR') Z1) Z1 λ_ z=>z) (But.refl _ _) st13 λv H14 b14 st14 r14=>?k14
  case k14=>exact fin (b13.trans b14) st14 r14 (by decide)
  refine⟨_,rfl,_,rfl,_,rfl,lq,vs,rfl,.inl (.of (b' _ _ hlq nlq)),l,_,rfl,by omega,by omega,st',λj H7 j0 j1 b7 st7=>?_⟩;obtain⟨v,hv,L⟩:=hitL (p:=λv=>LsN l (Wk 11) 5 H7 v) (n:=vs.length) rfl j0 j1 λx hx=>((al x hx).1.mono b').mono b7;exact⟨lq,vs,j,v,rfl,rfl,.of (b7 _ _ (b' _ _ hlq nlq) nlq),hv,kk _ _ b7 st7 L⟩
variable{ts:Xb}{hs:Xa}
theorem j8_(G:Good hs ts):ts.length+ts.length+hs.length<=hs.length * hs.length:=by
 have a1:(tsOf ts).Nodup:=(kW_ G.tnd).imp λ{a b} q e=>by rw[e,cB_] at q;cases q
 have lt:∀t∈tsOf ts,ltS t.1 t.2=true:=λt ht=>l5_ G.tok ht
 have nd:(tsOf ts++((tsOf ts).map λt=>(t.2,t.1))++(a9' hs).map λn=>(n,n)).Nodup:=by
  refine List.nodup_append.mpr ⟨List.nodup_append.mpr ⟨a1,?_,λx hx y hy e=>?_⟩,?_,λx hx y hy e=>?_⟩
  ·refine aH'.mpr (a1.imp λ{a b} q e=>q ?_);have:=c_5 Prod.fst e;have:=c_5 Prod.snd e;exact Prod.ext (by assumption) (by assumption)
  ·obtain⟨t,ht,rfl⟩:=ab'.mp hy;have l1:=lt _ hx;have l2:=lt _ ht;rw[e] at l1;have l1:ltS t.2 t.1=true:=l1;rw[cJ_ l2] at l1;cases l1
  ·exact aH'.mpr (G.nnd.imp λ{a b} q e=>q (c_5 Prod.fst e))
  ·obtain⟨n,hn,rfl⟩:=ab'.mp hy
   have:ltS n n=true:=by
    rcases aq'.mp hx with h|h
    ·have:=lt _ h;rwa [e] at this
    ·obtain⟨t,ht,et⟩:=ab'.mp h;have:=lt _ ht;rw[e] at et;have e1:t.2=n:=c_5 Prod.fst et;have e2:t.1=n:=c_5 Prod.snd et;rwa [e1,e2] at this
   rw[co_] at this;cases this
 have sub:∀x∈tsOf ts++((tsOf ts).map λt=>(t.2,t.1))++(a9' hs).map λn=>(n,n),x∈(a9' hs).flatMap λa=>(a9' hs).map λb=>(a,b):=λx hx=>by
  have key:∀{a b},a∈a9' hs->b∈a9' hs->(a,b)∈(a9' hs).flatMap λa=>(a9' hs).map λb=>(a,b):=λ{a b} h1 h2=>List.mem_flatMap.mpr ⟨a,h1,ab'.mpr ⟨b,h2,rfl⟩⟩;rcases aq'.mp hx with h|h
  ·rcases aq'.mp h with h|h
   ·exact key (gQ_ G h).1 (gQ_ G h).2
   ·obtain⟨t,ht,rfl⟩:=ab'.mp h;exact key (gQ_ G ht).2 (gQ_ G ht).1
  ·obtain⟨n,hn,rfl⟩:=ab'.mp h;exact key hn hn
 have le:=nd.length_le_of_subset sub
 have lf:((a9' hs).flatMap λa=>(a9' hs).map λb=>(a,b)).length=hs.length * hs.length:=by
  have key:∀(xs ys:List Str),(xs.flatMap λa=>ys.map λb=>(a,b)).length=xs.length * ys.length:=λxs ys=>by
   induction xs with
   |nil=>simp
   |cons x xs ih=>rw[List.flatMap_cons,an',aa',ih,aC',Nat.succ_mul,Nat.add_comm]
  rw[key,G.nlen]
 rw[lf,an',an',aa',aa',bf_,G.nlen] at le;exact le
theorem web36(G:Good hs ts):1<=(webR hs ts).length/\(webR hs ts).length<=36:=by
 unfold webR;rw[an',aa',aa',bf_,G.nlen];have a:=j8_ G;have h1:=G.h1;have h8:=G.h8;have:hs.length * hs.length<=hs.length * 8:=Nat.mul_le_mul_left _ h8;omega
theorem g7_{r:Str}(e:r=Txt.join " " [a,b,c])(l:r.length<=24)(ha:10∉a.cps.toList)(hb:10∉b.cps.toList)(hc:10∉c.cps.toList):Wk 24 r:=⟨l,λz=>by
 rw[e,show (" ":Str)=⟨#[32]⟩ from rfl,jn] at z;rcases cb_ 32 z with y|⟨x,hx,y⟩
 ·cases y
 ·simp only[ah',List.mem_nil_iff,or_false] at hx;rcases hx with rfl|rfl|rfl
  ·exact ha y
  ·exact hb y
  ·exact hc y⟩
theorem name10(h:ba' x=true):10∉x.cps.toList:=λm=>by have:=aR_ h m;omega
theorem jC_(G:Good hs ts):∀r∈webR hs ts,RowB r:=λr hr=>by
 have rl:=(eh_ G).2 r hr;unfold webR at hr;rcases aq'.mp hr with h|h
 ·obtain⟨n,hn,rfl⟩:=ab'.mp h;have s:=cj_ G hn;have nb:=f0_ G hn;have nl:=av_ nb;have k10:10∉((toString (strOf hs n):Ah):Str).cps.toList:=λm=>by have:=c7_ Z1 m;omega
  have tl:((toString (strOf hs n):Ah):Str).length<=10:=PySem.W.KT.len_num (n:=strOf hs n) Z1 Z1;exact⟨"hand",n,_,cV_ nb Z1,.inl rfl,⟨by omega,name10 nb⟩,⟨by omega,k10⟩,g7_ (cM_ _ _) rl Z0 (name10 nb) k10⟩
 ·obtain⟨t,ht,rfl⟩:=ab'.mp h;have g:=ck_ (hs:=hs) G.tok ht;have l1:=av_ g.1;have l2:=av_ g.2.1;exact⟨"tie",t.1,t.2,dk_ g.1 g.2.1,.inr rfl,⟨by omega,name10 g.1⟩,⟨by omega,name10 g.2.1⟩,g7_ (dt_ _) rl Z0 (name10 g.1) (name10 g.2.1)⟩
theorem hj_(G:Good hs ts):((webR hs ts).map λr=>Txt.split r " ")=(a9' hs).map (cO' hs)++(tsOf ts).map tieL:=by
 unfold webR;rw[ag',ak',ak'];congr 1
 ·refine ax' λn hn=>?_;have s:=cj_ G hn;exact cV_ (f0_ G hn) Z1
 ·refine ax' λt ht=>?_;have g:=ck_ (hs:=hs) G.tok ht;exact dk_ g.1 g.2.1
theorem bT_{rs:List Str}(l64:rs.length<64)(ok:∀r∈rs,Wk 60 r):cg' K H (.str (Txt.join "\n" rs)) (!bH' (rs.map λr=>Txt.split r " ")):=by
 have key:∀{rs:List Str},rs≠[]->rs.length<64->(∀r∈rs,Wk 60 r)->cg' K H (.str (Txt.join "\n" rs)) (!bH' (rs.map λr=>Txt.split r " ")):=λ{rs} h0 l64 ok=>by
  refine hX_ h0 l64 (λr hr=>(ok r hr).1) (λr hr=>(ok r hr).2) ?_;have a:=jlen "\n" rs;have b:=fj_ (m:=60) λx hx=>(ok x hx).1;have c:rs.length * ("\n":Str).length=rs.length:=Nat.mul_one _;omega
 by_cases h0:rs=[]
 ·subst h0
  have:=key (rs:=[""]) Z2 (by decide) (λr hr=>by
   rw[show r="" by simpa using hr];exact⟨by decide +kernel,by decide +kernel⟩)
  exact this
 ·exact key h0 l64 ok
theorem hh_{wss:List (List Str)}(h:bH' wss=true):bH' (wss++[[("":Str)]])=false:=by
 unfold bH' at h ⊢;cases e:gRun ([],[]) wss with
 |none=>rw[e] at h;cases h
 |some st=>
  rw[ce_ e]
  have:bq' st [("":Str)]=none:=by
   obtain⟨as,bs⟩:=st;rfl
  rw[this]
theorem iC_:∀{rs:List Str},rs≠[]->Txt.join "\n" (rs++[("":Str)])=Txt.join "\n" rs++"\n":=λ{rs} h=>by
 rw[lk_,jn,jn];refine bX_ ?_;rw[bo_]
 have key:∀(a:Str) (r:List Str),(Str.join ⟨#[10]⟩ (a::r++[("":Str)])).cps.toList=(Str.join ⟨#[10]⟩ (a::r)).cps.toList++[10]:=by
  intro a r
  induction r generalizing a with
  |nil=>
   show (Str.join ⟨#[10]⟩ [a,""]).cps.toList=_;rw[aM_];rfl
  |cons b r ih=>
   show (Str.join ⟨#[10]⟩ (a::b::(r++[("":Str)]))).cps.toList=_;rw[aM_,aM_];have:=ih b;rw[show b::(r++[("":Str)])=b::r++[("":Str)] from rfl,this];simp
 match rs,h with
 |a::r,_=>exact key a r
def bV':List Str:=["hand a 1","hand b 1","hand c 1","hand d 1","hand e 1","hand f 1","hand g 1","hand h 1","hand i 1"]
theorem kj_:bV'=("abcdefghi":Str).cps.toList.map λc=>("hand ":Str)++(⟨#[c]⟩:Str)++(" 1":Str):=by decide +kernel
theorem ka_{c:Nat}(h:("abcdefghi":Str).cps[i]? = some c):bV'[i]? = some (("hand ":Str)++(⟨#[c]⟩:Str)++(" 1":Str)):=by
 rw[kj_,az',Array.getElem?_toList,h];rfl
theorem fQ_:∀r∈bV',Wk 60 r:=λr hr=>by
 have:(bV'.all λr=>decide (r.length<=60)&&!(r.cps.toList.contains 10))=true:=by decide +kernel
 have:=aL'.mp this r hr;simp only[au',b_1] at this;exact⟨this.1,λz=>by simpa [z] using this.2⟩
theorem kx_:bH' (bV'.map λr=>Txt.split r " ")=false:=by decide +kernel
theorem hI_:bH' (bV'.tail.map λr=>Txt.split r " ")=true:=by decide +kernel
theorem ea':a6' ["_law_script","_law_hands","_law_ties","_law_rows","_law_k","_law_odd","_law_nine"] ["_law_script"] (a5' sLaw):=f__
def spLaw(K:F__):Sp:=λvs H Q _=>∃(a:Addr) (ns:List Int),vs=[.ref a]/\SqL K H a (ns.map V.int)/\ns.length<=63/\∀H',Q (.bl true) H'
theorem lt_(F:Fun K "law" "law" sLaw f fd)(B:Bi mg)(mMin:mg "min"=none)(cC:Cal P w K mg base 1 "_law_cell_at" ["_law_script","_law_k"] (spCell K))(cW:Cal P w K mg base 3 "_law_web" ["_law_state","_law_most"] (spLWeb K))(cR:Cal P w K mg base 1 "_law_web_rows" ["_law_hands","_law_ties"] (b5' K))(cF:Cal P w K mg base 12 "_law_refused" ["_law_text"] (cZ' K))(cG:Cal P w K mg base 2 "_law_good" ["_law_rows"] spGood)(cS:Cal P w K mg base 2 "_law_spoiled" ["_law_state","_law_rows"] cV'):FnOk P w K mg base CX0 13 f fd ["_law_script"] (spLaw K):=by
 refine F.ok ea' (λvs H Q E h=>?_) (λcdv A outer s H vs Q E hr h=>?_)
 ·obtain⟨a,ns,rfl,_⟩:=h;rfl
 ·obtain⟨ls,ns,rfl,hls,h63,k⟩:=h;have sz:=a_9;have hu:=bn_ hr;have hr1:Room 1 _:=hr.mono (by decide);have hr2:Room 2 _:=hr.mono (by decide);have hr3:Room 3 _:=hr.mono (by decide);refine' ⟨_,?r0,?kk⟩
  case' r0=>refine' a3_ ?s1 (a3_ ?s2 (a3_ ?s3 (a3_ ?s4 (a3_ ?s5 (a3_ ?s6 (a3_ ?s7 (a3_ ?s8 (a5_ ?s9))))))))
  case s1=>exact gs_ (al_ cW hr3 (a0_ (as_ (a0_ (al_ cC hr1 (a0_ (pv 0) (a0_ a4_ a2_))) a2_)) (a0_ a4_ a2_))) (ch_ rfl (aj_ (ac_ (i:=1) ea'.nd rfl (Or.inl rfl)) (aj_ (ac_ (i:=2) ea'.nd rfl (Or.inl rfl)) b3_)))
  case s2=>exact ae_ (i:=3) ea'.nd rfl (Or.inl rfl) (al_ cR hr1 (a0_ (pv 1) (a0_ (pv 2) a2_)))
  case s3=>exact ak_ (az_ (al_ cF hr (a0_ (bi_ b_2 d_0 d__ bO_ a7_ (a0_ (pv 3) a2_)) a2_))) ab_ aa_
  case' s4=>refine' b2_ c_0 rfl ?i4 (ac_ (i:=4) ea'.nd rfl (Or.inl rfl)) (a3_ ?b1 (a5_ ?b2))
  case i4=>exact ir_ (by rfl) B.range (a0_ a4_ (a0_ (a6_ (iI_ rfl) (by rfl) B.max PyProof.Rows.Boot.«max» (a0_ a4_ (a0_ (a6_ (i8_ rfl) (by rfl) mMin PyProof.Rows.Boot.«min» (a0_ a4_ (a0_ (a6_ ai_ (by rfl) B.len b_3 (a0_ (pv 0) a2_)) a2_))) a2_))) a2_))
  case b1=>exact ae_ (i:=5) ea'.nd rfl (Or.inl rfl) (al_ cS hr2 (a0_ (as_ (a0_ (ao_ bc_ (al_ cC hr1 (a0_ (pv 0) (a0_ (pv 4) a2_))) (ao_ eY_ a4_ (pv 4))) a2_)) (a0_ (pv 3) a2_)))
  case b2=>exact ak_ (ah_ b6_ (al_ cF hr (a0_ (bi_ b_2 d_0 d__ bO_ a7_ (a0_ (pv 5) a2_)) a2_)) (al_ cG hr2 (a0_ (pv 5) a2_)) (nomark _)) ab_ aa_
  case' s5=>refine' bP_ (i:=6) ["_law_sign"] 1 [] ea'.nd rfl (Or.inl rfl) (eP_ a7_) (λfp s H=>ac_ (i:=0) (show (["_law_sign"]:List Str).Nodup by decide +kernel) rfl (Or.inl rfl)) (λfp s H=>aW_) (λfp s H=>?e5)
  case e5=>exact ao_ aG_ (ao_ aG_ a7_ (pv 0)) a7_
  case s6=>exact ak_ (cm_ (ax_ (az_ (al_ cF hr (a0_ (bi_ b_2 d_0 d__ bO_ a7_ (a0_ (pv 6) a2_)) a2_)))) (bI_ (az_ (al_ cF hr (a0_ (bi_ b_2 d_0 d__ bO_ a7_ (a0_ (ar_ aF_ (pv 6) (aB_ a4_) aD_) a2_)) a2_))))).pt ab_ aa_
  case s7=>exact ak_ (ax_ (az_ (al_ cF hr (a0_ (ao_ aG_ (bi_ b_2 d_0 d__ bO_ a7_ (a0_ (pv 3) a2_)) a7_) a2_)))) ab_ aa_
  case s8=>exact b2_ c_0 rfl (am_ (as_ (a0_ a7_ (a0_ a7_ (a0_ dC_ (a0_ a4_ (a0_ (pv 3) (a0_ cr_ a2_)))))))) (ac_ (i:=5) ea'.nd rfl (Or.inl rfl)) (a5_ (ak_ (ax_ (az_ (al_ cF hr (a0_ (pv 5) a2_)))) ab_ aa_))
  case s9=>exact af_ (eX_ (al_ cF hr (a0_ (bi_ b_2 d_0 d__ bO_ a7_ (a0_ (pv 3) a2_)) a2_)))
  case' kk=>skip
  refine⟨_,rfl,ls,ns,0,rfl,by decide,hls,λn0=>?_⟩;refine⟨by show 1<=sizeLine;decide,λl0 hl0=>?_⟩;have sa:=Same.new (o:=.lst [.int n0]) hl0;have st0:stt (upd H l0 (.lst [.int n0])) l0:=.inl ⟨n0,a1_⟩;generalize upd H l0 (.lst [.int n0])=Ha at sa st0 ⊢;refine⟨l0,rfl,st0,λt lh lt yh yt hs ts H1 b1 st1 ht nlh nlt nht hlh th hlt tt G _=>?_⟩;refine⟨t,_,rfl,.of ht,rfl,_,_,rfl,_,_,rfl,rfl,?_⟩;have s01:Same H H1:=λb o e=>b1 _ _ (sa _ _ e) (a9_ e hl0);have hls:=s01.seq hls;clear b1 st1 sa st0;refine⟨_,rfl,_,rfl,lh,lt,yh,yt,hs,ts,rfl,hlh,th,hlt,tt,G,λlr H2 s2 nr hlr=>?_⟩;refine setG ?_;dsimp only;have hls:=s2.seq hls;clear nr s2 hlt tt hlh th nlh nlt nht ht s01;have r36:=web36 G;have rb:=jC_ G
  have gd:bH' ((webR hs ts).map λr=>Txt.split r " ")=true:=by
   rw[hj_ G];exact e6_ G
  generalize webR hs ts=rs at hlr r36 rb gd ⊢
  have ok60:∀r∈rs,Wk 60 r:=λx hx=>by
   obtain⟨_,_,_,_,_,_,_,q⟩:=rb x hx;exact q.le (by decide)
  have jsz:∀{rs:List Str},rs.length<64->(∀r∈rs,Wk 60 r)->(rs.map (·.length)).sum+rs.length * ("\n":Str).length<=16777216:=λ{rs} h1 h2=>by
   have b:=fj_ (m:=60) λx hx=>(h2 x hx).1;have c:rs.length * ("\n":Str).length=rs.length:=Nat.mul_one _;omega
  have rdR:∀{H':Hp},cg' K H' (.str (Txt.join "\n" rs)) false:=λ{H'}=>by
   have:=bT_ (K:=K) (H:=H') (rs:=rs) Z1 ok60;rwa [gd] at this
  refine⟨rfl,_,rfl,"\n",lr,rs,rfl,rfl,.of hlr,jsz Z1 ok60,_,false,rfl,rdR,λH3 s3=>⟨_,rfl,?_⟩⟩;refine iteF (e0' ?_);dsimp only;have hls:=s3.seq hls;have hlr:=s3 _ _ hlr;clear s3;refine⟨_,rfl,ls,_,rfl,.inl hls,_,_,rfl,_,_,rfl,_,_,rfl,?_,?_⟩
  ·refine⟨by decide,by decide,?_,?_⟩
   ·split
    ·split<;>omega
    ·decide
   ·split
    ·split<;>omega
    ·decide
  refine dJ_ (lo:=1) (λi σ H'=>∃(v4 v5:Option V),σ=[some (.ref ls),some (.ref lh),some (.ref lt),some (.ref lr),v4,v5,none]/\Same H3 H') ⟨none,none,rfl,Same.refl H3⟩ ?_ ?_
  ·rintro i σ Hi hi ⟨v4,v5,rfl,si⟩;refine⟨_,rfl,_,rfl,ls,ns,1+(i:Int),rfl,by omega,si.seq hls,λn=>?_⟩;refine⟨_,rfl,_,_,rfl,rfl,.inl ⟨by decide,by decide⟩,_,_,rfl,rfl,?_⟩;generalize n+13 * (1+(i:Int))=n';refine⟨by show 1<=sizeLine;decide,λl hl=>?_⟩;have sl:=Same.new (o:=.lst [.int n']) hl;have st:stt (upd Hi l (.lst [.int n'])) l:=.inl ⟨n',a1_⟩;generalize upd Hi l (.lst [.int n'])=Hj at sl st ⊢;refine⟨_,rfl,l,lr,rs,rfl,st,sl _ _ (si _ _ hlr),a9_ (si _ _ hlr) hl,r36.1,r36.2,rb,λlo rs' Hk bk stk hlo l38 ok'=>?_⟩;have sk:Same Hi Hk:=λb o e=>bk _ _ (sl _ _ e) (a9_ e hl);refine setG ?_;dsimp only;refine⟨rfl,_,rfl,"\n",lo,rs',rfl,rfl,.of hlo,jsz Z1 ok',_,_,rfl,bT_ Z1 ok',λHm sm=>?_⟩;refine⟨_,rfl,lo,rs',rfl,sm _ _ hlo,by omega,λr hr=>aO' (ok' r hr).1 (by decide),λHn sn=>⟨rfl,_,rfl,?_⟩⟩;rw[show decide (V.bl (!bH' (rs'.map λr=>Txt.split r " "))=V.bl (bH' (rs'.map λr=>Txt.split r " ")))=false by cases bH' (rs'.map λr=>Txt.split r " ")<;>rfl]
   exact iteF ⟨_,_,rfl,si.trans (sk.trans (sm.trans sn))⟩
  rintro σ Hi ⟨v4,v5,rfl,si⟩;have hlr:=si _ _ hlr;clear si hls;dsimp only;refine⟨_,rfl,λD hD=>?_⟩;refine cT_ (own:=1) (fv:=[]) rfl gok1 9 (λi out H'=>H'=upd Hi D (.lst out)/\out=(bV'.take i).map V.str) ⟨rfl,rfl⟩ (λout H' ⟨e1,e2⟩=>?_) (λi out H' hi ⟨e1,e2⟩=>?_);rotate_left 1
  ·subst e1;refine⟨hi,λy H2 yl=>?_⟩;obtain⟨eH,c,hc,rfl⟩:=yl;subst eH;refine⟨_,rfl,rfl,λNx hN=>yesT ?_⟩;have lc:(⟨#[c]⟩:Str).length=1:=rfl;refine⟨_,rfl,_,_,rfl,rfl,by rw[lc];decide,_,_,rfl,rfl,by rw[a_7,lc];decide,out,a1_,?_,?_⟩
   ·rw[e2,aa',af'];omega
   ·rw[bZ_];refine hN _ _ ⟨rfl,?_⟩;have key:=ka_ hc;rw[ap_ key,ag',e2];rfl
  have s4:Same Hi H':=by rw[e1];exact Same.new hD
  have eD:H' D=some (.lst (bV'.map V.str)):=by rw[e1,a1_,e2];rfl
  clear e1 e2;refine⟨ai' _,?_⟩;refine setG ?_;dsimp only
  have rd9:∀{H':Hp},cg' K H' (.str (Txt.join "\n" bV')) true:=λ{H'}=>by
   have:=bT_ (K:=K) (H:=H') (rs:=bV') (by decide) fQ_;rwa [kx_] at this
  have ok8:∀r∈bV'.tail,Wk 60 r:=λr hr=>fQ_ r (List.mem_of_mem_tail hr)
  have rd8:∀{H':Hp},cg' K H' (.str (Txt.join "\n" bV'.tail)) false:=λ{H'}=>by
   have:=bT_ (K:=K) (H:=H') (rs:=bV'.tail) (by decide) ok8;rwa [hI_] at this
  refine⟨rfl,_,rfl,"\n",D,bV',rfl,rfl,.of eD,jsz (by decide) fQ_,_,true,rfl,rd9,λH5 s5=>⟨_,rfl,?_⟩⟩;refine iteF ?_;refine⟨rfl,_,rfl,1,rfl,D,_,rfl,.of (s5 _ _ eD),λq hq=>?_⟩;have s6:=Same.new (o:=.lst (cutV (bV'.map V.str) (some 1) none)) hq;have e6:upd H5 q (.lst (cutV (bV'.map V.str) (some 1) none)) q=some (.lst (bV'.tail.map V.str)):=a1_;generalize upd H5 q (.lst (cutV (bV'.map V.str) (some 1) none))=H6 at s6 e6 ⊢;refine⟨"\n",q,bV'.tail,rfl,rfl,.of e6,jsz (by decide) ok8,_,false,rfl,rd8,λH7 s7=>⟨_,rfl,?_⟩⟩;refine iteF (e0' ?_);dsimp only;have s47:=(s4.trans s5).trans (s6.trans s7);have hlr:=s47 _ _ hlr;clear s47 s4 s5 s6 s7 e6 eD hq hD;have rne:rs≠[]:=λz=>by rw[z] at r36;exact absurd r36.1 (by decide)
  have rdL:∀{H':Hp},cg' K H' (.str (Txt.join "\n" rs++"\n")) true:=λ{H'}=>by
   have:=bT_ (K:=K) (H:=H') (rs:=rs++[("":Str)]) (by rw[an'];show rs.length+1<64;omega) (λr hr=>by
    rcases aq'.mp hr with z|z
    ·exact ok60 r z
    ·rw[show r="" by simpa using z];exact⟨by decide +kernel,by decide +kernel⟩)
   rw[iC_ rne,ag',show (([""]:List Str).map λr=>Txt.split r " ")=[[("":Str)]] from rfl,hh_ gd] at this;exact this
  refine⟨rfl,_,rfl,"\n",lr,rs,rfl,rfl,.of hlr,jsz Z1 ok60,_,_,rfl,rfl,?_,_,true,rfl,rdL,λH8 s8=>⟨_,rfl,?_⟩⟩
  ·have:=jlen "\n" rs;have b:=fj_ (m:=60) λx hx=>(ok60 x hx).1;have c:rs.length * ("\n":Str).length=rs.length:=Nat.mul_one _;show _+1<=_;omega
  refine iteF (e0' ?_);dsimp only;have hlr:=s8 _ _ hlr;clear s8;refine⟨_,rfl,by show 6<=sizeLine;decide,λlz nlz=>?_⟩;obtain⟨s9,e9⟩:=nw__ (o:=.lst [.str "",.str "\n",.non,.int 7,.ref lr,.bl true]) nlz;generalize upd H8 lz (.lst [.str "",.str "\n",.non,.int 7,.ref lr,.bl true])=H9 at s9 e9 ⊢;have hlr:=s9 _ _ hlr;have wk0:Wk 60 ("":Str):=⟨by decide +kernel,by decide +kernel⟩
  have all:∀v∈[V.str "",.str "\n",.non,.int 7,.ref lr,.bl true],∀{H'},Same H9 H'->cg' K H' v true:=λv hv {H'} s0=>by
   simp only[ah',List.mem_nil_iff,or_false] at hv;rcases hv with rfl|rfl|rfl|rfl|rfl|rfl
   ·exact bT_ (K:=K) (H:=H') (rs:=[""]) (by decide) (λr hr=>by rw[show r="" by simpa using hr];exact wk0)
   ·exact bT_ (K:=K) (H:=H') (rs:=["",""]) (by decide) (λr hr=>by rw[show r="" by simpa using hr];exact wk0)
   ·exact .inl ⟨rfl,_,.non,rfl⟩
   ·exact .inl ⟨rfl,_,.int _,rfl⟩
   ·exact .inl ⟨rfl,_,.lst (s0 _ _ hlr),rfl⟩
   ·exact .inl ⟨rfl,_,.bl _,rfl⟩
  refine⟨lz,rfl,⟨_,.of e9⟩,aX_ (K:=K) (a:=lz) (xs:=[.str "",.str "\n",.non,.int 7,.ref lr,.bl true]) (λj σ H'=>∃v5:Option V,σ=[some (.ref ls),some (.ref lh),some (.ref lt),some (.ref lr),v4,v5,some (.ref D)]/\Same H9 H') ⟨_,rfl,Same.refl _⟩ (λj σ H' _ ⟨_,_,sm⟩=>.of (sm _ _ e9)) ?_ ?_⟩
  ·rintro j v σ Hm hv ⟨v5',rfl,sm⟩;refine⟨_,rfl,v,true,rfl,all v (ae' hv) sm,λHn sn=>⟨_,rfl,?_⟩⟩;exact iteF ⟨_,rfl,sm.trans sn⟩
  rintro σ Hm ⟨v5',rfl,sm⟩;refine⟨rfl,_,rfl,"\n",lr,rs,rfl,rfl,.of (sm _ _ hlr),jsz Z1 ok60,_,false,rfl,rdR,λHn sn=>⟨_,rfl,?_⟩⟩;exact k Hn
structure Fd (K:F__) (mg:Str->Option Aa) (x:Str) (st:Stmt):Prop where
 ex:∃f fd,Fun K x x st f fd/\mg x=some (.ref f)/\PySem.W.keepIn K (.ref f)=true
variable{h:Heap}{st:Stmt}{cdv ct doc oc pm:Aa}{an od:Option Addr}{osl:Array (Option Aa)}
theorem fd_mk(X:K.In h)(G:h.Ns mainGlobals mg){kV:Aa}(a:PySem.W.nsIn K mainGlobals x=some (some (.ref f)))(l:K.lookup f=some ⟨oc,od,.func (PySem.W.fnOf x x (br' st) (bj' st) (a5' st) .none kV doc pm an cdv ct),osl⟩)(c:PySem.W.codeIn K cdv x=true)(k:PySem.W.keepIn K (.ref f)=true):Fd K mg x st:=⟨_,_,hn_ l c k,b_4 X G a,k⟩
structure Md (K:F__) (C:Addr) (m qual:Str) (st:Stmt):Prop where
 ex:∃f fd,Fun K m qual st f fd/\Meth K C m f
variable{m qual:Str}{C:Addr}
theorem md_mk{kV:Aa}(a:PySem.W.findIn K (.ref C) m=some (some (.ref f)))(i:PySem.W.isFn K (.ref f)=true)(l:K.lookup f=some ⟨oc,od,.func (PySem.W.fnOf m qual (br' st) (bj' st) (a5' st) .none kV doc pm an cdv ct),osl⟩)(c:PySem.W.codeIn K cdv qual=true)(k:PySem.W.keepIn K (.ref f)=true):Md K C m qual st:=⟨_,_,hn_ l c k,a,i,k⟩
variable{k:Nat}{ps:List Str}{sp:Sp}
theorem cal(d:Fd K mg x st)(ok:∀f fd,Fun K x x st f fd->FnOk P w K mg base CX0 k f fd ps sp)(h:∀(kV doc pm:Aa) (an:Option Addr) (cdv ct:Aa) (us:List Aa),us.length=ps.length->bindArgs (PySem.W.fnOf x x (br' st) (bj' st) (a5' st) .none kV doc pm an cdv ct) ⟨us,[]⟩=pure (ps.zip us)):Cal P w K mg base k x ps sp:=by
 obtain⟨f,fd,F,m,kp⟩:=d.ex;exact⟨f,fd,ok f fd F,m,kp,F.binds h⟩
theorem calM(d:Md K C m qual st)(ok:∀f fd,Fun K m qual st f fd->FnOk P w K mg base CX0 k f fd ps sp)(h:∀(kV doc pm:Aa) (an:Option Addr) (cdv ct:Aa) (us:List Aa),us.length=ps.length->bindArgs (PySem.W.fnOf m qual (br' st) (bj' st) (a5' st) .none kV doc pm an cdv ct) ⟨us,[]⟩=pure (ps.zip us)):CalM P w K mg base C k m ps sp:=by
 obtain⟨f,fd,F,m⟩:=d.ex;exact⟨f,fd,ok f fd F,m,F.binds h⟩
theorem calX(d:Md K C m qual st)(ok:∀f fd,Fun K m qual st f fd->FnOk P w K mg base (CX1 P w) k f fd ps sp)(h:∀(kV doc pm:Aa) (an:Option Addr) (cdv ct:Aa) (us:List Aa),us.length=ps.length->bindArgs (PySem.W.fnOf m qual (br' st) (bj' st) (a5' st) .none kV doc pm an cdv ct) ⟨us,[]⟩=pure (ps.zip us)):CalX P w K mg base C k m ps sp:=by
 obtain⟨f,fd,F,m⟩:=d.ex;exact⟨f,fd,ok f fd F,m,F.binds h⟩
theorem calC(d:Md K C "__init__" qual st)(hx:mg x=some (.ref C))(mk:PySem.W.makesIn K C=true)(kc:PySem.W.keepIn K (.ref C)=true)(ok:∀f fd,Fun K "__init__" qual st f fd->FnOk P w K mg base CX0 k f fd ps sp)(h:∀(kV doc pm:Aa) (an:Option Addr) (cdv ct:Aa) (us:List Aa),us.length=ps.length->bindArgs (PySem.W.fnOf "__init__" qual (br' st) (bj' st) (a5' st) .none kV doc pm an cdv ct) ⟨us,[]⟩=pure (ps.zip us)):CalC P w K mg base C k x ps sp:=by
 obtain⟨f,fd,F,m⟩:=d.ex;exact⟨f,fd,ok f fd F,⟨mk,m.1,m.2,kc⟩,hx,F.binds h⟩
theorem calF(d:Fd K mg x st)(ok:∀f fd,Fun K x x st f fd->FnOk P w K mg base (CX1 P w) k f fd ps sp)(h:∀(kV doc pm:Aa) (an:Option Addr) (cdv ct:Aa) (us:List Aa),us.length=ps.length->bindArgs (PySem.W.fnOf x x (br' st) (bj' st) (a5' st) .none kV doc pm an cdv ct) ⟨us,[]⟩=pure (ps.zip us)):CalF P w K mg base k x ps sp:=by
 obtain⟨f,fd,F,m,kp⟩:=d.ex;exact⟨f,fd,ok f fd F,m,kp,F.binds h⟩
theorem calG(d:Fd K mg x st)(ok:∀f fd,Fun K x x st f fd->FnOk P w K mg base (CX2 P w) k f fd ps sp)(h:∀(kV doc pm:Aa) (an:Option Addr) (cdv ct:Aa) (us:List Aa),us.length=ps.length->bindArgs (PySem.W.fnOf x x (br' st) (bj' st) (a5' st) .none kV doc pm an cdv ct) ⟨us,[]⟩=pure (ps.zip us))   : CalG P w K mg base k x ps sp:=by
 obtain⟨f,fd,F,m,kp⟩:=d.ex;exact⟨f,fd,ok f fd F,m,kp,F.binds h⟩
theorem calK(d:Md K C "__init__" qual st)(hx:mg x=some (.ref C))(mk:PySem.W.makesIn K C=true)(kc:PySem.W.keepIn K (.ref C)=true)(ok:∀f fd,Fun K "__init__" qual st f fd->FnOk P w K mg base (CX1 P w) k f fd ps sp)(h:∀(kV doc pm:Aa) (an:Option Addr) (cdv ct:Aa) (us:List Aa),us.length=ps.length->bindArgs (PySem.W.fnOf "__init__" qual (br' st) (bj' st) (a5' st) .none kV doc pm an cdv ct) ⟨us,[]⟩=pure (ps.zip us)):CalK P w K mg base C k x ps sp:=by
 obtain⟨f,fd,F,m⟩:=d.ex;exact⟨f,fd,ok f fd F,⟨mk,m.1,m.2,kc⟩,hx,F.binds h⟩
variable{l:PySem.W.OpenLaw}
theorem all_mk{fa CW CG CP CS CT CN c0 CH CE fl:Addr}(X:K.In h)(G:h.Ns mainGlobals mg)(hfa:mg "law"=some (.ref fa))(f0:Fd K mg "is_whole" sIsW)(f1:Fd K mg "is_whole_within" sWhole)(f2:Fd K mg "is_name" sName)(f3:Fd K mg "lesser_first" eq')(f4:Fd K mg "is_pair_of_names" sPair)(f5:Fd K mg "sorted_ties" dB')(f6:Fd K mg "is_hand_with_strength" sHand)(f7:Fd K mg "checked_strengths" sStr)(f8:Fd K mg "checked_ties" sTies)(f9:Fd K mg "neighbours_of_all" sNear)(f10:Fd K mg "checked_ways" eR')(f11:Fd K mg "checked_piece" dR')(f12:Fd K mg "checked_pieces" cQ')(f13:Fd K mg "ties_anew" sAnew)(f14:Fd K mg "checked_stand" dL')(f15:Fd K mg "ways_text" c9')(f16:Fd K mg "web_rows" dP')(f17:Fd K mg "goods_text" b7')(f18:Fd K mg "is_figures" sFigs)(f19:Fd K mg "is_tie_word" dY')(f20:Fd K mg "is_ways_word" c4')(f21:Fd K mg "ways_in" eo')(f22:Fd K mg "is_row_of_goods" sIsRow)(f23:Fd K mg "words_of_rows" cR')(f24:Fd K mg "web_in" eM')(f25:Fd K mg "goods_in" cl')(f26:Fd K mg "text_again" eS')(f27:Fd K mg "read_goods" bS')(f28:Fd K mg "read_web" ct')(f29:Fd K mg "_law_cell_at" sCell)(f30:Fd K mg "_law_digit" sDigit)(f31:Fd K mg "_law_names" sNames)(f32:Fd K mg "_law_web" sLWeb)(f33:Fd K mg "_law_web_rows" c8')(f34:Fd K mg "_law_refused" dA')(f35:Fd K mg "_law_is_name" ey')(f36:Fd K mg "_law_is_strength" cf')(f37:Fd K mg "_law_good" sGood)(f38:Fd K mg "_law_spoiled" dS')(m0:Md K CW "__init__" "Web.__init__" sInit)(m1:Md K CW "has_hand" "Web.has_hand" sHas)(m2:Md K CW "hands" "Web.hands" sHands)(m3:Md K CW "strength" "Web.strength" de')(m4:Md K CW "are_tied" "Web.are_tied" sTied)(m5:Md K CG "__init__" "Goods.__init__" eP')(m6:Md K CG "has_piece" "Goods.has_piece" sGHas)(m7:Md K CG "names" "Goods.names" ej')(m8:Md K CG "weight" "Goods.weight" dC')(m9:Md K CW "ties" "Web.ties" sTiesM)(m10:Md K CG "ways" "Goods.ways" sGWays){ocl kVl dcl pml cdl ctl:Aa}{odl anl:Option Addr}{sll:Array (Option Aa)}{t8 t9 t10 t11 t12:Tok}(al:PySem.W.nsIn K mainGlobals "law"=some (some (.ref fl)))(ll:K.lookup fl=some ⟨ocl,odl,.func (PySem.W.fnOf "law" "law" (br' sLaw) (bj' sLaw) (a5' sLaw) .none kVl dcl pml anl cdl ctl),sll⟩)(cl:PySem.W.codeIn K cdl "law"=true)(kl:PySem.W.keepIn K (.ref fl)=true)(aW:PySem.W.nsIn K mainGlobals "Web"=some (some (.ref CW)))(aG:PySem.W.nsIn K mainGlobals "Goods"=some (some (.ref CG)))(eP:PySem.W.nsIn K mainGlobals "NoPiece"=some (some (.ref CP)))(eS:PySem.W.nsIn K mainGlobals "NoStand"=some (some (.ref CS)))(eT:PySem.W.nsIn K mainGlobals "NoText"=some (some (.ref CT)))(eN:PySem.W.nsIn K mainGlobals "NoWeb"=some (some (.ref CN)))(eO:PySem.W.nsIn K mainGlobals "NoGoods"=some (some (.ref c0)))(eH:PySem.W.nsIn K mainGlobals "NoHand"=some (some (.ref CH)))(eE:PySem.W.nsIn K mainGlobals "EvenError"=some (some (.ref CE)))(xP:PySem.W.excIn K CP [.type "ValueError",.type "Exception",.type "BaseException",.type "object"] "ValueError.__new__"=true)(xS:PySem.W.excIn K CS [.type "ValueError",.type "Exception",.type "BaseException",.type "object"] "ValueError.__new__"=true)(xT:PySem.W.excIn K CT [.type "ValueError",.type "Exception",.type "BaseException",.type "object"] "ValueError.__new__"=true)(xN:PySem.W.excIn K CN [.type "ValueError",.type "Exception",.type "BaseException",.type "object"] "ValueError.__new__"=true)(xO:PySem.W.excIn K c0 [.type "ValueError",.type "Exception",.type "BaseException",.type "object"] "ValueError.__new__"=true)(c8:PySem.W.nsIn K mainGlobals "MOST_LETTERS"=some (some (.int 8 t8)))(c9:PySem.W.nsIn K mainGlobals "MOST_HANDS"=some (some (.int 8 t9)))(c10:PySem.W.nsIn K mainGlobals "MOST_STRENGTH"=some (some (.int 1000 t10)))(c11:PySem.W.nsIn K mainGlobals "MOST_WEIGHT"=some (some (.int 1000000000 t11)))(c12:PySem.W.nsIn K mainGlobals "MOST_FIGURES"=some (some (.int 10 t12)))(wpg:PySem.W.plainGet K CW Str.empty=true)(whd:PySem.W.hasDictIn K CW=true)(wpo:PySem.W.plainOver K CW=true)(wsa:PySem.W.findIn K (.ref CW) "__setattr__"=some (some (.builtin "object.__setattr__")))(wmk:PySem.W.makesIn K CW=true)(wkc:PySem.W.keepIn K (.ref CW)=true)(nS:PySem.W.findIn K (.ref CW) "strength_by_hand"=some none)(nP:PySem.W.findIn K (.ref CW) "sorted_pairs"=some none)(nN:PySem.W.findIn K (.ref CW) "neighbours_by_hand"=some none)(wiha:PySem.W.findIn K (.ref CW) "__class__"=some (some (.builtin "object.__class__")))(wimo:PySem.W.mroIn K CW (.type "object")=some true)(gpg:PySem.W.plainGet K CG Str.empty=true)(ghd:PySem.W.hasDictIn K CG=true)(gpo:PySem.W.plainOver K CG=true)(gsa:PySem.W.findIn K (.ref CG) "__setattr__"=some (some (.builtin "object.__setattr__")))(gmk:PySem.W.makesIn K CG=true)(gkc:PySem.W.keepIn K (.ref CG)=true)(nW:PySem.W.findIn K (.ref CG) "web"=some none)(nG:PySem.W.findIn K (.ref CG) "weight_by_name"=some none)(nY:PySem.W.findIn K (.ref CG) "ways_by_name"=some none)(giha:PySem.W.findIn K (.ref CG) "__class__"=some (some (.builtin "object.__class__")))(gimo:PySem.W.mroIn K CG (.type "object")=some true)(ihn:PySem.W.specialIn K (.builtin "object.__class__") "__get__"=some (some (.builtin "getset_descriptor.__get__")))(itk:PySem.W.takesIn K (.builtin "object.__class__")=some true)(ra:rfTIn K CT CE c0 CH CS CN CP=true)(xmN:PySem.W.exmOne K (.ref CN) (.ref CN)=some true)(xmS:PySem.W.exmOne K (.ref CS) (.ref CS)=some true)(xmO:PySem.W.exmOne K (.ref c0) (.ref c0)=some true)(z0:PySem.W.nsIn K mainGlobals "isinstance"=some none)(z1:PySem.W.nsIn K mainGlobals "int"=some none)(z2:PySem.W.nsIn K mainGlobals "bool"=some none)(z3:PySem.W.nsIn K mainGlobals "str"=some none)(z4:PySem.W.nsIn K mainGlobals "tuple"=some none)(z5:PySem.W.nsIn K mainGlobals "list"=some none)(z6:PySem.W.nsIn K mainGlobals "dict"=some none)(z7:PySem.W.nsIn K mainGlobals "len"=some none)(z8:PySem.W.nsIn K mainGlobals "all"=some none)(z9:PySem.W.nsIn K mainGlobals "sorted"=some none)(z10:PySem.W.nsIn K mainGlobals "max"=some none)(z11:PySem.W.nsIn K mainGlobals "range"=some none)(z12:PySem.W.nsIn K mainGlobals "any"=some none)(z13:PySem.W.nsIn K mainGlobals "enumerate"=some none)(z14:PySem.W.nsIn K mainGlobals "min"=some none)(z15:PySem.W.nsIn K mainGlobals "ValueError"=some none) :
  ∃fd:Ae,(∀(s:Ab) (v:Aa),BindsTo s fd ⟨[v],[]⟩ [("_law_script",v)])/\∀base:Heap,K.In base->base.Ns mainGlobals mg->FnOk l.prog w K mg base CX0 13 fa fd ["_law_script"] (spLaw K):=by
 have e:=hfa.symm.trans (b_4 X G al);cases e;have B:Bi mg:=⟨b_6 X G z0,b_6 X G z1,b_6 X G z2,b_6 X G z3,b_6 X G z4,b_6 X G z5,b_6 X G z6,b_6 X G z7,b_6 X G z8,b_6 X G z9,b_6 X G z10,b_6 X G z11,b_6 X G z12,b_6 X G z13⟩;have TW:Txt K mg CW:=⟨⟨wpg,whd,wpo,wsa⟩,nS,nP,nN⟩;have IW:InsK K CW:=⟨wiha,ihn,itk,wimo⟩;have T:TxtG K CG:=⟨⟨gpg,ghd,gpo,gsa⟩,nW,nG,nY⟩;have IG:InsK K CG:=⟨giha,ihn,itk,gimo⟩;have RP:Ref K mg "NoPiece" CP:=⟨b_4 X G eP,xP⟩;have RS:Ref K mg "NoStand" CS:=⟨b_4 X G eS,xS⟩;have RT:Ref K mg "NoText" CT:=⟨b_4 X G eT,xT⟩;have RN:Ref K mg "NoWeb" CN:=⟨b_4 X G eN,xN⟩;have RO:Ref K mg "NoGoods" c0:=⟨b_4 X G eO,xO⟩;have FL:=hn_ (st:=sLaw) ll cl kl;refine⟨PySem.W.fnOf "law" "law" (br' sLaw) (bj' sLaw) (a5' sLaw) .none kVl dcl pml anl cdl ctl,λs v=>.of_eq rfl,λbase _ _=>?_⟩;have RR:RfT K mg CT CE c0 CH CS CN CP:=l4_ ra (b_4 X G eT) (b_4 X G eE) (b_4 X G eO) (b_4 X G eH) (b_4 X G eS) (b_4 X G eN) (b_4 X G eP);have cIsW:Cal l.prog w K mg base 1 "is_whole" ["thing"] spIsW:=cal f0 (λ_ _ F=>lD_ F B) (λ_ _ _ _ _ _ us hl=>match us,hl with | [_],_=>rfl);have cWhole:Cal l.prog w K mg base 2 "is_whole_within" ["thing","least","most"] df':=cal f1 (λ_ _ F=>iZ_ F cIsW) (λ_ _ _ _ _ _ us hl=>match us,hl with | [_,_,_],_=>rfl);have cName:Cal l.prog w K mg base 1 "is_name" ["thing"] cX':=cal f2 (λ_ _ F=>km_ F B (b_4 X G c8)) (λ_ _ _ _ _ _ us hl=>match us,hl with | [_],_=>rfl);have cLess:Cal l.prog w K mg base 1 "lesser_first" ["one","other"] ci':=cal f3 (λ_ _ F=>i7_ F) (λ_ _ _ _ _ _ us hl=>match us,hl with | [_,_],_=>rfl);have cPair:Cal l.prog w K mg base 2 "is_pair_of_names" ["thing"] eI':=cal f4 (λ_ _ F=>kF_ F B cName) (λ_ _ _ _ _ _ us hl=>match us,hl with | [_],_=>rfl);have cSort:Cal l.prog w K mg base 3 "sorted_ties" ["ties"] (cq' K):=cal f5 (λ_ _ F=>fn_ F B cPair cLess) (λ_ _ _ _ _ _ us hl=>match us,hl with | [_],_=>rfl);have cHand:Cal l.prog w K mg base 3 "is_hand_with_strength" ["thing"] eG':=cal f6 (λ_ _ F=>kS_ F B cName cWhole (b_4 X G c10)) (λ_ _ _ _ _ _ us hl=>match us,hl with | [_],_=>rfl);have cStr:Cal l.prog w K mg base 4 "checked_strengths" ["hands"] (spStr K):=cal f7 (λ_ _ F=>jS_ F B cHand (b_4 X G c9)) (λ_ _ _ _ _ _ us hl=>match us,hl with | [_],_=>rfl);have cTies:Cal l.prog w K mg base 4 "checked_ties" ["ties","strengths"] (eO' K):=cal f8 (λ_ _ F=>k5_ F B cSort) (λ_ _ _ _ _ _ us hl=>match us,hl with | [_,_],_=>rfl);have cNear:Cal l.prog w K mg base 2 "neighbours_of_all" ["names","ties"] (eL' K):=cal f9 (λ_ _ F=>ko_ F cLess) (λ_ _ _ _ _ _ us hl=>match us,hl with | [_,_],_=>rfl);have cWeb:CalC l.prog w K mg base CW 5 "Web" ["self","hands","ties"] (eF' K CW):=calC m0 (b_4 X G aW) wmk wkc (λ_ _ F=>kK_ F TW B cStr cTies cNear) (λ_ _ _ _ _ _ us hl=>match us,hl with | [_,_,_],_=>rfl);have mHasA:CalM l.prog w K mg base CW 1 "has_hand" ["self","thing"] (eH' K CW):=calM m1 (λ_ _ F=>kw_ F TW B) (λ_ _ _ _ _ _ us hl=>match us,hl with | [_,_],_=>rfl);have mHas:CalM l.prog w K mg base CW 1 "has_hand" ["self","thing"] (e3' K CW):=calM m1 (λ_ _ F=>l3_ F TW B) (λ_ _ _ _ _ _ us hl=>match us,hl with | [_,_],_=>rfl);have mHands:CalM l.prog w K mg base CW 1 "hands" ["self"] (dH' K CW):=calM m2 (λ_ _ F=>iL_ F TW B) (λ_ _ _ _ _ _ us hl=>match us,hl with | [_],_=>rfl);have mStr:CalM l.prog w K mg base CW 2 "strength" ["self","hand"] (b8' K CW):=calM m3 (λ_ _ F=>fw_ F TW mHas) (λ_ _ _ _ _ _ us hl=>match us,hl with | [_,_],_=>rfl);have mTied:CalM l.prog w K mg base CW 2 "are_tied" ["self","one","other"] (c6' K CW):=calM m4 (λ_ _ F=>j0_ F TW mHasA) (λ_ _ _ _ _ _ us hl=>match us,hl with | [_,_,_],_=>rfl);have cCW:Cal l.prog w K mg base 4 "checked_ways" ["web","ways"] (dD' K CW):=cal f10 (λ_ _ F=>jF_ F TW cSort mTied) (λ_ _ _ _ _ _ us hl=>match us,hl with | [_,_],_=>rfl);have cCP:Cal l.prog w K mg base 5 "checked_piece" ["web","piece"] (ch' K CW):=cal f11 (λ_ _ F=>eO_ F B cName cWhole cCW (b_4 X G c11)) (λ_ _ _ _ _ _ us hl=>match us,hl with | [_,_],_=>rfl);have cCPs:Cal l.prog w K mg base 6 "checked_pieces" ["web","pieces"] (cj' K CW):=cal f12 (λ_ _ F=>gJ_ F B cCP) (λ_ _ _ _ _ _ us hl=>match us,hl with | [_,_],_=>rfl);have cGoods:CalC l.prog w K mg base CG 7 "Goods" ["self","web","pieces"] (dM' K CG CW):=calC m5 (b_4 X G aG) gmk gkc (λ_ _ F=>iS_ F T TW IW B (b_4 X G aW) cCPs) (λ_ _ _ _ _ _ us hl=>match us,hl with | [_,_,_],_=>rfl);have gHas:CalM l.prog w K mg base CG 1 "has_piece" ["self","thing"] (cW' K CG CW):=calM m6 (λ_ _ F=>k8_ F T B) (λ_ _ _ _ _ _ us hl=>match us,hl with | [_,_],_=>rfl);have gNames:CalM l.prog w K mg base CG 1 "names" ["self"] (bU' K CG CW):=calM m7 (λ_ _ F=>ib_ F T B) (λ_ _ _ _ _ _ us hl=>match us,hl with | [_],_=>rfl);have gWeight:CalX l.prog w K mg base CG 2 "weight" ["self","piece"] (cs' K CG CW CP):=calX m8 (λ_ _ F=>gR_ F T RP gHas) (λ_ _ _ _ _ _ us hl=>match us,hl with | [_,_],_=>rfl);have cAnew:Cal l.prog w K mg base 1 "ties_anew" ["ties"] (eN' K):=cal f13 (λ_ _ F=>kD_ F) (λ_ _ _ _ _ _ us hl=>match us,hl with | [_],_=>rfl);have mTies:CalM l.prog w K mg base CW 2 "ties" ["self"] (dN' K CW):=calM m9 (λ_ _ F=>ji_ F TW cAnew) (λ_ _ _ _ _ _ us hl=>match us,hl with | [_],_=>rfl);have gWays:CalX l.prog w K mg base CG 2 "ways" ["self","piece"] (dZ' K CG CW CP):=calX m10 (λ_ _ F=>jr_ F T RP gHas cAnew) (λ_ _ _ _ _ _ us hl=>match us,hl with | [_,_],_=>rfl);have cSortG:Cal l.prog w K mg base 3 "sorted_ties" ["ties"] (ek' K):=cal f5 (λ_ _ F=>FnOk.two (fn_ F B cPair cLess) (jv_ F B cPair cLess) λ_ _ _ _ z=>z) (λ_ _ _ _ _ _ us hl=>match us,hl with | [_],_=>rfl);have cStrG:CalF l.prog w K mg base 4 "checked_strengths" ["hands"] (spStrG K CN):=calF f7 (λ_ _ F=>FnOk.two (jS_ F B cHand (b_4 X G c9)).up (kv_ F B RN cHand (b_4 X G c9)) λ_ _ _ _ z=>z) (λ_ _ _ _ _ _ us hl=>match us,hl with | [_],_=>rfl);have cTiesT:CalF l.prog w K mg base 4 "checked_ties" ["ties","strengths"] (em' K CN):=calF f8 (λ_ _ F=>jf_ F RN cSortG) (λ_ _ _ _ _ _ us hl=>match us,hl with | [_,_],_=>rfl);have cWebK:CalK l.prog w K mg base CW 5 "Web" ["self","hands","ties"] (ew' K CN):=calK m0 (b_4 X G aW) wmk wkc (λ_ _ F=>jI_ F cStrG cTiesT) (λ_ _ _ _ _ _ us hl=>match us,hl with | [_,_,_],_=>rfl);have cCWT:CalF l.prog w K mg base 4 "checked_ways" ["web","ways"] (dE' K CW c0):=calF f10 (λ_ _ F=>i5_ F TW RO cSortG mTied) (λ_ _ _ _ _ _ us hl=>match us,hl with | [_,_],_=>rfl);have cCPG:CalF l.prog w K mg base 5 "checked_piece" ["web","piece"] (d1' K CW c0):=calF f11 (λ_ _ F=>FnOk.two (eO_ F B cName cWhole cCW (b_4 X G c11)).up (gT_ F B RO cName cWhole cCWT (b_4 X G c11)) λ_ _ _ _ z=>z) (λ_ _ _ _ _ _ us hl=>match us,hl with | [_,_],_=>rfl);have cCPsT:CalF l.prog w K mg base 6 "checked_pieces" ["web","pieces"] (cB' K CW c0):=calF f12 (λ_ _ F=>ft_ F B RO cCPG) (λ_ _ _ _ _ _ us hl=>match us,hl with | [_,_],_=>rfl);have cGoodsK:CalK l.prog w K mg base CG 7 "Goods" ["self","web","pieces"] (dK' K CW c0):=calK m5 (b_4 X G aG) gmk gkc (λ_ _ F=>hk_ F TW IW B (b_4 X G aW) cCPsT) (λ_ _ _ _ _ _ us hl=>match us,hl with | [_,_,_],_=>rfl);have cCS:Cal l.prog w K mg base 2 "checked_stand" ["goods","stand"] (cT' K CG CW):=cal f14 (λ_ _ F=>ic_ F B T TW gHas mHas gNames) (λ_ _ _ _ _ _ us hl=>match us,hl with | [_,_],_=>rfl);have cCSN:CalF l.prog w K mg base 2 "checked_stand" ["goods","stand"] (bP' K CG CW CS):=calF f14 (λ_ _ F=>h6_ F B RS T TW gHas mHas gNames) (λ_ _ _ _ _ _ us hl=>match us,hl with | [_,_],_=>rfl);have cWyT:Cal l.prog w K mg base 3 "ways_text" ["ways"] (cy' K):=cal f15 (λ_ _ F=>fM_ F) (λ_ _ _ _ _ _ us hl=>match us,hl with | [_],_=>rfl);have cWbR:Cal l.prog w K mg base 3 "web_rows" ["web"] (cv' K CW):=cal f16 (λ_ _ F=>hc_ F TW mHands mStr mTies) (λ_ _ _ _ _ _ us hl=>match us,hl with | [_],_=>rfl);have cGdT:Cal l.prog w K mg base 4 "goods_text" ["goods","stand"] (bl' K CG CW):=cal f17 (λ_ _ F=>f7_ F T cCS cWbR gWeight gWays cWyT) (λ_ _ _ _ _ _ us hl=>match us,hl with | [_,_],_=>rfl);have cGdN:CalF l.prog w K mg base 3 "goods_text" ["goods","stand"] (bP' K CG CW CS):=calF f17 (λ_ _ F=>ee_ F cCSN) (λ_ _ _ _ _ _ us hl=>match us,hl with | [_,_],_=>rfl);have cFig:Cal l.prog w K mg base 1 "is_figures" ["word"] spFigs:=cal f18 (λ_ _ F=>kU_ F B (b_4 X G c12)) (λ_ _ _ _ _ _ us hl=>match us,hl with | [_],_=>rfl);have cTW:Cal l.prog w K mg base 2 "is_tie_word" ["word"] db':=cal f19 (λ_ _ F=>gI_ F B cName) (λ_ _ _ _ _ _ us hl=>match us,hl with | [_],_=>rfl);have cWW:Cal l.prog w K mg base 3 "is_ways_word" ["word"] cz':=cal f20 (λ_ _ F=>fV_ F B cTW) (λ_ _ _ _ _ _ us hl=>match us,hl with | [_],_=>rfl);have cWI:Cal l.prog w K mg base 1 "ways_in" ["word"] cS':=cal f21 (λ_ _ F=>i3_ F B) (λ_ _ _ _ _ _ us hl=>match us,hl with | [_],_=>rfl);have cRow:Cal l.prog w K mg base 4 "is_row_of_goods" ["words"] (dV' K):=cal f22 (λ_ _ F=>iN_ F B cFig cWW) (λ_ _ _ _ _ _ us hl=>match us,hl with | [_],_=>rfl);have cWO:Cal l.prog w K mg base 1 "words_of_rows" ["text"] cu':=cal f23 (λ_ _ F=>gG_ F B) (λ_ _ _ _ _ _ us hl=>match us,hl with | [_],_=>rfl);have cWbI:Cal l.prog w K mg base 7 "web_in" ["rows"] (dF' K CW):=cal f24 (λ_ _ F=>iJ_ F B cWeb) (λ_ _ _ _ _ _ us hl=>match us,hl with | [_],_=>rfl);have cGdI:Cal l.prog w K mg base 9 "goods_in" ["rows"] (co' K CG CW):=cal f25 (λ_ _ F=>e7_ F B cWbI cWI cGoods) (λ_ _ _ _ _ _ us hl=>match us,hl with | [_],_=>rfl);have cAg:Cal l.prog w K mg base 5 "text_again" ["goods","stand"] (bl' K CG CW):=cal f26 (λ_ _ F=>gr_ F cGdT) (λ_ _ _ _ _ _ us hl=>match us,hl with | [_,_],_=>rfl);have cRG:Cal l.prog w K mg base 10 "read_goods" ["text"] (bW' K CG CW):=cal f27 (λ_ _ F=>d3_ F B cWO cRow cGdI cAg) (λ_ _ _ _ _ _ us hl=>match us,hl with | [_],_=>rfl);have cWbIT:CalG l.prog w K mg base 7 "web_in" ["rows"] (b6' K CT):=calG f24 (λ_ _ F=>ig_ F B RN RT xmN cWebK) (λ_ _ _ _ _ _ us hl=>match us,hl with | [_],_=>rfl);have cGdIG:CalG l.prog w K mg base 9 "goods_in" ["rows"] (dz' K CG CW CT):=calG f25 (λ_ _ F=>FnOk.two (e7_ F B cWbI cWI cGoods).up (FnOk.two (sp:=λvs H Q E=>b6' K CT vs H Q E∨cA' K CT vs H Q E) (fZ_ F cWbIT) (fC_ F B RO RT xmO cWbI cWI cGoodsK) λ_ _ _ _ z=>z) λ_ _ _ _ z=>z) (λ_ _ _ _ _ _ us hl=>match us,hl with | [_],_=>rfl);have cAgG:CalG l.prog w K mg base 5 "text_again" ["goods","stand"] (eD' K CG CW CT):=calG f26 (λ_ _ F=>FnOk.two (gr_ F cGdT).up (iz_ F RS RT xmS cGdN) λ_ _ _ _ z=>z) (λ_ _ _ _ _ _ us hl=>match us,hl with | [_,_],_=>rfl);have cWN:CalG l.prog w K mg base 1 "words_of_rows" ["text"] (bF' K CT):=calG f23 (λ_ _ F=>hL_ F B RT) (λ_ _ _ _ _ _ us hl=>match us,hl with | [_],_=>rfl);have cRGG:CalG l.prog w K mg base 10 "read_goods" ["text"] (cK' K CG CW CT):=calG f27 (λ_ _ F=>FnOk.two (d3_ F B cWO cRow cGdI cAg).up (ez_ F B RT cWO cRow cGdIG cAgG) λ_ _ _ _ z=>z) (λ_ _ _ _ _ _ us hl=>match us,hl with | [_],_=>rfl);have cRGN:CalG l.prog w K mg base 10 "read_goods" ["text"] (bF' K CT):=calG f27 (λ_ _ F=>eE_ F cWN) (λ_ _ _ _ _ _ us hl=>match us,hl with | [_],_=>rfl);have cRWG:CalG l.prog w K mg base 11 "read_web" ["text"] (cF' K CG CW CT):=calG f28 (λ_ _ F=>FnOk.two (h0_ F T cRG gNames).up (FnOk.two (sp:=λvs H Q E=>cC' CT vs H Q E∨bF' K CT vs H Q E) (g0_ F T RT cRGG gNames) (fN_ F cRGN) λ_ _ _ _ z=>z) λ_ _ _ _ z=>z) (λ_ _ _ _ _ _ us hl=>match us,hl with | [_],_=>rfl);have cCell:Cal l.prog w K mg base 1 "_law_cell_at" ["_law_script","_law_k"] (spCell K):=cal f29 (λ_ _ F=>kc_ F B) (λ_ _ _ _ _ _ us hl=>match us,hl with | [_,_],_=>rfl);have cDig:Cal l.prog w K mg base 1 "_law_digit" ["_law_state","_law_base"] c5':=cal f30 (λ_ _ F=>j4_ F B) (λ_ _ _ _ _ _ us hl=>match us,hl with | [_,_],_=>rfl);have cNms:Cal l.prog w K mg base 2 "_law_names" ["_law_state","_law_many"] ev':=cal f31 (λ_ _ F=>iT_ F B cDig) (λ_ _ _ _ _ _ us hl=>match us,hl with | [_,_],_=>rfl);have cLW:Cal l.prog w K mg base 3 "_law_web" ["_law_state","_law_most"] (spLWeb K):=cal f32 (λ_ _ F=>ke_ F B cDig cNms) (λ_ _ _ _ _ _ us hl=>match us,hl with | [_,_],_=>rfl);have cLWR:Cal l.prog w K mg base 1 "_law_web_rows" ["_law_hands","_law_ties"] (b5' K):=cal f33 (λ_ _ F=>fG_ F B) (λ_ _ _ _ _ _ us hl=>match us,hl with | [_,_],_=>rfl);have cRf:Cal l.prog w K mg base 12 "_law_refused" ["_law_text"] (cZ' K):=cal f34 (λ_ _ F=>gX_ F B (b_6 X G z15) (b_6 X G z12) RR cRWG) (λ_ _ _ _ _ _ us hl=>match us,hl with | [_],_=>rfl);have cIN:Cal l.prog w K mg base 1 "_law_is_name" ["_law_word"] dO':=cal f35 (λ_ _ F=>iB_ F B) (λ_ _ _ _ _ _ us hl=>match us,hl with | [_],_=>rfl);have cIS:Cal l.prog w K mg base 1 "_law_is_strength" ["_law_word"] et':=cal f36 (λ_ _ F=>jo_ F B) (λ_ _ _ _ _ _ us hl=>match us,hl with | [_],_=>rfl);have cGood:Cal l.prog w K mg base 2 "_law_good" ["_law_rows"] spGood:=cal f37 (λ_ _ F=>k7_ F B cIN cIS) (λ_ _ _ _ _ _ us hl=>match us,hl with | [_],_=>rfl);have cSpo:Cal l.prog w K mg base 2 "_law_spoiled" ["_law_state","_law_rows"] cV':=cal f38 (λ_ _ F=>gE_ F B cDig) (λ_ _ _ _ _ _ us hl=>match us,hl with | [_,_],_=>rfl);exact lt_ FL B (b_6 X G z14) cCell cLW cLWR cRf cGood cSpo
theorem walk{q:Ad}{loose:List Str}{XP:(Str->Option Aa)->Heap->Prop}{YP:Af->Heap->Prop}{d:DefRec}{K:Params->F__}(hn:l.most=some 63)(hdf:d.params.defaults=[])(hY:∀(w:Af) (h:Heap),YP w h->(K w.params).In h)(F:∀(w:Af) (mg:Str->Option Aa) (fa:Addr) (h:Heap),(K w.params).In h->h.Ns mainGlobals mg->mg d.name=some (.ref fa)->
   ∃fd:Ae,(∀(s:Ab) (u:Aa),BindsTo s fd ⟨[u],[]⟩ [("_law_script",u)])/\∀base:Heap,(K w.params).In base->base.Ns mainGlobals mg->FnOk l.prog w (K w.params) mg base CX0 13 fa fd ["_law_script"] (spLaw (K w.params))) :
  PySem.W.WalkO q loose XP YP l.row.toRowW d [] (λf vs=>PySem.call f vs):=
 L2.walk_of (n:=63) (k:=13) (x:="_law_script") (CX:=λ_=>CX0) (sp:=λw=>spLaw (K w.params)) hn (by decide) hdf ⟨rfl,by decide,by decide⟩ hY F (λ_ _ a ns hl _ hS=>⟨a,ns,rfl,hS,hl,λ_=>rfl⟩) λ_ _ _ _ _ z=>z
end Ev
namespace PySem.W.Fast
def tw7880496613242504226:=()
def tw1065124356779962083:=()
def tw4376960916626266628:=()
def tw12605355404815834884:=()
def tw14276360573167913542:=()
def tw9682906669558209415:=()
def tw9071138307938189255:=()
def tw8813430288581744425:=()
def tw3650206845450368938:=()
def tw15924778050528443787:=()
def tw18110730302401813260:=()
def tw4827094121951844365:=()
def tw6470689130340605485:=()
def tw3407338569421320494:=()
def tw16357079284181434350:=()
def tw17262541010163318800:=()
def tw17136411073005229968:=()
def tw4398557258321856882:=()
def tw9721397726330764915:=()
def tw14973430090582950548:=()
def tw2825061784575177269:=()
def tw15294206352388765398:=()
def tw3810744516089821911:=()
def tw15014754074361920407:=()
def tw660996818661547672:=()
def tw8538382050007518233:=()
def tw8913233027536688249:=()
def tw701364653600001978:=()
def tw12619796205444930812:=()
def tw16605434797975101566:=()
def tw13535833986844807582:=()
def tw966401737380187935:=()
def tw16445728817914856415:=()
def tw18256670177815777318:=()
def tw11922057551881731631:=()
def tw355600784564017488:=()
def tw17029281575687959639:=()
def tw14049336117252606154:=()
def tw18323757726531270222:=()
def tw14560779663472940809:=()
def tw14139090427689817501:=()
def tw6331405579986263414:=()
def tw8601241260022556421:=()
def tw10212259639747854655:=()
def tw7763252931096163514:=()
def tw11574838279304609712:=()
def tw3871745865110497642:=()
def tw17494893775631646806:=()
def tw10629965591289395230:=()
def tw12168468958246167360:=()
def tw13254335669148726431:=()
def tw16524364363830965192:=()
def tw14726218065259761630:=()
def tw16945123901977808676:=()
def tw2717940308406856215:=()
def tw10992715971843794226:=()
def tw11956323783048290314:=()
def tw4243991636724443672:=()
def tw7674228779602356160:=()
def tw15411348512682336495:=()
def tw8848732085868177382:=()
def tw2723330719408642926:=()
def tw9300783661655886617:=()
def tw355612250835053508:=()
def tw12405421069683523690:=()
def tw16759136848840669421:=()
def tw10979682069292540063:=()
def tw7734723190110923269:=()
def tw14602396847577248166:=()
def tw12716836094309922728:=()
def tw1885910757383940475:=()
def tw6114102436669309873:=()
def tw11907925535754427488:=()
def tw7870569572416724624:=()
def tw2943991836035230011:=()
def tw4645075817106738734:=()
def tw6748973550513589983:=()
def tw6418165114954620197:=()
def tw11081458856019992478:=()
def tw1082392326109613921:=()
def tw5761699512312336590:=()
def tw4956468139990104467:=()
def tw5649697137328739707:=()
def tw7866704820767338791:=()
def tw11911719668074913676:=()
def tw16927691045681525402:=()
def tw5000678697282225668:=()
def tw9198964406091196599:=()
def tw13939062228072967232:=()
def tw16722818516294833740:=()
def tw16189821444151865352:=()
def tw10348921301275548080:=()
def tw11879625529381730079:=()
def tw7485311532790738943:=()
def tw3437411444576473505:=()
def tw15738056505627437436:=()
def tw16588464247615598335:=()
def tw2272086032362863169:=()
def tw6445419644192565842:=()
def tw17838574871710740533:=()
def tw11767564740445540759:=()
def tw6511662880880139033:=()
def tw11797450199615640779:=()
def tw7094578426785695265:=()
def tw12751866857909637030:=()
def tw5954118610683670278:=()
def tw8055987810357355332:=()
def tw2719037182318216704:=()
def tw654219720164708324:=()
def tw10513125461738587070:=()
def tw15304734430094005213:=()
def tw10785570116499169887:=()
def tw15036843892513321426:=()
def tw6854341881404380608:=()
def tw4616171565776643251:=()
def tw4500244109130167861:=()
def tw3462162499449824127:=()
def tw4540906404321773151:=()
def tw3837655394115219388:=()
def tw2068877145217891388:=()
def tw12054216485357759277:=()
def tw16456106012668863595:=()
def tw13140421274753466507:=()
def tw2471523794288914513:=()
def tw2131681244750650318:=()
def tw3307322393624881370:=()
def tw11679357559275877516:=()
def tw1623314560741415640:=()
def tw10769622120115369117:=()
def tw16577831604277728496:=()
def tw6227689465238182689:=()
def tw16027653892669824418:=()
def tw5138936064661169781:=()
def tw18444762533469379646:=()
def tw2648356593844967666:=()
def tw13848159779379716378:=()
def tw314440664425055934:=()
def tw2630260013402755216:=()
def tw10398085480383946527:=()
def tw10545287888233612320:=()
def tw11737308245084932004:=()
def tw17060501168053260851:=()
def tw13414791292228679678:=()
def tw107411188550585402:=()
def tw14048696252908717653:=()
def tw4147036967549933499:=()
def tw12665550155353852460:=()
def tw12820231707064675381:=()
def tw7429231565763722282:=()
def tw4630068220622795626:=()
def tw5542173933099197544:=()
def tw2237056093981621685:=()
def tw838856170508854336:=()
def tw17993603517629626314:=()
def tw4198886273558782355:=()
def tw14907921391534404000:=()
def tw11193328697880686140:=()
def tw8401755108570242838:=()
def tw12430740959980581410:=()
def tw4886170426063210696:=()
end PySem.W.Fast
open PySem PySem.W PyProof.Rows
set_option maxRecDepth 100000 in
theorem PySem.Challenge.cw_evenpieces_k72_texts_of_no_web_holds : PySem.Challenge.rw_evenpieces_k72_texts_of_no_web.Holds := by
 w_on;o_law;k_head;(case hw=>w_witness2)
 k_fill
 refine Ev.walk (l:=PySem.Challenge.rw_evenpieces_k72_texts_of_no_web) rfl rfl (fun w h Y=>PySem.W.kIn_of Y) ?F
 case F=>
  intro w mg fa h KX G hmg;refine' Ev.all_mk KX G hmg (Ev.fd_mk KX G ?f0a ?f0l ?f0c ?f0k) (Ev.fd_mk KX G ?f1a ?f1l ?f1c ?f1k) (Ev.fd_mk KX G ?f2a ?f2l ?f2c ?f2k) (Ev.fd_mk KX G ?f3a ?f3l ?f3c ?f3k) (Ev.fd_mk KX G ?f4a ?f4l ?f4c ?f4k) (Ev.fd_mk KX G ?f5a ?f5l ?f5c ?f5k) (Ev.fd_mk KX G ?f6a ?f6l ?f6c ?f6k) (Ev.fd_mk KX G ?f7a ?f7l ?f7c ?f7k) (Ev.fd_mk KX G ?f8a ?f8l ?f8c ?f8k) (Ev.fd_mk KX G ?f9a ?f9l ?f9c ?f9k) (Ev.fd_mk KX G ?f10a ?f10l ?f10c ?f10k) (Ev.fd_mk KX G ?f11a ?f11l ?f11c ?f11k) (Ev.fd_mk KX G ?f12a ?f12l ?f12c ?f12k) (Ev.fd_mk KX G ?f13a ?f13l ?f13c ?f13k) (Ev.fd_mk KX G ?f14a ?f14l ?f14c ?f14k) (Ev.fd_mk KX G ?f15a ?f15l ?f15c ?f15k) (Ev.fd_mk KX G ?f16a ?f16l ?f16c ?f16k) (Ev.fd_mk KX G ?f17a ?f17l ?f17c ?f17k) (Ev.fd_mk KX G ?f18a ?f18l ?f18c ?f18k) (Ev.fd_mk KX G ?f19a ?f19l ?f19c ?f19k) (Ev.fd_mk KX G ?f20a ?f20l ?f20c ?f20k) (Ev.fd_mk KX G ?f21a ?f21l ?f21c ?f21k) (Ev.fd_mk KX G ?f22a ?f22l ?f22c ?f22k) (Ev.fd_mk KX G ?f23a ?f23l ?f23c ?f23k) (Ev.fd_mk KX G ?f24a ?f24l ?f24c ?f24k) (Ev.fd_mk KX G ?f25a ?f25l ?f25c ?f25k) (Ev.fd_mk KX G ?f26a ?f26l ?f26c ?f26k) (Ev.fd_mk KX G ?f27a ?f27l ?f27c ?f27k) (Ev.fd_mk KX G ?f28a ?f28l ?f28c ?f28k) (Ev.fd_mk KX G ?f29a ?f29l ?f29c ?f29k) (Ev.fd_mk KX G ?f30a ?f30l ?f30c ?f30k) (Ev.fd_mk KX G ?f31a ?f31l ?f31c ?f31k) (Ev.fd_mk KX G ?f32a ?f32l ?f32c ?f32k) (Ev.fd_mk KX G ?f33a ?f33l ?f33c ?f33k) (Ev.fd_mk KX G ?f34a ?f34l ?f34c ?f34k) (Ev.fd_mk KX G ?f35a ?f35l ?f35c ?f35k) (Ev.fd_mk KX G ?f36a ?f36l ?f36c ?f36k) (Ev.fd_mk KX G ?f37a ?f37l ?f37c ?f37k) (Ev.fd_mk KX G ?f38a ?f38l ?f38c ?f38k) (Ev.md_mk ?m0a ?m0i ?m0l ?m0c ?m0k) (Ev.md_mk ?m1a ?m1i ?m1l ?m1c ?m1k) (Ev.md_mk ?m2a ?m2i ?m2l ?m2c ?m2k) (Ev.md_mk ?m3a ?m3i ?m3l ?m3c ?m3k) (Ev.md_mk ?m4a ?m4i ?m4l ?m4c ?m4k) (Ev.md_mk ?m5a ?m5i ?m5l ?m5c ?m5k) (Ev.md_mk ?m6a ?m6i ?m6l ?m6c ?m6k) (Ev.md_mk ?m7a ?m7i ?m7l ?m7c ?m7k) (Ev.md_mk ?m8a ?m8i ?m8l ?m8c ?m8k) (Ev.md_mk ?m9a ?m9i ?m9l ?m9c ?m9k) (Ev.md_mk ?m10a ?m10i ?m10l ?m10c ?m10k) ?al ?ll ?cl ?kl ?aW ?aG ?eP ?eS ?eT ?eN ?eO ?eH ?eE ?xP ?xS ?xT ?xN ?xO ?c8 ?c9 ?c10 ?c11 ?c12 ?wpg ?whd ?wpo ?wsa ?wmk ?wkc ?nS ?nP ?nN ?wiha ?wimo ?gpg ?ghd ?gpo ?gsa ?gmk ?gkc ?nW ?nG ?nY ?giha ?gimo ?ihn ?itk ?ra ?xmN ?xmS ?xmO ?z0 ?z1 ?z2 ?z3 ?z4 ?z5 ?z6 ?z7 ?z8 ?z9 ?z10 ?z11 ?z12 ?z13 ?z14 ?z15
  (case aW=>k_is);(case aG=>k_is);(case eP=>k_is);(case eS=>k_is);(case eT=>k_is);(case eN=>k_is);(case eO=>k_is);(case eH=>k_is);(case eE=>k_is)
  (case f0a=>k_is);(case f0l=>k_is);(case f0c=>k_is);(case f0k=>k_is)
  (case f1a=>k_is);(case f1l=>k_is);(case f1c=>k_is);(case f1k=>k_is)
  (case f2a=>k_is);(case f2l=>k_is);(case f2c=>k_is);(case f2k=>k_is)
  (case f3a=>k_is);(case f3l=>k_is);(case f3c=>k_is);(case f3k=>k_is)
  (case f4a=>k_is);(case f4l=>k_is);(case f4c=>k_is);(case f4k=>k_is)
  (case f5a=>k_is);(case f5l=>k_is);(case f5c=>k_is);(case f5k=>k_is)
  (case f6a=>k_is);(case f6l=>k_is);(case f6c=>k_is);(case f6k=>k_is)
  (case f7a=>k_is);(case f7l=>k_is);(case f7c=>k_is);(case f7k=>k_is)
  (case f8a=>k_is);(case f8l=>k_is);(case f8c=>k_is);(case f8k=>k_is)
  (case f9a=>k_is);(case f9l=>k_is);(case f9c=>k_is);(case f9k=>k_is)
  (case f10a=>k_is);(case f10l=>k_is);(case f10c=>k_is);(case f10k=>k_is)
  (case f11a=>k_is);(case f11l=>k_is);(case f11c=>k_is);(case f11k=>k_is)
  (case f12a=>k_is);(case f12l=>k_is);(case f12c=>k_is);(case f12k=>k_is)
  (case f13a=>k_is);(case f13l=>k_is);(case f13c=>k_is);(case f13k=>k_is)
  (case f14a=>k_is);(case f14l=>k_is);(case f14c=>k_is);(case f14k=>k_is)
  (case f15a=>k_is);(case f15l=>k_is);(case f15c=>k_is);(case f15k=>k_is)
  (case f16a=>k_is);(case f16l=>k_is);(case f16c=>k_is);(case f16k=>k_is)
  (case f17a=>k_is);(case f17l=>k_is);(case f17c=>k_is);(case f17k=>k_is)
  (case f18a=>k_is);(case f18l=>k_is);(case f18c=>k_is);(case f18k=>k_is)
  (case f19a=>k_is);(case f19l=>k_is);(case f19c=>k_is);(case f19k=>k_is)
  (case f20a=>k_is);(case f20l=>k_is);(case f20c=>k_is);(case f20k=>k_is)
  (case f21a=>k_is);(case f21l=>k_is);(case f21c=>k_is);(case f21k=>k_is)
  (case f22a=>k_is);(case f22l=>k_is);(case f22c=>k_is);(case f22k=>k_is)
  (case f23a=>k_is);(case f23l=>k_is);(case f23c=>k_is);(case f23k=>k_is)
  (case f24a=>k_is);(case f24l=>k_is);(case f24c=>k_is);(case f24k=>k_is)
  (case f25a=>k_is);(case f25l=>k_is);(case f25c=>k_is);(case f25k=>k_is)
  (case f26a=>k_is);(case f26l=>k_is);(case f26c=>k_is);(case f26k=>k_is)
  (case f27a=>k_is);(case f27l=>k_is);(case f27c=>k_is);(case f27k=>k_is)
  (case f28a=>k_is);(case f28l=>k_is);(case f28c=>k_is);(case f28k=>k_is)
  (case f29a=>k_is);(case f29l=>k_is);(case f29c=>k_is);(case f29k=>k_is)
  (case f30a=>k_is);(case f30l=>k_is);(case f30c=>k_is);(case f30k=>k_is)
  (case f31a=>k_is);(case f31l=>k_is);(case f31c=>k_is);(case f31k=>k_is)
  (case f32a=>k_is);(case f32l=>k_is);(case f32c=>k_is);(case f32k=>k_is)
  (case f33a=>k_is);(case f33l=>k_is);(case f33c=>k_is);(case f33k=>k_is)
  (case f34a=>k_is);(case f34l=>k_is);(case f34c=>k_is);(case f34k=>k_is)
  (case f35a=>k_is);(case f35l=>k_is);(case f35c=>k_is);(case f35k=>k_is)
  (case f36a=>k_is);(case f36l=>k_is);(case f36c=>k_is);(case f36k=>k_is)
  (case f37a=>k_is);(case f37l=>k_is);(case f37c=>k_is);(case f37k=>k_is)
  (case f38a=>k_is);(case f38l=>k_is);(case f38c=>k_is);(case f38k=>k_is)
  (case m0a=>k_is);(case m0i=>k_is);(case m0l=>k_is);(case m0c=>k_is);(case m0k=>k_is)
  (case m1a=>k_is);(case m1i=>k_is);(case m1l=>k_is);(case m1c=>k_is);(case m1k=>k_is)
  (case m2a=>k_is);(case m2i=>k_is);(case m2l=>k_is);(case m2c=>k_is);(case m2k=>k_is)
  (case m3a=>k_is);(case m3i=>k_is);(case m3l=>k_is);(case m3c=>k_is);(case m3k=>k_is)
  (case m4a=>k_is);(case m4i=>k_is);(case m4l=>k_is);(case m4c=>k_is);(case m4k=>k_is)
  (case m5a=>k_is);(case m5i=>k_is);(case m5l=>k_is);(case m5c=>k_is);(case m5k=>k_is)
  (case m6a=>k_is);(case m6i=>k_is);(case m6l=>k_is);(case m6c=>k_is);(case m6k=>k_is)
  (case m7a=>k_is);(case m7i=>k_is);(case m7l=>k_is);(case m7c=>k_is);(case m7k=>k_is)
  (case m8a=>k_is);(case m8i=>k_is);(case m8l=>k_is);(case m8c=>k_is);(case m8k=>k_is)
  (case m9a=>k_is);(case m9i=>k_is);(case m9l=>k_is);(case m9c=>k_is);(case m9k=>k_is)
  (case m10a=>k_is);(case m10i=>k_is);(case m10l=>k_is);(case m10c=>k_is);(case m10k=>k_is)
  (case al=>k_is);(case ll=>k_is);(case cl=>k_is);(case kl=>k_is);(case xP=>k_exc);(case xS=>k_exc);(case xT=>k_exc);(case xN=>k_exc);(case xO=>k_exc);(case c8=>k_is);(case c9=>k_is);(case c10=>k_is);(case c11=>k_is);(case c12=>k_is);(case wpg=>k_is);(case whd=>k_is);(case wpo=>k_is);(case wsa=>k_is);(case wmk=>k_is);(case wkc=>k_is);(case nS=>k_is);(case nP=>k_is);(case nN=>k_is);(case wiha=>k_is);(case wimo=>k_is);(case gpg=>k_is);(case ghd=>k_is);(case gpo=>k_is);(case gsa=>k_is);(case gmk=>k_is);(case gkc=>k_is);(case nW=>k_is);(case nG=>k_is);(case nY=>k_is);(case giha=>k_is);(case gimo=>k_is);(case ihn=>k_is);(case itk=>k_is);(case ra=>kernel_rfl);(case xmN=>kernel_rfl);(case xmS=>kernel_rfl);(case xmO=>kernel_rfl);(case z0=>k_is);(case z1=>k_is);(case z2=>k_is);(case z3=>k_is);(case z4=>k_is);(case z5=>k_is);(case z6=>k_is);(case z7=>k_is);(case z8=>k_is);(case z9=>k_is);(case z10=>k_is);(case z11=>k_is);(case z12=>k_is);(case z13=>k_is);(case z14=>k_is);(case z15=>k_is)

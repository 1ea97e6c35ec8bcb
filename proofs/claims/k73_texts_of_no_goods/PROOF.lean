import PyProof.Rows.All
import Wide.All
import OpenK.AllK
import Wide.FinOn
import Lean
import PyProof.EqAt
import PyProof.EqKinds
import PyProof.TupleCall
import PyProof.FString
import PyProof.Rows.FStr
import KE.KIntText
import PyProof.FitsReplace
import KE.IntTextLaws
import PySem.Challenge.RW_evenpieces_k73_texts_of_no_goods
set_option maxHeartbeats 0
set_option Elab.async false
set_option linter.all false
abbrev Xa:=List (PySem.Str × Int)
abbrev Xb:=List (PySem.Str × PySem.Str)
set_option maxRecDepth 100000
theorem a__:type_of% @PySem.wpAny_bind:=@PySem.wpAny_bind
abbrev Aa:=PySem.Value
abbrev Ac:=PySem.Shared
theorem a_0:type_of% @PySem.Heap.get?_push_of_some:=@PySem.Heap.get?_push_of_some
theorem a_1:type_of% @PySem.Paired.length:=@PySem.Paired.length
theorem a_2:type_of% @PySem.wpAny_pure:=@PySem.wpAny_pure
theorem a_3:type_of% @PySem.strLen_append:=@PySem.strLen_append
theorem a_4:type_of% @decide_eq_false:=@decide_eq_false
theorem a_5:type_of% @decide_eq_true:=@decide_eq_true
abbrev Ae:=PySem.Program
theorem a_6:type_of% @PySem.Heap.lt_size:=@PySem.Heap.lt_size
abbrev Af:=PySem.FuncData
theorem a_7:type_of% @PySem.Heap.get?_push_size:=@PySem.Heap.get?_push_size
theorem a_8:type_of% @if_neg:=@if_neg
theorem a_9:type_of% @PySem.F.excBase_ValueError:=@PySem.F.excBase_ValueError
theorem b__:type_of% @PySem.sizeLine_eq:=@PySem.sizeLine_eq
theorem b_0:type_of% @if_pos:=@if_pos
theorem b_1:type_of% @PySem.F.plainAttrs_str:=@PySem.F.plainAttrs_str
theorem b_2:type_of% @Option.some.inj:=@Option.some.inj
theorem b_3:type_of% @PySem.boot_len:=@PySem.boot_len
theorem b_4:type_of% @PySem.W.mg_of:=@PySem.W.mg_of
theorem b_5:type_of% @PySem.Heap.get?_update_other:=@PySem.Heap.get?_update_other
abbrev Ag:=PySem.World
theorem b_6:type_of% @PySem.W.mg_none_of:=@PySem.W.mg_none_of
theorem b_7:type_of% @PySem.PassesOwn.never:=@PySem.PassesOwn.never
theorem b_8:type_of% @List.cons.inj:=@List.cons.inj
abbrev Ah:=PySem.Around
theorem b_9:type_of% @decide_eq_true_eq:=@decide_eq_true_eq
theorem c__:type_of% @PySem.F.type_str_join:=@PySem.F.type_str_join
theorem c_0:type_of% @PySem.F.slot_str_join:=@PySem.F.slot_str_join
theorem c_1:type_of% @congrArg:=@congrArg
theorem c_2:type_of% @PySem.F.slot_str_split:=@PySem.F.slot_str_split
theorem c_3:type_of% @of_decide_eq_true:=@of_decide_eq_true
theorem c_4:type_of% @PySem.wpAny_holding:=@PySem.wpAny_holding
theorem c_5:type_of% @PyProof.Rows.part_short:=@PyProof.Rows.part_short
theorem c_6:type_of% @PySem.Heap.get?_update_self:=@PySem.Heap.get?_update_self
abbrev Ai:=String
theorem c_7:type_of% @PySem.wpAny_mono:=@PySem.wpAny_mono
theorem c_8:type_of% @PySem.wpAny_loadPart':=@PySem.wpAny_loadPart'
theorem c_9:type_of% @PySem.Obj.isFreed_of_fields:=@PySem.Obj.isFreed_of_fields
theorem d__:type_of% @Sum.inr.inj:=@Sum.inr.inj
theorem d_0:type_of% @PySem.F.plainAttrs_list:=@PySem.F.plainAttrs_list
theorem d_1:type_of% @PySem.wpAny_truthy_bool:=@PySem.wpAny_truthy_bool
theorem d_2:type_of% @PySem.wpAny_newObj_type:=@PySem.wpAny_newObj_type
theorem d_3:type_of% @PySem.wpAny_field:=@PySem.wpAny_field
theorem d_4:type_of% @PySem.Obj.data_mapFields:=@PySem.Obj.data_mapFields
theorem d_5:type_of% @PySem.F.type_list_append:=@PySem.F.type_list_append
theorem d_6:type_of% @PySem.F.slot_list_append:=@PySem.F.slot_list_append
theorem d_7:type_of% @PySem.mem_of_lookup:=@PySem.mem_of_lookup
theorem d_8:type_of% @PySem.W.kia_one:=@PySem.W.kia_one
theorem d_9:type_of% @PySem.Heap.FunFrames.of_keeps:=@PySem.Heap.FunFrames.of_keeps
theorem e__:type_of% @PySem.F.type_str_split:=@PySem.F.type_str_split
theorem e_0:type_of% @PySem.wpAny_setField:=@PySem.wpAny_setField
theorem e_1:type_of% @Classical.byContradiction:=@Classical.byContradiction
theorem e_2:type_of% @PySem.W.hideAll_get:=@PySem.W.hideAll_get
theorem Z0{p:Prop}[Decidable p](h:decide p=true:=by decide +kernel):p:=of_decide_eq_true h
theorem Z1{p:Prop}(h:p:=by omega):p:=h
theorem Z2{p:Prop}(h:p:=by simp):p:=h
abbrev F__:=PySem.W.Frag
theorem aa':type_of% @List.length_map:=@List.length_map
theorem ab':type_of% @List.getElem?_eq_some_iff:=@List.getElem?_eq_some_iff
theorem ac':type_of% @List.mem_map:=@List.mem_map
theorem ad':type_of% @List.mem_of_getElem?:=@List.mem_of_getElem?
theorem ae':type_of% @List.getElem?_eq_getElem:=@List.getElem?_eq_getElem
theorem af':type_of% @List.length_take:=@List.length_take
theorem ag':type_of% @List.map_append:=@List.map_append
theorem ah':type_of% @List.mem_cons:=@List.mem_cons
theorem ai':type_of% @List.mem_cons_of_mem:=@List.mem_cons_of_mem
theorem aj':type_of% @List.length_append:=@List.length_append
theorem ak':type_of% @Nat.le_refl:=@Nat.le_refl
theorem am':type_of% @List.mem_append:=@List.mem_append
theorem an':type_of% @List.take_length:=@List.take_length
theorem ao':type_of% @List.map_map:=@List.map_map
theorem ap':type_of% @List.size_toArray:=@List.size_toArray
theorem aq':type_of% @List.mem_cons_self:=@List.mem_cons_self
theorem ar':type_of% @Nat.lt_of_lt_of_le:=@Nat.lt_of_lt_of_le
theorem au':type_of% @List.map_cons:=@List.map_cons
theorem av':type_of% @Nat.ne_of_lt:=@Nat.ne_of_lt
theorem aw':type_of% @List.getElem?_map:=@List.getElem?_map
theorem ax':type_of% @Bool.false_ne_true:=@Bool.false_ne_true
theorem ay':type_of% @List.map_congr_left:=@List.map_congr_left
theorem az':type_of% @Bool.and_eq_true:=@Bool.and_eq_true
theorem aA':type_of% @List.length_cons:=@List.length_cons
theorem aB':type_of% @List.mem_filterMap:=@List.mem_filterMap
theorem aC':type_of% @Int.eq_ofNat_of_zero_le:=@Int.eq_ofNat_of_zero_le
theorem aD':type_of% @List.mem_append_right:=@List.mem_append_right
theorem aE':type_of% @Array.getElem?_eq_some_iff:=@Array.getElem?_eq_some_iff
theorem aF':type_of% @List.append_nil:=@List.append_nil
theorem aG':type_of% @List.getElem_of_mem:=@List.getElem_of_mem
theorem aH':type_of% @List.take_add_one:=@List.take_add_one
theorem aI':type_of% @List.take_of_length_le:=@List.take_of_length_le
theorem aJ':type_of% @Nat.zero_le:=@Nat.zero_le
theorem aK':type_of% @List.pairwise_map:=@List.pairwise_map
theorem aL':type_of% @List.filter_append:=@List.filter_append
theorem aM':type_of% @List.length_drop:=@List.length_drop
theorem aN':type_of% @List.mem_singleton:=@List.mem_singleton
theorem aO':type_of% @List.nodup_iff_pairwise_ne:=@List.nodup_iff_pairwise_ne
theorem aP':type_of% @Array.length_toList:=@Array.length_toList
theorem aQ':type_of% @List.all_eq_true:=@List.all_eq_true
theorem aR':type_of% @List.count_append:=@List.count_append
theorem aS':type_of% @Option.isSome_iff_exists:=@Option.isSome_iff_exists
theorem aT':type_of% @List.mem_filter:=@List.mem_filter
theorem aU':type_of% @List.cons_lt_cons_iff:=@List.cons_lt_cons_iff
theorem aV':type_of% @List.not_mem_nil:=@List.not_mem_nil
theorem aW':type_of% @List.getElem?_append_right:=@List.getElem?_append_right
theorem aX':type_of% @List.nodup_cons:=@List.nodup_cons
theorem aY':type_of% @List.lookup_cons:=@List.lookup_cons
theorem aZ':type_of% @List.getElem_mem:=@List.getElem_mem
theorem a0':type_of% @List.mem_nil_iff:=@List.mem_nil_iff
theorem a1':type_of% @Int.toNat_natCast:=@Int.toNat_natCast
theorem a2':type_of% @List.append_assoc:=@List.append_assoc
theorem a3':type_of% @List.length_replicate:=@List.length_replicate
theorem a4':type_of% @List.pairwise_cons:=@List.pairwise_cons
theorem a5':type_of% @List.nil_append:=@List.nil_append
theorem a6':type_of% @Nat.lt_irrefl:=@Nat.lt_irrefl
theorem a7':type_of% @Nat.le_trans:=@Nat.le_trans
theorem a8':type_of% @Nat.ne_of_gt:=@Nat.ne_of_gt
namespace L2
open PySem PySem.Spec PyProof.Rows
abbrev Key:=Sum Int Str
def dY':Key->Aa->Bool
 |.inl k,v=>Value.isInt k v
 |.inr x,v=>Value.isStrOf x v
def keyH(w:Ag):Key->Int
 |.inl k=>hashInt k
 |.inr x=>hashStr w x
theorem aS_:∀{k:Key} {v:Aa},dY' k v=true->(∃i t,k=Sum.inl i/\v=Value.int i t)∨(∃x t,k=Sum.inr x/\v=Value.str x t)
 |.inl i,v,h=>by
  obtain⟨t,e⟩:=Value.isInt_shape (k:=i) (v:=v) h;exact .inl ⟨i,t,rfl,e⟩
 |.inr x,v,h=>by
  obtain⟨t,e⟩:=Value.isStrOf_shape (x:=x) (v:=v) h;exact .inr ⟨x,t,rfl,e⟩
theorem ib_(i:Int)(t:Tok):dY' (.inl i) (.int i t)=true:=by simp[dY',Value.isInt]
theorem hT_(x:Str)(t:Tok):dY' (.inr x) (.str x t)=true:=by simp[dY',Value.isStrOf]
theorem lC_(a b:Int):decide ((Sum.inl a:Key)=Sum.inl b)=(a == b):=by
 by_cases e:a=b
 ·subst e;simp
 ·have h:¬(Sum.inl a:Key)=Sum.inl b:=λq=>e (Sum.inl.inj q);rw[a_4 h];exact (beq_eq_false_iff_ne.mpr e).symm
theorem lL_(a b:Str):decide ((Sum.inr a:Key)=Sum.inr b)=decide (a=b):=by
 by_cases e:a=b
 ·subst e;simp
 ·have h:¬(Sum.inr a:Key)=Sum.inr b:=λq=>e (d__ q);rw[a_4 h,a_4 e]
theorem m5_(a:Int)(b:Str):decide ((Sum.inl a:Key)=Sum.inr b)=false:=a_4 (λq=>nomatch q)
theorem lA_(a:Str)(b:Int):decide ((Sum.inr a:Key)=Sum.inl b)=false:=a_4 (λq=>nomatch q)
def bi'(prog:Ae)(w:Ag):PySem.KeyKind prog w Key where
 is:=dY'
 hash:=keyH w
 inj:=λv a b ha hb=>by
  rcases aS_ ha with⟨i,t,rfl,rfl⟩|⟨x,t,rfl,rfl⟩
  ·rcases aS_ hb with⟨j,u,rfl,e⟩|⟨y,u,rfl,e⟩
   ·injection e with e1 _;rw[e1]
   ·exact nomatch e
  ·rcases aS_ hb with⟨j,u,rfl,e⟩|⟨y,u,rfl,e⟩
   ·exact nomatch e
   ·injection e with e1 _;rw[e1]
 byValue:=λk v h=>by
  rcases aS_ h with⟨i,t,rfl,rfl⟩|⟨x,t,rfl,rfl⟩<;>rfl
 pyHash:=λhv h=>by
  rcases aS_ hv with⟨i,t,rfl,rfl⟩|⟨x,t,rfl,rfl⟩
  ·exact wpAny_pyHash_int h
  ·exact wpAny_pyHash_str h
 eqBool:=λhu hv h=>by
  rcases aS_ hu with⟨i,t,rfl,rfl⟩|⟨x,t,rfl,rfl⟩
  ·rcases aS_ hv with⟨j,u,rfl,rfl⟩|⟨y,u,rfl,rfl⟩
   ·rw[lC_] at h;exact wpAny_eqBool_int h
   ·rw[m5_] at h;exact SeqAt.EqAt.int_str i t y u _ _ _ _ h
  ·rcases aS_ hv with⟨j,u,rfl,rfl⟩|⟨y,u,rfl,rfl⟩
   ·rw[lA_] at h;exact SeqAt.EqAt.str_int x t j u _ _ _ _ h
   ·rw[lL_] at h;exact wpAny_eqBool_str h
 «strs»:=λk x t v h=>by
  rcases aS_ h with⟨i,u,rfl,e⟩|⟨y,u,rfl,e⟩
  ·exact nomatch e
  ·injection e with e1 _
   subst e1;cases v<;>rfl
theorem fO_(prog:Ae)(w:Ag)(i:Int)(t:Tok):(bi' prog w).is (.inl i) (.int i t)=true:=ib_ i t
theorem g7_(prog:Ae)(w:Ag)(x:Str)(t:Tok):(bi' prog w).is (.inr x) (.str x t)=true:=hT_ x t
inductive V where
 |non|bl (b:Bool)|int (i:Int)|str (x:Str)|byt (b:Array UInt8)|flt (b:UInt64)|ref (a:Addr)|ty (n:Ai)
 deriving DecidableEq
def RelV:V->Aa->Prop
 |.non,u=>u=Value.none
 |.bl b,u=>u=Value.bool b
 |.int i,u=>∃t,u=Value.int i t
 |.str x,u=>∃t,u=Value.str x t
 |.byt b,u=>∃t,u=Value.bytes b t
 |.flt b,u=>∃t,u=Value.float b t
 |.ref a,u=>u=Value.ref a
 |.ty n,u=>u=Value.type n
abbrev Vals:List V->List Aa->Prop:=Paired RelV
theorem Vals.length{xs:List V}{us:List Aa}(r:Vals xs us):xs.length=us.length:=a_1 r
theorem Vals.get:∀{xs:List V} {us:List Aa} {i:Nat} {x:V},Vals xs us->xs[i]? = some x->∃u,us[i]? = some u/\RelV x u
 |_,_,_,_,.nil,e=>by simp at e
 |_,_,0,_,.cons r _,e=>by simp at e;subst e;exact⟨_,rfl,r⟩
 |_,_,i+1,x,.cons _ t,e=>by
  obtain⟨u,h1,h2⟩:=Vals.get (i:=i) (x:=x) t (by simpa using e);exact⟨u,by simpa using h1,h2⟩
theorem Vals.set{x:V}{u:Aa}(r:RelV x u):∀{xs:List V} {us:List Aa} (i:Nat),Vals xs us->Vals (xs.set i x) (us.set i u)
 |_,_,_,.nil=>.nil
 |_,_,0,.cons _ t=>.cons r t
 |_,_,i+1,.cons q t=>.cons q (Vals.set r i t)
theorem Vals.append:∀{xs ys:List V} {us ws:List Aa},Vals xs us->Vals ys ws->Vals (xs++ys) (us++ws)
 |_,_,_,_,.nil,s=>s
 |_,_,_,_,.cons r t,s=>.cons r (Vals.append t s)
theorem Vals.take:∀{xs:List V} {us:List Aa} (n:Nat),Vals xs us->Vals (xs.take n) (us.take n)
 |_,_,0,_=>.nil
 |_,_,_+1,.nil=>.nil
 |_,_,n+1,.cons r t=>.cons r (Vals.take n t)
theorem Vals.drop:∀{xs:List V} {us:List Aa} (n:Nat),Vals xs us->Vals (xs.drop n) (us.drop n)
 |_,_,0,r=>r
 |_,_,_+1,.nil=>.nil
 |_,_,n+1,.cons _ t=>Vals.drop n t
def RelO:Option V->Option Aa->Prop
 |some v,some u=>RelV v u
 |none,none=>True
 |_,_=>False
def KV{κ:Type}:List (κ × V)->List (κ × Aa)->Prop:=Paired λ(p:κ × V) (q:κ × Aa)=>p.1=q.1/\RelV p.2 q.2
def kV:Key->V
 |.inl i=>.int i
 |.inr x=>.str x
inductive HO where
  |lst (xs:List V)
  |tup (xs:List V)
  |dK (kvs:List (Key × V))|dT (kvs:List (List Key × V))
  |set (S:Int->Bool) (n:Nat)
  |ins (C dx:Addr) (fs:List (Str × V))
  |own (x:Addr)
  |xd (fs:List (Str × V))
  |met (f x:Addr)
  |rng (lo hi:Int)
  |frz (o:Obj) (u:HO)
  |tbl (ps:Array Aa)
  |ext (φ:Heap->Prop)
abbrev Hp:=Addr->Option HO
def upd(H:Hp)(a:Addr)(o:HO):Hp:=λb=>if b=a then some o else H b
variable{a:Addr}
theorem a1_{H:Hp}{o:HO}:upd H a o a=some o:=by unfold upd;rw[b_0 rfl]
variable{b:Addr}
theorem a8_{H:Hp}{o:HO}(h:b≠a):upd H a o b=H b:=by unfold upd;rw[a_8 h]
theorem dC_{H:Hp}{o u:HO}:upd (upd H a o) a u=upd H a u:=by
 funext b;unfold upd;split<;>rfl
theorem be_{H:Hp}{o u:HO}(h:H a=some o)(h':H b=some u)(d:o≠u):a≠b:=by
 intro e;subst e;rw[h] at h';exact d (b_2 h')
theorem a6_{H:Hp}{o:HO}(h:H a=some o)(h':H b=none):a≠b:=by
 intro e;subst e;rw[h] at h';cases h'
section
variable(P:Ae)(w:Ag)
def bt'(H:Hp)(h:Heap)(a:Addr):HO->Prop
 |.lst xs=>xs.length<=sizeLine/\∃(its:List Aa) (n:Nat),Vals xs its/\h.get? a=some { cls:=.type "list",data:=.seq its.toArray n }
 |.tup xs=>xs.length<=sizeLine/\∃its:List Aa,Vals xs its/\IsTup h a its.toArray/\∃o,h.get? a=some o/\o.dict=none
 |.dK kvs=>kvs.length<=sizeLine/\(a == sysModules)=false/\∃vs,KV kvs vs/\h.DictOf (bi' P w) a vs
 |.dT kvs=>kvs.length<=sizeLine/\(a == sysModules)=false/\∃xs:List (List Key × Addr × Aa),
   Paired (λ(p:List Key × V) (q:List Key × Addr × Aa)=>p.1=q.1/\H q.2.1=some (.tup (p.1.map kV))/\RelV p.2 q.2.2) kvs xs /\
   ∃o es ep,h.get? a=some o/\o.ExactDict/\o.data=.dict es ep/\es.toList=xs.map (entryOfKey (tupleKind (bi' P w)))/\(xs.map (·.1)).Nodup
 |.set S n=>h.SetOf (intKind P w) a S n
 |.ins C dx fs=>H dx=some (.own a)/\fs.length<=1000/\dx≠a/\h.get? a=some (PySem.W.instObj C dx) /\
   ∃mA,h.Ns1 dx mA/\(∀f,RelO (fs.lookup f) (mA f))/\PySem.Within mA (fs.map (·.1))
 |.own _=>∃o,h.get? a=some o
 |.xd fs=>∃mA,h.Ns1 a mA/\∀f,RelO (fs.lookup f) (mA f)
 |.rng lo hi=>∃t u v,h.get? a=some { cls:=.type "range",data:=.fields #[.int lo t,.int hi u,.int 1 v] }
 |.frz o u=>h.get? a=some o/\bt' H h a u
 |.tbl ps=>h.get? a=some { cls:=.none,data:=.fields ps }
 |.met f x=>h.get? a=some (PySem.W.methodObj (.ref f) (.ref x))
 |.ext φ=>φ h/\(∃o,h.get? a=some o)/\∀h1 h2:Heap,φ h1->(∀o,h1.get? a=some o->h2.get? a=some o)->φ h2
def HOk(H:Hp)(h:Heap):Prop:=∀a o,H a=some o->bt' P w H h a o
end
section
variable{P:Ae}{w:Ag}{H H':Hp}{h h':Heap}{a:Addr}{o:HO}
theorem bt'.lt(x:bt' P w H h a o):a<h.objs.size:=by
 cases o with
 |lst xs=>obtain⟨_,_,_,_,e⟩:=x;exact a_6 e
 |tup xs=>obtain⟨_,_,_,p,_⟩:=x;exact p.lt
 |dK kvs=>obtain⟨_,_,_,_,o,_,_,e,_⟩:=x;exact a_6 e
 |dT kvs=>obtain⟨_,_,_,_,o,_,_,e,_⟩:=x;exact a_6 e
 |set S n=>obtain⟨o,_,_,_,e,_⟩:=x;exact a_6 e
 |ins C dx fs=>obtain⟨_,_,_,e,_⟩:=x;exact a_6 e
 |own y=>obtain⟨_,e⟩:=x;exact a_6 e
 |xd fs=>obtain⟨_,⟨_,_,_,e,_⟩,_⟩:=x;exact a_6 e
 |rng lo hi=>obtain⟨_,_,_,e⟩:=x;exact a_6 e
 |frz ob u=>obtain⟨e,_⟩:=x;exact a_6 e
 |tbl ps=>exact a_6 (show h.get? a=some _ from x)
 |met f y=>exact a_6 (show h.get? a=some _ from x)
 |ext φ=>obtain⟨_,⟨_,e⟩,_⟩:=x;exact a_6 e
theorem Paired.mapP{α β:Type}{F G:α->β->Prop}:∀{l₁:List α} {l₂:List β},Paired F l₁ l₂->(∀a b,F a b->G a b)->Paired G l₁ l₂
 |_,_,.nil,_=>.nil
 |_,_,.cons r t,f=>.cons (f _ _ r) (Paired.mapP t f)
theorem bt'.stay(x:bt' P w H h a o)(k:∀b u,(b=a∨H b=some (.own a))->h.get? b=some u->h'.get? b=some u)
  (ho:∀b,H b=some (.own a)->H' b=some (.own a)) (ht:∀b xs,H b=some (.tup xs)->H' b=some (.tup xs)):bt' P w H' h' a o:=by
 induction o with
 |lst xs=>obtain⟨z,its,n,r,e⟩:=x;exact⟨z,its,n,r,k _ _ (.inl rfl) e⟩
 |tup xs=>obtain⟨z,its,r,⟨ob,e,c⟩,o2,e2,c2⟩:=x;exact⟨z,its,r,⟨ob,k _ _ (.inl rfl) e,c⟩,o2,k _ _ (.inl rfl) e2,c2⟩
 |dK kvs=>obtain⟨z,y,vs,r,ob,es,ep,e,c⟩:=x;exact⟨z,y,vs,r,ob,es,ep,k _ _ (.inl rfl) e,c⟩
 |dT kvs=>
  obtain⟨z,y,xs,r,ob,es,ep,e,c⟩:=x;exact⟨z,y,xs,Paired.mapP r λp q z=>⟨z.1,ht _ _ z.2.1,z.2.2⟩,ob,es,ep,k _ _ (.inl rfl) e,c⟩
 |set S n=>obtain⟨ob,es,ep,t,e,c⟩:=x;exact⟨ob,es,ep,t,k _ _ (.inl rfl) e,c⟩
 |ins C dx fs=>
  obtain⟨d,z,ne,e,mA,⟨od,es,ep,e2,c⟩,r⟩:=x;exact⟨ho _ d,z,ne,k _ _ (.inl rfl) e,mA,⟨od,es,ep,k _ _ (.inr d) e2,c⟩,r⟩
 |own y=>obtain⟨ob,e⟩:=x;exact⟨ob,k _ _ (.inl rfl) e⟩
 |xd fs=>obtain⟨mA,⟨od,es,ep,e,c⟩,r⟩:=x;exact⟨mA,⟨od,es,ep,k _ _ (.inl rfl) e,c⟩,r⟩
 |rng lo hi=>obtain⟨t,u,v,e⟩:=x;exact⟨t,u,v,k _ _ (.inl rfl) e⟩
 |frz ob u ih=>obtain⟨e,q⟩:=x;exact⟨k _ _ (.inl rfl) e,ih q⟩
 |tbl ps=>
  have e:h.get? a=some { cls:=.none,data:=.fields ps }:=x;show h'.get? a=some { cls:=.none,data:=.fields ps };exact k a _ (.inl rfl) e
 |met f y=>
  have e:h.get? a=some (PySem.W.methodObj (.ref f) (.ref y)):=x;show h'.get? a=some (PySem.W.methodObj (.ref f) (.ref y));exact k a _ (.inl rfl) e
 |ext φ=>obtain⟨p,⟨o,e⟩,st⟩:=x;exact⟨st _ _ p λo q=>k _ _ (.inl rfl) q,⟨o,k _ _ (.inl rfl) e⟩,st⟩
theorem HOk.lt(x:HOk P w H h)(e:H a=some o):a<h.objs.size:=(x a o e).lt
theorem HOk.fresh(x:HOk P w H h)(e:h.objs.size<=a):H a=none:=by
 cases q:H a with
 |none=>rfl
 |some u=>exact absurd (ar' (x.lt q) e) (a6' _)
theorem HOk.kept(x:HOk P w H h)(k:∀b u,h.get? b=some u->h'.get? b=some u):HOk P w H h':=λa o e=>
 (x a o e).stay (λb u _ q=>k b u q) (λ_ q=>q) λ_ _ q=>q
theorem HOk.laid(x:HOk P w H h)(k:∀b u,h.get? b=some u->h'.get? b=some u)(hp:h.objs.size<=a)(new:bt' P w (upd H a o) h' a o):HOk P w (upd H a o) h':=λb u e=>by
 have hn:=x.fresh hp;by_cases hb:b=a
 ·subst hb;rw[a1_] at e;cases e;exact new
 ·rw[a8_ hb] at e;exact (x b u e).stay (λc v _ q=>k c v q) (λc q=>by rw[a8_ (a6_ q hn)];exact q) λc xs q=>by rw[a8_ (a6_ q hn)];exact q
end
def Rd(H:Hp)(a:Addr)(u:HO):Prop:=H a=some u∨∃o,H a=some (.frz o u)
variable{P:Ae}{h:Heap}
theorem Rd.ok{w:Ag}{H:Hp}{u:HO}(r:Rd H a u)(x:HOk P w H h):bt' P w H h a u:=by
 rcases r with r|⟨o,r⟩
 ·exact x a u r
 ·obtain⟨_,q⟩:=x a _ r;exact q
def Mut:Option HO->Prop
 |some (.lst _)=>True
 |some (.dK _)=>True
 |some (.dT _)=>True
 |some (.set _ _)=>True
 |some (.ins _ _ _)=>True
 |some (.ext _)=>True
 |_=>False
section
variable{P:Ae}{w:Ag}{H:Hp}{h h':Heap}{x e:Addr}{o':HO}
theorem HOk.write(ok:HOk P w H h)(mu:Mut (H x))(he:e=x∨H e=some (.own x))(k:∀b u,b≠e->h.get? b=some u->h'.get? b=some u)(heo:∃u,h'.get? e=some u)
  (new:bt' P w (upd H x o') h' x o'):HOk P w (upd H x o') h':=λb u q=>by
 have nown:∀c y,H c=some (.own y)->c≠x:=λc y r z=>by subst z;rw[r] at mu;exact mu
 have ntup:∀c xs,H c=some (.tup xs)->c≠x:=λc xs r z=>by subst z;rw[r] at mu;exact mu
 by_cases hb:b=x
 ·subst hb;rw[a1_] at q;cases q;exact new
 ·rw[a8_ hb] at q;by_cases hbe:b=e
  ·have q':H b=some (.own x):=by
    rcases he with z|z
    ·exact absurd (hbe.trans z) hb
    ·rw[hbe];exact z
   rw[q] at q';cases q';obtain⟨v,hv⟩:=heo;exact⟨v,by rw[hbe];exact hv⟩
  ·refine (ok b u q).stay (λc v hc r=>k c v ?_ r) (λc r=>by rw[a8_ (nown c b r)];exact r) λc xs r=>by rw[a8_ (ntup c xs r)];exact r
   rcases hc with rfl|hc
   ·exact hbe
   ·rintro rfl;rcases he with z|z
    ·exact nown c b hc z
    ·rw[hc] at z;cases z;exact hb rfl
end
structure Un (fs ex:List Addr) (H H':Hp) (h h':Heap):Prop where
 keep:∀b o,h.get? b=some o->H b=none->b∉fs->b∉ex->h'.get? b=some o
 slot:∀b o,h.get? b=some o->H b=none->b∈fs->b∉ex->∃sl,h'.get? b=some { o with slots:=sl }
 free:∀b o,h.get? b=some o->H b=none->b∉ex->H' b=none
 there:∀b o,h.get? b=some o->b∉ex->∃o',h'.get? b=some o'
 tups:∀b xs,H b=some (.tup xs)->H' b=some (.tup xs)
 frzs:∀b o u,H b=some (.frz o u)->H' b=some (.frz o u)
 tbls:∀b ps,H b=some (.tbl ps)->∃more,H' b=some (.tbl (ps++more))
section
variable{fs fs' ex ex':List Addr}{H H1 H2:Hp}{h h1 h2 h':Heap}{a x e:Addr}{o:HO}
theorem Un.any(u:Un fs ex H H1 h h1){ob:Obj}(q:h.get? b=some ob)(n:H b=none)(hx:b∉ex):∃sl,h1.get? b=some { ob with slots:=sl }:=by
 by_cases hb:b∈fs
 ·exact u.slot b ob q n hb hx
 ·exact⟨ob.slots,u.keep b ob q n hb hx⟩
theorem Un.kept(k:∀b u,h.get? b=some u->h'.get? b=some u):Un fs ex H H h h':=
 ⟨λb ob q _ _ _=>k b ob q,λb ob q _ _ _=>⟨ob.slots,k b ob q⟩,λ_ _ _ n _=>n,λb ob q _=>⟨ob,k b ob q⟩,λ_ _ q=>q,λ_ _ _ q=>q,λ_ ps q=>⟨#[],by rw[q];simp⟩⟩
theorem Un.refl:Un fs ex H H h h:=Un.kept λ_ _ q=>q
theorem Un.laid(k:∀b u,h.get? b=some u->h'.get? b=some u)(hp:h.objs.size<=a)(hn:H a=none):Un fs ex H (upd H a o) h h' where
 keep:=λb u q _ _ _=>k b u q
 slot:=λb u q _ _ _=>⟨u.slots,k b u q⟩
 free:=λb u q n _=>by rw[a8_ (av' (ar' (a_6 q) hp))];exact n
 there:=λb u q _=>⟨u,k b u q⟩
 tups:=λb xs q=>by rw[a8_ (a6_ q hn)];exact q
 frzs:=λb u xs q=>by rw[a8_ (a6_ q hn)];exact q
 tbls:=λb ps q=>⟨#[],by rw[a8_ (a6_ q hn),q];simp⟩
theorem Un.write(mu:Mut (H x))(he:e=x∨H e=some (.own x))(k:∀b u,b≠e->h.get? b=some u->h'.get? b=some u)(heo:∃u,h'.get? e=some u):Un fs ex H (upd H x o) h h':=by
 have hx:∀b,H b=none->b≠x:=λb n z=>by subst z;rw[n] at mu;exact mu
 have hb:∀b,H b=none->b≠e:=λb n z=>by
  subst z;rcases he with r|r
  ·exact hx b n r
  ·rw[n] at r;cases r
 have hm:∀b u,H b=some u->¬Mut (some u)->b≠x:=λb u q nm z=>by subst z;rw[q] at mu;exact nm mu
 refine⟨λb u q n _ _=>k b u (hb b n) q,λb u q n _ _=>⟨u.slots,k b u (hb b n) q⟩,λb u q n _=>by rw[a8_ (hx b n)];exact n,λb u q _=>?_,
  λb xs q=>by rw[a8_ (hm b _ q λz=>z)];exact q,λb u xs q=>by rw[a8_ (hm b _ q λz=>z)];exact q,λb ps q=>⟨#[],by rw[a8_ (hm b _ q λz=>z),q];simp⟩⟩
 by_cases hbe:b=e
 ·subst hbe;exact heo
 ·exact⟨u,k b u hbe q⟩
end
def trk(h:Heap)(H:Hp):List Addr:=(List.range h.objs.size).filter λa=>(H a).isSome
def hidT(h:Heap)(H:Hp):Heap:=PySem.W.hideAll h (trk h H)
theorem ir_(h:Heap)(H:Hp):(hidT h H).objs.size=h.objs.size:=PySem.W.hideAll_size _ _
variable{o:Obj}
theorem k3_{H:Hp}(e:h.get? b=some o)(n:H b=none):(hidT h H).get? b=some o:=
 e_2 _ e λhm=>by
  have q:(H b).isSome=true:=(aT'.mp hm).2;rw[n] at q;simp at q
theorem kE_{H:Hp}(e:(hidT h H).get? b=some o):h.get? b=some o/\H b=none:=by
 have e':h.get? b=some o:=PySem.W.of_hideAll (trk h H) e;refine⟨e',?_⟩;cases q:H b with
 |none=>rfl
 |some x=>
  have hm:b∈trk h H:=aT'.mpr ⟨List.mem_range.mpr (a_6 e'),by simp[q]⟩;have z:(hidT h H).get? b=none:=PySem.W.hideAll_none (trk h H) hm;rw[z] at e;cases e
structure Mod (K:F__) (mg:Str->Option Aa) (base:Heap):Prop where
 kin:K.In base
 glob:base.Ns mainGlobals mg
 blt:∃mb,base.Ns builtinsNs mb/\∀x:Str,x≠"__name__"->mb x=bootBuiltins x
 nolimit:base.NoLimit
structure Cx where
 prog:Ae
 w:Ag
 K:F__
 mg:Str->Option Aa
 base:Heap
 A:Ah
 N:List Str
 s₀:Ac
 H₀:Hp
 env:Env
 outer:List Env
 stack:List Env
 ex:List Addr
 fn:Str->Bool
 calm:Bool
 pn:List (Addr × Obj)
 xe:Aa->Ac->Prop
def frs(l:List Env):List Addr:=l.filterMap (·.frame)
abbrev Cx.fs(X:Cx):List Addr:=frs X.outer
def Vis(sc:Scope)(x:Str):Prop:=sc.names.lookup x=some .local∨sc.names.lookup x=some .cell∨sc.names.lookup x=some .free
def Loc(sc:Scope)(x:Str):Prop:=sc.names.lookup x=some .local∨sc.names.lookup x=some .cell
def Look(env:Env)(h:Heap)(m:Str->Option Aa)(x:Str)(u:Aa):Prop:=
 (env.kindOf x=some .local/\m x=some u)∨((env.kindOf x=some .cell∨env.kindOf x=some .free)/\∃c,env.cells.lookup x=some c/\h.IsCell c (some u))
structure Cx.Ok (X:Cx):Prop where
 mod:Mod X.K X.mg X.base
 kind:X.env.scope.kind=.function
 glob:X.env.globals=mainGlobals
 blt:X.env.builtins=builtinsNs
 above:X.s₀.heap.objs.size<=X.env.locals
 inj:∀x y c,X.env.cells.lookup x=some c->X.env.cells.lookup y=some c->x=y
 has:∀x,(X.env.kindOf x=some .cell∨X.env.kindOf x=some .free)->∃c,X.env.cells.lookup x=some c
 cab:∀x c,X.fn x=true->X.env.cells.lookup x=some c->X.s₀.heap.objs.size<=c
 hd:X.calm=true->X.A.handled=none
 frames:X.A.frames=some X.stack
 stk:X.stack=X.outer∨(X.stack=X.env::X.outer/\X.env.frame=some X.env.locals)
 exf:∀b∈X.ex,b≠X.env.locals/\∀x c,X.env.cells.lookup x=some c->c≠b
 bs:∀b o,X.base.get? b=some o->X.s₀.heap.get? b=some o/\X.H₀ b=none
 bsz:X.base.objs.size<=X.s₀.heap.objs.size
 noex:∀b o,X.base.get? b=some o->b∉X.ex
 exfs:∀b∈X.ex,b∉X.fs
 funs:X.s₀.heap.FunFrames X.base X.outer
 frf:∀b∈X.fs,X.H₀ b=none
structure Inv (X:Cx) (pins:List (Addr × Obj)) (σ:List (Option V)) (H:Hp) (s:Ac):Prop where
 ok:X.Ok
 os:s.os=X.s₀.os
 bare:AllBare s.gens
 base:Un X.fs X.ex X.H₀ H X.s₀.heap s.heap
 loc:∃m,s.heap.Ns X.env.locals m/\∀(i:Nat) (x:Str) (v:V),X.N[i]? = some x->σ[i]? = some (some v)->Vis X.env.scope x->∃u,RelV v u/\Look X.env s.heap m x u
 cell:∀x c,X.env.cells.lookup x=some c->∃v,s.heap.IsCell c v
 free:H X.env.locals=none
 freeC:∀x c,X.env.cells.lookup x=some c->H c=none
 pin:∀p∈X.pn++pins,s.heap.get? p.1=some p.2/\H p.1=none/\p.1≠X.env.locals/\p.1∉X.fs/\∀v,p.2.data≠.cell v
 hok:HOk X.prog X.w H s.heap
 len:σ.length=X.N.length
variable{g':Array GenState}{t':Nat}{d':Drawn}{ch:List Addr}
variable{it:Addr}
variable{N:List Str}
variable{M:Model}
variable{s':Ac}
section
variable{X:Cx}{pins:List (Addr × Obj)}{σ:List (Option V)}{H H':Hp}{s:Ac}{h':Heap}
theorem Cx.Ok.nofr(ok:X.Ok)(e:X.base.get? b=some o):b∉X.fs:=λhb=>by
 have:=(ok.funs.mem hb).1;rw[e] at this;cases this
theorem Inv.bs(I:Inv X pins σ H s):∀b o,X.base.get? b=some o->s.heap.get? b=some o/\H b=none:=λb o e=>
 ⟨I.base.keep b o (I.ok.bs b o e).1 (I.ok.bs b o e).2 (I.ok.nofr e) (I.ok.noex b o e),I.base.free b o (I.ok.bs b o e).1 (I.ok.bs b o e).2 (I.ok.noex b o e)⟩
theorem Inv.bk(I:Inv X pins σ H s):∀b o,X.base.get? b=some o->s.heap.get? b=some o:=λb o e=>(I.bs b o e).1
theorem Inv.mod(I:Inv X pins σ H s):Mod X.K X.mg X.base:=I.ok.mod
theorem Inv.kIn(I:Inv X pins σ H s):X.K.In s.heap:=I.ok.mod.kin.keeps I.bk
theorem Inv.lt(I:Inv X pins σ H s):X.env.locals<s.heap.objs.size:=let ⟨_,hn,_⟩:=I.loc;hn.lt
theorem Inv.sz(I:Inv X pins σ H s):X.s₀.heap.objs.size<=s.heap.objs.size:=a7' I.ok.above (Nat.le_of_lt I.lt)
theorem Inv.nofs(I:Inv X pins σ H s)(h:s.heap.objs.size<=a):a∉X.fs:=λhb=>by
 obtain⟨_,o,ho,_⟩:=I.ok.funs.mem hb;exact absurd (ar' (a_6 ho) (a7' I.sz h)) (a6' _)
theorem Inv.cne(I:Inv X pins σ H s):∀x c,X.env.cells.lookup x=some c->c≠X.env.locals:=λx c e z=>by
 obtain⟨v,o,ho,hd⟩:=I.cell x c e;obtain⟨m,⟨o',es,ep,ho',hd',_⟩,_⟩:=I.loc;rw[z,ho'] at ho;cases ho;rw[hd'] at hd;cases hd
theorem Inv.funs(I:Inv X pins σ H s):s.heap.FunFrames X.base X.outer:=by
 have all:∀(l:List Env),(∀b∈frs l,b∈X.fs)->X.s₀.heap.FunFrames X.base l->s.heap.FunFrames X.base l:=by
  intro l
  induction l with
  |nil=>intro _ _;trivial
  |cons env r ih=>
   intro hs hl;obtain⟨hk,⟨L,o,hf,hn,ho,hd⟩,hr⟩:=hl;have hL:L∈X.fs:=hs L (by unfold frs;rw[List.filterMap_cons,hf];exact aq');obtain⟨sl,e⟩:=I.base.slot L o ho (I.ok.frf L hL) hL λz=>I.ok.exfs L z hL;exact⟨hk,⟨L,_,hf,hn,e,hd⟩,ih (λb hb=>hs b (by unfold frs;rw[List.filterMap_cons,hf];exact ai' _ hb)) hr⟩
 exact all X.outer (λ_ hb=>hb) I.ok.funs
theorem Inv.stack(I:Inv X pins σ H s):s.heap.FunFrames X.base X.stack:=by
 rcases I.ok.stk with e|⟨e,hf⟩
 ·rw[e];exact I.funs
 ·rw[e];obtain⟨m,hn,_⟩:=I.loc;refine .cons (by rw[I.ok.kind];decide) hf hn ?_ I.funs;exact Heap.get?_none_of_le (a7' I.ok.bsz I.ok.above)
theorem Inv.stkSub(I:Inv X pins σ H s):∀b∈frs X.stack,b∈X.env.locals::X.fs:=λb hb=>by
 rcases I.ok.stk with e|⟨e,hf⟩
 ·rw[e] at hb;exact ai' _ hb
 ·rw[e] at hb;unfold frs at hb;rw[List.filterMap_cons,hf] at hb;exact hb
theorem Inv.stkFree(I:Inv X pins σ H s):∀b∈frs X.stack,H b=none:=λb hb=>by
 rcases ah'.mp (I.stkSub b hb) with e|hb
 ·rw[e];exact I.free
 ·obtain⟨_,o,ho,_⟩:=I.ok.funs.mem hb;exact I.base.free b o ho (I.ok.frf b hb) λz=>I.ok.exfs b z hb
theorem Inv.step(I:Inv X pins σ H s)(hch:∀b∈ch,(b∈X.ex∨X.s₀.heap.objs.size<=b)/\b≠X.env.locals/\(∀x c,X.env.cells.lookup x=some c->c≠b)/\∀p∈X.pn++pins,p.1≠b)(keep:∀b o,b≠X.env.locals->b∉X.fs->b∉ch->s.heap.get? b=some o->H b=none->h'.get? b=some o)(slot:∀b o,b≠X.env.locals->b∈X.fs->b∉ch->s.heap.get? b=some o->H b=none->∃sl,h'.get? b=some { o with slots:=sl })(free:∀b o,b∉ch->s.heap.get? b=some o->H b=none->H' b=none)(there:∀b o,b∉ch->s.heap.get? b=some o->∃o',h'.get? b=some o')(tups:∀b xs,H b=some (.tup xs)->H' b=some (.tup xs))(frzs:∀b o u,H b=some (.frz o u)->H' b=some (.frz o u))(tbls:∀b ps,H b=some (.tbl ps)->∃more,H' b=some (.tbl (ps++more)))(ns:∀m,s.heap.Ns X.env.locals m->h'.Ns X.env.locals m)(hok:HOk X.prog X.w H' h')(hg:AllBare g') :
  Inv X pins σ H' { s with heap:=h',gens:=g',drawn:=d',toks:=t' }:=by
 have neL:∀b o,X.s₀.heap.get? b=some o->b≠X.env.locals:=λb o e=>av' (ar' (a_6 e) I.ok.above)
 have neC:∀b o,X.s₀.heap.get? b=some o->b∉X.ex->b∉ch:=λb o e hx hb=>by
  rcases (hch b hb).1 with z|z
  ·exact hx z
  ·exact absurd (ar' (a_6 e) z) (a6' _)
 have cellK:∀x c,X.env.cells.lookup x=some c->∀v,s.heap.IsCell c v->h'.IsCell c v:=λx c e v ⟨o,ho,hd⟩=>by
  have nch:c∉ch:=λz=>(hch c z).2.2.1 x c e rfl;by_cases hc:c∈X.fs
  ·obtain⟨sl,q⟩:=slot c o (I.cne x c e) hc nch ho (I.freeC x c e);exact⟨_,q,hd⟩
  ·exact⟨o,keep c o (I.cne x c e) hc nch ho (I.freeC x c e),hd⟩
 refine⟨I.ok,I.os,hg,⟨λb o e n hb hx=>?_,λb o e n hb hx=>?_,λb o e n hx=>?_,λb o e hx=>?_,λb xs e=>tups b xs (I.base.tups b xs e),λb o xs e=>frzs b o xs (I.base.frzs b o xs e),λb ps e=>?_⟩,?_,λx c e=>?_,?_,λx c e=>?_,λp hp=>?_,hok,I.len⟩
 ·exact keep b o (neL b o e) hb (neC b o e hx) (I.base.keep b o e n hb hx) (I.base.free b o e n hx)
 ·obtain⟨sl,e1⟩:=I.base.slot b o e n hb hx;obtain⟨sl',e2⟩:=slot b _ (neL b o e) hb (neC b o e hx) e1 (I.base.free b o e n hx);exact⟨sl',e2⟩
 ·obtain⟨o',e1⟩:=I.base.there b o e hx;exact free b o' (neC b o e hx) e1 (I.base.free b o e n hx)
 ·obtain⟨o',e1⟩:=I.base.there b o e hx;exact there b o' (neC b o e hx) e1
 ·obtain⟨m1,e1⟩:=I.base.tbls b ps e;obtain⟨m2,e2⟩:=tbls b _ e1;exact⟨m1++m2,by rw[e2,Array.append_assoc]⟩
 ·obtain⟨m,hn,hl⟩:=I.loc;refine⟨m,ns m hn,λi x v e1 e2 e3=>?_⟩;obtain⟨u,r,l⟩:=hl i x v e1 e2 e3;refine⟨u,r,?_⟩;rcases l with l|⟨k,c,e,z⟩
  ·exact .inl l
  ·exact .inr ⟨k,c,e,cellK x c e _ z⟩
 ·obtain⟨v,z⟩:=I.cell x c e;exact⟨v,cellK x c e v z⟩
 ·obtain⟨m,⟨o,_,_,ho,_⟩,_⟩:=I.loc;exact free _ o (λz=>(hch _ z).2.1 rfl) ho I.free
 ·obtain⟨v,o,ho,hd⟩:=I.cell x c e;exact free c o (λz=>(hch c z).2.2.1 x c e rfl) ho (I.freeC x c e)
 ·obtain⟨e,n,ne,nf,d⟩:=I.pin p hp;have nch:p.1∉ch:=λz=>(hch p.1 z).2.2.2 p hp rfl;exact⟨keep p.1 p.2 ne nf nch e n,free p.1 p.2 nch e n,ne,nf,d⟩
theorem Inv.un(I:Inv X pins σ H s)(u:Un X.fs [] H H' s.heap h')(hok:HOk X.prog X.w H' h'):Inv X pins σ H' { s with heap:=h',toks:=t' }:=by
 obtain⟨m,⟨o,es,ep,ho,r⟩,_⟩:=id I.loc;obtain⟨sl,hL⟩:=u.any ho I.free Z2
 exact I.step (g':=s.gens) (d':=s.drawn) (ch:=[]) (λ_ z=>nomatch z) (λb o _ hb _ e n=>u.keep b o e n hb Z2) (λb o _ hb _ e n=>u.slot b o e n hb Z2) (λb o _ e n=>u.free b o e n Z2) (λb o _ e=>u.there b o e Z2) u.tups u.frzs u.tbls (λm' hm=>by
  obtain⟨o',es',ep',ho',r'⟩:=hm;rw[ho] at ho';cases ho';exact⟨_,es',ep',hL,r'⟩) hok I.bare
theorem Inv.call(I:Inv X pins σ H s)(u:Un (frs X.stack) ch H H' s.heap h')(hok:HOk X.prog X.w H' h')(hg:AllBare g')(hch:∀b∈ch,(b∈X.ex∨X.s₀.heap.objs.size<=b)/\b≠X.env.locals/\(∀x c,X.env.cells.lookup x=some c->c≠b)/\∀p∈X.pn++pins,p.1≠b) :
  Inv X pins σ H' { s with heap:=h',gens:=g',drawn:=d',toks:=t' }:=by
 obtain⟨m,⟨o,es,ep,ho,r⟩,_⟩:=id I.loc;obtain⟨sl,hL⟩:=u.any ho I.free λz=>(hch _ z).2.1 rfl
 exact I.step (ch:=ch) hch (λb o hL hb hc e n=>u.keep b o e n (λz=>(ah'.mp (I.stkSub b z)).elim hL hb) hc) (λb o _ _ hc e n=>u.any e n hc) (λb o hc e n=>u.free b o e n hc) (λb o hc e=>u.there b o e hc) u.tups u.frzs u.tbls (λm' hm=>by
  obtain⟨o',es',ep',ho',r'⟩:=hm;rw[ho] at ho';cases ho';exact⟨_,es',ep',hL,r'⟩) hok hg
theorem Inv.turned(I:Inv X pins σ H s)(k:∀b o,b≠it->s.heap.get? b=some o->h'.get? b=some o)(hn:H it=none)(hL:it≠X.env.locals)(h1:it∈X.ex∨X.s₀.heap.objs.size<=it)(h2:∀x c,X.env.cells.lookup x=some c->c≠it)(h3:∀p∈X.pn++pins,p.1≠it):Inv X pins σ H { s with heap:=h',toks:=t' }:=by
 have nit:∀b u,H b=some u->b≠it:=λb u e z=>by rw[z,hn] at e;cases e
 refine I.step (g':=s.gens) (d':=s.drawn) (ch:=[it]) (λb hb=>?_) (λb o _ _ hc e _=>k b o (λz=>hc (by simp[z])) e) (λb o _ _ hc e _=>⟨o.slots,k b o (λz=>hc (by simp[z])) e⟩) (λ_ _ _ _ n=>n)
  (λb o hc e=>⟨o,k b o (λz=>hc (by simp[z])) e⟩) (λ_ _ e=>e) (λ_ _ _ e=>e) (λb ps e=>⟨#[],by rw[e];simp⟩) (λm hm=>?_) (λb u e=>?_) I.bare
 ·have e:b=it:=by simpa using hb
  subst e;exact⟨h1,hL,h2,h3⟩
 ·obtain⟨o,es,ep,ho,r⟩:=hm;exact⟨o,es,ep,k _ o (Ne.symm hL) ho,r⟩
 ·refine (I.hok b u e).stay (λc v hc q=>k c v ?_ q) (λ_ q=>q) λ_ _ q=>q;rcases hc with z|z
  ·rw[z];exact nit b u e
  ·exact nit c _ z
theorem Inv.tok(I:Inv X pins σ H s)(t:Nat):Inv X pins σ H { s with toks:=t }:=I.un (h':=s.heap) (t':=t) Un.refl I.hok
theorem Inv.kept(I:Inv X pins σ H s)(k:∀b u,s.heap.get? b=some u->h'.get? b=some u):Inv X pins σ H { s with heap:=h',toks:=t' }:=I.un (Un.kept k) (I.hok.kept k)
theorem Inv.laid{o:HO}(I:Inv X pins σ H s)(k:∀b u,s.heap.get? b=some u->h'.get? b=some u)(hp:s.heap.objs.size<=a)(new:bt' X.prog X.w (upd H a o) h' a o) :
  Inv X pins σ (upd H a o) { s with heap:=h',toks:=t' }:=I.un (Un.laid k hp (I.hok.fresh hp)) (I.hok.laid k hp new)
theorem Inv.write{x e:Addr}{o:HO}(I:Inv X pins σ H s)(mu:Mut (H x))(he:e=x∨H e=some (.own x))(k:∀b u,b≠e->s.heap.get? b=some u->h'.get? b=some u)(heo:∃u,h'.get? e=some u)(new:bt' X.prog X.w (upd H x o) h' x o):Inv X pins σ (upd H x o) { s with heap:=h',toks:=t' }:=I.un (Un.write mu he k heo) (I.hok.write mu he k heo new)
theorem Inv.pins_of{pins':List (Addr × Obj)}(I:Inv X pins σ H s)(h:∀p∈pins',s.heap.get? p.1=some p.2/\H p.1=none/\p.1≠X.env.locals/\p.1∉X.fs/\∀v,p.2.data≠.cell v):Inv X pins' σ H s:=
 ⟨I.ok,I.os,I.bare,I.base,I.loc,I.cell,I.free,I.freeC,λp hp=>(am'.mp hp).elim (λz=>I.pin p (List.mem_append_left _ z)) (h p),I.hok,I.len⟩
theorem eF_(hN:N.Nodup){i j:Nat}{x:Str}(a:N[i]? = some x)(b:N[j]? = some x):i=j:=by
 obtain⟨h1,e1⟩:=ab'.mp a;obtain⟨h2,e2⟩:=ab'.mp b;exact (List.getElem_inj hN).mp (e1.trans e2.symm)
theorem fa_{A:Ah}{E:Aa->Ac->Prop}{i:Nat}{x:Str}{v:V}{u:Aa}{Q:Unit->Ac->Prop}(I:Inv X pins σ H s)(hN:X.N.Nodup)(hi:X.N[i]? = some x)(hx:Loc X.env.scope x)(r:RelV v u)(h:∀s',Inv X pins (σ.set i (some v)) H s'->(∃a,Heap.SameBut a s.heap s'.heap/\(a=X.env.locals∨X.env.cells.lookup x=some a))->Q () s')(hf:X.fn x=true∨X.env.scope.names.lookup x=some .local:=by first|exact .inl rfl|exact .inr rfl|assumption):wpAny M A (storeName X.env x u) Q E s:=by
 obtain⟨m,hn,hl⟩:=id I.loc;have hcls:(X.env.scope.kind == .class || (X.env.scope.kind == .module&&X.env.locals != X.env.globals))=false:=by rw[I.ok.kind];rfl
 have hiσ:i<σ.length:=by rw[I.len];exact (ab'.mp hi).1
 have cne:=I.cne
 have tracked:∀{a:Addr} {h':Heap},(∃o,s.heap.get? a=some o/\H a=none)->Heap.SameBut a s.heap h'->HOk X.prog X.w H h':=λ{a h'} ha hs b ob e=>by
  obtain⟨_,_,hfree⟩:=ha;refine (I.hok b ob e).stay (λc w' hc q=>(hs.2 c ?_).trans q) (λ_ q=>q) λ_ _ q=>q;rintro rfl;rcases hc with rfl|hc
  ·rw[hfree] at e;cases e
  ·rw[hfree] at hc;cases hc
 rcases hx with hk|hk
 ·refine wpAny_storeName_local hk hn (λh' hn' hs=>?_) hcls;obtain⟨oL,_,_,hoL,_⟩:=id hn;refine h _ ⟨I.ok,I.os,I.bare,⟨λb o e n hb hx=>?_,λb o e n hb hx=>?_,I.base.free,λb o e hx=>?_,I.base.tups,I.base.frzs,I.base.tbls⟩,⟨_,hn',λj y v' e1 e2 e3=>?_⟩,λy c e=>?_,I.free,I.freeC,λp hp=>?_,tracked ⟨oL,hoL,I.free⟩ hs,by simpa using I.len⟩ ⟨_,hs,.inl rfl⟩
  ·exact (hs.2 b (av' (ar' (a_6 e) I.ok.above))).trans (I.base.keep b o e n hb hx)
  ·obtain⟨sl,e1⟩:=I.base.slot b o e n hb hx;exact⟨sl,(hs.2 b (av' (ar' (a_6 e) I.ok.above))).trans e1⟩
  ·obtain⟨o',e1⟩:=I.base.there b o e hx;exact⟨o',(hs.2 b (av' (ar' (a_6 e) I.ok.above))).trans e1⟩
  ·by_cases hj:j=i
   ·subst hj;rw[hi] at e1;cases e1;rw[List.getElem?_set_self hiσ] at e2;cases e2;exact⟨u,r,.inl ⟨hk,by simp⟩⟩
   ·rw[List.getElem?_set_ne (Ne.symm hj)] at e2;obtain⟨u',r',q⟩:=hl j y v' e1 e2 e3;refine⟨u',r',?_⟩;rcases q with⟨k,e⟩|⟨k,c,e,z⟩
    ·refine .inl ⟨k,?_⟩;have:y≠x:=λe=>hj (eF_ hN e1 (e▸hi));simp[this,e]
    ·exact .inr ⟨k,c,e,z.sameBut hs (cne y c e)⟩
  ·obtain⟨w',z⟩:=I.cell y c e;exact⟨w',z.sameBut hs (cne y c e)⟩
  ·obtain⟨e,n,ne,nf,d⟩:=I.pin p hp;exact⟨(hs.2 p.1 ne).trans e,n,ne,nf,d⟩
 ·have hfn:X.fn x=true:=by
   rcases hf with z|z
   ·exact z
   ·rw[z] at hk;cases hk
  obtain⟨c,hc⟩:=I.ok.has x (.inl hk);obtain⟨w',z⟩:=I.cell x c hc;refine wpAny_storeName_cell I.ok.kind hk hc z (λh' hc' hs=>?_);obtain⟨oc,hoc,hocd⟩:=id z;refine h { s with heap:=h' } ⟨I.ok,I.os,I.bare,⟨λb o e n hb hx=>?_,λb o e n hb hx=>?_,I.base.free,λb o e hx=>?_,I.base.tups,I.base.frzs,I.base.tbls⟩,⟨m,hn.sameBut hs (Ne.symm (cne x c hc)),λj y v' e1 e2 e3=>?_⟩,λy c' e=>?_,I.free,I.freeC,λp hp=>?_,tracked ⟨oc,hoc,I.freeC x c hc⟩ hs,by simpa using I.len⟩ ⟨c,hs,.inr hc⟩
  ·exact (hs.2 b (av' (ar' (a_6 e) (I.ok.cab x c hfn hc)))).trans (I.base.keep b o e n hb hx)
  ·obtain⟨sl,e1⟩:=I.base.slot b o e n hb hx;exact⟨sl,(hs.2 b (av' (ar' (a_6 e) (I.ok.cab x c hfn hc)))).trans e1⟩
  ·obtain⟨o',e1⟩:=I.base.there b o e hx;exact⟨o',(hs.2 b (av' (ar' (a_6 e) (I.ok.cab x c hfn hc)))).trans e1⟩
  ·by_cases hj:j=i
   ·subst hj;rw[hi] at e1;cases e1;rw[List.getElem?_set_self hiσ] at e2;cases e2;exact⟨u,r,.inr ⟨.inl hk,c,hc,hc'⟩⟩
   ·rw[List.getElem?_set_ne (Ne.symm hj)] at e2;obtain⟨u',r',q⟩:=hl j y v' e1 e2 e3;refine⟨u',r',?_⟩;rcases q with q|⟨k,c',e,z'⟩
    ·exact .inl q
    ·refine .inr ⟨k,c',e,z'.sameBut hs ?_⟩;rintro rfl;exact hj (eF_ hN e1 (I.ok.inj _ _ _ e hc▸hi))
  ·by_cases hcc:c'=c
   ·subst hcc;exact⟨_,hc'⟩
   ·obtain⟨w2,z2⟩:=I.cell y c' e;exact⟨w2,z2.sameBut hs hcc⟩
  ·obtain⟨e,n,ne,nf,d⟩:=I.pin p hp;refine⟨(hs.2 p.1 ?_).trans e,n,ne,nf,d⟩;intro q;rw[q,hoc] at e;have q':oc=p.2:=b_2 e;exact d w' (by rw[<- q'];exact hocd)
theorem dl_{A:Ah}{E:Aa->Ac->Prop}{i:Nat}{x:Str}{v:V}{u:Aa}{Q:Unit->Ac->Prop}(I:Inv X pins σ H s)(hN:X.N.Nodup)(hi:X.N[i]? = some x)(hx:Loc X.env.scope x)(r:RelV v u)(h:∀s',Inv X pins (σ.set i (some v)) H s'->Q () s')(hf:X.fn x=true∨X.env.scope.names.lookup x=some .local:=by first|exact .inl rfl|exact .inr rfl|assumption):wpAny M A (storeName X.env x u) Q E s:=
 fa_ I hN hi hx r (λs' I' _=>h s' I') hf
theorem Inv.call'(I:Inv X pins σ H s)(ho:s'.os=s.os)(u:Un (frs X.stack) ch H H' s.heap s'.heap)(hok:HOk X.prog X.w H' s'.heap)(hg:AllBare s'.gens)(hch:∀b∈ch,(b∈X.ex∨X.s₀.heap.objs.size<=b)/\b≠X.env.locals/\(∀x c,X.env.cells.lookup x=some c->c≠b)/\∀p∈X.pn++pins,p.1≠b):Inv X pins σ H' s':=by
 obtain⟨h',g',d',t',o'⟩:=s';have e:o'=s.os:=ho;subst e;exact I.call (g':=g') (t':=t') (d':=d') u hok hg hch
end
abbrev XK:=Aa->Option Addr->Hp->Prop
abbrev St:=List (Option V)
abbrev VK:=V->Hp->Prop
abbrev TE:=St->Hp->VK->Prop
abbrev TT:=St->Hp->(Bool->Hp->Prop)->Prop
abbrev TA:=St->Hp->(List V->Hp->Prop)->Prop
structure Ends where
 nx:St->Hp->Prop
 rt:VK
 bk:St->Hp->Prop:=λ_ _=>False
 ct:St->Hp->Prop:=λ_ _=>False
abbrev TS:=Ends->St->Hp->Prop
def EP(X:Cx)(pins:List (Addr × Obj))(σ:St)(Q:VK)(u:Aa)(s':Ac):Prop:=∃v H',Inv X pins σ H' s'/\RelV v u/\Q v H'
def TP(X:Cx)(pins:List (Addr × Obj))(σ:St)(Q:Bool->Hp->Prop)(b:Bool)(s':Ac):Prop:=∃H',Inv X pins σ H' s'/\Q b H'
def AP(X:Cx)(pins:List (Addr × Obj))(σ:St)(Q:List V->Hp->Prop)(us:List Aa)(s':Ac):Prop:=∃vs H',Inv X pins σ H' s'/\Vals vs us/\Q vs H'
def SP(X:Cx)(pins:List (Addr × Obj))(D:Ends)(f:Flow)(s':Ac):Prop:=
 match f with
 |.next=>∃σ' H',Inv X pins σ' H' s'/\D.nx σ' H'
 |.brk=>∃σ' H',Inv X pins σ' H' s'/\D.bk σ' H'
 |.cont=>∃σ' H',Inv X pins σ' H' s'/\D.ct σ' H'
 |.ret u=>∃v σ' H',Inv X pins σ' H' s'/\RelV v u/\D.rt v H'
def PE(X:Cx)(e:Expr)(t:TE):Prop:=
 ∀(pins:List (Addr × Obj)) (s:Ac) (σ:St) (H:Hp) (Q:VK),Inv X pins σ H s->t σ H Q->wpAny (model X.prog X.w) X.A (eval e X.env) (EP X pins σ Q) X.xe s
def PT(X:Cx)(e:Expr)(t:TT):Prop:=
 ∀(pins:List (Addr × Obj)) (s:Ac) (σ:St) (H:Hp) (Q:Bool->Hp->Prop),Inv X pins σ H s->t σ H Q->wpAny (model X.prog X.w) X.A (isTrue e X.env (eval e X.env)) (TP X pins σ Q) X.xe s
def PW(X:Cx)(e:Expr)(t:TT):Prop:=
 ∀(whole:Sem Aa) (pins:List (Addr × Obj)) (s:Ac) (σ:St) (H:Hp) (Q:Bool->Hp->Prop),Inv X pins σ H s->t σ H Q->wpAny (model X.prog X.w) X.A (isTrue e X.env whole) (TP X pins σ Q) X.xe s
theorem PW.pt{X:Cx}{e:Expr}{t:TT}(h:PW X e t):PT X e t:=h _
def PA(X:Cx)(es:List Expr)(t:TA):Prop:=
 ∀(pos:Pos) (pins:List (Addr × Obj)) (s:Ac) (σ:St) (H:Hp) (Q:List V->Hp->Prop),Inv X pins σ H s->t σ H Q->wpAny (model X.prog X.w) X.A (spliced (backTo pos (starEach es X.env))) (AP X pins σ Q) X.xe s
def PS(X:Cx)(st:Stmt)(t:TS):Prop:=
 ∀(pins:List (Addr × Obj)) (s:Ac) (σ:St) (H:Hp) (D:Ends),Inv X pins σ H s->t D σ H->wpAny (model X.prog X.w) X.A (exec st X.env) (SP X pins D) X.xe s
def PSs(X:Cx)(st:List Stmt)(t:TS):Prop:=
 ∀(pins:List (Addr × Obj)) (s:Ac) (σ:St) (H:Hp) (D:Ends),Inv X pins σ H s->t D σ H->wpAny (model X.prog X.w) X.A (execs st X.env) (SP X pins D) X.xe s
theorem thn{α:Type}{t:Sem α}{Q Q':α->Ac->Prop}{A:Ah}{E:Aa->Ac->Prop}{s:Ac}(h:wpAny M A t Q E s)(hQ:∀a s,Q a s->Q' a s):wpAny M A t Q' E s:=c_7 h hQ λ_ _ x=>x
variable{pos:Pos}
variable{σ:St}
variable{op:CmpOp}
variable{c:Expr}
section
variable{X:Cx}
inductive tVar (i:Nat) (σ:St) (H:Hp) (Q:VK):Prop
 |mk:∀v,σ[i]? = some (some v)->Q v H->tVar i σ H Q
def tC(v:V):TE:=λ_ H Q=>Q v H
theorem lK_{i:Nat}{x:Str}(hN:X.N[i]? = some x)(hv:Vis X.env.scope x)(hd:(x == ("__debug__":Str))=false:=by decide)(hcd:(x == ("__classdict__":Str))=false:=by decide):PE X (.Name x pos) (tVar i):=by
 intro pins s σ H Q I h;obtain⟨v,e,h⟩:=h;obtain⟨m,hn,hl⟩:=I.loc;obtain⟨u,r,l⟩:=hl i x v hN e hv;have fin:EP X pins σ Q u s:=⟨v,H,I,r,h⟩;rcases l with⟨hk,hm⟩|⟨hk,c,hc,hcell⟩
 ·exact wpAny_Name (wpAny_loadName_local I.ok.kind hk hn hm fin) hd
 ·rcases hk with hk|hk
  ·exact wpAny_Name (wpAny_loadName_cell I.ok.kind hk hc hcell fin) hd
  ·exact wpAny_Name (wpAny_loadName_free I.ok.kind hk hc hcell fin hcd) hd
theorem a4_{i j pos}:PE X (.Constant (.int i) j pos) (tC (.int i)):=λ_ _ _ H _ I h=>wpAny_Constant_int ⟨.int i,H,I.tok _,⟨_,rfl⟩,h⟩
theorem e7_{b j pos}:PE X (.Constant (.bool b) j pos) (tC (.bl b)):=λ_ _ _ H _ I h=>Constant_bool ⟨.bl b,H,I,rfl,h⟩
theorem dc_{j pos}:PE X (.Constant .none j pos) (tC .non):=λ_ _ _ H _ I h=>Constant_none ⟨.non,H,I,rfl,h⟩
theorem a9_{x j pos}:PE X (.Constant (.str x) j pos) (tC (.str x)):=λ_ _ _ H _ I h=>Calls.Constant_str ⟨.str x,H,I.tok _,⟨_,rfl⟩,h⟩
def Gl(X:Cx)(x:Str):Prop:=X.env.kindOf x=some .globalImplicit
theorem cC_{E:Aa->Ac->Prop}{pins:List (Addr × Obj)}{s:Ac}{H:Hp}{x:Str}{u:Aa}{Q:Aa->Ac->Prop}(I:Inv X pins σ H s)(hg:Gl X x)(hm:X.mg x=some u)(h:Q u s)(hd:(x == ("__debug__":Str))=false:=by decide):wpAny (model X.prog X.w) X.A (eval (.Name x pos) X.env) Q E s:=
 Calls.Name_function_global I.ok.kind hg (Calls.loadGlobal_global (by rw[I.ok.glob];exact I.mod.glob.keeps I.bk) hm h) hd
theorem ef_{E:Aa->Ac->Prop}{pins:List (Addr × Obj)}{s:Ac}{H:Hp}{x:Str}{u:Aa}{Q:Aa->Ac->Prop}(I:Inv X pins σ H s)(hg:Gl X x)(hm:X.mg x=none)(hv:bootBuiltins x=some u)(h:Q u s)(hn:x≠"__name__":=by decide)(hd:(x == ("__debug__":Str))=false:=by decide):wpAny (model X.prog X.w) X.A (eval (.Name x pos) X.env) Q E s:=by
 obtain⟨mb,h1,h2⟩:=I.mod.blt;exact Calls.Name_function_global I.ok.kind hg (Calls.loadGlobal_builtin (by rw[I.ok.glob];exact I.mod.glob.keeps I.bk) hm (by rw[I.ok.blt];exact h1.keeps I.bk) ((h2 x hn).trans hv) h) hd
theorem bd_{x:Str}{v:V}{u:Aa}(hg:Gl X x)(hm:X.mg x=some u)(r:RelV v u)(hd:(x == ("__debug__":Str))=false:=by decide):PE X (.Name x pos) (tC v):=
 λ_ _ _ H _ I h=>cC_ I hg hm ⟨v,H,I,r,h⟩ hd
theorem b1_{x:Str}{v:V}{u:Aa}(hg:Gl X x)(hm:X.mg x=none)(hv:bootBuiltins x=some u)(r:RelV v u)(hn:x≠"__name__":=by decide)(hd:(x == ("__debug__":Str))=false:=by decide):PE X (.Name x pos) (tC v):=
 λ_ _ _ H _ I h=>ef_ I hg hm hv ⟨v,H,I,r,h⟩ hn hd
variable{a b:Expr}{ta tb:TE}{pos:Pos}
def PC(X:Cx)(op:CmpOp)(a b:Expr)(t:TE):Prop:=
 ∀(pins:List (Addr × Obj)) (s:Ac) (σ:St) (H:Hp) (Q:VK),Inv X pins σ H s->t σ H Q->
  wpAny (model X.prog X.w) X.A (eval a X.env) (λv s₁=>wpAny (model X.prog X.w) X.A (eval b X.env) (λu s₂=>wpAny (model X.prog X.w) X.A (compareOp op v u) (EP X pins σ Q) X.xe s₂) X.xe s₁) X.xe s
theorem nobehind(b:Expr)(h:op≠.In)(h2:op≠.NotIn):behindInMarks op b=false:=by
 have e1:(op == CmpOp.In)=false:=by cases op<;>first|rfl|exact absurd rfl h
 have e2:(op == CmpOp.NotIn)=false:=by cases op<;>first|rfl|exact absurd rfl h2
 cases b<;>simp[behindInMarks,e1,e2]
def tIsN(ta:TE):TE:=λσ H Q=>ta σ H λx H1=>Q (.bl (decide (x=.non))) H1
theorem RelV.none_iff{x:V}{v:Aa}(r:RelV x v):(v == Value.none)=decide (x=.non):=by
 cases x with
 |non=>cases r;rfl
 |bl _=>cases r;rfl
 |int _=>obtain⟨t,rfl⟩:=r;rfl
 |str _=>obtain⟨t,rfl⟩:=r;rfl
 |byt _=>obtain⟨t,rfl⟩:=r;rfl
 |flt _=>obtain⟨t,rfl⟩:=r;rfl
 |ref _=>cases r;rfl
 |ty _=>cases r;rfl
theorem cT_{j pos'}(ha:PE X a ta):PC X .Is a (.Constant .none j pos') (tIsN ta):=by
 intro pins s σ H Q I h;refine thn (ha pins s σ H _ I h) λv s1 ⟨x,H1,I1,r1,q1⟩=>?_;exact Constant_none (is_none_gen ⟨.bl _,H1,I1,by rw[r1.none_iff];rfl,q1⟩)
inductive tBR (Q:Bool->Hp->Prop) (x:V) (H1:Hp):Prop
 |mk:∀c,x=.bl c->Q c H1->tBR Q x H1
def tB(t:TE):TT:=λσ H Q=>t σ H λx H1=>tBR Q x H1
theorem hv_{t:TE}(h:PC X op a b t)(h1:behindInMarks op b=false:=by first|exact nobehind _ (by decide) (by decide)|rfl):PE X (.Compare a [op] [b] pos) t:=λpins s σ H Q I hw=>wpAny_Compare1 (h pins s σ H Q I hw) h1
theorem bg_{t:TE}(h:PC X op a b t)(h1:behindInMarks op b=false:=by first|exact nobehind _ (by decide) (by decide)|rfl):PT X (.Compare a [op] [b] pos) (tB t):=by
 intro pins s σ H Q I hw;refine wpAny_isTrue_Compare1 (thn (h pins s σ H _ I hw) λv s1 h1=>thn h1 λu s2 h2=>thn h2 λc s3 ⟨x,H1,I1,r1,q1⟩=>?_) h1;obtain⟨d,rfl,q⟩:=q1;cases r1;exact d_1 ⟨H1,I1,q⟩
theorem aK_{e:Expr}{t:TE}(h:PE X e t)(he:∀whole,isTrue e X.env whole=(do let v <- whole;standAt e.pos;holding [v] (truthy v)):=by intro _;rfl):PT X e (tB t):=by
 intro pins s σ H Q I hw;refine isTrue_plain (thn (h pins s σ H _ I hw) λv s1 ⟨x,H1,I1,r1,q1⟩=>?_) (he _);obtain⟨d,rfl,q⟩:=q1;cases r1;exact d_1 ⟨H1,I1,q⟩
variable{tA tB':TT}{rest:List Expr}
def tAnd(t u:TT):TT:=λσ H Q=>t σ H λc H1=>if c=true then u σ H1 Q else Q false H1
def tOr(t u:TT):TT:=λσ H Q=>t σ H λc H1=>if c=true then Q true H1 else u σ H1 Q
def tNot(t:TT):TT:=λσ H Q=>t σ H λc H1=>Q (!c) H1
theorem iu_(ha:PT X a tA):PW X (.BoolOp .And [a] pos) tA:=by
 intro wh pins s σ H Q I h;refine isTrue_and (thn (ha pins s σ H Q I h) λc s1 e=>?_);cases c with
 |true=>exact isTrue_and_nil e
 |false=>exact e
theorem cz_(ha:PT X a tA):PW X (.BoolOp .Or [a] pos) tA:=by
 intro wh pins s σ H Q I h;refine isTrue_or (thn (ha pins s σ H Q I h) λc s1 e=>?_);cases c with
 |false=>exact isTrue_or_nil e
 |true=>exact e
theorem iW_(ha:PT X a tA)(hb:PW X (.BoolOp .And (b::rest) pos) tB'):PW X (.BoolOp .And (a::b::rest) pos) (tAnd tA tB'):=by
 intro wh pins s σ H Q I h;refine isTrue_and (thn (ha pins s σ H _ I h) λc s1 ⟨H1,I1,q1⟩=>?_);cases c with
 |true=>exact hb wh pins s1 σ H1 Q I1 q1
 |false=>exact⟨H1,I1,q1⟩
theorem e5_(ha:PT X a tA)(hb:PW X (.BoolOp .Or (b::rest) pos) tB'):PW X (.BoolOp .Or (a::b::rest) pos) (tOr tA tB'):=by
 intro wh pins s σ H Q I h;refine isTrue_or (thn (ha pins s σ H _ I h) λc s1 ⟨H1,I1,q1⟩=>?_);cases c with
 |true=>exact⟨H1,I1,q1⟩
 |false=>exact hb wh pins s1 σ H1 Q I1 q1
theorem aH_(ha:PT X a tA):PT X (.UnaryOp .Not a pos) (tNot tA):=by
 intro pins s σ H Q I h;exact isTrue_not (ha pins s σ H (λc H1=>Q (!c) H1) I h)
inductive tAndVR (tb:TE) (σ:St) (Q:VK) (x:V) (H1:Hp):Prop
 |mk:∀c,x=.bl c->(if c=true then tb σ H1 Q else Q (.bl false) H1)->tAndVR tb σ Q x H1
def tAndV(ta tb:TE):TE:=λσ H Q=>ta σ H λx H1=>tAndVR tb σ Q x H1
inductive tOrVR (tb:TE) (σ:St) (Q:VK) (x:V) (H1:Hp):Prop
 |mk:∀c,x=.bl c->(if c=true then Q (.bl true) H1 else tb σ H1 Q)->tOrVR tb σ Q x H1
def tOrV(ta tb:TE):TE:=λσ H Q=>ta σ H λx H1=>tOrVR tb σ Q x H1
inductive tNotVR (Q:VK) (x:V) (H1:Hp):Prop
 |mk:∀c,x=.bl c->Q (.bl (!c)) H1->tNotVR Q x H1
def tNotV(ta:TE):TE:=λσ H Q=>ta σ H λx H1=>tNotVR Q x H1
theorem bZ_{op}{t:TE}(h:PE X a t):PE X (.BoolOp op [a] pos) t:=λpins s σ H Q I hw=>BoolOp_one (h pins s σ H Q I hw)
theorem bF_(ha:PE X a ta)(hb:PE X (.BoolOp .And (b::rest) pos) tb):PE X (.BoolOp .And (a::b::rest) pos) (tAndV ta tb):=by
 intro pins s σ H Q I h;refine BoolOp_and (thn (ha pins s σ H _ I h) λv s1 ⟨x,H1,I1,r1,q1⟩=>?_);obtain⟨c,rfl,q1⟩:=q1;cases r1;refine d_1 ?_;cases c with
 |true=>exact hb pins s1 σ H1 Q I1 q1
 |false=>exact⟨.bl false,H1,I1,rfl,q1⟩
theorem kw_(ha:PE X a ta)(hb:PE X (.BoolOp .Or (b::rest) pos) tb):PE X (.BoolOp .Or (a::b::rest) pos) (tOrV ta tb):=by
 intro pins s σ H Q I h;refine BoolOp_or (thn (ha pins s σ H _ I h) λv s1 ⟨x,H1,I1,r1,q1⟩=>?_);obtain⟨c,rfl,q1⟩:=q1;cases r1;refine d_1 ?_;cases c with
 |false=>exact hb pins s1 σ H1 Q I1 q1
 |true=>exact⟨.bl true,H1,I1,rfl,q1⟩
theorem fx_(ha:PE X a ta):PE X (.UnaryOp .Not a pos) (tNotV ta):=by
 intro pins s σ H Q I h;refine UnaryOp_ (thn (ha pins s σ H _ I h) λv s1 ⟨x,H1,I1,r1,q1⟩=>?_);obtain⟨c,rfl,q1⟩:=q1;cases r1;exact not_of (d_1 ⟨.bl (!c),H1,I1,rfl,q1⟩)
def tIf(t:TT)(ta tb:TE):TE:=λσ H Q=>t σ H λc H1=>if c=true then ta σ H1 Q else tb σ H1 Q
theorem gL_(hc:PT X c tA)(ha:PE X a ta)(hb:PE X b tb):PE X (.IfExp c a b pos) (tIf tA ta tb):=by
 intro pins s σ H Q I h;refine wpAny_IfExp (thn (hc pins s σ H _ I h) λd s1 ⟨H1,I1,q1⟩=>?_);cases d with
 |true=>exact ha pins s1 σ H1 Q I1 q1
 |false=>exact hb pins s1 σ H1 Q I1 q1
end
def SqL(K:F__)(H:Hp)(a:Addr)(xs:List V):Prop:=
 Rd H a (.lst xs) ∨
  ∃(o:Obj) (its:Array Aa) (n:Nat),K.lookup a=some o/\o.cls=.type "list"/\o.dict=none/\o.data=.seq its n/\its.size<=sizeLine/\Vals xs its.toList
def SqT(K:F__)(H:Hp)(a:Addr)(xs:List V):Prop:=
 Rd H a (.tup xs) ∨
  ∃(o:Obj) (its:Array Aa) (n:Nat),K.lookup a=some o/\o.cls=.type "tuple"/\o.data=.seq its n/\its.size<=sizeLine/\Vals xs its.toList
def absV:Aa->Option V
 |.none=>some .non
 |.bool b=>some (.bl b)
 |.int i _=>some (.int i)
 |.str x _=>some (.str x)
 |.bytes b _=>some (.byt b)
 |.float b _=>some (.flt b)
 |.ref a=>some (.ref a)
 |.type n=>some (.ty n)
 |_=>none
theorem RelV.abs{x:V}{u:Aa}(r:RelV x u):absV u=some x:=by
 cases x with
 |non=>cases r;rfl
 |bl _=>cases r;rfl
 |int _=>obtain⟨t,rfl⟩:=r;rfl
 |str _=>obtain⟨t,rfl⟩:=r;rfl
 |byt _=>obtain⟨t,rfl⟩:=r;rfl
 |flt _=>obtain⟨t,rfl⟩:=r;rfl
 |ref _=>cases r;rfl
 |ty _=>cases r;rfl
theorem RelV.inj{x y:V}{u:Aa}(r:RelV x u)(q:RelV y u):x=y:=b_2 (r.abs.symm.trans q.abs)
theorem Vals.inj:∀{xs ys:List V} {us:List Aa},Vals xs us->Vals ys us->xs=ys
 |_,_,_,.nil,.nil=>rfl
 |_,_,_,.cons r t,.cons r' t'=>by rw[r.inj r',Vals.inj t t']
section
variable{X:Cx}{pins:List (Addr × Obj)}{σ:St}{H:Hp}{s:Ac}{a:Addr}{xs ys:List V}
theorem SqL.of{K:F__}(h:H a=some (.lst xs)):SqL K H a xs:=.inl (.inl h)
theorem SqT.of{K:F__}(h:H a=some (.tup xs)):SqT K H a xs:=.inl (.inl h)
theorem Inv.list(I:Inv X pins σ H s)(h:SqL X.K H a xs):∃its:List Aa,Vals xs its/\PlainL s.heap a its.toArray/\xs.length<=sizeLine:=by
 rcases h with h|⟨o,its,n,hk,hc,hd,hs,hz,r⟩
 ·obtain⟨z,its,n,r,e⟩:=h.ok I.hok;exact⟨its,r,⟨_,n,e,rfl,rfl,rfl⟩,z⟩
 ·refine⟨its.toList,r,⟨o,n,I.kIn a o hk,hc,hd,by simpa using hs⟩,?_⟩;have e:=r.length;simp only[aP'] at e;omega
theorem Inv.tuple(I:Inv X pins σ H s)(h:SqT X.K H a xs):∃its:List Aa,Vals xs its/\IsTup s.heap a its.toArray/\xs.length<=sizeLine:=by
 rcases h with h|⟨o,its,n,hk,hc,hs,hz,r⟩
 ·obtain⟨z,its,r,p,_⟩:=h.ok I.hok;exact⟨its,r,p,z⟩
 ·refine⟨its.toList,r,⟨o,I.kIn a o hk,hc,n,by simpa using hs⟩,?_⟩;have e:=r.length;simp only[aP'] at e;omega
theorem Inv.list_inj(I:Inv X pins σ H s)(h:SqL X.K H a xs)(h':SqL X.K H a ys):xs=ys:=by
 obtain⟨its,r,⟨o,n,e,_,_,d⟩,_⟩:=I.list h;obtain⟨its',r',⟨o',n',e',_,_,d'⟩,_⟩:=I.list h';rw[e] at e';cases e';rw[d] at d'
 injection d' with d1 _
 have:its=its':=by simpa using c_1 Array.toList d1
 subst this;exact r.inj r'
theorem Inv.tuple_inj(I:Inv X pins σ H s)(h:SqT X.K H a xs)(h':SqT X.K H a ys):xs=ys:=by
 obtain⟨its,r,⟨o,e,_,n,d⟩,_⟩:=I.tuple h;obtain⟨its',r',⟨o',e',_,n',d'⟩,_⟩:=I.tuple h';rw[e] at e';cases e';rw[d] at d'
 injection d' with d1 _
 have:its=its':=by simpa using c_1 Array.toList d1
 subst this;exact r.inj r'
end
abbrev Cx.wish(X:Cx)(E:Aa->Ac->Prop):Cx:={ X with xe:=E }
abbrev Cx.nox(X:Cx):Cx:=X.wish λ_ _=>False
theorem Cx.Ok.wish{X:Cx}(ok:X.Ok)(E:Aa->Ac->Prop):(X.wish E).Ok:=
 ⟨ok.mod,ok.kind,ok.glob,ok.blt,ok.above,ok.inj,ok.has,ok.cab,ok.hd,ok.frames,ok.stk,ok.exf,ok.bs,ok.bsz,ok.noex,ok.exfs,ok.funs,ok.frf⟩
theorem Cx.Ok.unwish{X:Cx}{E:Aa->Ac->Prop}(ok:(X.wish E).Ok):X.Ok:=
 ⟨ok.mod,ok.kind,ok.glob,ok.blt,ok.above,ok.inj,ok.has,ok.cab,ok.hd,ok.frames,ok.stk,ok.exf,ok.bs,ok.bsz,ok.noex,ok.exfs,ok.funs,ok.frf⟩
section
variable{X:Cx}{pins:List (Addr × Obj)}{σ:St}{H:Hp}{s:Ac}{E:Aa->Ac->Prop}
theorem Inv.wish(I:Inv X pins σ H s)(E:Aa->Ac->Prop):Inv (X.wish E) pins σ H s:=⟨I.ok.wish E,I.os,I.bare,I.base,I.loc,I.cell,I.free,I.freeC,I.pin,I.hok,I.len⟩
theorem Inv.unwish(I:Inv (X.wish E) pins σ H s):Inv X pins σ H s:=⟨I.ok.unwish,I.os,I.bare,I.base,I.loc,I.cell,I.free,I.freeC,I.pin,I.hok,I.len⟩
theorem SP.unwish{D:Ends}{f:Flow}(h:SP (X.wish E) pins D f s'):SP X pins D f s':=by
 cases f with
 |next=>obtain⟨σ',H',I,q⟩:=h;exact⟨σ',H',I.unwish,q⟩
 |brk=>obtain⟨σ',H',I,q⟩:=h;exact⟨σ',H',I.unwish,q⟩
 |cont=>obtain⟨σ',H',I,q⟩:=h;exact⟨σ',H',I.unwish,q⟩
 |ret u=>obtain⟨v,σ',H',I,r,q⟩:=h;exact⟨v,σ',H',I.unwish,r,q⟩
theorem PSs.nox{st:List Stmt}{t:TS}(h:PSs X.nox st t):PSs X st t:=λpins s σ H D I hw=>
 c_7 (h pins s σ H D (I.wish _) hw) (λ_ _ q=>q.unwish) λ_ _ z=>False.elim z
end
section
variable{X:Cx}{st:Stmt}{rest:List Stmt}{t u:TS}{e:Expr}{te:TE}{pos:Pos}
def tNext:TS:=λD σ H=>D.nx σ H
def tSeq(t u:TS):TS:=λD σ H=>t { D with nx:=u D } σ H
theorem aa_:PSs X [] tNext:=λ_ _ σ H _ I h=>wpAny_execs_nil ⟨σ,H,I,h⟩
theorem a3_(h1:PS X st t)(h2:PSs X rest u):PSs X (st::rest) (tSeq t u):=by
 intro pins s σ H D I h;refine wpAny_execs_cons (thn (h1 pins s σ H { D with nx:=u D } I h) λf s1 q=>?_);cases f with
 |next=>
  obtain⟨σ',H',I',q⟩:=q;exact h2 pins s1 σ' H' D I' q
 |ret v=>exact q
 |brk=>exact q
 |cont=>exact q
theorem a5_(h1:PS X st t):PSs X [st] t:=by
 intro pins s σ H D I h;refine wpAny_execs_cons (thn (h1 pins s σ H D I h) λf s1 q=>?_);cases f with
 |next=>exact wpAny_execs_nil q
 |ret v=>exact q
 |brk=>exact q
 |cont=>exact q
theorem Inv.quiet{pins:List (Addr × Obj)}{H:Hp}{s:Ac}(I:Inv X pins σ H s):interactive X.env=false:=by simp[interactive,I.ok.kind]
def tDrop(te:TE):TS:=λD σ H=>te σ H λ_ H1=>D.nx σ H1
theorem bP_(he:PE X e te)(hs:swapsWith e none pos.line X.env=pure false:=by rfl):PS X (.Expr e pos) (tDrop te):=by
 intro pins s σ H D I h;exact wpAny_Expr_any (thn (he pins s σ H _ I h) λv s1 ⟨x,H1,I1,r1,q1⟩=>⟨σ,H1,I1,q1⟩) I.quiet hs
def tRet(te:TE):TS:=λD σ H=>te σ H D.rt
theorem ae_(he:PE X e te):PS X (.Return (some e) pos) (tRet te):=by
 intro pins s σ H D I h;exact wpAny_Return_some (thn (he pins s σ H _ I h) λv s1 ⟨x,H1,I1,r1,q1⟩=>⟨x,σ,H1,I1,r1,q1⟩)
def tIfS(c:TT)(t u:TS):TS:=λD σ H=>c σ H λb H1=>if b=true then t D σ H1 else u D σ H1
theorem aw_{a b:List Stmt}{tc:TT}(hc:PT X c tc)(ha:PSs X a t)(hb:PSs X b u):PS X (.If c a b pos) (tIfS tc t u):=by
 intro pins s σ H D I h;refine wpAny_If (thn (hc pins s σ H _ I h) λd s1 ⟨H1,I1,q1⟩=>?_);cases d with
 |true=>exact ha pins s1 σ H1 D I1 q1
 |false=>exact hb pins s1 σ H1 D I1 q1
def tNever:TS:=λ_ _ _=>False
theorem ac_{sts:List Stmt}:PSs X sts tNever:=λ_ _ _ _ _ _ h=>h.elim
end
abbrev TG:=V->St->Hp->(St->Hp->Prop)->Prop
abbrev TGs:=List V->St->Hp->(St->Hp->Prop)->Prop
def PG(X:Cx)(target:Expr)(t:TG):Prop:=
 ∀(pins:List (Addr × Obj)) (s:Ac) (σ:St) (H:Hp) (v:V) (u:Aa) (Q:St->Hp->Prop),Inv X pins σ H s->RelV v u->t v σ H Q->
  wpAny (model X.prog X.w) X.A (assign target X.env u) (λ_ s'=>∃σ' H',Inv X pins σ' H' s'/\Q σ' H') X.xe s
def PGs(X:Cx)(ts:List Expr)(t:TGs):Prop:=
 ∀(pins:List (Addr × Obj)) (s:Ac) (σ:St) (H:Hp) (vs:List V) (us:List Aa) (Q:St->Hp->Prop),Inv X pins σ H s->Vals vs us->t vs σ H Q->
  wpAny (model X.prog X.w) X.A (assignInOrder ((assignEach ts X.env).map (·.2)) us) (λ_ s'=>∃σ' H',Inv X pins σ' H' s'/\Q σ' H') X.xe s
abbrev TSet:=V->V->V->Hp->(Hp->Prop)->Prop
def PSet(X:Cx)(t:TSet):Prop:=
 ∀(pins:List (Addr × Obj)) (s:Ac) (σ:St) (H:Hp) (o i v:V) (ov iv u:Aa) (Q:Hp->Prop),Inv X pins σ H s->RelV o ov->RelV i iv->RelV v u->t o i v H Q->
  wpAny (model X.prog X.w) X.A (setItem ov iv u) (λ_ s'=>∃H',Inv X pins σ H' s'/\Q H') X.xe s
variable{es:List Expr}
variable{k n:Nat}
variable{tg:Expr}{te:TE}
variable{pos':Pos}
section
variable{X:Cx}{pos:Pos}
def bR'(i:Nat):TG:=λv σ H Q=>Q (σ.set i (some v)) H
theorem il_{i:Nat}{x:Str}(hN:X.N.Nodup)(hi:X.N[i]? = some x)(hx:Loc X.env.scope x)(hf:X.fn x=true∨X.env.scope.names.lookup x=some .local:=by first|exact .inl rfl|exact .inr rfl|assumption):PG X (.Name x pos) (bR' i):=by
 intro pins s σ H v u Q I r h;exact wpAny_assign_Name (dl_ I hN hi hx r (λs' I'=>⟨_,H,I',h⟩) hf)
theorem ab_:type_of% PyProof.Rows.Boot.«isinstance»:=PyProof.Rows.Boot.«isinstance»
theorem ea_:type_of% PyProof.Rows.Boot.«int»:=PyProof.Rows.Boot.«int»
theorem dg_:type_of% PyProof.Rows.Boot.«str»:=PyProof.Rows.Boot.«str»
theorem ft_:type_of% PyProof.Rows.Boot.«all»:=PyProof.Rows.Boot.«all»
theorem bK_:type_of% PyProof.Rows.Boot.«tuple»:=PyProof.Rows.Boot.«tuple»
theorem bm_:type_of% PyProof.Rows.Boot.«list»:=PyProof.Rows.Boot.«list»
theorem b8_:type_of% PyProof.Rows.Boot.«sorted»:=PyProof.Rows.Boot.«sorted»
theorem cd_:type_of% PyProof.Rows.Boot.«dict»:=PyProof.Rows.Boot.«dict»
theorem aY_(i:Nat){x:Str}(hN:X.N.Nodup:=by first|(show ([_]:List Str).Nodup;decide +kernel)|(show ([_,_]:List Str).Nodup;decide +kernel)|(show ([_,_,_]:List Str).Nodup;decide +kernel)|(show ([_,_,_,_]:List Str).Nodup;decide +kernel))(hi:X.N[i]? = some x:=by rfl)(hx:Loc X.env.scope x:=by first|exact Or.inl rfl|exact Or.inr rfl)(hf:X.fn x=true∨X.env.scope.names.lookup x=some .local:=by first|exact .inl rfl|exact .inr rfl|assumption):PG X (.Name x pos) (bR' i):=il_ hN hi hx hf
theorem b5_(i:Nat){x:Str}(hN:X.N.Nodup)(hi:X.N[i]? = some x:=by rfl)(hx:Loc X.env.scope x:=by first|exact Or.inl rfl|exact Or.inr rfl)(hf:X.fn x=true∨X.env.scope.names.lookup x=some .local:=by first|exact .inl rfl|exact .inr rfl|assumption):PG X (.Name x pos) (bR' i):=il_ hN hi hx hf
def gNil:TGs:=λvs σ H Q=>vs=[]/\Q σ H
inductive dr' (t:TG) (u:TGs) (vs:List V) (σ:St) (H:Hp) (Q:St->Hp->Prop):Prop
 |mk:∀v r,vs=v::r->(t v σ H λσ' H'=>u r σ' H' Q)->dr' t u vs σ H Q
theorem b4_:PGs X [] gNil:=by
 intro pins s σ H vs us Q I r h;obtain⟨e,h⟩:=h;subst e;cases r;exact assignInOrder_nil ⟨σ,H,I,h⟩
theorem ai_{e:Expr}{t:TG}{u:TGs}(h1:PG X e t)(h2:PGs X es u)(hs:(assignEach (e::es) X.env).map (·.2)=assign e X.env::(assignEach es X.env).map (·.2):=by rfl):PGs X (e::es) (dr' t u):=by
 intro pins s σ H vs us Q I r h;obtain⟨v,vr,e1,h⟩:=h;subst e1;cases r with
 |cons r rr=>
  rw[hs];refine assignInOrder_cons (thn (h1 pins s σ H _ _ _ I r h) λ_ s1 ⟨σ1,H1,I1,q1⟩=>?_);exact h2 pins s1 σ1 H1 _ _ Q I1 rr q1
inductive gTup (K:F__) (n:Nat) (t:TGs) (v:V) (σ:St) (H:Hp) (Q:St->Hp->Prop):Prop
 |mk:∀a xs,v=.ref a->SqT K H a xs->xs.length=n->t xs σ H Q->gTup K n t v σ H Q
theorem ch_{t:TGs}(hc:X.calm=true)(h:PGs X es t)(hn:(assignEach es X.env).length=n:=by rfl)(hst:(assignEach es X.env).findIdx? (·.1)=none:=by rfl):PG X (.Tuple es k pos) (gTup X.K n t):=by
 intro pins s σ H v u Q I r hw;obtain⟨a,xs,e1,hq,hl,hw⟩:=hw;subst e1;cases r;obtain⟨its,rv,ht,hz⟩:=I.tuple hq;refine assign_Tuple_tuple (I.ok.hd hc) ht (by simp[hn,<- hl,rv.length]) hst λh' hx=>?_;have I1:Inv X pins σ H { s with heap:=h' }:=I.kept (t':=s.toks) λb o e=>hx b o (av' (a_6 e)) e;exact h pins _ σ H xs _ Q I1 (by simpa using rv) hw
def gSub(to ti:TE)(t:TSet):TG:=λv σ H Q=>to σ H λo H1=>ti σ H1 λi H2=>t o i v H2 λH3=>Q σ H3
theorem im_{o i:Expr}{to ti:TE}{t:TSet}(ho:PE X o to)(hi:PE X i ti)(hs:PSet X t)
  (ha:∀v,assign (.Subscript o i pos) X.env v=(do
   let ov <- holding [v] (eval o X.env)
   let iv <- holding [v,ov] (eval i X.env)
   standAt pos
   holding [v,ov,iv] (setItem ov iv v)
   release [v,ov,iv] []):=by intro _;rfl):PG X (.Subscript o i pos) (gSub to ti t):=by
 intro pins s σ H v u Q I r h;rw[ha];refine a__ (c_4 (thn (ho pins s σ H _ I h) λov s1 ⟨x,H1,I1,r1,q1⟩=>?_));refine a__ (c_4 (thn (hi pins s1 σ H1 _ I1 q1) λiv s2 ⟨y,H2,I2,r2,q2⟩=>?_));refine a__ (wpAny_standAt (a__ (c_4 (thn (hs pins s2 σ H2 x y v ov iv u _ I2 r1 r2 r q2) λ_ s3 ⟨H3,I3,q3⟩=>?_))));exact wpAny_release ⟨σ,H3,I3,q3⟩
def tAsg(te:TE)(g:TG):TS:=λD σ H=>te σ H λx H1=>g x σ H1 D.nx
theorem gx_{e:Expr}{g:TG}(he:PE X e te)(hg:PG X tg g)(hs:swapsWithSole [tg] e pos.line X.env=pure false:=by rfl)(hw:swappedStores [tg] e X.env=pure none:=by rfl)(h1:(assignEach [tg] X.env).map (·.2)=[assign tg X.env]:=by rfl):PS X (.Assign [tg] e pos) (tAsg te g):=by
 intro pins s σ H D I h;refine wpAny_Assign_stores (thn (he pins s σ H _ I h) λv s1 ⟨x,H1,I1,r1,q1⟩=>?_) hs hw;rw[h1];exact thn (hg pins s1 σ H1 x v _ I1 r1 q1) λ_ s2 q=>q
theorem es_{i:Nat}{x:Str}{e:Expr}(hN:X.N.Nodup)(hi:X.N[i]? = some x)(hx:Loc X.env.scope x)(he:PE X e te)(hs:swapsWith e (some (.Name x pos')) pos.line X.env=pure false:=by rfl)(hf:X.fn x=true∨X.env.scope.names.lookup x=some .local:=by first|exact .inl rfl|exact .inr rfl|assumption) :
  PS X (.Assign [.Name x pos'] e pos) (tAsg te (bR' i)):=by
 intro pins s σ H D I h;refine wpAny_Assign_Name (thn (he pins s σ H _ I h) λv s1 ⟨y,H1,I1,r1,q1⟩=>?_) hs;exact dl_ I1 hN hi hx r1 (λs2 I2=>⟨_,H1,I2,q1⟩) hf
theorem ao_(i:Nat){x:Str}{e:Expr}(hN:X.N.Nodup)(he:PE X e te)(hi:X.N[i]? = some x:=by rfl)(hx:Loc X.env.scope x:=by first|exact Or.inl rfl|exact Or.inr rfl)(hs:swapsWith e (some (.Name x pos')) pos.line X.env=pure false:=by rfl)(hf:X.fn x=true∨X.env.scope.names.lookup x=some .local:=by first|exact .inl rfl|exact .inr rfl|assumption):PS X (.Assign [.Name x pos'] e pos) (tAsg te (bR' i)):=es_ hN hi hx he hs hf
end
section
variable{X:Cx}{pos:Pos}
end
structure It where
 go:Nat->Hp->Prop
 yld:Nat->Hp->V->Hp->Prop
 stop:Nat->Hp->Prop
def FpOk(X:Cx)(pins:List (Addr × Obj))(H:Hp)(b:Addr):Prop:=
 H b=none/\b≠X.env.locals/\b∉X.fs/\(b∈X.ex∨X.s₀.heap.objs.size<=b)/\(∀x c,X.env.cells.lookup x=some c->c≠b)/\∀p∈X.pn++pins,p.1≠b
theorem Inv.fpOk{X:Cx}{pins:List (Addr × Obj)}{H H':Hp}{s:Ac}(I:Inv X pins σ H s)(hb:s.heap.objs.size<=b)(hn:H' b=none):FpOk X pins H' b:=by
 refine⟨hn,a8' (ar' I.lt hb),I.nofs hb,.inr (a7' I.sz hb),λx c e z=>?_,λp hp z=>?_⟩
 ·obtain⟨v,q⟩:=I.cell x c e;exact absurd (ar' q.lt (by rw[z];exact hb)) (a6' _)
 ·exact absurd (ar' (a_6 (I.pin p hp).1) (by rw[z];exact hb)) (a6' _)
structure Turn (P:Ae) (w:Ag) (K:F__) (tg:Expr) (J:It) (fp:List Addr) (it:Addr) (tn:Nat->Heap->Prop):Prop where
 mem:it∈fp
 obj:∀i h,tn i h->∀b∈fp,∃o,h.get? b=some o/\∀v,o.data≠.cell v
 keep:∀i h h',tn i h->(∀b∈fp,∀o,h.get? b=some o->h'.get? b=some o)->tn i h'
 item:∀(X:Cx),X.prog=P->X.w=w->X.K=K->X.calm=true->∀(i:Nat) (pins:List (Addr × Obj)) (s:Ac) (σ:St) (H:Hp) (E:Aa->Ac->Prop),Inv X pins σ H s->(∀b∈fp,FpOk X pins H b)->tn i s.heap->J.go i H->
  wpAny (model P w) X.A (pyNext (.ref it)) (λr s1=>∃u,r=some u /\
   wpAny (model P w) X.A (letOwnedTupleGo tg (.ref it) u) (λ_ s2=>∃x H',Inv X pins σ H' s2/\RelV x u/\J.yld i H x H'/\tn (i+1) s2.heap/\∀b∈fp,H' b=none) E s1) E s
 done:∀(X:Cx),X.prog=P->X.w=w->X.K=K->X.calm=true->∀(i:Nat) (pins:List (Addr × Obj)) (s:Ac) (σ:St) (H:Hp) (E:Aa->Ac->Prop),Inv X pins σ H s->(∀b∈fp,FpOk X pins H b)->tn i s.heap->J.stop i H->
  wpAny (model P w) X.A (pyNext (.ref it)) (λr s1=>r=none/\Inv X pins σ H s1) E s
 self:∀(A:Ah) (i:Nat) (s:Ac) (Q:Aa->Ac->Prop) (E:Aa->Ac->Prop),tn i s.heap->Q (.ref it) s->wpAny (model P w) A (pyIter (.ref it)) Q E s
abbrev TI:=St->Hp->(It->Hp->Prop)->Prop
def PIE(X:Cx)(pins:List (Addr × Obj))(σ:St)(tg:Expr)(R:It->Hp->Prop)(itv:Aa)(s2:Ac):Prop:=
 ∃(it:Addr) (fp:List Addr) (tn:Nat->Heap->Prop) (J:It) (H':Hp),itv=.ref it/\Inv X pins σ H' s2/\Turn X.prog X.w X.K tg J fp it tn/\tn 0 s2.heap/\(∀b∈fp,FpOk X pins H' b)/\R J H'
def PI(X:Cx)(tg iter:Expr)(wi:TI):Prop:=
 ∀(pins:List (Addr × Obj)) (s:Ac) (σ:St) (H:Hp) (R:It->Hp->Prop),Inv X pins σ H s->wi σ H R->
  wpAny (model X.prog X.w) X.A (eval iter X.env) (λv s1=>wpAny (model X.prog X.w) X.A (pyIter v) (PIE X pins σ tg R) X.xe s1) X.xe s
variable{u:Aa}
theorem j2_{A:Ah}{E:Aa->Ac->Prop}{s:Ac}{n:Ai}{vs:Array Aa}{Q:Unit->Ac->Prop}(ho:s.heap.get? it=some o)(hc:o.cls=.type n)(hd:o.data=.fields vs)(hn:["enumerate","zip","dict_itemiterator","dict_reverseitemiterator","odict_iterator","itertools.zip_longest","itertools.pairwise"].contains n=false)(hQ:Q () s):wpAny M A (letOwnedTupleGo tg (.ref it) u) Q E s:=by
 unfold letOwnedTupleGo
 cases tg<;>first
  |exact a_2 hQ
  |(cases u<;>first
    |exact a_2 hQ
    |(refine a__ (wpAny_load ho ?_)
      rw[hc,hd];show wpAny M A (if (["enumerate","zip","dict_itemiterator","dict_reverseitemiterator","odict_iterator","itertools.zip_longest","itertools.pairwise"].contains n&&vs[0]? == some (rawInt _))=true then _ else _) Q E s;rw[a_8 (by intro h;rw[hn,Bool.false_and] at h;cases h)];exact a_2 hQ))
def Itl(K:F__)(a:Addr):It:=
 ⟨λi H=>∃xs x,SqL K H a xs/\xs[i]? = some x,λi H x H'=>H'=H/\∀xs,SqL K H a xs->xs[i]? = some x,λi H=>∃xs,SqL K H a xs/\xs.length<=i⟩
def Itr(lo:Int)(n:Nat):It:=⟨λi _=>i<n,λi H x H'=>H'=H/\x=.int (lo+i),λi _=>n<=i⟩
variable{w:Ag}
theorem hN_{K:F__}(a it:Addr):Turn P w K tg (Itl K a) [it] it (λi h=>h.IsListIter it a i) where
 mem:=by simp
 obj:=λi h st b hb=>by
  have e:b=it:=by simpa using hb
  subst e;obtain⟨o,e,c,d⟩:=st;exact⟨o,e,λv z=>by rw[d] at z;cases z⟩
 keep:=λi h h' st k=>st.at λo e=>k it Z2 o e
 item:=by
  intro X hP hw hK hc i pins s σ H E I hf st hg;subst hP hw hK;obtain⟨xs,x,hq,hx⟩:=hg;obtain⟨its,rv,p,hz⟩:=I.list hq;obtain⟨u,hu,ru⟩:=rv.get hx;obtain⟨f0,f1,f2,f3,f4,f5⟩:=hf it Z2;refine wpAny_pyNext_list_item st p.isList (x:=u) (by simpa using hu) λh' st' sb=>?_;have I1:Inv X pins σ H { s with heap:=h' }:=I.turned (t':=s.toks) (λb o hb e=>(sb.2 b hb).trans e) f0 f1 f3 f4 f5;obtain⟨o,e,c,d⟩:=id st';exact⟨u,rfl,j2_ (s:={ s with heap:=h' }) e c d (by decide) ⟨x,H,I1,ru,⟨rfl,λys hy=>by rw[I.list_inj hy hq];exact hx⟩,st',λb hb=>(hf b hb).1⟩⟩
 done:=by
  intro X hP hw hK hc i pins s σ H E I hf st hg;subst hP hw hK;obtain⟨xs,hq,hx⟩:=hg;obtain⟨its,rv,p,hz⟩:=I.list hq;obtain⟨f0,f1,f2,f3,f4,f5⟩:=hf it Z2;have hl:=rv.length;exact wpAny_pyNext_list_end (I.ok.hd hc) st p.isList (by simp;omega) λh' eb=>⟨rfl,I.turned (t':=s.toks) (λb o hb e=>eb b o hb e) f0 f1 f3 f4 f5⟩
 self:=λ_ _ _ _ _ st h=>wpAny_pyIter_listiter st h
theorem hn_{K:F__}(it:Addr)(lo:Int)(n:Nat):Turn P w K tg (Itr lo n) [it] it (λi h=>IsRangeIter h it (lo+(i:Nat) * 1) ((n:Int) - (i:Nat)) 1) where
 mem:=by simp
 obj:=λi h st b hb=>by
  have e:b=it:=by simpa using hb
  subst e
  exact⟨_,st,λv z=>by
   have z':Data.fields _=Data.cell v:=z;cases z'⟩
 keep:=λi h h' st k=>k it Z2 _ st
 item:=by
  intro X hP hw hK hc i pins s σ H E I hf st hg;subst hP hw hK;obtain⟨f0,f1,f2,f3,f4,f5⟩:=hf it Z2;have W:=Walks.range (prog:=X.prog) (w:=X.w) (I.ok.hd hc) it lo 1 n;refine W.item i s _ _ hg st λv h' tk hv st' kk=>?_;obtain⟨t,rfl⟩:=hv;have I1:Inv X pins σ H { s with heap:=h',toks:=tk }:=I.turned (λb o hb e=>kk b o (by simpa using hb) e) f0 f1 f3 f4 f5;refine⟨_,rfl,j2_ (s:={ s with heap:=h',toks:=tk }) (n:="range_iterator") st' rfl rfl (by decide) ⟨.int (lo+i),H,I1,⟨t,?_⟩,⟨rfl,rfl⟩,st',λb hb=>(hf b hb).1⟩⟩;rw[Int.mul_one]
 done:=by
  intro X hP hw hK hc i pins s σ H E I hf st hg;subst hP hw hK;obtain⟨f0,f1,f2,f3,f4,f5⟩:=hf it Z2;exact wpAny_pyNext_range_end (I.ok.hd hc) st (by have:n<=i:=hg;omega) λh' eb=>⟨rfl,I.turned (t':=s.toks) (λb o hb e=>eb b o hb e) f0 f1 f3 f4 f5⟩
 self:=λ_ _ _ _ _ st h=>wpAny_pyIter_rangeiter st h
inductive iListR (K:F__) (R:It->Hp->Prop) (x:V) (H1:Hp):Prop
 |mk:∀a,x=.ref a->(∃xs,SqL K H1 a xs)->R (Itl K a) H1->iListR K R x H1
def iList(K:F__)(tl:TE):TI:=λσ H R=>tl σ H λx H1=>iListR K R x H1
variable{X:Cx}
theorem ah_{l:Expr}{tl:TE}(hl:PE X l tl):PI X tg l (iList X.K tl):=by
 intro pins s σ H R I h;refine thn (hl pins s σ H _ I h) λv s1 ⟨x,H1,I1,r1,q1⟩=>?_;obtain⟨a,e,⟨xs,hq⟩,q⟩:=q1;subst e;cases r1;obtain⟨its,rv,p,hz⟩:=I1.list hq;refine wpAny_pyIter_list p.isList ?_;refine⟨s1.heap.objs.size,[s1.heap.objs.size],_,_,H1,rfl,I1.kept (t':=s1.toks) λb o e=>a_0 _ e,hN_ a _,⟨_,a_7 _ rfl,rfl,rfl⟩,λb hb=>?_,q⟩;have e:b=s1.heap.objs.size:=by simpa using hb
 subst e;exact I1.fpOk (ak' _) (I1.hok.fresh (ak' _))
variable{pins:List (Addr × Obj)}{lo:Int}
theorem gT_{H:Hp}{s:Ac}{R:It->Hp->Prop}{E:Aa->Ac->Prop}{hi:Int}{t u v:Tok}{tk:Nat}(I:Inv X pins σ H s)(h1:-(2 ^ 62)<=lo)(h2:lo<2 ^ 62)(h3:-(2 ^ 62)<=hi)(h4:hi<2 ^ 62)(q:R (Itr lo (hi - lo).toNat) H):wpAny (model X.prog X.w) X.A (pyIter (.ref s.heap.objs.size)) (PIE X pins σ tg R) E { s with heap:=s.heap.push { cls:=.type "range",data:=.fields #[.int lo t,.int hi u,.int 1 v] },toks:=tk }:=by
 refine wpAny_pyIter_range (IsRange.new ..) (small_one h1 h2 h3 h4) ?_;have I1:Inv X pins σ H { s with heap:=s.heap.push { cls:=.type "range",data:=.fields #[.int lo t,.int hi u,.int 1 v] },toks:=tk }:=I.kept λb o e=>a_0 _ e
 refine⟨(s.heap.push { cls:=.type "range",data:=.fields #[.int lo t,.int hi u,.int 1 v] }).objs.size,[(s.heap.push { cls:=.type "range",data:=.fields #[.int lo t,.int hi u,.int 1 v] }).objs.size],_,_,H,rfl,
  I1.kept (t':=tk) λb o e=>a_0 _ e,hn_ _ lo (hi - lo).toNat,?_,λb hb=>?_,q⟩
 ·have e1:lo+((0:Nat):Int) * 1=lo:=by simp
  have e2:(((hi - lo).toNat:Nat):Int) - ((0:Nat):Int)=Builtin.Range.rangeSize lo hi 1:=by rw[rangeSize_one];split<;>omega
  show IsRangeIter _ _ (lo+((0:Nat):Int) * 1) ((((hi - lo).toNat:Nat):Int) - ((0:Nat):Int)) 1;rw[e1,e2];exact a_7 _ rfl
 ·have e:b=(s.heap.push { cls:=.type "range",data:=.fields #[.int lo t,.int hi u,.int 1 v] }).objs.size:=by simpa using hb
  subst e;exact I1.fpOk (ak' _) (I1.hok.fresh (ak' _))
inductive iRng1R (R:It->Hp->Prop) (vs:List V) (H1:Hp):Prop
 |mk:∀j:Int,vs=[.int j]->-(2 ^ 62)<=j->j<2 ^ 62->R (Itr 0 j.toNat) H1->iRng1R R vs H1
def iRng1(ta:TA):TI:=λσ H R=>ta σ H λvs H1=>iRng1R R vs H1
inductive iRng2R (R:It->Hp->Prop) (vs:List V) (H1:Hp):Prop
 |mk:∀i j:Int,vs=[.int i,.int j]->(-(2 ^ 62)<=i/\i<2 ^ 62/\-(2 ^ 62)<=j/\j<2 ^ 62)->R (Itr i (j - i).toNat) H1->iRng2R R vs H1
def iRng2(ta:TA):TI:=λσ H R=>ta σ H λvs H1=>iRng2R R vs H1
variable{ta:TA}{p:Pos}
theorem eS_{a:Expr}(hg:Gl X "range")(hm:X.mg "range"=none)(ha:PA X [a] ta)(hs:starEach [a] X.env=[(false,eval a X.env)]:=by rfl):PI X tg (.Call (.Name "range" p) [a] [] pos) (iRng1 ta):=by
 intro pins s σ H R I h;refine Call_ (ef_ I hg hm boot_range (PyProof.Rows.callWith_type1 (thn (ha pos pins s σ H _ I h) λus s1 ⟨vs,H1,I1,r1,q1⟩=>?_) hs rfl));obtain⟨j,e,q1,q2,q⟩:=q1;subst e;cases r1 with
 |cons r rr=>
  cases rr;obtain⟨t,rfl⟩:=r;exact call_range_1 (gT_ I1 Z1 Z1 q1 q2 (by simpa using q))
theorem iC_{a b:Expr}(hg:Gl X "range")(hm:X.mg "range"=none)(ha:PA X [a,b] ta)(hs:starEach [a,b] X.env=[(false,eval a X.env),(false,eval b X.env)]:=by rfl)(hs2:starEach [b] X.env=[(false,eval b X.env)]:=by rfl) :
  PI X tg (.Call (.Name "range" p) [a,b] [] pos) (iRng2 ta):=by
 intro pins s σ H R I h;refine Call_ (ef_ I hg hm boot_range (PyProof.Rows.callWith_type1 (thn (ha pos pins s σ H _ I h) λus s1 ⟨vs,H1,I1,r1,q1⟩=>?_) (by rw[hs,hs2]) (by rw[hs2];rfl)));obtain⟨i,j,e,⟨q1,q2,q3,q4⟩,q⟩:=q1;subst e;cases r1 with
 |cons r rr=>
  cases rr with
  |cons r' rr=>
   cases rr;obtain⟨t,rfl⟩:=r;obtain⟨t',rfl⟩:=r';exact call_range_2 (gT_ I1 q1 q2 q3 q4 q)
def tFor(wi:TI)(g:TG)(tb:TS):TS:=λD σ H=>wi σ H λJ H1=>∃W:Nat->Nat->St->Hp->Prop,(∃m,W 0 m σ H1)/\∀i m σ H,W i m σ H->
 (J.stop i H/\D.nx σ H)∨(J.go i H/\∃N:St->Hp->Prop,(∀σ' H',N σ' H'->∃m',m'<m/\W (i+1) m' σ' H')/\∀x H',J.yld i H x H'->g x σ H' λσ2 H2=>tb { D with nx:=N,ct:=N,bk:=D.nx } σ2 H2)
def eg'(fp:List Addr)(h:Heap):List (Addr × Obj):=fp.filterMap λb=>(h.get? b).map λo=>(b,o)
variable{fp:List Addr}
theorem cr_(hb:b∈fp)(e:h.get? b=some o):(b,o)∈eg' fp h:=aB'.mpr ⟨b,hb,by rw[e];rfl⟩
theorem ij_{p:Addr × Obj}(hp:p∈eg' fp h):p.1∈fp/\h.get? p.1=some p.2:=by
 obtain⟨b,hb,e⟩:=aB'.mp hp;cases q:h.get? b with
 |none=>rw[q] at e;cases e
 |some o=>
  rw[q] at e;have e':(b,o)=p:=b_2 e;subst e';exact⟨hb,q⟩
theorem Inv.pinned{H:Hp}{s:Ac}(I:Inv X pins σ H s)(hf:∀b∈fp,FpOk X pins H b)(ho:∀b∈fp,∃o,s.heap.get? b=some o/\∀v,o.data≠.cell v):Inv X (pins++eg' fp s.heap) σ H s:=
 I.pins_of λp hp=>(am'.mp hp).elim (λz=>I.pin p (aD' _ z)) λz=>by
  obtain⟨hb,e⟩:=ij_ z;obtain⟨f0,f1,f2,_⟩:=hf p.1 hb;obtain⟨o,e',d⟩:=ho p.1 hb;rw[e] at e';cases e';exact⟨e,f0,f1,f2,d⟩
theorem Inv.unpinned{pl:List (Addr × Obj)}{H:Hp}{s:Ac}(I:Inv X (pins++pl) σ H s):Inv X pins σ H s:=I.pins_of λp hp=>I.pin p (aD' _ (List.mem_append_left _ hp))
variable{body:List Stmt}{tb:TS}
theorem b3_{iter:Expr}{wi:TI}{g:TG}(hp:PassesOwn (model X.prog X.w) X.A X.env X.xe)(hc:X.calm=true)(hi:PI X tg iter wi)(hg:PG X tg g)(hb:PSs X body tb)(hs:∀x,foldedSetIterable iter X.env x=pure x:=by intro _;rfl):PS X (.For tg iter body [] pos) (tFor wi g tb):=by
 intro pins s σ H D I h;refine wpAny_For (thn (hi pins s σ H _ I h) λv s1 h1=>thn h1 λitv s2 h2=>?_) hs;obtain⟨it,fp,tn,J,H2,e,I2,T,st2,f2,W,⟨m0,w0⟩,turn⟩:=h2;subst e;have stat:∀{H':Hp},(∀b∈fp,H' b=none)->∀b∈fp,FpOk X pins H' b:=λhn b hb=>⟨hn b hb,(f2 b hb).2⟩;refine codeAny_forLoop_any (λn s'=>∃i σ' H',Inv X pins σ' H' s'/\tn i s'.heap/\(∀b∈fp,H' b=none)/\W i n σ' H') ?_ m0 ⟨0,σ,H2,I2,st2,λb hb=>(f2 b hb).1,w0⟩;rintro n s3 ⟨i,σ3,H3,I3,st3,fr3,w3⟩;rcases turn i n σ3 H3 w3 with⟨stop,qn⟩|⟨go,N,hN,step⟩
 ·refine wpAny_passesOwn hp (thn (T.done X rfl rfl rfl hc i pins s3 σ3 H3 X.xe I3 (stat fr3) st3 stop) λr s4 ⟨hr,I4⟩=>?_);subst hr;exact wpAny_execs_nil ⟨σ3,H3,I4,qn⟩
 ·refine wpAny_passesOwn hp (thn (T.item X rfl rfl rfl hc i pins s3 σ3 H3 X.xe I3 (stat fr3) st3 go) λr s4 ⟨u,hr,h4⟩=>?_);subst hr;refine wpAny_passesOwn hp (thn h4 λ_ s5 ⟨x,H5,I5,r5,y5,st5,fr5⟩=>?_);have I5':=I5.pinned (stat fr5) (T.obj _ _ st5);refine wpAny_passesOwn hp (thn (hg _ s5 σ3 H5 x u _ I5' r5 (step x H5 y5)) λ_ s6 ⟨σ6,H6,I6,q6⟩=>?_);refine wpAny_passesOwn hp (thn (hb _ s6 σ6 H6 _ I6 q6) λf s7 q7=>?_)
  have again:∀{σ7:St} {H7:Hp},Inv X (pins++eg' fp s5.heap) σ7 H7 s7->N σ7 H7->∃m,m<n/\∃i σ' H',Inv X pins σ' H' s7/\tn i s7.heap/\(∀b∈fp,H' b=none)/\W i m σ' H':=λ{σ7 H7} I7 n7=>by
   obtain⟨m',hm,w7⟩:=hN σ7 H7 n7;refine⟨m',hm,i+1,σ7,H7,I7.unpinned,T.keep _ _ _ st5 λb hb o e=>(I7.pin (b,o) (aD' _ (aD' _ (cr_ hb e)))).1,λb hb=>?_,w7⟩;obtain⟨o,e,d⟩:=T.obj _ _ st5 b hb;exact (I7.pin (b,o) (aD' _ (aD' _ (cr_ hb e)))).2.1
  cases f with
  |next=>obtain⟨σ7,H7,I7,n7⟩:=q7;exact again I7 n7
  |cont=>obtain⟨σ7,H7,I7,n7⟩:=q7;exact again I7 n7
  |brk=>obtain⟨σ7,H7,I7,q7⟩:=q7;exact⟨σ7,H7,I7.unpinned,q7⟩
  |ret v=>obtain⟨x7,σ7,H7,I7,r7,q7⟩:=q7;exact⟨x7,σ7,H7,I7.unpinned,r7,q7⟩
theorem aV_{K:F__}{xs:List V}{g:TG}{D:Ends}{H:Hp}(Pv:Nat->St->Hp->Prop)(h0:Pv 0 σ H)(hl:∀i σ H,i<=xs.length->Pv i σ H->SqL K H a xs)(hs:∀i x σ H,xs[i]? = some x->Pv i σ H->g x σ H λσ2 H2=>tb { D with nx:=Pv (i+1),ct:=Pv (i+1),bk:=D.nx } σ2 H2)(hd:∀σ H,Pv xs.length σ H->D.nx σ H) :
  ∃W:Nat->Nat->St->Hp->Prop,(∃m,W 0 m σ H)/\∀i m σ H,W i m σ H->
   ((Itl K a).stop i H/\D.nx σ H)∨((Itl K a).go i H/\∃N:St->Hp->Prop,(∀σ' H',N σ' H'->∃m',m'<m/\W (i+1) m' σ' H')/\∀x H',(Itl K a).yld i H x H'->g x σ H' λσ2 H2=>tb { D with nx:=N,ct:=N,bk:=D.nx } σ2 H2):=by
 refine⟨λi m σ H=>m=xs.length - i/\i<=xs.length/\Pv i σ H,⟨xs.length,by simp,aJ' _,h0⟩,?_⟩;rintro i m σ H ⟨rfl,hi,p⟩;have q:=hl i σ H hi p;by_cases hlt:i<xs.length
 ·refine .inr ⟨⟨xs,xs[i],q,by simp[hlt]⟩,Pv (i+1),λσ' H' p'=>⟨xs.length - (i+1),by omega,rfl,hlt,p'⟩,λx H' y=>?_⟩;obtain⟨e,y⟩:=y;subst e;exact hs i x σ _ (y xs q) p
 ·have e:i=xs.length:=by omega
  subst e;exact .inl ⟨⟨xs,q,ak' _⟩,hd σ H p⟩
theorem dD_{g:TG}{D:Ends}{H:Hp}(Pv:Nat->St->Hp->Prop)(h0:Pv 0 σ H)(hs:∀i σ H,i<n->Pv i σ H->g (.int (lo+i)) σ H λσ2 H2=>tb { D with nx:=Pv (i+1),ct:=Pv (i+1),bk:=D.nx } σ2 H2)(hd:∀σ H,Pv n σ H->D.nx σ H) :
  ∃W:Nat->Nat->St->Hp->Prop,(∃m,W 0 m σ H)/\∀i m σ H,W i m σ H->
   ((Itr lo n).stop i H/\D.nx σ H)∨((Itr lo n).go i H/\∃N:St->Hp->Prop,(∀σ' H',N σ' H'->∃m',m'<m/\W (i+1) m' σ' H')/\∀x H',(Itr lo n).yld i H x H'->g x σ H' λσ2 H2=>tb { D with nx:=N,ct:=N,bk:=D.nx } σ2 H2):=by
 refine⟨λi m σ H=>m=n - i/\i<=n/\Pv i σ H,⟨n,by simp,aJ' _,h0⟩,?_⟩;rintro i m σ H ⟨rfl,hi,p⟩;by_cases hlt:i<n
 ·refine .inr ⟨hlt,Pv (i+1),λσ' H' p'=>⟨n - (i+1),by omega,rfl,hlt,p'⟩,λx H' y=>?_⟩;obtain⟨e,y⟩:=y;subst e y;exact hs i σ _ hlt p
 ·have e:i=n:=by omega
  subst e;exact .inl ⟨ak' _,hd σ H p⟩
abbrev R2:=V->V->Hp->VK->Prop
def OpR(X:Cx)(f:Aa->Aa->Sem Aa)(r:R2):Prop:=
 ∀(pins:List (Addr × Obj)) (s:Ac) (σ:St) (H:Hp) (x y:V) (v u:Aa) (Q:VK),Inv X pins σ H s->RelV x v->RelV y u->r x y H Q->
  wpAny (model X.prog X.w) X.A (f v u) (EP X pins σ Q) X.xe s
def UnR(X:Cx)(f:Aa->Sem Aa)(r:V->Hp->VK->Prop):Prop:=
 ∀(pins:List (Addr × Obj)) (s:Ac) (σ:St) (H:Hp) (x:V) (v:Aa) (Q:VK),Inv X pins σ H s->RelV x v->r x H Q->
  wpAny (model X.prog X.w) X.A (f v) (EP X pins σ Q) X.xe s
def bB'(X:Cx)(f:Aa)(r:List V->Hp->VK->Prop):Prop:=
 ∀(pins:List (Addr × Obj)) (s:Ac) (σ:St) (H:Hp) (xs:List V) (us:List Aa) (Q:VK),Inv X pins σ H s->Vals xs us->r xs H Q->
  wpAny (model X.prog X.w) X.A (call f us) (EP X pins σ Q) X.xe s
def tOp(r:R2)(ta tb:TE):TE:=λσ H Q=>ta σ H λx H1=>tb σ H1 λy H2=>r x y H2 Q
def tUn(r:V->Hp->VK->Prop)(ta:TE):TE:=λσ H Q=>ta σ H λx H1=>r x H1 Q
inductive rI (C:Int->Int->Prop) (g:Int->Int->V) (x:V) (y:V) (H:Hp) (Q:VK):Prop
 |mk:∀i j,x=.int i->y=.int j->C i j->Q (g i j) H->rI C g x y H Q
inductive rI0 (g:Int->Int->V) (x:V) (y:V) (H:Hp) (Q:VK):Prop
 |mk:∀i j,x=.int i->y=.int j->Q (g i j) H->rI0 g x y H Q
inductive rU (g:Int->V) (x:V) (H:Hp) (Q:VK):Prop
 |mk:∀i,x=.int i->Q (g i) H->rU g x H Q
variable{r:R2}
variable{g:Int->Int->Int}
variable{j:Int}
section
variable{X:Cx}{a b c:Expr}{ta tb tc:TE}{pos:Pos}
theorem binT(ha:PE X a ta)(hb:PE X b tb){s:Ac}{H:Hp}{R:V->V->Hp->Prop}(I:Inv X pins σ H s)(h:ta σ H λx H1=>tb σ H1 λy H2=>R x y H2){Q:Aa->Ac->Prop}{f:Aa->Aa->Sem Aa}(hf:∀v u s2 x y H2,Inv X pins σ H2 s2->RelV x v->RelV y u->R x y H2->wpAny (model X.prog X.w) X.A (f v u) Q X.xe s2) :
  wpAny (model X.prog X.w) X.A (eval a X.env) (λv s₁=>wpAny (model X.prog X.w) X.A (eval b X.env) (λu s₂=>wpAny (model X.prog X.w) X.A (f v u) Q X.xe s₂) X.xe s₁) X.xe s:=by
 refine thn (ha pins s σ H _ I h) λv s1 ⟨x,H1,I1,r1,q1⟩=>?_;refine thn (hb pins s1 σ H1 _ I1 q1) λu s2 ⟨y,H2,I2,r2,q2⟩=>?_;exact hf v u s2 x y H2 I2 r1 r2 q2
theorem af_{op:Operator}(ho:OpR X (binaryOp op) r)(ha:PE X a ta)(hb:PE X b tb):PE X (.BinOp a op b pos) (tOp r ta tb):=by
 intro pins s σ H Q I h;exact wpAny_BinOp (binT ha hb I h λv u s2 x y H2 I2 rx ry q=>ho pins s2 σ H2 x y v u Q I2 rx ry q)
theorem kI_{op:UnaryOp}{r:V->Hp->VK->Prop}(ho:UnR X (unaryOp op) r)(ha:PE X a ta):PE X (.UnaryOp op a pos) (tUn r ta):=by
 intro pins s σ H Q I h;exact UnaryOp_ (thn (ha pins s σ H _ I h) λv s1 ⟨x,H1,I1,r1,q1⟩=>ho pins s1 σ H1 x v Q I1 r1 q1)
theorem opI{f:Aa->Aa->Sem Aa}{C:Int->Int->Prop}(rule:∀(i j:Int) (t u:Tok) (s:Ac) (Q:Aa->Ac->Prop) (E:Aa->Ac->Prop),C i j->Q (.int (g i j) s.toks) { s with toks:=s.toks+1 }->wpAny (model X.prog X.w) X.A (f (.int i t) (.int j u)) Q E s) :
  OpR X f (rI C λi j=>.int (g i j)):=by
 intro pins s σ H x y v u Q I rx ry h;obtain⟨i,j,rfl,rfl,hc,q⟩:=h;obtain⟨t,rfl⟩:=rx;obtain⟨t',rfl⟩:=ry;exact rule i j t t' s _ _ hc ⟨.int (g i j),H,I.tok _,⟨_,rfl⟩,q⟩
theorem opI0{f:Aa->Aa->Sem Aa}(rule:∀(i j:Int) (t u:Tok) (s:Ac) (Q:Aa->Ac->Prop) (E:Aa->Ac->Prop),Q (.int (g i j) s.toks) { s with toks:=s.toks+1 }->wpAny (model X.prog X.w) X.A (f (.int i t) (.int j u)) Q E s) :
  OpR X f (rI0 λi j=>.int (g i j)):=by
 intro pins s σ H x y v u Q I rx ry h;obtain⟨i,j,rfl,rfl,q⟩:=h;obtain⟨t,rfl⟩:=rx;obtain⟨t',rfl⟩:=ry;exact rule i j t t' s _ _ ⟨.int (g i j),H,I.tok _,⟨_,rfl⟩,q⟩
theorem opB0{f:Aa->Aa->Sem Aa}{g:Int->Int->Bool}
  (rule:∀(i j:Int) (t u:Tok) (s:Ac) (Q:Aa->Ac->Prop) (E:Aa->Ac->Prop),Q (.bool (g i j)) s->wpAny (model X.prog X.w) X.A (f (.int i t) (.int j u)) Q E s) :
  OpR X f (rI0 λi j=>.bl (g i j)):=by
 intro pins s σ H x y v u Q I rx ry h;obtain⟨i,j,rfl,rfl,q⟩:=h;obtain⟨t,rfl⟩:=rx;obtain⟨t',rfl⟩:=ry;exact rule i j t t' s _ _ ⟨.bl (g i j),H,I,rfl,q⟩
def CDiv(i j:Int):Prop:=0<j/\j<1073741824
def CPow(i j:Int):Prop:=0<=j/\j<=1000000/\i.natAbs<2 ^ 64
def CMul(i j:Int):Prop:=(-(2 ^ 64)<i/\i<2 ^ 64)∨(-(2 ^ 64)<j/\j<2 ^ 64)
theorem CMul.ok{i:Int}(h:CMul i j):IntMulOk i j:=by
 rcases h with⟨h1,h2⟩|⟨h1,h2⟩
 ·exact .of_left (intBits_le_64 h1 h2)
 ·exact .of_right (intBits_le_64 h1 h2)
theorem b7_:OpR X (binaryOp .Add) (rI0 λi j=>.int (i+j)):=opI0 λ_ _ _ _ _ _ _ q=>add_int q
theorem gm_:OpR X (binaryOp .Sub) (rI0 λi j=>.int (i - j)):=opI0 λ_ _ _ _ _ _ _ q=>sub_int q
theorem fk_:OpR X (binaryOp .Mult) (rI CMul λi j=>.int (i * j)):=opI λ_ _ _ _ _ _ _ hc q=>mul_int q hc.ok
theorem dV_:OpR X (binaryOp .FloorDiv) (rI CDiv λi j=>.int (i / j)):=opI λi j _ _ _ _ _ hc q=>by
 have h1:(0:Int)<j:=hc.1;have h2:j<1073741824:=hc.2;exact floordiv_int Z1 (by rw[Int.fdiv_eq_ediv_of_nonneg i Z1];exact q) (.inl (PyProof.noPylong_small Z1))
theorem dU_:OpR X (binaryOp .Mod) (rI (λ_ j=>0<j) λi j=>.int (i % j)):=opI λi j _ _ _ _ _ hc q=>by
 have h1:(0:Int)<j:=hc;exact mod_int' Z1 (by rw[Int.fmod_eq_emod_of_nonneg i Z1];exact q)
theorem iF_:OpR X (binaryOp .Pow) (rI CPow λi j=>.int (i ^ j.toNat)):=opI λ_ _ _ _ _ _ _ hc q=>pow_int_small hc.1 hc.2.1 hc.2.2 q
theorem unI{f:Aa->Sem Aa}{g:Int->Int}
  (rule:∀(i:Int) (t:Tok) (s:Ac) (Q:Aa->Ac->Prop) (E:Aa->Ac->Prop),Q (.int (g i) s.toks) { s with toks:=s.toks+1 }->wpAny (model X.prog X.w) X.A (f (.int i t)) Q E s) :
  UnR X f (rU λi=>.int (g i)):=by
 intro pins s σ H x v Q I rx h;obtain⟨i,rfl,q⟩:=h;obtain⟨t,rfl⟩:=rx;exact rule i t s _ _ ⟨.int (g i),H,I.tok _,⟨_,rfl⟩,q⟩
theorem hB_:UnR X (unaryOp .USub) (rU λi=>.int (-i)):=unI λ_ _ _ _ _ q=>neg_int q
end
def scal:V->V->Bool
 |.non,.non=>true | .non,.int _=>true | .int _,.non=>true | .non,.bl _=>true | .bl _,.non=>true | .non,.str _=>true | .str _,.non=>true
 |.int _,.int _=>true | .bl _,.bl _=>true | .str _,.str _=>true | .byt _,.byt _=>true
 |.int _,.str _=>true | .str _,.int _=>true | .bl _,.str _=>true | .str _,.bl _=>true
 |_,_=>false
def rEq:R2:=λx y H Q=>scal x y=true/\Q (.bl (decide (x=y))) H
def rNe:R2:=λx y H Q=>scal x y=true/\Q (.bl (!decide (x=y))) H
theorem hP_{i:Int}:decide (V.int i=V.int j)=(i == j):=by
 rw[Bool.eq_iff_iff];simp
theorem km_{i j:Bool}:decide (V.bl i=V.bl j)=(i == j):=by
 rw[Bool.eq_iff_iff];simp
theorem b6_{i j:Str}:decide (V.str i=V.str j)=(i == j):=by
 rw[Bool.eq_iff_iff];simp
theorem id_{i j:Array UInt8}:decide (V.byt i=V.byt j)=(i.toList == j.toList):=by
 rw[Bool.eq_iff_iff];cases i;cases j;simp
variable{op':CmpOp}{r':R2}
section
variable{X:Cx}{a b c:Expr}{ta tb tc:TE}{pos:Pos}
theorem aW_{H:Hp}{s:Ac}{Q:VK}{k k':Bool}(I:Inv X pins σ H s)(q:Q (.bl k) H)(e:k=k'):EP X pins σ Q (.bool k') s:=by
 subst e;exact⟨.bl k,H,I,rfl,q⟩
theorem bj_:OpR X (compareOp .Eq) rEq:=by
 intro pins s σ H x y v u Q I rx ry h;obtain⟨hs,q⟩:=h;cases x with
 |non=>
  cases rx;cases y with
  |non=>cases ry;exact PySem.EqNone.eq_none_none (aW_ I q Z2)
  |bl j=>cases ry;exact PySem.EqNone.eq_none_bool (aW_ I q Z2)
  |int j=>obtain⟨t',rfl⟩:=ry;exact PySem.EqNone.eq_none_int (aW_ I q Z2)
  |str j=>obtain⟨t',rfl⟩:=ry;exact PySem.EqNone.eq_none_str (aW_ I q Z2)
  |_=>exact absurd (show false=true from hs) ax'
 |bl i=>
  cases rx;cases y with
  |non=>cases ry;exact PySem.EqNone.eq_bool_none (aW_ I q Z2)
  |bl j=>cases ry;exact eq_bool (aW_ I q km_)
  |str j=>obtain⟨t',rfl⟩:=ry;exact PySem.EqMixed.eq_bool_str (aW_ I q Z2)
  |_=>exact absurd (show false=true from hs) ax'
 |int i=>
  obtain⟨t,rfl⟩:=rx;cases y with
  |non=>cases ry;exact PySem.EqNone.eq_int_none (aW_ I q Z2)
  |int j=>obtain⟨t',rfl⟩:=ry;exact eq_int (aW_ I q hP_)
  |str j=>obtain⟨t',rfl⟩:=ry;exact PySem.EqMixed.eq_int_str (aW_ I q Z2)
  |_=>exact absurd (show false=true from hs) ax'
 |str i=>
  obtain⟨t,rfl⟩:=rx;cases y with
  |non=>cases ry;exact PySem.EqNone.eq_str_none (aW_ I q Z2)
  |bl j=>cases ry;exact PySem.EqMixed.eq_str_bool (aW_ I q Z2)
  |int j=>obtain⟨t',rfl⟩:=ry;exact PySem.EqMixed.eq_str_int (aW_ I q Z2)
  |str j=>obtain⟨t',rfl⟩:=ry;exact eq_str (aW_ I q b6_)
  |_=>exact absurd (show false=true from hs) ax'
 |byt i=>
  obtain⟨t,rfl⟩:=rx;cases y with
  |byt j=>obtain⟨t',rfl⟩:=ry;exact PySem.W.eq_bytes (aW_ I q id_)
  |_=>exact absurd (show false=true from hs) ax'
 |_=>cases y<;>exact absurd (show false=true from hs) ax'
theorem e6_:OpR X (compareOp .NotEq) rNe:=by
 intro pins s σ H x y v u Q I rx ry h;obtain⟨hs,q⟩:=h;cases x with
 |non=>
  cases rx;cases y with
  |non=>cases ry;exact PySem.EqNone.ne_none_none (aW_ I q Z2)
  |bl j=>cases ry;exact PySem.EqNone.ne_none_bool (aW_ I q Z2)
  |int j=>obtain⟨t',rfl⟩:=ry;exact PySem.EqNone.ne_none_int (aW_ I q Z2)
  |str j=>obtain⟨t',rfl⟩:=ry;exact PySem.EqNone.ne_none_str (aW_ I q Z2)
  |_=>exact absurd (show false=true from hs) ax'
 |bl i=>
  cases rx;cases y with
  |non=>cases ry;exact PySem.EqNone.ne_bool_none (aW_ I q Z2)
  |bl j=>cases ry;exact ne_bool (aW_ I q (c_1 not km_))
  |str j=>obtain⟨t',rfl⟩:=ry;exact PySem.EqMixed.ne_bool_str (aW_ I q Z2)
  |_=>exact absurd (show false=true from hs) ax'
 |int i=>
  obtain⟨t,rfl⟩:=rx;cases y with
  |non=>cases ry;exact PySem.EqNone.ne_int_none (aW_ I q Z2)
  |int j=>obtain⟨t',rfl⟩:=ry;exact ne_int (aW_ I q (c_1 not hP_))
  |str j=>obtain⟨t',rfl⟩:=ry;exact PySem.EqMixed.ne_int_str (aW_ I q Z2)
  |_=>exact absurd (show false=true from hs) ax'
 |str i=>
  obtain⟨t,rfl⟩:=rx;cases y with
  |non=>cases ry;exact PySem.EqNone.ne_str_none (aW_ I q Z2)
  |bl j=>cases ry;exact PySem.EqMixed.ne_str_bool (aW_ I q Z2)
  |int j=>obtain⟨t',rfl⟩:=ry;exact PySem.EqMixed.ne_str_int (aW_ I q Z2)
  |str j=>obtain⟨t',rfl⟩:=ry;exact ne_str (aW_ I q (c_1 not b6_))
  |_=>exact absurd (show false=true from hs) ax'
 |byt i=>
  obtain⟨t,rfl⟩:=rx;cases y with
  |byt j=>obtain⟨t',rfl⟩:=ry;exact PySem.W.ne_bytes (aW_ I q (c_1 not id_))
  |_=>exact absurd (show false=true from hs) ax'
 |_=>cases y<;>exact absurd (show false=true from hs) ax'
theorem lN_:OpR X (compareOp .Lt) (rI0 λi j=>.bl (decide (i<j))):=opB0 λ_ _ _ _ _ _ _ q=>lt_int q
theorem e2_:OpR X (compareOp .LtE) (rI0 λi j=>.bl (decide (i<=j))):=opB0 λ_ _ _ _ _ _ _ q=>le_int q
theorem ig_:OpR X (compareOp .Gt) (rI0 λi j=>.bl (decide (j<i))):=opB0 λ_ _ _ _ _ _ _ q=>gt_int q
theorem mi_:OpR X (compareOp .GtE) (rI0 λi j=>.bl (decide (j<=i))):=opB0 λ_ _ _ _ _ _ _ q=>ge_int q
inductive dz' (x:V) (y:V) (H:Hp) (Q:VK):Prop
 |mk:∀i j,x=.str i->y=.str j->Q (.bl (decide (i.cps.toList<j.cps.toList))) H->dz' x y H Q
theorem ie_:OpR X (compareOp .Lt) dz':=by
 intro pins s σ H x y v u Q I rx ry h;obtain⟨i,j,rfl,rfl,q⟩:=h;obtain⟨t,rfl⟩:=rx;obtain⟨t',rfl⟩:=ry;exact lt_str (aW_ I q rfl)
theorem nomark(b:Expr)(h:op≠.In:=by decide)(h2:op≠.NotIn:=by decide):behindInMarks op b=false:=by
 have e1:(op == CmpOp.In)=false:=by cases op<;>first|rfl|exact absurd rfl h
 have e2:(op == CmpOp.NotIn)=false:=by cases op<;>first|rfl|exact absurd rfl h2
 cases b<;>simp[behindInMarks,e1,e2]
theorem bI_(ho:OpR X (compareOp op) r)(ha:PE X a ta)(hb:PE X b tb)(hm:behindInMarks op b=false):PE X (.Compare a [op] [b] pos) (tOp r ta tb):=by
 intro pins s σ H Q I h;exact wpAny_Compare1 (binT ha hb I h λv u s2 x y H2 I2 rx ry q=>ho pins s2 σ H2 x y v u Q I2 rx ry q) hm
inductive tTestR (Q:Bool->Hp->Prop) (x:V) (H':Hp):Prop
 |mk:∀k,x=.bl k->Q k H'->tTestR Q x H'
def tTest(t:TE):TT:=λσ H Q=>t σ H λx H'=>tTestR Q x H'
theorem ar_(ho:OpR X (compareOp op) r)(ha:PE X a ta)(hb:PE X b tb)(hm:behindInMarks op b=false):PT X (.Compare a [op] [b] pos) (tTest (tOp r ta tb)):=by
 intro pins s σ H Q I h
 refine wpAny_isTrue_Compare1 (thn (ha pins s σ H _ I h) λv s1 ⟨x,H1,I1,r1,q1⟩=>thn (hb pins s1 σ H1 _ I1 q1) λu s2 ⟨y,H2,I2,r2,q2⟩=>
  thn (ho pins s2 σ H2 x y v u _ I2 r1 r2 q2) λc s3 ⟨z,H3,I3,r3,k,e,q3⟩=>?_) hm
 subst e;cases r3;exact d_1 ⟨H3,I3,q3⟩
inductive tChainR (r':R2) (tc:TE) (σ:St) (Q:VK) (y:V) (z:V) (H3:Hp):Prop
 |mk:∀k,z=.bl k->(if k=true then tc σ H3 λw' H4=>r' y w' H4 Q else Q (.bl false) H3)->tChainR r' tc σ Q y z H3
def tChain(r r':R2)(ta tb tc:TE):TE:=λσ H Q=>ta σ H λx H1=>tb σ H1 λy H2=>r x y H2 λz H3=>tChainR r' tc σ Q y z H3
theorem eI_(ho:OpR X (compareOp op) r)(ho':OpR X (compareOp op') r')(ha:PE X a ta)(hb:PE X b tb)(hc:PE X c tc)(hm:lastMarks [op,op'] [b,c]=false:=by with_unfolding_all rfl):PE X (.Compare a [op,op'] [b,c] pos) (tChain r r' ta tb tc):=by
 intro pins s σ H Q I h
 refine Compare_chain (thn (ha pins s σ H _ I h) λv s1 ⟨x,H1,I1,r1,q1⟩=>chain_link (thn (hb pins s1 σ H1 _ I1 q1) λu s2 ⟨y,H2,I2,r2,q2⟩=>
  thn (ho pins s2 σ H2 x y v u _ I2 r1 r2 q2) λd s3 ⟨z,H3,I3,r3,k,e,q3⟩=>?_)) hm
 subst e;cases r3;refine d_1 ?_;cases k with
 |false=>exact ite_ff ⟨.bl false,H3,I3,rfl,q3⟩
 |true=>exact ite_tt (chain_last (thn (hc pins s3 σ H3 _ I3 q3) λw' s4 ⟨z',H4,I4,r4,q4⟩=>ho' pins s4 σ H4 y z' u w' Q I4 r2 r4 q4))
theorem du_(ho:OpR X (compareOp op) r)(ho':OpR X (compareOp op') r')(ha:PE X a ta)(hb:PE X b tb)(hc:PE X c tc)(hm:lastMarks [op,op'] [b,c]=false:=by with_unfolding_all rfl):PT X (.Compare a [op,op'] [b,c] pos) (tTest (tChain r r' ta tb tc)):=by
 intro pins s σ H Q I h
 refine isTrue_chain (thn (ha pins s σ H _ I h) λv s1 ⟨x,H1,I1,r1,q1⟩=>test_link (thn (hb pins s1 σ H1 _ I1 q1) λu s2 ⟨y,H2,I2,r2,q2⟩=>
  thn (ho pins s2 σ H2 x y v u _ I2 r1 r2 q2) λd s3 ⟨z,H3,I3,r3,k,e,q3⟩=>?_)) hm
 subst e;cases r3;refine d_1 ?_;cases k with
 |false=>
  obtain⟨k',e',q'⟩:=q3;cases e';exact ite_ff ⟨H3,I3,q'⟩
 |true=>
  refine ite_tt (test_last (thn (hc pins s3 σ H3 _ I3 q3) λw' s4 ⟨z',H4,I4,r4,q4⟩=>thn (ho' pins s4 σ H4 y z' u w' _ I4 r2 r4 q4) λd' s5 ⟨z2,H5,I5,r5,k2,e2,q5⟩=>?_));subst e2;cases r5;exact d_1 ⟨H5,I5,q5⟩
theorem line63:(sizeLine:Nat)<2 ^ 63:=by rw[b__];decide
inductive cr' (x:V) (y:V) (H:Hp) (Q:VK):Prop
 |mk:∀i j,x=.str i->y=.str j->i.length+j.length<=sizeLine->Q (.str (i++j)) H->cr' x y H Q
theorem ap_:OpR X (binaryOp .Add) cr':=by
 intro pins s σ H x y v u Q I rx ry h;obtain⟨i,j,rfl,rfl,hz,q⟩:=h;obtain⟨t,rfl⟩:=rx;obtain⟨t',rfl⟩:=ry;exact add_str (λt' tk=>⟨.str (i++j),H,I.tok _,⟨_,rfl⟩,q⟩) hz
theorem vals1{x:V}{us:List Aa}(r:Vals [x] us):∃u,us=[u]/\RelV x u:=by
 cases r with
 |cons r1 r2=>cases r2;exact⟨_,rfl,r1⟩
theorem vals2{x y:V}{us:List Aa}(r:Vals [x,y] us):∃u w',us=[u,w']/\RelV x u/\RelV y w':=by
 cases r with
 |cons r1 r2=>
  cases r2 with
  |cons r3 r4=>cases r4;exact⟨_,_,rfl,r1,r3⟩
inductive dB' (xs:List V) (H:Hp) (Q:VK):Prop
 |mk:∀i j,xs=[.int i,.int j]->Q (.int (if j > i then j else i)) H->dB' xs H Q
theorem hE_(hc:X.calm=true):bB' X (.builtin "max") dB':=by
 intro pins s σ H xs us Q I r h;obtain⟨i,j,rfl,q⟩:=h;obtain⟨u,w',rfl,⟨t,rfl⟩,⟨t',rfl⟩⟩:=vals2 r;refine max_two_ints (I.ok.hd hc) λh' tk k=>⟨_,H,I.kept k,?_,q⟩;by_cases hj:j > i
 ·rw[b_0 hj,b_0 hj];exact⟨_,rfl⟩
 ·rw[a_8 hj,a_8 hj];exact⟨_,rfl⟩
inductive du' (xs:List V) (H:Hp) (Q:VK):Prop
 |mk:∀i j,xs=[.int i,.int j]->Q (.int (if j<i then j else i)) H->du' xs H Q
theorem iS_(hc:X.calm=true):bB' X (.builtin "min") du':=by
 intro pins s σ H xs us Q I r h;obtain⟨i,j,rfl,q⟩:=h;obtain⟨u,w',rfl,⟨t,rfl⟩,⟨t',rfl⟩⟩:=vals2 r;refine min_two_ints (I.ok.hd hc) λh' tk k=>⟨_,H,I.kept k,?_,q⟩;by_cases hj:j<i
 ·rw[b_0 hj,b_0 hj];exact⟨_,rfl⟩
 ·rw[a_8 hj,a_8 hj];exact⟨_,rfl⟩
theorem iy_:bB' X (.type "int") (λxs H Q=>(∃i,xs=[.int i]/\Q (.int i) H)∨∃k,xs=[.bl k]/\Q (.int (if k then 1 else 0)) H):=by
 intro pins s σ H xs us Q I r h;rcases h with⟨i,rfl,q⟩|⟨k,rfl,q⟩
 ·obtain⟨u,rfl,t,rfl⟩:=vals1 r;exact call_int_int ⟨.int i,H,I,⟨_,rfl⟩,q⟩
 ·obtain⟨u,rfl,r1⟩:=vals1 r;cases r1;exact call_int_bool ⟨.int (if k then 1 else 0),H,I.tok _,⟨_,rfl⟩,q⟩
inductive cC' (xs:List V) (H:Hp) (Q:VK):Prop
 |mk:∀i,xs=[.int i]->i.natAbs.log2<1920->Q (.str (toString i)) H->cC' xs H Q
theorem de_:bB' X (.type "str") cC':=by
 intro pins s σ H xs us Q I r h;obtain⟨i,rfl,hz,q⟩:=h;obtain⟨u,rfl,t,rfl⟩:=vals1 r;exact PySem.P.str_of_int hz ⟨.str _,H,I.tok _,⟨_,rfl⟩,q⟩
end
structure ObjM (h:Heap) (x dx C:Addr) (mA:Str->Option Aa):Prop where
 obj:h.get? x=some (PySem.W.instObj C dx)
 ns:h.Ns1 dx mA
 ne:dx≠x
variable{mA:Str->Option Aa}
theorem i1_{dx:Addr}(n:h.Ns1 dx mA):∃od,h.get? dx=some od/\∀name,PySem.W.lookIn name od=some (mA name):=by
 obtain⟨o,es,ep,ho,hd,hk,_,hm⟩:=n;refine⟨o,ho,λname=>?_⟩;have e:=hm name;unfold nsFind findBy at e;rw[<- Array.find?_toList] at e;unfold PySem.W.lookIn;rw[hd];dsimp only;split
 ·rename_i y q
  rw[q] at e;exact c_1 some e
 ·rename_i q
  rw[q] at e
  have a:es.toList.any (·.refKey)=false:=by
   rw[List.any_eq_false];intro y hy;obtain⟨z,t,hkey⟩:=hk y (Array.mem_toList_iff.mp hy);simp[DictEntry.refKey,hkey]
  have a':¬es.toList.any (·.refKey)=true:=by rw[a];exact ax'
  rw[a_8 a'];exact c_1 some e
theorem ObjM.look{x dx C:Addr}(I:ObjM h x dx C mA):∃od,PySem.W.InstAt h x (PySem.W.instObj C dx) C (some od)/\∀name,PySem.W.lookIn name od=some (mA name):=
 let ⟨od,ho,hl⟩:=i1_ I.ns
 ⟨od,⟨I.obj,rfl,rfl,ho⟩,hl⟩
variable{pl:Sem Bool}
variable{kw:List (Str × Aa)}
section
variable{prog:Ae}{w:Ag}{A:Ah}{E:Aa->Ac->Prop}{s:Ac}{K:F__}{x dx C f:Addr}{mA:Str->Option Aa}{name:Str}{v:Aa}
theorem li_{expr:Bool}{Q:Aa->Ac->Prop}(X:K.In s.heap)(I:ObjM s.heap x dx C mA)(hg:PySem.W.plainGet K C name=true)(hh:PySem.W.hasDictIn K C=true)
  (ha:PySem.W.findIn K (.ref C) name=some none) (hv:mA name=some v) (hv':PySem.W.handedIn v=true) (h:Q v { s with toks:=s.toks+1 }) :
  wpAny (model prog w) A (getAttr (.ref x) name expr) Q E s:=by
 obtain⟨od,J,hl⟩:=I.look;exact PySem.W.get_value X J (PySem.W.plainGet_of hg).1 (PySem.W.findObj_own hh ha rfl (by rw[hl,hv])) hv' h
theorem jb_{Q:Aa × List Aa->Ac->Prop}(X:K.In s.heap)(I:ObjM s.heap x dx C mA)(hg:PySem.W.plainGet K C name=true)(hf:PySem.W.findIn K (.ref C) name=some (some (.ref f)))(ht:PySem.W.isFn K (.ref f)=true)(hv:mA name=none)(h:Q (.ref f,[.ref x]) s) :
  wpAny (model prog w) A (getMethod (.ref x) name pl) Q E s:=by
 obtain⟨od,J,hl⟩:=I.look;exact PySem.W.method_fn X J (PySem.W.plainGet_of hg).1 (PySem.W.plainGet_of hg).2 hf (beq_iff_eq.mp ht) (by show (PySem.W.lookIn name od).map (·.isSome)=some false;rw[hl,hv];rfl) h
theorem l2_{ns:List Str}{Q:Unit->Ac->Prop}(X:K.In s.heap)(I:ObjM s.heap x dx C mA)
  (hs:PySem.W.findIn K (.ref C) "__setattr__"=some (some (.builtin "object.__setattr__"))) (hp:PySem.W.plainOver K C=true) (ht:PySem.W.takerIn K C name=some none) (hh:PySem.W.hasDictIn K C=true)
  (hw:PySem.Within mA ns) (hsz:ns.length<=sizeLine)
  (h:∀h',ObjM h' x dx C (λy=>if y=name then some v else mA y)->Heap.SameBut dx s.heap h'->Q () { s with heap:=h',toks:=s.toks+2 }) :
  wpAny (model prog w) A (setAttr (.ref x) name v) Q E s:=by
 obtain⟨od,J,hl⟩:=I.look;refine PySem.W.set_plain X J hs (PySem.W.osa_open (s:={ s with toks:=s.toks+1 }) (r:=none) X J hp ht λb=>?_);obtain⟨cd,hc,hd'⟩:=PySem.W.any_some hh;have hx:s.heap.get? x=some ⟨.ref C,some dx,.plain,#[]⟩:=I.obj;refine a__ (a_2 (a__ (a__ (wpAny_loadPart hx (a__ (PySem.W.Looks.here (s:={ s with toks:=s.toks+1 }) (PySem.W.looks_clsIn X hc) ?_))))));rw[hd'];refine a_2 (a:=some dx) (a__ (a_2 (a__ ?_)));refine wpAny_nsSet1 (s:={ s with toks:=s.toks+1 }) I.ns λh' hn2 hs2=>?_;obtain⟨oD,esD,epD,hoD,hdD,hcD⟩:=hn2.count (PySem.Within.cons name v hw);refine a__ (wpAny_lookBehind hoD (by rw[hdD];exact pastItsLine_dict (a7' hcD (by rw[aA'];omega))) ?_);exact a_2 (h _ ⟨(hs2.2 _ (Ne.symm I.ne)).trans I.obj,hn2,I.ne⟩ hs2)
theorem jW_{R:Result->Ac->Prop}{vs:List Aa}(X:K.In s.heap)(hm:PySem.W.makesIn K C=true)(hi:PySem.W.findIn K (.ref C) "__init__"=some (some (.ref f)))(hf:PySem.W.typeIn K (.ref f)=some (.type "function"))(h:codeAny (model prog w) (A.under (.builtin "type.__call__" ⟨.ref C::vs,kw⟩)) (.call (.ref f) ⟨.ref (s.heap.objs.size+1)::vs,kw⟩) (PySem.W.InitBack (s.heap.objs.size+1) R)
   { s with heap:=(s.heap.push PySem.W.emptyDict).push (PySem.W.instObj C s.heap.objs.size) }) :
  codeAny (model prog w) A (.call (.ref C) ⟨vs,kw⟩) R s:=by
 obtain⟨hh,g,d,t,os⟩:=s;exact PySem.W.make_core (PySem.W.makes_of X hm) (PySem.W.looks_findIn X hi) (λself=>PySem.W.bind_fn X self hf) (.inl rfl) h
end
def putF(f:Str)(v:V):List (Str × V)->List (Str × V)
 |[]=>[(f,v)]
 |(g,x)::r=>if g=f then (g,v)::r else (g,x)::putF f v r
theorem au_(f g:Str)(v:V):∀fs:List (Str × V),(putF f v fs).lookup g=if g=f then some v else fs.lookup g
 |[]=>by
  show List.lookup g [(f,v)]=_;by_cases h:g=f
  ·have hb:(g == f)=true:=beq_iff_eq.mpr h;simp only[List.lookup,hb,b_0 h]
  ·have hb:(g == f)=false:=beq_eq_false_iff_ne.mpr h;simp only[List.lookup,hb,a_8 h]
 |(k,x)::r=>by
  have ih:=au_ f g v r;rw[show putF f v ((k,x)::r)=(if k=f then (k,v)::r else (k,x)::putF f v r) from rfl];by_cases hk:k=f
  ·rw[b_0 hk];by_cases h:g=k
   ·have hb:(g == k)=true:=beq_iff_eq.mpr h;simp only[List.lookup,hb,b_0 (h.trans hk)]
   ·have hb:(g == k)=false:=beq_eq_false_iff_ne.mpr h;simp only[List.lookup,hb,a_8 (λe:g=f=>h (e.trans hk.symm))]
  ·rw[a_8 hk];by_cases h:g=k
   ·have hb:(g == k)=true:=beq_iff_eq.mpr h;simp only[List.lookup,hb,a_8 (λe:g=f=>hk (h.symm.trans e))]
   ·have hb:(g == k)=false:=beq_eq_false_iff_ne.mpr h;simp only[List.lookup,hb];exact ih
theorem dS_(f:Str)(v:V):∀fs:List (Str × V),f∈(putF f v fs).map (·.1)/\∀g,g∈fs.map (·.1)->g∈(putF f v fs).map (·.1)
 |[]=>⟨by simp[putF],λg h=>by simp at h⟩
 |(k,x)::r=>by
  obtain⟨i1,i2⟩:=dS_ f v r;rw[show putF f v ((k,x)::r)=(if k=f then (k,v)::r else (k,x)::putF f v r) from rfl];by_cases hk:k=f
  ·rw[b_0 hk];subst hk;exact⟨by simp,λg h=>by simpa using h⟩
  ·rw[a_8 hk];refine⟨?_,λg h=>?_⟩
   ·rw[au'];exact ai' _ i1
   ·rw[au'] at h ⊢;rcases ah'.mp h with e|e
    ·exact ah'.mpr (.inl e)
    ·exact ai' _ (i2 g e)
theorem dW_(f:Str)(v:V):∀fs:List (Str × V),(putF f v fs).length<=fs.length+1
 |[]=>by simp[putF]
 |(k,x)::r=>by
  have ih:=dW_ f v r;rw[show putF f v ((k,x)::r)=(if k=f then (k,v)::r else (k,x)::putF f v r) from rfl];by_cases hk:k=f
  ·rw[b_0 hk,aA',aA'];omega
  ·rw[a_8 hk,aA',aA'];omega
variable{o:Option Aa}{v:V}
theorem RelO.some_of(r:RelO (some v) o):∃u,o=some u/\RelV v u:=by
 cases o with
 |none=>exact (show False from r).elim
 |some u=>exact⟨u,rfl,r⟩
theorem RelO.none_of(r:RelO none o):o=none:=by
 cases o with
 |none=>rfl
 |some u=>exact (show False from r).elim
theorem iK_(r:RelV v u):PySem.W.handedIn u=true:=by
 cases v with
 |non=>cases (show u=Value.none from r);rfl
 |bl b=>cases (show u=Value.bool b from r);rfl
 |int i=>obtain⟨t,e⟩:=(show ∃t,u=Value.int i t from r);cases e;rfl
 |str x=>obtain⟨t,e⟩:=(show ∃t,u=Value.str x t from r);cases e;rfl
 |byt b=>obtain⟨t,e⟩:=(show ∃t,u=Value.bytes b t from r);cases e;rfl
 |flt b=>obtain⟨t,e⟩:=(show ∃t,u=Value.float b t from r);cases e;rfl
 |ref a=>cases (show u=Value.ref a from r);rfl
 |ty n=>cases (show u=Value.type n from r);rfl
section
variable{P:Ae}{w:Ag}{H H':Hp}{h h':Heap}{a C dx:Addr}{fs fs':List (Str × V)}
theorem eC_(hok:HOk P w H h)(e:H a=some (.ins C dx fs)):∃mA,ObjM h a dx C mA/\(∀f,RelO (fs.lookup f) (mA f))/\PySem.Within mA (fs.map (·.1))/\fs.length<=1000/\H dx=some (.own a):=by
 obtain⟨d,z,ne,ob,mA,n,r,q⟩:=(show bt' P w H h a (.ins C dx fs) from hok a _ e);exact⟨mA,⟨ob,n,ne⟩,r,q,z,d⟩
end
structure Cls (K:F__) (C:Addr):Prop where
 pg:PySem.W.plainGet K C Str.empty=true
 hd:PySem.W.hasDictIn K C=true
 po:PySem.W.plainOver K C=true
 sa:PySem.W.findIn K (.ref C) "__setattr__"=some (some (.builtin "object.__setattr__"))
theorem Cls.get{K:F__}{C:Addr}(c:Cls K C)(f:Str):PySem.W.plainGet K C f=true:=c.pg
def b2'(K:F__)(C:Addr)(f:Str):Prop:=PySem.W.findIn K (.ref C) f=some none
theorem b2'.taker{K:F__}{C:Addr}{f:Str}(n:b2' K C f):PySem.W.takerIn K C f=some none:=by
 unfold PySem.W.takerIn;rw[show PySem.W.findIn K (.ref C) f=some none from n];rfl
structure Con (K:F__) (C:Addr) (f:Str) (v:V) (u:Aa):Prop where
 at_:PySem.W.findIn K (.ref C) f=some (some u)
 rel:RelV v u
 get:PySem.W.specialIn K u "__get__"=some none
 cp:PySem.W.copiedNames.contains f=false
structure Meth (K:F__) (C:Addr) (m:Str) (f:Addr):Prop where
 at_:PySem.W.findIn K (.ref C) m=some (some (.ref f))
 fn:PySem.W.isFn K (.ref f)=true
 kp:PySem.W.keepIn K (.ref f)=true
section
variable{X:Cx}{pins:List (Addr × Obj)}{σ:St}{H:Hp}{s:Ac}{a C dx:Addr}{fs:List (Str × V)}{f:Str}{v:V}{A:Ah}{E:Aa->Ac->Prop}
theorem ho_{b:Bool}{Q:Aa->Ac->Prop}(I:Inv X pins σ H s)(e:H a=some (.ins C dx fs))(c:Cls X.K C)(n:b2' X.K C f)(l:fs.lookup f=some v)
  (h:∀u s',Inv X pins σ H s'->RelV v u->Q u s'):wpAny (model X.prog X.w) A (getAttr (.ref a) f b) Q E s:=by
 obtain⟨mA,O,r,_,_,_⟩:=eC_ I.hok e;obtain⟨u,hu,ru⟩:=RelO.some_of (v:=v) (o:=mA f) (by rw[<- l];exact r f);exact li_ I.kIn O (c.get f) c.hd n hu (iK_ ru) (h u _ (I.tok _) ru)
theorem ed_{m:Str}{g:Addr}{Q:Aa × List Aa->Ac->Prop}(I:Inv X pins σ H s)(e:H a=some (.ins C dx fs))(c:Cls X.K C)(k:Meth X.K C m g)(l:fs.lookup m=none)(h:Q (.ref g,[.ref a]) s):wpAny (model X.prog X.w) A (getMethod (.ref a) m pl) Q E s:=by
 obtain⟨mA,O,r,_,_,_⟩:=eC_ I.hok e;have hn:mA m=none:=RelO.none_of (by rw[<- l];exact r m);exact jb_ I.kIn O (c.get m) k.at_ k.fn hn h
theorem h6_{y:V}{Q:Unit->Ac->Prop}(I:Inv X pins σ H s)(e:H a=some (.ins C dx fs))(c:Cls X.K C)(n:b2' X.K C f)(hl:fs.length<1000)(ry:RelV y u)(h:∀s',Inv X pins σ (upd H a (.ins C dx (putF f y fs))) s'->Q () s'):wpAny (model X.prog X.w) A (setAttr (.ref a) f u) Q E s:=by
 obtain⟨mA,O,r,wi,_,ho⟩:=eC_ I.hok e;have hz:(fs.map (·.1)).length<=sizeLine:=by rw[aa',b__];omega
 refine l2_ I.kIn O c.sa c.po n.taker c.hd wi hz λh' O' sb=>h _ ?_;have hd:∃o,h'.get? dx=some o:=let ⟨o,_,_,e',_⟩:=O'.ns;⟨o,e'⟩;refine I.write (x:=a) (e:=dx) (by rw[e];exact True.intro) (.inr ho) (λb q hb z=>(sb.2 b hb).trans z) hd ?_;refine⟨by rw[a8_ O.ne];exact ho,?_,O.ne,O'.obj,_,O'.ns,λg=>?_,λg hg=>?_⟩
 ·have:=dW_ f y fs;omega
 ·show RelO ((putF f y fs).lookup g) (if g=f then some u else mA g);rw[au_];by_cases q:g=f
  ·rw[b_0 q,b_0 q];exact ry
  ·rw[a_8 q,a_8 q];exact r g
 ·by_cases q:g=f
  ·rw[q];exact (dS_ f y fs).1
  ·refine (dS_ f y fs).2 g (wi g λz=>hg ?_);show (if g=f then some u else mA g)=none;rw[a_8 q];exact z
theorem Inv.made(I:Inv X pins σ H s):Inv X pins σ (upd (upd H s.heap.objs.size (.own (s.heap.objs.size+1))) (s.heap.objs.size+1) (.ins C s.heap.objs.size []))
  { s with heap:=(s.heap.push PySem.W.emptyDict).push (PySem.W.instObj C s.heap.objs.size) }:=by
 have e1:(s.heap.push PySem.W.emptyDict).get? s.heap.objs.size=some PySem.W.emptyDict:=a_7 s.heap rfl
 have e2:((s.heap.push PySem.W.emptyDict).push (PySem.W.instObj C s.heap.objs.size)).get? (s.heap.objs.size+1)=some (PySem.W.instObj C s.heap.objs.size):=by
  have:=a_7 (s.heap.push PySem.W.emptyDict) (o:=PySem.W.instObj C s.heap.objs.size) rfl;rwa [Heap.size_push] at this
 have e3:(s.heap.push PySem.W.emptyDict).Ns s.heap.objs.size (λ_=>none):=⟨PySem.W.emptyDict,#[],_,e1,rfl,(λe he=>absurd he Z2),λ_=>rfl⟩;have I1:=I.laid (a:=s.heap.objs.size) (o:=.own (s.heap.objs.size+1)) (h':=s.heap.push PySem.W.emptyDict) (t':=s.toks) (λb u q=>a_0 _ q) (ak' _) ⟨_,e1⟩;refine I1.laid (a:=s.heap.objs.size+1) (o:=.ins C s.heap.objs.size []) (t':=s.toks) (λb u q=>a_0 _ q) (Nat.le_of_eq (Heap.size_push _ _)) ?_;have ne:s.heap.objs.size≠s.heap.objs.size+1:=av' (Nat.lt_succ_self _);refine⟨by rw[a8_ ne,a1_],aJ' _,ne,e2,λ_=>none,(Heap.Ns1.of_empty e3).at λo q=>a_0 _ q,λ_=>True.intro,λy hy=>absurd rfl hy⟩
theorem lq_{prog:Ae}{env:Env}{e:Expr}{f:Str}{s:Ac}{Q:Aa->Ac->Prop}(hb:attributeBase e f env (eval e env)=eval e env)(h:wpAny (model prog w) A (eval e env) (λo s₁=>wpAny (model prog w) A (getAttr o f true) Q E s₁) E s):wpAny (model prog w) A (eval (.Attribute e f pos) env) Q E s:=
 Attribute_any_ h (by rw[arm_eval_Attribute,hb])
end
inductive tFldR (K:F__) (f:Str) (Q:VK) (x:V) (H1:Hp):Prop
 |mk:∀a C dx fs v,x=.ref a->H1 a=some (.ins C dx fs)->Cls K C->b2' K C f->fs.lookup f=some v->Q v H1->tFldR K f Q x H1
def tFld(K:F__)(ta:TE)(f:Str):TE:=λσ H Q=>ta σ H λx H1=>tFldR K f Q x H1
inductive sFldR (K:F__) (f:Str) (D:Ends) (σ:St) (y:V) (x:V) (H2:Hp):Prop
 |mk:∀a C dx fs,x=.ref a->H2 a=some (.ins C dx fs)->Cls K C->b2' K C f->fs.length<1000->D.nx σ (upd H2 a (.ins C dx (putF f y fs)))->sFldR K f D σ y x H2
def sFld(K:F__)(ta tv:TE)(f:Str):TS:=λD σ H=>tv σ H λy H1=>ta σ H1 λx H2=>sFldR K f D σ y x H2
section
variable{X:Cx}{o e value:Expr}{f:Str}{pos pos' tpos:Pos}{ta tv:TE}
theorem bS_(he:PE X e ta)(hb:attributeBase e f X.env (eval e X.env)=eval e X.env):PE X (.Attribute e f pos) (tFld X.K ta f):=by
 intro pins s σ H Q I h;refine lq_ hb (thn (he pins s σ H _ I h) λu s1 ⟨x,H1,I1,rx,a,C,dx,fs,v,ex,ea,c,n,l,q⟩=>?_);subst ex;obtain rfl:u=Value.ref a:=rx;exact ho_ I1 ea c n l λu' s2 I2 ru=>⟨v,H1,I2,ru,q⟩
theorem ep_(ha:PE X o ta)(hv:PE X value tv)(hs:swapsWith value (some (.Attribute o f pos')) pos.line X.env=pure false):PS X (.Assign [.Attribute o f pos'] value pos) (sFld X.K ta tv f):=by
 intro pins s σ H D I h;refine plainObj_wpAny_Assign_Attribute (thn (hv pins s σ H _ I h) λu s1 ⟨y,H1,I1,ry,q⟩=>thn (ha pins s1 σ H1 _ I1 q) λov s2 ⟨x,H2,I2,rx,a,C,dx,fs,ex,ea,c,n,l,q2⟩=>?_) hs;subst ex;obtain rfl:ov=Value.ref a:=rx;exact h6_ I2 ea c n l ry λs3 I3=>⟨σ,_,I3,q2⟩
end
section
variable{X:Cx}{pins:List (Addr × Obj)}{σ:St}{H:Hp}{s:Ac}{A:Ah}{E:Aa->Ac->Prop}{Q:Aa->Ac->Prop}{c:Aa}{b:Bool}
inductive TyOf (K:F__) (H:Hp):V->Aa->Prop where
 |non:TyOf K H .non (.type "NoneType")
 |bl (x:Bool):TyOf K H (.bl x) (.type "bool")
 |int (i:Int):TyOf K H (.int i) (.type "int")
 |str (x:Str):TyOf K H (.str x) (.type "str")
 |flt (x:UInt64):TyOf K H (.flt x) (.type "float")
 |lst {a:Addr} {xs:List V} (e:H a=some (.lst xs)):TyOf K H (.ref a) (.type "list")
 |frz {a:Addr} {o:Obj} {xs:List V} (e:H a=some (.frz o (.lst xs))):TyOf K H (.ref a) (.type "list")
 |tup {a:Addr} {xs:List V} (e:H a=some (.tup xs)):TyOf K H (.ref a) (.type "tuple")
 |dK {a:Addr} {kvs:List (Key × V)} (e:H a=some (.dK kvs)):TyOf K H (.ref a) (.type "dict")
 |dT {a:Addr} {kvs:List (List Key × V)} (e:H a=some (.dT kvs)):TyOf K H (.ref a) (.type "dict")
 |ins {a C dx:Addr} {fs:List (Str × V)} (e:H a=some (.ins C dx fs)) (cl:Cls K C) (ha:PySem.W.findIn K (.ref C) "__class__"=some (some (.builtin "object.__class__")))
   (hn:PySem.W.specialIn K (.builtin "object.__class__") "__get__"=some (some (.builtin "getset_descriptor.__get__"))) (htk:PySem.W.takesIn K (.builtin "object.__class__")=some true)
   (hm:PySem.W.mroIn K C (.type "object")=some true):TyOf K H (.ref a) (.ref C)
theorem fw_{x:V}{t:Aa}(I:Inv X pins σ H s)(rx:RelV x u)(ty:TyOf X.K H x t)(e:PySem.W.kitOne X.K t c=some b)(h:∀tk,Q (.bool b) { s with toks:=tk }) :
  wpAny (model X.prog X.w) A (call (.builtin "isinstance") [u,c]) Q E s:=by
 cases ty with
 |non=>cases (show u=Value.none from rx);exact d_8 PySem.W.kitx_none I.kIn True.intro e nofun h
 |bl y=>cases (show u=Value.bool y from rx);exact d_8 PySem.W.kitx_bool I.kIn True.intro e nofun h
 |int i=>obtain⟨t,q⟩:=(show ∃t,u=Value.int i t from rx);cases q;exact d_8 PySem.W.kitx_int I.kIn True.intro e nofun h
 |str y=>obtain⟨t,q⟩:=(show ∃t,u=Value.str y t from rx);cases q;exact d_8 PySem.W.kitx_str I.kIn True.intro e nofun h
 |flt y=>obtain⟨t,q⟩:=(show ∃t,u=Value.float y t from rx);cases q;exact d_8 PySem.W.kitx_float I.kIn True.intro e nofun h
 |@lst a xs ea=>
  cases (show u=Value.ref a from rx);obtain⟨_,_,n,_,h1⟩:=(show bt' X.prog X.w H s.heap a (.lst xs) from I.hok a _ ea);exact d_8 PySem.W.kitx_list I.kIn ⟨_,h1,rfl⟩ e nofun h
 |@frz a ob xs ea=>
  cases (show u=Value.ref a from rx);obtain⟨_,_,_,n,_,h1⟩:=(show bt' X.prog X.w H s.heap a (.frz ob (.lst xs)) from I.hok a _ ea);exact d_8 PySem.W.kitx_list I.kIn ⟨_,h1,rfl⟩ e nofun h
 |@tup a xs ea=>
  cases (show u=Value.ref a from rx);obtain⟨_,_,_,p,_⟩:=(show bt' X.prog X.w H s.heap a (.tup xs) from I.hok a _ ea);obtain⟨o,h1,h2,_⟩:=p;exact d_8 PySem.W.kitx_tuple I.kIn ⟨o,h1,h2⟩ e nofun h
 |@dK a kvs ea=>
  cases (show u=Value.ref a from rx);obtain⟨_,_,vs,_,p⟩:=(show bt' X.prog X.w H s.heap a (.dK kvs) from I.hok a _ ea);obtain⟨o,es,ep,h1,h2,_⟩:=p;exact d_8 PySem.W.kitx_dict I.kIn ⟨o,h1,h2.1⟩ e nofun h
 |@dT a kvs ea=>
  cases (show u=Value.ref a from rx);obtain⟨_,_,xs,_,o,es,ep,h1,h2,_⟩:=(show bt' X.prog X.w H s.heap a (.dT kvs) from I.hok a _ ea);exact d_8 PySem.W.kitx_dict I.kIn ⟨o,h1,h2.1⟩ e nofun h
 |@ins a C dx fs ea cl ha hn htk hm=>
  cases (show u=Value.ref a from rx);obtain⟨mA,O,_⟩:=eC_ I.hok ea;obtain⟨od,J,_⟩:=O.look;exact d_8 (PySem.W.kitx_own (cl.get _) cl.hd ha hn htk hm) I.kIn J e nofun h
end
structure Room (k:Nat) (A:Ah):Prop where
 hd:A.handled=none
 dp:A.depth+3 * k+5<recursionLimit
 un:A.units+16 * k+200<cLine
theorem Room.mono{j:Nat}{A:Ah}(r:Room k A)(h:j<=k):Room j A:=⟨r.hd,by have:=r.dp;omega,by have:=r.un;omega⟩
theorem Room.deeper{A:Ah}(r:Room (k+1) A)(env:Env):Room k (A.deeper env):=
 ⟨r.hd,by have:=r.dp;show A.depth+1+3 * k+5<_;omega,by have:=r.un;show A.units+3+16 * k+200<_;omega⟩
theorem hb_{A:Ah}{C:Addr}{us:List Aa}:(A.under (.builtin "type.__call__" ⟨.ref C::us,kw⟩)).depth=A.depth+1:=by
 first|rfl|simp[Around.under,Code.weight,Code.isCreation,Code.isGuard,Code.isCaller,Code.frames,Code.isFrame,guardIds]
theorem ha_{A:Ah}{C:Addr}{us:List Aa}:(A.under (.builtin "type.__call__" ⟨.ref C::us,kw⟩)).units=A.units+1:=by
 first|rfl|simp[Around.under,Code.cUnits,Code.frames,Code.isFrame]
theorem Room.make{A:Ah}(r:Room (k+1) A)(C:Addr)(us:List Aa)(kw:List (Str × Aa)):Room k (A.under (.builtin "type.__call__" ⟨.ref C::us,kw⟩)):=
 ⟨r.hd,by have:=r.dp;rw[hb_];omega,by have:=r.un;rw[ha_];omega⟩
theorem Room.depth{A:Ah}(r:Room k A):A.depth<recursionLimit:=by have:=r.dp;omega
theorem Room.units{A:Ah}(r:Room k A):A.units+64<cLine:=by have:=r.un;omega
def tNil:TA:=λ_ H Q=>Q [] H
def bI'(ta:TE)(tr:TA):TA:=λσ H Q=>ta σ H λx H1=>tr σ H1 λxs H2=>Q (x::xs) H2
section
variable{X:Cx}{e:Expr}{es:List Expr}{te:TE}{t:TA}{pos:Pos}
theorem a2_:PA X [] tNil:=λ_ _ _ _ H Q I h=>Calls.spliced_nil ⟨[],H,I,.nil,h⟩
theorem a0_(ha:PE X e te)(hr:PA X es t)(hs:starEach (e::es) X.env=(false,eval e X.env)::starEach es X.env:=by rfl):PA X (e::es) (bI' te t):=by
 intro pos pins s σ H Q I h;rw[hs];show wpAny _ _ (spliced ((false,eval e X.env)::backTo pos (starEach es X.env))) _ _ s;refine Calls.spliced_cons (thn (ha pins s σ H _ I h) λu s1 ⟨x,H1,I1,r1,q1⟩=>?_);exact thn (hr pos pins s1 σ H1 _ I1 q1) λus s2 ⟨xs,H2,I2,r2,q2⟩=>⟨x::xs,H2,I2,.cons r1 r2,q2⟩
def tTup(t:TA):TE:=λσ H Q=>t σ H λxs H1=>xs.length<=sizeLine/\∀p,H1 p=none->Q (.ref p) (upd H1 p (.tup xs))
def tLst(t:TA):TE:=λσ H Q=>t σ H λxs H1=>xs.length<=sizeLine/\∀p,H1 p=none->Q (.ref p) (upd H1 p (.lst xs))
theorem b9_{x1}(h:PA X es t):PE X (.Tuple es x1 pos) (tTup t):=by
 intro pins s σ H Q I hq;refine wpAny_Tuple_spliced (thn (h pos pins s σ H _ I hq) λus s1 ⟨xs,H1,I1,r,z,q⟩=>⟨by rw[<- r.length];exact z,?_⟩);have hf:H1 s1.heap.objs.size=none:=I1.hok.fresh (ak' _);refine⟨.ref s1.heap.objs.size,upd H1 s1.heap.objs.size (.tup xs),I1.laid (t':=s1.toks) (λb u e=>a_0 _ e) (ak' _) ?_,rfl,q _ hf⟩;exact⟨z,us,r,⟨_,a_7 _ rfl,rfl,_,rfl⟩,_,a_7 _ rfl,rfl⟩
theorem av_(h:PA X es t):PE X (.List es pos) (tLst t):=by
 intro pins s σ H Q I hq;refine wpAny_List_spliced (thn (h pos pins s σ H _ I hq) λus s1 ⟨xs,H1,I1,r,z,q⟩=>⟨by rw[<- r.length];exact z,?_⟩);have hf:H1 s1.heap.objs.size=none:=I1.hok.fresh (ak' _);refine⟨.ref s1.heap.objs.size,upd H1 s1.heap.objs.size (.lst xs),I1.laid (t':=s1.toks) (λb u e=>a_0 _ e) (ak' _) ?_,rfl,q _ hf⟩;exact⟨z,us,0,r,a_7 _ rfl⟩
end
abbrev Sp:=List V->Hp->VK->XK->Prop
abbrev CXT:=List Env->Hp->Ac->XK->Aa->Ac->Prop
structure Env0 (P:Ae) (w:Ag) (K:F__) (mg:Str->Option Aa) (base:Heap) (A:Ah) (outer:List Env) (s:Ac) (H:Hp):Prop where
 frames:A.frames=some outer
 mod:Mod K mg base
 bs:∀b o,base.get? b=some o->s.heap.get? b=some o/\H b=none
 bsz:base.objs.size<=s.heap.objs.size
 funs:s.heap.FunFrames base outer
 frf:∀b∈frs outer,H b=none
 hok:HOk P w H s.heap
 bare:AllBare s.gens
def CE(outer:List Env)(P:Ae)(w:Ag)(H:Hp)(s:Ac)(Q:VK)(u:Aa)(s':Ac):Prop:=
 ∃v H',s'.os=s.os/\AllBare s'.gens/\Un (frs outer) [] H H' s.heap s'.heap/\HOk P w H' s'.heap/\RelV v u/\Q v H'
def CR(CX:CXT)(outer:List Env)(P:Ae)(w:Ag)(H:Hp)(s:Ac)(Q:VK)(E:XK)(r:Result)(s':Ac):Prop:=
 match r with
 |.ok (.ret u)=>CE outer P w H s Q u s'
 |.ok _=>False
 |.error e=>CX outer H s E e s'
structure FnOk (P:Ae) (w:Ag) (K:F__) (mg:Str->Option Aa) (base:Heap) (CX:CXT) (k:Nat) (f:Addr) (fd:Af) (ps:List Str) (sp:Sp):Prop where
 len:∀vs H Q E,sp vs H Q E->vs.length=ps.length
 run:∀(A:Ah) (outer:List Env) (s:Ac) (H:Hp) (args:Args) (us:List Aa) (vs:List V) (Q:VK) (E:XK),Room k A->Env0 P w K mg base A outer s H->BindsTo s fd args (ps.zip us)->Vals vs us->sp vs H Q E->
  codeAny (model P w) A (.call (.ref f) args) (CR CX outer P w H s Q E) s
variable{H:Hp}{A:Ah}{K:F__}{mg:Str->Option Aa}{base:Heap}{outer:List Env}
theorem Env0.make{s:Ac}(e:Env0 P w K mg base A outer s H)(C:Addr)(us:List Aa)(kw:List (Str × Aa)) :
  Env0 P w K mg base (A.under (.builtin "type.__call__" ⟨.ref C::us,kw⟩)) outer s H:=⟨by first|exact e.frames|(simpa [Around.under,Code.envs,Code.isFrame,pushEnvs] using e.frames),e.mod,e.bs,e.bsz,e.funs,e.frf,e.hok,e.bare⟩
section
variable{X:Cx}{pins:List (Addr × Obj)}{σ:St}{H:Hp}{s s':Ac}
theorem Inv.env0(I:Inv X pins σ H s):Env0 X.prog X.w X.K X.mg X.base X.A X.stack s H:=
 ⟨I.ok.frames,I.ok.mod,I.bs,a7' I.ok.bsz I.sz,I.stack,I.stkFree,I.hok,I.bare⟩
theorem Inv.after{Q:VK}(I:Inv X pins σ H s)(h:CE X.stack X.prog X.w H s Q u s'):EP X pins σ Q u s':=by
 obtain⟨v,H',os,bare,un,hok,r,q⟩:=h;obtain⟨hh,g,d,t,os'⟩:=s';obtain rfl:os'=s.os:=os;exact⟨v,H',I.call (h':=hh) (g':=g) (d':=d) (t':=t) (ch:=[]) un hok bare (λb z=>absurd z Z2),r,q⟩
end
def tCall(sp:Sp)(dvs:List V)(E:XK)(t:TA):TE:=λσ H Q=>t σ H λvs H1=>sp (vs++dvs) H1 Q E
inductive tMethR (C:Addr) (m:Str) (sp:Sp) (dvs:List V) (E:XK) (t:TA) (σ:St) (Q:VK) (x:V) (H1:Hp):Prop
 |mk:∀a dx fs,x=.ref a->H1 a=some (.ins C dx fs)->fs.lookup m=none->(t σ H1 λvs H2=>sp (x::(vs++dvs)) H2 Q E)->tMethR C m sp dvs E t σ Q x H1
def tMeth(C:Addr)(m:Str)(sp:Sp)(dvs:List V)(E:XK)(ta:TE)(t:TA):TE:=λσ H Q=>ta σ H λx H1=>tMethR C m sp dvs E t σ Q x H1
def tMake(C:Addr)(sp:Sp)(dvs:List V)(E:XK)(t:TA):TE:=λσ H Q=>t σ H λvs H1=>∀x dx,H1 x=none->H1 dx=none->dx≠x->
 sp (.ref x::(vs++dvs)) (upd (upd H1 dx (.own x)) x (.ins C dx [])) (λv H2=>v=.non/\Q (.ref x) H2) E
def ck'(K:F__)(fd:Af)(ps:List Str)(ds:List Aa):Prop:=
 ∀(s:Ac) (us:List Aa),K.In s.heap->(us++ds).length=ps.length->BindsTo s fd ⟨us,[]⟩ (ps.zip (us++ds))
variable{fd:Af}{ps:List Str}
theorem ck'.all(h:∀us:List Aa,us.length=ps.length->bindArgs fd ⟨us,[]⟩=pure (ps.zip us)):ck' K fd ps []:=λs us _ hl=>by
 rw[aF'] at hl ⊢;exact .of_eq (h us hl)
def bx'(CX:CXT)(X:Cx)(E:XK):Prop:=∀(pins:List (Addr × Obj)) (σ:St) (H:Hp) (s:Ac) (e:Aa) (s':Ac),Inv X pins σ H s->CX X.stack H s E e s'->X.xe e s'
variable{E:XK}{Q:VK}{f:Addr}{dvs vs:List V}{CX:CXT}{sp:Sp}{ds:List Aa}
theorem hZ_{s:Ac}{us:List Aa}(F:FnOk X.prog X.w X.K X.mg X.base CX k f fd ps sp)(hr:Room k X.A)(hb:ck' X.K fd ps ds)(hd:Vals dvs ds)(hx:bx' CX X E)(I:Inv X pins σ H s)(r:Vals vs us)(h:sp (vs++dvs) H Q E):wpAny (model X.prog X.w) X.A (call (.ref f) us) (EP X pins σ Q) X.xe s:=by
 have r2:Vals (vs++dvs) (us++ds):=r.append hd;have hl:(us++ds).length=ps.length:=by rw[<- r2.length];exact F.len _ _ _ _ h
 refine wpAny_call (codeAny_mono (F.run X.A X.stack s H ⟨us,[]⟩ (us++ds) (vs++dvs) Q E hr I.env0 (hb s us I.kIn hl) r2 h) λr s' hq=>?_);cases r with
 |error e=>exact hx pins σ H s e s' I hq
 |ok fl=>
  cases fl with
  |ret u=>exact I.after hq
  |next=>exact False.elim hq
  |brk=>exact False.elim hq
  |cont=>exact False.elim hq
variable{x:Str}{e:Expr}{t:TA}
theorem fM_(F:FnOk X.prog X.w X.K X.mg X.base CX k f fd ps sp)(hr:Room k X.A)(hg:Gl X x)(hm:X.mg x=some (.ref f))(hk:PySem.W.keepIn X.K (.ref f)=true)(hb:ck' X.K fd ps ds)(hd:Vals dvs ds)(hx:bx' CX X E)
  (ha:PA X (e::es) t) (hdb:(x == ("__debug__":Str))=false:=by decide) (he:starEach (e::es) X.env=(false,eval e X.env)::starEach es X.env:=by rfl) (hpl:(backTo pos (starEach es X.env)).any (·.1)=false:=by rfl) :
  PE X (.Call (.Name x p) (e::es) [] pos) (tCall sp dvs E t):=by
 intro pins s σ H Q I h;refine wpAny_Call_Name_kw (cC_ I hg hm ?_ hdb);refine PySem.W.callWith_K (h₀:=X.base) I.ok.mod.kin hk (thn (ha pos pins s σ H _ I h) λus s1 ⟨vs,H1,I1,r,q⟩=>⟨I1.kIn,?_⟩) he hpl;exact hZ_ F hr hb hd hx I1 r q
variable{o:Expr}{ta:TE}{C:Addr}{m:Str}{apos:Pos}
theorem hY_(he:PE X o ta)(c:Cls X.K C)(hm:Meth X.K C m f)(F:FnOk X.prog X.w X.K X.mg X.base CX k f fd ps sp)(hr:Room k X.A)(hb:ck' X.K fd ps ds)(hd:Vals dvs ds)(hx:bx' CX X E)(ha:PA X (e::es) t)(hst:starEach (e::es) X.env=(false,eval e X.env)::starEach es X.env:=by rfl)(hpl:(backTo pos (starEach es X.env)).any (·.1)=false:=by rfl)(ht:eval (.Call (.Attribute o m apos) (e::es) [] pos) X.env=(do
   let ov <- eval o X.env
   standAt apos.atName
   let (f,first) <- holding [ov] (getMethod ov m pl)
   callWith pos f first (backTo pos (starEach (e::es) X.env)) (backToKw pos (keywordEach [] X.env))):=by rfl) :
  PE X (.Call (.Attribute o m apos) (e::es) [] pos) (tMeth C m sp dvs E ta t):=by
 intro pins s σ H Q I h;refine PySem.W.methodCall_KW (pl:=pl) (thn (he pins s σ H _ I h) λu s1 ⟨x,H1,I1,rx,a,dx,fs,ex,ea,l,q⟩=>?_) ht;subst ex;obtain rfl:u=Value.ref a:=rx;refine ed_ I1 ea c hm l ?_;refine PySem.W.callWith_K (first:=[.ref a]) (h₀:=X.base) I.ok.mod.kin hm.kp (thn (ha pos pins s1 σ H1 _ I1 q) λus s2 ⟨vs,H2,I2,r,q2⟩=>⟨I2.kIn,?_⟩) hst hpl;exact hZ_ (us:=.ref a::us) (vs:=.ref a::vs) F hr hb hd hx I2 (.cons rfl r) q2
theorem jJ_(he:PE X o ta)(c:Cls X.K C)(hm:Meth X.K C m f)(F:FnOk X.prog X.w X.K X.mg X.base CX k f fd ps sp)(hr:Room k X.A)(hb:ck' X.K fd ps ds)(hd:Vals dvs ds)(hx:bx' CX X E)(ht:eval (.Call (.Attribute o m apos) [] [] pos) X.env=(do
   let ov <- eval o X.env
   standAt apos.atName
   let (f,first) <- holding [ov] (getMethod ov m pl)
   callWith pos f first (backTo pos (starEach [] X.env)) (backToKw pos (keywordEach [] X.env))):=by rfl) :
  PE X (.Call (.Attribute o m apos) [] [] pos) (tMeth C m sp dvs E ta tNil):=by
 intro pins s σ H Q I h;refine PySem.W.methodCall_KW (pl:=pl) (thn (he pins s σ H _ I h) λu s1 ⟨x,H1,I1,rx,a,dx,fs,ex,ea,l,q⟩=>?_) ht;subst ex;obtain rfl:u=Value.ref a:=rx;refine ed_ I1 ea c hm l ?_;exact PySem.W.callWith_K0 (first:=[.ref a]) I1.kIn hm.kp (hZ_ (us:=[.ref a]) (vs:=[.ref a]) F hr hb hd hx I1 (.cons rfl .nil) q)
structure Mk (K:F__) (C f:Addr):Prop where
 makes:PySem.W.makesIn K C=true
 init:PySem.W.findIn K (.ref C) "__init__"=some (some (.ref f))
 fn:PySem.W.isFn K (.ref f)=true
 kp:PySem.W.keepIn K (.ref C)=true
theorem jq_{s:Ac}{us:List Aa}(M:Mk X.K C f)(F:FnOk X.prog X.w X.K X.mg X.base CX k f fd ps sp)(hr:Room (k+1) X.A)(hb:ck' X.K fd ps ds)(hd:Vals dvs ds)(hx:bx' CX X E)(I:Inv X pins σ H s)(r:Vals vs us)(h:∀x dx,H x=none->H dx=none->dx≠x->sp (.ref x::(vs++dvs)) (upd (upd H dx (.own x)) x (.ins C dx [])) (λv H2=>v=.non/\Q (.ref x) H2) E) :
  wpAny (model X.prog X.w) X.A (call (.ref C) us) (EP X pins σ Q) X.xe s:=by
 have hq:=h (s.heap.objs.size+1) s.heap.objs.size (I.hok.fresh (Nat.le_succ _)) (I.hok.fresh (ak' _)) (av' (Nat.lt_succ_self _));have I2:=Inv.made (C:=C) I;have r2:Vals (V.ref (s.heap.objs.size+1)::(vs++dvs)) (Value.ref (s.heap.objs.size+1)::(us++ds)):=.cons rfl (r.append hd)
 have hl:(Value.ref (s.heap.objs.size+1)::us++ds).length=ps.length:=by
  have e:=r2.length;rw[F.len _ _ _ _ hq] at e;exact e.symm
 refine wpAny_call (jW_ (f:=f) I.kIn M.makes M.init (beq_iff_eq.mp M.fn) (codeAny_mono (F.run _ X.stack _ _ ⟨Value.ref (s.heap.objs.size+1)::us,[]⟩ (Value.ref (s.heap.objs.size+1)::(us++ds)) _ _ E (hr.make C us [])
  (I2.env0.make C us []) (hb _ (Value.ref (s.heap.objs.size+1)::us) I2.kIn hl) r2 hq) λr s' hq'=>?_))
 cases r with
 |error e=>exact hx pins σ _ _ e s' I2 hq'
 |ok fl=>
  cases fl with
  |ret u=>
   obtain⟨v,H',I3,rv,ev,q3⟩:=I2.after hq';subst ev;exact⟨rv,⟨V.ref (s.heap.objs.size+1),H',I3,rfl,q3⟩⟩
  |next=>exact False.elim hq'
  |brk=>exact False.elim hq'
  |cont=>exact False.elim hq'
theorem hA_(M:Mk X.K C f)(F:FnOk X.prog X.w X.K X.mg X.base CX k f fd ps sp)(hr:Room (k+1) X.A)(hg:Gl X x)(hm:X.mg x=some (.ref C))(hb:ck' X.K fd ps ds)(hd:Vals dvs ds)(hx:bx' CX X E)
  (ha:PA X (e::es) t) (hdb:(x == ("__debug__":Str))=false:=by decide) (he:starEach (e::es) X.env=(false,eval e X.env)::starEach es X.env:=by rfl) (hpl:(backTo pos (starEach es X.env)).any (·.1)=false:=by rfl) :
  PE X (.Call (.Name x p) (e::es) [] pos) (tMake C sp dvs E t):=by
 intro pins s σ H Q I h;refine wpAny_Call_Name_kw (cC_ I hg hm ?_ hdb);refine PySem.W.callWith_K (h₀:=X.base) I.ok.mod.kin M.kp (thn (ha pos pins s σ H _ I h) λus s1 ⟨vs,H1,I1,r,q⟩=>⟨I1.kIn,?_⟩) he hpl;exact jq_ M F hr hb hd hx I1 r q
structure KBinds (K:F__) (fd:Af) (ps ks:List Str) (g:List Aa->List Aa->List Aa) (gV:List V->List V->List V):Prop where
 to:∀(s:Ac) (us ws:List Aa),K.In s.heap->(g us ws).length=ps.length->BindsTo s fd ⟨us,ks.zip ws⟩ (ps.zip (g us ws))
 rel:∀{vs:List V} {us:List Aa} {zs:List V} {ws:List Aa},Vals vs us->Vals zs ws->Vals (gV vs zs) (g us ws)
structure ba' (N P:List Str) (sc:Scope):Prop where
 kind:sc.kind=.function
 co:sc.isCoroutine=false
 gen:sc.isGenerator=false
 nd:N.Nodup
 pre:N.take P.length=P
 par:∀x∈P,sc.names.lookup x=some .local∨sc.names.lookup x=some .cell
 nofree:∀y∈sc.names,y.2≠.free
theorem fi_{kindOf:Str->Option NameKind}{x:Str}:∀{binds:List (Str × Aa)} {m:Str->Option Aa},(∀v,(x,v)∉binds)->bindL kindOf binds m x=m x
 |[],_,_=>rfl
 |(n,v)::r,m,h=>by
  unfold bindL;rw[fi_ λw hw=>h w (ai' _ hw)];split
  ·have:x≠n:=by rintro rfl;exact h v aq'
   simp[this]
  ·rfl
theorem f6_{kindOf:Str->Option NameKind}{x:Str}:∀{binds:List (Str × Aa)} {m:Str->Option Aa},(∀v,(x,v)∉binds)->bindC kindOf binds m x=m x
 |[],_,_=>rfl
 |(n,v)::r,m,h=>by
  unfold bindC;rw[f6_ λw hw=>h w (ai' _ hw)];split
  ·rfl
  ·have:x≠n:=by rintro rfl;exact h v aq'
   simp[this]
theorem f8_{kindOf:Str->Option NameKind}{x:Str}{v:Aa}:∀{P:List Str} {vs:List Aa} {i:Nat} {m:Str->Option Aa},P.Nodup->P[i]? = some x->vs[i]? = some v->kindOf x=some .local->
  bindL kindOf (P.zip vs) m x=some v
 |[],_,_,_,_,h,_,_=>by simp at h
 |_::_,[],_,_,_,_,h,_=>by simp at h
 |p::P,w::vs,0,m,nd,h1,h2,hk=>by
  simp at h1 h2;subst h1;subst h2;show bindL kindOf ((p,w)::P.zip vs) m p=_;unfold bindL;rw[fi_ λv hv=>(aX'.mp nd).1 (List.of_mem_zip hv).1,b_0 hk];simp
 |p::P,w::vs,i+1,m,nd,h1,h2,hk=>by
  show bindL kindOf ((p,w)::P.zip vs) m x=_;unfold bindL;exact f8_ (i:=i) (aX'.mp nd).2 (by simpa using h1) (by simpa using h2) hk
theorem ff_{kindOf:Str->Option NameKind}{x:Str}{v:Aa}:∀{P:List Str} {vs:List Aa} {i:Nat} {m:Str->Option Aa},P.Nodup->P[i]? = some x->vs[i]? = some v->kindOf x≠some .local->
  bindC kindOf (P.zip vs) m x=some v
 |[],_,_,_,_,h,_,_=>by simp at h
 |_::_,[],_,_,_,_,h,_=>by simp at h
 |p::P,w::vs,0,m,nd,h1,h2,hk=>by
  simp at h1 h2;subst h1;subst h2;show bindC kindOf ((p,w)::P.zip vs) m p=_;unfold bindC;rw[f6_ λv hv=>(aX'.mp nd).1 (List.of_mem_zip hv).1,a_8 hk];simp
 |p::P,w::vs,i+1,m,nd,h1,h2,hk=>by
  show bindC kindOf ((p,w)::P.zip vs) m x=_;unfold bindC;exact ff_ (i:=i) (aX'.mp nd).2 (by simpa using h1) (by simpa using h2) hk
def start(N:List Str)(vs:List V):St:=vs.map some++List.replicate (N.length - vs.length) none
def cxOf(CX:CXT)(P:Ae)(w:Ag)(K:F__)(mg:Str->Option Aa)(base:Heap)(N:List Str)(qual:Str)(scope:Scope)(f:Addr)(cd:Aa)(A:Ah)(outer:List Env)(s:Ac)(H:Hp)(E:XK):Cx where
 prog:=P
 w:=w
 K:=K
 mg:=mg
 base:=base
 A:=A.deeper (envOfC qual scope s.heap.objs.size f cd)
 N:=N
 s₀:=s
 H₀:=H
 env:=envOfC qual scope s.heap.objs.size f cd
 outer:=outer
 stack:=envOfC qual scope s.heap.objs.size f cd::outer
 ex:=[]
 calm:=true
 fn:=λ_=>true
 pn:=[]
 xe:=λe s'=>wpAny (model P w) (A.deeper (envOfC qual scope s.heap.objs.size f cd)) (leaving (envOfC qual scope s.heap.objs.size f cd) e) (λ_ s''=>CX outer H s E e s'') (λe' s''=>CX outer H s E e' s'') s'
theorem gA_{sc:Scope}(h:sc.names.lookup x=some .cell):∃c,(cellsFrom n sc.names []).lookup x=some c:=by
 have q:=PySem.W.cellsFrom_some sc.names n [] (.inl h);exact aS'.mp q
variable{qual:Str}{scope:Scope}
theorem iY_{cd:Aa}{s s1:Ac}{us:List Aa}(S:ba' N ps scope)(hd:A.handled=none)(e0:Env0 P w K mg base A outer s H)(hl:vs.length=ps.length)(r:Vals vs us)(x:InCallC s s.heap.objs.size (bindL (envOfC qual scope s.heap.objs.size f cd).kindOf (ps.zip us) λ_=>none) (cellsFrom (s.heap.objs.size+1) scope.names []) (bindC (envOfC qual scope s.heap.objs.size f cd).kindOf (ps.zip us) λ_=>none) s1) :
  Inv (cxOf CX P w K mg base N qual scope f cd A outer s H E) [] (start N vs) H s1:=by
 have hpl:ps.length<=N.length:=by have:=c_1 List.length S.pre;rw[af'] at this;omega
 obtain⟨h1,tk,rfl,hk⟩:=x.done;have noA:∀b:Addr,b∉(cxOf CX P w K mg base N qual scope f cd A outer s H E).ex:=λb z=>absurd (show b∈([]:List Addr) from z) Z2
 refine⟨⟨e0.mod,S.kind,rfl,rfl,ak' _,λy z c h1 h2=>?_,λy hy=>?_,λy c _ h=>?_,λ_=>hd,Around.frames_deeper e0.frames,.inr ⟨rfl,rfl⟩,λb z=>absurd z (noA b),e0.bs,e0.bsz,λb _ _=>noA b,λb z=>absurd z (noA b),e0.funs,e0.frf⟩,
  rfl,e0.bare,Un.kept hk,⟨_,x.toInCall.ns,λi y v h1 h2 h3=>?_⟩,λy c h=>⟨_,x.cell y c h⟩,e0.hok.fresh (ak' _),λy c h=>?_,λp hp=>absurd (show p∈([]:List (Addr × Obj)) from hp) Z2,e0.hok.kept hk,?_⟩
 ·exact name_of_addr x.apart (d_7 h1) (d_7 h2)
 ·have hy:scope.names.lookup y=some .cell∨scope.names.lookup y=some .free:=hy;rcases hy with hy|hy
  ·exact gA_ hy
  ·exact absurd rfl (S.nofree _ (d_7 hy))
 ·exact Nat.le_of_lt (x.above y c (d_7 h))
 ·have hi:i<vs.length:=by
   unfold start at h2;by_cases hi:i<vs.length
   ·exact hi
   ·rw[aW' (by simpa using hi)] at h2;rw[List.getElem?_replicate] at h2;split at h2<;>cases h2
  have ha:vs[i]? = some v:=by
   unfold start at h2;rw[List.getElem?_append_left (by simpa using hi),aw'] at h2;cases e:vs[i]? with
   |none=>rw[e] at h2;cases h2
   |some a=>rw[e] at h2;cases h2;rfl
  obtain⟨u,hu,rv⟩:=r.get ha
  have hp:ps[i]? = some y:=by
   rw[<- S.pre,List.getElem?_take_of_lt Z1];exact h1
  have ndP:ps.Nodup:=by rw[<- S.pre];exact S.nd.sublist (List.take_sublist _ _)
  refine⟨u,rv,?_⟩;rcases S.par y (ad' hp) with k|k
  ·exact .inl ⟨k,f8_ ndP hp hu k⟩
  ·obtain⟨c,e⟩:=gA_ (n:=s.heap.objs.size+1) k;refine .inr ⟨.inl k,c,e,?_⟩;have q:=x.cell y c e;rw[ff_ ndP hp hu (by show scope.names.lookup y≠_;rw[k];decide)] at q;exact q
 ·exact e0.hok.fresh (Nat.le_of_lt (x.above y c (d_7 h)))
 ·unfold start;show _=N.length;rw[aj',aa',a3'];omega
theorem lg_{name:Str}{params:Arguments}{dV kV doc pm cdv ct oc:Aa}{an od:Option Addr}{osl:Array (Option Aa)}(lk:K.lookup f=some ⟨oc,od,.func (PySem.W.fnOf name qual params body scope dV kV doc pm an cdv ct),osl⟩)(hcd:PySem.W.codeIn K cdv qual=true)(S:ba' N ps scope)(len:∀vs H Q E,sp vs H Q E->vs.length=ps.length)(hbody:∀(A:Ah) (outer:List Env) (s:Ac) (H:Hp) (vs:List V) (Q:VK) (E:XK),Room k (A.deeper (envOfC qual scope s.heap.objs.size f cdv))->sp vs H Q E->
   ∃t,PSs (cxOf CX P w K mg base N qual scope f cdv A outer s H E) body t/\t { nx:=λ_ H'=>Q .non H',rt:=Q } (start N vs) H) :
  FnOk P w K mg base CX (k+1) f (PySem.W.fnOf name qual params body scope dV kV doc pm an cdv ct) ps sp:=by
 refine⟨len,λA outer s H args us vs Q E hr e0 hb r hsp=>?_⟩;have hl:=len _ _ _ _ hsp;have KX:K.In s.heap:=e0.mod.kin.keeps λb o e=>(e0.bs b o e).1;have lim:s.heap.NoLimit:=e0.mod.nolimit.keeps λb o e=>(e0.bs b o e).1
 have hkind:∀y∈ps.zip us,scope.names.lookup y.1=some .local∨(scope.names.lookup y.1=some .cell/\((cellsFrom (s.heap.objs.size+1) scope.names []).lookup y.1).isSome=true):=λ⟨n,v⟩ hy=>by
  rcases S.par n (List.of_mem_zip hy).1 with q|q
  ·exact .inl q
  ·exact .inr ⟨q,PySem.W.cellsFrom_some _ _ _ (.inl q)⟩
 refine codeAny_call_function hr.depth (KX _ _ lk) rfl S.co S.gen rfl (PySem.W.codeRec_of KX hcd) (hb _ _ _ _ ?_);refine wpAny_newFunctionEnv_cells S.kind hkind λenv he s1 x=>?_;subst he;refine⟨lim.keeps x.toInCall.keep,codeAny_func ?_⟩;obtain⟨t,ht,hq⟩:=hbody A outer s H vs Q E (hr.deeper _) hsp;have I:Inv (cxOf CX P w K mg base N qual scope f cdv A outer s H E) [] (start N vs) H s1:=iY_ S hr.hd e0 hl r x;refine c_7 (ht [] s1 (start N vs) H _ I hq) (λfl s' hs=>?_) λe s' hs=>hs
 have fin:∀{σ':St} {H':Hp} {v:V} {u:Aa},Inv (cxOf CX P w K mg base N qual scope f cdv A outer s H E) [] σ' H' s'->RelV v u->Q v H'->CE outer P w H s Q u s':=
  λ{σ' H' v u} J rv q=>⟨v,H',J.os,J.bare,J.base,J.hok,rv,q⟩
 cases fl with
 |ret u=>
  obtain⟨v,σ',H',J,rv,q⟩:=hs;exact fin J rv q
 |next=>
  obtain⟨σ',H',J,q⟩:=hs;exact fin (v:=V.non) (u:=Value.none) J rfl q
 |brk=>
  obtain⟨_,_,_,q⟩:=hs;exact False.elim q
 |cont=>
  obtain⟨_,_,_,q⟩:=hs;exact False.elim q
def tCB(r:List V->Hp->VK->Prop)(t:TA):TE:=λσ H Q=>t σ H λvs H1=>r vs H1 Q
variable{r:List V->Hp->VK->Prop}{id:Ai}
theorem a7_(hc:bB' X (.builtin id) r)(hg:Gl X x)(hm:X.mg x=none)(hv:bootBuiltins x=some (.builtin id))(ha:PA X (e::es) t)(hn:x≠"__name__":=by decide)(hdb:(x == ("__debug__":Str))=false:=by decide)
  (he:starEach (e::es) X.env=(false,eval e X.env)::starEach es X.env:=by rfl) (hpl:(backTo pos (starEach es X.env)).any (·.1)=false:=by rfl):PE X (.Call (.Name x p) (e::es) [] pos) (tCB r t):=by
 intro pins s σ H Q I h;refine wpAny_Call_Name_kw (ef_ I hg hm hv ?_ hn hdb);exact PyProof.Rows.callWith_builtin1 (thn (ha pos pins s σ H _ I h) λus s1 ⟨vs,H1,I1,r1,q1⟩=>hc pins s1 σ H1 vs us Q I1 r1 q1) he hpl
variable{T:Ai}
theorem ax_(hc:bB' X (.type T) r)(hg:Gl X x)(hm:X.mg x=none)(hv:bootBuiltins x=some (.type T))(ha:PA X (e::es) t)(hn:x≠"__name__":=by decide)(hdb:(x == ("__debug__":Str))=false:=by decide)
  (he:starEach (e::es) X.env=(false,eval e X.env)::starEach es X.env:=by rfl) (hpl:(backTo pos (starEach es X.env)).any (·.1)=false:=by rfl):PE X (.Call (.Name x p) (e::es) [] pos) (tCB r t):=by
 intro pins s σ H Q I h;refine wpAny_Call_Name_kw (ef_ I hg hm hv ?_ hn hdb);exact PyProof.Rows.callWith_type1 (thn (ha pos pins s σ H _ I h) λus s1 ⟨vs,H1,I1,r1,q1⟩=>hc pins s1 σ H1 vs us Q I1 r1 q1) he hpl
end L2
namespace HT
open PySem PyProof.Rows
section
open PySem.SeqAt
open PySem.AutoSeq1 (wpAny_loadPart')
open PySem.MeetsSeq PySem.MeetsSeq2 PySem.MeetsSeq3
end
def sIx(n d:Nat):Option Int->Nat
 |none=>d
 |some v=>if v<0 then (v+(n:Int)).toNat else min v.toNat n
theorem sIx_none(n d:Nat):sIx n d none=d:=rfl
theorem sIx_nat(n d k:Nat):sIx n d (some (k:Int))=min k n:=by
 show (if (k:Int)<0 then ((k:Int)+(n:Int)).toNat else min (k:Int).toNat n)=min k n;rw[a_8 Z1,a1']
end HT
namespace L2
open PySem PySem.Spec PyProof.Rows
abbrev TO:=St->Hp->(Option Int->Hp->Prop)->Prop
def PO(X:Cx)(e:Option Expr)(t:TO):Prop:=
 ∀(pins:List (Addr × Obj)) (s:Ac) (σ:St) (H:Hp) (Q:Option Int->Hp->Prop),Inv X pins σ H s->t σ H Q->
  wpAny (model X.prog X.w) X.A (evalPart e X.env) (λu s'=>∃o H',Inv X pins σ H' s'/\IsPart u o/\Q o H') X.xe s
def bJ':TO:=λ_ H Q=>Q none H
inductive tPartR (Q:Option Int->Hp->Prop) (x:V) (H1:Hp):Prop
 |mk:∀i,x=.int i->Q (some i) H1->tPartR Q x H1
def dk'(t:TE):TO:=λσ H Q=>t σ H λx H1=>tPartR Q x H1
section
variable{X:Cx}{e:Expr}{te:TE}{lo hi:Option Expr}{tl th:TO}{pos p2:Pos}
theorem ay_:PO X none bJ':=by
 intro pins s σ H Q I h;rw[evalPart_none];exact a_2 ⟨none,H,I,.none,h⟩
theorem az_(h:PE X e te):PO X (some e) (dk' te):=by
 intro pins s σ H Q I hw;rw[evalPart_some];refine thn (h pins s σ H _ I hw) λu s1 ⟨x,H1,I1,r1,q1⟩=>?_;obtain⟨i,rfl,q⟩:=q1;obtain⟨t,rfl⟩:=r1;exact⟨some i,H1,I1,.int i t,q⟩
def SlR(X:Cx)(r:V->Option Int->Option Int->Hp->VK->Prop):Prop:=
 ∀(pins:List (Addr × Obj)) (s:Ac) (σ:St) (H:Hp) (x:V) (v vl vu:Aa) (lo hi:Option Int) (sl:Addr) (Q:VK),Inv X pins σ H s->RelV x v->s.heap.IsSliceOf sl vl vu .none->IsPart vl lo->IsPart vu hi->r x lo hi H Q->
  ∃T id,typeLookup (.type T) "__getitem__"=pure (some (.builtin id))/\s.TypeIs v T/\wpAny (model X.prog X.w) X.A (getItem v (.ref sl)) (EP X pins σ Q) X.xe s
def tSl(r:V->Option Int->Option Int->Hp->VK->Prop)(te:TE)(tl th:TO):TE:=λσ H Q=>te σ H λx H1=>tl σ H1 λl H2=>th σ H2 λu H3=>r x l u H3 Q
theorem am_{r:V->Option Int->Option Int->Hp->VK->Prop}(hr:SlR X r)(he:PE X e te)(hl:PO X lo tl)(hu:PO X hi th):PE X (.Subscript e (.Slice lo hi none p2) pos) (tSl r te tl th):=by
 intro pins s σ H Q I h;refine Subscript_ (thn (he pins s σ H _ I h) λv s1 ⟨x,H1,I1,r1,q1⟩=>?_);refine wpAny_Slice (thn (hl pins s1 σ H1 _ I1 q1) λvl s2 ⟨l,H2,I2,pl,q2⟩=>thn (hu pins s2 σ H2 _ I2 q2) λvu s3 ⟨u,H3,I3,pu,q3⟩=>?_);rw[evalPart_none];refine a_2 ?_;have I4:Inv X pins σ H3 { s3 with heap:=s3.heap.push { cls:=.type "slice",data:=.fields #[vl,vu,.none] } }:=I3.kept (t':=s3.toks) λb ob q=>a_0 _ q;obtain⟨T,id,hT,ht,hg⟩:=hr pins { s3 with heap:=s3.heap.push { cls:=.type "slice",data:=.fields #[vl,vu,.none] } } σ H3 x v vl vu l u s3.heap.objs.size Q I4 r1 (Heap.IsSliceOf.new ..) pl pu q3;show wpAny (model X.prog X.w) X.A (subscriptTail e (.Slice lo hi none p2) v (.ref s3.heap.objs.size)) (EP X pins σ Q) X.xe { s3 with heap:=s3.heap.push { cls:=.type "slice",data:=.fields #[vl,vu,.none] } };exact tail_any (ops:=[.ref s3.heap.objs.size,v]) ht hT hg (by with_unfolding_all rfl)
def cutV(xs:List V)(lo hi:Option Int):List V:=(xs.drop (HT.sIx xs.length 0 lo)).take (HT.sIx xs.length xs.length hi - HT.sIx xs.length 0 lo)
theorem fR_(xs:List V)(lo hi:Option Int):(cutV xs lo hi).length<=xs.length:=by
 unfold cutV;rw[af',aM'];omega
end
def ixN(n:Nat)(i:Int):Option Nat:=if 0<=i then (if i<n then some i.toNat else none) else if -(n:Int)<=i then some (i+n).toNat else none
def atI{α:Type}(xs:List α)(i:Int):Option α:=(ixN xs.length i).bind λj=>xs[j]?
variable{j n:Nat}
theorem ii_{i:Int}(h:ixN n i=some j):seqIndex? i n=some j/\j<n/\-(n:Int)<=i/\i<n:=by
 unfold ixN at h;by_cases h0:0<=i
 ·rw[b_0 h0] at h;by_cases h1:i<n
  ·rw[b_0 h1] at h;have e:i.toNat=j:=b_2 h;exact⟨by rw[seqIndex_of h0 h1,e],by omega,by omega,h1⟩
  ·rw[a_8 h1] at h;cases h
 ·rw[a_8 h0] at h;by_cases h1:-(n:Int)<=i
  ·rw[b_0 h1] at h;have e:(i+n).toNat=j:=b_2 h;exact⟨by rw[seqIndex_neg Z1 h1,e],by omega,h1,by omega⟩
  ·rw[a_8 h1] at h;cases h
theorem g3_{α:Type}{xs:List α}{i:Int}{v:α}(h:atI xs i=some v):∃j,seqIndex? i xs.length=some j/\xs[j]? = some v/\j<xs.length/\-(xs.length:Int)<=i/\i<xs.length:=by
 unfold atI at h;cases e:ixN xs.length i with
 |none=>rw[e] at h;cases h
 |some j=>
  rw[e] at h;obtain⟨h1,h2,h3,h4⟩:=ii_ e;exact⟨j,h1,h,h2,h3,h4⟩
theorem bC'{α:Type}{xs:List α}{v:α}(h:xs[j]? = some v):atI xs (j:Int)=some v:=by
 have hj:j<xs.length:=(ab'.mp h).1
 have e:ixN xs.length (j:Int)=some j:=by
  unfold ixN;rw[b_0 Z1,b_0 Z1];simp
 unfold atI;rw[e];exact h
theorem ja_{α:Type}(xs:List α)(v:α):atI (xs++[v]) (-1)=some v:=by
 have hl:(xs++[v]).length=xs.length+1:=by simp
 have e:ixN (xs++[v]).length (-1)=some xs.length:=by
  unfold ixN;rw[hl,a_8 (by decide),b_0 Z1];congr 1;omega
 unfold atI;rw[e];show (xs++[v])[xs.length]? = some v;simp
def PlainIx(b:Expr):Prop:=∀o i,subscripted b false o i=operate [o,i] (getItem o i)
def IxR(X:Cx)(r:R2):Prop:=
 ∀(value slice:Expr) (pins:List (Addr × Obj)) (s:Ac) (σ:St) (H:Hp) (x y:V) (v u:Aa) (Q:VK),Inv X pins σ H s->RelV x v->RelV y u->r x y H Q->
  subscripted slice false v u=operate [v,u] (getItem v u)->wpAny (model X.prog X.w) X.A (subscriptTail value slice v u) (EP X pins σ Q) X.xe s
def MtR(X:Cx)(id:Ai)(r:V->List V->Hp->VK->Prop):Prop:=
 ∀(pins:List (Addr × Obj)) (s:Ac) (σ:St) (H:Hp) (x:V) (xs:List V) (v:Aa) (us:List Aa) (Q:VK),Inv X pins σ H s->RelV x v->Vals xs us->r x xs H Q->
  wpAny (model X.prog X.w) X.A (call (.builtin id) (v::us)) (EP X pins σ Q) X.xe s
variable{pins:List (Addr × Obj)}{σ:St}{s:Ac}{its its':List Aa}
variable{A:Ah}{u:Aa}
variable{T:Ai}
section
variable{X:Cx}{a b:Expr}{ta tb:TE}{pos:Pos}
theorem aj_{r:R2}(hr:IxR X r)(ha:PE X a ta)(hb:PE X b tb)(hs:PlainIx b):PE X (.Subscript a b pos) (tOp r ta tb):=by
 intro pins s σ H Q I h;exact Subscript_ (binT ha hb I h λv u s2 x y H2 I2 rx ry q=>hr a b pins s2 σ H2 x y v u Q I2 rx ry q (hs _ _))
inductive rIxL (K:F__) (x:V) (y:V) (H:Hp) (Q:VK):Prop
 |mk:∀p xs i v,x=.ref p->y=.int i->SqL K H p xs->atI xs i=some v->Q v H->rIxL K x y H Q
inductive rIxT (K:F__) (x:V) (y:V) (H:Hp) (Q:VK):Prop
 |mk:∀p xs i v,x=.ref p->y=.int i->SqT K H p xs->atI xs i=some v->Q v H->rIxT K x y H Q
inductive rIxS (x:V) (y:V) (H:Hp) (Q:VK):Prop
 |mk:∀z i c,x=.str z->y=.int i->z.length<=sizeLine->atI z.cps.toList i=some c->Q (.str ⟨#[c]⟩) H->rIxS x y H Q
theorem ad_:IxR X (rIxL X.K):=by
 intro value slice pins s σ H x y v u Q I rx ry h hs;obtain⟨p,xs,i,z,rfl,rfl,hq,he,q⟩:=h;cases rx;obtain⟨t,rfl⟩:=ry;obtain⟨its,r,pl,hz⟩:=I.list hq;obtain⟨j,h1,h2,h3,h4,h5⟩:=g3_ he;obtain⟨w,ew,rw'⟩:=r.get h2;have hl:=r.length;have hn:=line63;have fin:EP X pins σ Q w s:=⟨z,H,I,rw',q⟩;by_cases h0:0<=i
 ·have hj:i.toNat=j:=by
   rw[seqIndex_of h0 h5] at h1;exact b_2 h1
  exact item_listR pl.isList h0 Z1 (by rw[hj];simpa using ew) fin hs
 ·have hj:(i+(its.toArray.size:Int)).toNat=j:=by
   rw[seqIndex_neg Z1 h4] at h1;rw[ap',<- hl];exact b_2 h1
  exact subscriptTail_builtinR (x:=w) pl.isList.typeIs slot_list_getitem.lookup
   (wpAny_getItem_list_neg (Q:=λr s'=>r=w/\EP X pins σ Q r s') pl.isList Z1 (by rw[ap']<;>omega) Z1 (by rw[hj];simpa using ew) ⟨rfl,fin⟩) hs
theorem aO_:IxR X (rIxT X.K):=by
 intro value slice pins s σ H x y v u Q I rx ry h hs;obtain⟨p,xs,i,z,rfl,rfl,hq,he,q⟩:=h;cases rx;obtain⟨t,rfl⟩:=ry;obtain⟨its,r,pl,hz⟩:=I.tuple hq;obtain⟨j,h1,h2,h3,h4,h5⟩:=g3_ he;obtain⟨w,ew,rw'⟩:=r.get h2;have hl:=r.length;have hn:=line63;have fin:EP X pins σ Q w s:=⟨z,H,I,rw',q⟩
 exact subscriptTail_builtinR (x:=w) pl.typeIs slot_tuple_getitem.lookup
  (getItem_tuple (j:=j) (Q:=λr s'=>r=w/\EP X pins σ Q r s') pl Z1 Z1 (by rw[ap',<- hl];exact h1) (by simpa using ew) ⟨rfl,fin⟩) hs
theorem eV_:IxR X rIxS:=by
 intro value slice pins s σ H x y v u Q I rx ry h hs;obtain⟨z,i,c,rfl,rfl,hz,he,q⟩:=h;obtain⟨t,rfl⟩:=rx;obtain⟨t',rfl⟩:=ry;obtain⟨j,h1,h2,h3,h4,h5⟩:=g3_ he;have hl:z.cps.toList.length=z.length:=by simp[Str.length]
 rw[hl] at h1 h4 h5;have hn:=line63
 exact tail_any (typeIs_str s z t) slot_str_getitem.lookup (getItem_str (c:=c) (by
  have e1:decide (i < -(2 ^ 63:Int))=false:=a_4 Z1;have e2:decide (i ≥ 2 ^ 63)=false:=a_4 Z1;rw[e1,e2,Bool.or_false]) (by rw[h1];simpa using h2) ⟨.str ⟨#[c]⟩,H,I.tok _,⟨_,rfl⟩,q⟩) hs
theorem gX_(its:List Aa)(n j:Nat)(u:Aa):Obj.mapSeq (·.setIfInBounds j u) { cls:=.type "list",data:=.seq its.toArray n }={ cls:=.type "list",data:=.seq (its.set j u).toArray n }:=by
 simp[Obj.mapSeq]
theorem Inv.lst{pins:List (Addr × Obj)}{σ:St}{H:Hp}{s:Ac}{p:Addr}{xs:List V}(I:Inv X pins σ H s)(h:H p=some (.lst xs)) :
  ∃(its:List Aa) (n:Nat),Vals xs its/\s.heap.get? p=some { cls:=.type "list",data:=.seq its.toArray n }/\xs.length<=sizeLine:=by
 obtain⟨z,its,n,r,e⟩:=I.hok p _ h;exact⟨its,n,r,e,z⟩
theorem Inv.lstUpd{H:Hp}{p:Addr}{xs ys:List V}{n':Nat}{f:Obj->Obj}(I:Inv X pins σ H s)(h:H p=some (.lst xs))(ho:s.heap.get? p=some { cls:=.type "list",data:=.seq its.toArray n })(hf:f { cls:=.type "list",data:=.seq its.toArray n }={ cls:=.type "list",data:=.seq its'.toArray n' })(r:Vals ys its')(hz:ys.length<=sizeLine)(t:Nat) :
  Inv X pins σ (upd H p (.lst ys)) { s with heap:=s.heap.update p f,toks:=t }:=by
 have e:(s.heap.update p f).get? p=some { cls:=.type "list",data:=.seq its'.toArray n' }:=by
  rw[c_6 f ho (by rw[hf]<;>rfl),hf]
 refine I.write (x:=p) (e:=p) (by rw[h];trivial) (.inl rfl) (λb u hb q=>(b_5 _ _ (Ne.symm hb)).trans q) ⟨_,e⟩ ?_;exact⟨hz,its',n',r,e⟩
inductive rSetL (o:V) (i:V) (v:V) (H:Hp) (Q:Hp->Prop):Prop
 |mk:∀p xs k j,o=.ref p->i=.int k->H p=some (.lst xs)->ixN xs.length k=some j->Q (upd H p (.lst (xs.set j v)))->rSetL o i v H Q
theorem ex_:PSet X rSetL:=by
 intro pins s σ H o i v ov iv u Q I ro ri rv h;obtain⟨p,xs,k,j,rfl,rfl,hp,hj,q⟩:=h;cases ro;obtain⟨t,rfl⟩:=ri;obtain⟨its,n,r,ho,hz⟩:=I.lst hp;obtain⟨h1,h2,h3,h4⟩:=ii_ hj;have hl:=r.length;have hn:=line63
 have I':Inv X pins σ (upd H p (.lst (xs.set j v))) { s with heap:=s.heap.update p (Obj.mapSeq (·.setIfInBounds j u)) }:=
  I.lstUpd hp ho (gX_ its n j u) (r.set rv j) (by rw[List.length_set];exact hz) s.toks
 by_cases h0:0<=k
 ·have hk:k.toNat=j:=by
   rw[seqIndex_of h0 h4] at h1;exact b_2 h1
  exact PySem.W.ki_setAt ho h0 Z1 (by rw[ap',<- hl];exact h4) (by rw[hk];exact⟨_,I',q⟩)
 ·have hk:(k+(its.toArray.size:Int)).toNat=j:=by
   rw[seqIndex_neg Z1 h3] at h1;rw[ap',<- hl];exact b_2 h1
  exact PySem.W.ki_setBack ho Z1 (by rw[ap',<- hl];exact h3) Z1 (by rw[hk];exact⟨_,I',q⟩)
theorem fc_(lo hi:Option Int)(n:Nat):(sliceBounds lo hi none n).1=((HT.sIx n 0 lo:Nat):Int)/\(sliceBounds lo hi none n).2.1=((HT.sIx n n hi:Nat):Int)/\(sliceBounds lo hi none n).2.2=1:=by
 refine⟨?_,?_,rfl⟩
 ·cases lo with
  |none=>simp[sliceBounds,HT.sIx]
  |some i=>
   simp only[sliceBounds,HT.sIx,Option.getD_none,show (1:Int) > 0 by decide,if_true];by_cases h:i<0
   ·simp only[h,if_true]<;>omega
   ·simp only[h,if_false]<;>omega
 ·cases hi with
  |none=>simp[sliceBounds,HT.sIx]
  |some i=>
   simp only[sliceBounds,HT.sIx,Option.getD_none,show (1:Int) > 0 by decide,if_true];by_cases h:i<0
   ·simp only[h,if_true]<;>omega
   ·simp only[h,if_false]<;>omega
theorem eQ_(its:List Aa)(lo hi:Option Int):slicePick its.toArray lo hi none=((its.drop (HT.sIx its.length 0 lo)).take (HT.sIx its.length its.length hi - HT.sIx its.length 0 lo)).toArray:=by
 obtain⟨h1,h2,h3⟩:=fc_ lo hi its.toArray.size;unfold slicePick;rw[h1,h2,h3];simp only[sliceRange_one,pick_run,ap']<;>rfl
inductive rSlL (K:F__) (x:V) (lo:Option Int) (hi:Option Int) (H:Hp) (Q:VK):Prop
 |mk:∀a xs,x=.ref a->SqL K H a xs->(∀p,H p=none->Q (.ref p) (upd H p (.lst (cutV xs lo hi))))->rSlL K x lo hi H Q
theorem aE_:SlR X (rSlL X.K):=by
 intro pins s σ H x v vl vu lo hi sl Q I rx hs pl pu h;obtain⟨a,xs,rfl,hx,q⟩:=h;cases rx;obtain⟨its,r,ht,hz⟩:=I.list hx;have hlen:=r.length;refine⟨"list",_,slot_list_getitem.lookup,ht.isList.typeIs,?_⟩;refine wpAny_getItem_list_slice ht.isList hs pl pu .none Z2 ?_ (by rw[ap']<;>omega)
 rw[eQ_,<- hlen];refine⟨.ref s.heap.objs.size,_,I.laid (t':=s.toks) (o:=.lst (cutV xs lo hi)) (λb ob q=>a_0 _ q) (ak' _) ?_,rfl,q _ (I.hok.fresh (ak' _))⟩;exact⟨a7' (fR_ xs lo hi) hz,_,0,(r.drop (HT.sIx xs.length 0 lo)).take (HT.sIx xs.length xs.length hi - HT.sIx xs.length 0 lo),a_7 _ rfl⟩
def flatV:V->Bool
 |.non=>true
 |.bl _=>true
 |.int _=>true
 |.str _=>true
 |_=>false
def eqV:V->V->Bool
 |.non,.non=>true
 |.bl a,.bl b=>a == b
 |.bl a,.int b=>(if a then 1 else 0) == b
 |.int a,.bl b=>a == (if b then 1 else 0)
 |.int a,.int b=>a == b
 |.str a,.str b=>a == b
 |_,_=>false
theorem kh_{y x:V}{v:Aa}(ry:RelV y u)(rx:RelV x v)(fy:flatV y=true)(fx:flatV x=true):SeqAt.EqAt A s u v (eqV y x):=by
 cases y with
 |non=>
  cases ry;cases x with
  |non=>cases rx;exact SeqAt.EqAt.same _
  |bl b=>cases rx;exact SeqAt.EqAt.none_bool b
  |int b=>obtain⟨t,rfl⟩:=rx;exact SeqAt.EqAt.none_int b t
  |str b=>obtain⟨t,rfl⟩:=rx;exact SeqAt.EqAt.none_str b t
  |_=>exact absurd (show false=true from fx) ax'
 |bl a=>
  cases ry;cases x with
  |non=>cases rx;exact SeqAt.EqAt.bool_none a
  |bl b=>cases rx;exact SeqAt.EqAt.bool_bool a b
  |int b=>obtain⟨t,rfl⟩:=rx;exact SeqAt.EqAt.bool_int a b t
  |str b=>obtain⟨t,rfl⟩:=rx;exact SeqAt.EqAt.bool_str a b t
  |_=>exact absurd (show false=true from fx) ax'
 |int a=>
  obtain⟨t',rfl⟩:=ry;cases x with
  |non=>cases rx;exact SeqAt.EqAt.int_none a t'
  |bl b=>cases rx;exact SeqAt.EqAt.int_bool a t' b
  |int b=>obtain⟨t,rfl⟩:=rx;exact SeqAt.EqAt.int_int a t' b t
  |str b=>obtain⟨t,rfl⟩:=rx;exact SeqAt.EqAt.int_str a t' b t
  |_=>exact absurd (show false=true from fx) ax'
 |str a=>
  obtain⟨t',rfl⟩:=ry;cases x with
  |non=>cases rx;exact SeqAt.EqAt.str_none a t'
  |bl b=>cases rx;exact SeqAt.EqAt.str_bool a t' b
  |int b=>obtain⟨t,rfl⟩:=rx;exact SeqAt.EqAt.str_int a t' b t
  |str b=>obtain⟨t,rfl⟩:=rx;exact SeqAt.EqAt.str_str a t' b t
  |_=>exact absurd (show false=true from fx) ax'
 |_=>exact absurd (show false=true from fy) ax'
inductive cM' (K:F__) (xs:List V) (H:Hp) (Q:VK):Prop
 |mk:∀p ys,xs=[.ref p]->(SqL K H p ys∨SqT K H p ys)->Q (.int ys.length) H->cM' K xs H Q
theorem ak_:bB' X (.builtin "len") (cM' X.K):=by
 intro pins s σ H xs us Q I r h;obtain⟨p,ys,rfl,hq,q⟩:=h;obtain⟨u,rfl,rx⟩:=vals1 r;cases rx;have hn:=line63;rcases hq with hq|hq
 ·obtain⟨its,r',pl,hz⟩:=I.list hq;have hlen:=r'.length;exact Calls.call_len_list pl.isList (by simp only[ap']<;>omega) ⟨.int ys.length,H,I.tok _,⟨s.toks+1,by rw[ap',hlen]⟩,q⟩
 ·obtain⟨its,r',pl,hz⟩:=I.tuple hq;have hlen:=r'.length;exact len_tuple pl (by simp only[ap']<;>omega) ⟨.int ys.length,H,I.tok _,⟨s.toks+1,by rw[ap',hlen]⟩,q⟩
inductive cw' (xs:List V) (H:Hp) (Q:VK):Prop
 |mk:∀z,xs=[.str z]->z.length<=sizeLine->Q (.int z.length) H->cw' xs H Q
theorem bp_:bB' X (.builtin "len") cw':=by
 intro pins s σ H xs us Q I r h;obtain⟨z,rfl,hz,q⟩:=h;obtain⟨u,rfl,t,rfl⟩:=vals1 r;have hn:=line63;exact len_str Z1 ⟨.int z.length,H,I.tok _,⟨_,rfl⟩,q⟩
inductive b1' (K:F__) (xs:List V) (H:Hp) (Q:VK):Prop
 |mk:∀p ys,xs=[.ref p]->(SqL K H p ys∨SqT K H p ys)->(∀l,H l=none->Q (.ref l) (upd H l (.lst ys)))->b1' K xs H Q
theorem fd_:bB' X (.type "list") (b1' X.K):=by
 intro pins s σ H xs us Q I r h;obtain⟨p,ys,rfl,hq,q⟩:=h;obtain⟨u,rfl,rx⟩:=vals1 r;cases rx
 have fin:∀(its:List Aa),Vals ys its->ys.length<=sizeLine->∀(h':Heap) (c':Nat),(∀b o',s.heap.get? b=some o'->h'.get? b=some o')->
   h'.get? s.heap.objs.size=some { cls:=.type "list",dict:=none,data:=.seq its.toArray c',slots:=#[] }->EP X pins σ Q (.ref s.heap.objs.size) { s with heap:=h' }:=λits r' hz h' c' kp e=>
  ⟨.ref s.heap.objs.size,_,I.laid (t':=s.toks) kp (ak' _) (show bt' X.prog X.w _ h' _ (.lst ys) from ⟨hz,its,c',r',e⟩),rfl,q _ (I.hok.fresh (ak' _))⟩
 rcases hq with hq|hq
 ·obtain⟨its,r',pl,hz⟩:=I.list hq;have hlen:=r'.length;obtain⟨o,ho,hc,n,hd⟩:=pl.isList;exact call_list_seq p (.inl rfl) ho hc hd (λh' c' kp e=>fin its r' hz h' c' kp e) (by simp only[ap']<;>omega)
 ·obtain⟨its,r',pl,hz⟩:=I.tuple hq;have hlen:=r'.length;obtain⟨o,ho,hc,n,hd⟩:=pl;exact call_list_seq p (.inr rfl) ho hc hd (λh' c' kp e=>fin its r' hz h' c' kp e) (by simp only[ap']<;>omega)
inductive bS' (K:F__) (xs:List V) (H:Hp) (Q:VK):Prop
 |mk:∀p ys,xs=[.ref p]->((SqL K H p ys/\∀l,H l=none->Q (.ref l) (upd H l (.tup ys)))∨(SqT K H p ys/\Q (.ref p) H))->bS' K xs H Q
theorem ey_:bB' X (.type "tuple") (bS' X.K):=by
 intro pins s σ H xs us Q I r h;obtain⟨p,ys,rfl,h⟩:=h;obtain⟨u,rfl,rx⟩:=vals1 r;cases rx;rcases h with⟨hq,q⟩|⟨hq,q⟩
 ·obtain⟨its,r',pl,hz⟩:=I.list hq;have hlen:=r'.length;refine call_tuple_list pl.isList (λh' kp=>?_) (by simp only[ap']<;>omega)
  have I1:Inv X pins σ H { s with heap:=h' }:=I.kept (t':=s.toks) kp
  have I2:Inv X pins σ (upd H h'.objs.size (.tup ys)) { s with heap:=h'.push { cls:=.type "tuple",data:=.seq its.toArray } }:=
   I1.laid (t':=s.toks) (λb o e=>a_0 _ e) (ak' _) (show bt' X.prog X.w _ _ _ (.tup ys) from ⟨hz,its,r',IsTup.new _ _,_,a_7 _ rfl,rfl⟩)
  exact⟨.ref h'.objs.size,_,I2,rfl,q _ (I1.hok.fresh (ak' _))⟩
 ·obtain⟨its,r',pl,hz⟩:=I.tuple hq;exact call_tuple_same pl ⟨.ref p,H,I,rfl,q⟩
def tyV(K:F__)(T:Ai)(x:V)(H:Hp):Prop:=match x with
 |.str _=>T="str"
 |.int _=>T="int"
 |.ref p=>(T="list"/\∃xs,SqL K H p xs)∨(T="tuple"/\∃o,K.lookup p=some o/\o.cls=.type "tuple"/\o.dict=none) ∨
   (T="dict"/\((∃kvs,H p=some (.dK kvs))∨∃kvs,H p=some (.dT kvs)))∨(T="set"/\∃S n,H p=some (.set S n))
 |_=>False
theorem lz_{H:Hp}{x:V}{v:Aa}(I:Inv X pins σ H s)(r:RelV x v)(ty:tyV X.K T x H) :
  s.TypeIs v T/\∀a,v=.ref a->∃ob,s.heap.get? a=some ob/\ob.dict=none:=by
 cases x with
 |str z=>
  obtain⟨t,rfl⟩:=r;cases (show T="str" from ty);exact⟨typeIs_str s z t,λ_ e=>nomatch e⟩
 |int i=>
  obtain⟨t,rfl⟩:=r;cases (show T="int" from ty);exact⟨typeIs_int s i t,λ_ e=>nomatch e⟩
 |ref p=>
  cases r;rcases ty with⟨rfl,xs,hq⟩|⟨rfl,o,hk,hc,hd⟩|⟨rfl,hk⟩|⟨rfl,S,n,hk⟩
  ·obtain⟨its,_,pl,_⟩:=I.list hq;refine⟨pl.isList.typeIs,λa e=>?_⟩;cases e;obtain⟨o,n,e,c,hd,_⟩:=pl;exact⟨o,e,hd⟩
  ·refine⟨⟨o,I.kIn p o hk,hc⟩,λa e=>?_⟩;cases e;exact⟨o,I.kIn _ o hk,hd⟩
  ·have z:∃o,s.heap.get? p=some o/\o.ExactDict:=by
    rcases hk with⟨kvs,hk⟩|⟨kvs,hk⟩
    ·obtain⟨_,_,_,_,o,_,_,e,ex,_⟩:=I.hok p _ hk;exact⟨o,e,ex⟩
    ·obtain⟨_,_,_,_,o,_,_,e,ex,_⟩:=I.hok p _ hk;exact⟨o,e,ex⟩
   obtain⟨o,e,ex⟩:=z;refine⟨⟨o,e,ex.1⟩,λa e2=>?_⟩;cases e2;exact⟨o,e,ex.2.1⟩
  ·obtain⟨o,_,_,_,e,ex,_⟩:=I.hok p _ hk;refine⟨⟨o,e,ex.1⟩,λa e2=>?_⟩;cases e2;exact⟨o,e,ex.2.1⟩
 |_=>exact False.elim ty
def tBM(K:F__)(T:Ai)(r:V->List V->Hp->VK->Prop)(to:TE)(t:TA):TE:=λσ H Q=>to σ H λx H1=>tyV K T x H1/\t σ H1 λxs H2=>r x xs H2 Q
variable{o e:Expr}{es:List Expr}{to:TE}{t:TA}{name:Str}{apos cpos:Pos}{T id:Ai}{r:V->List V->Hp->VK->Prop}
theorem bl_(pa:PlainAttrs T)(slot:Slot T name id)(hty:typeOf (.builtin id)=pure (.type "method_descriptor"))(hm:MtR X id r)(ho:PE X o to)(ha:PA X (e::es) t)
  (hbase:attributeBase o name X.env (eval o X.env)=eval o X.env:=by rfl)
  (hfew:((backTo cpos (starEach (e::es) X.env)).all (λx=>!x.1)&&(backToKw cpos (keywordEach [] X.env)).all (λx=>x.1.isSome)
   && decide ((e::es).length+([]:List Keyword).length+(if ([]:List Keyword).isEmpty then 0 else 1)<30))=true:=by rfl)
  (hline:(apos.endLine == cpos.line)=true:=by rfl) (hs:starEach (e::es) X.env=(false,eval e X.env)::starEach es X.env:=by rfl) (hplain:(backTo cpos (starEach es X.env)).any (·.1)=false:=by rfl) :
  PE X (.Call (.Attribute o name apos) (e::es) [] cpos) (tBM X.K T r to t):=by
 intro pins s σ H Q I h;refine wpAny_Call_method_late hbase hfew hline rfl (thn (ho pins s σ H _ I h) λv s1 ⟨x,H1,I1,r1,ty,q1⟩=>?_);obtain⟨h1,h2⟩:=lz_ I1 r1 ty;refine⟨T,id,pa,slot,hty,h1,h2,?_⟩;have hA:=ha cpos pins s1 σ H1 _ I1 q1;rw[hs] at hA ⊢;refine Calls.callWith_builtin (by show (false || (backTo cpos (starEach es X.env)).any (·.1))=false;rw[hplain]<;>rfl) (Calls.evalArgs_plain ?_)
 exact thn hA λus s2 ⟨vs,H2,I2,r2,q2⟩=>hm pins s2 σ H2 x vs v us Q I2 r1 r2 q2
end
def MtM(X:Cx)(id:Ai)(r:V->List V->Hp->VK->Prop):Prop:=
 ∀(pins:List (Addr × Obj)) (s:Ac) (σ:St) (H:Hp) (x:V) (xs:List V) (v:Aa) (us:List Aa) (Q:VK),Inv X pins σ H s->RelV x v->Vals xs us->r x xs H Q->
  wpAny (model X.prog X.w) X.A (call (.builtin id) (v::us)) (EP X pins σ Q) X.xe s
theorem Vals.one:∀{x:V} {us:List Aa},Vals [x] us->∃u,us=[u]/\RelV x u
 |_,_,.cons r .nil=>⟨_,rfl,r⟩
theorem Vals.two:∀{x y:V} {us:List Aa},Vals [x,y] us->∃u v,us=[u,v]/\RelV x u/\RelV y v
 |_,_,_,.cons r (.cons q .nil)=>⟨_,_,rfl,r,q⟩
variable{t':Nat}
section
variable{X:Cx}{pins:List (Addr × Obj)}{σ:St}{H:Hp}{s:Ac}{l b:Addr}{xs ys zs:List V}
theorem Inv.lset{f:Array Aa->Array Aa}(I:Inv X pins σ H s)(hH:H l=some (.lst xs))(e:s.heap.get? l=some { cls:=.type "list",data:=.seq its.toArray n })(hf:f its.toArray=its'.toArray)(hv:Vals ys its')(hz:ys.length<=sizeLine) :
  Inv X pins σ (upd H l (.lst ys)) { s with heap:=s.heap.update l (Obj.mapSeq f),toks:=t' }:=by
 have q:=PySem.IsL.update e f;rw[hf] at q;refine I.write (x:=l) (e:=l) (by rw[hH];exact trivial) (.inl rfl) (λb' u hb hu=>(b_5 s.heap (Obj.mapSeq f) (Ne.symm hb)).trans hu) ⟨_,q⟩ ?_;exact⟨hz,its',_,hv,q⟩
theorem Inv.lnew(I:Inv X pins σ H s)(hv:Vals ys its)(hz:ys.length<=sizeLine) :
  Inv X pins σ (upd H s.heap.objs.size (.lst ys)) { s with heap:=s.heap.push { cls:=.type "list",data:=.seq its.toArray },toks:=t' }:=
 I.laid (λ_ _ q=>a_0 _ q) (ak' _) ⟨hz,its,0,hv,a_7 _ rfl⟩
theorem Inv.fresh(I:Inv X pins σ H s):H s.heap.objs.size=none:=I.hok.fresh (ak' _)
theorem Inv.lstM(I:Inv X pins σ H s)(hH:H l=some (.lst xs)):xs.length<=sizeLine/\∃(its:List Aa) (n:Nat),Vals xs its/\xs.length=its.length/\s.heap.get? l=some { cls:=.type "list",data:=.seq its.toArray n }:=by
 obtain⟨z,its,n,r,e⟩:=I.hok l _ hH;exact⟨z,its,n,r,r.length,e⟩
theorem notLongL(h:n<=sizeLine):Builtin.List.listTooLong n=false:=by
 unfold Builtin.List.listTooLong;exact a_4 Z1
end
inductive er' (x:V) (vs:List V) (H:Hp) (Q:VK):Prop
 |mk:∀l xs y,x=.ref l->vs=[y]->H l=some (.lst xs)->xs.length<sizeLine->Q .non (upd H l (.lst (xs++[y])))->er' x vs H Q
variable{X:Cx}
theorem bn_:MtM X "list.append" er':=by
 intro pins s σ H x vs v us Q I rx rv h;obtain⟨l,xs,y,rfl,rfl,hH,hz,q⟩:=h;cases rx;obtain⟨u,rfl,ru⟩:=rv.one;obtain⟨z,its,n,r,hl,e⟩:=I.lstM hH;refine call_meets F.slot_list_append ⟨_,e,rfl⟩ F.entry_list_append (F.args_list_append_2 _ _) (PySem.list_append l its.toArray n u (by rw[ap'];omega)) ⟨e,?_⟩;refine⟨.non,_,I.lset (its':=its++[u]) hH e Z2 (r.append (.cons ru .nil)) ?_,rfl,q⟩;rw[aj',List.length_singleton];omega
inductive rExtend (x:V) (vs:List V) (H:Hp) (Q:VK):Prop
 |mk:∀l b xs zs,x=.ref l->vs=[.ref b]->H l=some (.lst xs)->H b=some (.lst zs)->xs.length+zs.length<=sizeLine->Q .non (upd H l (.lst (xs++zs)))->rExtend x vs H Q
theorem iH_:MtM X "list.extend" rExtend:=by
 intro pins s σ H x vs v us Q I rx rv h;obtain⟨l,b,xs,zs,rfl,rfl,hH,hB,hz,q⟩:=h;cases rx;obtain⟨u,rfl,ru⟩:=rv.one;cases ru;obtain⟨z,its,n,r,hl,e⟩:=I.lstM hH;obtain⟨z2,its2,n2,r2,hl2,e2⟩:=I.lstM hB;have hsz:its.toArray.size+its2.toArray.size<=sizeLine:=by rw[ap',ap'];omega
 have hlong:¬(!its.toArray.isEmpty&&Builtin.List.listTooLong (its.toArray.size+its2.toArray.size))=true:=by
  rw[notLongL hsz,Bool.and_false];exact ax'
 refine call_meets F.slot_list_extend ⟨_,e,rfl⟩ F.entry_list_extend (F.args_list_extend_2 _ _)
  (AutoSeq1.list_extend_list_list_0 l its.toArray n b its2.toArray n2 hlong (by rw[ap'];omega) Z1) ⟨e,e2,?_⟩
 refine⟨.non,_,I.lset (its':=its++its2) hH e Z2 (r.append r2) ?_,rfl,q⟩;rw[aj'];omega
inductive rCat (x:V) (y:V) (H:Hp) (Q:VK):Prop
 |mk:∀l b xs zs,x=.ref l->y=.ref b->H l=some (.lst xs)->H b=some (.lst zs)->xs.length+zs.length<=sizeLine->(∀p,H p=none->Q (.ref p) (upd H p (.lst (xs++zs))))->rCat x y H Q
theorem aI_:OpR X (binaryOp .Add) rCat:=by
 intro pins s σ H x y v u Q I rx ry h;obtain⟨l,b,xs,zs,rfl,rfl,hH,hB,hz,q⟩:=h;cases rx;cases ry;obtain⟨z,its,n,r,hl,e⟩:=I.lstM hH;obtain⟨z2,its2,n2,r2,hl2,e2⟩:=I.lstM hB;refine PySem.P.add_list e e2 ?_ (by rw[ap',ap'];omega);have ea:its.toArray++its2.toArray=(its++its2).toArray:=by simp
 rw[ea];exact⟨.ref _,_,I.lnew (t':=s.toks) (r.append r2) (by rw[aj'];omega),rfl,q _ I.fresh⟩
variable{o:Option V}
section
variable{κ:Type}[DecidableEq κ]
def valV(kvs:List (κ × V))(k:κ):Option V:=(kvs.find? λkv=>decide (kv.1=k)).map (·.2)
def putK(kvs:List (κ × V))(k:κ)(v:V):List (κ × V):=
 if (kvs.any λkv=>decide (kv.1=k))=true then kvs.map (λkv=>if kv.1=k then (kv.1,v) else kv) else kvs++[(k,v)]
theorem ca_{p:κ × V}{r:List (κ × V)}{k:κ}(e:p.1=k):valV (p::r) k=some p.2:=by simp[valV,List.find?_cons,e]
theorem c3_{p:κ × V}{r:List (κ × V)}{k:κ}(e:¬p.1=k):valV (p::r) k=valV r k:=by simp[valV,List.find?_cons,e]
theorem cO_(k:κ):∀kvs:List (κ × V),(kvs.any λkv=>decide (kv.1=k))=(valV kvs k).isSome
 |[]=>rfl
 |p::r=>by
  rw[List.any_cons];by_cases e:p.1=k
  ·simp only[ca_ e,a_5 e,Bool.true_or,Option.isSome_some]
  ·rw[c3_ e,a_4 e,Bool.false_or];exact cO_ k r
theorem cF_(kvs:List (κ × V))(k:κ)(v:V):(putK kvs k v).length<=kvs.length+1:=by
 unfold putK;split
 ·rw[aa'];omega
 ·rw[aj',aA',List.length_nil];omega
theorem bw_{kvs:List (κ × V)}{k:κ}(v:V)(h:valV kvs k=none):putK kvs k v=kvs++[(k,v)]:=by
 unfold putK;rw[cO_,h];exact a_8 (by decide)
theorem RelO.isSome_eq{u:Option Aa}(r:RelO o u):o.isSome=u.isSome:=by
 cases o with
 |none=>cases u with
  |none=>rfl
  |some _=>exact (show False from r).elim
 |some _=>cases u with
  |none=>exact (show False from r).elim
  |some _=>rfl
theorem KV.val{kvs:List (κ × V)}{vs:List (κ × Aa)}(r:KV kvs vs)(k:κ):RelO (valV kvs k) (valueAt vs k):=by
 unfold KV at r
 induction r with
 |nil=>exact True.intro
 |@cons p q ps qs h t ih=>
  obtain⟨h1,h2⟩:=h;by_cases e:p.1=k
  ·have e':q.1=k:=h1.symm.trans e;have b:valueAt (q::qs) k=some q.2:=by simp[valueAt,List.find?_cons,e']
   rw[ca_ e,b];exact h2
  ·have e':¬q.1=k:=λz=>e (h1.trans z);have b:valueAt (q::qs) k=valueAt qs k:=by simp[valueAt,List.find?_cons,e']
   rw[c3_ e,b];exact ih
theorem KV.any{kvs:List (κ × V)}{vs:List (κ × Aa)}(r:KV kvs vs)(k:κ):(kvs.any λkv=>decide (kv.1=k))=vs.any λkv=>decide (kv.1=k):=by
 unfold KV at r
 induction r with
 |nil=>rfl
 |cons h t ih=>rw[List.any_cons,List.any_cons,ih,h.1]
theorem KV.repl{kvs:List (κ × V)}{vs:List (κ × Aa)}(r:KV kvs vs)(k:κ){y:V}(ry:RelV y u) :
  KV (kvs.map λkv=>if kv.1=k then (kv.1,y) else kv) (vs.map λkv=>if kv.1=k then (kv.1,u) else kv):=by
 unfold KV at r ⊢
 induction r with
 |nil=>exact .nil
 |@cons p q ps qs h t ih=>
  rw[au',au'];refine .cons ?_ ih;obtain⟨h1,h2⟩:=h;by_cases e:p.1=k
  ·rw[b_0 e,b_0 (h1.symm.trans e)];exact⟨h1,ry⟩
  ·rw[a_8 e,a_8 (λz=>e (h1.trans z))];exact⟨h1,h2⟩
theorem KV.put{kvs:List (κ × V)}{vs:List (κ × Aa)}(r:KV kvs vs)(k:κ){y:V}(ry:RelV y u):KV (putK kvs k y) (stored vs k u):=by
 unfold putK stored;rw[r.any k];by_cases e:(vs.any λkv=>decide (kv.1=k))=true
 ·rw[b_0 e,b_0 e];exact r.repl k ry
 ·rw[a_8 e,a_8 e];exact Paired.snoc r ⟨rfl,ry⟩
theorem KV.keys{kvs:List (κ × V)}{vs:List (κ × Aa)}(r:KV kvs vs):kvs.map (·.1)=vs.map (·.1):=by
 unfold KV at r
 induction r with
 |nil=>rfl
 |cons h t ih=>rw[au',au',ih,h.1]
theorem KV.length{kvs:List (κ × V)}{vs:List (κ × Aa)}(r:KV kvs vs):kvs.length=vs.length:=a_1 r
end
variable{P:Ae}{w:Ag}
theorem gW_{k:Key}(r:RelV (kV k) u):(bi' P w).is k u=true:=by
 cases k with
 |inl i=>obtain⟨t,e⟩:=(show ∃t,u=Value.int i t from r);subst e;exact fO_ P w i t
 |inr x=>obtain⟨t,e⟩:=(show ∃t,u=Value.str x t from r);subst e;exact g7_ P w x t
theorem f1_{P:Ae}{w:Ag}:∀{ks:List Key} {us:List Aa},Vals (ks.map kV) us->ItemsAre (bi' P w) ks us
 |[],_,r=>by rw[List.map_nil] at r;cases r;exact .nil
 |k::ks,_,r=>by
  rw[au'] at r;cases r with
  |cons h t=>exact .cons (gW_ h) (f1_ t)
abbrev KT(H:Hp):List (List Key × V)->List (List Key × Addr × Aa)->Prop:=Paired λp q=>p.1=q.1/\H q.2.1=some (.tup (p.1.map kV))/\RelV p.2 q.2.2
variable{H:Hp}{xs:List (List Key × Addr × Aa)}{kvs:List (List Key × V)}
theorem KT.val(r:KT H kvs xs)(k:List Key):RelO (valV kvs k) ((atKey xs k).map (·.2)):=by
 induction r with
 |nil=>exact True.intro
 |@cons p q ps qs h t ih=>
  obtain⟨h1,_,h2⟩:=h;by_cases e:p.1=k
  ·have e':q.1=k:=h1.symm.trans e;have b:atKey (q::qs) k=some q.2:=by simp[atKey,List.find?_cons,e']
   rw[ca_ e,b];exact h2
  ·have e':¬q.1=k:=λz=>e (h1.trans z);have b:atKey (q::qs) k=atKey qs k:=by simp[atKey,List.find?_cons,e']
   rw[c3_ e,b];exact ih
theorem KT.repl(r:KT H kvs xs)(k:List Key){y:V}(ry:RelV y u) :
  KT H (kvs.map λkv=>if kv.1=k then (kv.1,y) else kv) (xs.map (putAt k u)):=by
 induction r with
 |nil=>exact .nil
 |@cons p q ps qs h t ih=>
  rw[au',au'];refine .cons ?_ ih;obtain⟨h1,h2,h3⟩:=h;unfold putAt;by_cases e:p.1=k
  ·rw[b_0 e,b_0 (h1.symm.trans e)];exact⟨h1,h2,ry⟩
  ·rw[a_8 e,a_8 (λz=>e (h1.trans z))];exact⟨h1,h2,h3⟩
variable{b:Addr}
theorem KT.put(r:KT H kvs xs)(k:List Key){y:V}(hb:H b=some (.tup (k.map kV)))(ry:RelV y u) :
  KT H (putK kvs k y) (storedH xs k b u):=by
 have e:(kvs.any λkv=>decide (kv.1=k))=(atKey xs k).isSome:=by
  rw[cO_,(r.val k).isSome_eq,Option.isSome_map]
 unfold putK storedH;rw[e];by_cases q:(atKey xs k).isSome=true
 ·rw[b_0 q,b_0 q];exact r.repl k ry
 ·rw[a_8 q,a_8 q];exact Paired.snoc r ⟨rfl,hb,ry⟩
variable{H':Hp}
theorem KT.keeps(r:KT H kvs xs)(ht:∀b ys,H b=some (.tup ys)->H' b=some (.tup ys)):KT H' kvs xs:=
 Paired.mapP r λ_ _ z=>⟨z.1,ht _ _ z.2.1,z.2.2⟩
variable{h:Heap}{a:Addr}
theorem lJ_{u:HO}(ok:HOk P w H h)(e:Rd H a u):bt' P w H h a u:=e.ok ok
theorem d1_{kvs:List (Key × V)}(ok:HOk P w H h)(e:Rd H a (.dK kvs)):kvs.length<=sizeLine/\(a == sysModules)=false/\∃vs,KV kvs vs/\h.DictOf (bi' P w) a vs:=
 show bt' P w H h a (.dK kvs) from lJ_ ok e
theorem jM_{kvs:List (Key × V)}(ok:HOk P w H h)(e:H a=some (.dK kvs)):kvs.length<=sizeLine/\(a == sysModules)=false/\∃vs,KV kvs vs/\h.DictOf (bi' P w) a vs:=d1_ ok (.inl e)
theorem fq_{ks:List Key}(ok:HOk P w H h)(e:H a=some (.tup (ks.map kV))):(tupleKind (bi' P w)).is h ks a:=by
 obtain⟨_,its,r,⟨o,h1,h2,n,h3⟩,_⟩:=(show bt' P w H h a (.tup (ks.map kV)) from ok a _ e);exact⟨o,its.toArray,n,h1,h2,h3,by simpa using f1_ r⟩
theorem h1_(ok:HOk P w H h)(e:Rd H a (.dT kvs)):kvs.length<=sizeLine/\(a == sysModules)=false /\
  ∃xs,KT H kvs xs/\h.DictOfH (tupleKind (bi' P w)) a xs:=by
 obtain⟨z,y,xs,r,o,es,ep,h1,h2,h3,h4,h5⟩:=(show bt' P w H h a (.dT kvs) from lJ_ ok e);refine⟨z,y,xs,r,o,es,ep,h1,h2,h3,h4,λx hx=>?_,h5⟩
 have all:∀{l:List (List Key × V)} {m:List (List Key × Addr × Aa)},KT H l m->∀x∈m,(tupleKind (bi' P w)).is h x.1 x.2.1:=by
  intro l m q
  induction q with
  |nil=>intro x hx;exact nomatch hx
  |@cons p q ps qs hq t ih=>
   intro x hx;rcases ah'.mp hx with e|hx
   ·subst e;exact fq_ ok (by rw[<- hq.1];exact hq.2.1)
   ·exact ih x hx
 exact all r x hx
theorem mf_(ok:HOk P w H h)(e:H a=some (.dT kvs)):kvs.length<=sizeLine/\(a == sysModules)=false /\
  ∃xs,KT H kvs xs/\h.DictOfH (tupleKind (bi' P w)) a xs:=h1_ ok (.inl e)
def DGet(H:Hp)(a:Addr)(y:V)(r:Option V):Prop:=
 (∃kvs k,Rd H a (.dK kvs)/\y=kV k/\r=valV kvs k)∨∃kvs k b,Rd H a (.dT kvs)/\y=.ref b/\H b=some (.tup (k.map kV))/\r=valV kvs k
def DPut(H:Hp)(a:Addr)(y v:V)(H':Hp):Prop:=
 (∃kvs k,H a=some (.dK kvs)/\y=kV k/\kvs.length<sizeLine/\H'=upd H a (.dK (putK kvs k v))) ∨
 ∃kvs k b,H a=some (.dT kvs)/\y=.ref b/\H b=some (.tup (k.map kV))/\kvs.length<sizeLine/\H'=upd H a (.dT (putK kvs k v))
theorem DGet.k{kvs:List (Key × V)}{k:Key}(e:H a=some (.dK kvs)):DGet H a (kV k) (valV kvs k):=.inl ⟨kvs,k,.inl e,rfl,rfl⟩
theorem DGet.t{k:List Key}(e:H a=some (.dT kvs))(eb:H b=some (.tup (k.map kV))):DGet H a (.ref b) (valV kvs k):=.inr ⟨kvs,k,b,.inl e,rfl,eb,rfl⟩
theorem DPut.k{kvs:List (Key × V)}{k:Key}{v:V}(e:H a=some (.dK kvs))(hl:kvs.length<sizeLine):DPut H a (kV k) v (upd H a (.dK (putK kvs k v))):=.inl ⟨kvs,k,e,rfl,hl,rfl⟩
theorem DPut.t{k:List Key}{v:V}(e:H a=some (.dT kvs))(eb:H b=some (.tup (k.map kV)))(hl:kvs.length<sizeLine) :
  DPut H a (.ref b) v (upd H a (.dT (putK kvs k v))):=.inr ⟨kvs,k,b,e,rfl,eb,hl,rfl⟩
variable{h':Heap}
variable{kvs:List (Key × V)}
section
variable{X:Cx}{pins:List (Addr × Obj)}{σ:St}{H:Hp}{s:Ac}{a:Addr}{y v:V}{u r:Aa}{o:Option V}{A:Ah}{E:Aa->Ac->Prop}
theorem Inv.big(I:Inv X pins σ H s):sysModules<s.heap.objs.size:=by
 have h:mainGlobals<s.heap.objs.size:=(I.mod.glob.keeps I.bk).lt;exact Nat.lt_trans (by decide) h
theorem iT_{Q:Aa->Ac->Prop}(hu:A.units+1<cLine)(I:Inv X pins σ H s)(g:DGet H a y (some v))(ry:RelV y u)(h:∀w' s',Inv X pins σ H s'->RelV v w'->Q w' s') :
  wpAny (model X.prog X.w) A (getItem (.ref a) u) Q E s:=by
 rcases g with⟨kvs,k,e,ey,l⟩|⟨kvs,k,b,e,ey,eb,l⟩
 ·subst ey;obtain⟨z,hd,vs,rel,dd⟩:=d1_ I.hok e;obtain⟨w',hw,rw'⟩:=RelO.some_of (v:=v) (o:=valueAt vs k) (by rw[l];exact rel.val k);exact wpAny_getItem_of (gW_ ry) dd.mapOf hw (h w' _ (I.tok _) rw')
 ·subst ey;cases (show u=Value.ref b from ry);obtain⟨z,hd,xs,rel,dd⟩:=h1_ I.hok e;obtain⟨w',hw,rw'⟩:=RelO.some_of (v:=v) (o:=(atKey xs k).map (·.2)) (by rw[l];exact rel.val k);obtain⟨p,hp,hp2⟩:=Option.map_eq_some_iff.mp hw;refine wpAny_getItem_heap (tupleKind_room_in1 hu) (fq_ I.hok eb) dd hp ?_;rw[hp2];exact h w' _ (I.tok _) rw'
theorem d_in{Q:Aa->Ac->Prop}(hu:A.units+1<cLine)(I:Inv X pins σ H s)(g:DGet H a y o)(ry:RelV y u)(h:∀s',Inv X pins σ H s'->Q (.bool o.isSome) s') :
  wpAny (model X.prog X.w) A (compareOp .In u (.ref a)) Q E s:=by
 rcases g with⟨kvs,k,e,ey,l⟩|⟨kvs,k,b,e,ey,eb,l⟩
 ·subst ey;obtain⟨z,hd,vs,rel,dd⟩:=d1_ I.hok e;refine wpAny_in_of (gW_ ry) hd dd.mapOf ?_;rw[<- (rel.val k).isSome_eq,<- l];exact h _ (I.tok _)
 ·subst ey;cases (show u=Value.ref b from ry);obtain⟨z,hd,xs,rel,dd⟩:=h1_ I.hok e;refine wpAny_in_heap (tupleKind_room_in1 hu) (fq_ I.hok eb) hd dd ?_;have q:=(rel.val k).isSome_eq;rw[Option.isSome_map] at q;rw[<- q,<- l];exact h _ (I.tok _)
theorem kv_{Q:Aa->Ac->Prop}(hu:A.units+1<cLine)(I:Inv X pins σ H s)(g:DGet H a y o)(ry:RelV y u)(h:∀s',Inv X pins σ H s'->Q (.bool (!o.isSome)) s') :
  wpAny (model X.prog X.w) A (compareOp .NotIn u (.ref a)) Q E s:=by
 rcases g with⟨kvs,k,e,ey,l⟩|⟨kvs,k,b,e,ey,eb,l⟩
 ·subst ey;obtain⟨z,hd,vs,rel,dd⟩:=d1_ I.hok e;refine wpAny_notIn_of (gW_ ry) hd dd.mapOf ?_;rw[<- (rel.val k).isSome_eq,<- l];exact h _ (I.tok _)
 ·subst ey;cases (show u=Value.ref b from ry);obtain⟨z,hd,xs,rel,dd⟩:=h1_ I.hok e;refine wpAny_notIn_heap (tupleKind_room_in1 hu) (fq_ I.hok eb) hd dd ?_;have q:=(rel.val k).isSome_eq;rw[Option.isSome_map] at q;rw[<- q,<- l];exact h _ (I.tok _)
theorem hu_{ob:HO}(I:Inv X pins σ H s)(mu:Mut (H a))(hs:Heap.SameBut a s.heap h')(he:∃q,h'.get? a=some q)(new:bt' X.prog X.w (upd H a ob) h' a ob) :
  Inv X pins σ (upd H a ob) { s with heap:=h',toks:=t' }:=
 I.write (x:=a) (e:=a) mu (.inl rfl) (λb q hb z=>(hs.2 b hb).trans z) he new
theorem kg_{vs:List (Key × Aa)}(z:kvs.length<=sizeLine)(hd:(a == sysModules)=false)(rel:KV kvs vs)(dd:h'.DictOf (bi' P w) a vs) :
  bt' P w H' h' a (.dK kvs):=⟨z,hd,vs,rel,dd⟩
theorem ip_{Q:Unit->Ac->Prop}(hu:A.units+1<cLine)(I:Inv X pins σ H s)(g:DPut H a y v H')(ry:RelV y u)(rv:RelV v r)(h:∀s',Inv X pins σ H' s'->Q () s') :
  wpAny (model X.prog X.w) A (setItem (.ref a) u r) Q E s:=by
 rcases g with⟨kvs,k,e,ey,l,eH⟩|⟨kvs,k,b,e,ey,eb,l,eH⟩
 ·subst ey eH;obtain⟨z,hd,vs,rel,dd⟩:=jM_ I.hok e;have hz:vs.length<=sizeLine:=by rw[<- rel.length];exact z
  have hl:(putK kvs k v).length<=sizeLine:=by have:=cF_ kvs k v;omega
  refine wpAny_setItem_pairs (hsz:=hz) (gW_ ry) dd λh' dd' hs=>h _ ?_;have he:∃q,h'.get? a=some q:=let ⟨q,_,_,hq,_⟩:=dd';⟨q,hq⟩;exact hu_ I (by rw[e];exact True.intro) hs he (kg_ hl hd (rel.put k rv) dd')
 ·subst ey eH;cases (show u=Value.ref b from ry);obtain⟨z,hd,xs,rel,dd⟩:=mf_ I.hok e;have hz:xs.length<=sizeLine:=by rw[<- a_1 rel];exact z
  have hl:(putK kvs k v).length<=sizeLine:=by have:=cF_ kvs k v;omega
  refine wpAny_setItem_heap (hsz:=hz) (tupleKind_room_in1 hu) (fq_ I.hok eb) dd λh' dd' hs=>h _ ?_;obtain⟨q,es,ep,hq,h2,h3,h4,_,h5⟩:=dd';refine hu_ I (by rw[e];exact True.intro) hs ⟨q,hq⟩ ⟨hl,hd,_,(rel.put k eb rv).keeps λc ys ec=>?_,q,es,ep,hq,h2,h3,h4,h5⟩;rw[a8_ (be_ ec e nofun)];exact ec
end
variable{E:Aa->Ac->Prop}
theorem mh_{Q:Aa->Ac->Prop}(I:Inv X pins σ H s)(e:Rd H a (.dK kvs))(h:∀t s',Inv X pins σ H s'->Q (.int kvs.length t) s'):wpAny (model X.prog X.w) A (call (.builtin "len") [.ref a]) Q E s:=by
 obtain⟨z,hd,vs,rel,dd⟩:=d1_ I.hok e;refine call_len_dict hd dd (by rw[<- rel.length];rw[b__] at z;omega) ?_;rw[<- rel.length];exact h _ _ (I.tok _)
def NoSl(i:Expr):Prop:=∀ov iv,subscripted i false ov iv=operate [ov,iv] (getItem ov iv)
variable{value:Expr}{pos:Pos}
theorem kt_{prog:Ae}{env:Env}{slice:Expr}{id:Ai}{Q:Aa->Ac->Prop}(hl:typeLookup (.type T) "__getitem__"=pure (some (.builtin id)))(hs:NoSl slice)(h:wpAny (model prog w) A (eval value env) (λo s₁=>wpAny (model prog w) A (eval slice env) (λi s₂=>s₂.TypeIs o T/\wpAny (model prog w) A (getItem o i) Q E s₂) E s₁) E s) :
  wpAny (model prog w) A (eval (.Subscript value slice pos) env) Q E s:=by
 refine Subscript_ (c_7 h (λo s₁ h₁=>c_7 h₁ (λi s₂ h₂=>?_) λ_ _ x=>x) λ_ _ x=>x);obtain⟨hT,h₂⟩:=h₂;unfold subscriptTail;refine a__ ?_;rw[getitemInPython_of_ne hT.not_modules];refine a__ (wpAny_specialOf hT hl ?_)
 have fin:wpAny (model prog w) A (subscripted slice false o i) (λr s₃=>wpAny (model prog w) A (letTemporaryGo value o r >>= λ_=>pure r) Q E s₃) E s₂:=by
  rw[hs o i];exact wpAny_operating (c_7 h₂ (λr s₃ h₃=>a__ (wpAny_letTemporaryGo (a_2 h₃))) λ_ _ x=>x)
 first
  |exact a_2 (a__ fin)
  |exact a__ (a_2 (a__ fin))
  |exact a__ fin
theorem g5_{y:V}(I:Inv X pins σ H s)(g:DGet H a y o):s.TypeIs (.ref a) "dict":=by
 rcases g with⟨kvs,k,e,_,_⟩|⟨kvs,k,b,e,_,_,_⟩
 ·obtain⟨_,_,vs,_,dd⟩:=d1_ I.hok e;exact dd.typeIs
 ·obtain⟨_,_,xs,_,dd⟩:=h1_ I.hok e;exact dd.typeIs
inductive tDGetR (Q:VK) (x:V) (y:V) (H2:Hp):Prop
 |mk:∀a v,x=.ref a->DGet H2 a y (some v)->Q v H2->tDGetR Q x y H2
def tDGet(td ty:TE):TE:=λσ H Q=>td σ H λx H1=>ty σ H1 λy H2=>tDGetR Q x y H2
inductive tDInR (Q:VK) (y:V) (x:V) (H2:Hp):Prop
 |mk:∀a o,x=.ref a->DGet H2 a y o->Q (.bl o.isSome) H2->tDInR Q y x H2
def tDIn(ty td:TE):TE:=λσ H Q=>ty σ H λy H1=>td σ H1 λx H2=>tDInR Q y x H2
inductive eX' (Q:VK) (y:V) (x:V) (H2:Hp):Prop
 |mk:∀a o,x=.ref a->DGet H2 a y o->Q (.bl (!o.isSome)) H2->eX' Q y x H2
def tDNotIn(ty td:TE):TE:=λσ H Q=>ty σ H λy H1=>td σ H1 λx H2=>eX' Q y x H2
inductive sDPutR (D:Ends) (σ:St) (v:V) (x:V) (y:V) (H3:Hp):Prop
 |mk:∀a H4,x=.ref a->DPut H3 a y v H4->D.nx σ H4->sDPutR D σ v x y H3
def sDPut(td ty tv:TE):TS:=λD σ H=>tv σ H λv H1=>td σ H1 λx H2=>ty σ H2 λy H3=>sDPutR D σ v x y H3
variable{i o:Expr}{td ty:TE}
theorem cg_(hu:X.A.units+1<cLine)(ho:PE X o td)(hi:PE X i ty)(hs:NoSl i):PE X (.Subscript o i pos) (tDGet td ty):=by
 intro pins s σ H Q I h;refine kt_ PySem.F.slot_dict_getitem.lookup hs (thn (ho pins s σ H _ I h) λu s1 ⟨x,H1,I1,rx,q1⟩=>thn (hi pins s1 σ H1 _ I1 q1) λiv s2 ⟨y,H2,I2,ry,a,v,ex,g,q2⟩=>?_);subst ex;obtain rfl:u=Value.ref a:=rx;exact⟨g5_ I2 g,iT_ hu I2 g ry λw' s3 I3 rw'=>⟨v,H2,I3,rw',q2⟩⟩
theorem cX_(hu:X.A.units+1<cLine)(hi:PE X i ty)(ho:PE X o td):PC X .In i o (tDIn ty td):=by
 intro pins s σ H Q I h;refine thn (hi pins s σ H _ I h) λiv s1 ⟨y,H1,I1,ry,q1⟩=>thn (ho pins s1 σ H1 _ I1 q1) λu s2 ⟨x,H2,I2,rx,a,ov,ex,g,q2⟩=>?_;subst ex;obtain rfl:u=Value.ref a:=rx;exact d_in hu I2 g ry λs3 I3=>⟨.bl ov.isSome,H2,I3,rfl,q2⟩
theorem cY_(hu:X.A.units+1<cLine)(hi:PE X i ty)(ho:PE X o td):PC X .NotIn i o (tDNotIn ty td):=by
 intro pins s σ H Q I h;refine thn (hi pins s σ H _ I h) λiv s1 ⟨y,H1,I1,ry,q1⟩=>thn (ho pins s1 σ H1 _ I1 q1) λu s2 ⟨x,H2,I2,rx,a,ov,ex,g,q2⟩=>?_;subst ex;obtain rfl:u=Value.ref a:=rx;exact kv_ hu I2 g ry λs3 I3=>⟨.bl (!ov.isSome),H2,I3,rfl,q2⟩
variable{pos':Pos}{tv:TE}
theorem c0_(hu:X.A.units+1<cLine)(ho:PE X o td)(hi:PE X i ty)(hv:PE X value tv)(hs:swapsWith value (some (.Subscript o i pos')) pos.line X.env=pure false) :
  PS X (.Assign [.Subscript o i pos'] value pos) (sDPut td ty tv):=by
 intro pins s σ H D I h;refine wpAny_Assign_Subscript (thn (hv pins s σ H _ I h) λr s1 ⟨v,H1,I1,rv,q1⟩=>thn (ho pins s1 σ H1 _ I1 q1) λu s2 ⟨x,H2,I2,rx,q2⟩=>thn (hi pins s2 σ H2 _ I2 q2) λiv s3 ⟨y,H3,I3,ry,a,H4,ex,g,q3⟩=>?_) hs;subst ex;obtain rfl:u=Value.ref a:=rx;exact ip_ hu I3 g ry rv λs4 I4=>⟨σ,H4,I4,q3⟩
theorem jp_(h:Heap)(hb:sysModules<h.objs.size):bt' P w H (h.push { cls:=.type "dict",data:=.dict #[] }) h.objs.size (.dK []):=
 ⟨aJ' _,beq_eq_false_iff_ne.mpr (Ne.symm (av' hb)),[],.nil,Heap.DictOf.new h⟩
theorem jP_(h:Heap)(hb:sysModules<h.objs.size):bt' P w H (h.push { cls:=.type "dict",data:=.dict #[] }) h.objs.size (.dT []):=
 ⟨aJ' _,beq_eq_false_iff_ne.mpr (Ne.symm (av' hb)),[],.nil,_,#[],0,a_7 _ rfl,⟨rfl,rfl,rfl⟩,rfl,rfl,List.nodup_nil⟩
def tDNewK:TE:=λ_ H Q=>∀p,H p=none->Q (.ref p) (upd H p (.dK []))
def tDNewT:TE:=λ_ H Q=>∀p,H p=none->Q (.ref p) (upd H p (.dT []))
theorem bM_:PE X (.Dict [] [] pos) tDNewK:=λpins s σ H Q I h=>
 wpAny_Dict_empty ⟨.ref s.heap.objs.size,_,I.laid (a:=s.heap.objs.size) (o:=.dK []) (t':=s.toks) (λ_ _ q=>a_0 _ q) (ak' _) (jp_ s.heap I.big),rfl,h _ (I.hok.fresh (ak' _))⟩
theorem gP_:PE X (.Dict [] [] pos) tDNewT:=λpins s σ H Q I h=>
 wpAny_Dict_empty ⟨.ref s.heap.objs.size,_,I.laid (a:=s.heap.objs.size) (o:=.dT []) (t':=s.toks) (λ_ _ q=>a_0 _ q) (ak' _) (jP_ s.heap I.big),rfl,h _ (I.hok.fresh (ak' _))⟩
def c7'(kvs more:List (Key × V)):List (Key × V):=more.foldl (λacc kv=>putK acc kv.1 kv.2) kvs
theorem cU_:∀(more kvs:List (Key × V)),(c7' kvs more).length<=kvs.length+more.length
 |[],kvs=>by show kvs.length<=kvs.length+0;omega
 |p::r,kvs=>by
  have h1:=cU_ r (putK kvs p.1 p.2);have h2:=cF_ kvs p.1 p.2;show (c7' (putK kvs p.1 p.2) r).length<=_;rw[aA'];omega
structure M1 (X:Cx) (o:Expr) (m:Str) (apos:Pos) (e:Expr) (cpos:Pos):Prop where
 base:attributeBase o m X.env (eval o X.env)=eval o X.env
 few:((backTo cpos (starEach [e] X.env)).all (λx=>!x.1)&&(backToKw cpos (keywordEach [] X.env)).all (λx=>x.1.isSome)
  && decide (([e]:List Expr).length+([]:List Keyword).length+(if ([]:List Keyword).isEmpty then 0 else 1)<30))=true
 line:(apos.endLine == cpos.line)=true
 trees:backTo cpos (starEach [e] X.env)=[(false,eval e X.env)]
structure M2 (X:Cx) (o:Expr) (m:Str) (apos:Pos) (e f:Expr) (cpos:Pos):Prop where
 base:attributeBase o m X.env (eval o X.env)=eval o X.env
 few:((backTo cpos (starEach [e,f] X.env)).all (λx=>!x.1)&&(backToKw cpos (keywordEach [] X.env)).all (λx=>x.1.isSome)
  && decide (([e,f]:List Expr).length+([]:List Keyword).length+(if ([]:List Keyword).isEmpty then 0 else 1)<30))=true
 line:(apos.endLine == cpos.line)=true
 trees:backTo cpos (starEach [e,f] X.env)=[(false,eval e X.env),(false,eval f X.env)]
def IsD(H:Hp)(a:Addr):Prop:=(∃kvs,Rd H a (.dK kvs))∨∃kvs,Rd H a (.dT kvs)
theorem lP_(I:Inv X pins σ H s)(d:IsD H a) :
  s.TypeIs (.ref a) "dict"/\(∀b,Value.ref a=.ref b->∃ob,s.heap.get? b=some ob/\ob.dict=none)/\(a == sysModules)=false:=by
 rcases d with⟨kvs,e⟩|⟨kvs,e⟩
 ·obtain⟨_,hd,vs,_,dd⟩:=d1_ I.hok e;refine⟨dd.typeIs,λb q=>?_,hd⟩;cases q;obtain⟨ob,_,_,h1,h2,_⟩:=dd;exact⟨ob,h1,h2.2.1⟩
 ·obtain⟨_,hd,xs,_,dd⟩:=h1_ I.hok e;refine⟨dd.typeIs,λb q=>?_,hd⟩;cases q;obtain⟨ob,_,_,h1,h2,_⟩:=dd;exact⟨ob,h1,h2.2.1⟩
end L2
namespace Att
open PySem PySem.W PySem.Calls PyProof.Rows
variable{P:Params}{h:Heap}
theorem dB_:∀(ns:List Int) (vs:List Aa),WellAll P h vs (ns.map WData.int)->IntsAre vs ns:=by
 intro ns
 induction ns with
 |nil=>
  intro vs w;rw[List.map_nil] at w;cases w;exact .nil
 |cons n ns ih=>
  intro vs w;rw[au'] at w;cases w with
  |cons a b=>
   cases a;exact .cons _ _ (ih _ b)
variable{l:OpenLaw}{n:Nat}
theorem iD_(hn:l.most=some n){args:List WData}{vals:List Aa}(hpre:l.row.toRowW.claim.pre args=true)(hwl:WellAll P h vals args) :
  ∃a vs ns,vals=[Value.ref a]/\args=[WData.list (ns.map WData.int)]/\h.get? a=some { cls:=.type "list",data:=.seq vs.toArray }/\IntsAre vs ns/\ns.length<=n:=by
 have hsh:WShape.hasAll [] args [.list .int]=true:=(pre_splitW hpre).1;have hc:l.pre.holds [] { args:=args }=true:=(pre_splitW hpre).2;obtain⟨d,r,rfl,h1,h2⟩:=hasAllW_cons hsh;obtain rfl:=hasAllW_nil h2;obtain⟨xs,rfl,h3⟩:=hasW_list h1;obtain⟨ns,rfl⟩:=items_int h3
 have hlen:ns.length<=n:=by
  unfold OpenLaw.pre at hc
  have h4:(WTm.not (.lt (.lit (.int (n:Int))) (.len (.arg 0)))).holds [] { args:=[.list (ns.map .int)] }=true:=by
   have h4:=(holds_andW hc).1;rw[hn] at h4;exact h4
  have h5:=condW_of h4 (w_not (w_lt w_lit (w_len_list (w_arg rfl))));rw[aa'] at h5;refine Nat.le_of_not_lt λq=>?_;have q':(n:Int)<((ns.length:Nat):Int):=by omega
  first
   |(rw[a_5 q'] at h5;exact absurd h5 (by decide))
   |(simp at h5;omega)
 cases hwl with
 |cons w1 w2=>
  cases w2;cases w1 with
  |list ho hall=>exact⟨_,_,ns,rfl,rfl,ho,dB_ ns _ hall,hlen⟩
theorem hr_(l:OpenLaw)(args:List WData):l.row.toRowW.claim.post args (.bool true) args=true:=
 postW_of (r:=l.row.toRowW) (X:=(true == true))
  (show WShape.has [] (.bool true) .bool=true by first|rfl|decide|simp[WShape.has,WShape.arms,WShape.armsAll])
  (show (WTm.eq .res (.lit (.bool true))).value [] { args:=args,res:=some (.bool true),after:=args }=some (.bool (true == true)) from w_eq_bool (w_res rfl) w_lit) rfl
theorem attach_call{q:Ae}{loose:List Str}{XP:(Str->Option Aa)->Heap->Prop}{YP:Ag->Heap->Prop}{d:DefRec}(hn:l.most=some n)(hdf:d.params.defaults=[])(call:∀(w:Ag) (s₀ s₁:Ac) (mg mb:Str->Option Aa) (fa:Addr) (o:Obj) (pm cd doc:Aa) (a:Addr) (vs:List Aa) (ns:List Int),
   Ground q loose [] XP w s₀ mg mb s₁.heap->YP w s₁.heap->
   s₁.heap.get? fa=some o->o.data=.func (docDef d.name d.params d.body d.scope pm cd doc)->s₁.heap.CodeRec cd d.name->mg d.name=some (.ref fa)->
   s₁.heap.get? a=some { cls:=.type "list",data:=.seq vs.toArray }->IntsAre vs ns->ns.length<=n->s₁.gens=#[]->
   codeAny (model l.prog w) callerA (.call (.ref fa) ⟨[.ref a],[]⟩) (λr s'=>r=.ok (.ret (.bool true))/\OldK s₁.heap s'.heap/\s'.os=s₁.os/\AllBare s'.gens) s₁) :
  WalkO q loose XP YP l.row.toRowW d [] (λf vs=>PySem.call f vs):=by
 intro w s₀ s₁ mg mb G Y fa o pm cd doc dV kV ho hd hcd hD hmg hg args vals as hpre hlay hrd hwl hlo;obtain rfl:dV=.none:=Dflts.none hD hdf;obtain rfl:kV=.none:=Dflts.noKw hD;obtain⟨a,vs,ns,rfl,rfl,hobj,hints,hlen⟩:=iD_ hn hpre hwl;refine enter_call (codeAny_mono (call w s₀ s₁ mg mb fa o pm cd doc a vs ns G Y ho (fd_plain hd) hcd hmg hobj hints hlen hg) λr s' hq=>?_);obtain⟨rfl,h2,h3,h4⟩:=hq;exact⟨.inl ⟨.bool true,.bool true,[],rfl,λ_=>rfl,.bool true,hr_ l _,λ_=>⟨List.Pairwise.nil,λ_ hm=>(nomatch hm)⟩⟩,h2,h3,h4⟩
end Att
namespace L2
open PySem PySem.Spec PyProof.Rows
theorem f2_:∀{vs:List Aa} {ns:List Int},IntsAre vs ns->Vals (ns.map V.int) vs
 |_,_,.nil=>.nil
 |_,_,.cons n t h=>.cons ⟨t,rfl⟩ (f2_ h)
def Only(H:Hp):Prop:=∀b,H b=none∨∃o xs,H b=some (.frz o (.lst xs))
variable{k:Nat}{a:Addr}{fd:Af}{sp:Sp}
theorem jC_{P:Ae}{w:Ag}{K:F__}{mg mb:Str->Option Aa}{CX:CXT}{fa:Addr}{x:Str}{s₁:Ac}{vs:List Aa}{ns:List Int}(KX:K.In s₁.heap)(hns:s₁.heap.Ns mainGlobals mg)(hb:s₁.heap.Ns builtinsNs mb)(hbb:∀x:Str,x≠"__name__"->mb x=bootBuiltins x)(hlim:s₁.heap.NoLimit)(hg:s₁.gens=#[])(ha:s₁.heap.get? a=some { cls:=.type "list",data:=.seq vs.toArray })(hi:IntsAre vs ns)(hl:ns.length<=sizeLine)(hr:Room k callerA)(F:∀base:Heap,K.In base->base.Ns mainGlobals mg->FnOk P w K mg base CX k fa fd [x] sp)(hbind:∀(s:Ac) (u:Aa),BindsTo s fd ⟨[u],[]⟩ [(x,u)])(hsp:∀H:Hp,Only H->SqL K H a (ns.map V.int)->sp [.ref a] H (λv _=>v=.bl true) λ_ _ _=>False)(hCX:∀H e s',CX [] H s₁ (λ_ _ _=>False) e s'->False) :
  codeAny (model P w) callerA (.call (.ref fa) ⟨[.ref a],[]⟩) (λr s'=>r=.ok (.ret (.bool true))/\OldK s₁.heap s'.heap/\s'.os=s₁.os/\AllBare s'.gens) s₁:=by
 have rv:=f2_ hi;have lenV:=hi.length
 have core:∀H:Hp,Only H->SqL K H a (ns.map V.int)->HOk P w H s₁.heap->(∀b,H b≠none->b=a)->(H a≠none->K.lookup a=none)->
   codeAny (model P w) callerA (.call (.ref fa) ⟨[.ref a],[]⟩) (λr s'=>r=.ok (.ret (.bool true))/\OldK s₁.heap s'.heap/\s'.os=s₁.os/\AllBare s'.gens) s₁:=by
  intro H hO hS hok hA hK;have base_of:∀{b:Addr} {o:Obj},s₁.heap.get? b=some o->H b=none->(hidT s₁.heap H).get? b=some o:=λe n=>k3_ e n
  have noA:∀{b:Addr} {o:Obj} {es:Array DictEntry} {ep:Nat},s₁.heap.get? b=some o->o.data=.dict es ep->H b=none:=λ{b o es ep} e d=>by
   cases q:H b with
   |none=>rfl
   |some u=>
    have e':b=a:=hA b (by rw[q];simp);subst e';rw[ha] at e;cases e;have d':Data.seq vs.toArray _=Data.dict es ep:=d;cases d'
  have nsK:∀{b:Addr} {m:Str->Option Aa},s₁.heap.Ns b m->(hidT s₁.heap H).Ns b m:=λ{b m} ⟨o,es,ep,e,d,r⟩=>⟨o,es,ep,base_of e (noA e d),d,r⟩
  have hKb:K.In (hidT s₁.heap H):=λb o e=>base_of (KX b o e) (by
   cases q:H b with
   |none=>rfl
   |some u=>
    have e':b=a:=hA b (by rw[q];simp);subst e';rw[hK (by rw[q];simp)] at e;cases e)
  have hM:Mod K mg (hidT s₁.heap H):=⟨hKb,nsK hns,⟨mb,nsK hb,hbb⟩,let ⟨mc,h1,h2⟩:=hlim;⟨mc,nsK h1,h2⟩⟩;have e0:Env0 P w K mg (hidT s₁.heap H) callerA [] s₁ H:=⟨rfl,hM,λb o e=>kE_ e,Nat.le_of_eq (ir_ _ _),trivial,λb hb=>absurd (show b∈([]:List Addr) from hb) Z2,hok,.of_eq hg⟩;refine codeAny_mono ((F _ hKb (nsK hns)).run callerA [] s₁ H ⟨[.ref a],[]⟩ [.ref a] [.ref a] _ _ hr e0 (hbind s₁ (.ref a)) (.cons rfl .nil) (hsp H hO hS)) λr s' h=>?_;cases r with
  |error e=>exact (hCX H e s' h).elim
  |ok fl=>
   cases fl with
   |next=>exact False.elim h
   |brk=>exact False.elim h
   |cont=>exact False.elim h
   |ret u=>
    obtain⟨v,H',os,bare,un,hok',r',q⟩:=h;have q':v=.bl true:=q;subst q';obtain rfl:u=Value.bool true:=r';refine⟨rfl,OldK.of_keep λb o e=>?_,os,bare⟩;cases q:H b with
    |none=>exact un.keep b o e q (by intro z;exact absurd (show b∈([]:List Addr) from z) Z2) Z2
    |some u=>
     rcases hO b with z|⟨ob,xs,z⟩
     ·rw[q] at z;cases z
     ·have z2:=un.frzs b ob _ z;obtain⟨e1,_⟩:=hok b _ z;obtain⟨e2,_⟩:=hok' b _ z2;rw[e] at e1;cases e1;exact e2
 cases hk:K.lookup a with
 |some o=>
  have e:=KX a o hk;rw[ha] at e;cases e;refine core (λ_=>none) (λ_=>.inl rfl) (.inr ⟨_,vs.toArray,_,hk,rfl,rfl,rfl,by rw[ap',lenV];exact hl,by simpa using rv⟩) (λb u z=>by have z':(none:Option HO)=some u:=z;cases z') (λb z=>absurd rfl z) λz=>absurd rfl z
 |none=>
  refine core (λb=>if b=a then some (.frz { cls:=.type "list",data:=.seq vs.toArray } (.lst (ns.map V.int))) else none) (λb=>?_) (.inl (.inr ⟨{ cls:=.type "list",data:=.seq vs.toArray },b_0 rfl⟩)) (λb u z=>?_) (λb z=>?_) λ_=>hk
  ·by_cases hb:b=a
   ·exact .inr ⟨_,_,b_0 hb⟩
   ·exact .inl (a_8 hb)
  ·by_cases hb:b=a
   ·have z':=(b_0 hb).symm.trans z;cases z';subst hb;exact⟨ha,by rw[aa'];exact hl,vs,_,rv,ha⟩
   ·have z':=(a_8 hb).symm.trans z;cases z'
  ·by_cases hb:b=a
   ·exact hb
   ·exact absurd (a_8 hb) z
theorem walk_of{l:PySem.W.OpenLaw}{n:Nat}{q:Ae}{loose:List Str}{XP:(Str->Option Aa)->Heap->Prop}{YP:Ag->Heap->Prop}{d:DefRec}{K:Params->F__}{CX:Ag->CXT}{sp:Ag->Sp}{x:Str}(hn:l.most=some n)(hn2:n<=sizeLine)(hdf:d.params.defaults=[])(hr:Room k callerA)(hY:∀(w:Ag) (h:Heap),YP w h->(K w.params).In h)(F:∀(w:Ag) (mg:Str->Option Aa) (fa:Addr) (h:Heap),(K w.params).In h->h.Ns mainGlobals mg->mg d.name=some (.ref fa)->
   ∃fd:Af,(∀(s:Ac) (u:Aa),BindsTo s fd ⟨[u],[]⟩ [(x,u)]) /\
    ∀base:Heap,(K w.params).In base->base.Ns mainGlobals mg->FnOk l.prog w (K w.params) mg base (CX w) k fa fd [x] (sp w))(hsp:∀(w:Ag) (H:Hp) (a:Addr) (ns:List Int),ns.length<=n->Only H->SqL (K w.params) H a (ns.map V.int)->sp w [.ref a] H (λv _=>v=.bl true) λ_ _ _=>False)(hCX:∀(w:Ag) (H:Hp) (s:Ac) (e:Aa) (s':Ac),CX w [] H s (λ_ _ _=>False) e s'->False) :
  PySem.W.WalkO q loose XP YP l.row.toRowW d [] (λf vs=>PySem.call f vs):=by
 refine Att.attach_call hn hdf λw s₀ s₁ mg mb fa o pm cd doc a vs ns G Y ho hd hcd hmg hobj hints hlen hg=>?_;have KX:=hY w _ Y;obtain⟨fd,hb,hF⟩:=F w mg fa _ KX G.T.g hmg;exact jC_ KX G.T.g G.T.b G.T.builtins G.T.nolimit hg hobj hints (a7' hlen hn2) hr hF hb (λH hO hS=>hsp w H a ns hlen hO hS) λH e s'=>hCX w H s₁ e s'
def bK'(s:Stmt)(j:Nat):Stmt:=match s with
 |.ClassDef _ _ _ body _ _ _ _ _ _ _=>body.getD j (.Pass ⟨0,0,0,0⟩)
 |_=>.Pass ⟨0,0,0,0⟩
def bZ'(s:Stmt):Arguments:=match s with
 |.FunctionDef _ a _ _ _ _ _ _ _ _=>a
 |_=>{ posonlyargs:=[],args:=[],vararg:=none,kwonlyargs:=[],kw_defaults:=[],kwarg:=none,defaults:=[] }
def br'(s:Stmt):List Stmt:=match s with
 |.FunctionDef _ _ b _ _ _ _ _ _ _=>b
 |_=>[]
def a9'(s:Stmt):Scope:=match s with
 |.FunctionDef _ _ _ _ _ _ sc _ _ _=>sc
 |_=>{ kind:=.function,names:=[],isGenerator:=false,isCoroutine:=false }
abbrev CX0:CXT:=λ_ _ _ _ _ _=>False
abbrev E0:XK:=λ_ _ _=>False
variable{X:Cx}
theorem pass0:bx' CX0 X E0:=λ_ _ _ _ _ _ _ h=>h.elim
structure Fun (K:F__) (x qual:Str) (st:Stmt) (f:Addr) (fd:Af):Prop where
 ex:∃(oc:Aa) (od:Option Addr) (kV doc pm:Aa) (an:Option Addr) (cdv ct:Aa) (osl:Array (Option Aa)),
  fd=PySem.W.fnOf x qual (bZ' st) (br' st) (a9' st) .none kV doc pm an cdv ct/\K.lookup f=some ⟨oc,od,.func fd,osl⟩/\PySem.W.codeIn K cdv qual=true
 kp:PySem.W.keepIn K (.ref f)=true
variable{qual:Str}{st:Stmt}{f:Addr}{N ps:List Str}
section
variable{P:Ae}{w:Ag}{K:F__}{mg:Str->Option Aa}{base:Heap}
theorem Fun.ok{x:Str}(F:Fun K x qual st f fd)(S:ba' N ps (a9' st))(len:∀vs H Q E,sp vs H Q E->vs.length=ps.length)(hbody:∀(cdv:Aa) (A:Ah) (outer:List Env) (s:Ac) (H:Hp) (vs:List V) (Q:VK) (E:XK),Room k (A.deeper (envOfC qual (a9' st) s.heap.objs.size f cdv))->sp vs H Q E->
   ∃t,PSs (cxOf CX0 P w K mg base N qual (a9' st) f cdv A outer s H E).nox (br' st) t/\t { nx:=λ_ H'=>Q .non H',rt:=Q } (start N vs) H):FnOk P w K mg base CX0 (k+1) f fd ps sp:=by
 obtain⟨oc,od,kV,doc,pm,an,cdv,ct,osl,rfl,lk,hcd⟩:=F.ex;refine lg_ lk hcd S len λA outer s H vs Q E hr hsp=>?_;obtain⟨t,h,q⟩:=hbody cdv A outer s H vs Q E hr hsp;exact⟨t,h.nox,q⟩
theorem Fun.okA{x:Str}(F:Fun K x qual st f fd)(S:ba' N ps (a9' st))(hbody:∀(cdv:Aa) (A:Ah) (outer:List Env) (s:Ac) (H:Hp) (vs:List V) (Q:VK) (E:XK),Room k (A.deeper (envOfC qual (a9' st) s.heap.objs.size f cdv))->sp vs H Q E->
   ∃t,PSs (cxOf CX0 P w K mg base N qual (a9' st) f cdv A outer s H E).nox (br' st) t/\t { nx:=λ_ H'=>Q .non H',rt:=Q } (start N vs) H)(len:∀vs H Q E,sp vs H Q E->vs.length=ps.length:=by intro vs H Q E h;first|(cases h;subst_vars;rfl)|(obtain⟨rfl,_⟩:=h;rfl)|(obtain⟨_,rfl,_⟩:=h;rfl)|(obtain⟨_,_,rfl,_⟩:=h;rfl)|(obtain⟨_,_,_,rfl,_⟩:=h;rfl)|(obtain⟨_,_,_,_,rfl,_⟩:=h;rfl)):FnOk P w K mg base CX0 (k+1) f fd ps sp:=F.ok S len hbody
theorem Fun.binds{x:Str}(F:Fun K x qual st f fd)(h:∀(kV doc pm:Aa) (an:Option Addr) (cdv ct:Aa) (us:List Aa),us.length=ps.length->bindArgs (PySem.W.fnOf x qual (bZ' st) (br' st) (a9' st) .none kV doc pm an cdv ct) ⟨us,[]⟩=pure (ps.zip us)):ck' K fd ps []:=by
 obtain⟨oc,od,kV,doc,pm,an,cdv,ct,osl,rfl,lk,hcd⟩:=F.ex;exact .all (h kV doc pm an cdv ct)
theorem iV_{x:Str}{oc:Aa}{od an:Option Addr}{osl:Array (Option Aa)}{kV doc pm cdv ct:Aa}(l:K.lookup f=some ⟨oc,od,.func (PySem.W.fnOf x qual (bZ' st) (br' st) (a9' st) .none kV doc pm an cdv ct),osl⟩)(c:PySem.W.codeIn K cdv qual=true)(k:PySem.W.keepIn K (.ref f)=true):Fun K x qual st f (PySem.W.fnOf x qual (bZ' st) (br' st) (a9' st) .none kV doc pm an cdv ct):=⟨⟨oc,od,kV,doc,pm,an,cdv,ct,osl,rfl,l,c⟩,k⟩
end
theorem br_{A:Ah}(hr:Room k A):A.units+1<cLine:=Nat.lt_of_le_of_lt (Nat.add_le_add_left (by decide:1<=64) _) hr.units
variable{pos:Pos}
theorem pv(i:Nat){x:Str}(hN:X.N[i]? = some x:=by rfl)(hv:Vis X.env.scope x:=by first|exact Or.inl rfl|exact Or.inr (Or.inl rfl)|exact Or.inr (Or.inr rfl))(hd:(x == ("__debug__":Str))=false:=by decide)(hcd:(x == ("__classdict__":Str))=false:=by decide):PE X (.Name x pos) (tVar i):=lK_ hN hv hd hcd
inductive dt' (xs:List V) (H:Hp) (Q:VK):Prop
 |mk:∀a kvs,xs=[V.ref a]->H a=some (.dK kvs)->Q (.int kvs.length) H->dt' xs H Q
theorem eX_:bB' X (.builtin "len") dt':=by
 intro pins s σ H xs us Q I r h;obtain⟨a,kvs,rfl,ha,q⟩:=h;obtain⟨u,rfl,ru⟩:=vals1 r;cases ru;exact mh_ I (.inl ha) λt s' I'=>⟨.int kvs.length,H,I',⟨t,rfl⟩,q⟩
variable{A B:Prop}
theorem iteF(h:B):if false=true then A else B:=by
 rw[a_8 ax'];exact h
theorem iteT(h:A):if true=true then A else B:=by
 rw[b_0 rfl];exact h
variable{c:Prop}
theorem ite2[Decidable c](h1:c->A)(h2:¬c->B):if c then A else B:=by
 by_cases h:c
 ·rw[b_0 h];exact h1 h
 ·rw[a_8 h];exact h2 h
theorem iteNS[Decidable c](hc:c)(h:B):if (!decide c)=true then A else B:=by
 rw[a_5 hc];exact iteF h
def Same(H H':Hp):Prop:=∀b o,H b=some o->H' b=some o
theorem Same.refl(H:Hp):Same H H:=λ_ _ h=>h
variable{H1:Hp}
theorem Same.trans{H H2:Hp}(a:Same H H1)(b:Same H1 H2):Same H H2:=λc o h=>b c o (a c o h)
variable{H':Hp}
theorem Same.free{H:Hp}(e:Same H H'){l:Addr}(h:H' l=Option.none):H l=Option.none:=by
 cases q:H l with
 |none=>rfl
 |some o=>
  rw[e l o q] at h;cases h
variable{xs:List V}
theorem Same.seq{K:F__}{H:Hp}(e:Same H H')(h:SqL K H a xs):SqL K H' a xs:=by
 rcases h with (h|⟨o,h⟩)|h
 ·exact .inl (.inl (e _ _ h))
 ·exact .inl (.inr ⟨o,e _ _ h⟩)
 ·exact .inr h
section
variable{κ:Type}[DecidableEq κ]
theorem kr_{kvs:List (κ × V)}{k:κ}{v:V}(h:valV kvs k=some v):k∈kvs.map (·.1):=by
 have q:(kvs.any λkv=>decide (kv.1=k))=true:=by
  rw[cO_,h]
  all_goals rfl
 obtain⟨p,hp,e⟩:=List.any_eq_true.mp q;exact ac'.mpr ⟨p,hp,c_3 e⟩
theorem iz_:∀{l:List κ} {k:κ},l.Nodup->¬k∈l->(l++[k]).Nodup
 |[],k,_,_=>by simp
 |a::r,k,h,hk=>by
  obtain⟨h1,h2⟩:=aX'.mp h;show (a::(r++[k])).Nodup;refine aX'.mpr ⟨λm=>?_,iz_ h2 λm=>hk (ah'.mpr (Or.inr m))⟩;rcases am'.mp m with q|q
  ·exact h1 q
  ·exact hk (ah'.mpr (Or.inl (aN'.mp q).symm))
end
def bz'(env:Env):List (Str × NameKind)->List (Str × Addr)->List (Str × Addr)
 |[],cs=>cs
 |(n,k)::r,cs=>bz' env r (if k == .free then (n,(env.cells.lookup n).getD 0)::cs else cs)
theorem c6_{env:Env}(f:Str × NameKind->List (Str × Addr)->Sem (ForInStep (List (Str × Addr))))
  (hf:∀n k cs,f (n,k) cs=if (k == .free)=true then (do let a <- cellOf env n;pure (.yield ((n,a)::cs))) else pure (.yield cs)) :
  ∀(names:List (Str × NameKind)) (cs:List (Str × Addr)),(∀x∈names,x.2=.free->∃c,env.cells.lookup x.1=some c)->forIn names cs f=(pure (bz' env names cs):Sem _)
 |[],cs,_=>by rw[List.forIn_nil];rfl
 |(n,k)::r,cs,h=>by
  rw[List.forIn_cons,hf];have hr:∀x∈r,x.2=.free->∃c,env.cells.lookup x.1=some c:=λx hx=>h x (ai' _ hx);unfold bz';by_cases hk:(k == NameKind.free)=true
  ·obtain⟨c,hc⟩:=h (n,k) aq' (by simpa using hk);have hc:env.cells.lookup n=some c:=hc;rw[b_0 hk,b_0 hk];have e:cellOf env n=pure c:=by unfold cellOf;rw[hc]
   rw[e];simp only[pure_bind];rw[c6_ f hf r _ hr,hc];rfl
  ·rw[a_8 hk,a_8 hk];simp only[pure_bind];exact c6_ f hf r _ hr
variable{scope:Scope}{env:Env}
theorem d0_(h:∀x∈scope.names,x.2=.free->∃c,env.cells.lookup x.1=some c):closureFor scope env=pure (bz' env scope.names []):=by
 simp only[closureFor];rw[c6_ (env:=env) _ (λn k cs=>by by_cases hk:(k == NameKind.free)=true<;>simp[hk]) scope.names [] h]
 simp only[pure_bind]
theorem eo_{env:Env}:∀{names:List (Str × NameKind)} {cs:List (Str × Addr)} {x:Str} {c:Addr},(x,c)∈bz' env names cs->(x,c)∈cs∨((x,NameKind.free)∈names/\c=(env.cells.lookup x).getD 0)
 |[],cs,x,c,h=>.inl h
 |(n,k)::r,cs,x,c,h=>by
  unfold bz' at h;rcases eo_ h with h|⟨h,e⟩
  ·by_cases hk:(k == NameKind.free)=true
   ·rw[b_0 hk] at h;rcases ah'.mp h with q|q
    ·cases q;have:k=.free:=by simpa using hk
     subst this;exact .inr ⟨aq',rfl⟩
    ·exact .inl q
   ·rw[a_8 hk] at h;exact .inl h
  ·exact .inr ⟨ai' _ h,e⟩
theorem d5_{env:Env}:∀{names:List (Str × NameKind)} {cs:List (Str × Addr)} {x:Str},(x,NameKind.free)∈names∨(∃c,(x,c)∈cs)->∃c,(x,c)∈bz' env names cs
 |[],cs,x,h=>by
  rcases h with h|h
  ·cases h
  ·exact h
 |(n,k)::r,cs,x,h=>by
  unfold bz';refine d5_ ?_;rcases h with h|⟨c,h⟩
  ·rcases ah'.mp h with e|h
   ·cases e;exact .inr ⟨(env.cells.lookup n).getD 0,by rw[b_0 (by decide)];exact aq'⟩
   ·exact .inl h
  ·refine .inr ⟨c,?_⟩;split
   ·exact ai' _ h
   ·exact h
theorem cb_:∀(names:List (Str × NameKind)) (n:Nat) (acc cl:List (Str × Addr)),cellsFrom n names (acc++cl)=cellsFrom n names acc++cl
 |[],_,_,_=>rfl
 |(x,k)::r,n,acc,cl=>by
  unfold cellsFrom;split
  ·exact cb_ r (n+1) ((x,n)::acc) cl
  ·exact cb_ r n acc cl
theorem c5_:∀{names:List (Str × NameKind)} {n:Nat} {acc:List (Str × Addr)} {x:Str} {c:Addr},(x,c)∈cellsFrom n names acc->(x,c)∈acc∨(x,NameKind.cell)∈names
 |[],_,_,_,_,h=>.inl h
 |(y,k)::r,n,acc,x,c,h=>by
  unfold cellsFrom at h;by_cases hk:(k == NameKind.cell)=true
  ·rw[b_0 hk] at h;rcases c5_ h with h|h
   ·rcases ah'.mp h with e|h
    ·cases e;have:k=.cell:=by simpa using hk
     subst this;exact .inr aq'
    ·exact .inl h
   ·exact .inr (ai' _ h)
  ·rw[a_8 hk] at h;rcases c5_ h with h|h
   ·exact .inl h
   ·exact .inr (ai' _ h)
theorem c9_{α:Type}:∀{l:List (Str × α)} {x:Str} {c:α},(x,c)∈l->∃c',l.lookup x=some c'
 |(k,v)::r,x,c,h=>by
  rw[aY'];cases hb:x == k with
  |true=>exact⟨v,rfl⟩
  |false=>
   rcases ah'.mp h with e|h
   ·cases e;simp at hb
   ·exact c9_ h
def cpEnv(scope:Scope)(C:Addr)(env:Env):Env:=
 { scope:=relabel scope env,locals:=C,globals:=env.globals,cells:=cellsFrom (C+1) scope.names (bz' env scope.names []),qual:=env.qual,func:=none,code:=env.code,frame:=env.frame,builtins:=env.builtins }
theorem dL_{M:Model}{A:Ah}{E:Aa->Ac->Prop}{s:Ac}{cl:List (Str × Addr)}{Q:Env->Ac->Prop}(h:Q { scope:=scope,locals:=s.heap.objs.size,globals:=env.globals,cells:=cellsFrom (s.heap.objs.size+1) scope.names cl,qual:=env.qual,func:=none,code:=env.code,frame:=env.frame,builtins:=env.builtins }
   { s with heap:=pushCells (s.heap.push { cls:=.type "dict",data:=.dict #[] }) scope.names }) :
  wpAny M A (newFunctionEnv scope env.globals cl [] env.qual none .none (some env)) Q E s:=by
 simp only[newFunctionEnv,Option.isSome_some,if_true];refine a__ (wpAny_alloc ?_);refine a__ (wpAny_layCells _ (λname kind cells=>by cases hkc:kind == NameKind.cell<;>simp[hkc]) _ _ _ _ ?_)
 rw[show ({ s with heap:=s.heap.push { cls:=.type "dict",data:=.dict #[] } }:Ac).heap.objs.size=s.heap.objs.size+1 from Heap.size_push ..];rw[List.forIn_nil];exact a__ (a_2 (a_2 h))
def dX'(PN:List Str)(ps:Scope)(N:List Str)(own:Nat)(fr:List Nat)(scope:Scope):Bool:=
 decide (scope.kind=.function)&&decide N.Nodup&&decide (own+fr.length=N.length)
 && (scope.names.all λy=>decide (scope.names.lookup y.1=some y.2))
 && (scope.names.all λy=>if y.2=.free then decide (ps.names.lookup y.1=some .cell) || decide (ps.names.lookup y.1=some .free) else true)
 && ((fr.map λj=>PN[j]?) == (N.drop own).map some)
 && ((N.drop own).all λx=>decide (scope.names.lookup x=some .free))
structure CpOk (PN:List Str) (ps:Scope) (N:List Str) (own:Nat) (fr:List Nat) (scope:Scope):Prop where
 kind:scope.kind=.function
 nd:N.Nodup
 len:own+fr.length=N.length
 look:∀y∈scope.names,scope.names.lookup y.1=some y.2
 par:∀y∈scope.names,y.2=.free->ps.names.lookup y.1=some .cell∨ps.names.lookup y.1=some .free
 frs:(fr.map λj=>PN[j]?)=(N.drop own).map some
 frk:∀x∈N.drop own,scope.names.lookup x=some .free
variable{own:Nat}{fr:List Nat}
theorem CpOk.of{PN:List Str}{ps:Scope}(h:dX' PN ps N own fr scope=true):CpOk PN ps N own fr scope:=by
 unfold dX' at h;simp only[az',b_9,aQ',beq_iff_eq] at h;obtain⟨⟨⟨⟨⟨⟨h1,h2⟩,h3⟩,h4⟩,h5⟩,h6⟩,h7⟩:=h;refine⟨h1,h2,h3,h4,λy hy e=>?_,h6,h7⟩;have q:=h5 y hy;rw[b_0 e] at q;simpa using q
def cb'(own:Nat)(fr:List Nat)(σ:St):St:=List.replicate own none++fr.map λj=>(σ[j]?).join
def bu'(X:Cx)(N:List Str)(scope:Scope)(fp:List Addr)(s:Ac)(H:Hp):Cx where
 prog:=X.prog
 w:=X.w
 K:=X.K
 mg:=X.mg
 base:=X.base
 A:=X.A
 N:=N
 s₀:=s
 H₀:=H
 env:=cpEnv scope s.heap.objs.size X.env
 outer:=X.stack
 stack:=X.stack
 ex:=fp
 fn:=λx=>decide (scope.names.lookup x=some .local) || decide (scope.names.lookup x=some .cell)
 calm:=X.calm
 pn:=[]
 xe:=λ_ _=>False
theorem db_{ps:Scope}{env:Env}(he:env.scope=ps){x:Str}:∀{names:List (Str × NameKind)} {k:NameKind},names.lookup x=some k->
  (names.map λ(n,k)=>if (k == NameKind.free&&env.scope.kind == .function&&env.kindOf n == some .cell) then (n,NameKind.cell) else (n,k)).lookup x =
   some (if (k == NameKind.free&&env.scope.kind == .function&&env.kindOf x == some .cell) then .cell else k)
 |(n,k')::r,k,h=>by
  rw[aY'] at h;rw[au'];cases hb:x == n with
  |true=>
   rw[hb] at h;cases h;have e:x=n:=by simpa using hb
   subst e;dsimp only;split<;>simp[aY']
  |false=>
   rw[hb] at h;have ih:=db_ he (env:=env) h;dsimp only;split<;>(rw[aY',hb];exact ih)
theorem d2_{env:Env}{x:Str}:∀{names:List (Str × NameKind)} {k:NameKind},(names.map λ(n,k)=>if (k == NameKind.free&&env.scope.kind == .function&&env.kindOf n == some .cell) then (n,NameKind.cell) else (n,k)).lookup x=some k->∃k',names.lookup x=some k'/\(k'=k∨(k'=.free/\k=.cell))
 |(n,k')::r,k,h=>by
  rw[au'] at h;rw[aY'];dsimp only at h;cases hb:x == n with
  |true=>
   refine⟨k',rfl,?_⟩;by_cases hc:(k' == NameKind.free&&env.scope.kind == .function&&env.kindOf n == some .cell)=true
   ·rw[b_0 hc,aY',hb] at h;cases h;simp only[az',beq_iff_eq] at hc;exact .inr ⟨hc.1.1,rfl⟩
   ·rw[a_8 hc,aY',hb] at h;cases h;exact .inl rfl
  |false=>
   have h':(r.map λ(n,k)=>if (k == NameKind.free&&env.scope.kind == .function&&env.kindOf n == some .cell) then (n,NameKind.cell) else (n,k)).lookup x=some k:=by
    split at h<;>(rw[aY',hb] at h;exact h)
   exact d2_ h'
theorem eA_{α:Type}{x:Str}{c:α}:∀{l r:List (Str × α)},(l++r).lookup x=some c->(x,c)∈l∨(x,c)∈r:=λh=>am'.mp (d_7 h)
section
variable{X:Cx}{pins:List (Addr × Obj)}{σ:St}{H:Hp}{s:Ac}{N:List Str}{own:Nat}{fr:List Nat}{scope:Scope}{fp:List Addr}
theorem eE'(I:Inv X pins σ H s)(S:CpOk X.N X.env.scope N own fr scope){x:Str}{c:Addr}(h:(x,c)∈bz' X.env scope.names []):X.env.cells.lookup x=some c/\(x,NameKind.free)∈scope.names:=by
 rcases eo_ h with h|⟨h,e⟩
 ·cases h
 ·obtain⟨c',hc⟩:=I.ok.has x (S.par _ h rfl);refine⟨?_,h⟩;rw[e,hc];rfl
theorem Inv.block(I:Inv X pins σ H s)(S:CpOk X.N X.env.scope N own fr scope)(hfp:∀b∈fp,FpOk X pins H b)(hfo:∀b∈fp,∃o,s.heap.get? b=some o) :
  Inv (bu' X N scope fp s H) [] (cb' own fr σ) H { s with heap:=pushCells (s.heap.push { cls:=.type "dict",data:=.dict #[] }) scope.names }:=by
 have kept:∀b o,s.heap.get? b=some o->(pushCells (s.heap.push { cls:=.type "dict",data:=.dict #[] }) scope.names).get? b=some o:=λb o e=>pushCells_keeps _ _ b o (a_0 _ e);have cok:=cellsFrom_ok scope.names (s.heap.push { cls:=.type "dict",data:=.dict #[] }) (s.heap.objs.size+1) [] ⟨λ_ _ hm=>(nomatch hm),List.Pairwise.nil⟩ (by rw[Heap.size_push];exact ak' _);rw[Heap.size_push] at cok;have ecs:cellsFrom (s.heap.objs.size+1) scope.names (bz' X.env scope.names [])=cellsFrom (s.heap.objs.size+1) scope.names []++bz' X.env scope.names []:=cb_ _ _ [] _
 have lookC:∀{x c},(cellsFrom (s.heap.objs.size+1) scope.names (bz' X.env scope.names [])).lookup x=some c->((x,c)∈cellsFrom (s.heap.objs.size+1) scope.names []/\(x,NameKind.cell)∈scope.names/\s.heap.objs.size+1<=c)∨(X.env.cells.lookup x=some c/\(x,NameKind.free)∈scope.names):=λ{x c} h=>by
  rw[ecs] at h;rcases eA_ h with h|h
  ·refine .inl ⟨h,?_,(cok.empty _ _ h).2⟩;rcases c5_ h with q|q
   ·cases q
   ·exact q
  ·exact .inr (eE' I S h)
 have oldC:∀{x c},X.env.cells.lookup x=some c->c<s.heap.objs.size:=λ{x c} h=>by
  obtain⟨v,hv⟩:=I.cell x c h;exact hv.lt
 have hb:∀b∈fp,b<s.heap.objs.size:=λb hb=>let ⟨o,e⟩:=hfo b hb;a_6 e
 refine⟨⟨I.ok.mod,S.kind,I.ok.glob,I.ok.blt,ak' _,λx y c h1 h2=>?_,λx hx=>?_,λx c hf h=>?_,I.ok.hd,I.ok.frames,.inl rfl,λb hb'=>⟨av' (hb b hb'),λx c h=>?_⟩,I.bs,?_,λb o e hb'=>?_,λb hb' hs=>?_,I.stack,I.stkFree⟩,
  rfl,I.bare,Un.kept kept,⟨_,(Heap.Ns.new s.heap (.type "dict")).keeps (pushCells_keeps _ _),λi x v h1 h2 h3=>?_⟩,λx c h=>?_,I.hok.fresh (ak' _),λx c h=>?_,λp hp=>absurd (show p∈([]:List (Addr × Obj)) from hp) Z2,I.hok.kept kept,?_⟩
 ·-- inj
  rcases lookC h1 with⟨m1,k1,l1⟩|⟨m1,k1⟩<;>rcases lookC h2 with⟨m2,k2,l2⟩|⟨m2,k2⟩
  ·exact name_of_addr cok.apart m1 m2
  ·exact absurd (oldC m2) (Nat.not_lt.mpr (Nat.le_of_succ_le l1))
  ·exact absurd (oldC m1) (Nat.not_lt.mpr (Nat.le_of_succ_le l2))
  ·exact I.ok.inj x y c m1 m2
 ·-- has
  have key:(x,NameKind.cell)∈scope.names∨(x,NameKind.free)∈scope.names:=by
   rcases hx with hx|hx
   ·obtain⟨k',e,q⟩:=d2_ (env:=X.env) (show _=some NameKind.cell from hx);have m:=d_7 e;rcases q with q|⟨q,_⟩
    ·exact .inl (q▸m)
    ·exact .inr (q▸m)
   ·obtain⟨k',e,q⟩:=d2_ (env:=X.env) (show _=some NameKind.free from hx);have m:=d_7 e;rcases q with q|⟨_,q⟩
    ·exact .inr (q▸m)
    ·cases q
  show ∃c,(cellsFrom (s.heap.objs.size+1) scope.names (bz' X.env scope.names [])).lookup x=some c
  have:((cellsFrom (s.heap.objs.size+1) scope.names (bz' X.env scope.names [])).lookup x).isSome=true:=by
   refine PySem.W.cellsFrom_some _ _ _ ?_;rcases key with q|q
   ·exact .inl (S.look _ q)
   ·obtain⟨c,m⟩:=d5_ (env:=X.env) (names:=scope.names) (cs:=[]) (x:=x) (.inl q);obtain⟨c',e⟩:=c9_ m;exact .inr (by rw[e];rfl)
  exact aS'.mp this
 ·-- cab
  rcases lookC h with⟨_,_,l⟩|⟨_,k⟩
  ·exact Nat.le_of_succ_le l
  ·have e:=S.look _ k;have hf:(decide (scope.names.lookup x=some .local) || decide (scope.names.lookup x=some .cell))=true:=hf;rw[show scope.names.lookup x=some .free from e] at hf;exact absurd hf (by decide)
 ·rcases lookC h with⟨_,_,l⟩|⟨q,_⟩
  ·exact a8' (ar' (hb b hb') (Nat.le_of_succ_le l))
  ·exact (hfp b hb').2.2.2.2.1 x c q
 ·exact a7' I.ok.bsz I.sz
 ·rcases (hfp b hb').2.2.2.1 with q|q
  ·exact I.ok.noex b o e q
  ·exact absurd (ar' (a_6 e) I.ok.bsz) Z1
 ·rcases ah'.mp (I.stkSub b hs) with q|q
  ·exact (hfp b hb').2.1 q
  ·exact (hfp b hb').2.2.1 q
 ·-- names
  have hi:own<=i:=by
   refine Nat.le_of_not_lt λhlt=>?_;unfold cb' at h2;rw[List.getElem?_append_left (by rw[a3'];exact hlt),List.getElem?_replicate,b_0 hlt] at h2;cases h2
  have h2':(fr.map λj=>(σ[j]?).join)[i - own]? = some (some v):=by
   unfold cb' at h2;rw[aW' (by rw[a3'];exact hi),a3'] at h2;exact h2
  have h1:N[i]? = some x:=h1;have hx:(N.drop own)[i - own]? = some x:=by rw[List.getElem?_drop,show own+(i - own)=i by omega];exact h1
  rw[aw'] at h2';cases ej:fr[i - own]? with
  |none=>rw[ej] at h2';cases h2'
  |some j=>
   rw[ej] at h2';have h2':(σ[j]?).join=some v:=b_2 h2'
   have hσ:σ[j]? = some (some v):=by
    cases q:σ[j]? with
    |none=>rw[q] at h2';cases h2'
    |some o=>rw[q] at h2';exact c_1 some h2'
   have hN:X.N[j]? = some x:=by
    have q:=c_1 (λl=>l[i - own]?) S.frs;simp only[aw',ej,hx,Option.map_some] at q;exact b_2 q
   have kf:=S.frk x (ad' hx);have mf:=d_7 kf;obtain⟨m,hm,hv⟩:=I.loc;have pk:=S.par _ mf rfl;obtain⟨u,ru,lk⟩:=hv j x v hN hσ (pk.elim (λq=>.inr (.inl q)) λq=>.inr (.inr q));refine⟨u,ru,?_⟩;have pk':X.env.kindOf x=some .cell∨X.env.kindOf x=some .free:=pk;rcases lk with⟨k,_⟩|⟨_,c,hc,hcell⟩
   ·rw[k] at pk';rcases pk' with q|q<;>cases q
   ·obtain⟨c',m1⟩:=d5_ (env:=X.env) (names:=scope.names) (cs:=[]) (x:=x) (.inl mf);have e1:=(eE' I S m1).1;rw[hc] at e1;cases e1;refine .inr ⟨?_,c,?_,hcell.keeps kept⟩
    ·have q:=db_ (env:=X.env) rfl kf;show (relabel scope X.env).names.lookup x=some .cell∨(relabel scope X.env).names.lookup x=some .free;unfold relabel;rw[q];split
     ·exact .inl rfl
     ·exact .inr rfl
    ·obtain⟨c2,e2⟩:=aS'.mp (PySem.W.cellsFrom_some (x:=x) scope.names (s.heap.objs.size+1) (bz' X.env scope.names []) (.inr (by obtain⟨c',e⟩:=c9_ m1;rw[e];rfl)));show (cellsFrom (s.heap.objs.size+1) scope.names (bz' X.env scope.names [])).lookup x=some c;rcases lookC e2 with⟨_,q,_⟩|⟨q,_⟩
     ·have:=S.look _ q;rw[show scope.names.lookup x=some .free from kf] at this;cases this
     ·rw[hc] at q;cases q;exact e2
 ·-- cells
  rcases lookC h with⟨q,_,_⟩|⟨q,_⟩
  ·exact⟨_,(cok.empty _ _ q).1⟩
  ·obtain⟨v,hv⟩:=I.cell x c q;exact⟨v,hv.keeps kept⟩
 ·rcases lookC h with⟨q,_,l⟩|⟨q,_⟩
  ·exact I.hok.fresh Z1
  ·exact I.freeC x c q
 ·show (cb' own fr σ).length=N.length;unfold cb';rw[aj',a3',aa'];exact S.len
end
def PTs(X:Cx)(ifs:List Expr)(t:TT):Prop:=
 ∀(pins:List (Addr × Obj)) (s:Ac) (σ:St) (H:Hp) (Q:Bool->Hp->Prop),Inv X pins σ H s->t σ H Q->
  wpAny (model X.prog X.w) X.A (forIn ifs true λc r=>if r=true then do let ok <- isTrue c X.env (eval c X.env);pure (ForInStep.yield ok) else pure (ForInStep.yield r)) (TP X pins σ Q) X.xe s
def tYes:TT:=λ_ H Q=>Q true H
variable{σ:St}
theorem yesT{H:Hp}{A B:Hp->Prop}(h:A H):tYes σ H λb H4=>if b=true then A H4 else B H4:=by
 unfold tYes;exact iteT h
theorem aT_:PTs X [] tYes:=λ_ _ _ H _ I h=>wpAny_tests_nil ⟨H,I,h⟩
theorem bR_{c:Expr}{t:TT}(h:PT X c t):PTs X [c] t:=λpins s σ H Q I q=>wpAny_tests_one (h pins s σ H Q I q)
def CompW(J:It)(g:TG)(tc:TT)(te:TE)(σ0:St)(D:Addr)(H1:Hp)(Q:VK):Prop:=∃W:Nat->Nat->St->Hp->Prop,
 (∃m,W 0 m σ0 (upd H1 D (.lst [])))/\∀i m σ' H',W i m σ' H'->(J.stop i H'/\Q (.ref D) H') ∨
  (J.go i H'/\∃Nx:St->Hp->Prop,(∀σ2 H2,Nx σ2 H2->∃m',m'<m/\W (i+1) m' σ2 H2) /\
   ∀x H2,J.yld i H' x H2->g x σ' H2 λσ3 H3=>tc σ3 H3 λb H4=>if b=true then te σ3 H4 λy H5=>∃out,H5 D=some (.lst out)/\out.length<sizeLine/\Nx σ3 (upd H5 D (.lst (out++[y]))) else Nx σ3 H4)
def tComp(wi:TI)(own:Nat)(fr:List Nat)(g:TG)(tc:TT)(te:TE):TE:=λσ H Q=>wi σ H λJ H1=>∀D,H1 D=none->CompW J g tc te (cb' own fr σ) D H1 Q
variable{Q:VK}{J:It}{D:Addr}{elt iter tg:Expr}{ifs:List Expr}{g:TG}{tc:TT}{te:TE}
theorem hD_{R:Result->Ac->Prop}{pins:List (Addr × Obj)}{s2:Ac}{it:Addr}{fp:List Addr}{tn:Nat->Heap->Prop}(S:CpOk X.N X.env.scope N own fr scope)(hc:X.calm=true)(hg:∀fp s H,PG (bu' X N scope fp s H) tg g)(ht:∀fp s H,PTs (bu' X N scope fp s H) ifs tc)(he:∀fp s H,PE (bu' X N scope fp s H) elt te)(I3:Inv X pins σ (upd H1 D (.lst [])) s2)(T:Turn X.prog X.w X.K tg J fp it tn)(st:tn 0 s2.heap)(f2:∀b∈fp,FpOk X pins (upd H1 D (.lst [])) b)(k:CompW J g tc te (cb' own fr σ) D H1 Q)(hR:∀H' s',Inv X pins σ H' s'->(∃m,s'.heap.Ns s2.heap.objs.size m)->H' s2.heap.objs.size=none->Q (.ref D) H'->R (.ok .next) s') :
  codeAny (model X.prog X.w) X.A (.compStart (.ListComp elt [⟨tg,iter,ifs,0⟩] scope pos) 0 (.ref it) (.ref D) (cpEnv scope s2.heap.objs.size X.env)) R
   { s2 with heap:=pushCells (s2.heap.push { cls:=.type "dict",data:=.dict #[] }) scope.names }:=by
 obtain⟨W,⟨m0,w0⟩,turn⟩:=k;have I4:=I3.block (N:=N) S f2 (λb hb=>let ⟨o,e,_⟩:=T.obj _ _ st b hb;⟨o,e⟩);have kept:∀b o,s2.heap.get? b=some o->(pushCells (s2.heap.push { cls:=.type "dict",data:=.dict #[] }) scope.names).get? b=some o:=λb o e=>pushCells_keeps _ _ b o (a_0 _ e);have st4:tn 0 (pushCells (s2.heap.push { cls:=.type "dict",data:=.dict #[] }) scope.names):=T.keep _ _ _ st λb hb o e=>kept b o e
 have fx:∀{H':Hp},(∀b∈fp,H' b=none)->∀b∈fp,FpOk (bu' X N scope fp s2 (upd H1 D (.lst []))) [] H' b:=λhn b hb=>
  ⟨hn b hb,(I4.ok.exf b hb).1,I4.ok.exfs b hb,.inl hb,(I4.ok.exf b hb).2,λp hp=>absurd (show p∈([]:List (Addr × Obj)) from hp) Z2⟩
 have loop:codeAny (model X.prog X.w) X.A (.compLoop (.ListComp elt [⟨tg,iter,ifs,0⟩] scope pos) 0 (.ref it) (.ref D) (cpEnv scope s2.heap.objs.size X.env)) R
   { s2 with heap:=pushCells (s2.heap.push { cls:=.type "dict",data:=.dict #[] }) scope.names }:=by
  refine codeAny_loop rfl (λn s'=>∃i σ' H',Inv (bu' X N scope fp s2 (upd H1 D (.lst []))) [] σ' H' s'/\tn i s'.heap/\(∀b∈fp,H' b=none)/\W i n σ' H') (λn s' hI=>?_) m0 ⟨0,_,_,I4,st4,λb hb=>(f2 b hb).1,w0⟩;obtain⟨i,σ',H',I5,st5,fr5,w5⟩:=hI;show wpAny _ X.A ((compTurn (.ListComp elt [⟨tg,iter,ifs,0⟩] scope pos) 0 (.ref it) (.ref D) (cpEnv scope s2.heap.objs.size X.env)).onRaise (λx=>do noteFrame x (cpEnv scope s2.heap.objs.size X.env);theTreesLotGoes x)) _ _ s';refine wpAny_noted (c_7 (E:=λ_ _=>False) ?_ (λ_ _ q=>q) λ_ _ q=>q.elim);rw[compTurn_list];refine a__ (wpAny_standAt (a__ ?_));rcases turn i n σ' H' w5 with⟨stop,q⟩|⟨go,Nx,hN,step⟩
  ·refine thn (T.done (bu' X N scope fp s2 (upd H1 D (.lst []))) rfl rfl rfl hc i [] s' σ' H' _ I5 (fx fr5) st5 stop) λr s6 ⟨hr,I6⟩=>?_;subst hr;refine a_2 (hR H' s6 (I3.call' I6.os I6.base I6.hok I6.bare λb hb=>?_) ?_ I6.free q)
   ·exact⟨(f2 b hb).2.2.2.1,(f2 b hb).2.1,(f2 b hb).2.2.2.2.1,(f2 b hb).2.2.2.2.2⟩
   ·obtain⟨m,hm,_⟩:=I6.loc;exact⟨m,hm⟩
  ·refine thn (T.item (bu' X N scope fp s2 (upd H1 D (.lst []))) rfl rfl rfl hc i [] s' σ' H' _ I5 (fx fr5) st5 go) λr s6 ⟨u,hr,h6⟩=>?_;subst hr;refine a__ (thn h6 λ_ s7 ⟨x,H7,I7,r7,y7,st7,fr7⟩=>?_);have I7':=I7.pinned (fx fr7) (T.obj _ _ st7)
   have back:∀{σ8:St} {H8:Hp} {s8:Ac},Inv (bu' X N scope fp s2 (upd H1 D (.lst []))) ([]++eg' fp s7.heap) σ8 H8 s8->Nx σ8 H8->∃m,m<n/\∃i σ' H',Inv (bu' X N scope fp s2 (upd H1 D (.lst []))) [] σ' H' s8/\tn i s8.heap/\(∀b∈fp,H' b=none)/\W i m σ' H':=λ{σ8 H8 s8} I8 n8=>by
    obtain⟨m',hm,w8⟩:=hN σ8 H8 n8;refine⟨m',hm,i+1,σ8,H8,I8.unpinned,T.keep _ _ _ st7 λb hb o e=>(I8.pin (b,o) (aD' _ (aD' _ (cr_ hb e)))).1,λb hb=>?_,w8⟩;obtain⟨o,e,d⟩:=T.obj _ _ st7 b hb;exact (I8.pin (b,o) (aD' _ (aD' _ (cr_ hb e)))).2.1
   refine a__ (thn (hg fp s2 (upd H1 D (.lst [])) _ s7 σ' H7 x u _ I7' r7 (step x H7 y7)) λ_ s8 ⟨σ8,H8,I8,q8⟩=>?_);refine a__ (thn (ht fp s2 (upd H1 D (.lst [])) _ s8 σ8 H8 _ I8 q8) λb s9 ⟨H9,I9,q9⟩=>?_);cases b with
   |false=>
    simp only[Bool.false_eq_true,if_false] at q9 ⊢;exact a_2 ⟨rfl,back I9 q9⟩
   |true=>
    simp only[if_true] at q9 ⊢;refine a__ (a__ (thn (he fp s2 (upd H1 D (.lst [])) _ s9 σ8 H9 _ I9 q9) λy s10 ⟨yv,H10,I10,r10,out,hD,hz,q10⟩=>?_));refine a__ (thn (bn_ (X:=bu' X N scope fp s2 (upd H1 D (.lst []))) _ s10 σ8 H10 (.ref D) [yv] (.ref D) [y] (λ_ H'=>Nx σ8 H') I10 rfl (.cons r10 .nil) ⟨D,out,yv,rfl,rfl,hD,hz,q10⟩) λ_ s11 ⟨_,H11,I11,_,q11⟩=>?_);exact a_2 (a_2 ⟨rfl,back I11 q11⟩)
 exact codeAny_compStart_list loop (T.self _ 0 _ _ _ st4 loop)
variable{wi:TI}
theorem aR_(N:List Str)(own:Nat)(fr:List Nat)(hi:PI X tg iter wi)(hg:∀fp s H,PG (bu' X N scope fp s H) tg g)(ht:∀fp s H,PTs (bu' X N scope fp s H) ifs tc)(he:∀fp s H,PE (bu' X N scope fp s H) elt te)
  (S:dX' X.N X.env.scope N own fr scope=true:=by kernel_rfl) (hc:X.calm=true:=by rfl) (hs:∀x,foldedSetIterable iter X.env x=pure x:=by intro _;rfl) :
  PE X (.ListComp elt [⟨tg,iter,ifs,0⟩] scope pos) (tComp wi own fr g tc te):=by
 intro pins s σ H Q I h;have S':=CpOk.of S;rw[eval_ListComp];have hclos:closureFor scope X.env=pure (bz' X.env scope.names []):=d0_ λx hx e=>I.ok.has x.1 (S'.par x hx e);refine wpAny_comprehension_free (use:=none) rfl hs hclos S'.kind (λx hx e=>by rw[S'.look x hx,e]) (thn (hi pins s σ H _ I h) λv s1 h1=>thn h1 λitv s2 h2=>?_);obtain⟨it,fp,tn,J,H1,rfl,I2,T,st2,f2,k⟩:=h2;refine d_2 (dL_ ?_);have hD:H1 s2.heap.objs.size=none:=I2.fresh;have I3:=I2.lnew (ys:=[]) (its:=[]) (t':=s2.toks) .nil (aJ' _);have kept:∀b o,s2.heap.get? b=some o->(s2.heap.push { cls:=.type "list",data:=.seq ([]:List Aa).toArray }).get? b=some o:=λb o e=>a_0 _ e;refine hD_ (own:=own) (fr:=fr) (Q:=Q) S' hc hg ht he I3 T (T.keep _ _ _ st2 λb hb o e=>kept b o e) (λb hb=>?_) (k _ hD) ?_
 ·refine⟨?_,(f2 b hb).2⟩;obtain⟨o,e,_⟩:=T.obj _ _ st2 b hb;rw[a8_ (av' (a_6 e))];exact (f2 b hb).1
 ·rintro H' s' I' ⟨m,hm⟩ hn q;refine⟨m,hm,λh' hs'=>⟨.ref s2.heap.objs.size,H',?_,rfl,q⟩⟩
  exact I'.turned (t':=s'.toks) (λb o hb e=>hs'.extBut b o hb e) hn (a8' I3.lt) (.inr I3.sz) (λx c hcx e=>by
   obtain⟨v,hv⟩:=I3.cell x c hcx
   exact absurd hv.lt (by rw[e];exact a6' _)) λp hp e=>by
    have:=(I3.pin p hp).1;rw[e] at this;exact absurd (a_6 this) (a6' _)
def tAsgC(i:Nat)(te:TE):TS:=λD σ H=>te σ H λx H1=>D.nx (σ.set i (some x)) H1
theorem bO_{i:Nat}{x:Str}{px:Pos}(N:List Str)(own:Nat)(fr:List Nat)(hN:X.N.Nodup)(hi':X.N[i]? = some x)(hx:Loc X.env.scope x)
  (hi:PI X tg iter wi) (hg:∀fp s H,PG (bu' X N scope fp s H) tg g) (ht:∀fp s H,PTs (bu' X N scope fp s H) ifs tc) (he:∀fp s H,PE (bu' X N scope fp s H) elt te) {pos':Pos}
  (S:dX' X.N X.env.scope N own fr scope=true:=by kernel_rfl) (hc:X.calm=true:=by rfl) (hs:∀x,foldedSetIterable iter X.env x=pure x:=by intro _;rfl)
  (hf:X.fn x=true∨X.env.scope.names.lookup x=some .local:=by first|exact .inl rfl|exact .inr rfl|assumption)
  (hsw:swapsWith (.ListComp elt [⟨tg,iter,ifs,0⟩] scope pos) (some (.Name x px)) pos'.line X.env=pure true:=by rfl) :
  PS X (.Assign [.Name x px] (.ListComp elt [⟨tg,iter,ifs,0⟩] scope pos) pos') (tAsgC i (tComp wi own fr g tc te)):=by
 intro pins s σ H E I h;have S':=CpOk.of S;rw[exec_Assign_Name_used _ _ _ _ hsw];refine a__ (wpAny_standAt (a__ ?_));show wpAny _ X.A (do let _ <- comprehension (.ListComp elt [⟨tg,iter,ifs,0⟩] scope pos) scope X.env _ (newList []) false (eval iter X.env) (some (assign (.Name x px) X.env))) _ _ s;have hclos:closureFor scope X.env=pure (bz' X.env scope.names []):=d0_ λx hx e=>I.ok.has x.1 (S'.par x hx e)
 refine a__ (c_7 (wpAny_comprehension_free (use:=some (assign (.Name x px) X.env)) (Q:=λ_ s'=>SP X pins E .next s') rfl hs hclos S'.kind (λx hx e=>by rw[S'.look x hx,e]) (thn (hi pins s σ H _ I h) λv s1 h1=>thn h1 λitv s2 h2=>?_))
  (λ_ s' hq=>a_2 (a_2 hq)) λ_ _ e=>e)
 obtain⟨it,fp,tn,J,H1,rfl,I2,T,st2,f2,k⟩:=h2;refine d_2 (dL_ ?_);have hD:H1 s2.heap.objs.size=none:=I2.fresh;have I3:=I2.lnew (ys:=[]) (its:=[]) (t':=s2.toks) .nil (aJ' _);have kept:∀b o,s2.heap.get? b=some o->(s2.heap.push { cls:=.type "list",data:=.seq ([]:List Aa).toArray }).get? b=some o:=λb o e=>a_0 _ e;refine hD_ (own:=own) (fr:=fr) (Q:=λx H1=>E.nx (σ.set i (some x)) H1) S' hc hg ht he I3 T (T.keep _ _ _ st2 λb hb o e=>kept b o e) (λb hb=>?_) (k _ hD) ?_
 ·refine⟨?_,(f2 b hb).2⟩;obtain⟨o,e,_⟩:=T.obj _ _ st2 b hb;rw[a8_ (av' (a_6 e))];exact (f2 b hb).1
 ·rintro H' s' I' ⟨m,hm⟩ hn q
  have cne:∀y c,X.env.cells.lookup y=some c->c≠(s2.heap.push { cls:=.type "list",data:=.seq ([]:List Aa).toArray }).objs.size:=λy c hcx e=>by
   obtain⟨v,hv⟩:=I3.cell y c hcx;exact absurd hv.lt (by rw[e];exact a6' _)
  show wpAny _ X.A (assign (.Name x px) X.env (.ref s2.heap.objs.size)) _ _ s';refine wpAny_assign_Name (fa_ (v:=V.ref s2.heap.objs.size) I' hN hi' hx rfl (λs'' I'' ⟨a,hs2,ha⟩=>?_) hf)
  have hCa:(s2.heap.push { cls:=.type "list",data:=.seq ([]:List Aa).toArray }).objs.size≠a:=by
   rcases ha with e|e
   ·rw[e];exact a8' I3.lt
   ·exact (cne x a e).symm
  refine⟨m,hm.sameBut hs2 hCa,λh' hs'=>⟨_,H',?_,q⟩⟩
  exact I''.turned (t':=s''.toks) (λb o hb e=>hs'.extBut b o hb e) hn (a8' I3.lt) (.inr I3.sz) cne λp hp e=>by
    have:=(I3.pin p hp).1;rw[e] at this;exact absurd (a_6 this) (a6' _)
def GOk(g:TG)(own:Nat)(fv:List (Option V))(dec:V->Hp->List (Option V)->Prop):Prop:=
 ∀(x:V) (o:List (Option V)) (H:Hp) (k:St->Hp->Prop) (o3:List (Option V)),o.length=own->dec x H o3->k (o3++fv) H->g x (o++fv) H k
variable{fv:List (Option V)}
theorem gok1:GOk (bR' 0) 1 fv (λx _ o3=>o3=[some x]):=λx o H k o3 hl e h=>by
 subst e
 match o,hl with
 |[a],_=>exact h
inductive dec2 (K:F__) (x:V) (H:Hp) (o3:List (Option V)):Prop
 |mk:∀p u v,x=.ref p->SqT K H p [u,v]->o3=[some u,some v]->dec2 K x H o3
inductive dec3 (K:F__) (x:V) (H:Hp) (o3:List (Option V)):Prop
 |mk:∀p u v w,x=.ref p->SqT K H p [u,v,w]->o3=[some u,some v,some w]->dec3 K x H o3
variable{K:F__}
theorem gok2:GOk (gTup K 2 (dr' (bR' 0) (dr' (bR' 1) gNil))) 2 fv (dec2 K):=λx o H k o3 hl e h=>by
 obtain⟨p,u,v,rfl,hp,rfl⟩:=e
 match o,hl with
 |[a,b],_=>exact⟨p,[u,v],rfl,hp,rfl,u,[v],rfl,v,[],rfl,rfl,h⟩
theorem gok3:GOk (gTup K 3 (dr' (bR' 0) (dr' (bR' 1) (dr' (bR' 2) gNil)))) 3 fv (dec3 K):=λx o H k o3 hl e h=>by
 obtain⟨p,u,v,w,rfl,hp,rfl⟩:=e
 match o,hl with
 |[a,b,c],_=>exact⟨p,[u,v,w],rfl,hp,rfl,u,[v,w],rfl,v,[w],rfl,w,[],rfl,rfl,h⟩
variable{H:Hp}{dec:V->Hp->List (Option V)->Prop}{σ0:St}
theorem gb_(hσ:σ0=List.replicate own none++fv)(G:GOk g own fv dec)(n:Nat)(Pv:Nat->List V->Hp->Prop)(h0:Pv 0 [] (upd H D (.lst [])))(hstop:∀out H',Pv n out H'->J.stop n H'/\Q (.ref D) H')(hgo:∀i out H',i<n->Pv i out H'->J.go i H'/\∀x H2,J.yld i H' x H2->∃o3,dec x H2 o3/\o3.length=own/\∀Nx:Hp->Prop,(∀out' H2,Pv (i+1) out' H2->Nx H2)->
   tc (o3++fv) H2 λb H4=>if b=true then te (o3++fv) H4 λy H5=>∃out2,H5 D=some (.lst out2)/\out2.length<sizeLine/\Nx (upd H5 D (.lst (out2++[y]))) else Nx H4) :
  CompW J g tc te σ0 D H Q:=by
 subst hσ;refine⟨λi m σ' H'=>m=n - i/\i<=n/\(∃o:List (Option V),σ'=o++fv/\o.length=own)/\∃out,Pv i out H',⟨n,by simp,aJ' _,⟨_,rfl,a3'⟩,_,h0⟩,?_⟩;rintro i m σ' H' ⟨rfl,hi,⟨o,rfl,ho⟩,out,p⟩;by_cases hlt:i<n
 ·obtain⟨go,k⟩:=hgo i out H' hlt p;refine .inr ⟨go,λσ2 H2=>(∃o:List (Option V),σ2=o++fv/\o.length=own)/\∃out,Pv (i+1) out H2,λσ2 H2 q=>⟨n - (i+1),by omega,rfl,hlt,q⟩,λx H2 y=>?_⟩;obtain⟨o3,d,l3,q⟩:=k x H2 y;exact G x o H2 _ o3 ho d (q (λH2=>(∃o:List (Option V),o3++fv=o++fv/\o.length=own)/\∃out,Pv (i+1) out H2) λout' H2 z=>⟨⟨o3,rfl,l3⟩,out',z⟩)
 ·have e:i=n:=by omega
  subst e;exact .inl (hstop out H' p)
theorem an_(hσ:σ0=List.replicate own none++fv)(G:GOk g own fv dec)(Pv:Nat->List V->Hp->Prop)(h0:Pv 0 [] (upd H D (.lst [])))(hl:∀i out H',i<=xs.length->Pv i out H'->SqL K H' a xs)(hd:∀out H',Pv xs.length out H'->Q (.ref D) H')(hgo:∀i x out H',xs[i]? = some x->Pv i out H'->∃o3,dec x H' o3/\o3.length=own/\∀Nx:Hp->Prop,(∀out' H2,Pv (i+1) out' H2->Nx H2)->
   tc (o3++fv) H' λb H4=>if b=true then te (o3++fv) H4 λy H5=>∃out2,H5 D=some (.lst out2)/\out2.length<sizeLine/\Nx (upd H5 D (.lst (out2++[y]))) else Nx H4) :
  CompW (Itl K a) g tc te σ0 D H Q:=by
 refine gb_ hσ G xs.length Pv h0 (λout H' p=>⟨⟨xs,hl _ _ _ (ak' _) p,ak' _⟩,hd out H' p⟩) λi out H' hi p=>?_;have q:=hl i out H' (Nat.le_of_lt hi) p;refine⟨⟨xs,xs[i],q,by simp[hi]⟩,λx H2 y=>?_⟩;obtain⟨e,y⟩:=y;subst e;exact hgo i x out _ (y xs q) p
end L2
namespace EvS
open PySem PySem.W PyProof.Rows
def Ok{α:Type}(f:Nat->Nat->Bool)(n:Nat):KasT α->(α->Prop)->Prop
 |.ret a,Q=>Q a
 |.ask i j k,Q=>i<n/\j<n/\Ok f n (k (f i j)) Q
theorem Ok.bind{α β:Type}{f:Nat->Nat->Bool}{n:Nat}{g:α->KasT β}{Q:β->Prop}:∀{t:KasT α} {R:α->Prop},Ok f n t R->(∀a,R a->Ok f n (g a) Q)->Ok f n (t.bind g) Q
 |.ret a,R,h,k=>k a h
 |.ask i j t,R,h,k=>⟨h.1,h.2.1,Ok.bind h.2.2 k⟩
theorem Ok.imp{α:Type}{f:Nat->Nat->Bool}{n:Nat}{Q R:α->Prop}(k:∀a,Q a->R a):∀{t:KasT α},Ok f n t Q->Ok f n t R
 |.ret a,h=>k a h
 |.ask i j t,h=>⟨h.1,h.2.1,Ok.imp k h.2.2⟩
theorem Ok.wp{α:Type}{f:Nat->Nat->Bool}{n:Nat}{cmp:Nat->Nat->(Bool->Ac->Prop)->Ac->Prop}{s:Ac}(hc:∀i j C,i<n->j<n->C (f i j) s->cmp i j C s){Q:α->Prop}{G:α->Ac->Prop}(k:∀a,Q a->G a s) :
  ∀{t:KasT α},Ok f n t Q->t.kasWp cmp G s
 |.ret a,h=>k a h
 |.ask i j t,h=>hc i j _ h.1 h.2.1 (Ok.wp hc k h.2.2)
structure Ord (f:Nat->Nat->Bool):Prop where
 rfl':∀i,f i i=false
 trans:∀{i j k},f j i=false->f k j=false->f k i=false
 tot:∀{i j},f i j=true->f j i=false
variable{p:Array Nat}
variable{i j:Nat}
variable{k:Nat}
variable{n:Nat}
variable{lo:Nat}
variable{nrem:Nat}
section
variable{f:Nat->Nat->Bool}(O:Ord f){N:Nat}
abbrev at'(p:Array Nat)(i:Nat):Nat:=p.getD i 0
def Up(f:Nat->Nat->Bool)(p:Array Nat)(k:Nat):Prop:=∀i j,i<=j->j<k->f (at' p j) (at' p i)=false
def Down(f:Nat->Nat->Bool)(p:Array Nat)(k:Nat):Prop:=∀i j,i<=j->j<k->f (at' p i) (at' p j)=false
def Like(f:Nat->Nat->Bool)(p:Array Nat)(lo k:Nat):Prop:=∀i,lo<=i->i<k->f (at' p i) (at' p (k - 1))=false/\f (at' p (k - 1)) (at' p i)=false
def Good(N:Nat)(p:Array Nat):Prop:=p.Perm (List.range N).toArray
theorem Good.size(h:Good N p):p.size=N:=by
 have:=h.size_eq;simpa using this
theorem Good.lt(h:Good N p)(hN:0<N)(i:Nat):at' p i<N:=by
 unfold at';by_cases hi:i<p.size
 ·have e:p.getD i 0=p[i]:=by simp[Array.getD,hi]
  rw[e];have m:p[i]∈(List.range N).toArray:=h.mem_iff.mp (Array.getElem_mem hi);simpa using m
 ·have e:p.getD i 0=0:=by simp[Array.getD,hi]
  rw[e];exact hN
theorem Good.rev(h:Good N p)(i j:Nat):Good N (kas_rev p i j):=(mirror_perm _ _ _ _).trans h
theorem Good.bub(h:Good N p)(i j:Nat):Good N (bubble p i j):=(bubble_perm _ _ _).trans h
theorem dX_{q:Array Nat}(h:p[i]? = q[j]?):at' p i=at' q j:=by
 unfold at';rw[Array.getD_eq_getD_getElem?,Array.getD_eq_getD_getElem?,h]
theorem dK_(hj:j<=p.size)(k:Nat):at' (kas_rev p i j) k=if i<=k/\k<j then at' p (i+j - 1 - k) else at' p k:=by
 have e:=getElem?_mirror_all (i:=i) hj k;unfold kas_rev;split
 ·rename_i c
  rw[b_0 c] at e;exact dX_ e
 ·rename_i c
  rw[a_8 c] at e;exact dX_ e
theorem k8_{l:Nat}(hk:k<p.size)(hl:l<=k)(i:Nat):at' (bubble p k (k - l)) i=if i=l then at' p k else if l<i/\i<=k then at' p (i - 1) else at' p i:=by
 have e:=getElem?_bubble hk (k - l) Z1 i;rw[show k - (k - l)=l by omega] at e;by_cases c:i=l
 ·rw[b_0 c] at e ⊢;exact dX_ e
 ·rw[a_8 c] at e ⊢;split
  ·rename_i d
   rw[b_0 d] at e;exact dX_ e
  ·rename_i d
   rw[a_8 d] at e;exact dX_ e
include O
theorem Up.more(h:Up f p n)(h1:1<=n)(c:f (at' p n) (at' p (n - 1))=false):Up f p (n+1):=λi j hij hj=>by
 by_cases e:j<n
 ·exact h i j hij e
 ·have e:j=n:=by omega
  subst e;by_cases e2:i=j
  ·subst e2;exact O.rfl' _
  ·exact O.trans (h i (j - 1) Z1 Z1) c
theorem Down.more(h:Down f p n)(h1:1<=n)(c:f (at' p (n - 1)) (at' p n)=false):Down f p (n+1):=λi j hij hj=>by
 by_cases e:j<n
 ·exact h i j hij e
 ·have e:j=n:=by omega
  subst e;by_cases e2:i=j
  ·subst e2;exact O.rfl' _
  ·exact O.trans c (h i (j - 1) Z1 Z1)
theorem hC_{p:Array Nat}(g:Good N p)(hN:0<N):∀(m n:Nat),1<=n->Up f p n->Ok f N (kas_asc p m n) λr=>n<=r/\r<=n+m/\Up f p r/\(r<n+m->f (at' p r) (at' p (r - 1))=true)
 |0,n,_,h=>⟨ak' _,ak' _,h,λq=>absurd q Z1⟩
 |m+1,n,h1,h=>by
  refine⟨g.lt hN _,g.lt hN _,?_⟩;dsimp only;by_cases c:f (at' p n) (at' p (n - 1))=true
  ·rw[b_0 c];exact⟨ak' _,by omega,h,λ_=>c⟩
  ·rw[a_8 c];refine (hC_ g hN m (n+1) Z1 (h.more O h1 (by simpa using c))).imp λr ⟨a,b,u,z⟩=>⟨by omega,by omega,u,λq=>z Z1⟩
theorem Like.rev(h:Like f p lo k)(hk:k<=p.size)(i:Nat):f (at' (kas_rev p lo k) i) (at' p i)=false/\f (at' p i) (at' (kas_rev p lo k) i)=false:=by
 rw[dK_ hk];split
 ·rename_i c
  obtain⟨a1,a2⟩:=h i c.1 c.2;obtain⟨b1,b2⟩:=h (lo+k - 1 - i) Z1 Z1;exact⟨O.trans a2 b1,O.trans b2 a1⟩
 ·exact⟨O.rfl' _,O.rfl' _⟩
theorem Down.rev(h:Down f p n)(l:Like f p lo k)(hk:k<=p.size):Down f (kas_rev p lo k) n:=λi j hij hj=>by
 obtain⟨a1,_⟩:=l.rev O hk i;obtain⟨_,b2⟩:=l.rev O hk j;exact O.trans (O.trans b2 (h i j hij hj)) a1
theorem eu_(hN:0<N):∀(m:Nat) (p:Array Nat) (n q:Nat),Good N p->1<=n->q+1<=n->n+m<=N->Down f p n->Like f p (n - (q+1)) n->
  Ok f N (kas_desc m p n q) λr=>Good N r.1/\n<=r.2.1/\r.2.1<=n+m/\Down f r.1 r.2.1/\r.2.2+1<=r.2.1/\Like f r.1 (r.2.1 - (r.2.2+1)) r.2.1
 |0,p,n,q,g,h1,hq,hn,d,l=>⟨g,ak' _,ak' _,d,hq,l⟩
 |m+1,p,n,q,g,h1,hq,hn,d,l=>by
  refine⟨g.lt hN _,g.lt hN _,?_⟩;dsimp only;by_cases c:f (at' p n) (at' p (n - 1))=true
  ·rw[b_0 c];have d2:Down f p (n+1):=d.more O h1 (O.tot c)
   have one:∀p':Array Nat,Like f p' (n+1 - (0+1)) (n+1):=λp' i h2 h3=>by
    have e:i=n+1 - 1:=by omega
    subst e;exact⟨O.rfl' _,O.rfl' _⟩
   by_cases hq0:q > 0
   ·rw[b_0 hq0];have hk:n<=p.size:=by rw[g.size];omega
    exact (eu_ hN m _ (n+1) 0 (g.rev _ _) Z1 Z1 Z1 (d2.rev O l hk) (one _)).imp λr ⟨a,b,b2,z⟩=>⟨a,by omega,by omega,z⟩
   ·rw[a_8 hq0];exact (eu_ hN m _ (n+1) 0 g Z1 Z1 Z1 d2 (one _)).imp λr ⟨a,b,b2,z⟩=>⟨a,by omega,by omega,z⟩
  ·rw[a_8 c];refine⟨g.lt hN _,g.lt hN _,?_⟩;dsimp only;have c:f (at' p n) (at' p (n - 1))=false:=by simpa using c
   by_cases e:f (at' p (n - 1)) (at' p n)=true
   ·rw[b_0 e];exact⟨g,ak' _,by show n<=n+(m+1);omega,d,hq,l⟩
   ·rw[a_8 e];have e:f (at' p (n - 1)) (at' p n)=false:=by simpa using e
    refine (eu_ hN m p (n+1) (q+1) g Z1 Z1 Z1 (d.more O h1 e) λi h2 h3=>?_).imp λr ⟨a,b,b2,z⟩=>⟨a,by omega,by omega,z⟩;show f (at' p i) (at' p n)=false/\f (at' p n) (at' p i)=false;by_cases ei:i=n
    ·subst ei;exact⟨O.rfl' _,O.rfl' _⟩
    ·obtain⟨a1,a2⟩:=l i Z1 Z1;exact⟨O.trans e a1,O.trans a2 c⟩
def el'(f:Nat->Nat->Bool)(N nrem:Nat)(r:Nat × Array Nat):Prop:=Good N r.2/\1<=r.1/\r.1<=nrem/\Up f r.2 r.1
theorem i5_(hN:0<N)(g:Good N p)(h1:1<=n)(hn:n<=nrem)(hr:nrem<=N)(d:Down f p n):Ok f N (kas_tail3 n nrem p) (el' f N nrem):=by
 unfold kas_tail3
 have u:Up f (kas_rev p 0 n) n:=λi j hij hj=>by
  rw[dK_ (by rw[g.size];omega),dK_ (by rw[g.size];omega),b_0 Z1,b_0 Z1];exact d _ _ Z1 Z1
 exact (hC_ O (g.rev _ _) hN (nrem - n) n h1 u).bind λm ⟨a,b,u,_⟩=>⟨g.rev _ _,by show 1<=m;omega,by show m<=nrem;omega,u⟩
theorem dQ_(hN:0<N)(g:Good N p)(hn:n+1<=nrem)(hr:nrem<=N)(d:Down f p (n+1)):Ok f N (kas_descPart n nrem p) (el' f N nrem):=by
 unfold kas_descPart;refine (eu_ O hN (nrem - (n+1)) p (n+1) 0 g Z1 Z1 Z1 d λi h2 h3=>?_).bind λr ⟨g',a,b,d',hq,l⟩=>?_
 ·have e:i=n+1 - 1:=by omega
  subst e;exact⟨O.rfl' _,O.rfl' _⟩
 ·split
  ·exact i5_ O hN (g'.rev _ _) Z1 Z1 hr (d'.rev O l (by rw[g'.size];omega))
  ·exact i5_ O hN g' Z1 Z1 hr d'
theorem je_(hN:0<N)(g:Good N p)(h1:1<=nrem)(hr:nrem<=N):Ok f N (kas_count nrem p) (el' f N nrem):=by
 unfold kas_count;refine (hC_ O g hN (nrem - 1) 1 (ak' _) λi j hij hj=>?_).bind λn ⟨a,b,u,st⟩=>?_
 ·have e:i=j:=by omega
  subst e;exact O.rfl' _
 ·by_cases e:(n == nrem)=true
  ·rw[b_0 e];exact⟨g,a,by show n<=nrem;omega,u⟩
  ·rw[a_8 e];have e:n≠nrem:=by simpa using e
   have c:=st Z1;by_cases h2:n > 1
   ·rw[b_0 h2];refine⟨g.lt hN _,g.lt hN _,?_⟩;dsimp only;by_cases c2:f (at' p 0) (at' p (n - 1))=true
    ·rw[b_0 c2];exact⟨g,a,by show n<=nrem;omega,u⟩
    ·rw[a_8 c2];have c2:f (at' p 0) (at' p (n - 1))=false:=by simpa using c2
     refine dQ_ O hN (g.rev _ _) Z1 hr λi j hij hj=>?_;by_cases ej:j<n
     ·rw[dK_ (by rw[g.size];omega),dK_ (by rw[g.size];omega),b_0 Z1,b_0 Z1];exact u _ _ Z1 Z1
     ·have ej:j=n:=by omega
      subst ej;by_cases ei:i=j
      ·subst ei;exact O.rfl' _
      ·rw[dK_ (by rw[g.size];omega),dK_ (by rw[g.size];omega),b_0 Z1,a_8 Z1];exact O.trans (O.trans (O.tot c) c2) (u 0 _ Z1 Z1)
   ·rw[a_8 h2];have e1:n=1:=by omega
    subst e1;refine dQ_ O hN g Z1 hr λi j hij hj=>?_;by_cases ei:i=j
    ·subst ei;exact O.rfl' _
    ·have q1:i=0:=by omega
     have q2:j=1:=by omega
     subst q1;subst q2;exact O.tot c
theorem eP_(hN:0<N){p:Array Nat}{k:Nat}(g:Good N p)(u:Up f p k):∀(m l r:Nat),r - l<=m->l<=r->r<=k->(∀i,i<l->f (at' p k) (at' p i)=false)->(∀i,r<=i->i<k->f (at' p k) (at' p i)=true)->
  Ok f N (kas_place p k m l r) λx=>x<=k/\(∀i,i<x->f (at' p k) (at' p i)=false)/\∀i,x<=i->i<k->f (at' p k) (at' p i)=true
 |0,l,r,hm,hl,hr,h1,h2=>by
  have e:l=r:=by omega
  subst e;exact⟨hr,h1,h2⟩
 |m+1,l,r,hm,hl,hr,h1,h2=>by
  unfold kas_place;by_cases e:l ≥ r
  ·rw[b_0 e];have e:l=r:=by omega
   subst e;exact⟨hr,h1,h2⟩
  ·rw[a_8 e];refine⟨g.lt hN _,g.lt hN _,?_⟩;dsimp only;by_cases c:f (at' p k) (at' p ((l+r) / 2))=true
   ·rw[b_0 c];refine eP_ hN g u m l _ Z1 Z1 Z1 h1 λi h3 h4=>?_;by_cases ei:f (at' p k) (at' p i)=true
    ·exact ei
    ·have ei:f (at' p k) (at' p i)=false:=by simpa using ei
     have:=O.trans (u _ i h3 h4) ei;rw[c] at this;cases this
   ·rw[a_8 c];have c:f (at' p k) (at' p ((l+r) / 2))=false:=by simpa using c
    exact eP_ hN g u m _ r Z1 Z1 hr (λi h3=>O.trans (u i _ Z1 Z1) c) h2
theorem k9_(hN:0<N):∀(m:Nat) (p:Array Nat) (k:Nat),Good N p->k+m=N->Up f p k->Ok f N (kas_bin m p k) λr=>Good N r/\Up f r N
 |0,p,k,g,e,u=>by
  have e:k=N:=by omega
  subst e;exact⟨g,u⟩
 |m+1,p,k,g,e,u=>by
  unfold kas_bin;refine (eP_ O hN g u k 0 k Z1 Z1 (ak' _) (λi h=>absurd h Z1) λi h1 h2=>absurd h2 Z1).bind λl ⟨hl,h1,h2⟩=>?_;have hk:k<p.size:=by rw[g.size];omega
  refine k9_ hN m _ (k+1) (g.bub _ _) Z1 λi j hij hj=>?_;rw[k8_ hk hl,k8_ hk hl];by_cases ej:j=l
  ·rw[b_0 ej];by_cases ei:i=l
   ·rw[b_0 ei];exact O.rfl' _
   ·rw[a_8 ei,a_8 Z1];exact h1 i Z1
  ·rw[a_8 ej];by_cases ej2:l<j/\j<=k
   ·rw[b_0 ej2];by_cases ei:i=l
    ·rw[b_0 ei];exact O.tot (h2 (j - 1) Z1 Z1)
    ·rw[a_8 ei];by_cases ei2:l<i/\i<=k
     ·rw[b_0 ei2];exact u _ _ Z1 Z1
     ·rw[a_8 ei2];exact u _ _ Z1 Z1
   ·rw[a_8 ej2];rw[a_8 (show ¬i=l by omega),a_8 (show ¬(l<i/\i<=k) by omega)];exact u _ _ Z1 Z1
theorem lo_(hN:0<N):Ok f N (kas_sort N) λp=>Good N p/\Up f p N:=by
 unfold kas_sort;refine (je_ O hN (p:=(List.range N).toArray) (Array.Perm.refl _) hN (ak' _)).bind λr ⟨g,h1,h2,u⟩=>?_;split
 ·rename_i c
  rw[show max r.1 1=r.1 by omega];exact k9_ O hN _ _ _ g Z1 u
 ·rename_i c
  have e:r.1=N:=by omega
  exact⟨g,e▸u⟩
end
def Asks(prog:Ae)(w:Ag)(A:Ah)(f:Nat->Nat->Bool)(vs:List Aa)(s:Ac):Prop:=
 ∃κ,(∀Q:SortKind->Ac->Prop,Q κ s->wpAny (model prog w) A (keyKind' vs.toArray) Q (λ_ _=>False) s)/\∀i j C,i<vs.length->j<vs.length->C (f i j) s->kas_ask prog w A κ vs i j C s
def di'(a:Addr)(h h':Heap):Prop:=∀b o,b≠a->h.get? b=some o->h'.get? b=some o
def cX'(p:Array Nat)(vs:List Aa):List Aa:=p.toList.map λi=>vs.getD i Value.none
theorem gf_(vs:List Aa):cX' (List.range vs.length).toArray vs=vs:=by
 unfold cX';apply List.ext_getElem?;intro i;simp only[aw'];by_cases h:i<vs.length
 ·simp[h]
 ·simp[Nat.le_of_not_lt h]
variable{f:Nat->Nat->Bool}{prog:Ae}{w:Ag}{A:Ah}{E:Aa->Ac->Prop}{s:Ac}
theorem jY_{a:Addr}{vs:List Aa}{P:Fin->Ac->Prop}(O:Ord f)(ho:s.heap.get? a=some (seqObj "list" vs.toArray n))(h64:vs.length<64)(hask:2<=vs.length->∀h',di' a s.heap h'->Asks prog w A f vs { s with heap:=h' })(h:∀(p:Array Nat) (h':Heap) (e:Nat),Good vs.length p->Up f p vs.length->h'.get? a=some (seqObj "list" (cX' p vs).toArray e)->di' a s.heap h'->P (.done (.ret .none)) { s with heap:=h' }) :
  wpAny (model prog w) A (Builtin.«list.sort» ⟨[.ref a],[]⟩) P E s:=by
 have haz:a<s.heap.objs.size:=a_6 ho;obtain⟨e1,ho1⟩:∃e1,(s.heap.update a (Obj.mapSeq λ_=>(#[]:Array Aa))).get? a=some (seqObj "list" #[] e1):=⟨_,get?_update_seq ho (λ_=>#[])⟩
 have l64:vs.length<=sizeLine:=by
  have:=b__;omega
 rw[list_sort_plain];refine a__ (listItems_at ho rfl (a__ (listUpdate_at ho rfl (a__ (seqEpoch_at ho1 rfl (a__ (wpAny_newTuple (a__ (wpAny_newList (c_4 ?_) (aJ' _))) l64)))) (by simpa using l64) (aJ' _))))
 have keep:∀g:Array Aa->Array Aa,di' a s.heap ((((s.heap.update a (Obj.mapSeq λ_=>(#[]:Array Aa))).push (seqObj "tuple" vs.toArray 0)).push (seqObj "list" #[] 0)).update a (Obj.mapSeq g)):=λg b o hb e=>by
  refine (b_5 _ _ (Ne.symm hb)).trans (a_0 _ (a_0 _ ?_));exact (b_5 _ _ (Ne.symm hb)).trans e
 have keep0:di' a s.heap (((s.heap.update a (Obj.mapSeq λ_=>(#[]:Array Aa))).push (seqObj "tuple" vs.toArray 0)).push (seqObj "list" #[] 0)):=λb o hb e=>
  a_0 _ (a_0 _ ((b_5 _ _ (Ne.symm hb)).trans e))
 have hoB:(((s.heap.update a (Obj.mapSeq λ_=>(#[]:Array Aa))).push (seqObj "tuple" vs.toArray 0)).push (seqObj "list" #[] 0)).get? a=some (seqObj "list" #[] e1):=a_0 _ (a_0 _ ho1);show wpAny (model prog w) A _ P E { s with heap:=((s.heap.update a (Obj.mapSeq λ_=>(#[]:Array Aa))).push (seqObj "tuple" vs.toArray 0)).push (seqObj "list" #[] 0) };dsimp only;by_cases h2:vs.toArray.size<2
 ·rw[b_0 h2,b_0 h2];refine a__ (a_2 ?_);rw[StateT.run_pure]
  have eout:((vs.toArray.zip vs.toArray).map λx:Keyed=>x.2)=(cX' (List.range vs.length).toArray vs).toArray:=by
   rw[gf_];apply Array.ext';simp[List.map_snd_zip]
  refine a__ (a_2 (a__ (seqEpoch_at hoB rfl (a__ (listUpdate_at hoB rfl ?_ (aJ' _) ?_)))))
  ·simp only[bne_self_eq_false,Bool.false_eq_true,if_false];refine a_2 (h (List.range vs.length).toArray _ _ (Array.Perm.refl _) (λi j hij hj=>?_) ((get?_update_seq hoB _).trans (c_1 (λz=>some (seqObj "list" z _)) eout)) (keep _))
   ·have e:i=j:=by
     simp only[ap'] at h2;omega
    subst e;exact O.rfl' _
  ·have e:((vs.toArray.zip vs.toArray).map λx:Keyed=>x.2).size<=sizeLine+1:=by
    simp only[Array.size_map,Array.size_zip,ap'];omega
   exact e
 ·rw[a_8 h2,a_8 h2]
  have h2':2<=vs.length:=by
   simp only[ap'] at h2;omega
  obtain⟨κ,hk,hc⟩:=hask h2' _ keep0;refine a__ (c_7 (hk (λk s'=>k=κ/\s'=_) ⟨rfl,rfl⟩) (λk s' hks=>?_) λ_ _ x=>x.elim);obtain⟨rfl,rfl⟩:=hks
  refine a__ (c_7 (kat_run (ks:=vs) (vs:=vs) (G:=λp s'=>s'={ s with heap:=((s.heap.update a (Obj.mapSeq λ_=>(#[]:Array Aa))).push (seqObj "tuple" vs.toArray 0)).push (seqObj "list" #[] 0) }/\Good vs.length p/\Up f p vs.length)
   (Q:=λst' s'=>∃p:Array Nat,arrOf st'=p.map (kas_item (vs.toArray.zip vs.toArray))/\failedOf st'=none/\s'={ s with heap:=((s.heap.update a (Obj.mapSeq λ_=>(#[]:Array Aa))).push (seqObj "tuple" vs.toArray 0)).push (seqObj "list" #[] 0) }/\Good vs.length p/\Up f p vs.length)
   rfl h2' h64 (λp st' s' _ q1 q2 q3=>⟨p,q1,q2,q3⟩) (Ok.wp hc (λp q=>⟨rfl,q⟩) (lo_ O Z1))) ?_ λ_ _ x=>x)
  rintro⟨⟨⟩,st'⟩ s' ⟨p,har,hf,hs',g,u⟩;have hs':s'={ s with heap:=((s.heap.update a (Obj.mapSeq λ_=>(#[]:Array Aa))).push (seqObj "tuple" vs.toArray 0)).push (seqObj "list" #[] 0) }:=hs';subst hs'
  have eout:((arrOf st').map λx:Keyed=>x.2)=(cX' p vs).toArray:=by
   rw[har];apply Array.ext';unfold cX';simp only[Array.map_map,Array.toList_map,List.toList_toArray];refine ay' λi _=>?_;show (kas_item (vs.toArray.zip vs.toArray) i).2=_;unfold kas_item;by_cases hi:i<vs.length
   ·simp[Array.getD,hi]
   ·simp[Array.getD,hi,Nat.le_of_not_lt hi]
  have esz:((arrOf st').map λx:Keyed=>x.2).size=vs.length:=by
   rw[eout];unfold cX';simp only[ap',aa',aP'];exact g.size
  refine a__ (seqEpoch_at hoB rfl (a__ (listUpdate_at hoB rfl ?_ (aJ' _) (by rw[esz];omega))));rw[hf];simp only[bne_self_eq_false,Bool.false_eq_true,if_false];exact a_2 (h p _ _ g u ((get?_update_seq hoB _).trans (c_1 (λz=>some (seqObj "list" z _)) eout)) (keep _))
theorem ej_{x:Aa}{Q:Aa->Ac->Prop}(O:Ord f)(hcol:wpAny (model prog w) A.in1 (collect x) (λvs s1=>vs.length<64/\(2<=vs.length->∀h':Heap,(∀b o,s1.heap.get? b=some o->h'.get? b=some o)->Asks prog w A.in1.in1 f vs { s1 with heap:=h' }) /\
   ∀(p:Array Nat) (h':Heap) (e:Nat),Good vs.length p->Up f p vs.length->h'.get? s1.heap.objs.size=some (seqObj "list" (cX' p vs).toArray e)->(∀b o,s1.heap.get? b=some o->h'.get? b=some o)->Q (.ref s1.heap.objs.size) { s1 with heap:=h' }) E s) :
  wpAny (model prog w) A (call (.builtin "sorted") [x]) Q E s:=by
 refine Calls.call_function_entry kind_sorted plain_sorted entry_sorted (args_sorted1 _) ?_;unfold Builtin.«sorted»;refine a__ (m:=checkCount "sorted" 1 1 _) (a_2 (a__ (c_7 hcol (λvs s1 q=>?_) λ_ _ z=>z)));obtain⟨h64,hask,hQ⟩:=q;refine a__ (wpAny_newList ?_ (by have:=b__;omega));have hn:(s1.heap.push (seqObj "list" vs.toArray 0)).get? s1.heap.objs.size=some (seqObj "list" vs.toArray 0):=a_7 _ rfl
 have old:∀h',di' s1.heap.objs.size (s1.heap.push (seqObj "list" vs.toArray 0)) h'->∀b o,s1.heap.get? b=some o->h'.get? b=some o:=λh' k b o e=>
  k b o (av' (a_6 e)) (a_0 _ e)
 refine a__ (c_4 (wpAny_call_entry slot_list_sort ⟨_,hn,rfl⟩ entry_list_sort (jY_ O hn h64 (λh2 h' k=>hask h2 h' (old h' k)) λp h' e g u q k=>⟨_,rfl,?_⟩) (args_list_sort _)));exact a_2 ⟨_,rfl,hQ p h' e g u q (old h' k)⟩
end EvS
namespace L2
open PySem PySem.Spec PyProof.Rows PySem.W EvS
def kLt:Key->Key->Bool
 |.inl i,.inl j=>decide (i<j)
 |.inl _,.inr _=>true
 |.inr _,.inl _=>false
 |.inr x,.inr y=>decide (x.cps.toList<y.cps.toList)
def lexK:List Key->List Key->Bool
 |[],[]=>false
 |[],_::_=>true
 |_::_,[]=>false
 |a::r,b::q=>if a=b then lexK r q else kLt a b
theorem hz_:∀a:Key,kLt a a=false
 |.inl i=>by simp[kLt]
 |.inr x=>by simp[kLt,List.lt_irrefl]
theorem fj_:∀{a b:Key},kLt a b=true->kLt b a=false
 |.inl i,.inl j,h=>by
  simp only[kLt,b_9,decide_eq_false_iff_not] at *;omega
 |.inl _,.inr _,_=>rfl
 |.inr _,.inl _,h=>by cases h
 |.inr x,.inr y,h=>by
  simp only[kLt,b_9,decide_eq_false_iff_not] at *;exact λq=>List.lt_irrefl _ (List.lt_trans h q)
theorem iJ_:∀{a b:Key},kLt a b=false->kLt b a=false->a=b
 |.inl i,.inl j,h,h2=>by
  simp only[kLt,decide_eq_false_iff_not] at *;rw[show i=j by omega]
 |.inl _,.inr _,h,_=>by cases h
 |.inr _,.inl _,_,h=>by cases h
 |.inr x,.inr y,h,h2=>by
  simp only[kLt,decide_eq_false_iff_not] at *;rw[ext_toList (List.le_antisymm (List.not_lt.mp h2) (List.not_lt.mp h))]
theorem io_:∀{a b c:Key},kLt a b=true->kLt b c=true->kLt a c=true
 |.inl i,.inl j,.inl k,h,h2=>by
  simp only[kLt,b_9] at *;omega
 |.inl _,.inl _,.inr _,_,_=>rfl
 |.inl _,.inr _,.inr _,_,_=>rfl
 |.inl _,.inr _,.inl _,_,h=>by cases h
 |.inr _,.inl _,_,h,_=>by cases h
 |.inr _,.inr _,.inl _,_,h=>by cases h
 |.inr x,.inr y,.inr z,h,h2=>by
  simp only[kLt,b_9] at *;exact List.lt_trans h h2
theorem dn_:∀a:List Key,lexK a a=false
 |[]=>rfl
 |a::r=>by
  unfold lexK;rw[b_0 rfl];exact dn_ r
theorem cw_:∀{a b:List Key},lexK a b=true->lexK b a=false
 |[],[],h=>by cases h
 |[],_::_,_=>rfl
 |_::_,[],h=>by cases h
 |a::r,b::q,h=>by
  unfold lexK at h ⊢;by_cases e:a=b
  ·rw[b_0 e] at h;rw[b_0 e.symm];exact cw_ h
  ·rw[a_8 e] at h;rw[a_8 (Ne.symm e)];exact fj_ h
theorem dq_:∀{a b:List Key},lexK a b=false->lexK b a=false->a=b
 |[],[],_,_=>rfl
 |[],_::_,h,_=>by cases h
 |_::_,[],_,h=>by cases h
 |a::r,b::q,h,h2=>by
  unfold lexK at h h2;by_cases e:a=b
  ·rw[b_0 e] at h;rw[b_0 e.symm] at h2;rw[e,dq_ h h2]
  ·rw[a_8 e] at h;rw[a_8 (Ne.symm e)] at h2;exact absurd (iJ_ h h2) e
theorem df_:∀{a b c:List Key},lexK a b=true->lexK b c=true->lexK a c=true
 |[],_,[],h,h2=>by
  rename_i b
  cases b with
  |nil=>cases h
  |cons _ _=>cases h2
 |[],_,_::_,_,_=>rfl
 |_::_,[],_,h,_=>by cases h
 |_::_,_::_,[],_,h=>by cases h
 |a::r,b::q,c::t,h,h2=>by
  unfold lexK at h h2 ⊢;by_cases e:a=b
  ·subst e;rw[b_0 rfl] at h;by_cases e2:a=c
   ·rw[b_0 e2] at h2 ⊢;exact df_ h h2
   ·rw[a_8 e2] at h2 ⊢;exact h2
  ·rw[a_8 e] at h;by_cases e2:b=c
   ·subst e2;rw[a_8 e];exact h
   ·rw[a_8 e2] at h2;have h3:=io_ h h2;rw[a_8 (λq=>by rw[q,hz_] at h3;cases h3)];exact h3
theorem eg_{a b c:List Key}(h:lexK b a=false)(h2:lexK c b=false):lexK c a=false:=by
 cases e:lexK c a with
 |false=>rfl
 |true=>
  by_cases e1:lexK a b=true
  ·have:=df_ e e1;rw[h2] at this;cases this
  ·have e1:lexK a b=false:=by simpa using e1
   have:=dq_ e1 h;subst this;rw[h2] at e;cases e
def Asc(ks:List (List Key)):Prop:=ks.Pairwise λa b=>lexK b a=false
theorem ck_:∀{a b:List (List Key)},a.Perm b->Asc a->Asc b->a=b
 |[],b,p,_,_=>by
  have:=p.length_eq;cases b with
  |nil=>rfl
  |cons _ _=>cases this
 |x::r,[],p,_,_=>by
  have:=p.length_eq;cases this
 |x::r,y::q,p,h1,h2=>by
  obtain⟨a1,a2⟩:=a4'.mp h1;obtain⟨b1,b2⟩:=a4'.mp h2
  have e:x=y:=by
   rcases ah'.mp (p.mem_iff.mp aq') with m|m
   ·exact m
   ·rcases ah'.mp (p.mem_iff.mpr aq') with m2|m2
    ·exact m2.symm
    ·exact dq_ (b1 _ m) (a1 _ m2)
  subst e;rw[ck_ ((List.perm_cons _).mp p) a2 b2]
def sortKs(ks:List (List Key)):List (List Key):=ks.mergeSort λa b=>!lexK b a
theorem aC_(ks:List (List Key)):(sortKs ks).Perm ks:=List.mergeSort_perm _ _
theorem bB_(ks:List (List Key)):Asc (sortKs ks):=by
 have:=List.pairwise_mergeSort (le:=λa b=>!lexK b a) (λa b c h1 h2=>by
  simp only[Bool.not_eq_true'] at *;exact eg_ h1 h2) (λa b=>by
  simp only[Bool.or_eq_true,Bool.not_eq_true'];by_cases e:lexK b a=true
  ·exact .inr (cw_ e)
  ·exact .inl (by simpa using e)) ks
 exact this.imp λh=>by simpa using h
variable{ks:List (List Key)}
theorem eZ_{ks':List (List Key)}(p:ks'.Perm ks)(h:Asc ks'):ks'=sortKs ks:=ck_ (p.trans (aC_ ks).symm) h (bB_ ks)
variable{p:Array Nat}
theorem cj_{α:Type}{n:Nat}(g:Good n p)(F:Nat->α):(p.toList.map F).Perm ((List.range n).map F):=by
 have e:p.toList.Perm (List.range n):=by
  have:=Array.perm_iff_toList_perm.mp g;simpa using this
 exact e.map F
theorem i7_{f:Nat->Nat->Bool}(hf:∀i j,i<ks.length->j<ks.length->f i j=lexK (ks.getD i []) (ks.getD j []))(g:Good ks.length p)(u:Up f p ks.length):Asc (p.toList.map λi=>ks.getD i []):=by
 unfold Asc;rw[aK',List.pairwise_iff_getElem];intro i j hi hj hij;have hs:=g.size;rw[aP'] at hi hj;have hj':j<ks.length:=by omega
 have q:=u i j (Nat.le_of_lt hij) hj';have hN:0<ks.length:=by omega
 rw[hf _ _ (g.lt hN _) (g.lt hN _)] at q;have e1:at' p i=p.toList[i]:=by simp[at',Array.getD,hi]
 have e2:at' p j=p.toList[j]:=by simp[at',Array.getD,hj]
 rw[e1,e2] at q;exact q
theorem gF_(ks:List (List Key)):Ord λi j=>lexK (ks.getD i []) (ks.getD j []):=⟨λ_=>dn_ _,λh h2=>eg_ h h2,λh=>cw_ h⟩
theorem bN_{α:Type}(d:α)(l:List α):((List.range l.length).map λi=>l.getD i d)=l:=by
 apply List.ext_getElem?;intro i;simp only[aw'];by_cases h:i<l.length
 ·simp[h]
 ·simp[Nat.le_of_not_lt h]
variable{ys:List V}{vs:List Aa}
theorem gD_(r:Vals ys vs)(g:Good vs.length p):Vals (p.toList.map λi=>ys.getD i .non) (cX' p vs):=by
 unfold cX'
 have key:∀l:List Nat,(∀i∈l,i<vs.length)->Vals (l.map λi=>ys.getD i .non) (l.map λi=>vs.getD i Value.none):=λl=>by
  induction l with
  |nil=>exact λ_=>.nil
  |cons i l ih=>
   intro h;refine .cons ?_ (ih λj hj=>h j (ai' _ hj));have hi:=h i aq';have hy:i<ys.length:=by rw[r.length];exact hi
   obtain⟨u,hu,ru⟩:=r.get (ae' hy);have e1:ys.getD i .non=ys[i]:=by simp[hy]
   have e2:vs.getD i Value.none=u:=by simp[hu]
   show RelV (ys.getD i .non) (vs.getD i Value.none);rw[e1,e2];exact ru
 refine key p.toList λi hi=>?_;have m:i∈(List.range vs.length).toArray:=g.mem_iff.mp (by simpa using hi);simpa using m
theorem hJ_:∀{ss:List Str} {vs:List Aa},Vals (ss.map V.str) vs->StrsAre vs ss
 |[],_,.nil=>.nil
 |x::r,_,.cons h t=>by
  obtain⟨tk,rfl⟩:=h;exact .cons x tk (hJ_ t)
def bL'(ss:List Str):List Str:=(sortKs (ss.map λx=>[Sum.inr x])).map λk=>match k with
 |[.inr x]=>x
 |_=>⟨#[]⟩
def keyS(x:Str):List Key:=[Sum.inr x]
variable{prog:Ae}{w:Ag}{A:Ah}{s:Ac}
theorem hK_{ss:List Str}(r:StrsAre vs ss)(h2:2<=vs.length):Asks prog w A (λi j=>lexK ((ss.map keyS).getD i []) ((ss.map keyS).getD j [])) vs s:=by
 refine⟨oneType',λQ q=>?_,λi j C hi hj hC=>?_⟩
 ·match vs,h2 with
  |v₁::v₂::t,_=>
   rw[keyKind_strs r];exact a_2 q
 ·unfold kas_ask;rw[keyLt'_oneType]
  have look:∀k,k<vs.length->∃x t,vs.getD k Value.none=.str x t/\(ss.map keyS).getD k []=[Sum.inr x]:=λk hk=>by
   have e:=r.strs;obtain⟨x,t,q⟩:=r.all vs[k] (aZ' hk);refine⟨x,t,by simp[hk,q],?_⟩
   have hk':k<ss.length:=by
    rw[<- e,aa'];exact hk
   have e2:ss[k]=x:=by
    have e3:(vs.map strOf)[k]? = ss[k]?:=by rw[e]
    rw[aw',ae' hk,ae' hk',q] at e3;exact (b_2 e3).symm
   simp[hk',e2,keyS]
  obtain⟨x,t,e1,e2⟩:=look i hi;obtain⟨y,u,e3,e4⟩:=look j hj;rw[e1,e3];dsimp only at hC;rw[e2,e4] at hC;refine oneLt_str ?_;unfold lexK at hC;by_cases e:x=y
  ·subst e;rw[b_0 rfl] at hC;have:decide (x.cps.toList<x.cps.toList)=false:=by simp[List.lt_irrefl]
   rw[this];exact hC
  ·rw[a_8 (λq=>e (d__ q))] at hC;exact hC
def isS:Key->Bool
 |.inl _=>false
 |.inr _=>true
variable{a b:Key}
theorem iI_{E:Aa->Ac->Prop}{c:Bool}{p q:Aa}{Q:Bool->Ac->Prop}(ra:RelV (kV a) p)(rb:RelV (kV b) q)(hk:isS a=isS b)(h:Q (kLt a b) s) :
  wpAny (model prog w) A (oneLt' c p q) Q E s:=by
 cases a with
 |inl i=>
  cases b with
  |inr y=>cases hk
  |inl j=>
   obtain⟨t,rfl⟩:=ra;obtain⟨u,rfl⟩:=rb;cases c with
   |true=>exact oneLt_int h
   |false=>exact kat_one _ _ (lt_int (show PySem.W.BoolBack Q (.bool _) s from h))
 |inr x=>
  cases b with
  |inl j=>cases hk
  |inr y=>
   obtain⟨t,rfl⟩:=ra;obtain⟨u,rfl⟩:=rb;cases c with
   |true=>exact oneLt_str h
   |false=>exact kat_one _ _ (PyProof.Rows.lt_str (show PySem.W.BoolBack Q (.bool _) s from h))
theorem kN_(hk:isS a=isS b):eqV (kV a) (kV b)=decide (a=b):=by
 cases a with
 |inl i=>
  cases b with
  |inr y=>cases hk
  |inl j=>
   show (i == j)=_;by_cases e:i=j
   ·subst e;simp
   ·rw[a_4 (λq=>e (Sum.inl.inj q))];simpa using e
 |inr x=>
  cases b with
  |inl j=>cases hk
  |inr y=>
   show (x == y)=_;by_cases e:x=y
   ·subst e;simp
   ·rw[a_4 (λq=>e (d__ q))];simpa using e
theorem gj_(a:Key):flatV (kV a)=true:=by cases a<;>rfl
theorem dJ_{prog:Ae}{w:Ag}{A:Ah}{s:Ac}{Q:Bool->Ac->Prop}:∀{k1 k2:List Key} {us vs:List Aa} (i:Nat),Vals (k1.map kV) us->Vals (k2.map kV) vs->k1.map isS=k2.map isS->Q (lexK k1 k2) s->KatLex prog w A true false Q (us.zip vs) i s
 |[],[],_,_,i,.nil,.nil,_,h=>h
 |[],_::_,_,_,_,_,_,h,_=>by cases h
 |_::_,[],_,_,_,_,_,h,_=>by cases h
 |a::k1,b::k2,u::us,v::vs,i,.cons ra r1,.cons rb r2,hk,h=>by
  obtain⟨e1,e2⟩:=b_8 hk;refine kat_cons ?_;refine kh_ ra rb (gj_ a) (gj_ b) prog w _ _ ?_;rw[kN_ e1];unfold lexK at h;by_cases e:a=b
  ·rw[b_0 e] at h;rw[a_5 e];exact kat_yes (dJ_ (i+1) r1 r2 e2 h)
  ·rw[a_8 e] at h;rw[a_4 e];exact kat_no (iI_ ra rb e1 h)
def bb'(K:F__)(H:Hp):List V->List (List Key)->Prop:=Paired λy k=>∃a,y=V.ref a/\H a=some (.tup (k.map kV))
def Alike(ks:List (List Key))(sh:List Bool):Prop:=sh≠[]/\∀k∈ks,k.map isS=sh
theorem hW_{X:Cx}{pins:List (Addr × Obj)}{σ:St}{H:Hp}{s':Ac}{sh:List Bool}(I:Inv X pins σ H s)(r:Vals ys vs)(t:bb' X.K H ys ks)(al:Alike ks sh)(h2:2<=vs.length)(kp:∀b o,s.heap.get? b=some o->s'.heap.get? b=some o):Asks X.prog X.w A (λi j=>lexK (ks.getD i []) (ks.getD j [])) vs s':=by
 have look:∀k,k<vs.length->∃a its,vs.getD k Value.none=.ref a/\Vals ((ks.getD k []).map kV) its/\IsTup s'.heap a its.toArray/\ks.getD k []∈ks:=λk hk=>by
  have hy:k<ys.length:=by rw[r.length];exact hk
  have hk2:k<ks.length:=by rw[<- a_1 t];exact hy
  obtain⟨u,hu,ru⟩:=r.get (ae' hy)
  have gen:∀{ys:List V} {ks:List (List Key)} (k:Nat) (hy:k<ys.length) (hk2:k<ks.length),bb' X.K H ys ks->∃a,ys[k]=V.ref a/\H a=some (.tup (ks[k].map kV)):=λ{ys ks} k hy hk2 t=>by
   induction t generalizing k with
   |nil=>exact absurd hy Z2
   |cons h t ih=>
    cases k with
    |zero=>exact h
    |succ k=>exact ih k (by simpa using hy) (by simpa using hk2)
  obtain⟨a,e,sq⟩:=gen k hy hk2 t;obtain⟨its,ri,ti,_⟩:=I.tuple (SqT.of sq);rw[e] at ru;cases ru;have e2:ks.getD k []=ks[k]:=by simp[hk2]
  refine⟨a,its,by simp[hu],by rw[e2];exact ri,ti.keeps kp,?_⟩;rw[e2];exact aZ' hk2
 obtain⟨hne,hal⟩:=al
 obtain⟨c,sh',rfl⟩:∃c sh',sh=c::sh':=by
  cases sh with
  |nil=>exact absurd rfl hne
  |cons c sh'=>exact⟨c,sh',rfl⟩
 refine⟨tuples' true,λQ q=>?_,λi j C hi hj hC=>?_⟩
 ·have firsts:∀l:List Aa,(∀v∈l,∃(a:Addr) (its:List Aa) (k:List Key),v=.ref a/\Vals (k.map kV) its/\IsTup s'.heap a its.toArray/\k.map isS=c::sh')->∃fs,KatTups s'.heap l fs/\fs.length=l.length/\∀v∈fs,Looks (model X.prog X.w) s'.heap (typeOf v) (.type (if c then "str" else "int")):=λl=>by
   induction l with
   |nil=>exact λ_=>⟨[],.nil,rfl,λ_ h=>nomatch h⟩
   |cons v l ih=>
    intro h;obtain⟨fs,h1,h2,h3⟩:=ih λv hv=>h v (ai' _ hv);obtain⟨a,its,k,rfl,rv,⟨o,ho,hc,n,hd⟩,hk⟩:=h v aq'
    match k,its,rv,hk with
    |k0::k,u::its,.cons r0 _,hk=>
     refine⟨u::fs,.cons ho hc hd Z2 h1,by simp[h2],λv hv=>?_⟩;rcases ah'.mp hv with e|hv
     ·subst e;have e0:=(b_8 hk).1;cases k0 with
      |inl i=>
       obtain⟨t,rfl⟩:=r0;rw[<- e0];exact .now
      |inr x=>
       obtain⟨t,rfl⟩:=r0;rw[<- e0];exact .now
     ·exact h3 v hv
  obtain⟨fs,h1,h3,h4⟩:=firsts vs λv hv=>by
   obtain⟨k,hk,rfl⟩:=aG' hv;obtain⟨a,its,e,rv,ti,m⟩:=look k hk;refine⟨a,its,_,?_,rv,ti,hal _ m⟩;rw[<- e];simp[hk]
  refine kat_kind h1 Z1 h4 (by cases c<;>decide) ?_
  have e:((Value.type (if c then "str" else "int")) != Value.type "tuple")=true:=by cases c<;>decide
  rw[e];exact q
 ·unfold kas_ask;obtain⟨a,its,e1,r1,⟨o,ho,_,n,hd⟩,m1⟩:=look i hi;obtain⟨b,its2,e2,r2,⟨o2,ho2,_,n2,hd2⟩,m2⟩:=look j hj;rw[e1,e2];refine kat_lt ho hd ho2 hd2 ?_;have l1:=r1.length;have l2:=r2.length;have l3:=c_1 List.length ((hal _ m1).trans (hal _ m2).symm);simp only[aa'] at l1 l2 l3;rw[show decide (its.toArray.size<its2.toArray.size)=false by simp;omega];exact dJ_ 0 r1 r2 ((hal _ m1).trans (hal _ m2).symm) hC
end L2
namespace EvD
open PySem PySem.W PyProof.Rows
def Raw(h:Heap)(d:Addr)(es:Array DictEntry)(ep:Nat):Prop:=∃o,h.get? d=some o/\o.ExactDict/\o.data=.dict es ep
variable{h h':Heap}{d:Addr}{es:Array DictEntry}{ep:Nat}
theorem Raw.stay(x:Raw h d es ep)(k:∀o,h.get? d=some o->h'.get? d=some o):Raw h' d es ep:=let ⟨o,e,r⟩:=x;⟨o,k o e,r⟩
variable{s:Ac}
theorem Raw.ty(x:Raw s.heap d es ep):s.TypeIs (.ref d) "dict":=let ⟨o,e,c,_⟩:=x;⟨o,e,c.1⟩
variable{prog:Ae}{w:Ag}{A:Ah}{E:Aa->Ac->Prop}
theorem jr_{Q:Aa->Ac->Prop}(hd:(d == sysModules)=false)(x:Raw s.heap d es ep)(q:Q (.ref s.heap.objs.size) { s with heap:=s.heap.push { cls:=.type "dict_keyiterator",data:=.fields #[.ref d,.int 0 0,.int es.size 0,.int ep 0] } }) :
  wpAny (model prog w) A (pyIter (.ref d)) Q E s:=by
 obtain⟨o,ho,hc,hdat⟩:=id x;refine wpAny_pyIter_slot x.ty F.slot_dict_iter (wpAny_call_entry F.slot_dict_iter x.ty F.entry_dict_iter ?_ (F.args_dict_iter_1 _));unfold Builtin.«dict.__iter__» Builtin.Dict.dictSlotNone;refine a__ (a__ (wpAny_notOrdered_dict x.ty (show wpAny _ _ (pure (Value.ref d)) _ _ s from a_2 (show wpAny _ _ (Builtin.Dict.showsAll d >>= _) _ _ s from ?_))));unfold Builtin.Dict.showsAll;rw[a_8 (by rw[hd];decide)];refine a__ (a_2 (a__ (wpAny_dictEntries ho hdat (a__ (wpAny_dictEpoch ho hdat (a__ (d_2 (a_2 ⟨_,rfl,"dict_keyiterator",_,⟨_,a_7 _ rfl,rfl⟩,F.slot_dict_keyiterator_next.lookup,?_⟩))))))));exact q
variable{Q:Option Aa->Ac->Prop}{it:Addr}{i:Nat}
theorem jL_(hit:s.heap.IsKeyIter it d i es.size ep)(x:Raw s.heap d es ep)(hi:i<es.size)(q:∀h',h'.IsKeyIter it d (i+1) es.size ep->Heap.SameBut it s.heap h'->Q (some es[i].key) { s with heap:=h' }):wpAny (model prog w) A (pyNext (.ref it)) Q E s:=by
 obtain⟨o,ho,hc,hd⟩:=id hit;obtain⟨od,hod,hcd,hdd⟩:=id x;unfold pyNext;refine a__ (wpAny_attempt (wpAny_callSpecial?_slot (name:=Str.ofString "__next__") hit.typeIs F.slot_dict_keyiterator_next (wpAny_call_entry F.slot_dict_keyiterator_next hit.typeIs F.entry_dict_keyiterator_next ?_ (F.args_dict_keyiterator_next_1 _))));refine a__ (a_2 (a__ (a__ ?_)))
 first|refine a__ (wpAny_typeNameOfWhole_keyiter hit.typeIs (a_2 (a__ (wpAny_fieldsOf ho hd ?_))))|refine a__ (wpAny_typeNameOf_keyiter hit.typeIs (a_2 (a__ (wpAny_fieldsOf ho hd ?_))))
 simp only[show Builtin.Dict_items.ownsTuple "dict_keyiterator"=false by decide,Bool.false_eq_true,if_false];refine (show wpAny _ _ (if (Value.ref d == Value.none)=true then _ else _) _ _ s from ?_);rw[a_8 (λz=>by cases z)];refine a__ (a_2 (a__ (wpAny_dictEntries hod hdd ?_)));rw[a_8 Z2];refine a__ (a_2 (a__ (wpAny_dictEpoch hod hdd ?_)));rw[a_8 Z2];refine a_2 ?_;simp only[show ¬((i:Int)<0) from by omega,if_false,a1',Array.getElem?_eq_getElem hi];refine a__ ?_
 first|refine a__ (wpAny_typeNameOfWhole_keyiter hit.typeIs (a_2 (a__ (wpAny_isOneOf_keyiter hit.typeIs ?_))))|refine a__ (wpAny_typeNameOf_keyiter hit.typeIs (a_2 (a__ (wpAny_isOneOf_keyiter hit.typeIs ?_))))
 refine (show wpAny _ _ (setField (.ref it) 1 (rawInt ((i:Int)+1)) >>= _) _ _ s from a__ (e_0 ho hd Z2 ?_))
 have turned:(s.heap.update it (Obj.mapFields (·.setIfInBounds 1 (rawInt ((i:Int)+1))))).IsKeyIter it d (i+1) es.size ep:=
  ⟨_,c_6 _ ho (c_9 (d_4 hd _)),(Obj.cls_mapFields ..).trans hc,by rw[d_4 hd];simp[rawInt]⟩
 refine a__ (c_4 (a__ (wpAny_isOneOf_keyiter (s:={ s with heap:=s.heap.update it (Obj.mapFields (·.setIfInBounds 1 (rawInt ((i:Int)+1)))) }) turned.typeIs ?_)));exact (show wpAny _ _ (pure es[i].key) _ _ _ from a_2 (a_2 ⟨_,rfl,a_2 (q _ turned (Heap.SameBut.update ..))⟩))
theorem jw_(hh:A.handled=none)(hit:s.heap.IsKeyIter it d es.size es.size ep)(x:Raw s.heap d es ep)(q:∀h',Heap.ExtBut it s.heap h'->Q none { s with heap:=h' }):wpAny (model prog w) A (pyNext (.ref it)) Q E s:=by
 obtain⟨o,ho,hc,hd⟩:=id hit;obtain⟨od,hod,hcd,hdd⟩:=id x;unfold pyNext;refine a__ (wpAny_attempt (wpAny_callSpecial?_slot (name:=Str.ofString "__next__") hit.typeIs F.slot_dict_keyiterator_next (wpAny_call_entry F.slot_dict_keyiterator_next hit.typeIs F.entry_dict_keyiterator_next ?_ (F.args_dict_keyiterator_next_1 _))));refine a__ (a_2 (a__ (a__ ?_)))
 first|refine a__ (wpAny_typeNameOfWhole_keyiter hit.typeIs (a_2 (a__ (wpAny_fieldsOf ho hd ?_))))|refine a__ (wpAny_typeNameOf_keyiter hit.typeIs (a_2 (a__ (wpAny_fieldsOf ho hd ?_))))
 simp only[show Builtin.Dict_items.ownsTuple "dict_keyiterator"=false by decide,Bool.false_eq_true,if_false];refine (show wpAny _ _ (if (Value.ref d == Value.none)=true then _ else _) _ _ s from ?_);rw[a_8 (λz=>by cases z)];refine a__ (a_2 (a__ (wpAny_dictEntries hod hdd ?_)));rw[a_8 Z2];refine a__ (a_2 (a__ (wpAny_dictEpoch hod hdd ?_)));rw[a_8 Z2];refine a_2 ?_;simp only[show ¬((es.size:Int)<0) from by omega,if_false,a1',Array.getElem?_eq_none (ak' _)];refine a__ ?_
 first|refine a__ (wpAny_typeNameOfWhole_keyiter hit.typeIs (a_2 ?g))|refine a__ (wpAny_typeNameOf_keyiter hit.typeIs (a_2 ?g))
 refine (show wpAny _ _ (setField (.ref it) 0 .none >>= _) _ _ s from a__ (e_0 ho hd Z2 (show wpAny _ _ (newExc (.type "StopIteration") [] >>= _) _ _ _ from a__ ?_)));simp only[newExc,newTuple];refine a__ (d_2 (a__ (m:=firstArgMember _ _) (wpAny_of_eq (a:=Value.none) (by first|rfl|(simp only[firstArgMember];rfl)) (d_2 ?_ (by size_fits)))) (by size_fits));simp only[raiseNew];refine a__ (wpAny_handled ?_);rw[show A.in1.handled=none from hh];refine a__ (a_2 (wpAny_throw ?_));exact a__ (wpAny_isInstance (T:="StopIteration") (b:=true) ⟨_,a_7 _ rfl,rfl⟩ isSubtype_stop (a_2 (q _ (((Heap.SameBut.update ..).extBut.push _).push _))))
theorem hF_(hh:A.handled=none)(I d:Addr)(hne:d≠I)(es:Array DictEntry)(ep:Nat) :
  Walks prog w A I [I,d] [I] es.size (λi v=>∃h:i<es.size,v=es[i].key) (λi h=>h.IsKeyIter I d i es.size ep/\Raw h d es ep) where
 sub:=λb hb=>by simp only[aN'] at hb;simp[hb]
 frame:=λ_ _ _ st k=>⟨st.1.at λo e=>k I Z2 o e,st.2.stay λo e=>k d Z2 o e⟩
 item:=λi s Q E hi st hQ=>jL_ st.1 st.2 hi λh' hit' hs'=>hQ _ h' s.toks ⟨hi,rfl⟩ ⟨hit',st.2.stay λo e=>hs'.extBut d o hne e⟩ λb o hb e=>hs'.extBut b o (λh=>hb (by simp[h])) e
 done:=λs Q E st hQ=>jw_ hh st.1 st.2 λh' he'=>hQ h' s.toks λb o hb e=>he' b o (λh=>hb (by simp[h])) e
 self:=λ_ _ _ _ st hQ=>wpAny_pyIter_keyiter st.1 hQ
theorem kC_(lo:(d == sysModules)=false):KdlSrc prog w "dict" d d es.size (λi v=>∃h:i<es.size,v=es[i].key) (λh=>Raw h d es ep) where
 type:=λs x=>x.ty
 there:=λh x=>let ⟨o,e,_⟩:=x;⟨a_6 e,a_6 e⟩
 keep:=λh h' x k=>x.stay λo e=>k d (.inl rfl) o e
 notList:=by decide
 notTuple:=by decide
 hint:=λ_ _ s _ x q=>kdl_hint_dict x.ty q
 iter:=λA s hh x=>⟨_,_,λE Q q=>jr_ lo x q,hF_ hh _ d (let ⟨o,e,_⟩:=x;av' (a_6 e)) es ep,⟨⟨_,a_7 _ rfl,rfl,rfl⟩,x.stay λo e=>a_0 _ e⟩⟩
theorem e1_:typeLookup (.type "list") "keys"=pure none:=by rw[typeLookup_type,builtinLookup_eq_fast];kernel_rfl
variable{a:Addr}{xs:Array Aa}{k:Nat}{tk:Tok}{R:Result->Ac->Prop}
theorem iQ_(hx:s.heap.get? a=some (seqObj "list" xs k))(h:raisesAttr (.ref a) "keys" A R s) :
  codeAny (model prog w) A (.call (.builtin "list.__getattribute__") ⟨[.ref a,.str "keys" tk],[]⟩) R s:=by
 refine codeAny_call_builtin F.slot_list_getattribute.plain am_entry_list_getattribute (F.slot_list_getattribute.check _ _ _ _ _ _ _ _ ⟨_,hx,rfl⟩ (F.args_list_getattribute_2 _ _) ?_);exact meets_getattribute_miss_list a xs k #[] "keys" tk e1_ (by decide) (by size_fits) prog w A R s ⟨hx,h⟩
theorem noKeys(hx:s.heap.get? a=some (seqObj "list" xs k))(hA:A.handled=none)(h:∀h' tk,(∀b o,s.heap.get? b=some o->h'.get? b=some o)->Q none { s with heap:=h',toks:=tk }):wpAny (model prog w) A (getAttr? (.ref a) "keys") Q E s:=by
 obtain⟨hp,g,d,tk,os⟩:=s;have ty:∀tk',(⟨hp,g,d,tk',os⟩:Ac).TypeIs (.ref a) "list":=λ_=>⟨_,hx,rfl⟩;have f1:=sub_AttributeError;have f2:=F.slot_list_getattribute.lookup;have f3:=F.slot_list_getattribute.bind (.ref a);have f4:=am_list_getattr_none;unfold getAttr? getAttrBy? getAttrBy
 repeat (any_goals (first|assumption|exact ty _|wp_step))
 refine iQ_ hx ⟨hA,λh' tk' e hx'=>?_⟩;obtain⟨t',u',he⟩:=hx'.there;show wpAny _ _ (getattributeRaised _ _ _ _ _ _ _) _ _ _;unfold getattributeRaised
 repeat (any_goals (first|assumption|wp_step))
 exact h _ _ hx'.keeps
theorem fC_:entryFor table "dict.update.loop"=some Builtin.«dict.update.loop»:=entryFor_of_tree (by kernel_rfl)
theorem cR_:plainId "dict.update.loop"=true:=by decide +kernel
theorem k7_(d it:Addr)(i:Int)(tk:Tok):Builtin.«dict.update.loop» ⟨[.ref d,.ref it,.int i tk,.none],[]⟩=(do
  let r <- pyNext (.ref it)
  match r with
  |none=>do Builtin.Dict.addKeywords d [];ret .none
  |some item=>do
   holding [item] (do
    let pair <- (Builtin.Dict.pairItems item).tryCatch λe=>do
     if !(<- isInstance e (.type "TypeError")) then throw e
     rule "dict.update.element-no-sequence"
     raiseError "TypeError" s!"cannot convert dictionary update sequence element #{i} to a sequence"
    match pair with
    |[k,v]=>holding [k,v] (dictSet d k v)
    |l=>do
     rule "dict.update.element-length"
     raiseError "ValueError" s!"dictionary update sequence element #{i} has length {l.length}; 2 is required")
   again (.builtin "dict.update.loop" ⟨[.ref d,.ref it,rawInt (i+1),.none],[]⟩)):=by
 unfold Builtin.«dict.update.loop»;refine c_1 (λf=>pyNext (.ref it) >>= f) (funext λr=>?_);cases r<;>rfl
variable{b l:Addr}{ys:Array Aa}
variable{its:List Aa}
section
variable{prog:Ae}{w:Ag}{K:Type}[DecidableEq K]{knd:PySem.KeyKind prog w K}{A:Ah}
def em'(knd:PySem.KeyKind prog w K)(h:Heap):List Aa->List (K × Aa)->Prop:=Paired λv p=>∃a key,v=.ref a/\IsTup h a #[key,p.2]/\knd.is p.1 key=true
def mergeP(kvs:List (K × Aa))(ps:List (K × Aa)):List (K × Aa):=ps.foldl (λacc p=>stored acc p.1 p.2) kvs
theorem hd_(kvs:List (K × Aa))(k:K)(v:Aa):(stored kvs k v).length<=kvs.length+1:=by
 unfold stored;split
 ·simp
 ·simp
theorem dG_(t:IsTup h b ys)(q:h.IsListIter it l i):b≠it:=λz=>by
 obtain⟨o,ho,hc,_⟩:=t;obtain⟨o2,ho2,hc2,_⟩:=q;subst z;rw[ho] at ho2;cases ho2;rw[hc] at hc2;exact absurd hc2 (by decide)
theorem g4_{kvs:List (K × Aa)}(t:IsTup h b ys)(q:h.DictOf knd d kvs):b≠d:=λz=>by
 obtain⟨o,ho,hc,_⟩:=t;obtain⟨o2,es,ep,ho2,hc2,_⟩:=q;subst z;rw[ho] at ho2;cases ho2;have hc3:=hc2.1;rw[hc] at hc3;exact absurd hc3 (by decide)
theorem fp_{kvs:List (K × Aa)}(q:h.DictOf knd d kvs)(k:∀o,h.get? d=some o->h'.get? d=some o):h'.DictOf knd d kvs:=by
 obtain⟨o,es,ep,ho,r⟩:=q;exact⟨o,es,ep,k _ ho,r⟩
theorem k1_{key x:Aa}{k:K}{kvs:List (K × Aa)}(hdi:d≠it)(hi:its.toArray[i]? = some (.ref a))(ht:IsTup s.heap a #[key,x])(hk:knd.is k key=true)(hit:s.heap.IsListIter it l i)(hl:s.heap.IsList l its.toArray)(hd:s.heap.DictOf knd d kvs)(hz:kvs.length<=1000)(hR:∀h2,h2.DictOf knd d (stored kvs k x)->(∀b o,b≠d->b≠it->s.heap.get? b=some o->h2.get? b=some o)->h2.IsListIter it l (i+1)->codeAny (model prog w) A (.builtin "dict.update.loop" ⟨[.ref d,.ref it,rawInt ((i:Int)+1),.none],[]⟩) R { s with heap:=h2,toks:=s.toks+1 }) :
  codeAny (model prog w) A (.builtin "dict.update.loop" ⟨[.ref d,.ref it,.int i tk,.none],[]⟩) R s:=by
 refine codeAny_builtin fC_ ?_;rw[Around.under_plainId cR_ _,k7_];refine a__ (wpAny_pyNext_list_item hit hl hi λh1 hit1 hs1=>?_);obtain⟨ot,hot,hct,nt,hdt⟩:=id ht;have hot1:h1.get? a=some ot:=hs1.extBut _ _ (dG_ ht hit) hot;refine a__ (c_4 (a__ (wpAny_tryCatch ?_)));unfold Builtin.Dict.pairItems;refine a__ (wpAny_typeOf (T:="tuple") ⟨ot,hot1,hct⟩ ?_);rw[b_0 (by decide)];unfold seqItems?;refine a__ (a__ (wpAny_load hot1 ?_));rw[hdt];refine a_2 (a_2 ?_);refine (show wpAny _ _ (holding [key,x] (dictSet d key x)) _ _ _ from c_4 (wpAny_dictSet_pairs hk (fp_ hd λo q=>hs1.extBut _ _ hdi q) (λh2 hd2 hs2=>?_) (by have:=b__;omega)));exact a_2 ⟨plainId_quiet cR_ _,hR h2 hd2 (λb o h3 h4 q=>hs2.extBut _ _ h3 (hs1.extBut _ _ h4 q)) (hit1.extBut hs2.extBut (Ne.symm hdi))⟩
theorem lk_{kvs:List (K × Aa)}(hdi:d≠it)(hh:A.handled=none)(hi:its.toArray[i]? = none)(hit:s.heap.IsListIter it l i)(hl:s.heap.IsList l its.toArray)(hd:s.heap.DictOf knd d kvs)(hR:∀h',h'.DictOf knd d kvs->(∀b o,b≠it->s.heap.get? b=some o->h'.get? b=some o)->R (.ok (.ret .none)) { s with heap:=h' }) :
  codeAny (model prog w) A (.builtin "dict.update.loop" ⟨[.ref d,.ref it,.int i tk,.none],[]⟩) R s:=by
 refine codeAny_builtin fC_ ?_;rw[Around.under_plainId cR_ _,k7_];refine a__ (wpAny_pyNext_list_end hh hit hl hi λh' he=>?_);exact a__ (m:=Builtin.Dict.addKeywords d []) (a_2 (a_2 (hR h' (fp_ hd λo q=>he _ _ hdi q) λb o hb q=>he b o hb q)))
theorem lW_(hil:l≠it)(hdi:d≠it)(hdl:d≠l)(hh:A.handled=none)(rest:List Aa):∀(ps:List (K × Aa)) (i:Nat) (kvs:List (K × Aa)) (s:Ac) (R:Result->Ac->Prop) (tk:Tok),its.drop i=rest->em' knd s.heap rest ps->
  s.heap.IsListIter it l i->s.heap.IsList l its.toArray->s.heap.DictOf knd d kvs->kvs.length+ps.length<=1000->
  (∀h' tk',h'.DictOf knd d (mergeP kvs ps)->(∀b o,b≠d->b≠it->s.heap.get? b=some o->h'.get? b=some o)->R (.ok (.ret .none)) { s with heap:=h',toks:=tk' })->
  codeAny (model prog w) A (.builtin "dict.update.loop" ⟨[.ref d,.ref it,.int i tk,.none],[]⟩) R s:=by
 induction rest with
 |nil=>
  intro ps i kvs s R tk e hp hit hl hd hz hR;cases hp
  have hi:its.toArray[i]? = none:=by
   have:=c_1 List.length e;simp only[aM',List.length_nil] at this;simp;omega
  exact lk_ hdi hh hi hit hl hd λh' hd' kp=>hR h' s.toks hd' λb o _ hb q=>kp b o hb q
 |cons v rest ih=>
  intro ps i kvs s R tk e hp hit hl hd hz hR;cases hp with
  |@cons _ p _ ps h0 hr=>
  obtain⟨a,key,hv,ht,hk⟩:=h0;obtain⟨k,x⟩:=p;subst hv
  have hi:its.toArray[i]? = some (.ref a):=by
   have q:(its.drop i)[0]? = some (.ref a):=by rw[e];rfl
   rw[List.getElem?_drop] at q;simpa using q
  have e':its.drop (i+1)=rest:=by
   rw[<- List.drop_drop,e];rfl
  simp only[aA'] at hz;refine k1_ hdi hi ht hk hit hl hd Z1 λh2 hd2 kp hit2=>?_;have c1:((i:Int)+1)=((i+1:Nat):Int):=by omega
  rw[c1];refine ih ps (i+1) (stored kvs k x) _ R 0 e' (L2.Paired.mapP hr λv p ⟨b,ky,e1,t1,k1⟩=>⟨b,ky,e1,?_,k1⟩) hit2 (hl.at λo q=>kp _ _ (Ne.symm hdl) hil q) hd2 (by have:=hd_ kvs k x;omega) λh' tk' hd' kp'=>hR h' tk' hd' λb o h3 h4 q=>kp' b o h3 h4 (kp b o h3 h4 q);obtain⟨o,ho,r⟩:=id t1;exact⟨o,kp _ _ (g4_ t1 hd) (dG_ t1 hit) ho,r⟩
theorem fr_{n:Nat}{ps:List (K × Aa)}{Q:Aa->Ac->Prop}(hh:A.handled=none)(ho:s.heap.get? l=some (seqObj "list" its.toArray n))(hp:em' knd s.heap its ps)(hz:ps.length<=1000)(h:∀h' tk',h'.DictOf knd s.heap.objs.size (mergeP [] ps)->(∀b o,s.heap.get? b=some o->h'.get? b=some o)->Q (.ref s.heap.objs.size) { s with heap:=h',toks:=tk' }) :
  wpAny (model prog w) A (call (.type "dict") [.ref l]) Q E s:=by
 refine callType_codes (Q₁:=λobj s₁=>obj=.ref s.heap.objs.size/\s₁={ s with heap:=s.heap.push { cls:=.type "dict",data:=.dict #[] } }) F.kt_called_dict (F.kt_typeCall_dict_1 _) F.entry_dict_init (kt_code_dict_new _ ⟨rfl,rfl⟩) ?_;rintro obj s₁ ⟨rfl,rfl⟩;have hnew:(s.heap.push { cls:=.type "dict",data:=.dict #[] }).DictOf knd s.heap.objs.size []:=Heap.DictOf.new s.heap;have hl1:(s.heap.push { cls:=.type "dict",data:=.dict #[] }).get? l=some (seqObj "list" its.toArray n):=a_0 _ ho;refine⟨hnew.typeIs,F.args_dict_init_2 _ _,?_⟩;unfold Builtin.«dict.__init__» Builtin.Dict.selfAndRest;refine a__ (a__ (wpAny_notOrdered_dict hnew.typeIs ?_));refine (show wpAny _ _ (pure (s.heap.objs.size,[Value.ref l])) _ _ _ from a_2 ?_);refine (show wpAny _ _ (Builtin.Dict.updateFrom "dict.__init__" s.heap.objs.size (.ref l) [] .none) _ _ _ from ?_);unfold Builtin.Dict.updateFrom;refine a__ (wpAny_typeOf (T:="list") ⟨_,hl1,rfl⟩ ?_);rw[b_0 (by decide)];refine a__ (noKeys hl1 hh λh2 tk2 k2=>?_);simp only[Option.isNone_none,if_true];have hl2:h2.get? l=some (seqObj "list" its.toArray n):=k2 _ _ hl1;refine a__ (wpAny_rule (a__ (wpAny_pyIter_list ⟨_,hl2,rfl,_,rfl⟩ ?_)));refine a_2 ⟨plainId_quiet cR_ _,?_⟩;have all:∀{b o},s.heap.get? b=some o->(h2.push { cls:=.type "list_iterator",data:=.fields #[.ref l,.int 0 0] }).get? b=some o:=λq=>a_0 _ (k2 _ _ (a_0 _ q))
 have hd2:h2.DictOf knd s.heap.objs.size []:=by
  obtain⟨o,es,ep,ho,r⟩:=hnew;exact⟨o,es,ep,k2 _ _ ho,r⟩
 have sz2:s.heap.objs.size<h2.objs.size:=by
  obtain⟨o,es,ep,ho,r⟩:=hd2;exact a_6 ho
 have lz:l<s.heap.objs.size:=a_6 ho
 refine lW_ (A:=A.in1) (knd:=knd) (its:=its) (it:=h2.objs.size) (l:=l) (d:=s.heap.objs.size) (av' (Nat.lt_trans lz sz2)) (av' sz2) (a8' lz) hh its ps 0 [] _ _ 0 rfl (L2.Paired.mapP hp λv p ⟨b,ky,e1,t1,k1⟩=>⟨b,ky,e1,t1.keeps λb o q=>all q,k1⟩)
  ⟨_,a_7 _ rfl,rfl,rfl⟩ ⟨_,a_0 _ hl2,rfl,_,rfl⟩ (by
   obtain⟨o,es,ep,ho,r⟩:=hd2;exact⟨o,es,ep,a_0 _ ho,r⟩) (by simpa using hz) λh' tk' hd' kp=>⟨rfl,h h' tk' hd' λb o q=>?_⟩
 have bl:b<s.heap.objs.size:=a_6 q;exact kp b o (av' bl) (av' (Nat.lt_trans bl sz2)) (all q)
end
end EvD
namespace L2
open PySem PySem.Spec PyProof.Rows PySem.W EvS EvD
variable{ys:List V}
theorem bb'.same{K:F__}{H H':Hp}{ks:List (List Key)}(t:bb' K H ys ks)(e:Same H H'):bb' K H' ys ks:=Paired.mapP t λy k ⟨a,z,q⟩=>⟨a,z,e _ _ q⟩
theorem Same.new{H:Hp}{l:Addr}{o:HO}(h:H l=none):Same H (upd H l o):=λb u e=>by rw[a8_ (a6_ e h)];exact e
section
variable{X:Cx}{pins:List (Addr × Obj)}{σ:St}{H H':Hp}{s:Ac}{h':Heap}{t':Nat}
theorem Inv.many(I:Inv X pins σ H s)(k:∀b o,s.heap.get? b=some o->h'.get? b=some o)(hold:Same H H')(hnew:∀b,H b=none->b<s.heap.objs.size->H' b=none)
  (hob:∀b o,H' b=some o->H b=none->∃xs its,o=.tup xs/\xs.length<=sizeLine/\Vals xs its/\IsTup h' b its.toArray/\∃o,h'.get? b=some o/\o.dict=none):Inv X pins σ H' { s with heap:=h',toks:=t' }:=by
 refine I.un ⟨λb o q _ _ _=>k b o q,λb o q _ _ _=>⟨o.slots,k b o q⟩,λb o q n _=>hnew b n (a_6 q),λb o q _=>⟨o,k b o q⟩,λb xs q=>hold b _ q,λb o u q=>hold b _ q,λb ps q=>⟨#[],by rw[Array.append_empty];exact hold b _ q⟩⟩ λb o q=>?_;cases e:H b with
 |some u=>
  have e2:=hold b u e;rw[q] at e2;cases e2;exact (I.hok b o e).stay (λc v _ z=>k c v z) (λc z=>hold c _ z) λc xs z=>hold c _ z
 |none=>
  obtain⟨xs,its,rfl,z,r,t⟩:=hob b o q e;exact⟨z,its,r,t⟩
end
variable{R:List Aa->Ac->Prop}
section
variable{X:Cx}{pins:List (Addr × Obj)}{σ:St}{H:Hp}{s:Ac}{A:Ah}{E:Aa->Ac->Prop}
theorem gR_{p:Addr}(I:Inv X pins σ H s)(h:SqL X.K H p ys)(hz:ys.length<=100000)(q:∀vs s1,Inv X pins σ H s1->Vals ys vs->R vs s1):wpAny (model X.prog X.w) A (collect (.ref p)) R E s:=by
 obtain⟨its,r,pl,_⟩:=I.list h;have hl:=r.length;refine collect_list pl.isList (q its _ ?_ r) (by have:=b__;omega);refine I.kept (t':=s.toks) λb u e=>?_;have lt:b<s.heap.objs.size:=a_6 e;rw[Heap.get?_update_ne _ _ _ _ (av' lt)];exact a_0 _ e
theorem d7_{P:Nat->Aa->Prop}{acc:Array Aa}(h:ItemsOf P acc ys.length)(hp:∀(j:Nat) v,P j v->∀y,ys[j]? = some y->RelV y v):Vals ys acc.toList:=by
 have gen:∀(ys:List V) (vs:List Aa),ys.length=vs.length->(∀(j:Nat) y v,ys[j]? = some y->vs[j]? = some v->RelV y v)->Vals ys vs:=λys=>by
  induction ys with
  |nil=>
   intro vs hl _;cases vs with
   |nil=>exact .nil
   |cons _ _=>cases hl
  |cons y ys ih=>
   intro vs hl h;cases vs with
   |nil=>cases hl
   |cons v vs=>exact .cons (h 0 y v rfl rfl) (ih vs (by simpa using hl) λj y v a b=>h (j+1) y v (by simpa using a) (by simpa using b))
 refine gen ys acc.toList (by rw[aP'];exact h.1.symm) λj y v a b=>hp j v (h.2 j v ?_) y a;rw[<- Array.getElem?_toList];exact b
theorem k5_{d:Addr}{kvs:List (Key × V)}(I:Inv X pins σ H s)(h:Rd H d (.dK kvs)):∃(P:Nat->Aa->Prop) (OK:Heap->Prop),KdlSrc X.prog X.w "dict" d d (kvs.map λkv=>kV kv.1).length P OK/\OK s.heap/\∀(j:Nat) v,P j v->∀y,(kvs.map λkv=>kV kv.1)[j]? = some y->RelV y v:=by
 obtain⟨z,hd,vs,rel,dd⟩:=d1_ I.hok h;obtain⟨ep,dat⟩:=dd.dictAt;have hl:=rel.length;refine⟨λi v=>∃k x,vs[i]? = some (k,x)/\(bi' X.prog X.w).is k v=true,λh=>h.DictAt (bi' X.prog X.w) d vs ep,(by rw[aa',hl];exact kdl_dict (knd:=bi' X.prog X.w) (kvs:=vs) (ep:=ep) hd),dat,λj v ⟨k,x,e,hk⟩ y hy=>?_⟩;rw[aw'] at hy;have ek:kvs.map (·.1)=vs.map (·.1):=rel.keys;have e2:(kvs.map (·.1))[j]? = (vs.map (·.1))[j]?:=by rw[ek]
 rw[aw',aw',e] at e2;cases e3:kvs[j]? with
 |none=>rw[e3] at e2;cases e2
 |some kv=>
  rw[e3] at e2 hy;have e4:kv.1=k:=b_2 e2;have e5:kV kv.1=y:=b_2 hy;rw[<- e5,e4];have hk:dY' k v=true:=hk;rcases aS_ hk with⟨i,t,rfl,rfl⟩|⟨x,t,rfl,rfl⟩
  ·exact⟨t,rfl⟩
  ·exact⟨t,rfl⟩
theorem lT_{d:Addr}{kvs:List (Key × V)}(hh:A.handled=none)(I:Inv X pins σ H s)(h:Rd H d (.dK kvs))(q:∀vs s1,Inv X pins σ H s1->Vals (kvs.map λkv=>kV kv.1) vs->R vs s1):wpAny (model X.prog X.w) A (collect (.ref d)) R E s:=by
 obtain⟨P,OK,S,ok,hp⟩:=k5_ I h;refine kdu_collect S hh ok ?_ λh' tk acc k a=>q _ _ (I.kept k) (d7_ a hp);rw[aa'];exact (d1_ I.hok h).1
theorem lE_{d:Addr}{kvs:List (List Key × V)}(I:Inv X pins σ H s)(h:Rd H d (.dT kvs)):∃(ys:List V) (P:Nat->Aa->Prop) (OK:Heap->Prop),bb' X.K H ys (kvs.map (·.1))/\ys.length<=sizeLine/\KdlSrc X.prog X.w "dict" d d ys.length P OK/\OK s.heap/\∀(j:Nat) v,P j v->∀y,ys[j]? = some y->RelV y v:=by
 obtain⟨z,hd,xs,rel,o,es,ep,ho,hc,hdat,hes,nd⟩:=h.ok I.hok
 have l1:es.size=xs.length:=by
  have:=c_1 List.length hes;simpa using this
 have l2:=a_1 rel;refine⟨xs.map λx=>V.ref x.2.1,λi v=>∃h:i<es.size,v=es[i].key,λh=>Raw h d es ep,?_,by rw[aa'];omega,(by rw[aa',<- l1];exact kC_ (es:=es) (ep:=ep) hd),⟨o,ho,hc,hdat⟩,λj v ⟨hj,e⟩ y hy=>?_⟩
 ·have gen:∀{kvs:List (List Key × V)} {xs:List (List Key × Addr × Aa)},KT H kvs xs->bb' X.K H (xs.map λx=>V.ref x.2.1) (kvs.map (·.1)):=λ{kvs xs} r=>by
   induction r with
   |nil=>exact .nil
   |cons h _ ih=>exact .cons ⟨_,rfl,h.2.1⟩ ih
  exact gen rel
 ·rw[aw'] at hy;have hx:j<xs.length:=by omega
  rw[ae' hx] at hy;have e1:V.ref xs[j].2.1=y:=b_2 hy
  have e2:es[j]=entryOfKey (tupleKind (bi' X.prog X.w)) xs[j]:=by
   have e3:es.toList[j]? = (xs.map (entryOfKey (tupleKind (bi' X.prog X.w))))[j]?:=by rw[hes]
   rw[aw',ae' hx,Array.getElem?_toList,Array.getElem?_eq_getElem hj] at e3;exact b_2 e3
  rw[<- e1,e,e2];rfl
theorem ly_{d:Addr}{kvs:List (List Key × V)}(hh:A.handled=none)(I:Inv X pins σ H s)(h:Rd H d (.dT kvs))(q:∀ys vs s1,Inv X pins σ H s1->Vals ys vs->bb' X.K H ys (kvs.map (·.1))->R vs s1):wpAny (model X.prog X.w) A (collect (.ref d)) R E s:=by
 obtain⟨ys,P,OK,t,z,S,ok,hp⟩:=lE_ I h;exact kdu_collect S hh ok z λh' tk acc k a=>q ys _ _ (I.kept k) (d7_ a hp) t
def bG'(v d:Addr):HO:=.ext λh=>h.IsItemsView v d
def bE'(K:F__)(H:Hp):List V->List (Key × V)->Prop:=Paired λy p=>∃a,y=V.ref a/\H a=some (.tup [kV p.1,p.2])
theorem hV_{v d:Addr}{kvs:List (Key × V)}(hh:A.handled=none)(I:Inv X pins σ H s)(hv:H v=some (bG' v d))(h:Rd H d (.dK kvs))(q:∀H1 ys vs s1,Inv X pins σ H1 s1->Same H H1->Vals ys vs->bE' X.K H1 ys kvs->R vs s1) :
  wpAny (model X.prog X.w) A (collect (.ref v)) R E s:=by
 obtain⟨z,hd,vs,rel,dd⟩:=d1_ I.hok h;obtain⟨ep,dat⟩:=dd.dictAt;obtain⟨iv,_,_⟩:=I.hok v _ hv;have hl:=rel.length;refine kdx_collect (knd:=bi' X.prog X.w) (kvs:=vs) (ep:=ep) hh iv dat Z1 λh' tk as k la G=>?_;have up:∀b,b∈as->s.heap.objs.size<b:=G.above
 have at1:∀(j:Nat) b p,as[j]? = some b->kvs[j]? = some p->∃its,Vals [kV p.1,p.2] its/\IsTup h' b its.toArray/\∃o,h'.get? b=some o/\o.dict=none:=λj b p hj hp=>by
  obtain⟨key,kk,x,e1,e2,e3⟩:=G.pairs j b hj
  have gen:∀{kvs:List (Key × V)} {vs:List (Key × Aa)},KV kvs vs->∀(j:Nat),vs[j]? = some (kk,x)->kvs[j]? = some p->p.1=kk/\RelV p.2 x:=λ{kvs vs} r=>by
   induction r with
   |nil=>intro j e;simp at e
   |@cons p' q _ _ h _ ih=>
    intro j e e';cases j with
    |zero=>
     have e:q=(kk,x):=by simpa using e
     have e':p'=p:=by simpa using e'
     subst e';rw[e] at h;exact h
    |succ j=>exact ih j (by simpa using e) (by simpa using e')
  obtain⟨g1,g2⟩:=gen rel j e1 hp;refine⟨[key,x],.cons ?_ (.cons g2 .nil),⟨_,e3,rfl,_,rfl⟩,_,e3,rfl⟩;rw[g1];have e2:dY' kk key=true:=e2;rcases aS_ e2 with⟨i,t,rfl,rfl⟩|⟨x,t,rfl,rfl⟩
  ·exact⟨t,rfl⟩
  ·exact⟨t,rfl⟩
 have look:∀{as:List Addr} {kvs:List (Key × V)},as.Pairwise (· < ·)->∀(j:Nat) b p,as[j]? = some b->kvs[j]? = some p->(as.zip kvs).lookup b=some p:=λ{as}=>by
  induction as with
  |nil=>intro kvs _ j b p e;simp at e
  |cons a as ih=>
   intro kvs pw j b p e e';cases kvs with
   |nil=>simp at e'
   |cons q kvs=>
    obtain⟨p1,p2⟩:=a4'.mp pw;show ((a,q)::as.zip kvs).lookup b=some p;cases j with
    |zero=>
     have e:a=b:=by simpa using e
     have e':q=p:=by simpa using e'
     subst e;subst e';rw[List.lookup_cons_self]
    |succ j=>
     have e:as[j]? = some b:=by simpa using e
     have e':kvs[j]? = some p:=by simpa using e'
     have lt:=p1 b (ad' e);rw[aY',show (b == a)=false by simp only[beq_eq_false_iff_ne];exact a8' lt];exact ih p2 j b p e e'
 have lk:as.length=kvs.length:=by omega
 let H1:Hp:=λb=>if b∈as then ((as.zip kvs).lookup b).map λp=>HO.tup [kV p.1,p.2] else H b
 have h1in:∀(j:Nat) b p,as[j]? = some b->kvs[j]? = some p->H1 b=some (.tup [kV p.1,p.2]):=λj b p e e'=>by
  show (if b∈as then _ else _)=_;rw[b_0 (ad' e),look G.rise j b p e e'];rfl
 have h1out:∀b,b∉as->H1 b=H b:=λb hb=>a_8 hb;have old:∀b,b<s.heap.objs.size->b∉as:=λb hb m=>absurd (up b m) Z1;refine q H1 (as.map V.ref) _ _ (I.many (t':=tk) k (λb o e=>by rw[h1out b (old b (I.hok.lt e))];exact e) (λb e hb=>by rw[h1out b (old b hb)];exact e) λb o e e0=>?_) (λb o e=>by rw[h1out b (old b (I.hok.lt e))];exact e) ?_ ?_
 ·by_cases m:b∈as
  ·obtain⟨j,hj⟩:=List.mem_iff_getElem?.mp m
   have jl:j<kvs.length:=by
    have:=(ab'.mp hj).1;omega
   have e':=h1in j b kvs[j] hj (ae' jl);rw[e] at e';cases e';obtain⟨its,r,t⟩:=at1 j b _ hj (ae' jl);exact⟨_,its,rfl,by show 2<=sizeLine;decide,r,t⟩
  ·rw[h1out b m,e0] at e;cases e
 ·have gen:∀as:List Addr,Vals (as.map V.ref) (as.map Value.ref):=λas=>by
   induction as with
   |nil=>exact .nil
   |cons a as ih=>exact .cons rfl ih
  exact gen as
 ·have gen:∀(as':List Addr) (kvs':List (Key × V)),as'.length=kvs'.length->(∀(j:Nat) b p,as'[j]? = some b->kvs'[j]? = some p->H1 b=some (.tup [kV p.1,p.2]))->bE' X.K H1 (as'.map V.ref) kvs':=λas'=>by
   induction as' with
   |nil=>
    intro kvs' hl _;cases kvs' with
    |nil=>exact .nil
    |cons _ _=>cases hl
   |cons a as' ih=>
    intro kvs' hl h;cases kvs' with
    |nil=>cases hl
    |cons p kvs'=>exact .cons ⟨a,rfl,h 0 a p rfl rfl⟩ (ih kvs' (by simpa using hl) λj b p e e'=>h (j+1) b p (by simpa using e) (by simpa using e'))
  exact gen as kvs lk h1in
end
theorem gV_{a b:List Str}(h:a.map keyS=b.map keyS):a=b:=by
 induction a generalizing b with
 |nil=>
  cases b with
  |nil=>rfl
  |cons _ _=>cases h
 |cons x a ih=>
  cases b with
  |nil=>cases h
  |cons y b=>
   obtain⟨h1,h2⟩:=b_8 h;have h1:[(Sum.inr x:Key)]=[Sum.inr y]:=h1;cases h1;rw[ih h2]
theorem d6_(ss:List Str):(bL' ss).map keyS=sortKs (ss.map keyS):=by
 have all:∀k∈sortKs (ss.map keyS),∃x,k=keyS x:=λk hk=>by
  obtain⟨x,_,e⟩:=ac'.mp ((aC_ _).mem_iff.mp hk);exact⟨x,e.symm⟩
 have gen:∀l:List (List Key),(∀k∈l,∃x,k=keyS x)->(l.map λk=>match k with | [.inr x]=>x|_=>(⟨#[]⟩:Str)).map keyS=l:=λl=>by
  induction l with
  |nil=>exact λ_=>rfl
  |cons k l ih=>
   intro h;obtain⟨x,rfl⟩:=h k aq';rw[au',au',ih λk hk=>h k (ai' _ hk)];rfl
 exact gen _ all
theorem aG_(ss:List Str):(bL' ss).Perm ss:=by
 have p:((bL' ss).map keyS).Perm (ss.map keyS):=by rw[d6_];exact aC_ _
 have back:∀l:List Str,(l.map keyS).map (λk=>match k with | [.inr x]=>x|_=>(⟨#[]⟩:Str))=l:=λl=>by
  rw[ao']
  induction l with
  |nil=>rfl
  |cons x l ih=>rw[au',ih];rfl
 have q:=p.map (λk=>match k with | [.inr x]=>x|_=>(⟨#[]⟩:Str));rwa [back,back] at q
variable{u:Aa}
section
variable{X:Cx}{pins:List (Addr × Obj)}{σ:St}{H:Hp}{s:Ac}
theorem dh_{ss:List Str}{Q:VK}(h64:ss.length<64)(hcol:wpAny (model X.prog X.w) X.A.in1 (collect u) (λvs s1=>∃H1,Inv X pins σ H1 s1/\Vals (ss.map V.str) vs/\∀l,H1 l=none->Q (.ref l) (upd H1 l (.lst ((bL' ss).map V.str)))) X.xe s) :
  wpAny (model X.prog X.w) X.A (call (.builtin "sorted") [u]) (EP X pins σ Q) X.xe s:=by
 refine ej_ (gF_ (ss.map keyS)) (thn hcol λvs s1 ⟨H1,I1,r,q⟩=>?_);have hl:vs.length=ss.length:=by rw[<- r.length,aa']
 refine⟨by omega,λh2 h' _=>hK_ (hJ_ r) h2,λp h' e g up hD kp=>?_⟩;have g':Good (ss.map keyS).length p:=by rw[aa',<- hl];exact g
 have asc:=i7_ (ks:=ss.map keyS) (λi j _ _=>rfl) g' (by rw[aa',<- hl];exact up)
 have perm:(p.toList.map λi=>(ss.map keyS).getD i []).Perm (ss.map keyS):=by
  have:=cj_ g' λi=>(ss.map keyS).getD i [];rwa [bN_] at this
 have es:=eZ_ perm asc
 have inr:∀i∈p.toList,i<ss.length:=λi hi=>by
  have m:i∈(List.range vs.length).toArray:=g.mem_iff.mp (by simpa using hi);rw[hl] at m;simpa using m
 have e1:(p.toList.map λi=>ss.getD i ⟨#[]⟩)=bL' ss:=by
  refine gV_ ?_;rw[d6_,<- es,ao'];refine ay' λi hi=>?_;have:=inr i hi;simp[this]
 have rv:=gD_ r g
 have e2:(p.toList.map λi=>(ss.map V.str).getD i .non)=(bL' ss).map V.str:=by
  rw[<- e1,ao'];refine ay' λi hi=>?_;have:=inr i hi;simp[this]
 rw[e2] at rv;refine⟨.ref s1.heap.objs.size,_,I1.laid (t':=s1.toks) kp (ak' _) (show bt' X.prog X.w _ h' _ (.lst ((bL' ss).map V.str)) from ⟨?_,cX' p vs,e,rv,hD⟩),rfl,q _ (I1.hok.fresh (ak' _))⟩;rw[aa',(aG_ ss).length_eq];have:=b__;omega
theorem jf_{K:F__}{H:Hp}{ks:List (List Key)}(t:bb' K H ys ks):∀l:List Nat,(∀i∈l,i<ys.length)->bb' K H (l.map λi=>ys.getD i .non) (l.map λi=>ks.getD i []):=λl=>by
 induction l with
 |nil=>exact λ_=>.nil
 |cons i l ih=>
  intro h;refine .cons ?_ (ih λj hj=>h j (ai' _ hj));have hi:=h i aq'
  have gen:∀{ys:List V} {ks:List (List Key)} (i:Nat),i<ys.length->bb' K H ys ks->∃a,ys.getD i .non=V.ref a/\H a=some (.tup ((ks.getD i []).map kV)):=λ{ys ks} i hy t=>by
   induction t generalizing i with
   |nil=>exact absurd hy Z2
   |cons h t ih=>
    cases i with
    |zero=>exact h
    |succ i=>exact ih i (by simpa using hy)
  exact gen i hi t
theorem cf_{ks:List (List Key)}{sh:List Bool}{Q:VK}(h64:ks.length<64)(al:Alike ks sh)(hcol:wpAny (model X.prog X.w) X.A.in1 (collect u) (λvs s1=>∃H1 ys,Inv X pins σ H1 s1/\Vals ys vs/\bb' X.K H1 ys ks/\∀l zs,H1 l=none->bb' X.K H1 zs (sortKs ks)->zs.Perm ys->Q (.ref l) (upd H1 l (.lst zs))) X.xe s) :
  wpAny (model X.prog X.w) X.A (call (.builtin "sorted") [u]) (EP X pins σ Q) X.xe s:=by
 refine ej_ (gF_ ks) (thn hcol λvs s1 ⟨H1,ys,I1,r,t,q⟩=>?_);have l1:=r.length;have l2:=a_1 t;have hl:vs.length=ks.length:=by omega
 refine⟨by omega,λh2 h' k=>hW_ I1 r t al h2 k,λp h' e g up hD kp=>?_⟩;have g':Good ks.length p:=by rw[<- hl];exact g
 have asc:=i7_ (ks:=ks) (λi j _ _=>rfl) g' (by rw[<- hl];exact up)
 have perm:(p.toList.map λi=>ks.getD i []).Perm ks:=by
  have:=cj_ g' λi=>ks.getD i [];rwa [bN_] at this
 have es:=eZ_ perm asc
 have inr:∀i∈p.toList,i<ys.length:=λi hi=>by
  have m:i∈(List.range vs.length).toArray:=g.mem_iff.mp (by simpa using hi);rw[<- l1] at m;simpa using m
 have tz:=jf_ t p.toList inr;rw[es] at tz;have rv:=gD_ r g
 have pz:(p.toList.map λi=>ys.getD i .non).Perm ys:=by
  have:=cj_ (n:=ys.length) (by rw[l1];exact g) λi=>ys.getD i .non;rwa [bN_] at this
 refine⟨.ref s1.heap.objs.size,_,I1.laid (t':=s1.toks) kp (ak' _) (show bt' X.prog X.w _ h' _ (.lst (p.toList.map λi=>ys.getD i .non)) from ⟨?_,cX' p vs,e,rv,hD⟩),rfl,q _ _ (I1.hok.fresh (ak' _)) tz pz⟩;rw[pz.length_eq];have:=b__;omega
end
inductive dx' (K:F__) (xs:List V) (H:Hp) (Q:VK):Prop
 |mk:∀p ss,xs=[.ref p]->SqL K H p (ss.map V.str)->ss.length<64->(∀l,H l=none->Q (.ref l) (upd H l (.lst ((bL' ss).map V.str))))->dx' K xs H Q
variable{X:Cx}
theorem cx_:bB' X (.builtin "sorted") (dx' X.K):=by
 intro pins s σ H xs us Q I r h;obtain⟨p,ss,rfl,hp,h64,q⟩:=h;obtain⟨u,rfl,ru⟩:=vals1 r;cases ru;exact dh_ h64 (gR_ I hp (by rw[aa'];omega) λvs s1 I1 r1=>⟨H,I1,r1,q⟩)
inductive rSortT (K:F__) (xs:List V) (H:Hp) (Q:VK):Prop
 |mk:∀p ys ks sh,xs=[.ref p]->SqL K H p ys->bb' K H ys ks->Alike ks sh->ks.length<64->(∀l zs,H l=none->bb' K H zs (sortKs ks)->zs.Perm ys->Q (.ref l) (upd H l (.lst zs)))->rSortT K xs H Q
theorem cs_:bB' X (.builtin "sorted") (rSortT X.K):=by
 intro pins s σ H xs us Q I r h;obtain⟨p,ys,ks,sh,rfl,hp,t,al,h64,q⟩:=h;obtain⟨u,rfl,ru⟩:=vals1 r;cases ru;have l:=a_1 t;exact cf_ h64 al (gR_ I hp Z1 λvs s1 I1 r1=>⟨H,ys,I1,r1,t,q⟩)
inductive rSortDT (K:F__) (xs:List V) (H:Hp) (Q:VK):Prop
 |mk:∀d kvs sh,xs=[.ref d]->H d=some (.dT kvs)->Alike (kvs.map (·.1)) sh->kvs.length<64->(∀l zs,H l=none->bb' K H zs (sortKs (kvs.map (·.1)))->Q (.ref l) (upd H l (.lst zs)))->rSortDT K xs H Q
theorem g2_(hc:X.calm=true):bB' X (.builtin "sorted") (rSortDT X.K):=by
 intro pins s σ H xs us Q I r h;obtain⟨d,kvs,sh,rfl,hd,al,h64,q⟩:=h;obtain⟨u,rfl,ru⟩:=vals1 r;cases ru;exact cf_ (by rw[aa'];exact h64) al (ly_ (I.ok.hd hc) I (.inl hd) λys vs s1 I1 r1 t=>⟨H,ys,I1,r1,t,λl zs n t' _=>q l zs n t'⟩)
inductive rSortDS (xs:List V) (H:Hp) (Q:VK):Prop
 |mk:∀d kvs ss,xs=[.ref d]->H d=some (.dK kvs)->kvs.map (·.1)=ss.map Sum.inr->ss.length<64->(∀l,H l=none->Q (.ref l) (upd H l (.lst ((bL' ss).map V.str))))->rSortDS xs H Q
theorem ga_(hc:X.calm=true):bB' X (.builtin "sorted") rSortDS:=by
 intro pins s σ H xs us Q I r h;obtain⟨d,kvs,ss,rfl,hd,ek,h64,q⟩:=h;obtain⟨u,rfl,ru⟩:=vals1 r;cases ru;refine dh_ h64 (lT_ (I.ok.hd hc) I (.inl hd) λvs s1 I1 r1=>⟨H,I1,?_,q⟩)
 have e:(kvs.map λkv=>kV kv.1)=ss.map V.str:=by
  rw[show (kvs.map λkv=>kV kv.1)=(kvs.map (·.1)).map kV by rw[ao'];rfl,ek,ao'];rfl
 rwa [e] at r1
inductive rSortI (K:F__) (xs:List V) (H:Hp) (Q:VK):Prop
 |mk:∀(v d:Addr) (kvs:List (Key × V)) (ks:List (Key × Key)) (sh:List Bool),xs=[.ref v]->H v=some (bG' v d)->H d=some (.dK kvs)->kvs=ks.map (λk:Key × Key=>(k.1,kV k.2))->Alike (ks.map λk=>[k.1,k.2]) sh->ks.length<64->(∀l H1 zs,Same H H1->H1 l=none->bb' K H1 zs (sortKs (ks.map λk=>[k.1,k.2]))->Q (.ref l) (upd H1 l (.lst zs)))->rSortI K xs H Q
theorem hl_(hc:X.calm=true):bB' X (.builtin "sorted") (rSortI X.K):=by
 intro pins s σ H xs us Q I r h;obtain⟨v,d,kvs,ks,sh,rfl,hv,hd,ek,al,h64,q⟩:=h;obtain⟨u,rfl,ru⟩:=vals1 r;cases ru;refine cf_ (by rw[aa'];exact h64) al (hV_ (I.ok.hd hc) I hv (.inl hd) λH1 ys vs s1 I1 sm r1 t=>⟨H1,ys,I1,r1,?_,λl zs n t' _=>q l H1 zs sm n t'⟩);subst ek
 have gen:∀(ks:List (Key × Key)) (ys:List V),bE' X.K H1 ys (ks.map (λk:Key × Key=>(k.1,kV k.2)))->bb' X.K H1 ys (ks.map λk=>[k.1,k.2]):=λks=>by
  induction ks with
  |nil=>
   intro ys t;cases t;exact .nil
  |cons k ks ih=>
   intro ys t;cases t with
   |cons h t=>exact .cons h (ih _ t)
 exact gen ks ys t
inductive rListD (xs:List V) (H:Hp) (Q:VK):Prop
 |mk:∀d kvs,xs=[.ref d]->Rd H d (.dK kvs)->(∀l,H l=none->Q (.ref l) (upd H l (.lst (kvs.map λkv=>kV kv.1))))->rListD xs H Q
theorem cn_(hc:X.calm=true):bB' X (.type "list") rListD:=by
 intro pins s σ H xs us Q I r h;obtain⟨d,kvs,rfl,hd,q⟩:=h;obtain⟨u,rfl,ru⟩:=vals1 r;cases ru;obtain⟨P,OK,S,ok,hp⟩:=k5_ I hd;have z:=(d1_ I.hok hd).1;refine kdl_call S (I.ok.hd hc) ok (by rw[aa'];exact z) λh' tk acc c k hD a=>?_;refine⟨.ref s.heap.objs.size,_,I.laid (t':=tk) k (ak' _) (show bt' X.prog X.w _ h' _ (.lst (kvs.map λkv=>kV kv.1)) from ⟨by rw[aa'];exact z,acc.toList,c,d7_ a hp,by rw[Array.toArray_toList];exact hD⟩),rfl,q _ I.fresh⟩
theorem KV.mergeP{κ:Type}[DecidableEq κ]:∀{more:List (κ × V)} {rs:List (κ × Aa)} {kvs:List (κ × V)} {vs:List (κ × Aa)},KV more rs->KV kvs vs->KV (more.foldl (λacc kv=>putK acc kv.1 kv.2) kvs) (EvD.mergeP vs rs):=λ{more rs kvs vs} h=>by
 induction h generalizing kvs vs with
 |nil=>exact λh=>h
 |@cons p q _ _ h _ ih=>
  intro h2;obtain⟨k,y⟩:=p;obtain⟨k',u⟩:=q;obtain⟨h1,h3⟩:=h;have h1:k=k':=h1;subst h1;exact ih (h2.put k h3)
inductive rDictOf (K:F__) (xs:List V) (H:Hp) (Q:VK):Prop
 |mk:∀p ys kvs,xs=[.ref p]->H p=some (.lst ys)->bE' K H ys kvs->kvs.length<=1000->(∀l,H l=none->Q (.ref l) (upd H l (.dK (c7' [] kvs))))->rDictOf K xs H Q
theorem bk_(hc:X.calm=true):bB' X (.type "dict") (rDictOf X.K):=by
 intro pins s σ H xs us Q I r h;obtain⟨p,ys,kvs,rfl,hp,t,hz,q⟩:=h;obtain⟨u,rfl,ru⟩:=vals1 r;cases ru;obtain⟨z,its,n,rv,hl,ho⟩:=I.lstM hp
 have gen:∀{ys:List V} {its:List Aa} {kvs:List (Key × V)},Vals ys its->bE' X.K H ys kvs->∃ps,KV kvs ps/\em' (bi' X.prog X.w) s.heap its ps:=λ{ys its kvs} rv t=>by
  induction t generalizing its with
  |nil=>
   cases rv;exact⟨[],.nil,.nil⟩
  |@cons y p ys kvs h t ih=>
   cases rv with
   |cons r0 rv=>
    obtain⟨ps,h1,h2⟩:=ih rv;obtain⟨a,e,sq⟩:=h;subst e;cases r0;obtain⟨tv,rt,it,_⟩:=I.tuple (SqT.of sq);obtain⟨key,x,e2,rk,rx⟩:=vals2 rt;subst e2;refine⟨(p.1,x)::ps,Paired.cons (show p.1=p.1/\RelV p.2 x from ⟨rfl,rx⟩) h1,Paired.cons (show ∃a' key',Value.ref a=.ref a'/\IsTup s.heap a' #[key',x]/\(bi' X.prog X.w).is p.1 key'=true from ⟨a,key,rfl,it,gW_ rk⟩) h2⟩
 obtain⟨ps,h1,h2⟩:=gen rv t;have lp:=KV.length h1;refine fr_ (knd:=bi' X.prog X.w) (I.ok.hd hc) ho h2 Z1 λh' tk hd kp=>?_;refine⟨.ref s.heap.objs.size,_,I.laid (t':=tk) kp (ak' _) (kg_ ?_ (beq_eq_false_iff_ne.mpr (Ne.symm (av' I.big))) (KV.mergeP h1 .nil) hd),rfl,q _ I.fresh⟩;have:=cU_ kvs [];have:=b__;simp only[List.length_nil] at *;show (c7' [] kvs).length<=sizeLine;omega
theorem eH_:∀{bs:List Bool} {vs:List Aa},Vals (bs.map V.bl) vs->vs=bs.map Value.bool
 |[],_,.nil=>rfl
 |b::bs,_,.cons h t=>by
  cases h;rw[eH_ t];rfl
inductive rAll (K:F__) (g:List Bool->Bool) (xs:List V) (H:Hp) (Q:VK):Prop
 |mk:∀p bs,xs=[.ref p]->SqL K H p (bs.map V.bl)->Q (.bl (g bs)) H->rAll K g xs H Q
theorem cZ_(hc:X.calm=true):bB' X (.builtin "all") (rAll X.K λbs=>bs.all id):=by
 intro pins s σ H xs us Q I r h;obtain⟨p,bs,rfl,hp,q⟩:=h;obtain⟨u,rfl,ru⟩:=vals1 r;cases ru;obtain⟨its,rv,pl,z⟩:=I.list hp;obtain rfl:=eH_ rv;have hl:=pl.isList;have lt:p<s.heap.objs.size:=by obtain⟨_,e,_⟩:=hl;exact a_6 e
 refine call_all_walk (wpAny_pyIter_list hl ⟨s.heap.objs.size,[s.heap.objs.size,p],[s.heap.objs.size],(bs.map Value.bool).toArray.size,_,_,λi=>(bs[i]?).getD true,rfl,Walks.list (A:=X.A.in1) (I.ok.hd hc) _ p (av' lt) _,⟨⟨_,a_7 _ rfl,rfl,rfl⟩,hl.push _⟩,λi v s' Q' E' hP hQ=>?_,λh' tk hk=>?_⟩)
 ·have hP:(bs.map Value.bool).toArray[i]? = some v:=hP;simp only[List.getElem?_toArray,aw'] at hP;cases e:bs[i]? with
  |none=>rw[e] at hP;cases hP
  |some b=>
   have hQ:Q' ((bs[i]?).getD true) s':=hQ;rw[e] at hP hQ;cases hP;exact d_1 hQ
 ·have e:((List.range (bs.map Value.bool).toArray.size).all λi=>(bs[i]?).getD true)=bs.all id:=by
   rw[ap',aa'];exact LSm.range_all bs
  rw[e];exact⟨.bl _,H,I.kept (LSm.kept_iter hk),rfl,q⟩
theorem jd_(hc:X.calm=true):bB' X (.builtin "any") (rAll X.K λbs=>bs.any id):=by
 intro pins s σ H xs us Q I r h;obtain⟨p,bs,rfl,hp,q⟩:=h;obtain⟨u,rfl,ru⟩:=vals1 r;cases ru;obtain⟨its,rv,pl,z⟩:=I.list hp;obtain rfl:=eH_ rv;have hl:=pl.isList;have lt:p<s.heap.objs.size:=by obtain⟨_,e,_⟩:=hl;exact a_6 e
 refine call_any_walk (wpAny_pyIter_list hl ⟨s.heap.objs.size,[s.heap.objs.size,p],[s.heap.objs.size],(bs.map Value.bool).toArray.size,_,_,λi=>(bs[i]?).getD false,rfl,Walks.list (A:=X.A.in1) (I.ok.hd hc) _ p (av' lt) _,⟨⟨_,a_7 _ rfl,rfl,rfl⟩,hl.push _⟩,λi v s' Q' E' hP hQ=>?_,λh' tk hk=>?_⟩)
 ·have hP:(bs.map Value.bool).toArray[i]? = some v:=hP;simp only[List.getElem?_toArray,aw'] at hP;cases e:bs[i]? with
  |none=>rw[e] at hP;cases hP
  |some b=>
   have hQ:Q' ((bs[i]?).getD false) s':=hQ;rw[e] at hP hQ;cases hP;exact d_1 hQ
 ·have e:((List.range (bs.map Value.bool).toArray.size).any λi=>(bs[i]?).getD false)=bs.any id:=by
   rw[ap',aa'];exact LSm.range_any bs
  rw[e];exact⟨.bl _,H,I.kept (LSm.kept_iter hk),rfl,q⟩
end L2
namespace EvN
open PySem PySem.SeqAt PyProof.Rows
open AutoSeq1 (wpAny_loadPart')
open MeetsSeq MeetsSeq2 MeetsSeq3 SeqRoads2
theorem ml_(l b:Addr)(xs ys:Array Aa)(n m:Nat)(dl db:Option Addr)(sl sb:Array (Option Aa))(hs:xs.size=ys.size)(e:Nat->Bool)(k:Nat) :
  ∀i:Nat,xs.size - i=k->Meets (Builtin.«list.__eq__.loop» ⟨[.ref l,.ref b,rawInt i,rawInt 3],[]⟩)
   (λA R s=>(s.heap.get? l=some { cls:=.type "list",dict:=dl,data:=.seq xs n,slots:=sl }/\s.heap.get? b=some { cls:=.type "list",dict:=db,data:=.seq ys m,slots:=sb }) /\
    (∀j (h1:j<xs.size) (h2:j<ys.size),EqAt A.in1 s xs[j] ys[j] (e j))/\R (.ok (.ret (.bool (!((List.range xs.size).drop i).all e)))) s):=by
 induction k with
 |zero=>
  intro i hk prog w A R s ⟨⟨gl,gb⟩,he,h⟩;obtain⟨hp,g,d,tk,os⟩:=s
  wp_walk using c_8 gl,c_8 gb
  rw[show xs[((i:Nat):Int).toNat]? = none by simp;omega,show ys[((i:Nat):Int).toNat]? = none by simp;omega];rw[show (List.range xs.size).drop i=[] by simp;omega] at h
  wp_walk using c_8 gl,c_8 gb
  refine (show R (.ok (.ret (.bool (xs.size != ys.size)))) _ from ?_);rw[show (xs.size != ys.size)=false by simp[hs]];exact h
 |succ k ih=>
  intro i hk prog w A R s ⟨⟨gl,gb⟩,he,h⟩;obtain⟨hp,g,d,tk,os⟩:=s
  wp_walk using c_8 gl,c_8 gb
  have z1:i<xs.size:=by omega
  have z2:i<ys.size:=by omega
  have q1:xs[((i:Nat):Int).toNat]? = some xs[i]:=by simp[z1]
  have q2:ys[((i:Nat):Int).toNat]? = some ys[i]:=by simp[z2]
  rw[show (List.range xs.size).drop i=i::(List.range xs.size).drop (i+1) by simp[List.drop_eq_getElem_cons,z1],List.all_cons] at h;rw[q1,q2];refine a__ (he i z1 z2 prog w _ _ ?_);cases c:e i with
  |true=>
   rw[c] at h
   wp_walk
   rw[show ((i:Int)+1)=((i+1:Nat):Int) by omega];refine⟨plainId_quiet plain_eq_loop _,codeAny_builtin entry_eq_loop ?_⟩;rw[Around.under_plainId plain_eq_loop _];exact ih (i+1) Z1 prog w A R _ ⟨⟨gl,gb⟩,he,by simpa using h⟩
  |false=>
   rw[c] at h
   wp_walk using c_8 gl,c_8 gb
   rw[q1,q2]
   wp_walk
   simpa using h
theorem jl_(l b:Addr)(xs ys:Array Aa)(n m:Nat)(dl db:Option Addr)(sl sb:Array (Option Aa))(hs:xs.size=ys.size)(e:Nat->Bool) :
  Meets (Builtin.«list.__ne__» ⟨[.ref l,.ref b],[]⟩)
   (λA R s=>(s.heap.get? l=some { cls:=.type "list",dict:=dl,data:=.seq xs n,slots:=sl }/\s.heap.get? b=some { cls:=.type "list",dict:=db,data:=.seq ys m,slots:=sb }) /\
    (∀j (h1:j<xs.size) (h2:j<ys.size),EqAt A.in1 s xs[j] ys[j] (e j))/\R (.ok (.ret (.bool (!(List.range xs.size).all e)))) s):=by
 intro prog w A R s ⟨⟨gl,gb⟩,he,h⟩;obtain⟨hp,g,d,tk,os⟩:=s;have f3:=AutoSeq1.sub_list_list;have no:¬(xs.size != ys.size)=true:=by simp[hs]
 wp_walk using c_8 gl,c_8 gb
 refine⟨plainId_quiet plain_eq_loop _,codeAny_builtin entry_eq_loop ?_⟩;rw[Around.under_plainId plain_eq_loop _];exact ml_ l b xs ys n m dl db sl sb hs e _ 0 rfl prog w A R _ ⟨⟨gl,gb⟩,he,by simpa using h⟩
theorem jA_(l b:Addr)(xs ys:Array Aa)(n m:Nat)(dl db:Option Addr)(sl sb:Array (Option Aa))(hs:(xs.size != ys.size)=true) :
  Meets (Builtin.«list.__ne__» ⟨[.ref l,.ref b],[]⟩)
   (λA R s=>(s.heap.get? l=some { cls:=.type "list",dict:=dl,data:=.seq xs n,slots:=sl }/\s.heap.get? b=some { cls:=.type "list",dict:=db,data:=.seq ys m,slots:=sb })/\R (.ok (.ret (.bool true))) s):=
 .of_wp λprog w A R s ⟨⟨gl,gb⟩,h⟩=>by
  obtain⟨hp,g,d,tk,os⟩:=s;have f3:=AutoSeq1.sub_list_list
  wp_walk using c_8 gl,c_8 gb
  exact⟨_,rfl,h⟩
variable{b l:Addr}{xs ys:Array Aa}{E Q:Aa->Ac->Prop}{prog:Ae}{w:Ag}{A:Ah}{s:Ac}
theorem ne_listAt{e:Nat->Bool}(hl:s.heap.IsList l xs)(hb:s.heap.IsList b ys)(hs:xs.size=ys.size)(hu:A.units<cLine)(he:∀j (h1:j<xs.size) (h2:j<ys.size),EqAt A.in1 s xs[j] ys[j] (e j))(h:Q (.bool (!(List.range xs.size).all e)) s):wpAny (model prog w) A (compareOp .NotEq (.ref l) (.ref b)) Q E s:=by
 obtain⟨⟨c1,d1,t1,l1⟩,o1,k1,n1,z1⟩:=id hl;obtain⟨⟨c2,d2,t2,l2⟩,o2,k2,n2,z2⟩:=id hb;simp only at k1 z1 k2 z2;subst k1 z1 k2 z2;exact richCompare_meets_room (op:=.NotEq) ⟨_,o1,rfl⟩ ⟨_,o2,rfl⟩ F.slot_list_ne F.entry_list_ne (F.args_list_ne_2 _ _) (jl_ l b xs ys n1 n2 d1 d2 l1 l2 hs e) ⟨⟨o1,o2⟩,he,show Value.bool (!(List.range xs.size).all e)≠Value.notImplemented/\Q (.bool (!(List.range xs.size).all e)) s from ⟨(λx=>nomatch x),h⟩⟩ hu
theorem ne_sizesAt(hl:s.heap.IsList l xs)(hb:s.heap.IsList b ys)(hs:(xs.size != ys.size)=true)(hu:A.units<cLine)(h:Q (.bool true) s):wpAny (model prog w) A (compareOp .NotEq (.ref l) (.ref b)) Q E s:=by
 obtain⟨⟨c1,d1,t1,l1⟩,o1,k1,n1,z1⟩:=id hl;obtain⟨⟨c2,d2,t2,l2⟩,o2,k2,n2,z2⟩:=id hb;simp only at k1 z1 k2 z2;subst k1 z1 k2 z2;exact richCompare_meets_room (op:=.NotEq) ⟨_,o1,rfl⟩ ⟨_,o2,rfl⟩ F.slot_list_ne F.entry_list_ne (F.args_list_ne_2 _ _) (jA_ l b xs ys n1 n2 d1 d2 l1 l2 hs) ⟨⟨o1,o2⟩,show Value.bool true≠Value.notImplemented/\Q (.bool true) s from ⟨(λx=>nomatch x),h⟩⟩ hu
end EvN
namespace L2
open PySem PySem.Spec PyProof.Rows PySem.W EvS EvD
abbrev Rp(D:Type):=Hp->V->D->Prop
structure Cmp (X:Cx) (n:Nat) {D:Type} [DecidableEq D] (R:Rp D):Prop where
 eq:∀{pins:List (Addr × Obj)} {σ:St} {H:Hp} {s:Ac} {A:Ah} {x y:V} {u v:Aa} {d e:D},Inv X pins σ H s->RelV x u->RelV y v->R H x d->R H y e->A.units+n<cLine->SeqAt.EqAt A s u v (decide (d=e))
 one:∀{pins:List (Addr × Obj)} {σ:St} {H:Hp} {s:Ac} {x:V} {d e:D},Inv X pins σ H s->R H x d->R H x e->d=e
def rS:Rp Str:=λ_ x d=>x=.str d
def r2(K:F__){D1 D2:Type}(R1:Rp D1)(R2:Rp D2):Rp (D1 × D2):=λH x d=>∃a u v,x=.ref a/\SqT K H a [u,v]/\R1 H u d.1/\R2 H v d.2
def rL(K:F__){D:Type}(R:Rp D):Rp (List D):=λH x ds=>∃a xs,x=.ref a/\SqL K H a xs/\Paired (R H) xs ds
variable{X:Cx}
theorem cmpS:Cmp X 0 rS where
 eq:=λ{pins σ H s A x y u v d e} I ru rv hx hy hu=>by
  have hx:x=.str d:=hx;have hy:y=.str e:=hy;subst hx;subst hy;have q:=kh_ (A:=A) (s:=s) ru rv rfl rfl
  have e2:eqV (.str d) (.str e)=decide (d=e):=by
   show (d == e)=_;by_cases h:d=e
   ·subst h;simp
   ·simp[h]
  rwa [e2] at q
 one:=λ{pins σ H s x d e} I hx hy=>by
  have hx:x=.str d:=hx;have hy:x=.str e:=hy;rw[hx] at hy;exact V.str.inj hy
theorem er_{h:Heap}{a:Addr}{its:Array Aa}(t:IsTup h a its):h.IsTuple a its:=t
variable{n:Nat}
theorem cmp2{m:Nat}{D1 D2:Type}[DecidableEq D1][DecidableEq D2]{R1:Rp D1}{R2:Rp D2}(c1:Cmp X n R1)(c2:Cmp X m R2):Cmp X (max n m+1) (r2 X.K R1 R2) where
 one:=λ{pins σ H s x d e} I hx hy=>by
  obtain⟨a,u,v,rfl,t,q1,q2⟩:=hx;obtain⟨b,u',v',e0,t',q1',q2'⟩:=hy;cases e0;have e1:=I.tuple_inj t t';cases e1;exact Prod.ext (c1.one I q1 q1') (c2.one I q2 q2')
 eq:=λ{pins σ H s A x y u v d e} I ru rv hx hy hu=>by
  have hx':=hx;have hy':=hy;obtain⟨a,x1,x2,rfl,t,q1,q2⟩:=hx;obtain⟨b,y1,y2,rfl,t',q1',q2'⟩:=hy;cases ru;cases rv;by_cases hab:a=b
  ·subst hab;have e1:=I.tuple_inj t t';cases e1;have:d=e:=Prod.ext (c1.one I q1 q1') (c2.one I q2 q2');rw[a_5 this];exact SeqAt.EqAt.same _
  ·obtain⟨its,r,it,_⟩:=I.tuple t;obtain⟨its',r',it',_⟩:=I.tuple t';obtain⟨u1,u2,rfl,r1,r2⟩:=vals2 r;obtain⟨w1,w2,rfl,r1',r2'⟩:=vals2 r'
   have key:=SeqAt.EqAt.of_refs hab (SeqAt.RcAt.tuples (A:=A) (s:=s) (e:=λj=>if j=0 then decide (d.1=e.1) else decide (d.2=e.2)) (er_ it) (er_ it') Z1 λj h1 h2=>by
    match j,h1,h2 with
    |0,_,_=>exact c1.eq I r1 r1' q1 q1' (by show A.units+1+n<cLine;omega)
    |1,_,_=>exact c2.eq I r2 r2' q2 q2' (by show A.units+1+m<cLine;omega))
   have e3:((List.range (min [u1,u2].toArray.size [w1,w2].toArray.size)).all (λj=>if j=0 then decide (d.1=e.1) else decide (d.2=e.2))&&[u1,u2].toArray.size == [w1,w2].toArray.size)=decide (d=e):=by
    show (decide (d.1=e.1)&&(decide (d.2=e.2)&&true)&&true)=_;by_cases h1:d.1=e.1
    ·by_cases h2:d.2=e.2
     ·have:d=e:=Prod.ext h1 h2;simp[this]
     ·have:¬d=e:=λz=>h2 (by rw[z]);simp[h1,h2,this]
    ·have:¬d=e:=λz=>h1 (by rw[z]);simp[h1,this]
   rw[e3] at key;exact key
theorem aA_{α β:Type}{F:α->β->Prop}:∀{l:List α} {m:List β},Paired F l m->∀(i:Nat) (h1:i<l.length) (h2:i<m.length),F l[i] m[i]
 |_,_,.cons h t,0,_,_=>h
 |_,_,.cons h t,i+1,h1,h2=>aA_ t i (by simpa using h1) (by simpa using h2)
theorem d9_{D:Type}[DecidableEq D]:∀{ds es:List D},ds.length=es.length->((List.range ds.length).all λj=>decide (ds[j]? = es[j]?))=decide (ds=es):=λ{ds es} hl=>by
 by_cases h:ds=es
 ·subst h;simp
 ·rw[a_4 h]
  have:∃i,i<ds.length/\ds[i]?≠es[i]?:=by
   refine e_1 λhn=>h ?_;apply List.ext_getElem?;intro i;by_cases hi:i<ds.length
   ·exact e_1 λq=>hn ⟨i,hi,q⟩
   ·rw[List.getElem?_eq_none Z1,List.getElem?_eq_none Z1]
  obtain⟨i,hi,q⟩:=this;rw[List.all_eq_false];exact⟨i,by simpa using hi,by simpa using q⟩
variable{pins:List (Addr × Obj)}{σ:St}{s:Ac}{A:Ah}
theorem gu_{D:Type}[DecidableEq D]{R:Rp D}(c:Cmp X n R){H:Hp}(I:Inv X pins σ H s){xs ys:List V}{us vs:List Aa}{ds es:List D}(ru:Vals xs us)(rv:Vals ys vs)(hx:Paired (R H) xs ds)(hy:Paired (R H) ys es)(hu:A.units+n<cLine) :
  ∀j (h1:j<us.toArray.size) (h2:j<vs.toArray.size),SeqAt.EqAt A s us.toArray[j] vs.toArray[j] (decide (ds[j]? = es[j]?)):=λj h1 h2=>by
 have l1:=ru.length;have l2:=rv.length;have l3:=a_1 hx;have l4:=a_1 hy;simp only[ap'] at h1 h2;have q:=c.eq (A:=A) I (aA_ ru j Z1 h1) (aA_ rv j Z1 h2) (aA_ hx j Z1 Z1) (aA_ hy j Z1 Z1) hu
 have e:decide (ds[j]? = es[j]?)=decide (ds[j]' Z1=es[j]' Z1):=by
  rw[ae' Z1,ae' Z1];by_cases z:ds[j]' Z1=es[j]' Z1
  ·simp[z]
  ·simp[z]
 rw[e];exact q
def rEqD{D:Type}[DecidableEq D](R:Rp D)(neg:Bool):V->V->Hp->VK->Prop:=λx y H Q=>∃d e,R H x d/\R H y e/\Q (.bl (if neg then !decide (d=e) else decide (d=e))) H
theorem ke_{D:Type}[DecidableEq D]{R:Rp D}(c:Cmp X n R)(hu:X.A.units+n+1<cLine):OpR X (compareOp .Eq) (rEqD (rL X.K R) false):=by
 intro pins s σ H x y v u Q I rx ry h;obtain⟨d,e,⟨a,xs,rfl,t,q⟩,⟨b,ys,rfl,t',q'⟩,hq⟩:=h;cases rx;cases ry;obtain⟨us,r,pl,_⟩:=I.list t;obtain⟨vs,r',pl',_⟩:=I.list t';have l1:=r.length;have l2:=r'.length;have l3:=a_1 q;have l4:=a_1 q';by_cases hl:d.length=e.length
 ·refine SeqAt.eq_listAt pl.isList pl'.isList (by simp only[ap'];omega) Z1 (gu_ c I r r' q q' (A:=X.A.in1) (by show X.A.units+1+n<cLine;omega)) ⟨.bl _,H,I,rfl,?_⟩;rw[show us.toArray.size=d.length by simp only[ap'];omega,d9_ hl];exact hq
 ·refine SeqAt.eq_list_lengthsAt pl.isList pl'.isList (by simp only[ap',bne_iff_ne];omega) Z1 ⟨.bl _,H,I,rfl,?_⟩;have hq:Q (.bl (decide (d=e))) H:=hq;rwa [a_4 (λz=>hl (by rw[z]))] at hq
theorem kb_{D:Type}[DecidableEq D]{R:Rp D}(c:Cmp X n R)(hu:X.A.units+n+1<cLine):OpR X (compareOp .NotEq) (rEqD (rL X.K R) true):=by
 intro pins s σ H x y v u Q I rx ry h;obtain⟨d,e,⟨a,xs,rfl,t,q⟩,⟨b,ys,rfl,t',q'⟩,hq⟩:=h;cases rx;cases ry;obtain⟨us,r,pl,_⟩:=I.list t;obtain⟨vs,r',pl',_⟩:=I.list t';have l1:=r.length;have l2:=r'.length;have l3:=a_1 q;have l4:=a_1 q';have hq:Q (.bl (!decide (d=e))) H:=hq;by_cases hl:d.length=e.length
 ·refine EvN.ne_listAt pl.isList pl'.isList (by simp only[ap'];omega) Z1 (gu_ c I r r' q q' (A:=X.A.in1) (by show X.A.units+1+n<cLine;omega)) ⟨.bl _,H,I,rfl,?_⟩;rw[show us.toArray.size=d.length by simp only[ap'];omega,d9_ hl];exact hq
 ·refine EvN.ne_sizesAt pl.isList pl'.isList (by simp only[ap',bne_iff_ne];omega) Z1 ⟨.bl _,H,I,rfl,?_⟩;rwa [a_4 (λz=>hl (by rw[z]))] at hq
def rInD(K:F__){D:Type}[DecidableEq D](R:Rp D)(neg:Bool):V->V->Hp->VK->Prop:=λx y H Q=>∃d es,R H x d/\rL K R H y es/\Q (.bl (if neg then !decide (d∈es) else decide (d∈es))) H
theorem lG_{D:Type}[DecidableEq D]{R:Rp D}(c:Cmp X n R){H:Hp}(I:Inv X pins σ H s){x:V}{u:Aa}{d:D}(ru:RelV x u)(hx:R H x d)(hu:A.units+n<cLine):∀{ys:List V} {vs:List Aa} {es:List D},Vals ys vs->Paired (R H) ys es->
  ∃f:Aa->Bool,(∀w∈vs,SeqAt.EqAt A s w u (f w))/\vs.any f=decide (d∈es):=λ{ys vs es} rv hy=>by
 let f:Aa->Bool:=λw=>@decide (∃y e,RelV y w/\R H y e/\e=d) (Classical.propDecidable _)
 have sound:∀y w e,RelV y w->R H y e->f w=decide (e=d):=λy w e h1 h2=>by
  by_cases z:e=d
  ·rw[a_5 z];exact @a_5 _ (Classical.propDecidable _) ⟨y,e,h1,h2,z⟩
  ·rw[a_4 z];refine @a_4 _ (Classical.propDecidable _) λ⟨y',e',g1,g2,g3⟩=>z ?_;have:y'=y:=RelV.inj g1 h1;subst this;rw[<- g3];exact c.one I h2 g2
 refine⟨f,?_,?_⟩
 ·induction rv generalizing es with
  |nil=>exact λw hw=>nomatch hw
  |cons h t ih=>
   cases hy with
   |cons g t'=>
    intro w hw;rcases ah'.mp hw with rfl|hw
    ·rw[sound _ _ _ h g];exact c.eq I h ru g hx hu
    ·exact ih t' w hw
 ·induction rv generalizing es with
  |nil=>
   cases hy;simp
  |cons h t ih=>
   cases hy with
   |@cons _ e _ es g t'=>
    rw[List.any_cons,ih t',sound _ _ _ h g];by_cases z:e=d
    ·subst z;simp
    ·by_cases z2:d∈es
     ·simp[z2]
     ·have:¬d∈e::es:=λq=>by
       rcases ah'.mp q with q|q
       ·exact z q.symm
       ·exact z2 q
      rw[a_4 z,a_4 z2,a_4 this];rfl
theorem kp_{D:Type}[DecidableEq D]{R:Rp D}(c:Cmp X n R)(hu:X.A.units+n+1<cLine):OpR X (compareOp .In) (rInD X.K R false):=by
 intro pins s σ H x y v u Q I rx ry h;obtain⟨d,es,hx,⟨a,ys,rfl,t,q⟩,hq⟩:=h;cases ry;obtain⟨us,r,pl,_⟩:=I.list t;obtain⟨f,h1,h2⟩:=lG_ c I (A:=X.A.in1) rx hx (by show X.A.units+1+n<cLine;omega) r q;refine SeqAt.in_listAt f pl.isList (λw hw=>h1 w (by simpa using hw)) ⟨.bl _,H,I,rfl,?_⟩;rw[show us.toArray.any f=us.any f by simp,h2];exact hq
inductive rIsi (K:F__) (xs:List V) (H:Hp) (Q:VK):Prop
 |mk:∀x T t b,xs=[x,.ty T]->TyOf K H x t->PySem.W.kitOne K t (.type T)=some b->Q (.bl b) H->rIsi K xs H Q
theorem aQ_:bB' X (.builtin "isinstance") (rIsi X.K):=by
 intro pins s σ H xs us Q I r h;obtain⟨x,T,t,b,rfl,ty,e,q⟩:=h;obtain⟨u,w',rfl,ru,rw'⟩:=vals2 r;cases (show w'=Value.type T from rw');exact fw_ I ru ty e λtk=>⟨.bl b,H,I.tok tk,rfl,q⟩
inductive dw' (x:V) (y:V) (H:Hp) (Q:VK):Prop
 |mk:∀i j,x=.str i->y=.str j->Q (.bl (!decide (j.cps.toList<i.cps.toList))) H->dw' x y H Q
theorem cV_:OpR X (compareOp .LtE) dw':=by
 intro pins s σ H x y v u Q I rx ry h;obtain⟨i,j,rfl,rfl,q⟩:=h;obtain⟨t,rfl⟩:=rx;obtain⟨t',rfl⟩:=ry;exact PySem.P.le_str ⟨.bl _,H,I,rfl,q⟩
inductive tViewR (mk:Addr->Addr->HO) (Q:VK) (x:V) (H1:Hp):Prop
 |mk:∀d kvs,x=.ref d->H1 d=some (.dK kvs)->(∀v,H1 v=none->Q (.ref v) (upd H1 v (mk v d)))->tViewR mk Q x H1
def tView(mk:Addr->Addr->HO)(td:TE):TE:=λσ H Q=>td σ H λx H1=>tViewR mk Q x H1
variable{H:Hp}{d:Addr}
theorem la_{cls:Ai}(I:Inv X pins σ H s)(φ:Heap->Prop)(hφ:φ (s.heap.push { cls:=.type cls,data:=.fields #[.ref d] }))(hs:∀h1 h2:Heap,φ h1->(∀o,h1.get? s.heap.objs.size=some o->h2.get? s.heap.objs.size=some o)->φ h2) :
  Inv X pins σ (upd H s.heap.objs.size (.ext φ)) { s with heap:=s.heap.push { cls:=.type cls,data:=.fields #[.ref d] } }:=
 I.laid (t':=s.toks) (λ_ _ q=>a_0 _ q) (ak' _) ⟨hφ,⟨_,a_7 _ rfl⟩,hs⟩
theorem ds_{o:Expr}{td:TE}{apos cpos:Pos}(ho:PE X o td)(hbase:attributeBase o "items" X.env (eval o X.env)=eval o X.env:=by rfl)(hline:(apos.endLine == cpos.line)=true:=by rfl):PE X (.Call (.Attribute o "items" apos) [] [] cpos) (tView bG' td):=by
 intro pins s σ H Q I h;refine wpAny_Call_method0_late hbase hline (thn (ho pins s σ H _ I h) λv s1 ⟨x,H1,I1,r1,d,kvs,e,hd,q⟩=>?_);subst e;cases r1;obtain⟨t1,t2,t3⟩:=lP_ I1 (.inl ⟨kvs,.inl hd⟩);obtain⟨_,_,vs,rel,dd⟩:=jM_ I1.hok hd;refine⟨"dict","dict.items",PySem.F.plainAttrs_dict,PySem.F.slot_dict_items,PySem.F.type_dict_items,t1,t2,Calls.callWith_builtin rfl (PySem.evalArgs_none ?_)⟩;refine call_meetsIn PySem.F.slot_dict_items t1 PySem.F.entry_dict_items (PySem.F.args_dict_items_1 _) (meets_dict_items (bi' X.prog X.w) d t3) ⟨⟨vs,dd⟩,?_⟩;exact⟨.ref _,_,la_ I1 _ ⟨_,a_7 _ rfl,rfl,rfl⟩ λh1 h2 ⟨o,e,r⟩ k=>⟨o,k o e,r⟩,rfl,q _ I1.fresh⟩
variable{kvs:List (Key × V)}
theorem Inv.freeze(I:Inv X pins σ H s)(h:H d=some (.dK kvs)):∃o,s.heap.get? d=some o/\Inv X pins σ (upd H d (.frz o (.dK kvs))) s:=by
 obtain⟨z,hd,vs,rel,dd⟩:=jM_ I.hok h;obtain⟨o,es,ep,ho,r⟩:=id dd;have other:∀{b u},H b=some u->u≠.dK kvs->upd H d (.frz o (.dK kvs)) b=some u:=λ{b u} e ne=>by rw[a8_ (be_ e h ne)];exact e
 refine⟨o,ho,I.un (h':=s.heap) (t':=s.toks) ⟨λb u q _ _ _=>q,λb u q _ _ _=>⟨u.slots,q⟩,λb u q n _=>?_,λb u q _=>⟨u,q⟩,λb xs q=>other q Z2,λb u v q=>other q Z2,λb ps q=>⟨#[],by rw[Array.append_empty];exact other q Z2⟩⟩ λb u q=>?_⟩
 ·by_cases e:b=d
  ·subst e;rw[h] at n;cases n
  ·rw[a8_ e];exact n
 ·by_cases e:b=d
  ·subst e;rw[a1_] at q;cases q;exact⟨ho,z,hd,vs,rel,dd⟩
  ·rw[a8_ e] at q;exact (I.hok b u q).stay (λc v _ z=>z) (λc z=>other z Z2) λc xs z=>other z Z2
variable{o:Obj}
theorem Inv.thaw(I:Inv X pins σ H s)(h:H d=some (.frz o (.dK kvs)))(h0:∀o u,X.H₀ d≠some (.frz o u)):Inv X pins σ (upd H d (.dK kvs)) s:=by
 have other:∀{b u},H b=some u->(∀o v,u≠.frz o v)->upd H d (.dK kvs) b=some u:=λ{b u} e ne=>by rw[a8_ (be_ e h (ne _ _))];exact e
 have none':∀{b},H b=none->upd H d (.dK kvs) b=none:=λ{b} e=>by
  rw[a8_ (λz=>by subst z;rw[h] at e;cases e)];exact e
 refine⟨I.ok,I.os,I.bare,⟨I.base.keep,I.base.slot,λb u q n hx=>none' (I.base.free b u q n hx),I.base.there,λb xs q=>other (I.base.tups b xs q) Z2,λb u v q=>?_,λb ps q=>?_⟩,I.loc,I.cell,none' I.free,λx c e=>none' (I.freeC x c e),λp hp=>?_,λb u q=>?_,I.len⟩
 ·have:=I.base.frzs b u v q;rw[a8_ (λz=>by subst z;exact h0 _ _ q)];exact this
 ·obtain⟨more,e⟩:=I.base.tbls b ps q;exact⟨more,other e Z2⟩
 ·obtain⟨a1,a2,a3⟩:=I.pin p hp;exact⟨a1,none' a2,a3⟩
 ·by_cases e:b=d
  ·subst e;rw[a1_] at q;cases q;obtain⟨ho,z,hd,vs,rel,dd⟩:=I.hok b _ h;exact⟨z,hd,vs,rel,dd⟩
  ·rw[a8_ e] at q;exact (I.hok b u q).stay (λc v _ z=>z) (λc z=>other z Z2) λc xs z=>other z Z2
theorem ei_{es:Array DictEntry}{ep:Nat}(I:Inv X pins σ H s)(h:H d=some (.frz o (.dK kvs)))(ho:o.data=.dict es ep):∃vs,KV kvs vs/\s.heap.DictAt (bi' X.prog X.w) d vs ep:=by
 obtain⟨e,z,hd,vs,rel,o',es',ep',e',c',d',r⟩:=I.hok d _ h;rw[e] at e';cases e';rw[ho] at d';cases d';exact⟨vs,rel,o,es,e,c',ho,r⟩
theorem lv_{κ:Type}{kvs:List (κ × V)}{vs:List (κ × Aa)}(r:KV kvs vs):∀(i:Nat) {k:κ} {x:V},kvs[i]? = some (k,x)->∃u,vs[i]? = some (k,u)/\RelV x u:=by
 induction r with
 |nil=>intro i k x e;simp at e
 |@cons p q _ _ h _ ih=>
  intro i k x e;cases i with
  |zero=>
   have e:p=(k,x):=by simpa using e
   subst e;refine⟨q.2,?_,h.2⟩;rw[List.getElem?_cons_zero];have h1:k=q.1:=h.1;rw[h1]
  |succ i=>exact ih i (by simpa using e)
def Its(x:Str):It:=⟨λi _=>i<x.cps.size,λi H v H'=>H'=H/\∃c,x.cps[i]? = some c/\v=.str ⟨#[c]⟩,λi _=>x.cps.size<=i⟩
variable{P:Ae}{w:Ag}{K:F__}{tg:Expr}
theorem hq_(it:Addr)(x:Str)(t:Tok):Turn P w K tg (Its x) [it] it (λi h=>i<=x.cps.size/\h.IsStrIter it "str_ascii_iterator" x t i) where
 mem:=by simp
 obj:=λi h st b hb=>by
  obtain rfl:b=it:=by simpa using hb
  obtain⟨o,e,c,d⟩:=st.2;exact⟨o,e,λv z=>by rw[d] at z;cases z⟩
 keep:=λi h h' st k=>⟨st.1,let ⟨o,ho,r⟩:=st.2;⟨o,k it Z2 o ho,r⟩⟩
 item:=by
  intro X hP hw hK hc i pins s σ H E I hf st hg;subst hP hw hK;have hg:i<x.cps.size:=hg;obtain⟨f0,f1,f2,f3,f4,f5⟩:=hf it Z2;refine wpAny_pyNext_ascii_item st.2 (c:=x.cps[i]) (by simp[hg]) λh' st' sb=>?_;have I1:Inv X pins σ H { s with heap:=h',toks:=s.toks+1 }:=I.turned (t':=s.toks+1) (λb o hb e=>(sb.2 b hb).trans e) f0 f1 f3 f4 f5;obtain⟨o',e,c,dd⟩:=id st';exact⟨_,rfl,j2_ (s:={ s with heap:=h',toks:=s.toks+1 }) e c dd (by decide) ⟨.str ⟨#[x.cps[i]]⟩,H,I1,⟨_,rfl⟩,⟨rfl,_,by simp[hg],rfl⟩,⟨hg,st'⟩,λb hb=>(hf b hb).1⟩⟩
 done:=by
  intro X hP hw hK hc i pins s σ H E I hf st hg;subst hP hw hK;have hg:x.cps.size<=i:=hg;obtain⟨f0,f1,f2,f3,f4,f5⟩:=hf it Z2;exact wpAny_pyNext_ascii_end (I.ok.hd hc) st.2 (by simp[hg]) λh' eb=>⟨rfl,I.turned (t':=s.toks) (λb o hb e=>eb b o hb e) f0 f1 f3 f4 f5⟩
 self:=λ_ _ _ _ _ st h=>wpAny_pyIter_striter_ascii st.2 h
theorem iP_(it:Addr)(x:Str)(t:Tok):Turn P w K tg (Its x) [it] it (λi h=>i<=x.cps.size/\h.IsStrIter it "str_iterator" x t i) where
 mem:=by simp
 obj:=λi h st b hb=>by
  obtain rfl:b=it:=by simpa using hb
  obtain⟨o,e,c,d⟩:=st.2;exact⟨o,e,λv z=>by rw[d] at z;cases z⟩
 keep:=λi h h' st k=>⟨st.1,let ⟨o,ho,r⟩:=st.2;⟨o,k it Z2 o ho,r⟩⟩
 item:=by
  intro X hP hw hK hc i pins s σ H E I hf st hg;subst hP hw hK;have hg:i<x.cps.size:=hg;obtain⟨f0,f1,f2,f3,f4,f5⟩:=hf it Z2;refine wpAny_pyNext_wide_item st.2 (c:=x.cps[i]) (by simp[hg]) λh' st' sb=>?_;have I1:Inv X pins σ H { s with heap:=h',toks:=s.toks+1 }:=I.turned (t':=s.toks+1) (λb o hb e=>(sb.2 b hb).trans e) f0 f1 f3 f4 f5;obtain⟨o',e,c,dd⟩:=id st';exact⟨_,rfl,j2_ (s:={ s with heap:=h',toks:=s.toks+1 }) e c dd (by decide) ⟨.str ⟨#[x.cps[i]]⟩,H,I1,⟨_,rfl⟩,⟨rfl,_,by simp[hg],rfl⟩,⟨hg,st'⟩,λb hb=>(hf b hb).1⟩⟩
 done:=by
  intro X hP hw hK hc i pins s σ H E I hf st hg;subst hP hw hK;have hg:x.cps.size<=i:=hg;obtain⟨f0,f1,f2,f3,f4,f5⟩:=hf it Z2;exact wpAny_pyNext_wide_end (I.ok.hd hc) st.2 (by simp[hg]) λh' eb=>⟨rfl,I.turned (t':=s.toks) (λb o hb e=>eb b o hb e) f0 f1 f3 f4 f5⟩
 self:=λ_ _ _ _ _ st h=>wpAny_pyIter_striter_wide st.2 h
inductive iStrR (R:It->Hp->Prop) (v:V) (H1:Hp):Prop
 |mk:∀x,v=.str x->R (Its x) H1->iStrR R v H1
def iStr(tl:TE):TI:=λσ H R=>tl σ H λv H1=>iStrR R v H1
theorem kq_{l:Expr}{tl:TE}(hl:PE X l tl):PI X tg l (iStr tl):=by
 intro pins s σ H R I h;refine thn (hl pins s σ H _ I h) λv s1 ⟨y,H1,I1,r1,x,e,q⟩=>?_;subst e;obtain⟨t,rfl⟩:=r1
 have fp:∀b∈[s1.heap.objs.size],FpOk X pins H1 b:=λb hb=>by
  obtain rfl:b=s1.heap.objs.size:=by simpa using hb
  exact I1.fpOk (ak' _) (I1.hok.fresh (ak' _))
 cases ha:x.cps.all (· < 128)
 ·refine wpAny_pyIter_wide ha ?_;exact⟨s1.heap.objs.size,[s1.heap.objs.size],_,_,H1,rfl,I1.kept (t':=s1.toks) λb o e=>a_0 _ e,iP_ _ x t,⟨aJ' _,_,a_7 _ rfl,rfl,rfl⟩,fp,q⟩
 ·refine wpAny_pyIter_ascii ha ?_;exact⟨s1.heap.objs.size,[s1.heap.objs.size],_,_,H1,rfl,I1.kept (t':=s1.toks) λb o e=>a_0 _ e,hq_ _ x t,⟨aJ' _,_,a_7 _ rfl,rfl,rfl⟩,fp,q⟩
theorem opK{f:Aa->Aa->Sem Aa}(r:F__->R2)(h:OpR X f (r X.K))(hK:X.K=K:=by rfl):OpR X f (r K):=by
 subst hK;exact h
theorem cY'{f:Aa}(r:F__->List V->Hp->VK->Prop)(h:bB' X f (r X.K))(hK:X.K=K:=by rfl):bB' X f (r K):=by
 subst hK;exact h
theorem ixK(r:F__->R2)(h:IxR X (r X.K))(hK:X.K=K:=by rfl):IxR X (r K):=by
 subst hK;exact h
abbrev eA'(K:F__):=b1' K
abbrev rTupOf(K:F__):=bS' K
theorem ez'(hK:X.K=K:=by rfl):bB' X (.type "list") (eA' K):=cY' eA' fd_ hK
theorem eZ'(hK:X.K=K:=by rfl):bB' X (.type "tuple") (rTupOf K):=cY' rTupOf ey_ hK
theorem c2_{N:List Str}{scope:Scope}{fp:List Addr}{es:List Expr}{k:Nat}{pos:Pos}{t:TGs}(h:PGs (bu' X N scope fp s H) es t)(hc:X.calm=true:=by rfl)(hn:(assignEach es (bu' X N scope fp s H).env).length=n:=by rfl)(hst:(assignEach es (bu' X N scope fp s H).env).findIdx? (·.1)=none:=by rfl):PG (bu' X N scope fp s H) (.Tuple es k pos) (gTup X.K n t):=ch_ (X:=bu' X N scope fp s H) hc h hn hst
end L2
namespace Ev
open PySem L2
def top(i:Nat):Stmt:=PySem.Challenge.pw_evenpieces_k73_texts_of_no_goods.main.body.getD i (.Pass ⟨0,0,0,0⟩)
abbrev sIsW:Stmt:=top 11
abbrev sWhole:Stmt:=top 12
abbrev sName:Stmt:=top 13
abbrev en':Stmt:=top 14
abbrev sPair:Stmt:=top 15
abbrev dF':Stmt:=top 16
abbrev sAnew:Stmt:=top 17
abbrev sHand:Stmt:=top 21
abbrev sStr:Stmt:=top 22
abbrev sTies:Stmt:=top 23
abbrev sNear:Stmt:=top 24
abbrev sWeb:Stmt:=top 25
def ltS(a b:Str):Bool:=decide (a.cps.toList<b.cps.toList)
def ord2(a b:Str):Str × Str:=if ltS a b=true then (a,b) else (b,a)
variable{f:Addr}{fd:Af}
variable{X:Cx}{k:Nat}{ps:List Str}{sp:Sp}{pos:Pos}{e:Expr}{es:List Expr}{t:TA}
section
variable{P:Ae}{w:Ag}{K:F__}{mg:Str->Option Aa}{base:Heap}
theorem f__{N p:List Str}{c:Scope}(h:ba' N p c:=by exact⟨rfl,rfl,rfl,by decide +kernel,rfl,by decide +kernel,by decide +kernel⟩):ba' N p c:=h
theorem scLesser:ba' ["one","other"] ["one","other"] (a9' en'):=f__
def cA':Sp:=λvs H Q _=>∃a b,vs=[.str a,.str b]/\∀t,H t=none->Q (.ref t) (upd H t (.tup [.str (ord2 a b).1,.str (ord2 a b).2]))
theorem hH_(F:Fun K "lesser_first" "lesser_first" en' f fd):FnOk P w K mg base CX0 1 f fd ["one","other"] cA':=by
 refine F.okA scLesser λcdv A outer s H vs Q E hr h=>?_
 ·obtain⟨a,b,rfl,k⟩:=h;refine⟨_,a5_ (ae_ (gL_ (ar_ ie_ (pv 0) (pv 1) (nomark _)) (b9_ (a0_ (pv 0) (a0_ (pv 1) a2_))) (b9_ (a0_ (pv 1) (a0_ (pv 0) a2_))))),?_⟩;refine⟨_,rfl,_,rfl,a,b,rfl,rfl,_,rfl,?_⟩;refine ite2 (λc=>?_) (λc=>?_)
  ·refine⟨_,rfl,_,rfl,by show 2<=sizeLine;decide,λt ht=>?_⟩;have:=k t ht;rwa [show ord2 a b=(a,b) from b_0 c] at this
  ·refine⟨_,rfl,_,rfl,by show 2<=sizeLine;decide,λt ht=>?_⟩;have:=k t ht;rwa [show ord2 a b=(b,a) from a_8 c] at this
theorem scWhole:ba' ["thing","least","most"] ["thing","least","most"] (a9' sWhole):=f__
def dh':Sp:=λvs H Q _=>∃i a b:Int,vs=[.int i,.int a,.int b]/\Q (.bl (decide (a<=i)&&decide (i<=b))) H
structure Bi (mg:Str->Option Aa):Prop where
 isi:mg "isinstance"=none
 int:mg "int"=none
 bool:mg "bool"=none
 str:mg "str"=none
 tuple:mg "tuple"=none
 list:mg "list"=none
 dict:mg "dict"=none
 len:mg "len"=none
 all:mg "all"=none
 sorted:mg "sorted"=none
 max:mg "max"=none
 range:mg "range"=none
 any:mg "any"=none
 enum:mg "enumerate"=none
structure Cal (P:Ae) (w:Ag) (K:F__) (mg:Str->Option Aa) (base:Heap) (k:Nat) (x:Str) (ps:List Str) (sp:Sp):Prop where
 ex:∃f fd,FnOk P w K mg base CX0 k f fd ps sp/\mg x=some (.ref f)/\PySem.W.keepIn K (.ref f)=true/\ck' K fd ps []
theorem al_{x:Str}{p:Pos}(c:Cal X.prog X.w X.K X.mg X.base k x ps sp)(hr:Room k X.A)(ha:PA X (e::es) t)(hg:Gl X x:=by rfl)(hdb:(x == ("__debug__":Str))=false:=by decide)(he:starEach (e::es) X.env=(false,eval e X.env)::starEach es X.env:=by rfl)(hpl:(backTo pos (starEach es X.env)).any (·.1)=false:=by rfl):PE X (.Call (.Name x p) (e::es) [] pos) (tCall sp [] E0 t):=by
 obtain⟨f,fd,F,m,kp,b⟩:=c.ex;exact fM_ F hr hg m kp b .nil pass0 ha hdb he hpl
theorem scIsW:ba' ["thing"] ["thing"] (a9' sIsW):=f__
def spIsW:Sp:=λvs H Q _=>∃i:Int,vs=[.int i]/\Q (.bl true) H
theorem m0_(F:Fun K "is_whole" "is_whole" sIsW f fd)(B:Bi mg):FnOk P w K mg base CX0 1 f fd ["thing"] spIsW:=by
 refine F.okA scIsW λcdv A outer s H vs Q E hr h=>?_
 ·obtain⟨i,rfl,k⟩:=h;refine⟨_,a5_ (ae_ (bF_ (a7_ aQ_ (by rfl) B.isi ab_ (a0_ (pv 0) (a0_ (b1_ (v:=.ty "int") (by rfl) B.int ea_ rfl) a2_))) (bZ_ (fx_ (a7_ aQ_ (by rfl) B.isi ab_ (a0_ (pv 0) (a0_ (b1_ (v:=.ty "bool") (by rfl) B.bool PyProof.Rows.Boot.«bool» rfl) a2_))))))),?_⟩;exact⟨_,rfl,_,_,_,_,rfl,.int i,rfl,_,rfl,iteT ⟨_,rfl,_,_,_,_,rfl,.int i,rfl,_,rfl,k⟩⟩
theorem jE_(F:Fun K "is_whole_within" "is_whole_within" sWhole f fd)(cI:Cal P w K mg base 1 "is_whole" ["thing"] spIsW):FnOk P w K mg base CX0 2 f fd ["thing","least","most"] dh':=by
 refine F.okA scWhole λcdv A outer s H vs Q E hr h=>?_
 ·obtain⟨i,a,b,rfl,k⟩:=h;refine⟨_,a5_ (ae_ (bF_ (al_ cI hr (a0_ (pv 0) a2_)) (bZ_ (eI_ e2_ e2_ (pv 1) (pv 0) (pv 2))))),?_⟩;refine⟨_,rfl,i,rfl,_,rfl,iteT ?_⟩;refine⟨_,rfl,_,rfl,_,_,rfl,rfl,_,rfl,?_⟩;refine ite2 (λc=>?_) (λc=>?_)
  ·refine⟨_,rfl,_,_,rfl,rfl,?_⟩;rw[c] at k;exact k
  ·rw[show decide (a<=i)=false by simpa using c] at k;exact k
def okc(c:Nat):Bool:=decide (97<=c)&&decide (c<=122)
def bd'(x:Str):Bool:=decide (1<=x.length)&&decide (x.length<=8)&&x.cps.toList.all okc
theorem scName:ba' ["thing"] ["thing"] (a9' sName):=f__
def da':Sp:=λvs H Q _=>∃x:Str,vs=[.str x]/\x.length<=100000/\∀H',Same H H'->Q (.bl (bd' x)) H'
theorem l6_{c:Nat}:(!decide ((⟨#[c]⟩:Str).cps.toList<("a":Str).cps.toList))=decide (97<=c):=by
 have e:("a":Str).cps.toList=[97]:=by decide +kernel
 rw[e];show (!decide ([c] < [97]))=decide (97<=c);by_cases h:97<=c
 ·have:¬[c] < [97]:=by simp[aU'];omega
  simp[this,h]
 ·have:[c] < [97]:=by simp[aU'];omega
  simp[this,h]
theorem kO_{c:Nat}:(!decide (("z":Str).cps.toList<(⟨#[c]⟩:Str).cps.toList))=decide (c<=122):=by
 have e:("z":Str).cps.toList=[122]:=by decide +kernel
 rw[e];show (!decide ([122] < [c]))=decide (c<=122);by_cases h:c<=122
 ·have:¬[122] < [c]:=by simp[aU'];omega
  simp[this,h]
 ·have:[122] < [c]:=by simp[aU'];omega
  simp[this,h]
theorem kQ_(F:Fun K "is_name" "is_name" sName f fd)(B:Bi mg){t8:Tok}(m8:mg "MOST_LETTERS"=some (.int 8 t8)):FnOk P w K mg base CX0 1 f fd ["thing"] da':=by
 refine F.okA scName λcdv A outer s H vs Q E hr h=>?_
 ·obtain⟨x,rfl,hz,k⟩:=h;have sz:=b__
  refine⟨_,a3_ (aw_ (e5_ (aH_ (aK_ (a7_ aQ_ (by rfl) B.isi ab_ (a0_ (pv 0) (a0_ (b1_ (v:=.ty "str") (by rfl) B.str dg_ rfl) a2_)))))
    (cz_ (aH_ (du_ e2_ e2_ a4_ (a7_ bp_ (by rfl) B.len b_3 (a0_ (pv 0) a2_)) (bd_ (v:=.int 8) (by rfl) m8 ⟨t8,rfl⟩))))).pt (a5_ (ae_ e7_)) aa_)
   (a5_ (ae_ (a7_ (cZ_ rfl) (by rfl) B.all ft_ (a0_
    (aR_ ["letter"] 1 [] (kq_ (pv 0)) (λfp s H=>aY_ 0) (λfp s H=>aT_) (λfp s H=>eI_ cV_ cV_ a9_ (pv 0) a9_)) a2_)))),?_⟩
  refine⟨_,rfl,_,_,_,_,rfl,.str x,rfl,_,rfl,?_⟩;refine iteF ?_;refine⟨_,rfl,x,rfl,by omega,_,_,rfl,rfl,_,rfl,?_⟩
  have fin:(decide (1<=x.length)&&decide (x.length<=8))=false->∀H',Same H H'->Q (.bl false) H':=λe H' sm=>by
   have:=k H' sm;rwa [show bd' x=false by unfold bd';rw[e];rfl] at this
  refine ite2 (λc=>?_) (λc=>?_)
  ·have c1:1<=x.length:=by
    have:(1:Int)<=(x.length:Int):=by simpa using c
    omega
   refine⟨_,_,rfl,rfl,_,rfl,?_⟩;refine ite2 (λc2=>?_) (λc2=>?_)
   ·-- too long
    have c3:¬x.length<=8:=by
     have:¬((x.length:Int)<=8):=by simpa using c2
     omega
    exact fin (by rw[a_4 c3,Bool.and_false]) H (Same.refl H)
   ·have c3:x.length<=8:=by
     have:(x.length:Int)<=8:=by simpa using c2
     omega
    refine⟨_,rfl,x,rfl,λD hD=>?_⟩;refine gb_ (own:=1) (fv:=[]) rfl gok1 x.cps.size (λi out H'=>H'=upd H D (.lst out)/\out=((x.cps.toList.take i).map okc).map V.bl) ⟨rfl,by simp⟩ (λout H' ⟨e1,e2⟩=>?_) (λi out H' hi ⟨e1,e2⟩=>?_)
    ·refine⟨ak' _,D,x.cps.toList.map okc,rfl,.of ?_,?_⟩
     ·rw[e1,a1_,e2,aI' Z2]
     ·have:=k H' (by rw[e1];exact Same.new hD);rwa [show bd' x=(x.cps.toList.map okc).all id by unfold bd';rw[a_5 c1,a_5 c3,List.all_map];rfl] at this
    ·refine⟨hi,λv H2 y=>?_⟩;obtain⟨eH,c,hc,rfl⟩:=y;subst eH;refine⟨_,rfl,rfl,λNx hN=>yesT ?_⟩
     have lo:out.length<sizeLine:=by
      rw[e2];have hs:x.length=x.cps.size:=rfl;simp only[aa',af',aP'];omega
     have nx:Nx (upd H2 D (.lst (out++[V.bl (okc c)]))):=hN (out++[V.bl (okc c)]) _ ⟨by rw[e1,dC_],by
      rw[e2,aH'];simp[hc]⟩
     have atD:H2 D=some (.lst out):=by rw[e1,a1_]
     refine⟨_,rfl,_,_,rfl,rfl,_,rfl,?_⟩;rw[l6_];refine ite2 (λc2=>?_) (λc2=>?_)
     ·refine⟨_,_,rfl,rfl,out,atD,lo,?_⟩;rw[kO_];rwa [show okc c=decide (c<=122) by unfold okc;rw[c2];rfl] at nx
     ·refine⟨out,atD,lo,?_⟩;rwa [show okc c=false by unfold okc;rw[show decide (97<=c)=false by simpa using c2];rfl] at nx
  ·have c1:¬1<=x.length:=by
    have:¬((1:Int)<=(x.length:Int)):=by simpa using c
    omega
   exact⟨_,rfl,iteT (fin (by rw[a_4 c1];rfl) H (Same.refl H))⟩
end
def kT(t:Str × Str):List Key:=[.inr t.1,.inr t.2]
def cc'(t:Str × Str):Prop:=bd' t.1=true/\bd' t.2=true/\t.1≠t.2
theorem ag_{x:Str}(h:bd' x=true):x.length<=8:=by
 unfold bd' at h;simp only[az',b_9] at h;exact h.1.2
theorem hpT{H:Hp}{p:Addr}{t:Str × Str}(h:H p=some (.tup ((kT t).map kV))):H p=some (.tup [.str t.1,.str t.2]):=h
variable{ks:List (List Key)}
variable{D:Addr}{o:HO}
section
variable{P:Ae}{w:Ag}{K:F__}{mg:Str->Option Aa}{base:Heap}
theorem scPair:ba' ["thing"] ["thing"] (a9' sPair):=f__
def eQ':Sp:=λvs H Q _=>∃(p:Addr) (a b:Str),vs=[.ref p]/\H p=some (.tup [.str a,.str b])/\a.length<=100000/\b.length<=100000/\∀H',Same H H'->Q (.bl (bd' a&&bd' b&&!decide (a=b))) H'
theorem kM_(F:Fun K "is_pair_of_names" "is_pair_of_names" sPair f fd)(B:Bi mg)(cN:Cal P w K mg base 1 "is_name" ["thing"] da'):FnOk P w K mg base CX0 2 f fd ["thing"] eQ':=by
 refine F.okA scPair λcdv A outer s H vs Q E hr h=>?_
 ·obtain⟨p,a,b,rfl,hp,la,lb,k⟩:=h
  refine⟨_,a3_ (aw_ (e5_ (aH_ (aK_ (a7_ aQ_ (by rfl) B.isi ab_ (a0_ (pv 0) (a0_ (b1_ (v:=.ty "tuple") (by rfl) B.tuple bK_ rfl) a2_)))))
    (cz_ (ar_ e6_ (a7_ ak_ (by rfl) B.len b_3 (a0_ (pv 0) a2_)) a4_ (nomark _)))).pt (a5_ (ae_ e7_)) aa_)
   (a5_ (ae_ (bF_ (al_ cN hr (a0_ (aj_ aO_ (pv 0) a4_ (λ_ _=>rfl)) a2_)) (bF_ (al_ cN hr (a0_ (aj_ aO_ (pv 0) a4_ (λ_ _=>rfl)) a2_))
    (bZ_ (bI_ e6_ (aj_ aO_ (pv 0) a4_ (λ_ _=>rfl)) (aj_ aO_ (pv 0) a4_ (λ_ _=>rfl)) (nomark _))))))),?_⟩
  refine⟨_,rfl,_,_,_,_,rfl,.tup hp,rfl,_,rfl,iteF ?_⟩;refine⟨_,rfl,p,_,rfl,.inr (.of hp),rfl,_,rfl,?_⟩;refine iteNS (show V.int ((2:Nat):Int)=V.int 2 from rfl) ?_;refine⟨_,rfl,p,_,_,_,rfl,rfl,.of hp,rfl,a,rfl,la,λH1 s1=>⟨_,rfl,?_⟩⟩;have hp1:=s1 _ _ hp;refine ite2 (λc=>?_) (λc=>?_)
  ·refine⟨_,rfl,p,_,_,_,rfl,rfl,.of hp1,rfl,b,rfl,lb,λH2 s2=>⟨_,rfl,?_⟩⟩;have hp2:=s2 _ _ hp1;have kk:=k H2 (s1.trans s2);refine ite2 (λc2=>?_) (λc2=>?_)
   ·refine⟨_,rfl,p,_,_,_,rfl,rfl,.of hp2,rfl,_,rfl,p,_,_,_,rfl,rfl,.of hp2,rfl,rfl,?_⟩;rw[c,c2] at kk
    have e:decide (V.str a=V.str b)=decide (a=b):=by
     by_cases z:a=b
     ·simp[z]
     ·simp[z]
    show Q (.bl (!decide (V.str a=V.str b))) H2;rw[e];exact kk
   ·rw[c,show bd' b=false by simpa using c2] at kk;exact kk
  ·have kk:=k H1 s1;rw[show bd' a=false by simpa using c] at kk;exact kk
theorem bP':ba' ["ties","found","pair","tie"] ["ties"] (a9' dF'):=f__
def cy'(K:F__):Sp:=λvs H Q _=>∃(l:Addr) (ys:List V) (ts:Xb),vs=[.ref l]/\H l=some (.lst ys)/\bb' K H ys (ts.map kT)/\(∀t∈ts,cc' t)/\(ts.map λt=>kT (ord2 t.1 t.2)).Nodup/\ts.length<64 /\
 ∀l' zs H',Same H H'->H l'=none->H' l'=some (.lst zs)->bb' K H' zs (sortKs (ts.map λt=>kT (ord2 t.1 t.2)))->Q (.ref l') H'
theorem aJ_{α β γ:Type}{F:α->γ->Prop}{g:β->γ}{ys:List α}{ts:List β}(t:Paired F ys (ts.map g)){i:Nat}{y:α}(h:ys[i]? = some y):∃x,ts[i]? = some x/\F y (g x):=by
 have hi:i<ys.length:=(ab'.mp h).1;have hl:=a_1 t;rw[aa'] at hl;have:=aA_ t i hi (by rw[aa'];omega);rw[List.getElem_map] at this;refine⟨ts[i],ae' Z1,?_⟩;rw[(ab'.mp h).2] at this;exact this
theorem aP_{κ:Type}[DecidableEq κ]{kvs:List (κ × V)}{k:κ}(h:k∉kvs.map (·.1)):valV kvs k=none:=by
 cases e:valV kvs k with
 |none=>rfl
 |some v=>exact absurd (kr_ e) h
theorem aq_{α β:Type}(g:α->β){ts:List α}{i:Nat}{x:α}(h:ts[i]? = some x):(ts.take (i+1)).map g=(ts.take i).map g++[g x]:=by
 rw[aH',h,ag'];rfl
theorem bz_{α β:Type}{g:α->β}{ts:List α}{i:Nat}{x:α}(h:(ts.map g).Nodup)(hx:ts[i]? = some x):g x∉(ts.take i).map g:=by
 intro m;have hi:i<ts.length:=(ab'.mp hx).1;obtain⟨y,hy,e⟩:=ac'.mp m;obtain⟨j,hj,e2⟩:=aG' hy;rw[af'] at hj;rw[List.getElem_take] at e2;rw[aO',aK',List.pairwise_iff_getElem] at h;refine h j i Z1 hi Z1 ?_;rw[e2,e,(ab'.mp hx).2]
theorem f0_(F:Fun K "sorted_ties" "sorted_ties" dF' f fd)(B:Bi mg)(cP:Cal P w K mg base 2 "is_pair_of_names" ["thing"] eQ')(cL:Cal P w K mg base 1 "lesser_first" ["one","other"] cA'):FnOk P w K mg base CX0 3 f fd ["ties"] (cy' K):=by
 refine F.okA bP' λcdv A outer s H vs Q E hr h=>?_
 ·obtain⟨l,ys,ts,rfl,hl,tu,good,nd,h64,k⟩:=h;have hu:=br_ hr;have hr1:Room 1 _:=hr.mono (by decide);have sz:=b__
  refine⟨_,a3_ (aw_ (aH_ (aK_ (a7_ aQ_ (by rfl) B.isi ab_ (a0_ (pv 0) (a0_ (b1_ (v:=.ty "list") (by rfl) B.list bm_ rfl) a2_))))) ac_ aa_)
   (a3_ (ao_ 1 bP'.nd gP_)
   (a3_ (b3_ b_7 rfl (ah_ (pv 0)) (b5_ 2 bP'.nd)
    (a3_ (aw_ (aH_ (aK_ (al_ cP hr (a0_ (pv 2) a2_)))) ac_ aa_)
    (a3_ (ao_ 3 bP'.nd (al_ cL hr1 (a0_ (aj_ aO_ (pv 2) a4_ (λ_ _=>rfl)) (a0_ (aj_ aO_ (pv 2) a4_ (λ_ _=>rfl)) a2_))))
    (a3_ (aw_ (bg_ (cX_ hu (pv 3) (pv 1))) ac_ aa_)
    (a5_ (c0_ hu (pv 1) (pv 3) e7_ rfl))))))
   (a5_ (ae_ (a7_ (g2_ rfl) (by rfl) B.sorted b8_ (a0_ (pv 1) a2_)))))),?_⟩
  refine⟨_,rfl,_,_,_,_,rfl,.lst hl,rfl,_,rfl,iteF ?_⟩;intro d hd;have s0:Same H (upd H d (.dT [])):=Same.new hd;refine⟨_,rfl,l,rfl,⟨_,.of (s0 _ _ hl)⟩,aV_ (K:=K) (a:=l) (xs:=ys) (λi σ H2=>∃(v3 v4:Option V),σ=[some (.ref l),some (.ref d),v3,v4]/\Same H H2/\H2 d=some (.dT ((ts.take i).map λt=>(kT (ord2 t.1 t.2),V.bl true)))) ⟨none,none,rfl,s0,a1_⟩ (λi σ H2 _ ⟨_,_,_,s2,_⟩=>.of (s2 _ _ hl)) ?_ ?_⟩
  ·rintro i y σ H2 hy ⟨v3,v4,rfl,s2,hd2⟩;obtain⟨t,ht,a,rfl,ha⟩:=aJ_ tu hy;obtain⟨g1,g2,g3⟩:=good t (ad' ht);have ha2:=s2 _ _ (hpT ha);refine⟨_,rfl,a,t.1,t.2,rfl,ha2,by have:=ag_ g1;omega,by have:=ag_ g2;omega,λH3 s3=>⟨_,rfl,?_⟩⟩;have ha3:=s3 _ _ ha2;have hd3:=s3 _ _ hd2;rw[g1,g2,a_4 g3];refine iteF ?_;refine⟨_,rfl,a,_,_,_,rfl,rfl,.of ha3,rfl,_,rfl,a,_,_,_,rfl,rfl,.of ha3,rfl,t.1,t.2,rfl,λb hb=>?_⟩;have s4:Same H3 (upd H3 b (.tup [.str (ord2 t.1 t.2).1,.str (ord2 t.1 t.2).2])):=Same.new hb;have hd4:=s4 _ _ hd3;have hb4:upd H3 b (.tup [.str (ord2 t.1 t.2).1,.str (ord2 t.1 t.2).2]) b=some (.tup ((kT (ord2 t.1 t.2)).map kV)):=a1_
   have nov:valV ((ts.take i).map λt=>(kT (ord2 t.1 t.2),V.bl true)) (kT (ord2 t.1 t.2))=none:=aP_ (by
    rw[ao'];exact bz_ (g:=λt=>kT (ord2 t.1 t.2)) nd ht)
   refine⟨_,rfl,_,rfl,d,_,rfl,.t (k:=kT (ord2 t.1 t.2)) hd4 hb4,_,rfl,?_⟩;rw[nov];refine iteF ?_;refine⟨_,rfl,_,rfl,d,_,rfl,.t (k:=kT (ord2 t.1 t.2)) hd4 hb4 (by rw[aa',af'];omega),?_⟩;refine⟨_,_,rfl,λc o e=>?_,?_⟩
   ·rw[a8_ (a6_ e hd)];exact s4 _ _ (s3 _ _ (s2 _ _ e))
   ·rw[a1_,bw_ _ nov,aq_ _ ht]
  ·rintro σ H2 ⟨v3,v4,rfl,s2,hd2⟩;have le:=a_1 tu;rw[aa'] at le;rw[le,an'] at hd2;refine⟨_,rfl,d,_,[true,true],rfl,hd2,⟨by decide,λk hk=>?_⟩,by rw[aa'];exact h64,λl' zs hn tz=>?_⟩
   ·rw[ao'] at hk;obtain⟨t,_,rfl⟩:=ac'.mp hk;rfl
   ·rw[ao'] at tz;exact k l' zs _ (s2.trans (Same.new hn)) (s2.free hn) a1_ (tz.same (Same.new hn))
theorem scAnew:ba' ["ties"] ["ties"] (a9' sAnew):=f__
def eO'(K:F__):Sp:=λvs H Q _=>∃(l:Addr) (ys:List V) (ts:Xb),vs=[.ref l]/\H l=some (.lst ys)/\bb' K H ys (ts.map kT)/\ts.length<=1000 /\
 ∀l' zs H',Same H H'->H l'=none->H' l'=some (.lst zs)->bb' K H' zs (ts.map kT)->Q (.ref l') H'
theorem bb_{K:F__}{H:Hp}{ys:List V}{a:Addr}{k:List Key}(t:bb' K H ys ks)(h:H a=some (.tup (k.map kV))):bb' K H (ys++[.ref a]) (ks++[k]):=Paired.snoc t ⟨a,rfl,h⟩
theorem aB_{H H1:Hp}(h:Same H H1)(hD:H D=none):Same H (upd H1 D o):=λb u e=>by rw[a8_ (a6_ e hD)];exact h b u e
theorem bc_{K:F__}{H:Hp}{ys:List V}{xs:List V}(t:bb' K H ys ks)(hD:H D=some (.lst xs)):bb' K (upd H D o) ys ks:=Paired.mapP t λy k ⟨a,z,q⟩=>⟨a,z,by rw[a8_ (be_ q hD nofun)];exact q⟩
theorem le_(F:Fun K "ties_anew" "ties_anew" sAnew f fd):FnOk P w K mg base CX0 1 f fd ["ties"] (eO' K):=by
 refine F.okA scAnew λcdv A outer s H vs Q E hr h=>?_
 ·obtain⟨l,ys,ts,rfl,hl,tu,hz,k⟩:=h;have sz:=b__
  refine⟨_,a5_ (ae_ (aR_ ["one","other"] 2 [] (ah_ (pv 0)) (λfp s H=>c2_ (n:=2) (ai_ (aY_ 0) (ai_ (aY_ 1) b4_)))
   (λfp s H=>aT_) (λfp s H=>b9_ (a0_ (pv 0) (a0_ (pv 1) a2_))))),?_⟩
  refine⟨_,rfl,l,rfl,⟨_,.of hl⟩,λD hD=>?_⟩;have le:=a_1 tu;rw[aa'] at le;refine an_ (own:=2) (fv:=[]) (xs:=ys) rfl gok2 (λi out H'=>Same H H'/\H' D=some (.lst out)/\bb' K H' out ((ts.take i).map kT)) ⟨Same.new hD,a1_,.nil⟩ (λi out H' _ ⟨sm,_,_⟩=>.of (sm _ _ hl)) (λout H' ⟨sm,hd,tz⟩=>?_) (λi x out H' hx ⟨sm,hd,tz⟩=>?_)
  ·rw[le,an'] at tz;exact k D out H' sm hD hd tz
  ·obtain⟨t,ht,a,rfl,ha⟩:=aJ_ tu hx;refine⟨_,⟨a,_,_,rfl,.of (sm _ _ (hpT ha)),rfl⟩,rfl,λNx hN=>yesT ?_⟩;refine⟨_,rfl,_,rfl,by show 2<=sizeLine;decide,λp hp=>⟨out,(Same.new hp) _ _ hd,?_,?_⟩⟩
   ·have:=a_1 tz;rw[aa',af'] at this;omega
   ·have hp2:upd H' p (.tup [.str t.1,.str t.2]) p=some (.tup ((kT t).map kV)):=a1_;refine hN (out++[.ref p]) _ ⟨aB_ (sm.trans (Same.new hp)) hD,a1_,?_⟩;rw[aq_ _ ht];exact bc_ (bb_ (tz.same (Same.new hp)) hp2) ((Same.new hp) _ _ hd)
end
def kH(h:Str × Int):List Key:=[.inr h.1,.inl h.2]
def goodH(h:Str × Int):Prop:=bd' h.1=true/\1<=h.2/\h.2<=1000
def kvOf:List Key->Key × V
 |[k,v]=>(k,kV v)
 |_=>(.inl 0,.non)
def sortH(hs:Xa):List (Key × V):=(sortKs (hs.map kH)).map kvOf
theorem hpH{H:Hp}{p:Addr}{t:Str × Int}(h:H p=some (.tup ((kH t).map kV))):H p=some (.tup [.str t.1,.int t.2]):=h
theorem el_:∀(more kvs:List (Key × V)),(kvs.map (·.1)++more.map (·.1)).Nodup->c7' kvs more=kvs++more
 |[],kvs,_=>by
  show kvs=kvs++[];rw[aF']
 |p::more,kvs,h=>by
  show c7' (putK kvs p.1 p.2) more=kvs++p::more
  have hn:valV kvs p.1=none:=aP_ λm=>by
   rw[au',List.nodup_append] at h;exact h.2.2 p.1 m p.1 aq' rfl
  rw[bw_ _ hn,el_ more (kvs++[(p.1,p.2)])]
  ·simp
  ·simpa using h
theorem bC_{more:List (Key × V)}(h:(more.map (·.1)).Nodup):c7' [] more=more:=by
 rw[el_ more [] (by simpa using h)];rfl
theorem e9_(hs:Xa):((sortH hs).map (·.1)).Perm (hs.map λh=>Sum.inr h.1):=by
 unfold sortH;rw[ao'];have p:=(aC_ (hs.map kH)).map λk=>(kvOf k).1;rw[ao'] at p;exact p
theorem dF_{hs:Xa}(h:(hs.map (·.1)).Nodup):((sortH hs).map (·.1)).Nodup:=by
 refine (e9_ hs).nodup_iff.mpr ?_;have:(hs.map λh=>(Sum.inr h.1:Key))=(hs.map (·.1)).map Sum.inr:=by rw[ao'];rfl
 rw[this,aO',aK'];exact h.imp λn e=>n (d__ e)
theorem e6'{A:Ah}(hr:Room k A)(n:Nat)(h:n+1<=64:=by decide):A.units+n+1<cLine:=by
 have:=hr.units;omega
variable{tk:Tok}
variable{ns:List Str}
section
variable{P:Ae}{w:Ag}{K:F__}{mg:Str->Option Aa}{base:Heap}
theorem scHand:ba' ["thing"] ["thing"] (a9' sHand):=f__
def eT':Sp:=λvs H Q _=>∃(p:Addr) (a:Str) (n:Int),vs=[.ref p]/\H p=some (.tup [.str a,.int n])/\a.length<=100000/\∀H',Same H H'->Q (.bl (bd' a&&(decide (1<=n)&&decide (n<=1000)))) H'
theorem l4_(F:Fun K "is_hand_with_strength" "is_hand_with_strength" sHand f fd)(B:Bi mg)(cN:Cal P w K mg base 1 "is_name" ["thing"] da')(cW:Cal P w K mg base 2 "is_whole_within" ["thing","least","most"] dh')(mS:mg "MOST_STRENGTH"=some (.int 1000 tk)) :
  FnOk P w K mg base CX0 3 f fd ["thing"] eT':=by
 refine F.okA scHand λcdv A outer s H vs Q E hr h=>?_
 ·obtain⟨p,a,n,rfl,hp,la,k⟩:=h;have hr1:Room 1 _:=hr.mono (by decide)
  refine⟨_,a3_ (aw_ (e5_ (aH_ (aK_ (a7_ aQ_ (by rfl) B.isi ab_ (a0_ (pv 0) (a0_ (b1_ (v:=.ty "tuple") (by rfl) B.tuple bK_ rfl) a2_)))))
    (cz_ (ar_ e6_ (a7_ ak_ (by rfl) B.len b_3 (a0_ (pv 0) a2_)) a4_ (nomark _)))).pt (a5_ (ae_ e7_)) aa_)
   (a5_ (ae_ (bF_ (al_ cN hr1 (a0_ (aj_ aO_ (pv 0) a4_ (λ_ _=>rfl)) a2_)) (bZ_ (al_ cW hr (a0_ (aj_ aO_ (pv 0) a4_ (λ_ _=>rfl)) (a0_ a4_ (a0_ (bd_ (v:=.int 1000) (by rfl) mS ⟨tk,rfl⟩) a2_)))))))),?_⟩
  refine⟨_,rfl,_,_,_,_,rfl,.tup hp,rfl,_,rfl,iteF ?_⟩;refine⟨_,rfl,p,_,rfl,.inr (.of hp),rfl,_,rfl,?_⟩;refine iteNS (show V.int ((2:Nat):Int)=V.int 2 from rfl) ?_;refine⟨_,rfl,p,_,_,_,rfl,rfl,.of hp,rfl,a,rfl,la,λH1 s1=>⟨_,rfl,?_⟩⟩;have hp1:=s1 _ _ hp;have kk:=k H1 s1;refine ite2 (λc=>?_) (λc=>?_)
  ·refine⟨_,rfl,p,_,_,_,rfl,rfl,.of hp1,rfl,n,1,1000,rfl,?_⟩;rw[c] at kk;exact kk
  ·rw[show bd' a=false by simpa using c] at kk;exact kk
theorem e7':ba' ["hands","found","hand"] ["hands"] (a9' sStr):=f__
def spStr(K:F__):Sp:=λvs H Q _=>∃(l:Addr) (ys:List V) (hs:Xa),vs=[.ref l]/\H l=some (.lst ys)/\bb' K H ys (hs.map kH)/\(∀h∈hs,goodH h)/\(hs.map (·.1)).Nodup/\1<=hs.length/\hs.length<=8 /\
 ∀d H',Same H H'->H d=none->H' d=some (.dK (sortH hs))->Q (.ref d) H'
theorem kc_(F:Fun K "checked_strengths" "checked_strengths" sStr f fd)(B:Bi mg)(cH:Cal P w K mg base 3 "is_hand_with_strength" ["thing"] eT')(mH:mg "MOST_HANDS"=some (.int 8 tk)):FnOk P w K mg base CX0 4 f fd ["hands"] (spStr K):=by
 refine F.okA e7' λcdv A outer s H vs Q E hr h=>?_
 ·obtain⟨l,ys,hs,rfl,hl,tu,good,nd,h1,h8,k⟩:=h;have hu:=br_ hr;have sz:=b__;have le:=a_1 tu;rw[aa'] at le
  refine⟨_,a3_ (aw_ (e5_ (aH_ (aK_ (a7_ aQ_ (by rfl) B.isi ab_ (a0_ (pv 0) (a0_ (b1_ (v:=.ty "list") (by rfl) B.list bm_ rfl) a2_)))))
    (cz_ (aH_ (du_ e2_ e2_ a4_ (a7_ ak_ (by rfl) B.len b_3 (a0_ (pv 0) a2_)) (bd_ (v:=.int 8) (by rfl) mH ⟨tk,rfl⟩))))).pt ac_ aa_)
   (a3_ (ao_ 1 e7'.nd bM_)
   (a3_ (b3_ b_7 rfl (ah_ (pv 0)) (b5_ 2 e7'.nd)
    (a3_ (aw_ (aH_ (aK_ (al_ cH hr (a0_ (pv 2) a2_)))) ac_ aa_)
    (a3_ (aw_ (bg_ (cX_ hu (aj_ aO_ (pv 2) a4_ (λ_ _=>rfl)) (pv 1))) ac_ aa_)
    (a5_ (c0_ hu (pv 1) (aj_ aO_ (pv 2) a4_ (λ_ _=>rfl)) (aj_ aO_ (pv 2) a4_ (λ_ _=>rfl)) rfl)))))
   (a5_ (ae_ (ax_ (bk_ rfl) (by rfl) B.dict cd_ (a0_ (a7_ (hl_ rfl) (by rfl) B.sorted b8_ (a0_ (ds_ (pv 1)) a2_)) a2_)))))),?_⟩
  refine⟨_,rfl,_,_,_,_,rfl,.lst hl,rfl,_,rfl,iteF ?_⟩;refine⟨_,rfl,l,_,rfl,.inl (.of hl),_,_,rfl,rfl,_,rfl,?_⟩;rw[a_5 (show (1:Int)<=(ys.length:Int) by omega)];refine iteT ⟨_,_,rfl,rfl,_,rfl,?_⟩;rw[a_5 (show (ys.length:Int)<=8 by omega)];refine iteF ?_;intro d hd;have s0:Same H (upd H d (.dK [])):=Same.new hd;refine⟨_,rfl,l,rfl,⟨_,.of (s0 _ _ hl)⟩,aV_ (K:=K) (a:=l) (xs:=ys) (λi σ H2=>∃(v2:Option V),σ=[some (.ref l),some (.ref d),v2]/\Same H H2/\H2 d=some (.dK ((hs.take i).map λh=>(Sum.inr h.1,V.int h.2)))) ⟨none,rfl,s0,a1_⟩ (λi σ H2 _ ⟨_,_,s2,_⟩=>.of (s2 _ _ hl)) ?_ ?_⟩
  ·rintro i y σ H2 hy ⟨v2,rfl,s2,hd2⟩;obtain⟨t,ht,a,rfl,ha⟩:=aJ_ tu hy;obtain⟨g1,g2,g3⟩:=good t (ad' ht);have ha2:=s2 _ _ (hpH ha);refine⟨_,rfl,a,t.1,t.2,rfl,ha2,by have:=ag_ g1;omega,λH3 s3=>⟨_,rfl,?_⟩⟩;have ha3:=s3 _ _ ha2;have hd3:=s3 _ _ hd2;rw[g1,a_5 g2,a_5 g3];refine iteF ?_
   have nov:valV ((hs.take i).map λh=>((Sum.inr h.1:Key),V.int h.2)) (Sum.inr t.1)=none:=aP_ (by
    rw[ao'];have q:=bz_ (g:=λh:Str × Int=>h.1) nd ht;intro m;obtain⟨h,hh,e⟩:=ac'.mp m;exact q (ac'.mpr ⟨h,hh,d__ e⟩))
   refine⟨_,rfl,a,_,_,_,rfl,rfl,.of ha3,rfl,_,rfl,d,_,rfl,.k (k:=Sum.inr t.1) hd3,_,rfl,?_⟩;rw[nov];refine iteF ?_;refine⟨_,rfl,a,_,_,_,rfl,rfl,.of ha3,rfl,_,rfl,_,rfl,a,_,_,_,rfl,rfl,.of ha3,rfl,d,_,rfl,.k (k:=Sum.inr t.1) hd3 (by rw[aa',af'];omega),?_⟩;refine⟨_,rfl,λc o e=>?_,?_⟩
   ·rw[a8_ (a6_ e hd)];exact s3 _ _ (s2 _ _ e)
   ·rw[a1_,bw_ _ nov,aq_ _ ht]
  ·rintro σ H2 ⟨v2,rfl,s2,hd2⟩;rw[le,an'] at hd2;refine⟨_,rfl,d,_,rfl,hd2,λv hv=>?_⟩;have s3:Same H2 (upd H2 v (bG' v d)):=Same.new hv;refine⟨v,d,_,hs.map λh=>(Sum.inr h.1,Sum.inl h.2),[true,false],rfl,a1_,s3 _ _ hd2,by rw[ao'];rfl,⟨by decide,λq hq=>?_⟩,by rw[aa'];omega,λl' H4 zs s4 hn tz=>?_⟩
   ·rw[ao'] at hq;obtain⟨h,_,rfl⟩:=ac'.mp hq;rfl
   ·have ez:((hs.map λh=>((Sum.inr h.1:Key),(Sum.inl h.2:Key))).map λk=>[k.1,k.2])=hs.map kH:=by rw[ao'];rfl
    rw[ez] at tz
    have pz:bE' K (upd H4 l' (.lst zs)) zs (sortH hs):=by
     have shape:∀k∈sortKs (hs.map kH),∃a b,k=[a,b]:=λk hk=>by
      obtain⟨h,_,e⟩:=ac'.mp ((aC_ _).mem_iff.mp hk);exact⟨_,_,e.symm⟩
     have gen:∀(ks:List (List Key)) (zs:List V),(∀k∈ks,∃a b,k=[a,b])->bb' K (upd H4 l' (.lst zs)) zs ks->bE' K (upd H4 l' (.lst zs)) zs (ks.map kvOf):=λks=>by
      intro zs;generalize upd H4 l' (.lst zs)=HH;intro sh t
      induction t with
      |nil=>exact .nil
      |cons h t ih=>
       obtain⟨a,b,rfl⟩:=sh _ aq';exact .cons h (ih λk hk=>sh k (ai' _ hk))
     exact gen _ _ shape (tz.same (Same.new hn))
    refine⟨l',zs,_,rfl,a1_,pz,?_,λd' hd'=>?_⟩
    ·have:=(e9_ hs).length_eq;simp only[aa'] at this;omega
    ·rw[bC_ (dF_ nd)];have sAll:Same H (upd H4 l' (.lst zs)):=(s2.trans (s3.trans s4)).trans (Same.new hn);exact k d' _ (sAll.trans (Same.new hd')) (sAll.free hd') a1_
theorem cU':ba' ["ties","strengths","found","one","other"] ["ties","strengths"] (a9' sTies):=f__
inductive eL' (K:F__) (vs:List V) (H:Hp) (Q:VK) (E:XK):Prop
 |mk:∀(l d:Addr) (ys:List V) (ts:Xb) (kvs:List (Key × V)),vs=[.ref l,.ref d]->H l=some (.lst ys)->bb' K H ys (ts.map kT)->(∀t∈ts,cc' t)->(ts.map λt=>kT (ord2 t.1 t.2)).Nodup->ts.length<64->H d=some (.dK kvs)->(∀t∈ts,(valV kvs (Sum.inr t.1)).isSome=true/\(valV kvs (Sum.inr t.2)).isSome=true)->(∀l' zs H',Same H H'->H l'=none->H' l'=some (.lst zs)->bb' K H' zs (sortKs (ts.map λt=>kT (ord2 t.1 t.2)))->Q (.ref l') H')->eL' K vs H Q E
theorem bi_(a b:Str):ord2 a b=(a,b)∨ord2 a b=(b,a):=by
 unfold ord2;split
 ·exact .inl rfl
 ·exact .inr rfl
theorem lc_(F:Fun K "checked_ties" "checked_ties" sTies f fd)(B:Bi mg)(cS:Cal P w K mg base 3 "sorted_ties" ["ties"] (cy' K)):FnOk P w K mg base CX0 4 f fd ["ties","strengths"] (eL' K):=by
 refine F.okA cU' λcdv A outer s H vs Q E hr h=>?_
 ·obtain⟨l,d,ys,ts,kvs,rfl,hl,tu,good,nd,h64,hd,there,k⟩:=h;have hu:=br_ hr
  refine⟨_,a3_ (ao_ 2 cU'.nd (al_ cS hr (a0_ (pv 0) a2_)))
   (a3_ (aw_ (bg_ (cT_ (pv 2))) ac_ aa_)
   (a3_ (b3_ b_7 rfl (ah_ (pv 2)) (ch_ rfl (ai_ (b5_ 3 cU'.nd) (ai_ (b5_ 4 cU'.nd) b4_)))
    (a5_ (aw_ (e5_ (bg_ (cY_ hu (pv 3) (pv 1))) (cz_ (bg_ (cY_ hu (pv 4) (pv 1))))).pt ac_ aa_)))
   (a5_ (ae_ (pv 2))))),?_⟩
  refine⟨_,rfl,l,ys,ts,rfl,hl,tu,good,nd,h64,λl' zs H1 s1 hf hl1 tz=>?_⟩;refine⟨_,rfl,_,rfl,iteF ?_⟩;refine⟨_,rfl,l',rfl,⟨_,.of hl1⟩,aV_ (K:=K) (a:=l') (xs:=zs) (λi σ H2=>∃(v3 v4:Option V),σ=[some (.ref l),some (.ref d),some (.ref l'),v3,v4]/\H2=H1) ⟨none,none,rfl,rfl⟩ (λi σ H2 _ ⟨_,_,_,e⟩=>by subst e;exact .of hl1) ?_ ?_⟩
  ·rintro i y σ H2 hy ⟨v3,v4,rfl,rfl⟩;have ez:=a_1 tz;have hi:i<zs.length:=(ab'.mp hy).1;obtain⟨a,e,ha⟩:=aA_ tz i hi Z1;rw[(ab'.mp hy).2] at e;subst e;obtain⟨t,ht,e⟩:=ac'.mp ((aC_ _).mem_iff.mp (aZ' (show i<(sortKs (ts.map λt=>kT (ord2 t.1 t.2))).length by omega)));rw[<- e] at ha;obtain⟨t1,t2⟩:=there t ht
   have both:(valV kvs (Sum.inr (ord2 t.1 t.2).1)).isSome=true/\(valV kvs (Sum.inr (ord2 t.1 t.2).2)).isSome=true:=by
    rcases bi_ t.1 t.2 with q|q
    ·rw[q];exact⟨t1,t2⟩
    ·rw[q];exact⟨t2,t1⟩
   have hd1:=s1 _ _ hd;refine⟨a,_,rfl,.of (hpT ha),rfl,_,_,rfl,_,_,rfl,rfl,?_⟩;refine⟨_,rfl,_,rfl,d,_,rfl,.k (k:=Sum.inr (ord2 t.1 t.2).1) hd1,_,rfl,?_⟩;rw[both.1];refine iteF ?_;refine⟨_,rfl,_,rfl,d,_,rfl,.k (k:=Sum.inr (ord2 t.1 t.2).2) hd1,_,rfl,?_⟩;rw[both.2];refine iteF ?_;exact⟨_,_,rfl,rfl⟩
  ·rintro σ H2 ⟨v3,v4,rfl,rfl⟩;exact⟨_,rfl,k l' zs _ s1 hf hl1 tz⟩
def near(ns:List Str)(ts:Xb)(n:Str):List Str:=ns.filter λo=>decide (ord2 n o∈ts)
theorem scNear:ba' ["names","ties","found","hand"] ["names","ties"] (a9' sNear):=f__
def b3'(ns:List Str)(as:List Addr):List (Key × V):=(ns.zip as).map λp=>(Sum.inr p.1,V.ref p.2)
inductive eY' (K:F__) (vs:List V) (H:Hp) (Q:VK) (E:XK):Prop
 |mk:∀(l1 l2:Addr) (ns:List Str) (zs:List V) (ts:Xb),vs=[.ref l1,.ref l2]->H l1=some (.lst (ns.map V.str))->H l2=some (.lst zs)->bb' K H zs (ts.map kT)->ns.Nodup->ns.length<=1000->l1≠l2->(∀d as H',Same H H'->H d=none->as.length=ns.length->H' d=some (.dK (b3' ns as))->(∀(i:Nat) n a,ns[i]? = some n->as[i]? = some a->H a=none/\H' a=some (.lst ((near ns ts n).map V.str)))->Q (.ref d) H')->eY' K vs H Q E
theorem iw_{K:F__}{H:Hp}:∀{ts:Xb} {zs:List V},bb' K H zs (ts.map kT)->Paired (r2 K rS rS H) zs ts
 |[],_,.nil=>.nil
 |t::ts,_,.cons ⟨a,e,h⟩ r=>.cons ⟨a,_,_,e,.of (hpT h),rfl,rfl⟩ (iw_ r)
theorem aF_{i:Nat}{x:V}(h:(ns.map V.str)[i]? = some x):∃n,ns[i]? = some n/\x=.str n:=by
 rw[aw'] at h;cases e:ns[i]? with
 |none=>rw[e] at h;cases h
 |some n=>rw[e] at h;exact⟨n,rfl,(b_2 h).symm⟩
theorem dy_{α:Type}(p:α->Bool){l:List α}{i:Nat}{x:α}(h:l[i]? = some x):(l.take (i+1)).filter p=(l.take i).filter p++(if p x then [x] else []):=PySem.take_succ_filter p l i x h
theorem kL_(F:Fun K "neighbours_of_all" "neighbours_of_all" sNear f fd)(cL:Cal P w K mg base 1 "lesser_first" ["one","other"] cA'):FnOk P w K mg base CX0 2 f fd ["names","ties"] (eY' K):=by
 refine F.okA scNear λcdv A outer s H vs Q E hr h=>?_
 ·obtain⟨l1,l2,ns,zs,ts,rfl,hl1,hl2,tz,nd,h8,hne,k⟩:=h;have hu:=br_ hr;have hu3:=hr.units;have sz:=b__
  refine⟨_,a3_ (ao_ 2 scNear.nd bM_)
   (a3_ (b3_ b_7 rfl (ah_ (pv 0)) (b5_ 3 scNear.nd)
    (a5_ (c0_ hu (pv 2) (pv 3) (aR_ ["other","hand","ties"] 1 [3,1] (ah_ (pv 0)) (λfp s H=>aY_ 0)
     (λfp s H=>bR_ (ar_ (opK (K:=K) (λK=>rInD K (r2 K rS rS) false) (kp_ (cmp2 cmpS cmpS) (e6' hr _))) (al_ cL hr (a0_ (pv 1) (a0_ (pv 0) a2_))) (pv 2) (by with_unfolding_all rfl))) (λfp s H=>pv 0)) rfl)))
   (a5_ (ae_ (pv 2)))),?_⟩
  intro d hd;have s0:Same H (upd H d (.dK [])):=Same.new hd
  refine⟨_,rfl,l1,rfl,⟨_,.of (s0 _ _ hl1)⟩,aV_ (K:=K) (a:=l1) (xs:=ns.map V.str) (λi σ H2=>∃(v3:Option V) (as:List Addr),σ=[some (.ref l1),some (.ref l2),some (.ref d),v3]/\Same H H2/\as.length=i/\H2 d=some (.dK (b3' (ns.take i) as)) /\
   ∀(j:Nat) n a,ns[j]? = some n->as[j]? = some a->H a=none/\a≠d/\H2 a=some (.lst ((near ns ts n).map V.str))) ⟨none,[],rfl,s0,rfl,a1_,λj n a _ e=>by simp at e⟩ (λi σ H2 _ ⟨_,_,_,s2,_⟩=>.of (s2 _ _ hl1)) ?_ ?_⟩
  ·rintro i y σ H2 hy ⟨v3,as,rfl,s2,la,hd2,lists⟩;obtain⟨n,hn,rfl⟩:=aF_ hy;have hi:i<ns.length:=(ab'.mp hn).1
   have lk:(b3' (ns.take i) as).length=i:=by
    unfold b3';rw[aa',List.length_zip,af'];omega
   refine⟨_,rfl,l1,rfl,⟨_,.of (s2 _ _ hl1)⟩,λD hD=>?_⟩;refine an_ (own:=1) (fv:=[some (.str n),some (.ref l2)]) (xs:=ns.map V.str) rfl gok1 (λj out H'=>Same H2 H'/\H' D=some (.lst out)/\out=((ns.take j).filter λo=>decide (ord2 n o∈ts)).map V.str) ⟨Same.new hD,a1_,rfl⟩ (λj out H' _ ⟨sm,_,_⟩=>.of (sm _ _ (s2 _ _ hl1))) (λout H' ⟨sm,hD',eo⟩=>?_) (λj x out H' hx ⟨sm,hD',eo⟩=>?_)
   ·rw[aa',an'] at eo
    have nov:valV (b3' (ns.take i) as) (Sum.inr n)=none:=aP_ λm=>by
     unfold b3' at m;rw[ao'] at m;obtain⟨p,hp,e⟩:=ac'.mp m;have e:p.1=n:=d__ e;have q:=bz_ (g:=id) (by rw[List.map_id];exact nd) hn;rw[List.map_id] at q;exact q (e▸(List.of_mem_zip hp).1)
    have neD:D≠d:=λz=>by subst z;rw[hD] at hd2;cases hd2
    refine⟨_,rfl,_,rfl,d,_,rfl,.k (k:=Sum.inr n) (sm _ _ hd2) Z1,?_⟩;refine⟨_,as++[D],rfl,λc o e=>?_,by rw[aj',la];rfl,?_,λj n' a hn' ha=>?_⟩
    ·rw[a8_ (a6_ e hd)];exact sm _ _ (s2 _ _ e)
    ·rw[a1_,bw_ _ nov];congr 2;unfold b3';rw[aH',hn,List.zip_append (by rw[af'];omega),ag'];rfl
    ·by_cases hj:j<as.length
     ·rw[List.getElem?_append_left hj] at ha;obtain⟨q1,q2,q3⟩:=lists j n' a hn' ha;refine⟨q1,q2,?_⟩;rw[a8_ q2];exact sm _ _ q3
     ·have hj2:j=i:=by
       have:=(ab'.mp ha).1;rw[aj'] at this;simp only[List.length_singleton] at this;omega
      subst hj2;rw[aW' Z1,la,Nat.sub_self] at ha;have ha:D=a:=by simpa using ha
      subst ha;rw[hn] at hn';cases hn';refine⟨s2.free hD,neD,?_⟩;rw[a8_ neD,hD',eo];rfl
   ·obtain⟨o,ho,rfl⟩:=aF_ hx;refine⟨_,rfl,rfl,λNx hN=>?_⟩;refine⟨_,rfl,_,rfl,n,o,rfl,λt ht=>?_⟩;have s3:Same H' (upd H' t (.tup [.str (ord2 n o).1,.str (ord2 n o).2])):=Same.new ht;have tz':=((tz.same s2).same sm).same s3
    have lo:out.length<sizeLine:=by
     rw[eo,aa'];have:=List.length_filter_le (λo=>decide (ord2 n o∈ts)) (ns.take j);rw[af'] at this;omega
    refine⟨_,rfl,ord2 n o,ts,⟨t,_,_,rfl,.of a1_,rfl,rfl⟩,⟨l2,zs,rfl,.of (s3 _ _ (sm _ _ (s2 _ _ hl2))),iw_ tz'⟩,_,rfl,?_⟩;refine ite2 (λc=>?_) (λc=>?_)
    ·refine⟨_,rfl,out,s3 _ _ hD',lo,hN _ _ ⟨aB_ (sm.trans s3) hD,a1_,?_⟩⟩;have c:decide (ord2 n o∈ts)=true:=by simpa using c
     rw[dy_ _ ho,b_0 c,ag',eo];rfl
    ·refine hN _ _ ⟨sm.trans s3,s3 _ _ hD',?_⟩;have c:¬decide (ord2 n o∈ts)=true:=by simpa using c
     rw[dy_ _ ho,a_8 c,aF',eo]
  ·rintro σ H2 ⟨v3,as,rfl,s2,la,hd2,lists⟩;rw[aa'] at la hd2;rw[an'] at hd2;exact⟨_,rfl,k d as _ s2 hd la hd2 λj n a h1 h2=>⟨(lists j n a h1 h2).1,(lists j n a h1 h2).2.2⟩⟩
end
abbrev sInit:Stmt:=bK' sWeb 0
abbrev sHas:Stmt:=bK' sWeb 1
abbrev sHands:Stmt:=bK' sWeb 2
abbrev db':Stmt:=bK' sWeb 3
abbrev sTied:Stmt:=bK' sWeb 5
abbrev sTiesM:Stmt:=bK' sWeb 6
def fstK:List Key->Str
 |.inr a::_=>a
 |_=>⟨#[]⟩
def twoK:List Key->Str × Str
 |[.inr a,.inr b]=>(a,b)
 |_=>(⟨#[]⟩,⟨#[]⟩)
def bf'(hs:Xa):List Str:=(sortKs (hs.map kH)).map fstK
def tsOf(ts:Xb):Xb:=(sortKs (ts.map λt=>kT (ord2 t.1 t.2))).map twoK
theorem ba_(ts:Xb):(tsOf ts).map kT=sortKs (ts.map λt=>kT (ord2 t.1 t.2)):=by
 unfold tsOf;rw[ao']
 have all:∀k∈sortKs (ts.map λt=>kT (ord2 t.1 t.2)),∃t:Str × Str,k=kT t:=λk hk=>by
  obtain⟨t,_,e⟩:=ac'.mp ((aC_ _).mem_iff.mp hk);exact⟨_,e.symm⟩
 generalize sortKs (ts.map λt=>kT (ord2 t.1 t.2))=l at all
 induction l with
 |nil=>rfl
 |cons k l ih=>
  obtain⟨t,rfl⟩:=all k aq';rw[au',ih λk hk=>all k (ai' _ hk)];rfl
theorem bW_(hs:Xa):∀k∈sortKs (hs.map kH),∃h:Str × Int,h∈hs/\k=kH h:=λk hk=>by
 obtain⟨t,ht,e⟩:=ac'.mp ((aC_ _).mem_iff.mp hk);exact⟨t,ht,e.symm⟩
theorem gs_(hs:Xa):((sortH hs).map λkv=>kV kv.1)=(bf' hs).map V.str:=by
 unfold sortH bf';rw[ao',ao'];refine ay' λk hk=>?_;obtain⟨h,_,rfl⟩:=bW_ hs k hk;rfl
theorem gp_(hs:Xa):(sortH hs).map (·.1)=(bf' hs).map Sum.inr:=by
 unfold sortH bf';rw[ao',ao'];refine ay' λk hk=>?_;obtain⟨h,_,rfl⟩:=bW_ hs k hk;rfl
theorem aM_(hs:Xa):(bf' hs).Perm (hs.map (·.1)):=by
 unfold bf';have p:=(aC_ (hs.map kH)).map fstK;rw[ao'] at p;exact p
theorem ce_{κ:Type}[DecidableEq κ]{kvs:List (κ × V)}{k:κ}(h:k∈kvs.map (·.1)):(valV kvs k).isSome=true:=by
 rw[<- cO_];obtain⟨p,hp,e⟩:=ac'.mp h;exact List.any_eq_true.mpr ⟨p,hp,a_5 e⟩
theorem d4_{hs:Xa}{n:Str}:(valV (sortH hs) (Sum.inr n)).isSome=decide (n∈hs.map (·.1)):=by
 by_cases h:n∈hs.map (·.1)
 ·rw[a_5 h];refine ce_ ?_;rw[gp_];exact ac'.mpr ⟨n,(aM_ hs).mem_iff.mpr h,rfl⟩
 ·rw[a_4 h,aP_]
  ·rfl
  ·rw[gp_];intro m;obtain⟨x,hx,e⟩:=ac'.mp m;cases e;exact h ((aM_ hs).mem_iff.mp hx)
theorem n12:¬(("strength_by_hand":Str)="sorted_pairs"):=by decide +kernel
theorem n13:¬(("strength_by_hand":Str)="neighbours_by_hand"):=by decide +kernel
theorem n23:¬(("sorted_pairs":Str)="neighbours_by_hand"):=by decide +kernel
def flds(d1 l2 d3:Addr):List (Str × V):=putF "neighbours_by_hand" (.ref d3) (putF "sorted_pairs" (.ref l2) (putF "strength_by_hand" (.ref d1) []))
theorem gH_(d1 l2 d3:Addr):(flds d1 l2 d3).lookup ("strength_by_hand":Str)=some (.ref d1):=by
 unfold flds;rw[au_,a_8 n13,au_,a_8 n12,au_,b_0 rfl]
theorem m9_(d1 l2 d3:Addr):(flds d1 l2 d3).lookup ("sorted_pairs":Str)=some (.ref l2):=by
 unfold flds;rw[au_,a_8 n23,au_,b_0 rfl]
theorem lr_(d1 l2 d3:Addr):(flds d1 l2 d3).lookup ("neighbours_by_hand":Str)=some (.ref d3):=by
 unfold flds;rw[au_,b_0 rfl]
variable{m:Str}
theorem c4_(d1 l2 d3:Addr)(h1:¬m="strength_by_hand")(h2:¬m="sorted_pairs")(h3:¬m="neighbours_by_hand"):(flds d1 l2 d3).lookup m=none:=by
 unfold flds;rw[au_,a_8 h3,au_,a_8 h2,au_,a_8 h1]
 all_goals rfl
structure bD' (K:F__) (C:Addr) (H:Hp) (p:Addr) (hs:Xa) (ts:Xb) (fp:List Addr):Prop where
 ex:∃(dx d1 l2 d3:Addr) (zs:List V) (as:List Addr),fp=p::d1::l2::d3::as/\H p=some (.ins C dx (flds d1 l2 d3))/\H d1=some (.dK (sortH hs))/\H l2=some (.lst zs)/\bb' K H zs ((tsOf ts).map kT)/\H d3=some (.dK (b3' (bf' hs) as))/\as.length=(bf' hs).length /\
  ∀(i:Nat) n a,(bf' hs)[i]? = some n->as[i]? = some a->H a=some (.lst ((near (bf' hs) (tsOf ts) n).map V.str))
variable{H':Hp}
theorem bD'.keep{K:F__}{C:Addr}{H:Hp}{p:Addr}{hs:Xa}{ts:Xb}{fp:List Addr}(W:bD' K C H p hs ts fp)(k:∀b∈fp,∀o,H b=some o->H' b=some o)(kt:∀b xs,H b=some (.tup xs)->H' b=some (.tup xs)):bD' K C H' p hs ts fp:=by
 obtain⟨dx,d1,l2,d3,zs,as,rfl,h1,h2,h3,h4,h5,h6,h7⟩:=W.ex;refine⟨dx,d1,l2,d3,zs,as,rfl,k _ Z2 _ h1,k _ Z2 _ h2,k _ Z2 _ h3,Paired.mapP h4 λy q ⟨a,e,z⟩=>⟨a,e,kt _ _ z⟩,k _ Z2 _ h5,h6,λi n a e1 e2=>k _ ?_ _ (h7 i n a e1 e2)⟩;have:=ad' e2;simp[this]
theorem bD'.same{K:F__}{C:Addr}{H:Hp}{p:Addr}{hs:Xa}{ts:Xb}{fp:List Addr}(W:bD' K C H p hs ts fp)(s:Same H H'):bD' K C H' p hs ts fp:=W.keep (λb _ o e=>s b o e) λb xs e=>s b _ e
structure Good (hs:Xa) (ts:Xb):Prop where
 hok:∀h∈hs,goodH h
 hnd:(hs.map (·.1)).Nodup
 h1:1<=hs.length
 h8:hs.length<=8
 tok:∀t∈ts,cc' t
 tnd:(ts.map λt=>kT (ord2 t.1 t.2)).Nodup
 t64:ts.length<64
 tin:∀t∈ts,t.1∈hs.map (·.1)/\t.2∈hs.map (·.1)
theorem Good.nnd{hs:Xa}{ts:Xb}(G:Good hs ts):(bf' hs).Nodup:=(aM_ hs).nodup_iff.mpr G.hnd
theorem Good.nlen{hs:Xa}{ts:Xb}(G:Good hs ts):(bf' hs).length=hs.length:=by
 rw[(aM_ hs).length_eq,aa']
theorem aX_(ts:Xb):(tsOf ts).length=ts.length:=by
 unfold tsOf;rw[aa',(aC_ _).length_eq,aa']
structure Txt (K:F__) (mg:Str->Option Aa) (C:Addr):Prop where
 cl:Cls K C
 nS:b2' K C "strength_by_hand"
 nP:b2' K C "sorted_pairs"
 nN:b2' K C "neighbours_by_hand"
section
variable{P:Ae}{w:Ag}{K:F__}{mg:Str->Option Aa}{base:Heap}
theorem dC':ba' ["self","hands","ties","strengths","checked"] ["self","hands","ties"] (a9' sInit):=f__
inductive eR' (K:F__) (C:Addr) (vs:List V) (H:Hp) (Q:VK) (E:XK):Prop
 |mk:∀(p dx lh lt:Addr) (ys zs:List V) (hs:Xa) (ts:Xb),vs=[.ref p,.ref lh,.ref lt]->H p=some (.ins C dx [])->H lh=some (.lst ys)->bb' K H ys (hs.map kH)->H lt=some (.lst zs)->bb' K H zs (ts.map kT)->Good hs ts->(∀fp H',(∀b o,H b=some o->b≠p->H' b=some o)->bD' K C H' p hs ts fp->(∀b∈fp,b=p∨H b=none)->Q .non H')->eR' K C vs H Q E
theorem l5_{C:Addr}(F:Fun K "__init__" "Web.__init__" sInit f fd)(T:Txt K mg C)(B:Bi mg)(cS:Cal P w K mg base 4 "checked_strengths" ["hands"] (spStr K))(cT:Cal P w K mg base 4 "checked_ties" ["ties","strengths"] (eL' K))(cN:Cal P w K mg base 2 "neighbours_of_all" ["names","ties"] (eY' K)) :
  FnOk P w K mg base CX0 5 f fd ["self","hands","ties"] (eR' K C):=by
 refine F.okA dC' λcdv A outer s H vs Q E hr h=>?_
 ·obtain⟨p,dx,lh,lt,ys,zs,hs,ts,rfl,hp,hlh,th,hlt,tt,G,k⟩:=h;have hr3:Room 3 _:=hr.mono (by decide);have hr2:Room 2 _:=hr.mono (by decide)
  refine⟨_,a3_ (ao_ 3 dC'.nd (al_ cS hr (a0_ (pv 1) a2_)))
   (a3_ (ao_ 4 dC'.nd (al_ cT hr (a0_ (pv 2) (a0_ (pv 3) a2_))))
   (a3_ (ep_ (pv 0) (pv 3) rfl) (a3_ (ep_ (pv 0) (pv 4) rfl)
   (a5_ (ep_ (pv 0) (al_ cN hr2 (a0_ (ax_ (cn_ rfl) (by rfl) B.list bm_ (a0_ (pv 3) a2_)) (a0_ (pv 4) a2_))) rfl))))),?_⟩
  refine⟨_,rfl,lh,ys,hs,rfl,hlh,th,G.hok,G.hnd,G.h1,G.h8,λd1 H1 s1 f1 hd1=>?_⟩;refine⟨_,rfl,_,rfl,lt,d1,zs,ts,_,rfl,s1 _ _ hlt,tt.same s1,G.tok,G.tnd,G.t64,hd1,λt ht=>?_,λl2 zs2 H2 s2 f2 hl2 tz=>?_⟩
  ·rw[d4_,d4_];exact⟨a_5 (G.tin t ht).1,a_5 (G.tin t ht).2⟩
  have hd12:=s2 _ _ hd1;have hp2:=s2 _ _ (s1 _ _ hp);have p1:p≠d1:=be_ hp2 hd12 nofun;have p2:p≠l2:=be_ hp2 hl2 nofun;refine⟨_,rfl,_,rfl,p,C,dx,[],rfl,hp2,T.cl,T.nS,by show 0<1000;decide,?_⟩;refine⟨_,rfl,_,rfl,p,C,dx,_,rfl,a1_,T.cl,T.nP,by show 1<1000;decide,?_⟩
  let H3:Hp:=upd (upd H2 p (.ins C dx (putF "strength_by_hand" (.ref d1) []))) p (.ins C dx (putF "sorted_pairs" (.ref l2) (putF "strength_by_hand" (.ref d1) [])))
  have h3:∀{b o},H2 b=some o->b≠p->H3 b=some o:=λe ne=>by
   show upd (upd H2 p _) p _ _=_;rw[a8_ ne,a8_ ne];exact e
  have h3p:H3 p=some (.ins C dx (putF "sorted_pairs" (.ref l2) (putF "strength_by_hand" (.ref d1) []))):=a1_
  have none3:∀{b},H3 b=none->H2 b=none:=λ{b} e=>by
   by_cases z:b=p
   ·subst z;rw[h3p] at e;cases e
   ·have e:upd (upd H2 p _) p _ b=none:=e;rw[a8_ z,a8_ z] at e;exact e
  have tz3:bb' K H3 zs2 ((tsOf ts).map kT):=by
   rw[ba_];exact Paired.mapP tz λy q ⟨a,e,z⟩=>⟨a,e,h3 z (be_ z hp2 nofun)⟩
  refine⟨_,rfl,d1,_,rfl,.inl (h3 hd12 p1.symm),λl1 hl1=>?_⟩;rw[gs_];have s4:Same H3 (upd H3 l1 (.lst ((bf' hs).map V.str))):=Same.new hl1;have ne12:l1≠l2:=(a6_ (H:=H3) (h3 hl2 p2.symm) hl1).symm;refine⟨_,rfl,l1,l2,bf' hs,zs2,tsOf ts,rfl,a1_,s4 _ _ (h3 hl2 p2.symm),tz3.same s4,G.nnd,by rw[G.nlen];have:=G.h8;omega,ne12,λd3 as H5 s5 f5 la hd3 lists=>?_⟩;have hp5:=s5 _ _ (s4 _ _ h3p);refine⟨_,rfl,p,C,dx,_,rfl,hp5,T.cl,T.nN,by show 2<1000;decide,?_⟩
  have up:∀{b o},H2 b=some o->b≠p->upd H5 p (.ins C dx (flds d1 l2 d3)) b=some o:=λe ne=>by
   rw[a8_ ne];exact s5 _ _ (s4 _ _ (h3 e ne))
  have fr5:∀{b},upd H3 l1 (.lst ((bf' hs).map V.str)) b=none->H b=none:=λe=>s1.free (s2.free (none3 (s4.free e)));have hd3p:d3≠p:=(a6_ (s4 _ _ h3p) f5).symm;refine k (p::d1::l2::d3::as) _ (λb o e ne=>up (s2 _ _ (s1 _ _ e)) ne) ⟨dx,d1,l2,d3,zs2,as,rfl,a1_,up hd12 p1.symm,up hl2 p2.symm,?_,?_,la,λi n a e1 e2=>?_⟩ λb hb=>?_
  ·exact Paired.mapP (tz3.same (s4.trans s5)) λy q ⟨a,e,z⟩=>⟨a,e,by rw[a8_ (be_ z hp5 nofun)];exact z⟩
  ·rw[a8_ hd3p];exact hd3
  ·obtain⟨q1,q2⟩:=lists i n a e1 e2;rw[a8_ (be_ q2 hp5 nofun)];exact q2
  ·simp only[ah'] at hb;rcases hb with rfl|rfl|rfl|rfl|hb
   ·exact .inl rfl
   ·exact .inr f1
   ·exact .inr (s1.free f2)
   ·exact .inr (fr5 f5)
   ·obtain⟨i,hi,e⟩:=aG' hb;have e1:as[i]? = some b:=by rw[ae' hi,e]
    have hn:i<(bf' hs).length:=by omega
    exact .inr (fr5 (lists i _ b (ae' hn) e1).1)
end
structure CalM (P:Ae) (w:Ag) (K:F__) (mg:Str->Option Aa) (base:Heap) (C:Addr) (k:Nat) (m:Str) (ps:List Str) (sp:Sp):Prop where
 ex:∃f fd,FnOk P w K mg base CX0 k f fd ps sp/\Meth K C m f/\ck' K fd ps []
variable{o:Expr}{apos:Pos}{ta:TE}{pl:Sem Bool}
theorem dj_{C:Addr}(c:CalM X.prog X.w X.K X.mg X.base C k m ps sp)(cl:Cls X.K C)(hr:Room k X.A)(he:PE X o ta)(ha:PA X (e::es) t)(hst:starEach (e::es) X.env=(false,eval e X.env)::starEach es X.env:=by rfl)(hpl:(backTo pos (starEach es X.env)).any (·.1)=false:=by rfl)(ht:eval (.Call (.Attribute o m apos) (e::es) [] pos) X.env=(do
   let ov <- eval o X.env
   standAt apos.atName
   let (f,first) <- holding [ov] (getMethod ov m pl)
   callWith pos f first (backTo pos (starEach (e::es) X.env)) (backToKw pos (keywordEach [] X.env))):=by rfl) :
  PE X (.Call (.Attribute o m apos) (e::es) [] pos) (tMeth C m sp [] E0 ta t):=by
 obtain⟨f,fd,F,hm,b⟩:=c.ex;exact hY_ he cl hm F hr b .nil pass0 ha hst hpl ht
theorem fv_{C:Addr}(c:CalM X.prog X.w X.K X.mg X.base C k m ps sp)(cl:Cls X.K C)(hr:Room k X.A)(he:PE X o ta)(ht:eval (.Call (.Attribute o m apos) [] [] pos) X.env=(do
   let ov <- eval o X.env
   standAt apos.atName
   let (f,first) <- holding [ov] (getMethod ov m pl)
   callWith pos f first (backTo pos (starEach [] X.env)) (backToKw pos (keywordEach [] X.env))):=by rfl) :
  PE X (.Call (.Attribute o m apos) [] [] pos) (tMeth C m sp [] E0 ta tNil):=by
 obtain⟨f,fd,F,hm,b⟩:=c.ex;exact jJ_ he cl hm F hr b .nil pass0 ht
theorem h2_{hs:Xa}(nd:(hs.map (·.1)).Nodup){x:Str}{n:Int}(h:(x,n)∈hs):valV (sortH hs) (Sum.inr x)=some (.int n):=by
 have m:((Sum.inr x:Key),V.int n)∈sortH hs:=by
  unfold sortH;refine ac'.mpr ⟨kH (x,n),(aC_ _).mem_iff.mpr (ac'.mpr ⟨_,h,rfl⟩),rfl⟩
 have nk:=dF_ nd;generalize sortH hs=kvs at m nk
 induction kvs with
 |nil=>cases m
 |cons p r ih=>
  obtain⟨n1,n2⟩:=aX'.mp nk;rcases ah'.mp m with e|m
  ·rw[<- e];exact ca_ rfl
  ·rw[c3_ (λe:p.1=Sum.inr x=>n1 (ac'.mpr ⟨_,m,e.symm⟩))];exact ih m n2
variable{as:List Addr}
theorem j0_(nd:ns.Nodup)(la:as.length=ns.length){i:Nat}{n:Str}(hn:ns[i]? = some n):∃a,as[i]? = some a/\valV (b3' ns as) (Sum.inr n)=some (.ref a):=by
 induction ns generalizing as i with
 |nil=>simp at hn
 |cons x ns ih=>
  cases as with
  |nil=>cases la
  |cons b as=>
   obtain⟨n1,n2⟩:=aX'.mp nd;cases i with
   |zero=>
    have e:x=n:=by simpa using hn
    subst e;exact⟨b,rfl,ca_ rfl⟩
   |succ i=>
    have hn:ns[i]? = some n:=by simpa using hn
    obtain⟨a,h1,h2⟩:=ih n2 (by simpa using la) hn;refine⟨a,by simpa using h1,?_⟩;show valV ((Sum.inr x,V.ref b)::b3' ns as) (Sum.inr n)=_;rw[c3_ λe=>n1 (by rw[show x=n from d__ e];exact ad' hn)];exact h2
section
variable{P:Ae}{w:Ag}{K:F__}{mg:Str->Option Aa}{base:Heap}
theorem scHas:ba' ["self","thing"] ["self","thing"] (a9' sHas):=f__
inductive e1' (K:F__) (C:Addr) (vs:List V) (H:Hp) (Q:VK) (E:XK):Prop
 |mk:∀(p:Addr) (x:Str) (hs:Xa) (ts:Xb) (fp:List Addr),vs=[.ref p,.str x]->bD' K C H p hs ts fp->Q (.bl (decide (x∈hs.map (·.1)))) H->e1' K C vs H Q E
theorem lU_{C:Addr}(F:Fun K "has_hand" "Web.has_hand" sHas f fd)(T:Txt K mg C)(B:Bi mg):FnOk P w K mg base CX0 1 f fd ["self","thing"] (e1' K C):=by
 refine F.okA scHas λcdv A outer s H vs Q E hr h=>?_
 ·obtain⟨p,x,hs,ts,fp,rfl,W,k⟩:=h;have hu:=br_ hr;obtain⟨dx,d1,l2,d3,zs,as,rfl,h1,h2,h3,h4,h5,h6,h7⟩:=W.ex;refine⟨_,a5_ (ae_ (bF_ (a7_ aQ_ (by rfl) B.isi ab_ (a0_ (pv 1) (a0_ (b1_ (v:=.ty "str") (by rfl) B.str dg_ rfl) a2_))) (bZ_ (hv_ (cX_ hu (pv 1) (bS_ (pv 0) rfl)))))),?_⟩;refine⟨_,rfl,_,_,_,_,rfl,.str x,rfl,_,rfl,iteT ?_⟩;refine⟨_,rfl,_,rfl,p,C,dx,_,_,rfl,h1,T.cl,T.nS,gH_ _ _ _,d1,_,rfl,.k (k:=Sum.inr x) h2,?_⟩;rw[d4_];exact k
theorem scHands:ba' ["self"] ["self"] (a9' sHands):=f__
inductive dK' (K:F__) (C:Addr) (vs:List V) (H:Hp) (Q:VK) (E:XK):Prop
 |mk:∀(p:Addr) (hs:Xa) (ts:Xb) (fp:List Addr),vs=[.ref p]->bD' K C H p hs ts fp->(∀l,H l=none->Q (.ref l) (upd H l (.lst ((bf' hs).map V.str))))->dK' K C vs H Q E
theorem j3_{C:Addr}(F:Fun K "hands" "Web.hands" sHands f fd)(T:Txt K mg C)(B:Bi mg):FnOk P w K mg base CX0 1 f fd ["self"] (dK' K C):=by
 refine F.okA scHands λcdv A outer s H vs Q E hr h=>?_
 ·obtain⟨p,hs,ts,fp,rfl,W,k⟩:=h;obtain⟨dx,d1,l2,d3,zs,as,rfl,h1,h2,h3,h4,h5,h6,h7⟩:=W.ex;refine⟨_,a5_ (ae_ (ax_ (cn_ rfl) (by rfl) B.list bm_ (a0_ (bS_ (pv 0) rfl) a2_))),?_⟩;refine⟨_,rfl,p,C,dx,_,_,rfl,h1,T.cl,T.nS,gH_ _ _ _,d1,_,rfl,.inl h2,λl hl=>?_⟩;rw[gs_];exact k l hl
theorem e5':ba' ["self","hand"] ["self","hand"] (a9' db'):=f__
inductive ch' (K:F__) (C:Addr) (vs:List V) (H:Hp) (Q:VK) (E:XK):Prop
 |mk:∀(p:Addr) (x:Str) (n:Int) (hs:Xa) (ts:Xb) (fp:List Addr),vs=[.ref p,.str x]->bD' K C H p hs ts fp->(hs.map (·.1)).Nodup->(x,n)∈hs->Q (.int n) H->ch' K C vs H Q E
theorem g8_{C:Addr}(F:Fun K "strength" "Web.strength" db' f fd)(T:Txt K mg C)(cH:CalM P w K mg base C 1 "has_hand" ["self","thing"] (e1' K C)):FnOk P w K mg base CX0 2 f fd ["self","hand"] (ch' K C):=by
 refine F.okA e5' λcdv A outer s H vs Q E hr h=>?_
 ·obtain⟨p,x,n,hs,ts,fp,rfl,W,nd,hx,k⟩:=h;have hu:=br_ hr;obtain⟨dx,d1,l2,d3,zs,as,rfl,h1,h2,h3,h4,h5,h6,h7⟩:=id W.ex;refine⟨_,a3_ (aw_ (aH_ (aK_ (dj_ cH T.cl hr (pv 0) (a0_ (pv 1) a2_)))) ac_ aa_) (a5_ (ae_ (cg_ hu (bS_ (pv 0) rfl) (pv 1) (λ_ _=>rfl)))),?_⟩;refine⟨_,rfl,p,dx,_,rfl,h1,c4_ _ _ _ Z0 Z0 Z0,_,rfl,p,x,hs,ts,_,rfl,W,_,rfl,?_⟩;rw[a_5 (ac'.mpr ⟨_,hx,rfl⟩)];refine iteF ?_;refine⟨_,rfl,p,C,dx,_,_,rfl,h1,T.cl,T.nS,gH_ _ _ _,_,rfl,d1,_,rfl,?_,k⟩;rw[<- h2_ nd hx];exact .k (k:=Sum.inr x) h2
theorem m6_{H:Hp}{hs:Xa}{ts:Xb}{x:Str}(nd:(bf' hs).Nodup)(hx:x∈hs.map (·.1))(la:as.length=(bf' hs).length)(h7:∀(i:Nat) n a,(bf' hs)[i]? = some n->as[i]? = some a->H a=some (.lst ((near (bf' hs) (tsOf ts) n).map V.str))):∃a,valV (b3' (bf' hs) as) (Sum.inr x)=some (.ref a)/\H a=some (.lst ((near (bf' hs) (tsOf ts) x).map V.str)):=by
 obtain⟨i,hi,e⟩:=aG' ((aM_ hs).mem_iff.mpr hx);have hn:(bf' hs)[i]? = some x:=by rw[ae' hi,e]
 obtain⟨a,h1,h2⟩:=j0_ nd la hn;exact⟨a,h2,h7 i x a hn h1⟩
theorem scTied:ba' ["self","one","other"] ["self","one","other"] (a9' sTied):=f__
theorem eO_{H:Hp}:∀ns:List Str,Paired (rS H) (ns.map V.str) ns
 |[]=>.nil
 |_::ns=>.cons rfl (eO_ ns)
theorem scTiesM:ba' ["self"] ["self"] (a9' sTiesM):=f__
inductive dI' (K:F__) (C:Addr) (vs:List V) (H:Hp) (Q:VK) (E:XK):Prop
 |mk:∀(p:Addr) (hs:Xa) (ts:Xb) (fp:List Addr),vs=[.ref p]->bD' K C H p hs ts fp->ts.length<64->(∀l zs H',Same H H'->H l=none->H' l=some (.lst zs)->bb' K H' zs ((tsOf ts).map kT)->Q (.ref l) H')->dI' K C vs H Q E
theorem jZ_{C:Addr}(F:Fun K "ties" "Web.ties" sTiesM f fd)(T:Txt K mg C)(cA:Cal P w K mg base 1 "ties_anew" ["ties"] (eO' K)):FnOk P w K mg base CX0 2 f fd ["self"] (dI' K C):=by
 refine F.okA scTiesM λcdv A outer s H vs Q E hr h=>?_
 ·obtain⟨p,hs,ts,fp,rfl,W,h64,k⟩:=h;obtain⟨dx,d1,l2,d3,zs,as,rfl,h1,h2,h3,h4,h5,h6,h7⟩:=W.ex;refine⟨_,a5_ (ae_ (al_ cA hr (a0_ (bS_ (pv 0) rfl) a2_))),?_⟩;exact⟨_,rfl,p,C,dx,_,_,rfl,h1,T.cl,T.nP,m9_ _ _ _,l2,zs,tsOf ts,rfl,h3,h4,by rw[aX_];omega,k⟩
end
end Ev
namespace L2
open PySem PySem.Spec PyProof.Rows PySem.W
def Ite(K:F__)(a:Addr):It:=
 ⟨λi H=>∃xs x,SqL K H a xs/\xs[i]? = some x,λi H y H'=>∃t x,y=.ref t/\H t=none/\(∀xs,SqL K H a xs->xs[i]? = some x)/\H'=upd H t (.tup [.int i,x]),λi H=>∃xs,SqL K H a xs/\xs.length=i⟩
variable{X:Cx}{pins:List (Addr × Obj)}{σ:St}{s:Ac}{h':Heap}{t':Nat}{fp:List Addr}
theorem Inv.turnedN{H:Hp}{T:Addr}{xs:List V}{its:List Aa}(I:Inv X pins σ H s)(k:∀b o,b∉fp->s.heap.get? b=some o->h'.get? b=some o)(hf:∀b∈fp,FpOk X pins H b)(hT:s.heap.objs.size<=T)(hz:xs.length<=sizeLine)(r:Vals xs its)(ht:IsTup h' T its.toArray/\∃o,h'.get? T=some o/\o.dict=none):Inv X pins σ (upd H T (.tup xs)) { s with heap:=h',toks:=t' }:=by
 have fT:H T=none:=I.hok.fresh hT;have nf:∀b u,H b=some u->b∉fp:=λb u e hb=>by rw[(hf b hb).1] at e;cases e
 have old:∀{b u},H b=some u->upd H T (.tup xs) b=some u:=λe=>by rw[a8_ (a6_ e fT)];exact e
 refine I.step (g':=s.gens) (d':=s.drawn) (ch:=fp) (λb hb=>?_) (λb o _ _ hc e _=>k b o hc e) (λb o _ _ hc e _=>⟨o.slots,k b o hc e⟩) (λb o _ e n=>?_)
  (λb o hc e=>⟨o,k b o hc e⟩) (λb ys e=>old e) (λb o u e=>old e) (λb ps e=>⟨#[],by rw[Array.append_empty];exact old e⟩) (λm hm=>?_) (λb u e=>?_) I.bare
 ·obtain⟨f0,f1,f2,f3,f4,f5⟩:=hf b hb;exact⟨f3,f1,f4,f5⟩
 ·rw[a8_ (λz=>by subst z;exact absurd (a_6 e) (Nat.not_lt.mpr hT))];exact n
 ·obtain⟨o,es,ep,ho,r⟩:=hm;exact⟨o,es,ep,k _ o (λhb=>(hf _ hb).2.1 rfl) ho,r⟩
 ·by_cases z:b=T
  ·subst z;rw[a1_] at e;cases e;exact⟨hz,its,r,ht⟩
  ·rw[a8_ z] at e;refine (I.hok b u e).stay (λc v hc q=>k c v ?_ q) (λ_ q=>old q) λ_ _ q=>old q;rcases hc with z|z
   ·rw[z];exact nf b u e
   ·exact nf c _ z
theorem Inv.turnedF{H:Hp}(I:Inv X pins σ H s)(k:∀b o,b∉fp->s.heap.get? b=some o->h'.get? b=some o)(hf:∀b∈fp,FpOk X pins H b):Inv X pins σ H { s with heap:=h',toks:=t' }:=by
 have nf:∀b u,H b=some u->b∉fp:=λb u e hb=>by rw[(hf b hb).1] at e;cases e
 refine I.step (g':=s.gens) (d':=s.drawn) (ch:=fp) (λb hb=>?_) (λb o _ _ hc e _=>k b o hc e) (λb o _ _ hc e _=>⟨o.slots,k b o hc e⟩) (λb o _ e n=>n)
  (λb o hc e=>⟨o,k b o hc e⟩) (λb ys e=>e) (λb o u e=>e) (λb ps e=>⟨#[],by rw[Array.append_empty];exact e⟩) (λm hm=>?_) (λb u e=>?_) I.bare
 ·obtain⟨f0,f1,f2,f3,f4,f5⟩:=hf b hb;exact⟨f3,f1,f4,f5⟩
 ·obtain⟨o,es,ep,ho,r⟩:=hm;exact⟨o,es,ep,k _ o (λhb=>(hf _ hb).2.1 rfl) ho,r⟩
 ·refine (I.hok b u e).stay (λc v hc q=>k c v ?_ q) (λ_ q=>q) λ_ _ q=>q;rcases hc with z|z
  ·rw[z];exact nf b u e
  ·exact nf c _ z
variable{P:Ae}{elts:List Expr}{k:Nat}{pos:Pos}
theorem iv_{w:Ag}{K:F__}(a e it:Addr)(h1:e≠it)(h2:a≠e)(h3:a≠it):Turn P w K (.Tuple elts k pos) (Ite K a) [e,it] e (λi h=>(∃old,IsEnum h e it i old)/\h.IsListIter it a i) where
 mem:=by simp
 obj:=λi h st b hb=>by
  obtain⟨⟨old,q⟩,o,e2,c,d⟩:=st;rcases ah'.mp hb with rfl|hb
  ·exact⟨_,q,λv z=>by cases z⟩
  ·obtain rfl:b=it:=by simpa using hb
   exact⟨o,e2,λv z=>by rw[d] at z;cases z⟩
 keep:=λi h h' st kk=>by
  obtain⟨⟨old,q⟩,st2⟩:=st;exact⟨⟨old,kk e Z2 _ q⟩,st2.at λo q2=>kk it Z2 o q2⟩
 item:=by
  intro X hP hw hK hc i pins s σ H E I hf st hg;subst hP hw hK;obtain⟨xs,x,hq,hx⟩:=hg;obtain⟨its,rv,p,hz⟩:=I.list hq;obtain⟨u,hu,ru⟩:=rv.get hx;have W:=WalksT.enumerate (prog:=X.prog) (w:=X.w) (A:=X.A) (I.ok.hd hc) e it a h1 h2 h3 its.toArray
  have hi:i<its.toArray.size:=by
   simp only[ap'];exact (ab'.mp hu).1
  obtain⟨old,he⟩:=st.1;have hit:=st.2;refine wpAny_pyNext_enum_item he hit p.isList (x:=u) (by rw[List.getElem?_toArray];exact hu) h1 λh' ho hit' hTo hsz hk=>?_;have helt:e<s.heap.objs.size:=a_6 he;have hilt:it<s.heap.objs.size:=by obtain⟨_,x,_⟩:=hit;exact a_6 x
  have mid:(∃x,IsEnumOut h' e it ((i:Int)+1) x s.heap.objs.size)/\h'.IsListIter it a (i+1)/\h'.IsList a its.toArray/\s.heap.objs.size≠e/\s.heap.objs.size≠it:=⟨⟨_,ho⟩,hit',p.isList.at λo x=>hk a o h2 h3 x,a8' helt,a8' hilt⟩;have kk:∀b o,b∉[e,it]->s.heap.get? b=some o->h'.get? b=some o:=λb o hb x=>hk b o (λe'=>hb (by simp[e'])) (λe'=>hb (by simp[e'])) x;have isT:h'.IsTuple s.heap.objs.size #[.int i s.toks,u]:=⟨_,hTo,rfl,_,rfl⟩;obtain⟨T,eT⟩:∃T,T=s.heap.objs.size:=⟨_,rfl⟩;obtain⟨t,et⟩:∃t,t=s.toks:=⟨_,rfl⟩;obtain⟨tk,htk⟩:∃tk,tk=s.toks+1:=⟨_,rfl⟩;rw[<- eT] at isT mid hTo ⊢;have hT:s.heap.objs.size<=T:=Nat.le_of_eq eT.symm;rw[<- et] at isT hTo;rw[<- htk];refine⟨_,rfl,W.go elts k pos i T { s with heap:=h',toks:=tk } _ _ mid λh2' st' kk2=>?_⟩;have nT:T∉[e,it]:=W.apart i T h' mid
  have isT2:h2'.IsTuple T #[.int i t,u]:=by
   obtain⟨o,q,r⟩:=isT;exact⟨o,kk2 T o nT q,r⟩
  have I1:Inv X pins σ (upd H T (.tup [.int i,x])) { s with heap:=h2',toks:=tk }:=I.turnedN (t':=tk) (fp:=[e,it]) (its:=[.int i t,u]) (λb o hb q=>kk2 b o hb (kk b o hb q)) hf hT (by show 2<=sizeLine;decide) (.cons ⟨t,rfl⟩ (.cons ru .nil)) ⟨isT2,_,kk2 T _ nT hTo,rfl⟩;refine⟨.ref T,_,I1,rfl,⟨T,x,rfl,I.hok.fresh hT,λys hy=>by rw[I.list_inj hy hq];exact hx,rfl⟩,⟨?_,st'.2.1⟩,λb hb=>?_⟩
  ·obtain⟨old,q⟩:=st'.1;exact⟨old,by simpa using q⟩
  ·rw[a8_ (λz:b=T=>nT (by rw[<- z];exact hb))];exact (hf b hb).1
 done:=by
  intro X hP hw hK hc i pins s σ H E I hf st hg;subst hP hw hK;obtain⟨xs,hq,hx⟩:=hg;obtain⟨its,rv,p,hz⟩:=I.list hq;have W:=WalksT.enumerate (prog:=X.prog) (w:=X.w) (A:=X.A) (I.ok.hd hc) e it a h1 h2 h3 its.toArray
  have hn:its.toArray.size=i:=by
   have:=rv.length;simp only[ap'];omega
  refine W.done s _ _ (by rw[hn];exact⟨st.1,st.2,p.isList⟩) λh' tk kk=>⟨rfl,I.turnedF (t':=tk) (fp:=[e,it]) kk hf⟩
 self:=λA i s Q E st h=>by
  obtain⟨old,q⟩:=st.1;exact wpAny_pyIter_enum q h
inductive iEnumR (K:F__) (R:It->Hp->Prop) (vs:List V) (H1:Hp):Prop
 |mk:∀a,vs=[.ref a]->(∃xs,SqL K H1 a xs)->R (Ite K a) H1->iEnumR K R vs H1
def iEnum(K:F__)(ta:TA):TI:=λσ H R=>ta σ H λvs H1=>iEnumR K R vs H1
theorem kK_{kk:Nat}{p2:Pos}{a:Expr}{ta:TA}{p:Pos}(hg:Gl X "enumerate")(hm:X.mg "enumerate"=none)(ha:PA X [a] ta)(hs:starEach [a] X.env=[(false,eval a X.env)]:=by rfl):PI X (.Tuple elts kk p2) (.Call (.Name "enumerate" p) [a] [] pos) (iEnum X.K ta):=by
 intro pins s σ H R I h;refine Call_ (ef_ I hg hm boot_enumerate (PyProof.Rows.callWith_type1 (thn (ha pos pins s σ H _ I h) λus s1 ⟨vs,H1,I1,r1,q1⟩=>?_) hs rfl));obtain⟨l,e,⟨xs,hq⟩,q⟩:=q1;subst e;cases r1 with
 |cons r rr=>
  cases rr;cases r;obtain⟨its,rv,pl,hz⟩:=I1.list hq;have ll:l<s1.heap.objs.size:=by obtain⟨_,e,_⟩:=pl.isList;exact a_6 e
  refine call_enumerate_list pl.isList λh' he hi hn kp=>?_;refine wpAny_pyIter_enum he ?_;refine⟨s1.heap.objs.size+1,[s1.heap.objs.size+1,s1.heap.objs.size],_,_,H1,rfl,I1.kept (t':=s1.toks) kp,iv_ l _ _ (Nat.succ_ne_self _) (av' (Nat.lt_succ_of_lt ll)) (av' ll),⟨⟨_,he⟩,hi⟩,λb hb=>?_,q⟩
  have e:s1.heap.objs.size<=b:=by
   rcases ah'.mp hb with rfl|hb
   ·exact Nat.le_succ _
   ·obtain rfl:b=s1.heap.objs.size:=by simpa using hb
    exact ak' _
  exact I1.fpOk e (I1.hok.fresh e)
variable{a:Addr}
theorem jm_{K:F__}{xs:List V}{g:TG}{tb:TS}{D:Ends}{H:Hp}(Pv:Nat->St->Hp->Prop)(h0:Pv 0 σ H)(hl:∀i σ H,i<=xs.length->Pv i σ H->SqL K H a xs)(hs:∀i x σ H,xs[i]? = some x->Pv i σ H->∀t,H t=none->g (.ref t) σ (upd H t (.tup [.int i,x])) λσ2 H2=>tb { D with nx:=Pv (i+1),ct:=Pv (i+1),bk:=D.nx } σ2 H2)(hd:∀σ H,Pv xs.length σ H->D.nx σ H) :
  ∃W:Nat->Nat->St->Hp->Prop,(∃m,W 0 m σ H)/\∀i m σ H,W i m σ H->
   ((Ite K a).stop i H/\D.nx σ H)∨((Ite K a).go i H/\∃N:St->Hp->Prop,(∀σ' H',N σ' H'->∃m',m'<m/\W (i+1) m' σ' H')/\∀x H',(Ite K a).yld i H x H'->g x σ H' λσ2 H2=>tb { D with nx:=N,ct:=N,bk:=D.nx } σ2 H2):=by
 refine⟨λi m σ H=>m=xs.length - i/\i<=xs.length/\Pv i σ H,⟨xs.length,by simp,aJ' _,h0⟩,?_⟩;rintro i m σ H ⟨rfl,hi,p⟩;have q:=hl i σ H hi p;by_cases hlt:i<xs.length
 ·refine .inr ⟨⟨xs,xs[i],q,by simp[hlt]⟩,Pv (i+1),λσ' H' p'=>⟨xs.length - (i+1),by omega,rfl,hlt,p'⟩,λx H' y=>?_⟩;obtain⟨t,x,rfl,ht,y,rfl⟩:=y;exact hs i x σ H (y xs q) p t ht
 ·have e:i=xs.length:=by omega
  subst e;exact .inl ⟨⟨xs,q,rfl⟩,hd σ H p⟩
def TrE(h base:Heap)(e:Addr)(cls cx fl:Aa):Prop:=∃oe vs T oT ts,h.get? e=some oe/\(oe.cls=cls/\oe.dict=none)/\oe.data=Data.fields vs/\vs[1]? = some (Value.ref T)/\vs[2]? = some cx/\base.get? T=none/\T≠e/\h.get? T=some oT/\oT.data=Data.fields ts/\ts[3]? = some fl
def FlC(base:Heap)(l:List Env)(e:Addr)(cls cx fl:Aa)(h:Heap):Prop:=base.StaysIn h/\base.get? e=none/\h.FunFrames base l/\TrE h base e cls cx fl
abbrev FlE(base:Heap)(l:List Env)(e:Addr)(cls fl:Aa)(h:Heap):Prop:=FlC base l e cls Value.none fl h
variable{base h:Heap}{l:List Env}{e:Addr}{cls cx fl:Aa}
theorem FlC.less{env:Env}(f:FlC base (env::l) e cls cx fl h):FlC base l e cls cx fl h:=⟨f.1,f.2.1,f.2.2.1.2.2,f.2.2.2⟩
theorem FlC.obj(f:FlC base l e cls cx fl h):∃oe vs,h.get? e=some oe/\oe.cls=cls/\oe.data=Data.fields vs/\oe.dict=none/\vs[2]? = some cx:=by
 obtain⟨_,_,_,oe,vs,T,oT,ts,h1,h2,h3,h4,h5,_⟩:=f;exact⟨oe,vs,h1,h2.1,h3,h2.2,h5⟩
theorem FlE.w(f:FlE base l e cls Value.none h):∃a0,Heap.FlyingW base l e cls a0 h:=by
 obtain⟨f1,f2,f3,oe,vs,T,oT,ts,he,⟨hc,_⟩,hd,h1,h2,hnT,hTe,hT,hdT,h3⟩:=f;have z:0<vs.size:=ar' (by decide) (aE'.mp h2).1;exact⟨vs[0],f1,f2,f3,oe,vs,T,oT,ts,he,⟨hc,Array.getElem?_eq_getElem z⟩,hd,h1,hnT,hTe,hT,hdT,h3⟩
def FlB(base:Heap)(l:List Env)(e:Addr)(cls a0:Aa)(h:Heap):Prop:=Heap.FlyingW base l e cls a0 h/\FlE base l e cls Value.none h
theorem FlE.b(f:FlE base l e cls Value.none h):∃a0,FlB base l e cls a0 h:=by
 obtain⟨a0,q⟩:=f.w;exact⟨a0,q,f⟩
section
variable{M:Model}{A:Ah}{E:Aa->Ac->Prop}{s:Ac}{base:Heap}{env:Env}{outer:List Env}{L e:Addr}{cls cx fl:Aa}{Q:Unit->Ac->Prop}
theorem entryE{oe:Obj}{vs:Array Aa}{head:Aa}{hadNext:Bool}(hfr:A.frames=some (env::outer))(hl:s.heap.FunFrames base (env::outer))(hf:env.frame=some L)(he:s.heap.get? e=some oe)(hkb:base.StaysIn s.heap)(hen:base.get? e=none)(hd:oe.data=Data.fields vs)(hdd:oe.dict=none)(h2:vs[2]? = some cx)
  (h:∀h',FlC base (env::outer) e oe.cls cx (rawInt L) h'->s.heap.UpToSlots h'->Q () { s with heap:=h' }) :
  wpAny M A (do
   let a <- PySem.frameOf env
   let pl <- entryPlaceOf L hadNext
   let b <- EntryCells.newEntry head a Value.none (rawInt L) Value.none pl
   setField (Value.ref e) 1 b) Q E s:=by
 have hsz:1<vs.size:=ar' (by decide) (aE'.mp h2).1
 have hene:e∉List.filterMap (λx=>x.frame) (env::outer):=λhm=>by
  obtain⟨_,o,ho,hnf⟩:=Heap.FunFrames.mem hl hm;rw[he] at ho;cases ho;exact hnf vs hd
 refine a__ (wpAny_frameOf_fun hfr hl hf λh₁ hs₁=>a__ (wpAny_entryPlaceOf λpl hpl=>?_));unfold EntryCells.newEntry newFields;have hsz1:h₁.objs.size=s.heap.objs.size:=hs₁.1;have he₁:=(hs₁.right.left e hene).trans he;have hlt:∀b o,s.heap.get? b=some o->b≠h₁.objs.size:=λb o q=>av' (by rw[hsz1];exact a_6 q)
 have hbn:base.get? h₁.objs.size=none:=by
  cases q:base.get? h₁.objs.size with
  |none=>rfl
  |some o=>exact absurd rfl (hlt _ o (hkb _ o q))
 have hbase:∀b o,base.get? b=some o->h₁.get? b=some o:=λb o q=>(hs₁.right.left b (λhm=>by
  have:=(Heap.FunFrames.mem hl hm).1;rw[q] at this;cases this)).trans (hkb b o q)
 obtain⟨tbs,htb,ht3⟩:∃tbs:Array Aa,([head,Value.ref L,Value.none,rawInt ↑L,Value.none]++if pl.isEmpty=true then List.replicate 6 Value.none else pl).toArray=tbs/\tbs[3]? = some (rawInt ↑L):=⟨_,rfl,by simp⟩
 have hts:tbs.size<=sizeLine+2:=by
  rw[<- htb];rcases hpl with rfl|⟨a,b,c,d,c9,b10,_,rfl⟩
  ·show 11<=sizeLine+2;decide
  ·show 11<=sizeLine+2;decide
 refine a__ (d_2 ?_ (by rw[htb];exact hts));rw[htb];have he₂:(h₁.push { cls:=Value.type "traceback",data:=Data.fields tbs }).get? e=some oe:=a_0 _ he₁;have hn₂:(h₁.push { cls:=Value.type "traceback",data:=Data.fields tbs }).get? h₁.objs.size=some { cls:=Value.type "traceback",data:=Data.fields tbs }:=a_7 h₁ rfl;have hTe:h₁.objs.size≠e:=(hlt e oe he).symm;refine e_0 he₂ hd hsz ?_;have hd₃:=d_4 hd λx=>x.setIfInBounds 1 (Value.ref h₁.objs.size);have he₃:=c_6 (Obj.mapFields λx=>x.setIfInBounds 1 (Value.ref h₁.objs.size)) he₂ (c_9 hd₃);have hn₃:=(b_5 (h₁.push { cls:=Value.type "traceback",data:=Data.fields tbs }) (Obj.mapFields λx=>x.setIfInBounds 1 (Value.ref h₁.objs.size)) hTe.symm).trans hn₂
 have oth:∀b o,b≠e->h₁.get? b=some o->((h₁.push { cls:=Value.type "traceback",data:=Data.fields tbs }).update e (Obj.mapFields λx=>x.setIfInBounds 1 (Value.ref h₁.objs.size))).get? b=some o:=λb o n1 q=>
  (b_5 _ _ n1.symm).trans (a_0 _ q)
 have hec:((Obj.mapFields λx=>x.setIfInBounds 1 (Value.ref h₁.objs.size)) oe).cls=oe.cls/\((Obj.mapFields λx=>x.setIfInBounds 1 (Value.ref h₁.objs.size)) oe).dict=oe.dict:=by
  obtain⟨c,dt,da,sl⟩:=oe;have:da=Data.fields vs:=hd;subst this;exact⟨rfl,rfl⟩
 have ups:∀b o,s.heap.get? b=some o->(∀vs,o.data≠Data.fields vs)->∃sl,((h₁.push { cls:=Value.type "traceback",data:=Data.fields tbs }).update e (Obj.mapFields λx=>x.setIfInBounds 1 (Value.ref h₁.objs.size))).get? b=some { cls:=o.cls,dict:=o.dict,data:=o.data,slots:=sl }:=λb o q nf=>by
  obtain⟨sl,q1⟩:=hs₁.right.right b o q;refine⟨sl,oth b _ (λz=>?_) q1⟩;subst z;rw[he] at q;cases q;exact nf vs hd
 refine h _ ⟨λb o q=>oth b o (λz=>?_) (hbase b o q),hen,d_9 (λb o q nf=>?_) hl,⟨_,_,h₁.objs.size,_,_,he₃,⟨hec.1,hec.2.trans hdd⟩,hd₃,?_,?_,hbn,hTe,hn₃,rfl,ht3⟩⟩ ups
 ·subst z;rw[hen] at q;cases q
 ·obtain⟨sl,q1⟩:=ups b o q nf;exact⟨_,q1,rfl⟩
 ·simp[hsz]
 ·rw[Array.getElem?_setIfInBounds];simpa using h2
theorem setE{fr:Option Addr}(f:FlC base l e cls cx fl s.heap)(hQ:∀h',FlC base l e cls cx (fr.elim Value.none λa=>rawInt a) h'->s.heap.UpToSlots h'->Q () { s with heap:=h' }):wpAny M A (setFlight (Value.ref e) fr) Q E s:=by
 obtain⟨f1,f2,f3,oe,vs,T,oT,ts,he,hc,hd,h1,h2,hnT,hTe,hT,hdT,h3⟩:=f;have z3:3<ts.size:=(aE'.mp h3).1;have other:∀b,b≠T->(s.heap.update T (Obj.mapFields λx=>x.setIfInBounds 3 (fr.elim Value.none λa=>rawInt a))).get? b=s.heap.get? b:=λb hb=>b_5 _ _ hb.symm
 have nrec:∀b o,s.heap.get? b=some o->(∀vs,o.data≠Data.fields vs)->b≠T:=λb o q nf z=>by
  subst z;rw[hT] at q;cases q;exact nf ts hdT
 unfold setFlight;refine a__ (d_3 he hd h1 ?_);rw[b_0 Z2];refine e_0 hT hdT z3 ?_;have hd4:=d_4 hdT λx=>x.setIfInBounds 3 (fr.elim Value.none λa=>rawInt a);have hT4:=c_6 (Obj.mapFields λx=>x.setIfInBounds 3 (fr.elim Value.none λa=>rawInt a)) hT (c_9 hd4);refine hQ _ ⟨λb o q=>(other b (λz=>?_)).trans (f1 b o q),f2,d_9 (λb o q nf=>⟨o,(other b (nrec b o q nf)).trans q,rfl⟩) f3,oe,vs,T,_,_,(other e hTe.symm).trans he,hc,hd,h1,h2,hnT,hTe,hT4,hd4,?_⟩ λb o q nf=>⟨o.slots,(other b (nrec b o q nf)).trans q⟩
 ·subst z;rw[hnT] at q;cases q
 ·simp[z3]
theorem noteE(hfr:A.frames=some (env::outer))(hf:env.frame=some L)(f:FlC base (env::outer) e cls cx Value.none s.heap)
  (hQ:∀h',FlC base (env::outer) e cls cx (rawInt L) h'->s.heap.UpToSlots h'->Q () { s with heap:=h' }):wpAny M A (noteFrame (Value.ref e) env) Q E s:=by
 obtain⟨f1,f2,f3,oe,vs,T,oT,ts,he,⟨hc,hdd⟩,hd,h1,h2,hnT,hTe,hT,hdT,h3⟩:=f;subst hc;unfold noteFrame;rw[hf];dsimp only;refine a__ (d_3 he hd h1 ?_);rw[b_0 Z2];refine a__ (d_3 hT hdT h3 ?_);rw[a_8 (by simp[rawInt])];refine a__ (e_0 hT hdT (aE'.mp h3).1 ?_);have other:∀b,b≠T->(s.heap.update T (Obj.mapFields λx=>x.setIfInBounds 3 Value.none)).get? b=s.heap.get? b:=λb hb=>b_5 _ _ hb.symm
 have nrec:∀b o,s.heap.get? b=some o->(∀vs,o.data≠Data.fields vs)->b≠T:=λb o q nf z=>by
  subst z;rw[hT] at q;cases q;exact nf ts hdT
 refine entryE (base:=base) (s:={ s with heap:=s.heap.update T (Obj.mapFields λx=>x.setIfInBounds 3 Value.none) }) hfr (d_9 (λb o q nf=>⟨o,(other b (nrec b o q nf)).trans q,rfl⟩) f3) hf ((other e hTe.symm).trans he) (λb o q=>(other b (λz=>?_)).trans (f1 b o q)) f2 hd hdd h2 λh' g u=>hQ h' g λb o q nf=>u b o ((other b (nrec b o q nf)).trans q) nf;subst z;rw[hnT] at q;cases q
theorem c7_(hf:env.frame=some L)(f:FlC base l e cls cx (rawInt L) s.heap)(h:Q () s):wpAny M A (noteFrame (Value.ref e) env) Q E s:=by
 obtain⟨f1,f2,f3,oe,vs,T,oT,ts,he,hc,hd,h1,h2,hnT,hTe,hT,hdT,h3⟩:=f;unfold noteFrame;rw[hf];dsimp only;refine a__ (d_3 he hd h1 ?_);rw[b_0 Z2];refine a__ (d_3 hT hdT h3 ?_);rw[b_0 Z2];exact a_2 h
theorem ec_{vs:List Aa}(hfr:A.frames=some (env::outer))(hf:env.frame=some L)(hkb:base.StaysIn h)(hl:h.FunFrames base (env::outer))(hx:Heap.MadeExcOf h s.heap e cls vs)(hQ:∀h',FlC base (env::outer) e cls Value.none (rawInt L) h'->s.heap.UpToSlots h'->Q () { s with heap:=h' }):wpAny M A (noteFrame (Value.ref e) env) Q E s:=by
 obtain⟨t,he,htn,ht⟩:=hx.there
 have fresh:∀b,h.get? b=none->base.get? b=none:=λb hb=>by
  cases hq:base.get? b with
  |none=>rfl
  |some o'=>have:=hkb b o' hq;rw[hb] at this;cases this
 unfold noteFrame;rw[hf];dsimp only;refine a__ (d_3 he rfl rfl ?_);rw[a_8 Z2];exact entryE (base:=base) hfr (hl.of_keeps λb o hb _=>⟨o,hx.keeps b o hb,rfl⟩) hf he (λb o hb=>hx.keeps b o (hkb b o hb)) (fresh e hx.new) rfl rfl rfl hQ
end
theorem bt'.here{w:Ag}{H:Hp}{o:HO}(x:bt' P w H h a o):∃u,h.get? a=some u:=by
 cases o with
 |lst xs=>obtain⟨_,_,_,_,e⟩:=x;exact⟨_,e⟩
 |tup xs=>obtain⟨_,_,_,⟨o,e,_⟩,_⟩:=x;exact⟨_,e⟩
 |dK kvs=>obtain⟨_,_,_,_,o,_,_,e,_⟩:=x;exact⟨_,e⟩
 |dT kvs=>obtain⟨_,_,_,_,o,_,_,e,_⟩:=x;exact⟨_,e⟩
 |set S n=>obtain⟨o,_,_,_,e,_⟩:=x;exact⟨_,e⟩
 |ins C dx fs=>obtain⟨_,_,_,e,_⟩:=x;exact⟨_,e⟩
 |own y=>exact x
 |xd fs=>obtain⟨_,⟨_,_,_,e,_⟩,_⟩:=x;exact⟨_,e⟩
 |rng lo hi=>obtain⟨_,_,_,e⟩:=x;exact⟨_,e⟩
 |frz ob u=>obtain⟨e,_⟩:=x;exact⟨_,e⟩
 |tbl ps=>exact⟨_,show h.get? a=some _ from x⟩
 |met f y=>exact⟨_,show h.get? a=some _ from x⟩
 |ext φ=>obtain⟨_,e,_⟩:=x;exact e
def InB(B:Heap)(l:List Env)(H:Hp)(h0 h:Heap):Prop:=
 ∀b o,h.get? b=some o->b∉frs l->((H b).isSome=true∨∃o0,h0.get? b=some o0)->B.get? b=some o
section
variable{P:Ae}{w:Ag}{H H':Hp}{B h0 h h1:Heap}{l:List Env}
theorem bf_(hok:HOk P w H' h)(fr:∀b∈frs l,H' b=none)(i:InB B l H' h0 h)(st:B.StaysIn h1):HOk P w H' h1:=λb o e=>
 (hok b o e).stay (λc u hc q=>by
  have hs:∃x,H' c=some x:=by
   rcases hc with z|z
   ·exact⟨o,z▸e⟩
   ·exact⟨_,z⟩
  obtain⟨x,hx⟩:=hs;exact st c u (i c u q (λm=>by rw[fr c m] at hx;cases hx) (.inl (by rw[hx];rfl)))) (λ_ q=>q) (λ_ _ q=>q)
theorem bu_(un:Un (frs l) [] H H' h0 h)(ff:h.FunFrames B l)(i:InB B l H' h0 h)(st:B.StaysIn h1)(up:h.UpToSlots h1):Un (frs l) [] H H' h0 h1 where
 keep:=λb o q n hb hx=>st b o (i b o (un.keep b o q n hb hx) hb (.inr ⟨o,q⟩))
 slot:=λb o q n hb hx=>by
  obtain⟨sl,e⟩:=un.slot b o q n hb hx;obtain⟨_,o',e',d⟩:=ff.mem hb;rw[e] at e';cases e';obtain⟨sl2,e2⟩:=up b _ e d;exact⟨sl2,e2⟩
 free:=un.free
 there:=λb o q hx=>by
  obtain⟨o',e⟩:=un.there b o q hx;by_cases hb:b∈frs l
  ·obtain⟨_,o2,e',d⟩:=ff.mem hb;rw[e] at e';cases e';obtain⟨sl2,e2⟩:=up b _ e d;exact⟨_,e2⟩
  ·exact⟨o',st b o' (i b o' e hb (.inr ⟨o,q⟩))⟩
 tups:=un.tups
 frzs:=un.frzs
 tbls:=un.tbls
theorem bL_(hok:HOk P w H' h)(un:Un (frs l) [] H H' h0 h)(i:InB B l H' h0 h)(st:B.StaysIn h1):InB B l H' h0 h1:=λb o e hb c=>by
 have:∃u,h.get? b=some u:=by
  rcases c with z|⟨o0,z⟩
  ·obtain⟨x,hx⟩:=aS'.mp z;exact (hok b x hx).here
  ·exact un.there b o0 z Z2
 obtain⟨u,hu⟩:=this;have q:=i b u hu hb c;have:=st b u q;rw[e] at this;cases this;exact q
end
def CX1(P:Ae)(w:Ag):CXT:=λl H s E e s'=>
 ∃a cls H' B a0,e=Value.ref a/\s'.os=s.os/\AllBare s'.gens/\Un (frs l) [] H H' s.heap s'.heap/\HOk P w H' s'.heap/\FlB B l a cls a0 s'.heap/\InB B l H' s.heap s'.heap/\E cls none H'
section
variable{X:Cx}{pins:List (Addr × Obj)}{σ:St}{H H':Hp}{s s1:Ac}{B h:Heap}{a:Addr}{cls a0:Aa}{E:XK}
theorem cl_(I:Inv X pins σ H s)(un:Un (frs X.stack) [] H H' s.heap h):∀b∈frs X.stack,H' b=none:=λb hb=>by
 obtain⟨_,o,ho,_⟩:=I.stack.mem hb;exact un.free b o ho (I.stkFree b hb) Z2
theorem dT_(I:Inv X pins σ H s)(hex:X.ex=[])(os:s1.os=s.os)(bare:AllBare s1.gens)(un:Un (frs X.stack) [] H H' s.heap h)(hok:HOk X.prog X.w H' h)(i:InB B X.stack H' s.heap h)(ff:h.FunFrames B X.stack)(up:h.UpToSlots s1.heap)
  (fl:FlB B X.outer a cls a0 s1.heap) (hE:E cls none H'):CX1 X.prog X.w X.outer X.H₀ X.s₀ E (.ref a) s1:=by
 have un1:=bu_ un ff i fl.1.1 up;have hok1:=bf_ hok (cl_ I un) i fl.1.1;have I1:Inv X pins σ H' s1:=I.call' os un1 hok1 bare (λb z=>absurd z Z2);have bs:=I1.base;rw[hex] at bs;refine⟨a,cls,H',B,a0,rfl,I1.os,I1.bare,bs,I1.hok,fl,λb o e hb c=>?_,hE⟩
 have nL:b≠X.env.locals:=by
  rcases c with z|⟨o0,z⟩
  ·intro q;rw[q,I1.free] at z;cases z
  ·exact av' (ar' (a_6 z) I.ok.above)
 refine bL_ hok un i fl.1.1 b o e (λhm=>?_) (c.imp id λ⟨o0,z⟩=>I.base.there b o0 z (by rw[hex];simp));rcases ah'.mp (I.stkSub b hm) with z|z
 ·exact nL z
 ·exact hb z
end
section
variable{P:Ae}{w:Ag}{K:F__}{mg:Str->Option Aa}{base:Heap}{N:List Str}{qual:Str}{scope:Scope}{f:Addr}{cd:Aa}{A:Ah}{outer:List Env}{s:Ac}{H:Hp}{E:XK}
theorem passes1:bx' (CX1 P w) (cxOf (CX1 P w) P w K mg base N qual scope f cd A outer s H E) E:=by
 intro pins σ H1 s1 e s' I hc;obtain⟨a,cls,H',B,a0,rfl,os,bare,un,hok,fl,i,hE⟩:=hc;show wpAny _ _ (leaving _ _) _ _ _;unfold leaving;refine a__ (noteE (base:=B) I.ok.frames rfl fl.2 λh1 hd up=>setE (fr:=none) hd λh2 f2 up2=>?_);obtain⟨a1,fb⟩:=FlE.b (FlC.less f2);exact dT_ (s1:={ s' with heap:=h2 }) I rfl os bare un hok i fl.1.2.2.1 (up.trans up2) fb hE
def cT'(X:Cx)(E:XK):Prop:=∀(pins:List (Addr × Obj)) (σ:St) (H:Hp) (s:Ac) (h':Heap) (e:Addr) (cls:Aa) (vs:List Aa),Inv X pins σ H s->Heap.MadeExcOf s.heap h' e cls vs->E cls none H->X.xe (.ref e) { s with heap:=h' }
theorem raises1:cT' (cxOf (CX1 P w) P w K mg base N qual scope f cd A outer s H E) E:=by
 intro pins σ H1 s1 h' e cls vs I hx hE;have ff:=PySem.W.funFrames_hide (as:=frs (cxOf (CX1 P w) P w K mg base N qual scope f cd A outer s H E).stack) I.stack (λenv he b hb=>aB'.mpr ⟨env,he,hb⟩);show wpAny _ _ (leaving _ _) _ _ _;unfold leaving;refine a__ (ec_ (base:=PySem.W.hideAll s1.heap (frs (cxOf (CX1 P w) P w K mg base N qual scope f cd A outer s H E).stack)) (h:=s1.heap) I.ok.frames rfl (λb o q=>PySem.W.of_hideAll _ q) ff hx λh1 hd up=>setE (fr:=none) hd λh2 f2 up2=>?_);obtain⟨a1,fb⟩:=FlE.b (FlC.less f2);exact dT_ (s1:={ s1 with heap:=h2 }) I rfl rfl I.bare Un.refl I.hok (λb o q hb _=>e_2 _ q hb) ff ((Heap.UpToSlots.of_keeps hx.keeps).trans (up.trans up2)) fb hE
end
variable{x:Str}{C:Addr}{newId:Ai}
theorem hO_{K:F__}{mg:Str->Option Aa}{bmB:List Aa}(X:K.In h)(hm:mg x=some (.ref C))(q:PySem.W.excIn K C bmB newId=true):OwnCls x C bmB newId mg h:=by
 refine⟨hm,?_⟩;unfold PySem.W.excIn at q;split at q
 ·rename_i dd cd sl ho
  split at q
  ·rename_i C' bm k0 k1 k2 k3 n k5 hm' hs
   simp only[az',beq_iff_eq,Bool.not_eq_true'] at q;obtain⟨⟨⟨⟨⟨rfl,rfl⟩,hdel⟩,ht⟩,hok⟩,hni⟩:=q;obtain⟨nm,bs,mro,ns,qn,hd,sn,sub,ab,col,del⟩:=cd;dsimp only at hm' hdel hok hni;subst hm' hdel
   have hsl:sl=#[k0,k1,k2,k3,some (.builtin n),k5]:=by
    obtain⟨l⟩:=sl;simp only at hs;rw[hs]
   subst hsl;exact⟨bm,ns,nm,qn,bs,hd,sn,sub,ab,col,dd,k0,k1,k2,k3,k5,_,X _ _ ho,.of_isNs (PySem.W.isNs_of_in X hok),PySem.W.nsMap_none_of_in X hok hni,PySem.W.tail_of_in X ht⟩
  ·cases q
 ·cases q
def tRaise(cls:Aa)(E:XK)(t:TA):TS:=λ_ σ H=>t σ H λvs H1=>vs.length<=sizeLine/\E cls none H1
variable{bm:List Aa}{B initId:Ai}{cpos np:Pos}{e₀:Expr}{t:TA}{E:XK}
theorem aU_(hh:X.calm=true)(R:cT' X E)(hm:X.mg x=some (.ref C))(qx:PySem.W.excIn X.K C bm newId=true)(FB:ExcBaseFacts B newId initId bm)(hg:Gl X x)(ha:PA X [e₀] t)
  (he:starEach [e₀] X.env=(false,eval e₀ X.env)::starEach [] X.env:=by rfl) (hpl:(backTo cpos (starEach [e₀] X.env)).any (·.1)=false:=by rfl) (hd:(x == ("__debug__":Str))=false:=by decide) :
  PS X (.Raise (some (.Call (.Name x np) [e₀] [] cpos)) none pos) (tRaise (.ref C) E t):=by
 intro pins s σ H D I h;have O:=hO_ I.ok.mod.kin hm qx;obtain⟨tl,N,nm,q,bs,hdct,sn,sub,ab,col,dd,k0,k1,k2,k3,k5,mN,hC,hN,hni,T⟩:=O.obj
 refine wpAny_Raise_call_subT (C:=C) (nm:=nm) (q:=q) (N:=N) (bs:=bs) (bm:=tl) (hdct:=hdct) (sn:=sn) (sub:=sub) (ab:=ab) (col:=col) (dd:=dd) (k0:=k0) (k1:=k1) (k2:=k2) (k3:=k3) (k5:=k5)
  FB (mN:=mN) (T.hasType FB.hasBase) (I.ok.hd hh) hpl hni (cC_ I hg O.bound ⟨rfl,?_⟩ hd)
 have ha':=ha cpos pins s σ H _ I h;rw[he] at ha' ⊢;refine Calls.evalArgs_plain (c_7 ha' (λus s₂ ⟨vs,H1,I1,r,z,q⟩=>⟨rfl,by rw[<- r.length];exact z,I1.bk _ _ hC,hN.keeps I1.bk,T.keeps I1.bk,λh' e hm=>R pins σ H1 s₂ h' e _ _ I1 hm q⟩) λ_ _ y=>y)
variable{qual:Str}{st:Stmt}{f:Addr}{fd:Af}{N ps:List Str}{sp:Sp}
section
variable{P:Ae}{w:Ag}{K:F__}{mg:Str->Option Aa}{base:Heap}
theorem Fun.okX(F:Fun K x qual st f fd)(S:ba' N ps (a9' st))(len:∀vs H Q E,sp vs H Q E->vs.length=ps.length)(hbody:∀(cdv:Aa) (A:Ah) (outer:List Env) (s:Ac) (H:Hp) (vs:List V) (Q:VK) (E:XK),Room k (A.deeper (envOfC qual (a9' st) s.heap.objs.size f cdv))->sp vs H Q E->
   ∃t,PSs (cxOf (CX1 P w) P w K mg base N qual (a9' st) f cdv A outer s H E) (br' st) t/\t { nx:=λ_ H'=>Q .non H',rt:=Q } (start N vs) H):FnOk P w K mg base (CX1 P w) (k+1) f fd ps sp:=by
 obtain⟨oc,od,kV,doc,pm,an,cdv,ct,osl,rfl,lk,hcd⟩:=F.ex;refine lg_ lk hcd S len λA outer s H vs Q E hr hsp=>?_;obtain⟨t,h,q⟩:=hbody cdv A outer s H vs Q E hr hsp;exact⟨t,h,q⟩
theorem Fun.okXA(F:Fun K x qual st f fd)(S:ba' N ps (a9' st))(hbody:∀(cdv:Aa) (A:Ah) (outer:List Env) (s:Ac) (H:Hp) (vs:List V) (Q:VK) (E:XK),Room k (A.deeper (envOfC qual (a9' st) s.heap.objs.size f cdv))->sp vs H Q E->
   ∃t,PSs (cxOf (CX1 P w) P w K mg base N qual (a9' st) f cdv A outer s H E) (br' st) t/\t { nx:=λ_ H'=>Q .non H',rt:=Q } (start N vs) H)(len:∀vs H Q E,sp vs H Q E->vs.length=ps.length:=by intro vs H Q E h;first|(cases h;subst_vars;rfl)|(obtain⟨rfl,_⟩:=h;rfl)|(obtain⟨_,rfl,_⟩:=h;rfl)|(obtain⟨_,_,rfl,_⟩:=h;rfl)|(obtain⟨_,_,_,rfl,_⟩:=h;rfl)|(obtain⟨_,_,_,_,rfl,_⟩:=h;rfl)):FnOk P w K mg base (CX1 P w) (k+1) f fd ps sp:=F.okX S len hbody
theorem FnOk.up{CX:CXT}(F:FnOk P w K mg base CX0 k f fd ps sp):FnOk P w K mg base CX k f fd ps sp:=
 ⟨F.len,λA outer s H args us vs Q E hr he hb hv hs=>codeAny_mono (F.run A outer s H args us vs Q E hr he hb hv hs) λr s' h=>by
  cases r with
  |error e=>exact h.elim
  |ok fl=>cases fl<;>exact h⟩
end
open PySem.Calls Builtin Builtin.ObjectAttr Builtin.Getset_descriptor
structure ExcK (K:F__) (C:Addr):Prop where
 cl:(clsIn K C).isSome=true
 ga:findIn K (.ref C) "__getattribute__"=some (some (.builtin "BaseException.__getattribute__"))
 ha:findIn K (.ref C) "__getattr__"=some none
 ca:findIn K (.ref C) "__class__"=some (some (.builtin "object.__class__"))
 gt:specialIn K (.builtin "object.__class__") "__get__"=some (some (.builtin "getset_descriptor.__get__"))
 tk:takesIn K (.builtin "object.__class__")=some true
 mo:mroIn K C (.type "object")=some true
 mb:mroIn K C (.type "BaseException")=some true
variable{M:Model}
section
variable{prog:Ae}{w:Ag}{A:Ah}{E:Aa->Ac->Prop}{s:Ac}{K:F__}{x C:Addr}
theorem eN_{R:Result->Ac->Prop}{tp:Aa}(X:K.In s.heap)(L0:Looks (model prog w) s.heap (typeOf (.ref x)) (.ref C))(hm:mroIn K C (.type "object")=some true)
  (h:R (.ok (.ret (.ref C))) s):codeAny (model prog w) A (.call (.builtin "getset_descriptor.__get__") ⟨[.builtin "object.__class__",.ref x,tp],[]⟩) R s:=by
 obtain⟨hh,g,dr,t,os⟩:=s;have L1:=looks_mroIn (M:=model prog w) X hm;refine codeAny_call_builtin KF.slot_gs.plain KF.entry_gs (KF.slot_gs.check _ _ _ _ _ _ _ _ KF.type_class (KF.args_gs _ _ _) ?_);unfold Builtin.«getset_descriptor.__get__» descrGet;rw[dga_obj];refine a__ (a_2 ?_);unfold descrGetter descrCheckInstance descrNameAndClass isInstance;simp only[KF.owner_class]
 repeat lk
 refine⟨Code.quiet_builtin _ Z0,codeAny_builtin KF.entry_class ?_⟩;unfold Builtin.«object.__class__» shownTypeOf
 repeat lk
 exact h
theorem j8_(k:ExcK K C)(X:K.In h):Looks M h (find (.ref x) (.ref C) "__class__") (.bind (.builtin "getset_descriptor.__get__") (.builtin "object.__class__")):=by
 refine (looks_findIn X k.ca).andThen ((show Looks M h (getOf (some (.builtin "object.__class__"))) _ from looks_specialIn X k.gt).andThen ?_);exact (show Looks M h (dataDescriptor? (some _) (some _)) (some (_,_)) from (looks_takesIn X k.tk).andThen .now).andThen (Looks.tag .now)
theorem hS_{tk:Tok}{Q:Fin->Ac->Prop}(k:ExcK K C)(X:K.In s.heap)(L0:Looks (model prog w) s.heap (typeOf (.ref x)) (.ref C))(hq:Q (.done (.ret (.ref C))) s) :
  wpAny (model prog w) A (Builtin.«object.__getattribute__» ⟨[.ref x,.str "__class__" tk],[]⟩) Q E s:=by
 obtain⟨hh,g,dr,t,os⟩:=s;have L1:=j8_ (M:=model prog w) (x:=x) k X;unfold Builtin.«object.__getattribute__»;refine a__ (a_2 ?_);refine a__ (a_2 ?_);refine a__ (L0.at ?_);refine a__ (L1.at ?_);show wpAny _ _ (holding [_] (call _ [_,.ref x,.ref C]) >>= ret) _ _ _;exact a__ (c_4 (wpAny_call (eN_ X L0 k.mo (a_2 hq))))
theorem e3_{Q:Option Aa->Ac->Prop}(k:ExcK K C)(X:K.In s.heap)(L0:∀M,Looks M s.heap (typeOf (.ref x)) (.ref C))(h:Q (some (.ref C)) { s with toks:=s.toks+1 }) :
  wpAny (model prog w) A (getAttr? (.ref x) "__class__") Q E s:=by
 obtain⟨hh,g,d,t,os⟩:=s;have L0':=L0 (model prog w);have L1:=looks_findIn (M:=model prog w) X k.ga;have L2:=looks_findIn (M:=model prog w) X k.ha;have LB:Looks (model prog w) hh (isInstance (.ref x) (.type "BaseException")) true:=L0'.andThen (looks_mroIn X k.mb);have hk:builtinKind "BaseException.__getattribute__"=some .slot:=by decide +kernel
 have hsplit:splitId "BaseException.__getattribute__"=some ("BaseException","__getattribute__"):=by decide +kernel
 unfold getAttr? getAttrBy? getAttrBy;refine a__ (wpAny_mkText (a__ (wpAny_attempt (c_4 (a__ (L0'.at (a__ (L1.at ?_))))))));show wpAny _ _ (getAttrByItsOwn _ _ _ _ _ _) _ _ _;unfold getAttrByItsOwn hookBefore;refine a__ (L2.at ?_);refine a__ (wpAny_attempt (c_4 ?_));show wpAny _ _ (boundAndCalled _ _ _) _ _ _;unfold boundAndCalled;refine a__ (wpAny_of_eq (PySem.F.attr_ValueError.ga.bind (.ref x)) ?_);refine wpAny_call (codeAny_call_builtin PySem.F.attr_ValueError.ga.plain PySem.F.entry_bexc_ga ?_);simp only[checkBuiltinCall,hk,hsplit];refine a__ (LB.at ?_);have ha:=PySem.F.args_bexc_ga (.ref x) (.str "__class__" t)
 have key:∀{A':Ah} {E':Aa->Ac->Prop} {R:Unit->Ac->Prop},R () ⟨hh,g,d,t+1,os⟩->wpAny (model prog w) A' (match Manifest.signature? "BaseException.__getattribute__" with
   |some sig=>Bind.checkArgs "BaseException.__getattribute__" sig { pos:=[Value.ref x]++[Value.str (Str.ofString "__class__") t] }
   |x=>pure ()) R E' ⟨hh,g,d,t+1,os⟩:=by
  intro A' E' R hR
  have ha':(match Manifest.signature? "BaseException.__getattribute__" with
   |some sig=>Bind.checkArgs "BaseException.__getattribute__" sig { pos:=[Value.ref x]++[Value.str (Str.ofString "__class__") t] }
   |x=>pure ())=pure ():=ha
  rw[ha'];exact a_2 hR
 rw[a_8 (by decide)];refine key ?_;refine hS_ (C:=C) k X L0' ?_;exact a_2 (a_2 h)
theorem js_(k:ExcK K C):KitX K (.ref a) (.ref C) (λh=>∃o,h.get? a=some o/\o.cls=.ref C) where
 ty:=λM h _ ⟨o,h1,h2⟩=>h2▸(Looks.ld h1).andThen .now
 it:=λ_ _ X _=>by
  obtain⟨cdD,hcD⟩:=aS'.mp k.cl;unfold clsIn at hcD;split at hcD
  ·rename_i c' d' cd' sl' ho
   intro A' Q' E' s' kk q;unfold isType loadHead;exact a__ (wpAny_loadPart (kk _ _ (X _ _ ho)) (a_2 q))
  ·cases hcD
 ne:=λh tp dd its n sl X htp=>by
  obtain⟨cdD,hcD⟩:=aS'.mp k.cl;refine Bool.eq_false_iff.mpr λq=>?_;have e:C=tp:=Value.ref.inj (beq_iff_eq.mp q);subst e;unfold clsIn at hcD;split at hcD
  ·rename_i c' d' cd' sl' ho
   have z:=(X _ _ ho).symm.trans htp;cases z
  ·cases hcD
 ca:=λX ⟨o,h1,h2⟩ q=>e3_ k X (λM=>h2▸(Looks.ld h1).andThen .now) q
end
def clsV:V->Option Aa
 |.ref C=>some (.ref C)
 |.ty T=>some (.type T)
 |_=>none
theorem jK_{c:V}{u v:Aa}(r:RelV c u)(h:clsV c=some v):u=v:=by
 cases c with
 |ref C=>cases h;exact r
 |ty T=>cases h;exact r
 |_=>cases h
inductive rIsiC (K:F__) (xs:List V) (H:Hp) (Q:VK):Prop
 |mk:∀x C t b,xs=[x,.ref C]->TyOf K H x t->PySem.W.kitOne K t (.ref C)=some b->Q (.bl b) H->rIsiC K xs H Q
theorem fn_:bB' X (.builtin "isinstance") (rIsiC X.K):=by
 intro pins s σ H xs us Q I r h;obtain⟨x,C,t,b,rfl,ty,e,q⟩:=h;obtain⟨u,w',rfl,ru,rw'⟩:=vals2 r;cases (show w'=Value.ref C from rw');exact fw_ I ru ty e λtk=>⟨.bl b,H,I.tok tk,rfl,q⟩
abbrev Cx.inX(X:Cx)(a:Addr):Cx:={ X with A:=X.A.mark (some (.ref a)),calm:=false }
theorem Cx.Ok.inX(ok:X.Ok)(a:Addr):(X.inX a).Ok:=
 ⟨ok.mod,ok.kind,ok.glob,ok.blt,ok.above,ok.inj,ok.has,ok.cab,λz=>absurd z Z2,ok.frames,ok.stk,ok.exf,ok.bs,ok.bsz,ok.noex,ok.exfs,ok.funs,ok.frf⟩
variable{H:Hp}
theorem Inv.inX(I:Inv X pins σ H s)(a:Addr):Inv (X.inX a) pins σ H s:=⟨I.ok.inX a,I.os,I.bare,I.base,I.loc,I.cell,I.free,I.freeC,I.pin,I.hok,I.len⟩
theorem Inv.outX(ok:X.Ok)(I:Inv (X.inX a) pins σ H s):Inv X pins σ H s:=⟨ok,I.os,I.bare,I.base,I.loc,I.cell,I.free,I.freeC,I.pin,I.hok,I.len⟩
theorem dI_{A:Ah}{E:Aa->Ac->Prop}{i:Nat}{n:Str}{Q:Unit->Ac->Prop}(I:Inv X pins σ H s)(hN:X.N.Nodup)(hi:X.N[i]? = some n)(hl:X.env.scope.names.lookup n=some .local)(h:∀s',Inv X pins (σ.set i none) H s'->Q () s'):wpAny M A (do bindName X.env n .none;unbindBehindTheSuite X.env n pos) Q E s:=by
 obtain⟨m,hn,hl'⟩:=id I.loc;have hcls:(X.env.scope.kind == .class || (X.env.scope.kind == .module&&X.env.locals != X.env.globals))=false:=by rw[I.ok.kind];rfl
 have hiσ:i<σ.length:=by rw[I.len];exact (ab'.mp hi).1
 have cne:=I.cne;refine wpAny_nameGoes_keeps hl hn hcls λh' v hn' hs=>?_;obtain⟨oL,_,_,hoL,_⟩:=id hn;refine h _ ⟨I.ok,I.os,I.bare,⟨λb o e n hb hx=>?_,λb o e n hb hx=>?_,I.base.free,λb o e hx=>?_,I.base.tups,I.base.frzs,I.base.tbls⟩,⟨_,hn',λj y v' e1 e2 e3=>?_⟩,λy c e=>?_,I.free,I.freeC,λp hp=>?_,λb ob e=>?_,by simpa using I.len⟩
 ·exact (hs.2 b (av' (ar' (a_6 e) I.ok.above))).trans (I.base.keep b o e n hb hx)
 ·obtain⟨sl,e1⟩:=I.base.slot b o e n hb hx;exact⟨sl,(hs.2 b (av' (ar' (a_6 e) I.ok.above))).trans e1⟩
 ·obtain⟨o',e1⟩:=I.base.there b o e hx;exact⟨o',(hs.2 b (av' (ar' (a_6 e) I.ok.above))).trans e1⟩
 ·by_cases hj:j=i
  ·subst hj;rw[List.getElem?_set_self hiσ] at e2;cases e2
  ·rw[List.getElem?_set_ne (Ne.symm hj)] at e2;obtain⟨u',r',q⟩:=hl' j y v' e1 e2 e3;refine⟨u',r',?_⟩;rcases q with⟨k,e⟩|⟨k,c,e,z⟩
   ·refine .inl ⟨k,?_⟩;have:y≠n:=λe=>hj (eF_ hN e1 (e▸hi));simp[this,e]
   ·exact .inr ⟨k,c,e,z.sameBut hs (cne y c e)⟩
 ·obtain⟨w',z⟩:=I.cell y c e;exact⟨w',z.sameBut hs (cne y c e)⟩
 ·obtain⟨e,n,ne,nf,d⟩:=I.pin p hp;exact⟨(hs.2 p.1 ne).trans e,n,ne,nf,d⟩
 ·refine (I.hok b ob e).stay (λc w' hc q=>(hs.2 c ?_).trans q) (λ_ q=>q) λ_ _ q=>q;rintro rfl;rcases hc with z|hc
  ·rw[<- z,I.free] at e;cases e
  ·rw[I.free] at hc;cases hc
def Ends.gone(D:Ends)(i:Nat):Ends:={ nx:=λσ H=>D.nx (σ.set i none) H,rt:=D.rt,bk:=λσ H=>D.bk (σ.set i none) H,ct:=λσ H=>D.ct (σ.set i none) H }
end L2
namespace Ev
open PySem L2
abbrev eM':Stmt:=top 28
abbrev dM':Stmt:=top 29
abbrev cZ':Stmt:=top 30
abbrev ed':Stmt:=top 31
abbrev sCell:Stmt:=top 50
abbrev sDigit:Stmt:=top 51
abbrev sNames:Stmt:=top 52
abbrev sLWeb:Stmt:=top 53
abbrev sWays:Stmt:=top 54
abbrev eq':Stmt:=top 55
abbrev dP':Stmt:=top 60
abbrev dO':Stmt:=top 33
abbrev dm':Stmt:=top 36
abbrev dJ':Stmt:=top 37
abbrev cg':Stmt:=top 38
abbrev sFigs:Stmt:=top 39
abbrev dU':Stmt:=top 40
abbrev c9':Stmt:=top 41
abbrev eD':Stmt:=top 42
abbrev sIsRow:Stmt:=top 43
abbrev c1':Stmt:=top 44
abbrev eG':Stmt:=top 45
abbrev cu':Stmt:=top 46
abbrev eK':Stmt:=top 47
abbrev bX':Stmt:=top 48
abbrev sStand:Stmt:=top 56
abbrev c8':Stmt:=top 57
abbrev cN':Stmt:=top 58
abbrev co':Stmt:=top 59
abbrev dG':Stmt:=top 61
abbrev dT':Stmt:=top 62
abbrev sLaw:Stmt:=top 63
def But(l:Addr)(H H':Hp):Prop:=∀b o,H b=some o->b≠l->H' b=some o
theorem But.refl(l:Addr)(H:Hp):But l H H:=λ_ _ e _=>e
variable{l:Addr}{H H1:Hp}
theorem But.trans{H2:Hp}(h:But l H H1)(h2:But l H1 H2):But l H H2:=λb o e n=>h2 b o (h b o e n) n
theorem But.of(h:Same H H1):But l H H1:=λb o e _=>h b o e
theorem But.upd{o:HO}:But l H (upd H l o):=λb u e n=>by rw[a8_ n];exact e
def stt(H:Hp)(l:Addr):Prop:=(∃n:Int,H l=some (.lst [.int n]))∨∃n m c:Int,H l=some (.lst [.int n,.int m,.int c])
theorem stt.some(h:stt H l):∃xs,H l=some (.lst xs):=by
 rcases h with⟨n,e⟩|⟨n,m,c,e⟩
 ·exact⟨_,e⟩
 ·exact⟨_,e⟩
variable{H':Hp}
theorem But.free{b:Addr}(h:But l H H')(s:stt H' l)(e:H' b=none):H b=none:=by
 cases z:H b with
 |none=>rfl
 |some o=>
  by_cases q:b=l
  ·subst q;obtain⟨xs,e2⟩:=s.some;rw[e] at e2;cases e2
  ·rw[h b o z q] at e;cases e
theorem bC'{α:Type}{xs:List α}{i:Int}(h0:0<=i)(h1:i<xs.length):atI xs i=xs[i.toNat]?:=by
 unfold atI ixN;rw[b_0 h0,b_0 h1];rfl
def b9':Sp:=λvs H Q _=>∃(l:Addr) (b:Int),vs=[.ref l,.int b]/\0<b/\b<1073741824/\stt H l/\∀r H',0<=r->r<b->But l H H'->stt H' l->Q (.int r) H'
theorem small(x:Int):-(2 ^ 64)<x % 2147483647/\x % 2147483647<2 ^ 64:=by
 have h1:=Int.emod_nonneg x (b:=2147483647) (by decide);have h2:=Int.emod_lt_of_pos x (b:=2147483647) (by decide);exact⟨by omega,by omega⟩
theorem gU_:("abcdefghijklmnopqrstuvwxyz":Str).cps.toList=[97,98,99,100,101,102,103,104,105,106,107,108,109,110,111,112,113,114,115,116,117,118,119,120,121,122]:=by decide +kernel
variable{r:Int}
theorem lY_(h0:0<=r)(h1:r<26):∃c,atI ("abcdefghijklmnopqrstuvwxyz":Str).cps.toList r=some c/\okc c=true:=by
 rw[gU_,bC' h0 (by simpa using h1)];have hn:r.toNat<26:=by omega
 refine⟨_,ae' (by simpa using hn),?_⟩;have all:∀c∈[97,98,99,100,101,102,103,104,105,106,107,108,109,110,111,112,113,114,115,116,117,118,119,120,121,122],okc c=true:=by decide +kernel
 exact all _ (aZ' _)
theorem hit2{α:Type}{a b:α}(h0:0<=r)(h1:r<2):atI [a,b] r=some a∨atI [a,b] r=some b:=by
 have:r=0∨r=1:=by omega
 rcases this with rfl|rfl
 ·exact .inl rfl
 ·exact .inr rfl
variable{K:F__}
theorem b0_{ys:List V}{ks:List (List Key)}(t:bb' K H ys ks)(b:But l H H'){xs:List V}(hl:H l=some (.lst xs)):bb' K H' ys ks:=Paired.mapP t λy k ⟨a,z,q⟩=>⟨a,z,b _ _ q (be_ q hl nofun)⟩
variable{ns:List Str}
theorem ht_{D:Addr}(h:H D=some (.lst (ns.map V.str))):rL K rS H (.ref D) ns:=⟨D,_,rfl,.of h,eO_ ns⟩
def kO(t:Str × Str):List Key:=kT (ord2 t.1 t.2)
structure TI (ns:List Str) (k j:Nat) (ts:Xb):Prop where
 at':∀t∈ts,∃(a b:Nat) (x y:Str),b<a/\(a<k∨(a=k/\b<j))/\ns[a]? = some x/\ns[b]? = some y/\(t=(x,y)∨t=(y,x))
 nd:(ts.map kO).Nodup
 len:ts.length<=7 * k+j
theorem em_{a b:Str × Str}(h:kT a=kT b):a=b:=by
 unfold kT at h;obtain⟨h1,h2⟩:=b_8 h;obtain⟨h2,_⟩:=b_8 h2;exact Prod.ext (d__ h1) (d__ h2)
variable{i j:Nat}
theorem dY_(nd:ns.Nodup){x:Str}(h:ns[i]? = some x)(h2:ns[j]? = some x):i=j:=by
 obtain⟨hi,e1⟩:=ab'.mp h;obtain⟨hj,e2⟩:=ab'.mp h2;exact (List.getElem_inj nd).mp (e1.trans e2.symm)
theorem m1_{a b c d:Str}(h:kO (a,b)=kO (c,d)):(a=c/\b=d)∨(a=d/\b=c):=by
 have h:=em_ h;dsimp only at h;rcases bi_ a b with e|e<;>rcases bi_ c d with e2|e2<;>rw[e,e2] at h<;>have h1:=(Prod.mk.inj h).1<;>have h2:=(Prod.mk.inj h).2
 ·exact .inl ⟨h1,h2⟩
 ·exact .inr ⟨h1,h2⟩
 ·exact .inr ⟨h2,h1⟩
 ·exact .inl ⟨h2,h1⟩
theorem gk_(ns:List Str)(k:Nat):cutV (ns.map V.str) none (some (k:Int))=(ns.take k).map V.str:=by
 unfold cutV;rw[HT.sIx_none,HT.sIx_nat,List.drop_zero,Nat.sub_zero,List.map_take,aa'];by_cases h:k<=ns.length
 ·rw[Nat.min_eq_left h]
 ·rw[Nat.min_eq_right Z1,aI' (by rw[aa'];omega),aI' (by rw[aa'];omega)]
theorem stt.same(h:stt H l)(s:Same H H'):stt H' l:=by
 rcases h with⟨n,e⟩|⟨n,m,c,e⟩
 ·exact .inl ⟨n,s _ _ e⟩
 ·exact .inr ⟨n,m,c,s _ _ e⟩
theorem dP_(a:Str):ltS a a=false:=hz_ (Sum.inr a)
theorem ci_{a b:Str}(h:ltS a b=true):ltS b a=false:=fj_ (a:=Sum.inr a) (b:=Sum.inr b) h
theorem fS_{a b:Str}(h:ltS a b=false)(h2:ltS b a=false):a=b:=d__ (iJ_ (a:=Sum.inr a) (b:=Sum.inr b) h h2)
theorem lexS(a b:Str):lexK (keyS a) (keyS b)=ltS a b:=by
 show (if (Sum.inr a:Key)=Sum.inr b then false else ltS a b)=ltS a b;by_cases h:a=b
 ·subst h;rw[b_0 rfl,dP_]
 ·rw[a_8 λe=>h (d__ e)]
def SAsc(ns:List Str):Prop:=ns.Pairwise λa b=>ltS b a=false
theorem SAsc.keys(h:SAsc ns):Asc (ns.map keyS):=by
 unfold Asc;rw[aK'];exact h.imp λq=>by rw[lexS];exact q
theorem c8_{a b:List Str}(p:a.Perm b)(h1:SAsc a)(h2:SAsc b):a=b:=gV_ (ck_ (p.map keyS) h1.keys h2.keys)
theorem bH_(ss:List Str):SAsc (bL' ss):=by
 have h:=bB_ (ss.map keyS);rw[<- d6_] at h;unfold Asc at h;rw[aK'] at h;exact h.imp λq=>by rw[lexS] at q;exact q
theorem ia_(hs:Xa):SAsc (bf' hs):=by
 unfold bf' SAsc;rw[aK'];refine (bB_ (hs.map kH)).imp_of_mem λ{a b} ha hb q=>?_;obtain⟨x,_,rfl⟩:=bW_ hs a ha;obtain⟨y,_,rfl⟩:=bW_ hs b hb;show ltS y.1 x.1=false;by_cases h:y.1=x.1
 ·rw[h,dP_]
 ·have q:(if (Sum.inr y.1:Key)=Sum.inr x.1 then lexK [Sum.inl y.2] [Sum.inl x.2] else ltS y.1 x.1)=false:=q;rwa [a_8 λe=>h (d__ e)] at q
theorem hi_(hs:Xa):bf' hs=bL' (hs.map (·.1)):=c8_ ((aM_ hs).trans (aG_ _).symm) (ia_ hs) (bH_ _)
theorem jF_(a b:Str):bL' [a,b]=[(ord2 a b).1,(ord2 a b).2]:=by
 refine c8_ ((aG_ _).trans ?_) (bH_ _) ?_
 ·rcases bi_ a b with e|e
  ·rw[e]
  ·rw[e];exact List.Perm.swap _ _ _
 ·unfold SAsc ord2;by_cases h:ltS a b=true
  ·rw[b_0 h]
   exact .cons (λx hx=>by
    obtain rfl:x=b:=by simpa using hx
    exact ci_ h) (.cons (λx hx=>by cases hx) .nil)
  ·rw[a_8 h]
   exact .cons (λx hx=>by
    obtain rfl:x=a:=by simpa using hx
    simpa using h) (.cons (λx hx=>by cases hx) .nil)
theorem cP_(a b:Str):ord2 a b=ord2 b a:=by
 unfold ord2;by_cases h:ltS a b=true
 ·rw[b_0 h,a_8 (by rw[ci_ h];decide)]
 ·by_cases h2:ltS b a=true
  ·rw[a_8 h,b_0 h2]
  ·have:=fS_ (by simpa using h) (by simpa using h2);subst this;rw[a_8 h]
theorem dA_{α β:Type}{f:α->β}:∀{l:List α},(l.map f).Nodup->∀{a b:α},a∈l->b∈l->f a=f b->a=b
 |[],_,_,_,h,_,_=>by cases h
 |x::l,nd,a,b,ha,hb,e=>by
  rw[au'] at nd;obtain⟨n1,n2⟩:=aX'.mp nd;rcases ah'.mp ha with ha'|ha'<;>rcases ah'.mp hb with hb'|hb'
  ·rw[ha',hb']
  ·exact absurd (ac'.mpr ⟨b,hb',by rw[<- ha',e]⟩) n1
  ·exact absurd (ac'.mpr ⟨a,ha',by rw[<- hb',e]⟩) n1
  ·exact dA_ n2 ha' hb' e
variable{ts:Xb}
theorem bp'{x:Str × Str}:x∈tsOf ts ↔ ∃t∈ts,ord2 t.1 t.2=x:=by
 have e:kT x∈(tsOf ts).map kT ↔ x∈tsOf ts:=⟨λh=>by
  obtain⟨y,hy,e⟩:=ac'.mp h;rw[<- em_ e];exact hy,λh=>ac'.mpr ⟨x,h,rfl⟩⟩
 rw[<- e,ba_,(aC_ _).mem_iff,ac'];exact⟨λ⟨t,ht,q⟩=>⟨t,ht,em_ q⟩,λ⟨t,ht,q⟩=>⟨t,ht,by rw[q]⟩⟩
theorem kG_(a b:Str):kO (a,b)=kO (b,a):=by
 show kT (ord2 a b)=kT (ord2 b a);rw[cP_]
theorem scCell:ba' ["_law_script","_law_k"] ["_law_script","_law_k"] (a9' sCell):=f__
def spCell(K:F__):Sp:=λvs H Q _=>∃(l:Addr) (ns:List Int) (k:Int),vs=[.ref l,.int k]/\0<=k/\SqL K H l (ns.map V.int)/\∀n,Q (.int n) H
variable{f:Addr}{fd:Af}{P:Ae}{w:Ag}{mg:Str->Option Aa}{base:Heap}
theorem kV_(F:Fun K "_law_cell_at" "_law_cell_at" sCell f fd)(B:Bi mg):FnOk P w K mg base CX0 1 f fd ["_law_script","_law_k"] (spCell K):=by
 refine F.okA scCell λcdv A outer s H vs Q E hr h=>?_
 ·obtain⟨l,ns,i,rfl,h0,hl,k⟩:=h;refine⟨_,a3_ (aw_ (ar_ lN_ (pv 1) (a7_ ak_ (by rfl) B.len b_3 (a0_ (pv 0) a2_)) (nomark _)) (a5_ (ae_ (aj_ ad_ (pv 0) (pv 1) (λ_ _=>rfl)))) aa_) (a5_ (ae_ a4_)),?_⟩;refine⟨_,rfl,_,rfl,l,_,rfl,.inl hl,_,_,rfl,rfl,_,rfl,?_⟩;refine ite2 (λc=>?_) (λc=>?_)
  ·have c:i<(ns.map V.int).length:=by simpa using c
   have e:atI (ns.map V.int) i=some (.int (ns[i.toNat]'(by rw[aa'] at c;omega))):=by
    rw[bC' h0 c,aw',ae' (by rw[aa'] at c;omega)];rfl
   exact⟨_,rfl,_,rfl,l,_,_,_,rfl,rfl,hl,e,k _⟩
  ·exact k 0
theorem c6':ba' ["_law_state","_law_base","_law_cell","_law_found","_law_number"] ["_law_state","_law_base"] (a9' sDigit):=f__
theorem pick2{n:Int}(b:Bool):∃m:Int,atI [V.int 0,V.int n] (if b then 1 else 0)=some (.int m):=by
 cases b
 ·exact⟨0,rfl⟩
 ·exact⟨n,rfl⟩
theorem jo_(F:Fun K "_law_digit" "_law_digit" sDigit f fd)(B:Bi mg):FnOk P w K mg base CX0 1 f fd ["_law_state","_law_base"] b9':=by
 refine F.okA c6' λcdv A outer s H vs Q E hr h=>?_
 ·obtain⟨l,b,rfl,h0,h1,st,k⟩:=h
  refine⟨_,a3_ (aw_ (ar_ bj_ (a7_ ak_ (by rfl) B.len b_3 (a0_ (pv 0) a2_)) a4_ (nomark _))
    (a3_ (ao_ 2 c6'.nd (aj_ ad_ (pv 0) a4_ (λ_ _=>rfl)))
    (a3_ (gx_ (aj_ ad_ (av_ (a0_ a4_ (a0_ (pv 2) a2_))) (ax_ iy_ (by rfl) B.int ea_ (a0_ (bI_ mi_ (pv 2) (af_ iF_ a4_ a4_) (nomark _)) a2_)) (λ_ _=>rfl)) (im_ (pv 0) a4_ ex_))
    (a5_ (bP_ (bl_ d_0 PySem.F.slot_list_extend PySem.F.type_list_extend iH_ (pv 0) (a0_ (av_ (a0_ (af_ dU_ (pv 2) a4_) (a0_ a4_ a2_))) a2_)))))) aa_)
   (a3_ (aw_ (ar_ ig_ (aj_ ad_ (pv 0) a4_ (λ_ _=>rfl)) a4_ (nomark _))
    (a3_ (ao_ 3 c6'.nd (af_ dU_ (aj_ ad_ (pv 0) a4_ (λ_ _=>rfl)) (pv 1)))
    (a3_ (gx_ (af_ dV_ (aj_ ad_ (pv 0) a4_ (λ_ _=>rfl)) (pv 1)) (im_ (pv 0) a4_ ex_))
    (a5_ (ae_ (pv 3))))) aa_)
   (a3_ (gx_ (af_ b7_ (aj_ ad_ (pv 0) a4_ (λ_ _=>rfl)) a4_) (im_ (pv 0) a4_ ex_))
   (a3_ (ao_ 4 c6'.nd (af_ dU_ (af_ fk_ (af_ b7_ (af_ b7_ (aj_ ad_ (pv 0) a4_ (λ_ _=>rfl)) (af_ fk_ a4_ (aj_ ad_ (pv 0) a4_ (λ_ _=>rfl)))) a4_) a4_) a4_))
   (a3_ (ao_ 4 c6'.nd (af_ dU_ (af_ fk_ (pv 4) (af_ b7_ (af_ dV_ (pv 4) a4_) a4_)) a4_))
   (a5_ (ae_ (af_ dU_ (af_ dU_ (af_ fk_ (pv 4) (af_ b7_ (af_ dV_ (pv 4) a4_) a4_)) a4_) (pv 1)))))))),?_⟩
  rcases st with⟨n,hl0⟩|⟨n,m,c,hl⟩
  case' inl=>
   refine⟨_,rfl,l,_,rfl,.inl (.of hl0),rfl,_,rfl,iteT ?_⟩;refine⟨_,rfl,l,_,_,_,rfl,rfl,.of hl0,rfl,?_⟩;refine⟨_,rfl,by show 2<=sizeLine;decide,λp hp=>?_⟩;have lp:l≠p:=a6_ hl0 hp;refine⟨_,rfl,_,_,rfl,rfl,⟨by decide,by decide,by decide⟩,_,_,rfl,rfl,.inr ⟨_,rfl,?_⟩⟩;obtain⟨n',hn'⟩:=pick2 (n:=n) (decide ((10:Int) ^ (18:Int).toNat<=n));refine⟨p,_,_,_,rfl,rfl,.of a1_,hn',?_⟩;refine⟨_,rfl,l,_,_,0,rfl,rfl,by rw[a8_ lp];exact hl0,rfl,?_⟩;have hl1:(upd (upd H p (.lst [.int 0,.int n])) l (.lst ([V.int n].set 0 (.int n')))) l=some (.lst [.int n']):=a1_;have bt1:But l H (upd (upd H p (.lst [.int 0,.int n])) l (.lst ([V.int n].set 0 (.int n')))):=(But.of (Same.new hp)).trans But.upd;generalize (upd (upd H p (.lst [.int 0,.int n])) l (.lst ([V.int n].set 0 (.int n'))))=Ha at hl1 bt1 ⊢;refine⟨_,rfl,.inl ⟨rfl,_,.of hl1⟩,_,rfl,_,_,rfl,rfl,by show (0:Int)<2147483647;decide,by show 2<=sizeLine;decide,λq hq=>?_⟩;refine⟨l,q,_,_,rfl,rfl,Same.new hq _ _ hl1,a1_,by show 1+2<=sizeLine;decide,?_⟩;have bt:But l H (upd (upd Ha q (.lst [.int (n % 2147483647),.int 0])) l (.lst ([.int n']++[.int (n % 2147483647),.int 0]))):=bt1.trans ((But.of (Same.new hq)).trans But.upd);have hl:(upd (upd Ha q (.lst [.int (n % 2147483647),.int 0])) l (.lst ([.int n']++[.int (n % 2147483647),.int 0]))) l=some (.lst [.int n',.int (n % 2147483647),.int 0]):=a1_;generalize (upd (upd Ha q (.lst [.int (n % 2147483647),.int 0])) l (.lst ([.int n']++[.int (n % 2147483647),.int 0])))=H1 at bt hl ⊢
  case' inr=>
   refine⟨_,rfl,l,_,rfl,.inl (.of hl),rfl,_,rfl,iteF ?_⟩;have bt:=But.refl l H
  all_goals
   refine⟨_,rfl,l,_,_,_,rfl,rfl,.of hl,rfl,_,_,rfl,rfl,_,rfl,?_⟩;refine ite2 (λc=>?_) (λc=>?_)
   ·refine⟨_,rfl,l,_,_,_,rfl,rfl,.of hl,rfl,_,rfl,_,_,rfl,rfl,h0,?_⟩;refine⟨_,rfl,l,_,_,_,rfl,rfl,.of hl,rfl,_,rfl,_,_,rfl,rfl,⟨h0,h1⟩,_,rfl,l,_,_,0,rfl,rfl,hl,rfl,?_⟩;exact⟨_,rfl,k _ _ (Int.emod_nonneg _ Z1) (Int.emod_lt_of_pos _ h0) (bt.trans But.upd) (.inr ⟨_,_,_,a1_⟩)⟩
   ·refine⟨_,rfl,l,_,_,_,rfl,rfl,.of hl,rfl,_,_,rfl,rfl,_,rfl,l,_,_,2,rfl,rfl,hl,rfl,?_⟩;refine⟨_,rfl,l,_,_,_,rfl,rfl,.of a1_,rfl,_,rfl,l,_,_,_,rfl,rfl,.of a1_,rfl,_,_,rfl,rfl,.inl ⟨by decide,by decide⟩,_,_,rfl,rfl,_,_,rfl,rfl,_,_,rfl,rfl,.inr ⟨by decide,by decide⟩,_,_,rfl,rfl,by show (0:Int)<2147483647;decide,?_⟩;refine⟨_,rfl,_,rfl,_,_,rfl,rfl,⟨by decide,by decide⟩,_,_,rfl,rfl,_,_,rfl,rfl,.inl (small _),_,_,rfl,rfl,by show (0:Int)<2147483647;decide,?_⟩;refine⟨_,rfl,_,rfl,_,_,rfl,rfl,⟨by decide,by decide⟩,_,_,rfl,rfl,_,_,rfl,rfl,.inl (small _),_,_,rfl,rfl,by show (0:Int)<2147483399;decide,_,rfl,_,_,rfl,rfl,h0,?_⟩;exact k _ _ (Int.emod_nonneg _ Z1) (Int.emod_lt_of_pos _ h0) (bt.trans But.upd) (.inr ⟨_,_,_,a1_⟩)
theorem pa_s{X:Cx}{x:Str}{pos:Pos}{es:List Expr}{t:TA}(hr:PA X es t):PA X (.Constant (.str x) j pos::es) (bI' (tC (.str x)) t):=a0_ a9_ hr (by rfl)
def strC:Expr->Option Str
 |.Constant (.str x) _ _=>some x
 |_=>none
def tStrs(xs:List Str):TA:=λ_ H Q=>Q (xs.map V.str) H
theorem g1_{X:Cx}:∀{es:List Expr} {xs:List Str},es.map strC=xs.map some->PA X es (tStrs xs)
 |[],[],_=>a2_
 |[],_::_,h=>by cases h
 |_::_,[],h=>by cases h
 |e::es,x::xs,h=>by
  rw[au',au'] at h;obtain⟨h1,h2⟩:=b_8 h;have ih:=g1_ (X:=X) h2;unfold strC at h1;split at h1
  ·cases h1;exact pa_s ih
  ·cases h1
def bl':List Str:=["hand","tie","piece","yard","free","fixed","none","tick","come","go","rest","run","show","ok"]
theorem j4_:bl'.Nodup:=by decide +kernel
theorem jU_:∀n∈bl',bd' n=true:=by decide +kernel
structure Nm (m:Nat) (ns:List Str):Prop where
 len:ns.length=m
 nd:ns.Nodup
 ok:∀n∈ns,bd' n=true
 end_:∀n∈ns,n∈bl'∨∃k,k<m/\n.cps.toList.getLast? = some (97+k % 26)
theorem gS_(ns:List Str)(k:Nat)(h:k<=ns.length):cutV (ns.map V.str) (some (k:Int)) none=(ns.drop k).map V.str:=by
 unfold cutV;rw[HT.sIx_nat,HT.sIx_none,aa',Nat.min_eq_left h,List.map_drop,aI'];rw[aM',aa'];omega
variable{m:Nat}
theorem jR_{t:Nat}(hm:m<15)(ht:t<=14):Nm m ((bl'.drop t++bl'.take t).take m):=by
 have p:(bl'.drop t++bl'.take t).Perm bl':=List.perm_append_comm.trans (by rw[List.take_append_drop]);have sub:=List.take_sublist m (bl'.drop t++bl'.take t);have hl:(bl'.drop t++bl'.take t).length=14:=p.length_eq;refine⟨?_,sub.nodup (p.nodup_iff.mpr j4_),λn hn=>jU_ n (p.mem_iff.mp (sub.subset hn)),λn hn=>.inl (p.mem_iff.mp (sub.subset hn))⟩;rw[af',hl];omega
def Tl(m k:Nat)(n:Str):Prop:=bd' n=true/\∃w:List Nat,n.cps.toList=w++(if 26<m then [97+k / 26] else [])++[97+k % 26]
theorem lV_{n:Str}(hm:m<=676)(hi:i<m)(hj:j<m)(a:Tl m i n)(b:Tl m j n):i=j:=by
 obtain⟨_,w1,e1⟩:=a;obtain⟨_,w2,e2⟩:=b;rw[e1] at e2;have l:=c_1 List.getLast? e2;rw[List.getLast?_append,List.getLast?_append] at l;simp at l;by_cases h:26<m
 ·rw[b_0 h,b_0 h] at e2;have z:=List.append_inj' e2 rfl;have z2:=List.append_inj' z.1 rfl;have:=(b_8 z2.2).1;omega
 ·omega
theorem j9_(hm:m<=676)(hl:ns.length=m)(h:∀k n,ns[k]? = some n->Tl m k n):Nm m ns:=by
 refine⟨hl,?_,λn hn=>?_,λn hn=>?_⟩
 ·rw[aO',List.pairwise_iff_getElem];intro i j hi hj lt e;have a:=h i _ (ae' hi);have b:=h j _ (ae' hj);rw[e] at a;have:=lV_ hm Z1 Z1 a b;omega
 ·obtain⟨k,hk,e⟩:=aG' hn;exact (h k n (by rw[ae' hk,e])).1
 ·obtain⟨k,hk,e⟩:=aG' hn;obtain⟨_,w,e2⟩:=h k n (by rw[ae' hk,e]);refine .inr ⟨k,by omega,?_⟩;rw[e2,List.getLast?_append];rfl
variable{q:Nat}
theorem iX_(h:q<26):atI ("abcdefghijklmnopqrstuvwxyz":Str).cps.toList (q:Int)=some (97+q):=by
 rw[gU_,bC' Z1 (by show (q:Int)<((26:Nat):Int);omega),a1'];have all:∀i:Fin 26,[97,98,99,100,101,102,103,104,105,106,107,108,109,110,111,112,113,114,115,116,117,118,119,120,121,122][i.val]? = some (97+i.val):=by decide +kernel
 exact all ⟨q,h⟩
theorem cS_(x:Str)(c:Nat):(x++(⟨#[c]⟩:Str)).cps.toList=x.cps.toList++[c]:=PySem.W.KT.app_list _ _
theorem bU_(x:Str):x.length=x.cps.toList.length:=by rw[aP'];rfl
theorem is_(h:q<26):okc (97+q)=true:=by
 unfold okc;rw[a_5 Z1,a_5 Z1];rfl
theorem bT':ba' ["_law_state","_law_many","_law_letters","_law_words","_law_turn","_law_names_here","_law_k","_law_word","_law_j"] ["_law_state","_law_many"] (a9' sNames):=f__
def dL':Sp:=λvs H Q _=>∃(l:Addr) (m:Nat),vs=[.ref l,.int m]/\m<=30/\stt H l/\∀(a:Addr) (ns:List Str) (H':Hp),But l H H'->stt H' l->H a=none->H' a=some (.lst (ns.map V.str))->Nm m ns->Q (.ref a) H'
theorem jj_(F:Fun K "_law_names" "_law_names" sNames f fd)(B:Bi mg)(cD:Cal P w K mg base 1 "_law_digit" ["_law_state","_law_base"] b9'):FnOk P w K mg base CX0 2 f fd ["_law_state","_law_many"] dL':=by
 refine F.okA bT' λcdv A outer s H vs Q E hr h=>?_
 ·obtain⟨l,m,rfl,m30,st,k⟩:=h;have sz:=b__;refine' ⟨_,?u0,?kk⟩
  case' u0=>refine' a3_ ?u1 ?u2
  case u1=>exact ao_ 2 bT'.nd a9_
  case' u2=>refine' a3_ ?u3 ?u4
  case' u3=>refine' es_ (i:=3) ?u5 ?u6 ?u7 ?u8
  case u5=>exact bT'.nd
  case u6=>exact rfl
  case u7=>exact Or.inl rfl
  case' u8=>refine' av_ ?u9
  first|(case' u9=>refine' g1_ (xs:=bl') ?u10)|(case' u8=>refine' g1_ (xs:=bl') ?u10)
  first|(case u10=>exact by decide +kernel)|(case u9=>exact by decide +kernel)
  case' u4=>refine' a3_ ?u11 ?u12
  case' u11=>refine' aw_ ?u13 ?u14 ?u15
  case' u13=>refine' PW.pt ?u16
  first|(case' u16=>refine' iW_ ?u17 ?u18)|(case' u13=>refine' iW_ ?u17 ?u18)
  case u17=>exact ar_ lN_ (pv 1) a4_ (nomark _)
  case u18=>exact iu_ (ar_ bj_ (al_ cD hr (a0_ (pv 0) (a0_ a4_ a2_))) a4_ (nomark _))
  case' u14=>refine' a3_ ?u19 ?u20
  case u19=>exact ao_ 4 bT'.nd (al_ cD hr (a0_ (pv 0) (a0_ a4_ a2_)))
  case' u20=>refine' a5_ ?u21
  first|(case' u21=>refine' ae_ ?u22)|(case' u20=>refine' ae_ ?u22)
  first|(case' u22=>refine' am_ ?u23 ?u24 ?u25 ?u26)|(case' u21=>refine' am_ ?u23 ?u24 ?u25 ?u26)
  case u23=>exact aE_
  case u24=>exact af_ aI_ (am_ aE_ (pv 3) (az_ (pv 4)) ay_) (am_ aE_ (pv 3) ay_ (az_ (pv 4)))
  case u25=>exact ay_
  case u26=>exact az_ (pv 1)
  case u15=>exact aa_
  case' u12=>refine' a3_ ?u27 ?u28
  case u27=>exact ao_ 5 bT'.nd (av_ a2_)
  case' u28=>refine' a3_ ?u29 ?u30
  case' u29=>refine' b3_ ?u31 ?u32 ?u33 ?u34 ?u35
  case u31=>exact b_7
  case u32=>exact rfl
  case u33=>exact eS_ (by rfl) B.range (a0_ (pv 1) a2_)
  case u34=>exact b5_ 6 bT'.nd
  case' u35=>refine' a3_ ?u36 ?u37
  case u36=>exact ao_ 7 bT'.nd a9_
  case' u37=>refine' a3_ ?u38 ?u39
  case' u38=>refine' b3_ ?u40 ?u41 ?u42 ?u43 ?u44
  case u40=>exact b_7
  case u41=>exact rfl
  case' u42=>refine' eS_ ?u45 ?u46 ?u47
  case u45=>exact by rfl
  case u46=>exact B.range
  case u47=>exact a0_ (al_ cD hr (a0_ (pv 0) (a0_ (af_ gm_ a4_ (af_ dV_ (pv 1) a4_)) a2_))) a2_
  case u43=>exact b5_ 8 bT'.nd
  case' u44=>refine' a5_ ?u48
  first|(case' u48=>refine' es_ (i:=7) ?u49 ?u50 ?u51 ?u52)|(case' u44=>refine' es_ (i:=7) ?u49 ?u50 ?u51 ?u52)
  case u49=>exact bT'.nd
  case u50=>exact rfl
  case u51=>exact Or.inl rfl
  case u52=>exact af_ ap_ (pv 7) (aj_ eV_ (pv 2) (al_ cD hr (a0_ (pv 0) (a0_ a4_ a2_))) (λ_ _=>rfl))
  case' u39=>refine' a3_ ?u53 ?u54
  case' u53=>refine' aw_ ?u55 ?u56 ?u57
  case u55=>exact ar_ ig_ (pv 1) a4_ (nomark _)
  case' u56=>refine' a5_ ?u58
  first|(case' u58=>refine' es_ (i:=7) ?u59 ?u60 ?u61 ?u62)|(case' u56=>refine' es_ (i:=7) ?u59 ?u60 ?u61 ?u62)
  case u59=>exact bT'.nd
  case u60=>exact rfl
  case u61=>exact Or.inl rfl
  case u62=>exact af_ ap_ (pv 7) (aj_ eV_ (pv 2) (af_ dV_ (pv 6) a4_) (λ_ _=>rfl))
  case u57=>exact aa_
  case' u54=>refine' a5_ ?u63
  first|(case' u63=>refine' bP_ ?u64)|(case' u54=>refine' bP_ ?u64)
  first|(case' u64=>refine' bl_ ?u65 ?u66 ?u67 ?u68 ?u69 ?u70)|(case' u63=>refine' bl_ ?u65 ?u66 ?u67 ?u68 ?u69 ?u70)
  case u65=>exact d_0
  case u66=>exact d_6
  case u67=>exact d_5
  case u68=>exact bn_
  case u69=>exact pv 5
  case u70=>exact a0_ (af_ ap_ (pv 7) (aj_ eV_ (pv 2) (af_ dU_ (pv 6) a4_) (λ_ _=>rfl))) a2_
  case u30=>exact a5_ (ae_ (pv 5))
  case' kk=>skip
  refine⟨by show 14<=sizeLine;decide,λlw hlw=>?_⟩;have hw0:upd H lw (.lst (bl'.map V.str)) lw=some (.lst (bl'.map V.str)):=a1_;have s0:Same H (upd H lw (.lst (bl'.map V.str))):=Same.new hlw
  have lwl:lw≠l:=by
   obtain⟨xs,e⟩:=st.some;exact (a6_ e hlw).symm
  have st0:=st.same s0;show tSeq _ _ _ _ (upd H lw (.lst (bl'.map V.str)));generalize upd H lw (.lst (bl'.map V.str))=H0 at hw0 s0 st0 ⊢;refine⟨_,rfl,_,_,rfl,rfl,_,rfl,?_⟩;refine ite2 (λc=>?yes) (λc=>?no)
  case' yes=>
   refine⟨_,rfl,l,8,rfl,by decide,by decide,st0,λr H1 r0 r8 b1 st1=>⟨rfl,_,rfl,?_⟩⟩;refine ite2 (λc2=>?words) (λc2=>?more)
  case words=>
   have c:m<15:=by
    have:(m:Int)<15:=by simpa using c
    omega
   have hw1:=b1 _ _ hw0 lwl;refine⟨_,rfl,l,14,rfl,by decide,by decide,st1,λt H2 t0 t14 b2 st2=>?_⟩;have hw2:=b2 _ _ hw1 lwl;obtain⟨t,rfl⟩:=aC' t0;have t14:t<14:=by omega
   refine⟨_,rfl,_,rfl,_,rfl,lw,_,rfl,.of hw2,λp1 hp1=>?_⟩;rw[gS_ _ _ (by show t<=14;omega)];have s3:=Same.new (o:=.lst ((bl'.drop t).map V.str)) hp1;refine⟨_,rfl,_,rfl,_,rfl,lw,_,rfl,.of (s3 _ _ hw2),λp2 hp2=>?_⟩;rw[gk_];have s4:=Same.new (o:=.lst ((bl'.take t).map V.str)) hp2;refine⟨p1,p2,_,_,rfl,rfl,s4 _ _ a1_,a1_,?_,λp3 hp3=>?_⟩
   ·rw[aa',aa',aM',af'];show 14 - t+min t 14<=sizeLine;omega
   have s5:=Same.new (o:=.lst ((bl'.drop t).map V.str++(bl'.take t).map V.str)) hp3;refine⟨_,rfl,_,rfl,p3,_,rfl,.of a1_,λp4 hp4=>?_⟩
   have e:cutV ((bl'.drop t).map V.str++(bl'.take t).map V.str) none (some (m:Int))=((bl'.drop t++bl'.take t).take m).map V.str:=by
    rw[<- ag',gk_]
   rw[e];have s6:=s3.trans (s4.trans s5);have b6:=(But.of s0).trans (b1.trans (b2.trans (But.of s6)));have st6:=st2.same s6;exact k p4 _ _ (b6.trans (But.of (Same.new hp4))) (st6.same (Same.new hp4)) (b6.free st6 hp4) a1_ (jR_ c Z1)
  case' no=>
   generalize hH:H0=H1;have b1:But l H0 H1:=by rw[hH];exact But.refl l H1
   have st1:stt H1 l:=by rw[<- hH];exact st0
  all_goals
   refine⟨by show 0<=sizeLine;decide,λa ha=>?_⟩;have s2:=Same.new (o:=.lst []) ha;have b0:But l H H1:=(But.of s0).trans b1;have ha0:H a=none:=b0.free st1 ha
   have hla:l≠a:=by
    obtain⟨xs,e⟩:=st1.some;exact a6_ e ha
   refine⟨_,rfl,_,rfl,by show (-(2 ^ 62):Int)<=(m:Int);omega,by show (m:Int)<(2 ^ 62:Int);omega,?_⟩
   refine dD_ (lo:=0) (n:=(m:Int).toNat) (λi σ H2=>∃(v4 v6 v7 v8:Option V) (ns:List Str),σ=[some (.ref l),some (.int m),some (.str "abcdefghijklmnopqrstuvwxyz"),some (.ref lw),v4,some (.ref a),v6,v7,v8]/\But l H H2/\stt H2 l/\H2 a=some (.lst (ns.map V.str))/\ns.length=i/\∀k n,ns[k]? = some n->Tl m k n)
    ⟨_,_,_,_,[],rfl,b0.trans (But.of s2),st1.same s2,a1_,rfl,λk n e=>by simp at e⟩ ?_ ?_
   ·rintro i σ H2 hi ⟨v4,v6,v7,v8,ns,rfl,b2,st2,ha2,ln,tl⟩;rw[Int.zero_add];have hi:i<m:=by omega
    refine⟨_,rfl,_,rfl,_,_,rfl,rfl,⟨by decide,by decide⟩,_,_,rfl,rfl,l,8 - (m:Int) / 27,rfl,by omega,by omega,st2,λr H3 r0 rb b3 st3=>⟨_,rfl,by show (-(2 ^ 62):Int)<=r;omega,by show r<(2 ^ 62:Int);omega,?_⟩⟩
    refine dD_ (lo:=0) (n:=r.toNat) (λj σ H4=>∃(x:Str) (v8:Option V),σ=[some (.ref l),some (.int m),some (.str "abcdefghijklmnopqrstuvwxyz"),some (.ref lw),v4,some (.ref a),some (.int i),some (.str x),v8]/\But l H H4/\stt H4 l/\H4 a=some (.lst (ns.map V.str))/\x.length=j/\x.cps.toList.all okc=true)
     ⟨"",_,rfl,b2.trans b3,st3,b3 _ _ ha2 hla.symm,rfl,rfl⟩ ?_ ?_
    ·rintro j σ H4 hj ⟨x,v8,rfl,b4,st4,ha4,hx,ho⟩;refine⟨_,rfl,_,rfl,_,rfl,l,26,rfl,by decide,by decide,st4,λq H5 q0 q26 b5 st5=>?_⟩;obtain⟨c,hc,oc⟩:=lY_ q0 q26;refine⟨_,_,_,rfl,rfl,by decide +kernel,hc,_,_,rfl,rfl,?_,_,_,rfl,b4.trans b5,st5,b5 _ _ ha4 hla.symm,?_,?_⟩
     ·have:(⟨#[c]⟩:Str).length=1:=rfl;omega
     ·rw[bU_,cS_,aj',<- bU_,hx];rfl
     ·rw[cS_,List.all_append,ho];simp[oc]
    ·rintro σ H4 ⟨x,v8,rfl,b4,st4,ha4,hx,ho⟩;refine⟨_,rfl,_,_,rfl,rfl,_,rfl,?_⟩;refine ite2 (λc3=>?_) (λc3=>?_)
     have c3:26<m:=by
      have:(26:Int)<(m:Int):=by simpa using c3
      omega
     have hc3:atI ("abcdefghijklmnopqrstuvwxyz":Str).cps.toList ((i:Int) / 26)=some (97+i / 26):=by
      have:=iX_ (q:=i / 26) Z1;rw[<- this];congr 1
     refine⟨_,rfl,_,rfl,_,rfl,_,_,rfl,rfl,⟨by decide,by decide⟩,_,_,_,rfl,rfl,by decide +kernel,hc3,_,_,rfl,rfl,by show x.length+1<=sizeLine;omega,?_⟩;have ex:(x++(⟨#[97+i / 26]⟩:Str)).cps.toList=x.cps.toList++(if 26<m then [97+i / 26] else []):=by rw[b_0 c3];exact cS_ _ _
     generalize x++(⟨#[97+i / 26]⟩:Str)=x' at ex ⊢;rotate_left 1
     have c3:¬26<m:=by
      have:¬(26:Int)<(m:Int):=by simpa using c3
      omega
     have ex:x.cps.toList=x.cps.toList++(if 26<m then [97+i / 26] else []):=by rw[a_8 c3,aF']
     obtain⟨x',hx'⟩:∃x':Str,x'=x:=⟨_,rfl⟩;rw[<- hx'];have ex:x'.cps.toList=x.cps.toList++(if 26<m then [97+i / 26] else []):=by rw[hx'];exact ex
     all_goals
      have hc4:atI ("abcdefghijklmnopqrstuvwxyz":Str).cps.toList ((i:Int) % 26)=some (97+i % 26):=by
       have:=iX_ (q:=i % 26) (Nat.mod_lt _ (by decide));rw[<- this];congr 1
      have lx:x'.length<=7:=by
       rw[bU_,ex,aj',<- bU_,hx];by_cases hm:26<m
       ·rw[b_0 hm];show r.toNat+1<=7;omega
       ·rw[a_8 hm];show r.toNat+0<=7;omega
      refine⟨_,rfl,.inl ⟨rfl,_,.of ha4⟩,_,rfl,_,rfl,_,rfl,_,_,rfl,rfl,by show (0:Int)<26;decide,_,_,_,rfl,rfl,by decide +kernel,hc4,_,_,rfl,rfl,?_,a,_,_,rfl,rfl,ha4,?_,?_⟩
      ·have:(⟨#[97+i % 26]⟩:Str).length=1:=rfl;omega
      ·rw[aa'];omega
      ·refine⟨_,_,_,_,ns++[x'++(⟨#[97+i % 26]⟩:Str)],rfl,λb o e ne=>?_,?_,?_,?_,λkk n hn=>?_⟩
       ·rw[a8_ (a6_ e ha0)];exact b4 _ _ e ne
       ·unfold stt;rw[a8_ hla];exact st4
       ·rw[a1_,ag'];rfl
       ·rw[aj',ln];rfl
       ·by_cases hk:kk<ns.length
        ·rw[List.getElem?_append_left hk] at hn;exact tl kk n hn
        ·have hk2:kk=i:=by
          have:=(ab'.mp hn).1;rw[aj'] at this;simp only[List.length_singleton] at this;omega
         subst hk2;rw[aW' Z1,ln,Nat.sub_self] at hn;have hn:x'++(⟨#[97+kk % 26]⟩:Str)=n:=by simpa using hn
         subst hn;have ey:(x'++(⟨#[97+kk % 26]⟩:Str)).cps.toList=x'.cps.toList++[97+kk % 26]:=cS_ _ _;refine⟨?_,x.cps.toList,by rw[ey,ex]⟩;unfold bd';rw[bU_,ey,aj',<- bU_,a_5 (by show 1<=x'.length+1;omega),a_5 (by show x'.length+1<=8;omega),List.all_append,ex,List.all_append,ho];have o1:([97+kk % 26]:List Nat).all okc=true:=by simp[is_ (Nat.mod_lt kk (show 0<26 by decide))]
         have o2:(if 26<m then [97+kk / 26] else ([]:List Nat)).all okc=true:=by
          by_cases hm:26<m
          ·rw[b_0 hm];simp[is_ (show kk / 26<26 by omega)]
          ·rw[a_8 hm];rfl
         rw[o1,o2];rfl
   ·rintro σ H2 ⟨v4,v6,v7,v8,ns,rfl,b2,st2,ha2,ln,tl⟩;exact⟨_,rfl,k a ns H2 b2 st2 ha0 ha2 (j9_ Z1 Z1 tl)⟩
theorem fz_(ys:List V)(k:Nat):cutV ys none (some (k:Int))=ys.take k:=by
 unfold cutV;rw[HT.sIx_none,HT.sIx_nat,List.drop_zero,Nat.sub_zero];by_cases h:k<=ys.length
 ·rw[Nat.min_eq_left h]
 ·rw[Nat.min_eq_right Z1,aI' (ak' _),aI' Z1]
theorem fs_(ys:List V)(k:Nat):cutV ys (some (k:Int)) none=ys.drop k:=by
 unfold cutV;rw[HT.sIx_nat,HT.sIx_none];by_cases h:k<=ys.length
 ·rw[Nat.min_eq_left h,aI' (by rw[aM'];omega)]
 ·rw[Nat.min_eq_right Z1,List.drop_eq_nil_of_le (ak' _),List.drop_eq_nil_of_le Z1,List.take_nil]
theorem cJ_{α β:Type}{F:α->β->Prop}:∀{ys:List α} {ks:List β} (n:Nat),Paired F ys ks->Paired F (ys.take n) (ks.take n)
 |_,_,0,_=>.nil
 |_,_,_+1,.nil=>.nil
 |_,_,n+1,.cons a t=>.cons a (cJ_ n t)
theorem cH_{α β:Type}{F:α->β->Prop}:∀{ys:List α} {ks:List β} (n:Nat),Paired F ys ks->Paired F (ys.drop n) (ks.drop n)
 |_,_,0,h=>h
 |_,_,_+1,.nil=>.nil
 |_,_,n+1,.cons _ t=>cH_ n t
theorem aN_{α β:Type}{F:α->β->Prop}:∀{ys ys':List α} {ks ks':List β},Paired F ys ks->Paired F ys' ks'->Paired F (ys++ys') (ks++ks')
 |_,_,_,_,.nil,h=>h
 |_,_,_,_,.cons a t,h=>.cons a (aN_ t h)
theorem gQ_{α:Type}(l:List α)(t:Nat):(l.drop t++l.take t).Perm l:=List.perm_append_comm.trans (by rw[List.take_append_drop])
theorem hit3{α:Type}{p:α->Prop}{a b c:α}(h0:0<=r)(h1:r<3)(ha:p a)(hb:p b)(hc:p c):∃x,atI [a,b,c] r=some x/\p x:=by
 have:r=0∨r=1∨r=2:=by omega
 rcases this with rfl|rfl|rfl
 ·exact⟨_,rfl,ha⟩
 ·exact⟨_,rfl,hb⟩
 ·exact⟨_,rfl,hc⟩
structure TJ (ns:List Str) (k q:Nat) (ts:Xb):Prop where
 at':∀t∈ts,∃(a b:Nat) (x y:Str),a<b/\(a<k∨(a=k/\b<k+1+q))/\ns[a]? = some x/\ns[b]? = some y/\(t=(x,y)∨t=(y,x))
 nd:(ts.map kO).Nodup
 len:ts.length<=7 * k+q
variable{k:Nat}
theorem TJ.skip(h:TJ ns k j ts):TJ ns k (j+1) ts:=
 ⟨λt ht=>let ⟨a,b,x,y,h1,h2,h3,h4,h5⟩:=h.at' t ht;⟨a,b,x,y,h1,by omega,h3,h4,h5⟩,h.nd,by have:=h.len;omega⟩
theorem TJ.next(h:TJ ns k q ts)(h7:q<=7):TJ ns (k+1) 0 ts:=
 ⟨λt ht=>let ⟨a,b,x,y,h1,h2,h3,h4,h5⟩:=h.at' t ht;⟨a,b,x,y,h1,by omega,h3,h4,h5⟩,h.nd,by have:=h.len;omega⟩
theorem TJ.add(h:TJ ns k q ts)(nd:ns.Nodup){x y:Str}{t:Str × Str}(hx:ns[k]? = some x)(hy:ns[k+1+q]? = some y)(ht:t=(x,y)∨t=(y,x)):TJ ns k (q+1) (ts++[t]):=by
 refine⟨λu hu=>?_,?_,by have:=h.len;rw[aj'];simp only[List.length_singleton];omega⟩
 ·rcases am'.mp hu with hu|hu
  ·exact h.skip.at' u hu
  ·obtain rfl:u=t:=by simpa using hu
   exact⟨k,k+1+q,x,y,by omega,.inr ⟨rfl,by omega⟩,hx,hy,ht⟩
 ·rw[ag'];refine iz_ h.nd λm=>?_;obtain⟨u,hu,e⟩:=ac'.mp m;obtain⟨a,b,c,d,h1,h2,h3,h4,h5⟩:=h.at' u hu
  have key:(c=x/\d=y)∨(c=y/\d=x):=by
   rcases h5 with rfl|rfl<;>rcases ht with rfl|rfl<;>rcases m1_ e with⟨q1,q2⟩|⟨q1,q2⟩<;>simp_all
  rcases key with⟨rfl,rfl⟩|⟨rfl,rfl⟩
  ·have:=dY_ nd h3 hx;have:=dY_ nd h4 hy;omega
  ·have:=dY_ nd h3 hy;have:=dY_ nd h4 hx;omega
theorem TJ.good(h:TJ ns k j ts)(nd:ns.Nodup)(ok:∀n∈ns,bd' n=true):∀t∈ts,cc' t/\t.1∈ns/\t.2∈ns:=λt ht=>by
 obtain⟨a,b,x,y,h1,h2,h3,h4,h5⟩:=h.at' t ht;have mx:=ad' h3;have my:=ad' h4
 have ne:x≠y:=λe=>by
  subst e;have:=dY_ nd h3 h4;omega
 rcases h5 with rfl|rfl
 ·exact⟨⟨ok _ mx,ok _ my,ne⟩,mx,my⟩
 ·exact⟨⟨ok _ my,ok _ mx,ne.symm⟩,my,mx⟩
def EndB(m:Nat)(n:Str):Prop:=n∈bl'∨∃k,k<m/\n.cps.toList.getLast? = some (97+k % 26)
theorem cB':ba' ["_law_state","_law_most","_law_names_here","_law_hands","_law_thin","_law_ties","_law_k","_law_one","_law_other","_law_turn"] ["_law_state","_law_most"] (a9' sLWeb):=f__
def spLWeb(K:F__):Sp:=λvs H Q _=>∃(l:Addr),vs=[.ref l,.int 8]/\stt H l/\∀(t lh lt:Addr) (ys zs:List V) (hs:Xa) (ts:Xb) (H':Hp),But l H H'->stt H' l->H' t=some (.tup [.ref lh,.ref lt])->H lh=none->H lt=none->lh≠lt->
 H' lh=some (.lst ys)->bb' K H' ys (hs.map kH)->H' lt=some (.lst zs)->bb' K H' zs (ts.map kT)->Good hs ts->(∀n∈hs.map (·.1),EndB 8 n)->Q (.ref t) H'
theorem kR_(F:Fun K "_law_web" "_law_web" sLWeb f fd)(B:Bi mg)(cD:Cal P w K mg base 1 "_law_digit" ["_law_state","_law_base"] b9')(cN:Cal P w K mg base 2 "_law_names" ["_law_state","_law_many"] dL'):FnOk P w K mg base CX0 3 f fd ["_law_state","_law_most"] (spLWeb K):=by
 refine F.okA cB' λcdv A outer s H vs Q E hr h=>?_
 ·obtain⟨l,rfl,st,k⟩:=h;have sz:=b__;have hr1:Room 1 _:=hr.mono (by decide)
  refine' ⟨_,a3_ (ao_ 2 cB'.nd (al_ cN hr (a0_ (pv 0) (a0_ (af_ b7_ a4_ (al_ cD hr1 (a0_ (pv 0) (a0_ (pv 1) a2_)))) a2_))))
   (a3_ (bO_ (i:=3) ["_law_name","_law_state"] 1 [0] cB'.nd rfl (Or.inl rfl) (ah_ (pv 2)) (λfp s H=>aY_ 0) (λfp s H=>aT_)
    (λfp s H=>?he))
   (a3_ (ao_ 4 cB'.nd (af_ b7_ a4_ (al_ cD hr1 (a0_ (pv 0) (a0_ a4_ a2_)))))
   (a3_ (ao_ 5 cB'.nd (av_ a2_))
   (a3_ (b3_ b_7 rfl (kK_ (by rfl) B.enum (a0_ (pv 2) a2_)) (ch_ rfl (ai_ (b5_ 6 cB'.nd) (ai_ (b5_ 7 cB'.nd) b4_)))
    (a5_ (b3_ b_7 rfl (ah_ (am_ aE_ (pv 2) (az_ (af_ b7_ (pv 6) a4_)) ay_)) (b5_ 8 cB'.nd)
     (a5_ (aw_ (ar_ bj_ (al_ cD hr1 (a0_ (pv 0) (a0_ (pv 4) a2_))) a4_ (nomark _))
      (a5_ (bP_ (bl_ d_0 d_6 d_5 bn_ (pv 5) (a0_ (aj_ ad_ (av_ (a0_ (b9_ (a0_ (pv 7) (a0_ (pv 8) a2_))) (a0_ (b9_ (a0_ (pv 8) (a0_ (pv 7) a2_))) a2_))) (al_ cD hr1 (a0_ (pv 0) (a0_ a4_ a2_))) (λ_ _=>rfl)) a2_))))
      aa_)))))
   (a3_ (ao_ 9 cB'.nd (al_ cD hr1 (a0_ (pv 0) (a0_ (a7_ ak_ (by rfl) B.len b_3 (a0_ (pv 3) a2_)) a2_))))
   (a5_ (ae_ (b9_ (a0_ (af_ aI_ (am_ aE_ (pv 3) (az_ (pv 9)) ay_) (am_ aE_ (pv 3) ay_ (az_ (pv 9)))) (a0_ (pv 5) a2_)))))))))),?_⟩
  case he=>exact b9_ (a0_ (pv 0) (a0_ (af_ b7_ a4_ (al_ cD hr1 (a0_ (pv 1) (a0_ (aj_ (ixK (K:=K) rIxL ad_) (av_ (a0_ a4_ (a0_ a4_ (a0_ a4_ a2_)))) (al_ cD hr1 (a0_ (pv 1) (a0_ a4_ a2_))) (λ_ _=>rfl)) a2_)))) a2_))
  refine⟨_,rfl,_,rfl,_,rfl,l,8,rfl,by decide,by decide,st,λr H1 r0 r8 b1 st1=>⟨_,_,rfl,rfl,?_⟩⟩;obtain⟨r,rfl⟩:=aC' r0;refine⟨l,1+r,by show [V.ref l,V.int (1+(r:Int))]=[V.ref l,V.int ((1+r:Nat):Int)];rw[Int.natCast_add];rfl,by omega,st1,λln ns H2 b2 st2 fn hn2 N=>?_⟩;have n8:ns.length<=8:=by rw[N.len];omega
  have n1:1<=ns.length:=by rw[N.len];omega
  have lnl:ln≠l:=λe=>by
   subst e;obtain⟨xs,e2⟩:=st1.some;rw[fn] at e2;cases e2
  refine⟨_,rfl,ln,rfl,⟨_,.of hn2⟩,λlh0 hlh0=>?_⟩
  have lh0l:lh0≠l:=by
   obtain⟨xs,e⟩:=st2.some;exact (a6_ e hlh0).symm
  refine an_ (own:=1) (fv:=[some (.ref l)]) (xs:=ns.map V.str) rfl gok1 (λi out H'=>∃hs:Xa,But l H2 H'/\stt H' l/\H' lh0=some (.lst out)/\bb' K H' out (hs.map kH)/\hs.map (·.1)=ns.take i/\∀h∈hs,1<=h.2/\h.2<=1000) ⟨[],But.of (Same.new hlh0),st2.same (Same.new hlh0),a1_,.nil,rfl,by simp⟩ (λi out H' _ ⟨_,b,_⟩=>.of (b _ _ hn2 lnl)) (λys0 H3 ⟨hs0,b3,st3,hh3,tu3,en,gh⟩=>?_) (λi x out H' hx ⟨hs,b,stx,hD,tu,en,gh⟩=>?_);rotate_left 1
  ·obtain⟨n,hn,rfl⟩:=aF_ hx
   have li:out.length=i:=by
    have h1:=a_1 tu;rw[aa'] at h1;have h2:=c_1 List.length en;rw[aa',af'] at h2;have:=(ab'.mp hn).1;omega
   have hi:=(ab'.mp hn).1;refine⟨_,rfl,rfl,λNx hN=>yesT ?_⟩;refine⟨_,rfl,_,rfl,by show 3<=sizeLine;decide,λp hp=>?_⟩;have s4:=Same.new (o:=.lst [.int 3,.int 12,.int 1000]) hp
   have lp:p≠l:=by
    obtain⟨xs,e⟩:=stx.some;exact (a6_ e hp).symm
   refine⟨_,rfl,l,3,rfl,by decide,by decide,stx.same s4,λr1 H5 q0 q1 b5 st5=>?_⟩;obtain⟨y,hy,bb,eb,e1,e2⟩:=hit3 (p:=λy:V=>∃n:Int,y=.int n/\0<n/\n<=1000) (a:=V.int 3) (b:=.int 12) (c:=.int 1000) q0 q1 ⟨3,rfl,by decide,by decide⟩ ⟨12,rfl,by decide,by decide⟩ ⟨1000,rfl,by decide,by decide⟩;subst eb;refine⟨p,_,_,_,rfl,rfl,.of (b5 _ _ a1_ lp),hy,l,bb,rfl,e1,by omega,st5,λr2 H6 q2 q3 b6 st6=>⟨_,_,rfl,rfl,by show 2<=sizeLine;decide,λt ht=>?_⟩⟩;have b36:But l H' H6:=(But.of s4).trans (b5.trans b6);have hD6:=b36 _ _ hD lh0l;have s7:=Same.new (o:=.tup [.str n,.int (1+r2)]) ht;obtain⟨xs0,hlx⟩:=stx.some;have tu6:=b0_ tu b36 hlx;have tt:upd H6 t (.tup [.str n,.int (1+r2)]) t=some (.tup ((kH (n,1+r2)).map kV)):=a1_;refine⟨out,s7 _ _ hD6,by omega,hN _ _ ⟨hs++[(n,1+r2)],λb' o e ne=>?_,?_,a1_,?_,?_,λh hh=>?_⟩⟩
   ·rw[a8_ (a6_ e hlh0)];exact s7 _ _ (b36 _ _ (b _ _ e ne) ne)
   ·have:=st6.same s7;unfold stt;rw[a8_ lh0l.symm];exact this
   ·rw[ag'];exact bc_ (bb_ (tu6.same s7) tt) (s7 _ _ hD6)
   ·rw[ag',en,aH',hn];rfl
   ·rcases am'.mp hh with hh|hh
    ·exact gh h hh
    ·obtain rfl:h=(n,1+r2):=by simpa using hh
     exact⟨by show 1<=1+r2;omega,by show 1+r2<=1000;omega⟩
  rw[aa',an'] at en;have ln3:=b3 _ _ hn2 lnl;have lh0n:H2 lh0=none:=hlh0;refine⟨_,rfl,l,4,rfl,by decide,by decide,st3,λr3 H4 q0 q1 b4 st4=>⟨_,_,rfl,rfl,?_⟩⟩;refine⟨by show 0<=sizeLine;decide,λa ha=>?_⟩;have s5:=Same.new (o:=.lst []) ha
  have hla:l≠a:=by
   obtain⟨xs,e⟩:=st4.some;exact a6_ e ha
  have ln4:=b4 _ _ ln3 lnl;have hh4:=b4 _ _ hh3 lh0l;have lna:ln≠a:=a6_ ln4 ha;have lha:lh0≠a:=a6_ hh4 ha;have B4:But l H H4:=b1.trans (b2.trans (b3.trans b4));have ha0:H a=none:=B4.free st4 ha;have hlh00:H lh0=none:=(b1.trans b2).free st2 hlh0;obtain⟨xs3,hl3⟩:=st3.some;have tu4:=b0_ tu3 b4 hl3
  let Iv:Nat->Nat->Hp->Prop:=λkk q H'=>∃zs ts,But l H H'/\stt H' l/\H' ln=some (.lst (ns.map V.str))/\H' lh0=some (.lst ys0)/\bb' K H' ys0 (hs0.map kH)/\H' a=some (.lst zs)/\bb' K H' zs (ts.map kT)/\TJ ns kk q ts
  refine⟨_,rfl,ln,rfl,⟨_,.of (s5 _ _ ln4)⟩,jm_ (K:=K) (a:=ln) (xs:=ns.map V.str) (λi σ H'=>∃(v6 v7 v8 v9:Option V),σ=[some (.ref l),some (.int 8),some (.ref ln),some (.ref lh0),some (.int (1+r3)),some (.ref a),v6,v7,v8,v9]/\Iv i 0 H')
   ⟨none,none,none,none,rfl,[],[],B4.trans (But.of s5),st4.same s5,s5 _ _ ln4,s5 _ _ hh4,tu4.same s5,a1_,.nil,⟨by simp,.nil,aJ' _⟩⟩ (λi σ H' _ ⟨_,_,_,_,_,_,_,_,_,q,_⟩=>.of q) ?_ ?_⟩
  ·rintro i x σ H6 hx ⟨v6,v7,v8,v9,rfl,zs6,ts6,b6,st6,hn6,hh6,th6,ha6,tu6,tj6⟩ u hu;obtain⟨one,hone,rfl⟩:=aF_ hx;have hi:i<ns.length:=(ab'.mp hone).1;have s7:Same H6 (upd H6 u (.tup [.int i,.str one])):=Same.new hu;have hu7:upd H6 u (.tup [.int i,.str one]) u=some (.tup [.int i,.str one]):=a1_;refine⟨u,_,rfl,.of hu7,rfl,_,_,rfl,_,_,rfl,rfl,?_⟩;generalize upd H6 u (.tup [.int i,.str one])=H7 at s7 hu7 ⊢;refine⟨_,rfl,_,rfl,_,_,rfl,rfl,_,rfl,ln,_,rfl,.of (s7 _ _ hn6),λp hp=>?_⟩;have ec:cutV (ns.map V.str) (some ((i:Int)+1)) none=(ns.drop (i+1)).map V.str:=gS_ ns (i+1) Z1;rw[ec];have s8:Same H7 (upd H7 p (.lst ((ns.drop (i+1)).map V.str))):=Same.new hp
   have lp:l≠p:=by
    obtain⟨xs,e⟩:=(st6.same s7).some;exact a6_ e hp
   have pa:p≠a:=(a6_ (s7 _ _ ha6) hp).symm;have s78:=s7.trans s8
   refine⟨p,rfl,⟨_,.of a1_⟩,aV_ (K:=K) (a:=p) (xs:=(ns.drop (i+1)).map V.str) (λj σ H'=>∃(v8 v9:Option V),σ=[some (.ref l),some (.int 8),some (.ref ln),some (.ref lh0),some (.int (1+r3)),some (.ref a),some (.int i),some (.str one),v8,v9]/\H' p=some (.lst ((ns.drop (i+1)).map V.str))/\Iv i j H')
    ⟨_,_,rfl,a1_,zs6,ts6,b6.trans (But.of s78),st6.same s78,s78 _ _ hn6,s78 _ _ hh6,th6.same s78,s78 _ _ ha6,tu6.same s78,tj6⟩ (λj σ H' _ ⟨_,_,_,q,_⟩=>.of q) ?_ ?_⟩
   ·rintro j y σ H9 hy ⟨v8,v9,rfl,hp9,zs9,ts9,b9,st9,hn9,hh9,th9,ha9,tu9,tj9⟩;obtain⟨o,ho,rfl⟩:=aF_ hy;rw[List.getElem?_drop] at ho;refine⟨_,rfl,_,rfl,l,1+r3,rfl,by omega,by omega,st9,λr4 H10 q2 q3 b10 st10=>⟨rfl,_,rfl,?_⟩⟩;obtain⟨xs9,hl9⟩:=st9.some;have hn10:=b10 _ _ hn9 lnl;have hh10:=b10 _ _ hh9 lh0l;have ha10:=b10 _ _ ha9 hla.symm;have hp10:=b10 _ _ hp9 lp.symm;have tu10:=b0_ tu9 b10 hl9;have th10:=b0_ th9 b10 hl9;refine ite2 (λc=>?_) (λc=>?_)
    ·refine⟨_,rfl,.inl ⟨rfl,_,.of ha10⟩,_,rfl,_,rfl,by show 2<=sizeLine;decide,λt1 ht1=>?_⟩;have s11:=Same.new (o:=.tup [.str one,.str o]) ht1;refine⟨_,rfl,_,rfl,by show 2<=sizeLine;decide,λt2 ht2=>?_⟩;have s12:=Same.new (o:=.tup [.str o,.str one]) ht2;refine⟨by show 2<=sizeLine;decide,λlx hlx=>?_⟩;have s13:=Same.new (o:=.lst [.ref t1,.ref t2]) hlx;have s14:=(s11.trans s12).trans s13;have st13:=st10.same s14;refine⟨_,rfl,l,2,rfl,by decide,by decide,st13,λr5 H14 q4 q5 b14 st14=>?_⟩
     have lxl:lx≠l:=by
      obtain⟨xs,e⟩:=(st10.same (s11.trans s12)).some;exact (a6_ e hlx).symm
     have hlx14:=b14 _ _ (show upd (upd (upd H10 t1 (.tup [.str one,.str o])) t2 (.tup [.str o,.str one])) lx (.lst [.ref t1,.ref t2]) lx=_ from a1_) lxl;obtain⟨xs13,hl13⟩:=st13.some;have ht1':=s13 _ _ (s12 _ _ (show upd H10 t1 (.tup [.str one,.str o]) t1=_ from a1_));have ht2':=s13 _ _ (show upd (upd H10 t1 (.tup [.str one,.str o])) t2 (.tup [.str o,.str one]) t2=_ from a1_);have ht1'':=b14 _ _ ht1' (be_ ht1' hl13 nofun);have ht2'':=b14 _ _ ht2' (be_ ht2' hl13 nofun)
     have pick:∃(t:Addr) (tt:Str × Str),atI [V.ref t1,V.ref t2] r5=some (.ref t)/\H14 t=some (.tup ((kT tt).map kV))/\(tt=(one,o)∨tt=(o,one)):=by
      rcases hit2 (a:=V.ref t1) (b:=V.ref t2) q4 q5 with e|e
      ·exact⟨t1,(one,o),e,ht1'',.inl rfl⟩
      ·exact⟨t2,(o,one),e,ht2'',.inr rfl⟩
     obtain⟨t,tt,et,ht,etc⟩:=pick;have b1014:But l H10 H14:=(But.of s14).trans b14;obtain⟨xs10,hl10⟩:=st10.some;have ha14:=b1014 _ _ ha10 hla.symm;have hn14:=b1014 _ _ hn10 lnl;have hh14:=b1014 _ _ hh10 lh0l;have hp14:=b1014 _ _ hp10 lp.symm;have tu14:=b0_ tu10 b1014 hl10;have th14:=b0_ th10 b1014 hl10;have lz:=a_1 tu9;rw[aa'] at lz;have tl:=tj9.len
     have hj:j<8:=by
      have:=(ab'.mp ho).1;omega
     refine⟨lx,_,_,_,rfl,rfl,.of hlx14,et,a,_,_,rfl,rfl,ha14,by omega,?_⟩;refine⟨_,_,rfl,by rw[a8_ pa];exact hp14,_,ts9++[tt],λb o e ne=>?_,?_,by rw[a8_ lna];exact hn14,by rw[a8_ lha];exact hh14,bc_ th14 ha14,a1_,?_,tj9.add N.nd hone ho etc⟩
     ·rw[a8_ (a6_ e ha0)];exact b1014 _ _ (b10 _ _ (b9 _ _ e ne) ne) ne
     ·unfold stt;rw[a8_ hla];exact st14
     ·rw[ag'];exact bc_ (bb_ tu14 ht) ha14
    ·exact⟨_,_,rfl,hp10,zs9,ts9,b9.trans b10,st10,hn10,hh10,th10,ha10,tu10,tj9.skip⟩
   ·rintro σ H9 ⟨v8,v9,rfl,hp9,zs9,ts9,b9,st9,hn9,hh9,th9,ha9,tu9,tj9⟩;exact⟨_,_,_,_,rfl,zs9,ts9,b9,st9,hn9,hh9,th9,ha9,tu9,tj9.next (by rw[aa',aM'];omega)⟩
  ·rintro σ H6 ⟨v6,v7,v8,v9,rfl,zs6,ts6,b6,st6,hn6,hh6,th6,ha6,tu6,tj6⟩;rw[aa'] at tj6
   have ly:ys0.length=ns.length:=by
    have h1:=a_1 th6;rw[aa'] at h1;have h2:=c_1 List.length en;rw[aa'] at h2;omega
   refine⟨_,rfl,_,rfl,lh0,_,rfl,.inl (.of hh6),l,_,rfl,by show (0:Int)<(ys0.length:Int);omega,by show (ys0.length:Int)<1073741824;omega,st6,λtn H7 q0 q1 b7 st7=>?_⟩;obtain⟨tn,rfl⟩:=aC' q0;obtain⟨xs6,hl6⟩:=st6.some;have hh7:=b7 _ _ hh6 lh0l;have ha7:=b7 _ _ ha6 hla.symm;have tu7:=b0_ tu6 b7 hl6;have th7:=b0_ th6 b7 hl6;refine⟨_,rfl,_,rfl,_,rfl,lh0,_,rfl,.of hh7,λp1 hp1=>?_⟩;rw[fs_];have s8:=Same.new (o:=.lst (ys0.drop tn)) hp1;refine⟨_,rfl,_,rfl,_,rfl,lh0,_,rfl,.of (s8 _ _ hh7),λp2 hp2=>?_⟩;rw[fz_];have s9:=Same.new (o:=.lst (ys0.take tn)) hp2;refine⟨p1,p2,_,_,rfl,rfl,s9 _ _ a1_,a1_,by rw[aM',af'];omega,λp3 hp3=>?_⟩;have s10:=Same.new (o:=.lst (ys0.drop tn++ys0.take tn)) hp3;have s710:=s8.trans (s9.trans s10);refine⟨_,rfl,by show 2<=sizeLine;decide,λt ht=>?_⟩;have s11:=Same.new (o:=.tup [.ref p3,.ref a]) ht;have s711:=s710.trans s11;have b67:=b6.trans b7;have perm:=gQ_ hs0 tn;have pm:=perm.map (·.1);have gt:=tj6.good N.nd N.ok;have mem:∀n,n∈(hs0.drop tn++hs0.take tn).map (·.1) ↔ n∈ns:=λn=>by rw[pm.mem_iff,en]
   refine k t p3 a _ zs6 (hs0.drop tn++hs0.take tn) ts6 _ (b67.trans (But.of s711)) (st7.same s711) a1_ ((b67.trans (But.of (s8.trans s9))).free (st7.same (s8.trans s9)) hp3) ha0 (λe=>?_) (s11 _ _ a1_) ?_ (s711 _ _ ha7) (tu7.same s711) ⟨λh hh=>?_,?_,?_,?_,λt ht=>(gt t ht).1,tj6.nd,by have:=tj6.len;omega,λt ht=>⟨(mem _).mpr (gt t ht).2.1,(mem _).mpr (gt t ht).2.2⟩⟩ λn hn=>?_
   ·subst e;rw[(s8.trans s9) _ _ ha7] at hp3;cases hp3
   ·rw[ag',List.map_drop,List.map_take];have tt7:bb' K H7 (ys0.drop tn++ys0.take tn) ((hs0.map kH).drop tn++(hs0.map kH).take tn):=aN_ (cH_ tn th7) (cJ_ tn th7);exact tt7.same s711
   ·have hm:=perm.mem_iff.mp hh;obtain⟨g1,g2⟩:=gh h hm;exact⟨N.ok _ (by rw[<- en];exact ac'.mpr ⟨h,hm,rfl⟩),g1,g2⟩
   ·refine pm.nodup_iff.mpr ?_;rw[en];exact N.nd
   ·have:=pm.length_eq;rw[aa',en] at this;omega
   ·have:=pm.length_eq;rw[aa',en] at this;omega
   ·rcases N.end_ n ((mem n).mp hn) with z|⟨kk,h1,h2⟩
    ·exact .inl z
    ·exact .inr ⟨kk,by omega,h2⟩
end Ev
namespace HT
open PySem PySem.Spec PyProof.Rows
variable{prog:Ae}{w:Ag}{A:Ah}{E:Aa->Ac->Prop}{s:Ac}
theorem getItem_rev2{t sl:Addr}{a b:Aa}{u:Tok}{Q:Aa->Ac->Prop}(ht:IsTup s.heap t #[a,b])(hs:s.heap.IsSliceOf sl .none .none (.int (-1) u))
  (h:Q (.ref s.heap.objs.size) { s with heap:=s.heap.push { cls:=.type "tuple",data:=.seq #[b,a] } }):wpAny (model prog w) A (getItem (.ref t) (.ref sl)) Q E s:=by
 have htake:sizeOk (.seq #[b,a]):=by
  show 2<=sizeLine;decide
 obtain⟨os,hos,hcs,hds⟩:=id hs;have hTs:s.TypeIs (.ref sl) "slice":=⟨os,hos,hcs⟩;unfold getItem
 try with_reducible refine c_4 ?_
 first|refine a__ (a_2 ?_)|skip
 refine a__ (wpAny_sequenceKey ht.typeIs (by decide) ?_)
 refine a__ (wpAny_callSpecial?_slot (name:=Str.ofString "__getitem__") ht.typeIs PyProof.Rows.slot_tuple_getitem
  (wpAny_call_entry PyProof.Rows.slot_tuple_getitem ht.typeIs entry_tuple_getitem ?_ (args_tuple_getitem _ _)))
 show wpAny _ _ (Builtin.Tuple.tupleItemsOf (.ref t) >>= _) _ _ s;refine a__ (tupleItemsOf_ ht ?_);refine a__ (wpAny_typeOf hTs ?_);rw[b_0 (by decide)]
 have ap:∀{A':Ah} {E':Aa->Ac->Prop} {R:Int × Int × Nat->Ac->Prop},R (1,-1,2) s->wpAny (model prog w) A' (Builtin.Slice.sliceApplied (.ref sl) (pure ((#[a,b]:Array Aa).size:Int))) R E' s:=by
  intro A' E' R hR;unfold Builtin.Slice.sliceApplied Builtin.Slice.sliceFields;refine a__ (a__ (d_3 hos hds (x:=.none) rfl (a__ (d_3 hos hds (x:=.none) rfl (a__ (d_3 hos hds (x:=.int (-1) u) rfl (a_2 ?_)))))));refine a__ (slicePart_int ?_);show wpAny _ _ (if ((-1:Int) == 0)=true then _ else _) _ _ s;rw[a_8 (by decide)];exact a__ (slicePart_none (a__ (slicePart_none (a__ (a_2 (a_2 (by with_unfolding_all exact hR)))))))
 refine a__ (ap ?_);show wpAny _ _ (if ((1:Int) == 0&&(-1:Int) == 1&&(2:Nat) == 2)=true then _ else _) _ _ s;rw[a_8 (by decide)];have e:(List.filterMap (λ(k:Nat)=>(#[a,b]:Array Aa)[((1:Int)+(k:Int) * -1).toNat]?) (List.range 2)).toArray=#[b,a]:=by with_unfolding_all rfl
 rw[e]
 first
  |exact a__ (m:=Builtin.Tuple.tupleExact _) (d_2 (a_2 ⟨_,rfl,a_2 h⟩) htake)
  |exact a__ (m:=Builtin.Tuple.tupleExact _) (d_2 (a__ (a_2 (a_2 ⟨_,rfl,a_2 h⟩))) htake)
  |exact a__ (a__ (m:=Builtin.Tuple.tupleExact _) (d_2 (a_2 (a_2 ⟨_,rfl,a_2 h⟩)) htake))
  |exact a__ (a__ (m:=Builtin.Tuple.tupleExact _) (d_2 (a_2 ⟨_,rfl,a_2 h⟩) htake))
end HT
namespace L2
open PySem PySem.Spec PyProof.Rows
def tRev2(K:F__)(te ts:TE):TE:=λσ H Q=>te σ H λx H1=>ts σ H1 λy H2=>y=.int (-1)/\∃a u v,x=.ref a/\SqT K H2 a [u,v]/\∀p,H2 p=none->Q (.ref p) (upd H2 p (.tup [v,u]))
variable{X:Cx}{e st:Expr}{te ts:TE}{p2 pos:Pos}
theorem kZ_(he:PE X e te)(hs:PE X st ts):PE X (.Subscript e (.Slice none none (some st) p2) pos) (tRev2 X.K te ts):=by
 intro pins s σ H Q I h;refine Subscript_ (thn (he pins s σ H _ I h) λv s1 ⟨x,H1,I1,r1,q1⟩=>?_);refine wpAny_Slice ?_;rw[evalPart_none];refine a_2 (a_2 ?_);rw[evalPart_some];refine thn (hs pins s1 σ H1 _ I1 q1) λvs s3 ⟨y,H3,I3,ry,ey,a,u,v',ex,hx,q⟩=>?_;subst ex ey;obtain⟨t,rfl⟩:=ry;cases r1;have I4:Inv X pins σ H3 { s3 with heap:=s3.heap.push { cls:=.type "slice",data:=.fields #[.none,.none,.int (-1) t] } }:=I3.kept (t':=s3.toks) λb ob q=>a_0 _ q;obtain⟨its,r,ht,hz⟩:=I4.tuple hx;obtain⟨x1,x2,rfl,rx1,rx2⟩:=Vals.two r;show wpAny (model X.prog X.w) X.A (subscriptTail e (.Slice none none (some st) p2) (.ref a) (.ref s3.heap.objs.size)) (EP X pins σ Q) X.xe { s3 with heap:=s3.heap.push { cls:=.type "slice",data:=.fields #[.none,.none,.int (-1) t] } };refine tail_any (ops:=[.ref a,.ref s3.heap.objs.size]) ht.typeIs PyProof.Rows.slot_tuple_getitem.lookup (HT.getItem_rev2 ht (Heap.IsSliceOf.new ..) ?_) (by with_unfolding_all rfl);refine⟨.ref _,upd H3 _ (.tup [v',u]),I4.laid (t':=s3.toks) (λb o e=>a_0 _ e) (ak' _) ?_,rfl,q _ (I4.hok.fresh (ak' _))⟩;exact⟨by show 2<=sizeLine;decide,[x2,x1],.cons rx2 (.cons rx1 .nil),⟨_,a_7 _ rfl,rfl,_,rfl⟩,_,a_7 _ rfl,rfl⟩
theorem ju_{K:F__}(he:PE X e te)(hs:PE X st ts)(hK:X.K=K:=by rfl):PE X (.Subscript e (.Slice none none (some st) p2) pos) (tRev2 K te ts):=by
 subst hK;exact kZ_ he hs
end L2
namespace Ev
open PySem L2
structure cn' (ts ws:Xb):Prop where
 good:∀w∈ws,cc' w
 nd:(ws.map kO).Nodup
 inn:∀w∈ws,kO w∈ts.map kO
 len:ws.length<=ts.length
theorem kx_{ts us ws:Xb}(good:∀t∈ts,cc' t)(nd:(ts.map kO).Nodup)(sub:us.Sublist ts)(p:Paired (λw u=>w=u∨w=(u.2,u.1)) ws us):cn' ts ws:=by
 have e:ws.map kO=us.map kO:=by
  clear sub
  induction p with
  |nil=>rfl
  |cons h _ ih=>
   rw[au',au',ih];rcases h with rfl|rfl
   ·rfl
   ·exact c_1 (·::_) (kG_ _ _)
 refine⟨λw hw=>?_,?_,λw hw=>?_,?_⟩
 ·obtain⟨i,hi,ew⟩:=aG' hw;have hl:=a_1 p;have q:=aA_ p i hi Z1;rw[ew] at q;have g:=good _ (sub.subset (aZ' (show i<us.length by omega)));rcases q with q|q
  ·rw[q];exact g
  ·rw[q];exact⟨g.2.1,g.1,g.2.2.symm⟩
 ·rw[e];exact (sub.map kO).nodup nd
 ·have:kO w∈ws.map kO:=ac'.mpr ⟨w,hw,rfl⟩;rw[e] at this;exact (sub.map kO).subset this
 ·rw[a_1 p];exact sub.length_le
def WyAt(K:F__)(H:Hp)(v:V):Option (Xb)->Prop
 |none=>v=.non
 |some ws=>∃a ys,v=.ref a/\H a=some (.lst ys)/\bb' K H ys (ws.map kT)
theorem WyAt.same{K:F__}{H H':Hp}{v:V}{o:Option (Xb)}(h:WyAt K H v o)(s:Same H H'):WyAt K H' v o:=by
 cases o with
 |none=>exact h
 |some ws=>
  obtain⟨a,ys,e,ha,t⟩:=h;exact⟨a,ys,e,s _ _ ha,t.same s⟩
variable{f:Addr}{fd:Af}
section
variable{P:Ae}{w:Ag}{K:F__}{mg:Str->Option Aa}{base:Heap}
theorem scWays:ba' ["_law_state","_law_ties","_law_some"] ["_law_state","_law_ties"] (a9' sWays):=f__
inductive eV' (K:F__) (vs:List V) (H:Hp) (Q:VK) (E:XK):Prop
 |mk:∀(l lt:Addr) (zs:List V) (ts:Xb),vs=[.ref l,.ref lt]->stt H l->H lt=some (.lst zs)->bb' K H zs (ts.map kT)->lt≠l->ts.length<64->(∀t∈ts,cc' t)->(ts.map kO).Nodup->(∀(v:V) (o:Option (Xb)) (H':Hp),But l H H'->stt H' l->WyAt K H' v o->(∀a,v=.ref a->H a=none)->(∀ws,o=some ws->cn' ts ws)->Q v H')->eV' K vs H Q E
theorem lf_(F:Fun K "_law_ways" "_law_ways" sWays f fd)(B:Bi mg)(cD:Cal P w K mg base 1 "_law_digit" ["_law_state","_law_base"] b9'):FnOk P w K mg base CX0 2 f fd ["_law_state","_law_ties"] (eV' K):=by
 refine F.okA scWays λcdv A outer s H vs Q E hr h=>?_
 ·obtain⟨l,lt,zs,ts,rfl,st,hlt,tu,ltl,h64,good,nd,k⟩:=h;have sz:=b__;have lz:=a_1 tu;rw[aa'] at lz
  refine' ⟨_,a3_ (aw_ (ar_ ig_ (al_ cD hr (a0_ (pv 0) (a0_ a4_ a2_))) a4_ (nomark _)) (a5_ (ae_ dc_)) aa_)
   (a3_ (bO_ (i:=2) ["_law_tie","_law_state"] 1 [0] scWays.nd rfl (Or.inl rfl) (ah_ (pv 1)) (λfp s H=>aY_ 0)
    (λfp s H=>?ht) (λfp s H=>?he1))
   (a5_ (ae_ (aR_ ["_law_tie","_law_state"] 1 [0] (ah_ (pv 2)) (λfp s H=>aY_ 0) (λfp s H=>aT_)
    (λfp s H=>?he))))),?_⟩
  case ht=>exact bR_ (ar_ bj_ (al_ cD hr (a0_ (pv 1) (a0_ a4_ a2_))) a4_ (nomark _))
  case he1=>exact pv 0
  case he=>exact aj_ (ixK (K:=K) rIxL ad_) (av_ (a0_ (pv 0) (a0_ (ju_ (K:=K) (pv 0) (kI_ hB_ a4_)) a2_))) (al_ cD hr (a0_ (pv 1) (a0_ a4_ a2_))) (λ_ _=>rfl)
  refine⟨_,rfl,l,3,rfl,by decide,by decide,st,λr H1 r0 r3 b1 st1=>⟨_,_,rfl,rfl,_,rfl,?_⟩⟩;refine ite2 (λc=>?_) (λc=>?_)
  ·exact k .non none H1 b1 st1 rfl (λa z=>by cases z) (λws z=>by cases z)
  obtain⟨xs,hl⟩:=st.some;have hlt1:=b1 _ _ hlt ltl;have tu1:=b0_ tu b1 hl;refine⟨_,rfl,lt,rfl,⟨_,.of hlt1⟩,λD hD=>?_⟩
  have Dl:D≠l:=by
   obtain⟨xs,e⟩:=st1.some;exact (a6_ e hD).symm
  refine an_ (own:=1) (fv:=[some (.ref l)]) (xs:=zs) rfl gok1 (λi out H'=>∃us:Xb,But l H1 H'/\stt H' l/\H' D=some (.lst out)/\bb' K H' out (us.map kT)/\us.Sublist (ts.take i)) ⟨[],But.of (Same.new hD),st1.same (Same.new hD),a1_,.nil,List.nil_sublist _⟩ (λi out H' _ ⟨_,b,_⟩=>.of (b _ _ hlt1 ltl)) (λys2 H2 ⟨us,b2,st2,hD2,tu2,sub⟩=>?_) (λi x out H' hx ⟨us,b,stx,hDx,tux,sub⟩=>?_);rotate_left 1
  ·obtain⟨t,ht,p,rfl,hp⟩:=aJ_ tu1 hx;refine⟨_,rfl,rfl,λNx hN=>?_⟩;refine⟨_,rfl,l,2,rfl,by decide,by decide,stx,λr2 H4 q0 q1 b4 st4=>⟨rfl,_,rfl,?_⟩⟩;obtain⟨xsx,hlx⟩:=stx.some;have tu4:=b0_ tux b4 hlx;have hD4:=b4 _ _ hDx Dl;refine ite2 (λc2=>?_) (λc2=>?_)
   ·have lo:=a_1 tux;rw[aa'] at lo;have ls:=sub.length_le;rw[af'] at ls
    have hp4:=b4 _ _ (b _ _ hp (be_ hp (show H1 l=some _ from st1.some.choose_spec) nofun)) (by
     obtain⟨xs1,e1⟩:=st1.some;exact be_ hp e1 nofun)
    refine⟨_,rfl,out,hD4,by omega,hN _ _ ⟨us++[t],λb' o e ne=>?_,?_,a1_,?_,?_⟩⟩
    ·rw[a8_ (a6_ e hD)];exact b4 _ _ (b _ _ e ne) ne
    ·unfold stt;rw[a8_ Dl.symm];exact st4
    ·rw[ag'];exact bc_ (bb_ tu4 hp4) hD4
    ·rw[aH',ht];exact sub.append (List.Sublist.refl _)
   ·refine hN _ _ ⟨us,b.trans b4,st4,hD4,tu4,sub.trans ?_⟩;rw[aH'];exact List.sublist_append_left _ _
  rw[lz,an'] at sub;have lu:=a_1 tu2;rw[aa'] at lu;have ls:=sub.length_le;refine⟨_,rfl,D,rfl,⟨_,.of hD2⟩,λa ha=>?_⟩
  have al:a≠l:=by
   obtain⟨xs,e⟩:=st2.some;exact (a6_ e ha).symm
  have Da:D≠a:=a6_ hD2 ha;refine an_ (own:=1) (fv:=[some (.ref l)]) (xs:=ys2) rfl gok1 (λi out H'=>∃ws:Xb,But l H2 H'/\stt H' l/\H' a=some (.lst out)/\bb' K H' out (ws.map kT)/\Paired (λw u=>w=u∨w=(u.2,u.1)) ws (us.take i)) ⟨[],But.of (Same.new ha),st2.same (Same.new ha),a1_,.nil,.nil⟩ (λi out H' _ ⟨_,b,_⟩=>.of (b _ _ hD2 Dl)) (λys3 H3 ⟨ws,b3,st3,ha3,tu3,pw⟩=>?_) (λi x out H' hx ⟨ws,b,stx,hax,tux,pw⟩=>?_)
  ·rw[lu,an'] at pw;have b0:=b1.trans b2;exact k (.ref a) (some ws) H3 (b0.trans b3) st3 ⟨a,ys3,rfl,ha3,tu3⟩ (λc z=>by cases z;exact b0.free st2 ha) (λws' z=>by cases z;exact kx_ good nd sub pw)
  ·obtain⟨t,ht,p,rfl,hp⟩:=aJ_ tu2 hx;have hi:i<us.length:=(ab'.mp ht).1;obtain⟨xs2,hl2⟩:=st2.some;obtain⟨xsx,hlx⟩:=stx.some;have hpx:=b _ _ hp (be_ hp hl2 nofun);refine⟨_,rfl,rfl,λNx hN=>yesT ?_⟩;refine⟨_,rfl,_,rfl,_,rfl,rfl,p,_,_,rfl,.of (hpT hpx),λq hq=>?_⟩;have s4:=Same.new (o:=.tup [.str t.2,.str t.1]) hq;refine⟨by show 2<=sizeLine;decide,λlx hlx'=>?_⟩;have s5:=Same.new (o:=.lst [.ref p,.ref q]) hlx';have s45:=s4.trans s5;have st5:=stx.same s45
   have lxl:lx≠l:=by
    obtain⟨xs,e⟩:=(stx.same s4).some;exact (a6_ e hlx').symm
   refine⟨_,rfl,l,2,rfl,by decide,by decide,st5,λr2 H6 q0 q1 b6 st6=>?_⟩;obtain⟨xs5,hl5⟩:=st5.some;have hp5:=s45 _ _ hpx;have hq5:=s5 _ _ (show upd H' q (.tup [.str t.2,.str t.1]) q=_ from a1_);have hp6:=b6 _ _ hp5 (be_ hp5 hl5 nofun);have hq6:=b6 _ _ hq5 (be_ hq5 hl5 nofun);have hlx6:=b6 _ _ (show upd (upd H' q (.tup [.str t.2,.str t.1])) lx (.lst [.ref p,.ref q]) lx=_ from a1_) lxl
   have pick:∃(c:Addr) (tt:Str × Str),atI [V.ref p,V.ref q] r2=some (.ref c)/\H6 c=some (.tup ((kT tt).map kV))/\(tt=t∨tt=(t.2,t.1)):=by
    rcases hit2 (a:=V.ref p) (b:=V.ref q) q0 q1 with e|e
    ·exact⟨p,t,e,hp6,.inl rfl⟩
    ·exact⟨q,(t.2,t.1),e,hq6,.inr rfl⟩
   obtain⟨c,tt,et,hc,etc⟩:=pick;have b16:But l H' H6:=(But.of s45).trans b6;have ha6:=b16 _ _ hax al;have lo:=a_1 tux;rw[aa'] at lo;have lp:=a_1 pw;rw[af'] at lp;refine⟨lx,_,_,_,rfl,rfl,.of hlx6,et,out,ha6,by omega,hN _ _ ⟨ws++[tt],λb' o e ne=>?_,?_,a1_,?_,?_⟩⟩
   ·rw[a8_ (a6_ e ha)];exact b16 _ _ (b _ _ e ne) ne
   ·unfold stt;rw[a8_ al.symm];exact st6
   ·rw[ag'];exact bc_ (bb_ (b0_ tux b16 hlx) hc) ha6
   ·rw[aH',ht];exact aN_ pw (.cons etc .nil)
end
abbrev Pc:=Str × Int × Option (Xb)
def PcAt(K:F__)(H:Hp)(y:V)(p:Pc):Prop:=∃t v,y=.ref t/\H t=some (.tup [.str p.1,.int p.2.1,v])/\WyAt K H v p.2.2
abbrev b0'(K:F__)(H:Hp)(ys:List V)(ps:List Pc):Prop:=Paired (PcAt K H) ys ps
structure bV' (ts:Xb) (p:Pc):Prop where
 nm:bd' p.1=true
 w1:1<=p.2.1
 w2:p.2.1<=1000000000
 ws:∀ws,p.2.2=some ws->cn' ts ws
theorem kX_{K:F__}{H:Hp}{a l:Addr}{ys:List V}{ks:List (List Key)}(t:bb' K H ys ks)(ha:H a=some (.lst ys))(st:stt H l):a≠l:=λe=>by
 subst e;rcases st with⟨n,e⟩|⟨n,m,c,e⟩
 all_goals
  rw[ha] at e;have e:ys=_:=HO.lst.inj (b_2 e);subst e;cases t with
  |cons h _=>
   obtain⟨b,z,_⟩:=h;cases z
theorem WyAt.but{K:F__}{H H':Hp}{l:Addr}{v:V}{o:Option (Xb)}(h:WyAt K H v o)(b:But l H H')(st:stt H l):WyAt K H' v o:=by
 cases o with
 |none=>exact h
 |some ws=>
  obtain⟨a,ys,e,ha,t⟩:=h;obtain⟨xs,hl⟩:=st.some;exact⟨a,ys,e,b _ _ ha (kX_ t ha st),b0_ t b hl⟩
theorem PcAt.but{K:F__}{H H':Hp}{l:Addr}{y:V}{p:Pc}(h:PcAt K H y p)(b:But l H H')(st:stt H l):PcAt K H' y p:=by
 obtain⟨t,v,e,ht,hv⟩:=h;obtain⟨xs,hl⟩:=st.some;exact⟨t,v,e,b _ _ ht (be_ ht hl nofun),hv.but b st⟩
theorem PcAt.same{K:F__}{H H':Hp}{y:V}{p:Pc}(h:PcAt K H y p)(s:Same H H'):PcAt K H' y p:=by
 obtain⟨t,v,e,ht,hv⟩:=h;exact⟨t,v,e,s _ _ ht,hv.same s⟩
variable{D:Addr}
theorem WyAt.put{K:F__}{H:Hp}{xs:List V}{v:V}{o:Option (Xb)}{u:HO}(h:WyAt K H v o)(hD:H D=some (.lst xs))(ne:v≠.ref D):WyAt K (upd H D u) v o:=by
 cases o with
 |none=>exact h
 |some ws=>
  obtain⟨a,ys,e,ha,t⟩:=h;subst e;exact⟨a,ys,rfl,by rw[a8_ λz=>ne (by rw[z])];exact ha,bc_ t hD⟩
section
variable{P:Ae}{w:Ag}{K:F__}{mg:Str->Option Aa}{base:Heap}
theorem cK':ba' ["_law_state","_law_ties","_law_most","_law_pieces_here","_law_name","_law_weight","_law_turn"] ["_law_state","_law_ties","_law_most"] (a9' eq'):=f__
inductive c0' (K:F__) (vs:List V) (H:Hp) (Q:VK) (E:XK):Prop
 |mk:∀(l lt:Addr) (m:Nat) (zs:List V) (ts:Xb),vs=[.ref l,.ref lt,.int m]->m<=30->stt H l->H lt=some (.lst zs)->bb' K H zs (ts.map kT)->lt≠l->ts.length<64->(∀t∈ts,cc' t)->(ts.map kO).Nodup->(∀(a:Addr) (ys:List V) (ps:List Pc) (H':Hp),But l H H'->stt H' l->H a=none->H' a=some (.lst ys)->b0' K H' ys ps->(∀p∈ps,bV' ts p)->(ps.map (·.1)).Nodup->ps.length<=m->(∀p∈ps,EndB m p.1)->Q (.ref a) H')->c0' K vs H Q E
theorem hU_(F:Fun K "_law_pieces" "_law_pieces" eq' f fd)(B:Bi mg)(cD:Cal P w K mg base 1 "_law_digit" ["_law_state","_law_base"] b9')(cN:Cal P w K mg base 2 "_law_names" ["_law_state","_law_many"] dL')(cW:Cal P w K mg base 2 "_law_ways" ["_law_state","_law_ties"] (eV' K)) :
  FnOk P w K mg base CX0 3 f fd ["_law_state","_law_ties","_law_most"] (c0' K):=by
 refine F.okA cK' λcdv A outer s H vs Q E hr h=>?_
 ·obtain⟨l,lt,m,zs,ts,rfl,m30,st,hlt,tu,ltl,h64,good,nd,k⟩:=h;have sz:=b__;have hr1:Room 1 _:=hr.mono (by decide)
  refine⟨_,a3_ (ao_ 3 cK'.nd (av_ a2_))
   (a3_ (b3_ b_7 rfl (ah_ (al_ cN hr (a0_ (pv 0) (a0_ (al_ cD hr1 (a0_ (pv 0) (a0_ (af_ b7_ (pv 2) a4_) a2_))) a2_)))) (b5_ 4 cK'.nd)
    (a3_ (ao_ 5 cK'.nd (af_ b7_ a4_ (al_ cD hr1 (a0_ (pv 0) (a0_ (aj_ ad_ (av_ (a0_ a4_ (a0_ a4_ (a0_ (af_ iF_ a4_ a4_) a2_)))) (al_ cD hr1 (a0_ (pv 0) (a0_ a4_ a2_))) (λ_ _=>rfl)) a2_)))))
    (a5_ (bP_ (bl_ d_0 d_6 d_5 bn_ (pv 3) (a0_ (b9_ (a0_ (pv 4) (a0_ (pv 5) (a0_ (al_ cW hr (a0_ (pv 0) (a0_ (pv 1) a2_))) a2_)))) a2_))))))
   (a3_ (ao_ 6 cK'.nd (al_ cD hr1 (a0_ (pv 0) (a0_ (af_ b7_ (a7_ ak_ (by rfl) B.len b_3 (a0_ (pv 3) a2_)) a4_) a2_))))
   (a5_ (ae_ (af_ aI_ (am_ aE_ (pv 3) (az_ (pv 6)) ay_) (am_ aE_ (pv 3) ay_ (az_ (pv 6)))))))),?_⟩
  refine⟨by show 0<=sizeLine;decide,λa ha=>?_⟩;have s1:=Same.new (o:=.lst []) ha
  have hla:l≠a:=by
   obtain⟨xs,e⟩:=st.some;exact a6_ e ha
  have lta:lt≠a:=a6_ hlt ha;refine⟨_,rfl,_,rfl,_,rfl,_,_,rfl,rfl,l,(m:Int)+1,rfl,by omega,by omega,st.same s1,λr H2 r0 rm b2 st2=>?_⟩;obtain⟨r,rfl⟩:=aC' r0;refine⟨l,r,rfl,by omega,st2,λln ns H3 b3 st3 fn hn3 N=>?_⟩
  have lnl:ln≠l:=λe=>by
   subst e;obtain⟨xs,e2⟩:=st2.some;rw[fn] at e2;cases e2
  have ha2:=b2 _ _ (show upd H a (.lst []) a=_ from a1_) hla.symm
  have lna:ln≠a:=λe=>by
   subst e;rw[fn] at ha2;cases ha2
  have B3:But l H H3:=(But.of s1).trans (b2.trans b3);have ha3:=b3 _ _ ha2 hla.symm;have hlt3:=B3 _ _ hlt ltl;obtain⟨xs0,hl0⟩:=st.some;have tu3:=b0_ tu B3 hl0
  refine⟨ln,rfl,⟨_,.of hn3⟩,aV_ (K:=K) (a:=ln) (xs:=ns.map V.str) (λi σ H'=>∃(v4 v5 v6:Option V) (ys:List V) (ps:List Pc),σ=[some (.ref l),some (.ref lt),some (.int m),some (.ref a),v4,v5,v6]/\But l H H'/\stt H' l/\H' ln=some (.lst (ns.map V.str))/\H' a=some (.lst ys)/\b0' K H' ys ps/\(∀y v,y∈ys->∀t n q,y=.ref t->H' t=some (.tup [n,q,v])->v≠.ref a)/\(∀p∈ps,bV' ts p)/\ps.map (·.1)=ns.take i)
   ⟨none,none,none,[],[],rfl,B3,st3,hn3,ha3,.nil,λy v hy=>(by simp at hy),by simp,rfl⟩ (λi σ H' _ ⟨_,_,_,_,_,_,_,_,q,_⟩=>.of q) ?_ ?_⟩
  ·rintro i x σ H4 hx ⟨v4,v5,v6,ys,ps,rfl,b4,st4,hn4,ha4,pc4,far,gp,en⟩;obtain⟨n,hn,rfl⟩:=aF_ hx;have hi:i<ns.length:=(ab'.mp hn).1;refine⟨_,rfl,_,_,rfl,rfl,⟨by decide,by decide,by decide⟩,by show 3<=sizeLine;decide,λp hp=>?_⟩;have s5:=Same.new (o:=.lst [.int 3,.int 100,.int ((10:Int) ^ (9:Int).toNat)]) hp
   have pl:p≠l:=by
    obtain⟨xs,e⟩:=st4.some;exact (a6_ e hp).symm
   refine⟨_,rfl,l,3,rfl,by decide,by decide,st4.same s5,λr1 H6 q0 q1 b6 st6=>?_⟩;obtain⟨y,hy,bb,eb,e1,e2⟩:=hit3 (p:=λy:V=>∃n:Int,y=.int n/\0<n/\n<=1000000000) (a:=V.int 3) (b:=.int 100) (c:=.int ((10:Int) ^ (9:Int).toNat)) q0 q1 ⟨3,rfl,by decide,by decide⟩ ⟨100,rfl,by decide,by decide⟩ ⟨_,rfl,by decide,by decide⟩;subst eb;refine⟨p,_,_,_,rfl,rfl,.of (b6 _ _ a1_ pl),hy,l,bb,rfl,e1,by omega,st6,λr2 H7 q2 q3 b7 st7=>⟨_,_,rfl,rfl,?_⟩⟩;have b47:But l H4 H7:=(But.of s5).trans (b6.trans b7);have ha7:=b47 _ _ ha4 hla.symm;have hlt7:=(b4.trans b47) _ _ hlt ltl;have tu7:=b0_ tu (b4.trans b47) hl0;refine⟨_,rfl,.inl ⟨rfl,_,.of ha7⟩,_,rfl,_,rfl,_,rfl,_,rfl,l,lt,zs,ts,rfl,st7,hlt7,tu7,ltl,h64,good,nd,λv o H8 b8 st8 wy fresh gw=>?_⟩;have b48:=b47.trans b8;have ha8:=b8 _ _ ha7 hla.symm;have hn8:=b48 _ _ hn4 lnl;refine⟨by show 3<=sizeLine;decide,λt ht=>?_⟩;have s9:=Same.new (o:=.tup [.str n,.int (1+r2),v]) ht
   have va:v≠.ref a:=λz=>by
    have:=fresh a z;rw[ha7] at this;cases this
   have ly:=a_1 pc4;have lp:=c_1 List.length en;rw[aa',af'] at lp;have hlen:=N.len;have ta:t≠a:=(a6_ ha8 ht).symm;refine⟨a,_,_,rfl,rfl,s9 _ _ ha8,by omega,?_⟩;refine⟨_,_,_,_,ps++[(n,1+r2,o)],rfl,λb' o' e ne=>?_,?_,?_,a1_,?_,?_,?_,?_⟩
   ·rw[a8_ (a6_ e ha)];exact s9 _ _ ((b4.trans b48) _ _ e ne)
   ·unfold stt;rw[a8_ hla];exact st8.same s9
   ·rw[a8_ lna];exact s9 _ _ hn8
   ·have old:b0' K (upd (upd H8 t (.tup [.str n,.int (1+r2),v])) a (.lst (ys++[.ref t]))) ys ps:=by
     have gen:∀(ys':List V) (ps':List Pc),(∀y∈ys',y∈ys)->b0' K H4 ys' ps'->b0' K (upd (upd H8 t (.tup [.str n,.int (1+r2),v])) a (.lst (ys++[.ref t]))) ys' ps':=λys' ps' sub h=>by
      induction h with
      |nil=>exact .nil
      |@cons y q ys1 ps1 h _ ih=>
       refine .cons ?_ (ih λz hz=>sub z (ai' _ hz));obtain⟨t',v',e,ht',hv'⟩:=h;have nv:=far y v' (sub y aq') t' _ _ e ht';obtain⟨xs4,hl4⟩:=st4.some;have ht8:=s9 _ _ (b48 _ _ ht' (be_ ht' hl4 nofun));exact⟨t',v',e,by rw[a8_ (be_ ht8 (s9 _ _ ha8) nofun)];exact ht8,((hv'.but b48 st4).same s9).put (s9 _ _ ha8) nv⟩
     exact gen ys ps (λ_ h=>h) pc4
    exact aN_ old (.cons ⟨t,v,rfl,by rw[a8_ ta];exact a1_,(wy.same s9).put (s9 _ _ ha8) va⟩ .nil)
   ·intro y v' hy' t' n' q' e ht';rcases am'.mp hy' with hy'|hy'
    ·obtain⟨j,hj,ej⟩:=aG' hy';obtain⟨t2,v2,e2',ht2,_⟩:=aA_ pc4 j hj Z1;rw[ej] at e2';subst e2';cases e;obtain⟨xs4,hl4⟩:=st4.some;have ht8:=s9 _ _ (b48 _ _ ht2 (be_ ht2 hl4 nofun));rw[a8_ (be_ ht8 (s9 _ _ ha8) nofun),ht8] at ht';have z:=HO.tup.inj (b_2 ht');have:v2=v':=(b_8 (b_8 (b_8 z).2).2).1;subst this;exact far _ v2 hy' _ _ _ rfl ht2
    ·obtain rfl:y=.ref t:=by simpa using hy'
     cases e;rw[a8_ ta,a1_] at ht';have z:=HO.tup.inj (b_2 ht');have:v=v':=(b_8 (b_8 (b_8 z).2).2).1;subst this;exact va
   ·intro q hq;rcases am'.mp hq with hq|hq
    ·exact gp q hq
    ·obtain rfl:q=(n,1+r2,o):=by simpa using hq
     exact⟨N.ok n (ad' hn),by show 1<=1+r2;omega,by show 1+r2<=1000000000;omega,gw⟩
   ·rw[ag',en,aH',hn];rfl
  ·rintro σ H4 ⟨v4,v5,v6,ys,ps,rfl,b4,st4,hn4,ha4,pc4,far,gp,en⟩;rw[aa',an'] at en;have ly:=a_1 pc4;have lp:=c_1 List.length en;rw[aa'] at lp;have hlen:=N.len;refine⟨_,rfl,_,rfl,a,_,rfl,.inl (.of ha4),_,_,rfl,rfl,l,_,rfl,by show (0:Int)<(ys.length:Int)+1;omega,by show (ys.length:Int)+1<1073741824;omega,st4,λtn H5 q0 q1 b5 st5=>?_⟩;obtain⟨tn,rfl⟩:=aC' q0;have ha5:=b5 _ _ ha4 hla.symm;refine⟨_,rfl,_,rfl,_,rfl,a,_,rfl,.of ha5,λp1 hp1=>?_⟩;rw[fs_];have s6:=Same.new (o:=.lst (ys.drop tn)) hp1;refine⟨_,rfl,_,rfl,_,rfl,a,_,rfl,.of (s6 _ _ ha5),λp2 hp2=>?_⟩;rw[fz_];have s7:=Same.new (o:=.lst (ys.take tn)) hp2;refine⟨p1,p2,_,_,rfl,rfl,s7 _ _ a1_,a1_,by rw[aM',af'];omega,λp3 hp3=>?_⟩;have s57:=s6.trans s7;have s8:=Same.new (o:=.lst (ys.drop tn++ys.take tn)) hp3;have b45:=b4.trans b5;have perm:=gQ_ ps tn;have pm:=perm.map (·.1);have all:=s57.trans s8;refine k p3 _ (ps.drop tn++ps.take tn) _ (b45.trans (But.of all)) (st5.same all) ((b45.trans (But.of s57)).free (st5.same s57) hp3) a1_ ?_ (λq hq=>gp q (perm.mem_iff.mp hq)) ?_ ?_ λq hq=>?_
   ·have h5:b0' K _ ys ps:=Paired.mapP pc4 λy q h=>(h.but b5 st4).same all;exact aN_ (cH_ tn h5) (cJ_ tn h5)
   ·refine pm.nodup_iff.mpr ?_;rw[en];exact N.nd
   ·rw[perm.length_eq];omega
   ·have hm:=perm.mem_iff.mp hq
    have:q.1∈ns:=by
     rw[<- en];exact ac'.mpr ⟨q,hm,rfl⟩
    rcases N.end_ _ this with z|⟨kk,h1,h2⟩
    ·exact .inl z
    ·exact .inr ⟨kk,by omega,h2⟩
end
def StrV(K:F__)(H:Hp)(v:V):Option Str->Prop
 |some x=>v=.str x
 |none=>∃t,TyOf K H v t/\PySem.W.kitOne K t (.type "str")=some false
def inB(ns:List Str):Option Str->Bool
 |some x=>decide (x∈ns)
 |none=>false
def e8'(hs:Xa)(ts:Xb):Option Str->Option Str->Bool
 |some x,some y=>decide (x∈hs.map (·.1))&&(decide (y∈hs.map (·.1))&&decide (y∈near (bf' hs) (tsOf ts) x))
 |_,_=>false
theorem cu_(hs:Xa)(ts:Xb)(x y:Str):e8' hs ts (some x) (some y)=(decide (x∈hs.map (·.1))&&(decide (y∈hs.map (·.1))&&decide (y∈near (bf' hs) (tsOf ts) x))):=rfl
variable{H' H0:Hp}
variable{v:V}{o:Option (Xb)}{u:HO}
section
variable{P:Ae}{w:Ag}{K:F__}{mg:Str->Option Aa}{base:Heap}
inductive eU' (K:F__) (C:Addr) (vs:List V) (H:Hp) (Q:VK) (E:XK):Prop
 |mk:∀(p:Addr) (v:V) (x:Option Str) (hs:Xa) (ts:Xb) (fp:List Addr),vs=[.ref p,v]->bD' K C H p hs ts fp->StrV K H v x->Q (.bl (inB (hs.map (·.1)) x)) H->eU' K C vs H Q E
theorem l9_{C:Addr}(F:Fun K "has_hand" "Web.has_hand" sHas f fd)(T:Txt K mg C)(B:Bi mg):FnOk P w K mg base CX0 1 f fd ["self","thing"] (eU' K C):=by
 refine F.okA scHas λcdv A outer s H vs Q E hr h=>?_
 ·obtain⟨p,v,x,hs,ts,fp,rfl,W,sv,k⟩:=h;have hu:=br_ hr;obtain⟨dx,d1,l2,d3,zs,as,rfl,h1,h2,h3,h4,h5,h6,h7⟩:=W.ex;refine⟨_,a5_ (ae_ (bF_ (a7_ aQ_ (by rfl) B.isi ab_ (a0_ (pv 1) (a0_ (b1_ (v:=.ty "str") (by rfl) B.str dg_ rfl) a2_))) (bZ_ (hv_ (cX_ hu (pv 1) (bS_ (pv 0) rfl)))))),?_⟩;cases x with
  |some x=>
   cases (show v=.str x from sv);refine⟨_,rfl,_,_,_,_,rfl,.str x,rfl,_,rfl,iteT ?_⟩;refine⟨_,rfl,_,rfl,p,C,dx,_,_,rfl,h1,T.cl,T.nS,gH_ _ _ _,d1,_,rfl,.k (k:=Sum.inr x) h2,?_⟩;rw[d4_];exact k
  |none=>
   obtain⟨t,ty,e⟩:=sv;exact⟨_,rfl,_,_,_,_,rfl,ty,e,_,rfl,iteF k⟩
inductive de' (K:F__) (C:Addr) (vs:List V) (H:Hp) (Q:VK) (E:XK):Prop
 |mk:∀(p:Addr) (v u:V) (x y:Option Str) (hs:Xa) (ts:Xb) (fp:List Addr),vs=[.ref p,v,u]->bD' K C H p hs ts fp->(bf' hs).Nodup->StrV K H v x->StrV K H u y->Q (.bl (e8' hs ts x y)) H->de' K C vs H Q E
theorem jO_{C:Addr}(F:Fun K "are_tied" "Web.are_tied" sTied f fd)(T:Txt K mg C)(cH:CalM P w K mg base C 1 "has_hand" ["self","thing"] (eU' K C)):FnOk P w K mg base CX0 2 f fd ["self","one","other"] (de' K C):=by
 refine F.okA scTied λcdv A outer s H vs Q E hr h=>?_
 ·obtain⟨p,v,u,x,y,hs,ts,fp,rfl,W,nd,sv,su,k⟩:=h;have hu:=br_ hr;obtain⟨dx,d1,l2,d3,zs,as,rfl,h1,h2,h3,h4,h5,h6,h7⟩:=id W.ex;have hno:(flds d1 l2 d3).lookup ("has_hand":Str)=none:=c4_ _ _ _ Z0 Z0 Z0;refine⟨_,a5_ (ae_ (bF_ (dj_ cH T.cl hr (pv 0) (a0_ (pv 1) a2_)) (bF_ (dj_ cH T.cl hr (pv 0) (a0_ (pv 2) a2_)) (bZ_ (bI_ (kp_ cmpS (e6' hr 0)) (pv 2) (cg_ hu (bS_ (pv 0) rfl) (pv 1) (λ_ _=>rfl)) (by with_unfolding_all rfl)))))),?_⟩;refine⟨_,rfl,p,dx,_,rfl,h1,hno,_,rfl,p,v,x,hs,ts,_,rfl,W,sv,_,rfl,?_⟩;cases x with
  |none=>exact iteF k
  |some x=>
   cases (show v=.str x from sv);refine ite2 (λc=>?_) (λc=>?_)
   ·have hx:x∈hs.map (·.1):=c_3 c;obtain⟨a,e1,ha⟩:=m6_ nd hx h6 h7;refine⟨_,rfl,p,dx,_,rfl,h1,hno,_,rfl,p,u,y,hs,ts,_,rfl,W,su,_,rfl,?_⟩;cases y with
    |none=>exact iteF k
    |some y=>
     cases (show u=.str y from su);rw[cu_,a_5 hx,Bool.true_and] at k;refine ite2 (λc2=>?_) (λc2=>?_)
     ·have hy:y∈hs.map (·.1):=c_3 c2;rw[a_5 hy,Bool.true_and] at k;refine⟨_,rfl,_,rfl,p,C,dx,_,_,rfl,h1,T.cl,T.nN,lr_ _ _ _,_,rfl,d3,.ref a,rfl,?_,y,_,rfl,⟨a,_,rfl,.of ha,eO_ _⟩,k⟩;rw[<- e1];exact .k (k:=Sum.inr x) h5
     ·have hy:¬y∈hs.map (·.1):=λz=>c2 (a_5 z);rw[a_4 hy,Bool.false_and] at k;exact k
   ·have hx:¬x∈hs.map (·.1):=λz=>c (a_5 z);cases y with
    |none=>exact k
    |some y=>
     rw[cu_,a_4 hx,Bool.false_and] at k;exact k
theorem jg_{hs:Xa}{ts ws:Xb}(G:Good hs ts)(W:cn' ts ws){t:Str × Str}(ht:t∈tsOf ws):e8' hs ts (some t.1) (some t.2)=true:=by
 obtain⟨x,hx,ex⟩:=bp'.mp ht;obtain⟨u,hu,eu⟩:=ac'.mp (W.inn x hx);have eo:ord2 u.1 u.2=t:=(em_ eu).trans ex
 have both:t.1∈hs.map (·.1)/\t.2∈hs.map (·.1)/\ord2 t.1 t.2=t:=by
  obtain⟨g1,g2⟩:=G.tin u hu;rcases bi_ u.1 u.2 with e|e
  ·rw[<- eo,e];exact⟨g1,g2,e⟩
  ·rw[<- eo,e];exact⟨g2,g1,(cP_ _ _).trans e⟩
 obtain⟨m1,m2,m3⟩:=both;have m4:t.2∈near (bf' hs) (tsOf ts) t.1:=aT'.mpr ⟨(aM_ hs).mem_iff.mpr m2,a_5 (by rw[m3];exact bp'.mpr ⟨u,hu,eo⟩)⟩;rw[cu_,a_5 m1,a_5 m2,a_5 m4];rfl
theorem b5':ba' ["web","ways","found","one","other"] ["web","ways"] (a9' eM'):=f__
inductive dZ' (K:F__) (C:Addr) (vs:List V) (H:Hp) (Q:VK) (E:XK):Prop
 |mk:∀(p:Addr) (v:V) (o:Option (Xb)) (hs:Xa) (ts:Xb) (fp:List Addr),vs=[.ref p,v]->bD' K C H p hs ts fp->Good hs ts->WyAt K H v o->(∀ws,o=some ws->cn' ts ws)->(∀v' H',Same H H'->WyAt K H' v' (o.map tsOf)->(∀a,v'=.ref a->H a=none)->Q v' H')->dZ' K C vs H Q E
theorem jI_{C:Addr}(F:Fun K "checked_ways" "checked_ways" eM' f fd)(T:Txt K mg C)(cS:Cal P w K mg base 3 "sorted_ties" ["ties"] (cy' K))(cT:CalM P w K mg base C 2 "are_tied" ["self","one","other"] (de' K C)):FnOk P w K mg base CX0 4 f fd ["web","ways"] (dZ' K C):=by
 refine F.okA b5' λcdv A outer s H vs Q E hr h=>?_
 ·obtain⟨p,v,o,hs,ts,fp,rfl,W,G,wy,gw,k⟩:=h;have hu:=br_ hr;have hr2:Room 2 _:=hr.mono (by decide)
  refine⟨_,a3_ (aw_ (bg_ (cT_ (pv 1))) (a5_ (ae_ dc_)) aa_)
   (a3_ (ao_ 2 b5'.nd (al_ cS hr (a0_ (pv 1) a2_)))
   (a3_ (aw_ (bg_ (cT_ (pv 2))) ac_ aa_)
   (a3_ (b3_ b_7 rfl (ah_ (pv 2)) (ch_ rfl (ai_ (b5_ 3 b5'.nd) (ai_ (b5_ 4 b5'.nd) b4_)))
    (a5_ (aw_ (aH_ (aK_ (dj_ cT T.cl hr2 (pv 0) (a0_ (pv 3) (a0_ (pv 4) a2_))))) ac_ aa_)))
   (a5_ (ae_ (pv 2)))))),?_⟩
  cases o with
  |none=>
   cases (show v=.non from wy);exact⟨_,rfl,_,rfl,iteT (k .non H (Same.refl H) rfl (λa z=>by cases z))⟩
  |some ws=>
   obtain⟨a,ys,rfl,ha,tu⟩:=wy;have Wo:=gw ws rfl;refine⟨_,rfl,_,rfl,iteF ?_⟩;refine⟨_,rfl,a,ys,ws,rfl,ha,tu,Wo.good,Wo.nd,by have:=Wo.len;have:=G.t64;omega,λl' zs H1 s1 hf hl1 tz=>?_⟩;refine⟨_,rfl,_,rfl,iteF ?_⟩;have W1:=W.same s1;obtain⟨dx,d1,l2,d3,zs0,as,rfl,h1,h2,h3,h4,h5,h6,h7⟩:=id W1.ex;have hno:(flds d1 l2 d3).lookup ("are_tied":Str)=none:=c4_ _ _ _ Z0 Z0 Z0;rw[<- ba_] at tz;refine⟨_,rfl,l',rfl,⟨_,.of hl1⟩,aV_ (K:=K) (a:=l') (xs:=zs) (λi σ H2=>∃(v3 v4:Option V),σ=[some (.ref p),some (.ref a),some (.ref l'),v3,v4]/\H2=H1) ⟨none,none,rfl,rfl⟩ (λi σ H2 _ ⟨_,_,_,e⟩=>by subst e;exact .of hl1) ?_ ?_⟩
   ·rintro i y σ H2 hy ⟨v3,v4,rfl,rfl⟩;obtain⟨t,ht,q,rfl,hq⟩:=aJ_ tz hy;refine⟨q,_,rfl,.of (hpT hq),rfl,_,_,rfl,_,_,rfl,rfl,?_⟩;refine⟨_,rfl,p,dx,_,rfl,h1,hno,_,rfl,_,rfl,p,_,_,some t.1,some t.2,hs,ts,_,rfl,W1,G.nnd,rfl,rfl,_,rfl,?_⟩;rw[jg_ G Wo (ad' ht)];refine iteF ?_;exact⟨_,_,rfl,rfl⟩
   ·rintro σ H2 ⟨v3,v4,rfl,rfl⟩;exact⟨_,rfl,k (.ref l') _ s1 ⟨l',zs,rfl,hl1,tz⟩ (λc z=>by cases z;exact hf)⟩
def nrm(p:Pc):Pc:=(p.1,p.2.1,p.2.2.map tsOf)
def cV'(K:F__)(H0 H:Hp)(y:V)(p:Pc):Prop:=∃t v,y=.ref t/\H t=some (.tup [.str p.1,.int p.2.1,v])/\WyAt K H v p.2.2/\∀a,v=.ref a->H0 a=none
theorem cV'.same{K:F__}{H:Hp}{y:V}{p:Pc}(h:cV' K H0 H y p)(s:Same H H'):cV' K H0 H' y p:=by
 obtain⟨t,v,e,ht,hv,hn⟩:=h;exact⟨t,v,e,s _ _ ht,hv.same s,hn⟩
theorem WyAt.up{K:F__}{H:Hp}(h:WyAt K H v o)(n1:∀xs,H D≠some (.lst xs))(n2:∀xs,H D≠some (.tup xs)):WyAt K (upd H D u) v o:=by
 cases o with
 |none=>exact h
 |some ws=>
  obtain⟨a,ys,e,ha,t⟩:=h;exact⟨a,ys,e,by rw[a8_ (λz:a=D=>n1 ys (z▸ha))];exact ha,Paired.mapP t λy k ⟨b,z,q⟩=>⟨b,z,by rw[a8_ (λz:b=D=>n2 _ (z▸q))];exact q⟩⟩
theorem cV'.up{K:F__}{H:Hp}{y:V}{p:Pc}(h:cV' K H0 H y p)(n1:∀xs,H D≠some (.lst xs))(n2:∀xs,H D≠some (.tup xs)):cV' K H0 (upd H D u) y p:=by
 obtain⟨t,v,e,ht,hv,hn⟩:=h;exact⟨t,v,e,by rw[a8_ (λz:t=D=>n2 _ (z▸ht))];exact ht,hv.up n1 n2,hn⟩
theorem ev_{ps:List Pc}{cs:List V}(nd:(ps.map (·.1)).Nodup)(hl:cs.length=ps.length):∀{j:Nat} {q:Pc} {c:V},ps[j]? = some q->cs[j]? = some c->valV ((ps.zip cs).map λq=>((Sum.inr q.1.1:Key),q.2)) (Sum.inr q.1)=some c:=by
 induction ps generalizing cs with
 |nil=>
  intro j q c h;simp at h
 |cons p ps ih=>
  intro j q c h1 h2;cases cs with
  |nil=>cases hl
  |cons b cs=>
   rw[au'] at nd;obtain⟨n1,n2⟩:=aX'.mp nd;cases j with
   |zero=>
    have e1:p=q:=by simpa using h1
    have e2:b=c:=by simpa using h2
    subst e1 e2;exact ca_ rfl
   |succ j=>
    have h1:ps[j]? = some q:=by simpa using h1
    have h2:cs[j]? = some c:=by simpa using h2
    show valV ((Sum.inr p.1,b)::((ps.zip cs).map λq=>((Sum.inr q.1.1:Key),q.2))) (Sum.inr q.1)=_;rw[c3_ λe=>n1 (by rw[show p.1=q.1 from d__ e];exact ac'.mpr ⟨q,ad' h1,rfl⟩)];exact ih n2 (by simpa using hl) h1 h2
theorem eI':ba' ["web","piece"] ["web","piece"] (a9' dM'):=f__
inductive cD' (K:F__) (C:Addr) (vs:List V) (H:Hp) (Q:VK) (E:XK):Prop
 |mk:∀(p:Addr) (y:V) (q:Pc) (hs:Xa) (ts:Xb) (fp:List Addr),vs=[.ref p,y]->bD' K C H p hs ts fp->Good hs ts->PcAt K H y q->bV' ts q->(∀y' H',Same H H'->cV' K H H' y' (nrm q)->Q y' H')->cD' K C vs H Q E
theorem f9_{C:Addr}(F:Fun K "checked_piece" "checked_piece" dM' f fd)(B:Bi mg)(cN:Cal P w K mg base 1 "is_name" ["thing"] da')(cW:Cal P w K mg base 2 "is_whole_within" ["thing","least","most"] dh')(cC:Cal P w K mg base 4 "checked_ways" ["web","ways"] (dZ' K C)){tk:Tok}(mW:mg "MOST_WEIGHT"=some (.int 1000000000 tk)) :
  FnOk P w K mg base CX0 5 f fd ["web","piece"] (cD' K C):=by
 refine F.okA eI' λcdv A outer s H vs Q E hr h=>?_
 ·obtain⟨p,y,q,hs,ts,fp,rfl,W,G,⟨t,v,rfl,ht,wy⟩,gp,k⟩:=h;have hr1:Room 1 _:=hr.mono (by decide);have hr2:Room 2 _:=hr.mono (by decide)
  refine⟨_,a3_ (aw_ (e5_ (aH_ (aK_ (a7_ aQ_ (by rfl) B.isi ab_ (a0_ (pv 1) (a0_ (b1_ (v:=.ty "tuple") (by rfl) B.tuple bK_ rfl) a2_)))))
    (cz_ (ar_ e6_ (a7_ ak_ (by rfl) B.len b_3 (a0_ (pv 1) a2_)) a4_ (nomark _)))).pt ac_ aa_)
   (a3_ (aw_ (aH_ (aK_ (al_ cN hr1 (a0_ (aj_ aO_ (pv 1) a4_ (λ_ _=>rfl)) a2_)))) ac_ aa_)
   (a3_ (aw_ (aH_ (aK_ (al_ cW hr2 (a0_ (aj_ aO_ (pv 1) a4_ (λ_ _=>rfl)) (a0_ a4_ (a0_ (bd_ (v:=.int 1000000000) (by rfl) mW ⟨tk,rfl⟩) a2_)))))) ac_ aa_)
   (a5_ (ae_ (b9_ (a0_ (aj_ aO_ (pv 1) a4_ (λ_ _=>rfl)) (a0_ (aj_ aO_ (pv 1) a4_ (λ_ _=>rfl)) (a0_ (al_ cC hr (a0_ (pv 0) (a0_ (aj_ aO_ (pv 1) a4_ (λ_ _=>rfl)) a2_))) a2_)))))))),?_⟩
  refine⟨_,rfl,_,_,_,_,rfl,.tup ht,rfl,_,rfl,iteF ?_⟩;refine⟨_,rfl,t,_,rfl,.inr (.of ht),rfl,_,rfl,?_⟩;refine iteNS (show V.int ((3:Nat):Int)=V.int 3 from rfl) ?_;refine⟨_,rfl,t,_,_,_,rfl,rfl,.of ht,rfl,q.1,rfl,by have:=ag_ gp.nm;omega,λH1 s1=>⟨_,rfl,?_⟩⟩;rw[gp.nm];refine iteF ?_;have ht1:=s1 _ _ ht;refine⟨_,rfl,t,_,_,_,rfl,rfl,.of ht1,rfl,q.2.1,1,1000000000,rfl,_,rfl,?_⟩;rw[a_5 gp.w1,a_5 gp.w2];refine iteF ?_;refine⟨_,rfl,t,_,_,_,rfl,rfl,.of ht1,rfl,_,rfl,t,_,_,_,rfl,rfl,.of ht1,rfl,_,rfl,_,rfl,t,_,_,_,rfl,rfl,.of ht1,rfl,p,v,q.2.2,hs,ts,fp,rfl,W.same s1,G,wy.same s1,gp.ws,λv' H2 s2 wy2 hf=>?_⟩;refine⟨by show 3<=sizeLine;decide,λt' ht'=>?_⟩;exact k (.ref t') _ (s1.trans (s2.trans (Same.new ht'))) ⟨t',v',rfl,a1_,wy2.same (Same.new ht'),λa z=>s1.free (hf a z)⟩
theorem bF':ba' ["web","pieces","found","piece","checked"] ["web","pieces"] (a9' cZ'):=f__
structure Qs (ps qs:List Pc):Prop where
 nms:qs.map (·.1)=bL' (ps.map (·.1))
 mem:∀q∈qs,∃p∈ps,q=nrm p
inductive cx' (K:F__) (C:Addr) (vs:List V) (H:Hp) (Q:VK) (E:XK):Prop
 |mk:∀(p l:Addr) (ys:List V) (ps:List Pc) (hs:Xa) (ts:Xb) (fp:List Addr),vs=[.ref p,.ref l]->bD' K C H p hs ts fp->Good hs ts->H l=some (.lst ys)->b0' K H ys ps->(∀q∈ps,bV' ts q)->(ps.map (·.1)).Nodup->ps.length<64->(∀l' zs qs H',Same H H'->H' l'=some (.lst zs)->Paired (cV' K H H') zs qs->Qs ps qs->Q (.ref l') H')->cx' K C vs H Q E
theorem nw__{H:Hp}{a:Addr}{o:HO}(n:H a=none):Same H (upd H a o)/\upd H a o a=some o:=⟨Same.new n,a1_⟩
theorem gY_{C:Addr}(F:Fun K "checked_pieces" "checked_pieces" cZ' f fd)(B:Bi mg)(cP:Cal P w K mg base 5 "checked_piece" ["web","piece"] (cD' K C)):FnOk P w K mg base CX0 6 f fd ["web","pieces"] (cx' K C):=by
 refine F.okA bF' λcdv A outer s H vs Q E hr h=>?_
 ·obtain⟨p,l,ys,ps,hs,ts,fp,rfl,W,G,hl,pc,gp,nd,h64,k⟩:=h;have hu:=br_ hr;have sz:=b__;have le:=a_1 pc
  refine⟨_,a3_ (aw_ (aH_ (aK_ (a7_ aQ_ (by rfl) B.isi ab_ (a0_ (pv 1) (a0_ (b1_ (v:=.ty "list") (by rfl) B.list bm_ rfl) a2_))))) ac_ aa_)
   (a3_ (ao_ 2 bF'.nd bM_)
   (a3_ (b3_ b_7 rfl (ah_ (pv 1)) (b5_ 3 bF'.nd)
    (a3_ (ao_ 4 bF'.nd (al_ cP hr (a0_ (pv 0) (a0_ (pv 3) a2_))))
    (a3_ (aw_ (bg_ (cX_ hu (aj_ aO_ (pv 4) a4_ (λ_ _=>rfl)) (pv 2))) ac_ aa_)
    (a5_ (c0_ hu (pv 2) (aj_ aO_ (pv 4) a4_ (λ_ _=>rfl)) (pv 4) rfl)))))
   (a5_ (ae_ (aR_ ["name","found"] 1 [2] (ah_ (a7_ (ga_ rfl) (by rfl) B.sorted b8_ (a0_ (pv 2) a2_))) (λfp s H=>aY_ 0) (λfp s H=>aT_)
    (λfp s H=>cg_ hu (pv 1) (pv 0) (λ_ _=>rfl))))))),?_⟩
  refine⟨_,rfl,_,_,_,_,rfl,.lst hl,rfl,_,rfl,iteF ?_⟩;intro d hd;have s0:Same H (upd H d (.dK [])):=Same.new hd;refine⟨_,rfl,l,rfl,⟨_,.of (s0 _ _ hl)⟩,aV_ (K:=K) (a:=l) (xs:=ys) (λi σ H2=>∃(v3 v4:Option V) (cs:List V),σ=[some (.ref p),some (.ref l),some (.ref d),v3,v4]/\Same H H2/\Paired (cV' K H H2) cs ((ps.take i).map nrm)/\H2 d=some (.dK (((ps.take i).zip cs).map λq=>(Sum.inr q.1.1,q.2)))) ⟨none,none,[],rfl,s0,.nil,a1_⟩ (λi σ H2 _ ⟨_,_,_,_,s2,_⟩=>.of (s2 _ _ hl)) ?_ ?_⟩
  ·rintro i y σ H2 hy ⟨v3,v4,cs,rfl,s2,pn,hd2⟩;have hi:i<ys.length:=(ab'.mp hy).1;have hq:ps[i]? = some (ps[i]' Z1):=ae' Z1;have py:=aA_ pc i hi Z1;rw[(ab'.mp hy).2] at py;generalize ps[i]' Z1=q at hq py;refine⟨_,rfl,_,rfl,p,y,q,hs,ts,fp,rfl,W.same s2,G,py.same s2,gp q (ad' hq),λy' H3 s3 pw=>?_⟩;obtain⟨t,v,rfl,ht,wy,hf⟩:=pw;have hd3:=s3 _ _ hd2;have lc:=a_1 pn;rw[aa',af'] at lc
   have keys:((((ps.take i).zip cs).map λq=>((Sum.inr q.1.1:Key),q.2)).map (·.1))=((ps.take i).map (·.1)).map Sum.inr:=by
    rw[ao'];have:((λx:Key × V=>x.1) ∘ λq:Pc × V=>((Sum.inr q.1.1:Key),q.2))=(λp:Pc=>(Sum.inr p.1:Key)) ∘ Prod.fst:=rfl;rw[this,<- ao',List.map_fst_zip (by rw[af'];omega),ao'];rfl
   have nov:valV (((ps.take i).zip cs).map λq=>((Sum.inr q.1.1:Key),q.2)) (Sum.inr q.1)=none:=aP_ (by
    rw[keys];intro m;obtain⟨x,hx,e⟩:=ac'.mp m;cases e;exact bz_ (g:=λp:Pc=>p.1) nd hq hx)
   refine⟨_,rfl,t,_,_,_,rfl,rfl,.of ht,rfl,_,rfl,d,_,rfl,.k (k:=Sum.inr q.1) hd3,_,rfl,?_⟩;rw[nov];refine iteF ?_;refine⟨_,rfl,_,rfl,_,rfl,t,_,_,_,rfl,rfl,.of ht,rfl,d,_,rfl,.k (k:=Sum.inr q.1) hd3 (by rw[aa',List.length_zip,af'];omega),?_⟩;have s23:=s2.trans s3;have n1:∀xs,H3 d≠some (.lst xs):=λxs z=>by rw[hd3] at z;cases z
   have n2:∀xs,H3 d≠some (.tup xs):=λxs z=>by rw[hd3] at z;cases z
   refine⟨_,_,cs++[.ref t],rfl,λc o e=>?_,?_,?_⟩
   ·rw[a8_ (a6_ e hd)];exact s23 _ _ e
   ·rw[aH',hq,ag'];exact aN_ (Paired.mapP pn λy q h=>(h.same s3).up n1 n2) (.cons (cV'.up ⟨t,v,rfl,ht,wy,λa z=>s2.free (hf a z)⟩ n1 n2) .nil)
   ·rw[a1_,bw_ _ nov,aH',hq,List.zip_append (by rw[af'];omega),ag'];rfl
  ·rintro σ H2 ⟨v3,v4,cs,rfl,s2,pn,hd2⟩;rw[le,an'] at pn hd2;have lc:=a_1 pn;rw[aa'] at lc
   have keys:(((ps.zip cs).map λq=>((Sum.inr q.1.1:Key),q.2)).map (·.1))=(ps.map (·.1)).map Sum.inr:=by
    rw[ao'];have:((λx:Key × V=>x.1) ∘ λq:Pc × V=>((Sum.inr q.1.1:Key),q.2))=(λp:Pc=>(Sum.inr p.1:Key)) ∘ Prod.fst:=rfl;rw[this,<- ao',List.map_fst_zip Z1,ao'];rfl
   refine⟨_,rfl,d,_,ps.map (·.1),rfl,hd2,keys,by rw[aa'];exact h64,λls hls=>?_⟩;obtain⟨s3,hl3⟩:=nw__ (o:=.lst ((bL' (ps.map (·.1))).map V.str)) hls;refine⟨ls,rfl,⟨_,.of hl3⟩,λD hD=>?_⟩;generalize upd H2 ls (.lst ((bL' (ps.map (·.1))).map V.str))=H3 at s3 hl3 hD ⊢;have lss:(bL' (ps.map (·.1))).length=ps.length:=by rw[(aG_ _).length_eq,aa']
   refine an_ (own:=1) (fv:=[some (.ref d)]) (xs:=(bL' (ps.map (·.1))).map V.str) rfl gok1 (λi out H'=>∃qs:List Pc,Same H3 H'/\H' D=some (.lst out)/\Paired (cV' K H H2) out qs/\qs.map (·.1)=(bL' (ps.map (·.1))).take i/\∀q∈qs,∃p∈ps,q=nrm p) ⟨[],Same.new hD,a1_,.nil,rfl,by simp⟩ (λi out H' _ ⟨_,sm,_⟩=>.of (sm _ _ hl3)) (λzs H4 ⟨qs,s4,hD4,pq,en,mem⟩=>?_) (λi x out H' hx ⟨qs,sm,hD',pq,en,mem⟩=>?_)
   ·rw[aa',an'] at en;exact k D zs qs H4 (s2.trans (s3.trans s4)) hD4 (Paired.mapP pq λy q h=>h.same (s3.trans s4)) ⟨en,mem⟩
   ·obtain⟨n,hn,rfl⟩:=aF_ hx;have hm:n∈ps.map (·.1):=(aG_ _).mem_iff.mp (ad' hn);obtain⟨q,hq,eq⟩:=ac'.mp hm;obtain⟨j,hj,ej⟩:=aG' hq;have hqj:ps[j]? = some q:=by rw[ae' hj,ej]
    have hcj:cs[j]? = some (cs[j]' Z1):=ae' Z1;have hv:=ev_ nd lc hqj hcj;have pj:=aA_ pn j Z1 (by rw[aa'];omega);rw[List.getElem_map,ej] at pj;generalize cs[j]' Z1=c at hcj hv pj;rw[eq] at hv;have lo:=a_1 pq;have lq:=c_1 List.length en;rw[aa',af'] at lq;have hi:i<(bL' (ps.map (·.1))).length:=(ab'.mp hn).1;refine⟨_,rfl,rfl,λNx hN=>yesT ?_⟩;refine⟨_,rfl,_,rfl,d,c,rfl,?_,out,hD',by omega,hN _ _ ⟨qs++[nrm q],aB_ sm hD,a1_,?_,?_,?_⟩⟩
    ·rw[<- hv];exact .k (k:=Sum.inr n) (sm _ _ (s3 _ _ hd2))
    ·exact aN_ pq (.cons pj .nil)
    ·rw[ag',en,aH',hn,<- eq];rfl
    ·intro q' hq';rcases am'.mp hq' with hq'|hq'
     ·exact mem q' hq'
     ·obtain rfl:q'=nrm q:=by simpa using hq'
      exact⟨q,hq,rfl⟩
end
abbrev eF':Stmt:=bK' ed' 0
abbrev sGHas:Stmt:=bK' ed' 1
abbrev ey':Stmt:=bK' ed' 2
abbrev dH':Stmt:=bK' ed' 3
abbrev sGWays:Stmt:=bK' ed' 4
def gflds(p dw dy:Addr):List (Str × V):=putF "ways_by_name" (.ref dy) (putF "weight_by_name" (.ref dw) (putF "web" (.ref p) []))
theorem g12:¬(("web":Str)="weight_by_name"):=by decide +kernel
theorem g13:¬(("web":Str)="ways_by_name"):=by decide +kernel
theorem g23:¬(("weight_by_name":Str)="ways_by_name"):=by decide +kernel
theorem gc_(p dw dy:Addr):(gflds p dw dy).lookup ("web":Str)=some (.ref p):=by
 unfold gflds;rw[au_,a_8 g13,au_,a_8 g12,au_,b_0 rfl]
theorem ge_(p dw dy:Addr):(gflds p dw dy).lookup ("weight_by_name":Str)=some (.ref dw):=by
 unfold gflds;rw[au_,a_8 g23,au_,b_0 rfl]
theorem ky_(p dw dy:Addr):(gflds p dw dy).lookup ("ways_by_name":Str)=some (.ref dy):=by
 unfold gflds;rw[au_,b_0 rfl]
theorem by_(p dw dy:Addr){m:Str}(h1:¬m="web")(h2:¬m="weight_by_name")(h3:¬m="ways_by_name"):(gflds p dw dy).lookup m=none:=by
 unfold gflds;rw[au_,a_8 h3,au_,a_8 h2,au_,a_8 h1]
 all_goals rfl
def wKV(qs:List Pc):List (Key × V):=qs.map λq=>(Sum.inr q.1,V.int q.2.1)
def yKV(qs:List Pc)(vs:List V):List (Key × V):=(qs.zip vs).map λx=>(Sum.inr x.1.1,x.2)
theorem gl_(qs:List Pc):(wKV qs).map (·.1)=(qs.map (·.1)).map Sum.inr:=by
 unfold wKV;rw[ao',ao'];rfl
variable{qs:List Pc}
theorem jG_{vs:List V}(h:vs.length=qs.length):(yKV qs vs).map (·.1)=(qs.map (·.1)).map Sum.inr:=by
 unfold yKV;rw[ao'];have:((λx:Key × V=>x.1) ∘ λq:Pc × V=>((Sum.inr q.1.1:Key),q.2))=(λp:Pc=>(Sum.inr p.1:Key)) ∘ Prod.fst:=rfl;rw[this,<- ao',List.map_fst_zip Z1,ao'];rfl
structure bh' (K:F__) (CG CW:Addr) (H:Hp) (g p:Addr) (hs:Xa) (ts:Xb) (qs:List Pc) (fp:List Addr):Prop where
 ex:∃(dx dw dy:Addr) (vs:List V) (fpw:List Addr),H g=some (.ins CG dx (gflds p dw dy))/\bD' K CW H p hs ts fpw/\H dw=some (.dK (wKV qs))/\H dy=some (.dK (yKV qs vs))/\Paired (λv (q:Pc)=>WyAt K H v q.2.2) vs qs /\
  g∈fp/\dw∈fp/\dy∈fp/\(∀b∈fpw,b∈fp)/\∀v∈vs,∀a,v=.ref a->a∈fp
theorem cD_{α β:Type}{F G:α->β->Prop}:∀{l:List α} {m:List β},Paired F l m->(∀a∈l,∀b,F a b->G a b)->Paired G l m
 |_,_,.nil,_=>.nil
 |_,_,.cons h t,f=>.cons (f _ aq' _ h) (cD_ t λa ha=>f a (ai' _ ha))
theorem WyAt.keep{K:F__}{H:Hp}(h:WyAt K H v o)(k:∀a,v=.ref a->∀u,H a=some u->H' a=some u)(kt:∀b xs,H b=some (.tup xs)->H' b=some (.tup xs)):WyAt K H' v o:=by
 cases o with
 |none=>exact h
 |some ws=>
  obtain⟨a,ys,e,ha,t⟩:=h;exact⟨a,ys,e,k a e _ ha,Paired.mapP t λy q ⟨b,z,hb⟩=>⟨b,z,kt _ _ hb⟩⟩
variable{fp:List Addr}
theorem bh'.keep{K:F__}{CG CW:Addr}{H:Hp}{g p:Addr}{hs:Xa}{ts:Xb}(G:bh' K CG CW H g p hs ts qs fp)(k:∀b∈fp,∀o,H b=some o->H' b=some o)(kt:∀b xs,H b=some (.tup xs)->H' b=some (.tup xs)):bh' K CG CW H' g p hs ts qs fp:=by
 obtain⟨dx,dw,dy,vs,fpw,h1,h2,h3,h4,h5,m1,m2,m3,m4,m5⟩:=G.ex;exact⟨dx,dw,dy,vs,fpw,k _ m1 _ h1,h2.keep (λb hb o e=>k b (m4 b hb) o e) kt,k _ m2 _ h3,k _ m3 _ h4,cD_ h5 λv hv q h=>h.keep (λa z u e=>k a (m5 v hv a z) u e) kt,m1,m2,m3,m4,m5⟩
theorem bh'.same{K:F__}{CG CW:Addr}{H:Hp}{g p:Addr}{hs:Xa}{ts:Xb}(G:bh' K CG CW H g p hs ts qs fp)(s:Same H H'):bh' K CG CW H' g p hs ts qs fp:=G.keep (λb _ o e=>s b o e) λb xs e=>s b _ e
structure TxtG (K:F__) (CG:Addr):Prop where
 cl:Cls K CG
 nW:b2' K CG "web"
 nG:b2' K CG "weight_by_name"
 nY:b2' K CG "ways_by_name"
structure InsK (K:F__) (C:Addr):Prop where
 ha:PySem.W.findIn K (.ref C) "__class__"=some (some (.builtin "object.__class__"))
 hn:PySem.W.specialIn K (.builtin "object.__class__") "__get__"=some (some (.builtin "getset_descriptor.__get__"))
 tk:PySem.W.takesIn K (.builtin "object.__class__")=some true
 mo:PySem.W.mroIn K C (.type "object")=some true
theorem gh_(K:F__)(c:Aa):PySem.W.kitOne K c c=some true:=by
 unfold PySem.W.kitOne;rw[b_0 (beq_self_eq_true c)]
theorem gn_{K:F__}{H0 H:Hp}:∀{zs:List V} {qs:List Pc},Paired (cV' K H0 H) zs qs->∃vs:List V,vs.length=qs.length/\Paired (λz (x:Pc × V)=>∃t,z=.ref t/\H t=some (.tup [.str x.1.1,.int x.1.2.1,x.2])) zs (qs.zip vs)/\Paired (λv (q:Pc)=>WyAt K H v q.2.2) vs qs/\∀v∈vs,∀a,v=.ref a->H0 a=none
 |_,_,.nil=>⟨[],rfl,.nil,.nil,by simp⟩
 |_,_,.cons ⟨t,v,e,ht,wy,hn⟩ r=>by
  obtain⟨vs,h1,h2,h3,h4⟩:=gn_ r;refine⟨v::vs,by simp[h1],.cons ⟨t,e,ht⟩ h2,.cons wy h3,λu hu=>?_⟩;rcases ah'.mp hu with rfl|hu
  ·exact hn
  ·exact h4 u hu
theorem gC_{K:F__}{l:Addr}{zs:List V}{xs:List (Pc × V)}{H:Hp}{Q:VK}{σ0:St}{j:Nat}(sel:Pc × V->V)(hj:∀x:Pc × V,[some (V.str x.1.1),some (V.int x.1.2.1),some x.2][j]? = some (some (sel x)))(hσ:σ0=[none,none,none])(hl:H l=some (.lst zs))(pz:Paired (λz (x:Pc × V)=>∃t,z=.ref t/\H t=some (.tup [.str x.1.1,.int x.1.2.1,x.2])) zs xs)(h1000:xs.length<=1000)(hD:H D=none)(q:∀H' out,Same H H'->H' D=some (.lst out)->bE' K H' out (xs.map λx=>(Sum.inr x.1.1,sel x))->Q (.ref D) H') :
  CompW (Itl K l) (gTup K 3 (dr' (bR' 0) (dr' (bR' 1) (dr' (bR' 2) gNil)))) tYes (tTup (bI' (tVar 0) (bI' (tVar j) tNil))) σ0 D H Q:=by
 have sz:=b__;have le:=a_1 pz;refine an_ (own:=3) (fv:=[]) (xs:=zs) hσ gok3 (λi out H'=>Same H H'/\H' D=some (.lst out)/\bE' K H' out ((xs.take i).map λx=>(Sum.inr x.1.1,sel x))) ⟨Same.new hD,a1_,.nil⟩ (λi out H' _ ⟨sm,_,_⟩=>.of (sm _ _ hl)) (λout H4 ⟨sm,hD4,eo⟩=>?_) (λi y out H' hy ⟨sm,hD',eo⟩=>?_)
 ·rw[le,an'] at eo;exact q _ _ sm hD4 eo
 ·have hi:i<zs.length:=(ab'.mp hy).1;have hx:xs[i]? = some (xs[i]' Z1):=ae' Z1;obtain⟨t,et,ht⟩:=aA_ pz i hi Z1;rw[(ab'.mp hy).2] at et;subst et;generalize xs[i]' Z1=x at hx ht;have lo:=a_1 eo;rw[aa',af'] at lo;refine⟨_,⟨t,_,_,_,rfl,.of (sm _ _ ht),rfl⟩,rfl,λNx hN=>yesT ?_⟩;refine⟨_,rfl,_,hj x,by show 2<=sizeLine;decide,λp hp=>?_⟩;have s2:=Same.new (o:=.tup [.str x.1.1,sel x]) hp;refine⟨out,s2 _ _ hD',by omega,hN _ _ ⟨aB_ (sm.trans s2) hD,a1_,?_⟩⟩;rw[aq_ _ hx];have pD:∀{b:Addr} {ys:List V},upd H' p (.tup [.str x.1.1,sel x]) b=some (.tup ys)->b≠D:=λhb=>be_ hb (s2 _ _ hD') nofun;refine aN_ (Paired.mapP eo λy kv ⟨b,z,hb⟩=>⟨b,z,by rw[a8_ (pD (s2 _ _ hb))];exact s2 _ _ hb⟩) (.cons ⟨p,rfl,?_⟩ .nil);have hp2:upd H' p (.tup [.str x.1.1,sel x]) p=some (.tup [.str x.1.1,sel x]):=a1_;rw[a8_ (pD hp2)];exact hp2
section
variable{P:Ae}{w:Ag}{K:F__}{mg:Str->Option Aa}{base:Heap}
theorem dV':ba' ["self","web","pieces","checked"] ["self","web","pieces"] (a9' eF'):=f__
inductive dS' (K:F__) (CG CW:Addr) (vs:List V) (H:Hp) (Q:VK) (E:XK):Prop
 |mk:∀(g dx p l:Addr) (ys:List V) (ps:List Pc) (hs:Xa) (ts:Xb) (fpw:List Addr),vs=[.ref g,.ref p,.ref l]->H g=some (.ins CG dx [])->bD' K CW H p hs ts fpw->g∉fpw->Good hs ts->H l=some (.lst ys)->b0' K H ys ps->(∀q∈ps,bV' ts q)->(ps.map (·.1)).Nodup->ps.length<64->(∀qs fp H',(∀b o,H b=some o->b≠g->H' b=some o)->bh' K CG CW H' g p hs ts qs fp->Qs ps qs->(∀b∈fp,b=g∨b∈fpw∨H b=none)->Q .non H')->dS' K CG CW vs H Q E
theorem jT_{CG CW:Addr}(F:Fun K "__init__" "Goods.__init__" eF' f fd)(T:TxtG K CG)(TW:Txt K mg CW)(IW:InsK K CW)(B:Bi mg)(mWeb:mg "Web"=some (.ref CW))(cP:Cal P w K mg base 6 "checked_pieces" ["web","pieces"] (cx' K CW)):FnOk P w K mg base CX0 7 f fd ["self","web","pieces"] (dS' K CG CW):=by
 refine F.okA dV' λcdv A outer s H vs Q E hr h=>?_
 ·obtain⟨g,dx,p,l,ys,ps,hs,ts,fpw,rfl,hg,W,gw,G,hl,pc,gp,nd,h64,k⟩:=h
  refine⟨_,a3_ (aw_ (aH_ (aK_ (a7_ fn_ (by rfl) B.isi ab_ (a0_ (pv 1) (a0_ (bd_ (v:=.ref CW) (by rfl) mWeb rfl) a2_))))) ac_ aa_)
   (a3_ (ao_ 3 dV'.nd (al_ cP hr (a0_ (pv 1) (a0_ (pv 2) a2_))))
   (a3_ (ep_ (pv 0) (pv 1) rfl)
   (a3_ (ep_ (pv 0) (ax_ (bk_ rfl) (by rfl) B.dict cd_ (a0_ (aR_ ["name","weight","ways"] 3 [] (ah_ (pv 3)) (λfp s H=>c2_ (n:=3) (ai_ (aY_ 0) (ai_ (aY_ 1) (ai_ (aY_ 2) b4_)))) (λfp s H=>aT_) (λfp s H=>b9_ (a0_ (pv 0) (a0_ (pv 1) a2_)))) a2_)) rfl)
   (a5_ (ep_ (pv 0) (ax_ (bk_ rfl) (by rfl) B.dict cd_ (a0_ (aR_ ["name","weight","ways"] 3 [] (ah_ (pv 3)) (λfp s H=>c2_ (n:=3) (ai_ (aY_ 0) (ai_ (aY_ 1) (ai_ (aY_ 2) b4_)))) (λfp s H=>aT_) (λfp s H=>b9_ (a0_ (pv 0) (a0_ (pv 2) a2_)))) a2_)) rfl))))),?_⟩
  obtain⟨dxw,d1,l2,d3,zs0,as,ef,w1,_⟩:=id W.ex;refine⟨_,rfl,_,_,_,_,rfl,.ins w1 TW.cl IW.ha IW.hn IW.tk IW.mo,gh_ _ _,_,rfl,iteF ?_⟩;refine⟨_,rfl,_,rfl,p,l,ys,ps,hs,ts,fpw,rfl,W,G,hl,pc,gp,nd,h64,λlc zs qs H1 s1 hlc pn Qq=>?_⟩;obtain⟨vs,lv,pz,wys,vnew⟩:=gn_ pn;have hg1:=s1 _ _ hg
  have lq:qs.length=ps.length:=by
   have:=c_1 List.length Qq.nms;rw[aa',(aG_ _).length_eq,aa'] at this;exact this
  have qnd:(qs.map (·.1)).Nodup:=by
   rw[Qq.nms];exact (aG_ _).nodup_iff.mpr nd
  refine⟨_,rfl,_,rfl,g,CG,dx,[],rfl,hg1,T.cl,T.nW,by show 0<1000;decide,?_⟩;have up1:∀{b o},H1 b=some o->b≠g->upd H1 g (.ins CG dx (putF "web" (.ref p) [])) b=some o:=λe ne=>by rw[a8_ ne];exact e
  have hg2:upd H1 g (.ins CG dx (putF "web" (.ref p) [])) g=some (.ins CG dx (putF "web" (.ref p) [])):=a1_
  have fr1:∀{b},upd H1 g (.ins CG dx (putF "web" (.ref p) [])) b=none->H1 b=none:=λ{b} e=>by
   by_cases z:b=g
   ·rw[z,a1_] at e;cases e
   ·rw[a8_ z] at e;exact e
  generalize upd H1 g (.ins CG dx (putF "web" (.ref p) []))=H2 at up1 hg2 fr1 ⊢;have lcg:lc≠g:=be_ hlc hg1 nofun;have pz2:Paired (λz (x:Pc × V)=>∃t,z=.ref t/\H2 t=some (.tup [.str x.1.1,.int x.1.2.1,x.2])) zs (qs.zip vs):=Paired.mapP pz λz x ⟨t,e,ht⟩=>⟨t,e,up1 ht (be_ ht hg1 nofun)⟩;have z1000:(qs.zip vs).length<=1000:=by rw[List.length_zip];omega
  refine⟨_,rfl,lc,rfl,⟨_,.of (up1 hlc lcg)⟩,λD hD=>?_⟩;refine gC_ (λx=>.int x.1.2.1) (λx=>rfl) rfl (up1 hlc lcg) pz2 z1000 hD λH3 out s3 hD3 pa3=>?_;refine⟨D,out,_,rfl,hD3,pa3,by rw[aa'];exact z1000,λdw hdw=>?_⟩
  have ekv:((qs.zip vs).map λx:Pc × V=>((Sum.inr x.1.1:Key),V.int x.1.2.1))=wKV qs:=by
   unfold wKV;have:(λx:Pc × V=>((Sum.inr x.1.1:Key),V.int x.1.2.1))=(λq:Pc=>((Sum.inr q.1:Key),V.int q.2.1)) ∘ Prod.fst:=rfl;rw[this,<- ao',List.map_fst_zip Z1]
  have ndk:(qs.map (·.1)).map (Sum.inr:Str->Key) |>.Nodup:=by
   rw[aO',aK'];exact qnd.imp λn e=>n (d__ e)
  rw[ekv,bC_ (by rw[gl_];exact ndk)];have s4:=Same.new (o:=.dK (wKV qs)) hdw;have hg4:=s4 _ _ (s3 _ _ hg2);refine⟨_,rfl,g,CG,dx,_,rfl,hg4,T.cl,T.nG,by show 1<1000;decide,?_⟩;have s24:=s3.trans s4;have hdw4:upd H3 dw (.dK (wKV qs)) dw=some (.dK (wKV qs)):=a1_;have dwg:dw≠g:=(a6_ (s3 _ _ hg2) hdw).symm;have fr4:∀{b},upd H3 dw (.dK (wKV qs)) b=none->H2 b=none:=λe=>s24.free e;have dwn:H2 dw=none:=s3.free hdw;generalize upd H3 dw (.dK (wKV qs))=H4 at s4 hg4 s24 hdw4 fr4 ⊢;have up5:∀{b o},H4 b=some o->b≠g->upd H4 g (.ins CG dx (putF "weight_by_name" (.ref dw) (putF "web" (.ref p) []))) b=some o:=λe ne=>by rw[a8_ ne];exact e
  have hg5:upd H4 g (.ins CG dx (putF "weight_by_name" (.ref dw) (putF "web" (.ref p) []))) g=some (.ins CG dx (putF "weight_by_name" (.ref dw) (putF "web" (.ref p) []))):=a1_
  have fr5:∀{b},upd H4 g (.ins CG dx (putF "weight_by_name" (.ref dw) (putF "web" (.ref p) []))) b=none->H4 b=none:=λ{b} e=>by
   by_cases z:b=g
   ·rw[z,a1_] at e;cases e
   ·rw[a8_ z] at e;exact e
  generalize upd H4 g (.ins CG dx (putF "weight_by_name" (.ref dw) (putF "web" (.ref p) [])))=H5 at up5 hg5 fr5 ⊢;have up15:∀{b o},H1 b=some o->b≠g->H5 b=some o:=λe ne=>up5 (s24 _ _ (up1 e ne)) ne;have pz5:Paired (λz (x:Pc × V)=>∃t,z=.ref t/\H5 t=some (.tup [.str x.1.1,.int x.1.2.1,x.2])) zs (qs.zip vs):=Paired.mapP pz λz x ⟨t,e,ht⟩=>⟨t,e,up15 ht (be_ ht hg1 nofun)⟩;refine⟨_,rfl,lc,rfl,⟨_,.of (up15 hlc lcg)⟩,λD2 hD2=>?_⟩;refine gC_ (λx=>x.2) (λx=>rfl) rfl (up15 hlc lcg) pz5 z1000 hD2 λH6 out2 s6 hD6 pa6=>?_;refine⟨D2,out2,_,rfl,hD6,pa6,by rw[aa'];exact z1000,λdy hdy=>?_⟩;rw[show ((qs.zip vs).map λx:Pc × V=>((Sum.inr x.1.1:Key),x.2))=yKV qs vs from rfl,bC_ (by rw[jG_ lv];exact ndk)];have s7:=Same.new (o:=.dK (yKV qs vs)) hdy;have s57:=s6.trans s7;have hg7:=s57 _ _ hg5;refine⟨_,rfl,g,CG,dx,_,rfl,hg7,T.cl,T.nY,by show 2<1000;decide,?_⟩;have hdy7:upd H6 dy (.dK (yKV qs vs)) dy=some (.dK (yKV qs vs)):=a1_;have dyg:dy≠g:=(a6_ (s6 _ _ hg5) hdy).symm;have dyn:H5 dy=none:=s6.free hdy;generalize upd H6 dy (.dK (yKV qs vs))=H7 at s7 s57 hg7 hdy7 ⊢
  have fin:∀{b o},H1 b=some o->b≠g->upd H7 g (.ins CG dx (gflds p dw dy)) b=some o:=λe ne=>by
   rw[a8_ ne];exact s57 _ _ (up15 e ne)
  have tupf:∀b xs,H1 b=some (.tup xs)->upd H7 g (.ins CG dx (gflds p dw dy)) b=some (.tup xs):=λb xs e=>fin e (be_ e hg1 nofun);have nH:∀{b},H1 b=none->H b=none:=λe=>s1.free e;refine k qs (g::dw::dy::(fpw++vs.filterMap λv=>match v with | .ref a=>some a|_=>none)) _ (λb o e ne=>fin (s1 _ _ e) ne) ⟨dx,dw,dy,vs,fpw,a1_,?_,?_,?_,?_,by simp,by simp,by simp,λb hb=>by simp[hb],λv hv a z=>?_⟩ Qq λb hb=>?_
  ·exact W.keep (λb hb o e=>fin (s1 _ _ e) (λz=>gw (z▸hb))) λb xs e=>tupf b xs (s1 _ _ e)
  ·rw[a8_ dwg];exact s57 _ _ (up5 hdw4 dwg)
  ·rw[a8_ dyg];exact hdy7
  ·exact cD_ wys λv hv q h=>h.keep (λa z u e=>fin e (λzz=>by
    subst zz;have:=vnew v hv _ z;rw[hg] at this;cases this)) λb xs e=>tupf b xs e
  ·refine ai' _ (ai' _ (ai' _ (aD' _ (aB'.mpr ⟨v,hv,?_⟩))));rw[z]
  ·simp only[ah',am',aB'] at hb;rcases hb with rfl|rfl|rfl|hb|⟨v,hv,e⟩
   ·exact .inl rfl
   ·exact .inr (.inr (nH (fr1 dwn)))
   ·exact .inr (.inr (nH (fr1 (s24.free (fr5 dyn)))))
   ·exact .inr (.inl hb)
   ·cases v with
    |ref a=>
     cases e;exact .inr (.inr (vnew _ hv _ rfl))
    |_=>cases e
end
end Ev
namespace L2
open PySem
theorem pass1{P:Ae}{w:Ag}{X:Cx}:bx' (CX1 P w) X E0:=λ_ _ _ _ _ _ _ h=>by
 obtain⟨_,_,_,_,_,_,_,_,_,_,_,_,z⟩:=h;exact z.elim
end L2
namespace Ev
open PySem L2
structure CalX (P:Ae) (w:Ag) (K:F__) (mg:Str->Option Aa) (base:Heap) (C:Addr) (k:Nat) (m:Str) (ps:List Str) (sp:Sp):Prop where
 ex:∃f fd,FnOk P w K mg base (CX1 P w) k f fd ps sp/\Meth K C m f/\ck' K fd ps []
theorem md_{X:Cx}{C:Addr}{k:Nat}{m:Str}{ps:List Str}{sp:Sp}{pos apos:Pos}{o e:Expr}{es:List Expr}{ta:TE}{t:TA}{pl:Sem Bool}(c:CalX X.prog X.w X.K X.mg X.base C k m ps sp)(cl:Cls X.K C)(hr:Room k X.A)(he:PE X o ta)(ha:PA X (e::es) t)
  (hst:starEach (e::es) X.env=(false,eval e X.env)::starEach es X.env:=by rfl) (hpl:(backTo pos (starEach es X.env)).any (·.1)=false:=by rfl)
  (ht:eval (.Call (.Attribute o m apos) (e::es) [] pos) X.env=(do
   let ov <- eval o X.env
   standAt apos.atName
   let (f,first) <- holding [ov] (getMethod ov m pl)
   callWith pos f first (backTo pos (starEach (e::es) X.env)) (backToKw pos (keywordEach [] X.env))):=by rfl) :
  PE X (.Call (.Attribute o m apos) (e::es) [] pos) (tMeth C m sp [] E0 ta t):=by
 obtain⟨f,fd,F,hm,b⟩:=c.ex;exact hY_ he cl hm F hr b .nil pass1 ha hst hpl ht
theorem fQ_{kvs:List (Key × V)}{ns:List Str}(h:kvs.map (·.1)=ns.map Sum.inr)(x:Str):(valV kvs (Sum.inr x)).isSome=decide (x∈ns):=by
 by_cases hx:x∈ns
 ·rw[a_5 hx];refine ce_ ?_;rw[h];exact ac'.mpr ⟨x,hx,rfl⟩
 ·rw[a_4 hx,aP_]
  ·rfl
  ·rw[h];intro m;obtain⟨y,hy,e⟩:=ac'.mp m;cases e;exact hx hy
variable{q:Pc}
theorem lX_{qs:List Pc}(nd:(qs.map (·.1)).Nodup)(hq:q∈qs):valV (wKV qs) (Sum.inr q.1)=some (.int q.2.1):=by
 obtain⟨j,hj,e⟩:=aG' hq;have:=ev_ (ps:=qs) (cs:=qs.map λq=>V.int q.2.1) nd (by rw[aa']) (j:=j) (q:=q) (c:=.int q.2.1) (by rw[ae' hj,e]) (by rw[aw',ae' hj,e];rfl)
 have e2:((qs.zip (qs.map λq=>V.int q.2.1)).map λq=>((Sum.inr q.1.1:Key),q.2))=wKV qs:=by
  unfold wKV;rw[List.zip_map_right,ao']
  have:qs.zip qs=qs.map λq=>(q,q):=by
   clear nd hq this hj e j
   induction qs with
   |nil=>rfl
   |cons a l ih=>rw[List.zip_cons_cons,ih,au']
  rw[this,ao'];rfl
 rwa [e2] at this
theorem lH_{qs:List Pc}{vs:List V}(nd:(qs.map (·.1)).Nodup){K:F__}{H:Hp}(h:Paired (λv (q:Pc)=>WyAt K H v q.2.2) vs qs)(hq:q∈qs):∃v∈vs,valV (yKV qs vs) (Sum.inr q.1)=some v/\WyAt K H v q.2.2:=by
 obtain⟨j,hj,e⟩:=aG' hq;have hl:=a_1 h;have hv:j<vs.length:=by omega
 have p:=aA_ h j hv hj;rw[e] at p;exact⟨vs[j],aZ' hv,ev_ nd Z1 (by rw[ae' hj,e]) (ae' hv),p⟩
variable{f:Addr}{fd:Af}
section
variable{P:Ae}{w:Ag}{K:F__}{mg:Str->Option Aa}{base:Heap}
theorem scGHas:ba' ["self","thing"] ["self","thing"] (a9' sGHas):=f__
inductive do' (K:F__) (CG CW:Addr) (vs:List V) (H:Hp) (Q:VK) (E:XK):Prop
 |mk:∀(g p:Addr) (v:V) (x:Option Str) (hs:Xa) (ts:Xb) (qs:List Pc) (fp:List Addr),vs=[.ref g,v]->bh' K CG CW H g p hs ts qs fp->StrV K H v x->Q (.bl (inB (qs.map (·.1)) x)) H->do' K CG CW vs H Q E
theorem kJ_{CG CW:Addr}(F:Fun K "has_piece" "Goods.has_piece" sGHas f fd)(T:TxtG K CG)(B:Bi mg):FnOk P w K mg base CX0 1 f fd ["self","thing"] (do' K CG CW):=by
 refine F.okA scGHas λcdv A outer s H vs Q E hr h=>?_
 ·obtain⟨g,p,v,x,hs,ts,qs,fp,rfl,G,sv,k⟩:=h;have hu:=br_ hr;obtain⟨dx,dw,dy,vs,fpw,h1,h2,h3,h4,h5,m1,m2,m3,m4,m5⟩:=G.ex;refine⟨_,a5_ (ae_ (bF_ (a7_ aQ_ (by rfl) B.isi ab_ (a0_ (pv 1) (a0_ (b1_ (v:=.ty "str") (by rfl) B.str dg_ rfl) a2_))) (bZ_ (hv_ (cX_ hu (pv 1) (bS_ (pv 0) rfl)))))),?_⟩;cases x with
  |some x=>
   cases (show v=.str x from sv);refine⟨_,rfl,_,_,_,_,rfl,.str x,rfl,_,rfl,iteT ?_⟩;refine⟨_,rfl,_,rfl,g,CG,dx,_,_,rfl,h1,T.cl,T.nG,ge_ _ _ _,dw,_,rfl,.k (k:=Sum.inr x) h3,?_⟩;rw[fQ_ (gl_ qs)];exact k
  |none=>
   obtain⟨t,ty,e⟩:=sv;exact⟨_,rfl,_,_,_,_,rfl,ty,e,_,rfl,iteF k⟩
theorem scGNames:ba' ["self"] ["self"] (a9' ey'):=f__
inductive ci' (K:F__) (CG CW:Addr) (vs:List V) (H:Hp) (Q:VK) (E:XK):Prop
 |mk:∀(g p:Addr) (hs:Xa) (ts:Xb) (qs:List Pc) (fp:List Addr),vs=[.ref g]->bh' K CG CW H g p hs ts qs fp->(∀l,H l=none->Q (.ref l) (upd H l (.lst ((qs.map (·.1)).map V.str))))->ci' K CG CW vs H Q E
theorem hI_{CG CW:Addr}(F:Fun K "names" "Goods.names" ey' f fd)(T:TxtG K CG)(B:Bi mg):FnOk P w K mg base CX0 1 f fd ["self"] (ci' K CG CW):=by
 refine F.okA scGNames λcdv A outer s H vs Q E hr h=>?_
 ·obtain⟨g,p,hs,ts,qs,fp,rfl,G,k⟩:=h;obtain⟨dx,dw,dy,vs,fpw,h1,h2,h3,h4,h5,m1,m2,m3,m4,m5⟩:=G.ex;refine⟨_,a5_ (ae_ (ax_ (cn_ rfl) (by rfl) B.list bm_ (a0_ (bS_ (pv 0) rfl) a2_))),?_⟩;refine⟨_,rfl,g,CG,dx,_,_,rfl,h1,T.cl,T.nG,ge_ _ _ _,dw,_,rfl,.inl h3,λl hl=>?_⟩
  have e:((wKV qs).map λkv=>kV kv.1)=(qs.map (·.1)).map V.str:=by
   unfold wKV;rw[ao',ao'];rfl
  rw[e];exact k l hl
structure Ref (K:F__) (mg:Str->Option Aa) (x:Str) (C:Addr):Prop where
 mg:mg x=some (.ref C)
 ex:PySem.W.excIn K C [.type "ValueError",.type "Exception",.type "BaseException",.type "object"] "ValueError.__new__"=true
theorem scGWeight:ba' ["self","piece"] ["self","piece"] (a9' dH'):=f__
inductive cI' (K:F__) (CG CW CP:Addr) (vs:List V) (H:Hp) (Q:VK) (E:XK):Prop
 |mk:∀(g p:Addr) (v:V) (x:Option Str) (hs:Xa) (ts:Xb) (qs:List Pc) (fp:List Addr),vs=[.ref g,v]->bh' K CG CW H g p hs ts qs fp->(qs.map (·.1)).Nodup->StrV K H v x->((∃q∈qs,x=some q.1/\Q (.int q.2.1) H)∨(inB (qs.map (·.1)) x=false/\E (.ref CP) none H))->cI' K CG CW CP vs H Q E
theorem h5_{CG CW CP:Addr}(F:Fun K "weight" "Goods.weight" dH' f fd)(T:TxtG K CG)(R:Ref K mg "NoPiece" CP)(cH:CalM P w K mg base CG 1 "has_piece" ["self","thing"] (do' K CG CW)):FnOk P w K mg base (CX1 P w) 2 f fd ["self","piece"] (cI' K CG CW CP):=by
 refine F.okXA scGWeight λcdv A outer s H vs Q E hr h=>?_
 ·obtain⟨g,p,v,x,hs,ts,qs,fp,rfl,G,nd,sv,k⟩:=h;have hu:=br_ hr;obtain⟨dx,dw,dy,vs,fpw,h1,h2,h3,h4,h5,m1,m2,m3,m4,m5⟩:=id G.ex;have hno:(gflds p dw dy).lookup ("has_piece":Str)=none:=by_ _ _ _ Z0 Z0 Z0;refine⟨_,a3_ (aw_ (aH_ (aK_ (dj_ cH T.cl hr (pv 0) (a0_ (pv 1) a2_)))) (a5_ (aU_ rfl raises1 R.mg R.ex a_9 (by rfl) (a0_ a9_ a2_))) aa_) (a5_ (ae_ (cg_ hu (bS_ (pv 0) rfl) (pv 1) (λ_ _=>rfl)))),?_⟩;refine⟨_,rfl,g,dx,_,rfl,h1,hno,_,rfl,g,p,v,x,hs,ts,qs,fp,rfl,G,sv,_,rfl,?_⟩;rcases k with⟨q,hq,rfl,k⟩|⟨hb,k⟩
  ·cases (show v=.str q.1 from sv);rw[show inB (qs.map (·.1)) (some q.1)=true from a_5 (ac'.mpr ⟨q,hq,rfl⟩)];refine iteF ?_;refine⟨_,rfl,g,CG,dx,_,_,rfl,h1,T.cl,T.nG,ge_ _ _ _,_,rfl,dw,_,rfl,?_,k⟩;rw[<- lX_ nd hq];exact .k (k:=Sum.inr q.1) h3
  ·rw[hb];exact iteT ⟨by show 1<=sizeLine;decide,k⟩
theorem scGWays:ba' ["self","piece","ties"] ["self","piece"] (a9' sGWays):=f__
inductive dR' (K:F__) (CG CW CP:Addr) (vs:List V) (H:Hp) (Q:VK) (E:XK):Prop
 |mk:∀(g p:Addr) (v:V) (x:Option Str) (hs:Xa) (ts:Xb) (qs:List Pc) (fp:List Addr),vs=[.ref g,v]->bh' K CG CW H g p hs ts qs fp->(qs.map (·.1)).Nodup->StrV K H v x->((∃q∈qs,x=some q.1/\(∀ws,q.2.2=some ws->ws.length<=1000)/\∀v' H',Same H H'->WyAt K H' v' q.2.2->(∀a,v'=.ref a->H a=none)->Q v' H')∨(inB (qs.map (·.1)) x=false/\E (.ref CP) none H))->dR' K CG CW CP vs H Q E
theorem j7_{CG CW CP:Addr}(F:Fun K "ways" "Goods.ways" sGWays f fd)(T:TxtG K CG)(R:Ref K mg "NoPiece" CP)(cH:CalM P w K mg base CG 1 "has_piece" ["self","thing"] (do' K CG CW))(cA:Cal P w K mg base 1 "ties_anew" ["ties"] (eO' K)):FnOk P w K mg base (CX1 P w) 2 f fd ["self","piece"] (dR' K CG CW CP):=by
 refine F.okXA scGWays λcdv A outer s H vs Q E hr h=>?_
 ·obtain⟨g,p,v,x,hs,ts,qs,fp,rfl,G,nd,sv,k⟩:=h;have hu:=br_ hr;obtain⟨dx,dw,dy,vs,fpw,h1,h2,h3,h4,h5,m1,m2,m3,m4,m5⟩:=id G.ex;have hno:(gflds p dw dy).lookup ("has_piece":Str)=none:=by_ _ _ _ Z0 Z0 Z0
  refine⟨_,a3_ (aw_ (aH_ (aK_ (dj_ cH T.cl hr (pv 0) (a0_ (pv 1) a2_)))) (a5_ (aU_ rfl raises1 R.mg R.ex a_9 (by rfl) (a0_ a9_ a2_))) aa_)
   (a3_ (ao_ 2 scGWays.nd (cg_ hu (bS_ (pv 0) rfl) (pv 1) (λ_ _=>rfl)))
   (a5_ (ae_ (gL_ (bg_ (cT_ (pv 2))) dc_ (al_ cA hr (a0_ (pv 2) a2_)))))),?_⟩
  refine⟨_,rfl,g,dx,_,rfl,h1,hno,_,rfl,g,p,v,x,hs,ts,qs,fp,rfl,G,sv,_,rfl,?_⟩;rcases k with⟨q,hq,rfl,h1000,k⟩|⟨hb,k⟩
  ·cases (show v=.str q.1 from sv);rw[show inB (qs.map (·.1)) (some q.1)=true from a_5 (ac'.mpr ⟨q,hq,rfl⟩)];refine iteF ?_;obtain⟨u,hu',eu,wy⟩:=lH_ nd h5 hq;refine⟨_,rfl,g,CG,dx,_,_,rfl,h1,T.cl,T.nY,ky_ _ _ _,_,rfl,dy,u,rfl,?_,?_⟩
   ·rw[<- eu];exact .k (k:=Sum.inr q.1) h4
   ·refine⟨_,rfl,_,rfl,?_⟩;cases e:q.2.2 with
    |none=>
     rw[e] at wy k;cases (show u=.non from wy);exact iteT (k .non H (Same.refl H) rfl (λa z=>by cases z))
    |some ws=>
     rw[e] at wy k;obtain⟨a,ys,rfl,ha,tu⟩:=wy;refine iteF ⟨_,rfl,a,ys,ws,rfl,ha,tu,h1000 ws e,λl' zs H' sm hf hl' tz=>k (.ref l') H' sm ⟨l',zs,rfl,hl',tz⟩ (λc z=>by cases z;exact hf)⟩
  ·rw[hb];exact iteT ⟨by show 1<=sizeLine;decide,k⟩
end
end Ev
namespace L2
open PySem PySem.Spec PyProof.Rows PySem.W
variable{P:Ae}{w:Ag}
theorem kF_{k:Key}{key:Aa}(h:(bi' P w).is k key=true):RelV (kV k) key:=by
 have e2:dY' k key=true:=h;rcases aS_ e2 with⟨i,t,rfl,rfl⟩|⟨x,t,rfl,rfl⟩
 ·exact⟨t,rfl⟩
 ·exact⟨t,rfl⟩
def Itm(d:Addr)(o:Obj)(kvs:List (Key × V)):It:=⟨λi H=>H d=some (.frz o (.dK kvs))/\i<kvs.length,λi H y H'=>∃t k x,y=.ref t/\H t=none/\kvs[i]? = some (k,x)/\H'=upd H t (.tup [kV k,x]),λi H=>H d=some (.frz o (.dK kvs))/\kvs.length<=i⟩
variable{elts:List Expr}{kk:Nat}
theorem hh_{K:F__}{pos:Pos}(d it:Addr)(o:Obj)(kvs:List (Key × V)){es:Array DictEntry}{ep:Nat}(ho:o.data=.dict es ep):Turn P w K (.Tuple elts kk pos) (Itm d o kvs) [it] it (λi h=>∃ok ov,IsItemIter h it d i kvs.length ep ok ov) where
 mem:=by simp
 obj:=λi h st b hb=>by
  obtain rfl:b=it:=by simpa using hb
  obtain⟨ok,ov,q⟩:=st;exact⟨_,q,λv z=>by cases z⟩
 keep:=λi h h' st k=>by
  obtain⟨ok,ov,q⟩:=st;exact⟨ok,ov,k it Z2 _ q⟩
 item:=by
  intro X hP hw hK hc i pins s σ H E I hf st hg;subst hP hw hK;obtain⟨hd,hi⟩:=hg;obtain⟨vs,rel,dat⟩:=ei_ I hd ho;obtain⟨⟨k,x⟩,hx⟩:∃p,kvs[i]? = some p:=⟨kvs[i],by simp[hi]⟩;obtain⟨u,hu,ru⟩:=lv_ rel i hx;obtain⟨ok,ov,st⟩:=st;have itl:it<s.heap.objs.size:=a_6 st;rw[rel.length] at st;refine wpAny_pyNext_items_item st dat hu λkey h' hk out ht sz kp=>?_;refine⟨_,rfl,wpAny_letOwnedTupleGo_items (s:={ s with heap:=h' }) out λh2 st2 sb=>?_⟩;have nT:s.heap.objs.size≠it:=a8' itl;have I1:Inv X pins σ (upd H s.heap.objs.size (.tup [kV k,x])) { s with heap:=h2 }:=I.turnedN (t':=s.toks) (fp:=[it]) (its:=[key,u]) (λb o hb q=>(sb.2 b (by simpa using hb)).trans (kp b o (by simpa using hb) q)) hf (ak' _) (by show 2<=sizeLine;decide) (.cons (kF_ hk) (.cons ru .nil)) ⟨⟨_,(sb.2 _ nT).trans ht,rfl,_,rfl⟩,_,(sb.2 _ nT).trans ht,rfl⟩;refine⟨.ref _,_,I1,rfl,⟨_,k,x,rfl,I.hok.fresh (ak' _),hx,rfl⟩,⟨_,_,by rw[rel.length];exact st2⟩,λb hb=>?_⟩;have e:b=it:=by simpa using hb
  rw[a8_ (λz=>nT (z.symm.trans e))];exact (hf b hb).1
 done:=by
  intro X hP hw hK hc i pins s σ H E I hf st hg;subst hP hw hK;obtain⟨hd,hi⟩:=hg;obtain⟨vs,rel,dat⟩:=ei_ I hd ho;obtain⟨f0,f1,f2,f3,f4,f5⟩:=hf it Z2;obtain⟨ok,ov,st⟩:=st;rw[rel.length] at st hi;exact wpAny_pyNext_items_end (I.ok.hd hc) st dat (by simp;omega) λh' eb=>⟨rfl,I.turned (t':=s.toks) (λb o hb e=>eb b o hb e) f0 f1 f3 f4 f5⟩
 self:=λA i s Q E st h=>by
  obtain⟨ok,ov,q⟩:=st;exact kcp_self q h
inductive iItemsR (R:It->Hp->Prop) (x:V) (H1:Hp):Prop
 |mk:∀v d kvs,x=.ref v->H1 v=some (bG' v d)->H1 d=some (.dK kvs)->(∀o,R (Itm d o kvs) (upd H1 d (.frz o (.dK kvs))))->iItemsR R x H1
def iItems(tv:TE):TI:=λσ H R=>tv σ H λx H1=>iItemsR R x H1
variable{X:Cx}
theorem et_{p2:Pos}{e:Expr}{tv:TE}(he:PE X e tv):PI X (.Tuple elts kk p2) e (iItems tv):=by
 intro pins s σ H R I h;refine thn (he pins s σ H _ I h) λu s1 ⟨x,H1,I1,r1,v,d,kvs,ex,hv,hd,q⟩=>?_;subst ex;cases r1;obtain⟨iv,_,_⟩:=I1.hok v _ hv;obtain⟨o,ho,I2⟩:=I1.freeze hd;obtain⟨z,_,vs,rel,o',es,ep,ho',c',dt,r⟩:=jM_ I1.hok hd;rw[ho] at ho';cases ho';refine wpAny_pyIter_items (knd:=bi' X.prog X.w) (kvs:=vs) (ep:=ep) iv ⟨o,es,ho,c',dt,r⟩ ?_;refine⟨s1.heap.objs.size,[s1.heap.objs.size],_,_,_,rfl,I2.kept (t':=s1.toks) λb o e=>a_0 _ e,hh_ d _ o kvs dt,?_,λb hb=>?_,q o⟩
 ·rw[rel.length];exact⟨.none,.none,a_7 _ rfl⟩
 ·obtain rfl:b=s1.heap.objs.size:=by simpa using hb
  exact I2.fpOk (ak' _) (I2.hok.fresh (ak' _))
theorem dE_{d:Addr}{o:Obj}{kvs:List (Key × V)}{g:TG}{tb:TS}{D:Ends}{σ:St}{H:Hp}(Pv:Nat->St->Hp->Prop)(h0:Pv 0 σ H)(hl:∀i σ H,i<=kvs.length->Pv i σ H->H d=some (.frz o (.dK kvs)))
  (hs:∀i k x σ H,kvs[i]? = some (k,x)->Pv i σ H->∀t,H t=none->g (.ref t) σ (upd H t (.tup [kV k,x])) λσ2 H2=>tb { D with nx:=Pv (i+1),ct:=Pv (i+1),bk:=D.nx } σ2 H2) (hd:∀σ H,Pv kvs.length σ H->D.nx σ H) :
  ∃W:Nat->Nat->St->Hp->Prop,(∃m,W 0 m σ H)/\∀i m σ H,W i m σ H->
   ((Itm d o kvs).stop i H/\D.nx σ H)∨((Itm d o kvs).go i H/\∃N:St->Hp->Prop,(∀σ' H',N σ' H'->∃m',m'<m/\W (i+1) m' σ' H')/\∀x H',(Itm d o kvs).yld i H x H'->g x σ H' λσ2 H2=>tb { D with nx:=N,ct:=N,bk:=D.nx } σ2 H2):=by
 refine⟨λi m σ H=>m=kvs.length - i/\i<=kvs.length/\Pv i σ H,⟨kvs.length,by simp,aJ' _,h0⟩,?_⟩;rintro i m σ H ⟨rfl,hi,p⟩;have q:=hl i σ H hi p;by_cases hlt:i<kvs.length
 ·refine .inr ⟨⟨q,hlt⟩,Pv (i+1),λσ' H' p'=>⟨kvs.length - (i+1),by omega,rfl,hlt,p'⟩,λx H' y=>?_⟩;obtain⟨t,k,x,rfl,ht,hx,rfl⟩:=y;exact hs i k x σ H hx p t ht
 ·have e:i=kvs.length:=by omega
  subst e;exact .inl ⟨⟨q,ak' _⟩,hd σ H p⟩
inductive tThawS (t:TS) (D:Ends) (σ:St) (H:Hp):Prop
 |mk:∀d kvs,H d=some (.dK kvs)->t { nx:=λσ1 H1=>∃o,H1 d=some (.frz o (.dK kvs))/\D.nx σ1 (upd H1 d (.dK kvs)),rt:=λv H1=>∃o,H1 d=some (.frz o (.dK kvs))/\D.rt v (upd H1 d (.dK kvs)) } σ H->tThawS t D σ H
theorem fN_{st:Stmt}{t:TS}(h:PS X st t):PS X st (tThawS t):=by
 intro pins s σ H D I q;obtain⟨d,kvs,hd,q⟩:=q
 have nf:∀o u,X.H₀ d≠some (.frz o u):=λo u z=>by
  have:=I.base.frzs _ _ _ z;rw[hd] at this;cases this
 refine thn (h pins s σ H _ I q) λf s' p=>?_;cases f with
 |next=>
  obtain⟨σ1,H1,I1,o,hf,q1⟩:=p;exact⟨σ1,_,I1.thaw hf nf,q1⟩
 |brk=>
  obtain⟨σ1,H1,I1,q1⟩:=p;exact False.elim q1
 |cont=>
  obtain⟨σ1,H1,I1,q1⟩:=p;exact False.elim q1
 |ret u=>
  obtain⟨v,σ1,H1,I1,r,o,hf,q1⟩:=p;exact⟨v,σ1,_,I1.thaw hf nf,r,q1⟩
end L2
namespace Ev
open PySem L2
structure Fz (d:Addr) (o:Obj) (kvs:List (Key × V)) (H H':Hp):Prop where
 at_:H' d=some (.frz o (.dK kvs))
 sm:∀b u,b≠d->H b=some u->H' b=some u
section
variable{d:Addr}{o:Obj}{kvs:List (Key × V)}{H H' H2:Hp}
theorem Fz.start:Fz d o kvs H (upd H d (.frz o (.dK kvs))):=⟨a1_,λb u ne e=>by rw[a8_ ne];exact e⟩
theorem Fz.step(f:Fz d o kvs H H')(s:Same H' H2):Fz d o kvs H H2:=⟨s _ _ f.at_,λb u ne e=>s _ _ (f.sm b u ne e)⟩
theorem Fz.thaw(f:Fz d o kvs H H')(hd:H d=some (.dK kvs)):Same H (upd H' d (.dK kvs)):=λb u e=>by
 by_cases z:b=d
 ·subst z;rw[hd] at e;cases e;exact a1_
 ·rw[a8_ z];exact f.sm b u z e
theorem Fz.goods{K:F__}{CG CW g p:Addr}{hs:Xa}{ts:Xb}{qs:List Pc}{fp:List Addr}(f:Fz d o kvs H H')(hd:H d=some (.dK kvs))(G:bh' K CG CW H g p hs ts qs fp)(nd:d∉fp):bh' K CG CW H' g p hs ts qs fp:=
 G.keep (λb hb u e=>f.sm b u (λz=>nd (z▸hb)) e) λb xs e=>f.sm b _ (be_ e hd nofun) e
end
def mKV(ns:List Str)(g:Str->V):List (Key × V):=ns.map λn=>(Sum.inr n,g n)
theorem dp_(ns:List Str)(g:Str->V):(mKV ns g).map (·.1)=ns.map Sum.inr:=by
 unfold mKV;rw[ao'];rfl
theorem bQ_(ns:List Str)(g:Str->V):(mKV ns g).length=ns.length:=aa' _
variable{n:Str}
theorem hM_{ns:List Str}{g:Str->V}(h:n∈ns):valV (mKV ns g) (Sum.inr n)=some (g n):=by
 induction ns with
 |nil=>cases h
 |cons m ns ih=>
  by_cases e:m=n
  ·subst e;exact ca_ rfl
  ·have:valV (mKV (m::ns) g) (Sum.inr n)=valV (mKV ns g) (Sum.inr n):=c3_ λz=>e (d__ z);rw[this];rcases ah'.mp h with z|z
   ·exact absurd z.symm e
   ·exact ih z
theorem eW_{ns:List Str}{g k:Str->V}(h:∀n∈ns,g n=k n):mKV ns g=mKV ns k:=ay' λn hn=>by rw[h n hn]
variable{v:V}
theorem i2_{ns:List Str}{g:Str->V}(h:n∉ns):putK (mKV ns g) (Sum.inr n) v=mKV (ns++[n]) λm=>if m=n then v else g m:=by
 rw[bw_ _ (aP_ (by
  rw[dp_];intro m;obtain⟨x,hx,e⟩:=ac'.mp m;exact h (d__ e▸hx)))]
 unfold mKV;rw[ag'];congr 1
 ·refine ay' λm hm=>?_;have e:¬m=n:=λz=>h (z▸hm);simp[e]
 ·simp
variable{i:Nat}
theorem hQ_{ns:List Str}{g:Str->V}{k:Key}{x:V}(h:(mKV ns g)[i]? = some (k,x)):∃n,ns[i]? = some n/\k=Sum.inr n/\x=g n:=by
 unfold mKV at h;rw[aw'] at h;cases e:ns[i]? with
 |none=>rw[e] at h;cases h
 |some n=>
  rw[e] at h;have h:=b_2 h;exact⟨n,rfl,(c_1 Prod.fst h).symm,(c_1 Prod.snd h).symm⟩
theorem ji_{ns:List Str}(nd:ns.Nodup)(h:ns[i]? = some n):n∉ns.take i:=by
 have q:=bz_ (g:=id) (ts:=ns) (by rw[List.map_id];exact nd) h;rwa [List.map_id] at q
theorem cI_{ns:List Str}(h:ns[i]? = some n):ns.take (i+1)=ns.take i++[n]:=by
 rw[aH',h];rfl
abbrev stF(ns:List Str)(f:Str->Str):List (Key × V):=mKV ns λn=>.str (f n)
theorem Qs.nd{ps qs:List Pc}(Q:Qs ps qs)(nd:(ps.map (·.1)).Nodup):(qs.map (·.1)).Nodup:=by
 rw[Q.nms];exact (aG_ _).nodup_iff.mpr nd
theorem Qs.len{ps qs:List Pc}(Q:Qs ps qs):qs.length=ps.length:=by
 have:=c_1 List.length Q.nms;rw[aa',(aG_ _).length_eq,aa'] at this;exact this
theorem f4_{α:Type}{ps:List (Str × α)}(nd:(ps.map (·.1)).Nodup){a b:Str × α}(ha:a∈ps)(hb:b∈ps)(e:a.1=b.1):a=b:=by
 induction ps with
 |nil=>cases ha
 |cons p ps ih=>
  rw[au',aX'] at nd;rcases ah'.mp ha with za|ha
  ·rcases ah'.mp hb with zb|hb
   ·rw[za,zb]
   ·rw[za] at e;exact absurd (show p.1∈ps.map (·.1) from ac'.mpr ⟨b,hb,e.symm⟩) nd.1
  ·rcases ah'.mp hb with zb|hb
   ·rw[zb] at e;exact absurd (show p.1∈ps.map (·.1) from ac'.mpr ⟨a,ha,e⟩) nd.1
   ·exact ih nd.2 ha hb
def strOf(hs:Xa)(n:Str):Int:=((hs.find? λh=>decide (h.1=n)).map (·.2)).getD 0
theorem bV_{hs:Xa}(h:n∈hs.map (·.1)):(n,strOf hs n)∈hs:=by
 unfold strOf;obtain⟨x,hx,e⟩:=ac'.mp h;cases q:hs.find? λh=>decide (h.1=n) with
 |none=>
  have:=List.find?_eq_none.mp q x hx;simp[e] at this
 |some y=>
  have m:=List.mem_of_find?_eq_some q;have:=List.find?_some q;have e2:y.1=n:=by simpa using this
  show (n,y.2)∈hs;rw[<- e2];exact m
theorem gO_{hs:Xa}(nd:(hs.map (·.1)).Nodup){s:Int}(h:(n,s)∈hs):strOf hs n=s:=by
 have m:=bV_ (ac'.mpr ⟨_,h,rfl⟩:n∈hs.map (·.1));exact c_1 Prod.snd (f4_ nd m h rfl)
variable{CG CW:Addr}{fd:Af}
section
variable{P:Ae}{w:Ag}{K:F__}{mg:Str->Option Aa}{base:Heap}
structure StandOk (hs:Xa) (qs:List Pc) (ns:List Str) (f:Str->Str):Prop where
 perm:ns.Perm (qs.map (·.1))
 at_:∀n∈ns,f n∈hs.map (·.1)
theorem bN':ba' ["goods","stand","piece","hand","names"] ["goods","stand"] (a9' dO'):=f__
inductive c3' (K:F__) (CG CW:Addr) (vs:List V) (H:Hp) (Q:VK) (E:XK):Prop
 |mk:∀(g p d:Addr) (hs:Xa) (ts:Xb) (qs:List Pc) (fp:List Addr) (ns:List Str) (f:Str->Str),vs=[.ref g,.ref d]->bh' K CG CW H g p hs ts qs fp->d∉fp->H d=some (.dK (stF ns f))->StandOk hs qs ns f->(qs.map (·.1)).Nodup->qs.length<64->(∀d' H',Same H H'->H d'=none->H' d'=some (.dK (stF (qs.map (·.1)) f))->Q (.ref d') H')->c3' K CG CW vs H Q E
theorem iN_{f:Addr}(F:Fun K "checked_stand" "checked_stand" dO' f fd)(B:Bi mg)(T:TxtG K CG)(TW:Txt K mg CW)(cH:CalM P w K mg base CG 1 "has_piece" ["self","thing"] (do' K CG CW))(cW:CalM P w K mg base CW 1 "has_hand" ["self","thing"] (e1' K CW))(cN:CalM P w K mg base CG 1 "names" ["self"] (ci' K CG CW)) :
  FnOk P w K mg base CX0 2 f fd ["goods","stand"] (c3' K CG CW):=by
 refine F.okA bN' λcdv A outer s H vs Q E hr h=>?_
 ·obtain⟨g,p,d,hs,ts,qs,fp,ns,f,rfl,G,dfp,hd,so,nd,h64,k⟩:=h;have hu:=br_ hr;have sz:=b__;refine' ⟨_,?r0,?kk⟩
  case' r0=>refine' a3_ ?s1 ?r1
  case s1=>exact aw_ (aH_ (aK_ (a7_ aQ_ (by rfl) B.isi ab_ (a0_ (pv 1) (a0_ (b1_ (v:=.ty "dict") (by rfl) B.dict cd_ rfl) a2_))))) ac_ aa_
  case' r1=>refine' a3_ ?s2 ?r2
  case' s2=>refine' fN_ (b3_ b_7 rfl ?i2 ?g2 ?b2)
  case i2=>exact et_ (ds_ (pv 1))
  case g2=>exact ch_ rfl (ai_ (b5_ 2 bN'.nd) (ai_ (b5_ 3 bN'.nd) b4_))
  case b2=>exact a3_ (aw_ (aH_ (aK_ (dj_ cH T.cl hr (pv 0) (a0_ (pv 2) a2_)))) ac_ aa_) (a5_ (aw_ (aH_ (aK_ (dj_ cW TW.cl hr (bS_ (pv 0) rfl) (a0_ (pv 3) a2_)))) ac_ aa_))
  case' r2=>refine' a3_ ?s3 ?r3
  case s3=>exact ao_ 4 bN'.nd (fv_ cN T.cl hr (pv 0))
  case' r3=>refine' a3_ ?s4 (a5_ ?s5)
  case s4=>exact aw_ (ar_ e6_ (a7_ eX_ (by rfl) B.len b_3 (a0_ (pv 1) a2_)) (a7_ ak_ (by rfl) B.len b_3 (a0_ (pv 4) a2_)) (nomark _)) ac_ aa_
  case s5=>exact ae_ (ax_ (bk_ rfl) (by rfl) B.dict cd_ (a0_ (aR_ ["piece","stand"] 1 [1] (ah_ (pv 4)) (λfp s H=>aY_ 0) (λfp s H=>aT_) (λfp s H=>b9_ (a0_ (pv 0) (a0_ (cg_ hu (pv 1) (pv 0) (λ_ _=>rfl)) a2_)))) a2_))
  case' kk=>skip
  have lns:ns.length=qs.length:=by rw[so.perm.length_eq,aa']
  refine⟨_,rfl,_,_,_,_,rfl,.dK hd,rfl,_,rfl,iteF ?_⟩;refine⟨d,_,hd,?_⟩;refine⟨_,rfl,d,_,rfl,hd,λv hv=>?_⟩;obtain⟨s1,hv1⟩:=nw__ (o:=bG' v d) hv;have G1:=G.same s1;have hd1:=s1 _ _ hd;generalize upd H v (bG' v d)=H1 at s1 hv1 G1 hd1 ⊢;refine⟨v,d,_,rfl,hv1,hd1,λo=>?_⟩;refine dE_ (λi σ H'=>∃(v2 v3:Option V),σ=[some (.ref g),some (.ref d),v2,v3,none]/\Fz d o (stF ns f) H1 H') ⟨none,none,rfl,Fz.start⟩ (λi σ H' _ ⟨_,_,_,z⟩=>z.at_) ?_ ?_
  ·rintro i ky x σ H2 hx ⟨v2,v3,rfl,fz⟩ t ht;obtain⟨n,hn,rfl,rfl⟩:=hQ_ hx;have nm:=ad' hn;have s2:=Same.new (o:=.tup [.str n,.str (f n)]) ht;have fz2:=fz.step s2;have e2:upd H2 t (.tup [.str n,.str (f n)]) t=some (.tup [.str n,.str (f n)]):=a1_;show gTup _ _ _ _ _ (upd H2 t (.tup [.str n,.str (f n)])) _;generalize upd H2 t (.tup [.str n,.str (f n)])=H3 at s2 fz2 e2 ⊢;refine⟨t,_,rfl,.of e2,rfl,_,_,rfl,_,_,rfl,rfl,?_⟩;have G3:=fz2.goods hd1 G1 dfp;obtain⟨dx,dw,dy,vs,fpw,h1,h2,h3,h4,h5,m1,m2,m3,m4,m5⟩:=id G3.ex;obtain⟨dxw,d1,l2,d3,zs0,as,ef,w1,_⟩:=id h2.ex;have hno:(gflds p dw dy).lookup ("has_piece":Str)=none:=by_ _ _ _ Z0 Z0 Z0;have hnw:(flds d1 l2 d3).lookup ("has_hand":Str)=none:=c4_ _ _ _ Z0 Z0 Z0;refine⟨_,rfl,g,dx,_,rfl,h1,hno,_,rfl,g,p,.str n,some n,hs,ts,qs,fp,rfl,G3,rfl,_,rfl,?_⟩;rw[show inB (qs.map (·.1)) (some n)=true from a_5 (so.perm.mem_iff.mp nm)];refine iteF ?_;refine⟨_,rfl,g,CG,dx,_,_,rfl,h1,T.cl,T.nW,gc_ _ _ _,p,dxw,_,rfl,w1,hnw,_,rfl,p,f n,hs,ts,fpw,rfl,h2,_,rfl,?_⟩;rw[a_5 (so.at_ n nm)];exact iteF ⟨_,_,rfl,fz2⟩
  rintro σ H2 ⟨v2,v3,rfl,fz⟩;refine⟨o,fz.at_,?_⟩;have s2:=s1.trans (fz.thaw hd1);have hd2:upd H2 d (.dK (stF ns f)) d=some (.dK (stF ns f)):=a1_;generalize upd H2 d (.dK (stF ns f))=H3 at s2 hd2 ⊢;have G3:=G.same s2;obtain⟨dx,dw,dy,vs,fpw,h1,h2,h3,h4,h5,m1,m2,m3,m4,m5⟩:=id G3.ex;refine⟨_,rfl,g,dx,_,rfl,h1,by_ _ _ _ Z0 Z0 Z0,g,p,hs,ts,qs,fp,rfl,G3,λln hln=>?_⟩;obtain⟨s3,e3⟩:=nw__ (o:=.lst ((qs.map (·.1)).map V.str)) hln;have hd3:=s3 _ _ hd2;generalize upd H3 ln (.lst ((qs.map (·.1)).map V.str))=H4 at s3 e3 hd3 ⊢;refine⟨_,rfl,d,_,rfl,hd3,_,rfl,ln,_,rfl,.inl (.of e3),rfl,_,rfl,?_⟩;rw[bQ_,aa',aa',lns];simp only[bne_self_eq_false,decide_true,Bool.not_true];refine iteF ?_;have s04:=s2.trans s3;refine⟨_,rfl,ln,rfl,⟨_,.of e3⟩,λD hD=>?_⟩;refine an_ (own:=1) (fv:=[some (.ref d)]) (xs:=(qs.map (·.1)).map V.str) rfl gok1 (λi out H'=>Same H4 H'/\H' D=some (.lst out)/\bE' K H' out (stF ((qs.map (·.1)).take i) f)) ⟨Same.new hD,a1_,.nil⟩ (λi out H' _ ⟨sm,_,_⟩=>.of (sm _ _ e3)) (λout H5 ⟨sm,hD5,pa⟩=>?_) (λi y out H' hy ⟨sm,hD',pa⟩=>?_)
  ·rw[aa',an'] at pa;refine⟨D,out,_,rfl,hD5,pa,by rw[bQ_,aa'];omega,λd' hd'=>?_⟩
   have ndk:((stF (qs.map (·.1)) f).map (·.1)).Nodup:=by
    rw[dp_,aO',aK'];exact nd.imp λn e=>n (d__ e)
   rw[bC_ ndk];exact k d' _ ((s04.trans sm).trans (Same.new hd')) (s04.free (sm.free hd')) a1_
  ·obtain⟨n,hn,rfl⟩:=aF_ hy;have hi:i<(qs.map (·.1)).length:=(ab'.mp hn).1;rw[aa'] at hi;have nm:n∈ns:=so.perm.mem_iff.mpr (ad' hn);refine⟨_,rfl,rfl,λNx hN=>yesT ?_⟩;refine⟨_,rfl,_,rfl,_,rfl,d,.str (f n),rfl,?_,by show 2<=sizeLine;decide,λt ht=>?_⟩
   ·rw[<- hM_ (g:=λn=>V.str (f n)) nm];exact .k (k:=Sum.inr n) (sm _ _ hd3)
   have s5:=Same.new (o:=.tup [.str n,.str (f n)]) ht;have lo:=a_1 pa;rw[bQ_,af',aa'] at lo;refine⟨out,s5 _ _ hD',by omega,hN _ _ ⟨aB_ (sm.trans s5) hD,a1_,?_⟩⟩;have ht5:upd H' t (.tup [.str n,.str (f n)]) t=some (.tup [.str n,.str (f n)]):=a1_;have pD:∀{b:Addr} {ys:List V},upd H' t (.tup [.str n,.str (f n)]) b=some (.tup ys)->b≠D:=λhb=>be_ hb (s5 _ _ hD') nofun;rw[cI_ hn];show bE' K _ _ (((qs.map (·.1)).take i++[n]).map _);rw[ag'];exact aN_ (Paired.mapP pa λy kv ⟨b,z,hb⟩=>⟨b,z,by rw[a8_ (pD (s5 _ _ hb))];exact s5 _ _ hb⟩) (.cons ⟨t,rfl,by rw[a8_ (pD ht5)];exact ht5⟩ .nil)
end
variable{C p:Addr}{ts:Xb}{fp:List Addr}
theorem bD'.has{K:F__}{H:Hp}{hs:Xa}(W:bD' K C H p hs ts fp){b:Addr}(hb:b∈fp):∃o,H b=some o:=by
 obtain⟨dx,d1,l2,d3,zs,as,rfl,h1,h2,h3,h4,h5,h6,h7⟩:=W.ex;simp only[ah'] at hb;rcases hb with rfl|rfl|rfl|rfl|hb
 ·exact⟨_,h1⟩
 ·exact⟨_,h2⟩
 ·exact⟨_,h3⟩
 ·exact⟨_,h5⟩
 ·obtain⟨i,hi,e⟩:=aG' hb;exact⟨_,h7 i ((bf' hs)[i]' Z1) b (ae' Z1) (by rw[<- e];exact ae' hi)⟩
variable{g:Addr}{qs:List Pc}
theorem bh'.slim{K:F__}{H:Hp}{hs:Xa}(G:bh' K CG CW H g p hs ts qs fp):∃fp',bh' K CG CW H g p hs ts qs fp'/\∀b∈fp',∃o,H b=some o:=by
 obtain⟨dx,dw,dy,vs,fpw,h1,h2,h3,h4,h5,m1,m2,m3,m4,m5⟩:=G.ex;refine⟨g::dw::dy::(fpw++vs.filterMap λv=>match v with | .ref a=>some a|_=>none),⟨dx,dw,dy,vs,fpw,h1,h2,h3,h4,h5,by simp,by simp,by simp,λb hb=>by simp[hb],λv hv a z=>?_⟩,λb hb=>?_⟩
 ·have:a∈vs.filterMap λv=>match v with | .ref a=>some a|_=>none:=aB'.mpr ⟨v,hv,by rw[z]⟩;simp only[ah',am'];exact .inr (.inr (.inr (.inr this)))
 ·simp only[ah',am'] at hb;rcases hb with rfl|rfl|rfl|hb|hb
  ·exact⟨_,h1⟩
  ·exact⟨_,h3⟩
  ·exact⟨_,h4⟩
  ·exact h2.has hb
  ·obtain⟨v,hv,e⟩:=aB'.mp hb;obtain⟨i,hi,ev⟩:=aG' hv;have le:=a_1 h5;have w:=aA_ h5 i hi Z1;rw[ev] at w;cases o:(qs[i]' Z1).2.2 with
   |none=>
    rw[o] at w;rw[show v=.non from w] at e;cases e
   |some ws=>
    rw[o] at w;obtain⟨a,ys,ea,ha,_⟩:=w;rw[ea] at e;cases e;exact⟨_,ha⟩
section
variable{d d2:Addr}{o:Obj}{kvs:List (Key × V)}{H H' H1:Hp}{u:HO}
theorem Fz.start'(s:Same H H1):Fz d o kvs H (upd H1 d (.frz o (.dK kvs))):=⟨a1_,λb u ne e=>by rw[a8_ ne];exact s _ _ e⟩
theorem Fz.put(f:Fz d o kvs H H')(hn:H d2=none)(ne:d2≠d):Fz d o kvs H (upd H' d2 u):=⟨by rw[a8_ ne.symm];exact f.at_,λb u nb e=>by rw[a8_ (a6_ e hn)];exact f.sm b u nb e⟩
end
structure Placed (K:F__) (CG CW:Addr) (H:Hp) (g p d:Addr) (hs:Xa) (ts:Xb) (qs:List Pc) (fp:List Addr) (f:Str->Str):Prop where
 G:bh' K CG CW H g p hs ts qs fp
 Gd:Good hs ts
 dfp:d∉fp
 hd:H d=some (.dK (stF (qs.map (·.1)) f))
 at_:∀n∈qs.map (·.1),f n∈hs.map (·.1)
 nd:(qs.map (·.1)).Nodup
 h64:qs.length<64
variable{d:Addr}
theorem lp_{H:Hp}{l:Addr}{u:HO}(h:stt H l)(ne:d≠l):stt (upd H d u) l:=by
 rcases h with⟨n,e⟩|⟨n,m,c,e⟩
 ·exact .inl ⟨n,by rw[a8_ ne.symm];exact e⟩
 ·exact .inr ⟨n,m,c,by rw[a8_ ne.symm];exact e⟩
structure Std (K:F__) (CG CW:Addr) (H:Hp) (g p d:Addr) (hs:Xa) (ts:Xb) (qs:List Pc) (fp:List Addr) (ns:List Str) (f:Str->Str):Prop where
 G:bh' K CG CW H g p hs ts qs fp
 Gd:Good hs ts
 dfp:d∉fp
 hd:H d=some (.dK (stF ns f))
 ok:StandOk hs qs ns f
 nd:(qs.map (·.1)).Nodup
 h64:qs.length<64
 wp:∀q∈qs,0<=q.2.1
variable{ns:List Str}{f:Str->Str}{H':Hp}
theorem Std.same{K:F__}{H:Hp}{hs:Xa}(S:Std K CG CW H g p d hs ts qs fp ns f)(s:Same H H'):Std K CG CW H' g p d hs ts qs fp ns f:=⟨S.G.same s,S.Gd,S.dfp,s _ _ S.hd,S.ok,S.nd,S.h64,S.wp⟩
theorem Std.placed{K:F__}{H:Hp}{d':Addr}{hs:Xa}(S:Std K CG CW H g p d hs ts qs fp ns f)(s:Same H H')(hn:H d'=none)(hd:H' d'=some (.dK (stF (qs.map (·.1)) f))):∃fp',Placed K CG CW H' g p d' hs ts qs fp' f:=by
 obtain⟨fp',G',has⟩:=S.G.slim;refine⟨fp',G'.same s,S.Gd,λm=>?_,hd,λn hn=>S.ok.at_ n (S.ok.perm.mem_iff.mpr hn),S.nd,S.h64⟩;obtain⟨o,e⟩:=has d' m;rw[hn] at e;cases e
section
variable{P:Ae}{w:Ag}{K:F__}{mg:Str->Option Aa}{base:Heap}
theorem ew':ba' ["_law_state","_law_pieces_here","_law_hands","_law_stand_here","_law_piece"] ["_law_state","_law_pieces_here","_law_hands"] (a9' sStand):=f__
inductive d3' (K:F__) (vs:List V) (H:Hp) (Q:VK) (E:XK):Prop
 |mk:∀(l lp lh:Addr) (yp yh:List V) (ps:List Pc) (hs:Xa),vs=[.ref l,.ref lp,.ref lh]->stt H l->H lp=some (.lst yp)->lp≠l->b0' K H yp ps->H lh=some (.lst yh)->lh≠l->bb' K H yh (hs.map kH)->0<hs.length->hs.length<=8->ps.length<=30->(ps.map (·.1)).Nodup->(∀d f H',But l H H'->stt H' l->H d=none->H' d=some (.dK (stF (ps.map (·.1)) f))->(∀n∈ps.map (·.1),f n∈hs.map (·.1))->Q (.ref d) H')->d3' K vs H Q E
theorem jQ_{f:Addr}(F:Fun K "_law_stand" "_law_stand" sStand f fd)(B:Bi mg)(cD:Cal P w K mg base 1 "_law_digit" ["_law_state","_law_base"] b9'):FnOk P w K mg base CX0 2 f fd ["_law_state","_law_pieces_here","_law_hands"] (d3' K):=by
 refine F.okA ew' λcdv A outer s H vs Q E hr h=>?_
 ·obtain⟨l,lp,lh,yp,yh,ps,hs,rfl,st,hlp,lpl,pc,hlh,lhl,th,h0,h8,h30,nd,k⟩:=h;have hu:=br_ hr;have sz:=b__;refine' ⟨_,?r0,?kk⟩
  case' r0=>refine' a3_ ?s1 (a3_ ?s2 (a5_ ?s3))
  case s1=>exact ao_ 3 ew'.nd bM_
  case s2=>exact b3_ b_7 rfl (ah_ (pv 1)) (b5_ 4 ew'.nd) (a5_ (c0_ hu (pv 3) (aj_ aO_ (pv 4) a4_ (λ_ _=>rfl)) (aj_ aO_ (aj_ ad_ (pv 2) (al_ cD hr (a0_ (pv 0) (a0_ (a7_ ak_ (by rfl) B.len b_3 (a0_ (pv 2) a2_)) a2_))) (λ_ _=>rfl)) a4_ (λ_ _=>rfl)) rfl))
  case s3=>exact ae_ (pv 3)
  case' kk=>skip
  have lyp:=a_1 pc;have lyh:=a_1 th;rw[aa'] at lyh;intro d hd;have s1:=Same.new (o:=.dK []) hd
  have dl:d≠l:=by
   obtain⟨xs,e⟩:=st.some;exact (a6_ e hd).symm
  have b1:But l H (upd H d (.dK [])):=But.of s1;have e1:upd H d (.dK []) d=some (.dK []):=a1_;have st1:=st.same s1;show tSeq _ _ _ _ (upd H d (.dK []));generalize upd H d (.dK [])=H1 at b1 e1 st1 s1 ⊢;obtain⟨xs0,hl0⟩:=st.some;have lpd:lp≠d:=a6_ hlp hd;refine⟨_,rfl,lp,rfl,⟨_,.of (s1 _ _ hlp)⟩,aV_ (K:=K) (a:=lp) (xs:=yp) (λi σ H'=>∃(v4:Option V) (f:Str->Str),σ=[some (.ref l),some (.ref lp),some (.ref lh),some (.ref d),v4]/\But l H H'/\stt H' l/\H' d=some (.dK (stF ((ps.map (·.1)).take i) f))/\∀n∈(ps.map (·.1)).take i,f n∈hs.map (·.1)) ⟨none,λn=>n,rfl,b1,st1,e1,λn hn=>by simp at hn⟩ (λi σ H' _ ⟨_,_,_,b,_⟩=>.of (b _ _ hlp lpl)) ?_ ?_⟩
  ·rintro i y σ H2 hy ⟨v4,f,rfl,b2,st2,e2,fm⟩;have hi:i<yp.length:=(ab'.mp hy).1;have hip:i<ps.length:=by omega
   obtain⟨t,v,et,ht,_⟩:=aA_ pc i hi hip;rw[(ab'.mp hy).2] at et;subst et;have hn:(ps.map (·.1))[i]? = some (ps[i]'hip).1:=by rw[aw',ae' hip];rfl
   generalize ps[i]'hip=q at ht hn;have tl:t≠l:=be_ ht hl0 nofun;refine⟨_,rfl,_,rfl,_,rfl,lh,_,rfl,.inl (.of (b2 _ _ hlh lhl)),l,(yh.length:Int),rfl,by omega,by omega,st2,λj H3 j0 j1 b3 st3=>?_⟩;obtain⟨j,rfl⟩:=aC' j0;have b13:=b2.trans b3;have hj:j<yh.length:=by omega
   have hyj:yh[j]? = some (yh[j]'hj):=ae' hj;obtain⟨h,hh,a,ea,ha⟩:=aJ_ th hyj;have al:a≠l:=be_ ha hl0 nofun;have ha3:=hpH (b13 _ _ ha al);have ht3:=b13 _ _ ht tl;have e3:=b3 _ _ e2 dl;refine⟨lh,_,_,.ref a,rfl,rfl,.of (b13 _ _ hlh lhl),by rw[bC' Z1 Z1,a1',hyj,ea],a,_,0,_,rfl,rfl,.of ha3,rfl,?_⟩;refine⟨_,rfl,_,rfl,t,_,0,_,rfl,rfl,.of ht3,rfl,d,_,rfl,.k (k:=Sum.inr q.1) e3 (by rw[bQ_,af',aa'];omega),?_⟩;refine⟨_,λm=>if m=q.1 then h.1 else f m,rfl,λb o e nb=>?_,?_,?_,?_⟩
   ·rw[a8_ (a6_ e hd)];exact b13 _ _ e nb
   ·exact lp_ st3 dl
   ·rw[a1_,cI_ hn,i2_ (ji_ nd hn)];congr 2;refine eW_ λm _=>?_;by_cases z:m=q.1
    ·simp[z]
    ·simp[z]
   ·intro m hm;rw[cI_ hn] at hm;show (if m=q.1 then h.1 else f m)∈_;by_cases z:m=q.1
    ·rw[b_0 z];exact ac'.mpr ⟨h,ad' hh,rfl⟩
    ·rw[a_8 z];rcases am'.mp hm with hm|hm
     ·exact fm m hm
     ·exact absurd (by simpa using hm) z
  ·rintro σ H2 ⟨v4,f,rfl,b2,st2,e2,fm⟩;rw[lyp,<- aa' (f:=λq:Pc=>q.1),an'] at e2 fm;exact⟨_,rfl,k d f H2 b2 st2 hd e2 fm⟩
end
variable{H:Hp}{σ:St}
theorem seqG{t u:TS}{D:Ends}(R:St->Hp->Prop)(later:∀σ H,R σ H->u D σ H)(now:∀N:St->Hp->Prop,(∀σ H,R σ H->N σ H)->t { D with nx:=N } σ H):tSeq t u D σ H:=now (u D) later
theorem setG{N:St->Hp->Prop}(h:N (σ.set i (some v)) H):bR' i v σ H N:=h
structure CalC (P:Ae) (w:Ag) (K:F__) (mg:Str->Option Aa) (base:Heap) (C:Addr) (k:Nat) (x:Str) (ps:List Str) (sp:Sp):Prop where
 ex:∃f fd,FnOk P w K mg base CX0 k f fd ps sp/\Mk K C f/\mg x=some (.ref C)/\ck' K fd ps []
theorem mc_{X:Cx}{k:Nat}{x:Str}{ps:List Str}{sp:Sp}{p pos:Pos}{e:Expr}{es:List Expr}{t:TA}(c:CalC X.prog X.w X.K X.mg X.base C k x ps sp)(hr:Room (k+1) X.A)(ha:PA X (e::es) t)(hg:Gl X x:=by rfl)(hdb:(x == ("__debug__":Str))=false:=by decide)(he:starEach (e::es) X.env=(false,eval e X.env)::starEach es X.env:=by rfl)(hpl:(backTo pos (starEach es X.env)).any (·.1)=false:=by rfl):PE X (.Call (.Name x p) (e::es) [] pos) (tMake C sp [] E0 t):=by
 obtain⟨f,fd,F,M,m,b⟩:=c.ex;exact hA_ M F hr hg m b .nil pass0 ha hdb he hpl
structure Lay (K:F__) (CG CW:Addr) (H:Hp) (lh lp g p:Addr) (yh yp:List V) (hs:Xa) (ts:Xb) (ps qs:List Pc) (fp:List Addr):Prop where
 hh:H lh=some (.lst yh)
 th:bb' K H yh (hs.map kH)
 hp:H lp=some (.lst yp)
 pc:b0' K H yp ps
 G:bh' K CG CW H g p hs ts qs fp
structure Sure (hs:Xa) (ts:Xb) (ps qs:List Pc):Prop where
 Gd:Good hs ts
 gp:∀q∈ps,bV' ts q
 nd:(ps.map (·.1)).Nodup
 h30:ps.length<=30
 Q:Qs ps qs
end Ev
namespace L2
open PySem PySem.Spec PyProof.Rows
variable{X:Cx}
def tFmt(t:TE):TE:=λσ H Q=>t σ H λx H1=>(∃z:Str,x=.str z/\z.length<=sizeLine/\Q (.str z) H1)∨∃i:Int,x=.int i/\i.natAbs.log2<1920/\Q (.str (toString i)) H1
variable{pos:Pos}
theorem cA_{v:Expr}{t:TE}(h:PE X v t):PE X (.FormattedValue v (-1) none pos) (tFmt t):=by
 intro pins s σ H Q I ht;refine PySem.wpAny_FormattedValue_plain (thn (h pins s σ H _ I ht) λu s1 ⟨x,H1,I1,r1,q1⟩=>?_);rcases q1 with⟨z,rfl,hz,q⟩|⟨i,rfl,hz,q⟩
 ·obtain⟨tk,rfl⟩:=r1;exact PySem.wpAny_formatField_str ⟨.str z,H1,I1,⟨_,rfl⟩,q⟩ ⟨.str z,H1,I1.tok _,⟨_,rfl⟩,q⟩ hz
 ·obtain⟨tk,rfl⟩:=r1;exact PySem.wpAny_formatField_int hz ⟨.str _,H1,I1.tok _,⟨_,rfl⟩,q⟩
def tJoins:List TE->Str->TE
 |[],acc=>λσ H Q=>acc.length<=sizeLine/\Q (.str acc) H
 |t::ts,acc=>λσ H Q=>t σ H λx H1=>∃y,x=.str y/\(acc++y).length<=sizeLine/\tJoins ts (acc++y) σ H1 Q
inductive PEs (X:Cx):List Expr->List TE->Prop
 |nil:PEs X [] []
 |cons {e:Expr} {t:TE} {es:List Expr} {ts:List TE} (h:PE X e t) (hs:PEs X es ts):PEs X (e::es) (t::ts)
theorem gq_{pins:List (Addr × Obj)}{σ:St}{Q:VK}:∀{es:List Expr} {ts:List TE},PEs X es ts->∀(acc:Str) (s:Ac) (H:Hp),Inv X pins σ H s->tJoins ts acc σ H Q->
  PySem.Joins (model X.prog X.w) X.A X.xe (evalEach es X.env) acc (λout s1=>out.length<=sizeLine/\EP X pins σ Q (.str out s1.toks) { s1 with toks:=s1.toks+1 }) s
 |_,_,.nil,acc,s,H,I,h=>⟨h.1,.str acc,H,I.tok _,⟨_,rfl⟩,h.2⟩
 |_,_,.cons he hs,acc,s,H,I,h=>by
  show wpAny (model X.prog X.w) X.A (eval _ X.env) _ X.xe s;refine thn (he pins s σ H _ I h) λu s1 ⟨x,H1,I1,r1,q1⟩=>?_;obtain⟨y,rfl,hz,q⟩:=q1;obtain⟨tk,rfl⟩:=r1;exact⟨y,tk,rfl,hz,gq_ hs _ s1 H1 I1 q⟩
theorem cW_{e1 e2:Expr}{es:List Expr}{ts:List TE}(h:PEs X (e1::e2::es) ts):PE X (.JoinedStr (e1::e2::es) pos) (tJoins ts Str.empty):=λpins s σ H Q I ht=>
 PySem.wpAny_JoinedStr (gq_ h Str.empty s H I ht)
inductive cl' (xs:List V) (H:Hp) (Q:VK):Prop
 |mk:∀(x:Str) (n:Int),xs=[.str x]->x.length<=640->PySem.intText? x=some n->Q (.int n) H->cl' xs H Q
theorem bv_:bB' X (.type "int") cl':=by
 intro pins s σ H xs us Q I r h;obtain⟨x,n,rfl,hz,hn,q⟩:=h;obtain⟨u,rfl,t,rfl⟩:=vals1 r;exact PySem.W.KIN.call_text hn hz ⟨.int n,H,I.tok _,⟨_,rfl⟩,q⟩
inductive rSlS (x:V) (lo:Option Int) (hi:Option Int) (H:Hp) (Q:VK):Prop
 |mk:∀z,x=.str z->z.length<=sizeLine->Q (.str (Txt.slice z lo hi)) H->rSlS x lo hi H Q
variable{X:Cx}
theorem kj_:SlR X rSlS:=by
 intro pins s σ H x v vl vu lo hi sl Q I rx hs pl pu h;obtain⟨z,rfl,hz,q⟩:=h;obtain⟨t,rfl⟩:=rx;refine⟨"str",_,PySem.F.slot_str_getitem.lookup,typeIs_str _ _ _,?_⟩
 have fin:∀lo hi,Q (.str (Txt.slice z lo hi)) H->(Txt.slice z lo hi).length<=sizeLine/\∀t' k,EP X pins σ Q (.str (Txt.slice z lo hi) t') { s with toks:=k }:=λlo hi q=>
  ⟨a7' (Txt.slice_le z _ _) hz,λt' k=>⟨.str _,H,I.kept (h':=s.heap) (t':=k) λ_ _ e=>e,⟨t',rfl⟩,q⟩⟩
 cases pl with
 |none=>
  cases pu with
  |none=>exact wpAny_getItem_str_slice (l:=none) (u:=none) (st:=none) hs rfl (post_val_or_str (fin _ _ q))
  |int j u=>exact wpAny_getItem_str_slice (l:=none) (u:=some (j,u)) (st:=none) hs rfl (post_val_or_str (fin _ _ q))
 |int i u=>
  cases pu with
  |none=>exact wpAny_getItem_str_slice (l:=some (i,u)) (u:=none) (st:=none) hs rfl (post_val_or_str (fin _ _ q))
  |int j u'=>exact wpAny_getItem_str_slice (l:=some (i,u)) (u:=some (j,u')) (st:=none) hs rfl (post_val_or_str (fin _ _ q))
theorem m8_{x:Str}{j:Nat}(h:j<=x.length):(Txt.slice x none (some (j:Int))).cps.toList=x.cps.toList.take j:=by
 have:=eq_of_beq (slice_closes_toL (x:=x) (j:=(j:Int)) Z1 Z1);rw[this];simp
theorem jH_{x:Str}{i:Nat}(h:i<=x.length):(Txt.slice x (some (i:Int)) none).cps.toList=x.cps.toList.drop i:=by
 rw[slice_from_eq (x:=x) (i:=(i:Int)) (b:=(x.length:Int)) Z1 Z1 rfl]
 have:((x.length:Int) - (i:Int)).toNat=x.cps.toList.length - i:=by
  have:x.length=x.cps.toList.length:=by rw[aP'];rfl
  omega
 rw[this];simp;rw[aI'];simp
open PySem.Builtin PySem.Builtin.Str
theorem gE_:∀{ss:List Str} {us:List Aa},Vals (ss.map V.str) us->StrsAre us ss
 |[],_,.nil=>.nil
 |x::ss,_,.cons r rs=>by
  obtain⟨t,rfl⟩:=r;exact .cons x t (gE_ rs)
theorem fD_:∀(l:List (Str × Tok)),Vals ((l.map (·.1)).map V.str) (strValues l)
 |[]=>.nil
 |(x,t)::l=>.cons ⟨t,rfl⟩ (fD_ l)
inductive rJoin (K:F__) (x:V) (vs:List V) (H:Hp) (Q:VK):Prop
 |mk:∀(sep:Str) (p:Addr) (ss:List Str),x=.str sep->vs=[.ref p]->SqL K H p (ss.map V.str)->(ss.map (·.length)).sum+ss.length * sep.length<=16777216->Q (.str (Txt.join sep ss)) H->rJoin K x vs H Q
theorem bs_:MtM X "str.join" (rJoin X.K):=by
 intro pins s σ H x vs v us Q I rx rv h;obtain⟨sep,p,ss,rfl,rfl,hp,hz,q⟩:=h;obtain⟨t,rfl⟩:=rx;obtain⟨u,rfl,ru⟩:=rv.one;cases (show u=Value.ref p from ru);obtain⟨its,r,ht,_⟩:=I.list hp;exact join_list ht.isList (gE_ r) hz λt' k=>⟨.str _,H,I.tok k,⟨t',rfl⟩,q⟩
end L2
namespace Ev
open PySem L2
variable{fd:Af}
section
variable{P:Ae}{w:Ag}{K:F__}{mg:Str->Option Aa}{base:Heap}
def tieT(t:Str × Str):Str:=Str.empty++t.1++("-":Str)++t.2
def bn':Option (Xb)->Str
 |none=>"free"
 |some []=>"fixed"
 |some (t::ts)=>Txt.join "," ((t::ts).map tieT)
theorem dw_(t:Str × Str):(tieT t).length=t.1.length+1+t.2.length:=by
 unfold tieT;rw[a_3,a_3,a_3];show 0+t.1.length+1+t.2.length=_;omega
theorem do_:∀{ts:Xb},(∀t∈ts,t.1.length<=8/\t.2.length<=8)->((ts.map tieT).map (·.length)).sum<=17 * ts.length
 |[],_=>aJ' _
 |t::ts,h=>by
  have h1:=h t Z2;have h2:=do_ (ts:=ts) λx hx=>h x (by simp[hx]);rw[au',au',List.sum_cons,aA'];have:=dw_ t;show (tieT t).length+_<=_;omega
theorem lj_{H:Hp}:∀{ys:List V} {ts:Xb},bb' K H ys (ts.map kT)->Paired (r2 K rS rS H) ys ts
 |_,[],.nil=>.nil
 |_,t::ts,.cons ⟨a,e,h⟩ r=>.cons ⟨a,.str t.1,.str t.2,e,.of h,rfl,rfl⟩ (lj_ r)
theorem e3':ba' ["ways"] ["ways"] (a9' dm'):=f__
def cO'(K:F__):Sp:=λvs H Q _=>∃(v:V) (o:Option (Xb)),vs=[v]/\WyAt K H v o/\(∀ws,o=some ws->ws.length<=1000/\∀t∈ws,t.1.length<=8/\t.2.length<=8)/\∀H',Same H H'->Q (.str (bn' o)) H'
theorem fL_{f:Addr}(F:Fun K "ways_text" "ways_text" dm' f fd):FnOk P w K mg base CX0 3 f fd ["ways"] (cO' K):=by
 refine F.okA e3' λcdv A outer s H vs Q E hr h=>?_
 ·obtain⟨v,o,rfl,wy,hz,k⟩:=h;have sz:=b__;refine' ⟨_,a3_ ?s1 (a3_ ?s2 (a5_ ?s3)),?kk⟩
  case s1=>exact aw_ (bg_ (cT_ (pv 0))) (a5_ (ae_ a9_)) aa_
  case s2=>exact aw_ (ar_ (ke_ (cmp2 cmpS cmpS) (e6' hr _)) (pv 0) (av_ a2_) (nomark _)) (a5_ (ae_ a9_)) aa_
  case' s3=>refine' ae_ (bl_ b_1 c_0 c__ bs_ a9_ (a0_ (aR_ ["one","other"] 2 [] (ah_ (pv 0)) (λfp s H=>c2_ (n:=2) (ai_ (aY_ 0) (ai_ (aY_ 1) b4_)))
   (λfp s H=>aT_) (λfp s H=>?j)) a2_))
  case j=>exact cW_ (.cons (cA_ (pv 0)) (.cons a9_ (.cons (cA_ (pv 1)) .nil)))
  case' kk=>skip
  cases o with
  |none=>
   cases (show v=.non from wy);exact⟨_,rfl,_,rfl,iteT (k H (Same.refl H))⟩
  |some ws=>
   obtain⟨a,ys,rfl,ha,tu⟩:=wy;obtain⟨wz,wl⟩:=hz ws rfl;refine⟨_,rfl,_,rfl,iteF ?_⟩;refine⟨_,rfl,by show 0<=sizeLine;decide,λl nl=>?_⟩;obtain⟨s1,k1⟩:=nw__ (o:=.lst []) nl;generalize upd H l (.lst [])=H1 at s1 k1 ⊢;have tu1:=tu.same s1;refine⟨ws,[],⟨a,ys,rfl,.of (s1 _ _ ha),?_⟩,⟨l,[],rfl,.of k1,.nil⟩,_,rfl,?_⟩
   ·exact lj_ tu1
   cases ws with
   |nil=>exact iteT (k _ s1)
   |cons w0 wr=>
    rw[a_4 Z2];refine iteF ?_;refine⟨rfl,_,rfl,a,rfl,⟨_,.of (s1 _ _ ha)⟩,λD hD=>?_⟩;have le:=a_1 tu1;rw[aa'] at le;refine an_ (own:=2) (fv:=[]) (xs:=ys) rfl gok2 (λi out H'=>Same H1 H'/\H' D=some (.lst out)/\out=(((w0::wr).take i).map tieT).map V.str) ⟨Same.new hD,a1_,rfl⟩ (λi out H' _ ⟨sm,_,_⟩=>.of (sm _ _ (s1 _ _ ha))) (λout H' ⟨sm,hd,eo⟩=>?_) (λi x out H' hx ⟨sm,hd,eo⟩=>?_)
    ·rw[le,an'] at eo;refine⟨",",D,_,rfl,rfl,.of (by rw[hd,eo]),?_,k _ (s1.trans sm)⟩;have:=do_ wl;rw[aa'];show _+_ * 1<=_;omega
    ·obtain⟨t,ht,b,rfl,hb⟩:=aJ_ tu1 hx;have wt:=wl t (ad' ht);refine⟨_,⟨b,_,_,rfl,.of (sm _ _ (hpT hb)),rfl⟩,rfl,λNx hN=>yesT ?_⟩;refine⟨_,rfl,.inl ⟨t.1,rfl,by omega,_,rfl,?_,_,rfl,?_,_,rfl,.inl ⟨t.2,rfl,by omega,_,rfl,?_,?_,out,hd,?_,?_⟩⟩⟩
     ·rw[a_3];show 0+t.1.length<=_;omega
     ·rw[a_3,a_3];show 0+t.1.length+1<=_;omega
     ·have:=dw_ t;show (tieT t).length<=_;omega
     ·have:=dw_ t;show (tieT t).length<=_;omega
     ·rw[eo,aa',aa',af'];omega
     ·refine hN (out++[.str (tieT t)]) _ ⟨aB_ sm hD,a1_,?_⟩;rw[eo,aq_ _ ht,ag'];rfl
end
def cq'(n:Str)(k:Int):Str:=Str.empty++("hand ":Str)++n++(" ":Str)++(toString k:Str)
def tieR(t:Str × Str):Str:=Str.empty++("tie ":Str)++t.1++(" ":Str)++t.2
def webR(hs:Xa)(ts:Xb):List Str:=(bf' hs).map (λn=>cq' n (strOf hs n))++(tsOf ts).map tieR
variable{k:Int}
theorem e0_{n:Str}(hn:n.length<=8)(k0:0<=k)(k1:k<10 ^ 10):(cq' n k).length<=24:=by
 have h:=PySem.W.KT.len_num k0 k1;unfold cq';rw[a_3,a_3,a_3,a_3];show 0+5+n.length+1+(PySem.Str.ofString (toString k)).length<=_;omega
variable{t:Str × Str}
theorem gv_(h1:t.1.length<=8)(h2:t.2.length<=8):(tieR t).length<=24:=by
 unfold tieR;rw[a_3,a_3,a_3,a_3];show 0+4+t.1.length+1+t.2.length<=_;omega
theorem cK_{hs:Xa}{ts:Xb}(G:Good hs ts){n:Str}(h:n∈bf' hs):1<=strOf hs n/\strOf hs n<=1000:=(G.hok _ (bV_ ((aM_ hs).mem_iff.mp h))).2
theorem fg_{hs:Xa}{ts:Xb}(G:Good hs ts){n:Str}(h:n∈bf' hs):n.length<=8:=ag_ (G.hok _ (bV_ ((aM_ hs).mem_iff.mp h))).1
theorem gM_{hs:Xa}{ts:Xb}(G:Good hs ts)(h:t∈tsOf ts):t.1.length<=8/\t.2.length<=8:=by
 obtain⟨u,hu,rfl⟩:=bp'.mp h;obtain⟨a,b,_⟩:=G.tok u hu;have a:=ag_ a;have b:=ag_ b;unfold ord2;split
 ·exact⟨a,b⟩
 ·exact⟨b,a⟩
section
variable{P:Ae}{w:Ag}{K:F__}{mg:Str->Option Aa}{base:Heap}
theorem cv':ba' ["web","rows","hand","strength"] ["web"] (a9' dJ'):=f__
inductive cE' (K:F__) (C:Addr) (vs:List V) (H:Hp) (Q:VK) (E:XK):Prop
 |mk:∀(p:Addr) (hs:Xa) (ts:Xb) (fp:List Addr),vs=[.ref p]->bD' K C H p hs ts fp->Good hs ts->(∀l H',Same H H'->H l=none->H' l=some (.lst ((webR hs ts).map V.str))->Q (.ref l) H')->cE' K C vs H Q E
theorem h8_{f C:Addr}(F:Fun K "web_rows" "web_rows" dJ' f fd)(T:Txt K mg C)(cH:CalM P w K mg base C 1 "hands" ["self"] (dK' K C))(cS:CalM P w K mg base C 2 "strength" ["self","hand"] (ch' K C))(cT:CalM P w K mg base C 2 "ties" ["self"] (dI' K C)):FnOk P w K mg base CX0 3 f fd ["web"] (cE' K C):=by
 refine F.okA cv' λcdv A outer s H vs Q E hr h=>?_
 ·obtain⟨p,hs,ts,fp,rfl,W,G,k⟩:=h;have sz:=b__;have hr1:Room 1 _:=hr.mono (by decide);have hr2:Room 2 _:=hr.mono (by decide);refine' ⟨_,a3_ ?s1 (a3_ ?s2 (a5_ ?s3)),?kk⟩
  case s1=>exact ao_ 1 cv'.nd (av_ a2_)
  case' s2=>refine' b3_ b_7 rfl (ah_ (fv_ cH T.cl hr1 (pv 0))) (b5_ 2 cv'.nd) (a3_ ?b1 (a5_ ?b2))
  case b1=>exact ao_ 3 cv'.nd (dj_ cS T.cl hr2 (pv 0) (a0_ (pv 2) a2_))
  case b2=>exact bP_ (bl_ d_0 d_6 d_5 bn_ (pv 1) (a0_ (cW_ (.cons a9_ (.cons (cA_ (pv 2)) (.cons a9_ (.cons (cA_ (pv 3)) .nil))))) a2_))
  case' s3=>refine' ae_ (af_ aI_ (pv 1) (aR_ ["one","other"] 2 [] (ah_ (fv_ cT T.cl hr2 (pv 0))) (λfp s H=>c2_ (n:=2) (ai_ (aY_ 0) (ai_ (aY_ 1) b4_)))
   (λfp s H=>aT_) (λfp s H=>?j)))
  case j=>exact cW_ (.cons a9_ (.cons (cA_ (pv 0)) (.cons a9_ (.cons (cA_ (pv 1)) .nil))))
  case' kk=>skip
  refine⟨by show 0<=sizeLine;decide,λlr nr=>?_⟩;obtain⟨s1,e1⟩:=nw__ (o:=.lst []) nr;refine setG ?_;dsimp only;generalize upd H lr (.lst [])=H1 at s1 e1 ⊢;have W1:=W.same s1;have w1x:=id W1.ex;obtain⟨dxw,d1,l2,d3,zs0,as,ef,w1,_⟩:=w1x;refine⟨_,rfl,p,dxw,_,rfl,w1,c4_ _ _ _ Z0 Z0 Z0,p,hs,ts,fp,rfl,W1,λlh nh=>?_⟩;obtain⟨s2,e2⟩:=nw__ (o:=.lst ((bf' hs).map V.str)) nh;generalize upd H1 lh (.lst ((bf' hs).map V.str))=H2 at s2 e2 ⊢;have ne:lr≠lh:=a6_ e1 nh;have nl8:(bf' hs).length<=8:=by have:=G.nlen;have:=G.h8;omega
  refine⟨lh,rfl,⟨_,.of e2⟩,aV_ (K:=K) (a:=lh) (xs:=(bf' hs).map V.str) (λi σ H3=>∃v2 v3:Option V,σ=[some (.ref p),some (.ref lr),v2,v3]/\Same H H3/\H3 lh=some (.lst ((bf' hs).map V.str))/\H3 lr=some (.lst ((((bf' hs).take i).map λn=>cq' n (strOf hs n)).map V.str))) ⟨none,none,rfl,s1.trans s2,e2,s2 _ _ e1⟩ (λi σ H3 _ ⟨_,_,_,_,hh,_⟩=>.of hh) ?_ ?_⟩
  ·rintro i y σ H3 hy ⟨v2,v3,rfl,sm,hh,hlr⟩;obtain⟨n,hn,rfl⟩:=aF_ hy;have hm:=ad' hn;have sk:=cK_ G hm;have nl:=fg_ G hm;have W3:=W.same sm;obtain⟨dxw,d1,l2,d3,zs0,as,ef,w1,_⟩:=id W3.ex;refine⟨_,rfl,p,dxw,_,rfl,w1,c4_ _ _ _ Z0 Z0 Z0,_,rfl,p,n,strOf hs n,hs,ts,fp,rfl,W3,G.hnd,bV_ ((aM_ hs).mem_iff.mp hm),?_⟩;refine setG ?_;dsimp only;have hl:=e0_ (n:=n) (k:=strOf hs n) nl Z1 Z1;have tl:=PySem.W.KT.len_num (n:=strOf hs n) Z1 Z1;refine⟨_,rfl,.inl ⟨rfl,_,.of hlr⟩,_,rfl,?_,_,rfl,.inl ⟨n,rfl,by omega,_,rfl,?_,_,rfl,?_,_,rfl,.inr ⟨strOf hs n,rfl,?_,_,rfl,?_,?_,lr,_,_,rfl,rfl,hlr,?_,?_⟩⟩⟩
   ·show (0+5:Nat)<=_;omega
   ·rw[a_3,a_3];show 0+5+n.length<=_;omega
   ·rw[a_3,a_3,a_3];show 0+5+n.length+1<=_;omega
   ·exact Nat.lt_of_le_of_lt (Nat.log2_le_self _) Z1
   ·show (cq' n (strOf hs n)).length<=_;omega
   ·show (cq' n (strOf hs n)).length<=_;omega
   ·rw[aa',aa',af'];omega
   ·refine⟨_,_,rfl,aB_ sm nr,by rw[a8_ ne.symm];exact hh,?_⟩;rw[a1_,cI_ hn,ag',ag'];rfl
  ·rintro σ H3 ⟨v2,v3,rfl,sm,hh,hlr⟩;rw[aa',an'] at hlr;have W3:=W.same sm;obtain⟨dxw,d1,l2,d3,zs0,as,ef,w1,_⟩:=id W3.ex;refine⟨_,rfl,_,rfl,p,dxw,_,rfl,w1,c4_ _ _ _ Z0 Z0 Z0,p,hs,ts,fp,rfl,W3,G.t64,λlt zs H4 s4 nt hlt tz=>?_⟩;refine⟨lt,rfl,⟨_,.of hlt⟩,λD hD=>?_⟩;have le:=a_1 tz;rw[aa'] at le;have t64:=G.t64;have tl:=aX_ ts;refine an_ (own:=2) (fv:=[]) (xs:=zs) rfl gok2 (λi out H'=>Same H4 H'/\H' D=some (.lst out)/\out=(((tsOf ts).take i).map tieR).map V.str) ⟨Same.new hD,a1_,rfl⟩ (λi out H' _ ⟨sm,_,_⟩=>.of (sm _ _ hlt)) (λout H' ⟨sm2,hd,eo⟩=>?_) (λi x out H' hx ⟨sm2,hd,eo⟩=>?_)
   ·rw[le,an'] at eo;have hlr':=sm2 _ _ (s4 _ _ hlr);refine⟨lr,D,_,_,rfl,rfl,hlr',hd,?_,λq nq=>?_⟩
    ·rw[eo,aa',aa',aa',aa'];omega
    ·have s5:=Same.new (o:=.lst ((((bf' hs).map λn=>cq' n (strOf hs n)).map V.str)++out)) nq;have sa:=(sm.trans s4).trans sm2;refine k q _ (sa.trans s5) (sa.free nq) ?_;rw[a1_,eo,<- ag'];rfl
   ·obtain⟨t,ht,b,rfl,hb⟩:=aJ_ tz hx;have wt:=gM_ G (ad' ht);have lt:=gv_ wt.1 wt.2;refine⟨_,⟨b,_,_,rfl,.of (sm2 _ _ (hpT hb)),rfl⟩,rfl,λNx hN=>yesT ?_⟩;refine⟨_,rfl,?_,_,rfl,.inl ⟨t.1,rfl,by omega,_,rfl,?_,_,rfl,?_,_,rfl,.inl ⟨t.2,rfl,by omega,_,rfl,?_,?_,out,hd,?_,?_⟩⟩⟩
    ·show (0+4:Nat)<=_;omega
    ·rw[a_3,a_3];show 0+4+t.1.length<=_;omega
    ·rw[a_3,a_3,a_3];show 0+4+t.1.length+1<=_;omega
    ·show (tieR t).length<=_;omega
    ·show (tieR t).length<=_;omega
    ·rw[eo,aa',aa',af'];omega
    ·refine hN (out++[.str (tieR t)]) _ ⟨aB_ sm2 hD,a1_,?_⟩;rw[eo,aq_ _ ht,ag'];rfl
theorem dm_{hs:Xa}{ts:Xb}(G:Good hs ts):(webR hs ts).length<=71/\∀x∈webR hs ts,x.length<=24:=by
 constructor
 ·unfold webR;rw[aj',aa',aa',aX_,G.nlen];have:=G.h8;have:=G.t64;omega
 ·intro x hx;rcases am'.mp hx with hx|hx
  ·obtain⟨n,hn,rfl⟩:=ac'.mp hx;have sk:=cK_ G hn;exact e0_ (fg_ G hn) Z1 Z1
  ·obtain⟨t,ht,rfl⟩:=ac'.mp hx;exact gv_ (gM_ G ht).1 (gM_ G ht).2
theorem iq_{ss:List Str}{m:Nat}(h:∀x∈ss,x.length<=m):(ss.map (·.length)).sum<=m * ss.length:=by
 induction ss with
 |nil=>exact aJ' _
 |cons x xs ih=>
  have h1:=h x Z2;have h2:=ih λy hy=>h y (by simp[hy]);rw[au',List.sum_cons,aA',Nat.mul_succ];show x.length+_<=_;omega
end
def cF'(n:Str)(k:Int)(h w:Str):Str:=Str.empty++("piece ":Str)++n++(" ":Str)++(toString k:Str)++(" ":Str)++h++(" ":Str)++w
def bj'(f:Str->Str)(q:Pc):Str:=cF' q.1 q.2.1 (f q.1) (bn' q.2.2)
def bW'(hs:Xa)(ts:Xb)(qs:List Pc)(f:Str->Str):Str:=Txt.join "\n" (webR hs ts++qs.map (bj' f))
structure PcT (q:Pc):Prop where
 n:q.1.length<=8
 w0:0<=q.2.1
 w1:q.2.1<10 ^ 10
 ws:∀ws,q.2.2=some ws->ws.length<=1000/\∀t∈ws,t.1.length<=8/\t.2.length<=8
 wl:(bn' q.2.2).length<=2000
theorem eh_{n h w:Str}(hn:n.length<=8)(hh:h.length<=8)(k0:0<=k)(k1:k<10 ^ 10)(hw:w.length<=2000):(cF' n k h w).length<=2040:=by
 have h:=PySem.W.KT.len_num k0 k1;unfold cF';rw[a_3,a_3,a_3,a_3,a_3,a_3,a_3,a_3];show 0+6+n.length+1+(PySem.Str.ofString (toString k)).length+1+_+1+w.length<=_;omega
variable{f:Addr}
section
variable{P:Ae}{w:Ag}{K:F__}{mg:Str->Option Aa}{base:Heap}
theorem bo':ba' ["goods","stand","placed","rows","piece","hand","weight","ways"] ["goods","stand"] (a9' cg'):=f__
inductive bs' (K:F__) (CG CW:Addr) (vs:List V) (H:Hp) (Q:VK) (E:XK):Prop
 |mk:∀(g p d:Addr) (hs:Xa) (ts:Xb) (qs:List Pc) (fp:List Addr) (ns:List Str) (f:Str->Str),vs=[.ref g,.ref d]->Std K CG CW H g p d hs ts qs fp ns f->(∀q∈qs,PcT q)->(∀H',Same H H'->Q (.str (bW' hs ts qs f)) H')->bs' K CG CW vs H Q E
theorem f3_{CG CW CP:Addr}(F:Fun K "goods_text" "goods_text" cg' f fd)(T:TxtG K CG)(cC:Cal P w K mg base 2 "checked_stand" ["goods","stand"] (c3' K CG CW))(cR:Cal P w K mg base 3 "web_rows" ["web"] (cE' K CW))(cW:CalX P w K mg base CG 2 "weight" ["self","piece"] (cI' K CG CW CP))(cY:CalX P w K mg base CG 2 "ways" ["self","piece"] (dR' K CG CW CP))(cT:Cal P w K mg base 3 "ways_text" ["ways"] (cO' K)) :
  FnOk P w K mg base CX0 4 f fd ["goods","stand"] (bs' K CG CW):=by
 refine F.okA bo' λcdv A outer s H vs Q E hr h=>?_
 ·obtain⟨g,p,d,hs,ts,qs,fp,ns,f,rfl,S,pq,k⟩:=h;have hu:=br_ hr;have sz:=b__;have hr2:Room 2 _:=hr.mono (by decide);have hr3:Room 3 _:=hr.mono (by decide);refine' ⟨_,?r0,?kk⟩
  case' r0=>refine' a3_ ?s1 ?r1
  case' r1=>refine' a3_ ?s2 ?r2
  case' r2=>refine' a3_ ?s3 (a5_ ?s4)
  case s1=>exact ao_ 2 bo'.nd (al_ cC hr2 (a0_ (pv 0) (a0_ (pv 1) a2_)))
  case s2=>exact ao_ 3 bo'.nd (al_ cR hr3 (a0_ (bS_ (pv 0) rfl) a2_))
  case' s3=>refine' fN_ (b3_ b_7 rfl ?i2 ?g2 (a3_ ?b1 (a3_ ?b2 (a5_ ?b3))))
  case i2=>exact et_ (ds_ (pv 2))
  case g2=>exact ch_ rfl (ai_ (b5_ 4 bo'.nd) (ai_ (b5_ 5 bo'.nd) b4_))
  case b1=>exact ao_ 6 bo'.nd (md_ cW T.cl hr2 (pv 0) (a0_ (pv 4) a2_))
  case b2=>exact ao_ 7 bo'.nd (al_ cT hr3 (a0_ (md_ cY T.cl hr2 (pv 0) (a0_ (pv 4) a2_)) a2_))
  case b3=>exact bP_ (bl_ d_0 d_6 d_5 bn_ (pv 3) (a0_ (cW_ (.cons a9_ (.cons (cA_ (pv 4)) (.cons a9_ (.cons (cA_ (pv 6)) (.cons a9_ (.cons (cA_ (pv 5)) (.cons a9_ (.cons (cA_ (pv 7)) .nil))))))))) a2_))
  case s4=>exact ae_ (bl_ b_1 c_0 c__ bs_ a9_ (a0_ (pv 3) a2_))
  case' kk=>skip
  refine⟨_,rfl,_,rfl,g,p,d,hs,ts,qs,fp,ns,f,rfl,S.G,S.dfp,S.hd,S.ok,S.nd,S.h64,λdp H1 s1 n1 e1=>?_⟩;refine setG ?_;dsimp only;obtain⟨fpx,Pl⟩:=S.placed s1 n1 e1;obtain⟨dx,dw,dy,vs,fpw,h1,h2,h3,h4,h5,m1,m2,m3,m4,m5⟩:=id Pl.G.ex;refine⟨_,rfl,g,CG,dx,_,_,rfl,h1,T.cl,T.nW,gc_ _ _ _,p,hs,ts,fpw,rfl,h2,S.Gd,λlr H2 s2 n2 e2=>?_⟩;refine setG ?_;dsimp only;have lrd:lr≠dp:=(a6_ Pl.hd n2).symm;refine⟨dp,_,s2 _ _ Pl.hd,?_⟩;refine⟨_,rfl,dp,_,rfl,s2 _ _ Pl.hd,λv hv=>?_⟩;obtain⟨s3,hv1⟩:=nw__ (o:=bG' v dp) hv;have e3:=s3 _ _ e2;have s03:=s2.trans s3;generalize upd H2 v (bG' v dp)=H7 at s3 hv1 e3 s03 ⊢;refine⟨v,dp,_,rfl,hv1,s03 _ _ Pl.hd,λo=>?_⟩;refine dE_ (λi σ H'=>∃(v4 v5 v6 v7:Option V),σ=[some (.ref g),some (.ref d),some (.ref dp),some (.ref lr),v4,v5,v6,v7]/\Fz dp o (stF (qs.map (·.1)) f) H1 H'/\H' lr=some (.lst ((webR hs ts++(qs.take i).map (bj' f)).map V.str))) ⟨none,none,none,none,rfl,Fz.start' s03,?_⟩ (λi σ H' _ ⟨_,_,_,_,_,z,_⟩=>z.at_) ?_ ?_
  ·rw[a8_ lrd,e3,List.take_zero,List.map_nil,aF']
  ·rintro i ky x σ H8 hx ⟨v4,v5,v6,v7,rfl,fz,e8⟩ t ht;obtain⟨n,hn,rfl,rfl⟩:=hQ_ hx
   have hi:i<qs.length:=by
    have:=(ab'.mp hn).1;rwa [aa'] at this
   have hq:qs[i]? = some (qs[i]'hi):=ae' hi
   have en:n=(qs[i]'hi).1:=by
    rw[aw',hq] at hn;exact (b_2 hn).symm
   have fm:f n∈bf' hs:=(aM_ hs).mem_iff.mpr (Pl.at_ n (ad' hn));generalize qs[i]'hi=q at hq en;subst en;have qm:=ad' hq;have pt:=pq q qm;have s8:=Same.new (o:=.tup [.str q.1,.str (f q.1)]) ht;have fz2:=fz.step s8;have e9:=s8 _ _ e8;have et:upd H8 t (.tup [.str q.1,.str (f q.1)]) t=some (.tup [.str q.1,.str (f q.1)]):=a1_;show gTup _ _ _ _ _ (upd H8 t (.tup [.str q.1,.str (f q.1)])) _;generalize upd H8 t (.tup [.str q.1,.str (f q.1)])=H9 at s8 fz2 e9 et ⊢;refine⟨t,_,rfl,.of et,rfl,_,_,rfl,_,_,rfl,rfl,?_⟩;have G9:=fz2.goods Pl.hd Pl.G Pl.dfp;obtain⟨dx,dw,dy,vs,fpw,h1,h2,h3,h4,h5,m1,m2,m3,m4,m5⟩:=id G9.ex;have hno:(gflds p dw dy).lookup ("weight":Str)=none:=by_ _ _ _ Z0 Z0 Z0;have hny:(gflds p dw dy).lookup ("ways":Str)=none:=by_ _ _ _ Z0 Z0 Z0;refine⟨_,rfl,g,dx,_,rfl,h1,hno,_,rfl,g,p,.str q.1,some q.1,hs,ts,qs,fpx,rfl,G9,Pl.nd,rfl,.inl ⟨q,qm,rfl,?_⟩⟩;refine setG ?_;dsimp only;refine⟨_,rfl,g,dx,_,rfl,h1,hny,_,rfl,g,p,.str q.1,some q.1,hs,ts,qs,fpx,rfl,G9,Pl.nd,rfl,.inl ⟨q,qm,rfl,λws e=>(pt.ws ws e).1,λv' H10 s10 wy _=>?_⟩⟩;refine⟨v',q.2.2,rfl,wy,pt.ws,λH11 s11=>?_⟩;refine setG ?_;dsimp only;have e11:=s11 _ _ (s10 _ _ e9);have fz3:=(fz2.step s10).step s11;have c0:(Str.empty:Str).length=0:=rfl;have c6:("piece ":Str).length=6:=rfl;have c1:(" ":Str).length=1:=rfl;have l1:=pt.n;have l2:=pt.wl;have l3:=fg_ S.Gd fm;have l4:=PySem.W.KT.len_num pt.w0 pt.w1;have l5:((toString q.2.1:Ai):Str).length<=10:=l4;have w0:=pt.w0;have w1:=pt.w1;refine⟨_,rfl,.inl ⟨rfl,_,.of e11⟩,_,rfl,?_,_,rfl,.inl ⟨q.1,rfl,by omega,_,rfl,?_,_,rfl,?_,_,rfl,.inr ⟨q.2.1,rfl,?_,_,rfl,?_,_,rfl,?_,_,rfl,.inl ⟨f q.1,rfl,by omega,_,rfl,?_,_,rfl,?_,_,rfl,.inl ⟨bn' q.2.2,rfl,by omega,_,rfl,?_,?_,lr,_,_,rfl,rfl,e11,?_,?_⟩⟩⟩⟩⟩
   ·simp only[a_3,c0,c6,c1];omega
   ·simp only[a_3,c0,c6,c1];omega
   ·simp only[a_3,c0,c6,c1];omega
   ·by_cases z:q.2.1.natAbs=0
    ·rw[z];decide
    ·exact (Nat.log2_lt z).mpr (ar' (show q.2.1.natAbs<2 ^ 64 by omega) (Nat.pow_le_pow_right (by decide) (by decide)))
   ·simp only[a_3,c0,c6,c1];omega
   ·simp only[a_3,c0,c6,c1];omega
   ·simp only[a_3,c0,c6,c1];omega
   ·simp only[a_3,c0,c6,c1];omega
   ·simp only[a_3,c0,c6,c1];omega
   ·simp only[a_3,c0,c6,c1];omega
   ·have:=(dm_ S.Gd).1;have:=Pl.h64;rw[aa',aj',aa',af'];omega
   ·refine⟨_,_,_,_,rfl,fz3.put n2 lrd,?_⟩
    have e5:webR hs ts++(qs.take (i+1)).map (bj' f)=(webR hs ts++(qs.take i).map (bj' f))++[bj' f q]:=by
     rw[aH',hq];simp
    have e6:(webR hs ts++(qs.take (i+1)).map (bj' f)).map V.str=(webR hs ts++(qs.take i).map (bj' f)).map V.str++[V.str (bj' f q)]:=by
     rw[e5,ag'];rfl
    rw[a1_,e6];rfl
  rintro σ H8 ⟨v4,v5,v6,v7,rfl,fz,e8⟩;refine⟨o,fz.at_,?_⟩;rw[bQ_,aa',an'] at e8;obtain⟨a1,a2⟩:=dm_ S.Gd;have h64:=Pl.h64
  have al:∀x∈webR hs ts++qs.map (bj' f),x.length<=2040:=λx hx=>by
   rcases am'.mp hx with hx|hx
   ·have:=a2 x hx;omega
   ·obtain⟨q,hq,rfl⟩:=ac'.mp hx;have pt:=pq q hq;exact eh_ pt.n (fg_ S.Gd ((aM_ hs).mem_iff.mpr (Pl.at_ q.1 (ac'.mpr ⟨q,hq,rfl⟩)))) pt.w0 pt.w1 pt.wl
  have sl:=iq_ al;refine⟨rfl,_,rfl,"\n",lr,_,rfl,rfl,.of (by rw[a8_ lrd];exact e8),?_,k _ (s1.trans (fz.thaw Pl.hd))⟩;rw[aj',aa'] at sl;rw[aj',aa'];show _+_ * 1<=_;omega
end
def okd(c:Nat):Bool:=decide (48<=c)&&decide (c<=57)
def figB(x:Str):Bool:=decide (1<=x.length)&&decide (x.length<=10)&&x.cps.toList.all okd&&(!decide (atI x.cps.toList 0=some 48) || decide (x="0"))
variable{c:Nat}
theorem lM_:(!decide ((⟨#[c]⟩:Str).cps.toList<("0":Str).cps.toList))=decide (48<=c):=by
 have e:("0":Str).cps.toList=[48]:=by decide +kernel
 rw[e];show (!decide ([c] < [48]))=decide (48<=c);by_cases h:48<=c
 ·have:¬[c] < [48]:=by simp[aU'];omega
  simp[this,h]
 ·have:[c] < [48]:=by simp[aU'];omega
  simp[this,h]
theorem m4_:(!decide (("9":Str).cps.toList<(⟨#[c]⟩:Str).cps.toList))=decide (c<=57):=by
 have e:("9":Str).cps.toList=[57]:=by decide +kernel
 rw[e];show (!decide ([57] < [c]))=decide (c<=57);by_cases h:c<=57
 ·have:¬[57] < [c]:=by simp[aU'];omega
  simp[this,h]
 ·have:[57] < [c]:=by simp[aU'];omega
  simp[this,h]
theorem scFigs:ba' ["word"] ["word"] (a9' sFigs):=f__
def spFigs:Sp:=λvs H Q _=>∃x:Str,vs=[.str x]/\x.length<=100000/\∀H',Same H H'->Q (.bl (figB x)) H'
variable{w:Ag}{P:Ae}{K:F__}{mg:Str->Option Aa}{base:Heap}
theorem l0_(F:Fun K "is_figures" "is_figures" sFigs f fd)(B:Bi mg){t10:Tok}(m10:mg "MOST_FIGURES"=some (.int 10 t10)):FnOk P w K mg base CX0 1 f fd ["word"] spFigs:=by
 refine F.okA scFigs λcdv A outer s H vs Q E hr h=>?_
 ·obtain⟨x,rfl,hz,k⟩:=h;have sz:=b__;refine' ⟨_,a3_ ?s1 (a3_ ?s2 (a5_ ?s3)),?kk⟩
  case s1=>exact aw_ (aH_ (du_ e2_ e2_ a4_ (a7_ bp_ (by rfl) B.len b_3 (a0_ (pv 0) a2_)) (bd_ (v:=.int 10) (by rfl) m10 ⟨t10,rfl⟩))) (a5_ (ae_ e7_)) aa_
  case s2=>exact aw_ (aH_ (aK_ (a7_ (cZ_ rfl) (by rfl) B.all ft_ (a0_ (aR_ ["sign"] 1 [] (kq_ (pv 0)) (λfp s H=>aY_ 0) (λfp s H=>aT_) (λfp s H=>eI_ cV_ cV_ a9_ (pv 0) a9_)) a2_)))) (a5_ (ae_ e7_)) aa_
  case s3=>exact ae_ (kw_ (bI_ e6_ (aj_ eV_ (pv 0) a4_ (λ_ _=>rfl)) a9_ (nomark _)) (bZ_ (bI_ bj_ (pv 0) a9_ (nomark _))))
  case' kk=>skip
  refine⟨_,rfl,x,rfl,by omega,_,_,rfl,rfl,_,rfl,?_⟩
  have fin:(decide (1<=x.length)&&decide (x.length<=10))=false->∀H',Same H H'->Q (.bl false) H':=λe H' sm=>by
   have:=k H' sm;rwa [show figB x=false by unfold figB;rw[e];rfl] at this
  refine ite2 (λc=>?_) (λc=>?_);rotate_left
  ·have c1:¬1<=x.length:=by
    have:¬((1:Int)<=(x.length:Int)):=by simpa using c
    omega
   exact⟨_,rfl,iteT (fin (by rw[a_4 c1];rfl) H (Same.refl H))⟩
  have c1:1<=x.length:=by
   have:(1:Int)<=(x.length:Int):=by simpa using c
   omega
  refine⟨_,_,rfl,rfl,_,rfl,?_⟩;refine ite2 (λc2=>?_) (λc2=>?_)
  ·have c3:¬x.length<=10:=by
    have:¬((x.length:Int)<=10):=by simpa using c2
    omega
   exact fin (by rw[a_4 c3,Bool.and_false]) H (Same.refl H)
  have c3:x.length<=10:=by
   have:(x.length:Int)<=10:=by simpa using c2
   omega
  refine⟨_,rfl,x,rfl,λD hD=>?_⟩;refine gb_ (own:=1) (fv:=[]) rfl gok1 x.cps.size (λi out H'=>H'=upd H D (.lst out)/\out=((x.cps.toList.take i).map okd).map V.bl) ⟨rfl,by simp⟩ (λout H' ⟨e1,e2⟩=>?_) (λi out H' hi ⟨e1,e2⟩=>?_)
  ·have sm:Same H H':=by rw[e1];exact Same.new hD
   have kk:=k H' sm;refine⟨ak' _,D,x.cps.toList.map okd,rfl,.of ?_,?_⟩
   ·rw[e1,a1_,e2,aI' Z2]
   ·have ea:(x.cps.toList.map okd).all id=x.cps.toList.all okd:=by rw[List.all_map];rfl
    refine⟨_,rfl,?_⟩;unfold figB at kk;rw[a_5 c1,a_5 c3] at kk;refine ite2 (λc=>?_) (λc=>?_)
    ·have ha:x.cps.toList.all okd=false:=by
      rw[<- ea];have c:(!((x.cps.toList.map okd).all id))=true:=c;simpa using c
     rw[ha,Bool.and_false,Bool.false_and] at kk;exact kk
    ·have ha:x.cps.toList.all okd=true:=by
      rw[<- ea];have c:¬(!((x.cps.toList.map okd).all id))=true:=c;simpa using c
     obtain⟨c0,h0⟩:∃c0,atI x.cps.toList 0=some c0:=by
      cases e:x.cps.toList with
      |nil=>
       have:x.cps.toList.length=x.length:=by rw[aP'];rfl
       rw[e] at this;simp at this;omega
      |cons a l=>exact⟨a,L2.bC' (j:=0) (v:=a) rfl⟩
     have e0:("0":Str)=⟨#[48]⟩:=by decide +kernel
     have e1:decide (V.str ⟨#[c0]⟩=V.str "0")=decide (some c0=some (48:Nat)):=by
      rw[e0];by_cases z:c0=48
      ·simp[z]
      ·simp[z]
     have e2:decide (V.str x=V.str "0")=decide (x="0"):=by
      by_cases z:x="0"
      ·simp[z]
      ·simp[z]
     rw[ha,h0,Bool.and_true,Bool.and_true,Bool.true_and] at kk;refine⟨_,rfl,x,0,c0,rfl,rfl,by omega,h0,rfl,_,rfl,?_⟩;rw[e1];refine ite2 (λc=>?_) (λc=>?_)
     ·rw[c,Bool.true_or] at kk;exact kk
     ·rw[show (!decide (some c0=some (48:Nat)))=false by simpa using c,Bool.false_or] at kk;refine⟨_,rfl,rfl,?_⟩;rw[e2];exact kk
  ·refine⟨hi,λv H2 y=>?_⟩;obtain⟨eH,c,hc,rfl⟩:=y;subst eH;refine⟨_,rfl,rfl,λNx hN=>yesT ?_⟩
   have lo:out.length<sizeLine:=by
    rw[e2];have hs:x.length=x.cps.size:=rfl;simp only[aa',af',aP'];omega
   have nx:Nx (upd H2 D (.lst (out++[V.bl (okd c)]))):=hN (out++[V.bl (okd c)]) _ ⟨by rw[e1,dC_],by
    rw[e2,aH'];simp[hc]⟩
   have atD:H2 D=some (.lst out):=by rw[e1,a1_]
   refine⟨_,rfl,_,_,rfl,rfl,_,rfl,?_⟩;rw[lM_];refine ite2 (λc2=>?_) (λc2=>?_)
   ·refine⟨_,_,rfl,rfl,out,atD,lo,?_⟩;rw[m4_];rwa [show okd c=decide (c<=57) by unfold okd;rw[c2];rfl] at nx
   ·refine⟨out,atD,lo,?_⟩;rwa [show okd c=false by unfold okd;rw[show decide (48<=c)=false by simpa using c2];rfl] at nx
end Ev
namespace L2
open PySem PySem.Spec PyProof.Rows
def CXH(P:Ae)(w:Ag)(L:Addr):CXT:=λl H s E e s'=>
 ∃a cls H' B,e=Value.ref a/\s'.os=s.os/\AllBare s'.gens/\Un (frs l) [] H H' s.heap s'.heap/\HOk P w H' s'.heap/\FlE B l a cls (rawInt L) s'.heap/\InB B l H' s.heap s'.heap/\E cls none H'
inductive XQ (X:Cx) (E:XK) (e:Aa) (s':Ac):Prop
 |mk:∀pins σ H s,Inv X pins σ H s->(CX1 X.prog X.w X.stack H s E e s'∨CXH X.prog X.w X.env.locals X.stack H s E e s'∨∃h' a cls vs,e=Value.ref a/\s'={ s with heap:=h' }/\Heap.MadeExcOf s.heap h' a cls vs/\E cls none H)->XQ X E e s'
variable{B:Heap}{L:Addr}{cls:Aa}{M:Model}{A:Ah}{E:Aa->Ac->Prop}{s:Ac}
theorem fe_{env:Env}{l:List Env}{e:Addr}{cx:Aa}(hf:env.frame=some L)(hh:FlC B l e cls cx (rawInt L) s.heap)(hQ:∀h',FlC B l e cls cx (rawInt L) h'->s.heap.UpToSlots h'->E (.ref e) { s with heap:=h' }):cameBackBy M A env E (.ref e) s:=by
 unfold cameBackBy;have hh2:=hh;obtain⟨f1,f2,f3,oe,vs,T,oT,ts,he,hc,hd,h1,h2,hnT,hTe,hT,hdT,h3⟩:=hh;refine a__ (d_3 he hd h1 ?_);rw[a_8 Z2,hf];exact setE (fr:=some L) hh2 λh' q up=>hQ h' q up
variable{E:XK}{s':Ac}{X:Cx}
theorem i6_{pins:List (Addr × Obj)}{σ:St}{H H':Hp}{h1:Heap}{a:Addr}(I:Inv X pins σ H s)(os:s'.os=s.os)(bare:AllBare s'.gens)(un:Un (frs X.stack) [] H H' s.heap s'.heap)(hok:HOk X.prog X.w H' s'.heap)(ff:s'.heap.FunFrames B X.stack)(i:InB B X.stack H' s.heap s'.heap)(hE:E cls none H')(hd:FlE B X.stack a cls (rawInt L) h1)(up:s'.heap.UpToSlots h1):CXH X.prog X.w L X.stack H s E (.ref a) { s' with heap:=h1 }:=
 ⟨a,cls,H',B,rfl,os,bare,bu_ un ff i hd.1 up,bf_ hok (cl_ I un) i hd.1,hd,bL_ hok un i hd.1,hE⟩
theorem passQ(hst:X.stack=X.env::X.outer)(hfr:X.env.frame=some X.env.locals):PassesOwn (model X.prog X.w) X.A X.env (XQ X E):=by
 intro e s' h;obtain⟨pins,σ,H,s,I,c⟩:=h
 have back:∀s2,CXH X.prog X.w X.env.locals X.stack H s E e s2->cameBackBy (model X.prog X.w) X.A X.env (XQ X E) e s2:=λs2 hc=>by
  obtain⟨a,cls,H',B,rfl,os,bare,un,hok,hd,i,hE⟩:=hc;exact fe_ hfr hd λh' q up=>⟨pins,σ,H,s,I,.inr (.inl (i6_ I os bare un hok hd.2.2.1 i hE q up))⟩
 unfold notedBy
 have fin:wpAny (model X.prog X.w) X.A (noteFrame e X.env) (λ_ s2=>CXH X.prog X.w X.env.locals X.stack H s E e s2) (cameBackBy (model X.prog X.w) X.A X.env (XQ X E)) s':=by
  rcases c with c|c|⟨h',a,cls,vs,rfl,rfl,hx,hE⟩
  ·obtain⟨a,cls,H',B,a0,rfl,os,bare,un,hok,fl,i,hE⟩:=c;refine noteE (base:=B) (outer:=X.outer) (by rw[I.ok.frames,hst]) hfr (by rw[<- hst];exact fl.2) λh4 hd up=>?_;rw[<- hst] at hd;exact i6_ I os bare un hok fl.1.2.2.1 i hE hd up
  ·obtain⟨a,cls,H',B,rfl,os,bare,un,hok,hd,i,hE⟩:=c;exact c7_ hfr hd ⟨a,cls,H',B,rfl,os,bare,un,hok,hd,i,hE⟩
  ·have ff:=PySem.W.funFrames_hide (as:=frs X.stack) I.stack (λenv he b hb=>aB'.mpr ⟨env,he,hb⟩);have hk:(PySem.W.hideAll s.heap (frs X.stack)).StaysIn s.heap:=λb o q=>PySem.W.of_hideAll _ q;have ff1:Heap.FunFrames h' (PySem.W.hideAll s.heap (frs X.stack)) X.stack:=ff.of_keeps λb o hb _=>⟨o,hx.keeps b o hb,rfl⟩;refine ec_ (s:={ s with heap:=h' }) (base:=PySem.W.hideAll s.heap (frs X.stack)) (outer:=X.outer) (h:=s.heap) (by rw[I.ok.frames,hst]) hfr hk (by rw[<- hst];exact ff) hx λh4 nt k4=>?_;rw[<- hst] at nt;have un:Un (frs X.stack) [] H H s.heap h':=Un.kept hx.keeps;have hok:HOk X.prog X.w H h':=I.hok.kept hx.keeps
   have i:InB (PySem.W.hideAll s.heap (frs X.stack)) X.stack H s.heap h':=λb o q hb c=>by
    rcases c with c|⟨o0,z⟩
    ·obtain⟨u,hu⟩:=aS'.mp c;obtain⟨o1,z⟩:=(I.hok b u hu).here;have:=hx.keeps b o1 z;rw[q] at this;cases this;exact e_2 _ z hb
    ·have:=hx.keeps b o0 z;rw[q] at this;cases this;exact e_2 _ z hb
   exact i6_ (s':={ s with heap:=h' }) I rfl I.bare un hok ff1 i hE nt k4
 exact c_7 fin (λ_ s2 q=>back s2 q) λ_ _ z=>z
abbrev cxQ(P:Ae)(w:Ag)(K:F__)(mg:Str->Option Aa)(base:Heap)(N:List Str)(qual:Str)(scope:Scope)(f:Addr)(cd:Aa)(A:Ah)(outer:List Env)(s:Ac)(H:Hp)(E:XK):Cx:=
 (cxOf (CX1 P w) P w K mg base N qual scope f cd A outer s H E).wish (XQ (cxOf (CX1 P w) P w K mg base N qual scope f cd A outer s H E) E)
variable{P:Ae}{w:Ag}{K:F__}{mg:Str->Option Aa}{base:Heap}
section
variable{N:List Str}{qual:Str}{scope:Scope}{f:Addr}{cd:Aa}{A:Ah}{outer:List Env}{s:Ac}{H:Hp}{E:XK}
theorem ownQ:PassesOwn (model P w) (cxQ P w K mg base N qual scope f cd A outer s H E).A (cxQ P w K mg base N qual scope f cd A outer s H E).env (cxQ P w K mg base N qual scope f cd A outer s H E).xe:=passQ (X:=cxOf (CX1 P w) P w K mg base N qual scope f cd A outer s H E) rfl rfl
theorem passesQ:bx' (CX1 P w) (cxQ P w K mg base N qual scope f cd A outer s H E) E:=λpins σ H1 s1 e s' I hc=>⟨pins,σ,H1,s1,I.unwish,.inl hc⟩
theorem raisesQ:cT' (cxQ P w K mg base N qual scope f cd A outer s H E) E:=λpins σ H1 s1 h' e cls vs I hx hE=>⟨pins,σ,H1,s1,I.unwish,.inr (.inr ⟨h',e,cls,vs,rfl,rfl,hx,hE⟩)⟩
theorem leaveQ{e:Aa}(h:XQ (cxOf (CX1 P w) P w K mg base N qual scope f cd A outer s H E) E e s'):(cxOf (CX1 P w) P w K mg base N qual scope f cd A outer s H E).xe e s':=by
 obtain⟨pins,σ,H1,s1,I,c⟩:=h;rcases c with c|c|⟨h',a,cls,vs,rfl,rfl,hx,hE⟩
 ·exact passes1 pins σ H1 s1 e s' I c
 ·obtain⟨a,cls,H',B,rfl,os,bare,un,hok,hd,i,hE⟩:=c;show wpAny _ _ (leaving _ _) _ _ _;unfold leaving;refine a__ (c7_ rfl hd (setE (fr:=none) hd λh1 fl up=>?_));obtain⟨a1,fb⟩:=FlE.b (FlC.less fl);exact dT_ (s1:={ s' with heap:=h1 }) I rfl os bare un hok i hd.2.2.1 up fb hE
 ·exact raises1 pins σ H1 s1 h' a cls vs I hx hE
end
variable{qual:Str}{st:Stmt}{f:Addr}{fd:Af}{N ps:List Str}{k:Nat}{sp:Sp}
theorem Fun.okQ{x:Str}(F:Fun K x qual st f fd)(S:ba' N ps (a9' st))(len:∀vs H Q E,sp vs H Q E->vs.length=ps.length)(hbody:∀(cdv:Aa) (A:Ah) (outer:List Env) (s:Ac) (H:Hp) (vs:List V) (Q:VK) (E:XK),Room k (A.deeper (envOfC qual (a9' st) s.heap.objs.size f cdv))->sp vs H Q E->
   PassesOwn (model P w) (cxQ P w K mg base N qual (a9' st) f cdv A outer s H E).A (cxQ P w K mg base N qual (a9' st) f cdv A outer s H E).env (cxQ P w K mg base N qual (a9' st) f cdv A outer s H E).xe->
   bx' (CX1 P w) (cxQ P w K mg base N qual (a9' st) f cdv A outer s H E) E->cT' (cxQ P w K mg base N qual (a9' st) f cdv A outer s H E) E->
   ∃t,PSs (cxQ P w K mg base N qual (a9' st) f cdv A outer s H E) (br' st) t/\t { nx:=λ_ H'=>Q .non H',rt:=Q } (start N vs) H):FnOk P w K mg base (CX1 P w) (k+1) f fd ps sp:=
 F.okX S len λcdv A outer s H vs Q E hr hsp=>by
  obtain⟨t,h,q⟩:=hbody cdv A outer s H vs Q E hr hsp ownQ passesQ raisesQ;exact⟨t,λpins s1 σ H1 D I hw=>c_7 (h pins s1 σ H1 D (I.wish _) hw) (λ_ _ q=>q.unwish) λ_ _ z=>leaveQ z,q⟩
theorem Fun.okQA{x:Str}(F:Fun K x qual st f fd)(S:ba' N ps (a9' st))(hbody:∀(cdv:Aa) (A:Ah) (outer:List Env) (s:Ac) (H:Hp) (vs:List V) (Q:VK) (E:XK),Room k (A.deeper (envOfC qual (a9' st) s.heap.objs.size f cdv))->sp vs H Q E->
   PassesOwn (model P w) (cxQ P w K mg base N qual (a9' st) f cdv A outer s H E).A (cxQ P w K mg base N qual (a9' st) f cdv A outer s H E).env (cxQ P w K mg base N qual (a9' st) f cdv A outer s H E).xe->
   bx' (CX1 P w) (cxQ P w K mg base N qual (a9' st) f cdv A outer s H E) E->cT' (cxQ P w K mg base N qual (a9' st) f cdv A outer s H E) E->
   ∃t,PSs (cxQ P w K mg base N qual (a9' st) f cdv A outer s H E) (br' st) t/\t { nx:=λ_ H'=>Q .non H',rt:=Q } (start N vs) H)(len:∀vs H Q E,sp vs H Q E->vs.length=ps.length:=by intro vs H Q E h;first|(cases h;subst_vars;rfl)|(obtain⟨rfl,_⟩:=h;rfl)|(obtain⟨_,rfl,_⟩:=h;rfl)|(obtain⟨_,_,rfl,_⟩:=h;rfl)|(obtain⟨_,_,_,rfl,_⟩:=h;rfl)|(obtain⟨_,_,_,_,rfl,_⟩:=h;rfl)):FnOk P w K mg base (CX1 P w) (k+1) f fd ps sp:=F.okQ S len hbody
section
variable{X:Cx}{k:Nat}{ps:List Str}{x:Str}{p pos:Pos}{e:Expr}{es:List Expr}{tn:TE}{t:TA}
end
open PySem.Builtin PySem.Builtin.Str
inductive rSplitB (x:V) (vs:List V) (H:Hp) (Q:VK):Prop
 |mk:∀(z y:Str) (c:Nat),x=.str z->vs=[.str y]->y=⟨#[c]⟩->z.length<=50000->(∀l,H l=none->Q (.ref l) (upd H l (.lst ((Txt.split z y).map V.str))))->rSplitB x vs H Q
theorem bG_:MtM X "str.split" rSplitB:=by
 intro pins s σ H x vs v us Q I rx rv h;obtain⟨z,y,c,rfl,rfl,ey,hz,q⟩:=h;obtain⟨t,rfl⟩:=rx;obtain⟨u,rfl,t2,rfl⟩:=rv.one;have sz:=b__;have hy:(y.length == 0)=false:=by rw[ey];rfl
 have hn:(partsBetween z (occurrences z y 0 z.length (z.length+1)) y.length).length<=60000:=by
  rw[length_partsBetween];have:=StrLaws.occ_length_le z y 0 z.length (z.length+1);omega
 have sl:=PyProof.Rows.split_le z y
 have fin:∀(l:List (Str × Tok)) (k:Nat),l.map (·.1)=Txt.split z y->EP X pins σ Q (.ref s.heap.objs.size) { s with toks:=k,heap:=s.heap.push { cls:=.type "list",data:=.seq (strValues l).toArray } }:=λl k e=>by
  have vl:=fD_ l;rw[e] at vl;refine⟨.ref s.heap.objs.size,_,I.laid (t':=k) (o:=.lst ((Txt.split z y).map V.str)) (λb ob q=>a_0 _ q) (ak' _) ?_,rfl,q _ (I.hok.fresh (ak' _))⟩;refine⟨?_,_,0,vl,a_7 _ rfl⟩;rw[aa'];omega
 cases hA:(decide (z.length<y.length) || decide (strKind z<strKind y)) with
 |true=>
  refine call_meets c_2 (typeIs_str _ _ _) PySem.F.entry_str_split (PySem.F.args_str_split_2 _ _) (meets_str_split_cannot_occur z y t t2 hA) ?_;exact fin [(z,t)] _ (by unfold Txt.split;rw[b_0 hA];rfl)
 |false=>
  cases hB:(occurrences z y 0 z.length (z.length+1)).isEmpty with
  |true=>
   refine call_meets c_2 (typeIs_str _ _ _) PySem.F.entry_str_split (PySem.F.args_str_split_2 _ _) (meets_str_split_not_found z y t t2 hA hy hB) ?_;exact fin [(z,t)] _ (by unfold Txt.split;rw[a_8 (by rw[hA];decide),b_0 hB];rfl)
  |false=>
   refine call_meets c_2 (typeIs_str _ _ _) PySem.F.entry_str_split (PySem.F.args_str_split_2 _ _) (meets_str_split_sep z y t t2 hA hy hB Z1 Z1) ?_;show wants _ _ _ { s with toks:=_,heap:=s.heap.push { cls:=.type "list",data:=.seq (strsFrom s.toks (partsBetween z (occurrences z y 0 z.length (z.length+1)) y.length)).toArray } };rw[strsFrom_eq];exact fin (numbered s.toks _) _ ((numbered_texts _ _).trans (by unfold Txt.split;rw[a_8 (by rw[hA];decide),a_8 (by rw[hB];decide)]))
end L2
namespace Ev
open PySem L2
def pairB:List Str->Bool
 |[a,b]=>bd' a&&bd' b
 |_=>false
def dp'(x:Str):Bool:=pairB (Txt.split x "-")
theorem ej':ba' ["word","names"] ["word"] (a9' dU'):=f__
def c4':Sp:=λvs H Q _=>∃x:Str,vs=[.str x]/\x.length<=50000/\∀H',Same H H'->Q (.bl (dp' x)) H'
variable{f:Addr}{fd:Af}{P:Ae}{w:Ag}{K:F__}{mg:Str->Option Aa}{base:Heap}
theorem he_(F:Fun K "is_tie_word" "is_tie_word" dU' f fd)(B:Bi mg)(cN:Cal P w K mg base 1 "is_name" ["thing"] da'):FnOk P w K mg base CX0 2 f fd ["word"] c4':=by
 refine F.okA ej' λcdv A outer s H vs Q E hr h=>?_
 ·obtain⟨x,rfl,hz,k⟩:=h;have sz:=b__;refine' ⟨_,a3_ ?s1 (a5_ ?s2),?kk⟩
  case s1=>exact ao_ 1 ej'.nd (bl_ b_1 c_2 e__ bG_ (pv 0) (a0_ a9_ a2_))
  case s2=>exact ae_ (bF_ (bI_ bj_ (a7_ ak_ (by rfl) B.len b_3 (a0_ (pv 1) a2_)) a4_ (nomark _)) (bF_ (al_ cN hr (a0_ (aj_ ad_ (pv 1) a4_ (λ_ _=>rfl)) a2_)) (bZ_ (al_ cN hr (a0_ (aj_ ad_ (pv 1) a4_ (λ_ _=>rfl)) a2_)))))
  case' kk=>skip
  refine⟨_,rfl,rfl,x,"-",45,rfl,rfl,rfl,by omega,λl nl=>?_⟩;refine setG ?_;dsimp only;unfold dp' at k;have sh:∀r∈Txt.split x "-",r.length<=x.length:=λr h=>c_5 h;change tRet _ _ _ (upd H l (.lst ((Txt.split x "-").map V.str)));generalize Txt.split x "-"=ns at k sh ⊢;obtain⟨s1,k1⟩:=nw__ (o:=.lst (ns.map V.str)) nl;generalize upd H l (.lst (ns.map V.str))=H1 at s1 k1 ⊢;refine⟨_,rfl,l,_,rfl,.inl (.of k1),rfl,_,rfl,?_⟩
  match ns,k,sh,k1 with
  |[],k,sh,k1=>exact iteF (k H1 s1)
  |[a],k,sh,k1=>exact iteF (k H1 s1)
  |[a,b],k,sh,k1=>
   have la:=sh a Z2;have lb:=sh b Z2;refine iteT ?_;refine⟨_,rfl,l,_,_,.str a,rfl,rfl,.of k1,rfl,a,rfl,by omega,λH2 s2=>⟨_,rfl,?_⟩⟩;have kk:∀H',Same H H'->Q (.bl (bd' a&&bd' b)) H':=k;refine ite2 (λc=>?_) (λc=>?_)
   ·rw[c,Bool.true_and] at kk;exact⟨_,rfl,l,_,_,.str b,rfl,rfl,.of (s2 _ _ k1),rfl,b,rfl,by omega,λH3 s3=>kk H3 ((s1.trans s2).trans s3)⟩
   ·have c:bd' a=false:=by simpa using c
    rw[c,Bool.false_and] at kk;exact kk H2 (s1.trans s2)
  |a::b::c::r,k,sh,k1=>
   have e:decide (V.int (((a::b::c::r).map V.str).length:Nat)=V.int 2)=false:=a_4 λz=>by
    have:=V.int.inj z;simp at this;omega
   rw[e];exact iteF (k H1 s1)
theorem ka_{X:Cx}{o e:Expr}{es:List Expr}{to:TE}{t:TA}{name:Str}{apos cpos:Pos}{T id:Ai}{r:V->List V->Hp->VK->Prop}(pa:PlainAttrs T)(slot:Slot T name id)(hty:typeOf (.builtin id)=pure (.type "method_descriptor"))(hm:MtR X id r)(ho:PE X o to)(ha:PA X (e::es) t)(hK:X.K=K:=by rfl)(hbase:attributeBase o name X.env (eval o X.env)=eval o X.env:=by rfl)(hfew:((backTo cpos (starEach (e::es) X.env)).all (λx=>!x.1)&&(backToKw cpos (keywordEach [] X.env)).all (λx=>x.1.isSome)
   && decide ((e::es).length+([]:List Keyword).length+(if ([]:List Keyword).isEmpty then 0 else 1)<30))=true:=by rfl)(hline:(apos.endLine == cpos.line)=true:=by rfl)(hs:starEach (e::es) X.env=(false,eval e X.env)::starEach es X.env:=by rfl)(hplain:(backTo cpos (starEach es X.env)).any (·.1)=false:=by rfl) :
  PE X (.Call (.Attribute o name apos) (e::es) [] cpos) (tBM K T r to t):=by
 subst hK;exact bl_ pa slot hty hm ho ha hbase hfew hline hs hplain
def dl'(x:Str):Bool:=decide (x="free") || (decide (x="fixed") || (Txt.split x ",").all dp')
theorem b6_(a b:Str):decide (V.str a=V.str b)=decide (a=b):=by
 by_cases z:a=b
 ·simp[z]
 ·simp[z]
def WyV(H:Hp)(v:V)(x:Str):Prop:=(x="free"/\v=.non)∨(x≠"free"/\x="fixed"/\∃l,v=.ref l/\H l=some (.lst [])) ∨
 (x≠"free"/\x≠"fixed"/\∃l ys,v=.ref l/\H l=some (.lst ys)/\Paired (λy p=>∃a,y=.ref a/\H a=some (.tup ((Txt.split p "-").map V.str))) ys (Txt.split x ","))
theorem e4':ba' ["word"] ["word"] (a9' c9'):=f__
def cR':Sp:=λvs H Q _=>∃x:Str,vs=[.str x]/\x.length<=50000/\∀H',Same H H'->Q (.bl (dl' x)) H'
theorem fZ_(F:Fun K "is_ways_word" "is_ways_word" c9' f fd)(B:Bi mg)(cT:Cal P w K mg base 2 "is_tie_word" ["word"] c4'):FnOk P w K mg base CX0 3 f fd ["word"] cR':=by
 refine F.okA e4' λcdv A outer s H vs Q E hr h=>?_
 ·obtain⟨x,rfl,hz,k⟩:=h;have sz:=b__;refine' ⟨_,a5_ ?s1,?kk⟩
  case' s1=>refine' ae_ (kw_ (bI_ bj_ (pv 0) a9_ (nomark _)) (kw_ (bI_ bj_ (pv 0) a9_ (nomark _)) (bZ_ (a7_ (cZ_ rfl) (by rfl) B.all ft_ (a0_ (aR_ ["tie"] 1 [] (ah_ ?sp) (λfp s H=>aY_ 0) (λfp s H=>aT_) (λfp s H=>?el)) a2_)))))
  case sp=>exact bl_ b_1 c_2 e__ bG_ (pv 0) (a0_ a9_ a2_)
  case el=>exact al_ cT hr (a0_ (pv 0) a2_)
  case' kk=>skip
  unfold dl' at k;refine⟨_,rfl,rfl,_,rfl,?_⟩;rw[b6_];refine ite2 (λc=>?_) (λc=>?_)
  ·rw[c,Bool.true_or] at k;exact k H (Same.refl H)
  rw[show decide (x="free")=false by simpa using c,Bool.false_or] at k;refine⟨_,rfl,rfl,_,rfl,?_⟩;rw[b6_];refine ite2 (λc=>?_) (λc=>?_)
  ·rw[c,Bool.true_or] at k;exact k H (Same.refl H)
  rw[show decide (x="fixed")=false by simpa using c,Bool.false_or] at k;refine⟨_,rfl,rfl,x,",",44,rfl,rfl,rfl,by omega,λl nl=>?_⟩;have sh:∀r∈Txt.split x ",",r.length<=x.length:=λr h=>c_5 h;have sl:=PyProof.Rows.split_le x ",";generalize Txt.split x ","=ns at k sh sl ⊢;obtain⟨s1,k1⟩:=nw__ (o:=.lst (ns.map V.str)) nl;generalize upd H l (.lst (ns.map V.str))=H1 at s1 k1 ⊢;refine⟨l,rfl,⟨_,.of k1⟩,λD hD=>?_⟩;refine an_ (own:=1) (fv:=[]) (xs:=ns.map V.str) rfl gok1 (λi out H'=>Same H1 H'/\H' D=some (.lst out)/\out=((ns.take i).map dp').map V.bl) ⟨Same.new hD,a1_,rfl⟩ (λi out H' _ ⟨sm,_,_⟩=>.of (sm _ _ k1)) (λout H' ⟨sm,hd,eo⟩=>?_) (λi y out H' hy ⟨sm,hd,eo⟩=>?_)
  ·rw[aa',an'] at eo;rw[eo] at hd;refine⟨D,ns.map dp',rfl,.of hd,?_⟩;have kk:=k H' (s1.trans sm);rwa [show ns.all dp'=(ns.map dp').all id by rw[List.all_map];rfl] at kk
  ·obtain⟨n,hn,rfl⟩:=aF_ hy;have ln:=sh n (ad' hn);refine⟨_,rfl,rfl,λNx hN=>yesT ?_⟩;refine⟨_,rfl,n,rfl,by omega,λH2 s2=>⟨out,s2 _ _ hd,?_,hN _ _ ⟨aB_ (sm.trans s2) hD,a1_,?_⟩⟩⟩
   ·rw[eo,aa',aa',af'];omega
   ·rw[eo,cI_ hn,ag',ag'];rfl
theorem scWaysIn:ba' ["word"] ["word"] (a9' eD'):=f__
def c2':Sp:=λvs H Q _=>∃x:Str,vs=[.str x]/\x.length<=50000/\∀v H',Same H H'->WyV H' v x->(∀a,v=.ref a->H a=none)->Q v H'
theorem iU_(F:Fun K "ways_in" "ways_in" eD' f fd)(B:Bi mg):FnOk P w K mg base CX0 1 f fd ["word"] c2':=by
 refine F.okA scWaysIn λcdv A outer s H vs Q E hr h=>?_
 ·obtain⟨x,rfl,hz,k⟩:=h;have sz:=b__;refine' ⟨_,a3_ ?s1 (a3_ ?s2 (a5_ ?s3)),?kk⟩
  case s1=>exact aw_ (ar_ bj_ (pv 0) a9_ (nomark _)) (a5_ (ae_ dc_)) aa_
  case s2=>exact aw_ (ar_ bj_ (pv 0) a9_ (nomark _)) (a5_ (ae_ (av_ a2_))) aa_
  case' s3=>refine' ae_ (aR_ ["tie"] 1 [] (ah_ ?sp) (λfp s H=>aY_ 0) (λfp s H=>aT_) (λfp s H=>?el))
  case sp=>exact bl_ b_1 c_2 e__ bG_ (pv 0) (a0_ a9_ a2_)
  case el=>exact ax_ (eZ' (K:=K)) (by rfl) B.tuple bK_ (a0_ (ka_ (K:=K) b_1 c_2 e__ bG_ (pv 0) (a0_ a9_ a2_)) a2_)
  case' kk=>skip
  refine⟨_,rfl,rfl,_,rfl,?_⟩;rw[b6_];refine ite2 (λc=>?_) (λc=>?_)
  ·exact k _ H (Same.refl H) (.inl ⟨by simpa using c,rfl⟩) (λa z=>by cases z)
  have n1:x≠"free":=by simpa using c
  refine⟨_,rfl,rfl,_,rfl,?_⟩;rw[b6_];refine ite2 (λc=>?_) (λc=>?_)
  ·exact⟨by show 0<=sizeLine;decide,λl nl=>k _ _ (Same.new nl) (.inr (.inl ⟨n1,by simpa using c,l,rfl,a1_⟩)) (λa z=>by cases z;exact nl)⟩
  have n2:x≠"fixed":=by simpa using c
  refine⟨_,rfl,rfl,x,",",44,rfl,rfl,rfl,by omega,λl nl=>?_⟩;have kx:∀v H',Same H H'->(∃l ys,v=.ref l/\H' l=some (.lst ys)/\Paired (λy p=>∃a,y=.ref a/\H' a=some (.tup ((Txt.split p "-").map V.str))) ys (Txt.split x ","))->(∀a,v=.ref a->H a=none)->Q v H':=λv H' sm h=>k v H' sm (.inr (.inr ⟨n1,n2,h⟩));have sh:∀r∈Txt.split x ",",r.length<=x.length:=λr h=>c_5 h;have sl:=PyProof.Rows.split_le x ",";generalize Txt.split x ","=ns at kx sh sl ⊢;obtain⟨s1,k1⟩:=nw__ (o:=.lst (ns.map V.str)) nl;generalize upd H l (.lst (ns.map V.str))=H1 at s1 k1 ⊢;refine⟨l,rfl,⟨_,.of k1⟩,λD hD=>?_⟩;refine an_ (own:=1) (fv:=[]) (xs:=ns.map V.str) rfl gok1 (λi out H'=>Same H1 H'/\H' D=some (.lst out)/\Paired (λy p=>∃a,y=.ref a/\H' a=some (.tup ((Txt.split p "-").map V.str))) out (ns.take i)) ⟨Same.new hD,a1_,.nil⟩ (λi out H' _ ⟨sm,_,_⟩=>.of (sm _ _ k1)) (λout H' ⟨sm,hd,eo⟩=>?_) (λi y out H' hy ⟨sm,hd,eo⟩=>?_)
  ·rw[aa',an'] at eo;exact kx _ _ (s1.trans sm) ⟨D,out,rfl,hd,eo⟩ (λa z=>by cases z;exact s1.free hD)
  ·obtain⟨n,hn,rfl⟩:=aF_ hy;have ln:=sh n (ad' hn);refine⟨_,rfl,rfl,λNx hN=>yesT ?_⟩;refine⟨_,rfl,rfl,n,"-",45,rfl,rfl,rfl,by omega,λl2 nl2=>?_⟩;obtain⟨s2,k2⟩:=nw__ (o:=.lst ((Txt.split n "-").map V.str)) nl2;generalize upd H' l2 (.lst ((Txt.split n "-").map V.str))=H2 at s2 k2 ⊢;refine⟨l2,_,rfl,.inl ⟨.of k2,λt nt=>?_⟩⟩;obtain⟨s3,k3⟩:=nw__ (o:=.tup ((Txt.split n "-").map V.str)) nt;generalize upd H2 t (.tup ((Txt.split n "-").map V.str))=H3 at s3 k3 ⊢;have s23:=s2.trans s3;have hD3:=s23 _ _ hd;have lo:=a_1 eo;rw[af'] at lo;refine⟨out,hD3,by omega,hN _ _ ⟨aB_ (sm.trans s23) hD,a1_,?_⟩⟩
   have ne:∀{a:Addr} {ys:List V},H3 a=some (.tup ys)->a≠D:=λh z=>by
    rw[z,hD3] at h;cases h
   rw[cI_ hn];exact aN_ (Paired.mapP eo λy p ⟨a,z,ha⟩=>⟨a,z,by rw[a8_ (ne (s23 _ _ ha))];exact s23 _ _ ha⟩) (.cons ⟨t,rfl,by rw[a8_ (ne k3)];exact k3⟩ .nil)
def rowB(ws:List Str):Bool:=
 if ws.getD 0 ""="hand" then decide (ws.length=3)&&figB (ws.getD 2 "")
 else if ws.getD 0 ""="tie" then decide (ws.length=3)
 else if ws.getD 0 ""="piece" then decide (ws.length=5)&&(figB (ws.getD 2 "")&&dl' (ws.getD 4 ""))
 else false
variable{ws:List Str}{i:Nat}
theorem atS(h:i<ws.length):atI (ws.map V.str) (i:Int)=some (.str (ws.getD i "")):=by
 refine L2.bC' ?_;rw[aw',ae' h];simp[List.getD,ae' h]
theorem iA_(n m:Nat):decide (V.int (n:Int)=V.int (m:Int))=decide (n=m):=by
 by_cases z:n=m
 ·simp[z]
 ·have:¬(V.int (n:Int)=V.int (m:Int)):=λe=>z (by have:=V.int.inj e;omega);simp[z,this]
theorem dr_(h:i<ws.length):ws.getD i ""∈ws:=by
 simp[List.getD,ae' h]
theorem len3(n:Nat):decide (V.int (n:Int)=V.int 3)=decide (n=3):=iA_ n 3
theorem len5(n:Nat):decide (V.int (n:Int)=V.int 5)=decide (n=5):=iA_ n 5
theorem scIsRow:ba' ["words"] ["words"] (a9' sIsRow):=f__
def d0'(K:F__):Sp:=λvs H Q _=>∃(l:Addr) (ws:List Str),vs=[.ref l]/\H l=some (.lst (ws.map V.str))/\ws≠[]/\(∀x∈ws,x.length<=50000)/\∀H',Same H H'->Q (.bl (rowB ws)) H'
theorem jN_(F:Fun K "is_row_of_goods" "is_row_of_goods" sIsRow f fd)(B:Bi mg)(cF:Cal P w K mg base 1 "is_figures" ["word"] spFigs)(cW:Cal P w K mg base 3 "is_ways_word" ["word"] cR'):FnOk P w K mg base CX0 4 f fd ["words"] (d0' K):=by
 refine F.okA scIsRow λcdv A outer s H vs Q E hr h=>?_
 ·obtain⟨l,ws,rfl,hl,ne,lens,k⟩:=h;have sz:=b__;have hr1:Room 1 _:=hr.mono (by decide);refine' ⟨_,a3_ ?s1 (a3_ ?s2 (a3_ ?s3 (a5_ ?s4))),?kk⟩
  case s1=>exact aw_ (ar_ bj_ (aj_ ad_ (pv 0) a4_ (λ_ _=>rfl)) a9_ (nomark _)) (a5_ (ae_ (bF_ (bI_ bj_ (a7_ ak_ (by rfl) B.len b_3 (a0_ (pv 0) a2_)) a4_ (nomark _)) (bZ_ (al_ cF hr1 (a0_ (aj_ ad_ (pv 0) a4_ (λ_ _=>rfl)) a2_)))))) aa_
  case s2=>exact aw_ (ar_ bj_ (aj_ ad_ (pv 0) a4_ (λ_ _=>rfl)) a9_ (nomark _)) (a5_ (ae_ (bI_ bj_ (a7_ ak_ (by rfl) B.len b_3 (a0_ (pv 0) a2_)) a4_ (nomark _)))) aa_
  case s3=>exact aw_ (ar_ bj_ (aj_ ad_ (pv 0) a4_ (λ_ _=>rfl)) a9_ (nomark _)) (a5_ (ae_ (bF_ (bI_ bj_ (a7_ ak_ (by rfl) B.len b_3 (a0_ (pv 0) a2_)) a4_ (nomark _)) (bF_ (al_ cF hr1 (a0_ (aj_ ad_ (pv 0) a4_ (λ_ _=>rfl)) a2_)) (bZ_ (al_ cW hr (a0_ (aj_ ad_ (pv 0) a4_ (λ_ _=>rfl)) a2_))))))) aa_
  case s4=>exact ae_ e7_
  case' kk=>skip
  have h0:0<ws.length:=List.length_pos_iff.mpr ne;have at0:=atS (i:=0) h0;have ll:(ws.map V.str).length=ws.length:=aa' ..;unfold rowB at k;refine⟨_,rfl,l,_,_,_,rfl,rfl,.of hl,at0,rfl,_,rfl,?_⟩;rw[b6_];refine ite2 (λc=>?_) (λc=>?_)
  ·rw[b_0 (by simpa using c)] at k;refine⟨_,rfl,l,_,rfl,.inl (.of hl),rfl,_,rfl,?_⟩;rw[ll,len3];refine ite2 (λc2=>?_) (λc2=>?_)
   ·rw[c2,Bool.true_and] at k;have c3:ws.length=3:=by simpa using c2
    exact⟨_,rfl,l,_,_,_,rfl,rfl,.of hl,atS (i:=2) Z1,_,rfl,by have:=lens _ (dr_ (i:=2) (ws:=ws) Z1);omega,k⟩
   ·rw[show decide (ws.length=3)=false by simpa using c2,Bool.false_and] at k;exact k H (Same.refl H)
  rw[a_8 (by simpa using c)] at k;refine⟨_,rfl,l,_,_,_,rfl,rfl,.of hl,at0,rfl,_,rfl,?_⟩;rw[b6_];refine ite2 (λc=>?_) (λc=>?_)
  ·rw[b_0 (by simpa using c)] at k;refine⟨_,rfl,l,_,rfl,.inl (.of hl),rfl,?_⟩;rw[ll,len3];exact k H (Same.refl H)
  rw[a_8 (by simpa using c)] at k;refine⟨_,rfl,l,_,_,_,rfl,rfl,.of hl,at0,rfl,_,rfl,?_⟩;rw[b6_];refine ite2 (λc=>?_) (λc=>?_)
  ·rw[b_0 (by simpa using c)] at k;refine⟨_,rfl,l,_,rfl,.inl (.of hl),rfl,_,rfl,?_⟩;rw[ll,len5];refine ite2 (λc2=>?_) (λc2=>?_)
   ·rw[c2,Bool.true_and] at k;have c3:ws.length=5:=by simpa using c2
    refine⟨_,rfl,l,_,_,_,rfl,rfl,.of hl,atS (i:=2) Z1,_,rfl,by have:=lens _ (dr_ (i:=2) (ws:=ws) Z1);omega,λH1 s1=>⟨_,rfl,?_⟩⟩;refine ite2 (λc4=>?_) (λc4=>?_)
    ·rw[c4,Bool.true_and] at k;exact⟨_,rfl,l,_,_,_,rfl,rfl,.of (s1 _ _ hl),atS (i:=4) Z1,_,rfl,lens _ (dr_ (i:=4) (ws:=ws) Z1),λH2 s2=>k H2 (s1.trans s2)⟩
    ·rw[show figB (ws.getD 2 "")=false by simpa using c4,Bool.false_and] at k;exact k H1 s1
   ·rw[show decide (ws.length=5)=false by simpa using c2,Bool.false_and] at k;exact k H (Same.refl H)
  ·rw[a_8 (by simpa using c)] at k;exact k H (Same.refl H)
end Ev
namespace L2
open PySem PySem.Spec PyProof.Rows
variable{X:Cx}{body:List Stmt}{tb:TS}{hd:ExceptHandler}{pos:Pos}
theorem fK_(hb:PSs X.nox body tb):PS X (.Try body [hd] [] [] pos) tb:=by
 intro pins s σ H R I h;refine wpAny_Try_except (c_7 (hb pins s σ H R (I.wish _) h) (λf s1 q=>?_) λe s1 z=>False.elim z);have q:=q.unwish;cases f with
 |next=>exact wpAny_execs_nil q
 |ret v=>exact q
 |brk=>exact q
 |cont=>exact q
end L2
namespace Ev
open PySem L2
def RwAt(H:Hp)(ys:List V)(wss:List (List Str)):Prop:=Paired (λy (ws:List Str)=>∃a,y=.ref a/\H a=some (.lst (ws.map V.str))) ys wss
variable{H:Hp}{ys:List V}{wss:List (List Str)}
theorem RwAt.same{H':Hp}(h:RwAt H ys wss)(s:Same H H'):RwAt H' ys wss:=Paired.mapP h λy ws ⟨a,e,q⟩=>⟨a,e,s _ _ q⟩
def isW(k:Str)(ws:List Str):Bool:=decide (ws.getD 0 ""=k)
def handW(ws:List Str):Str × Int:=(ws.getD 1 "",(PySem.intText? (ws.getD 2 "")).getD 0)
def tieW(ws:List Str):Str × Str:=(ws.getD 1 "",ws.getD 2 "")
def bg'(wss:List (List Str)):Xa:=(wss.filter (isW "hand")).map handW
def bq'(wss:List (List Str)):Xb:=(wss.filter (isW "tie")).map tieW
structure WsOk (ws:List Str):Prop where
 ne:0<ws.length
 h3:isW "hand" ws=true->3<=ws.length/\(ws.getD 2 "").length<=640/\∃n,PySem.intText? (ws.getD 2 "")=some n
 t3:isW "tie" ws=true->3<=ws.length
variable{i:Nat}
theorem e4_(h:RwAt H ys wss){y:V}(e:ys[i]? = some y):∃ws a,wss[i]? = some ws/\y=.ref a/\H a=some (.lst (ws.map V.str)):=by
 have le:=a_1 h;have hi:=(ab'.mp e).1;have w:=aA_ h i hi Z1;have ey:ys[i]=y:=(ab'.mp e).2;rw[ey] at w;obtain⟨a,z,q⟩:=w;exact⟨_,a,ae' Z1,z,q⟩
theorem aL_{α:Type}{xs:List α}{x:α}(h:xs[i]? = some x):xs.take (i+1)=xs.take i++[x]:=by
 rw[aH',h];rfl
theorem ct_(a:List (List Str))(ws:List Str):bg' (a++[ws])=bg' a++if isW "hand" ws=true then [handW ws] else []:=by
 unfold bg';rw[aL',ag'];by_cases c:isW "hand" ws=true
 ·rw[b_0 c,List.filter_cons_of_pos c];rfl
 ·rw[a_8 c,List.filter_cons_of_neg c];rfl
theorem cL_(a:List (List Str))(ws:List Str):bq' (a++[ws])=bq' a++if isW "tie" ws=true then [tieW ws] else []:=by
 unfold bq';rw[aL',ag'];by_cases c:isW "tie" ws=true
 ·rw[b_0 c,List.filter_cons_of_pos c];rfl
 ·rw[a_8 c,List.filter_cons_of_neg c];rfl
theorem fb_(a:List (List Str)):(bg' a).length<=a.length:=by
 unfold bg';rw[aa'];exact List.length_filter_le ..
theorem eG_(a:List (List Str)):(bq' a).length<=a.length:=by
 unfold bq';rw[aa'];exact List.length_filter_le ..
theorem cs':ba' ["rows","hands","ties","error"] ["rows"] (a9' eG'):=f__
def dW'(K:F__)(C:Addr):Sp:=λvs H Q _=>∃(l:Addr) (ys:List V) (wss:List (List Str)),vs=[.ref l]/\H l=some (.lst ys)/\RwAt H ys wss/\wss.length<=1000/\(∀ws∈wss,WsOk ws)/\Good (bg' wss) (bq' wss) /\
 ∀p fp H',Same H H'->H p=none->bD' K C H' p (bg' wss) (bq' wss) fp->(∀b∈fp,H b=none)->Q (.ref p) H'
variable{f:Addr}{fd:Af}{P:Ae}{w:Ag}{K:F__}{mg:Str->Option Aa}{base:Heap}
theorem jx_{C:Addr}(F:Fun K "web_in" "web_in" eG' f fd)(B:Bi mg)(cW:CalC P w K mg base C 5 "Web" ["self","hands","ties"] (eR' K C)):FnOk P w K mg base CX0 7 f fd ["rows"] (dW' K C):=by
 refine F.okA cs' λcdv A outer s H vs Q E hr h=>?_
 ·obtain⟨l,ys,wss,rfl,hl,rw0,l1000,ok,G,k⟩:=h;have sz:=b__;refine' ⟨_,a3_ ?s1 (a3_ ?s2 (a5_ ?s3)),?kk⟩
  case' s1=>refine' bO_ (i:=1) ["words"] 1 [] cs'.nd rfl (Or.inl rfl) (ah_ (pv 0)) (λfp s H=>aY_ 0) (λfp s H=>?t1) (λfp s H=>?e1)
  case t1=>exact bR_ (ar_ bj_ (aj_ (ixK (K:=K) rIxL ad_) (pv 0) a4_ (λ_ _=>rfl)) a9_ (nomark _))
  case e1=>exact b9_ (a0_ (aj_ (ixK (K:=K) rIxL ad_) (pv 0) a4_ (λ_ _=>rfl)) (a0_ (ax_ bv_ (by rfl) B.int ea_ (a0_ (aj_ (ixK (K:=K) rIxL ad_) (pv 0) a4_ (λ_ _=>rfl)) a2_)) a2_))
  case' s2=>refine' bO_ (i:=2) ["words"] 1 [] cs'.nd rfl (Or.inl rfl) (ah_ (pv 0)) (λfp s H=>aY_ 0) (λfp s H=>?t2) (λfp s H=>?e2)
  case t2=>exact bR_ (ar_ bj_ (aj_ (ixK (K:=K) rIxL ad_) (pv 0) a4_ (λ_ _=>rfl)) a9_ (nomark _))
  case e2=>exact b9_ (a0_ (aj_ (ixK (K:=K) rIxL ad_) (pv 0) a4_ (λ_ _=>rfl)) (a0_ (aj_ (ixK (K:=K) rIxL ad_) (pv 0) a4_ (λ_ _=>rfl)) a2_))
  case s3=>exact fK_ (a5_ (ae_ (mc_ cW hr (a0_ (pv 1) (a0_ (pv 2) a2_)))))
  case' kk=>skip
  refine⟨_,rfl,l,rfl,⟨_,.of hl⟩,λD hD=>?_⟩;refine an_ (own:=1) (fv:=[]) (xs:=ys) rfl gok1 (λi out H'=>Same H H'/\H' D=some (.lst out)/\bb' K H' out ((bg' (wss.take i)).map kH)) ⟨Same.new hD,a1_,.nil⟩ (λi out H' _ ⟨sm,_,_⟩=>.of (sm _ _ hl)) (λout H1 ⟨s1,hD1,tu1⟩=>?_) (λi y out H' hy ⟨sm,hd,tz⟩=>?_);rotate_left
  ·obtain⟨ws,a,hw,rfl,ha⟩:=e4_ rw0 hy;have o:=ok ws (ad' hw);refine⟨_,rfl,rfl,λNx hN=>?_⟩;refine⟨_,rfl,a,_,_,_,rfl,rfl,.of (sm _ _ ha),atS (i:=0) o.ne,rfl,_,rfl,?_⟩;rw[b6_];refine ite2 (λc=>?_) (λc=>?_)
   ·obtain⟨l3,l640,n,en⟩:=o.h3 c;refine⟨_,rfl,a,_,_,_,rfl,rfl,.of (sm _ _ ha),atS (i:=1) Z1,_,rfl,a,_,_,_,rfl,rfl,.of (sm _ _ ha),atS (i:=2) Z1,_,n,rfl,l640,en,by show 2<=sizeLine;decide,λt nt=>?_⟩;have s5:=Same.new (o:=.tup [.str (ws.getD 1 ""),.int n]) nt
    have e5:upd H' t (.tup [.str (ws.getD 1 ""),.int n]) t=some (.tup ((kH (handW ws)).map kV)):=by
     rw[a1_];show _=some (HO.tup [.str (ws.getD 1 ""),.int ((PySem.intText? (ws.getD 2 "")).getD 0)]);rw[en];rfl
    generalize upd H' t (.tup [.str (ws.getD 1 ""),.int n])=H5 at s5 e5 ⊢;have lo:=a_1 tz;have:=fb_ (wss.take i);rw[aa'] at lo;rw[af'] at this;refine⟨out,s5 _ _ hd,by omega,hN (out++[.ref t]) _ ⟨aB_ (sm.trans s5) hD,a1_,?_⟩⟩;rw[aL_ hw,ct_,b_0 (show isW "hand" ws=true from c),ag'];exact bc_ (bb_ (tz.same s5) e5) (s5 _ _ hd)
   ·refine hN out _ ⟨sm,hd,?_⟩;rw[aL_ hw,ct_,a_8 (show ¬isW "hand" ws=true from c),aF'];exact tz
  have le:=a_1 rw0;rw[le,an'] at tu1;refine setG ?_;dsimp only;refine⟨_,rfl,l,rfl,⟨_,.of (s1 _ _ hl)⟩,λD2 hD2=>?_⟩;refine an_ (own:=1) (fv:=[]) (xs:=ys) rfl gok1 (λi out H'=>Same H1 H'/\H' D2=some (.lst out)/\bb' K H' out ((bq' (wss.take i)).map kT)) ⟨Same.new hD2,a1_,.nil⟩ (λi out H' _ ⟨sm,_,_⟩=>.of (sm _ _ (s1 _ _ hl))) (λout2 H2 ⟨s2,hD3,tu2⟩=>?_) (λi y out H' hy ⟨sm,hd,tz⟩=>?_);rotate_left
  ·obtain⟨ws,a,hw,rfl,ha⟩:=e4_ (rw0.same s1) hy;have o:=ok ws (ad' hw);refine⟨_,rfl,rfl,λNx hN=>?_⟩;refine⟨_,rfl,a,_,_,_,rfl,rfl,.of (sm _ _ ha),atS (i:=0) o.ne,rfl,_,rfl,?_⟩;rw[b6_];refine ite2 (λc=>?_) (λc=>?_)
   ·have l3:=o.t3 c;refine⟨_,rfl,a,_,_,_,rfl,rfl,.of (sm _ _ ha),atS (i:=1) Z1,_,rfl,a,_,_,_,rfl,rfl,.of (sm _ _ ha),atS (i:=2) Z1,by show 2<=sizeLine;decide,λt nt=>?_⟩;have s5:=Same.new (o:=.tup [.str (ws.getD 1 ""),.str (ws.getD 2 "")]) nt;have e5:upd H' t (.tup [.str (ws.getD 1 ""),.str (ws.getD 2 "")]) t=some (.tup ((kT (tieW ws)).map kV)):=a1_;generalize upd H' t (.tup [.str (ws.getD 1 ""),.str (ws.getD 2 "")])=H5 at s5 e5 ⊢;have lo:=a_1 tz;have:=eG_ (wss.take i);rw[aa'] at lo;rw[af'] at this;refine⟨out,s5 _ _ hd,by omega,hN (out++[.ref t]) _ ⟨aB_ (sm.trans s5) hD2,a1_,?_⟩⟩;rw[aL_ hw,cL_,b_0 (show isW "tie" ws=true from c),ag'];exact bc_ (bb_ (tz.same s5) e5) (s5 _ _ hd)
   ·refine hN out _ ⟨sm,hd,?_⟩;rw[aL_ hw,cL_,a_8 (show ¬isW "tie" ws=true from c),aF'];exact tz
  rw[le,an'] at tu2;refine setG ?_;dsimp only;refine⟨_,rfl,_,rfl,λpw dx hpw hdx ne=>?_⟩;have sa:Same H2 (upd H2 dx (.own pw)):=Same.new hdx;have sb:Same (upd H2 dx (.own pw)) (upd (upd H2 dx (.own pw)) pw (.ins C dx [])):=Same.new (by rw[a8_ (λz=>ne z.symm)];exact hpw);have sx:=sa.trans sb;have hpx:upd (upd H2 dx (.own pw)) pw (.ins C dx []) pw=some (.ins C dx []):=a1_;generalize upd (upd H2 dx (.own pw)) pw (.ins C dx [])=Hx at sx hpx ⊢;have s12:=s1.trans s2;have s0x:=s12.trans sx;refine⟨pw,dx,D,D2,_,_,bg' wss,bq' wss,rfl,hpx,(s2.trans sx) _ _ hD1,(tu1.same s2).same sx,sx _ _ hD3,tu2.same sx,G,λfp H6 keep WA fresh=>⟨rfl,?_⟩⟩;have np:H pw=none:=s12.free hpw
  exact k pw fp H6 (λb o e=>keep b o (s0x _ _ e) (a6_ e np)) np WA (λb hb=>by
   rcases fresh b hb with rfl|h
   ·exact np
   ·exact s0x.free h)
def pairW(p:Str):Str × Str:=((Txt.split p "-").getD 0 "",(Txt.split p "-").getD 1 "")
def ef'(x:Str):Option (Xb):=if x="free" then none else if x="fixed" then some [] else some ((Txt.split x ",").map pairW)
def dv'(ws:List Str):Pc:=(ws.getD 1 "",(PySem.intText? (ws.getD 2 "")).getD 0,ef' (ws.getD 4 ""))
def bc'(wss:List (List Str)):List Pc:=(wss.filter (isW "piece")).map dv'
structure WpOk (ws:List Str):Prop where
 l5:5<=ws.length
 i640:(ws.getD 2 "").length<=640
 int:∃n,PySem.intText? (ws.getD 2 "")=some n
 w4:(ws.getD 4 "").length<=50000
 two:ws.getD 4 ""≠"free"->ws.getD 4 ""≠"fixed"->∀p∈Txt.split (ws.getD 4 "") ",",(Txt.split p "-").length=2
theorem c1_(a:List (List Str))(ws:List Str):bc' (a++[ws])=bc' a++if isW "piece" ws=true then [dv' ws] else []:=by
 unfold bc';rw[aL',ag'];by_cases c:isW "piece" ws=true
 ·rw[b_0 c,List.filter_cons_of_pos c];rfl
 ·rw[a_8 c,List.filter_cons_of_neg c];rfl
theorem cm_(a:List (List Str)):(bc' a).length<=a.length:=by
 unfold bc';rw[aa'];exact List.length_filter_le ..
theorem lQ_{l:List Str}(h:l.length=2):l=[l.getD 0 "",l.getD 1 ""]:=by
 match l,h with
 |[a,b],_=>rfl
variable{v:V}{x:Str}
theorem hw_(h:WyV H v x)(two:x≠"free"->x≠"fixed"->∀p∈Txt.split x ",",(Txt.split p "-").length=2):WyAt K H v (ef' x):=by
 unfold ef';rcases h with⟨e,rfl⟩|⟨n1,e,l,rfl,hl⟩|⟨n1,n2,l,ys,rfl,hl,pr⟩
 ·rw[b_0 e];rfl
 ·rw[a_8 n1,b_0 e];exact⟨l,[],rfl,hl,.nil⟩
 ·rw[a_8 n1,a_8 n2];refine⟨l,ys,rfl,hl,?_⟩;have tw:=two n1 n2;generalize Txt.split x ","=ns at pr tw;clear hl;show Paired _ ys ((ns.map pairW).map kT)
  induction pr with
  |nil=>exact .nil
  |@cons y p ys ns h t ih=>
   obtain⟨a,rfl,ha⟩:=h;refine .cons ⟨a,rfl,?_⟩ (ih λq hq=>tw q (ai' _ hq));rw[ha,lQ_ (tw p aq')];rfl
variable{a:Addr}{o:HO}
theorem eR_(h:H a=some o):upd H a o=H:=by
 funext b
 by_cases z:b=a
 ·rw[z,a1_,h]
 ·rw[a8_ z]
theorem dM_{G:Hp}(s:Same H G):Same (upd H a o) (upd G a o):=λb u e=>by
 by_cases z:b=a
 ·rw[z,a1_] at e;rw[z,a1_];exact e
 ·rw[a8_ z] at e;rw[a8_ z];exact s _ _ e
variable{ps:List Pc}
theorem dk_{G:Hp}(h:b0' K H ys ps)(s:Same H G):b0' K G ys ps:=Paired.mapP h λy p ⟨t,v,e,q,w⟩=>⟨t,v,e,s _ _ q,w.same s⟩
variable{o:Option (Xb)}
theorem kk_{D:Addr}{u:HO}{xs:List V}(h:WyAt K H v o)(hD:H D=some (.lst xs))(ne:∀a,v=.ref a->a≠D):WyAt K (upd H D u) v o:=by
 cases o with
 |none=>exact h
 |some ws=>
  obtain⟨a,ys,e,ha,tu⟩:=h;refine⟨a,ys,e,by rw[a8_ (ne a e)];exact ha,Paired.mapP tu λy k ⟨b,z,q⟩=>⟨b,z,?_⟩⟩;rw[a8_ (λz=>by rw[z,hD] at q;cases q)];exact q
theorem bA':ba' ["rows","web","pieces","error"] ["rows"] (a9' cu'):=f__
def ct'(K:F__)(CG CW:Addr):Sp:=λvs H Q _=>∃(l:Addr) (ys:List V) (wss:List (List Str)),vs=[.ref l]/\H l=some (.lst ys)/\RwAt H ys wss/\wss.length<=1000/\(∀ws∈wss,WsOk ws)/\(∀ws∈wss,isW "piece" ws=true->WpOk ws)/\Good (bg' wss) (bq' wss)/\(∀q∈bc' wss,bV' (bq' wss) q)/\((bc' wss).map (·.1)).Nodup/\(bc' wss).length<64 /\
 ∀g p qs fp H',Same H H'->H g=none->bh' K CG CW H' g p (bg' wss) (bq' wss) qs fp->Qs (bc' wss) qs->(∀b∈fp,H b=none)->Q (.ref g) H'
variable{CG CW:Addr}
theorem eq_(F:Fun K "goods_in" "goods_in" cu' f fd)(B:Bi mg)(cI:Cal P w K mg base 7 "web_in" ["rows"] (dW' K CW))(cY:Cal P w K mg base 1 "ways_in" ["word"] c2')(cG:CalC P w K mg base CG 7 "Goods" ["self","web","pieces"] (dS' K CG CW)):FnOk P w K mg base CX0 9 f fd ["rows"] (ct' K CG CW):=by
 refine F.okA bA' λcdv A outer s H vs Q E hr h=>?_
 ·obtain⟨l,ys,wss,rfl,hl,rw0,l1000,ok,okp,G,gp,nd,h64,k⟩:=h;have sz:=b__;have hr1:Room 1 _:=hr.mono (by decide);have hr7:Room 7 _:=hr.mono (by decide);refine' ⟨_,a3_ ?s1 (a3_ ?s2 (a5_ ?s3)),?kk⟩
  case s1=>exact ao_ 1 bA'.nd (al_ cI hr7 (a0_ (pv 0) a2_))
  case' s2=>refine' bO_ (i:=2) ["words"] 1 [] bA'.nd rfl (Or.inl rfl) (ah_ (pv 0)) (λfp s H=>aY_ 0) (λfp s H=>?t1) (λfp s H=>?e1)
  case t1=>exact bR_ (ar_ bj_ (aj_ (ixK (K:=K) rIxL ad_) (pv 0) a4_ (λ_ _=>rfl)) a9_ (nomark _))
  case e1=>exact b9_ (a0_ (aj_ (ixK (K:=K) rIxL ad_) (pv 0) a4_ (λ_ _=>rfl)) (a0_ (ax_ bv_ (by rfl) B.int ea_ (a0_ (aj_ (ixK (K:=K) rIxL ad_) (pv 0) a4_ (λ_ _=>rfl)) a2_)) (a0_ (al_ cY hr1 (a0_ (aj_ (ixK (K:=K) rIxL ad_) (pv 0) a4_ (λ_ _=>rfl)) a2_)) a2_)))
  case s3=>exact fK_ (a5_ (ae_ (mc_ cG hr (a0_ (pv 1) (a0_ (pv 2) a2_)))))
  case' kk=>skip
  refine⟨_,rfl,l,ys,wss,rfl,hl,rw0,l1000,ok,G,λp fpw H0 s0 np W0 fr0=>?_⟩;refine setG ?_;dsimp only;refine⟨_,rfl,l,rfl,⟨_,.of (s0 _ _ hl)⟩,λD hD=>?_⟩;refine an_ (own:=1) (fv:=[]) (xs:=ys) rfl gok1 (λi out H'=>Same H0 H'/\H' D=some (.lst out)/\∀u,b0' K (upd H' D u) out (bc' (wss.take i))) ⟨Same.new hD,a1_,λu=>.nil⟩ (λi out H' _ ⟨sm,_,_⟩=>.of (sm _ _ (s0 _ _ hl))) (λout H1 ⟨s1,hD1,tu1⟩=>?_) (λi y out H' hy ⟨sm,hd,tz⟩=>?_);rotate_left
  ·obtain⟨ws,a,hw,rfl,ha⟩:=e4_ (rw0.same s0) hy;have o:=ok ws (ad' hw);refine⟨_,rfl,rfl,λNx hN=>?_⟩;refine⟨_,rfl,a,_,_,_,rfl,rfl,.of (sm _ _ ha),atS (i:=0) o.ne,rfl,_,rfl,?_⟩;rw[b6_];refine ite2 (λc=>?_) (λc=>?_)
   ·have op:=okp ws (ad' hw) c;obtain⟨n,en⟩:=op.int;have l5:=op.l5;refine⟨_,rfl,a,_,_,_,rfl,rfl,.of (sm _ _ ha),atS (i:=1) Z1,_,rfl,a,_,_,_,rfl,rfl,.of (sm _ _ ha),atS (i:=2) Z1,_,n,rfl,op.i640,en,_,rfl,a,_,_,_,rfl,rfl,.of (sm _ _ ha),atS (i:=4) Z1,_,rfl,op.w4,λv H2 s2 wy fr=>?_⟩;have wa:=hw_ (K:=K) wy op.two;refine⟨by show 3<=sizeLine;decide,λt nt=>?_⟩;have s5:=Same.new (o:=.tup [.str (ws.getD 1 ""),.int n,v]) nt
    have e5:upd H2 t (.tup [.str (ws.getD 1 ""),.int n,v]) t=some (.tup [.str (dv' ws).1,.int (dv' ws).2.1,v]):=by
     rw[a1_];show _=some (HO.tup [.str (ws.getD 1 ""),.int ((PySem.intText? (ws.getD 2 "")).getD 0),v]);rw[en];rfl
    generalize upd H2 t (.tup [.str (ws.getD 1 ""),.int n,v])=H5 at s5 e5 ⊢;have s25:=s2.trans s5;have lo:=a_1 (tz (.lst []));have:=cm_ (wss.take i);rw[af'] at this;have hD5:=s25 _ _ hd;refine⟨out,hD5,by omega,hN (out++[.ref t]) _ ⟨aB_ (sm.trans s25) hD,a1_,λu=>?_⟩⟩;rw[aL_ hw,c1_,b_0 (show isW "piece" ws=true from c),dC_];refine aN_ (dk_ (tz u) (dM_ s25)) (.cons ⟨t,v,rfl,?_,kk_ (wa.same s5) hD5 λa z e=>?_⟩ .nil)
    ·rw[a8_ (λz=>by rw[z,hD5] at e5;cases e5)];exact e5
    ·have:=fr a z;rw[e,hd] at this;cases this
   ·refine hN out _ ⟨sm,hd,?_⟩;rw[aL_ hw,c1_,a_8 (show ¬isW "piece" ws=true from c),aF'];exact tz
  have le:=a_1 rw0;rw[le,an'] at tu1;refine setG ?_;dsimp only;have pcs:=tu1 (.lst out);rw[eR_ hD1] at pcs;refine⟨_,rfl,_,rfl,λg dg hg hdg neg=>?_⟩;have ga:Same H1 (upd H1 dg (.own g)):=Same.new hdg;have gb:Same (upd H1 dg (.own g)) (upd (upd H1 dg (.own g)) g (.ins CG dg [])):=Same.new (by rw[a8_ (λz=>neg z.symm)];exact hg);have gx:=ga.trans gb;have hgx:upd (upd H1 dg (.own g)) g (.ins CG dg []) g=some (.ins CG dg []):=a1_;generalize upd (upd H1 dg (.own g)) g (.ins CG dg [])=Hx at gx hgx ⊢;have s01:=s0.trans s1;have sx:=s01.trans gx;have ng:H g=none:=s01.free hg
  have gfp:g∉fpw:=λm=>by
   obtain⟨o,e⟩:=bD'.has W0 m;rw[s1.free hg] at e;cases e
  refine⟨g,dg,p,D,out,bc' wss,bg' wss,bq' wss,fpw,rfl,hgx,(W0.same s1).same gx,gfp,G,gx _ _ hD1,dk_ pcs gx,gp,nd,h64,λqs fp' H7 keep7 GA Q7 fr7=>⟨rfl,?_⟩⟩;refine k g p qs fp' H7 (λb o e=>keep7 b o (sx _ _ e) (a6_ e ng)) ng GA Q7 (λb hb=>?_);rcases fr7 b hb with rfl|h|h
  ·exact ng
  ·exact fr0 b h
  ·exact sx.free h
theorem eo':ba' ["goods","stand","error"] ["goods","stand"] (a9' eK'):=f__
theorem gi_(F:Fun K "text_again" "text_again" eK' f fd)(cT:Cal P w K mg base 4 "goods_text" ["goods","stand"] (bs' K CG CW)):FnOk P w K mg base CX0 5 f fd ["goods","stand"] (bs' K CG CW):=by
 refine F.okA eo' λcdv A outer s H vs Q E hr h=>?_
 ·obtain⟨g,p,d,hs,ts,qs,fp,ns,f,rfl,S,pq,k⟩:=h;refine' ⟨_,a5_ (fK_ (a5_ (ae_ (al_ cT hr (a0_ (pv 0) (a0_ (pv 1) a2_)))))),?kk⟩;exact⟨_,rfl,_,rfl,g,p,d,hs,ts,qs,fp,ns,f,rfl,S,pq,k⟩
theorem d4':ba' ["text"] ["text"] (a9' c1'):=f__
def rowsT(x:Str):List (List Str):=(Txt.split x "\n").map λr=>Txt.split r " "
def cL':Sp:=λvs H Q _=>∃x:Str,vs=[.str x]/\x.length<=50000/\∀l ys H',Same H H'->H l=none->H' l=some (.lst ys)->RwAt H' ys (rowsT x)->Q (.ref l) H'
theorem hf_(F:Fun K "words_of_rows" "words_of_rows" c1' f fd)(B:Bi mg):FnOk P w K mg base CX0 1 f fd ["text"] cL':=by
 refine F.okA d4' λcdv A outer s H vs Q E hr h=>?_
 ·obtain⟨x,rfl,hz,k⟩:=h;have sz:=b__;refine' ⟨_,a3_ ?s1 (a5_ ?s2),?kk⟩
  case s1=>exact aw_ (aH_ (aK_ (a7_ aQ_ (by rfl) B.isi ab_ (a0_ (pv 0) (a0_ (b1_ (v:=.ty "str") (by rfl) B.str dg_ rfl) a2_))))) ac_ aa_
  case' s2=>refine' ae_ (aR_ ["row"] 1 [] (ah_ ?sp) (λfp s H=>aY_ 0) (λfp s H=>aT_) (λfp s H=>?el))
  case sp=>exact bl_ b_1 c_2 e__ bG_ (pv 0) (a0_ a9_ a2_)
  case el=>exact ka_ (K:=K) b_1 c_2 e__ bG_ (pv 0) (a0_ a9_ a2_)
  case' kk=>skip
  refine⟨_,rfl,_,_,_,_,rfl,.str x,rfl,_,rfl,iteF ?_⟩;refine⟨_,rfl,rfl,x,"\n",10,rfl,rfl,rfl,by omega,λl nl=>?_⟩;have sh:∀r∈Txt.split x "\n",r.length<=x.length:=λr h=>c_5 h;have sl:=PyProof.Rows.split_le x "\n";unfold rowsT at k;generalize Txt.split x "\n"=ns at k sh sl ⊢;obtain⟨s1,k1⟩:=nw__ (o:=.lst (ns.map V.str)) nl;generalize upd H l (.lst (ns.map V.str))=H1 at s1 k1 ⊢;refine⟨l,rfl,⟨_,.of k1⟩,λD hD=>?_⟩;refine an_ (own:=1) (fv:=[]) (xs:=ns.map V.str) rfl gok1 (λi out H'=>Same H1 H'/\H' D=some (.lst out)/\∀u,RwAt (upd H' D u) out ((ns.take i).map λr=>Txt.split r " ")) ⟨Same.new hD,a1_,λu=>.nil⟩ (λi out H' _ ⟨sm,_,_⟩=>.of (sm _ _ k1)) (λout H' ⟨sm,hd,eo⟩=>?_) (λi y out H' hy ⟨sm,hd,eo⟩=>?_)
  ·have e:=eo (.lst out);rw[aa',an',eR_ hd] at e;exact k D out H' (s1.trans sm) (s1.free hD) hd e
  ·obtain⟨n,hn,rfl⟩:=aF_ hy;have ln:=sh n (ad' hn);refine⟨_,rfl,rfl,λNx hN=>yesT ?_⟩;refine⟨_,rfl,rfl,n," ",32,rfl,rfl,rfl,by omega,λl2 nl2=>?_⟩;obtain⟨s2,k2⟩:=nw__ (o:=.lst ((Txt.split n " ").map V.str)) nl2;have ne:l2≠D:=(a6_ hd nl2).symm;generalize upd H' l2 (.lst ((Txt.split n " ").map V.str))=H2 at s2 k2 ⊢;have lo:=a_1 (eo (.lst []));rw[aa',af'] at lo;refine⟨out,s2 _ _ hd,by omega,hN _ _ ⟨aB_ (sm.trans s2) hD,a1_,λu=>?_⟩⟩;rw[dC_,aL_ hn,ag'];exact aN_ ((eo u).same (dM_ s2)) (.cons ⟨l2,rfl,by rw[a8_ ne];exact k2⟩ .nil)
variable{hs:Xa}{ts:Xb}{qs:List Pc}
theorem bh'.slim2{g p:Addr}{fp:List Addr}(G:bh' K CG CW H g p hs ts qs fp):∃fp',bh' K CG CW H g p hs ts qs fp'/\∀b∈fp',(∃o,H b=some o)/\b∈fp:=by
 obtain⟨dx,dw,dy,vs,fpw,h1,h2,h3,h4,h5,m1,m2,m3,m4,m5⟩:=G.ex;refine⟨g::dw::dy::(fpw++vs.filterMap λv=>match v with | .ref a=>some a|_=>none),⟨dx,dw,dy,vs,fpw,h1,h2,h3,h4,h5,by simp,by simp,by simp,λb hb=>by simp[hb],λv hv a z=>?_⟩,λb hb=>?_⟩
 ·have:a∈vs.filterMap λv=>match v with | .ref a=>some a|_=>none:=aB'.mpr ⟨v,hv,by rw[z]⟩;simp only[ah',am'];exact .inr (.inr (.inr (.inr this)))
 ·simp only[ah',am'] at hb;rcases hb with rfl|rfl|rfl|hb|hb
  ·exact⟨⟨_,h1⟩,m1⟩
  ·exact⟨⟨_,h3⟩,m2⟩
  ·exact⟨⟨_,h4⟩,m3⟩
  ·exact⟨h2.has hb,m4 _ hb⟩
  ·obtain⟨v,hv,e⟩:=aB'.mp hb;obtain⟨i,hi,ev⟩:=aG' hv;have le:=a_1 h5;have w:=aA_ h5 i hi Z1;rw[ev] at w;cases o:(qs[i]' Z1).2.2 with
   |none=>
    rw[o] at w;rw[show v=.non from w] at e;cases e
   |some ws=>
    rw[o] at w;obtain⟨a,ys,ea,ha,_⟩:=w;rw[ea] at e;cases e;exact⟨⟨_,ha⟩,m5 v hv _ ea⟩
def cH'(wss:List (List Str)):Xb:=(wss.filter (isW "piece")).map λws=>(ws.getD 1 "",ws.getD 3 "")
theorem cq_(a:List (List Str))(ws:List Str):cH' (a++[ws])=cH' a++if isW "piece" ws=true then [(ws.getD 1 "",ws.getD 3 "")] else []:=by
 unfold cH';rw[aL',ag'];by_cases c:isW "piece" ws=true
 ·rw[b_0 c,List.filter_cons_of_pos c];rfl
 ·rw[a_8 c,List.filter_cons_of_neg c];rfl
theorem fo_(a:List (List Str)):(cH' a).length<=a.length:=by
 unfold cH';rw[aa'];exact List.length_filter_le ..
def kvS(p:Str × Str):Key × V:=(Sum.inr p.1,.str p.2)
structure TxOk (wss:List (List Str)) (f:Str->Str):Prop where
 l:wss.length<=1000
 row:∀ws∈wss,rowB ws=true
 wl:∀ws∈wss,∀x∈ws,x.length<=50000
 ok:∀ws∈wss,WsOk ws
 okp:∀ws∈wss,isW "piece" ws=true->WpOk ws
 G:Good (bg' wss) (bq' wss)
 gp:∀q∈bc' wss,bV' (bq' wss) q
 nd:((bc' wss).map (·.1)).Nodup
 h64:(bc' wss).length<64
 ff:∀ws∈wss,isW "piece" ws=true->f (ws.getD 1 "")=ws.getD 3 ""
 at_:∀n∈(bc' wss).map (·.1),f n∈(bg' wss).map (·.1)
variable{f:Str->Str}
theorem gt_(h:∀ws∈wss,isW "piece" ws=true->f (ws.getD 1 "")=ws.getD 3 ""):(cH' wss).map kvS=stF ((bc' wss).map (·.1)) f:=by
 show _=((bc' wss).map (·.1)).map _;unfold cH' bc';rw[ao',ao',ao'];refine ay' λws hw=>?_;obtain⟨m,c⟩:=aT'.mp hw;show ((Sum.inr (ws.getD 1 ""):Key),V.str (ws.getD 3 ""))=(Sum.inr (ws.getD 1 ""),V.str (f (ws.getD 1 "")));rw[h ws m c]
theorem bm':ba' ["text","rows","goods","stand"] ["text"] (a9' bX'):=f__
def bY'(K:F__)(CG CW:Addr):Sp:=λvs H Q _=>∃(x:Str) (f:Str->Str),vs=[.str x]/\x.length<=50000/\TxOk (rowsT x) f/\(∀qs,Qs (bc' (rowsT x)) qs->∀q∈qs,PcT q)/\(∀qs,Qs (bc' (rowsT x)) qs->bW' (bg' (rowsT x)) (bq' (rowsT x)) qs f=x) /\
 ∀t g p d qs fp H',Same H H'->H t=none->H' t=some (.tup [.ref g,.ref d])->Std K CG CW H' g p d (bg' (rowsT x)) (bq' (rowsT x)) qs fp ((bc' (rowsT x)).map (·.1)) f->Qs (bc' (rowsT x)) qs->H d=none->(∀b∈fp,H b=none)->Q (.ref t) H'
theorem da_{f0:Addr}(F:Fun K "read_goods" "read_goods" bX' f0 fd)(B:Bi mg)(cW:Cal P w K mg base 1 "words_of_rows" ["text"] cL')(cR:Cal P w K mg base 4 "is_row_of_goods" ["words"] (d0' K))(cI:Cal P w K mg base 9 "goods_in" ["rows"] (ct' K CG CW))(cA:Cal P w K mg base 5 "text_again" ["goods","stand"] (bs' K CG CW)):FnOk P w K mg base CX0 10 f0 fd ["text"] (bY' K CG CW):=by
 refine F.okA bm' λcdv A outer s H vs Q E hr h=>?_
 ·obtain⟨x,f,rfl,hz,T,pct,back,k⟩:=h;have sz:=b__;have hr1:Room 1 _:=hr.mono (by decide);have hr4:Room 4 _:=hr.mono (by decide);have hr5:Room 5 _:=hr.mono (by decide);refine' ⟨_,?r0,?kk⟩
  case' r0=>refine' a3_ ?s1 ?r1
  case' r1=>refine' a3_ ?s2 ?r2
  case' r2=>refine' a3_ ?s3 ?r3
  case' r3=>refine' a3_ ?s4 (a3_ ?s5 (a5_ ?s6))
  case s1=>exact ao_ 1 bm'.nd (al_ cW hr1 (a0_ (pv 0) a2_))
  case' s2=>refine' aw_ (aH_ (aK_ (a7_ (cZ_ rfl) (by rfl) B.all ft_ (a0_ (aR_ ["words"] 1 [] (ah_ (pv 1)) (λfp s H=>aY_ 0) (λfp s H=>aT_) (λfp s H=>?e1)) a2_)))) ac_ aa_
  case e1=>exact al_ cR hr4 (a0_ (pv 0) a2_)
  case s3=>exact ao_ 2 bm'.nd (al_ cI hr (a0_ (pv 1) a2_))
  case' s4=>refine' ao_ 3 bm'.nd (ax_ (bk_ rfl) (by rfl) B.dict cd_ (a0_ (aR_ ["words"] 1 [] (ah_ (pv 1)) (λfp s H=>aY_ 0) (λfp s H=>?t2) (λfp s H=>?e2)) a2_))
  case t2=>exact bR_ (ar_ bj_ (aj_ (ixK (K:=K) rIxL ad_) (pv 0) a4_ (λ_ _=>rfl)) a9_ (nomark _))
  case e2=>exact b9_ (a0_ (aj_ (ixK (K:=K) rIxL ad_) (pv 0) a4_ (λ_ _=>rfl)) (a0_ (aj_ (ixK (K:=K) rIxL ad_) (pv 0) a4_ (λ_ _=>rfl)) a2_))
  case s5=>exact aw_ (ar_ e6_ (al_ cA hr5 (a0_ (pv 2) (a0_ (pv 3) a2_))) (pv 0) (nomark _)) ac_ aa_
  case s6=>exact ae_ (b9_ (a0_ (pv 2) (a0_ (pv 3) a2_)))
  case' kk=>skip
  refine⟨_,rfl,x,rfl,hz,λl ys H1 s1 nl hl rw1=>?_⟩;generalize rowsT x=wss at T pct back k rw1;refine setG ?_;dsimp only;have le:=a_1 rw1;have l1000:=T.l;refine⟨_,rfl,l,rfl,⟨_,.of hl⟩,λD hD=>?_⟩;refine an_ (own:=1) (fv:=[]) (xs:=ys) rfl gok1 (λi out H'=>Same H1 H'/\H' D=some (.lst out)/\out=((wss.take i).map rowB).map V.bl) ⟨Same.new hD,a1_,rfl⟩ (λi out H' _ ⟨sm,_,_⟩=>.of (sm _ _ hl)) (λout H2 ⟨s2,hd2,eo⟩=>?_) (λi y out H' hy ⟨sm,hd,eo⟩=>?_);rotate_left
  ·obtain⟨ws,a,hw,rfl,ha⟩:=e4_ rw1 hy;have wm:=ad' hw;have ne:ws≠[]:=λz=>by have:=(T.ok ws wm).ne;rw[z] at this;simp at this
   refine⟨_,rfl,rfl,λNx hN=>yesT ?_⟩;refine⟨_,rfl,a,ws,rfl,sm _ _ ha,ne,T.wl ws wm,λH2 s2=>⟨out,s2 _ _ hd,?_,hN _ _ ⟨aB_ (sm.trans s2) hD,a1_,?_⟩⟩⟩
   ·rw[eo,aa',aa',af'];omega
   ·rw[eo,aL_ hw,ag',ag'];rfl
  rw[le,an'] at eo;rw[eo] at hd2;refine⟨D,wss.map rowB,rfl,.of hd2,_,rfl,?_⟩
  have al:(wss.map rowB).all id=true:=by
   rw[List.all_map,aQ'];exact T.row
  refine ite2 (λc=>?_) (λc=>?_)
  ·have c:(!((wss.map rowB).all id))=true:=c;rw[al] at c;cases c
  have hl2:=s2 _ _ hl;have rw2:=rw1.same s2;refine⟨_,rfl,l,ys,wss,rfl,hl2,rw2,T.l,T.ok,T.okp,T.G,T.gp,T.nd,T.h64,λg p qs fp H3 s3 ng GA Qq fr=>?_⟩;refine setG ?_;dsimp only;have hl3:=s3 _ _ hl2;have rw3:=rw2.same s3;have s03:=(s1.trans s2).trans s3;refine⟨_,rfl,l,rfl,⟨_,.of hl3⟩,λD2 hD2=>?_⟩;refine an_ (own:=1) (fv:=[]) (xs:=ys) rfl gok1 (λi out H'=>Same H3 H'/\H' D2=some (.lst out)/\bE' K H' out ((cH' (wss.take i)).map kvS)) ⟨Same.new hD2,a1_,.nil⟩ (λi out H' _ ⟨sm,_,_⟩=>.of (sm _ _ hl3)) (λout H4 ⟨s4,hd4,pa⟩=>?_) (λi y out H' hy ⟨sm,hd,tz⟩=>?_);rotate_left
  ·obtain⟨ws,a,hw,rfl,ha⟩:=e4_ rw3 hy;have wm:=ad' hw;refine⟨_,rfl,rfl,λNx hN=>?_⟩;refine⟨_,rfl,a,_,_,_,rfl,rfl,.of (sm _ _ ha),atS (i:=0) (T.ok ws wm).ne,rfl,_,rfl,?_⟩;rw[b6_];refine ite2 (λc=>?_) (λc=>?_)
   ·have l5:=(T.okp ws wm c).l5;refine⟨_,rfl,a,_,_,_,rfl,rfl,.of (sm _ _ ha),atS (i:=1) Z1,_,rfl,a,_,_,_,rfl,rfl,.of (sm _ _ ha),atS (i:=3) Z1,by show 2<=sizeLine;decide,λt nt=>?_⟩;obtain⟨s5,e5⟩:=nw__ (o:=.tup [.str (ws.getD 1 ""),.str (ws.getD 3 "")]) nt;generalize upd H' t (.tup [.str (ws.getD 1 ""),.str (ws.getD 3 "")])=H5 at s5 e5 ⊢;have lo:=a_1 tz;have:=fo_ (wss.take i);rw[aa'] at lo;rw[af'] at this;have hD5:=s5 _ _ hd
    have pD:∀{b:Addr} {zs:List V},H5 b=some (.tup zs)->b≠D2:=λhb z=>by
     rw[z,hD5] at hb;cases hb
    refine⟨out,hD5,by omega,hN (out++[.ref t]) _ ⟨aB_ (sm.trans s5) hD2,a1_,?_⟩⟩;rw[aL_ hw,cq_,b_0 (show isW "piece" ws=true from c),ag'];exact aN_ (Paired.mapP tz λy kv ⟨b,z,hb⟩=>⟨b,z,by rw[a8_ (pD (s5 _ _ hb))];exact s5 _ _ hb⟩) (.cons ⟨t,rfl,by rw[a8_ (pD e5)];exact e5⟩ .nil)
   ·refine hN out _ ⟨sm,hd,?_⟩;rw[aL_ hw,cq_,a_8 (show ¬isW "piece" ws=true from c),aF'];exact tz
  rw[le,an',gt_ T.ff] at pa;have h64:=T.h64;refine⟨D2,out,_,rfl,hd4,pa,by rw[bQ_,aa'];omega,λd hd=>?_⟩
  have ndk:((stF ((bc' wss).map (·.1)) f).map (·.1)).Nodup:=by
   rw[dp_,aO',aK'];exact T.nd.imp λn e=>n (d__ e)
  rw[bC_ ndk];obtain⟨s5,e5⟩:=nw__ (o:=.dK (stF ((bc' wss).map (·.1)) f)) hd;refine setG ?_;dsimp only;generalize upd H4 d (.dK (stF ((bc' wss).map (·.1)) f))=H5 at s5 e5 ⊢;have s35:=s4.trans s5;have d3:H3 d=none:=s4.free hd;obtain⟨fp',GA',al'⟩:=GA.slim2
  have dfp:d∉fp':=λm=>by
   obtain⟨⟨o,e⟩,_⟩:=al' d m;rw[d3] at e;cases e
  have S:Std K CG CW H5 g p d (bg' wss) (bq' wss) qs fp' ((bc' wss).map (·.1)) f:=by
   refine⟨GA'.same s35,T.G,dfp,e5,⟨?_,T.at_⟩,Qq.nd T.nd,?_,λq hq=>?_⟩
   ·rw[Qq.nms];exact (aG_ _).symm
   ·have:=Qq.len;omega
   ·obtain⟨p',hp',rfl⟩:=Qq.mem q hq;have:=(T.gp p' hp').w1;show 0<=p'.2.1;omega
  refine⟨_,rfl,_,rfl,g,p,d,_,_,qs,fp',_,f,rfl,S,pct qs Qq,λH6 s6=>?_⟩;refine⟨_,rfl,rfl,_,rfl,?_⟩;rw[back qs Qq];refine iteNS rfl ?_;refine⟨_,rfl,_,rfl,by show 2<=sizeLine;decide,λt nt=>?_⟩;have s7:=Same.new (o:=.tup [.ref g,.ref d]) nt;have s37:=(s35.trans s6).trans s7;have s07:=s03.trans s37;exact k t g p d qs fp' _ s07 (s03.free ((s35.trans s6).free nt)) a1_ ((S.same s6).same s7) Qq (s03.free d3) (λb hb=>(s1.trans s2).free (fr b (al' b hb).2))
theorem lx_:("\n":Str)=⟨#[10]⟩:=by decide +kernel
theorem cy_:(" ":Str)=⟨#[32]⟩:=by decide +kernel
theorem aZ_(a b:Str):(a++b).cps.toList=a.cps.toList++b.cps.toList:=by rw[PySem.Str.cps_append,Array.toList_append]
variable{a:Str}
theorem bh_{b:Str}(h:a.cps.toList=b.cps.toList):a=b:=by
 apply Str.ext';exact Array.toList_inj.mp h
theorem f7_{c:Nat}:∀{a b s t:List Nat},c∉a->c∉b->a++c::s=b++c::t->a=b/\s=t
 |[],[],_,_,_,_,h=>⟨rfl,(b_8 h).2⟩
 |[],y::b,s,t,_,hb,h=>by
  have:=(b_8 h).1;exact absurd (this▸aq') hb
 |x::a,[],s,t,ha,_,h=>by
  have:=(b_8 h).1;exact absurd (this▸aq') ha
 |x::a,y::b,s,t,ha,hb,h=>by
  obtain⟨e,h⟩:=b_8 h;obtain⟨e1,e2⟩:=f7_ (λm=>ha (ai' _ m)) (λm=>hb (ai' _ m)) h;exact⟨by rw[e,e1],e2⟩
theorem as_(c:Nat)(x y:Str)(r:List Str):(Str.join ⟨#[c]⟩ (x::y::r)).cps.toList=x.cps.toList++c::(Str.join ⟨#[c]⟩ (y::r)).cps.toList:=by
 show (x++⟨#[c]⟩++Str.join ⟨#[c]⟩ (y::r)).cps.toList=_;rw[aZ_,aZ_,a2'];rfl
theorem go_(c:Nat):∀(ps qs:List Str),ps≠[]->qs≠[]->(∀p∈ps,c∉p.cps.toList)->(∀q∈qs,c∉q.cps.toList)->(Str.join ⟨#[c]⟩ ps).cps.toList=(Str.join ⟨#[c]⟩ qs).cps.toList->ps=qs
 |[],_,h,_,_,_,_=>absurd rfl h
 |_::_,[],_,h,_,_,_=>absurd rfl h
 |[x],[y],_,_,_,_,e=>by rw[bh_ (a:=x) (b:=y) e]
 |[x],y::z::r,_,_,h,_,e=>by
  rw[as_] at e
  have:c∈x.cps.toList:=by
   have e:x.cps.toList=_:=e;rw[e];simp
  exact absurd this (h x aq')
 |x::z::r,[y],_,_,_,h,e=>by
  rw[as_] at e
  have:c∈y.cps.toList:=by
   have e:_=y.cps.toList:=e;rw[<- e];simp
  exact absurd this (h y aq')
 |x::x2::r,y::y2::q,_,_,h1,h2,e=>by
  rw[as_,as_] at e;obtain⟨e1,e2⟩:=f7_ (h1 x aq') (h2 y aq') e;rw[bh_ e1,go_ c (x2::r) (y2::q) Z2 Z2 (λp m=>h1 p (ai' _ m)) (λp m=>h2 p (ai' _ m)) e2]
theorem b2_(c:Nat)(ps:List Str)(h:ps≠[])(hf:∀p∈ps,c∉p.cps.toList):Txt.split (Txt.join ⟨#[c]⟩ ps) ⟨#[c]⟩=ps:=by
 refine go_ c _ ps (λe=>?_) h (StrLaws.split_free _ c) hf ?_
 ·have:=PyProof.Rows.split_pos (Txt.join ⟨#[c]⟩ ps) ⟨#[c]⟩;rw[e] at this;simp at this
 ·rw[StrLaws.join_split];show (Builtin.Str.glued _ ps).cps.toList=_;rw[StrLaws.glued_eq_join]
theorem jlen(sep:Str)(ss:List Str):(Txt.join sep ss).length<=(ss.map (·.length)).sum+ss.length * sep.length:=by
 show (Builtin.Str.glued sep ss).length<=_;rw[size_glued];have:(ss.length - 1) * sep.length<=ss.length * sep.length:=Nat.mul_le_mul_right _ Z1;omega
theorem dH_{ss:List Str}{m:Nat}(h:∀x∈ss,x.length<=m):(ss.map (·.length)).sum<=m * ss.length:=by
 induction ss with
 |nil=>simp
 |cons x ss ih=>
  have a:=h x aq';have b:=ih λy hy=>h y (ai' _ hy);rw[au',List.sum_cons,aA',Nat.mul_add,Nat.mul_one];omega
theorem fl_{rs:List Str}(h:rs≠[])(hf:∀r∈rs,10∉r.cps.toList):rowsT (Txt.join "\n" rs)=rs.map λr=>Txt.split r " ":=by
 unfold rowsT;rw[lx_,b2_ 10 rs h hf]
theorem jn(c:Nat)(ss:List Str):Txt.join ⟨#[c]⟩ ss=Str.join ⟨#[c]⟩ ss:=StrLaws.glued_eq_join _ ss
theorem em_l:(Str.empty:Str).cps.toList=[]:=rfl
theorem k4_(c:Nat):(⟨#[c]⟩:Str).cps.toList=[c]:=rfl
theorem d3_(n:Str)(k:Int):cq' n k=Txt.join " " ["hand",n,(toString k:Ai)]:=by
 refine bh_ ?_;rw[cy_,jn,as_,as_];show (cq' n k).cps.toList=_;unfold cq';rw[aZ_,aZ_,aZ_,aZ_,em_l,a5',cy_,k4_];have e:("hand ":Str).cps.toList=("hand":Str).cps.toList++[32]:=by decide +kernel
 rw[e];simp only[a2',List.singleton_append];rfl
theorem dz_(t:Str × Str):tieR t=Txt.join " " ["tie",t.1,t.2]:=by
 refine bh_ ?_;rw[cy_,jn,as_,as_];show (tieR t).cps.toList=_;unfold tieR;rw[aZ_,aZ_,aZ_,aZ_,em_l,a5',cy_,k4_];have e:("tie ":Str).cps.toList=("tie":Str).cps.toList++[32]:=by decide +kernel
 rw[e];simp only[a2',List.singleton_append];rfl
theorem cM_(t:Str × Str):tieT t=Txt.join "-" [t.1,t.2]:=by
 have h:("-":Str)=⟨#[45]⟩:=by decide +kernel
 refine bh_ ?_;rw[h,jn,as_];show (tieT t).cps.toList=_;unfold tieT;rw[aZ_,aZ_,aZ_,em_l,a5',h,k4_];simp only[a2',List.singleton_append];rfl
theorem bE_(n:Str)(k:Int)(h u:Str):cF' n k h u=Txt.join " " ["piece",n,(toString k:Ai),h,u]:=by
 refine bh_ ?_;rw[cy_,jn,as_,as_,as_,as_];show (cF' n k h u).cps.toList=_;unfold cF';rw[aZ_,aZ_,aZ_,aZ_,aZ_,aZ_,aZ_,aZ_,em_l,a5',cy_,k4_];have e:("piece ":Str).cps.toList=("piece":Str).cps.toList++[32]:=by decide +kernel
 rw[e];simp only[a2',List.singleton_append];rfl
theorem dv_{ws:List Str}(h:ws≠[])(hf:∀w∈ws,32∉w.cps.toList):Txt.split (Txt.join " " ws) " "=ws:=by
 rw[cy_];exact b2_ 32 ws h hf
variable{c:Nat}
theorem aD_(h:bd' x=true)(m:c∈x.cps.toList):97<=c/\c<=122:=by
 unfold bd' at h;simp only[az',aQ'] at h;have:=h.2 c m;unfold okc at this;simpa using this
variable{k:Int}
theorem bt_(h0:0<=k)(hc:c∈(PySem.Str.ofString (toString k)).cps.toList):48<=c/\c<=57:=by
 obtain⟨m,rfl⟩:=aC' h0;rw[PySem.W.KIN.signs_num] at hc;obtain⟨ch,hch,e⟩:=ac'.mp hc;have r:=PyProof.Rows.digit_range (Nat.isDigit_of_mem_toDigits (by decide) (by decide) hch);rw[<- e];exact r
variable{n:Str}
theorem h0_(hn:bd' n=true)(hk:0<=k):Txt.split (cq' n k) " "=(["hand",n,(toString k:Ai)]:List Str):=by
 rw[d3_];refine dv_ Z2 λw hw m=>?_;simp only[ah',aV',or_false] at hw;rcases hw with rfl|rfl|rfl
 ·revert m;decide +kernel
 ·have:=aD_ hn m;omega
 ·have:=bt_ hk m;omega
variable{t:Str × Str}
theorem iL_(h1:bd' t.1=true)(h2:bd' t.2=true):Txt.split (tieR t) " "=(["tie",t.1,t.2]:List Str):=by
 rw[dz_];refine dv_ Z2 λw hw m=>?_;simp only[ah',aV',or_false] at hw;rcases hw with rfl|rfl|rfl
 ·revert m;decide +kernel
 ·have:=aD_ h1 m;omega
 ·have:=aD_ h2 m;omega
theorem bY_(h1:bd' t.1=true)(h2:bd' t.2=true):Txt.split (tieT t) "-"=[t.1,t.2]:=by
 have h:("-":Str)=⟨#[45]⟩:=by decide +kernel
 rw[cM_,h];refine b2_ 45 _ Z2 λw hw m=>?_;simp only[ah',aV',or_false] at hw;rcases hw with rfl|rfl
 ·have:=aD_ h1 m;omega
 ·have:=aD_ h2 m;omega
theorem co_(c:Nat):∀{ss:List Str} {x:Nat},x∈(Str.join ⟨#[c]⟩ ss).cps.toList->x=c∨∃s∈ss,x∈s.cps.toList
 |[],x,h=>by simp[Str.join,Str.empty] at h
 |[a],x,h=>.inr ⟨a,by simp,h⟩
 |a::b::r,x,h=>by
  rw[as_] at h;rcases am'.mp h with h|h
  ·exact .inr ⟨a,by simp,h⟩
  ·rcases ah'.mp h with h|h
   ·exact .inl h
   ·rcases co_ c h with h|⟨s,hs,h⟩
    ·exact .inl h
    ·exact .inr ⟨s,ai' _ hs,h⟩
theorem e8_(c:Nat){r:List Str}{x:Nat}(h:x∈a.cps.toList):x∈(Str.join ⟨#[c]⟩ (a::r)).cps.toList:=by
 cases r with
 |nil=>exact h
 |cons b r=>
  rw[as_];exact List.mem_append_left _ h
def cJ'(o:Option (Xb)):Prop:=∀ws,o=some ws->∀t∈ws,bd' t.1=true/\bd' t.2=true
theorem cE_:(",":Str)=⟨#[44]⟩:=by decide +kernel
theorem jv_:("-":Str)=⟨#[45]⟩:=by decide +kernel
theorem bx_(h1:bd' t.1=true)(h2:bd' t.2=true)(m:c∈(tieT t).cps.toList):c=45∨(97<=c/\c<=122):=by
 rw[cM_,jv_,jn] at m;rcases co_ 45 m with h|⟨s,hs,h⟩
 ·exact .inl h
 ·simp only[ah',aV',or_false] at hs;rcases hs with rfl|rfl
  ·exact .inr (aD_ h1 h)
  ·exact .inr (aD_ h2 h)
theorem fB_(g:cJ' o)(m:c∈(bn' o).cps.toList):c=44∨c=45∨(97<=c/\c<=122):=by
 match o,g,m with
 |none,_,m=>
  have e:("free":Str).cps.toList=[102,114,101,101]:=by decide +kernel
  have m:c∈("free":Str).cps.toList:=m;rw[e] at m;simp at m;omega
 |some [],_,m=>
  have e:("fixed":Str).cps.toList=[102,105,120,101,100]:=by decide +kernel
  have m:c∈("fixed":Str).cps.toList:=m;rw[e] at m;simp at m;omega
 |some (t::ts),g,m=>
  have m:c∈(Txt.join "," ((t::ts).map tieT)).cps.toList:=m;rw[cE_,jn] at m;rcases co_ 44 m with h|⟨s,hs,h⟩
  ·exact .inl h
  ·obtain⟨u,hu,rfl⟩:=ac'.mp hs;obtain⟨a,b⟩:=g _ rfl u hu;rcases bx_ a b h with h|h
   ·exact .inr (.inl h)
   ·exact .inr (.inr h)
theorem kD_(t:Str × Str):45∈(tieT t).cps.toList:=by
 rw[cM_,jv_,jn,as_];simp
theorem it_(g:cJ' o):ef' (bn' o)=o:=by
 match o,g with
 |none,_=>decide +kernel
 |some [],_=>decide +kernel
 |some (t::ts),g=>
  have m:45∈(bn' (some (t::ts))).cps.toList:=by
   show 45∈(Txt.join "," ((t::ts).map tieT)).cps.toList;rw[cE_,jn];exact e8_ 44 (kD_ t)
  have n1:bn' (some (t::ts))≠"free":=λz=>by
   rw[z] at m;revert m;decide +kernel
  have n2:bn' (some (t::ts))≠"fixed":=λz=>by
   rw[z] at m;revert m;decide +kernel
  unfold ef';rw[a_8 n1,a_8 n2];show some ((Txt.split (Txt.join "," ((t::ts).map tieT)) ",").map pairW)=_;rw[cE_,b2_ 44 _ Z2 λp hp mm=>?_]
  ·rw[ao'];congr 1
   conv=>rhs;rw[<- List.map_id (t::ts)]
   refine ay' λu hu=>?_;obtain⟨a,b⟩:=g _ rfl u hu;show pairW (tieT u)=u;unfold pairW;rw[bY_ a b];rfl
  ·obtain⟨u,hu,rfl⟩:=ac'.mp hp;obtain⟨a,b⟩:=g _ rfl u hu;have:=bx_ a b mm;omega
theorem fV_{h:Str}(hn:bd' n=true)(hk:0<=k)(hh:bd' h=true)(g:cJ' o):Txt.split (cF' n k h (bn' o)) " "=(["piece",n,(toString k:Ai),h,bn' o]:List Str):=by
 rw[bE_];refine dv_ Z2 λw hw m=>?_;simp only[ah',aV',or_false] at hw;rcases hw with rfl|rfl|rfl|rfl|rfl
 ·revert m;decide +kernel
 ·have:=aD_ hn m;omega
 ·have:=bt_ hk m;omega
 ·have:=aD_ hh m;omega
 ·have:=fB_ g m;omega
theorem ik_(n:Nat)(h:1<=n):∃c r,Nat.toDigits 10 n=c::r/\c.toNat≠48:=by
 induction n using Nat.strongRecOn with
 |ind n ih=>
  by_cases z:n<10
  ·refine⟨n.digitChar,[],Nat.toDigits_of_lt_base z,?_⟩;have:n=1∨n=2∨n=3∨n=4∨n=5∨n=6∨n=7∨n=8∨n=9:=by omega
   rcases this with rfl|rfl|rfl|rfl|rfl|rfl|rfl|rfl|rfl<;>decide
  ·obtain⟨c,r,e,hc⟩:=ih (n / 10) Z1 Z1;refine⟨c,r++[(n % 10).digitChar],?_,hc⟩;rw[Nat.toDigits_of_base_le (by decide) Z1,e];rfl
theorem lb_(x:Str):x.length=x.cps.toList.length:=by simp[Str.length]
theorem iZ_(h0:1<=k)(h1:k<=1000000000):figB ((toString k:Ai):Str)=true:=by
 obtain⟨m,rfl⟩:=aC' (show 0<=k by omega);obtain⟨c,r,e,hc⟩:=ik_ m Z1;have sg:((toString ((m:Nat):Int):Ai):Str).cps.toList=(Nat.toDigits 10 m).map Char.toNat:=PySem.W.KIN.signs_num m;have l1:((toString ((m:Nat):Int):Ai):Str).length<=10:=PySem.W.KT.len_num Z1 Z1
 have l2:1<=((toString ((m:Nat):Int):Ai):Str).length:=by
  rw[lb_,sg,e];simp
 unfold figB;rw[a_5 l1,a_5 l2];simp only[Bool.true_and,az'];refine⟨aQ'.mpr λx hx=>?_,?_⟩
 ·have:=bt_ (k:=(m:Int)) Z1 hx;unfold okd;simp only[az',b_9];exact this
 ·rw[sg,e,au',show atI (c.toNat::r.map Char.toNat) 0=some c.toNat from L2.bC' (j:=0) rfl];simp[hc]
theorem cQ_(h0:0<=k)(h1:k<=1000000000):PySem.intText? ((toString k:Ai):Str)=some k:=PySem.W.KIN.num_reads h0 Z1
theorem dZ_(h0:0<=k)(h1:k<=1000000000):((toString k:Ai):Str).length<=10:=PySem.W.KT.len_num h0 Z1
theorem jt_(g:cJ' o):dl' (bn' o)=true:=by
 match o,g with
 |none,_=>decide +kernel
 |some [],_=>decide +kernel
 |some (t::ts),g=>
  unfold dl'
  have e:Txt.split (bn' (some (t::ts))) ","=(t::ts).map tieT:=by
   show Txt.split (Txt.join "," ((t::ts).map tieT)) ","=_;rw[cE_,b2_ 44 _ Z2 λp hp mm=>?_];obtain⟨u,hu,rfl⟩:=ac'.mp hp;obtain⟨a,b⟩:=g _ rfl u hu;have:=bx_ a b mm;omega
  rw[e]
  have:((t::ts).map tieT).all dp'=true:=by
   rw[aQ'];intro p hp;obtain⟨u,hu,rfl⟩:=ac'.mp hp;obtain⟨a,b⟩:=g _ rfl u hu;unfold dp';rw[bY_ a b];show (bd' u.1&&bd' u.2)=true;rw[a,b];rfl
  rw[this];simp
theorem jS_(g:cJ' o)(n1:bn' o≠"free")(n2:bn' o≠"fixed"):∀p∈Txt.split (bn' o) ",",(Txt.split p "-").length=2:=by
 match o,g,n1,n2 with
 |none,_,n1,_=>exact absurd rfl n1
 |some [],_,_,n2=>exact absurd rfl n2
 |some (t::ts),g,_,_=>
  intro p hp
  have e:Txt.split (bn' (some (t::ts))) ","=(t::ts).map tieT:=by
   show Txt.split (Txt.join "," ((t::ts).map tieT)) ","=_;rw[cE_,b2_ 44 _ Z2 λp hp mm=>?_];obtain⟨u,hu,rfl⟩:=ac'.mp hp;obtain⟨a,b⟩:=g _ rfl u hu;have:=bx_ a b mm;omega
  rw[e] at hp;obtain⟨u,hu,rfl⟩:=ac'.mp hp;obtain⟨a,b⟩:=g _ rfl u hu;rw[bY_ a b];rfl
theorem dx_(h:∀ws,o=some ws->ws.length<=63/\∀t∈ws,t.1.length<=8/\t.2.length<=8):(bn' o).length<=1134:=by
 match o,h with
 |none,_=>decide +kernel
 |some [],_=>decide +kernel
 |some (t::ts),h=>
  obtain⟨a,b⟩:=h _ rfl;have:=jlen "," ((t::ts).map tieT);have c:=do_ b;rw[aa'] at this;have e:(",":Str).length=1:=rfl;rw[e] at this;show (Txt.join "," ((t::ts).map tieT)).length<=_;omega
theorem dR_(a b:Str):ord2 (ord2 a b).1 (ord2 a b).2=ord2 a b:=by
 rcases bi_ a b with e|e
 ·rw[e];exact e
 ·rw[e];show ord2 b a=(b,a);rw[cP_,e]
theorem ls_(h:t∈tsOf ts):ord2 t.1 t.2=t:=by
 obtain⟨u,_,rfl⟩:=bp'.mp h;exact dR_ _ _
theorem lB_(ts:Xb):(tsOf ts).map kO=(tsOf ts).map kT:=ay' λt h=>by
 show kT (ord2 t.1 t.2)=_;rw[ls_ h]
theorem eb_:∀{a b:Xb},a.map kT=b.map kT->a=b
 |[],[],_=>rfl
 |[],_::_,h=>by simp at h
 |_::_,[],h=>by simp at h
 |x::a,y::b,h=>by
  rw[au',au'] at h;obtain⟨h1,h2⟩:=b_8 h;rw[em_ h1,eb_ h2]
theorem eY_(ts:Xb):tsOf (tsOf ts)=tsOf ts:=by
 refine eb_ ?_;rw[ba_];have e:((tsOf ts).map λt=>kT (ord2 t.1 t.2))=(tsOf ts).map kT:=lB_ ts;rw[e];refine ck_ (aC_ _) (bB_ _) ?_;rw[ba_];exact bB_ _
theorem bq_{hs:Xa}(h:∀t∈ts,cc' t)(m:t∈tsOf ts):cc' t:=by
 obtain⟨u,hu,rfl⟩:=bp'.mp m;obtain⟨a,b,c⟩:=h u hu;rcases bi_ u.1 u.2 with e|e
 ·rw[e];exact⟨a,b,c⟩
 ·rw[e];exact⟨b,a,λz=>c z.symm⟩
theorem lF_(h:(ts.map kO).Nodup):((tsOf ts).map kO).Nodup:=by
 rw[lB_,ba_];exact (aC_ _).nodup_iff.mpr h
def hsN(hs:Xa):Xa:=(bf' hs).map λn=>(n,strOf hs n)
theorem dO_(hs:Xa):(hsN hs).map (·.1)=bf' hs:=by
 unfold hsN;rw[ao'];exact List.map_id' _
theorem hx_(hs:Xa):bf' (hsN hs)=bf' hs:=by
 rw[hi_ (hsN hs),dO_];exact c8_ (aG_ _) (bH_ _) (ia_ hs)
theorem kA_(G:Good hs ts)(m:n∈bf' hs):strOf (hsN hs) n=strOf hs n:=by
 refine gO_ ?_ (ac'.mpr ⟨n,m,rfl⟩);rw[dO_];exact G.nnd
theorem kf_(G:Good hs ts):Good (hsN hs) (tsOf ts):=by
 refine⟨λh hh=>?_,?_,?_,?_,λt ht=>bq_ (hs:=hs) G.tok ht,lF_ G.tnd,?_,λt ht=>?_⟩
 ·obtain⟨n,hn,rfl⟩:=ac'.mp hh;exact G.hok _ (bV_ ((aM_ hs).mem_iff.mp hn))
 ·rw[dO_];exact G.nnd
 ·show 1<=((bf' hs).map _).length;rw[aa',G.nlen];exact G.h1
 ·show ((bf' hs).map _).length<=8;rw[aa',G.nlen];exact G.h8
 ·rw[aX_];exact G.t64
 ·rw[dO_];obtain⟨u,hu,rfl⟩:=bp'.mp ht;obtain⟨a,b⟩:=G.tin u hu;have a:=(aM_ hs).mem_iff.mpr a;have b:=(aM_ hs).mem_iff.mpr b;rcases bi_ u.1 u.2 with e|e
  ·rw[e];exact⟨a,b⟩
  ·rw[e];exact⟨b,a⟩
theorem lI_{ws:Xb}(h:cn' ts ws):cn' (tsOf ts) (tsOf ws):=by
 refine⟨λw hw=>bq_ (hs:=[]) h.good hw,lF_ h.nd,λw hw=>?_,?_⟩
 ·obtain⟨u,hu,rfl⟩:=bp'.mp hw;obtain⟨t,ht,e⟩:=ac'.mp (h.inn u hu);refine ac'.mpr ⟨ord2 t.1 t.2,bp'.mpr ⟨t,ht,rfl⟩,?_⟩;show kT (ord2 (ord2 t.1 t.2).1 (ord2 t.1 t.2).2)=kT (ord2 (ord2 u.1 u.2).1 (ord2 u.1 u.2).2);rw[dR_,dR_];exact e
 ·rw[aX_,aX_];exact h.len
variable{q:Pc}
theorem kT_(Q:Qs ps qs)(gp:∀q∈ps,bV' ts q)(h:q∈qs):bV' (tsOf ts) q:=by
 obtain⟨p,hp,rfl⟩:=Q.mem q h;have g:=gp p hp;refine⟨g.nm,g.w1,g.w2,λws e=>?_⟩;have e:p.2.2.map tsOf=some ws:=e;cases z:p.2.2 with
 |none=>rw[z] at e;cases e
 |some w0=>
  rw[z] at e;cases e;exact lI_ (g.ws w0 z)
structure Tell (hs:Xa) (ts:Xb) (qs:List Pc) (f:Str->Str):Prop where
 G:Good hs ts
 gp:∀q∈qs,bV' (tsOf ts) q
 nd:(qs.map (·.1)).Nodup
 l30:qs.length<=30
 at_:∀n∈qs.map (·.1),f n∈bf' hs
def et'(hs:Xa)(n:Str):List Str:=["hand",n,(toString (strOf hs n):Ai)]
def tieL(t:Str × Str):List Str:=["tie",t.1,t.2]
def ca'(f:Str->Str)(q:Pc):List Str:=["piece",q.1,(toString q.2.1:Ai),f q.1,bn' q.2.2]
def wssG(hs:Xa)(ts:Xb)(qs:List Pc)(f:Str->Str):List (List Str):=(bf' hs).map (et' hs)++(tsOf ts).map tieL++qs.map (ca' f)
theorem ez_(G:Good hs ts)(h:n∈bf' hs):bd' n=true:=(G.hok _ (bV_ ((aM_ hs).mem_iff.mp h))).1
theorem Tell.ws(T:Tell hs ts qs f)(h:q∈qs):cJ' q.2.2:=λws e t ht=>by
 have:=((T.gp q h).ws ws e).good t ht;exact⟨this.1,this.2.1⟩
theorem Tell.pc(T:Tell hs ts qs f)(h:q∈qs):PcT q:=by
 have g:=T.gp q h
 have a:∀ws,q.2.2=some ws->ws.length<=63/\∀t∈ws,t.1.length<=8/\t.2.length<=8:=λws e=>by
  have w:=g.ws ws e;refine⟨?_,λt ht=>?_⟩
  ·have:=w.len;have:=T.G.t64;rw[aX_] at *;omega
  ·have:=w.good t ht;exact⟨ag_ this.1,ag_ this.2.1⟩
 refine⟨ag_ g.nm,by have:=g.w1;omega,by have:=g.w2;omega,λws e=>⟨by have:=(a ws e).1;omega,(a ws e).2⟩,by have:=dx_ a;omega⟩
theorem Tell.wl(T:Tell hs ts qs f)(h:q∈qs):(bn' q.2.2).length<=1134:=by
 have g:=T.gp q h;refine dx_ λws e=>?_;have w:=g.ws ws e;refine⟨?_,λt ht=>?_⟩
 ·have:=w.len;have:=T.G.t64;rw[aX_] at *;omega
 ·have:=w.good t ht;exact⟨ag_ this.1,ag_ this.2.1⟩
theorem kH_(G:Good hs ts)(hk:∀q∈qs,bd' q.1=true/\0<=q.2.1/\cJ' q.2.2/\f q.1∈bf' hs):∀r∈webR hs ts++qs.map (bj' f),10∉r.cps.toList:=λr hr m=>by
 have base:∀{ws:List Str},r=Txt.join " " ws->(∀w∈ws,10∉w.cps.toList)->False:=λ{ws} e hw=>by
  rw[e,cy_,jn] at m;rcases co_ 32 m with z|⟨x,hx,z⟩
  ·cases z
  ·exact hw x hx z
 rcases am'.mp hr with hr|hr
 ·unfold webR at hr;rcases am'.mp hr with hr|hr
  ·obtain⟨n,hn,rfl⟩:=ac'.mp hr;refine base (d3_ _ _) λw hw c=>?_;have s:=cK_ G hn;simp only[ah',aV',or_false] at hw;rcases hw with rfl|rfl|rfl
   ·revert c;decide +kernel
   ·have:=aD_ (ez_ G hn) c;omega
   ·have:=bt_ Z1 c;omega
  ·obtain⟨t,ht,rfl⟩:=ac'.mp hr;have g:=bq_ (hs:=hs) G.tok ht;refine base (dz_ _) λw hw c=>?_;simp only[ah',aV',or_false] at hw;rcases hw with rfl|rfl|rfl
   ·revert c;decide +kernel
   ·have:=aD_ g.1 c;omega
   ·have:=aD_ g.2.1 c;omega
 ·obtain⟨q,hq,rfl⟩:=ac'.mp hr;obtain⟨g1,g2,g3,g4⟩:=hk q hq;refine base (bE_ _ _ _ _) λw hw c=>?_;simp only[ah',aV',or_false] at hw;rcases hw with rfl|rfl|rfl|rfl|rfl
  ·revert c;decide +kernel
  ·have:=aD_ g1 c;omega
  ·have:=bt_ g2 c;omega
  ·have:=aD_ (ez_ G g4) c;omega
  ·have:=fB_ g3 c;omega
theorem gK_(G:Good hs ts)(hk:∀q∈qs,bd' q.1=true/\0<=q.2.1/\cJ' q.2.2/\f q.1∈bf' hs):rowsT (bW' hs ts qs f)=wssG hs ts qs f:=by
 unfold bW'
 have ne:webR hs ts++qs.map (bj' f)≠[]:=by
  intro z;have a:=c_1 List.length z;rw[aj'] at a;unfold webR at a;rw[aj',aa',G.nlen,List.length_nil] at a;have:=G.h1;omega
 rw[fl_ ne (kH_ G hk)];unfold webR wssG;rw[ag',ag',ao',ao',ao'];congr 1
 ·congr 1
  ·refine ay' λn hn=>?_;have s:=cK_ G hn;exact h0_ (ez_ G hn) Z1
  ·refine ay' λt ht=>?_;have g:=bq_ (hs:=hs) G.tok ht;exact iL_ g.1 g.2.1
 ·refine ay' λq hq=>?_;obtain⟨g1,g2,g3,g4⟩:=hk q hq;refine fV_ g1 g2 (ez_ G g4) g3
theorem Tell.hk(T:Tell hs ts qs f):∀q∈qs,bd' q.1=true/\0<=q.2.1/\cJ' q.2.2/\f q.1∈bf' hs:=λq hq=>⟨(T.gp q hq).nm,by have:=(T.gp q hq).w1;omega,T.ws hq,T.at_ q.1 (ac'.mpr ⟨q,hq,rfl⟩)⟩
theorem hX_(T:Tell hs ts qs f):rowsT (bW' hs ts qs f)=wssG hs ts qs f:=gK_ T.G T.hk
theorem cv_(n:Str):isW "hand" (et' hs n)=true/\isW "tie" (et' hs n)=false/\isW "piece" (et' hs n)=false:=⟨a_5 rfl,a_4 (show ¬("hand":Str)="tie" by decide +kernel),a_4 (show ¬("hand":Str)="piece" by decide +kernel)⟩
theorem cB_(t:Str × Str):isW "hand" (tieL t)=false/\isW "tie" (tieL t)=true/\isW "piece" (tieL t)=false:=⟨a_4 (show ¬("tie":Str)="hand" by decide +kernel),a_5 rfl,a_4 (show ¬("tie":Str)="piece" by decide +kernel)⟩
theorem bX_(q:Pc):isW "hand" (ca' f q)=false/\isW "tie" (ca' f q)=false/\isW "piece" (ca' f q)=true:=⟨a_4 (show ¬("piece":Str)="hand" by decide +kernel),a_4 (show ¬("piece":Str)="tie" by decide +kernel),a_5 rfl⟩
theorem cp_{α β:Type}{p:β->Bool}{g:α->β}(l:List α)(h:∀a,p (g a)=true):(l.map g).filter p=l.map g:=List.filter_eq_self.mpr λx hx=>by
 obtain⟨a,_,rfl⟩:=ac'.mp hx;exact h a
theorem bo_{α β:Type}{p:β->Bool}{g:α->β}(l:List α)(h:∀a,p (g a)=false):(l.map g).filter p=[]:=List.filter_eq_nil_iff.mpr λx hx=>by
 obtain⟨a,_,rfl⟩:=ac'.mp hx;rw[h a];decide
theorem eM_(T:Tell hs ts qs f):bg' (wssG hs ts qs f)=hsN hs:=by
 unfold bg' wssG;rw[aL',aL',cp_ _ λn=>(cv_ n).1,bo_ _ λt=>(cB_ t).1,bo_ _ λq=>(bX_ q).1,aF',aF',ao'];unfold hsN;refine ay' λn hn=>?_;have s:=cK_ T.G hn;show (n,(PySem.intText? ((toString (strOf hs n):Ai):Str)).getD 0)=_;rw[cQ_ Z1 Z1];rfl
theorem fX_:bq' (wssG hs ts qs f)=tsOf ts:=by
 unfold bq' wssG;rw[aL',aL',bo_ _ λn=>(cv_ n).2.1,cp_ _ λt=>(cB_ t).2.1,bo_ _ λq=>(bX_ q).2.1,aF',a5',ao'];exact List.map_id' _
theorem bT_(T:Tell hs ts qs f):bc' (wssG hs ts qs f)=qs:=by
 unfold bc' wssG;rw[aL',aL',bo_ _ λn=>(cv_ n).2.2,bo_ _ λt=>(cB_ t).2.2,cp_ _ λq=>(bX_ q).2.2,a5',a5',ao']
 conv=>rhs;rw[<- List.map_id qs]
 refine ay' λq hq=>?_;have g:=T.gp q hq;show (q.1,(PySem.intText? ((toString q.2.1:Ai):Str)).getD 0,ef' (bn' q.2.2))=q;rw[cQ_ (by have:=g.w1;omega) g.w2,it_ (T.ws hq)];rfl
theorem bA_{ws:List Str}(h:ws∈wssG hs ts qs f):(∃n∈bf' hs,ws=et' hs n)∨(∃t∈tsOf ts,ws=tieL t)∨∃q∈qs,ws=ca' f q:=by
 unfold wssG at h;rcases am'.mp h with h|h
 ·rcases am'.mp h with h|h
  ·obtain⟨n,hn,rfl⟩:=ac'.mp h;exact .inl ⟨n,hn,rfl⟩
  ·obtain⟨n,hn,rfl⟩:=ac'.mp h;exact .inr (.inl ⟨n,hn,rfl⟩)
 ·obtain⟨n,hn,rfl⟩:=ac'.mp h;exact .inr (.inr ⟨n,hn,rfl⟩)
theorem Tell.tx(T:Tell hs ts qs f):TxOk (wssG hs ts qs f) f:=by
 have ft:isW "hand"=isW "hand":=rfl;refine⟨?_,λws h=>?_,λws h x hx=>?_,λws h=>?_,λws h c=>?_,?_,?_,?_,?_,λws h c=>?_,?_⟩
 ·unfold wssG;rw[aj',aj',aa',aa',aa',T.G.nlen,aX_];have:=T.G.h8;have:=T.G.t64;have:=T.l30;omega
 ·rcases bA_ h with⟨n,hn,rfl⟩|⟨t,ht,rfl⟩|⟨q,hq,rfl⟩
  ·have s:=cK_ T.G hn;unfold rowB;rw[b_0 (show (et' hs n).getD 0 ""="hand" from rfl)];show (decide (3=3)&&figB ((toString (strOf hs n):Ai):Str))=true;rw[iZ_ s.1 Z1];rfl
  ·unfold rowB;rw[a_8 (show ¬(tieL t).getD 0 ""="hand" from (show ¬("tie":Str)="hand" by decide +kernel)),b_0 (show (tieL t).getD 0 ""="tie" from rfl)];rfl
  ·have g:=T.gp q hq;unfold rowB;rw[a_8 (show ¬(ca' f q).getD 0 ""="hand" from (show ¬("piece":Str)="hand" by decide +kernel)),a_8 (show ¬(ca' f q).getD 0 ""="tie" from (show ¬("piece":Str)="tie" by decide +kernel)),b_0 (show (ca' f q).getD 0 ""="piece" from rfl)];show (decide (5=5)&&(figB ((toString q.2.1:Ai):Str)&&dl' (bn' q.2.2)))=true;rw[iZ_ g.w1 g.w2,jt_ (T.ws hq)];rfl
 ·rcases bA_ h with⟨n,hn,rfl⟩|⟨t,ht,rfl⟩|⟨q,hq,rfl⟩
  ·have s:=cK_ T.G hn;have a:=dZ_ (k:=strOf hs n) Z1 Z1;have b:=ag_ (ez_ T.G hn);have hx:x∈(["hand",n,(toString (strOf hs n):Ai)]:List Str):=hx;simp only[ah',aV',or_false] at hx;rcases hx with rfl|rfl|rfl
   ·decide +kernel
   ·omega
   ·omega
  ·have g:=bq_ (hs:=hs) T.G.tok ht;have a:=ag_ g.1;have b:=ag_ g.2.1;have hx:x∈(["tie",t.1,t.2]:List Str):=hx;simp only[ah',aV',or_false] at hx;rcases hx with rfl|rfl|rfl
   ·decide +kernel
   ·omega
   ·omega
  ·have g:=T.gp q hq;have a:=dZ_ (k:=q.2.1) (by have:=g.w1;omega) g.w2;have b:=ag_ g.nm;have c:=T.wl hq;have d:=ag_ (ez_ T.G (T.at_ q.1 (ac'.mpr ⟨q,hq,rfl⟩)));have hx:x∈(["piece",q.1,(toString q.2.1:Ai),f q.1,bn' q.2.2]:List Str):=hx;simp only[ah',aV',or_false] at hx;rcases hx with rfl|rfl|rfl|rfl|rfl
   ·decide +kernel
   ·omega
   ·omega
   ·omega
   ·omega
 ·rcases bA_ h with⟨n,hn,rfl⟩|⟨t,ht,rfl⟩|⟨q,hq,rfl⟩
  ·have s:=cK_ T.G hn;have a:=dZ_ (k:=strOf hs n) Z1 Z1;exact⟨by show 0<3;decide,λ_=>⟨ak' 3,by show ((toString (strOf hs n):Ai):Str).length<=640;omega,_,cQ_ Z1 Z1⟩,λ_=>ak' 3⟩
  ·refine⟨by show 0<3;decide,λc=>?_,λ_=>ak' 3⟩;rw[(cB_ t).1] at c;cases c
  ·refine⟨by show 0<5;decide,λc=>?_,λc=>?_⟩
   ·rw[(bX_ q).1] at c;cases c
   ·rw[(bX_ q).2.1] at c;cases c
 ·rcases bA_ h with⟨n,hn,rfl⟩|⟨t,ht,rfl⟩|⟨q,hq,rfl⟩
  ·rw[(cv_ n).2.2] at c;cases c
  ·rw[(cB_ t).2.2] at c;cases c
  ·have g:=T.gp q hq;have a:=dZ_ (k:=q.2.1) (by have:=g.w1;omega) g.w2;have w:=T.wl hq;exact⟨ak' 5,by show ((toString q.2.1:Ai):Str).length<=640;omega,⟨_,cQ_ (by have:=g.w1;omega) g.w2⟩,by show (bn' q.2.2).length<=50000;omega,λn1 n2=>jS_ (T.ws hq) n1 n2⟩
 ·rw[eM_ T,fX_];exact kf_ T.G
 ·rw[bT_ T,fX_];exact T.gp
 ·rw[bT_ T];exact T.nd
 ·rw[bT_ T];have:=T.l30;omega
 ·rcases bA_ h with⟨n,hn,rfl⟩|⟨t,ht,rfl⟩|⟨q,hq,rfl⟩
  ·rw[(cv_ n).2.2] at c;cases c
  ·rw[(cB_ t).2.2] at c;cases c
  ·rfl
 ·rw[bT_ T,eM_ T,dO_];exact T.at_
theorem lu_(G:Good hs ts):webR (hsN hs) (tsOf ts)=webR hs ts:=by
 unfold webR;rw[hx_,eY_];congr 1;refine ay' λn hn=>?_;rw[kA_ G hn]
theorem jy_(G:Good hs ts):bW' (hsN hs) (tsOf ts) qs f=bW' hs ts qs f:=by
 unfold bW';rw[lu_ G]
end Ev
namespace L2
open PySem PySem.Spec PyProof.Rows PySem.W
theorem gB_{X:Cx}{st:Stmt}{t:TS}(h:PS X st t):PS X st (λD σ H=>∃d kvs o,H d=some (.frz o (.dK kvs))/\(∀o u,X.H₀ d≠some (.frz o u))/\t D σ (upd H d (.dK kvs))):=by
 intro pins s σ H D I q;obtain⟨d,kvs,o,hd,nf,q⟩:=q;exact h pins s σ _ D (I.thaw hd nf) q
end L2
namespace Ev
open PySem L2
theorem iteSF{c A B:Prop}[Decidable c](hc:¬c)(h:A):if (!decide c)=true then A else B:=by
 rw[a_4 hc];exact iteT h
structure CalF (P:Ae) (w:Ag) (K:F__) (mg:Str->Option Aa) (base:Heap) (k:Nat) (x:Str) (ps:List Str) (sp:Sp):Prop where
 ex:∃f fd,FnOk P w K mg base (CX1 P w) k f fd ps sp/\mg x=some (.ref f)/\PySem.W.keepIn K (.ref f)=true/\ck' K fd ps []
theorem fW_{X:Cx}{E:XK}{k:Nat}{x:Str}{ps:List Str}{sp:Sp}{p pos:Pos}{e:Expr}{es:List Expr}{t:TA}(c:CalF X.prog X.w X.K X.mg X.base k x ps sp)(hr:Room k X.A)(hx:bx' (CX1 X.prog X.w) X E)(ha:PA X (e::es) t)(hg:Gl X x:=by rfl)(hdb:(x == ("__debug__":Str))=false:=by decide)
  (he:starEach (e::es) X.env=(false,eval e X.env)::starEach es X.env:=by rfl) (hpl:(backTo pos (starEach es X.env)).any (·.1)=false:=by rfl):PE X (.Call (.Name x p) (e::es) [] pos) (tCall sp [] E t):=by
 obtain⟨f,fd,F,m,kp,b⟩:=c.ex;exact fM_ F hr hg m kp b .nil hx ha hdb he hpl
variable{CG CS CW f:Addr}{fd:Af}
section
variable{P:Ae}{w:Ag}{K:F__}{mg:Str->Option Aa}{base:Heap}
def NoStd(K:F__)(H:Hp)(hs:Xa)(qs:List Pc)(fp:List Addr)(v:V):Prop:=(∃t,TyOf K H v t/\PySem.W.kitOne K t (.type "dict")=some false) ∨
 ∃(d:Addr) (ns:List Str) (f:Str->Str),v=.ref d/\d∉fp/\H d=some (.dK (stF ns f))/\((∃n∈ns,n∉qs.map (·.1)∨f n∉hs.map (·.1))∨ns.length≠qs.length)
inductive ds' (K:F__) (CG CW CS:Addr) (vs:List V) (H:Hp) (E:XK):Prop
 |mk:∀(g p:Addr) (v:V) (hs:Xa) (ts:Xb) (qs:List Pc) (fp:List Addr),vs=[.ref g,v]->bh' K CG CW H g p hs ts qs fp->NoStd K H hs qs fp v->(∀H',Same H H'->E (.ref CS) none H')->ds' K CG CW CS vs H E
def bU'(K:F__)(CG CW CS:Addr):Sp:=λvs H _ E=>ds' K CG CW CS vs H E
theorem h4_(F:Fun K "checked_stand" "checked_stand" dO' f fd)(B:Bi mg)(R:Ref K mg "NoStand" CS)(T:TxtG K CG)(TW:Txt K mg CW)(cH:CalM P w K mg base CG 1 "has_piece" ["self","thing"] (do' K CG CW))(cW:CalM P w K mg base CW 1 "has_hand" ["self","thing"] (e1' K CW))(cN:CalM P w K mg base CG 1 "names" ["self"] (ci' K CG CW)) :
  FnOk P w K mg base (CX1 P w) 2 f fd ["goods","stand"] (bU' K CG CW CS):=by
 refine F.okQA bN' λcdv A outer s H vs Q E hr h own ps rs=>?_
 ·obtain⟨g,p,v,hs,ts,qs,fp,rfl,G,no,k⟩:=h;have hu:=br_ hr;refine' ⟨_,?r0,?kk⟩
  case' r0=>refine' a3_ ?s1 ?r1
  case s1=>exact aw_ (aH_ (aK_ (a7_ aQ_ (by rfl) B.isi ab_ (a0_ (pv 1) (a0_ (b1_ (v:=.ty "dict") (by rfl) B.dict cd_ rfl) a2_))))) (a5_ (aU_ rfl rs R.mg R.ex a_9 (by rfl) (a0_ a9_ a2_))) aa_
  case' r1=>refine' a3_ ?s2 ?r2
  case' s2=>refine' fN_ (b3_ own rfl ?i2 ?g2 ?b2)
  case i2=>exact et_ (ds_ (pv 1))
  case g2=>exact ch_ rfl (ai_ (b5_ 2 bN'.nd) (ai_ (b5_ 3 bN'.nd) b4_))
  case b2=>exact a3_ (aw_ (aH_ (aK_ (dj_ cH T.cl hr (pv 0) (a0_ (pv 2) a2_)))) (a5_ (gB_ (aU_ rfl rs R.mg R.ex a_9 (by rfl) (a0_ a9_ a2_)))) aa_) (a5_ (aw_ (aH_ (aK_ (dj_ cW TW.cl hr (bS_ (pv 0) rfl) (a0_ (pv 3) a2_)))) (a5_ (gB_ (aU_ rfl rs R.mg R.ex a_9 (by rfl) (a0_ a9_ a2_)))) aa_))
  case' r2=>refine' a3_ ?s3 ?r3
  case s3=>exact ao_ 4 bN'.nd (fv_ cN T.cl hr (pv 0))
  case' r3=>refine' a3_ ?s4 ac_
  case s4=>exact aw_ (ar_ e6_ (a7_ eX_ (by rfl) B.len b_3 (a0_ (pv 1) a2_)) (a7_ ak_ (by rfl) B.len b_3 (a0_ (pv 4) a2_)) (nomark _)) (a5_ (aU_ rfl rs R.mg R.ex a_9 (by rfl) (a0_ a9_ a2_))) aa_
  case' kk=>skip
  have one:1<=sizeLine:=by decide
  rcases no with⟨t,ty,e⟩|⟨d,ns,f,rfl,dfp,hd,bad⟩
  ·exact⟨_,rfl,_,_,_,_,rfl,ty,e,_,rfl,iteT ⟨one,k H (Same.refl H)⟩⟩
  refine⟨_,rfl,_,_,_,_,rfl,.dK hd,rfl,_,rfl,iteF ?_⟩;refine⟨d,_,hd,?_⟩;refine⟨_,rfl,d,_,rfl,hd,λv hv=>?_⟩;obtain⟨s1,hv1⟩:=nw__ (o:=bG' v d) hv;have G1:=G.same s1;have hd1:=s1 _ _ hd;generalize upd H v (bG' v d)=H1 at s1 hv1 G1 hd1 ⊢;refine⟨v,d,_,rfl,hv1,hd1,λo=>?_⟩;refine dE_ (λi σ H'=>∃(v2 v3:Option V),σ=[some (.ref g),some (.ref d),v2,v3,none]/\Fz d o (stF ns f) H1 H'/\∀n∈ns.take i,n∈qs.map (·.1)/\f n∈hs.map (·.1)) ⟨none,none,rfl,Fz.start,by simp⟩ (λi σ H' _ ⟨_,_,_,z,_⟩=>z.at_) ?_ ?_
  ·rintro i ky x σ H2 hx ⟨v2,v3,rfl,fz,ok⟩ t ht;obtain⟨n,hn,rfl,rfl⟩:=hQ_ hx;have nm:=ad' hn;have s2:=Same.new (o:=.tup [.str n,.str (f n)]) ht;have fz2:=fz.step s2;have e2:upd H2 t (.tup [.str n,.str (f n)]) t=some (.tup [.str n,.str (f n)]):=a1_;show gTup _ _ _ _ _ (upd H2 t (.tup [.str n,.str (f n)])) _;generalize upd H2 t (.tup [.str n,.str (f n)])=H3 at s2 fz2 e2 ⊢;refine⟨t,_,rfl,.of e2,rfl,_,_,rfl,_,_,rfl,rfl,?_⟩;have G3:=fz2.goods hd1 G1 dfp;obtain⟨dx,dw,dy,vs,fpw,h1,h2,h3,h4,h5,m1,m2,m3,m4,m5⟩:=id G3.ex;obtain⟨dxw,d1,l2,d3,zs0,as,ef,w1,_⟩:=id h2.ex;have hno:(gflds p dw dy).lookup ("has_piece":Str)=none:=by_ _ _ _ Z0 Z0 Z0;have hnw:(flds d1 l2 d3).lookup ("has_hand":Str)=none:=c4_ _ _ _ Z0 Z0 Z0;refine⟨_,rfl,g,dx,_,rfl,h1,hno,_,rfl,g,p,.str n,some n,hs,ts,qs,fp,rfl,G3,rfl,_,rfl,?_⟩
   have out:∀(oo:Obj) (u:HO),H d≠some (.frz oo u):=λoo u z=>by
    rw[hd] at z;cases z
   by_cases cn:n∈qs.map (·.1)
   ·rw[show inB (qs.map (·.1)) (some n)=true from a_5 cn];refine iteF ?_;refine⟨_,rfl,g,CG,dx,_,_,rfl,h1,T.cl,T.nW,gc_ _ _ _,p,dxw,_,rfl,w1,hnw,_,rfl,p,f n,hs,ts,fpw,rfl,h2,_,rfl,?_⟩;by_cases c:f n∈hs.map (·.1)
    ·rw[a_5 c];refine iteF ⟨_,_,rfl,fz2,λm hm=>?_⟩;rw[cI_ hn] at hm;rcases am'.mp hm with hm|hm
     ·exact ok m hm
     ·rw[aN'.mp hm];exact⟨cn,c⟩
    ·rw[a_4 c];exact iteT ⟨d,_,o,fz2.at_,out,one,k _ (s1.trans (fz2.thaw hd1))⟩
   ·rw[show inB (qs.map (·.1)) (some n)=false from a_4 cn];exact iteT ⟨d,_,o,fz2.at_,out,one,k _ (s1.trans (fz2.thaw hd1))⟩
  rintro σ H2 ⟨v2,v3,rfl,fz,ok⟩;refine⟨o,fz.at_,?_⟩;have s2:=s1.trans (fz.thaw hd1);have hd2:upd H2 d (.dK (stF ns f)) d=some (.dK (stF ns f)):=a1_;generalize upd H2 d (.dK (stF ns f))=H3 at s2 hd2 ⊢;have G3:=G.same s2;obtain⟨dx,dw,dy,vs,fpw,h1,h2,h3,h4,h5,m1,m2,m3,m4,m5⟩:=id G3.ex;refine⟨_,rfl,g,dx,_,rfl,h1,by_ _ _ _ Z0 Z0 Z0,g,p,hs,ts,qs,fp,rfl,G3,λln hln=>?_⟩;obtain⟨s3,e3⟩:=nw__ (o:=.lst ((qs.map (·.1)).map V.str)) hln;have hd3:=s3 _ _ hd2;generalize upd H3 ln (.lst ((qs.map (·.1)).map V.str))=H4 at s3 e3 hd3 ⊢;refine⟨_,rfl,d,_,rfl,hd3,_,rfl,ln,_,rfl,.inl (.of e3),rfl,_,rfl,?_⟩;rcases bad with⟨n,hn,nb⟩|ne
  ·rw[bQ_,an'] at ok;obtain⟨a,b⟩:=ok n hn;rcases nb with nb|nb
   ·exact absurd a nb
   ·exact absurd b nb
  ·refine iteSF (λz=>ne ?_) ⟨one,k _ (s2.trans s3)⟩;rw[bQ_,aa',aa'] at z
   injection z with z
   omega
theorem ew_(F:Fun K "goods_text" "goods_text" cg' f fd)(cC:CalF P w K mg base 2 "checked_stand" ["goods","stand"] (bU' K CG CW CS)):FnOk P w K mg base (CX1 P w) 3 f fd ["goods","stand"] (bU' K CG CW CS):=by
 refine F.okQA bo' λcdv A outer s H vs Q E hr h own ps rs=>?_
 ·obtain⟨g,p,v,hs,ts,qs,fp,rfl,h1,h2,h3⟩:=h;refine⟨_,a3_ (ao_ 2 bo'.nd (fW_ cC hr ps (a0_ (pv 0) (a0_ (pv 1) a2_)))) ac_,?_⟩;exact⟨_,rfl,_,rfl,g,p,v,hs,ts,qs,fp,rfl,h1,h2,h3⟩
end
abbrev tOrd(K:F__):TE:=tCB (rTupOf K) (bI' (tCB (dx' K) (bI' (tCB (eA' K) (bI' (tVar 0) tNil)) tNil)) tNil)
abbrev tSrt(K:F__)(i:Nat):TE:=tCB (rSortT K) (bI' (tComp (iList K (tVar i)) 1 [] (bR' 0) tYes (tOrd K)) tNil)
theorem srtG{K:F__}{σ:St}{i:Nat}{lt:Addr}{zs:List V}{ts:Xb}{H:Hp}{Q:VK}(hi:σ[i]? = some (some (.ref lt)))(hlt:H lt=some (.lst zs))(tt:bb' K H zs (ts.map kT))(h64:ts.length<64)(q:∀l zs' H',Same H H'->H l=none->H' l=some (.lst zs')->bb' K H' zs' ((tsOf ts).map kT)->Q (.ref l) H'):tSrt K i σ H Q:=by
 have sz:=b__;have lz:=a_1 tt;rw[aa'] at lz;refine⟨_,hi,lt,rfl,⟨_,.of hlt⟩,λD2 hD2=>?_⟩;refine an_ (own:=1) (fv:=[]) (xs:=zs) rfl gok1 (λi out H'=>Same H H'/\H' D2=some (.lst out)/\bb' K H' out ((ts.take i).map kO)) ⟨Same.new hD2,a1_,.nil⟩ (λi out H' _ ⟨sm,_,_⟩=>.of (sm _ _ hlt)) (λout H6 ⟨s6,hD6,t6⟩=>?_) (λj y out H' hy ⟨sm,hD',to⟩=>?_);rotate_left
 ·obtain⟨t,ht,a,rfl,ha⟩:=aJ_ tt hy;refine⟨_,rfl,rfl,λNx hN=>yesT ?_⟩;have ha':=sm _ _ (hpT ha);refine⟨_,rfl,a,_,rfl,.inr (.of ha'),λla hla=>?_⟩;refine⟨la,[t.1,t.2],rfl,.of a1_,by show 2<64;decide,λlc hlc=>?_⟩;rw[jF_];refine⟨lc,_,rfl,.inl ⟨.of a1_,λtq htq=>?_⟩⟩;have sA:=((Same.new (o:=.lst [.str t.1,.str t.2]) hla).trans (Same.new (o:=.lst ([(ord2 t.1 t.2).1,(ord2 t.1 t.2).2].map V.str)) hlc)).trans (Same.new (o:=.tup ([(ord2 t.1 t.2).1,(ord2 t.1 t.2).2].map V.str)) htq);have lo:=a_1 to;rw[aa',af'] at lo;refine⟨out,sA _ _ hD',by omega,hN _ _ ⟨aB_ (sm.trans sA) hD2,a1_,?_⟩⟩;rw[aq_ _ ht];exact bc_ (bb_ (to.same sA) a1_) (sA _ _ hD')
 rw[lz,an'] at t6;refine⟨D2,out,ts.map kO,[true,true],rfl,.of hD6,t6,⟨by decide,λq hq=>?_⟩,by rw[aa'];exact h64,λl3 zs3 hl3 tz3 _=>?_⟩
 ·obtain⟨t,_,rfl⟩:=ac'.mp hq;rfl
 have tz7:bb' K (upd H6 l3 (.lst zs3)) zs3 ((tsOf ts).map kT):=by
  rw[ba_];exact tz3.same (Same.new hl3)
 exact q l3 zs3 _ (s6.trans (Same.new hl3)) (s6.free hl3) a1_ tz7
theorem in_(x:Str):Str.empty++x=x:=bh_ (by rw[aZ_,em_l,a5'])
theorem hy_(n:Str)(k:Int):("hand ":Str)++n++(" ":Str)++(toString k:Str)=cq' n k:=by
 unfold cq';rw[in_]
theorem hs_(t:Str × Str):("tie ":Str)++t.1++(" ":Str)++t.2=tieR t:=by
 unfold tieR;rw[in_]
theorem dN_(t:Str × Str):t.1++("-":Str)++t.2=tieT t:=by
 unfold tieT;rw[in_]
theorem gy_{k:Int}(h0:0<=k)(h1:k<=1000000000):k.natAbs.log2<1920:=by
 by_cases z:k.natAbs=0
 ·rw[z];decide
 ·exact (Nat.log2_lt z).mpr (ar' (show k.natAbs<2 ^ 64 by omega) (Nat.pow_le_pow_right (by decide) (by decide)))
theorem l1_{hs:Xa}(nd:(hs.map (·.1)).Nodup):sortKs (hs.map kH)=(hsN hs).map kH:=by
 unfold hsN bf';rw[ao',ao']
 conv=>lhs;rw[<- List.map_id (sortKs (hs.map kH))]
 refine ay' λk hk=>?_;obtain⟨h,hh,rfl⟩:=bW_ hs k hk;show kH h=kH (h.1,strOf hs h.1);rw[gO_ nd (n:=h.1) (s:=h.2) hh]
section
variable{P:Ae}{w:Ag}{K:F__}{mg:Str->Option Aa}{base:Heap}
theorem cS':ba' ["_law_hands","_law_ties","_law_rows","_law_pairs"] ["_law_hands","_law_ties"] (a9' c8'):=f__
inductive ce' (K:F__) (vs:List V) (H:Hp) (Q:VK) (E:XK):Prop
 |mk:∀(lh lt:Addr) (yh yt:List V) (hs:Xa) (ts:Xb),vs=[.ref lh,.ref lt]->H lh=some (.lst yh)->bb' K H yh (hs.map kH)->H lt=some (.lst yt)->bb' K H yt (ts.map kT)->Good hs ts->(∀l H',Same H H'->H l=none->H' l=some (.lst ((webR hs ts).map V.str))->Q (.ref l) H')->ce' K vs H Q E
theorem g6_(F:Fun K "_law_web_rows" "_law_web_rows" c8' f fd)(B:Bi mg):FnOk P w K mg base CX0 1 f fd ["_law_hands","_law_ties"] (ce' K):=by
 refine F.okA cS' λcdv A outer s H vs Q E hr h=>?_
 ·obtain⟨lh,lt,yh,yt,hs,ts,rfl,hlh,th,hlt,tt,G,k⟩:=h;have sz:=b__;refine' ⟨_,a3_ ?s1 (a3_ ?s2 (a5_ ?s3)),?kk⟩
  case' s1=>refine' bO_ (i:=2) ["_law_name","_law_strength"] 2 [] cS'.nd rfl (Or.inl rfl) (ah_ (a7_ cs_ (by rfl) B.sorted b8_ (a0_ (pv 0) a2_))) (λfp s H=>c2_ (n:=2) (ai_ (aY_ 0) (ai_ (aY_ 1) b4_))) (λfp s H=>aT_) (λfp s H=>?e1)
  case e1=>exact af_ ap_ (af_ ap_ (af_ ap_ a9_ (pv 0)) a9_) (ax_ de_ (by rfl) B.str dg_ (a0_ (pv 1) a2_))
  case' s2=>refine' ao_ 3 cS'.nd (a7_ cs_ (by rfl) B.sorted b8_ (a0_ (aR_ ["_law_tie"] 1 [] (ah_ (pv 1)) (λfp s H=>aY_ 0) (λfp s H=>aT_) (λfp s H=>?e2)) a2_))
  case e2=>exact ax_ (eZ' (K:=K)) (by rfl) B.tuple bK_ (a0_ (a7_ (cY' (K:=K) dx' cx_) (by rfl) B.sorted b8_ (a0_ (ax_ (ez' (K:=K)) (by rfl) B.list bm_ (a0_ (pv 0) a2_)) a2_)) a2_)
  case' s3=>refine' ae_ (af_ aI_ (pv 2) (aR_ ["_law_one","_law_other"] 2 [] (ah_ (pv 3)) (λfp s H=>c2_ (n:=2) (ai_ (aY_ 0) (ai_ (aY_ 1) b4_))) (λfp s H=>aT_) (λfp s H=>?e3)))
  case e3=>exact af_ ap_ (af_ ap_ (af_ ap_ a9_ (pv 0)) a9_) (pv 1)
  case' kk=>skip
  have h8:=G.h8;have t64:=G.t64;refine⟨_,rfl,lh,yh,hs.map kH,[true,false],rfl,.of hlh,th,⟨by decide,λq hq=>?_⟩,by rw[aa'];omega,λl1 z1 n1 t1 _=>?_⟩
  ·obtain⟨t,_,rfl⟩:=ac'.mp hq;rfl
  rw[l1_ G.hnd] at t1;obtain⟨s1,e1⟩:=nw__ (o:=.lst z1) n1;have t1:=t1.same s1;generalize upd H l1 (.lst z1)=H1 at s1 e1 t1 ⊢;have le1:=a_1 t1;rw[aa'] at le1
  have lN:(hsN hs).length=hs.length:=by
   unfold hsN;rw[aa',G.nlen]
  refine⟨l1,rfl,⟨_,.of e1⟩,λD hD=>?_⟩;refine an_ (own:=2) (fv:=[]) (xs:=z1) rfl gok2 (λi out H'=>Same H1 H'/\H' D=some (.lst out)/\out=(((hsN hs).take i).map λh=>cq' h.1 h.2).map V.str) ⟨Same.new hD,a1_,rfl⟩ (λi out H' _ ⟨sm,_,_⟩=>.of (sm _ _ e1)) (λout H2 ⟨s2,hd2,eo⟩=>?_) (λi x out H' hx ⟨sm,hd,eo⟩=>?_);rotate_left
  ·obtain⟨h,hh,b,rfl,hb⟩:=aJ_ t1 hx;obtain⟨nm,w1,w2⟩:=(kf_ G).hok h (ad' hh);have nl:=ag_ nm;have hl:=e0_ (n:=h.1) (k:=h.2) nl Z1 Z1;have tl:=PySem.W.KT.len_num (n:=h.2) Z1 Z1;have tl:((toString h.2:Ai):Str).length<=10:=tl;have hb:H1 b=some (.tup [.str h.1,.int h.2]):=hb;refine⟨_,⟨b,_,_,rfl,.of (sm _ _ hb),rfl⟩,rfl,λNx hN=>yesT ?_⟩;refine⟨_,rfl,_,_,rfl,rfl,?_,_,_,rfl,rfl,?_,_,rfl,h.2,rfl,gy_ Z1 Z1,_,_,rfl,rfl,?_,out,hd,?_,?_⟩
   ·show 5+h.1.length<=_;omega
   ·rw[a_3];show 5+h.1.length+1<=_;omega
   ·rw[a_3,a_3];show 5+h.1.length+1+((toString h.2:Ai):Str).length<=_;omega
   ·rw[eo,aa',aa',af'];omega
   ·rw[hy_];refine hN (out++[.str (cq' h.1 h.2)]) _ ⟨aB_ sm hD,a1_,?_⟩;rw[eo,aq_ _ hh,ag'];rfl
  rw[le1,an'] at eo;refine setG ?_;dsimp only;have s02:=s1.trans s2;refine srtG (i:=1) rfl (s02 _ _ hlt) (tt.same s02) t64 λl3 z3 H3 s3 n3 e3 t3=>?_;refine setG ?_;dsimp only;have le3:=a_1 t3;rw[aa'] at le3;have tl3:=aX_ ts;refine⟨_,rfl,_,rfl,l3,rfl,⟨_,.of e3⟩,λD3 hD3=>?_⟩;refine an_ (own:=2) (fv:=[]) (xs:=z3) rfl gok2 (λi out H'=>Same H3 H'/\H' D3=some (.lst out)/\out=(((tsOf ts).take i).map tieR).map V.str) ⟨Same.new hD3,a1_,rfl⟩ (λi out H' _ ⟨sm,_,_⟩=>.of (sm _ _ e3)) (λout4 H4 ⟨s4,hd4,eo4⟩=>?_) (λi x out H' hx ⟨sm2,hd,eo⟩=>?_);rotate_left
  ·obtain⟨t,ht,b,rfl,hb⟩:=aJ_ t3 hx;have wt:=gM_ G (ad' ht);refine⟨_,⟨b,_,_,rfl,.of (sm2 _ _ (hpT hb)),rfl⟩,rfl,λNx hN=>yesT ?_⟩;refine⟨_,rfl,_,_,rfl,rfl,?_,_,_,rfl,rfl,?_,_,rfl,_,_,rfl,rfl,?_,out,hd,?_,?_⟩
   ·show 4+t.1.length<=_;omega
   ·rw[a_3];show 4+t.1.length+1<=_;omega
   ·rw[a_3,a_3];show 4+t.1.length+1+t.2.length<=_;omega
   ·rw[eo,aa',aa',af'];omega
   ·rw[hs_];refine hN (out++[.str (tieR t)]) _ ⟨aB_ sm2 hD3,a1_,?_⟩;rw[eo,aq_ _ ht,ag'];rfl
  rw[le3,an'] at eo4;have hd2':=s4 _ _ (s3 _ _ hd2);refine⟨D,D3,_,_,rfl,rfl,hd2',hd4,?_,λq nq=>?_⟩
  ·rw[eo,eo4,aa',aa',aa',aa'];omega
  ·have s5:=Same.new (o:=.lst (out++out4)) nq;have sa:=(s02.trans s3).trans s4;refine k q _ (sa.trans s5) (sa.free nq) ?_;rw[a1_,eo,eo4,<- ag'];unfold webR hsN;rw[ao'];rfl
theorem df':ba' ["_law_ways_here","_law_pairs"] ["_law_ways_here"] (a9' cN'):=f__
def cp'(K:F__):Sp:=λvs H Q _=>∃(v:V) (o:Option (Xb)),vs=[v]/\WyAt K H v o/\(∀ws,o=some ws->ws.length<64/\∀t∈ws,cc' t)/\∀H',Same H H'->Q (.str (bn' (o.map tsOf))) H'
theorem fA_(F:Fun K "_law_ways_word" "_law_ways_word" cN' f fd)(B:Bi mg):FnOk P w K mg base CX0 1 f fd ["_law_ways_here"] (cp' K):=by
 refine F.okA df' λcdv A outer s H vs Q E hr h=>?_
 ·obtain⟨v,o,rfl,wy,hz,k⟩:=h;have sz:=b__;refine' ⟨_,?r0,?kk⟩
  case' r0=>refine' a3_ ?s1 ?r1
  case' r1=>refine' a3_ ?s2 ?r2
  case' r2=>refine' a3_ ?s3 (a5_ ?s4)
  case s1=>exact aw_ (bg_ (cT_ (pv 0))) (a5_ (ae_ a9_)) aa_
  case s2=>exact aw_ (ar_ (ke_ (cmp2 cmpS cmpS) (e6' hr _)) (pv 0) (av_ a2_) (nomark _)) (a5_ (ae_ a9_)) aa_
  case' s3=>refine' ao_ 1 df'.nd (a7_ cs_ (by rfl) B.sorted b8_ (a0_ (aR_ ["_law_tie"] 1 [] (ah_ (pv 0)) (λfp s H=>aY_ 0) (λfp s H=>aT_) (λfp s H=>?e2)) a2_))
  case e2=>exact ax_ (eZ' (K:=K)) (by rfl) B.tuple bK_ (a0_ (a7_ (cY' (K:=K) dx' cx_) (by rfl) B.sorted b8_ (a0_ (ax_ (ez' (K:=K)) (by rfl) B.list bm_ (a0_ (pv 0) a2_)) a2_)) a2_)
  case' s4=>refine' ae_ (bl_ b_1 c_0 c__ bs_ a9_ (a0_ (aR_ ["_law_one","_law_other"] 2 [] (ah_ (pv 1)) (λfp s H=>c2_ (n:=2) (ai_ (aY_ 0) (ai_ (aY_ 1) b4_))) (λfp s H=>aT_) (λfp s H=>?j)) a2_))
  case j=>exact af_ ap_ (af_ ap_ (pv 0) a9_) (pv 1)
  case' kk=>skip
  cases o with
  |none=>
   cases (show v=.non from wy);exact⟨_,rfl,_,rfl,iteT (k H (Same.refl H))⟩
  |some ws=>
   obtain⟨a,ys,rfl,ha,tu⟩:=wy;obtain⟨wz,wl⟩:=hz ws rfl;refine⟨_,rfl,_,rfl,iteF ?_⟩;refine⟨_,rfl,by show 0<=sizeLine;decide,λl nl=>?_⟩;obtain⟨s1,k1⟩:=nw__ (o:=.lst []) nl;generalize upd H l (.lst [])=H1 at s1 k1 ⊢;have tu1:=tu.same s1;refine⟨ws,[],⟨a,ys,rfl,.of (s1 _ _ ha),?_⟩,⟨l,[],rfl,.of k1,.nil⟩,_,rfl,?_⟩
   ·exact lj_ tu1
   cases ws with
   |nil=>
    have k':=k _ s1;rw[show ((some []).map tsOf:Option (Xb))=some [] from c_1 some (List.length_eq_zero_iff.mp (aX_ []))] at k';exact iteT k'
   |cons w0 wr=>
    rw[a_4 Z2];refine iteF ?_;refine srtG (i:=0) rfl (s1 _ _ ha) tu1 wz λl3 z3 H3 s3 n3 e3 t3=>?_;refine setG ?_;dsimp only;have le3:=a_1 t3;rw[aa'] at le3;have tl3:=aX_ (w0::wr)
    have wl':∀t∈tsOf (w0::wr),t.1.length<=8/\t.2.length<=8:=λt ht=>by
     have g:=bq_ (hs:=[]) wl ht;exact⟨ag_ g.1,ag_ g.2.1⟩
    refine⟨rfl,_,rfl,l3,rfl,⟨_,.of e3⟩,λD hD=>?_⟩;refine an_ (own:=2) (fv:=[]) (xs:=z3) rfl gok2 (λi out H'=>Same H3 H'/\H' D=some (.lst out)/\out=(((tsOf (w0::wr)).take i).map tieT).map V.str) ⟨Same.new hD,a1_,rfl⟩ (λi out H' _ ⟨sm,_,_⟩=>.of (sm _ _ e3)) (λout H' ⟨sm,hd,eo⟩=>?_) (λi x out H' hx ⟨sm,hd,eo⟩=>?_)
    ·rw[le3,an'] at eo;refine⟨",",D,_,rfl,rfl,.of (by rw[hd,eo]),?_,?_⟩
     ·have:=do_ wl';rw[aa'];show _+_ * 1<=_;omega
     ·have e:bn' ((some (w0::wr)).map tsOf)=Txt.join "," ((tsOf (w0::wr)).map tieT):=by
       show bn' (some (tsOf (w0::wr)))=_;cases z:tsOf (w0::wr) with
       |nil=>
        rw[z] at tl3;simp at tl3
       |cons u us=>rfl
      rw[<- e];exact k _ ((s1.trans s3).trans sm)
    ·obtain⟨t,ht,b,rfl,hb⟩:=aJ_ t3 hx;have wt:=wl' t (ad' ht);refine⟨_,⟨b,_,_,rfl,.of (sm _ _ (hpT hb)),rfl⟩,rfl,λNx hN=>yesT ?_⟩;refine⟨_,rfl,_,_,rfl,rfl,?_,_,rfl,_,_,rfl,rfl,?_,out,hd,?_,?_⟩
     ·show t.1.length+1<=_;omega
     ·rw[a_3];show t.1.length+1+t.2.length<=_;omega
     ·rw[eo,aa',aa',af'];omega
     ·rw[dN_];refine hN (out++[.str (tieT t)]) _ ⟨aB_ sm hD,a1_,?_⟩;rw[eo,aq_ _ ht,ag'];rfl
end
end Ev
namespace L2
open PySem PySem.Spec PySem.Calls PyProof.Rows PySem.W
variable{oe:Obj}{vs:Array Aa}
variable{dd:Option Addr}{l:List Env}{h:Heap}
section
variable{M:Model}{A:Ah}{E:Aa->Ac->Prop}{s:Ac}{base:Heap}{env:Env}{outer:List Env}{L e:Addr}{cls a0:Aa}{Q:Unit->Ac->Prop}
def TracedD(h base:Heap)(e:Addr)(cls a0:Aa)(dd:Option Addr):Prop:=∃oe vs T oT ts,h.get? e=some oe/\(oe.cls=cls/\vs[0]? = some a0)/\oe.data=Data.fields vs/\vs[1]? = some (Value.ref T)/\base.get? T=none/\T≠e/\h.get? T=some oT/\oT.data=Data.fields ts/\ts[3]? = some Value.none/\oe.dict=dd
def bv'(base:Heap)(l:List Env)(e:Addr)(cls a0:Aa)(dd:Option Addr)(h:Heap):Prop:=base.StaysIn h/\base.get? e=none/\h.FunFrames base l/\TracedD h base e cls a0 dd
theorem d9'{head:Aa}{hadNext:Bool}(hfr:A.frames=some (env::outer))(hl:s.heap.FunFrames base (env::outer))(hf:env.frame=some L)(he:s.heap.get? e=some oe)(hkb:base.StaysIn s.heap)(hen:base.get? e=none)(hd:oe.data=Data.fields vs)(hsz:1<vs.size)(h0:vs[0]? = some a0)(h:∀h',base.StaysIn h'->h'.FunFrames base (env::outer)->TracedD h' base e oe.cls a0 oe.dict->s.heap.UpToSlots h'->Q () { s with heap:=h' }) :
  wpAny M A (do
   let a <- PySem.frameOf env
   let pl <- entryPlaceOf L hadNext
   let b <- EntryCells.newEntry head a Value.none (rawInt L) Value.none pl
   setField (Value.ref e) 1 b) (λ_ s'=>wpAny M A (setFlight (Value.ref e) none) Q E s') E s:=by
 have hene:e∉List.filterMap (λx=>x.frame) (env::outer):=λhm=>by
  obtain⟨_,o,ho,hnf⟩:=Heap.FunFrames.mem hl hm;rw[he] at ho;cases ho;exact hnf vs hd
 refine a__ (wpAny_frameOf_fun hfr hl hf λh₁ hs₁=>a__ (wpAny_entryPlaceOf λpl hpl=>?_));unfold EntryCells.newEntry newFields;have hsz1:h₁.objs.size=s.heap.objs.size:=hs₁.1;have he₁:=(hs₁.right.left e hene).trans he;have hlt:∀b o,s.heap.get? b=some o->b≠h₁.objs.size:=λb o q=>av' (by rw[hsz1];exact a_6 q)
 have hbn:base.get? h₁.objs.size=none:=by
  cases q:base.get? h₁.objs.size with
  |none=>rfl
  |some o=>exact absurd rfl (hlt _ o (hkb _ o q))
 have hbase:∀b o,base.get? b=some o->h₁.get? b=some o:=λb o q=>(hs₁.right.left b (λhm=>by
  have:=(Heap.FunFrames.mem hl hm).1;rw[q] at this;cases this)).trans (hkb b o q)
 obtain⟨tbs,htb,ht3⟩:∃tbs:Array Aa,([head,Value.ref L,Value.none,rawInt ↑L,Value.none]++if pl.isEmpty=true then List.replicate 6 Value.none else pl).toArray=tbs/\3<tbs.size:=⟨_,rfl,by simp⟩
 have hts:tbs.size<=sizeLine+2:=by
  rw[<- htb];rcases hpl with rfl|⟨a,b,c,d,c9,b10,_,rfl⟩
  ·show 11<=sizeLine+2;decide
  ·show 11<=sizeLine+2;decide
 refine a__ (d_2 ?_ (by rw[htb];exact hts));rw[htb];have he₂:(h₁.push { cls:=Value.type "traceback",data:=Data.fields tbs }).get? e=some oe:=a_0 _ he₁;have hn₂:(h₁.push { cls:=Value.type "traceback",data:=Data.fields tbs }).get? h₁.objs.size=some { cls:=Value.type "traceback",data:=Data.fields tbs }:=a_7 h₁ rfl;have hTe:h₁.objs.size≠e:=(hlt e oe he).symm;refine e_0 he₂ hd hsz ?_;have hd₃:=d_4 hd λx=>x.setIfInBounds 1 (Value.ref h₁.objs.size);have he₃:=c_6 (Obj.mapFields λx=>x.setIfInBounds 1 (Value.ref h₁.objs.size)) he₂ (c_9 hd₃);have hn₃:=(b_5 (h₁.push { cls:=Value.type "traceback",data:=Data.fields tbs }) (Obj.mapFields λx=>x.setIfInBounds 1 (Value.ref h₁.objs.size)) hTe.symm).trans hn₂;unfold setFlight;refine a__ (d_3 (x:=.ref h₁.objs.size) he₃ hd₃ (by simp[hsz]) ?_);rw[b_0 Z2];refine e_0 hn₃ rfl ht3 ?_;have hd₄:=d_4 (o:={ cls:=Value.type "traceback",data:=Data.fields tbs }) rfl λx=>x.setIfInBounds 3 Value.none;have hn₄:=c_6 (Obj.mapFields λx=>x.setIfInBounds 3 Value.none) hn₃ (c_9 hd₄);have he₄:=(b_5 ((h₁.push { cls:=Value.type "traceback",data:=Data.fields tbs }).update e (Obj.mapFields λx=>x.setIfInBounds 1 (Value.ref h₁.objs.size))) (Obj.mapFields λx=>x.setIfInBounds 3 Value.none) hTe).trans he₃
 have oth:∀b o,b≠e->b≠h₁.objs.size->h₁.get? b=some o->(((h₁.push { cls:=Value.type "traceback",data:=Data.fields tbs }).update e (Obj.mapFields λx=>x.setIfInBounds 1 (Value.ref h₁.objs.size))).update h₁.objs.size (Obj.mapFields λx=>x.setIfInBounds 3 Value.none)).get? b=some o:=λb o n1 n2 q=>
  (b_5 _ _ n2.symm).trans ((b_5 _ _ n1.symm).trans (a_0 _ q))
 have hec:((Obj.mapFields λx=>x.setIfInBounds 1 (Value.ref h₁.objs.size)) oe).cls=oe.cls/\((Obj.mapFields λx=>x.setIfInBounds 1 (Value.ref h₁.objs.size)) oe).dict=oe.dict:=by
  obtain⟨c,dt,da,sl⟩:=oe;have:da=Data.fields vs:=hd;subst this;exact⟨rfl,rfl⟩
 have ups:∀b o,s.heap.get? b=some o->(∀vs,o.data≠Data.fields vs)->∃sl,(((h₁.push { cls:=Value.type "traceback",data:=Data.fields tbs }).update e (Obj.mapFields λx=>x.setIfInBounds 1 (Value.ref h₁.objs.size))).update h₁.objs.size (Obj.mapFields λx=>x.setIfInBounds 3 Value.none)).get? b=some { cls:=o.cls,dict:=o.dict,data:=o.data,slots:=sl }:=λb o q nf=>by
  obtain⟨sl,q1⟩:=hs₁.right.right b o q;refine⟨sl,oth b _ (λz=>?_) (hlt b o q) q1⟩;subst z;rw[he] at q;cases q;exact nf vs hd
 refine h _ (λb o q=>oth b o (λz=>?_) (λz=>?_) (hbase b o q)) (d_9 (λb o q nf=>?_) hl) ⟨_,_,h₁.objs.size,_,_,he₄,⟨hec.1,?_⟩,hd₃,?_,hbn,hTe,hn₄,hd₄,?_,hec.2⟩ ups
 ·subst z;rw[hen] at q;cases q
 ·subst z;rw[hbn] at q;cases q
 ·obtain⟨sl,q1⟩:=ups b o q nf;exact⟨_,q1,rfl⟩
 ·rw[Array.getElem?_setIfInBounds];simpa using h0
 ·simp[hsz]
 ·simp[ht3]
theorem bv'.obj(f:bv' base l e cls a0 dd h):∃oe vs,h.get? e=some oe/\oe.cls=cls/\oe.data=Data.fields vs/\oe.dict=dd:=by
 obtain⟨f1,f2,f3,oe,vs,T,oT,ts,h1,h2,h3,h4,h5,h6,h7,h8,h9,h10⟩:=f;exact⟨oe,vs,h1,h2.1,h3,h10⟩
theorem bv'.less(f:bv' base (env::outer) e cls a0 dd h):bv' base outer e cls a0 dd h:=⟨f.1,f.2.1,f.2.2.1.2.2,f.2.2.2⟩
theorem dd_(hfr:A.frames=some (env::outer))(hf:env.frame=some L)(hfl:bv' base (env::outer) e cls a0 dd s.heap)(hQ:∀h',bv' base (env::outer) e cls a0 dd h'->s.heap.UpToSlots h'->Q () { s with heap:=h' }):wpAny M A (noteFrame (Value.ref e) env) (λ_ s₂=>wpAny M A (setFlight (Value.ref e) none) Q E s₂) E s:=by
 obtain⟨f1,f2,f3,oe,vs,T,oT,ts,he,⟨hc,h0⟩,hd,h1,hnT,hTe,hT,hdT,h3,hdd⟩:=hfl;unfold noteFrame;rw[hf];dsimp only;refine a__ (d_3 he hd h1 ?_);rw[b_0 Z2];refine a__ (d_3 hT hdT h3 ?_);rw[a_8 (by simp[rawInt])];refine a__ (e_0 hT hdT (aE'.mp h3).1 ?_);have other:∀b,b≠T->(s.heap.update T (Obj.mapFields λx=>x.setIfInBounds 3 Value.none)).get? b=s.heap.get? b:=λb hb=>b_5 _ _ hb.symm
 have nrec:∀b o,s.heap.get? b=some o->(∀vs,o.data≠Data.fields vs)->b≠T:=λb o q nf z=>by
  subst z;rw[hT] at q;cases q;exact nf ts hdT
 refine d9' (base:=base) (s:={ s with heap:=s.heap.update T (Obj.mapFields λx=>x.setIfInBounds 3 Value.none) }) hfr (d_9 (λb o q nf=>⟨o,(other b (nrec b o q nf)).trans q,rfl⟩) f3) hf ((other e hTe.symm).trans he) (λb o q=>(other b (λz=>?_)).trans (f1 b o q)) f2 hd (aE'.mp h1).1 h0 λh' g1 g2 g3 g4=>?_
 ·subst z;rw[hnT] at q;cases q
 ·refine hQ h' ⟨g1,f2,g2,?_⟩ λb o q nf=>g4 b o ((other b (nrec b o q nf)).trans q) nf;rw[hc,hdd] at g3;exact g3
theorem h9_(hfr:A.frames=some (env::outer))(hf:env.frame=some L)(hfl:bv' base (env::outer) e cls a0 dd s.heap)(hQ:∀h',bv' base outer e cls a0 dd h'->s.heap.UpToSlots h'->Q () { s with heap:=h' }):wpAny M A (leaving env (Value.ref e)) Q E s:=by
 unfold leaving;exact a__ (dd_ hfr hf hfl λh' f u=>hQ h' f.less u)
theorem eT_(hfl:bv' base l e cls a0 dd s.heap)(hQ:∀h',bv' base l e cls a0 dd h'->s.heap.UpToSlots h'->Q () { s with heap:=h' }):wpAny M A (setFlight (Value.ref e) none) Q E s:=by
 obtain⟨f1,f2,f3,oe,vs,T,oT,ts,he,⟨hc,h0⟩,hd,h1,hnT,hTe,hT,hdT,h3,hdd⟩:=hfl;unfold setFlight;refine a__ (d_3 he hd h1 ?_);rw[b_0 Z2];refine e_0 hT hdT (aE'.mp h3).1 ?_;have other:∀b,b≠T->(s.heap.update T (Obj.mapFields λx=>x.setIfInBounds 3 Value.none)).get? b=s.heap.get? b:=λb hb=>b_5 _ _ hb.symm
 have nrec:∀b o,s.heap.get? b=some o->(∀vs,o.data≠Data.fields vs)->b≠T:=λb o q nf z=>by
  subst z;rw[hT] at q;cases q;exact nf ts hdT
 have hd4:=d_4 hdT λx=>x.setIfInBounds 3 Value.none;have hT4:=c_6 (Obj.mapFields λx=>x.setIfInBounds 3 Value.none) hT (c_9 hd4);refine hQ _ ⟨λb o q=>(other b (λz=>?_)).trans (f1 b o q),f2,d_9 (λb o q nf=>⟨o,(other b (nrec b o q nf)).trans q,rfl⟩) f3,oe,vs,T,_,_,(other e hTe.symm).trans he,⟨hc,h0⟩,hd,h1,hnT,hTe,hT4,hd4,?_,hdd⟩ λb o q nf=>⟨o.slots,(other b (nrec b o q nf)).trans q⟩
 ·subst z;rw[hnT] at q;cases q
 ·have:=(aE'.mp h3).1;simp[this]
theorem eD_(hfr:A.frames=some (env::outer))(hf:env.frame=some L)(st:base.StaysIn s.heap)(ff:s.heap.FunFrames base (env::outer))(hen:base.get? e=none)(he:s.heap.get? e=some oe)(hc:oe.cls=cls)(hdd:oe.dict=dd)(hd:oe.data=Data.fields vs)(h0:vs[0]? = some a0)(h1:vs[1]? = some Value.none)(hQ:∀h',bv' base outer e cls a0 dd h'->s.heap.UpToSlots h'->Q () { s with heap:=h' }):wpAny M A (leaving env (Value.ref e)) Q E s:=by
 unfold leaving noteFrame;rw[hf];dsimp only;refine a__ (a__ (d_3 he hd h1 ?_));rw[a_8 Z2];refine d9' (base:=base) hfr ff hf he st hen hd (aE'.mp h1).1 h0 λh' g1 g2 g3 g4=>?_;refine hQ h' ⟨g1,hen,g2.2.2,?_⟩ g4;rw[hc,hdd] at g3;exact g3
end
section
variable{prog:Ae}{w:Ag}{A:Ah}{E:Aa->Ac->Prop}{h:Heap}{g:Array GenState}{d:Drawn}{t:Nat}{os:OsState}{nm q:Str}{C N f:Addr}{bs bm bmB:List Aa}{hdct:Bool}{sn:List Str}{sub:List Aa}{ab:Bool}{col:Option Bool}{dd:Option Addr}{k0 k1 k2 k3 k5:Option Aa}{B newId initId:Ai}{K:F__}{rest:List Aa}
end
open Builtin Builtin.ObjectAttr
def excMro(C CE:Addr):List Aa:=[.ref C,.ref CE,.type "ValueError",.type "Exception",.type "BaseException",.type "object"]
section
variable{prog:Ae}{w:Ag}{A:Ah}{E:Aa->Ac->Prop}{s:Ac}{K:F__}{x C CE:Addr}{ox:Obj}{od:Option Obj}{name:Str}{tk:Tok}{v:Aa}{cd:ClassData}
end
abbrev bmV:List Aa:=[.type "ValueError",.type "Exception",.type "BaseException",.type "object"]
def excInO(K:F__)(C:Addr)(bmB:List Aa)(newId:Ai):Bool:=
 match K.lookup C with
 |some ⟨.type "type",_,.cls cd,sl⟩=>
  match cd.mro,sl.toList with
  |.ref C'::bm,[_,_,_,_,some (.builtin n),_]=>C' == C&&n == newId&&!cd.hasDel&&tailIn K bmB bm&&nsOkIn K cd.ns
  |_,_=>false
 |_=>false
def clsO(K:F__)(C CE:Addr):Bool:=
 match clsIn K C with
 |some cd=>cd.mro == excMro C CE&&cd.hasDict
 |none=>false
structure ExO (K:F__) (C CE:Addr):Prop where
 kx:ExcK K C
 ex:excInO K C bmV "ValueError.__new__"=true
 es:findIn K (.ref C) "__setattr__"=some (some (.builtin "object.__setattr__"))
 cl:clsO K C CE=true
structure ExF (K:F__) (C:Addr) (f:Str):Prop where
 tk:takerIn K C f=some none
 fd:findIn K (.ref C) f=some none
structure ExB (K:F__) (CE:Addr):Prop where
 sp:specialIn K (.ref CE) "__getattribute__"=some (some (.builtin "type.__getattribute__"))
 rd:readsIn K CE (.type "type")=true
 fc:findCls K (.ref CE) (.type "type") "__init__"=some (.val (.builtin "ValueError.__init__"))
def exq(e C:Addr)(dd:Option Addr):HO:=.ext λh=>∃o vs,h.get? e=some o/\o.cls=.ref C/\o.dict=dd/\o.data=.fields vs
section
variable{P:Ae}{w:Ag}{H:Hp}{h:Heap}{e C a0 d:Addr}{dd:Option Addr}{fs:List (Str × V)}
theorem ma_{o:Obj}(h1:h.get? e=some o)(h2:o.cls=.ref C)(h3:o.dict=dd)(h4:o.data=.fields vs):bt' P w H h e (exq e C dd):=⟨⟨o,vs,h1,h2,h3,h4⟩,⟨o,h1⟩,λ_ _ ⟨u,vs,q,r⟩ k=>⟨u,vs,k u q,r⟩⟩
end
section
variable{X:Cx}{C CE:Addr}{x f:Str}{p apos pos pos':Pos}{o e value:Expr}{es:List Expr}{ta tv:TE}{t:TA}
end
def CX2(P:Ae)(w:Ag):CXT:=λl H s E e s'=>
 ∃a cls H' B a0 dd,e=Value.ref a/\s'.os=s.os/\AllBare s'.gens/\Un (frs l) [] H H' s.heap s'.heap/\HOk P w H' s'.heap/\bv' B l a cls a0 dd s'.heap/\InB B l H' s.heap s'.heap/\E cls dd H'
section
variable{X:Cx}{pins:List (Addr × Obj)}{σ:St}{H H':Hp}{s s1:Ac}{B h:Heap}{a:Addr}{cls a0:Aa}{dd:Option Addr}{E:XK}
theorem en_(I:Inv X pins σ H s)(hex:X.ex=[])(os:s1.os=s.os)(bare:AllBare s1.gens)(un:Un (frs X.stack) [] H H' s.heap h)(hok:HOk X.prog X.w H' h)(i:InB B X.stack H' s.heap h)(ff:h.FunFrames B X.stack)(up:h.UpToSlots s1.heap)
  (fl:bv' B X.outer a cls a0 dd s1.heap) (hE:E cls dd H'):CX2 X.prog X.w X.outer X.H₀ X.s₀ E (.ref a) s1:=by
 have un1:=bu_ un ff i fl.1 up;have hok1:=bf_ hok (cl_ I un) i fl.1;have I1:Inv X pins σ H' s1:=I.call' os un1 hok1 bare (λb z=>absurd z Z2);have bs:=I1.base;rw[hex] at bs;refine⟨a,cls,H',B,a0,dd,rfl,I1.os,I1.bare,bs,I1.hok,fl,λb o e hb c=>?_,hE⟩
 have nL:b≠X.env.locals:=by
  rcases c with z|⟨o0,z⟩
  ·intro q;rw[q,I1.free] at z;cases z
  ·exact av' (ar' (a_6 z) I.ok.above)
 refine bL_ hok un i fl.1 b o e (λhm=>?_) (c.imp id λ⟨o0,z⟩=>I.base.there b o0 z (by rw[hex];simp));rcases ah'.mp (I.stkSub b hm) with z|z
 ·exact nL z
 ·exact hb z
end
section
variable{P:Ae}{w:Ag}{K:F__}{mg:Str->Option Aa}{base:Heap}{N:List Str}{qual:Str}{scope:Scope}{f:Addr}{cd:Aa}{A:Ah}{outer:List Env}{s:Ac}{H:Hp}{E:XK}
theorem passes2:bx' (CX2 P w) (cxOf (CX2 P w) P w K mg base N qual scope f cd A outer s H E) E:=by
 intro pins σ H1 s1 e s' I hc;obtain⟨a,cls,H',B,a0,dd,rfl,os,bare,un,hok,fl,i,hE⟩:=hc;refine h9_ (base:=B) I.ok.frames rfl fl λh1 fl1 up=>?_;exact en_ (s1:={ s' with heap:=h1 }) I rfl os bare un hok i fl.2.2.1 up fl1 hE
end
def XE(X:Cx)(i:Nat)(C:Addr)(ts:TS)(R:Ends):XK:=λcls dd H'=>cls=.ref C/\∀(σ:St) (a:Addr),σ.length=X.N.length->H' a=none->ts (R.gone i) (σ.set i (some (.ref a))) (upd H' a (exq a C dd))
variable{D:Addr}
def tTry2(X:Cx)(i:Nat)(C:Addr)(tb:XK->TS)(ts:TS):TS:=λD σ H=>tb (XE X i C ts D) D σ H
variable{pins:List (Addr × Obj)}{σ:St}{s s':Ac}{R:Ends}{X:Cx}{i:Nat}{n x:Str}{C:Addr}{hpos np:Pos}{b₀:Stmt}{suite:List Stmt}{ts:TS}{rest:List ExceptHandler}
theorem gZ_{H:Hp}{e:Aa}(hN:X.N.Nodup)(hi:X.N[i]? = some n)(hl:X.env.scope.names.lookup n=some .local)(hst:X.stack=X.env::X.outer)(hfr:X.env.frame=some X.env.locals)(hg:Gl X x)(hm:X.mg x=some (.ref D))(hx:PySem.W.exmOne X.K (.ref C) (.ref D)=some true)(hs:∀a,PSs (X.inX a).nox (b₀::suite) ts)(I:Inv X pins σ H s)(hc:CX2 X.prog X.w X.stack H s (XE X i C ts R) e s')(hd:(x == ("__debug__":Str))=false:=by decide) :
  wpAny (model X.prog X.w) X.A (noteFrame e X.env) (λ_ s₂=>wpAny (model X.prog X.w) X.A (setFlight e none) (λ_ s₃=>
   wpAny (model X.prog X.w) X.A (handleBy e X.env (.ExceptHandler (some (.Name x np)) (some n) (b₀::suite) hpos::rest)) (SP X pins R) X.xe s₃) X.xe s₂) X.xe s':=by
 obtain⟨a,cls,H',B,a0,dd,rfl,os,bare,un,hok,fl,i',rfl,hE⟩:=hc;have fr:=cl_ I un;have ff:=fl.2.2.1;refine dd_ (base:=B) (by rw[I.ok.frames,hst]) hfr (by rw[<- hst];exact fl) λh₅ fl5 up45=>?_;rw[<- hst] at fl5;have un5:=bu_ un ff i' fl5.1 up45;have hok5:=bf_ hok fr i' fl5.1;have in5:=bL_ hok un i' fl5.1;have I5:Inv X pins σ H' { s' with heap:=h₅ }:=I.call' (s':={ s' with heap:=h₅ }) os un5 hok5 bare (λb z=>absurd z Z2);have J5:=I5.inX a;obtain⟨oe,vs5,he5,hce,_⟩:=fl5.obj;refine wpAny_handleBy_cons (codeAny_handlers_test (cC_ (X:=X.inX a) J5 hg hm ?_ hd)) (by intro q;cases q);refine (PySem.W.exm_one (K:=X.K) J5.kIn (by subst_eqs;exact hce▸(PySem.W.Looks.ld he5).andThen .now) hx).at ?_;refine codeAny_handlers_suite_as ?_;refine eT_ (base:=B) (by exact fl5) λh₆ fl6 up6=>?_;have ff5:=fl5.2.2.1;have un6:=bu_ un5 ff5 in5 fl6.1 up6;have hok6:=bf_ hok5 fr in5 fl6.1;have in6:=bL_ hok5 un5 in5 fl6.1;have I6:Inv X pins σ H' { s' with heap:=h₆ }:=I.call' (s':={ s' with heap:=h₆ }) os un6 hok6 bare (λb z=>absurd z Z2);obtain⟨ox,vs,hx6,hcx,hdx,hddx⟩:=fl6.obj
 have nfr:a∉frs X.stack:=λhm=>by
  obtain⟨_,o,ho,d⟩:=fl6.2.2.1.mem hm;have ho:h₆.get? a=some o:=ho;rw[hx6] at ho;cases ho;exact d _ hdx
 have nB:B.get? a=none:=fl6.2.1
 have nH:H' a=none:=by
  cases q:H' a with
  |none=>rfl
  |some u=>
   have z:=in6 a ox hx6 nfr (.inl (by rw[q];rfl));rw[nB] at z;cases z
 have nS:s.heap.get? a=none:=by
  cases q:s.heap.get? a with
  |none=>rfl
  |some u=>
   have z:=in6 a ox hx6 nfr (.inr ⟨u,q⟩);rw[nB] at z;cases z
 have ntr:∀c,H' c≠none->c≠a:=λc z q=>z (q▸nH)
 have un7:Un (frs X.stack) [] H (upd H' a (exq a C dd)) s.heap h₆:=
  ⟨un6.keep,un6.slot,λb o q m z=>by
   rw[a8_ (λy=>by rw[y,nS] at q;cases q)];exact un6.free b o q m z,un6.there,λb xs q=>by
   have:=un6.tups b xs q;rw[a8_ (ntr b (by rw[this];simp))];exact this,λb o u q=>by
   have:=un6.frzs b o u q;rw[a8_ (ntr b (by rw[this];simp))];exact this,λb p q=>by
   obtain⟨more,this⟩:=un6.tbls b p q;exact⟨more,by rw[a8_ (ntr b (by rw[this];simp))];exact this⟩⟩
 have hok7:HOk X.prog X.w (upd H' a (exq a C dd)) h₆:=λb u q=>by
  by_cases hb:b=a
  ·subst hb;rw[a1_] at q;cases q;exact ma_ hx6 hcx hddx hdx
  ·rw[a8_ hb] at q;exact (hok6 b u q).stay (λ_ _ _ z=>z) (λc z=>by rw[a8_ (ntr c (by rw[z];simp))];exact z) λc xs z=>by rw[a8_ (ntr c (by rw[z];simp))];exact z
 have I7:Inv X pins σ (upd H' a (exq a C dd)) { s' with heap:=h₆ }:=I.call' (s':={ s' with heap:=h₆ }) os un7 hok7 bare (λb z=>absurd z Z2);refine dl_ (X:=X.inX a) (v:=.ref a) (I7.inX a) hN hi (.inl hl) rfl (λs8 I8=>?_) (.inr hl);refine c_7 (hs a pins s8 _ _ _ (I8.wish _) (hE σ a I.len nH)) (λf s9 q=>?_) λ_ _ z=>False.elim z;have q:=q.unwish;show wpAny _ _ _ _ _ _;cases f with
 |next=>
  obtain⟨σ',H9,I9,q⟩:=q;exact dI_ (X:=X) (I9.outX I.ok) hN hi hl λs10 I10=>⟨_,_,I10,q⟩
 |brk=>
  obtain⟨σ',H9,I9,q⟩:=q;exact dI_ (X:=X) (I9.outX I.ok) hN hi hl λs10 I10=>⟨_,_,I10,q⟩
 |cont=>
  obtain⟨σ',H9,I9,q⟩:=q;exact dI_ (X:=X) (I9.outX I.ok) hN hi hl λs10 I10=>⟨_,_,I10,q⟩
 |ret u=>
  obtain⟨v,σ',H9,I9,r,q⟩:=q;exact dI_ (X:=X) (I9.outX I.ok) hN hi hl λs10 I10=>⟨v,_,_,I10,r,q⟩
abbrev Cx.atW(X:Cx)(W:Aa->Ac->Prop)(pn:List (Addr × Obj)):Cx:={ X with xe:=W,pn:=pn }
theorem Cx.Ok.atW(ok:X.Ok)(W:Aa->Ac->Prop)(pn:List (Addr × Obj)):(X.atW W pn).Ok:=
 ⟨ok.mod,ok.kind,ok.glob,ok.blt,ok.above,ok.inj,ok.has,ok.cab,ok.hd,ok.frames,ok.stk,ok.exf,ok.bs,ok.bsz,ok.noex,ok.exfs,ok.funs,ok.frf⟩
theorem Inv.toAt{H:Hp}(I:Inv X pins σ H s)(W:Aa->Ac->Prop):Inv (X.atW W (X.pn++pins)) [] σ H s:=⟨I.ok.atW W _,I.os,I.bare,I.base,I.loc,I.cell,I.free,I.freeC,λp hp=>I.pin p (by simpa using hp),I.hok,I.len⟩
theorem Inv.ofAt{p2:List (Addr × Obj)}{H:Hp}{W:Aa->Ac->Prop}(ok:X.Ok)(I:Inv (X.atW W (X.pn++pins)) p2 σ H s):Inv X pins σ H s:=⟨ok,I.os,I.bare,I.base,I.loc,I.cell,I.free,I.freeC,λp hp=>I.pin p (List.mem_append_left _ hp),I.hok,I.len⟩
variable{pos:Pos}{body:List Stmt}{tb:XK->TS}
theorem ks_(hN:X.N.Nodup)(hi:X.N[i]? = some n)(hl:X.env.scope.names.lookup n=some .local)(hst:X.stack=X.env::X.outer)(hfr:X.env.frame=some X.env.locals)
  (hg:Gl X x) (hm:X.mg x=some (.ref D)) (hx:PySem.W.exmOne X.K (.ref C) (.ref D)=some true) (hb:∀(E:XK) (W:Aa->Ac->Prop) (pn:List (Addr × Obj)),bx' (CX2 X.prog X.w) (X.atW W pn) E->PSs (X.atW W pn) body (tb E)) (hs:∀a,PSs (X.inX a).nox (b₀::suite) ts) (hd:(x == ("__debug__":Str))=false:=by decide) :
  PS X (.Try body [.ExceptHandler (some (.Name x np)) (some n) (b₀::suite) hpos] [] [] pos) (tTry2 X i C tb ts):=by
 intro pins s σ H R I h;have hb':=hb (XE X i C ts R) (λe s'=>∃σ H s,Inv X pins σ H s/\CX2 X.prog X.w X.stack H s (XE X i C ts R) e s') (X.pn++pins) (λp2 σ2 H2 s2 e s' I2 hc=>⟨σ2,H2,s2,I2.ofAt I.ok,hc⟩);refine wpAny_Try_except (c_7 (hb' [] s σ H R (I.toAt _) h) (λf s1 q=>?_) λe s1 ⟨σ',H',s0,I0,hc⟩=>gZ_ hN hi hl hst hfr hg hm hx hs I0 hc hd);cases f with
 |next=>
  obtain⟨σ',H',I',q⟩:=q;exact wpAny_execs_nil ⟨σ',H',I'.ofAt I.ok,q⟩
 |ret v=>
  obtain⟨v',σ',H',I',r,q⟩:=q;exact⟨v',σ',H',I'.ofAt I.ok,r,q⟩
 |brk=>
  obtain⟨σ',H',I',q⟩:=q;exact⟨σ',H',I'.ofAt I.ok,q⟩
 |cont=>
  obtain⟨σ',H',I',q⟩:=q;exact⟨σ',H',I'.ofAt I.ok,q⟩
section
variable{P:Ae}{w:Ag}{K:F__}{mg:Str->Option Aa}{base:Heap}{N:List Str}{qual:Str}{scope:Scope}{f:Addr}{cd:Aa}{A:Ah}{outer:List Env}{s:Ac}{H:Hp}{E:XK}
theorem raises2:cT' (cxOf (CX2 P w) P w K mg base N qual scope f cd A outer s H E) E:=by
 intro pins σ H1 s1 h' e cls vs I hx hE;have ff:=PySem.W.funFrames_hide (as:=frs (cxOf (CX2 P w) P w K mg base N qual scope f cd A outer s H E).stack) I.stack (λenv he b hb=>aB'.mpr ⟨env,he,hb⟩);obtain⟨t,he,_⟩:=hx.there;refine eD_ (s:={ s1 with heap:=h' }) (base:=PySem.W.hideAll s1.heap (frs (cxOf (CX2 P w) P w K mg base N qual scope f cd A outer s H E).stack)) (dd:=none) I.ok.frames rfl (λb o q=>hx.keeps _ _ (PySem.W.of_hideAll _ q)) (d_9 (λb o q _=>⟨o,hx.keeps _ _ q,rfl⟩) ff) ?_ he rfl rfl rfl rfl rfl λh1 fl up=>?_
 ·cases q:(PySem.W.hideAll s1.heap (frs (cxOf (CX2 P w) P w K mg base N qual scope f cd A outer s H E).stack)).get? e with
  |none=>rfl
  |some o=>
   have:=PySem.W.of_hideAll _ q;rw[hx.new] at this;cases this
 ·exact en_ (s1:={ s1 with heap:=h1 }) I rfl rfl I.bare Un.refl I.hok (λb o q hb _=>e_2 _ q hb) ff ((Heap.UpToSlots.of_keeps hx.keeps).trans up) fl hE
end
inductive dq' (K:F__) (xs:List V) (H:Hp) (Q:VK):Prop
 |mk:∀a C dd c cv b,xs=[.ref a,c]->clsV c=some cv->H a=some (exq a C dd)->ExcK K C->PySem.W.kitOne K (.ref C) cv=some b->Q (.bl b) H->dq' K xs H Q
theorem bD_:bB' X (.builtin "isinstance") (dq' X.K):=by
 intro pins s σ H xs us Q I r h;obtain⟨a,C,dd,c,cv,b,rfl,hc,ha,k,e,q⟩:=h;obtain⟨u,w',rfl,ru,rw'⟩:=vals2 r;cases (show u=Value.ref a from ru);cases jK_ rw' hc;obtain⟨o,vs,h1,h2,_⟩:=(I.hok a _ ha).1;exact d_8 (js_ k) I.kIn ⟨o,h1,h2⟩ e nofun λtk=>⟨.bl b,H,I.tok tk,rfl,q⟩
theorem eJ_:entryFor table "proto.unchain"=some Builtin.«proto.unchain»:=entryFor_of_tree (by kernel_rfl)
def IsExc(h:Heap)(C:Addr):Prop:=∃nm q N bs bm hdct sn sub ab col dd k0 k1 k2 k3 k5 newId,h.get? C=some (excClassObj nm q C N bs bm hdct sn sub ab col dd k0 k1 k2 k3 k5 newId)/\bm.contains (Value.type "BaseException")=true
variable{e:Addr}{E Q:Aa->Ac->Prop}{A:Ah}
theorem fh_{M:Model}{msg:Ai}(x:IsExc s.heap C)(he:s.heap.get? e=some oe)(hc:oe.cls=.ref C)(hd:oe.data=Data.fields vs)(h:Q (.ref e) s):wpAny M A (excFromValue (.ref e) msg) Q E s:=by
 obtain⟨nm,q,N,bs,bm,hdct,sn,sub,ab,col,dd,k0,k1,k2,k3,k5,newId,hC,hbase⟩:=x;have hcB:(Value.ref C::bm).contains (Value.type "BaseException")=true:=by rw[List.contains_cons,hbase,Bool.or_true]
 have L0:Looks M s.heap (typeOf (.ref e)) (.ref C):=hc▸(Looks.ld he).andThen .now
 have Li:Looks M s.heap (isType (.ref e)) false:=by
  unfold isType loadHead;refine (Looks.ld he).andThen ?_;rw[hd];exact .now
 obtain⟨hp,g,d,tk,os⟩:=s;unfold excFromValue isExcClass;refine a__ (a__ (Li.at (wpAny_ite_false rfl (a_2 (wpAny_ite_false rfl ?_)))));unfold isInstance;refine a__ (a__ (L0.at (wpAny_isSubtype_exc hC ?_)));rw[hcB];exact wpAny_ite_true rfl (a_2 h)
variable{prog:Ae}{w:Ag}{a:Addr}
theorem fm_{oa:Obj}{ws:Array Aa}{v:Aa}(ha:s.heap.get? a=some oa)(hd:oa.data=Data.fields ws)(h2:ws[2]? = some Value.none)(h:Q .none s):wpAny (model prog w) A (runValue (.builtin "proto.unchain" ⟨[v,.ref a,.ref a,.bool false],[]⟩)) Q E s:=by
 refine wpAny_runValue (codeAny_builtin eJ_ ?_);unfold Builtin.«proto.unchain»;refine a__ (d_3 ha hd h2 ?_);rw[b_0 Z2];exact a_2 h
variable{CT:Addr}{env:Env}
theorem h3_{x c:Sem Aa}{CA:Addr}{Q:Flow->Ac->Prop}(hh:A.handled=some (.ref a))(h:wpAny (model prog w) A x (λv s₁=>wpAny (model prog w) A c (λu s₂=>∃e oe vs oa ws,v=Value.ref e/\u=Value.ref a/\e≠a/\IsExc s₂.heap CT/\IsExc s₂.heap CA/\s₂.heap.get? e=some oe/\oe.cls=.ref CT/\oe.data=Data.fields vs/\vs[1]? = some Value.none/\vs.size=6 /\
   s₂.heap.get? a=some oa/\oa.cls=.ref CA/\oa.data=Data.fields ws/\ws[2]? = some Value.none/\e≠CT /\
   ∀h' oe' vs',h'.get? e=some oe'->oe'.cls=oe.cls->oe'.dict=oe.dict->oe'.data=Data.fields vs'->vs'[1]? = some Value.none->vs'[2]? = some (Value.ref a)->Heap.SameBut e s₂.heap h'->E (.ref e) { s₂ with heap:=h' }) E s₁) E s) :
  wpAny (model prog w) A (raiseStmt env (some x) (some c)) Q E s:=by
 unfold raiseStmt;refine a__ (c_7 h (λv s₁ h₁=>?_) λ_ _ z=>z);refine a__ (c_4 (c_7 h₁ (λu s₂ ⟨e,oe,vs,oa,ws,ev,eu,nea,xT,xA,he,hc,hd,h1,h6,ha,hca,hda,ha2,neC,hE⟩=>a__ (a_2 ?_)) λ_ _ z=>z));subst ev eu;refine a__ (c_4 (fh_ xT he hc hd ?_));dsimp only;rw[a_8 Z2];refine a__ (c_4 (fh_ xA ha hca hda ?_));refine a__ (e_0 (i:=3) he hd (by rw[h6];decide) ?_);have d3:=d_4 hd λy=>y.setIfInBounds 3 (Value.ref a);have e3:=c_6 (Obj.mapFields λy=>y.setIfInBounds 3 (Value.ref a)) he (c_9 d3);have s3:=Heap.SameBut.update s₂.heap e (Obj.mapFields λy=>y.setIfInBounds 3 (Value.ref a))
 have c3:((Obj.mapFields λy=>y.setIfInBounds 3 (Value.ref a)) oe).cls=oe.cls/\((Obj.mapFields λy=>y.setIfInBounds 3 (Value.ref a)) oe).dict=oe.dict:=by
  obtain⟨c,dt,da,sl⟩:=oe;have:da=Data.fields vs:=hd;subst this;exact⟨rfl,rfl⟩
 refine a__ (e_0 (i:=4) e3 d3 (by rw[Array.size_setIfInBounds,h6];decide) ?_);have d4:=d_4 d3 λy=>y.setIfInBounds 4 (Value.bool true);have e4:=c_6 (Obj.mapFields λy=>y.setIfInBounds 4 (Value.bool true)) e3 (c_9 d4);have s4:=s3.trans (Heap.SameBut.update (s₂.heap.update e (Obj.mapFields λy=>y.setIfInBounds 3 (Value.ref a))) e (Obj.mapFields λy=>y.setIfInBounds 4 (Value.bool true)))
 have c4:((Obj.mapFields λy=>y.setIfInBounds 4 (Value.bool true)) ((Obj.mapFields λy=>y.setIfInBounds 3 (Value.ref a)) oe)).cls=oe.cls/\((Obj.mapFields λy=>y.setIfInBounds 4 (Value.bool true)) ((Obj.mapFields λy=>y.setIfInBounds 3 (Value.ref a)) oe)).dict=oe.dict:=by
  obtain⟨c,dt,da,sl⟩:=oe;have:da=Data.fields vs:=hd;subst this;exact⟨rfl,rfl⟩
 generalize hvs:(vs.setIfInBounds 3 (Value.ref a)).setIfInBounds 4 (Value.bool true)=vs4 at d4
 have v1:vs4[1]? = some Value.none:=by
  rw[<- hvs,Array.getElem?_setIfInBounds_ne (by decide),Array.getElem?_setIfInBounds_ne (by decide)];exact h1
 have z4:vs4.size=6:=by rw[<- hvs];simp[h6]
 generalize (Obj.mapFields λy=>y.setIfInBounds 4 (Value.bool true)) ((Obj.mapFields λy=>y.setIfInBounds 3 (Value.ref a)) oe)=o4 at d4 e4 c4;dsimp only at s4 e4 ⊢;generalize (s₂.heap.update e (Obj.mapFields λy=>y.setIfInBounds 3 (Value.ref a))).update e (Obj.mapFields λy=>y.setIfInBounds 4 (Value.bool true))=h4 at s4 e4 ⊢
 have hCT4:IsExc h4 CT:=by
  obtain⟨nm,q,N,bs,bm,hdct,sn,sub,ab,col,dd,k0,k1,k2,k3,k5,newId,g1,g2⟩:=xT;exact⟨nm,q,N,bs,bm,hdct,sn,sub,ab,col,dd,k0,k1,k2,k3,k5,newId,(s4.2 CT neC.symm).trans g1,g2⟩
 have ha4:=(s4.2 a nea.symm).trans ha;obtain⟨nm,q,N,bs,bm,hdct,sn,sub,ab,col,dd,k0,k1,k2,k3,k5,newId,hC,hbase⟩:=hCT4;have L0:Looks (model prog w) h4 (typeOf (.ref e)) (.ref CT):=(c4.1.trans hc)▸(Looks.ld e4).andThen .now;have Lc:Looks (model prog w) h4 (typeOf (.ref CT)) (.type "type"):=(Looks.ld hC).andThen .now
 have Li:Looks (model prog w) h4 (isType (.ref e)) false:=by
  unfold isType loadHead;refine (Looks.ld e4).andThen ?_;rw[d4];exact .now
 refine a__ (Li.at (wpAny_ite_false rfl (a__ ?_)));unfold raisedInstance;refine a__ (L0.at (a__ (Lc.at (wpAny_ite_true rfl (a_2 ?_)))));unfold setFlight;refine a__ (a__ (d_3 e4 d4 v1 (wpAny_ite_false rfl (a_2 ?_))));unfold raiseNew;refine a__ (wpAny_handled ?_);rw[hh];dsimp only;rw[b_0 (by simpa using nea.symm)];refine a__ (c_4 (fm_ ha4 hda ha2 ?_));refine a__ (e_0 (a:=e) (i:=2) e4 d4 (by rw[z4];decide) (wpAny_throw ?_));have d5:=d_4 d4 λy=>y.setIfInBounds 2 (Value.ref a);have e5:=c_6 (Obj.mapFields λy=>y.setIfInBounds 2 (Value.ref a)) e4 (c_9 d5)
 have c5:((Obj.mapFields λy=>y.setIfInBounds 2 (Value.ref a)) o4).cls=o4.cls/\((Obj.mapFields λy=>y.setIfInBounds 2 (Value.ref a)) o4).dict=o4.dict:=by
  obtain⟨c,dt,da,sl⟩:=o4;have:da=Data.fields vs4:=d4;subst this;exact⟨rfl,rfl⟩
 exact hE _ _ _ e5 (c5.1.trans c4.1) (c5.2.trans c4.2) d5 (by rw[Array.getElem?_setIfInBounds_ne (by decide)];exact v1) (by simp[z4]) (s4.trans (Heap.SameBut.update _ _ _))
variable{base:Heap}
theorem FlC.d{cls cx:Aa}(f:FlC base l e cls cx Value.none h):∃a0,bv' base l e cls a0 none h:=by
 obtain⟨f1,f2,f3,oe,vs,T,oT,ts,he,⟨hc,hdd⟩,hd,h1,h2,hnT,hTe,hT,hdT,h3⟩:=f;have z:0<vs.size:=ar' (by decide) (aE'.mp h2).1;exact⟨vs[0],f1,f2,f3,oe,vs,T,oT,ts,he,⟨hc,Array.getElem?_eq_getElem z⟩,hd,h1,hnT,hTe,hT,hdT,h3,hdd⟩
variable{H:Hp}
theorem lw_{v:V}(I:Inv X pins σ H s)(hN:X.N[i]? = some x)(hl:X.env.scope.names.lookup x=some .local)(hσ:σ[i]? = some (some v))(h:∀u,RelV v u->Q u s)(hd:(x == ("__debug__":Str))=false:=by decide)(hcd:(x == ("__classdict__":Str))=false:=by decide):wpAny (model X.prog X.w) X.A (eval (.Name x pos) X.env) Q E s:=by
 obtain⟨m,hn,hl'⟩:=I.loc;obtain⟨u,r,l⟩:=hl' i x v hN hσ (.inl hl);have fin:=h u r;rcases l with⟨hk,hm⟩|⟨hk,c,hc,hcell⟩
 ·exact wpAny_Name (wpAny_loadName_local I.ok.kind hk hn hm fin) hd
 ·rcases hk with hk|hk
  ·exact wpAny_Name (wpAny_loadName_cell I.ok.kind hk hc hcell fin) hd
  ·exact wpAny_Name (wpAny_loadName_free I.ok.kind hk hc hcell fin hcd) hd
variable{E:XK}{s1:Ac}{B:Heap}
theorem hc_{T:Addr}{a0:Aa}(I:Inv X pins σ H s)(hex:X.ex=[])(hfs:X.fs=frs X.outer)(hst:X.stack=X.env::X.outer)(he:H e=none)(hT:H T=none)(ne:X.s₀.heap.get? e=none)(nT:X.s₀.heap.get? T=none)(os:s1.os=s.os)(bare:AllBare s1.gens)(hB:B=PySem.W.hideAll s.heap (e::T::frs X.stack))(up:s.heap.UpToSlots s1.heap)(fl:bv' B X.outer e (.ref C) a0 dd s1.heap)(hE:E (.ref C) dd H):CX2 X.prog X.w X.outer X.H₀ X.s₀ E (.ref e) s1:=by
 have un:=I.base;rw[hex,hfs] at un;have hok:=I.hok
 have fso:∀b∈frs X.outer,H b=none:=λb hb=>by
  refine I.stkFree b ?_;rw[hst];obtain⟨v,hv,e⟩:=aB'.mp hb;exact aB'.mpr ⟨v,ai' _ hv,e⟩
 have i:InB B X.outer H X.s₀.heap s.heap:=λb o q hb c=>by
  rw[hB]
  have nL:b≠X.env.locals:=by
   rcases c with z|⟨o0,z⟩
   ·intro y;rw[y,I.free] at z;cases z
   ·exact av' (ar' (a_6 z) I.ok.above)
  refine e_2 _ q λhm=>?_;rcases ah'.mp hm with z|hm
  ·rcases c with y|⟨o0,y⟩
   ·rw[z,he] at y;cases y
   ·rw[z,ne] at y;cases y
  rcases ah'.mp hm with z|hm
  ·rcases c with y|⟨o0,y⟩
   ·rw[z,hT] at y;cases y
   ·rw[z,nT] at y;cases y
  ·rcases ah'.mp (I.stkSub b hm) with z|z
   ·exact nL z
   ·exact hb (hfs▸z)
 have ff:s.heap.FunFrames B X.outer:=by
  have z:=PySem.W.funFrames_hide (as:=e::T::frs X.stack) I.stack (λenv he b hb=>ai' _ (ai' _ (aB'.mpr ⟨env,he,hb⟩)));rw[<- hB,hst] at z;exact z.2.2
 exact⟨e,_,_,B,a0,dd,rfl,os.trans I.os,bare,bu_ un ff i fl.1 up,bf_ hok fso i fl.1,fl,bL_ hok un i fl.1,hE⟩
def dn'(X:Cx)(E:XK):Prop:=∀(pins:List (Addr × Obj)) (σ:St) (H:Hp) (s s':Ac) (e T C:Addr) (cx:Aa),Inv X pins σ H s->H e=none->H T=none->X.s₀.heap.get? e=none->X.s₀.heap.get? T=none->s'.os=s.os->AllBare s'.gens->FlC (PySem.W.hideAll s.heap (e::T::frs X.stack)) X.stack e (.ref C) cx (rawInt X.env.locals) s'.heap->s.heap.UpToSlots s'.heap->E (.ref C) none H->X.xe (.ref e) s'
variable{P:Ae}{K:F__}{mg:Str->Option Aa}{N:List Str}{qual:Str}{scope:Scope}{f:Addr}{cd:Aa}{outer:List Env}
theorem raisesT:dn' (cxOf (CX2 P w) P w K mg base N qual scope f cd A outer s H E) E:=by
 intro pins σ H1 s1 s' e T C cx I he hT ne nT os bare fl up hE;show wpAny _ _ (leaving _ _) _ _ _;unfold leaving;refine a__ (c7_ rfl fl (setE (fr:=none) fl λh1 f1 up1=>?_));obtain⟨a0,fd⟩:=FlC.d (FlC.less f1);exact hc_ (s1:={ s' with heap:=h1 }) I rfl rfl rfl he hT ne nT os bare rfl (up.trans up1) fd hE
variable{st:Stmt}{fd:Af}{ps:List Str}{k:Nat}{sp:Sp}
theorem Fun.okT(F:Fun K x qual st f fd)(S:ba' N ps (a9' st))(len:∀vs H Q E,sp vs H Q E->vs.length=ps.length)(hbody:∀(cdv:Aa) (A:Ah) (outer:List Env) (s:Ac) (H:Hp) (vs:List V) (Q:VK) (E:XK),Room k (A.deeper (envOfC qual (a9' st) s.heap.objs.size f cdv))->sp vs H Q E->
   bx' (CX2 P w) (cxOf (CX2 P w) P w K mg base N qual (a9' st) f cdv A outer s H E) E->dn' (cxOf (CX2 P w) P w K mg base N qual (a9' st) f cdv A outer s H E) E->cT' (cxOf (CX2 P w) P w K mg base N qual (a9' st) f cdv A outer s H E) E->
   ∃t,PSs (cxOf (CX2 P w) P w K mg base N qual (a9' st) f cdv A outer s H E) (br' st) t/\t { nx:=λ_ H'=>Q .non H',rt:=Q } (start N vs) H):FnOk P w K mg base (CX2 P w) (k+1) f fd ps sp:=by
 obtain⟨oc,od,kV,doc,pm,an,cdv,ct,osl,rfl,lk,hcd⟩:=F.ex;refine lg_ lk hcd S len λA outer s H vs Q E hr hsp=>?_;obtain⟨t,h,q⟩:=hbody cdv A outer s H vs Q E hr hsp passes2 raisesT raises2;exact⟨t,h,q⟩
theorem Fun.okTA(F:Fun K x qual st f fd)(S:ba' N ps (a9' st))(hbody:∀(cdv:Aa) (A:Ah) (outer:List Env) (s:Ac) (H:Hp) (vs:List V) (Q:VK) (E:XK),Room k (A.deeper (envOfC qual (a9' st) s.heap.objs.size f cdv))->sp vs H Q E->
   bx' (CX2 P w) (cxOf (CX2 P w) P w K mg base N qual (a9' st) f cdv A outer s H E) E->dn' (cxOf (CX2 P w) P w K mg base N qual (a9' st) f cdv A outer s H E) E->cT' (cxOf (CX2 P w) P w K mg base N qual (a9' st) f cdv A outer s H E) E->
   ∃t,PSs (cxOf (CX2 P w) P w K mg base N qual (a9' st) f cdv A outer s H E) (br' st) t/\t { nx:=λ_ H'=>Q .non H',rt:=Q } (start N vs) H)(len:∀vs H Q E,sp vs H Q E->vs.length=ps.length:=by intro vs H Q E h;first|(cases h;subst_vars;rfl)|(obtain⟨rfl,_⟩:=h;rfl)|(obtain⟨_,rfl,_⟩:=h;rfl)|(obtain⟨_,_,rfl,_⟩:=h;rfl)|(obtain⟨_,_,_,rfl,_⟩:=h;rfl)|(obtain⟨_,_,_,_,rfl,_⟩:=h;rfl)):FnOk P w K mg base (CX2 P w) (k+1) f fd ps sp:=F.okT S len hbody
variable{E:Aa->Ac->Prop}{B initId newId:Ai}{N:Addr}{cpos:Pos}{nm q:Str}{bm bmB bs sub:List Aa}{ab hdct:Bool}{sn:List Str}{col:Option Bool}{k0 k1 k2 k3 k5:Option Aa}
theorem j6_(F:ExcBaseFacts B newId initId bmB){mN:Str->Option Aa}{args:List Expr}(hplain:(backTo cpos (starEach args env)).any (·.1)=false)(hni:mN "__init__"=none)(h:wpAny (model prog w) A (eval (.Name x np) env) (λf s₁=>f=.ref C/\wpAny (model prog w) A (evalArgs (.ref C) true (backTo cpos (starEach args env)) [])
   (λa s₂=>a.kw=[]/\a.pos.length<=sizeLine/\s₂.heap.get? C=some (excClassObj nm q C N bs bm hdct sn sub ab col dd k0 k1 k2 k3 k5 newId)/\s₂.heap.Ns N mN/\OwnTail s₂.heap bmB bm /\
    ∀h' e,Heap.MadeExcOf s₂.heap h' e (.ref C) a.pos->Q (.ref e) { s₂ with heap:=h' }) E s₁) E s) :
  wpAny (model prog w) A (eval (.Call (.Name x np) args [] cpos) env) Q E s:=by
 refine wpAny_Call_ofName (c_7 h (λf s₁ h₁=>?_) λ_ _ y=>y);obtain⟨rfl,h₁⟩:=h₁;unfold callWith;refine a__ (c_4 (c_7 h₁ (λa s₂ h₂=>a__ (wpAny_standAt ?_)) λ_ _ y=>y));obtain⟨apos,akw⟩:=a;obtain⟨hkw,hlen,hC,hn,T,h₂⟩:=h₂;obtain rfl:akw=[]:=hkw;obtain⟨hp,g,d,tk,os⟩:=s₂;simp only[hplain];refine a__ (wpAny_keeperOf_exc hC ?_);exact a__ (wpAny_call_exc_subT (hrest:=hlen) F T hC hn hni λh' e hm=>a__ (c_4 (wpAny_point (a_2 (h₂ h' e hm)))))
theorem gw_(X:K.In h)(q:PySem.W.excIn K C bmV "ValueError.__new__"=true):IsExc h C:=by
 obtain⟨bm,N,nm,q,bs,hdct,sn,sub,ab,col,dd,k0,k1,k2,k3,k5,mN,hC,_,_,T⟩:=(hO_ (x:="") (mg:=λ_=>some (.ref C)) X rfl q).obj;exact⟨nm,q,N,bs,bm,hdct,sn,sub,ab,col,dd,k0,k1,k2,k3,k5,_,hC,T.hasType PySem.F.excBase_ValueError.hasBase⟩
theorem Inv.more{ps:List (Addr × Obj)}(I:Inv X pins σ H s)(h:∀p∈ps,s.heap.get? p.1=some p.2/\H p.1=none/\p.1≠X.env.locals/\p.1∉X.fs/\∀v,p.2.data≠.cell v):Inv X (pins++ps) σ H s:=
 ⟨I.ok,I.os,I.bare,I.base,I.loc,I.cell,I.free,I.freeC,λp hp=>by
  rw[<- a2'] at hp;rcases am'.mp hp with z|z
  ·exact I.pin p z
  ·exact h p z,I.hok,I.len⟩
def XF(C CT:Addr)(t:TA)(E:XK):XK:=λcls _ H'=>cls=.ref C/\∀σ:St,t σ H' λvs H1=>vs.length<=sizeLine/\E (.ref CT) none H1
def tTryF(C CT:Addr)(tb:XK->TS)(t:TA)(E:XK):TS:=λD σ H=>tb (XF C CT t E) D σ H
variable{E:XK}{xT:Str}{np2 np3 rpos:Pos}{e₀:Expr}{t:TA}
theorem gd_{e:Aa}(hN:X.N.Nodup)(hi:X.N[i]? = some n)(hl:X.env.scope.names.lookup n=some .local)(hst:X.stack=X.env::X.outer)(hfr:X.env.frame=some X.env.locals)(hex:X.ex=[])(hg:Gl X x)(hm:X.mg x=some (.ref D))(hx:PySem.W.exmOne X.K (.ref C) (.ref D)=some true)(RT:dn' X E)(hgT:Gl X xT)(hmT:X.mg xT=some (.ref CT))(qT:PySem.W.excIn X.K CT bmV "ValueError.__new__"=true)(qA:PySem.W.excIn X.K C bmV "ValueError.__new__"=true)(ha:∀a,PA (X.inX a).nox [e₀] t)(I:Inv X pins σ H s)(hc:CX1 X.prog X.w X.stack H s (XF C CT t E) e s')(hd:(x == ("__debug__":Str))=false:=by decide)(hdT:(xT == ("__debug__":Str))=false:=by decide)(hdn:(n == ("__debug__":Str))=false:=by decide)(hcn:(n == ("__classdict__":Str))=false:=by decide)(he:starEach [e₀] X.env=(false,eval e₀ X.env)::starEach [] X.env:=by rfl)(hpl:(backTo cpos (starEach [e₀] X.env)).any (·.1)=false:=by rfl) :
  wpAny (model X.prog X.w) X.A (noteFrame e X.env) (λ_ s₂=>wpAny (model X.prog X.w) X.A (setFlight e none) (λ_ s₃=>
   wpAny (model X.prog X.w) X.A (handleBy e X.env [.ExceptHandler (some (.Name x np)) (some n) [.Raise (some (.Call (.Name xT np2) [e₀] [] cpos)) (some (.Name n np3)) rpos] hpos]) (SP X pins R) X.xe s₃) X.xe s₂) X.xe s':=by
 obtain⟨a,cls,H',B,a0,rfl,os,bare,un,hok,⟨_,fl⟩,i',rfl,hE⟩:=hc;have fr:=cl_ I un;have ff:=fl.2.2.1;refine noteE (base:=B) (outer:=X.outer) (by rw[I.ok.frames,hst]) hfr (by rw[<- hst];exact fl) λh₄ f4 up4=>?_;refine setE (fr:=none) f4 λh₅ fl5 up5=>?_;rw[<- hst] at fl5;have up45:=up4.trans up5;have un5:=bu_ un ff i' fl5.1 up45;have hok5:=bf_ hok fr i' fl5.1;have in5:=bL_ hok un i' fl5.1;have I5:Inv X pins σ H' { s' with heap:=h₅ }:=I.call' (s':={ s' with heap:=h₅ }) os un5 hok5 bare (λb z=>absurd z Z2);have J5:=I5.inX a;obtain⟨oe,vs5,he5,hce,_⟩:=fl5.obj;refine wpAny_handleBy_cons (codeAny_handlers_test (cC_ (X:=X.inX a) J5 hg hm ?_ hd)) (by intro q;cases q);refine (PySem.W.exm_one (K:=X.K) J5.kIn (by subst_eqs;exact hce▸(PySem.W.Looks.ld he5).andThen .now) hx).at ?_;refine codeAny_handlers_suite_as ?_;refine setE (fr:=none) (base:=B) (by exact fl5) λh₆ fl6 up6=>?_;have ff5:=fl5.2.2.1;have un6:=bu_ un5 ff5 in5 fl6.1 up6;have hok6:=bf_ hok5 fr in5 fl6.1;have in6:=bL_ hok5 un5 in5 fl6.1;have I6:Inv X pins σ H' { s' with heap:=h₆ }:=I.call' (s':={ s' with heap:=h₆ }) os un6 hok6 bare (λb z=>absurd z Z2);obtain⟨ox,vs,hx6,hcx,hdx,hddx,hv2⟩:=fl6.obj
 have nfr:a∉frs X.stack:=λhm=>by
  obtain⟨_,o,ho,d⟩:=fl6.2.2.1.mem hm;have ho:h₆.get? a=some o:=ho;rw[hx6] at ho;cases ho;exact d _ hdx
 have nB:B.get? a=none:=fl6.2.1
 have nH:H' a=none:=by
  cases q:H' a with
  |none=>rfl
  |some u=>
   have z:=in6 a ox hx6 nfr (.inl (by rw[q];rfl));rw[nB] at z;cases z
 have nS:s.heap.get? a=none:=by
  cases q:s.heap.get? a with
  |none=>rfl
  |some u=>
   have z:=in6 a ox hx6 nfr (.inr ⟨u,q⟩);rw[nB] at z;cases z
 have locIn:X.env.locals∈frs X.stack:=by
  rw[hst];exact aB'.mpr ⟨X.env,aq',hfr⟩
 have s0n:∀{b:Addr} {s2:Ac} {p2:List (Addr × Obj)} {σ2:St} {H2:Hp},Inv X p2 σ2 H2 s2->s2.heap.get? b=none->X.s₀.heap.get? b=none:=λ{b s2 p2 σ2 H2} I2 z=>by
  cases q:X.s₀.heap.get? b with
  |none=>rfl
  |some o=>
   obtain⟨o',y⟩:=I2.base.there b o q (by rw[hex];simp);rw[z] at y;cases y
 have nfs:∀{b:Addr},X.s₀.heap.get? b=none->b∉X.fs:=λ{b} z hb=>by
  obtain⟨_,o,ho,_⟩:=I.ok.funs.mem hb;rw[z] at ho;cases ho
 have I6p:Inv X (pins++[(a,ox)]) σ H' { s' with heap:=h₆ }:=I6.more λp hp=>by
  obtain rfl:=aN'.mp hp;exact⟨hx6,nH,λz=>nfr ((show a=_ from z)▸locIn),nfs (s0n I nS),λv z=>by rw[hdx] at z;cases z⟩
 refine dl_ (X:=X.inX a) (v:=.ref a) (I6p.inX a) hN hi (.inl hl) rfl (λs8 I8=>?_) (.inr hl)
 have hσ:(σ.set i (some (.ref a)))[i]? = some (some (.ref a)):=by
  rw[List.getElem?_set_self];rw[I.len];exact (ab'.mp hi).1
 refine wpAny_execs_cons ?_;rw[arm_exec_Raise];show wpAny _ _ (do standAt rpos;raiseStmt X.env (some (do let v <- eval (.Call (.Name xT np2) [e₀] [] cpos) X.env;standAt rpos;pure v)) (some (do let v <- eval (.Name n np3) X.env;standAt rpos;pure v))) _ _ _;refine a__ (wpAny_standAt (h3_ (a:=a) (CT:=CT) (CA:=C) rfl ?_));have O:=hO_ I8.ok.mod.kin hmT qT;obtain⟨tl,N,nm,qn,bs,hdct,sn,sub,ab,col,dd,k0,k1,k2,k3,k5,mN,hC,hNN,hni,TT⟩:=O.obj;refine a__ (c_7 (j6_ (C:=CT) (nm:=nm) (q:=qn) (N:=N) (bs:=bs) (bm:=tl) (hdct:=hdct) (sn:=sn) (sub:=sub) (ab:=ab) (col:=col) (dd:=dd) (k0:=k0) (k1:=k1) (k2:=k2) (k3:=k3) (k5:=k5) a_9 (mN:=mN) hpl hni (cC_ (X:=X.inX a) I8 hgT O.bound ⟨rfl,?_⟩ hdT)) (λv s₁ q=>a__ (wpAny_standAt (a_2 q))) λ_ _ y=>y);have ha':=ha a cpos (pins++[(a,ox)]) s8 _ _ _ (I8.wish _) (hE (σ.set i (some (.ref a))));rw[he] at ha' ⊢;refine Calls.evalArgs_plain (c_7 ha' (λus s₂ ⟨vs',H1,I1,r,z,q⟩=>⟨rfl,by rw[<- r.length];exact z,I1.bk _ _ hC,hNN.keeps I1.bk,TT.keeps I1.bk,λh' e2 hm2=>?_⟩) λ_ _ y=>False.elim y);have I1:=I1.unwish;have I1x:Inv X (pins++[(a,ox)]) (σ.set i (some (.ref a))) H1 s₂:=I1.outX I.ok;have ha2:s₂.heap.get? a=some ox:=(I1.pin (a,ox) Z2).1;have na2:H1 a=none:=(I1.pin (a,ox) Z2).2.1;obtain⟨t2,he2,_,_⟩:=hm2.there;have ne2:=hm2.new
 have nHe:H1 e2=none:=by
  cases q:H1 e2 with
  |none=>rfl
  |some u=>
   obtain⟨u',y⟩:=(I1.hok e2 u q).here;rw[ne2] at y;cases y
 have e2a:e2≠a:=λy=>by rw[y,ha2] at ne2;cases ne2
 have e2C:e2≠CT:=λy=>by rw[y,I1.bk _ _ hC] at ne2;cases ne2
 have I2:Inv (X.inX a) (pins++[(a,ox)]) (σ.set i (some (.ref a))) H1 { s₂ with heap:=h' }:=I1.call' (s':={ s₂ with heap:=h' }) (ch:=[]) rfl (Un.kept hm2.keeps) (I1.hok.kept hm2.keeps) I1.bare (λb z=>absurd z Z2);refine a__ (lw_ (X:=X.inX a) I2 hi hl hσ (λu ru=>a__ (wpAny_standAt (a_2 ?_))) hdn hcn);obtain rfl:u=Value.ref a:=ru;refine⟨e2,_,_,ox,vs,rfl,rfl,e2a,gw_ I2.kIn qT,gw_ I2.kIn qA,he2,rfl,rfl,rfl,rfl,hm2.keeps _ _ ha2,hcx,hdx,hv2,e2C,λh7 oe7 vs7 g1 g2 g3 g4 g5 g6 sb=>?_⟩
 have keep7:∀b o,s₂.heap.get? b=some o->h7.get? b=some o:=λb o y=>by
  rw[sb.2 b (λz=>by rw[z,ne2] at y;cases y)];exact hm2.keeps b o y
 have un7:Un (frs X.stack) [] H1 H1 s₂.heap h7:=Un.kept keep7;have hok7:HOk X.prog X.w H1 h7:=I1.hok.kept keep7;have I7:Inv X (pins++[(a,ox)]) (σ.set i (some (.ref a))) H1 { s₂ with heap:=h7 }:=I1x.call' (s':={ s₂ with heap:=h7 }) (ch:=[]) rfl un7 hok7 I1.bare (λb z=>absurd z Z2);have ff7:h7.FunFrames (PySem.W.hideAll h7 (e2::frs X.stack)) X.stack:=PySem.W.funFrames_hide (as:=e2::frs X.stack) I7.stack (λenv he b hb=>ai' _ (aB'.mpr ⟨env,he,hb⟩))
 have in7:InB (PySem.W.hideAll h7 (e2::frs X.stack)) X.stack H1 s₂.heap h7:=λb o y hb c=>e_2 _ y λhm=>by
  rcases ah'.mp hm with z|z
  ·rcases c with c|⟨o0,c⟩
   ·rw[z,nHe] at c;cases c
   ·rw[z,ne2] at c;cases c
  ·exact hb z
 have frS:X.A.frames=some (X.env::X.outer):=by rw[I.ok.frames,hst]
 have fr1:=cl_ I1x un7;unfold noteFrame;rw[hfr];dsimp only;refine a__ (d_3 g1 g4 g5 ?_);rw[a_8 Z2];refine entryE (base:=PySem.W.hideAll h7 (e2::frs X.stack)) (outer:=X.outer) (s:={ s₂ with heap:=h7 }) frS (by rw[<- hst];exact ff7) hfr g1 (λb o y=>PySem.W.of_hideAll _ y) (PySem.W.hideAll_none _ aq') g4 g3 g6 λh9 fl9 up9=>?_;rw[<- hst] at fl9;rw[g2] at fl9;have I9:Inv X (pins++[(a,ox)]) (σ.set i (some (.ref a))) H1 { s₂ with heap:=h9 }:=I1x.call' (s':={ s₂ with heap:=h9 }) (ch:=[]) rfl (bu_ un7 ff7 in7 fl9.1 up9) (bf_ hok7 fr1 in7 fl9.1) I1.bare (λb z=>absurd z Z2);obtain⟨q1,q2,q3,o9,v9,T,oT,ts,k1,⟨kc,kd⟩,k2,k3,k4,k5',k6,k7,k8,k9⟩:=id fl9
 have nT2:s₂.heap.get? T=none:=by
  cases y:s₂.heap.get? T with
  |none=>rfl
  |some o=>
   have y7:=keep7 T o y
   have hT:T∉e2::frs X.stack:=λhm=>by
    rcases ah'.mp hm with z|z
    ·exact k6 z
    ·obtain⟨_,o',ho',d'⟩:=q3.mem z;rw[k7] at ho';cases ho';exact d' _ k8
   rw[e_2 _ y7 hT] at k5';cases k5'
 have nHT:H1 T=none:=by
  cases y:H1 T with
  |none=>rfl
  |some u=>
   obtain⟨u',z⟩:=(I1.hok T u y).here;rw[nT2] at z;cases z
 have e0:=s0n I1x ne2;have T0:=s0n I1x nT2
 have I9p:Inv X ((pins++[(a,ox)])++[(e2,o9),(T,oT)]) (σ.set i (some (.ref a))) H1 { s₂ with heap:=h9 }:=I9.more λp hp=>by
  have lo:∃o,s₂.heap.get? X.env.locals=some o:=by
   obtain⟨m,hn,_⟩:=I1x.loc;obtain⟨o,_,_,ho,_⟩:=hn;exact⟨o,ho⟩
  obtain⟨oL,hoL⟩:=lo;rcases ah'.mp hp with rfl|hp
  ·exact⟨k1,nHe,λz=>(by rw[show e2=X.env.locals from z,hoL] at ne2;cases ne2),nfs e0,λv z=>(by have z:o9.data=_:=z;rw[k2] at z;cases z)⟩
  ·obtain rfl:=aN'.mp hp;exact⟨k7,nHT,λz=>(by rw[show T=X.env.locals from z,hoL] at nT2;cases nT2),nfs T0,λv z=>(by have z:oT.data=_:=z;rw[k8] at z;cases z)⟩
 refine dI_ (X:=X) (A:=(X.inX a).A) I9p hN hi hl λs10 I10=>?_;have p1:s10.heap.get? e2=some o9:=(I10.pin (e2,o9) Z2).1;have p2:s10.heap.get? T=some oT:=(I10.pin (T,oT) Z2).1
 have hf10:FlC (PySem.W.hideAll s10.heap (e2::T::frs X.stack)) X.stack e2 (.ref CT) (.ref a) (rawInt X.env.locals) s10.heap:=
  ⟨λb o y=>PySem.W.of_hideAll _ y,PySem.W.hideAll_none _ aq',PySem.W.funFrames_hide (as:=e2::T::frs X.stack) I10.stack (λenv he b hb=>ai' _ (ai' _ (aB'.mpr ⟨env,he,hb⟩))),o9,v9,T,oT,ts,p1,⟨kc,kd⟩,k2,k3,k4,PySem.W.hideAll_none _ (ai' _ aq'),k6,p2,k8,k9⟩
 unfold PySem.passOn;refine a__ (d_3 p1 k2 k3 ?_);rw[a_8 Z2];rw[hfr];refine a__ (setE (fr:=some X.env.locals) hf10 λh11 f11 up11=>wpAny_throw ?_);unfold notedBy;refine c7_ hfr f11 ?_;show cameBackBy _ _ _ _ _ _;exact fe_ hfr f11 λh12 f12 up12=>RT _ _ _ s10 { s10 with heap:=h12 } e2 T CT (.ref a) I10 nHe nHT e0 T0 rfl I10.bare f12 (up11.trans up12) q
theorem fH_(hN:X.N.Nodup)(hi:X.N[i]? = some n)(hl:X.env.scope.names.lookup n=some .local)(hst:X.stack=X.env::X.outer)(hfr:X.env.frame=some X.env.locals)(hex:X.ex=[])
  (hg:Gl X x) (hm:X.mg x=some (.ref D)) (hx:PySem.W.exmOne X.K (.ref C) (.ref D)=some true) (RT:dn' X E) (hgT:Gl X xT) (hmT:X.mg xT=some (.ref CT)) (qT:PySem.W.excIn X.K CT bmV "ValueError.__new__"=true) (qA:PySem.W.excIn X.K C bmV "ValueError.__new__"=true) (ha:∀a,PA (X.inX a).nox [e₀] t)
  (hb:∀(E':XK) (W:Aa->Ac->Prop) (pn:List (Addr × Obj)),bx' (CX1 X.prog X.w) (X.atW W pn) E'->PSs (X.atW W pn) body (tb E')) (hd:(x == ("__debug__":Str))=false:=by decide) (hdT:(xT == ("__debug__":Str))=false:=by decide) (hdn:(n == ("__debug__":Str))=false:=by decide) (hcn:(n == ("__classdict__":Str))=false:=by decide)
  (he:starEach [e₀] X.env=(false,eval e₀ X.env)::starEach [] X.env:=by rfl) (hpl:(backTo cpos (starEach [e₀] X.env)).any (·.1)=false:=by rfl) :
  PS X (.Try body [.ExceptHandler (some (.Name x np)) (some n) [.Raise (some (.Call (.Name xT np2) [e₀] [] cpos)) (some (.Name n np3)) rpos] hpos] [] [] pos) (tTryF C CT tb t E):=by
 intro pins s σ H R I h;have hb':=hb (XF C CT t E) (λe s'=>∃σ H s,Inv X pins σ H s/\CX1 X.prog X.w X.stack H s (XF C CT t E) e s') (X.pn++pins) (λp2 σ2 H2 s2 e s' I2 hc=>⟨σ2,H2,s2,I2.ofAt I.ok,hc⟩);refine wpAny_Try_except (c_7 (hb' [] s σ H R (I.toAt _) h) (λf s1 q=>?_) λe s1 ⟨σ',H',s0,I0,hc⟩=>gd_ hN hi hl hst hfr hex hg hm hx RT hgT hmT qT qA ha I0 hc hd hdT hdn hcn he hpl);cases f with
 |next=>
  obtain⟨σ',H',I',q⟩:=q;exact wpAny_execs_nil ⟨σ',H',I'.ofAt I.ok,q⟩
 |ret v=>
  obtain⟨v',σ',H',I',r,q⟩:=q;exact⟨v',σ',H',I'.ofAt I.ok,r,q⟩
 |brk=>
  obtain⟨σ',H',I',q⟩:=q;exact⟨σ',H',I'.ofAt I.ok,q⟩
 |cont=>
  obtain⟨σ',H',I',q⟩:=q;exact⟨σ',H',I'.ofAt I.ok,q⟩
theorem FnOk.two{CX:CXT}{sp1 sp2:Sp}(F:FnOk P w K mg base CX k f fd ps sp1)(G:FnOk P w K mg base CX k f fd ps sp2)(h:∀vs H Q E,sp vs H Q E->sp1 vs H Q E∨sp2 vs H Q E):FnOk P w K mg base CX k f fd ps sp:=
 ⟨λvs H Q E q=>(h vs H Q E q).elim (F.len vs H Q E) (G.len vs H Q E),λA outer s H args us vs Q E hr e b v q=>(h vs H Q E q).elim (F.run A outer s H args us vs Q E hr e b v) (G.run A outer s H args us vs Q E hr e b v)⟩
end L2
namespace Ev
open PySem L2
structure GoodHs (hs:Xa):Prop where
 hok:∀h∈hs,goodH h
 hnd:(hs.map (·.1)).Nodup
 h1:1<=hs.length
 h8:hs.length<=8
structure eh' (ts:Xb):Prop where
 tok:∀t∈ts,cc' t
 tnd:(ts.map λt=>kT (ord2 t.1 t.2)).Nodup
variable{i:Nat}
theorem cN_{α:Type}{p:α->Prop}{xs:List α}{x:α}(h:∀y∈xs.take i,p y)(hx:xs[i]? = some x)(px:p x):∀y∈xs.take (i+1),p y:=λy hy=>by
 rw[aH',hx] at hy;rcases am'.mp hy with z|z
 ·exact h y z
 ·rw[show y=x by simpa using z];exact px
theorem fG_{α β:Type}{g:α->β}{xs:List α}{x:α}(h:((xs.take i).map g).Nodup)(hx:xs[i]? = some x)(nx:g x∉(xs.take i).map g):((xs.take (i+1)).map g).Nodup:=by
 rw[aq_ g hx,List.nodup_append];refine⟨h,by simp,λa ha b hb e=>?_⟩;rw[show b=g x by simpa using hb] at e;exact nx (e▸ha)
variable{fd:Af}{tk:Tok}
section
variable{P:Ae}{w:Ag}{K:F__}{mg:Str->Option Aa}{base:Heap}
def spStrT(K:F__)(CN:Addr):Sp:=λvs H _ E=>∃(l:Addr) (ys:List V) (hs:Xa),vs=[.ref l]/\H l=some (.lst ys)/\bb' K H ys (hs.map kH)/\(∀h∈hs,h.1.length<=100000)/\¬GoodHs hs/\∀H',Same H H'->E (.ref CN) none H'
theorem kS_{f CN:Addr}(F:Fun K "checked_strengths" "checked_strengths" sStr f fd)(B:Bi mg)(R:Ref K mg "NoWeb" CN)(cH:Cal P w K mg base 3 "is_hand_with_strength" ["thing"] eT')(mH:mg "MOST_HANDS"=some (.int 8 tk)):FnOk P w K mg base (CX1 P w) 4 f fd ["hands"] (spStrT K CN):=by
 refine F.okQA e7' λcdv A outer s H vs Q E hr h own ps rs=>?_
 ·obtain⟨l,ys,hs,rfl,hl,tu,ln,bad,k⟩:=h;have hu:=br_ hr;have sz:=b__;have le:=a_1 tu;rw[aa'] at le;refine' ⟨_,a3_ ?s1 (a3_ ?s2 (a3_ ?s3 ac_)),?kk⟩
  case s1=>exact aw_ (e5_ (aH_ (aK_ (a7_ aQ_ (by rfl) B.isi ab_ (a0_ (pv 0) (a0_ (b1_ (v:=.ty "list") (by rfl) B.list bm_ rfl) a2_)))))
    (cz_ (aH_ (du_ e2_ e2_ a4_ (a7_ ak_ (by rfl) B.len b_3 (a0_ (pv 0) a2_)) (bd_ (v:=.int 8) (by rfl) mH ⟨tk,rfl⟩))))).pt (a5_ (aU_ rfl rs R.mg R.ex a_9 (by rfl) (a0_ a9_ a2_))) aa_
  case s2=>exact ao_ 1 e7'.nd bM_
  case' s3=>refine' b3_ own rfl (ah_ (pv 0)) (b5_ 2 e7'.nd) (a3_ ?b1 (a3_ ?b2 (a5_ ?b3)))
  case b1=>exact aw_ (aH_ (aK_ (al_ cH hr (a0_ (pv 2) a2_)))) (a5_ (aU_ rfl rs R.mg R.ex a_9 (by rfl) (a0_ a9_ a2_))) aa_
  case b2=>exact aw_ (bg_ (cX_ hu (aj_ aO_ (pv 2) a4_ (λ_ _=>rfl)) (pv 1))) (a5_ (aU_ rfl rs R.mg R.ex a_9 (by rfl) (a0_ a9_ a2_))) aa_
  case b3=>exact c0_ hu (pv 1) (aj_ aO_ (pv 2) a4_ (λ_ _=>rfl)) (aj_ aO_ (pv 2) a4_ (λ_ _=>rfl)) rfl
  case' kk=>skip
  have fin:∀H',Same H H'->1<=sizeLine/\E (.ref CN) none H':=λH' s=>⟨by decide,k H' s⟩;refine⟨_,rfl,_,_,_,_,rfl,.lst hl,rfl,_,rfl,iteF ?_⟩;refine⟨_,rfl,l,_,rfl,.inl (.of hl),_,_,rfl,rfl,_,rfl,?_⟩;by_cases c1:(1:Int)<=(ys.length:Int);rotate_left 1
  ·rw[a_4 c1];exact iteF ⟨_,rfl,iteT (fin H (Same.refl H))⟩
  rw[a_5 c1];refine iteT ⟨_,_,rfl,rfl,_,rfl,?_⟩;by_cases c8:(ys.length:Int)<=8;rotate_left 1
  ·rw[a_4 c8];exact iteT (fin H (Same.refl H))
  rw[a_5 c8];refine iteF ?_;intro d hd;have s0:Same H (upd H d (.dK [])):=Same.new hd;refine⟨_,rfl,l,rfl,⟨_,.of (s0 _ _ hl)⟩,aV_ (K:=K) (a:=l) (xs:=ys) (λi σ H2=>∃(v2:Option V),σ=[some (.ref l),some (.ref d),v2]/\Same H H2/\(∀h∈hs.take i,goodH h)/\((hs.take i).map (·.1)).Nodup/\H2 d=some (.dK ((hs.take i).map λh=>(Sum.inr h.1,V.int h.2)))) ⟨none,rfl,s0,λh hh=>by simp at hh,by simp,a1_⟩ (λi σ H2 _ ⟨_,_,s2,_⟩=>.of (s2 _ _ hl)) ?_ ?_⟩
  ·rintro i y σ H2 hy ⟨v2,rfl,s2,ga,gn,hd2⟩;obtain⟨t,ht,a,rfl,ha⟩:=aJ_ tu hy;have ha2:=s2 _ _ (hpH ha);refine⟨_,rfl,a,t.1,t.2,rfl,ha2,ln t (ad' ht),λH3 s3=>⟨_,rfl,?_⟩⟩;cases gb:(bd' t.1&&(decide (1<=t.2)&&decide (t.2<=1000))) with
   |false=>exact iteT (fin H3 (s2.trans s3))
   |true=>
    refine iteF ?_
    have g:goodH t:=by
     simp only[az',b_9] at gb;exact gb
    have ha3:=s3 _ _ ha2;have hd3:=s3 _ _ hd2;refine⟨_,rfl,a,_,_,_,rfl,rfl,.of ha3,rfl,_,rfl,d,_,rfl,.k (k:=Sum.inr t.1) hd3,_,rfl,?_⟩;by_cases nx:t.1∈(hs.take i).map (·.1)
    ·rw[ce_ (by
      rw[ao'];obtain⟨h,hh,eh⟩:=ac'.mp nx;exact ac'.mpr ⟨h,hh,by rw[<- eh];rfl⟩)]
     exact iteT (fin H3 (s2.trans s3))
    ·have nov:valV ((hs.take i).map λh=>((Sum.inr h.1:Key),V.int h.2)) (Sum.inr t.1)=none:=aP_ (by
      rw[ao'];intro m;obtain⟨h,hh,e⟩:=ac'.mp m;exact nx (ac'.mpr ⟨h,hh,d__ e⟩))
     rw[nov];refine iteF ?_;refine⟨_,rfl,a,_,_,_,rfl,rfl,.of ha3,rfl,_,rfl,_,rfl,a,_,_,_,rfl,rfl,.of ha3,rfl,d,_,rfl,.k (k:=Sum.inr t.1) hd3 (by rw[aa',af'];omega),?_⟩;refine⟨_,rfl,λc o e=>?_,cN_ ga ht g,fG_ gn ht nx,?_⟩
     ·rw[a8_ (a6_ e hd)];exact s3 _ _ (s2 _ _ e)
     ·rw[a1_,bw_ _ nov,aq_ _ ht]
  ·rintro σ H2 ⟨v2,rfl,s2,ga,gn,hd2⟩;rw[le,an'] at ga gn;exact absurd ⟨ga,gn,by omega,by omega⟩ bad
def spSortT(K:F__):Sp:=λvs H Q _=>∃(l:Addr) (ys:List V) (ts:Xb),vs=[.ref l]/\H l=some (.lst ys)/\bb' K H ys (ts.map kT)/\(∀t∈ts,t.1.length<=100000/\t.2.length<=100000)/\ts.length<64/\¬eh' ts/\∀H',Same H H'->Q .non H'
theorem jX_{f:Addr}(F:Fun K "sorted_ties" "sorted_ties" dF' f fd)(B:Bi mg)(cP:Cal P w K mg base 2 "is_pair_of_names" ["thing"] eQ')(cL:Cal P w K mg base 1 "lesser_first" ["one","other"] cA'):FnOk P w K mg base CX0 3 f fd ["ties"] (spSortT K):=by
 refine F.okA bP' λcdv A outer s H vs Q E hr h=>?_
 ·obtain⟨l,ys,ts,rfl,hl,tu,ln,h64,bad,k⟩:=h;have hu:=br_ hr;have hr1:Room 1 _:=hr.mono (by decide);have sz:=b__;have le:=a_1 tu;rw[aa'] at le
  refine⟨_,a3_ (aw_ (aH_ (aK_ (a7_ aQ_ (by rfl) B.isi ab_ (a0_ (pv 0) (a0_ (b1_ (v:=.ty "list") (by rfl) B.list bm_ rfl) a2_))))) ac_ aa_)
   (a3_ (ao_ 1 bP'.nd gP_)
   (a3_ (b3_ b_7 rfl (ah_ (pv 0)) (b5_ 2 bP'.nd)
    (a3_ (aw_ (aH_ (aK_ (al_ cP hr (a0_ (pv 2) a2_)))) (a5_ (ae_ dc_)) aa_)
    (a3_ (ao_ 3 bP'.nd (al_ cL hr1 (a0_ (aj_ aO_ (pv 2) a4_ (λ_ _=>rfl)) (a0_ (aj_ aO_ (pv 2) a4_ (λ_ _=>rfl)) a2_))))
    (a3_ (aw_ (bg_ (cX_ hu (pv 3) (pv 1))) (a5_ (ae_ dc_)) aa_)
    (a5_ (c0_ hu (pv 1) (pv 3) e7_ rfl))))))
   ac_)),?_⟩
  refine⟨_,rfl,_,_,_,_,rfl,.lst hl,rfl,_,rfl,iteF ?_⟩;intro d hd;have s0:Same H (upd H d (.dT [])):=Same.new hd;refine⟨_,rfl,l,rfl,⟨_,.of (s0 _ _ hl)⟩,aV_ (K:=K) (a:=l) (xs:=ys) (λi σ H2=>∃(v3 v4:Option V),σ=[some (.ref l),some (.ref d),v3,v4]/\Same H H2/\(∀t∈ts.take i,cc' t)/\((ts.take i).map λt=>kT (ord2 t.1 t.2)).Nodup/\H2 d=some (.dT ((ts.take i).map λt=>(kT (ord2 t.1 t.2),V.bl true)))) ⟨none,none,rfl,s0,λh hh=>by simp at hh,by simp,a1_⟩ (λi σ H2 _ ⟨_,_,_,s2,_⟩=>.of (s2 _ _ hl)) ?_ ?_⟩
  ·rintro i y σ H2 hy ⟨v3,v4,rfl,s2,ga,gn,hd2⟩;obtain⟨t,ht,a,rfl,ha⟩:=aJ_ tu hy;have ha2:=s2 _ _ (hpT ha);have lt:=ln t (ad' ht);refine⟨_,rfl,a,t.1,t.2,rfl,ha2,lt.1,lt.2,λH3 s3=>⟨_,rfl,?_⟩⟩;have ha3:=s3 _ _ ha2;have hd3:=s3 _ _ hd2;cases gb:(bd' t.1&&bd' t.2&&!decide (t.1=t.2)) with
   |false=>exact iteT (k _ (s2.trans s3))
   |true=>
    refine iteF ?_
    have g:cc' t:=by
     simp only[az',Bool.not_eq_true',decide_eq_false_iff_not] at gb;exact⟨gb.1.1,gb.1.2,gb.2⟩
    refine⟨_,rfl,a,_,_,_,rfl,rfl,.of ha3,rfl,_,rfl,a,_,_,_,rfl,rfl,.of ha3,rfl,t.1,t.2,rfl,λb hb=>?_⟩;have s4:Same H3 (upd H3 b (.tup [.str (ord2 t.1 t.2).1,.str (ord2 t.1 t.2).2])):=Same.new hb;have hd4:=s4 _ _ hd3;have hb4:upd H3 b (.tup [.str (ord2 t.1 t.2).1,.str (ord2 t.1 t.2).2]) b=some (.tup ((kT (ord2 t.1 t.2)).map kV)):=a1_;refine⟨_,rfl,_,rfl,d,_,rfl,.t (k:=kT (ord2 t.1 t.2)) hd4 hb4,_,rfl,?_⟩;by_cases nx:kT (ord2 t.1 t.2)∈(ts.take i).map λt=>kT (ord2 t.1 t.2)
    ·rw[ce_ (by rw[ao'];exact nx)];exact iteT (k _ ((s2.trans s3).trans s4))
    ·have nov:valV ((ts.take i).map λt=>(kT (ord2 t.1 t.2),V.bl true)) (kT (ord2 t.1 t.2))=none:=aP_ (by rw[ao'];exact nx);rw[nov];refine iteF ?_;refine⟨_,rfl,_,rfl,d,_,rfl,.t (k:=kT (ord2 t.1 t.2)) hd4 hb4 (by rw[aa',af'];omega),?_⟩;refine⟨_,_,rfl,λc o e=>?_,cN_ ga ht g,fG_ gn ht nx,?_⟩
     ·rw[a8_ (a6_ e hd)];exact s4 _ _ (s3 _ _ (s2 _ _ e))
     ·rw[a1_,bw_ _ nov,aq_ _ ht]
  ·rintro σ H2 ⟨v3,v4,rfl,s2,ga,gn,hd2⟩;rw[le,an'] at ga gn;exact absurd ⟨ga,gn⟩ bad
def eB'(K:F__):Sp:=λvs H Q E=>cy' K vs H Q E∨spSortT K vs H Q E
inductive eS' (K:F__) (CN:Addr) (vs:List V) (H:Hp) (E:XK):Prop
 |mk:∀(l d:Addr) (ys:List V) (ts:Xb) (kvs:List (Key × V)),vs=[.ref l,.ref d]->H l=some (.lst ys)->bb' K H ys (ts.map kT)->(∀t∈ts,t.1.length<=100000/\t.2.length<=100000)->ts.length<64->H d=some (.dK kvs)->¬(eh' ts/\∀t∈ts,(valV kvs (Sum.inr t.1)).isSome=true/\(valV kvs (Sum.inr t.2)).isSome=true)->(∀H',Same H H'->E (.ref CN) none H')->eS' K CN vs H E
def eC'(K:F__)(CN:Addr):Sp:=λvs H _ E=>eS' K CN vs H E
theorem k2_{f CN:Addr}(F:Fun K "checked_ties" "checked_ties" sTies f fd)(R:Ref K mg "NoWeb" CN)(cS:Cal P w K mg base 3 "sorted_ties" ["ties"] (eB' K)):FnOk P w K mg base (CX1 P w) 4 f fd ["ties","strengths"] (eC' K CN):=by
 refine F.okQA cU' λcdv A outer s H vs Q E hr h own ps rs=>?_
 ·obtain⟨l,d,ys,ts,kvs,rfl,hl,tu,ln,h64,hd,bad,k⟩:=h;have hu:=br_ hr
  refine⟨_,a3_ (ao_ 2 cU'.nd (al_ cS hr (a0_ (pv 0) a2_)))
   (a3_ (aw_ (bg_ (cT_ (pv 2))) (a5_ (aU_ rfl rs R.mg R.ex a_9 (by rfl) (a0_ a9_ a2_))) aa_)
   (a3_ (b3_ own rfl (ah_ (pv 2)) (ch_ rfl (ai_ (b5_ 3 cU'.nd) (ai_ (b5_ 4 cU'.nd) b4_)))
    (a5_ (aw_ (e5_ (bg_ (cY_ hu (pv 3) (pv 1))) (cz_ (bg_ (cY_ hu (pv 4) (pv 1))))).pt (a5_ (aU_ rfl rs R.mg R.ex a_9 (by rfl) (a0_ a9_ a2_))) aa_)))
   ac_)),?_⟩
  have fin:∀H',Same H H'->1<=sizeLine/\E (.ref CN) none H':=λH' s=>⟨by decide,k H' s⟩;by_cases gd:eh' ts;rotate_left 1
  ·refine⟨_,rfl,.inr ⟨l,ys,ts,rfl,hl,tu,ln,h64,gd,λH1 s1=>?_⟩⟩;exact⟨_,rfl,_,rfl,iteT (fin H1 s1)⟩
  refine⟨_,rfl,.inl ⟨l,ys,ts,rfl,hl,tu,gd.tok,gd.tnd,h64,λl' zs H1 s1 hf hl1 tz=>?_⟩⟩;refine⟨_,rfl,_,rfl,iteF ?_⟩;have hd1:=s1 _ _ hd;have ez:=a_1 tz;refine⟨_,rfl,l',rfl,⟨_,.of hl1⟩,aV_ (K:=K) (a:=l') (xs:=zs) (λi σ H2=>∃(v3 v4:Option V),σ=[some (.ref l),some (.ref d),some (.ref l'),v3,v4]/\H2=H1/\∀q∈(sortKs (ts.map λt=>kT (ord2 t.1 t.2))).take i,∀c∈q,(valV kvs c).isSome=true) ⟨none,none,rfl,rfl,λq hq=>by simp at hq⟩ (λi σ H2 _ ⟨_,_,_,e,_⟩=>by subst e;exact .of hl1) ?_ ?_⟩
  ·rintro i y σ H2 hy ⟨v3,v4,rfl,rfl,ga⟩;have hi:i<zs.length:=(ab'.mp hy).1;have hi':i<(sortKs (ts.map λt=>kT (ord2 t.1 t.2))).length:=by omega
   obtain⟨a,e,ha⟩:=aA_ tz i hi hi';rw[(ab'.mp hy).2] at e;subst e;have hq:(sortKs (ts.map λt=>kT (ord2 t.1 t.2)))[i]? = some ((sortKs (ts.map λt=>kT (ord2 t.1 t.2)))[i]'hi'):=ae' hi';obtain⟨t,ht,e⟩:=ac'.mp ((aC_ _).mem_iff.mp (aZ' hi'));rw[<- e] at ha hq;refine⟨a,_,rfl,.of (hpT ha),rfl,_,_,rfl,_,_,rfl,rfl,?_⟩;refine⟨_,rfl,_,rfl,d,_,rfl,.k (k:=Sum.inr (ord2 t.1 t.2).1) hd1,_,rfl,?_⟩;cases b1:(valV kvs (Sum.inr (ord2 t.1 t.2).1)).isSome with
   |false=>exact iteT (fin _ s1)
   |true=>
    refine iteF ?_;refine⟨_,rfl,_,rfl,d,_,rfl,.k (k:=Sum.inr (ord2 t.1 t.2).2) hd1,_,rfl,?_⟩;cases b2:(valV kvs (Sum.inr (ord2 t.1 t.2).2)).isSome with
    |false=>exact iteT (fin _ s1)
    |true=>
     refine iteF ⟨_,_,rfl,rfl,cN_ ga hq λc hc=>?_⟩;have hc:c=Sum.inr (ord2 t.1 t.2).1∨c=Sum.inr (ord2 t.1 t.2).2:=by simpa [kT] using hc
     rcases hc with rfl|rfl
     ·exact b1
     ·exact b2
  ·rintro σ H2 ⟨v3,v4,rfl,rfl,ga⟩;rw[ez,an'] at ga;refine absurd ⟨gd,λt ht=>?_⟩ bad;have hm:kT (ord2 t.1 t.2)∈sortKs (ts.map λt=>kT (ord2 t.1 t.2)):=(aC_ _).mem_iff.mpr (ac'.mpr ⟨t,ht,rfl⟩);have a1:=ga _ hm (Sum.inr (ord2 t.1 t.2).1) (by simp[kT]);have a2:=ga _ hm (Sum.inr (ord2 t.1 t.2).2) (by simp[kT]);rcases bi_ t.1 t.2 with q|q
   ·rw[q] at a1 a2;exact⟨a1,a2⟩
   ·rw[q] at a1 a2;exact⟨a2,a1⟩
def spStrG(K:F__)(CN:Addr):Sp:=λvs H Q E=>spStr K vs H Q E∨spStrT K CN vs H Q E
inductive eW' (K:F__) (CN:Addr) (vs:List V) (H:Hp) (E:XK):Prop
 |mk:∀(p lh lt:Addr) (ys zs:List V) (hs:Xa) (ts:Xb),vs=[.ref p,.ref lh,.ref lt]->H lh=some (.lst ys)->bb' K H ys (hs.map kH)->H lt=some (.lst zs)->bb' K H zs (ts.map kT)->(∀h∈hs,h.1.length<=100000)->(∀t∈ts,t.1.length<=100000/\t.2.length<=100000)->ts.length<64->¬Good hs ts->(∀H',Same H H'->E (.ref CN) none H')->eW' K CN vs H E
def ev'(K:F__)(CN:Addr):Sp:=λvs H _ E=>eW' K CN vs H E
theorem jz_{f CN:Addr}(F:Fun K "__init__" "Web.__init__" sInit f fd)(cS:CalF P w K mg base 4 "checked_strengths" ["hands"] (spStrG K CN))(cT:CalF P w K mg base 4 "checked_ties" ["ties","strengths"] (eC' K CN)):FnOk P w K mg base (CX1 P w) 5 f fd ["self","hands","ties"] (ev' K CN):=by
 refine F.okQA dC' λcdv A outer s H vs Q E hr h own ps rs=>?_
 ·obtain⟨p,lh,lt,ys,zs,hs,ts,rfl,hlh,th,hlt,tt,l1,l2,h64,bad,k⟩:=h;refine' ⟨_,a3_ ?s1 (a3_ ?s2 ac_),?kk⟩
  case s1=>exact ao_ 3 dC'.nd (fW_ cS hr ps (a0_ (pv 1) a2_))
  case s2=>exact ao_ 4 dC'.nd (fW_ cT hr ps (a0_ (pv 2) (a0_ (pv 3) a2_)))
  case' kk=>skip
  by_cases g:GoodHs hs
  ·refine⟨_,rfl,.inl ⟨lh,ys,hs,rfl,hlh,th,g.hok,g.hnd,g.h1,g.h8,λd H1 s1 f1 hd1=>?_⟩⟩;refine⟨_,rfl,_,rfl,lt,d,zs,ts,_,rfl,s1 _ _ hlt,tt.same s1,l2,h64,hd1,λ⟨gt,q⟩=>bad ⟨g.hok,g.hnd,g.h1,g.h8,gt.tok,gt.tnd,h64,λt ht=>?_⟩,λH' s=>k _ (s1.trans s)⟩;have:=q t ht;rw[d4_,d4_] at this;exact⟨c_3 this.1,c_3 this.2⟩
  ·exact⟨_,rfl,.inr ⟨lh,ys,hs,rfl,hlh,th,l1,g,λH' s=>k _ s⟩⟩
end
structure CalK (P:Ae) (w:Ag) (K:F__) (mg:Str->Option Aa) (base:Heap) (C:Addr) (k:Nat) (x:Str) (ps:List Str) (sp:Sp):Prop where
 ex:∃f fd,FnOk P w K mg base (CX1 P w) k f fd ps sp/\Mk K C f/\mg x=some (.ref C)/\ck' K fd ps []
variable{X:Cx}{sp:Sp}{pos:Pos}{es:List Expr}{t:TA}
theorem kd_{C:Addr}{E:XK}{k:Nat}{x:Str}{ps:List Str}{p:Pos}{e:Expr}(c:CalK X.prog X.w X.K X.mg X.base C k x ps sp)(hr:Room (k+1) X.A)(hx:bx' (CX1 X.prog X.w) X E)(ha:PA X (e::es) t)(hg:Gl X x:=by rfl)(hdb:(x == ("__debug__":Str))=false:=by decide)(he:starEach (e::es) X.env=(false,eval e X.env)::starEach es X.env:=by rfl)(hpl:(backTo pos (starEach es X.env)).any (·.1)=false:=by rfl):PE X (.Call (.Name x p) (e::es) [] pos) (tMake C sp [] E t):=by
 obtain⟨f,fd,F,M,m,b⟩:=c.ex;exact hA_ M F hr hg m b .nil hx ha hdb he hpl
structure CalG (P:Ae) (w:Ag) (K:F__) (mg:Str->Option Aa) (base:Heap) (k:Nat) (x:Str) (ps:List Str) (sp:Sp):Prop where
 ex:∃f fd,FnOk P w K mg base (CX2 P w) k f fd ps sp/\mg x=some (.ref f)/\PySem.W.keepIn K (.ref f)=true/\ck' K fd ps []
theorem i3_{E:XK}{k:Nat}{x:Str}{ps:List Str}{p:Pos}{e:Expr}(c:CalG X.prog X.w X.K X.mg X.base k x ps sp)(hr:Room k X.A)(hx:bx' (CX2 X.prog X.w) X E)(ha:PA X (e::es) t)(hg:Gl X x:=by rfl)(hdb:(x == ("__debug__":Str))=false:=by decide)(he:starEach (e::es) X.env=(false,eval e X.env)::starEach es X.env:=by rfl)(hpl:(backTo pos (starEach es X.env)).any (·.1)=false:=by rfl):PE X (.Call (.Name x p) (e::es) [] pos) (tCall sp [] E t):=by
 obtain⟨f,fd,F,m,kp,b⟩:=c.ex;exact fM_ F hr hg m kp b .nil hx ha hdb he hpl
variable{m:Nat}
theorem bJ_{ws:List Str}(h:∀x∈ws,x.length<=m):(ws.getD i "").length<=m:=by
 by_cases z:i<ws.length
 ·exact h _ (dr_ z)
 ·have:ws.getD i ""="":=by simp[List.getD,List.getElem?_eq_none (Nat.le_of_not_lt z)]
  rw[this];exact aJ' _
variable{wss:List (List Str)}
theorem fF_(h:∀ws∈wss,∀x∈ws,x.length<=50000):∀h∈bg' wss,h.1.length<=100000:=λp hp=>by
 obtain⟨ws,hw,rfl⟩:=ac'.mp hp;have:=bJ_ (i:=1) (h ws (aT'.mp hw).1);show (ws.getD 1 "").length<=_;omega
theorem hg_(h:∀ws∈wss,∀x∈ws,x.length<=50000):∀t∈bq' wss,t.1.length<=100000/\t.2.length<=100000:=λp hp=>by
 obtain⟨ws,hw,rfl⟩:=ac'.mp hp;have h1:=bJ_ (i:=1) (h ws (aT'.mp hw).1);have h2:=bJ_ (i:=2) (h ws (aT'.mp hw).1);exact⟨by show (ws.getD 1 "").length<=_;omega,by show (ws.getD 2 "").length<=_;omega⟩
variable{CG CS:Addr}
section
variable{P:Ae}{w:Ag}{K:F__}{mg:Str->Option Aa}{base:Heap}
def cj'(K:F__)(CT:Addr):Sp:=λvs H _ E=>∃(l:Addr) (ys:List V) (wss:List (List Str)),vs=[.ref l]/\H l=some (.lst ys)/\RwAt H ys wss/\wss.length<64/\(∀ws∈wss,WsOk ws)/\(∀ws∈wss,∀x∈ws,x.length<=50000)/\¬Good (bg' wss) (bq' wss)/\∀H',Same H H'->E (.ref CT) none H'
theorem hG_{f C CN CT:Addr}(F:Fun K "web_in" "web_in" eG' f fd)(B:Bi mg)(R:Ref K mg "NoWeb" CN)(RT:Ref K mg "NoText" CT)(xm:PySem.W.exmOne K (.ref CN) (.ref CN)=some true)(cW:CalK P w K mg base C 5 "Web" ["self","hands","ties"] (ev' K CN)):FnOk P w K mg base (CX2 P w) 7 f fd ["rows"] (cj' K CT):=by
 refine F.okTA cs' λcdv A outer s H vs Q E hr h hp ro rm=>?_
 ·obtain⟨l,ys,wss,rfl,hl,rw0,l64,ok,wl,bad,k⟩:=h;have l1000:wss.length<=1000:=by omega
  have sz:=b__;refine' ⟨_,a3_ ?s1 (a3_ ?s2 (a5_ ?s3)),?kk⟩
  case' s1=>refine' bO_ (i:=1) ["words"] 1 [] cs'.nd rfl (Or.inl rfl) (ah_ (pv 0)) (λfp s H=>aY_ 0) (λfp s H=>?t1) (λfp s H=>?e1)
  case t1=>exact bR_ (ar_ bj_ (aj_ (ixK (K:=K) rIxL ad_) (pv 0) a4_ (λ_ _=>rfl)) a9_ (nomark _))
  case e1=>exact b9_ (a0_ (aj_ (ixK (K:=K) rIxL ad_) (pv 0) a4_ (λ_ _=>rfl)) (a0_ (ax_ bv_ (by rfl) B.int ea_ (a0_ (aj_ (ixK (K:=K) rIxL ad_) (pv 0) a4_ (λ_ _=>rfl)) a2_)) a2_))
  case' s2=>refine' bO_ (i:=2) ["words"] 1 [] cs'.nd rfl (Or.inl rfl) (ah_ (pv 0)) (λfp s H=>aY_ 0) (λfp s H=>?t2) (λfp s H=>?e2)
  case t2=>exact bR_ (ar_ bj_ (aj_ (ixK (K:=K) rIxL ad_) (pv 0) a4_ (λ_ _=>rfl)) a9_ (nomark _))
  case e2=>exact b9_ (a0_ (aj_ (ixK (K:=K) rIxL ad_) (pv 0) a4_ (λ_ _=>rfl)) (a0_ (aj_ (ixK (K:=K) rIxL ad_) (pv 0) a4_ (λ_ _=>rfl)) a2_))
  case s3=>exact fH_ (i:=3) cs'.nd rfl rfl rfl rfl rfl (by rfl) R.mg xm ro (by rfl) RT.mg RT.ex R.ex (λa=>a0_ a9_ a2_) (λE' W pn ps'=>a5_ (ae_ (kd_ cW hr ps' (a0_ (pv 1) (a0_ (pv 2) a2_)))))
  case' kk=>skip
  refine⟨_,rfl,l,rfl,⟨_,.of hl⟩,λD hD=>?_⟩;refine an_ (own:=1) (fv:=[]) (xs:=ys) rfl gok1 (λi out H'=>Same H H'/\H' D=some (.lst out)/\bb' K H' out ((bg' (wss.take i)).map kH)) ⟨Same.new hD,a1_,.nil⟩ (λi out H' _ ⟨sm,_,_⟩=>.of (sm _ _ hl)) (λout H1 ⟨s1,hD1,tu1⟩=>?_) (λi y out H' hy ⟨sm,hd,tz⟩=>?_);rotate_left
  ·obtain⟨ws,a,hw,rfl,ha⟩:=e4_ rw0 hy;have o:=ok ws (ad' hw);refine⟨_,rfl,rfl,λNx hN=>?_⟩;refine⟨_,rfl,a,_,_,_,rfl,rfl,.of (sm _ _ ha),atS (i:=0) o.ne,rfl,_,rfl,?_⟩;rw[b6_];refine ite2 (λc=>?_) (λc=>?_)
   ·obtain⟨l3,l640,n,en⟩:=o.h3 c;refine⟨_,rfl,a,_,_,_,rfl,rfl,.of (sm _ _ ha),atS (i:=1) Z1,_,rfl,a,_,_,_,rfl,rfl,.of (sm _ _ ha),atS (i:=2) Z1,_,n,rfl,l640,en,by show 2<=sizeLine;decide,λt nt=>?_⟩;have s5:=Same.new (o:=.tup [.str (ws.getD 1 ""),.int n]) nt
    have e5:upd H' t (.tup [.str (ws.getD 1 ""),.int n]) t=some (.tup ((kH (handW ws)).map kV)):=by
     rw[a1_];show _=some (HO.tup [.str (ws.getD 1 ""),.int ((PySem.intText? (ws.getD 2 "")).getD 0)]);rw[en];rfl
    generalize upd H' t (.tup [.str (ws.getD 1 ""),.int n])=H5 at s5 e5 ⊢;have lo:=a_1 tz;have:=fb_ (wss.take i);rw[aa'] at lo;rw[af'] at this;refine⟨out,s5 _ _ hd,by omega,hN (out++[.ref t]) _ ⟨aB_ (sm.trans s5) hD,a1_,?_⟩⟩;rw[aL_ hw,ct_,b_0 (show isW "hand" ws=true from c),ag'];exact bc_ (bb_ (tz.same s5) e5) (s5 _ _ hd)
   ·refine hN out _ ⟨sm,hd,?_⟩;rw[aL_ hw,ct_,a_8 (show ¬isW "hand" ws=true from c),aF'];exact tz
  have le:=a_1 rw0;rw[le,an'] at tu1;refine setG ?_;dsimp only;refine⟨_,rfl,l,rfl,⟨_,.of (s1 _ _ hl)⟩,λD2 hD2=>?_⟩;refine an_ (own:=1) (fv:=[]) (xs:=ys) rfl gok1 (λi out H'=>Same H1 H'/\H' D2=some (.lst out)/\bb' K H' out ((bq' (wss.take i)).map kT)) ⟨Same.new hD2,a1_,.nil⟩ (λi out H' _ ⟨sm,_,_⟩=>.of (sm _ _ (s1 _ _ hl))) (λout2 H2 ⟨s2,hD3,tu2⟩=>?_) (λi y out H' hy ⟨sm,hd,tz⟩=>?_);rotate_left
  ·obtain⟨ws,a,hw,rfl,ha⟩:=e4_ (rw0.same s1) hy;have o:=ok ws (ad' hw);refine⟨_,rfl,rfl,λNx hN=>?_⟩;refine⟨_,rfl,a,_,_,_,rfl,rfl,.of (sm _ _ ha),atS (i:=0) o.ne,rfl,_,rfl,?_⟩;rw[b6_];refine ite2 (λc=>?_) (λc=>?_)
   ·have l3:=o.t3 c;refine⟨_,rfl,a,_,_,_,rfl,rfl,.of (sm _ _ ha),atS (i:=1) Z1,_,rfl,a,_,_,_,rfl,rfl,.of (sm _ _ ha),atS (i:=2) Z1,by show 2<=sizeLine;decide,λt nt=>?_⟩;have s5:=Same.new (o:=.tup [.str (ws.getD 1 ""),.str (ws.getD 2 "")]) nt;have e5:upd H' t (.tup [.str (ws.getD 1 ""),.str (ws.getD 2 "")]) t=some (.tup ((kT (tieW ws)).map kV)):=a1_;generalize upd H' t (.tup [.str (ws.getD 1 ""),.str (ws.getD 2 "")])=H5 at s5 e5 ⊢;have lo:=a_1 tz;have:=eG_ (wss.take i);rw[aa'] at lo;rw[af'] at this;refine⟨out,s5 _ _ hd,by omega,hN (out++[.ref t]) _ ⟨aB_ (sm.trans s5) hD2,a1_,?_⟩⟩;rw[aL_ hw,cL_,b_0 (show isW "tie" ws=true from c),ag'];exact bc_ (bb_ (tz.same s5) e5) (s5 _ _ hd)
   ·refine hN out _ ⟨sm,hd,?_⟩;rw[aL_ hw,cL_,a_8 (show ¬isW "tie" ws=true from c),aF'];exact tz
  rw[le,an'] at tu2;refine setG ?_;dsimp only;refine⟨_,rfl,_,rfl,λpw dx hpw hdx ne=>?_⟩;have sa:Same H2 (upd H2 dx (.own pw)):=Same.new hdx;have sb:Same (upd H2 dx (.own pw)) (upd (upd H2 dx (.own pw)) pw (.ins C dx [])):=Same.new (by rw[a8_ (λz=>ne z.symm)];exact hpw);have sx:=sa.trans sb;have hpx:upd (upd H2 dx (.own pw)) pw (.ins C dx []) pw=some (.ins C dx []):=a1_;generalize upd (upd H2 dx (.own pw)) pw (.ins C dx [])=Hx at sx hpx ⊢;have s12:=s1.trans s2;have s0x:=s12.trans sx;have tl:=eG_ wss;exact⟨pw,D,D2,_,_,bg' wss,bq' wss,rfl,(s2.trans sx) _ _ hD1,(tu1.same s2).same sx,sx _ _ hD3,tu2.same sx,fF_ wl,hg_ wl,by omega,bad,λH' s'=>⟨rfl,λσ=>⟨by show 1<=sizeLine;decide,k H' (s0x.trans s')⟩⟩⟩
theorem g0_{f CT:Addr}(F:Fun K "goods_in" "goods_in" cu' f fd)(cI:CalG P w K mg base 7 "web_in" ["rows"] (cj' K CT)):FnOk P w K mg base (CX2 P w) 9 f fd ["rows"] (cj' K CT):=by
 refine F.okTA bA' λcdv A outer s H vs Q E hr h hp ro rm=>?_
 ·obtain⟨l,ys,wss,rfl,hl,rw0,l64,ok,wl,bad,k⟩:=h;exact⟨_,a3_ (ao_ 1 bA'.nd (i3_ cI (hr.mono (by decide)) hp (a0_ (pv 0) a2_))) ac_,_,rfl,l,ys,wss,rfl,hl,rw0,l64,ok,wl,bad,k⟩
inductive d5' (K:F__) (CG CW CT:Addr) (vs:List V) (H:Hp) (E:XK):Prop
 |mk:∀(g p:Addr) (v:V) (hs:Xa) (ts:Xb) (qs:List Pc) (fp:List Addr),vs=[.ref g,v]->bh' K CG CW H g p hs ts qs fp->NoStd K H hs qs fp v->(∀H',Same H H'->E (.ref CT) none H')->d5' K CG CW CT vs H E
def eN'(K:F__)(CG CW CT:Addr):Sp:=λvs H _ E=>d5' K CG CW CT vs H E
theorem j1_{f CW CT:Addr}(F:Fun K "text_again" "text_again" eK' f fd)(R:Ref K mg "NoStand" CS)(RT:Ref K mg "NoText" CT)(xm:PySem.W.exmOne K (.ref CS) (.ref CS)=some true)(cT:CalF P w K mg base 3 "goods_text" ["goods","stand"] (bU' K CG CW CS)):FnOk P w K mg base (CX2 P w) 5 f fd ["goods","stand"] (eN' K CG CW CT):=by
 refine F.okTA eo' λcdv A outer s H vs Q E hr h hp ro rm=>?_
 ·obtain⟨g,p,v,hs,ts,qs,fp,rfl,G,nS,k⟩:=h;refine' ⟨_,a5_ ?s1,?kk⟩
  case s1=>exact fH_ (i:=2) eo'.nd rfl rfl rfl rfl rfl (by rfl) R.mg xm ro (by rfl) RT.mg RT.ex R.ex (λa=>a0_ a9_ a2_) (λE' W pn ps'=>a5_ (ae_ (fW_ cT (hr.mono (by decide)) ps' (a0_ (pv 0) (a0_ (pv 1) a2_)))))
  exact⟨_,rfl,_,rfl,g,p,v,hs,ts,qs,fp,rfl,G,nS,λH' s'=>⟨rfl,λσ=>⟨by show 1<=sizeLine;decide,k H' s'⟩⟩⟩
def cf'(K:F__)(CT:Addr):Sp:=λvs H _ E=>∃v t,vs=[v]/\TyOf K H v t/\PySem.W.kitOne K t (.type "str")=some false/\E (.ref CT) none H
theorem i4_{f CT:Addr}(F:Fun K "words_of_rows" "words_of_rows" c1' f fd)(B:Bi mg)(RT:Ref K mg "NoText" CT):FnOk P w K mg base (CX2 P w) 1 f fd ["text"] (cf' K CT):=by
 refine F.okTA d4' λcdv A outer s H vs Q E hr h hp ro rm=>?_
 ·obtain⟨v,t,rfl,ty,e,k⟩:=h;refine' ⟨_,a3_ ?s1 ac_,?kk⟩
  case s1=>exact aw_ (aH_ (aK_ (a7_ aQ_ (by rfl) B.isi ab_ (a0_ (pv 0) (a0_ (b1_ (v:=.ty "str") (by rfl) B.str dg_ rfl) a2_))))) (a5_ (aU_ rfl rm RT.mg RT.ex a_9 (by rfl) (a0_ a9_ a2_))) aa_
  exact⟨_,rfl,_,_,_,_,rfl,ty,e,_,rfl,iteT ⟨by show 1<=sizeLine;decide,k⟩⟩
end
theorem i8_(a b:Str):ord2 (ord2 a b).1 (ord2 a b).2=ord2 a b:=by
 rcases bi_ a b with e|e
 ·rw[e];exact e
 ·rw[e];show ord2 b a=(b,a);rw[<- cP_,e]
theorem iG_{hs:Xa}{ts ws:Xb}(g:eh' ws)(h:∀t∈tsOf ws,e8' hs ts (some t.1) (some t.2)=true):cn' ts ws:=by
 have inn:∀w∈ws,kO w∈ts.map kO:=λw hw=>by
  have m:ord2 w.1 w.2∈tsOf ws:=bp'.mpr ⟨w,hw,rfl⟩;have q:=h _ m;rw[cu_] at q;simp only[az',b_9] at q;have n:=(aT'.mp q.2.2).2;have n:=c_3 n;rw[i8_] at n;obtain⟨u,hu,eu⟩:=bp'.mp n;exact ac'.mpr ⟨u,hu,by unfold kO;rw[eu]⟩
 refine⟨g.tok,g.tnd,inn,?_⟩
 have:=List.Nodup.length_le_of_subset (l₁:=ws.map kO) (l₂:=ts.map kO) g.tnd (λx hx=>by
  obtain⟨w,hw,rfl⟩:=ac'.mp hx;exact inn w hw)
 rwa [aa',aa'] at this
def dA'(q:Pc):Prop:=q.1.length<=100000/\∀ws,q.2.2=some ws->ws.length<64/\∀t∈ws,t.1.length<=100000/\t.2.length<=100000
variable{CW:Addr}
section
variable{P:Ae}{w:Ag}{K:F__}{mg:Str->Option Aa}{base:Heap}
inductive d8' (K:F__) (C CN:Addr) (vs:List V) (H:Hp) (E:XK):Prop
 |mk:∀(p:Addr) (v:V) (ws:Xb) (hs:Xa) (ts:Xb) (fp:List Addr),vs=[.ref p,v]->bD' K C H p hs ts fp->Good hs ts->WyAt K H v (some ws)->ws.length<64->(∀t∈ws,t.1.length<=100000/\t.2.length<=100000)->¬cn' ts ws->(∀H',Same H H'->E (.ref CN) none H')->d8' K C CN vs H E
def dQ'(K:F__)(C CN:Addr):Sp:=λvs H _ E=>d8' K C CN vs H E
theorem hL_{f C CN:Addr}(F:Fun K "checked_ways" "checked_ways" eM' f fd)(T:Txt K mg C)(R:Ref K mg "NoGoods" CN)(cS:Cal P w K mg base 3 "sorted_ties" ["ties"] (eB' K))(cT:CalM P w K mg base C 2 "are_tied" ["self","one","other"] (de' K C)):FnOk P w K mg base (CX1 P w) 4 f fd ["web","ways"] (dQ' K C CN):=by
 refine F.okQA b5' λcdv A outer s H vs Q E hr h own ps rs=>?_
 ·obtain⟨p,v,ws,hs,ts,fp,rfl,W,G,wy,h64,ln,bad,k⟩:=h;have hu:=br_ hr;have hr2:Room 2 _:=hr.mono (by decide)
  refine⟨_,a3_ (aw_ (bg_ (cT_ (pv 1))) (a5_ (ae_ dc_)) aa_)
   (a3_ (ao_ 2 b5'.nd (al_ cS hr (a0_ (pv 1) a2_)))
   (a3_ (aw_ (bg_ (cT_ (pv 2))) (a5_ (aU_ rfl rs R.mg R.ex a_9 (by rfl) (a0_ a9_ a2_))) aa_)
   (a3_ (b3_ own rfl (ah_ (pv 2)) (ch_ rfl (ai_ (b5_ 3 b5'.nd) (ai_ (b5_ 4 b5'.nd) b4_)))
    (a5_ (aw_ (aH_ (aK_ (dj_ cT T.cl hr2 (pv 0) (a0_ (pv 3) (a0_ (pv 4) a2_))))) (a5_ (aU_ rfl rs R.mg R.ex a_9 (by rfl) (a0_ a9_ a2_))) aa_)))
   ac_))),?_⟩
  have fin:∀H',Same H H'->1<=sizeLine/\E (.ref CN) none H':=λH' s=>⟨by decide,k H' s⟩;obtain⟨a,ys,rfl,ha,tu⟩:=wy;refine⟨_,rfl,_,rfl,iteF ?_⟩;by_cases gd:eh' ws;rotate_left 1
  ·exact⟨_,rfl,.inr ⟨a,ys,ws,rfl,ha,tu,ln,h64,gd,λH1 s1=>⟨_,rfl,_,rfl,iteT (fin H1 s1)⟩⟩⟩
  refine⟨_,rfl,.inl ⟨a,ys,ws,rfl,ha,tu,gd.tok,gd.tnd,h64,λl' zs H1 s1 hf hl1 tz=>?_⟩⟩;refine⟨_,rfl,_,rfl,iteF ?_⟩;have W1:=W.same s1;obtain⟨dx,d1,l2,d3,zs0,as,rfl,h1,h2,h3,h4,h5,h6,h7⟩:=id W1.ex;have hno:(flds d1 l2 d3).lookup ("are_tied":Str)=none:=c4_ _ _ _ Z0 Z0 Z0;rw[<- ba_] at tz;have lz:=a_1 tz;rw[aa'] at lz;refine⟨_,rfl,l',rfl,⟨_,.of hl1⟩,aV_ (K:=K) (a:=l') (xs:=zs) (λi σ H2=>∃(v3 v4:Option V),σ=[some (.ref p),some (.ref a),some (.ref l'),v3,v4]/\H2=H1/\∀t∈(tsOf ws).take i,e8' hs ts (some t.1) (some t.2)=true) ⟨none,none,rfl,rfl,λt ht=>by simp at ht⟩ (λi σ H2 _ ⟨_,_,_,e,_⟩=>by subst e;exact .of hl1) ?_ ?_⟩
  ·rintro i y σ H2 hy ⟨v3,v4,rfl,rfl,ga⟩;obtain⟨t,ht,q,rfl,hq⟩:=aJ_ tz hy;refine⟨q,_,rfl,.of (hpT hq),rfl,_,_,rfl,_,_,rfl,rfl,?_⟩;refine⟨_,rfl,p,dx,_,rfl,h1,hno,_,rfl,_,rfl,p,_,_,some t.1,some t.2,hs,ts,_,rfl,W1,G.nnd,rfl,rfl,_,rfl,?_⟩;cases b:e8' hs ts (some t.1) (some t.2) with
   |false=>exact iteT (fin _ s1)
   |true=>exact iteF ⟨_,_,rfl,rfl,cN_ ga ht b⟩
  ·rintro σ H2 ⟨v3,v4,rfl,rfl,ga⟩;rw[lz,an'] at ga;exact absurd (iG_ gd ga) bad
inductive dD' (K:F__) (C CN:Addr) (vs:List V) (H:Hp) (E:XK):Prop
 |mk:∀(p:Addr) (y:V) (q:Pc) (hs:Xa) (ts:Xb) (fp:List Addr),vs=[.ref p,y]->bD' K C H p hs ts fp->Good hs ts->PcAt K H y q->dA' q->¬bV' ts q->(∀H',Same H H'->E (.ref CN) none H')->dD' K C CN vs H E
def ec'(K:F__)(C CN:Addr):Sp:=λvs H _ E=>dD' K C CN vs H E
theorem hk_{f C CN:Addr}(F:Fun K "checked_piece" "checked_piece" dM' f fd)(B:Bi mg)(R:Ref K mg "NoGoods" CN)(cN:Cal P w K mg base 1 "is_name" ["thing"] da')(cW:Cal P w K mg base 2 "is_whole_within" ["thing","least","most"] dh')(cC:CalF P w K mg base 4 "checked_ways" ["web","ways"] (dQ' K C CN))(mW:mg "MOST_WEIGHT"=some (.int 1000000000 tk)) :
  FnOk P w K mg base (CX1 P w) 5 f fd ["web","piece"] (ec' K C CN):=by
 refine F.okQA eI' λcdv A outer s H vs Q E hr h own ps rs=>?_
 ·obtain⟨p,y,q,hs,ts,fp,rfl,W,G,⟨t,v,rfl,ht,wy⟩,sh,bad,k⟩:=h;have hr1:Room 1 _:=hr.mono (by decide);have hr2:Room 2 _:=hr.mono (by decide)
  refine⟨_,a3_ (aw_ (e5_ (aH_ (aK_ (a7_ aQ_ (by rfl) B.isi ab_ (a0_ (pv 1) (a0_ (b1_ (v:=.ty "tuple") (by rfl) B.tuple bK_ rfl) a2_)))))
    (cz_ (ar_ e6_ (a7_ ak_ (by rfl) B.len b_3 (a0_ (pv 1) a2_)) a4_ (nomark _)))).pt ac_ aa_)
   (a3_ (aw_ (aH_ (aK_ (al_ cN hr1 (a0_ (aj_ aO_ (pv 1) a4_ (λ_ _=>rfl)) a2_)))) (a5_ (aU_ rfl rs R.mg R.ex a_9 (by rfl) (a0_ a9_ a2_))) aa_)
   (a3_ (aw_ (aH_ (aK_ (al_ cW hr2 (a0_ (aj_ aO_ (pv 1) a4_ (λ_ _=>rfl)) (a0_ a4_ (a0_ (bd_ (v:=.int 1000000000) (by rfl) mW ⟨tk,rfl⟩) a2_)))))) (a5_ (aU_ rfl rs R.mg R.ex a_9 (by rfl) (a0_ a9_ a2_))) aa_)
   (a5_ (ae_ (b9_ (a0_ (aj_ aO_ (pv 1) a4_ (λ_ _=>rfl)) (a0_ (aj_ aO_ (pv 1) a4_ (λ_ _=>rfl)) (a0_ (fW_ cC hr ps (a0_ (pv 0) (a0_ (aj_ aO_ (pv 1) a4_ (λ_ _=>rfl)) a2_))) a2_)))))))),?_⟩
  have fin:∀H',Same H H'->1<=sizeLine/\E (.ref CN) none H':=λH' s=>⟨by decide,k H' s⟩;refine⟨_,rfl,_,_,_,_,rfl,.tup ht,rfl,_,rfl,iteF ?_⟩;refine⟨_,rfl,t,_,rfl,.inr (.of ht),rfl,_,rfl,?_⟩;refine iteNS (show V.int ((3:Nat):Int)=V.int 3 from rfl) ?_;refine⟨_,rfl,t,_,_,_,rfl,rfl,.of ht,rfl,q.1,rfl,sh.1,λH1 s1=>⟨_,rfl,?_⟩⟩;cases gn:bd' q.1 with
  |false=>exact iteT (fin H1 s1)
  |true=>
   refine iteF ?_;have ht1:=s1 _ _ ht;refine⟨_,rfl,t,_,_,_,rfl,rfl,.of ht1,rfl,q.2.1,1,1000000000,rfl,_,rfl,?_⟩;cases gw:(decide ((1:Int)<=q.2.1)&&decide (q.2.1<=1000000000)) with
   |false=>exact iteT (fin H1 s1)
   |true=>
    refine iteF ?_;simp only[az',b_9] at gw;obtain⟨ws,ew,bw⟩:∃ws,q.2.2=some ws/\¬cn' ts ws:=e_1 λz=>bad ⟨gn,gw.1,gw.2,λws e=>e_1 λy=>z ⟨ws,e,y⟩⟩;rw[ew] at wy;obtain⟨l64,ln⟩:=sh.2 ws ew;exact⟨_,rfl,t,_,_,_,rfl,rfl,.of ht1,rfl,_,rfl,t,_,_,_,rfl,rfl,.of ht1,rfl,_,rfl,_,rfl,t,_,_,_,rfl,rfl,.of ht1,rfl,p,v,ws,hs,ts,fp,rfl,W.same s1,G,wy.same s1,l64,ln,bw,λH' s'=>k H' (s1.trans s')⟩
def eb'(K:F__)(C CN:Addr):Sp:=λvs H Q E=>cD' K C vs H Q E∨ec' K C CN vs H Q E
def eH'(ts:Xb)(ps:List Pc):Prop:=(∀q∈ps,bV' ts q)/\(ps.map (·.1)).Nodup
inductive dc' (K:F__) (C CN:Addr) (vs:List V) (H:Hp) (E:XK):Prop
 |mk:∀(p l:Addr) (ys:List V) (ps:List Pc) (hs:Xa) (ts:Xb) (fp:List Addr),vs=[.ref p,.ref l]->bD' K C H p hs ts fp->Good hs ts->H l=some (.lst ys)->b0' K H ys ps->(∀q∈ps,dA' q)->ps.length<64->¬eH' ts ps->(∀H',Same H H'->E (.ref CN) none H')->dc' K C CN vs H E
def cQ'(K:F__)(C CN:Addr):Sp:=λvs H _ E=>dc' K C CN vs H E
theorem fI_{f C CN:Addr}(F:Fun K "checked_pieces" "checked_pieces" cZ' f fd)(B:Bi mg)(R:Ref K mg "NoGoods" CN)(cP:CalF P w K mg base 5 "checked_piece" ["web","piece"] (eb' K C CN)):FnOk P w K mg base (CX1 P w) 6 f fd ["web","pieces"] (cQ' K C CN):=by
 refine F.okQA bF' λcdv A outer s H vs Q E hr h own pss rs=>?_
 ·obtain⟨p,l,ys,ps,hs,ts,fp,rfl,W,G,hl,pc,sh,h64,bad,k⟩:=h;have hu:=br_ hr;have sz:=b__;have le:=a_1 pc
  refine⟨_,a3_ (aw_ (aH_ (aK_ (a7_ aQ_ (by rfl) B.isi ab_ (a0_ (pv 1) (a0_ (b1_ (v:=.ty "list") (by rfl) B.list bm_ rfl) a2_))))) ac_ aa_)
   (a3_ (ao_ 2 bF'.nd bM_)
   (a3_ (b3_ own rfl (ah_ (pv 1)) (b5_ 3 bF'.nd)
    (a3_ (ao_ 4 bF'.nd (fW_ cP hr pss (a0_ (pv 0) (a0_ (pv 3) a2_))))
    (a3_ (aw_ (bg_ (cX_ hu (aj_ aO_ (pv 4) a4_ (λ_ _=>rfl)) (pv 2))) (a5_ (aU_ rfl rs R.mg R.ex a_9 (by rfl) (a0_ a9_ a2_))) aa_)
    (a5_ (c0_ hu (pv 2) (aj_ aO_ (pv 4) a4_ (λ_ _=>rfl)) (pv 4) rfl)))))
   ac_)),?_⟩
  have fin:∀H',Same H H'->1<=sizeLine/\E (.ref CN) none H':=λH' s=>⟨by decide,k H' s⟩;refine⟨_,rfl,_,_,_,_,rfl,.lst hl,rfl,_,rfl,iteF ?_⟩;intro d hd;have s0:Same H (upd H d (.dK [])):=Same.new hd;refine⟨_,rfl,l,rfl,⟨_,.of (s0 _ _ hl)⟩,aV_ (K:=K) (a:=l) (xs:=ys) (λi σ H2=>∃(v3 v4:Option V) (kvs:List (Key × V)),σ=[some (.ref p),some (.ref l),some (.ref d),v3,v4]/\Same H H2/\(∀q∈ps.take i,bV' ts q)/\((ps.take i).map (·.1)).Nodup/\H2 d=some (.dK kvs)/\kvs.map (·.1)=((ps.take i).map (·.1)).map Sum.inr) ⟨none,none,[],rfl,s0,λq hq=>by simp at hq,by simp,a1_,rfl⟩ (λi σ H2 _ ⟨_,_,_,_,s2,_⟩=>.of (s2 _ _ hl)) ?_ ?_⟩
  ·rintro i y σ H2 hy ⟨v3,v4,kvs,rfl,s2,ga,gn,hd2,keys⟩;have hi:i<ys.length:=(ab'.mp hy).1;have hq:ps[i]? = some (ps[i]' Z1):=ae' Z1;have py:=aA_ pc i hi Z1;rw[(ab'.mp hy).2] at py;generalize ps[i]' Z1=q at hq py;have qm:=ad' hq;by_cases g:bV' ts q;rotate_left 1
   ·exact⟨_,rfl,_,rfl,.inr ⟨p,y,q,hs,ts,fp,rfl,W.same s2,G,py.same s2,sh q qm,g,λH' s'=>k H' (s2.trans s')⟩⟩
   refine⟨_,rfl,_,rfl,.inl ⟨p,y,q,hs,ts,fp,rfl,W.same s2,G,py.same s2,g,λy' H3 s3 pw=>?_⟩⟩;obtain⟨t,v,rfl,ht,wy,hf⟩:=pw;have hd3:=s3 _ _ hd2;refine⟨_,rfl,t,_,_,_,rfl,rfl,.of ht,rfl,_,rfl,d,_,rfl,.k (k:=Sum.inr q.1) hd3,_,rfl,?_⟩;by_cases nx:q.1∈(ps.take i).map (·.1)
   ·rw[ce_ (by rw[keys];exact ac'.mpr ⟨_,nx,rfl⟩)];exact iteT (fin H3 (s2.trans s3))
   have nov:valV kvs (Sum.inr q.1)=none:=aP_ (by
    rw[keys];intro m;obtain⟨x,hx,e⟩:=ac'.mp m;cases e;exact nx hx)
   rw[nov];refine iteF ?_;have lk:=c_1 List.length keys;rw[aa',aa',aa',af'] at lk;refine⟨_,rfl,_,rfl,_,rfl,t,_,_,_,rfl,rfl,.of ht,rfl,d,_,rfl,.k (k:=Sum.inr q.1) hd3 Z1,?_⟩;refine⟨_,_,_,rfl,λc o e=>?_,cN_ ga hq g,fG_ gn hq nx,a1_,?_⟩
   ·rw[a8_ (a6_ e hd)];exact (s2.trans s3) _ _ e
   ·rw[bw_ _ nov,ag',keys,aq_ _ hq,ag'];rfl
  ·rintro σ H2 ⟨v3,v4,kvs,rfl,s2,ga,gn,hd2,keys⟩;rw[le,an'] at ga gn;exact absurd ⟨ga,gn⟩ bad
inductive ee' (K:F__) (CW CN:Addr) (vs:List V) (H:Hp) (E:XK):Prop
 |mk:∀(g p l:Addr) (ys:List V) (ps:List Pc) (hs:Xa) (ts:Xb) (fpw:List Addr),vs=[.ref g,.ref p,.ref l]->bD' K CW H p hs ts fpw->Good hs ts->H l=some (.lst ys)->b0' K H ys ps->(∀q∈ps,dA' q)->ps.length<64->¬eH' ts ps->(∀H',Same H H'->E (.ref CN) none H')->ee' K CW CN vs H E
def dN'(K:F__)(CW CN:Addr):Sp:=λvs H _ E=>ee' K CW CN vs H E
theorem i9_{f CN:Addr}(F:Fun K "__init__" "Goods.__init__" eF' f fd)(TW:Txt K mg CW)(IW:InsK K CW)(B:Bi mg)(mWeb:mg "Web"=some (.ref CW))(cP:CalF P w K mg base 6 "checked_pieces" ["web","pieces"] (cQ' K CW CN)):FnOk P w K mg base (CX1 P w) 7 f fd ["self","web","pieces"] (dN' K CW CN):=by
 refine F.okQA dV' λcdv A outer s H vs Q E hr h own pss rs=>?_
 ·obtain⟨g,p,l,ys,ps,hs,ts,fpw,rfl,W,G,hl,pc,sh,h64,bad,k⟩:=h
  refine⟨_,a3_ (aw_ (aH_ (aK_ (a7_ fn_ (by rfl) B.isi ab_ (a0_ (pv 1) (a0_ (bd_ (v:=.ref CW) (by rfl) mWeb rfl) a2_))))) ac_ aa_)
   (a3_ (ao_ 3 dV'.nd (fW_ cP hr pss (a0_ (pv 1) (a0_ (pv 2) a2_)))) ac_),?_⟩
  obtain⟨dxw,d1,l2,d3,zs0,as,ef,w1,_⟩:=id W.ex;refine⟨_,rfl,_,_,_,_,rfl,.ins w1 TW.cl IW.ha IW.hn IW.tk IW.mo,gh_ _ _,_,rfl,iteF ?_⟩;exact⟨_,rfl,_,rfl,p,l,ys,ps,hs,ts,fpw,rfl,W,G,hl,pc,sh,h64,bad,k⟩
end
variable{CN CT:Addr}
section
variable{P:Ae}{w:Ag}{K:F__}{mg:Str->Option Aa}{base:Heap}
def cP'(K:F__)(CT:Addr):Sp:=λvs H _ E=>∃(l:Addr) (ys:List V) (wss:List (List Str)),vs=[.ref l]/\H l=some (.lst ys)/\RwAt H ys wss/\wss.length<64/\(∀ws∈wss,WsOk ws)/\(∀ws∈wss,isW "piece" ws=true->WpOk ws)/\Good (bg' wss) (bq' wss)/\(∀q∈bc' wss,dA' q)/\¬eH' (bq' wss) (bc' wss)/\∀H',Same H H'->E (.ref CT) none H'
theorem fU_{f:Addr}(F:Fun K "goods_in" "goods_in" cu' f fd)(B:Bi mg)(R:Ref K mg "NoGoods" CN)(RT:Ref K mg "NoText" CT)(xm:PySem.W.exmOne K (.ref CN) (.ref CN)=some true)(cI:Cal P w K mg base 7 "web_in" ["rows"] (dW' K CW))(cY:Cal P w K mg base 1 "ways_in" ["word"] c2')(cG:CalK P w K mg base CG 7 "Goods" ["self","web","pieces"] (dN' K CW CN)):FnOk P w K mg base (CX2 P w) 9 f fd ["rows"] (cP' K CT):=by
 refine F.okTA bA' λcdv A outer s H vs Q E hr h hp ro rm=>?_
 ·obtain⟨l,ys,wss,rfl,hl,rw0,l64,ok,okp,G,sh,bad,k⟩:=h;have l1000:wss.length<=1000:=by omega
  have sz:=b__;have hr1:Room 1 _:=hr.mono (by decide);have hr7:Room 7 _:=hr.mono (by decide);refine' ⟨_,a3_ ?s1 (a3_ ?s2 (a5_ ?s3)),?kk⟩
  case s1=>exact ao_ 1 bA'.nd (al_ cI hr7 (a0_ (pv 0) a2_))
  case' s2=>refine' bO_ (i:=2) ["words"] 1 [] bA'.nd rfl (Or.inl rfl) (ah_ (pv 0)) (λfp s H=>aY_ 0) (λfp s H=>?t1) (λfp s H=>?e1)
  case t1=>exact bR_ (ar_ bj_ (aj_ (ixK (K:=K) rIxL ad_) (pv 0) a4_ (λ_ _=>rfl)) a9_ (nomark _))
  case e1=>exact b9_ (a0_ (aj_ (ixK (K:=K) rIxL ad_) (pv 0) a4_ (λ_ _=>rfl)) (a0_ (ax_ bv_ (by rfl) B.int ea_ (a0_ (aj_ (ixK (K:=K) rIxL ad_) (pv 0) a4_ (λ_ _=>rfl)) a2_)) (a0_ (al_ cY hr1 (a0_ (aj_ (ixK (K:=K) rIxL ad_) (pv 0) a4_ (λ_ _=>rfl)) a2_)) a2_)))
  case s3=>exact fH_ (i:=3) bA'.nd rfl rfl rfl rfl rfl (by rfl) R.mg xm ro (by rfl) RT.mg RT.ex R.ex (λa=>a0_ a9_ a2_) (λE' W pn ps'=>a5_ (ae_ (kd_ cG hr ps' (a0_ (pv 1) (a0_ (pv 2) a2_)))))
  case' kk=>skip
  refine⟨_,rfl,l,ys,wss,rfl,hl,rw0,l1000,ok,G,λp fpw H0 s0 np W0 fr0=>?_⟩;refine setG ?_;dsimp only;refine⟨_,rfl,l,rfl,⟨_,.of (s0 _ _ hl)⟩,λD hD=>?_⟩;refine an_ (own:=1) (fv:=[]) (xs:=ys) rfl gok1 (λi out H'=>Same H0 H'/\H' D=some (.lst out)/\∀u,b0' K (upd H' D u) out (bc' (wss.take i))) ⟨Same.new hD,a1_,λu=>.nil⟩ (λi out H' _ ⟨sm,_,_⟩=>.of (sm _ _ (s0 _ _ hl))) (λout H1 ⟨s1,hD1,tu1⟩=>?_) (λi y out H' hy ⟨sm,hd,tz⟩=>?_);rotate_left
  ·obtain⟨ws,a,hw,rfl,ha⟩:=e4_ (rw0.same s0) hy;have o:=ok ws (ad' hw);refine⟨_,rfl,rfl,λNx hN=>?_⟩;refine⟨_,rfl,a,_,_,_,rfl,rfl,.of (sm _ _ ha),atS (i:=0) o.ne,rfl,_,rfl,?_⟩;rw[b6_];refine ite2 (λc=>?_) (λc=>?_)
   ·have op:=okp ws (ad' hw) c;obtain⟨n,en⟩:=op.int;have l5:=op.l5;refine⟨_,rfl,a,_,_,_,rfl,rfl,.of (sm _ _ ha),atS (i:=1) Z1,_,rfl,a,_,_,_,rfl,rfl,.of (sm _ _ ha),atS (i:=2) Z1,_,n,rfl,op.i640,en,_,rfl,a,_,_,_,rfl,rfl,.of (sm _ _ ha),atS (i:=4) Z1,_,rfl,op.w4,λv H2 s2 wy fr=>?_⟩;have wa:=hw_ (K:=K) wy op.two;refine⟨by show 3<=sizeLine;decide,λt nt=>?_⟩;have s5:=Same.new (o:=.tup [.str (ws.getD 1 ""),.int n,v]) nt
    have e5:upd H2 t (.tup [.str (ws.getD 1 ""),.int n,v]) t=some (.tup [.str (dv' ws).1,.int (dv' ws).2.1,v]):=by
     rw[a1_];show _=some (HO.tup [.str (ws.getD 1 ""),.int ((PySem.intText? (ws.getD 2 "")).getD 0),v]);rw[en];rfl
    generalize upd H2 t (.tup [.str (ws.getD 1 ""),.int n,v])=H5 at s5 e5 ⊢;have s25:=s2.trans s5;have lo:=a_1 (tz (.lst []));have:=cm_ (wss.take i);rw[af'] at this;have hD5:=s25 _ _ hd;refine⟨out,hD5,by omega,hN (out++[.ref t]) _ ⟨aB_ (sm.trans s25) hD,a1_,λu=>?_⟩⟩;rw[aL_ hw,c1_,b_0 (show isW "piece" ws=true from c),dC_];refine aN_ (dk_ (tz u) (dM_ s25)) (.cons ⟨t,v,rfl,?_,kk_ (wa.same s5) hD5 λa z e=>?_⟩ .nil)
    ·rw[a8_ (λz=>by rw[z,hD5] at e5;cases e5)];exact e5
    ·have:=fr a z;rw[e,hd] at this;cases this
   ·refine hN out _ ⟨sm,hd,?_⟩;rw[aL_ hw,c1_,a_8 (show ¬isW "piece" ws=true from c),aF'];exact tz
  have le:=a_1 rw0;rw[le,an'] at tu1;refine setG ?_;dsimp only;have pcs:=tu1 (.lst out);rw[eR_ hD1] at pcs;refine⟨_,rfl,_,rfl,λg dg hg hdg neg=>?_⟩;have ga:Same H1 (upd H1 dg (.own g)):=Same.new hdg;have gb:Same (upd H1 dg (.own g)) (upd (upd H1 dg (.own g)) g (.ins CG dg [])):=Same.new (by rw[a8_ (λz=>neg z.symm)];exact hg);have gx:=ga.trans gb;generalize upd (upd H1 dg (.own g)) g (.ins CG dg [])=Hx at gx ⊢;have pl:=cm_ wss;have s1x:=s1.trans gx;exact⟨g,p,D,out,bc' wss,bg' wss,bq' wss,fpw,rfl,W0.same s1x,G,gx _ _ hD1,dk_ pcs gx,sh,by omega,bad,λH' s'=>⟨rfl,λσ=>⟨by show 1<=sizeLine;decide,k H' ((s0.trans s1x).trans s')⟩⟩⟩
end
theorem hR_{x:Str}(h:figB x=true):x.length<=10/\∃n,PySem.intText? x=some n:=by
 unfold figB at h;simp only[az',b_9,aQ'] at h;obtain⟨⟨⟨h1,h10⟩,hd⟩,_⟩:=h;refine⟨h10,_,intText_digits (λc hc=>?_) (λz=>?_) Z1⟩
 ·have:=hd c hc;unfold okd at this;simpa using this
 ·have:x.cps.toList.length=x.length:=rfl;rw[z] at this;simp at this;omega
variable{ws:List Str}
theorem k6_(h:rowB ws=true)(wl:∀x∈ws,x.length<=50000):WsOk ws/\(isW "piece" ws=true->WpOk ws):=by
 unfold rowB at h;have ne1:("hand":Str)≠"tie":=by decide
 have ne2:("hand":Str)≠"piece":=by decide
 have ne3:("tie":Str)≠"piece":=by decide
 by_cases c1:ws.getD 0 ""="hand"
 ·rw[b_0 c1] at h;simp only[az',b_9] at h;obtain⟨l3,fg⟩:=h;obtain⟨l10,n,en⟩:=hR_ fg;refine⟨⟨by omega,λ_=>⟨by omega,by omega,n,en⟩,λz=>by omega⟩,λz=>?_⟩;have z:=c_3 z;exact absurd (c1.symm.trans z) ne2
 ·rw[a_8 c1] at h;by_cases c2:ws.getD 0 ""="tie"
  ·rw[b_0 c2] at h;have l3:=c_3 h;refine⟨⟨by omega,λz=>absurd (c_3 z) c1,λz=>by omega⟩,λz=>?_⟩;have z:=c_3 z;exact absurd (c2.symm.trans z) ne3
  ·rw[a_8 c2] at h;by_cases c3:ws.getD 0 ""="piece"
   ·rw[b_0 c3] at h;simp only[az',b_9] at h;obtain⟨l5,fg,wy⟩:=h;obtain⟨l10,n,en⟩:=hR_ fg;refine⟨⟨by omega,λz=>absurd (c_3 z) c1,λz=>absurd (c_3 z) c2⟩,λ_=>⟨by omega,by omega,⟨n,en⟩,bJ_ wl,λn1 n2 p hp=>?_⟩⟩;unfold dl' at wy;rw[a_4 n1,a_4 n2,Bool.false_or,Bool.false_or,aQ'] at wy;have:=wy p hp;unfold dp' pairB at this;split at this
    ·rename_i e
     rw[e];rfl
    ·cases this
   ·rw[a_8 c3] at h;cases h
theorem ee_{x:Str}(hz:x.length<=50000):∀ws∈rowsT x,∀y∈ws,y.length<=50000:=λws hw y hy=>by
 obtain⟨r,hr,rfl⟩:=ac'.mp hw;have h1:=c_5 hr;have h2:=c_5 hy;omega
theorem kB_(x:Str):∀ws∈rowsT x,ws≠[]:=λws hw z=>by
 obtain⟨r,hr,rfl⟩:=ac'.mp hw;have:=PyProof.Rows.split_len r 32;rw[show (⟨#[32]⟩:Str)=" " from rfl,z] at this;unfold PyProof.Rows.cnt at this;have h0:=PyProof.Rows.countIn_zero_le (.str ⟨#[32]⟩) (r.cps.toList.map λn=>PyData.str ⟨#[n]⟩);rw[List.length_nil] at this;change ((0:Nat):Int)=_ at this;omega
variable{hs:Xa}
theorem iB_{ts:Xb}{ps qs:List Pc}(G:Good hs ts)(gp:∀q∈ps,bV' ts q)(Qq:Qs ps qs){q:Pc}(hq:q∈qs):PcT q:=by
 obtain⟨p,hp,rfl⟩:=Qq.mem q hq;have g:=gp p hp
 have a:∀ws,(nrm p).2.2=some ws->ws.length<=63/\∀t∈ws,t.1.length<=8/\t.2.length<=8:=λws e=>by
  have e:p.2.2.map tsOf=some ws:=e;cases o:p.2.2 with
  |none=>rw[o] at e;cases e
  |some us=>
   rw[o] at e;cases e;have w:=g.ws us o;refine⟨?_,λt ht=>?_⟩
   ·have:=w.len;have:=G.t64;rw[aX_];omega
   ·obtain⟨u,hu,rfl⟩:=bp'.mp ht;have:=w.good u hu;rcases bi_ u.1 u.2 with z|z
    ·rw[z];exact⟨ag_ this.1,ag_ this.2.1⟩
    ·rw[z];exact⟨ag_ this.2.1,ag_ this.1⟩
 refine⟨ag_ g.nm,by have:=g.w1;show 0<=p.2.1;omega,by have:=g.w2;show p.2.1<10 ^ 10;omega,λws e=>⟨by have:=(a ws e).1;omega,(a ws e).2⟩,by have:=dx_ a;omega⟩
variable{f0:Addr}
section
variable{P:Ae}{w:Ag}{K:F__}{mg:Str->Option Aa}{base:Heap}
def dy'(K:F__)(CG CW CT:Addr):Sp:=λvs H Q E=>ct' K CG CW vs H Q E∨cj' K CT vs H Q E∨cP' K CT vs H Q E
def eP'(K:F__)(CG CW CT:Addr):Sp:=λvs H Q E=>bs' K CG CW vs H Q E∨eN' K CG CW CT vs H Q E
def Told(x:Str)(f:Str->Str):Prop:=TxOk (rowsT x) f/\∃qs,Qs (bc' (rowsT x)) qs/\bW' (bg' (rowsT x)) (bq' (rowsT x)) qs f=x
def b7'(CT:Addr):Sp:=λvs H _ E=>∃(x:Str) (f:Str->Str),vs=[.str x]/\x.length<=50000/\(rowsT x).length<64/\(∀q∈bc' (rowsT x),dA' q)/\(((bc' (rowsT x)).map (·.1)).Nodup->∀ws∈rowsT x,isW "piece" ws=true->f (ws.getD 1 "")=ws.getD 3 "")/\¬Told x f/\∀H',Same H H'->E (.ref CT) none H'
theorem eK_(F:Fun K "read_goods" "read_goods" bX' f0 fd)(B:Bi mg)(RT:Ref K mg "NoText" CT)(cW:Cal P w K mg base 1 "words_of_rows" ["text"] cL')(cR:Cal P w K mg base 4 "is_row_of_goods" ["words"] (d0' K))(cI:CalG P w K mg base 9 "goods_in" ["rows"] (dy' K CG CW CT))(cA:CalG P w K mg base 5 "text_again" ["goods","stand"] (eP' K CG CW CT)):FnOk P w K mg base (CX2 P w) 10 f0 fd ["text"] (b7' CT):=by
 refine F.okTA bm' λcdv A outer s H vs Q E hr h hp ro rm=>?_
 ·obtain⟨x,f,rfl,hz,l64,shp,ff0,bad,k⟩:=h;unfold Told at bad;have sz:=b__;have hr1:Room 1 _:=hr.mono (by decide);have hr4:Room 4 _:=hr.mono (by decide);have hr5:Room 5 _:=hr.mono (by decide);refine' ⟨_,?r0,?kk⟩
  case' r0=>refine' a3_ ?s1 ?r1
  case' r1=>refine' a3_ ?s2 ?r2
  case' r2=>refine' a3_ ?s3 ?r3
  case' r3=>refine' a3_ ?s4 (a3_ ?s5 ac_)
  case s1=>exact ao_ 1 bm'.nd (al_ cW hr1 (a0_ (pv 0) a2_))
  case' s2=>refine' aw_ (aH_ (aK_ (a7_ (cZ_ rfl) (by rfl) B.all ft_ (a0_ (aR_ ["words"] 1 [] (ah_ (pv 1)) (λfp s H=>aY_ 0) (λfp s H=>aT_) (λfp s H=>?e1)) a2_)))) (a5_ (aU_ rfl rm RT.mg RT.ex a_9 (by rfl) (a0_ a9_ a2_))) aa_
  case e1=>exact al_ cR hr4 (a0_ (pv 0) a2_)
  case s3=>exact ao_ 2 bm'.nd (i3_ cI hr hp (a0_ (pv 1) a2_))
  case' s4=>refine' ao_ 3 bm'.nd (ax_ (bk_ rfl) (by rfl) B.dict cd_ (a0_ (aR_ ["words"] 1 [] (ah_ (pv 1)) (λfp s H=>aY_ 0) (λfp s H=>?t2) (λfp s H=>?e2)) a2_))
  case t2=>exact bR_ (ar_ bj_ (aj_ (ixK (K:=K) rIxL ad_) (pv 0) a4_ (λ_ _=>rfl)) a9_ (nomark _))
  case e2=>exact b9_ (a0_ (aj_ (ixK (K:=K) rIxL ad_) (pv 0) a4_ (λ_ _=>rfl)) (a0_ (aj_ (ixK (K:=K) rIxL ad_) (pv 0) a4_ (λ_ _=>rfl)) a2_))
  case s5=>exact aw_ (ar_ e6_ (i3_ cA hr5 hp (a0_ (pv 2) (a0_ (pv 3) a2_))) (pv 0) (nomark _)) (a5_ (aU_ rfl rm RT.mg RT.ex a_9 (by rfl) (a0_ a9_ a2_))) aa_
  case' kk=>skip
  refine⟨_,rfl,x,rfl,hz,λl ys H1 s1 nl hl rw1=>?_⟩;have wl:=ee_ (x:=x) hz;have ne0:=kB_ x;generalize rowsT x=wss at l64 shp ff0 bad rw1 wl ne0;refine setG ?_;dsimp only;have le:=a_1 rw1;have l1000:wss.length<=1000:=by omega
  have fin:∀H',Same H H'->1<=sizeLine/\E (.ref CT) none H':=λH' s'=>⟨by decide,k H' s'⟩;refine⟨_,rfl,l,rfl,⟨_,.of hl⟩,λD hD=>?_⟩;refine an_ (own:=1) (fv:=[]) (xs:=ys) rfl gok1 (λi out H'=>Same H1 H'/\H' D=some (.lst out)/\out=((wss.take i).map rowB).map V.bl) ⟨Same.new hD,a1_,rfl⟩ (λi out H' _ ⟨sm,_,_⟩=>.of (sm _ _ hl)) (λout H2 ⟨s2,hd2,eo⟩=>?_) (λi y out H' hy ⟨sm,hd,eo⟩=>?_);rotate_left
  ·obtain⟨ws,a,hw,rfl,ha⟩:=e4_ rw1 hy;have wm:=ad' hw;have ne:=ne0 ws wm;refine⟨_,rfl,rfl,λNx hN=>yesT ?_⟩;refine⟨_,rfl,a,ws,rfl,sm _ _ ha,ne,wl ws wm,λH2 s2=>⟨out,s2 _ _ hd,?_,hN _ _ ⟨aB_ (sm.trans s2) hD,a1_,?_⟩⟩⟩
   ·rw[eo,aa',aa',af'];omega
   ·rw[eo,aL_ hw,ag',ag'];rfl
  rw[le,an'] at eo;rw[eo] at hd2;refine⟨D,wss.map rowB,rfl,.of hd2,_,rfl,?_⟩;by_cases row:∀ws∈wss,rowB ws=true;rotate_left 1
  ·have al:(wss.map rowB).all id=false:=by
    rw[Bool.eq_false_iff,List.all_map];intro z;rw[aQ'] at z;exact row z
   refine ite2 (λ_=>fin _ (s1.trans s2)) (λc=>?_);have c:¬(!((wss.map rowB).all id))=true:=c;rw[al] at c;exact absurd rfl c
  have al:(wss.map rowB).all id=true:=by
   rw[List.all_map,aQ'];exact row
  refine ite2 (λc=>?_) (λc=>?_)
  ·have c:(!((wss.map rowB).all id))=true:=c;rw[al] at c;cases c
  have okW:∀ws∈wss,WsOk ws:=λws hw=>(k6_ (row ws hw) (wl ws hw)).1;have okP:∀ws∈wss,isW "piece" ws=true->WpOk ws:=λws hw=>(k6_ (row ws hw) (wl ws hw)).2;have hl2:=s2 _ _ hl;have rw2:=rw1.same s2;by_cases Gd:Good (bg' wss) (bq' wss);rotate_left 1
  ·exact⟨_,rfl,.inr (.inl ⟨l,ys,wss,rfl,hl2,rw2,l64,okW,wl,Gd,λH' s'=>k H' ((s1.trans s2).trans s')⟩)⟩
  by_cases gps:eH' (bq' wss) (bc' wss);rotate_left 1
  ·exact⟨_,rfl,.inr (.inr ⟨l,ys,wss,rfl,hl2,rw2,l64,okW,okP,Gd,shp,gps,λH' s'=>k H' ((s1.trans s2).trans s')⟩)⟩
  obtain⟨gp,nd⟩:=gps;have ff:=ff0 nd;have pl:=cm_ wss;refine⟨_,rfl,.inl ⟨l,ys,wss,rfl,hl2,rw2,l1000,okW,okP,Gd,gp,nd,by omega,λg p qs fp H3 s3 ng GA Qq fr=>?_⟩⟩;refine setG ?_;dsimp only;have hl3:=s3 _ _ hl2;have rw3:=rw2.same s3;have s03:=(s1.trans s2).trans s3;refine⟨_,rfl,l,rfl,⟨_,.of hl3⟩,λD2 hD2=>?_⟩;refine an_ (own:=1) (fv:=[]) (xs:=ys) rfl gok1 (λi out H'=>Same H3 H'/\H' D2=some (.lst out)/\bE' K H' out ((cH' (wss.take i)).map kvS)) ⟨Same.new hD2,a1_,.nil⟩ (λi out H' _ ⟨sm,_,_⟩=>.of (sm _ _ hl3)) (λout H4 ⟨s4,hd4,pa⟩=>?_) (λi y out H' hy ⟨sm,hd,tz⟩=>?_);rotate_left
  ·obtain⟨ws,a,hw,rfl,ha⟩:=e4_ rw3 hy;have wm:=ad' hw;refine⟨_,rfl,rfl,λNx hN=>?_⟩;refine⟨_,rfl,a,_,_,_,rfl,rfl,.of (sm _ _ ha),atS (i:=0) (okW ws wm).ne,rfl,_,rfl,?_⟩;rw[b6_];refine ite2 (λc=>?_) (λc=>?_)
   ·have l5:=(okP ws wm c).l5;refine⟨_,rfl,a,_,_,_,rfl,rfl,.of (sm _ _ ha),atS (i:=1) Z1,_,rfl,a,_,_,_,rfl,rfl,.of (sm _ _ ha),atS (i:=3) Z1,by show 2<=sizeLine;decide,λt nt=>?_⟩;obtain⟨s5,e5⟩:=nw__ (o:=.tup [.str (ws.getD 1 ""),.str (ws.getD 3 "")]) nt;generalize upd H' t (.tup [.str (ws.getD 1 ""),.str (ws.getD 3 "")])=H5 at s5 e5 ⊢;have lo:=a_1 tz;have:=fo_ (wss.take i);rw[aa'] at lo;rw[af'] at this;have hD5:=s5 _ _ hd
    have pD:∀{b:Addr} {zs:List V},H5 b=some (.tup zs)->b≠D2:=λhb z=>by
     rw[z,hD5] at hb;cases hb
    refine⟨out,hD5,by omega,hN (out++[.ref t]) _ ⟨aB_ (sm.trans s5) hD2,a1_,?_⟩⟩;rw[aL_ hw,cq_,b_0 (show isW "piece" ws=true from c),ag'];exact aN_ (Paired.mapP tz λy kv ⟨b,z,hb⟩=>⟨b,z,by rw[a8_ (pD (s5 _ _ hb))];exact s5 _ _ hb⟩) (.cons ⟨t,rfl,by rw[a8_ (pD e5)];exact e5⟩ .nil)
   ·refine hN out _ ⟨sm,hd,?_⟩;rw[aL_ hw,cq_,a_8 (show ¬isW "piece" ws=true from c),aF'];exact tz
  rw[le,an',gt_ ff] at pa;have h64:(bc' wss).length<64:=by omega
  refine⟨D2,out,_,rfl,hd4,pa,by rw[bQ_,aa'];omega,λd hd=>?_⟩
  have ndk:((stF ((bc' wss).map (·.1)) f).map (·.1)).Nodup:=by
   rw[dp_,aO',aK'];exact nd.imp λn e=>n (d__ e)
  rw[bC_ ndk];obtain⟨s5,e5⟩:=nw__ (o:=.dK (stF ((bc' wss).map (·.1)) f)) hd;refine setG ?_;dsimp only;generalize upd H4 d (.dK (stF ((bc' wss).map (·.1)) f))=H5 at s5 e5 ⊢;have s35:=s4.trans s5;have d3:H3 d=none:=s4.free hd;obtain⟨fp',GA',al'⟩:=GA.slim2
  have dfp:d∉fp':=λm=>by
   obtain⟨⟨o,e⟩,_⟩:=al' d m;rw[d3] at e;cases e
  by_cases at_:∀n∈(bc' wss).map (·.1),f n∈(bg' wss).map (·.1);rotate_left 1
  ·obtain⟨n,hn,hf⟩:∃n,n∈(bc' wss).map (·.1)/\f n∉(bg' wss).map (·.1):=by
    refine e_1 λz=>at_ λn hn=>e_1 λy=>z ⟨n,hn,y⟩
   exact⟨_,rfl,_,rfl,.inr ⟨g,p,.ref d,_,_,qs,fp',rfl,GA'.same s35,.inr ⟨d,_,f,rfl,dfp,e5,.inl ⟨n,hn,.inr hf⟩⟩,λH' s'=>k H' (s03.trans (s35.trans s'))⟩⟩
  have S:Std K CG CW H5 g p d (bg' wss) (bq' wss) qs fp' ((bc' wss).map (·.1)) f:=by
   refine⟨GA'.same s35,Gd,dfp,e5,⟨?_,at_⟩,Qq.nd nd,?_,λq hq=>?_⟩
   ·rw[Qq.nms];exact (aG_ _).symm
   ·have:=Qq.len;omega
   ·obtain⟨p',hp',rfl⟩:=Qq.mem q hq;have:=(gp p' hp').w1;show 0<=p'.2.1;omega
  refine⟨_,rfl,_,rfl,.inl ⟨g,p,d,_,_,qs,fp',_,f,rfl,S,λq hq=>iB_ Gd gp Qq hq,λH6 s6=>?_⟩⟩;refine⟨_,rfl,rfl,_,rfl,?_⟩;refine ite2 (λ_=>fin _ (s03.trans (s35.trans s6))) (λc=>?_);have eq:bW' (bg' wss) (bq' wss) qs f=x:=by simpa using c
  exact absurd ⟨⟨l1000,row,wl,okW,okP,Gd,gp,nd,by omega,ff,at_⟩,qs,Qq,eq⟩ bad
end
def d6'(f:Str->Str)(ps:List Pc)(n:Str):Str:=match ps.find? λp=>decide (p.1=n) with
 |some p=>bj' f (nrm p)
 |none=>""
variable{p:Pc}
theorem gg_{f:Str->Str}{ps:List Pc}(nd:(ps.map (·.1)).Nodup)(h:p∈ps):d6' f ps p.1=bj' f (nrm p):=by
 unfold d6';cases e:ps.find? λq=>decide (q.1=p.1) with
 |none=>
  have:=List.find?_eq_none.mp e p h;simp at this
 |some q=>
  have a:=List.mem_of_find?_eq_some e;have b:=List.find?_some e;have b:q.1=p.1:=c_3 b;rw[f4_ nd a h b]
theorem jB_{f:Str->Str}{ps qs:List Pc}(Q:Qs ps qs)(nd:(ps.map (·.1)).Nodup):(qs.map (·.1)).map (d6' f ps)=qs.map (bj' f):=by
 rw[ao'];refine ay' λq hq=>?_;obtain⟨p,hp,rfl⟩:=Q.mem q hq;exact gg_ (p:=p) nd hp
theorem fT_(f:Str->Str)(p:Pc):Txt.join " " ["piece",p.1,((toString p.2.1:Ai):Str),f p.1,bn' (p.2.2.map tsOf)]=bj' f (nrm p):=(bE_ _ _ _ _).symm
variable{ns:List Str}{n:Str}
theorem dg{H:Hp}{d:Addr}{f:Str->Str}(h:H d=some (.dK (stF ns f)))(m:n∈ns):DGet H d (.str n) (some (.str (f n))):=by
 have:=DGet.k (k:=Sum.inr n) h;rw[hM_ m] at this;exact this
theorem wlen{ts:Xb}(t64:ts.length<64)(g:bV' ts p):(bn' (p.2.2.map tsOf)).length<=1134:=by
 refine dx_ λws e=>?_;cases z:p.2.2 with
 |none=>rw[z] at e;cases e
 |some w0=>
  rw[z] at e;have e:tsOf w0=ws:=b_2 e;subst e;have w:=g.ws w0 z;have:=w.len;refine⟨by rw[aX_];omega,λt ht=>?_⟩;have gg:=bq_ (hs:=[]) w.good ht;exact⟨ag_ gg.1,ag_ gg.2.1⟩
section
variable{P:Ae}{w:Ag}{K:F__}{mg:Str->Option Aa}{base:Heap}
theorem bw':ba' ["_law_pieces_here","_law_stand_here","_law_rows","_law_name","_law_weight","_law_ways_here","_law_words"] ["_law_pieces_here","_law_stand_here"] (a9' co'):=f__
inductive bO' (K:F__) (vs:List V) (H:Hp) (Q:VK) (E:XK):Prop
 |mk:∀(lp d:Addr) (yp:List V) (ps qs:List Pc) (ts:Xb) (f:Str->Str),vs=[.ref lp,.ref d]->H lp=some (.lst yp)->b0' K H yp ps->H d=some (.dK (stF (ps.map (·.1)) f))->ts.length<64->(∀q∈ps,bV' ts q)->(ps.map (·.1)).Nodup->ps.length<=30->Qs ps qs->(∀n∈ps.map (·.1),(f n).length<=8)->(∀l H',Same H H'->H l=none->H' l=some (.lst ((qs.map (bj' f)).map V.str))->Q (.ref l) H')->bO' K vs H Q E
theorem eB_(F:Fun K "_law_piece_rows" "_law_piece_rows" co' f0 fd)(B:Bi mg)(cW:Cal P w K mg base 1 "_law_ways_word" ["_law_ways_here"] (cp' K)):FnOk P w K mg base CX0 2 f0 fd ["_law_pieces_here","_law_stand_here"] (bO' K):=by
 refine F.okA bw' λcdv A outer s H vs Q E hr h=>?_
 ·obtain⟨lp,d,yp,ps,qs,ts,f,rfl,hlp,pc,hd,t64,gp,nd,h30,Qq,fl,k⟩:=h;have hu:=br_ hr;have sz:=b__;refine' ⟨_,a3_ ?s1 (a3_ ?s2 (a5_ ?s3)),?kk⟩
  case s1=>exact ao_ 2 bw'.nd bM_
  case' s2=>refine' b3_ b_7 rfl (ah_ (pv 0)) (ch_ rfl (ai_ (b5_ 3 bw'.nd) (ai_ (b5_ 4 bw'.nd) (ai_ (b5_ 5 bw'.nd) b4_)))) (a3_ ?b1 (a5_ ?b2))
  case b1=>exact ao_ 6 bw'.nd (av_ (a0_ a9_ (a0_ (pv 3) (a0_ (ax_ de_ (by rfl) B.str dg_ (a0_ (pv 4) a2_)) (a0_ (cg_ hu (pv 1) (pv 3) (λ_ _=>rfl)) a2_)))))
  case b2=>exact c0_ hu (pv 2) (pv 3) (bl_ b_1 c_0 c__ bs_ a9_ (a0_ (af_ aI_ (pv 6) (av_ (a0_ (al_ cW hr (a0_ (pv 5) a2_)) a2_))) a2_)) rfl
  case' s3=>refine' ae_ (aR_ ["_law_name","_law_rows"] 1 [2] (ah_ (a7_ cx_ (by rfl) B.sorted b8_ (a0_ (ax_ (cn_ rfl) (by rfl) B.list bm_ (a0_ (pv 2) a2_)) a2_))) (λfp s H=>aY_ 0) (λfp s H=>aT_) (λfp s H=>?e3))
  case e3=>exact cg_ hu (pv 1) (pv 0) (λ_ _=>rfl)
  case' kk=>skip
  have lyp:=a_1 pc;intro dr hdr;have s0:Same H (upd H dr (.dK [])):=Same.new hdr;refine⟨_,rfl,lp,rfl,⟨_,.of (s0 _ _ hlp)⟩,aV_ (K:=K) (a:=lp) (xs:=yp) (λi σ H'=>∃(v3 v4 v5 v6:Option V),σ=[some (.ref lp),some (.ref d),some (.ref dr),v3,v4,v5,v6]/\Same H H'/\H' dr=some (.dK (stF ((ps.take i).map (·.1)) (d6' f ps)))) ⟨none,none,none,none,rfl,s0,a1_⟩ (λi σ H' _ ⟨_,_,_,_,_,sm,_⟩=>.of (sm _ _ hlp)) ?_ ?_⟩
  ·rintro i y σ H2 hy ⟨v3,v4,v5,v6,rfl,s2,hr2⟩;have hi:i<yp.length:=(ab'.mp hy).1;have hq:ps[i]? = some (ps[i]' Z1):=ae' Z1;obtain⟨t,wv,et,ht,wy⟩:=aA_ pc i hi Z1;rw[(ab'.mp hy).2] at et;subst et;generalize ps[i]' Z1=q at hq ht wy;have hqm:q∈ps:=ad' hq;have hnm:q.1∈ps.map (·.1):=ac'.mpr ⟨q,hqm,rfl⟩;have g:=gp q hqm;have wl:=wlen t64 g;have nl:=ag_ g.nm;have fl1:=fl q.1 hnm;have kl:=dZ_ (k:=q.2.1) (by have:=g.w1;omega) g.w2;refine⟨t,_,rfl,.of (s2 _ _ ht),rfl,_,_,rfl,_,_,rfl,_,_,rfl,rfl,?_⟩;refine⟨_,rfl,_,rfl,q.2.1,rfl,gy_ (by have:=g.w1;omega) g.w2,_,rfl,_,rfl,d,_,rfl,dg (s2 _ _ hd) hnm,?_⟩;refine⟨by show 4<=sizeLine;decide,λl4 n4=>?_⟩;refine setG ?_;dsimp only;obtain⟨s4,e4⟩:=nw__ (o:=.lst [.str "piece",.str q.1,.str (toString q.2.1:Ai),.str (f q.1)]) n4;generalize upd H2 l4 (.lst [.str "piece",.str q.1,.str (toString q.2.1:Ai),.str (f q.1)])=H4 at s4 e4 ⊢;have s24:=s2.trans s4;refine⟨rfl,_,rfl,_,rfl,wv,q.2.2,rfl,wy.same s24,λws e=>⟨by have:=(g.ws ws e).len;omega,(g.ws ws e).good⟩,λH5 s5=>?_⟩;refine⟨by show 1<=sizeLine;decide,λl6 n6=>?_⟩;obtain⟨s6,e6⟩:=nw__ (o:=.lst [.str (bn' (q.2.2.map tsOf))]) n6;generalize upd H5 l6 (.lst [.str (bn' (q.2.2.map tsOf))])=H6 at s6 e6 ⊢;refine⟨l4,l6,_,_,rfl,rfl,s6 _ _ (s5 _ _ e4),e6,by show 4+1<=sizeLine;decide,λl7 n7=>?_⟩;have s7:=Same.new (o:=.lst ([.str "piece",.str q.1,.str (toString q.2.1:Ai),.str (f q.1)]++[.str (bn' (q.2.2.map tsOf))])) n7;have e7:upd H6 l7 (.lst ([.str "piece",.str q.1,.str (toString q.2.1:Ai),.str (f q.1)]++[.str (bn' (q.2.2.map tsOf))])) l7=some (.lst ((["piece",q.1,(toString q.2.1:Ai),f q.1,bn' (q.2.2.map tsOf)]:List Str).map V.str)):=a1_;generalize upd H6 l7 (.lst ([.str "piece",.str q.1,.str (toString q.2.1:Ai),.str (f q.1)]++[.str (bn' (q.2.2.map tsOf))]))=H7 at s7 e7 ⊢;have s47:=(s5.trans s6).trans s7;have s07:=s24.trans s47;refine⟨" ",l7,_,rfl,rfl,.of e7,?_,?_⟩
   ·show 5+(q.1.length+(((toString q.2.1:Ai):Str).length+((f q.1).length+((bn' (q.2.2.map tsOf)).length+0))))+5 * 1<=sizeLine;omega
   rw[fT_ f q];have nnot:q.1∉(ps.take i).map (·.1):=bz_ (g:=λp:Pc=>p.1) nd hq;refine⟨_,rfl,_,rfl,dr,_,rfl,.k (k:=Sum.inr q.1) (s47 _ _ (s4 _ _ hr2)) (by rw[bQ_,aa',af'];omega),?_⟩;refine⟨_,_,_,_,rfl,aB_ s07 hdr,?_⟩;rw[a1_,i2_ nnot,aq_ _ hq];refine c_1 (λx=>some (HO.dK x)) (eW_ λm hm=>?_);by_cases z:m=q.1
   ·rw[b_0 z,z,gg_ nd hqm]
   ·rw[a_8 z]
  ·rintro σ H2 ⟨v3,v4,v5,v6,rfl,s2,hr2⟩;rw[lyp,an'] at hr2;refine⟨_,rfl,dr,_,rfl,.inl hr2,λl3 n3=>?_⟩;have s3:=Same.new (o:=.lst ((stF (ps.map (·.1)) (d6' f ps)).map λkv=>kV kv.1)) n3
   have e3:upd H2 l3 (.lst ((stF (ps.map (·.1)) (d6' f ps)).map λkv=>kV kv.1)) l3=some (.lst ((ps.map (·.1)).map V.str)):=by
    rw[a1_];refine c_1 (λx=>some (HO.lst x)) ?_;show ((ps.map (·.1)).map _).map _=_;rw[ao'];rfl
   generalize upd H2 l3 (.lst ((stF (ps.map (·.1)) (d6' f ps)).map λkv=>kV kv.1))=H3 at s3 e3 ⊢;refine⟨l3,_,rfl,.of e3,by rw[aa'];omega,λl4 n4=>?_⟩;rw[<- Qq.nms];obtain⟨s4,e4⟩:=nw__ (o:=.lst ((qs.map (·.1)).map V.str)) n4;generalize upd H3 l4 (.lst ((qs.map (·.1)).map V.str))=H4 at s4 e4 ⊢;have s24:=s3.trans s4;have hr4:=s24 _ _ hr2;have ql:=Qq.len;refine⟨l4,rfl,⟨_,.of e4⟩,λD hD=>?_⟩;refine an_ (own:=1) (fv:=[some (.ref dr)]) (xs:=(qs.map (·.1)).map V.str) rfl gok1 (λi out H'=>Same H4 H'/\H' D=some (.lst out)/\out=(((qs.map (·.1)).take i).map (d6' f ps)).map V.str) ⟨Same.new hD,a1_,rfl⟩ (λi out H' _ ⟨sm,_,_⟩=>.of (sm _ _ e4)) (λout H5 ⟨s5,hd5,eo⟩=>?_) (λi x out H' hx ⟨sm,hd',eo⟩=>?_)
   ·rw[aa',an',jB_ Qq nd] at eo;rw[eo] at hd5;exact k D H5 ((s2.trans s24).trans s5) ((s2.trans s24).free hD) hd5
   ·obtain⟨n,hn,rfl⟩:=aF_ hx
    have nm:n∈ps.map (·.1):=by
     have:=ad' hn;rw[Qq.nms] at this;exact (aG_ _).mem_iff.mp this
    refine⟨_,rfl,rfl,λNx hN=>yesT ?_⟩;refine⟨_,rfl,_,rfl,dr,_,rfl,dg (sm _ _ hr4) nm,?_⟩;refine⟨out,hd',?_,hN _ _ ⟨aB_ sm hD,a1_,?_⟩⟩
    ·rw[eo,aa',aa',af',aa'];omega
    ·rw[aq_ _ hn,ag',eo];rfl
end
variable{H:Hp}{K:F__}
theorem _root_.L2.TyOf.sameT{H':Hp}{v:V}{t:Aa}(h:TyOf K H v t)(s:Same H H'):TyOf K H' v t:=by
 cases h with
 |non=>exact .non
 |bl y=>exact .bl y
 |int i=>exact .int i
 |str y=>exact .str y
 |flt y=>exact .flt y
 |lst ea=>exact .lst (s _ _ ea)
 |frz ea=>exact .frz (s _ _ ea)
 |tup ea=>exact .tup (s _ _ ea)
 |dK ea=>exact .dK (s _ _ ea)
 |dT ea=>exact .dT (s _ _ ea)
 |ins ea cl ha hn htk hm=>exact .ins (s _ _ ea) cl ha hn htk hm
variable{ps qs:List Pc}
theorem Qs.one{qs':List Pc}(Q:Qs ps qs)(Q':Qs ps qs')(nd:(ps.map (·.1)).Nodup):qs=qs':=by
 have key:∀(as bs:List Pc),as.map (·.1)=bs.map (·.1)->(∀q∈as,∃p∈ps,q=nrm p)->(∀q∈bs,∃p∈ps,q=nrm p)->as=bs:=by
  intro as
  induction as with
  |nil=>
   intro bs e _ _;cases bs with
   |nil=>rfl
   |cons _ _=>cases e
  |cons a as ih=>
   intro bs e h1 h2;cases bs with
   |nil=>cases e
   |cons b bs=>
    rw[au',au'] at e;obtain⟨e1,e2⟩:=b_8 e;obtain⟨p,hp,ea⟩:=h1 a Z2;obtain⟨p',hp',eb⟩:=h2 b Z2
    have:p=p':=dA_ nd hp hp' (by
     show p.1=p'.1;rw[ea,eb] at e1;exact e1)
    rw[ih bs e2 (λq hq=>h1 q (by simp[hq])) (λq hq=>h2 q (by simp[hq])),ea,eb,this]
 exact key qs qs' (Q.nms.trans Q'.nms.symm) Q.mem Q'.mem
def exkIn(K:F__)(C:Addr):Bool:=(PySem.W.clsIn K C).isSome&&PySem.W.findIn K (.ref C) "__getattribute__" == some (some (.builtin "BaseException.__getattribute__"))&&PySem.W.findIn K (.ref C) "__getattr__" == some none&&PySem.W.findIn K (.ref C) "__class__" == some (some (.builtin "object.__class__")) &&
 PySem.W.specialIn K (.builtin "object.__class__") "__get__" == some (some (.builtin "getset_descriptor.__get__"))&&PySem.W.takesIn K (.builtin "object.__class__") == some true&&PySem.W.mroIn K C (.type "object") == some true&&PySem.W.mroIn K C (.type "BaseException") == some true
theorem lt_{C:Addr}(h:exkIn K C=true):ExcK K C:=by
 simp only[exkIn,az',beq_iff_eq] at h;obtain⟨⟨⟨⟨⟨⟨⟨a,b⟩,c⟩,d⟩,e⟩,f⟩,g⟩,i⟩:=h;exact⟨a,b,c,d,e,f,g,i⟩
structure PcOk (x:Str) (f:Str->Str):Prop where
 hz:x.length<=50000
 l64:(rowsT x).length<64
 sh:∀q∈bc' (rowsT x),dA' q
 ff:((bc' (rowsT x)).map (·.1)).Nodup->∀ws∈rowsT x,isW "piece" ws=true->f (ws.getD 1 "")=ws.getD 3 ""
variable{P:Ae}{w:Ag}{mg:Str->Option Aa}{base:Heap}
theorem eL_(F:Fun K "read_goods" "read_goods" bX' f0 fd)(cW:CalG P w K mg base 1 "words_of_rows" ["text"] (cf' K CT)):FnOk P w K mg base (CX2 P w) 10 f0 fd ["text"] (cf' K CT):=by
 refine F.okTA bm' λcdv A outer s H vs Q E hr h hp ro rm=>?_
 ·obtain⟨v,t,rfl,ty,e,k⟩:=h;exact⟨_,a3_ (ao_ 1 bm'.nd (i3_ cW (hr.mono (by decide)) hp (a0_ (pv 0) a2_))) ac_,_,rfl,v,t,rfl,ty,e,k⟩
def b4'(K:F__)(CG CW CT:Addr):Sp:=λvs H Q E=>bY' K CG CW vs H Q E∨b7' CT vs H Q E∨cf' K CT vs H Q E
structure RfT (K:F__) (mg:Str->Option Aa) (CT CE c0 CH CS CN CP:Addr):Prop where
 mT:mg "NoText"=some (.ref CT)
 mE:mg "EvenError"=some (.ref CE)
 m0:mg "NoGoods"=some (.ref c0)
 mH:mg "NoHand"=some (.ref CH)
 mS:mg "NoStand"=some (.ref CS)
 mN:mg "NoWeb"=some (.ref CN)
 mP:mg "NoPiece"=some (.ref CP)
 ex:ExcK K CT
 xm:PySem.W.exmOne K (.ref CT) (.ref CT)=some true
 k0:PySem.W.kitOne K (.ref CT) (.ref c0)=some false
 kH:PySem.W.kitOne K (.ref CT) (.ref CH)=some false
 kS:PySem.W.kitOne K (.ref CT) (.ref CS)=some false
 kN:PySem.W.kitOne K (.ref CT) (.ref CN)=some false
 kP:PySem.W.kitOne K (.ref CT) (.ref CP)=some false
 kE:PySem.W.kitOne K (.ref CT) (.ref CE)=some true
 kv:PySem.W.kitOne K (.ref CT) (.type "ValueError")=some true
def rfTIn(K:F__)(CT CE c0 CH CS CN CP:Addr):Bool:=exkIn K CT&&PySem.W.exmOne K (.ref CT) (.ref CT) == some true&&PySem.W.kitOne K (.ref CT) (.ref c0) == some false&&PySem.W.kitOne K (.ref CT) (.ref CH) == some false&&PySem.W.kitOne K (.ref CT) (.ref CS) == some false&&PySem.W.kitOne K (.ref CT) (.ref CN) == some false&&PySem.W.kitOne K (.ref CT) (.ref CP) == some false&&PySem.W.kitOne K (.ref CT) (.ref CE) == some true&&PySem.W.kitOne K (.ref CT) (.type "ValueError") == some true
variable{CH CP c0:Addr}
theorem m7_{CE:Addr}(h:rfTIn K CT CE c0 CH CS CN CP=true)(mT:mg "NoText"=some (.ref CT))(mE:mg "EvenError"=some (.ref CE))(m0:mg "NoGoods"=some (.ref c0))(mH:mg "NoHand"=some (.ref CH))(mS:mg "NoStand"=some (.ref CS))(mN:mg "NoWeb"=some (.ref CN))(mP:mg "NoPiece"=some (.ref CP)):RfT K mg CT CE c0 CH CS CN CP:=by
 simp only[rfTIn,az',beq_iff_eq] at h;obtain⟨⟨⟨⟨⟨⟨⟨⟨a,b⟩,c⟩,d⟩,e⟩,f⟩,g⟩,i⟩,j⟩:=h;exact⟨mT,mE,m0,mH,mS,mN,mP,lt_ a,b,c,d,e,f,g,i,j⟩
theorem len3s{α:Type}:∀{l:List α},l.length=3->∃a b c,l=[a,b,c]
 |[a,b,c],_=>⟨a,b,c,rfl⟩
def ek'(K:F__)(H:Hp)(v:V)(b:Bool):Prop:=(b=true/\∃t,TyOf K H v t/\PySem.W.kitOne K t (.type "str")=some false)∨∃x f,v=.str x/\PcOk x f/\(Told x f ↔ b=false)
theorem b6':ba' ["_law_text","_law_others","e"] ["_law_text"] (a9' dP'):=f__
def dj'(K:F__):Sp:=λvs H Q _=>∃(v:V) (b:Bool),vs=[v]/\ek' K H v b/\∀H',Same H H'->Q (.bl b) H'
abbrev tIsT(K:F__)(v:V):TE:=tCB (dq' K) (bI' (tVar 2) (bI' (tC v) tNil))
abbrev tSuT(K:F__)(CE c0 CH CS CN CP:Addr):L2.TS:=tSeq (tAsg (tLst (bI' (tIsT K (.ref c0)) (bI' (tIsT K (.ref CH)) (bI' (tIsT K (.ref CS)) (bI' (tIsT K (.ref CN)) tNil))))) (bR' 1))
 (tAsg (tOp rCat (tVar 1) (tLst (bI' (tIsT K (.ref CP)) (bI' (tNotV (tIsT K (.ref CE))) (bI' (tNotV (tIsT K (.ty "ValueError"))) tNil))))) (bR' 1))
theorem h7_{CE:Addr}(F:Fun K "_law_refused" "_law_refused" dP' f0 fd)(B:Bi mg)(mV:mg "ValueError"=none)(mA:mg "any"=none)(R:RfT K mg CT CE c0 CH CS CN CP)(cR:CalG P w K mg base 10 "read_goods" ["text"] (b4' K CG CW CT)):FnOk P w K mg base CX0 11 f0 fd ["_law_text"] (dj' K):=by
 refine F.okA b6' λcdv A outer s H vs Q E hr h=>?_
 ·obtain⟨v,b,rfl,rd,k⟩:=h;refine' ⟨_,a3_ ?s1 (a3_ ?s2 (a5_ ?s3)),?kk⟩
  case s1=>exact ao_ 1 b6'.nd (av_ (a0_ e7_ a2_))
  case' s2=>refine' ks_ (i:=2) (C:=CT) (tb:=λE'=>tDrop (tCall (b4' K CG CW CT) [] E' (bI' (tVar 0) tNil))) (ts:=tSuT K CE c0 CH CS CN CP) b6'.nd rfl rfl rfl rfl (by rfl) R.mT R.xm (λE' W pn hp=>?hb) (λa=>?hs)
  case hb=>exact a5_ (bP_ (i3_ cR hr hp (a0_ (pv 0) a2_)))
  case' hs=>refine' a3_ ?h1 (a5_ ?h2)
  case h1=>exact ao_ 1 b6'.nd (av_ (a0_ (a7_ (cY' (K:=K) dq' bD_) (by rfl) B.isi ab_ (a0_ (pv 2) (a0_ (bd_ (v:=.ref c0) (by rfl) R.m0 rfl) a2_))) (a0_ (a7_ (cY' (K:=K) dq' bD_) (by rfl) B.isi ab_ (a0_ (pv 2) (a0_ (bd_ (v:=.ref CH) (by rfl) R.mH rfl) a2_))) (a0_ (a7_ (cY' (K:=K) dq' bD_) (by rfl) B.isi ab_ (a0_ (pv 2) (a0_ (bd_ (v:=.ref CS) (by rfl) R.mS rfl) a2_))) (a0_ (a7_ (cY' (K:=K) dq' bD_) (by rfl) B.isi ab_ (a0_ (pv 2) (a0_ (bd_ (v:=.ref CN) (by rfl) R.mN rfl) a2_))) a2_)))))
  case h2=>exact ao_ 1 b6'.nd (af_ aI_ (pv 1) (av_ (a0_ (a7_ (cY' (K:=K) dq' bD_) (by rfl) B.isi ab_ (a0_ (pv 2) (a0_ (bd_ (v:=.ref CP) (by rfl) R.mP rfl) a2_))) (a0_ (fx_ (a7_ (cY' (K:=K) dq' bD_) (by rfl) B.isi ab_ (a0_ (pv 2) (a0_ (bd_ (v:=.ref CE) (by rfl) R.mE rfl) a2_)))) (a0_ (fx_ (a7_ (cY' (K:=K) dq' bD_) (by rfl) B.isi ab_ (a0_ (pv 2) (a0_ (b1_ (v:=.ty "ValueError") (by rfl) mV PyProof.Rows.Boot.«ValueError» rfl) a2_)))) a2_)))))
  case s3=>exact ae_ (fx_ (a7_ (jd_ rfl) (by rfl) mA PyProof.Rows.Boot.«any» (a0_ (pv 1) a2_)))
  case' kk=>skip
  refine⟨by show 1<=sizeLine;decide,λl0 hl0=>?_⟩;obtain⟨sa,ea⟩:=nw__ (o:=.lst [.bl true]) hl0;refine setG ?_;dsimp only;generalize upd H l0 (.lst [.bl true])=H0 at sa ea ⊢;refine seqG (λσ H'=>∃(u0:Option V) (l:Addr) (bs:List Bool) (v2:Option V),σ=[u0,some (.ref l),v2]/\Same H H'/\H' l=some (.lst (bs.map V.bl))/\(!(bs.any id))=b) ?later (λNx hN=>?now)
  case later=>
   rintro σ H' ⟨u0,l,bs,v2,rfl,s',e,eb⟩;refine⟨_,rfl,l,bs,rfl,.of e,_,rfl,?_⟩;show Q (.bl (!(bs.any id))) H';rw[eb];exact k H' s'
  have su:b=true->∀H1,Same H0 H1->∀(σ:St) (a:Addr),σ.length=3->H1 a=none->tSuT K CE c0 CH CS CN CP (Ends.gone { nx:=Nx,rt:=Q } 2) (σ.set 2 (some (.ref a))) (upd H1 a (exq a CT none)):=by
   rintro rfl H1 s1 σ a hl ha;obtain⟨u0,u1,u2,rfl⟩:=len3s hl;obtain⟨s2,e2⟩:=nw__ (o:=exq a CT none) ha;generalize upd H1 a (exq a CT none)=H2 at s2 e2 ⊢;refine⟨_,rfl,a,CT,none,_,_,_,rfl,rfl,e2,R.ex,R.k0,_,rfl,a,CT,none,_,_,_,rfl,rfl,e2,R.ex,R.kH,_,rfl,a,CT,none,_,_,_,rfl,rfl,e2,R.ex,R.kS,_,rfl,a,CT,none,_,_,_,rfl,rfl,e2,R.ex,R.kN,by show 4<=sizeLine;decide,λl hl=>?_⟩;obtain⟨s3,e3⟩:=nw__ (o:=.lst [.bl false,.bl false,.bl false,.bl false]) hl;refine setG ?_;dsimp only;generalize upd H2 l (.lst [.bl false,.bl false,.bl false,.bl false])=H3 at s3 e3 ⊢;have e23:=s3 _ _ e2;refine⟨_,rfl,_,rfl,a,CT,none,_,_,_,rfl,rfl,e23,R.ex,R.kP,_,rfl,a,CT,none,_,_,_,rfl,rfl,e23,R.ex,R.kE,_,rfl,_,rfl,a,CT,none,_,_,_,rfl,rfl,e23,R.ex,R.kv,_,rfl,by show 3<=sizeLine;decide,λl2 hl2=>?_⟩;have s4:=Same.new (o:=.lst [.bl false,.bl (!true),.bl (!true)]) hl2;have e4:upd H3 l2 (.lst [.bl false,.bl (!true),.bl (!true)]) l2=some (.lst [.bl false,.bl false,.bl false]):=a1_;generalize upd H3 l2 (.lst [.bl false,.bl (!true),.bl (!true)])=H4 at s4 e4 ⊢;refine⟨l,l2,_,_,rfl,rfl,s4 _ _ e3,e4,by show 7<=sizeLine;decide,λl3 hl3=>?_⟩;exact hN _ _ ⟨_,l3,[false,false,false,false,false,false,false],_,rfl,sa.trans (s1.trans (s2.trans (s3.trans (s4.trans (Same.new hl3))))),a1_,rfl⟩
  rcases rd with⟨rfl,t,ty,e⟩|⟨x,f,rfl,ok,ie⟩
  ·exact⟨_,rfl,.inr (.inr ⟨_,t,rfl,ty.sameT sa,e,rfl,λσ a hl ha=>su rfl H0 (Same.refl _) σ a hl ha⟩)⟩
  ·cases b with
   |true=>exact⟨_,rfl,.inr (.inl ⟨x,f,rfl,ok.hz,ok.l64,ok.sh,ok.ff,λz=>(by cases ie.mp z),λH' s'=>⟨rfl,λσ a hl ha=>su rfl H' s' σ a hl ha⟩⟩)⟩
   |false=>
    obtain⟨Tx,qs0,Q0,e0⟩:=ie.mpr rfl;exact⟨_,rfl,.inl ⟨x,f,rfl,ok.hz,Tx,λqs Qq q hq=>iB_ Tx.G Tx.gp Qq hq,λqs Qq=>(by rw[Qq.one Q0 Tx.nd];exact e0),λt g p d qs fp H' s' _ _ _ _ _ _=>hN _ _ ⟨_,l0,[true],_,rfl,sa.trans s',s' _ _ ea,rfl⟩⟩⟩
def OkW(us:Xb):Prop:=(∀t∈us,bd' t.1=true/\bd' t.2=true/\ltS t.1 t.2=true/\EndB 8 t.1)/\us.Pairwise λa b=>lexK (kT a) (kT b)=true
inductive Form:List Str->Prop
 |hand {n x:Str}:bd' n=true->Form ["hand",n,x]
 |tie {a b:Str}:bd' a=true->Form ["tie",a,b]
 |piece {n h:Str} {k:Int} {o:Option (Xb)}:bd' n=true->1<=k->k<=1000000000->EndB 8 h->(∀us,o=some us->OkW us)->Form ["piece",n,(toString k:Ai),h,bn' o]
def NoR(r:Str):Prop:=¬Form (Txt.split r " ")
def dE'(r:Str):Prop:=isW "hand" (Txt.split r " ")=true->EndB 8 ((Txt.split r " ").getD 1 "")
theorem kn_(h:SAsc ns)(nd:ns.Nodup):ns.Pairwise λa b=>ltS a b=true:=by
 have:=List.Pairwise.and h nd
 exact this.imp λ{a b} q=>by
  cases e:ltS a b with
  |true=>rfl
  |false=>exact absurd (fS_ e q.1) q.2
variable{t:Str × Str}{ts:Xb}
theorem l8_(g:∀t∈ts,cc' t)(h:t∈tsOf ts):ltS t.1 t.2=true:=by
 obtain⟨u,hu,rfl⟩:=bp'.mp h;unfold ord2;by_cases c:ltS u.1 u.2=true
 ·rw[b_0 c];exact c
 ·rw[a_8 c];cases e:ltS u.2 u.1 with
  |true=>rfl
  |false=>exact absurd (fS_ (by simpa using c) e) (g u hu).2.2
theorem ld_(nd:(ts.map kO).Nodup):(tsOf ts).Pairwise λa b=>lexK (kT a) (kT b)=true:=by
 have a1:Asc ((tsOf ts).map kT):=by rw[ba_];exact bB_ _
 have a2:((tsOf ts).map kT).Nodup:=by rw[ba_];exact (aC_ _).nodup_iff.mpr nd
 have:=List.Pairwise.and a1 a2;rw[aK'] at this
 exact this.imp λ{a b} q=>by
  cases e:lexK (kT a) (kT b) with
  |true=>rfl
  |false=>exact absurd (dq_ e q.1) q.2
variable{f:Str->Str}{x:Str}
theorem eU_(T:Told x f):TxOk (rowsT x) f/\∃qs,Qs (bc' (rowsT x)) qs/\rowsT x=wssG (bg' (rowsT x)) (bq' (rowsT x)) qs f:=by
 obtain⟨Tx,qs,Qq,e⟩:=T;refine⟨Tx,qs,Qq,?_⟩
 have:=gK_ (hs:=bg' (rowsT x)) (ts:=bq' (rowsT x)) (qs:=qs) (f:=f) Tx.G (λq hq=>by
  obtain⟨p,hp,rfl⟩:=Qq.mem q hq;have g:=Tx.gp p hp;refine⟨g.nm,by have:=g.w1;show 0<=p.2.1;omega,λus e t ht=>?_,(aM_ _).mem_iff.mpr (Tx.at_ p.1 (ac'.mpr ⟨p,hp,rfl⟩))⟩;have e:p.2.2.map tsOf=some us:=e;cases o:p.2.2 with
  |none=>rw[o] at e;cases e
  |some us0=>
   rw[o] at e;cases e;have:=bq_ (hs:=[]) (g.ws us0 o).good ht;exact⟨this.1,this.2.1⟩)
 rw[e] at this;exact this
variable{rs:List Str}
theorem ic_(T:Told (Txt.join "\n" rs) f)(e:rowsT (Txt.join "\n" rs)=rs.map λr=>Txt.split r " "):(∀r∈rs,isW "hand" (Txt.split r " ")=true->Form (Txt.split r " "))/\((∀r∈rs,dE' r)->∀r∈rs,Form (Txt.split r " ")):=by
 obtain⟨Tx,qs,Qq,er⟩:=eU_ T;generalize hw:rowsT (Txt.join "\n" rs)=wss at Tx Qq er
 have mem:∀r∈rs,Txt.split r " "∈wss:=λr hr=>by
  rw[<- hw,e];exact ac'.mpr ⟨r,hr,rfl⟩
 have back:∀ws∈wss,∃r∈rs,ws=Txt.split r " ":=λws h=>by
  rw[<- hw,e] at h;obtain⟨r,hr,z⟩:=ac'.mp h;exact⟨r,hr,z.symm⟩
 have hd:∀n∈bf' (bg' wss),bd' n=true:=λn hn=>ez_ Tx.G hn;have cas:∀ws∈wss,(∃n∈bf' (bg' wss),ws=et' (bg' wss) n)∨(∃t∈tsOf (bq' wss),ws=tieL t)∨∃q∈qs,ws=ca' f q:=λws h=>bA_ (by rwa [<- er]);refine⟨λr hr hh=>?_,λHB r hr=>?_⟩
 ·rcases cas _ (mem r hr) with⟨n,hn,z⟩|⟨t,ht,z⟩|⟨q,hq,z⟩
  ·rw[z];exact .hand (hd n hn)
  ·rw[z] at hh;cases hh
  ·rw[z] at hh;cases hh
 ·have en:∀n∈(bg' wss).map (·.1),EndB 8 n:=λn hn=>by
   obtain⟨h,hh,rfl⟩:=ac'.mp hn;obtain⟨ws,hws,rfl⟩:=ac'.mp hh;obtain⟨hws,iw⟩:=aT'.mp hws;obtain⟨r2,hr2,z⟩:=back ws hws;rw[z] at iw ⊢;exact HB r2 hr2 iw
  rcases cas _ (mem r hr) with⟨n,hn,z⟩|⟨t,ht,z⟩|⟨q,hq,z⟩
  ·rw[z];exact .hand (hd n hn)
  ·rw[z];exact .tie (bq_ (hs:=[]) Tx.G.tok ht).1
  ·rw[z];obtain⟨p,hp,rfl⟩:=Qq.mem q hq;have g:=Tx.gp p hp;refine .piece (n:=p.1) g.nm g.w1 g.w2 (en _ (Tx.at_ p.1 (ac'.mpr ⟨p,hp,rfl⟩))) λus eu=>?_;have eu:p.2.2.map tsOf=some us:=eu;cases o:p.2.2 with
   |none=>rw[o] at eu;cases eu
   |some us0=>
    rw[o] at eu;cases eu;have w:=g.ws us0 o;refine⟨λt ht=>?_,ld_ w.nd⟩;have gt:=bq_ (hs:=[]) w.good ht;refine⟨gt.1,gt.2.1,l8_ w.good ht,?_⟩;obtain⟨u,hu,rfl⟩:=bp'.mp ht;obtain⟨u2,hu2,ek⟩:=ac'.mp (w.inn u hu);have ek:ord2 u2.1 u2.2=ord2 u.1 u.2:=em_ ek;obtain⟨m1,m2⟩:=Tx.G.tin u2 hu2;rw[<- ek];rcases bi_ u2.1 u2.2 with z|z
    ·rw[z];exact en _ m1
    ·rw[z];exact en _ m2
variable{rs':List Str}
theorem bad1(e:rowsT (Txt.join "\n" rs')=rs'.map λr=>Txt.split r " ")(sub:∀r∈rs',r∈rs∨NoR r)(ex:∃r∈rs',NoR r)(HB:∀r∈rs,dE' r):¬Told (Txt.join "\n" rs') f:=λT=>by
 obtain⟨h1,h2⟩:=ic_ T e;obtain⟨r,hr,n⟩:=ex;exact n (h2 (λr hr=>(sub r hr).elim (HB r) λn iw=>absurd (h1 r hr iw) n) r hr)
theorem bad2{r1 r2:Str}(e:rowsT (Txt.join "\n" rs')=rs'.map λr=>Txt.split r " ")(sl:[r1,r2].Sublist rs')(p1:isW "piece" (Txt.split r1 " ")=true)(p2:isW "piece" (Txt.split r2 " ")=true)(nl:ltS ((Txt.split r1 " ").getD 1 "") ((Txt.split r2 " ").getD 1 "")=false):¬Told (Txt.join "\n" rs') f:=λT=>by
 obtain⟨Tx,qs,Qq,er⟩:=eU_ T;have sl2:=(sl.map λr=>Txt.split r " ").filter (isW "piece");rw[<- e,er] at sl2
 have e1:([r1,r2].map λr=>Txt.split r " ").filter (isW "piece")=[Txt.split r1 " ",Txt.split r2 " "]:=by
  simp[p1,p2]
 have e2:(wssG (bg' (rowsT (Txt.join "\n" rs'))) (bq' (rowsT (Txt.join "\n" rs'))) qs f).filter (isW "piece")=qs.map (ca' f):=by
  unfold wssG;rw[aL',aL',bo_ _ λn=>(cv_ n).2.2,bo_ _ λt=>(cB_ t).2.2,cp_ _ λq=>(bX_ q).2.2];rfl
 rw[e1,e2] at sl2;have sl3:=sl2.map λws=>ws.getD 1 "";rw[ao'] at sl3;have e3:qs.map ((λws:List Str=>ws.getD 1 "") ∘ ca' f)=qs.map (·.1):=rfl;rw[e3,Qq.nms] at sl3;have pw:=(kn_ (bH_ _) ((aG_ _).nodup_iff.mpr Tx.nd)).sublist sl3;have:=(a4'.mp pw).1 _ (aN'.mpr rfl);rw[nl] at this;cases this
theorem bad3(e:rowsT (Txt.join "\n" rs')=rs'.map λr=>Txt.split r " ")(no:∀r∈rs',isW "hand" (Txt.split r " ")=false):¬Told (Txt.join "\n" rs') f:=λT=>by
 have:=T.1.G.h1;rw[e] at this;unfold bg' at this
 rw[List.filter_eq_nil_iff.mpr λws hw=>by
  obtain⟨r,hr,rfl⟩:=ac'.mp hw;rw[no r hr];decide] at this
 exact absurd this (by decide)
theorem f5_(T:Tell hs ts qs f)(Qq:Qs ps qs):Told (bW' hs ts qs f) f:=by
 have r:=hX_ T;have sa:SAsc (qs.map (·.1)):=by rw[Qq.nms];exact bH_ _
 refine⟨by rw[r];exact T.tx,qs,?_,?_⟩
 ·rw[r,bT_ T];refine⟨(c8_ (aG_ _) (bH_ _) sa).symm,λq hq=>⟨q,hq,?_⟩⟩;obtain⟨p,_,rfl⟩:=Qq.mem q hq;unfold nrm;cases p.2.2 with
  |none=>rfl
  |some us=>show (_,_,some (tsOf us))=(_,_,some (tsOf (tsOf us)));rw[eY_]
 ·rw[r,eM_ T,fX_,jy_ T.G]
theorem gJ_(c:Nat):∀ps:List Str,ps.length<=(Str.join ⟨#[c]⟩ ps).cps.toList.count c+1
 |[]=>by simp
 |[a]=>by simp
 |a::b::r=>by
  have:=gJ_ c (b::r);rw[as_,aR',List.count_cons];simp only[aA',beq_self_eq_true,if_true] at this ⊢;omega
theorem jsum(c:Nat):∀ss:List Str,(ss.map (·.length)).sum+ss.length<=(Str.join ⟨#[c]⟩ ss).length+1
 |[]=>by simp
 |[a]=>by show a.length+0+1<=a.length+1;omega
 |a::b::r=>by
  have ih:=jsum c (b::r)
  have e:(Str.join ⟨#[c]⟩ (a::b::r)).length=a.length+((Str.join ⟨#[c]⟩ (b::r)).length+1):=by
   show (Str.join ⟨#[c]⟩ (a::b::r)).cps.toList.length=_;rw[as_,aj',aA'];rfl
  rw[e,au',List.sum_cons,aA'];omega
theorem gr_(c d:Nat):∀{ps:List Str} {s:Str},s∈ps->s.cps.toList.count d<=(Str.join ⟨#[c]⟩ ps).cps.toList.count d
 |[],s,h=>by cases h
 |[a],s,h=>by rw[show s=a by simpa using h];exact ak' _
 |a::b::r,s,h=>by
  rw[as_,aR',List.count_cons];rcases ah'.mp h with z|z
  ·rw[z];omega
  ·have:=gr_ c d z;omega
theorem ih_(x:Str)(c:Nat):(Txt.split x ⟨#[c]⟩).length<=x.cps.toList.count c+1:=by
 have:=gJ_ c (Txt.split x ⟨#[c]⟩);rwa [StrLaws.join_split] at this
variable{w:Str}{c:Nat}
theorem jD_(d:Nat)(h:w∈Txt.split x ⟨#[c]⟩):w.cps.toList.count d<=x.cps.toList.count d:=by
 have:=gr_ c d h;rwa [StrLaws.join_split] at this
structure RsOk (rs:List Str):Prop where
 ne:rs≠[]
 l64:rs.length<64
 sum:(rs.map (·.length)).sum<=40000
 nl:∀r∈rs,10∉r.cps.toList
 cm:∀r∈rs,∀w∈Txt.split r " ",w.cps.toList.count 44<=60
theorem RsOk.rows(h:RsOk rs):rowsT (Txt.join "\n" rs)=rs.map λr=>Txt.split r " ":=fl_ h.ne h.nl
theorem RsOk.pc(h:RsOk rs)(ff:((bc' (rowsT (Txt.join "\n" rs))).map (·.1)).Nodup->∀ws∈rowsT (Txt.join "\n" rs),isW "piece" ws=true->f (ws.getD 1 "")=ws.getD 3 ""):PcOk (Txt.join "\n" rs) f:=by
 have e:=h.rows;have jl:=jlen "\n" rs;have c1:rs.length * ("\n":Str).length=rs.length:=Nat.mul_one _;have:=h.l64;have:=h.sum;have hz:(Txt.join "\n" rs).length<=50000:=by omega
 refine⟨hz,by rw[e,aa'];exact h.l64,λq hq=>?_,ff⟩;obtain⟨ws,hw,rfl⟩:=ac'.mp hq;have hw:=(aT'.mp hw).1;have sh:=ee_ hz ws hw;have l1:=bJ_ (i:=1) sh;have l4:=bJ_ (i:=4) sh;refine⟨by show (ws.getD 1 "").length<=_;omega,λus eu=>?_⟩;have eu:ef' (ws.getD 4 "")=some us:=eu
 have cm:(ws.getD 4 "").cps.toList.count 44<=60:=by
  rw[e] at hw;obtain⟨r,hr,rfl⟩:=ac'.mp hw;by_cases c:4<(Txt.split r " ").length
  ·rw[List.getD_eq_getElem?_getD,ae' c];exact h.cm r hr _ (aZ' c)
  ·rw[List.getD_eq_getElem?_getD,List.getElem?_eq_none Z1];decide +kernel
 generalize ws.getD 4 ""=y at eu cm l4;unfold ef' at eu;by_cases c1:y="free"
 ·rw[b_0 c1] at eu;cases eu
 ·rw[a_8 c1] at eu;by_cases c2:y="fixed"
  ·rw[b_0 c2] at eu;cases eu;exact⟨by decide,λt ht=>by cases ht⟩
  ·rw[a_8 c2] at eu;cases eu;have:=ih_ y 44;rw[<- cE_] at this;refine⟨by rw[aa'];omega,λt ht=>?_⟩;obtain⟨p,hp,rfl⟩:=ac'.mp ht;have l1:=c_5 hp;have l2:=bJ_ (i:=0) (m:=p.length) (ws:=Txt.split p "-") λy hy=>c_5 hy;have l3:=bJ_ (i:=1) (m:=p.length) (ws:=Txt.split p "-") λy hy=>c_5 hy;exact⟨by show ((Txt.split p "-").getD 0 "").length<=_;omega,by show ((Txt.split p "-").getD 1 "").length<=_;omega⟩
def atW(wss:List (List Str))(n:Str):Str:=match wss.find? λws=>isW "piece" ws&&decide (ws.getD 1 ""=n) with
 |some ws=>ws.getD 3 ""
 |none=>""
theorem me_(nd:((bc' wss).map (·.1)).Nodup):∀ws∈wss,isW "piece" ws=true->atW wss (ws.getD 1 "")=ws.getD 3 "":=λws hw hp=>by
 have nd:((wss.filter (isW "piece")).map λws=>ws.getD 1 "").Nodup:=by
  unfold bc' at nd;rw[ao'] at nd;exact nd
 unfold atW;cases e:wss.find? λws'=>isW "piece" ws'&&decide (ws'.getD 1 ""=ws.getD 1 "") with
 |none=>
  have:=List.find?_eq_none.mp e ws hw;simp[hp] at this
 |some ws'=>
  have h1:=List.find?_some e;have h2:=List.mem_of_find?_eq_some e;simp only[az',b_9] at h1;have:ws'=ws:=dA_ nd (aT'.mpr ⟨h2,h1.1⟩) (aT'.mpr ⟨hw,hp⟩) h1.2;rw[this]
structure Bad (rs:List Str):Prop where
 ok:RsOk rs
 no:∀f,¬Told (Txt.join "\n" rs) f
theorem Bad.rd(h:Bad rs):ek' K H (.str (Txt.join "\n" rs)) true:=.inr ⟨_,atW _,rfl,h.ok.pc me_,λz=>absurd z (h.no _),λz=>by cases z⟩
theorem lm_(h:RsOk rs)(T:Told (Txt.join "\n" rs) f):ek' K H (.str (Txt.join "\n" rs)) false:=.inr ⟨_,f,rfl,h.pc λ_=>T.1.ff,λ_=>rfl,λ_=>T⟩
theorem d8_(h:Form ws):(ws.length=3∨ws.length=5)/\(ws.getD 0 ""="hand"∨ws.getD 0 ""="tie"∨ws.getD 0 ""="piece")/\bd' (ws.getD 1 "")=true/\(ws.getD 0 ""="piece"->(∃k:Int,1<=k/\k<=1000000000/\ws.getD 2 ""=((toString k:Ai):Str))/\EndB 8 (ws.getD 3 "")/\∃o,ws.getD 4 ""=bn' o/\∀us,o=some us->OkW us):=by
 cases h with
 |hand n=>exact⟨.inl rfl,.inl rfl,n,λz=>absurd z (show ¬("hand":Str)="piece" by decide +kernel)⟩
 |tie n=>exact⟨.inl rfl,.inr (.inl rfl),n,λz=>absurd z (show ¬("tie":Str)="piece" by decide +kernel)⟩
 |piece n k1 k2 e o=>exact⟨.inr rfl,.inr (.inr rfl),n,λ_=>⟨⟨_,k1,k2,rfl⟩,e,_,rfl,o⟩⟩
theorem nf6(h:ws.length=6):¬Form ws:=λz=>by rcases (d8_ z).1 with e|e<;>omega
theorem nf4(h:ws.length=4):¬Form ws:=λz=>by rcases (d8_ z).1 with e|e<;>omega
theorem nfP(h:ws.getD 0 ""="pieces"):¬Form ws:=λz=>by
 rcases (d8_ z).2.1 with e|e|e<;>rw[h] at e<;>exact absurd e Z0
variable{s:Str}
theorem nfN(h:ws.getD 1 ""=s)(n:bd' s=false):¬Form ws:=λz=>by
 have:=(d8_ z).2.2.1;rw[h,n] at this;cases this
def eJ'(s:Str):Bool:=match PySem.intText? s with
 |none=>true
 |some k=>decide (k<1) || decide (1000000000<k) || !decide (((toString k:Ai):Str)=s)
theorem nfW(h0:ws.getD 0 ""="piece")(h:ws.getD 2 ""=s)(b:eJ' s=true):¬Form ws:=λz=>by
 obtain⟨⟨k,k1,k2,e⟩,_⟩:=(d8_ z).2.2.2 h0;rw[h] at e;rw[e] at b;unfold eJ' at b;rw[cQ_ Z1 k2] at b;simp at b;omega
def endS(s:Str):Bool:=bl'.contains s || match s.cps.toList.getLast? with
 |some c=>decide (97<=c)&&decide (c<105)
 |none=>false
theorem ki_(h:endS s=false):¬EndB 8 s:=λz=>by
 unfold endS at h;simp only[Bool.or_eq_false_iff] at h;rcases z with z|⟨k,hk,z⟩
 ·simp[z] at h
 ·rw[z] at h;simp at h;omega
theorem nfH(h0:ws.getD 0 ""="piece")(h:ws.getD 3 ""=s)(b:endS s=false):¬Form ws:=λz=>by
 have:=((d8_ z).2.2.2 h0).2.1;rw[h] at this;exact ki_ b this
def OddY(y:Str):Prop:=¬∃o,y=bn' o/\∀us,o=some us->OkW us
theorem nfY(h0:ws.getD 0 ""="piece")(h:ws.getD 4 ""=s)(b:OddY s):¬Form ws:=λz=>by
 have:=((d8_ z).2.2.2 h0).2.2;rw[h] at this;exact b this
def Wd(w:Str):Prop:=w.length<=520/\10∉w.cps.toList/\32∉w.cps.toList/\w.cps.toList.count 44<=60
theorem wdL(h:(decide (w.length<=520)&&!(w.cps.toList.contains 10)&&!(w.cps.toList.contains 32)&&decide (w.cps.toList.count 44<=60))=true):Wd w:=by
 simp only[az',b_9] at h;obtain⟨⟨⟨a,b⟩,c⟩,d⟩:=h;exact⟨a,λz=>by simp[z] at b,λz=>by simp[z] at c,d⟩
structure RowO (r:Str):Prop where
 len:r.length<=3200
 nl:10∉r.cps.toList
 cm:∀w∈Txt.split r " ",w.cps.toList.count 44<=60
theorem gN_(h:∀w∈ws,Wd w)(ne:ws≠[])(l:ws.length<=6):RowO (Txt.join " " ws)/\Txt.split (Txt.join " " ws) " "=ws:=by
 have e:Txt.split (Txt.join " " ws) " "=ws:=dv_ ne λw hw=>(h w hw).2.2.1;refine⟨⟨?_,λz=>?_,λw hw=>?_⟩,e⟩
 ·have a:=jlen " " ws;have b:=dH_ (m:=520) λx hx=>(h x hx).1;have c:ws.length * (" ":Str).length=ws.length:=Nat.mul_one _;omega
 ·rw[cy_,jn] at z;rcases co_ 32 z with z|⟨s,hs,z⟩
  ·cases z
  ·exact (h s hs).2.1 z
 ·rw[e] at hw;exact (h w hw).2.2.2
def bH'(ws:List Str):Prop:=NoR (Txt.join " " ws)/\RowO (Txt.join " " ws)
theorem fP_(h:∀w∈ws,Wd w)(ne:ws≠[])(l:ws.length<=6)(nf:¬Form ws):bH' ws:=by
 obtain⟨a,b⟩:=gN_ h ne l;exact⟨λz=>nf (by rwa [b] at z),a⟩
theorem di_(h:∀w∈ws,Wd w)(e:ws.length=m)(m1:1<=m/\m<=6)(nf:¬Form ws):bH' ws:=fP_ h (λz=>by rw[z] at e;have:0=m:=e;omega) Z1 nf
theorem w0:∀x∈([]:List Str),Wd x:=λx hx=>by cases hx
variable{xs:List Str}
theorem wc(h:Wd x)(k:∀y∈xs,Wd y):∀y∈x::xs,Wd y:=λy hy=>by
 rcases ah'.mp hy with z|z
 ·rw[z];exact h
 ·exact k y z
variable{ys:List Str}
theorem wA(h:∀y∈xs,Wd y)(k:∀y∈ys,Wd y):∀y∈xs++ys,Wd y:=λy hy=>(am'.mp hy).elim (h y) (k y)
def YB(y:Str):Prop:=∀n w h,Wd n->Wd w->Wd h->bH' ["piece",n,w,h,y]
variable{h:Str}
theorem wd5(a:Wd n)(b:Wd w)(c:Wd h)(d:∀y∈ys,Wd y):∀x∈("piece":Str)::n::w::h::ys,Wd x:=λx hx=>by
 simp only[ah'] at hx;rcases hx with rfl|rfl|rfl|rfl|hx
 ·exact wdL Z0
 ·exact a
 ·exact b
 ·exact c
 ·exact d x hx
variable{y:Str}
theorem iM_(h:Wd y)(o:OddY y):YB y:=λn w h' a b c=>fP_ (wd5 a b c (ys:=[y]) λx hx=>by rw[show x=y by simpa using hx];exact h) Z2 (by show 5<=6;decide) (nfY rfl rfl o)
theorem k0_{u v:Str}(hu:Wd u)(hv:Wd v):YB (u++" "++v):=λn w h a b c=>by
 have e:Txt.join " " ["piece",n,w,h,u++" "++v]=Txt.join " " ["piece",n,w,h,u,v]:=by
  rw[cy_,jn,jn];refine bh_ ?_;simp only[as_]
  rw[show (Str.join ⟨#[32]⟩ [u++(⟨#[32]⟩:Str)++v]).cps.toList=u.cps.toList++32::v.cps.toList from by
   show (u++(⟨#[32]⟩:Str)++v).cps.toList=_;rw[aZ_,aZ_];simp]
  rfl
 unfold bH';rw[e]
 exact fP_ (wd5 a b c (ys:=[u,v]) λx hx=>by
  simp only[ah',a0',or_false] at hx;rcases hx with rfl|rfl
  ·exact hu
  ·exact hv) Z2 (by show 6<=6;decide) (nf6 rfl)
def partB(p:Str):Bool:=match Txt.split p "-" with
 |[a,b]=>bd' a&&bd' b&&ltS a b
 |_=>false
theorem ek_{us:Xb}(h:∀t∈us,bd' t.1=true/\bd' t.2=true)(ne:us≠[]):Txt.split (Txt.join "," (us.map tieT)) ","=us.map tieT:=by
 rw[cE_];refine b2_ 44 _ (by simpa using ne) λp hp m=>?_;obtain⟨t,ht,rfl⟩:=ac'.mp hp;have:=bx_ (h t ht).1 (h t ht).2 m;omega
theorem ko_(n1:y≠"free")(n2:y≠"fixed")(h:∀us,us≠[]->OkW us->Txt.split y ","=us.map tieT->False):OddY y:=λ⟨o,e,w⟩=>by
 match o,e,w with
 |none,e,_=>exact n1 e
 |some [],e,_=>exact n2 e
 |some (t::us),e,w=>
  have ok:=w _ rfl;have e:y=Txt.join "," ((t::us).map tieT):=e;exact h (t::us) Z2 ok (by rw[e];exact ek_ (λt ht=>⟨(ok.1 t ht).1,(ok.1 t ht).2.1⟩) Z2)
theorem dt_{p:Str}(n1:y≠"free")(n2:y≠"fixed")(hp:p∈Txt.split y ",")(b:partB p=false):OddY y:=ko_ n1 n2 λus ne ok e=>by
 rw[e] at hp;obtain⟨t,ht,rfl⟩:=ac'.mp hp;obtain⟨a1,a2,a3,_⟩:=ok.1 t ht;unfold partB at b;rw[bY_ a1 a2] at b;simp[a1,a2,a3] at b
theorem kP_(h:(decide (y="free") || decide (y="fixed") || (Txt.split y ",").all partB)=false):OddY y:=by
 simp only[Bool.or_eq_false_iff,decide_eq_false_iff_not] at h;obtain⟨p,hp,b⟩:=List.all_eq_false.mp h.2;exact dt_ h.1.1 h.1.2 hp (by simpa using b)
theorem cc_(h:45∈y.cps.toList):y≠"free"/\y≠"fixed":=⟨λz=>by rw[z] at h;revert h;decide +kernel,λz=>by rw[z] at h;revert h;decide +kernel⟩
theorem tie45(t:Str × Str):45∈(tieT t).cps.toList:=by
 unfold tieT;rw[aZ_,aZ_];refine List.mem_append_left _ (aD' _ ?_);decide +kernel
theorem j5_{u:Str × Str}(h:bd' t.1=true/\bd' t.2=true)(h':bd' u.1=true/\bd' u.2=true)(e:tieT t=tieT u):t=u:=by
 have:=bY_ h.1 h.2;rw[e,bY_ h'.1 h'.2] at this
 injection this with a b
 injection b with b _
 exact (Prod.ext a b).symm
theorem gI_:∀{us vs:Xb},(∀t∈us,bd' t.1=true/\bd' t.2=true)->(∀t∈vs,bd' t.1=true/\bd' t.2=true)->us.map tieT=vs.map tieT->us=vs
 |[],[],_,_,_=>rfl
 |[],_::_,_,_,e=>by cases e
 |_::_,[],_,_,e=>by cases e
 |u::us,v::vs,h,h',e=>by
  rw[au',au'] at e;obtain⟨e1,e2⟩:=b_8 e;rw[j5_ (h u Z2) (h' v Z2) e1,gI_ (λt ht=>h t (by simp[ht])) (λt ht=>h' t (by simp[ht])) e2]
variable{vs:Xb}
theorem jk_(ne:vs≠[])(h:∀t∈vs,bd' t.1=true/\bd' t.2=true)(no:¬OkW vs):OddY (Txt.join "," (vs.map tieT)):=by
 have m:45∈(Txt.join "," (vs.map tieT)).cps.toList:=by
  match vs,ne with
  |t::r,_=>
   rw[cE_,jn];exact e8_ 44 (tie45 t)
 exact ko_ (cc_ m).1 (cc_ m).2 λus ne' ok e=>by
  rw[ek_ h ne] at e;exact no (gI_ (λt ht=>⟨(ok.1 t ht).1,(ok.1 t ht).2.1⟩) h e.symm▸ok)
theorem cG_(h:bd' x=true):Wd x:=⟨by have:=ag_ h;omega,λz=>by have:=aD_ h z;omega,λz=>by have:=aD_ h z;omega,by
 rw[List.count_eq_zero.mpr λz=>by have:=aD_ h z;omega];decide⟩
theorem iE_(h:bd' t.1=true/\bd' t.2=true):(tieT t).length<=17/\10∉(tieT t).cps.toList/\32∉(tieT t).cps.toList/\(tieT t).cps.toList.count 44=0:=⟨by
 have:=ag_ h.1;have:=ag_ h.2;rw[dw_];omega,λz=>by have:=bx_ h.1 h.2 z;omega,λz=>by have:=bx_ h.1 h.2 z;omega,List.count_eq_zero.mpr λz=>by have:=bx_ h.1 h.2 z;omega⟩
theorem fy_(c:Nat):∀{ps:List Str},(∀p∈ps,p.cps.toList.count c=0)->(Str.join ⟨#[c]⟩ ps).cps.toList.count c<=ps.length
 |[],_=>by simp[Str.join,Str.empty]
 |[a],h=>by
  show a.cps.toList.count c<=_;rw[h a Z2];exact aJ' _
 |a::b::r,h=>by
  have:=fy_ c (ps:=b::r) λp hp=>h p (by simp[hp]);rw[as_,aR',List.count_cons,h a Z2];simp only[aA',beq_self_eq_true,if_true] at this ⊢;omega
theorem ix_(h:∀t∈vs,bd' t.1=true/\bd' t.2=true)(l:vs.length<=28):Wd (Txt.join "," (vs.map tieT)):=by
 have al:∀p∈vs.map tieT,p.length<=17/\10∉p.cps.toList/\32∉p.cps.toList/\p.cps.toList.count 44=0:=λp hp=>by
  obtain⟨t,ht,rfl⟩:=ac'.mp hp;exact iE_ (h t ht)
 have out:∀{c:Nat},c≠44->(∀p∈vs.map tieT,c∉p.cps.toList)->c∉(Txt.join "," (vs.map tieT)).cps.toList:=λ{c} n k z=>by
  rw[cE_,jn] at z;rcases co_ 44 z with z|⟨s,hs,z⟩
  ·exact n z
  ·exact k s hs z
 refine⟨?_,out (by decide) λp hp=>(al p hp).2.1,out (by decide) λp hp=>(al p hp).2.2.1,?_⟩
 ·have a:=jlen "," (vs.map tieT);have b:=dH_ (m:=17) λx hx=>(al x hx).1;have c:(vs.map tieT).length * (",":Str).length=(vs.map tieT).length:=Nat.mul_one _;rw[aa'] at a b c;omega
 ·rw[cE_,jn];have:=fy_ 44 (ps:=vs.map tieT) λp hp=>(al p hp).2.2.2;rw[aa'] at this;omega
theorem hm_(h:Form ws):∃a b r,ws=a::b::r/\r≠[]/\(∀c∈a.cps.toList,97<=c/\c<=122)/\∀c∈b.cps.toList,97<=c/\c<=122:=by
 have key:∀s∈[("hand":Str),"tie","piece"],∀c∈s.cps.toList,97<=c/\c<=122:=by decide +kernel
 cases h with
 |hand n=>exact⟨_,_,_,rfl,by simp,key _ Z2,λc m=>aD_ n m⟩
 |tie n=>exact⟨_,_,_,rfl,by simp,key _ Z2,λc m=>aD_ n m⟩
 |piece n=>exact⟨_,_,_,rfl,by simp,key _ Z2,λc m=>aD_ n m⟩
theorem kY_{p q:List Nat}(e:x.cps.toList=p++c::q)(hp:p.count 32<=1)(c1:¬(97<=c/\c<=122))(c2:c≠32):NoR x:=λz=>by
 obtain⟨a,b,r,ew,ne,ha,hb⟩:=hm_ z
 have jx:Txt.join " " (Txt.split x " ")=x:=by
  rw[cy_,jn];exact StrLaws.join_split x _
 rw[ew] at jx
 have e2:x.cps.toList=(a.cps.toList++32::b.cps.toList)++32::(Str.join ⟨#[32]⟩ r).cps.toList:=by
  rw[<- jx,cy_,jn,as_]
  match r,ne with
  |d::r,_=>
   rw[as_];simp
 have nA:∀d∈a.cps.toList++32::b.cps.toList,d=32∨(97<=d/\d<=122):=λd hd=>by
  rcases am'.mp hd with h|h
  ·exact .inr (ha d h)
  ·rcases ah'.mp h with h|h
   ·exact .inl h
   ·exact .inr (hb d h)
 rw[e] at e2;generalize hA:a.cps.toList++32::b.cps.toList=A at e2 nA;have cA:1<=A.count 32:=by rw[<- hA,aR',List.count_cons_self];omega
 rcases List.append_eq_append_iff.mp e2 with⟨as,h1,h2⟩|⟨bs,h1,h2⟩
 ·cases as with
  |nil=>exact c2 (b_8 h2).1
  |cons d as=>
   have hd:=(b_8 h2).1;rcases nA c (by rw[h1,hd];simp) with z|z
   ·exact c2 z
   ·exact c1 z
 ·cases bs with
  |nil=>exact c2 (b_8 h2).1.symm
  |cons d bs=>
   rw[h1,aR',<- (b_8 h2).1,List.count_cons_self] at hp;omega
structure d2' (r n w h y:Str):Prop where
 e:Txt.split r " "=[("piece":Str),n,w,h,y]
 nm:bd' n=true
 wn:Wd n
 ww:Wd w
 wh:Wd h
 wy:Wd y
 cm:r.cps.toList.count 44<=60
variable{r:Str}
theorem d2'.text(p:d2' r n w h y):r.cps.toList=("piece":Str).cps.toList++32::(n.cps.toList++32::(Str.join ⟨#[32]⟩ [w,h,y]).cps.toList):=by
 have jx:Txt.join " " (Txt.split r " ")=r:=by
  rw[cy_,jn];exact StrLaws.join_split r _
 rw[<- jx,p.e,cy_,jn,as_,as_]
structure Orig (rs:List Str) (k:Nat):Prop where
 lt:k<rs.length
 l44:rs.length<=44
 sum:(rs.map (·.length)).sum<=30000
 ok:∀r∈rs,RowO r
 hb:∀r∈rs,dE' r
 pc:∀i r,k<=i->rs[i]? = some r->∃n w h y,d2' r n w h y
 asc:∀i j r r',k<=i->i<j->rs[i]? = some r->rs[j]? = some r'->ltS ((Txt.split r " ").getD 1 "") ((Txt.split r' " ").getD 1 "")=true
variable{p q:Nat}
theorem if_(rs:List Str)(h:p<=q):((rs.take p).map (·.length)).sum+((rs.drop q).map (·.length)).sum<=(rs.map (·.length)).sum:=by
 have e:(rs.map (·.length)).sum=((rs.take p).map (·.length)).sum+((rs.drop p).map (·.length)).sum:=by
  rw[<- List.sum_append,<- ag',List.take_append_drop]
 have e2:((rs.drop p).map (·.length)).sum=(((rs.drop p).take (q - p)).map (·.length)).sum+((rs.drop q).map (·.length)).sum:=by
  rw[<- List.sum_append,<- ag']
  have:(rs.drop p).take (q - p)++rs.drop q=rs.drop p:=by
   conv=>rhs;rw[<- List.take_append_drop (q - p) (rs.drop p)]
   rw[List.drop_drop,show p+(q - p)=q by omega]
  rw[this]
 omega
variable{k:Nat}
theorem Orig.mkR(O:Orig rs k)(h:p<=q){mid:List Str}(h0:mid≠[])(h2:mid.length<=2)(ok:∀r∈mid,RowO r):RsOk (rs.take p++mid++rs.drop q):=by
 have al:∀r∈rs.take p++mid++rs.drop q,RowO r:=λr hr=>by
  rcases am'.mp hr with hr|hr
  ·rcases am'.mp hr with hr|hr
   ·exact O.ok r (List.mem_of_mem_take hr)
   ·exact ok r hr
  ·exact O.ok r (List.mem_of_mem_drop hr)
 refine⟨λz=>?_,?_,?_,λr hr=>(al r hr).nl,λr hr=>(al r hr).cm⟩
 ·exact h0 (List.append_eq_nil_iff.mp (List.append_eq_nil_iff.mp z).1).2
 ·have:=O.l44;rw[aj',aj',af',aM'];omega
 ·have:=if_ rs h;have:=O.sum;have:=dH_ (m:=3200) λx hx=>(ok x hx).len;rw[ag',ag',List.sum_append,List.sum_append];omega
theorem Orig.mid(O:Orig rs k)(h:p<=q)(no:NoR r)(ok:RowO r):Bad (rs.take p++[r]++rs.drop q):=by
 have R:=O.mkR h (mid:=[r]) Z2 (by show 1<=2;decide) λx hx=>by rw[show x=r by simpa using hx];exact ok
 refine⟨R,λf=>bad1 R.rows (λx hx=>?_) ⟨r,by simp,no⟩ O.hb⟩;rcases am'.mp hx with hx|hx
 ·rcases am'.mp hx with hx|hx
  ·exact .inl (List.mem_of_mem_take hx)
  ·rw[show x=r by simpa using hx];exact .inr no
 ·exact .inl (List.mem_of_mem_drop hx)
theorem d2'.is(p:d2' r n w h y):isW "piece" (Txt.split r " ")=true/\(Txt.split r " ").getD 1 ""=n:=by
 rw[p.e];exact⟨rfl,rfl⟩
theorem Orig.twice(O:Orig rs k)(hk:k<=i)(hr:rs[i]? = some r)(hp:p<=i∨p=i+1):Bad (rs.take p++[r]++rs.drop p):=by
 obtain⟨n,w,h,y,P⟩:=O.pc i r hk hr;have il:=(ab'.mp hr).1;have rm:r∈rs:=ad' hr;have R:=O.mkR (ak' p) (mid:=[r]) Z2 (by show 1<=2;decide) λx hx=>by rw[show x=r by simpa using hx];exact O.ok r rm
 refine⟨R,λf=>bad2 R.rows (r1:=r) (r2:=r) ?_ P.is.1 P.is.1 (dP_ _)⟩;rcases hp with hp|hp
 ·have m:r∈rs.drop p:=by
   refine ad' (i:=i - p) ?_;rw[List.getElem?_drop,show p+(i - p)=i by omega];exact hr
  rw[a2'];exact (List.Sublist.append (List.Sublist.refl [r]) (List.singleton_sublist.mpr m)).trans (List.sublist_append_right _ _)
 ·have m:r∈rs.take p:=by
   refine ad' (i:=i) ?_;rw[List.getElem?_take_of_lt Z1];exact hr
  exact (List.Sublist.append (List.singleton_sublist.mpr m) (List.Sublist.refl [r])).trans (List.sublist_append_left _ _)
theorem Orig.turned{r':Str}(O:Orig rs k)(hk:k<=i)(hr:rs[i]? = some r)(hr':rs[i+1]? = some r'):Bad (rs.take i++[r',r]++rs.drop (i+2)):=by
 obtain⟨_,_,_,_,P⟩:=O.pc i r hk hr;obtain⟨_,_,_,_,P'⟩:=O.pc (i+1) r' Z1 hr'
 have R:=O.mkR (show i<=i+2 by omega) (mid:=[r',r]) Z2 (by show 2<=2;decide) λx hx=>by
  simp only[ah',a0',or_false] at hx;rcases hx with rfl|rfl
  ·exact O.ok _ (ad' hr')
  ·exact O.ok _ (ad' hr)
 refine⟨R,λf=>bad2 R.rows (r1:=r') (r2:=r) ?_ P'.is.1 P.is.1 (ci_ (O.asc i (i+1) r r' hk Z1 hr hr'))⟩;exact (List.sublist_append_right _ _).trans (List.sublist_append_left _ _)
theorem d2'.sign(P:d2' r n w h y)(ok:RowO r)(l:r.length<=3000){at_ d:Int}(a0:0<=at_)(a1:at_<5+(n.length:Int)+2)(d0:0<=d)(d1:d<2)(c1:¬(97<=c/\c<=122))(c2:c≠32)(c3:c≠10)(c4:c≠44):NoR (Txt.slice r none (some at_)++⟨#[c]⟩++Txt.slice r (some (at_+d)) none)/\RowO (Txt.slice r none (some at_)++⟨#[c]⟩++Txt.slice r (some (at_+d)) none):=by
 obtain⟨i,rfl⟩:=aC' a0;obtain⟨j,rfl⟩:=aC' d0;have t:=P.text;have rl:r.cps.toList.length=r.length:=rfl;have nl:n.cps.toList.length=n.length:=rfl;have p5:("piece":Str).cps.toList.length=5:=by decide +kernel
 have lr:5+n.length+2<=r.length:=by
  rw[<- rl,t,aj',aA',aj',aA'];omega
 have e:(Txt.slice r none (some (i:Int))++(⟨#[c]⟩:Str)++Txt.slice r (some ((i:Int)+(j:Int))) none).cps.toList=r.cps.toList.take i++c::r.cps.toList.drop (i+j):=by
  rw[aZ_,aZ_,m8_ Z1,show (i:Int)+(j:Int)=((i+j:Nat):Int) by omega,jH_ Z1];simp
 have sub:(r.cps.toList.take i++r.cps.toList.drop (i+j)).Sublist r.cps.toList:=by
  conv=>rhs;rw[<- List.take_append_drop i r.cps.toList]
  refine List.Sublist.append (List.Sublist.refl _) ?_;rw[<- List.drop_drop];exact List.drop_sublist _ _
 have hc:(r.cps.toList.take i).count 32<=1:=by
  have s1:(r.cps.toList.take i).Sublist (("piece":Str).cps.toList++32::n.cps.toList):=by
   have:r.cps.toList=(("piece":Str).cps.toList++32::n.cps.toList)++32::(Str.join ⟨#[32]⟩ [w,h,y]).cps.toList:=by rw[t];simp
   rw[this,List.take_append_of_le_length (by rw[aj',aA'];omega)];exact List.take_sublist _ _
  have:=s1.count_le 32;rw[aR',List.count_cons_self,List.count_eq_zero.mpr P.wn.2.2.1,show ("piece":Str).cps.toList.count 32=0 by decide +kernel] at this;omega
 generalize Txt.slice r none (some (i:Int))++(⟨#[c]⟩:Str)++Txt.slice r (some ((i:Int)+(j:Int))) none=x at e ⊢;refine⟨kY_ e hc c1 c2,⟨?_,λz=>?_,λv hv=>?_⟩⟩
 ·have:x.cps.toList.length=x.length:=rfl;rw[<- this,e,aj',aA',af',aM'];omega
 ·rw[e] at z;rcases am'.mp z with z|z
  ·exact ok.nl (List.mem_of_mem_take z)
  ·rcases ah'.mp z with z|z
   ·exact c3 z.symm
   ·exact ok.nl (List.mem_of_mem_drop z)
 ·have a:=jD_ (x:=x) (c:=32) 44 hv;have b:=sub.count_le 44;rw[aR'] at b;rw[e,aR',List.count_cons_of_ne c4] at a;have:=P.cm;omega
end Ev
namespace L2
open PySem PySem.Spec PyProof.Rows PySem.W
inductive rMulS (x:V) (y:V) (H:Hp) (Q:VK):Prop
 |mk:∀z n,x=.str z->y=.int n->PySem.MulOk z n->Q (.str (Txt.mul z n)) H->rMulS x y H Q
variable{X:Cx}
theorem ku_:OpR X (binaryOp .Mult) rMulS:=by
 intro pins s σ H x y v u Q I rx ry h;obtain⟨z,n,rfl,rfl,ok,q⟩:=h;obtain⟨t,rfl⟩:=rx;obtain⟨t2,rfl⟩:=ry;exact SB.mul ok λt' k=>⟨.str _,H,I.tok _,⟨_,rfl⟩,q⟩
end L2
namespace Ev
open PySem L2
def Bt(l:Option Addr)(H H':Hp):Prop:=∀b o,H b=some o->l≠some b->H' b=some o
def Sto(l:Option Addr)(H:Hp):Prop:=∀a,l=some a->stt H a
theorem Bt.refl(l:Option Addr)(H:Hp):Bt l H H:=λ_ _ e _=>e
variable{l:Option Addr}{H H1:Hp}
theorem Bt.trans{H2:Hp}(h:Bt l H H1)(h2:Bt l H1 H2):Bt l H H2:=λb o e n=>h2 b o (h b o e n) n
theorem Bt.of(h:Same H H1):Bt l H H1:=λb o e _=>h b o e
theorem Bt.to{l:Addr}(h:Bt (some l) H H1):But l H H1:=λb o e n=>h b o e λz=>n (b_2 z).symm
theorem Bt.but{l:Addr}(h:But l H H1):Bt (some l) H H1:=λb o e n=>h b o e λz=>n (by rw[z])
theorem Bt.same(h:Bt none H H1):Same H H1:=λb o e=>h b o e λz=>by cases z
theorem Sto.same(h:Sto l H)(s:Same H H1):Sto l H1:=λa e=>(h a e).same s
theorem Sto.one{l:Addr}(h:stt H l):Sto (some l) H:=λa e=>by cases e;exact h
theorem Sto.no:Sto none H:=λa e=>by cases e
variable{H':Hp}
theorem Bt.free{b:Addr}(h:Bt l H H')(s:Sto l H')(e:H' b=none):H b=none:=by
 cases z:H b with
 |none=>rfl
 |some o=>
  by_cases q:l=some b
  ·obtain⟨xs,e2⟩:=(s b q).some;rw[e] at e2;cases e2
  ·rw[h b o z q] at e;cases e
def Gv(l:Option Addr)(σ:St)(H:Hp)(t:TE)(R:Hp->V->Prop):Prop:=∀(H':Hp) (Q:VK),Bt l H H'->Sto l H'->(∀v H2,Bt l H' H2->Sto l H2->R H2 v->Q v H2)->t σ H' Q
def GvA(l:Option Addr)(σ:St)(H:Hp)(t:TA)(R:Hp->List V->Prop):Prop:=∀(H':Hp) (Q:List V->Hp->Prop),Bt l H H'->Sto l H'->(∀v H2,Bt l H' H2->Sto l H2->R H2 v->Q v H2)->t σ H' Q
def GvO(l:Option Addr)(σ:St)(H:Hp)(t:TO)(o:Option Int):Prop:=∀(H':Hp) (Q:Option Int->Hp->Prop),Bt l H H'->Sto l H'->(∀H2,Bt l H' H2->Sto l H2->Q o H2)->t σ H' Q
def LsE(l:Option Addr)(xs:List Str)(H:Hp)(v:V):Prop:=∃a:Addr,v=.ref a/\l≠some a/\H a=some (.lst (xs.map V.str))
def LLR(l:Option Addr)(H0:Hp)(R:List Str->Prop)(m:Nat)(H:Hp)(v:V):Prop:=∃(a:Addr) (vs:List V),v=.ref a/\l≠some a/\H0 a=none/\H a=some (.lst vs)/\vs.length=m/\∀x∈vs,(∃xs,R xs/\LsE l xs H x)/\x≠.ref a
def StE(x:Str)(_:Hp)(v:V):Prop:=v=.str x
def SsE(xs:List Str)(_:Hp)(vs:List V):Prop:=vs=xs.map V.str
def LsA(l:Option Addr)(R:List Str->Prop)(m:Nat)(H:Hp)(vs:List V):Prop:=vs.length=m/\∀v∈vs,∃xs,R xs/\LsE l xs H v
variable{v:V}{xs:List Str}
theorem LsE.mono(h:LsE l xs H v)(b:Bt l H H'):LsE l xs H' v:=by
 obtain⟨a,e,ne,ha⟩:=h;exact⟨a,e,ne,b _ _ ha ne⟩
variable{R:List Str->Prop}{m:Nat}{H0:Hp}
theorem LLR.mono(h:LLR l H0 R m H v)(b:Bt l H H'):LLR l H0 R m H' v:=by
 obtain⟨a,vs,e,ne,h0,ha,le,p⟩:=h;refine⟨a,vs,e,ne,h0,b _ _ ha ne,le,λx hx=>?_⟩;obtain⟨⟨xs,r,q⟩,n⟩:=p x hx;exact⟨⟨xs,r,q.mono b⟩,n⟩
variable{q:Addr}
theorem LsE.ne(h:LsE l xs H v)(hq:H q=none):v≠.ref q:=by
 obtain⟨a,e,ne,ha⟩:=h;subst e;intro z;cases z;rw[hq] at ha;cases ha
variable{o:HO}
theorem LsE.upd(h:LsE l xs H v)(hq:v≠.ref q):LsE l xs (upd H q o) v:=by
 obtain⟨a,e,ne,ha⟩:=h;refine⟨a,e,ne,?_⟩;rw[a8_ (λz=>hq (by rw[e,z]))];exact ha
variable{a:Addr}
theorem g9_(st:Sto l H)(h:H a=none):l≠some a:=λz=>by
 obtain⟨xs,e⟩:=(st a z).some;rw[h] at e;cases e
theorem Sto.upd(st:Sto l H)(ne:l≠some a):Sto l (upd H a o):=λb e=>by
 have:=st b e;unfold stt at this ⊢;rw[a8_ (λz=>ne (by rw[e,z]))];exact this
variable{x:Str}
theorem l7_{c:Addr}(st:stt H c)(h:H a=some (.lst ((x::xs).map V.str))):a≠c:=λz=>by
 rw[z] at h;rcases st with⟨n,e⟩|⟨n,m,k,e⟩<;>rw[h] at e<;>simp at e
variable{R:Hp->V->Prop}{t:TE}{i:Nat}{D:Ends}{Hb:Hp}{σ:St}
theorem e0'{u:TS}(h:Gv l σ Hb t R)(b:Bt l Hb H)(st:Sto l H)(k:∀v H2,Bt l Hb H2->Sto l H2->R H2 v->u D (σ.set i (some v)) H2):tSeq (tAsg t (bR' i)) u D σ H:=h H _ b st λv H2 b2 st2 r=>k v H2 (b.trans b2) st2 r
theorem gvSet1(h:Gv l σ Hb t R)(b:Bt l Hb H)(st:Sto l H)(k:∀v H2,Bt l Hb H2->Sto l H2->R H2 v->D.nx (σ.set i (some v)) H2):tAsg t (bR' i) D σ H:=h H _ b st λv H2 b2 st2 r=>k v H2 (b.trans b2) st2 r
theorem gvRet(h:Gv l σ Hb t R)(b:Bt l Hb H)(st:Sto l H)(k:∀v H2,Bt l Hb H2->Sto l H2->R H2 v->D.rt v H2):tRet t D σ H:=h H _ b st λv H2 b2 st2 r=>k v H2 (b.trans b2) st2 r
theorem d7'(h:D.nx σ H):tNext D σ H:=h
theorem cz'(h:σ[i]? = some (some v))(r:∀H',Bt l H H'->R H' v):Gv l σ H (tVar i) R:=λH' Q b st k=>⟨v,h,k v H' (Bt.refl _ _) st (r H' b)⟩
theorem gvC(r:∀H',Bt l H H'->R H' v):Gv l σ H (tC v) R:=λH' Q b st k=>k v H' (Bt.refl _ _) st (r H' b)
theorem gvS:Gv l σ H (tC (.str x)) (StE x):=gvC λ_ _=>rfl
variable{u:TE}
theorem d1'{y:Str}(h:Gv l σ H t (StE x))(h2:Gv l σ H u (StE y))(k:x.length+y.length<=10000):Gv l σ H (tOp cr' t u) (StE (x++y)):=λH' Q b st kk=>h H' _ b st λv H2 b2 st2 r=>h2 H2 _ (b.trans b2) st2 λw H3 b3 st3 r2=>by
 have sz:=b__;exact⟨x,y,r,r2,by omega,kk _ _ (b2.trans b3) st3 rfl⟩
theorem b8':GvA l σ H tNil (SsE []):=λH' Q b st k=>k [] H' (Bt.refl _ _) st rfl
variable{ts:TA}
theorem be'(h:Gv l σ H t (StE x))(hs:GvA l σ H ts (SsE xs)):GvA l σ H (bI' t ts) (SsE (x::xs)):=λH' Q b st k=>h H' _ b st λv H2 b2 st2 e=>hs H2 _ (b.trans b2) st2 λvs H3 b3 st3 es=>k _ H3 (b2.trans b3) st3 (by unfold StE at e;unfold SsE at es ⊢;rw[e,es];rfl)
variable{R:List Str->Prop}
theorem eu':GvA l σ H tNil (LsA l R 0):=λH' Q b st k=>k [] H' (Bt.refl _ _) st ⟨rfl,λx hx=>by cases hx⟩
theorem by'(h:Gv l σ H t (LsE l xs))(r:R xs)(hs:GvA l σ H ts (LsA l R m)):GvA l σ H (bI' t ts) (LsA l R (m+1)):=λH' Q b st k=>h H' _ b st λv H2 b2 st2 q=>hs H2 _ (b.trans b2) st2 λvs H3 b3 st3 ⟨le,p⟩=>k _ H3 (b2.trans b3) st3 ⟨by simpa using le,λy hy=>by
  rcases ah'.mp hy with z|z
  ·rw[z];exact⟨xs,r,q.mono b3⟩
  ·exact p y z⟩
theorem c5'{t:TA}(h:GvA l σ H t (SsE xs))(k:xs.length<=1000):Gv l σ H (tLst t) (LsE l xs):=λH' Q b st kk=>h H' _ b st λvs H2 b2 st2 e=>by
 have sz:=b__;unfold SsE at e;subst e;exact⟨by rw[aa'];omega,λq hq=>kk _ _ (b2.trans (Bt.of (Same.new hq))) (st2.same (Same.new hq)) ⟨q,rfl,g9_ st2 hq,a1_⟩⟩
variable{Hx:Hp}
theorem gvLstL{t:TA}(h:GvA l σ H t (LsA l R m))(k:m<=1000)(bx:Bt l Hx H):Gv l σ H (tLst t) (LLR l Hx R m):=λH' Q b st kk=>h H' _ b st λvs H2 b2 st2 ⟨le,p⟩=>by
 have sz:=b__;refine⟨by omega,λq hq=>kk _ _ (b2.trans (Bt.of (Same.new hq))) (st2.same (Same.new hq)) ⟨q,vs,rfl,g9_ st2 hq,((bx.trans b).trans b2).free st2 hq,a1_,le,λx hx=>?_⟩⟩;obtain⟨xs,r,e⟩:=p x hx;exact⟨⟨xs,r,e.mono (Bt.of (Same.new hq))⟩,e.ne hq⟩
variable{ys:List Str}
theorem bQ'(h:Gv l σ H t (LsE l xs))(h2:Gv l σ H u (LsE l ys))(k:xs.length+ys.length<=1000):Gv l σ H (tOp rCat t u) (LsE l (xs++ys)):=λH' Q b st kk=>h H' _ b st λv H2 b2 st2 r=>h2 H2 _ (b.trans b2) st2 λw H3 b3 st3 r2=>by
 have sz:=b__;obtain⟨a,rfl,ne,ha⟩:=r.mono b3;obtain⟨c,rfl,ne2,hc⟩:=r2;refine⟨a,c,_,_,rfl,rfl,ha,hc,by rw[aa',aa'];omega,λq hq=>kk _ _ ((b2.trans b3).trans (Bt.of (Same.new hq))) (st3.same (Same.new hq)) ⟨q,rfl,g9_ st3 hq,?_⟩⟩;rw[a1_,ag']
theorem gvCatL{m2:Nat}{Ra Rb:Hp->V->Prop}(bx:Bt l Hx H)(h:Gv l σ H t Ra)(ra:∀H2 v,Ra H2 v->∃H0,LLR l H0 R m H2 v)(mo:∀H2 H3 v,Bt l H2 H3->Ra H2 v->Ra H3 v)(h2:Gv l σ H u Rb)(rb:∀H2 v,Rb H2 v->∃H0 k,k<=m2/\LLR l H0 R k H2 v)(k:m+m2<=1000):Gv l σ H (tOp rCat t u) (λH2 v=>∃k,m<=k/\k<=m+m2/\LLR l Hx R k H2 v):=λH' Q b st kk=>h H' _ b st λv H2 b2 st2 r=>h2 H2 _ (b.trans b2) st2 λw H3 b3 st3 r2=>by
 have sz:=b__;obtain⟨_,a,xs,rfl,ne,_,ha,le,p⟩:=ra _ _ (mo _ _ _ b3 r);obtain⟨_,m3,l3,c,ys,rfl,ne2,_,hc,le2,p2⟩:=rb _ _ r2;refine⟨a,c,_,_,rfl,rfl,ha,hc,by omega,λq hq=>kk _ _ ((b2.trans b3).trans (Bt.of (Same.new hq))) (st3.same (Same.new hq)) ⟨m+m3,by omega,by omega,q,xs++ys,rfl,g9_ st3 hq,(((bx.trans b).trans b2).trans b3).free st3 hq,a1_,by rw[aj'];omega,λx hx=>?_⟩⟩;obtain⟨zs,r,e⟩:∃zs,R zs/\LsE l zs H3 x:=(am'.mp hx).elim (λz=>(p x z).1) (λz=>(p2 x z).1);exact⟨⟨zs,r,e.mono (Bt.of (Same.new hq))⟩,e.ne hq⟩
variable{K:F__}
theorem appG{ls:Addr}(hi:σ[i]? = some (some (.ref ls)))(h:Gv l σ H0 t (LsE l xs))(rx:R xs)(b:Bt l H0 H)(st:Sto l H)(L:LLR l H0 R m H (.ref ls))(h1:0<m)(k1:m<=1000)(k:∀H2,Bt l H0 H2->Sto l H2->LLR l H0 R (m+1) H2 (.ref ls)->(∀c o,H c=some o->l≠some c->c≠ls->H2 c=some o)->D.nx σ H2):tDrop (tBM K "list" er' (tVar i) (bI' t tNil)) D σ H:=by
 have sz:=b__;have L0:=L;obtain⟨a,vs,e,ne,h0,ha,le,p⟩:=L0;cases e;refine⟨_,hi,.inl ⟨rfl,_,.of ha⟩,h H _ b st λv H1 b1 st1 r=>?_⟩;obtain⟨a,vs,e,ne,h0,ha,le,p⟩:=L.mono b1;cases e
 have nv:v≠.ref ls:=by
  obtain⟨c,rfl,ne2,hc⟩:=id r;intro z;cases z;rw[ha] at hc;have hc:vs=xs.map V.str:=by simpa using hc
  obtain⟨y,hy⟩:=List.exists_mem_of_length_pos (show 0<vs.length by omega);obtain⟨_,_,d,e,_⟩:=(p y hy).1;rw[hc] at hy;obtain⟨z,_,ez⟩:=ac'.mp hy;rw[e] at ez;cases ez
 refine⟨ls,vs,v,rfl,rfl,ha,by omega,k _ (λc o hc nc=>?_) (st1.upd ne) ⟨ls,_,rfl,ne,h0,a1_,by simp[le],λx hx=>?_⟩ (λc o hc nc nl=>by rw[a8_ nl];exact b1 _ _ hc nc)⟩
 ·rw[a8_ (λz=>by rw[z,h0] at hc;cases hc)];exact (b.trans b1) _ _ hc nc
 ·obtain⟨⟨zs,r,e⟩,n⟩:(∃zs,R zs/\LsE l zs H1 x)/\x≠.ref ls:=by
   rcases am'.mp hx with z|z
   ·exact p x z
   ·rw[show x=v by simpa using z];exact⟨⟨xs,rx,r⟩,nv⟩
  exact⟨⟨zs,r,e.upd n⟩,n⟩
theorem LLR.ne(L:LLR l H0 R m H v)(h1:0<m)(h:H a=some (.lst (xs.map V.str))):v≠.ref a:=λz=>by
 obtain⟨c,vs,e,_,_,ha,le,p⟩:=L;rw[z] at e;cases e;rw[h] at ha;have hc:xs.map V.str=vs:=by simpa using ha
 obtain⟨y,hy⟩:=List.exists_mem_of_length_pos (show 0<vs.length by omega);obtain⟨_,_,d,e,_⟩:=(p y hy).1;rw[<- hc] at hy;obtain⟨z,_,ez⟩:=ac'.mp hy;rw[e] at ez;cases ez
variable{zs:List Str}
theorem gvMid{A J C:TE}{S:Str->Prop}(hA:Gv l σ H A (LsE l xs))(hJ:Gv l σ H J (λ_ v=>∃r,v=.str r/\S r))(hC:Gv l σ H C (LsE l zs))(k1:xs.length+1+zs.length<=1000):Gv l σ H (tOp rCat (tOp rCat A (tLst (bI' J tNil))) C) (λH2 v=>∃r,S r/\LsE l (xs++[r]++zs) H2 v):=λH' Q b st kk=>hA H' _ b st λv1 H1 b1 st1 L1=>hJ H1 _ (b.trans b1) st1 λv2 H2 b2 st2 ⟨r,e,s⟩=>by
 subst e;exact (bQ' (l:=l) (H:=H2) (bQ' (gvC (v:=v1) λH' b'=>(L1.mono b2).mono b') (c5' (be' (gvS (x:=r)) b8') (by show 1<=1000;decide)) (by show xs.length+1<=1000;omega)) (λH'' Q b'' st'' k=>hC H'' Q (((b.trans b1).trans b2).trans b'') st'' k) (by rw[aj'];show xs.length+1+zs.length<=1000;omega)) H2 _ (Bt.refl _ _) st2 λv3 H3 b3 st3 L3=>kk v3 H3 ((b1.trans b2).trans b3) st3 ⟨r,s,L3⟩
theorem ea':GvO l σ H bJ' none:=λH' Q b st k=>k H' (Bt.refl _ _) st
theorem ei'{i:Int}(h:Gv l σ H t λ_ v=>v=.int i):GvO l σ H (dk' t) (some i):=λH' Q b st k=>h H' _ b st λv H2 b2 st2 e=>⟨i,e,k H2 b2 st2⟩
theorem goInt{i:Int}:GvO l σ H (dk' (tC (.int i))) (some i):=ei' (gvC λ_ _=>rfl)
theorem gvSl{tl th:TO}{lo hi:Option Int}(h:σ[i]? = some (some (.ref a)))(ha:H a=some (.lst (xs.map V.str)))(ne:l≠some a)(hl:GvO l σ H tl lo)(hh:GvO l σ H th hi)(e:cutV (xs.map V.str) lo hi=ys.map V.str):Gv l σ H (tSl (rSlL K) (tVar i) tl th) (LsE l ys):=λH' Q b st kk=>⟨_,h,hl H' _ b st λH2 b2 st2=>hh H2 _ (b.trans b2) st2 λH3 b3 st3=>by
 refine⟨a,_,rfl,.of (((b.trans b2).trans b3) _ _ ha ne),λq hq=>kk _ _ ((b2.trans b3).trans (Bt.of (Same.new hq))) (st3.same (Same.new hq)) ⟨q,rfl,g9_ st3 hq,?_⟩⟩;rw[a1_,e]⟩
variable{p:Int}
theorem mg_(h:0<=p):cutV (xs.map V.str) none (some p)=(xs.take p.toNat).map V.str:=by
 unfold cutV HT.sIx;simp only;rw[a_8 Z1,aa',List.drop_zero,Nat.sub_zero,<- List.map_take];congr 1;by_cases c:p.toNat<=xs.length
 ·rw[Nat.min_eq_left c]
 ·rw[Nat.min_eq_right Z1,an',aI' Z1]
theorem mb_(h:0<=p):cutV (xs.map V.str) (some p) none=(xs.drop p.toNat).map V.str:=by
 unfold cutV HT.sIx;simp only;rw[a_8 Z1,aa',<- List.map_drop,<- List.map_take];congr 1;by_cases c:p.toNat<=xs.length
 ·rw[Nat.min_eq_left c,aI' (by rw[aM'];omega)]
 ·rw[Nat.min_eq_right Z1,List.drop_length,List.drop_of_length_le Z1,List.take_nil]
theorem gvIx{vs:List V}{j:Int}(h:σ[i]? = some (some (.ref a)))(ha:H a=some (.lst vs))(ne:l≠some a)(hx:atI vs j=some (.str x)):Gv l σ H (tOp (rIxL K) (tVar i) (tC (.int j))) (StE x):=λH' Q b st kk=>⟨_,h,a,vs,j,_,rfl,rfl,.of (b _ _ ha ne),hx,kk _ _ (Bt.refl _ _) st rfl⟩
theorem gvComp{fr:List Nat}{lw lo:Addr}{ws:List Str}(hi:σ[i]? = some (some (.ref lo)))(ho:H lo=some (.lst (xs.map V.str)))(no:l≠some lo)(hσ:cb' 1 fr σ=List.replicate 1 none++[some (.ref lw)])(hw:H lw=some (.lst (ws.map V.str)))(nw:l≠some lw)(e4:cutV (ws.map V.str) none (some 4)=zs.map V.str)(z4:zs.length<=4)(rx:∀x∈xs,R (zs++[x]))(k1:xs.length<=900) :
  Gv l σ H (tComp (iList K (tVar i)) 1 fr (bR' 0) tYes (tOp rCat (tSl (rSlL K) (tVar 1) bJ' (dk' (tC (.int 4)))) (tLst (bI' (tVar 0) tNil)))) (LLR l H R xs.length):=λH2 Q b2 st2 kk=>by
 have sz:=b__;have ha:=b2 _ _ ho no;refine⟨_,hi,lo,rfl,⟨_,.of ha⟩,λD hD=>?_⟩;have nD:=g9_ st2 hD;have hw2:=b2 _ _ hw nw;refine an_ (own:=1) (fv:=[some (.ref lw)]) (xs:=xs.map V.str) hσ gok1 (λi out H3=>Bt l H2 H3/\Sto l H3/\H3 D=some (.lst out)/\out.length=i/\∀x∈out,(∃zs,R zs/\LsE l zs H3 x)/\x≠.ref D) ⟨Bt.of (Same.new hD),st2.same (Same.new hD),a1_,rfl,λx hx=>by cases hx⟩ (λi out H3 _ ⟨b3,_⟩=>.of (b3 _ _ ha no)) (λout H3 ⟨b3,st3,hd3,eo,al⟩=>?_) (λi x out H3 hx ⟨b3,st3,hd3,eo,al⟩=>?_)
 ·exact kk _ _ b3 st3 ⟨D,out,rfl,nD,b2.free st2 hD,hd3,by rw[eo,aa'],al⟩
 ·obtain⟨y,hy,rfl⟩:=aF_ hx;have il:=(ab'.mp hy).1;refine⟨_,rfl,rfl,λNx hN=>yesT ?_⟩;have hw3:=b3 _ _ hw2 nw;refine (bQ' (l:=l) (H:=H3) (σ:=[some (.str y),some (.ref lw)]) (gvSl rfl hw3 nw ea' goInt e4) (c5' (be' (cz' rfl λ_ _=>rfl) b8') (by show 1<=1000;decide)) (by show zs.length+1<=_;omega)) H3 _ (Bt.refl _ _) st3 λv H6 b6 st6 r6=>?_;have hd6:=b6 _ _ hd3 nD
  have nv:v≠.ref D:=λz=>by
   obtain⟨c,rfl,_,hc⟩:=id r6;cases z;rw[hd6] at hc;have hc:out=(zs++[y]).map V.str:=by simpa using hc
   obtain⟨_,_,d,e,_⟩:=(al (.str y) (by rw[hc];simp)).1;cases e
  refine⟨out,hd6,by omega,hN _ _ ⟨λe o he ne'=>?_,st6.upd nD,a1_,by simp[eo],λz hz=>?_⟩⟩
  ·rw[a8_ (a6_ he hD)];exact b6 _ _ (b3 _ _ he ne') ne'
  ·obtain⟨⟨us,r,e⟩,n⟩:(∃zs,R zs/\LsE l zs H6 z)/\z≠.ref D:=by
    rcases am'.mp hz with z'|z'
    ·obtain⟨⟨us,r,e⟩,n⟩:=al z z';exact⟨⟨us,r,e.mono b6⟩,n⟩
    ·rw[show z=v by simpa using z'];exact⟨⟨_,rx y (ad' hy),r6⟩,nv⟩
   exact⟨⟨us,r,e.upd n⟩,n⟩
theorem jh_{X:Cx}(h:X.K=K):SlR X (rSlL K):=h▸aE_
end Ev
namespace L2
open PySem PySem.Spec PyProof.Rows PySem.W EvS EvD
theorem eE_{α β:Type}{f g:α->Option β}:∀{l:List α},(∀x∈l,f x=g x)->l.filterMap f=l.filterMap g
 |[],_=>rfl
 |a::l,h=>by rw[List.filterMap_cons,List.filterMap_cons,h a aq',eE_ λx hx=>h x (ai' _ hx)]
theorem jn_(its:List Aa):slicePick its.toArray none none (some (-1))=its.reverse.toArray:=by
 have key:((List.range its.length).map λk=>its[its.length - 1 - k]?)=its.reverse.map some:=by
  apply List.ext_getElem
  ·simp
  ·intro i h1 h2;have hi:i<its.length:=by simpa using h1
   simp only[List.getElem_map,List.getElem_range,List.getElem_reverse];rw[ae' Z1]
 have e:(sliceRange (sliceBounds none none (some (-1)) its.toArray.size).1 (sliceBounds none none (some (-1)) its.toArray.size).2.1 (sliceBounds none none (some (-1)) its.toArray.size).2.2).filterMap (its.toArray[·]?)=((List.range its.length).map λk=>its[its.length - 1 - k]?).filterMap id:=by
  have c:(if (((its.length:Nat):Int) - 1) > -1 then ((((its.length:Nat):Int) - 1) - -1 - -1 - 1) / (- -1) else 0).toNat=its.length:=by
   by_cases z:(((its.length:Nat):Int) - 1) > -1
   ·rw[b_0 z,show (- -1:Int)=1 by decide,Int.ediv_one];omega
   ·rw[a_8 z];omega
  show (((List.range (if (((its.length:Nat):Int) - 1) > -1 then ((((its.length:Nat):Int) - 1) - -1 - -1 - 1) / (- -1) else 0).toNat).map λ(k:Nat)=>((((its.length:Nat):Int) - 1) + -1 * (k:Int)).toNat)).filterMap (its.toArray[·]?)=_;rw[c,List.filterMap_map,List.filterMap_map];refine eE_ λk hk=>?_;have hk:k<its.length:=List.mem_range.mp hk;show its.toArray[((((its.length:Nat):Int) - 1) + -1 * (k:Int)).toNat]? = its[its.length - 1 - k]?;rw[List.getElem?_toArray];congr 1;omega
 unfold slicePick;rw[e,key,List.filterMap_map];congr 1;exact (eE_ λ_ _=>rfl).trans List.filterMap_some
def tRevL(K:F__)(te ts:TE):TE:=λσ H Q=>te σ H λx H1=>ts σ H1 λy H2=>y=.int (-1)/\∃a xs,x=.ref a/\SqL K H2 a xs/\∀p,H2 p=none->Q (.ref p) (upd H2 p (.lst xs.reverse))
theorem gz_:∀{xs:List V} {us:List Aa},Vals xs us->Vals xs.reverse us.reverse
 |_,_,.nil=>.nil
 |_,_,.cons h t=>by
  rw[List.reverse_cons,List.reverse_cons];exact (gz_ t).append (.cons h .nil)
variable{X:Cx}{e st:Expr}{te ts:TE}{p2 pos:Pos}
theorem kW_(he:PE X e te)(hs:PE X st ts):PE X (.Subscript e (.Slice none none (some st) p2) pos) (tRevL X.K te ts):=by
 intro pins s σ H Q I h;refine Subscript_ (thn (he pins s σ H _ I h) λv s1 ⟨x,H1,I1,r1,q1⟩=>?_);refine wpAny_Slice ?_;rw[evalPart_none];refine a_2 (a_2 ?_);rw[evalPart_some];refine thn (hs pins s1 σ H1 _ I1 q1) λvs s3 ⟨y,H3,I3,ry,ey,a,xs,ex,hx,q⟩=>?_;subst ex ey;obtain⟨t,rfl⟩:=ry;cases r1;have I4:Inv X pins σ H3 { s3 with heap:=s3.heap.push { cls:=.type "slice",data:=.fields #[.none,.none,.int (-1) t] } }:=I3.kept (t':=s3.toks) λb ob q=>a_0 _ q;obtain⟨its,r,ht,hz⟩:=I4.list hx;have hlen:=r.length;show wpAny (model X.prog X.w) X.A (subscriptTail e (.Slice none none (some st) p2) (.ref a) (.ref s3.heap.objs.size)) (EP X pins σ Q) X.xe { s3 with heap:=s3.heap.push { cls:=.type "slice",data:=.fields #[.none,.none,.int (-1) t] } };refine tail_any (ops:=[.ref a,.ref s3.heap.objs.size]) ht.isList.typeIs slot_list_getitem.lookup (wpAny_getItem_list_slice ht.isList (Heap.IsSliceOf.new ..) .none .none (.int (-1) t) Z2 ?_ (by rw[ap']<;>omega)) (by with_unfolding_all rfl)
 rw[jn_];refine⟨.ref _,upd H3 _ (.lst xs.reverse),I4.laid (t':=s3.toks) (λb o e=>a_0 _ e) (ak' _) ?_,rfl,q _ (I4.hok.fresh (ak' _))⟩;exact⟨by rw[List.length_reverse];exact hz,_,0,gz_ r,a_7 _ rfl⟩
end L2
namespace Ev
open PySem L2
def N2(t:Str × Str):Prop:=bd' t.1=true/\bd' t.2=true
theorem join2(c:Nat)(a b:Str):a++(⟨#[c]⟩:Str)++b=Txt.join ⟨#[c]⟩ [a,b]:=by
 rw[jn];refine bh_ ?_;rw[aZ_,aZ_,as_];show _=a.cps.toList++c::b.cps.toList;simp
theorem iR_(a:Str):a++("":Str)=a:=bh_ (by rw[aZ_];exact aF' _)
theorem comma(a b:Str):a++(",":Str)++b=Txt.join "," [a,b]:=by rw[cE_];exact join2 44 a b
variable{t:Str × Str}{p s:Str}
theorem fE_(h:N2 t)(hs:(decide (p.length+s.length<=20)&&!((p.cps.toList++s.cps.toList).contains 10)&&!((p.cps.toList++s.cps.toList).contains 32))=true):Wd (p++tieT t++s):=by
 obtain⟨a,b,c,d⟩:=iE_ h;simp only[az',b_9] at hs;obtain⟨⟨h1,h2⟩,h3⟩:=hs
 have out:∀{x:Nat},x∉(tieT t).cps.toList->(!((p.cps.toList++s.cps.toList).contains x))=true->x∉(p++tieT t++s).cps.toList:=λ{x} n k z=>by
  rw[aZ_,aZ_] at z;rcases am'.mp z with z|z
  ·rcases am'.mp z with z|z
   ·simp[z] at k
   ·exact n z
  ·simp[z] at k
 refine⟨by rw[a_3,a_3];omega,out b h2,out c h3,?_⟩;rw[aZ_,aZ_,aR',aR',d];have k1:=List.count_le_length (a:=44) (l:=p.cps.toList);have k2:=List.count_le_length (a:=44) (l:=s.cps.toList);have e1:p.cps.toList.length=p.length:=rfl;have e2:s.cps.toList.length=s.length:=rfl;omega
theorem m45:45∈(p++tieT t++s).cps.toList:=by
 rw[aZ_,aZ_];exact List.mem_append_left _ (aD' _ (tie45 t))
theorem em_a(a:Str):("":Str)++a=a:=bh_ (by rw[aZ_];rfl)
theorem no44(h:N2 t):44∉(tieT t).cps.toList:=λz=>by have:=bx_ h.1 h.2 z;omega
theorem lR_(h:N2 t):YB (tieT t++","):=by
 have w:=fE_ h (p:="") (s:=",") Z0;have m:=m45 (t:=t) (p:="") (s:=",");rw[em_a] at w m;refine iM_ w (dt_ (p:="") (cc_ m).1 (cc_ m).2 ?_ Z0);have e:tieT t++(",":Str)=Txt.join (",":Str) [tieT t,""]:=by rw[<- comma,iR_]
 rw[e,cE_,b2_ 44 _ Z2 λp hp=>by
  simp only[ah',a0',or_false] at hp;rcases hp with rfl|rfl
  ·exact no44 h
  ·decide +kernel]
 simp
theorem lS_(h:N2 t):YB (","++tieT t):=by
 have w:=fE_ h (p:=",") (s:="") Z0;have m:=m45 (t:=t) (p:=",") (s:="");rw[iR_] at w m;refine iM_ w (dt_ (p:="") (cc_ m).1 (cc_ m).2 ?_ Z0);have e:(",":Str)++tieT t=Txt.join (",":Str) ["",tieT t]:=by rw[<- comma,em_a]
 rw[e,cE_,b2_ 44 _ Z2 λp hp=>by
  simp only[ah',a0',or_false] at hp;rcases hp with rfl|rfl
  ·decide +kernel
  ·exact no44 h]
 simp
theorem yb_a(h:N2 t):YB (tieT t++"-a"):=by
 have w:=fE_ h (p:="") (s:="-a") Z0;have m:=m45 (t:=t) (p:="") (s:="-a");rw[em_a] at w m
 have n44:44∉(tieT t++("-a":Str)).cps.toList:=by
  rw[aZ_];exact λz=>(am'.mp z).elim (no44 h) Z0
 refine iM_ w (dt_ (p:=tieT t++"-a") (cc_ m).1 (cc_ m).2 ?_ ?_)
 ·have:=b2_ 44 [tieT t++("-a":Str)] Z2 λp hp=>by rw[show p=_ by simpa using hp];exact n44
  rw[cE_];rw[show Txt.join ⟨#[44]⟩ [tieT t++("-a":Str)]=tieT t++"-a" by rw[jn];rfl] at this;rw[this];simp
 ·unfold partB
  have e:tieT t++("-a":Str)=Txt.join ⟨#[45]⟩ [t.1,t.2,"a"]:=by
   rw[jn];refine bh_ ?_;rw[as_,as_,aZ_,cM_,jv_,jn,as_];show (t.1.cps.toList++45::t.2.cps.toList)++[45,97]=t.1.cps.toList++45::(t.2.cps.toList++45::[97]);simp
  rw[e,jv_,b2_ 45 _ Z2 λp hp=>by
   simp only[ah',a0',or_false] at hp;rcases hp with rfl|rfl|rfl
   ·exact λz=>by have:=aD_ h.1 z;omega
   ·exact λz=>by have:=aD_ h.2 z;omega
   ·decide +kernel]
theorem fJ_{vs:Xb}(ne:vs≠[])(h:∀t∈vs,N2 t)(l:vs.length<=28)(no:¬OkW vs):YB (Txt.join "," (vs.map tieT)):=iM_ (ix_ h l) (jk_ ne h no)
theorem lD_(h:N2 t):YB (tieT t++","++tieT t):=by
 rw[comma];refine fJ_ (vs:=[t,t]) Z2 (λu hu=>by rw[show u=t by simpa using hu];exact h) (by show 2<=28;decide) λok=>?_;have:=(a4'.mp ok.2).1 t Z2;rw[dn_] at this;cases this
theorem i0_(h:N2 t)(no:ltS t.1 t.2=false∨¬EndB 8 t.1):YB (tieT t):=by
 have:=fJ_ (vs:=[t]) Z2 (λu hu=>by rw[show u=t by simpa using hu];exact h) (by show 1<=28;decide) λok=>by
  obtain⟨_,_,a,b⟩:=ok.1 t Z2;rcases no with n|n
  ·rw[n] at a;cases a
  ·exact n b
 rw[cE_,jn] at this;exact this
theorem lO_{us:Xb}(h:∀t∈us,N2 t)(l:us.length<=28)(l1:1<us.length)(pw:us.Pairwise λa b=>lexK (kT a) (kT b)=true):YB (Txt.join "," (us.reverse.map tieT)):=by
 refine fJ_ (λz=>by rw[List.reverse_eq_nil_iff] at z;rw[z] at l1;exact absurd l1 (by decide)) (λt ht=>h t (List.mem_reverse.mp ht)) (by rw[List.length_reverse];exact l) λok=>?_;have p2:=List.pairwise_reverse.mp ok.2
 match us,l1 with
 |a::b::r,_=>
  have x:=(a4'.mp pw).1 b Z2;have y:=(a4'.mp p2).1 b Z2;rw[cw_ x] at y;cases y
theorem mk_{u:Str × Str}(h:N2 t)(h':N2 u):YB (tieT t++", "++tieT u):=by
 have w:=fE_ h (p:="") (s:=",") Z0;have w':=fE_ h' (p:="") (s:="") Z0;rw[em_a] at w;rw[em_a,iR_] at w'
 have e:tieT t++(", ":Str)++tieT u=(tieT t++(",":Str))++(" ":Str)++tieT u:=bh_ (by
  rw[aZ_,aZ_,aZ_,aZ_,aZ_,show (", ":Str).cps.toList=(",":Str).cps.toList++(" ":Str).cps.toList by decide +kernel];simp only[a2'])
 rw[e];exact k0_ w w'
def oddL1:List Str:=["FREE","","free,fixed","a-","-",",","a","fixed,","free-free","a-b-c"]
theorem odd1:∀y∈oddL1,YB y:=λy hy=>by
 have:(oddL1.all λy=>(decide (y.length<=520)&&!(y.cps.toList.contains 10)&&!(y.cps.toList.contains 32)&&decide (y.cps.toList.count 44<=60))&&!((decide (y="free") || decide (y="fixed") || (Txt.split y ",").all partB)))=true:=by decide +kernel
 have:=aQ'.mp this y hy;rw[az'] at this;exact iM_ (wdL this.1) (kP_ (by simpa using this.2))
theorem lZ_:∀y∈[("zz-zzz":Str),"a-a"],YB y:=λy hy=>by
 simp only[ah',a0',or_false] at hy;rcases hy with rfl|rfl
 ·exact i0_ (t:=("zz","zzz")) ⟨by decide +kernel,by decide +kernel⟩ (.inr (ki_ Z0))
 ·exact i0_ (t:=("a","a")) ⟨by decide +kernel,by decide +kernel⟩ (.inl (dP_ _))
variable{f:Addr}{fd:Af}
section
variable{P:Ae}{w:Ag}{K:F__}{mg:Str->Option Aa}{base:Heap}
theorem bM':ba' ["_law_ties","_law_pairs","_law_words","_law_found"] ["_law_ties"] (a9' dG'):=f__
def dg'(K:F__):Sp:=λvs H Q _=>∃(lt:Addr) (yt:List V) (ts:Xb),vs=[.ref lt]/\H lt=some (.lst yt)/\bb' K H yt (ts.map kT)/\(∀t∈ts,cc' t)/\(ts.map kO).Nodup/\ts.length<=28/\∀(lo:Addr) (ys:List Str) (H':Hp),Same H H'->H' lo=some (.lst (ys.map V.str))->ys≠[]->ys.length<=30->(∀y∈ys,YB y)->Q (.ref lo) H'
theorem hp_(F:Fun K "_law_odd_ways" "_law_odd_ways" dG' f fd)(B:Bi mg):FnOk P w K mg base CX0 1 f fd ["_law_ties"] (dg' K):=by
 refine F.okA bM' λcdv A outer s H vs Q E hr h=>?_
 ·obtain⟨lt,yt,ts,rfl,hlt,tt,gd,nd,l28,k⟩:=h;have sz:=b__;refine' ⟨_,a3_ ?s1 (a3_ ?s2 (a3_ ?s3 (a3_ ?s4 (a3_ ?s5 (a5_ ?s6))))),?kk⟩
  case' s1=>refine' ao_ 1 bM'.nd (a7_ cs_ (by rfl) B.sorted b8_ (a0_ (aR_ ["_law_tie"] 1 [] (ah_ (pv 0)) (λfp s H=>aY_ 0) (λfp s H=>aT_) (λfp s H=>?e1)) a2_))
  case e1=>exact ax_ (eZ' (K:=K)) (by rfl) B.tuple bK_ (a0_ (a7_ (cY' (K:=K) dx' cx_) (by rfl) B.sorted b8_ (a0_ (ax_ (ez' (K:=K)) (by rfl) B.list bm_ (a0_ (pv 0) a2_)) a2_)) a2_)
  case' s2=>refine' bO_ (i:=2) ["_law_one","_law_other"] 2 [] bM'.nd rfl (Or.inl rfl) (ah_ (pv 1)) (λfp s H=>c2_ (n:=2) (ai_ (aY_ 0) (ai_ (aY_ 1) b4_))) (λfp s H=>aT_) (λfp s H=>?e2)
  case e2=>exact af_ ap_ (af_ ap_ (pv 0) a9_) (pv 1)
  case s3=>exact ao_ 3 bM'.nd (av_ (a0_ a9_ (a0_ a9_ (a0_ a9_ (a0_ a9_ (a0_ a9_ (a0_ a9_ (a0_ a9_ (a0_ a9_ (a0_ a9_ (a0_ a9_ a2_)))))))))))
  case' s4=>refine' aw_ (ar_ (kb_ cmpS (e6' hr 0)) (pv 2) (av_ a2_) (nomark _)) (a3_ ?a1 (a5_ ?a2)) aa_
  case a1=>exact ao_ 3 bM'.nd (af_ aI_ (pv 3) (av_ (a0_ (af_ ap_ (af_ ap_ (aj_ ad_ (pv 2) a4_ (λ_ _=>rfl)) a9_) (aj_ ad_ (pv 2) a4_ (λ_ _=>rfl))) (a0_ (af_ ap_ (aj_ ad_ (pv 2) a4_ (λ_ _=>rfl)) a9_) (a0_ (af_ ap_ a9_ (aj_ ad_ (pv 2) a4_ (λ_ _=>rfl))) (a0_ (af_ ap_ (aj_ ad_ (pv 2) a4_ (λ_ _=>rfl)) a9_) a2_))))))
  case a2=>exact ao_ 3 bM'.nd (af_ aI_ (pv 3) (av_ (a0_ (af_ ap_ (af_ ap_ (aj_ aO_ (aj_ ad_ (pv 1) a4_ (λ_ _=>rfl)) a4_ (λ_ _=>rfl)) a9_) (aj_ aO_ (aj_ ad_ (pv 1) a4_ (λ_ _=>rfl)) a4_ (λ_ _=>rfl))) (a0_ (af_ ap_ (af_ ap_ (aj_ ad_ (pv 2) a4_ (λ_ _=>rfl)) a9_) (aj_ ad_ (pv 2) (kI_ hB_ a4_) (λ_ _=>rfl))) a2_))))
  case' s5=>refine' aw_ (ar_ ig_ (a7_ ak_ (by rfl) B.len b_3 (a0_ (pv 2) a2_)) a4_ (nomark _)) (a5_ ?b1) aa_
  case b1=>exact ao_ 3 bM'.nd (af_ aI_ (pv 3) (av_ (a0_ (bl_ b_1 c_0 c__ bs_ a9_ (a0_ (kW_ (pv 2) (kI_ hB_ a4_)) a2_)) a2_)))
  case s6=>exact ae_ (af_ aI_ (pv 3) (av_ (a0_ a9_ (a0_ a9_ a2_))))
  case' kk=>skip
  refine srtG (i:=0) rfl hlt tt Z1 λl3 z3 H3 s3 n3 e3 t3=>?_;refine setG ?_;dsimp only;have le3:=a_1 t3;rw[aa'] at le3;have tl3:=aX_ ts
  have n2:∀t∈tsOf ts,N2 t:=λt ht=>by
   have g:=bq_ (hs:=[]) gd ht;exact⟨g.1,g.2.1⟩
  have lt3:∀t∈tsOf ts,ltS t.1 t.2=true:=λt ht=>l8_ gd ht;have pw3:=ld_ nd;refine⟨_,rfl,l3,rfl,⟨_,.of e3⟩,λD hD=>?_⟩;refine an_ (own:=2) (fv:=[]) (xs:=z3) rfl gok2 (λi out H'=>Same H3 H'/\H' D=some (.lst out)/\out=(((tsOf ts).take i).map tieT).map V.str) ⟨Same.new hD,a1_,rfl⟩ (λi out H' _ ⟨sm,_,_⟩=>.of (sm _ _ e3)) (λout H4 ⟨s4,hd4,eo⟩=>?_) (λi x out H' hx ⟨sm,hd,eo⟩=>?_);rotate_left
  ·obtain⟨t,ht,b,rfl,hb⟩:=aJ_ t3 hx;have tn:=n2 t (ad' ht);have l1:=ag_ tn.1;have l2:=ag_ tn.2;refine⟨_,⟨b,_,_,rfl,.of (sm _ _ (hpT hb)),rfl⟩,rfl,λNx hN=>yesT ?_⟩;refine⟨_,rfl,_,_,rfl,rfl,?_,_,rfl,_,_,rfl,rfl,?_,out,hd,?_,?_⟩
   ·show t.1.length+1<=_;omega
   ·rw[a_3];show t.1.length+1+t.2.length<=_;omega
   ·rw[eo,aa',aa',af'];omega
   ·rw[dN_];refine hN (out++[.str (tieT t)]) _ ⟨aB_ sm hD,a1_,?_⟩;rw[eo,aq_ _ ht,ag'];rfl
  rw[le3,an'] at eo;subst eo;refine setG ?_;dsimp only;have e4:=s4 _ _ e3;have t4:=t3.same s4;have s04:=s3.trans s4;generalize tsOf ts=us at le3 tl3 n2 lt3 pw3 t4 hd4;clear t3 e3 n3 hD s4;have br:=Bt.refl none H4;have nn:∀{a:Addr},(none:Option Addr)≠some a:=λz=>by cases z
  have lus:∀{t},t∈us->(tieT t).length<=17:=λ{t} ht=>(iE_ (n2 t ht)).1;refine e0' (l:=none) (R:=LsE none oddL1) (Hb:=H4) (c5' (be' gvS (be' gvS (be' gvS (be' gvS (be' gvS (be' gvS (be' gvS (be' gvS (be' gvS (be' gvS b8')))))))))) (by decide)) br Sto.no λv5 H5 b5 _ r5=>?_;refine seqG (λσ H'=>∃(v:V) (ys:List Str),σ=[some (.ref lt),some (.ref l3),some (.ref D),some v]/\Bt none H4 H'/\ys.length<=16/\(∀y∈ys,YB y)/\LsE none ys H' v) ?later (λNx hN=>?now)
  case now=>
   refine⟨_,rfl,by show 0<=sizeLine;decide,λle hle=>?_⟩;obtain⟨s6,e6⟩:=nw__ (o:=.lst []) hle;generalize upd H5 le (.lst [])=H6 at s6 e6 ⊢;have b6:Bt none H4 H6:=b5.trans (Bt.of s6);have hd6:=b6 _ _ hd4 nn;refine⟨us.map tieT,[],ht_ hd6,⟨le,[],rfl,.of e6,.nil⟩,_,rfl,?_⟩;have r6:=r5.mono (Bt.of s6);cases us with
   |nil=>exact iteF (d7' (hN _ _ ⟨v5,oddL1,rfl,b6,by decide,odd1,r6⟩))
   |cons t r=>
    rw[a_4 Z2];refine iteT ?_;have tm:t∈t::r:=by simp
    have tn:=n2 t tm;have tl:=lus tm;obtain⟨ini,z,ez⟩:∃ini z,t::r=ini++[z]:=⟨(t::r).dropLast,(t::r).getLast Z2,(List.dropLast_concat_getLast Z2).symm⟩;have zm:z∈t::r:=by rw[ez];simp
    have zl:=lus zm;have w0:∀{σ:St} {Hb:Hp},Bt none H6 Hb->σ[2]? = some (some (V.ref D))->Gv none σ Hb (tOp (rIxL K) (tVar 2) (tC (.int 0))) (StE (tieT t)):=λhb h=>gvIx h (hb _ _ hd6 nn) nn (by rw[bC' (by decide) Z2];rfl);refine e0' (l:=none) (R:=LsE none (oddL1++[tieT t++","++tieT t,tieT t++",",","++tieT t,tieT t++"-a"])) (Hb:=H6) (bQ' (cz' rfl λH' b'=>r6.mono b') (c5' (be' (d1' (d1' (w0 (Bt.refl _ _) rfl) gvS ?f1) (w0 (Bt.refl _ _) rfl) ?f2) (be' (d1' (w0 (Bt.refl _ _) rfl) gvS ?f3) (be' (d1' gvS (w0 (Bt.refl _ _) rfl) ?f4) (be' (d1' (w0 (Bt.refl _ _) rfl) gvS ?f5) b8')))) (by show 4<=1000;decide)) (by show 14<=1000;decide)) (Bt.refl _ _) Sto.no λv7 H7 b7 _ r7=>?k7
    case f1=>show (tieT t).length+1<=_;omega
    case f2=>rw[a_3];show (tieT t).length+1+_<=_;omega
    case f3=>show (tieT t).length+1<=_;omega
    case f4=>show 1+(tieT t).length<=_;omega
    case f5=>show (tieT t).length+2<=_;omega
    have y7:∀y∈oddL1++[tieT t++","++tieT t,tieT t++",",","++tieT t,tieT t++"-a"],YB y:=λy hy=>by
     rcases am'.mp hy with hy|hy
     ·exact odd1 y hy
     ·simp only[ah',a0',or_false] at hy;rcases hy with rfl|rfl|rfl|rfl
      ·exact lD_ tn
      ·exact lR_ tn
      ·exact lS_ tn
      ·exact yb_a tn
    have k7:(oddL1++[tieT t++","++tieT t,tieT t++",",","++tieT t,tieT t++"-a"]).length=14:=rfl;generalize oddL1++[tieT t++","++tieT t,tieT t++",",","++tieT t,tieT t++"-a"]=ys at r7 y7 k7;have b47:=b6.trans b7;have hd7:=b7 _ _ hd6 nn
    match z3,t4,e4 with
    |_::zs,.cons ⟨a,ea,ha⟩ _,e4=>
     subst ea;have e7:=b47 _ _ e4 nn;have ha7:=b47 _ _ (hpT ha) nn;have l1:=ag_ tn.1;have l2:=ag_ tn.2;have px:∀{σ:St} {j:Int} {x:Str},σ[1]? = some (some (V.ref l3))->atI [V.str t.1,.str t.2] j=some (.str x)->Gv none σ H7 (tOp (rIxT K) (tOp (rIxL K) (tVar 1) (tC (.int 0))) (tC (.int j))) (StE x):=λ{σ j x} h hx H' Q b st kk=>⟨_,h,l3,_,0,.ref a,rfl,rfl,.of (b _ _ e7 nn),by rw[bC' (by decide) Z2];rfl,a,_,j,_,rfl,rfl,.of (b _ _ ha7 nn),hx,kk _ _ (Bt.refl _ _) st rfl⟩;have wz:∀{σ:St},σ[2]? = some (some (V.ref D))->Gv none σ H7 (tOp (rIxL K) (tVar 2) (tUn (rU λi=>.int (-i)) (tC (.int 1)))) (StE (tieT z)):=λ{σ} h H' Q b st kk=>⟨_,h,1,rfl,D,_,_,_,rfl,rfl,.of (b _ _ hd7 nn),by rw[ez,ag',ag'];exact ja_ _ _,kk _ _ (Bt.refl _ _) st rfl⟩;refine gvSet1 (l:=none) (R:=LsE none (ys++[t.2++"-"++t.1,tieT t++", "++tieT z])) (Hb:=H7) (bQ' (cz' rfl λH' b'=>r7.mono b') (c5' (be' (d1' (d1' (px rfl rfl) gvS ?g1) (px rfl rfl) ?g2) (be' (d1' (d1' (w0 b7 rfl) gvS ?g3) (wz rfl) ?g4) b8')) (by show 2<=1000;decide)) (by rw[k7];show 16<=1000;decide)) (Bt.refl _ _) Sto.no λv8 H8 b8 _ r8=>?k8
     case g1=>show t.2.length+1<=_;omega
     case g2=>rw[a_3];show t.2.length+1+_<=_;omega
     case g3=>show (tieT t).length+2<=_;omega
     case g4=>rw[a_3];show (tieT t).length+2+_<=_;omega
     refine hN _ _ ⟨v8,_,rfl,b47.trans b8,by rw[aj',k7];show 16<=16;decide,λy hy=>?_,r8⟩;rcases am'.mp hy with hy|hy
     ·exact y7 y hy
     ·simp only[ah',a0',or_false] at hy;rcases hy with rfl|rfl
      ·rw[dN_ (t.2,t.1)];exact i0_ (t:=(t.2,t.1)) ⟨tn.2,tn.1⟩ (.inl (ci_ (lt3 t tm)))
      ·exact mk_ tn (n2 z zm)
  rintro _ H8 ⟨v8,ys,rfl,b8,l16,yb,r8⟩;have hd8:=b8 _ _ hd4 nn;refine seqG (λσ H'=>∃(v:V) (ys:List Str),σ=[some (.ref lt),some (.ref l3),some (.ref D),some v]/\Bt none H4 H'/\ys.length<=17/\(∀y∈ys,YB y)/\LsE none ys H' v) ?later2 (λNx hN=>?now2)
  case now2=>
   refine⟨_,rfl,D,_,rfl,.inl (.of hd8),_,_,rfl,rfl,_,rfl,?_⟩;have wl1:((us.map tieT).map V.str).length=us.length:=by rw[aa',aa']
   refine ite2 (λc=>?_) (λ_=>d7' (hN _ _ ⟨v8,ys,rfl,b8,by omega,yb,r8⟩))
   have l1:1<us.length:=by
    rw[wl1] at c;have:(1:Int)<(us.length:Int):=by simpa using c
    omega
   have Y:=lO_ n2 Z1 l1 pw3
   have jl:((us.reverse.map tieT).map (·.length)).sum<=17 * (us.reverse.map tieT).length:=dH_ λx hx=>by
    obtain⟨t,ht,rfl⟩:=ac'.mp hx;exact lus (List.mem_reverse.mp ht)
   rw[aa',List.length_reverse] at jl;refine gvSet1 (l:=none) (R:=LsE none (ys++[Txt.join "," (us.reverse.map tieT)])) (Hb:=H8) (bQ' (cz' rfl λH' b'=>r8.mono b') (c5' (be' (λH' Q b st kk=>?j) b8') (by show 1<=1000;decide)) (by show ys.length+1<=1000;omega)) (Bt.refl _ _) Sto.no λv9 H9 b9 _ r9=>?k9
   case j=>
    refine⟨rfl,_,rfl,1,rfl,rfl,D,_,rfl,.of (b _ _ hd8 nn),λq hq=>⟨",",q,us.reverse.map tieT,rfl,rfl,.of ?_,?_,kk _ _ (Bt.of (Same.new hq)) (st.same (Same.new hq)) rfl⟩⟩
    ·rw[a1_,List.map_reverse,List.map_reverse]
    ·rw[aa',List.length_reverse];show _+us.length * 1<=_;omega
   refine hN _ _ ⟨v9,_,rfl,b8.trans b9,by rw[aj'];show ys.length+1<=17;omega,λy hy=>?_,r9⟩;rcases am'.mp hy with hy|hy
   ·exact yb y hy
   ·rw[aN'.mp hy];exact Y
  rintro _ H9 ⟨v9,ys9,rfl,b9,l17,yb9,r9⟩;refine gvRet (l:=none) (R:=LsE none (ys9++[("zz-zzz":Str),("a-a":Str)])) (Hb:=H9) (bQ' (cz' rfl λH' b'=>r9.mono b') (c5' (be' gvS (be' gvS b8')) (by decide)) (by show ys9.length+2<=1000;omega)) (Bt.refl _ _) Sto.no λv10 H10 b10 _ r10=>?_;obtain⟨lo,rfl,_,ho⟩:=r10;refine k lo _ H10 (s04.trans ((b9.trans b10).same)) ho Z2 (by rw[aj'];show ys9.length+2<=30;omega) λy hy=>?_;rcases am'.mp hy with hy|hy
  ·exact yb9 y hy
  ·exact lZ_ y hy
end
def cm':Str:="!\"#$&'()*+./0123456789:;<=>?@ABCDEFGHIJKLMNOPQRSTUVWXYZ[\\]^_`{|}~"
theorem jc_:∀c∈cm'.cps.toList,¬(97<=c/\c<=122)/\c≠32/\c≠10/\c≠44:=by decide +kernel
theorem hitL{α:Type}{p:α->Prop}{xs:List α}{n:Nat}{r:Int}(hn:xs.length=n)(h0:0<=r)(h1:r<n)(h:∀x∈xs,p x):∃x,atI xs r=some x/\p x:=by
 have l:r.toNat<xs.length:=by omega
 exact⟨xs[r.toNat],by rw[bC' h0 Z1,ae' l],h _ (aZ' l)⟩
def numL:List Str:=["0","05","1000000001","111111111111","-1","1.0","+1","x",""]
theorem lh_:∀x∈numL,eJ' x=true/\Wd x:=λx hx=>by
 have:(numL.all λx=>eJ' x&&(decide (x.length<=520)&&!(x.cps.toList.contains 10)&&!(x.cps.toList.contains 32)&&decide (x.cps.toList.count 44<=60)))=true:=by decide +kernel
 have:=aQ'.mp this x hx;rw[az'] at this;exact⟨this.1,wdL this.2⟩
def hanL:List Str:=["nobody","A","","1"]
theorem kz_:∀x∈hanL,endS x=false/\Wd x:=λx hx=>by
 have:(hanL.all λx=>!endS x&&(decide (x.length<=520)&&!(x.cps.toList.contains 10)&&!(x.cps.toList.contains 32)&&decide (x.cps.toList.count 44<=60)))=true:=by decide +kernel
 have:=aQ'.mp this x hx;rw[az'] at this;exact⟨by simpa using this.1,wdL this.2⟩
section
variable{P:Ae}{w:Ag}{K:F__}{mg:Str->Option Aa}{base:Heap}
theorem bk':ba' ["_law_state","_law_rows","_law_start","_law_ties","_law_signs","_law_place","_law_row","_law_words","_law_way","_law_at_sign","_law_sign","_law_odd","_law_ahead","_law_some","_law_word"] ["_law_state","_law_rows","_law_start","_law_ties"] (a9' dT'):=f__
inductive cG' (K:F__) (vs:List V) (H:Hp) (Q:VK) (E:XK):Prop
 |mk:∀(l lr lt:Addr) (rs:List Str) (k:Nat) (yt:List V) (ts:Xb),vs=[.ref l,.ref lr,.int k,.ref lt]->stt H l->H lr=some (.lst (rs.map V.str))->lr≠l->Orig rs k->(∀r∈rs,r.length<=3000)->H lt=some (.lst yt)->lt≠l->bb' K H yt (ts.map kT)->(∀t∈ts,cc' t)->(ts.map kO).Nodup->ts.length<=28->(∀(lo:Addr) (rs':List Str) (H':Hp),But l H H'->stt H' l->H' lo=some (.lst (rs'.map V.str))->Bad rs'->Q (.ref lo) H')->cG' K vs H Q E
theorem hj_(F:Fun K "_law_spoiled" "_law_spoiled" dT' f fd)(B:Bi mg)(cD:Cal P w K mg base 1 "_law_digit" ["_law_state","_law_base"] b9')(cO:Cal P w K mg base 1 "_law_odd_ways" ["_law_ties"] (dg' K)):FnOk P w K mg base CX0 2 f fd ["_law_state","_law_rows","_law_start","_law_ties"] (cG' K):=by
 refine F.okA bk' λcdv A outer s H vs Q E hr h=>?_
 ·obtain⟨l,lr,lt,rs,k,yt,ts,rfl,st,hlr,nlr,O,r30,hlt,nlt,tt,tg,tnd,t28,kf⟩:=h;have sz:=b__;have hu:=br_ hr;refine' ⟨_,a3_ ?s1 (a3_ ?s2 (a3_ ?s3 (a3_ ?s4 (a3_ ?s5 (a3_ ?s6 (a3_ ?s7 (a3_ ?s8 ?r9))))))),?kk⟩
  case' r9=>refine' a3_ ?s9 (a3_ ?s10 (a3_ ?s11 (a3_ ?s12 (a3_ ?s13 (a3_ ?s14 (a5_ ?s15))))))
  case s1=>exact ao_ 4 bk'.nd a9_
  case s2=>exact ao_ 5 bk'.nd (af_ b7_ (pv 2) (al_ cD hr (a0_ (pv 0) (a0_ (af_ gm_ (a7_ ak_ (by rfl) B.len b_3 (a0_ (pv 1) a2_)) (pv 2)) a2_))))
  case s3=>exact ao_ 6 bk'.nd (aj_ ad_ (pv 1) (pv 5) (λ_ _=>rfl))
  case s4=>exact ao_ 7 bk'.nd (bl_ b_1 c_2 e__ bG_ (pv 6) (a0_ a9_ a2_))
  case s5=>exact ao_ 8 bk'.nd (al_ cD hr (a0_ (pv 0) (a0_ a4_ a2_)))
  case' s6=>refine' aw_ (ar_ bj_ (pv 8) a4_ (nomark _)) (a3_ ?a1 (a3_ ?a2 (a3_ ?a3 (a5_ ?a4)))) aa_
  case a1=>exact ao_ 9 bk'.nd (al_ cD hr (a0_ (pv 0) (a0_ (af_ b7_ (af_ b7_ (a7_ bp_ (by rfl) B.len b_3 (a0_ (aj_ ad_ (pv 7) a4_ (λ_ _=>rfl)) a2_)) (a7_ bp_ (by rfl) B.len b_3 (a0_ (aj_ ad_ (pv 7) a4_ (λ_ _=>rfl)) a2_))) a4_) a2_)))
  case a2=>exact ao_ 10 bk'.nd (aj_ eV_ (pv 4) (al_ cD hr (a0_ (pv 0) (a0_ (a7_ bp_ (by rfl) B.len b_3 (a0_ (pv 4) a2_)) a2_))) (λ_ _=>rfl))
  case a3=>exact ao_ 11 bk'.nd (af_ ap_ (af_ ap_ (am_ kj_ (pv 6) ay_ (az_ (pv 9))) (pv 10)) (am_ kj_ (pv 6) (az_ (af_ b7_ (pv 9) (al_ cD hr (a0_ (pv 0) (a0_ a4_ a2_))))) ay_))
  case a4=>exact ae_ (af_ aI_ (af_ aI_ (am_ aE_ (pv 1) ay_ (az_ (pv 5))) (av_ (a0_ (pv 11) a2_))) (am_ aE_ (pv 1) (az_ (af_ b7_ (pv 5) a4_)) ay_))
  case' s7=>refine' aw_ (ar_ bj_ (pv 8) a4_ (nomark _)) (a3_ ?b1 (a3_ ?b2 (a5_ ?b3))) aa_
  case b1=>exact ao_ 12 bk'.nd (al_ cD hr (a0_ (pv 0) (a0_ (af_ b7_ (pv 2) a4_) a2_)))
  case b2=>exact ao_ 13 bk'.nd (av_ (a0_ (af_ aI_ (af_ aI_ (am_ aE_ (pv 1) ay_ (az_ (af_ b7_ (pv 5) a4_))) (av_ (a0_ (pv 6) a2_))) (am_ aE_ (pv 1) (az_ (af_ b7_ (pv 5) a4_)) ay_)) (a0_ (af_ aI_ (af_ aI_ (am_ aE_ (pv 1) ay_ (az_ (pv 12))) (av_ (a0_ (pv 6) a2_))) (am_ aE_ (pv 1) (az_ (pv 12)) ay_)) a2_)))
  case b3=>exact ae_ (aj_ ad_ (pv 13) (al_ cD hr (a0_ (pv 0) (a0_ a4_ a2_))) (λ_ _=>rfl))
  case' s8=>refine' aw_ (PW.pt (iW_ (ar_ bj_ (pv 8) a4_ (nomark _)) (iu_ (ar_ ig_ (pv 5) (pv 2) (nomark _))))) (a5_ ?c1) aa_
  case c1=>exact ae_ (af_ aI_ (af_ aI_ (am_ aE_ (pv 1) ay_ (az_ (af_ gm_ (pv 5) a4_))) (av_ (a0_ (pv 6) (a0_ (aj_ ad_ (pv 1) (af_ gm_ (pv 5) a4_) (λ_ _=>rfl)) a2_)))) (am_ aE_ (pv 1) (az_ (af_ b7_ (pv 5) a4_)) ay_))
  case s9=>exact ao_ 11 bk'.nd (al_ cO hr (a0_ (pv 3) a2_))
  case' s10=>refine' ao_ 13 bk'.nd (av_ (a0_ ?x1 (a0_ ?x2 (a0_ ?x3 (a0_ ?x4 (a0_ ?x5 (a0_ ?x6 a2_)))))))
  case x1=>exact af_ aI_ (pv 7) (av_ (a0_ a9_ a2_))
  case x2=>exact am_ aE_ (pv 7) ay_ (az_ a4_)
  case x3=>exact af_ aI_ (af_ aI_ (am_ aE_ (pv 7) ay_ (az_ a4_)) (av_ (a0_ a9_ a2_))) (am_ aE_ (pv 7) (az_ a4_) ay_)
  case x4=>exact af_ aI_ (av_ (a0_ a9_ a2_)) (pv 7)
  case x5=>exact af_ aI_ (pv 7) (av_ (a0_ a9_ a2_))
  case x6=>exact af_ aI_ (av_ (a0_ a9_ a2_)) (am_ aE_ (pv 7) (az_ a4_) ay_)
  case' s11=>refine' ao_ 13 bk'.nd (af_ aI_ (pv 13) (av_ (a0_ ?y1 (a0_ ?y2 (a0_ ?y3 a2_)))))
  case y1=>exact af_ aI_ (af_ aI_ (am_ aE_ (pv 7) ay_ (az_ a4_)) (av_ (a0_ a9_ a2_))) (am_ aE_ (pv 7) (az_ a4_) ay_)
  case y2=>exact af_ aI_ (af_ aI_ (am_ aE_ (pv 7) ay_ (az_ a4_)) (av_ (a0_ a9_ a2_))) (am_ aE_ (pv 7) (az_ a4_) ay_)
  case y3=>exact af_ aI_ (af_ aI_ (am_ aE_ (pv 7) ay_ (az_ a4_)) (av_ (a0_ a9_ a2_))) (am_ aE_ (pv 7) (az_ a4_) ay_)
  case' s12=>refine' b3_ b_7 rfl (ah_ (av_ (a0_ a9_ (a0_ a9_ (a0_ a9_ (a0_ (af_ ku_ a9_ a4_) (a0_ a9_ (a0_ a9_ (a0_ a9_ (a0_ a9_ (a0_ a9_ a2_))))))))))) (b5_ 14 bk'.nd) (a5_ ?f12)
  case f12=>exact bP_ (bl_ d_0 d_6 d_5 bn_ (pv 13) (a0_ (af_ aI_ (af_ aI_ (am_ aE_ (pv 7) ay_ (az_ a4_)) (av_ (a0_ (pv 14) a2_))) (am_ aE_ (pv 7) (az_ a4_) ay_)) a2_))
  case' s13=>refine' b3_ b_7 rfl (ah_ (av_ (a0_ a9_ (a0_ a9_ (a0_ a9_ (a0_ a9_ a2_)))))) (b5_ 14 bk'.nd) (a5_ ?f13)
  case f13=>exact bP_ (bl_ d_0 d_6 d_5 bn_ (pv 13) (a0_ (af_ aI_ (af_ aI_ (am_ aE_ (pv 7) ay_ (az_ a4_)) (av_ (a0_ (pv 14) a2_))) (am_ aE_ (pv 7) (az_ a4_) ay_)) a2_))
  case' s14=>refine' ao_ 13 bk'.nd (af_ aI_ (pv 13) (aR_ ["_law_word","_law_words"] 1 [7] (ah_ (pv 11)) (λfp s H=>aY_ 0) (λfp s H=>aT_) (λfp s H=>?ce)))
  case ce=>exact af_ aI_ (am_ (jh_ (K:=K) rfl) (pv 1) ay_ (az_ a4_)) (av_ (a0_ (pv 0) a2_))
  case s15=>exact ae_ (af_ aI_ (af_ aI_ (am_ aE_ (pv 1) ay_ (az_ (pv 5))) (av_ (a0_ (bl_ b_1 c_0 c__ bs_ a9_ (a0_ (aj_ ad_ (pv 13) (al_ cD hr (a0_ (pv 0) (a0_ (a7_ ak_ (by rfl) B.len b_3 (a0_ (pv 13) a2_)) a2_))) (λ_ _=>rfl)) a2_)) a2_))) (am_ aE_ (pv 1) (az_ (af_ b7_ (pv 5) a4_)) ay_))
  case' kk=>skip
  have hn1:((rs.map V.str).length:Int)=(rs.length:Int):=by rw[aa']
  have Olt:=O.lt;have O44:=O.l44;refine setG ?_;dsimp only;refine⟨_,rfl,_,rfl,_,rfl,lr,_,rfl,.inl (.of hlr),_,rfl,_,_,rfl,rfl,l,_,rfl,by omega,by omega,st,λd H1 d0 d1 b1 st1=>⟨_,_,rfl,rfl,?_⟩⟩;obtain⟨dn,rfl⟩:=aC' d0;refine setG ?_;dsimp only;have hlr1:=b1 _ _ hlr nlr;have il:k+dn<rs.length:=by omega
  obtain⟨r,hri⟩:∃r,rs[k+dn]? = some r:=⟨_,ae' il⟩;have ea:((k:Int)+(dn:Int))=((k+dn:Nat):Int):=by omega
  rw[ea];generalize hi:k+dn=i at il hri;have ki:k<=i:=by omega
  refine⟨_,rfl,_,rfl,lr,_,(i:Int),.str r,rfl,rfl,.of hlr1,by rw[bC' Z1 Z1,a1',aw',hri];rfl,?_⟩;refine setG ?_;dsimp only;have hrm:=ad' hri;obtain⟨n,w,h,y,Pr⟩:=O.pc i r ki hri;have ok:=O.ok r hrm;have rl:=r30 r hrm;refine⟨_,rfl,rfl,r," ",32,rfl,rfl,rfl,by omega,λlw nlw=>?_⟩;rw[Pr.e];obtain⟨s2,e2⟩:=nw__ (o:=.lst ([("piece":Str),n,w,h,y].map V.str)) nlw;have nw:=g9_ (Sto.one st1) nlw;have st2:=st1.same s2;generalize upd H1 lw (.lst ([("piece":Str),n,w,h,y].map V.str))=H2 at s2 e2 st2 ⊢;refine setG ?_;dsimp only;refine⟨_,rfl,l,5,rfl,by decide,by decide,st2,λwy H3 y0 y5 b3 st3=>?_⟩;refine setG ?_;dsimp only;have nr:(some l:Option Addr)≠some lr:=λz=>nlr (b_2 z).symm;have B3:But l H H3:=(b1.trans (But.of s2)).trans b3;have hlr3:=B3 _ _ hlr nlr;have hw:=(Bt.but b3) _ _ e2 nw;have hlt3:=B3 _ _ hlt nlt
  have tt3:bb' K H3 yt (ts.map kT):=Paired.mapP tt λ_ _ ⟨a,e,h⟩=>⟨a,e,B3 _ _ h λz=>by
   rw[z] at h;obtain⟨xs,e2⟩:=st.some;rw[h] at e2;cases e2⟩
  clear b1 s2 b3 hlr1 e2 nlw st2 st1;have st3':=Sto.one st3
  have fin:∀{rs':List Str} {v:V} {H':Hp},Bt (some l) H3 H'->Sto (some l) H'->LsE (some l) rs' H' v->Bad rs'->Q v H':=λ{rs' v H'} b' st' L bad=>by
   obtain⟨q,rfl,_,hq⟩:=L;exact kf q rs' H' (B3.trans b'.to) (st' l rfl) hq bad
  have br:=Bt.refl (some l) H3;have pls:∀{σ:St} {Hb:Hp},σ[5]? = some (some (V.int i))->GvO (some l) σ Hb (dk' (tVar 5)) (some (i:Int)):=λh=>ei' (cz' h λ_ _=>rfl);have plus:∀{σ:St} {Hb:Hp},σ[5]? = some (some (V.int i))->GvO (some l) σ Hb (dk' (tOp (rI0 λi j=>.int (i+j)) (tVar 5) (tC (.int 1)))) (some (((i+1:Nat):Int))):=λh=>ei' λH' Q b st k=>⟨_,h,_,_,rfl,rfl,k _ _ (Bt.refl _ _) st rfl⟩;have tak:∀{σ:St} {Hb:Hp} {t:TO} {p:Nat},Bt (some l) H3 Hb->σ[1]? = some (some (V.ref lr))->GvO (some l) σ Hb t (some (p:Int))->Gv (some l) σ Hb (tSl (rSlL K) (tVar 1) bJ' t) (LsE (some l) (rs.take p)):=λhb h1 h2=>gvSl h1 (hb _ _ hlr3 nr) nr ea' h2 (mg_ Z1);have drp:∀{σ:St} {Hb:Hp} {t:TO} {p:Nat},Bt (some l) H3 Hb->σ[1]? = some (some (V.ref lr))->GvO (some l) σ Hb t (some (p:Int))->Gv (some l) σ Hb (tSl (rSlL K) (tVar 1) t bJ') (LsE (some l) (rs.drop p)):=λhb h1 h2=>gvSl h1 (hb _ _ hlr3 nr) nr h2 ea' (mb_ Z1);have one:∀{σ:St} {Hb:Hp} {t:TE} {x:Str},Gv (some l) σ Hb t (StE x)->Gv (some l) σ Hb (tLst (bI' t tNil)) (LsE (some l) [x]):=λh=>c5' (be' h b8') (by show 1<=1000;decide);have rowV:∀{σ:St} {Hb:Hp},σ[6]? = some (some (V.str r))->Gv (some l) σ Hb (tVar 6) (StE r):=λh=>cz' h λ_ _=>rfl;have ltk:∀p,(rs.take p).length<=44:=λp=>by rw[af'];omega
  have ldr:∀p,(rs.drop p).length<=44:=λp=>by rw[aM'];omega
  have three:∀{σ:St} {Hb:Hp} {ta tc:TO} {tb:TE} {p q:Nat} {mid:List Str},mid.length<=2->Bt (some l) H3 Hb->σ[1]? = some (some (V.ref lr))->GvO (some l) σ Hb ta (some (p:Int))->Gv (some l) σ Hb tb (LsE (some l) mid)->GvO (some l) σ Hb tc (some (q:Int))->Gv (some l) σ Hb (tOp rCat (tOp rCat (tSl (rSlL K) (tVar 1) bJ' ta) tb) (tSl (rSlL K) (tVar 1) tc bJ')) (LsE (some l) (rs.take p++mid++rs.drop q)):=λ{σ Hb ta tc tb p q mid} hm hb h1 h2 h3 h4=>by
   have:=ltk p;have:=ldr q;exact bQ' (bQ' (tak hb h1 h2) h3 Z1) (drp hb h1 h4) (by rw[aj'];omega)
  refine⟨_,rfl,rfl,_,rfl,?_⟩;refine ite2 (λ_=>?_) (λ_=>?_)
  ·have pl5:("piece":Str).length=5:=rfl;have nl8:=ag_ Pr.nm;refine⟨_,rfl,_,rfl,lw,_,0,_,rfl,rfl,.of hw,rfl,_,rfl,by rw[pl5];omega,_,rfl,lw,_,1,_,rfl,rfl,.of hw,rfl,_,rfl,by omega,_,_,rfl,rfl,_,_,rfl,rfl,l,_,rfl,by rw[pl5];omega,by rw[pl5];omega,st3,λat_ H4 a0 a1 b4 st4=>?_⟩;refine setG ?_;dsimp only;refine⟨_,rfl,_,rfl,_,rfl,cm',rfl,by decide +kernel,l,_,rfl,by decide +kernel,by decide +kernel,st4,λj H5 j0 j1 b5 st5=>?_⟩;obtain⟨ch,hch,c1,c2,c3,c4⟩:=hitL (p:=λc=>¬(97<=c/\c<=122)/\c≠32/\c≠10/\c≠44) (n:=cm'.length) rfl j0 j1 jc_;refine⟨cm',_,ch,rfl,rfl,by decide +kernel,hch,?_⟩;refine setG ?_;dsimp only;have l1:=Txt.slice_le r none (some at_);have lc:(⟨#[ch]⟩:Str).length=1:=rfl;refine⟨_,rfl,_,rfl,_,rfl,r,rfl,by omega,_,rfl,_,_,rfl,rfl,by rw[lc];omega,_,rfl,_,rfl,_,rfl,l,2,rfl,by decide,by decide,st5,λd H6 d0 d1 b6 st6=>⟨_,_,rfl,rfl,_,rfl,r,rfl,by omega,?_⟩⟩;have l2:=Txt.slice_le r (some (at_+d)) none;refine⟨_,_,rfl,rfl,by rw[a_3,lc];omega,?_⟩;obtain⟨no,oo⟩:=Pr.sign ok rl (at_:=at_) (d:=d) (c:=ch) a0 (by rw[pl5] at a1;omega) d0 d1 c1 c2 c3 c4;generalize Txt.slice r none (some at_)++⟨#[ch]⟩++Txt.slice r (some (at_+d)) none=odd at no oo ⊢;refine setG ?_;dsimp only;have b36:Bt (some l) H3 H6:=Bt.but ((b4.trans b5).trans b6);refine gvRet (R:=LsE (some l) (rs.take i++[odd]++rs.drop (i+1))) (Hb:=H3) (three (by show 1<=2;decide) br rfl (pls rfl) (one (cz' rfl λ_ _=>rfl)) (plus rfl)) b36 (Sto.one st6) λv H7 b7 st7 r7=>?_;exact fin b7 st7 r7 (O.mid Z1 no oo)
  refine d7' ?_;dsimp only;refine⟨_,rfl,rfl,_,rfl,?_⟩;refine ite2 (λ_=>?_) (λ_=>?_)
  ·refine⟨_,rfl,_,rfl,_,_,rfl,rfl,l,_,rfl,by omega,by omega,st3,λah H4 o0 o1 b4 st4=>?_⟩;refine setG ?_;dsimp only;obtain⟨an,rfl⟩:=aC' o0;have b34:Bt (some l) H3 H4:=Bt.but b4;have ahd:∀{σ:St},σ[12]? = some (some (V.int an))->GvO (some l) σ H3 (dk' (tVar 12)) (some (an:Int)):=λh=>ei' (cz' h λ_ _=>rfl);refine e0' (R:=LLR (some l) H3 Bad 2) (Hb:=H3) (gvLstL (by' (three (by show 1<=2;decide) br rfl (plus rfl) (one (rowV rfl)) (plus rfl)) (O.twice ki hri (.inr rfl)) (by' (three (by show 1<=2;decide) br rfl (ahd rfl) (one (rowV rfl)) (ahd rfl)) (O.twice ki hri (.inl Z1)) eu')) (by decide) br) b34 (Sto.one st4) λv H5 b5 st5 r5=>?_;obtain⟨ls,vs,rfl,nls,_,hls,lvs,al⟩:=id r5;refine⟨_,rfl,_,rfl,l,2,rfl,by decide,by decide,st5 l rfl,λj H6 j0 j2 b6 st6=>?_⟩;have b6:=Bt.but b6
   obtain⟨v,hv,rs',bad,L⟩:=hitL (p:=λv=>∃rs',Bad rs'/\LsE (some l) rs' H6 v) lvs j0 j2 λx hx=>by
    obtain⟨⟨xs,a,b⟩,_⟩:=al x hx;exact⟨xs,a,b.mono b6⟩
   exact⟨ls,vs,j,v,rfl,rfl,.of (b6 _ _ hls nls),hv,fin (b5.trans b6) (Sto.one st6) L bad⟩
  refine d7' ?_;dsimp only;refine seqG (λσ H'=>σ=[some (.ref l),some (.ref lr),some (.int k),some (.ref lt),some (.str cm'),some (.int i),some (.str r),some (.ref lw),some (.int wy),none,none,none,none,none,none]/\H3=H') ?later (λNx hN=>?now)
  case now=>
   refine⟨_,rfl,rfl,_,rfl,?_⟩;refine ite2 (λ_=>?_) (λ_=>iteF (d7' (hN _ _ ⟨rfl,rfl⟩)));refine⟨_,rfl,_,rfl,_,_,rfl,rfl,_,rfl,?_⟩;refine ite2 (λc=>?_) (λ_=>d7' (hN _ _ ⟨rfl,rfl⟩));have c:(k:Int)<(i:Int):=by simpa using c
   obtain⟨j,rfl⟩:∃j,i=j+1:=⟨i - 1,by omega⟩;obtain⟨r0,hr0⟩:∃r0,rs[j]? = some r0:=⟨_,ae' Z1⟩;have sub:∀{σ:St} {Hb:Hp},σ[5]? = some (some (V.int ((j+1:Nat):Int)))->Gv (some l) σ Hb (tOp (rI0 λi j=>.int (i - j)) (tVar 5) (tC (.int 1))) (λ_ v=>v=.int (j:Int)):=λh H' Q b st k=>⟨_,h,_,_,rfl,rfl,k _ _ (Bt.refl _ _) st (by show V.int _=V.int _;congr 1;omega)⟩;have prv:∀{σ:St},σ[1]? = some (some (V.ref lr))->σ[5]? = some (some (V.int ((j+1:Nat):Int)))->Gv (some l) σ H3 (tOp (rIxL K) (tVar 1) (tOp (rI0 λi j=>.int (i - j)) (tVar 5) (tC (.int 1)))) (StE r0):=λh1 h5 H' Q b st k=>⟨_,h1,(sub h5) H' _ b st λv H2 b2 st2 e=>⟨lr,_,(j:Int),_,rfl,e,.of ((b.trans b2) _ _ hlr3 nr),by rw[bC' Z1 Z1,a1',aw',hr0];rfl,k _ _ b2 st2 rfl⟩⟩;refine gvRet (R:=LsE (some l) (rs.take j++[r,r0]++rs.drop (j+2))) (Hb:=H3) (three (by show 2<=2;decide) br rfl (ei' (sub rfl)) (c5' (be' (rowV rfl) (be' (prv rfl rfl) b8')) (by show 2<=1000;decide)) (plus rfl)) br st3' λv H7 b7 st7 r7=>?_;exact fin b7 st7 r7 (O.turned Z1 hr0 hri)
  rintro _ _ ⟨rfl,rfl⟩;refine⟨_,rfl,lt,yt,ts,rfl,hlt3,tt3,tg,tnd,t28,λlo ys H4 s4 ho yne yl yb=>?_⟩;refine setG ?_;dsimp only;have b4:Bt (some l) H3 H4:=Bt.of s4;have st4:=st3'.same s4
  have nlo:(some l:Option Addr)≠some lo:=by
   match ys,yne with
   |y0::yr,_=>exact λz=>l7_ (st4 l rfl) ho (b_2 z).symm
  have hw4:=s4 _ _ hw;have bq:=Bt.refl (some l) H4;have wp:Wd "piece":=wdL Z0;have d4:=wc Pr.wy w0;have d3:=wc Pr.wh d4;have d2:=wc Pr.ww d3;have d1:=wc Pr.wn d2;have d0:=wc wp d1;have a1:=wc wp w0;have a2:=wc wp (wc Pr.wn w0);have a3:=wc wp (wc Pr.wn (wc Pr.ww w0));have wl:∀{x:Str},(decide (x.length<=520)&&!(x.cps.toList.contains 10)&&!(x.cps.toList.contains 32)&&decide (x.cps.toList.count 44<=60))=true->∀y∈[x],Wd y:=λh=>wc (wdL h) w0;have wV:∀{σ:St} {Hb:Hp},Bt (some l) H4 Hb->σ[7]? = some (some (V.ref lw))->Gv (some l) σ Hb (tVar 7) (LsE (some l) [("piece":Str),n,w,h,y]):=λhb h'=>cz' h' λH' b'=>⟨lw,rfl,nw,b' _ _ (hb _ _ hw4 nw) nw⟩;have wT:∀{σ:St} {Hb:Hp} {p:Int} {zs:List Str},Bt (some l) H4 Hb->σ[7]? = some (some (V.ref lw))->cutV ([("piece":Str),n,w,h,y].map V.str) none (some p)=zs.map V.str->Gv (some l) σ Hb (tSl (rSlL K) (tVar 7) bJ' (dk' (tC (.int p)))) (LsE (some l) zs):=λhb h1 e=>gvSl h1 (hb _ _ hw4 nw) nw ea' goInt e;have wD:∀{σ:St} {Hb:Hp} {p:Int} {zs:List Str},Bt (some l) H4 Hb->σ[7]? = some (some (V.ref lw))->cutV ([("piece":Str),n,w,h,y].map V.str) (some p) none=zs.map V.str->Gv (some l) σ Hb (tSl (rSlL K) (tVar 7) (dk' (tC (.int p))) bJ') (LsE (some l) zs):=λhb h1 e=>gvSl h1 (hb _ _ hw4 nw) nw goInt ea' e
  refine e0' (R:=LLR (some l) H4 bH' 6) (Hb:=H4) (gvLstL (by' (bQ' (wV bq rfl) (one gvS) ?l1) (di_ (m:=6) (wA d0 (wl Z0)) rfl (by decide) (nf6 rfl))
   (by' (wT (zs:=[("piece":Str),n,w,h]) bq rfl rfl) (di_ (m:=4) (wc wp (wc Pr.wn (wc Pr.ww (wc Pr.wh w0)))) rfl (by decide) (nf4 rfl))
   (by' (bQ' (bQ' (wT (zs:=[("piece":Str)]) bq rfl rfl) (one gvS) ?l2) (wD (zs:=[n,w,h,y]) bq rfl rfl) ?l3) (di_ (m:=6) (wA (wA a1 (wl Z0)) d1) rfl (by decide) (nf6 rfl))
   (by' (bQ' (one gvS) (wV bq rfl) ?l4) (di_ (m:=6) (wA (wl Z0) d0) rfl (by decide) (nf6 rfl))
   (by' (bQ' (wV bq rfl) (one gvS) ?l5) (di_ (m:=6) (wA d0 (wl Z0)) rfl (by decide) (nf6 rfl))
   (by' (bQ' (one gvS) (wD (zs:=[n,w,h,y]) bq rfl rfl) ?l6) (di_ (m:=5) (wA (wl Z0) d1) rfl (by decide) (nfP rfl)) eu')))))) (by decide) bq) bq st4 λv10 H10 b10 st10 r10=>?k10
  case l1=>show 6<=1000;decide
  case l2=>show 2<=1000;decide
  case l3=>show 6<=1000;decide
  case l4=>show 6<=1000;decide
  case l5=>show 6<=1000;decide
  case l6=>show 5<=1000;decide
  have nm3:∀{σ:St} {Hb:Hp} {x:Str},Bt (some l) H4 Hb->σ[7]? = some (some (V.ref lw))->Gv (some l) σ Hb (tOp rCat (tOp rCat (tSl (rSlL K) (tVar 7) bJ' (dk' (tC (.int 1)))) (tLst (bI' (tC (.str x)) tNil))) (tSl (rSlL K) (tVar 7) (dk' (tC (.int 2))) bJ')) (LsE (some l) ([("piece":Str)]++[x]++[w,h,y])):=λhb h'=>bQ' (bQ' (wT hb h' rfl) (one gvS) (by show 2<=1000;decide)) (wD hb h' rfl) (by show 5<=1000;decide);refine e0' (R:=λH2 v=>∃k,6<=k/\k<=6+3/\LLR (some l) H4 bH' k H2 v) (Hb:=H10) (gvCatL (Ra:=LLR (some l) H4 bH' 6) (Rb:=LLR (some l) H4 bH' 3) b10 (cz' rfl λH' b'=>r10.mono b') (λ_ _ z=>⟨_,z⟩) (λ_ _ _ b z=>z.mono b) (gvLstL (by' (nm3 b10 rfl) ?n1 (by' (nm3 b10 rfl) ?n2 (by' (nm3 b10 rfl) ?n3 eu'))) (by decide) b10) (λ_ _ z=>⟨_,_,ak' _,z⟩) (by decide)) (Bt.refl _ _) st10 λv11 H11 b11 st11 r11=>?k11
  case n1=>exact di_ (m:=5) (wA (wA a1 (wl Z0)) d2) rfl (by decide) (nfN (s:="abcdefghi") rfl Z0)
  case n2=>exact di_ (m:=5) (wA (wA a1 (wl Z0)) d2) rfl (by decide) (nfN (s:="Ab") rfl Z0)
  case n3=>exact di_ (m:=5) (wA (wA a1 (wl Z0)) d2) rfl (by decide) (nfN (s:="") rfl Z0)
  obtain⟨m11,m11a,m11b,r11⟩:=r11;have b11:=b10.trans b11;clear r10 b10 st10;obtain⟨ls,_,rfl,_⟩:=id r11;have ml:∀{σ:St} {Hb:Hp},Gv (some l) σ Hb (tOp rMulS (tC (.str "1")) (tC (.int 12))) (StE "111111111111"):=λ{σ Hb} H' Q b st k=>⟨"1",12,rfl,rfl,⟨by decide,by decide +kernel,by decide +kernel⟩,k _ _ (Bt.refl _ _) st (by show V.str _=V.str _;decide +kernel)⟩;refine seqG (λσ H'=>∃(v14:Option V) (m:Nat),σ=[some (.ref l),some (.ref lr),some (.int k),some (.ref lt),some (.str cm'),some (.int i),some (.str r),some (.ref lw),some (.int wy),none,none,some (.ref lo),none,some (.ref ls),v14]/\Bt (some l) H4 H'/\Sto (some l) H'/\6<=m/\m<=18/\LLR (some l) H4 bH' m H' (.ref ls)) ?later2 (λNx hN=>?now2)
  case now2=>
   refine (c5' (l:=some l) (H:=H11) (xs:=numL) (be' gvS (be' gvS (be' gvS (be' ml (be' gvS (be' gvS (be' gvS (be' gvS (be' gvS b8'))))))))) (by decide)) H11 _ (Bt.refl _ _) st11 λv12 H12 b12 st12 r12=>?_;obtain⟨la,rfl,nla,hla⟩:=r12;have r12:=r11.mono b12;refine⟨la,rfl,⟨_,.of hla⟩,aV_ (K:=K) (a:=la) (xs:=numL.map V.str) (λj σ H'=>∃(v14:Option V),σ=[some (.ref l),some (.ref lr),some (.int k),some (.ref lt),some (.str cm'),some (.int i),some (.str r),some (.ref lw),some (.int wy),none,none,some (.ref lo),none,some (.ref ls),v14]/\Bt (some l) H4 H'/\Sto (some l) H'/\LLR (some l) H4 bH' (m11+j) H' (.ref ls)/\H' la=some (.lst (numL.map V.str))) ⟨none,rfl,b11.trans b12,st12,r12,hla⟩ (λj σ H' _ ⟨_,_,_,_,_,z⟩=>.of z) ?_ ?_⟩
   ·rintro j v σ Hj hv ⟨v14,rfl,bj,stj,Lj,laj⟩;obtain⟨x,hx,rfl⟩:=aF_ hv;have jl:=(ab'.mp hx).1;obtain⟨bx,wx⟩:=lh_ x (ad' hx);have jl:j<9:=jl;refine appG (i:=13) (xs:=[("piece":Str),n]++[x]++[h,y]) rfl (bQ' (bQ' (wT bq rfl rfl) (one (cz' rfl λ_ _=>rfl)) (by show 3<=1000;decide)) (wD bq rfl rfl) (by show 5<=1000;decide)) (di_ (m:=5) (wA (wA a2 (wc wx w0)) d3) rfl (by decide) (nfW (s:=x) rfl rfl bx)) bj stj Lj Z1 Z1 λHk bk stk Lk kk=>?_;exact⟨_,rfl,bk,stk,Lk,kk _ _ laj nla λz=>Lj.ne Z1 laj (by rw[z])⟩
   ·rintro σ Hj ⟨v14,rfl,bj,stj,Lj,laj⟩;exact hN _ _ ⟨v14,m11+9,rfl,bj,stj,by omega,by omega,Lj⟩
  rintro _ H12 ⟨v14,m12,rfl,b12,st12,m12a,m12b,r12⟩;clear r11 b11 st11;refine seqG (λσ H'=>∃(v14:Option V) (m:Nat),σ=[some (.ref l),some (.ref lr),some (.int k),some (.ref lt),some (.str cm'),some (.int i),some (.str r),some (.ref lw),some (.int wy),none,none,some (.ref lo),none,some (.ref ls),v14]/\Bt (some l) H4 H'/\Sto (some l) H'/\6<=m/\m<=22/\LLR (some l) H4 bH' m H' (.ref ls)) ?later3 (λNx hN=>?now3)
  case now3=>
   refine (c5' (l:=some l) (H:=H12) (σ:=[some (.ref l),some (.ref lr),some (.int k),some (.ref lt),some (.str cm'),some (.int i),some (.str r),some (.ref lw),some (.int wy),none,none,some (.ref lo),none,some (.ref ls),v14]) (xs:=hanL) (be' gvS (be' gvS (be' gvS (be' gvS b8')))) (by decide)) H12 _ (Bt.refl _ _) st12 λv13 H13 b13 st13 r13=>?_;obtain⟨la,rfl,nla,hla⟩:=r13;have r13:=r12.mono b13;refine⟨la,rfl,⟨_,.of hla⟩,aV_ (K:=K) (a:=la) (xs:=hanL.map V.str) (λj σ H'=>∃(v14:Option V),σ=[some (.ref l),some (.ref lr),some (.int k),some (.ref lt),some (.str cm'),some (.int i),some (.str r),some (.ref lw),some (.int wy),none,none,some (.ref lo),none,some (.ref ls),v14]/\Bt (some l) H4 H'/\Sto (some l) H'/\LLR (some l) H4 bH' (m12+j) H' (.ref ls)/\H' la=some (.lst (hanL.map V.str))) ⟨v14,rfl,b12.trans b13,st13,r13,hla⟩ (λj σ H' _ ⟨_,_,_,_,_,z⟩=>.of z) ?_ ?_⟩
   ·rintro j v σ Hj hv ⟨v14,rfl,bj,stj,Lj,laj⟩;obtain⟨x,hx,rfl⟩:=aF_ hv;have jl:=(ab'.mp hx).1;obtain⟨bx,wx⟩:=kz_ x (ad' hx);have jl:j<4:=jl;refine appG (i:=13) (xs:=[("piece":Str),n,w]++[x]++[y]) rfl (bQ' (bQ' (wT bq rfl rfl) (one (cz' rfl λ_ _=>rfl)) (by show 4<=1000;decide)) (wD bq rfl rfl) (by show 5<=1000;decide)) (di_ (m:=5) (wA (wA a3 (wc wx w0)) d4) rfl (by decide) (nfH (s:=x) rfl rfl bx)) bj stj Lj Z1 Z1 λHk bk stk Lk kk=>?_;exact⟨_,rfl,bk,stk,Lk,kk _ _ laj nla λz=>Lj.ne Z1 laj (by rw[z])⟩
   ·rintro σ Hj ⟨v14,rfl,bj,stj,Lj,laj⟩;exact hN _ _ ⟨v14,m12+4,rfl,bj,stj,by omega,by omega,Lj⟩
  rintro _ H13 ⟨v15,m13,rfl,b13,st13,m13a,m13b,r13⟩;clear r12 b12 st12;refine e0' (R:=λH2 v=>∃k,m13<=k/\k<=m13+ys.length/\LLR (some l) H13 bH' k H2 v) (Hb:=H13) (gvCatL (Ra:=LLR (some l) H4 bH' m13) (Rb:=LLR (some l) H13 bH' ys.length) (Bt.refl _ _) (cz' rfl λH' b'=>r13.mono b') (λ_ _ z=>⟨_,z⟩) (λ_ _ _ b z=>z.mono b) (gvComp (lw:=lw) (ws:=[("piece":Str),n,w,h,y]) (zs:=[("piece":Str),n,w,h]) rfl (b13 _ _ ho nlo) nlo rfl (b13 _ _ hw4 nw) nw rfl (ak' _) (λx hx=>yb x hx n w h Pr.wn Pr.ww Pr.wh) Z1) (λ_ _ z=>⟨_,_,ak' _,z⟩) Z1) (Bt.refl _ _) st13 λv14 H14 b14 st14 r14=>?_;obtain⟨m14,m14a,m14b,lq,vs,rfl,nlq,_,hlq,lvs,al⟩:=r14;have b414:=b13.trans b14;have b3x:=b4.trans b414;have:=ltk i;have:=ldr (i+1);refine gvRet (R:=λH2 v=>∃r',(NoR r'/\RowO r')/\LsE (some l) (rs.take i++[r']++rs.drop (i+1)) H2 v) (Hb:=H14) (gvMid (tak b3x rfl (pls rfl)) (λH' Q b st kk=>?jj) (drp b3x rfl (plus rfl)) Z1) (Bt.refl _ _) st14 λv H15 b15 st15 r15=>?k15
  case k15=>
   obtain⟨r',⟨no,oo⟩,L⟩:=r15;exact fin (b3x.trans b15) st15 L (O.mid Z1 no oo)
  refine⟨rfl,_,rfl,_,rfl,_,rfl,lq,vs,rfl,.inl (.of (b _ _ hlq nlq)),l,_,rfl,by omega,by omega,st l rfl,λj H7 j0 j1 b7 st7=>?_⟩;have b7:=Bt.but b7
  obtain⟨v,hv,xs,bad,a,rfl,na,ha⟩:=hitL (p:=λv=>∃xs,bH' xs/\LsE (some l) xs H7 v) (n:=vs.length) rfl j0 j1 λx hx=>by
   obtain⟨⟨xs,u1,u2⟩,_⟩:=al x hx;exact⟨xs,u1,(u2.mono b).mono b7⟩
  refine⟨lq,vs,j,_,rfl,rfl,.of (b7 _ _ (b _ _ hlq nlq) nlq),hv," ",a,xs,rfl,rfl,.of ha,?_,kk _ _ b7 (Sto.one st7) ⟨_,rfl,bad⟩⟩;have jl:=jsum 32 xs;have ol:=bad.2.len;rw[cy_,jn] at ol;show _+xs.length * 1<=_;omega
end
theorem mj_(ps:List Pc):∃qs,Qs ps qs:=by
 have key:∀n∈bL' (ps.map (·.1)),∃p∈ps,p.1=n:=λn hn=>by
  obtain⟨p,hp,e⟩:=ac'.mp ((aG_ _).mem_iff.mp hn);exact⟨p,hp,e⟩
 generalize hn:bL' (ps.map (·.1))=ns at key
 have:∃qs:List Pc,qs.map (·.1)=ns/\∀q∈qs,∃p∈ps,q=nrm p:=by
  clear hn
  induction ns with
  |nil=>exact⟨[],rfl,λq hq=>by cases hq⟩
  |cons n ns ih=>
   obtain⟨qs,e,h⟩:=ih λm hm=>key m (ai' _ hm);obtain⟨p,hp,en⟩:=key n Z2;refine⟨nrm p::qs,by rw[au',e];show p.1::ns=_;rw[en],λq hq=>?_⟩;rcases ah'.mp hq with z|z
   ·exact⟨p,hp,z⟩
   ·exact h q z
 obtain⟨qs,e,h⟩:=this;exact⟨qs,e.trans hn.symm,h⟩
variable{hs:Xa}{ts:Xb}
theorem jV_(G:Good hs ts)(h:t∈tsOf ts):t.1∈bf' hs/\t.2∈bf' hs:=by
 obtain⟨u,hu,rfl⟩:=bp'.mp h;obtain⟨m1,m2⟩:=G.tin u hu;have m1:=(aM_ hs).mem_iff.mpr m1;have m2:=(aM_ hs).mem_iff.mpr m2;rcases bi_ u.1 u.2 with e|e
 ·rw[e];exact⟨m1,m2⟩
 ·rw[e];exact⟨m2,m1⟩
theorem gG_(G:Good hs ts):ts.length<=28:=by
 have a1:(tsOf ts).Nodup:=(ld_ G.tnd).imp λ{a b} q e=>by rw[e,dn_] at q;cases q
 have lt:∀t∈tsOf ts,ltS t.1 t.2=true:=λt ht=>l8_ G.tok ht
 have nd:(tsOf ts++((tsOf ts).map λt=>(t.2,t.1))++(bf' hs).map λn=>(n,n)).Nodup:=by
  refine List.nodup_append.mpr ⟨List.nodup_append.mpr ⟨a1,?_,λx hx y hy e=>?_⟩,?_,λx hx y hy e=>?_⟩
  ·refine aK'.mpr (a1.imp λ{a b} q e=>q ?_);have:=c_1 Prod.fst e;have:=c_1 Prod.snd e;exact Prod.ext (by assumption) (by assumption)
  ·obtain⟨t,ht,rfl⟩:=ac'.mp hy;have l1:=lt _ hx;have l2:=lt _ ht;rw[e] at l1;have l1:ltS t.2 t.1=true:=l1;rw[ci_ l2] at l1;cases l1
  ·exact aK'.mpr (G.nnd.imp λ{a b} q e=>q (c_1 Prod.fst e))
  ·obtain⟨n,hn,rfl⟩:=ac'.mp hy
   have:ltS n n=true:=by
    rcases am'.mp hx with h|h
    ·have:=lt _ h;rwa [e] at this
    ·obtain⟨t,ht,et⟩:=ac'.mp h;have:=lt _ ht;rw[e] at et;have e1:t.2=n:=c_1 Prod.fst et;have e2:t.1=n:=c_1 Prod.snd et;rwa [e1,e2] at this
   rw[dP_] at this;cases this
 have sub:∀x∈tsOf ts++((tsOf ts).map λt=>(t.2,t.1))++(bf' hs).map λn=>(n,n),x∈(bf' hs).flatMap λa=>(bf' hs).map λb=>(a,b):=λx hx=>by
  have key:∀{a b},a∈bf' hs->b∈bf' hs->(a,b)∈(bf' hs).flatMap λa=>(bf' hs).map λb=>(a,b):=λ{a b} h1 h2=>List.mem_flatMap.mpr ⟨a,h1,ac'.mpr ⟨b,h2,rfl⟩⟩;rcases am'.mp hx with h|h
  ·rcases am'.mp h with h|h
   ·exact key (jV_ G h).1 (jV_ G h).2
   ·obtain⟨t,ht,rfl⟩:=ac'.mp h;exact key (jV_ G ht).2 (jV_ G ht).1
  ·obtain⟨n,hn,rfl⟩:=ac'.mp h;exact key hn hn
 have le:=nd.length_le_of_subset sub
 have lf:((bf' hs).flatMap λa=>(bf' hs).map λb=>(a,b)).length=hs.length * hs.length:=by
  have key:∀(xs ys:List Str),(xs.flatMap λa=>ys.map λb=>(a,b)).length=xs.length * ys.length:=λxs ys=>by
   induction xs with
   |nil=>simp
   |cons x xs ih=>rw[List.flatMap_cons,aj',aa',ih,aA',Nat.succ_mul,Nat.add_comm]
  rw[key,G.nlen]
 rw[lf,aj',aj',aa',aa',aX_,G.nlen] at le;have h8:=G.h8;have:hs.length * hs.length<=hs.length * 8:=Nat.mul_le_mul_left _ h8;omega
variable{k:Int}
theorem kl_(h0:0<=k)(h1:k<10 ^ 10):Wd ((toString k:Ai):Str):=by
 have l:((toString k:Ai):Str).length<=10:=PySem.W.KT.len_num h0 h1;refine⟨by omega,λz=>by have:=bt_ h0 z;omega,λz=>by have:=bt_ h0 z;omega,?_⟩;rw[List.count_eq_zero.mpr λz=>by have:=bt_ h0 z;omega];decide
theorem l3_{o:Option (Xb)}(h:∀us,o=some us->us.length<=28/\∀t∈us,N2 t):Wd (bn' o):=by
 match o,h with
 |none,_=>exact wdL Z0
 |some [],_=>exact wdL Z0
 |some (t::us),h=>exact ix_ (h _ rfl).2 (h _ rfl).1
theorem fu_{c d:Nat}(n:c≠d):∀ps:List Str,(Str.join ⟨#[c]⟩ ps).cps.toList.count d=(ps.map λp=>p.cps.toList.count d).sum
 |[]=>by simp[Str.join,Str.empty]
 |[a]=>by show a.cps.toList.count d=_;simp
 |a::b::r=>by
  rw[as_,aR',List.count_cons_of_ne n,fu_ n (b::r)];rfl
theorem no44n{x:Str}(h:bd' x=true):x.cps.toList.count 44=0:=List.count_eq_zero.mpr λz=>by have:=aD_ h z;omega
theorem m2_{n h y:Str}(hn:bd' n=true)(k0:0<=k)(k1:k<10 ^ 10)(hh:bd' h=true)(wy:Wd y):d2' (cF' n k h y) n ((toString k:Ai):Str) h y/\RowO (cF' n k h y):=by
 have ww:=kl_ k0 k1;have w5:=wc (wdL (w:="piece") Z0) (wc (cG_ hn) (wc ww (wc (cG_ hh) (wc wy w0))));obtain⟨a,b⟩:=gN_ w5 Z2 (by show 5<=6;decide);rw[<- bE_] at a b;refine⟨⟨b,hn,cG_ hn,ww,cG_ hh,wy,?_⟩,a⟩;rw[bE_,cy_,jn,fu_ (by decide)];have z:((toString k:Ai):Str).cps.toList.count 44=0:=List.count_eq_zero.mpr λz=>by have:=bt_ k0 z;omega
 have p:("piece":Str).cps.toList.count 44=0:=by decide +kernel
 have:=wy.2.2.2;simp only[au',List.map_nil,List.sum_cons,List.sum_nil];rw[p,no44n hn,z,no44n hh];omega
variable{f:Str->Str}{ps qs:List Pc}
theorem orig(T:Tell hs ts qs f)(Qq:Qs ps qs)(l8:qs.length<=8)(l1:1<=qs.length)(en:∀n∈hs.map (·.1),EndB 8 n):Orig (webR hs ts++qs.map (bj' f)) (webR hs ts).length/\∀r∈webR hs ts++qs.map (bj' f),r.length<=3000:=by
 have t28:=gG_ T.G;have wl:=dm_ T.G
 have w36:(webR hs ts).length<=36:=by
  unfold webR;rw[aj',aa',aa',aX_,T.G.nlen];have:=T.G.h8;omega
 have pr:∀q∈qs,(d2' (bj' f q) q.1 ((toString q.2.1:Ai):Str) (f q.1) (bn' q.2.2)/\RowO (bj' f q))/\(bj' f q).length<=2040:=λq hq=>by
  have g:=T.gp q hq;have pt:=T.pc hq;have fn:=ez_ T.G (T.at_ q.1 (ac'.mpr ⟨q,hq,rfl⟩));refine⟨m2_ g.nm pt.w0 pt.w1 fn (l3_ λus e=>⟨?_,T.ws hq us e⟩),eh_ pt.n (ag_ fn) pt.w0 pt.w1 pt.wl⟩;have:=(g.ws us e).len;rw[aX_] at this;omega
 have wr:∀r∈webR hs ts,RowO r/\dE' r:=λr hr=>by
  unfold webR at hr;rcases am'.mp hr with h|h
  ·obtain⟨n,hn,rfl⟩:=ac'.mp h;have s:=cK_ T.G hn;have w5:=wc (wdL (w:="hand") Z0) (wc (cG_ (ez_ T.G hn)) (wc (kl_ (k:=strOf hs n) Z1 Z1) w0));obtain⟨a,b⟩:=gN_ w5 Z2 (by show 3<=6;decide);rw[<- d3_] at a b;refine⟨a,λ_=>?_⟩;rw[b];exact en n ((aM_ hs).mem_iff.mp hn)
  ·obtain⟨t,ht,rfl⟩:=ac'.mp h;have g:=bq_ (hs:=hs) T.G.tok ht;have w5:=wc (wdL (w:="tie") Z0) (wc (cG_ g.1) (wc (cG_ g.2.1) w0));obtain⟨a,b⟩:=gN_ w5 Z2 (by show 3<=6;decide);rw[<- dz_] at a b;refine⟨a,λz=>?_⟩;rw[b] at z;cases z
 have pick:∀i r,(webR hs ts).length<=i->(webR hs ts++qs.map (bj' f))[i]? = some r->∃q,qs[i - (webR hs ts).length]? = some q/\r=bj' f q:=λi r hi hr=>by
  rw[aW' hi,aw'] at hr;cases e:qs[i - (webR hs ts).length]? with
  |none=>rw[e] at hr;cases hr
  |some q=>rw[e] at hr;exact⟨q,rfl,(b_2 hr).symm⟩
 refine⟨⟨?_,?_,?_,λr hr=>?_,λr hr=>?_,λi r hi hr=>?_,λi j r r' hi hj hr hr'=>?_⟩,λr hr=>?_⟩
 ·rw[aj',aa'];omega
 ·rw[aj',aa'];omega
 ·have a:=dH_ (m:=24) wl.2
  have b:=dH_ (m:=2040) (ss:=qs.map (bj' f)) λr hr=>by
   obtain⟨q,hq,rfl⟩:=ac'.mp hr;exact (pr q hq).2
  rw[aa'] at b;rw[ag',List.sum_append];omega
 ·rcases am'.mp hr with h|h
  ·exact (wr r h).1
  ·obtain⟨q,hq,rfl⟩:=ac'.mp h;exact (pr q hq).1.2
 ·rcases am'.mp hr with h|h
  ·exact (wr r h).2
  ·obtain⟨q,hq,rfl⟩:=ac'.mp h;intro z;rw[(pr q hq).1.1.e] at z;cases z
 ·obtain⟨q,hq,rfl⟩:=pick i r hi hr;exact⟨_,_,_,_,(pr q (ad' hq)).1.1⟩
 ·obtain⟨q,hq,rfl⟩:=pick i r hi hr;obtain⟨q',hq',rfl⟩:=pick j r' Z1 hr';rw[(pr q (ad' hq)).1.1.is.2,(pr q' (ad' hq')).1.1.is.2];have pw:(qs.map (·.1)).Pairwise λa b=>ltS a b=true:=kn_ (by rw[Qq.nms];exact bH_ _) T.nd;obtain⟨h1,e1⟩:=ab'.mp hq;obtain⟨h2,e2⟩:=ab'.mp hq';have:=List.pairwise_iff_getElem.mp pw (i - (webR hs ts).length) (j - (webR hs ts).length) (by rw[aa'];exact h1) (by rw[aa'];exact h2) Z1;rw[List.getElem_map,List.getElem_map,e1,e2] at this;exact this
 ·rcases am'.mp hr with h|h
  ·have:=wl.2 r h;omega
  ·obtain⟨q,hq,rfl⟩:=ac'.mp h;have:=(pr q hq).2;omega
theorem kU_{A:Ah}{s:Ac}{vb:List (Key × Aa)}:∀(va:List (Key × Aa)),KV ([]:List (Key × V)) va->PySem.W.KeqHits A s vb va true
 |va,r=>by
  cases r;exact .nil
inductive rNeD0 (x:V) (y:V) (H:Hp) (Q:VK):Prop
 |mk:∀(a b:Addr),x=.ref a->y=.ref b->H a=some (.dK [])->H b=some (.dK [])->Q (.bl false) H->rNeD0 x y H Q
theorem ll_{X:Cx}(hu:X.A.units<cLine):OpR X (compareOp .NotEq) rNeD0:=by
 intro pins s σ H x y v u Q I rx ry h;obtain⟨a,b,rfl,rfl,ha,hb,q⟩:=h;cases rx;cases ry;obtain⟨za,na,va,ra,da⟩:=d1_ I.hok (.inl ha);obtain⟨zb,nb,vb,rb,db⟩:=d1_ I.hok (.inl hb);have la:=ra.length;have lb:=rb.length;refine PySem.W.keq_ne na nb da db hu (r:=true) (λ_=>kU_ va ra) ⟨.bl _,H,I,rfl,?_⟩;rw[<- la,<- lb];simpa using q
theorem iO_:∀{rs:List Str},rs≠[]->Txt.join "\n" (rs++[("":Str)])=Txt.join "\n" rs++"\n":=λ{rs} h=>by
 rw[lx_,jn,jn];refine bh_ ?_;rw[aZ_]
 have key:∀(a:Str) (r:List Str),(Str.join ⟨#[10]⟩ (a::r++[("":Str)])).cps.toList=(Str.join ⟨#[10]⟩ (a::r)).cps.toList++[10]:=by
  intro a r
  induction r generalizing a with
  |nil=>
   show (Str.join ⟨#[10]⟩ [a,""]).cps.toList=_;rw[as_];rfl
  |cons b r ih=>
   show (Str.join ⟨#[10]⟩ (a::b::(r++[("":Str)]))).cps.toList=_;rw[as_,as_];have:=ih b;rw[show b::(r++[("":Str)])=b::r++[("":Str)] from rfl,this];simp
 match rs,h with
 |a::r,_=>exact key a r
theorem ln_(Gd:Good hs ts)(gp:∀q∈ps,bV' ts q)(nd:(ps.map (·.1)).Nodup)(h30:ps.length<=30)(Qq:Qs ps qs)(fm:∀n∈ps.map (·.1),f n∈hs.map (·.1)):Tell hs ts qs f:=by
 refine⟨Gd,λq hq=>kT_ Qq gp hq,Qq.nd nd,?_,λn hn=>?_⟩
 ·have:=Qq.len;omega
 ·rw[Qq.nms] at hn;exact (aM_ hs).mem_iff.mpr (fm n ((aG_ _).mem_iff.mp hn))
abbrev zP:Pc:=(("z":Str),(1000000000:Int),some [])
theorem z_no:¬EndB 7 "z":=λz=>by
 rcases z with z|⟨k,hk,z⟩
 ·revert z;decide +kernel
 ·have:("z":Str).cps.toList.getLast? = some 122:=by decide +kernel
  rw[this] at z;have:=b_2 z;omega
theorem fY_{α β:Type}{R:α->β->Prop}{xs:List α}{ys:List β}{x:α}{y:β}(h:Paired R xs ys)(r:R x y):Paired R (xs++[x]) (ys++[y]):=by
 induction h with
 |nil=>exact .cons r .nil
 |cons a _ ih=>exact .cons a ih
theorem cW':ba' ["_law_script","_law_hands","_law_ties","_law_pieces_here","_law_stand_here","_law_rows","_law_start","_law_found","_law_k","_law_odd"] ["_law_script"] (a9' sLaw):=f__
def spLaw(K:F__):Sp:=λvs H Q _=>∃(a:Addr) (ns:List Int),vs=[.ref a]/\SqL K H a (ns.map V.int)/\ns.length<=63/\∀H',Q (.bl true) H'
variable{CG CW f:Addr}{P:Ae}{w:Ag}{K:F__}{mg:Str->Option Aa}{base:Heap}
theorem m3_(F:Fun K "law" "law" sLaw f fd)(B:Bi mg)(T:TxtG K CG)(mMin:mg "min"=none)(cC:Cal P w K mg base 1 "_law_cell_at" ["_law_script","_law_k"] (spCell K))(cW:Cal P w K mg base 3 "_law_web" ["_law_state","_law_most"] (spLWeb K))(cP:Cal P w K mg base 3 "_law_pieces" ["_law_state","_law_ties","_law_most"] (c0' K))(cS:Cal P w K mg base 2 "_law_stand" ["_law_state","_law_pieces_here","_law_hands"] (d3' K))(cR:Cal P w K mg base 1 "_law_web_rows" ["_law_hands","_law_ties"] (ce' K))(cPR:Cal P w K mg base 2 "_law_piece_rows" ["_law_pieces_here","_law_stand_here"] (bO' K))(cRG:Cal P w K mg base 10 "read_goods" ["text"] (bY' K CG CW))(cN:CalM P w K mg base CG 1 "names" ["self"] (ci' K CG CW))(cF:Cal P w K mg base 11 "_law_refused" ["_law_text"] (dj' K))(cSp:Cal P w K mg base 2 "_law_spoiled" ["_law_state","_law_rows","_law_start","_law_ties"] (cG' K)):FnOk P w K mg base CX0 12 f fd ["_law_script"] (spLaw K):=by
 refine F.okA cW' λcdv A outer s H vs Q E hr h=>?_
 ·obtain⟨ls,ns,rfl,hls,h63,k⟩:=h;have sz:=b__;have hu:=br_ hr;have hr1:Room 1 _:=hr.mono (by decide);have hr2:Room 2 _:=hr.mono (by decide);have hr3:Room 3 _:=hr.mono (by decide);have hr10:Room 10 _:=hr.mono (by decide);refine' ⟨_,a3_ ?s1 (a3_ ?s2 (a3_ ?s3 (a3_ ?s4 (a3_ ?s5 (a3_ ?s6 ?r7))))),?kk⟩
  case' r7=>refine' a3_ ?s7 (a3_ ?s8 (a3_ ?s9 (a3_ ?s10 (a3_ ?s11 (a5_ ?s12)))))
  case s1=>exact gx_ (al_ cW hr3 (a0_ (av_ (a0_ (al_ cC hr1 (a0_ (pv 0) (a0_ a4_ a2_))) a2_)) (a0_ a4_ a2_))) (ch_ rfl (ai_ (b5_ 1 cW'.nd) (ai_ (b5_ 2 cW'.nd) b4_)))
  case s2=>exact ao_ 3 cW'.nd (af_ aI_ (al_ cP hr3 (a0_ (av_ (a0_ (al_ cC hr1 (a0_ (pv 0) (a0_ a4_ a2_))) a2_)) (a0_ (pv 2) (a0_ a4_ a2_)))) (av_ (a0_ (b9_ (a0_ a9_ (a0_ (af_ iF_ a4_ a4_) (a0_ (av_ a2_) a2_)))) a2_)))
  case s3=>exact ao_ 4 cW'.nd (al_ cS hr2 (a0_ (av_ (a0_ (al_ cC hr1 (a0_ (pv 0) (a0_ a4_ a2_))) a2_)) (a0_ (pv 3) (a0_ (pv 1) a2_))))
  case s4=>exact ao_ 5 cW'.nd (al_ cR hr1 (a0_ (pv 1) (a0_ (pv 2) a2_)))
  case s5=>exact ao_ 6 cW'.nd (a7_ ak_ (by rfl) B.len b_3 (a0_ (pv 5) a2_))
  case s6=>exact ao_ 7 cW'.nd (al_ cRG hr10 (a0_ (bl_ b_1 c_0 c__ bs_ a9_ (a0_ (pv 5) a2_)) a2_))
  case s7=>exact aw_ (e5_ (ar_ (kb_ cmpS (e6' hr 0)) (fv_ cN T.cl hr1 (aj_ aO_ (pv 7) a4_ (λ_ _=>rfl))) (av_ a2_) (nomark _)) (cz_ (ar_ (ll_ (Nat.lt_of_succ_lt hu)) (aj_ aO_ (pv 7) a4_ (λ_ _=>rfl)) bM_ (nomark _)))).pt ac_ aa_
  case s8=>exact ao_ 5 cW'.nd (af_ aI_ (pv 5) (al_ cPR hr2 (a0_ (pv 3) (a0_ (pv 4) a2_))))
  case s9=>exact aw_ (aK_ (al_ cF hr (a0_ (bl_ b_1 c_0 c__ bs_ a9_ (a0_ (pv 5) a2_)) a2_))) ac_ aa_
  case' s10=>refine' b3_ b_7 rfl ?i10 (b5_ 8 cW'.nd) (a3_ ?b1 (a5_ ?b2))
  case i10=>exact iC_ (by rfl) B.range (a0_ a4_ (a0_ (a7_ (hE_ rfl) (by rfl) B.max PyProof.Rows.Boot.«max» (a0_ a4_ (a0_ (a7_ (iS_ rfl) (by rfl) mMin PyProof.Rows.Boot.«min» (a0_ a4_ (a0_ (a7_ ak_ (by rfl) B.len b_3 (a0_ (pv 0) a2_)) a2_))) a2_))) a2_))
  case b1=>exact ao_ 9 cW'.nd (al_ cSp hr2 (a0_ (av_ (a0_ (af_ b7_ (al_ cC hr1 (a0_ (pv 0) (a0_ (pv 8) a2_))) (af_ fk_ a4_ (pv 8))) a2_)) (a0_ (pv 5) (a0_ (pv 6) (a0_ (pv 2) a2_)))))
  case b2=>exact aw_ (aH_ (aK_ (al_ cF hr (a0_ (bl_ b_1 c_0 c__ bs_ a9_ (a0_ (pv 9) a2_)) a2_)))) ac_ aa_
  case' s11=>refine' b3_ b_7 rfl (ah_ (av_ (a0_ ?e1 (a0_ ?e2 (a0_ a9_ (a0_ dc_ (a0_ a4_ (a0_ (pv 5) (a0_ e7_ a2_))))))))) (b5_ 9 cW'.nd) (a5_ (aw_ (aH_ (aK_ (al_ cF hr (a0_ (pv 9) a2_)))) ac_ aa_))
  case e1=>exact af_ ap_ (bl_ b_1 c_0 c__ bs_ a9_ (a0_ (pv 5) a2_)) a9_
  case e2=>exact bl_ b_1 c_0 c__ bs_ a9_ (a0_ (am_ aE_ (pv 5) (az_ (pv 6)) ay_) a2_)
  case s12=>exact ae_ (fx_ (al_ cF hr (a0_ (bl_ b_1 c_0 c__ bs_ a9_ (a0_ (pv 5) a2_)) a2_)))
  case' kk=>skip
  have news:∀{H0 H':Hp} {l:Addr} {n:Int},H0 l=none->But l (upd H0 l (.lst [.int n])) H'->Same H0 H':=λ{H0 H' l n} hl b c o e=>b _ _ (Same.new hl _ _ e) (a6_ e hl);have st1:∀{H0:Hp} {l:Addr} {n:Int},stt (upd H0 l (.lst [.int n])) l:=λ{H0 l n}=>.inl ⟨n,a1_⟩;refine⟨_,rfl,ls,ns,0,rfl,by decide,hls,λn0=>?_⟩;refine⟨by show 1<=sizeLine;decide,λl0 hl0=>?_⟩;refine⟨l0,rfl,st1,λt lh lt yh yt hs ts H1 b1 _ ht nlh nlt nht hlh th hlt tt G en=>?_⟩;refine⟨t,_,rfl,.of ht,rfl,_,_,rfl,_,_,rfl,rfl,?_⟩;have hls:=(news hl0 b1).seq hls;clear b1 nlh nlt nht ht;dsimp only;refine⟨_,rfl,ls,ns,1,rfl,by decide,hls,λn1=>?_⟩;refine⟨by show 1<=sizeLine;decide,λl1 hl1=>?_⟩;have sl1:=Same.new (o:=.lst [.int n1]) hl1;refine⟨_,rfl,l1,lt,7,yt,ts,rfl,by decide,st1,sl1 _ _ hlt,tt.same sl1,a6_ hlt hl1,G.t64,G.tok,G.tnd,λlp yp ps H2 b2 _ nlp hlp pc gp nd l7 en7=>?_⟩;have s12:=news hl1 b2;have lyp:=a_1 pc;clear b2 nlp sl1;refine⟨_,_,rfl,rfl,⟨by decide,by decide,by decide⟩,by show 0<=sizeLine;decide,λle hle=>?_⟩;obtain⟨s3,e3⟩:=nw__ (o:=.lst []) hle;generalize upd H2 le (.lst [])=H3 at s3 e3 ⊢;refine⟨by show 3<=sizeLine;decide,λtz htz=>?_⟩;have s4:=Same.new (o:=.tup [.str "z",.int ((10:Int) ^ (9:Int).toNat),.ref le]) htz;have e4:upd H3 tz (.tup [.str "z",.int ((10:Int) ^ (9:Int).toNat),.ref le]) tz=some (.tup [.str "z",.int 1000000000,.ref le]):=a1_;generalize upd H3 tz (.tup [.str "z",.int ((10:Int) ^ (9:Int).toNat),.ref le])=H4 at s4 e4 ⊢;refine⟨by show 1<=sizeLine;decide,λl5 hl5=>?_⟩;obtain⟨s5,e5⟩:=nw__ (o:=.lst [.ref tz]) hl5;generalize upd H4 l5 (.lst [.ref tz])=H5 at s5 e5 ⊢;have s25:=(s3.trans s4).trans s5;refine⟨lp,l5,_,_,rfl,rfl,s25 _ _ hlp,e5,by show yp.length+1<=_;omega,λlq hlq=>?_⟩;obtain⟨s6,e6⟩:=nw__ (o:=.lst (yp++[.ref tz])) hlq;generalize upd H5 lq (.lst (yp++[.ref tz]))=H6 at s6 e6 ⊢;refine setG ?_;dsimp only;have s16:=s12.trans (s25.trans s6);have pz:PcAt K H6 (.ref tz) zP:=⟨tz,.ref le,rfl,s6 _ _ (s5 _ _ e4),le,[],rfl,s6 _ _ (s5 _ _ (s4 _ _ e3)),.nil⟩;have pc6:b0' K H6 (yp++[.ref tz]) (ps++[zP]):=fY_ (Paired.mapP pc λ_ _ q=>q.same (s25.trans s6)) pz
  have gpz:∀p∈ps++[zP],bV' ts p:=λp hp=>by
   rcases am'.mp hp with z|z
   ·exact gp p z
   ·rw[aN'.mp z];exact⟨by decide +kernel,by decide,by decide,λws e=>by cases e;exact⟨λ_ h=>(by cases h),List.nodup_nil,λ_ h=>(by cases h),aJ' _⟩⟩
  have ndz:((ps++[zP]).map (·.1)).Nodup:=by
   rw[ag'];refine List.nodup_append.mpr ⟨nd,by simp,λa ha b hb e=>?_⟩;obtain⟨p,hp,rfl⟩:=ac'.mp ha;have hb:b="z":=by simpa using hb
   rw[hb] at e;have:=en7 p hp;rw[e] at this;exact z_no this
  have lz:(ps++[zP]).length=ps.length+1:=by rw[aj'];rfl
  generalize ps++[zP]=pz at pc6 gpz ndz lz;generalize yp++[V.ref tz]=yz at e6 pc6;clear gp nd en7 pc hlp e3 e4 e5 s3 s4 s5 s6 s25 hle htz hl5 hlq;have hls:=s16.seq hls;have hlh:=s16 _ _ hlh;have th:=th.same s16;have hlt:=s16 _ _ hlt;have tt:=tt.same s16;have h1:=G.h1;have h8:=G.h8;refine⟨_,rfl,ls,ns,2,rfl,by decide,hls,λn2=>?_⟩;refine⟨by show 1<=sizeLine;decide,λl2 hl2=>?_⟩;have sl2:=Same.new (o:=.lst [.int n2]) hl2;refine⟨_,rfl,_,rfl,l2,lq,lh,yz,yh,pz,hs,rfl,st1,sl2 _ _ e6,a6_ e6 hl2,Paired.mapP pc6 λ_ _ q=>q.same sl2,sl2 _ _ hlh,a6_ hlh hl2,th.same sl2,by omega,h8,by omega,ndz,λd f H7 b7 _ nd7 hd7 fm=>?_⟩;have s7:=news hl2 b7;refine setG ?_;dsimp only;clear b7 sl2;refine⟨_,rfl,_,rfl,lh,lt,yh,yt,hs,ts,rfl,s7 _ _ hlh,th.same s7,s7 _ _ hlt,tt.same s7,G,λlr H8 s8 nr hlr=>?_⟩;refine setG ?_;dsimp only;have s78:=s7.trans s8;refine⟨_,rfl,lr,_,rfl,.inl (.of hlr),?_⟩;refine setG ?_;dsimp only;rw[aa'];have hls:=s78.seq hls;have T0:Tell hs ts [] id:=⟨G,λq hq=>(by cases hq),List.nodup_nil,by show 0<=30;decide,λn hn=>(by cases hn)⟩;have Q0:Qs [] []:=⟨(List.length_eq_zero_iff.mp (by rw[(aG_ _).length_eq];rfl)).symm,λq hq=>by cases hq⟩;have w44:=dm_ G
  have ej:bW' hs ts [] id=Txt.join "\n" (webR hs ts):=by
   unfold bW';rw[List.map_nil,aF']
  have Td:=f5_ T0 Q0;have pw:=bT_ T0;rw[<- hX_ T0] at pw;rw[ej] at Td pw;have wsum:=dH_ (m:=24) w44.2;have c1:(webR hs ts).length * ("\n":Str).length=(webR hs ts).length:=Nat.mul_one _;have jw:=jlen "\n" (webR hs ts);obtain⟨Tx,qx,Qx,e0⟩:=Td
  have q0:∀{qs},Qs (bc' (rowsT (Txt.join "\n" (webR hs ts)))) qs->qs=[]:=λ{qs} Qq=>by
   have:=Qq.len;rw[pw] at this;exact List.length_eq_zero_iff.mp this
  refine⟨rfl,_,rfl,"\n",lr,webR hs ts,rfl,rfl,.of hlr,by omega,_,id,rfl,by omega,Tx,λqs Qq q hq=>(by rw[q0 Qq] at hq;cases hq),λqs Qq=>?_,λt2 g p d2 qs fp H9 s9 nt2 ht2 S9 Qq nd9 fr9=>?_⟩
  ·rw[q0 Qq];rw[q0 Qx] at e0;exact e0
  have e9:=q0 Qq;subst e9;refine setG ?_;dsimp only;obtain⟨dx,dw,dy,vs,fpw,g1,g2,g3,g4,g5,m1,m2,m3,m4,m5⟩:=id S9.G.ex;refine⟨_,rfl,t2,_,0,_,rfl,rfl,.of ht2,rfl,g,dx,_,rfl,g1,by_ _ _ _ Z0 Z0 Z0,g,p,_,_,[],fp,rfl,S9.G,λln nn=>?_⟩;have s10:=Same.new (o:=.lst (([]:List Pc).map (·.1) |>.map V.str)) nn;have e10:upd H9 ln (.lst (([]:List Pc).map (·.1) |>.map V.str)) ln=some (.lst []):=a1_;generalize upd H9 ln (.lst (([]:List Pc).map (·.1) |>.map V.str))=H10 at s10 e10 ⊢;refine⟨by show 0<=sizeLine;decide,λln2 nn2=>?_⟩;obtain⟨s11,e11⟩:=nw__ (o:=.lst []) nn2;generalize upd H10 ln2 (.lst [])=H11 at s11 e11 ⊢;refine⟨[],[],⟨ln,[],rfl,.of (s11 _ _ e10),.nil⟩,⟨ln2,[],rfl,.of e11,.nil⟩,_,rfl,iteF ?_⟩;have s911:=s10.trans s11;refine⟨_,rfl,t2,_,1,_,rfl,rfl,.of (s911 _ _ ht2),rfl,λdn hdn=>?_⟩;obtain⟨s12,e12⟩:=nw__ (o:=.dK []) hdn;generalize upd H11 dn (.dK [])=H12 at s12 e12 ⊢
  have hd9:H9 d2=some (.dK []):=by
   have:=S9.hd;rwa [pw] at this
  refine⟨d2,dn,rfl,rfl,s12 _ _ (s911 _ _ hd9),e12,_,rfl,iteF (d7' ?_)⟩;dsimp only;have s812:=s9.trans (s911.trans s12);have hlr:=s812 _ _ hlr;have s612:=s78.trans s812;have hls:=s812.seq hls;have hlt:=s612 _ _ hlt;have tt:=tt.same s612;have hd:=s8.trans s812 _ _ hd7;have hlq:=s612 _ _ e6;have pcq:b0' K H12 yz pz:=Paired.mapP pc6 λ_ _ q=>q.same s612;clear e12 hdn s12 s911 s812 s10 s11 e10 e11 nn nn2 g1 g2 g3 g4 g5 m1 m2 m3 m4 m5 S9 Qq nd9 fr9 nt2 ht2 s9 hd9 e0 Qx Tx jw c1 wsum pw q0 s78 s612 s7 s8 nr e6 pc6 hd7 nd7 hlh th;obtain⟨qs,Qq⟩:=mj_ pz;have ql:=Qq.len;have T':=ln_ G gpz ndz Z1 Qq fm;have fl:∀n∈pz.map (·.1),(f n).length<=8:=λn hn=>fg_ G ((aM_ hs).mem_iff.mpr (fm n hn));refine⟨_,rfl,_,rfl,_,rfl,lq,d,yz,pz,qs,ts,f,rfl,hlq,pcq,hd,G.t64,gpz,ndz,by omega,Qq,fl,λlx H13 s13 nx hx=>?_⟩;obtain⟨O,r30⟩:=orig T' Qq Z1 Z1 en;have t28:=gG_ G;have Td:Told (Txt.join "\n" (webR hs ts++qs.map (bj' f))) f:=f5_ T' Qq;have O44:=O.l44
  have pcr:∀r∈qs.map (bj' f),isW "hand" (Txt.split r " ")=false:=λr hr=>by
   obtain⟨i,hi⟩:=List.getElem?_of_mem hr;obtain⟨n,w,h,y,P⟩:=O.pc ((webR hs ts).length+i) r Z1 (by rw[aW' Z1,Nat.add_sub_cancel_left];exact hi);rw[P.e];rfl
  have qne:qs.map (bj' f)≠[]:=λz=>by
   rw[List.map_eq_nil_iff] at z;rw[z] at ql;have:0=pz.length:=ql;omega
  rw[aj'] at O44;refine⟨lr,lx,_,_,rfl,rfl,s13 _ _ hlr,hx,by rw[aa',aa'];omega,λlR hlR=>?_⟩;have s14:=Same.new (o:=.lst ((webR hs ts).map V.str++(qs.map (bj' f)).map V.str)) hlR;have e14:upd H13 lR (.lst ((webR hs ts).map V.str++(qs.map (bj' f)).map V.str)) lR=some (.lst ((webR hs ts++qs.map (bj' f)).map V.str)):=by rw[a1_,ag']
  generalize upd H13 lR (.lst ((webR hs ts).map V.str++(qs.map (bj' f)).map V.str))=H14 at s14 e14 ⊢;refine setG ?_;dsimp only;have s1214:=s13.trans s14;have hls:=s1214.seq hls;have hlt:=s1214 _ _ hlt;have tt:=tt.same s1214;have dr:(webR hs ts++qs.map (bj' f)).drop (webR hs ts).length=qs.map (bj' f):=List.drop_left;generalize webR hs ts++qs.map (bj' f)=rs at O r30 Td e14 dr;generalize (webR hs ts).length=k0 at O dr ⊢;generalize qs.map (bj' f)=rq at pcr qne dr;clear s1214 s13 s14 hx nx hlR ql T' fl hlq pcq hd Qq;have R:RsOk rs:=⟨λz=>by have:=O.lt;rw[z] at this;exact absurd this Z2,by have:=O.l44;omega,by have:=O.sum;omega,λr hr=>(O.ok r hr).nl,λr hr=>(O.ok r hr).cm⟩;have rdR:∀{H':Hp},ek' K H' (.str (Txt.join "\n" rs)) false:=lm_ R Td
  have jsz:∀{rs:List Str},RsOk rs->(rs.map (·.length)).sum+rs.length * ("\n":Str).length<=16777216:=λ{rs} h=>by
   have:=h.sum;have:=h.l64;have c:rs.length * ("\n":Str).length=rs.length:=Nat.mul_one _;omega
  refine⟨rfl,_,rfl,"\n",lR,rs,rfl,rfl,.of e14,jsz R,_,false,rfl,rdR,λH15 s15=>⟨_,rfl,?_⟩⟩;refine iteF (d7' ?_);dsimp only;have hls:=s15.seq hls;have hR:=s15 _ _ e14;have hlt:=s15 _ _ hlt;have tt:=tt.same s15;clear s15 e14;refine⟨_,rfl,ls,_,rfl,.inl hls,_,_,rfl,_,_,rfl,_,_,rfl,?_,?_⟩
  ·refine⟨by decide,by decide,?_,?_⟩
   ·split
    ·split<;>omega
    ·decide
   ·split
    ·split<;>omega
    ·decide
  refine dD_ (lo:=3) (λi σ H'=>∃(v8 v9:Option V),σ=[some (.ref ls),some (.ref lh),some (.ref lt),some (.ref lq),some (.ref d),some (.ref lR),some (.int k0),some (.ref t2),v8,v9]/\Same H15 H') ⟨none,none,rfl,Same.refl _⟩ ?_ ?_
  ·rintro i σ Hi hi ⟨v8,v9,rfl,si⟩;refine⟨_,rfl,_,rfl,ls,ns,3+(i:Int),rfl,by omega,si.seq hls,λn=>?_⟩;refine⟨_,rfl,_,_,rfl,rfl,.inl ⟨by decide,by decide⟩,_,_,rfl,rfl,?_⟩;generalize n+13 * (3+(i:Int))=n';refine⟨by show 1<=sizeLine;decide,λl hl=>?_⟩;have sl:=Same.new (o:=.lst [.int n']) hl;refine⟨_,rfl,_,rfl,_,rfl,l,lR,lt,rs,k0,yt,ts,rfl,st1,sl _ _ (si _ _ hR),a6_ (si _ _ hR) hl,O,r30,sl _ _ (si _ _ hlt),a6_ (si _ _ hlt) hl,(tt.same si).same sl,G.tok,G.tnd,t28,λlo rs' Hk bk stk hlo bad=>?_⟩;have sk:=news hl bk;refine setG ?_;dsimp only;refine⟨rfl,_,rfl,"\n",lo,rs',rfl,rfl,.of hlo,jsz bad.ok,_,true,rfl,bad.rd,λHm sm=>⟨_,rfl,?_⟩⟩;exact iteF ⟨_,_,rfl,si.trans (sk.trans sm)⟩
  rintro σ Hi ⟨v8,v9,rfl,si⟩;have hR:=si _ _ hR;clear si hls hlt tt;dsimp only
  have nb:bH' [""]:=di_ (m:=1) (wc (wdL Z0) w0) rfl (by decide) λz=>by
   rcases (d8_ z).1 with e|e<;>cases e
  have nb:NoR ""/\RowO "":=nb
  have B1:Bad (rs++[("":Str)]):=by
   have:=O.mid (ak' rs.length) nb.1 nb.2;rw[an',List.drop_length,aF'] at this;exact this
  have B2:Bad rq:=by
   have R2:RsOk rq:=by
    rw[<- dr];refine⟨by rw[dr];exact qne,by rw[aM'];have:=R.l64;omega,?_,λr hr=>R.nl r (List.mem_of_mem_drop hr),λr hr=>R.cm r (List.mem_of_mem_drop hr)⟩;have:=if_ rs (aJ' k0);have:=R.sum;omega
   exact⟨R2,λf=>bad3 R2.rows pcr⟩
  have B3:Bad [""]:=by
   have R3:RsOk [""]:=⟨by simp,by decide,by decide +kernel,λr hr=>by rw[aN'.mp hr];exact nb.2.nl,λr hr=>by rw[aN'.mp hr];exact nb.2.cm⟩;exact⟨R3,λf=>bad1 (rs:=[]) R3.rows (λr hr=>by rw[aN'.mp hr];exact .inr nb.1) ⟨"",by simp,nb.1⟩ λr hr=>by cases hr⟩
  have jl:=jlen "\n" rs;have js:=jsz R;refine⟨rfl,_,rfl,"\n",lR,rs,rfl,rfl,.of hR,js,_,_,rfl,rfl,?_,?_⟩
  ·have:=R.sum;have:=R.l64;have c:rs.length * ("\n":Str).length=rs.length:=Nat.mul_one _;show _+1<=_;omega
  refine⟨rfl,_,rfl,_,rfl,_,rfl,lR,_,rfl,.of hR,λq hq=>?_⟩;rw[mb_ Z1,a1',dr];obtain⟨s16,e16⟩:=nw__ (o:=.lst (rq.map V.str)) hq;generalize upd Hi q (.lst (rq.map V.str))=H16 at s16 e16 ⊢;refine⟨"\n",q,rq,rfl,rfl,.of e16,jsz B2.ok,_,rfl,by show 7<=sizeLine;decide,λlz nlz=>?_⟩;rw[<- iO_ R.ne];obtain⟨s17,e17⟩:=nw__ (o:=.lst [.str (Txt.join "\n" (rs++[("":Str)])),.str (Txt.join "\n" rq),.str "",.non,.int 7,.ref lR,.bl true]) nlz;generalize upd H16 lz (.lst [.str (Txt.join "\n" (rs++[("":Str)])),.str (Txt.join "\n" rq),.str "",.non,.int 7,.ref lR,.bl true])=H17 at s17 e17 ⊢;have hR:=s17 _ _ (s16 _ _ hR)
  have all:∀v∈[V.str (Txt.join "\n" (rs++[("":Str)])),.str (Txt.join "\n" rq),.str "",.non,.int 7,.ref lR,.bl true],∀{H'},Same H17 H'->ek' K H' v true:=λv hv {H'} s0=>by
   simp only[ah',a0',or_false] at hv;rcases hv with rfl|rfl|rfl|rfl|rfl|rfl|rfl
   ·exact B1.rd
   ·exact B2.rd
   ·exact B3.rd
   ·exact .inl ⟨rfl,_,.non,rfl⟩
   ·exact .inl ⟨rfl,_,.int _,rfl⟩
   ·exact .inl ⟨rfl,_,.lst (s0 _ _ hR),rfl⟩
   ·exact .inl ⟨rfl,_,.bl _,rfl⟩
  refine⟨lz,rfl,⟨_,.of e17⟩,aV_ (K:=K) (a:=lz) (xs:=[V.str (Txt.join "\n" (rs++[("":Str)])),.str (Txt.join "\n" rq),.str "",.non,.int 7,.ref lR,.bl true]) (λj σ H'=>∃v9:Option V,σ=[some (.ref ls),some (.ref lh),some (.ref lt),some (.ref lq),some (.ref d),some (.ref lR),some (.int k0),some (.ref t2),v8,v9]/\Same H17 H') ⟨_,rfl,Same.refl _⟩ (λj σ H' _ ⟨_,_,sm⟩=>.of (sm _ _ e17)) ?_ ?_⟩
  ·rintro j v σ Hm hv ⟨v9',rfl,sm⟩;refine⟨_,rfl,v,true,rfl,all v (ad' hv) sm,λHn sn=>⟨_,rfl,?_⟩⟩;exact iteF ⟨_,rfl,sm.trans sn⟩
  rintro σ Hm ⟨v9',rfl,sm⟩;refine⟨rfl,_,rfl,"\n",lR,rs,rfl,rfl,.of (sm _ _ hR),js,_,false,rfl,rdR,λHn sn=>⟨_,rfl,?_⟩⟩;exact k Hn
abbrev BdO(x qual:Str)(st:Stmt)(ps:List Str):Prop:=∀(kV doc pm:Aa) (an:Option Addr) (cdv ct:Aa) (us:List Aa),us.length=ps.length->bindArgs (PySem.W.fnOf x qual (bZ' st) (br' st) (a9' st) .none kV doc pm an cdv ct) ⟨us,[]⟩=pure (ps.zip us)
variable{qual x:Str}{ps:List Str}{st:Stmt}
theorem bdO(h:BdO x qual st ps:=by first|(exact λ_ _ _ _ _ _ us hl=>match us,hl with | [_],_=>rfl)|(exact λ_ _ _ _ _ _ us hl=>match us,hl with | [_,_],_=>rfl)|(exact λ_ _ _ _ _ _ us hl=>match us,hl with | [_,_,_],_=>rfl)|(exact λ_ _ _ _ _ _ us hl=>match us,hl with | [_,_,_,_],_=>rfl)|(exact λ_ _ _ _ _ _ us hl=>match us,hl with | [_,_,_,_,_],_=>rfl)):BdO x qual st ps:=h
structure Fd (K:F__) (mg:Str->Option Aa) (x:Str) (st:Stmt):Prop where
 ex:∃f fd,Fun K x x st f fd/\mg x=some (.ref f)/\PySem.W.keepIn K (.ref f)=true
variable{h:Heap}{cdv ct doc oc pm:Aa}{an od:Option Addr}{osl:Array (Option Aa)}
theorem fd_mk(X:K.In h)(G:h.Ns mainGlobals mg){kV:Aa}(a:PySem.W.nsIn K mainGlobals x=some (some (.ref f)))(l:K.lookup f=some ⟨oc,od,.func (PySem.W.fnOf x x (bZ' st) (br' st) (a9' st) .none kV doc pm an cdv ct),osl⟩)(c:PySem.W.codeIn K cdv x=true)(k:PySem.W.keepIn K (.ref f)=true):Fd K mg x st:=⟨_,_,iV_ l c k,b_4 X G a,k⟩
structure Md (K:F__) (C:Addr) (m qual:Str) (st:Stmt):Prop where
 ex:∃f fd,Fun K m qual st f fd/\Meth K C m f
variable{C:Addr}{m:Str}
theorem md_mk{kV:Aa}(a:PySem.W.findIn K (.ref C) m=some (some (.ref f)))(i:PySem.W.isFn K (.ref f)=true)(l:K.lookup f=some ⟨oc,od,.func (PySem.W.fnOf m qual (bZ' st) (br' st) (a9' st) .none kV doc pm an cdv ct),osl⟩)(c:PySem.W.codeIn K cdv qual=true)(k:PySem.W.keepIn K (.ref f)=true):Md K C m qual st:=⟨_,_,iV_ l c k,a,i,k⟩
variable{k:Nat}{sp:Sp}
theorem cal(d:Fd K mg x st)(ok:∀f fd,Fun K x x st f fd->FnOk P w K mg base CX0 k f fd ps sp)(h:BdO x x st ps:=by exact bdO):Cal P w K mg base k x ps sp:=by
 obtain⟨f,fd,F,m,kp⟩:=d.ex;exact⟨f,fd,ok f fd F,m,kp,F.binds h⟩
theorem calM(d:Md K C m qual st)(ok:∀f fd,Fun K m qual st f fd->FnOk P w K mg base CX0 k f fd ps sp)(h:BdO m qual st ps:=by exact bdO):CalM P w K mg base C k m ps sp:=by
 obtain⟨f,fd,F,m⟩:=d.ex;exact⟨f,fd,ok f fd F,m,F.binds h⟩
theorem calX(d:Md K C m qual st)(ok:∀f fd,Fun K m qual st f fd->FnOk P w K mg base (CX1 P w) k f fd ps sp)(h:BdO m qual st ps:=by exact bdO):CalX P w K mg base C k m ps sp:=by
 obtain⟨f,fd,F,m⟩:=d.ex;exact⟨f,fd,ok f fd F,m,F.binds h⟩
theorem calC(d:Md K C "__init__" qual st)(hx:mg x=some (.ref C))(mk:PySem.W.makesIn K C=true)(kc:PySem.W.keepIn K (.ref C)=true)(ok:∀f fd,Fun K "__init__" qual st f fd->FnOk P w K mg base CX0 k f fd ps sp)(h:BdO "__init__" qual st ps:=by exact bdO):CalC P w K mg base C k x ps sp:=by
 obtain⟨f,fd,F,m⟩:=d.ex;exact⟨f,fd,ok f fd F,⟨mk,m.1,m.2,kc⟩,hx,F.binds h⟩
theorem calF(d:Fd K mg x st)(ok:∀f fd,Fun K x x st f fd->FnOk P w K mg base (CX1 P w) k f fd ps sp)(h:BdO x x st ps:=by exact bdO):CalF P w K mg base k x ps sp:=by
 obtain⟨f,fd,F,m,kp⟩:=d.ex;exact⟨f,fd,ok f fd F,m,kp,F.binds h⟩
theorem calG(d:Fd K mg x st)(ok:∀f fd,Fun K x x st f fd->FnOk P w K mg base (CX2 P w) k f fd ps sp)(h:BdO x x st ps:=by exact bdO)   : CalG P w K mg base k x ps sp:=by
 obtain⟨f,fd,F,m,kp⟩:=d.ex;exact⟨f,fd,ok f fd F,m,kp,F.binds h⟩
theorem calK(d:Md K C "__init__" qual st)(hx:mg x=some (.ref C))(mk:PySem.W.makesIn K C=true)(kc:PySem.W.keepIn K (.ref C)=true)(ok:∀f fd,Fun K "__init__" qual st f fd->FnOk P w K mg base (CX1 P w) k f fd ps sp)(h:BdO "__init__" qual st ps:=by exact bdO):CalK P w K mg base C k x ps sp:=by
 obtain⟨f,fd,F,m⟩:=d.ex;exact⟨f,fd,ok f fd F,⟨mk,m.1,m.2,kc⟩,hx,F.binds h⟩
variable{l:PySem.W.OpenLaw}
theorem all_mk{fa CP CS CT CN c0 CH CE fl:Addr}(X:K.In h)(G:h.Ns mainGlobals mg)(hfa:mg "law"=some (.ref fa))(f0:Fd K mg "is_whole" sIsW)(f1:Fd K mg "is_whole_within" sWhole)(f2:Fd K mg "is_name" sName)(f3:Fd K mg "lesser_first" en')(f4:Fd K mg "is_pair_of_names" sPair)(f5:Fd K mg "sorted_ties" dF')(f6:Fd K mg "is_hand_with_strength" sHand)(f7:Fd K mg "checked_strengths" sStr)(f8:Fd K mg "checked_ties" sTies)(f9:Fd K mg "neighbours_of_all" sNear)(f10:Fd K mg "checked_ways" eM')(f11:Fd K mg "checked_piece" dM')(f12:Fd K mg "checked_pieces" cZ')(f13:Fd K mg "ties_anew" sAnew)(f14:Fd K mg "checked_stand" dO')(f15:Fd K mg "ways_text" dm')(f16:Fd K mg "web_rows" dJ')(f17:Fd K mg "goods_text" cg')(f18:Fd K mg "is_figures" sFigs)(f19:Fd K mg "is_tie_word" dU')(f20:Fd K mg "is_ways_word" c9')(f21:Fd K mg "ways_in" eD')(f22:Fd K mg "is_row_of_goods" sIsRow)(f23:Fd K mg "words_of_rows" c1')(f24:Fd K mg "web_in" eG')(f25:Fd K mg "goods_in" cu')(f26:Fd K mg "text_again" eK')(f27:Fd K mg "read_goods" bX')(f28:Fd K mg "_law_cell_at" sCell)(f29:Fd K mg "_law_digit" sDigit)(f30:Fd K mg "_law_names" sNames)(f31:Fd K mg "_law_web" sLWeb)(f32:Fd K mg "_law_ways" sWays)(f33:Fd K mg "_law_pieces" eq')(f34:Fd K mg "_law_stand" sStand)(f35:Fd K mg "_law_web_rows" c8')(f36:Fd K mg "_law_ways_word" cN')(f37:Fd K mg "_law_piece_rows" co')(f38:Fd K mg "_law_refused" dP')(f39:Fd K mg "_law_odd_ways" dG')(f40:Fd K mg "_law_spoiled" dT')(m0:Md K CW "__init__" "Web.__init__" sInit)(m1:Md K CW "has_hand" "Web.has_hand" sHas)(m2:Md K CW "hands" "Web.hands" sHands)(m3:Md K CW "strength" "Web.strength" db')(m4:Md K CW "are_tied" "Web.are_tied" sTied)(m5:Md K CG "__init__" "Goods.__init__" eF')(m6:Md K CG "has_piece" "Goods.has_piece" sGHas)(m7:Md K CG "names" "Goods.names" ey')(m8:Md K CG "weight" "Goods.weight" dH')(m9:Md K CW "ties" "Web.ties" sTiesM)(m10:Md K CG "ways" "Goods.ways" sGWays){ocl kVl dcl pml cdl ctl:Aa}{odl anl:Option Addr}{sll:Array (Option Aa)}{t8 t9 t10 t11 t12:Tok}(al:PySem.W.nsIn K mainGlobals "law"=some (some (.ref fl)))(ll:K.lookup fl=some ⟨ocl,odl,.func (PySem.W.fnOf "law" "law" (bZ' sLaw) (br' sLaw) (a9' sLaw) .none kVl dcl pml anl cdl ctl),sll⟩)(cl:PySem.W.codeIn K cdl "law"=true)(kl:PySem.W.keepIn K (.ref fl)=true)(aW:PySem.W.nsIn K mainGlobals "Web"=some (some (.ref CW)))(aG:PySem.W.nsIn K mainGlobals "Goods"=some (some (.ref CG)))(eP:PySem.W.nsIn K mainGlobals "NoPiece"=some (some (.ref CP)))(eS:PySem.W.nsIn K mainGlobals "NoStand"=some (some (.ref CS)))(eT:PySem.W.nsIn K mainGlobals "NoText"=some (some (.ref CT)))(eN:PySem.W.nsIn K mainGlobals "NoWeb"=some (some (.ref CN)))(eO:PySem.W.nsIn K mainGlobals "NoGoods"=some (some (.ref c0)))(eH:PySem.W.nsIn K mainGlobals "NoHand"=some (some (.ref CH)))(eE:PySem.W.nsIn K mainGlobals "EvenError"=some (some (.ref CE)))(xP:PySem.W.excIn K CP [.type "ValueError",.type "Exception",.type "BaseException",.type "object"] "ValueError.__new__"=true)(xS:PySem.W.excIn K CS [.type "ValueError",.type "Exception",.type "BaseException",.type "object"] "ValueError.__new__"=true)(xT:PySem.W.excIn K CT [.type "ValueError",.type "Exception",.type "BaseException",.type "object"] "ValueError.__new__"=true)(xN:PySem.W.excIn K CN [.type "ValueError",.type "Exception",.type "BaseException",.type "object"] "ValueError.__new__"=true)(xO:PySem.W.excIn K c0 [.type "ValueError",.type "Exception",.type "BaseException",.type "object"] "ValueError.__new__"=true)(c8:PySem.W.nsIn K mainGlobals "MOST_LETTERS"=some (some (.int 8 t8)))(c9:PySem.W.nsIn K mainGlobals "MOST_HANDS"=some (some (.int 8 t9)))(c10:PySem.W.nsIn K mainGlobals "MOST_STRENGTH"=some (some (.int 1000 t10)))(c11:PySem.W.nsIn K mainGlobals "MOST_WEIGHT"=some (some (.int 1000000000 t11)))(c12:PySem.W.nsIn K mainGlobals "MOST_FIGURES"=some (some (.int 10 t12)))(wpg:PySem.W.plainGet K CW Str.empty=true)(whd:PySem.W.hasDictIn K CW=true)(wpo:PySem.W.plainOver K CW=true)(wsa:PySem.W.findIn K (.ref CW) "__setattr__"=some (some (.builtin "object.__setattr__")))(wmk:PySem.W.makesIn K CW=true)(wkc:PySem.W.keepIn K (.ref CW)=true)(nS:PySem.W.findIn K (.ref CW) "strength_by_hand"=some none)(nP:PySem.W.findIn K (.ref CW) "sorted_pairs"=some none)(nN:PySem.W.findIn K (.ref CW) "neighbours_by_hand"=some none)(wiha:PySem.W.findIn K (.ref CW) "__class__"=some (some (.builtin "object.__class__")))(wimo:PySem.W.mroIn K CW (.type "object")=some true)(gpg:PySem.W.plainGet K CG Str.empty=true)(ghd:PySem.W.hasDictIn K CG=true)(gpo:PySem.W.plainOver K CG=true)(gsa:PySem.W.findIn K (.ref CG) "__setattr__"=some (some (.builtin "object.__setattr__")))(gmk:PySem.W.makesIn K CG=true)(gkc:PySem.W.keepIn K (.ref CG)=true)(nW:PySem.W.findIn K (.ref CG) "web"=some none)(nG:PySem.W.findIn K (.ref CG) "weight_by_name"=some none)(nY:PySem.W.findIn K (.ref CG) "ways_by_name"=some none)(giha:PySem.W.findIn K (.ref CG) "__class__"=some (some (.builtin "object.__class__")))(gimo:PySem.W.mroIn K CG (.type "object")=some true)(ihn:PySem.W.specialIn K (.builtin "object.__class__") "__get__"=some (some (.builtin "getset_descriptor.__get__")))(itk:PySem.W.takesIn K (.builtin "object.__class__")=some true)(ra:rfTIn K CT CE c0 CH CS CN CP=true)(xmN:PySem.W.exmOne K (.ref CN) (.ref CN)=some true)(xmS:PySem.W.exmOne K (.ref CS) (.ref CS)=some true)(xmO:PySem.W.exmOne K (.ref c0) (.ref c0)=some true)(z0:PySem.W.nsIn K mainGlobals "isinstance"=some none)(z1:PySem.W.nsIn K mainGlobals "int"=some none)(z2:PySem.W.nsIn K mainGlobals "bool"=some none)(z3:PySem.W.nsIn K mainGlobals "str"=some none)(z4:PySem.W.nsIn K mainGlobals "tuple"=some none)(z5:PySem.W.nsIn K mainGlobals "list"=some none)(z6:PySem.W.nsIn K mainGlobals "dict"=some none)(z7:PySem.W.nsIn K mainGlobals "len"=some none)(z8:PySem.W.nsIn K mainGlobals "all"=some none)(z9:PySem.W.nsIn K mainGlobals "sorted"=some none)(z10:PySem.W.nsIn K mainGlobals "max"=some none)(z11:PySem.W.nsIn K mainGlobals "range"=some none)(z12:PySem.W.nsIn K mainGlobals "any"=some none)(z13:PySem.W.nsIn K mainGlobals "enumerate"=some none)(z14:PySem.W.nsIn K mainGlobals "min"=some none)(z15:PySem.W.nsIn K mainGlobals "ValueError"=some none) :
  ∃fd:Af,(∀(s:Ac) (v:Aa),BindsTo s fd ⟨[v],[]⟩ [("_law_script",v)])/\∀base:Heap,K.In base->base.Ns mainGlobals mg->FnOk l.prog w K mg base CX0 12 fa fd ["_law_script"] (spLaw K):=by
 have e:=hfa.symm.trans (b_4 X G al);cases e;have B:Bi mg:=⟨b_6 X G z0,b_6 X G z1,b_6 X G z2,b_6 X G z3,b_6 X G z4,b_6 X G z5,b_6 X G z6,b_6 X G z7,b_6 X G z8,b_6 X G z9,b_6 X G z10,b_6 X G z11,b_6 X G z12,b_6 X G z13⟩;have TW:Txt K mg CW:=⟨⟨wpg,whd,wpo,wsa⟩,nS,nP,nN⟩;have IW:InsK K CW:=⟨wiha,ihn,itk,wimo⟩;have T:TxtG K CG:=⟨⟨gpg,ghd,gpo,gsa⟩,nW,nG,nY⟩;have IG:InsK K CG:=⟨giha,ihn,itk,gimo⟩;have RP:Ref K mg "NoPiece" CP:=⟨b_4 X G eP,xP⟩;have RS:Ref K mg "NoStand" CS:=⟨b_4 X G eS,xS⟩;have RT:Ref K mg "NoText" CT:=⟨b_4 X G eT,xT⟩;have RN:Ref K mg "NoWeb" CN:=⟨b_4 X G eN,xN⟩;have RO:Ref K mg "NoGoods" c0:=⟨b_4 X G eO,xO⟩;have FL:=iV_ (st:=sLaw) ll cl kl;refine⟨PySem.W.fnOf "law" "law" (bZ' sLaw) (br' sLaw) (a9' sLaw) .none kVl dcl pml anl cdl ctl,λs v=>.of_eq rfl,λbase _ _=>?_⟩;have RR:RfT K mg CT CE c0 CH CS CN CP:=m7_ ra (b_4 X G eT) (b_4 X G eE) (b_4 X G eO) (b_4 X G eH) (b_4 X G eS) (b_4 X G eN) (b_4 X G eP);have cIsW:Cal l.prog w K mg base 1 "is_whole" ["thing"] spIsW:=cal f0 (λ_ _ F=>m0_ F B);have cWhole:Cal l.prog w K mg base 2 "is_whole_within" ["thing","least","most"] dh':=cal f1 (λ_ _ F=>jE_ F cIsW);have cName:Cal l.prog w K mg base 1 "is_name" ["thing"] da':=cal f2 (λ_ _ F=>kQ_ F B (b_4 X G c8));have cLess:Cal l.prog w K mg base 1 "lesser_first" ["one","other"] cA':=cal f3 (λ_ _ F=>hH_ F);have cPair:Cal l.prog w K mg base 2 "is_pair_of_names" ["thing"] eQ':=cal f4 (λ_ _ F=>kM_ F B cName);have cSort:Cal l.prog w K mg base 3 "sorted_ties" ["ties"] (cy' K):=cal f5 (λ_ _ F=>f0_ F B cPair cLess);have cHand:Cal l.prog w K mg base 3 "is_hand_with_strength" ["thing"] eT':=cal f6 (λ_ _ F=>l4_ F B cName cWhole (b_4 X G c10));have cStr:Cal l.prog w K mg base 4 "checked_strengths" ["hands"] (spStr K):=cal f7 (λ_ _ F=>kc_ F B cHand (b_4 X G c9));have cTies:Cal l.prog w K mg base 4 "checked_ties" ["ties","strengths"] (eL' K):=cal f8 (λ_ _ F=>lc_ F B cSort);have cNear:Cal l.prog w K mg base 2 "neighbours_of_all" ["names","ties"] (eY' K):=cal f9 (λ_ _ F=>kL_ F cLess);have cWeb:CalC l.prog w K mg base CW 5 "Web" ["self","hands","ties"] (eR' K CW):=calC m0 (b_4 X G aW) wmk wkc (λ_ _ F=>l5_ F TW B cStr cTies cNear);have mHasA:CalM l.prog w K mg base CW 1 "has_hand" ["self","thing"] (eU' K CW):=calM m1 (λ_ _ F=>l9_ F TW B);have mHas:CalM l.prog w K mg base CW 1 "has_hand" ["self","thing"] (e1' K CW):=calM m1 (λ_ _ F=>lU_ F TW B);have mHands:CalM l.prog w K mg base CW 1 "hands" ["self"] (dK' K CW):=calM m2 (λ_ _ F=>j3_ F TW B);have mStr:CalM l.prog w K mg base CW 2 "strength" ["self","hand"] (ch' K CW):=calM m3 (λ_ _ F=>g8_ F TW mHas);have mTied:CalM l.prog w K mg base CW 2 "are_tied" ["self","one","other"] (de' K CW):=calM m4 (λ_ _ F=>jO_ F TW mHasA);have cCW:Cal l.prog w K mg base 4 "checked_ways" ["web","ways"] (dZ' K CW):=cal f10 (λ_ _ F=>jI_ F TW cSort mTied);have cCP:Cal l.prog w K mg base 5 "checked_piece" ["web","piece"] (cD' K CW):=cal f11 (λ_ _ F=>f9_ F B cName cWhole cCW (b_4 X G c11));have cCPs:Cal l.prog w K mg base 6 "checked_pieces" ["web","pieces"] (cx' K CW):=cal f12 (λ_ _ F=>gY_ F B cCP);have cGoods:CalC l.prog w K mg base CG 7 "Goods" ["self","web","pieces"] (dS' K CG CW):=calC m5 (b_4 X G aG) gmk gkc (λ_ _ F=>jT_ F T TW IW B (b_4 X G aW) cCPs);have gHas:CalM l.prog w K mg base CG 1 "has_piece" ["self","thing"] (do' K CG CW):=calM m6 (λ_ _ F=>kJ_ F T B);have gNames:CalM l.prog w K mg base CG 1 "names" ["self"] (ci' K CG CW):=calM m7 (λ_ _ F=>hI_ F T B);have gWeight:CalX l.prog w K mg base CG 2 "weight" ["self","piece"] (cI' K CG CW CP):=calX m8 (λ_ _ F=>h5_ F T RP gHas);have cAnew:Cal l.prog w K mg base 1 "ties_anew" ["ties"] (eO' K):=cal f13 (λ_ _ F=>le_ F);have mTies:CalM l.prog w K mg base CW 2 "ties" ["self"] (dI' K CW):=calM m9 (λ_ _ F=>jZ_ F TW cAnew);have gWays:CalX l.prog w K mg base CG 2 "ways" ["self","piece"] (dR' K CG CW CP):=calX m10 (λ_ _ F=>j7_ F T RP gHas cAnew);have cSortG:Cal l.prog w K mg base 3 "sorted_ties" ["ties"] (eB' K):=cal f5 (λ_ _ F=>FnOk.two (f0_ F B cPair cLess) (jX_ F B cPair cLess) λ_ _ _ _ z=>z);have cStrG:CalF l.prog w K mg base 4 "checked_strengths" ["hands"] (spStrG K CN):=calF f7 (λ_ _ F=>FnOk.two (kc_ F B cHand (b_4 X G c9)).up (kS_ F B RN cHand (b_4 X G c9)) λ_ _ _ _ z=>z);have cTiesT:CalF l.prog w K mg base 4 "checked_ties" ["ties","strengths"] (eC' K CN):=calF f8 (λ_ _ F=>k2_ F RN cSortG);have cWebK:CalK l.prog w K mg base CW 5 "Web" ["self","hands","ties"] (ev' K CN):=calK m0 (b_4 X G aW) wmk wkc (λ_ _ F=>jz_ F cStrG cTiesT);have cCWT:CalF l.prog w K mg base 4 "checked_ways" ["web","ways"] (dQ' K CW c0):=calF f10 (λ_ _ F=>hL_ F TW RO cSortG mTied);have cCPG:CalF l.prog w K mg base 5 "checked_piece" ["web","piece"] (eb' K CW c0):=calF f11 (λ_ _ F=>FnOk.two (f9_ F B cName cWhole cCW (b_4 X G c11)).up (hk_ F B RO cName cWhole cCWT (b_4 X G c11)) λ_ _ _ _ z=>z);have cCPsT:CalF l.prog w K mg base 6 "checked_pieces" ["web","pieces"] (cQ' K CW c0):=calF f12 (λ_ _ F=>fI_ F B RO cCPG);have cGoodsK:CalK l.prog w K mg base CG 7 "Goods" ["self","web","pieces"] (dN' K CW c0):=calK m5 (b_4 X G aG) gmk gkc (λ_ _ F=>i9_ F TW IW B (b_4 X G aW) cCPsT);have cCS:Cal l.prog w K mg base 2 "checked_stand" ["goods","stand"] (c3' K CG CW):=cal f14 (λ_ _ F=>iN_ F B T TW gHas mHas gNames);have cCSN:CalF l.prog w K mg base 2 "checked_stand" ["goods","stand"] (bU' K CG CW CS):=calF f14 (λ_ _ F=>h4_ F B RS T TW gHas mHas gNames);have cWyT:Cal l.prog w K mg base 3 "ways_text" ["ways"] (cO' K):=cal f15 (λ_ _ F=>fL_ F);have cWbR:Cal l.prog w K mg base 3 "web_rows" ["web"] (cE' K CW):=cal f16 (λ_ _ F=>h8_ F TW mHands mStr mTies);have cGdT:Cal l.prog w K mg base 4 "goods_text" ["goods","stand"] (bs' K CG CW):=cal f17 (λ_ _ F=>f3_ F T cCS cWbR gWeight gWays cWyT);have cGdN:CalF l.prog w K mg base 3 "goods_text" ["goods","stand"] (bU' K CG CW CS):=calF f17 (λ_ _ F=>ew_ F cCSN);have cFig:Cal l.prog w K mg base 1 "is_figures" ["word"] spFigs:=cal f18 (λ_ _ F=>l0_ F B (b_4 X G c12));have cTW:Cal l.prog w K mg base 2 "is_tie_word" ["word"] c4':=cal f19 (λ_ _ F=>he_ F B cName);have cWW:Cal l.prog w K mg base 3 "is_ways_word" ["word"] cR':=cal f20 (λ_ _ F=>fZ_ F B cTW);have cWI:Cal l.prog w K mg base 1 "ways_in" ["word"] c2':=cal f21 (λ_ _ F=>iU_ F B);have cRow:Cal l.prog w K mg base 4 "is_row_of_goods" ["words"] (d0' K):=cal f22 (λ_ _ F=>jN_ F B cFig cWW);have cWO:Cal l.prog w K mg base 1 "words_of_rows" ["text"] cL':=cal f23 (λ_ _ F=>hf_ F B);have cWbI:Cal l.prog w K mg base 7 "web_in" ["rows"] (dW' K CW):=cal f24 (λ_ _ F=>jx_ F B cWeb);have cGdI:Cal l.prog w K mg base 9 "goods_in" ["rows"] (ct' K CG CW):=cal f25 (λ_ _ F=>eq_ F B cWbI cWI cGoods);have cAg:Cal l.prog w K mg base 5 "text_again" ["goods","stand"] (bs' K CG CW):=cal f26 (λ_ _ F=>gi_ F cGdT);have cRG:Cal l.prog w K mg base 10 "read_goods" ["text"] (bY' K CG CW):=cal f27 (λ_ _ F=>da_ F B cWO cRow cGdI cAg);have cWbIT:CalG l.prog w K mg base 7 "web_in" ["rows"] (cj' K CT):=calG f24 (λ_ _ F=>hG_ F B RN RT xmN cWebK);have cGdIG:CalG l.prog w K mg base 9 "goods_in" ["rows"] (dy' K CG CW CT):=calG f25 (λ_ _ F=>FnOk.two (eq_ F B cWbI cWI cGoods).up (FnOk.two (sp:=λvs H Q E=>cj' K CT vs H Q E∨cP' K CT vs H Q E) (g0_ F cWbIT) (fU_ F B RO RT xmO cWbI cWI cGoodsK) λ_ _ _ _ z=>z) λ_ _ _ _ z=>z);have cAgG:CalG l.prog w K mg base 5 "text_again" ["goods","stand"] (eP' K CG CW CT):=calG f26 (λ_ _ F=>FnOk.two (gi_ F cGdT).up (j1_ F RS RT xmS cGdN) λ_ _ _ _ z=>z);have cWN:CalG l.prog w K mg base 1 "words_of_rows" ["text"] (cf' K CT):=calG f23 (λ_ _ F=>i4_ F B RT);have cRGA:CalG l.prog w K mg base 10 "read_goods" ["text"] (b4' K CG CW CT):=calG f27 (λ_ _ F=>FnOk.two (da_ F B cWO cRow cGdI cAg).up (FnOk.two (sp:=λvs H Q E=>b7' CT vs H Q E∨cf' K CT vs H Q E) (eK_ F B RT cWO cRow cGdIG cAgG) (eL_ F cWN) λ_ _ _ _ z=>z) λ_ _ _ _ z=>z);have cCell:Cal l.prog w K mg base 1 "_law_cell_at" ["_law_script","_law_k"] (spCell K):=cal f28 (λ_ _ F=>kV_ F B);have cDig:Cal l.prog w K mg base 1 "_law_digit" ["_law_state","_law_base"] b9':=cal f29 (λ_ _ F=>jo_ F B);have cNms:Cal l.prog w K mg base 2 "_law_names" ["_law_state","_law_many"] dL':=cal f30 (λ_ _ F=>jj_ F B cDig);have cLW:Cal l.prog w K mg base 3 "_law_web" ["_law_state","_law_most"] (spLWeb K):=cal f31 (λ_ _ F=>kR_ F B cDig cNms);have cLY:Cal l.prog w K mg base 2 "_law_ways" ["_law_state","_law_ties"] (eV' K):=cal f32 (λ_ _ F=>lf_ F B cDig);have cLP:Cal l.prog w K mg base 3 "_law_pieces" ["_law_state","_law_ties","_law_most"] (c0' K):=cal f33 (λ_ _ F=>hU_ F B cDig cNms cLY);have cSt:Cal l.prog w K mg base 2 "_law_stand" ["_law_state","_law_pieces_here","_law_hands"] (d3' K):=cal f34 (λ_ _ F=>jQ_ F B cDig);have cLWR:Cal l.prog w K mg base 1 "_law_web_rows" ["_law_hands","_law_ties"] (ce' K):=cal f35 (λ_ _ F=>g6_ F B);have cLWW:Cal l.prog w K mg base 1 "_law_ways_word" ["_law_ways_here"] (cp' K):=cal f36 (λ_ _ F=>fA_ F B);have cLPR:Cal l.prog w K mg base 2 "_law_piece_rows" ["_law_pieces_here","_law_stand_here"] (bO' K):=cal f37 (λ_ _ F=>eB_ F B cLWW);have cRf:Cal l.prog w K mg base 11 "_law_refused" ["_law_text"] (dj' K):=cal f38 (λ_ _ F=>h7_ F B (b_6 X G z15) (b_6 X G z12) RR cRGA);have cOW:Cal l.prog w K mg base 1 "_law_odd_ways" ["_law_ties"] (dg' K):=cal f39 (λ_ _ F=>hp_ F B);have cSpo:Cal l.prog w K mg base 2 "_law_spoiled" ["_law_state","_law_rows","_law_start","_law_ties"] (cG' K):=cal f40 (λ_ _ F=>hj_ F B cDig cOW);exact m3_ FL B T (b_6 X G z14) cCell cLW cLP cSt cLWR cLPR cRG gNames cRf cSpo
theorem walk{q:Ae}{loose:List Str}{XP:(Str->Option Aa)->Heap->Prop}{YP:Ag->Heap->Prop}{d:DefRec}{K:Params->F__}(hn:l.most=some 63)(hdf:d.params.defaults=[])(hY:∀(w:Ag) (h:Heap),YP w h->(K w.params).In h)(F:∀(w:Ag) (mg:Str->Option Aa) (fa:Addr) (h:Heap),(K w.params).In h->h.Ns mainGlobals mg->mg d.name=some (.ref fa)->
   ∃fd:Af,(∀(s:Ac) (u:Aa),BindsTo s fd ⟨[u],[]⟩ [("_law_script",u)])/\∀base:Heap,(K w.params).In base->base.Ns mainGlobals mg->FnOk l.prog w (K w.params) mg base CX0 12 fa fd ["_law_script"] (spLaw (K w.params))) :
  PySem.W.WalkO q loose XP YP l.row.toRowW d [] (λf vs=>PySem.call f vs):=
 L2.walk_of (n:=63) (k:=12) (x:="_law_script") (CX:=λ_=>CX0) (sp:=λw=>spLaw (K w.params)) hn (by decide) hdf ⟨rfl,by decide,by decide⟩ hY F (λ_ _ a ns hl _ hS=>⟨a,ns,rfl,hS,hl,λ_=>rfl⟩) λ_ _ _ _ _ z=>z
end Ev
namespace PySem.W.Fast
def tw7296880339275568672:=()
def tw10153209082421976928:=()
def tw10132653481144364353:=()
def tw11287773562571343265:=()
def tw13619870045479880449:=()
def tw9086267290005947907:=()
def tw18014594944370314532:=()
def tw15919269834906268997:=()
def tw16195967560758584072:=()
def tw16352878622625297418:=()
def tw16658665338704097674:=()
def tw842621085693433482:=()
def tw1852292638216959212:=()
def tw6196021582673905231:=()
def tw12604924819597166704:=()
def tw6586358727790083920:=()
def tw2753678428718550129:=()
def tw6791974372530260913:=()
def tw10647947036951956116:=()
def tw6254686087828522261:=()
def tw2451793043763177752:=()
def tw8546673196826469529:=()
def tw11798207014345382233:=()
def tw6901724900256942010:=()
def tw4836067773928601915:=()
def tw10524588463099532540:=()
def tw11914942699246640668:=()
def tw9968512045000380285:=()
def tw17881553994042299325:=()
def tw14640056989910011582:=()
def tw1399591614768602942:=()
def tw6367689838450305279:=()
def tw4178280427569100447:=()
def tw3197153233839685756:=()
def tw2256155112864291286:=()
def tw18348568660062323452:=()
def tw5994692411504857872:=()
def tw5983043069460809108:=()
def tw3627194129243731655:=()
def tw16350946029048945102:=()
def tw17123357944873307204:=()
def tw10694017711720750770:=()
def tw10495312388325508099:=()
def tw17550009131687057443:=()
def tw14834617654601205867:=()
def tw5467711203419492227:=()
def tw14116921071220336797:=()
def tw9338441445176349138:=()
def tw9555256638073582157:=()
def tw4963301202355204335:=()
def tw17806491883682844560:=()
def tw3418123191115749422:=()
def tw6564472587216548659:=()
def tw15381361887954193274:=()
def tw8726449767917298151:=()
def tw11971998133807794909:=()
def tw11388722960813739785:=()
def tw8618255417475611242:=()
def tw8264293525564705608:=()
def tw1960369626512096782:=()
def tw6566121209808166912:=()
def tw16403498606038329742:=()
def tw9520916943736094628:=()
def tw2030089527141355257:=()
def tw952373421270442897:=()
def tw15822274615240177229:=()
def tw2290741676486605684:=()
def tw4525989021824644836:=()
def tw3082880491252626826:=()
def tw11266834839798733040:=()
def tw2201669346065229827:=()
def tw16900161486309851905:=()
def tw4474471345498027026:=()
def tw1920247184659154847:=()
def tw4127720929181725849:=()
def tw6250838057777440619:=()
def tw14750715539110895838:=()
def tw12434012846620765972:=()
def tw15334539154638998404:=()
def tw2020803697897449926:=()
def tw5870271236919337598:=()
def tw15471176670084621784:=()
def tw824169759203465866:=()
def tw15977672266924440153:=()
def tw17119370610357805659:=()
def tw9274454927630408453:=()
def tw8159289775130195298:=()
def tw1981829287768397497:=()
def tw4508399509862352435:=()
def tw12487921139526496333:=()
def tw12410863965886262500:=()
def tw8685275041396859021:=()
def tw4751970806957279769:=()
def tw17019682173558986960:=()
def tw15000971724076028626:=()
def tw13223239336227571725:=()
def tw9654380594322998314:=()
def tw10159848273132509817:=()
def tw11401290344944344441:=()
def tw10650192227288803448:=()
def tw16211892528434403774:=()
def tw4580978329344726951:=()
def tw3033905742336717527:=()
def tw16350175632966579726:=()
def tw10003451708778143575:=()
def tw2312093629297624623:=()
def tw14608090246553240418:=()
def tw5364498198768655780:=()
def tw12077669108426836384:=()
def tw9262394464765335579:=()
def tw1088508495307062858:=()
def tw4644889942418622060:=()
def tw15903828894351264921:=()
def tw6750919579768520652:=()
def tw11847416845631340288:=()
def tw15865195583359215550:=()
def tw13484155680905579844:=()
def tw15878447573594347423:=()
def tw2440953481316048658:=()
def tw12346710922906025043:=()
def tw1058956872039278764:=()
def tw8179652322318433707:=()
def tw2072892596487353570:=()
def tw12697564817535345014:=()
def tw9411651902062412660:=()
def tw8030177012719564558:=()
def tw6113045189379181492:=()
def tw3154764824406147950:=()
def tw16253931043090997302:=()
def tw8578664090578572772:=()
def tw17407138759157433332:=()
def tw12211417017635829827:=()
def tw7288972052669477031:=()
def tw4826188045113323696:=()
def tw12670204499903887223:=()
def tw2216460934743821849:=()
def tw8259023963046693918:=()
def tw3133797467555605693:=()
def tw15896616200414430344:=()
def tw6102420786121879160:=()
def tw380903123713266272:=()
def tw10992423997496143153:=()
def tw15457844145666720357:=()
def tw3100294894182803069:=()
def tw1774203455223436782:=()
def tw11964889763941222049:=()
def tw15572147676706652925:=()
def tw15985626928265234252:=()
def tw9454680591138701068:=()
def tw11436090237553574789:=()
def tw15113065815543991754:=()
def tw17026023222609546152:=()
end PySem.W.Fast
open PySem PySem.W PyProof.Rows
set_option maxRecDepth 100000 in
theorem PySem.Challenge.cw_evenpieces_k73_texts_of_no_goods_holds : PySem.Challenge.rw_evenpieces_k73_texts_of_no_goods.Holds := by
 w_on;o_law;k_head;(case hw=>w_witness2)
 k_fill
 refine Ev.walk (l:=PySem.Challenge.rw_evenpieces_k73_texts_of_no_goods) rfl rfl (fun w h Y=>PySem.W.kIn_of Y) ?F
 case F=>
  intro w mg fa h KX G hmg;refine' Ev.all_mk KX G hmg (Ev.fd_mk KX G ?_ ?_ ?_ ?_) (Ev.fd_mk KX G ?_ ?_ ?_ ?_) (Ev.fd_mk KX G ?_ ?_ ?_ ?_) (Ev.fd_mk KX G ?_ ?_ ?_ ?_) (Ev.fd_mk KX G ?_ ?_ ?_ ?_) (Ev.fd_mk KX G ?_ ?_ ?_ ?_) (Ev.fd_mk KX G ?_ ?_ ?_ ?_) (Ev.fd_mk KX G ?_ ?_ ?_ ?_) (Ev.fd_mk KX G ?_ ?_ ?_ ?_) (Ev.fd_mk KX G ?_ ?_ ?_ ?_) (Ev.fd_mk KX G ?_ ?_ ?_ ?_) (Ev.fd_mk KX G ?_ ?_ ?_ ?_) (Ev.fd_mk KX G ?_ ?_ ?_ ?_) (Ev.fd_mk KX G ?_ ?_ ?_ ?_) (Ev.fd_mk KX G ?_ ?_ ?_ ?_) (Ev.fd_mk KX G ?_ ?_ ?_ ?_) (Ev.fd_mk KX G ?_ ?_ ?_ ?_) (Ev.fd_mk KX G ?_ ?_ ?_ ?_) (Ev.fd_mk KX G ?_ ?_ ?_ ?_) (Ev.fd_mk KX G ?_ ?_ ?_ ?_) (Ev.fd_mk KX G ?_ ?_ ?_ ?_) (Ev.fd_mk KX G ?_ ?_ ?_ ?_) (Ev.fd_mk KX G ?_ ?_ ?_ ?_) (Ev.fd_mk KX G ?_ ?_ ?_ ?_) (Ev.fd_mk KX G ?_ ?_ ?_ ?_) (Ev.fd_mk KX G ?_ ?_ ?_ ?_) (Ev.fd_mk KX G ?_ ?_ ?_ ?_) (Ev.fd_mk KX G ?_ ?_ ?_ ?_) (Ev.fd_mk KX G ?_ ?_ ?_ ?_) (Ev.fd_mk KX G ?_ ?_ ?_ ?_) (Ev.fd_mk KX G ?_ ?_ ?_ ?_) (Ev.fd_mk KX G ?_ ?_ ?_ ?_) (Ev.fd_mk KX G ?_ ?_ ?_ ?_) (Ev.fd_mk KX G ?_ ?_ ?_ ?_) (Ev.fd_mk KX G ?_ ?_ ?_ ?_) (Ev.fd_mk KX G ?_ ?_ ?_ ?_) (Ev.fd_mk KX G ?_ ?_ ?_ ?_) (Ev.fd_mk KX G ?_ ?_ ?_ ?_) (Ev.fd_mk KX G ?_ ?_ ?_ ?_) (Ev.fd_mk KX G ?_ ?_ ?_ ?_) (Ev.fd_mk KX G ?_ ?_ ?_ ?_) (Ev.md_mk ?_ ?_ ?_ ?_ ?_) (Ev.md_mk ?_ ?_ ?_ ?_ ?_) (Ev.md_mk ?_ ?_ ?_ ?_ ?_) (Ev.md_mk ?_ ?_ ?_ ?_ ?_) (Ev.md_mk ?_ ?_ ?_ ?_ ?_) (Ev.md_mk ?_ ?_ ?_ ?_ ?_) (Ev.md_mk ?_ ?_ ?_ ?_ ?_) (Ev.md_mk ?_ ?_ ?_ ?_ ?_) (Ev.md_mk ?_ ?_ ?_ ?_ ?_) (Ev.md_mk ?_ ?_ ?_ ?_ ?_) (Ev.md_mk ?_ ?_ ?_ ?_ ?_) ?_ ?_ ?_ ?_ ?aW ?aG ?eP ?eS ?eT ?eN ?eO ?eH ?eE ?xP ?xS ?xT ?xN ?xO ?_ ?_ ?_ ?_ ?_ ?_ ?_ ?_ ?_ ?_ ?_ ?_ ?_ ?_ ?_ ?_ ?_ ?_ ?_ ?_ ?_ ?_ ?_ ?_ ?_ ?_ ?_ ?_ ?_ ?ra ?xmN ?xmS ?xmO ?_ ?_ ?_ ?_ ?_ ?_ ?_ ?_ ?_ ?_ ?_ ?_ ?_ ?_ ?_ ?_
  (case aW=>k_is);(case aG=>k_is);(case eP=>k_is);(case eS=>k_is);(case eT=>k_is);(case eN=>k_is);(case eO=>k_is);(case eH=>k_is);(case eE=>k_is)
  any_goals k_is
  (case xP=>k_exc);(case xS=>k_exc);(case xT=>k_exc);(case xN=>k_exc);(case xO=>k_exc);(case ra=>kernel_rfl);(case xmN=>kernel_rfl);(case xmS=>kernel_rfl);(case xmO=>kernel_rfl)

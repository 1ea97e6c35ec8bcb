import PyProof.Rows.All
import Wide.All
import OpenK.AllK
import Wide.FinOn
import Lean
import PyProof.EqAt
import PyProof.EqKinds
import PyProof.TupleCall
import PyProof.TupleOfSeq
import PyProof.NeKinds
import PyProof.WalkInts
import KE.KLam
import KE.KSortTup
import PySem.Challenge.RW_evenpieces_k69_stands_reached
set_option maxHeartbeats 0
set_option Elab.async false
set_option linter.all false
noncomputable section
local macro_rules|`(def $x:declId $s:optDeclSig $v:declVal)=>`(noncomputable def $x:declId $s:optDeclSig $v:declVal)
local macro_rules|`(abbrev $x:declId $s:optDeclSig $v:declVal)=>`(noncomputable abbrev $x:declId $s:optDeclSig $v:declVal)
local macro_rules|`(universe $x*)=>return Lean.mkNullNode (←x.mapM λa=>do return(←`(theorem $a:ident:True:=⟨⟩)).raw)
abbrev Xa:=List (PySem.Str × Int)
abbrev Xb:=List (PySem.Str × PySem.Str)
set_option compiler.extract_closed false
set_option maxRecDepth 100000
theorem ae:type_of% @PySem.wpAny_bind:=@PySem.wpAny_bind
theorem aS:type_of% @PySem.Heap.get?_push_of_some:=@PySem.Heap.get?_push_of_some
abbrev Aa:=PySem.Value
abbrev Ab:=PySem.Shared
theorem aB:type_of% @PySem.wpAny_pure:=@PySem.wpAny_pure
theorem cw:type_of% @PySem.Heap.get?_push_size:=@PySem.Heap.get?_push_size
theorem bj:type_of% @PySem.Paired.length:=@PySem.Paired.length
theorem bp:type_of% @PySem.Heap.lt_size:=@PySem.Heap.lt_size
theorem cq:type_of% @Option.some.inj:=@Option.some.inj
theorem cz:type_of% @decide_eq_true:=@decide_eq_true
abbrev Ad:=PySem.Program
theorem dI:type_of% @PySem.PassesOwn.never:=@PySem.PassesOwn.never
theorem aA:type_of% @if_neg:=@if_neg
abbrev Ae:=PySem.FuncData
theorem cU:type_of% @PySem.sizeLine_eq:=@PySem.sizeLine_eq
theorem aI:type_of% @if_pos:=@if_pos
theorem fC:type_of% @decide_eq_false:=@decide_eq_false
theorem l_:type_of% @PySem.F.plainAttrs_list:=@PySem.F.plainAttrs_list
abbrev Af:=PySem.Around
theorem bG:type_of% @Ne.symm:=@Ne.symm
abbrev Ag:=PySem.World
theorem gF:type_of% @PySem.boot_len:=@PySem.boot_len
theorem jf:type_of% @PySem.W.mg_none_of:=@PySem.W.mg_none_of
theorem fL:type_of% @PySem.wpAny_field:=@PySem.wpAny_field
theorem pZ:type_of% @PySem.Heap.get?_update_other:=@PySem.Heap.get?_update_other
theorem uE:type_of% @PySem.F.type_list_append:=@PySem.F.type_list_append
theorem uD:type_of% @PySem.F.slot_list_append:=@PySem.F.slot_list_append
theorem iI:type_of% @PySem.wpAny_holding:=@PySem.wpAny_holding
theorem uq:type_of% @PySem.wpAny_callSpecial?_slot:=@PySem.wpAny_callSpecial?_slot
theorem o_:type_of% @PySem.wpAny_loadPart':=@PySem.wpAny_loadPart'
theorem pY:type_of% @PySem.mem_of_lookup:=@PySem.mem_of_lookup
theorem jG:type_of% @PySem.wpAny_seqItems:=@PySem.wpAny_seqItems
theorem eF:type_of% @congrArg:=@congrArg
theorem o9:type_of% @of_decide_eq_true:=@of_decide_eq_true
theorem pX:type_of% @PySem.wpAny_setField_rec:=@PySem.wpAny_setField_rec
theorem pW:type_of% @PySem.wpAny_newObj_type:=@PySem.wpAny_newObj_type
theorem iu:type_of% @Sum.inr.inj:=@Sum.inr.inj
theorem l7:type_of% @PySem.Heap.size_push:=@PySem.Heap.size_push
theorem BC:type_of% @PyProof.Rows.callWith_type1:=@PyProof.Rows.callWith_type1
theorem sU:type_of% @PySem.wpAny_call_entry:=@PySem.wpAny_call_entry
theorem um:type_of% @PySem.wpAny_truthy_bool:=@PySem.wpAny_truthy_bool
theorem xS:type_of% @PySem.Around.under_plainId:=@PySem.Around.under_plainId
theorem sW:type_of% @PySem.W.kia_one:=@PySem.W.kia_one
theorem Z0{p:Prop}[Decidable p](h:decide p=true:=by decide +kernel):p:=of_decide_eq_true h
theorem Z1{p:Prop}(h:p:=by omega):p:=h
theorem Z2{p:Prop}(h:p:=by simp):p:=h
local macro_rules|`(tactic|let $x:ident:=$e)=>`(tactic|have $x:ident:=$e)
local macro_rules|`($a\$b)=>`($a=some $b)
local macro_rules|`(⇑$h)=>`(by simpa using $h)
local macro_rules|`(tactic|exists $e)=>let i:=Lean.mkIdent;`(tactic|refine $e λ$(i `aQ) $(i `A) $(i `outer) $(i `s) $(i `H) $(i `vs) $(i `Q) $(i `E) $(i `hr) $(i `h)=>?_)
local macro_rules|`(section v)=>let i:=Lean.mkIdent;return Lean.mkNullNode #[←`(section),←`(variable{$(i `P):ident:$(i `Ad)}{$(i `w):ident:$(i `Ag)}{$(i `K):ident:$(i `ai)}{$(i `mg):ident:$(i `Str)->$(i `Option) $(i `Aa)}{$(i `base):ident:$(i `Heap)})]
local macro_rules|`(tactic|apply $e)=>`(tactic|refine $e)
local macro_rules|`(#[$x,$xs,*])=>`(⟨$x,$xs,*⟩)
local macro_rules|`(tactic|let $p:term:=$e)=>let g:=λ(x:Lean.Syntax)=>(if x.isIdent then`(rcasesPat|$(⟨x⟩):ident) else if x.isOfKind ``Lean.Parser.Term.hole then`(rcasesPat|_) else pure ⟨x⟩:Lean.MacroM (Lean.TSyntax `rcasesPat));p.raw.rewriteBottomUpM (λn=>if n.isOfKind `«term#[_,]» then n[1].getSepArgs.mapM (λx=>g x>>=λy=>`(Lean.Parser.Tactic.rcasesPatLo|$y:rcasesPat))>>=λs=>`(rcasesPat|⟨$s,*⟩)>>=λt=>pure t.raw else pure n)>>=λq=>`(tactic|obtain $(⟨q⟩):rcasesPat:=$e)
theorem U{α:Sort _}{a:α}:a=a:=rfl
abbrev ai:=PySem.W.Frag
theorem ao:type_of% @List.length_map:=@List.length_map
theorem aX:type_of% @List.getElem?_eq_getElem:=@List.getElem?_eq_getElem
theorem bZ:type_of% @List.getElem?_eq_some_iff:=@List.getElem?_eq_some_iff
theorem cy:type_of% @List.mem_of_getElem?:=@List.mem_of_getElem?
theorem cQ:type_of% @List.size_toArray:=@List.size_toArray
theorem br:type_of% @List.mem_map:=@List.mem_map
theorem a_:type_of% @Nat.le_refl:=@Nat.le_refl
theorem dG:type_of% @List.getElem?_map:=@List.getElem?_map
theorem bW:type_of% @List.mem_cons:=@List.mem_cons
theorem eg:type_of% @List.mem_singleton:=@List.mem_singleton
theorem eI:type_of% @List.length_append:=@List.length_append
theorem dR:type_of% @List.length_take:=@List.length_take
theorem fM:type_of% @List.mem_cons_of_mem:=@List.mem_cons_of_mem
theorem dN:type_of% @List.mem_append:=@List.mem_append
theorem eG:type_of% @List.take_length:=@List.take_length
theorem cY:type_of% @List.map_map:=@List.map_map
theorem f_:type_of% @Bool.false_ne_true:=@Bool.false_ne_true
theorem dA:type_of% @Nat.ne_of_lt:=@Nat.ne_of_lt
theorem gH:type_of% @List.getElem_of_mem:=@List.getElem_of_mem
theorem fe:type_of% @List.map_append:=@List.map_append
theorem gz:type_of% @List.mem_cons_self:=@List.mem_cons_self
theorem eY:type_of% @List.map_cons:=@List.map_cons
theorem gI:type_of% @List.not_mem_nil:=@List.not_mem_nil
theorem jn:type_of% @List.length_singleton:=@List.length_singleton
theorem i6:type_of% @Nat.lt_of_lt_of_le:=@Nat.lt_of_lt_of_le
theorem qa:type_of% @List.nodup_iff_pairwise_ne:=@List.nodup_iff_pairwise_ne
theorem mJ:type_of% @List.mem_append_right:=@List.mem_append_right
theorem gj:type_of% @Nat.le_trans:=@Nat.le_trans
theorem jm:type_of% @List.length_cons:=@List.length_cons
theorem gO:type_of% @Int.le_of_lt:=@Int.le_of_lt
theorem gB:type_of% @Nat.zero_le:=@Nat.zero_le
theorem jk:type_of% @List.nodup_cons:=@List.nodup_cons
theorem pf:type_of% @Array.length_toList:=@Array.length_toList
theorem wC:type_of% @List.getElem?_append_left:=@List.getElem?_append_left
theorem mI:type_of% @List.getElem_mem:=@List.getElem_mem
theorem uJ:type_of% @List.take_of_length_le:=@List.take_of_length_le
theorem x5:type_of% @List.getElem?_append_right:=@List.getElem?_append_right
theorem mF:type_of% @List.mem_filter:=@List.mem_filter
theorem p_:type_of% @Bool.false_eq_true:=@Bool.false_eq_true
theorem kz:type_of% @List.take_succ:=@List.take_succ
theorem i5:type_of% @Nat.ne_of_gt:=@Nat.ne_of_gt
theorem BO:type_of% @Int.mul_le_mul_of_nonneg_right:=@Int.mul_le_mul_of_nonneg_right
theorem uI:type_of% @List.map_congr_left:=@List.map_congr_left
theorem p9:type_of% @List.lookup_cons:=@List.lookup_cons
theorem tJ:type_of% @List.take_add_one:=@List.take_add_one
theorem p7:type_of% @List.forIn_cons:=@List.forIn_cons
theorem tI:type_of% @Nat.le_add_right:=@Nat.le_add_right
theorem AO:type_of% @Int.eq_ofNat_of_zero_le:=@Int.eq_ofNat_of_zero_le
theorem FN:type_of% @Int.mul_le_mul_of_nonneg_left:=@Int.mul_le_mul_of_nonneg_left
theorem wD:type_of% @List.pairwise_map:=@List.pairwise_map
theorem ya:type_of% @List.mem_filterMap:=@List.mem_filterMap
theorem BR:type_of% @Option.map_eq_some_iff:=@Option.map_eq_some_iff
theorem x_:type_of% @Int.toNat_natCast:=@Int.toNat_natCast
theorem tM:type_of% @Nat.lt_irrefl:=@Nat.lt_irrefl
theorem uL:type_of% @List.forIn_nil:=@List.forIn_nil
theorem BQ:type_of% @List.length_replicate:=@List.length_replicate
theorem BP:type_of% @List.length_filter_le:=@List.length_filter_le
theorem x8:type_of% @List.find?_cons:=@List.find?_cons
abbrev aj:=List PySem.Value
abbrev bg:=PySem.Str->PySem.Str
abbrev aq:=List PySem.Addr
abbrev af:=List PySem.Str
namespace L2
open PySem PySem.Spec PyProof.Rows
abbrev Key:=Sum Int Str
def wa:Key->Aa->Bool
 |.inl k,v=>Value.isInt k v
 |.inr x,v=>Value.isStrOf x v
def KM(w:Ag):Key->Int
 |.inl k=>hashInt k
 |.inr x=>hashStr w x
theorem qb:∀{k:Key} {v:Aa},wa k v=true->(∃i t,k=Sum.inl i/\v=Value.int i t)∨(∃x t,k=Sum.inr x/\v=Value.str x t)
 |.inl i,v,h=>by
  let#[t,e]:=Value.isInt_shape (k:=i) (v:=v) h;exact .inl #[i,t,U,e]
 |.inr x,v,h=>by
  let#[t,e]:=Value.isStrOf_shape (x:=x) (v:=v) h;exact .inr #[x,t,U,e]
theorem fV_(i:Int)(t:Tok):wa (.inl i) (.int i t)=true:=by simp[wa,Value.isInt]
theorem fU_(x:Str)(t:Tok):wa (.inr x) (.str x t)=true:=by simp[wa,Value.isStrOf]
theorem X4(a b:Int):decide ((Sum.inl a:Key)=Sum.inl b)=(a == b):=by
 by_cases e:a=b
 ·subst e;simp
 have h:¬(Sum.inl a:Key)=Sum.inl b:=λq=>e (Sum.inl.inj q);rw[fC h];exact (beq_eq_false_iff_ne.mpr e).symm
theorem X_(a b:Str):decide ((Sum.inr a:Key)=Sum.inr b)=decide (a=b):=by
 by_cases e:a=b
 ·subst e;simp
 have h:¬(Sum.inr a:Key)=Sum.inr b:=λq=>e (iu q);rw[fC h,fC e]
theorem YC(a:Int)(b:Str):decide ((Sum.inl a:Key)=Sum.inr b)=false:=fC (λq=>nomatch q)
theorem Yc(a:Str)(b:Int):decide ((Sum.inr a:Key)=Sum.inl b)=false:=fC (λq=>nomatch q)
def fq(prog:Ad)(w:Ag):PySem.KeyKind prog w Key where
 is:=wa
 hash:=KM w
 inj:=λv a b ha hb=>by
  rcases qb ha with⟨i,t,rfl,rfl⟩|⟨x,t,rfl,rfl⟩
  ·rcases qb hb with⟨j,u,rfl,e⟩|⟨y,u,rfl,e⟩
   ·injection e with e1 _;rw[e1]
   exact nomatch e
  rcases qb hb with⟨j,u,rfl,e⟩|⟨y,u,rfl,e⟩
  ·exact nomatch e
  injection e with e1 _;rw[e1]
 byValue:=λk v h=>by
  rcases qb h with⟨i,t,rfl,rfl⟩|⟨x,t,rfl,rfl⟩<;>rfl
 pyHash:=λhv h=>by
  rcases qb hv with⟨i,t,rfl,rfl⟩|⟨x,t,rfl,rfl⟩
  ·exact wpAny_pyHash_int h
  exact wpAny_pyHash_str h
 eqBool:=λhu hv h=>by
  rcases qb hu with⟨i,t,rfl,rfl⟩|⟨x,t,rfl,rfl⟩
  ·rcases qb hv with⟨j,u,rfl,rfl⟩|⟨y,u,rfl,rfl⟩
   ·rw[X4] at h;exact wpAny_eqBool_int h
   rw[YC] at h;exact SeqAt.EqAt.int_str i t y u _ _ _ _ h
  rcases qb hv with⟨j,u,rfl,rfl⟩|⟨y,u,rfl,rfl⟩
  ·rw[Yc] at h;exact SeqAt.EqAt.str_int x t j u _ _ _ _ h
  rw[X_] at h;exact wpAny_eqBool_str h
 «strs»:=λk x t v h=>by
  rcases qb h with⟨i,u,rfl,e⟩|⟨y,u,rfl,e⟩
  ·exact nomatch e
  injection e with e1 _
  subst e1;cases v<;>rfl
theorem em_(prog:Ad)(w:Ag)(i:Int)(t:Tok):(fq prog w).is (.inl i) (.int i t)=true:=fV_ i t
theorem ep_(prog:Ad)(w:Ag)(x:Str)(t:Tok):(fq prog w).is (.inr x) (.str x t)=true:=fU_ x t
end L2
abbrev aC:=List L2.Key
namespace L2
open PySem PySem.Spec PyProof.Rows
inductive V where
 |non|bl (b:Bool)|int (i:Int)|str (x:Str)|byt (b:Array UInt8)|flt (b:UInt64)|ref (a:Addr)|ty (n:String)
 deriving DecidableEq
def RelV:V->Aa->Prop
 |.non,u=>u=Value.none
 |.bl b,u=>u=Value.bool b
 |.int i,u=>∃t,u=Value.int i t
 |.str x,u=>∃t,u=Value.str x t
 |.byt b,u=>∃t,u=Value.bytes b t
 |.flt b,u=>∃t,u=Value.float b t
 |.ref a,u=>u=Value.ref a
 |.ty n,u=>u=Value.type n
abbrev Vals:List V->aj->Prop:=Paired RelV
theorem Vals.length{xs:List V}{us:aj}(r:Vals xs us):xs.length=us.length:=bj r
theorem Vals.get:∀{xs:List V} {us:aj} {i:Nat} {x:V},Vals xs us->xs[i]? = some x->∃u,us[i]? = some u/\RelV x u
 |_,_,_,_,.nil,e=>by simp at e
 |_,_,0,_,.cons r _,e=>by simp at e;subst e;exact#[_,U,r]
 |_,_,i+1,x,.cons _ t,e=>by
  let#[u,h1,h2]:=Vals.get (i:=i) (x:=x) t ⇑e;exact#[u,by simpa using h1,h2]
theorem Vals.set{x:V}{u:Aa}(r:RelV x u):∀{xs:List V} {us:aj} (i:Nat),Vals xs us->Vals (xs.set i x) (us.set i u)
 |_,_,_,.nil=>.nil
 |_,_,0,.cons _ t=>.cons r t
 |_,_,i+1,.cons q t=>.cons q (Vals.set r i t)
theorem Vals.append:∀{xs ys:List V} {us ws:aj},Vals xs us->Vals ys ws->Vals (xs++ys) (us++ws)
 |_,_,_,_,.nil,s=>s
 |_,_,_,_,.cons r t,s=>.cons r (Vals.append t s)
theorem Vals.take:∀{xs:List V} {us:aj} (n:Nat),Vals xs us->Vals (xs.take n) (us.take n)
 |_,_,0,_=>.nil
 |_,_,_+1,.nil=>.nil
 |_,_,n+1,.cons r t=>.cons r (Vals.take n t)
theorem Vals.drop:∀{xs:List V} {us:aj} (n:Nat),Vals xs us->Vals (xs.drop n) (us.drop n)
 |_,_,0,r=>r
 |_,_,_+1,.nil=>.nil
 |_,_,n+1,.cons _ t=>Vals.drop n t
def e_:Option V->Option Aa->Prop
 |some v,some u=>RelV v u
 |none,none=>True
 |_,_=>False
def KV{κ:Type}:List (κ × V)->List (κ × Aa)->Prop:=Paired λ(p:κ × V) (q:κ × Aa)=>p.1=q.1/\RelV p.2 q.2
def kV:Key->V
 |.inl i=>.int i
 |.inr x=>.str x
inductive HO where
  |lst (xs:List V)
  |tup (xs:List V)
  |dK (kvs:List (Key × V))|dT (kvs:List (aC × V))
  |set (S:Int->Bool) (n:Nat)
  |ins (C dx:Addr) (fs:List (Str × V))
  |own (x:Addr)
  |xd (fs:List (Str × V))
  |met (f x:Addr)
  |rng (lo hi:Int)
  |frz (o:Obj) (u:HO)
  |tbl (ps:Array Aa)
  |ext (φ:Heap->Prop)
abbrev Hp:=Addr->Option HO
def upd(H:Hp)(a:Addr)(o:HO):Hp:=λb=>if b=a then some o else H b
variable{H:Hp}{a:Addr}
theorem ay{o:HO}:upd H a o a\o:=by unfold upd;rw[aI U]
variable{b:Addr}
theorem aw{o:HO}(h:b≠a):upd H a o b=H b:=by unfold upd;rw[aA h]
variable{u:HO}
theorem _j{o:HO}:upd (upd H a o) a u=upd H a u:=by
 funext b;unfold upd;split<;>rfl
theorem bK{o:HO}(h:H a\o)(h':H b\u)(d:o≠u):a≠b:=by
 intro e;subst e;rw[h] at h';exact d (cq h')
theorem bq{o:HO}(h:H a\o)(h':H b=none):a≠b:=by
 intro e;subst e;rw[h] at h';cases h'
section
variable(P:Ad)(w:Ag)
def fA(H:Hp)(h:Heap)(a:Addr):HO->Prop
 |.lst xs=>xs.length<=sizeLine/\∃(its:aj) (n:Nat),Vals xs its/\h.get? a=some { cls:=.type "list",data:=.seq its.toArray n }
 |.tup xs=>xs.length<=sizeLine/\∃its:aj,Vals xs its/\IsTup h a its.toArray/\∃o,h.get? a\o/\o.dict=none
 |.dK kvs=>kvs.length<=sizeLine/\(a == sysModules)=false/\∃vs,KV kvs vs/\h.DictOf (fq P w) a vs
 |.dT kvs=>kvs.length<=sizeLine/\(a == sysModules)=false/\∃xs:List (aC × Addr × Aa),
   Paired (λ(p:aC × V) (q:aC × Addr × Aa)=>p.1=q.1/\H q.2.1\.tup (p.1.map kV)/\RelV p.2 q.2.2) kvs xs /\
   ∃o es ep,h.get? a\o/\o.ExactDict/\o.data=.dict es ep/\es.toList=xs.map (entryOfKey (tupleKind (fq P w)))/\(xs.map (·.1)).Nodup
 |.set S n=>h.SetOf (intKind P w) a S n
 |.ins C dx fs=>H dx\.own a/\fs.length<=1000/\dx≠a/\h.get? a\PySem.W.instObj C dx /\
   ∃mA,h.Ns1 dx mA/\(∀f,e_ (fs.lookup f) (mA f))/\PySem.Within mA (fs.map (·.1))
 |.own _=>∃o,h.get? a\o
 |.xd fs=>∃mA,h.Ns1 a mA/\∀f,e_ (fs.lookup f) (mA f)
 |.rng lo hi=>∃t u v,h.get? a=some { cls:=.type "range",data:=.fields (List.toArray [.int lo t,.int hi u,.int 1 v]) }
 |.frz o u=>h.get? a\o/\fA H h a u
 |.tbl ps=>h.get? a=some { cls:=.none,data:=.fields ps }
 |.met f x=>h.get? a\PySem.W.methodObj (.ref f) (.ref x)
 |.ext φ=>φ h/\(∃o,h.get? a\o)/\∀h1 h2:Heap,φ h1->(∀o,h1.get? a\o->h2.get? a\o)->φ h2
def fR(H:Hp)(h:Heap):Prop:=∀a o,H a\o->fA P w H h a o
end
section
variable{P:Ad}{w:Ag}{H H':Hp}{h h':Heap}{a:Addr}{o:HO}
theorem fA.lt(x:fA P w H h a o):a<h.objs.size:=by
 cases o with
 |lst xs=>let#[_,_,_,_,e]:=x;exact bp e
 |tup xs=>let#[_,_,_,p,_]:=x;exact p.lt
 |dK kvs=>let#[_,_,_,_,o,_,_,e,_]:=x;exact bp e
 |dT kvs=>let#[_,_,_,_,o,_,_,e,_]:=x;exact bp e
 |set S n=>let#[o,_,_,_,e,_]:=x;exact bp e
 |ins C dx fs=>let#[_,_,_,e,_]:=x;exact bp e
 |own y=>let#[_,e]:=x;exact bp e
 |xd fs=>let#[_,#[_,_,_,e,_],_]:=x;exact bp e
 |rng lo hi=>let#[_,_,_,e]:=x;exact bp e
 |frz ob u=>let#[e,_]:=x;exact bp e
 |tbl ps=>exact bp (show h.get? a\_ from x)
 |met f y=>exact bp (show h.get? a\_ from x)
 |ext φ=>let#[_,#[_,e],_]:=x;exact bp e
theorem Paired.aU{α β:Type}{F G:α->β->Prop}:∀{Du:List α} {Dt:List β},Paired F Du Dt->(∀a b,F a b->G a b)->Paired G Du Dt
 |_,_,.nil,_=>.nil
 |_,_,.cons r t,f=>.cons (f _ _ r) (Paired.aU t f)
theorem fA.eR(x:fA P w H h a o)(k:∀b u,(b=a∨H b\.own a)->h.get? b\u->h'.get? b\u)
  (ho:∀b,H b\.own a->H' b\.own a) (ht:∀b xs,H b\.tup xs->H' b\.tup xs):fA P w H' h' a o:=by
 induction o with
 |lst xs=>let#[z,its,n,r,e]:=x;exact#[z,its,n,r,k _ _ (.inl U) e]
 |tup xs=>let#[z,its,r,#[ob,e,c],o2,e2,c2]:=x;exact#[z,its,r,#[ob,k _ _ (.inl U) e,c],o2,k _ _ (.inl U) e2,c2]
 |dK kvs=>let#[z,y,vs,r,ob,es,ep,e,c]:=x;exact#[z,y,vs,r,ob,es,ep,k _ _ (.inl U) e,c]
 |dT kvs=>
  let#[z,y,xs,r,ob,es,ep,e,c]:=x;exact#[z,y,xs,Paired.aU r λp q z=>#[z.1,ht _ _ z.2.1,z.2.2],ob,es,ep,k _ _ (.inl U) e,c]
 |set S n=>let#[ob,es,ep,t,e,c]:=x;exact#[ob,es,ep,t,k _ _ (.inl U) e,c]
 |ins C dx fs=>
  let#[d,z,ne,e,mA,#[od,es,ep,e2,c],r]:=x;exact#[ho _ d,z,ne,k _ _ (.inl U) e,mA,#[od,es,ep,k _ _ (.inr d) e2,c],r]
 |own y=>let#[ob,e]:=x;exact#[ob,k _ _ (.inl U) e]
 |xd fs=>let#[mA,#[od,es,ep,e,c],r]:=x;exact#[mA,#[od,es,ep,k _ _ (.inl U) e,c],r]
 |rng lo hi=>let#[t,u,v,e]:=x;exact#[t,u,v,k _ _ (.inl U) e]
 |frz ob u ih=>let#[e,q]:=x;exact#[k _ _ (.inl U) e,ih q]
 |tbl ps=>
  have e:h.get? a=some { cls:=.none,data:=.fields ps }:=x;show h'.get? a=some { cls:=.none,data:=.fields ps };exact k a _ (.inl U) e
 |met f y=>
  have e:h.get? a\PySem.W.methodObj (.ref f) (.ref y):=x;show h'.get? a\PySem.W.methodObj (.ref f) (.ref y);exact k a _ (.inl U) e
 |ext φ=>let#[p,#[o,e],st]:=x;exact#[st _ _ p λo q=>k _ _ (.inl U) q,#[o,k _ _ (.inl U) e],st]
theorem fR.lt(x:fR P w H h)(e:H a\o):a<h.objs.size:=(x a o e).lt
theorem fR.fresh(x:fR P w H h)(e:h.objs.size<=a):H a=none:=by
 cases q:H a with
 |none=>rfl
 |some u=>exact absurd (i6 (x.lt q) e) (tM _)
theorem fR.kept(x:fR P w H h)(k:∀b u,h.get? b\u->h'.get? b\u):fR P w H h':=λa o e=>
 (x a o e).eR (λb u _ q=>k b u q) (λ_ q=>q) λ_ _ q=>q
theorem fR.laid(x:fR P w H h)(k:∀b u,h.get? b\u->h'.get? b\u)(hp:h.objs.size<=a)(new:fA P w (upd H a o) h' a o):fR P w (upd H a o) h':=λb u e=>by
 let hn:=x.fresh hp;by_cases hb:b=a
 ·subst hb;rw[ay] at e;cases e;exact new
 rw[aw hb] at e;exact (x b u e).eR (λc v _ q=>k c v q) (λc q=>by rw[aw (bq q hn)];exact q) λc xs q=>by rw[aw (bq q hn)];exact q
end
def Rd(H:Hp)(a:Addr)(u:HO):Prop:=H a=some u∨∃o,H a\.frz o u
theorem Rd.of(h:H a\u):Rd H a u:=.inl h
variable{P:Ad}{w:Ag}{h:Heap}
theorem Rd.ok(r:Rd H a u)(x:fR P w H h):fA P w H h a u:=by
 rcases r with r|⟨o,r⟩
 ·exact x a u r
 let#[_,q]:=x a _ r;exact q
def FS:Option HO->Prop
 |some (.lst _)=>True
 |some (.dK _)=>True
 |some (.dT _)=>True
 |some (.set _ _)=>True
 |some (.ins _ _ _)=>True
 |some (.ext _)=>True
 |_=>False
variable{h':Heap}{e x:Addr}{o':HO}
theorem fR.write(ok:fR P w H h)(mu:FS (H x))(he:e=x∨H e\.own x)(k:∀b u,b≠e->h.get? b\u->h'.get? b\u)(Bd:∃u,h'.get? e\u)
  (new:fA P w (upd H x o') h' x o'):fR P w (upd H x o') h':=λb u q=>by
 have De:∀c y,H c\.own y->c≠x:=λc y r z=>by subst z;rw[r] at mu;exact mu
 have Kh:∀c xs,H c\.tup xs->c≠x:=λc xs r z=>by subst z;rw[r] at mu;exact mu
 by_cases hb:b=x
 ·subst hb;rw[ay] at q;cases q;exact new
 rw[aw hb] at q;by_cases zJ:b=e
 ·have q':H b\.own x:=by
   rcases he with z|z
   ·exact absurd (zJ.trans z) hb
   rw[zJ];exact z
  rw[q] at q';cases q';let#[v,hv]:=Bd;exact#[v,by rw[zJ];exact hv]
 apply (ok b u q).eR (λc v hc r=>k c v ?_ r) (λc r=>by rw[aw (De c b r)];exact r) λc xs r=>by rw[aw (Kh c xs r)];exact r
 rcases hc with rfl|hc
 ·exact zJ
 rintro rfl;rcases he with z|z
 ·exact De c b hc z
 rw[hc] at z;cases z;exact hb U
structure Un (fs ex:aq) (H H':Hp) (h h':Heap):Prop where
 keep:∀b o,h.get? b\o->H b=none->b∉fs->b∉ex->h'.get? b\o
 slot:∀b o,h.get? b\o->H b=none->b∈fs->b∉ex->∃sl,h'.get? b=some { o with slots:=sl }
 free:∀b o,h.get? b\o->H b=none->b∉ex->H' b=none
 there:∀b o,h.get? b\o->b∉ex->∃o',h'.get? b\o'
 gS:∀b xs,H b\.tup xs->H' b\.tup xs
 g9:∀b o u,H b\.frz o u->H' b\.frz o u
 ie:∀b ps,H b\.tbl ps->∃more,H' b\.tbl (ps++more)
variable{ex fs:aq}{H1:Hp}{h1:Heap}
theorem Un.any(u:Un fs ex H H1 h h1){ob:Obj}(q:h.get? b\ob)(n:H b=none)(hx:b∉ex):∃sl,h1.get? b=some { ob with slots:=sl }:=by
 by_cases hb:b∈fs
 ·exact u.slot b ob q n hb hx
 exact#[ob.slots,u.keep b ob q n hb hx]
theorem Un.kept(k:∀b u,h.get? b\u->h'.get? b\u):Un fs ex H H h h':=
 #[λb ob q _ _ _=>k b ob q,λb ob q _ _ _=>#[ob.slots,k b ob q],λ_ _ _ n _=>n,λb ob q _=>#[ob,k b ob q],λ_ _ q=>q,λ_ _ _ q=>q,λ_ ps q=>#[#[],by rw[q];simp]]
theorem Un.refl:Un fs ex H H h h:=Un.kept λ_ _ q=>q
variable{o:HO}
theorem Un.laid(k:∀b u,h.get? b\u->h'.get? b\u)(hp:h.objs.size<=a)(hn:H a=none):Un fs ex H (upd H a o) h h' where
 keep:=λb u q _ _ _=>k b u q
 slot:=λb u q _ _ _=>#[u.slots,k b u q]
 free:=λb u q n _=>by rw[aw (dA (i6 (bp q) hp))];exact n
 there:=λb u q _=>#[u,k b u q]
 gS:=λb xs q=>by rw[aw (bq q hn)];exact q
 g9:=λb u xs q=>by rw[aw (bq q hn)];exact q
 ie:=λb ps q=>#[#[],by rw[aw (bq q hn),q];simp]
theorem Un.write(mu:FS (H x))(he:e=x∨H e\.own x)(k:∀b u,b≠e->h.get? b\u->h'.get? b\u)(Bd:∃u,h'.get? e\u):Un fs ex H (upd H x o) h h':=by
 have hx:∀b,H b=none->b≠x:=λb n z=>by subst z;rw[n] at mu;exact mu
 have hb:∀b,H b=none->b≠e:=λb n z=>by
  subst z;rcases he with r|r
  ·exact hx b n r
  rw[n] at r;cases r
 have hm:∀b u,H b\u->¬FS (some u)->b≠x:=λb u q nm z=>by subst z;rw[q] at mu;exact nm mu
 apply#[λb u q n _ _=>k b u (hb b n) q,λb u q n _ _=>#[u.slots,k b u (hb b n) q],λb u q n _=>by rw[aw (hx b n)];exact n,λb u q _=>?_,
  λb xs q=>by rw[aw (hm b _ q λz=>z)];exact q,λb u xs q=>by rw[aw (hm b _ q λz=>z)];exact q,λb ps q=>#[#[],by rw[aw (hm b _ q λz=>z),q];simp]]
 by_cases zJ:b=e
 ·subst zJ;exact Bd
 exact#[u,k b u zJ q]
def F3(h:Heap)(H:Hp):aq:=(List.range h.objs.size).filter λa=>(H a).isSome
def ik(h:Heap)(H:Hp):Heap:=PySem.W.hideAll h (F3 h H)
theorem hq_(h:Heap)(H:Hp):(ik h H).objs.size=h.objs.size:=PySem.W.hideAll_size _ _
variable{o:Obj}
theorem hT_(e:h.get? b\o)(n:H b=none):(ik h H).get? b\o:=
 PySem.W.hideAll_get _ e λhm=>by
  have q:(H b).isSome=true:=(mF.mp hm).2;rw[n] at q;simp at q
theorem Y3(e:(ik h H).get? b\o):h.get? b\o/\H b=none:=by
 have e':h.get? b\o:=PySem.W.of_hideAll (F3 h H) e;apply#[e',?_];cases q:H b with
 |none=>rfl
 |some x=>
  have hm:b∈F3 h H:=mF.mpr #[List.mem_range.mpr (bp e'),by simp[q]];have z:(ik h H).get? b=none:=PySem.W.hideAll_none (F3 h H) hm;rw[z] at e;cases e
end L2
abbrev ag:=List L2.V
abbrev aJ:=Option L2.V
namespace L2
open PySem PySem.Spec PyProof.Rows
structure Mod (K:ai) (mg:Str->Option Aa) (base:Heap):Prop where
 DM:K.In base
 glob:base.Ns mainGlobals mg
 blt:∃mb,base.Ns builtinsNs mb/\∀x:Str,x≠"__name__"->mb x=bootBuiltins x
 nolimit:base.NoLimit
structure Cx where
 prog:Ad
 w:Ag
 K:ai
 mg:Str->Option Aa
 base:Heap
 A:Af
 N:af
 c_:Ab
 jV:Hp
 env:Env
 outer:List Env
 stack:List Env
 ex:aq
 fn:Str->Bool
 calm:Bool
 pn:List (Addr × Obj)
 xe:Aa->Ab->Prop
def o4(l:List Env):aq:=l.filterMap (·.frame)
abbrev Cx.fs(X:Cx):aq:=o4 X.outer
def OU(sc:Scope)(x:Str):Prop:=sc.names.lookup x=some .local∨sc.names.lookup x\.cell∨sc.names.lookup x\.free
def Loc(sc:Scope)(x:Str):Prop:=sc.names.lookup x=some .local∨sc.names.lookup x\.cell
def Look(env:Env)(h:Heap)(m:Str->Option Aa)(x:Str)(u:Aa):Prop:=
 (env.kindOf x\.local/\m x\u)∨((env.kindOf x\.cell∨env.kindOf x\.free)/\∃c,env.cells.lookup x\c/\h.IsCell c (some u))
structure Cx.Ok (X:Cx):Prop where
 mod:Mod X.K X.mg X.base
 kind:X.env.scope.kind=.function
 glob:X.env.globals=mainGlobals
 blt:X.env.builtins=builtinsNs
 above:X.c_.heap.objs.size<=X.env.locals
 inj:∀x y c,X.env.cells.lookup x\c->X.env.cells.lookup y\c->x=y
 has:∀x,(X.env.kindOf x\.cell∨X.env.kindOf x\.free)->∃c,X.env.cells.lookup x\c
 BB:∀x c,X.fn x=true->X.env.cells.lookup x\c->X.c_.heap.objs.size<=c
 hd:X.calm=true->X.A.handled=none
 frames:X.A.frames\X.stack
 F8:X.stack=X.outer∨(X.stack=X.env::X.outer/\X.env.frame\X.env.locals)
 G_:∀b∈X.ex,b≠X.env.locals/\∀x c,X.env.cells.lookup x\c->c≠b
 bs:∀b o,X.base.get? b\o->X.c_.heap.get? b\o/\X.jV b=none
 tE:X.base.objs.size<=X.c_.heap.objs.size
 rR:∀b o,X.base.get? b\o->b∉X.ex
 sO:∀b∈X.ex,b∉X.fs
 fZ:X.c_.heap.FunFrames X.base X.outer
 vO:∀b∈X.fs,X.jV b=none
structure Inv (X:Cx) (pins:List (Addr × Obj)) (σ:List aJ) (H:Hp) (s:Ab):Prop where
 ok:X.Ok
 os:s.os=X.c_.os
 bare:AllBare s.gens
 base:Un X.fs X.ex X.jV H X.c_.heap s.heap
 loc:∃m,s.heap.Ns X.env.locals m/\∀(i:Nat) (x:Str) (v:V),X.N[i]? = some x->σ[i]? = some (some v)->OU X.env.scope x->∃u,RelV v u/\Look X.env s.heap m x u
 cell:∀x c,X.env.cells.lookup x\c->∃v,s.heap.IsCell c v
 free:H X.env.locals=none
 ee:∀x c,X.env.cells.lookup x\c->H c=none
 pin:∀p∈X.pn++pins,s.heap.get? p.1\p.2/\H p.1=none/\p.1≠X.env.locals/\p.1∉X.fs/\∀v,p.2.data≠.cell v
 ax:fR X.prog X.w H s.heap
 len:σ.length=X.N.length
variable{X:Cx}
theorem Cx.Ok.Kj(ok:X.Ok){b:Addr}{o:Obj}(e:X.base.get? b\o):b∉X.fs:=λhb=>by
 have:=(ok.fZ.mem hb).1;rw[e] at this;cases this
variable{pins:List (Addr × Obj)}{σ:List aJ}{H:Hp}{s:Ab}
theorem Inv.bs(I:Inv X pins σ H s):∀b o,X.base.get? b\o->s.heap.get? b\o/\H b=none:=λb o e=>
 #[I.base.keep b o (I.ok.bs b o e).1 (I.ok.bs b o e).2 (I.ok.Kj e) (I.ok.rR b o e),I.base.free b o (I.ok.bs b o e).1 (I.ok.bs b o e).2 (I.ok.rR b o e)]
theorem Inv.bk(I:Inv X pins σ H s):∀b o,X.base.get? b\o->s.heap.get? b\o:=λb o e=>(I.bs b o e).1
theorem Inv.mod(I:Inv X pins σ H s):Mod X.K X.mg X.base:=I.ok.mod
theorem Inv.gL(I:Inv X pins σ H s):X.K.In s.heap:=I.ok.mod.DM.keeps I.bk
theorem Inv.lt(I:Inv X pins σ H s):X.env.locals<s.heap.objs.size:=let #[_,hn,_]:=I.loc;hn.lt
theorem Inv.sz(I:Inv X pins σ H s):X.c_.heap.objs.size<=s.heap.objs.size:=gj I.ok.above (Nat.le_of_lt I.lt)
variable{a:Addr}
theorem Inv.Ki(I:Inv X pins σ H s)(h:s.heap.objs.size<=a):a∉X.fs:=λhb=>by
 let#[_,o,ho,_]:=I.ok.fZ.mem hb;exact absurd (i6 (bp ho) (gj I.sz h)) (tM _)
theorem Inv.uo(I:Inv X pins σ H s):∀x c,X.env.cells.lookup x\c->c≠X.env.locals:=λx c e z=>by
 let#[v,o,ho,hd]:=I.cell x c e;let#[m,#[o',es,ep,nU,iU,_],_]:=I.loc;rw[z,nU] at ho;cases ho;rw[iU] at hd;cases hd
theorem Inv.fZ(I:Inv X pins σ H s):s.heap.FunFrames X.base X.outer:=by
 have all:∀(l:List Env),(∀b∈o4 l,b∈X.fs)->X.c_.heap.FunFrames X.base l->s.heap.FunFrames X.base l:=by
  intro l
  induction l with
  |nil=>intro _ _;trivial
  |cons env r ih=>
   intro hs hl;let#[hk,#[L,o,hf,hn,ho,hd],hr]:=hl;have hL:L∈X.fs:=hs L (by unfold o4;rw[List.filterMap_cons,hf];exact gz);let#[sl,e]:=I.base.slot L o ho (I.ok.vO L hL) hL λz=>I.ok.sO L z hL;exact#[hk,#[L,_,hf,hn,e,hd],ih (λb hb=>hs b (by unfold o4;rw[List.filterMap_cons,hf];exact fM _ hb)) hr]
 exact all X.outer (λ_ hb=>hb) I.ok.fZ
theorem Inv.stack(I:Inv X pins σ H s):s.heap.FunFrames X.base X.stack:=by
 rcases I.ok.F8 with e|⟨e,hf⟩
 ·rw[e];exact I.fZ
 rw[e];let#[m,hn,_]:=I.loc;apply .cons (by rw[I.ok.kind];decide) hf hn ?_ I.fZ;exact Heap.get?_none_of_le (gj I.ok.tE I.ok.above)
theorem Inv.kG(I:Inv X pins σ H s):∀b∈o4 X.stack,b∈X.env.locals::X.fs:=λb hb=>by
 rcases I.ok.F8 with e|⟨e,hf⟩
 ·rw[e] at hb;exact fM _ hb
 rw[e] at hb;unfold o4 at hb;rw[List.filterMap_cons,hf] at hb;exact hb
theorem Inv.mY(I:Inv X pins σ H s):∀b∈o4 X.stack,H b=none:=λb hb=>by
 rcases bW.mp (I.kG b hb) with e|hb
 ·rw[e];exact I.free
 let#[_,o,ho,_]:=I.ok.fZ.mem hb;exact I.base.free b o ho (I.ok.vO b hb) λz=>I.ok.sO b z hb
variable{g':Array GenState}{t':Nat}{d':Drawn}{ch:aq}{H':Hp}{h':Heap}
theorem Inv.step(I:Inv X pins σ H s)(ug:∀b∈ch,(b∈X.ex∨X.c_.heap.objs.size<=b)/\b≠X.env.locals/\(∀x c,X.env.cells.lookup x\c->c≠b)/\∀p∈X.pn++pins,p.1≠b)(keep:∀b o,b≠X.env.locals->b∉X.fs->b∉ch->s.heap.get? b\o->H b=none->h'.get? b\o)(slot:∀b o,b≠X.env.locals->b∈X.fs->b∉ch->s.heap.get? b\o->H b=none->∃sl,h'.get? b=some { o with slots:=sl })(free:∀b o,b∉ch->s.heap.get? b\o->H b=none->H' b=none)(there:∀b o,b∉ch->s.heap.get? b\o->∃o',h'.get? b\o')(gS:∀b xs,H b\.tup xs->H' b\.tup xs)(g9:∀b o u,H b\.frz o u->H' b\.frz o u)(ie:∀b ps,H b\.tbl ps->∃more,H' b\.tbl (ps++more))(ns:∀m,s.heap.Ns X.env.locals m->h'.Ns X.env.locals m)(ax:fR X.prog X.w H' h')(hg:AllBare g') :
  Inv X pins σ H' { s with heap:=h',gens:=g',drawn:=d',toks:=t' }:=by
 have P_:∀b o,X.c_.heap.get? b\o->b≠X.env.locals:=λb o e=>dA (i6 (bp e) I.ok.above)
 have Gp:∀b o,X.c_.heap.get? b\o->b∉X.ex->b∉ch:=λb o e hx hb=>by
  rcases (ug b hb).1 with z|z
  ·exact hx z
  exact absurd (i6 (bp e) z) (tM _)
 have cellK:∀x c,X.env.cells.lookup x\c->∀v,s.heap.IsCell c v->h'.IsCell c v:=λx c e v ⟨o,ho,hd⟩=>by
  have Dg:c∉ch:=λz=>(ug c z).2.2.1 x c e U;by_cases hc:c∈X.fs
  ·let#[sl,q]:=slot c o (I.uo x c e) hc Dg ho (I.ee x c e);exact#[_,q,hd]
  exact#[o,keep c o (I.uo x c e) hc Dg ho (I.ee x c e),hd]
 apply#[I.ok,I.os,hg,#[λb o e n hb hx=>?_,λb o e n hb hx=>?_,λb o e n hx=>?_,λb o e hx=>?_,λb xs e=>gS b xs (I.base.gS b xs e),λb o xs e=>g9 b o xs (I.base.g9 b o xs e),λb ps e=>?_],?_,λx c e=>?_,?_,λx c e=>?_,λp hp=>?_,ax,I.len]
 ·exact keep b o (P_ b o e) hb (Gp b o e hx) (I.base.keep b o e n hb hx) (I.base.free b o e n hx)
 ·let#[sl,e1]:=I.base.slot b o e n hb hx;let#[Wc,e2]:=slot b _ (P_ b o e) hb (Gp b o e hx) e1 (I.base.free b o e n hx);exact#[Wc,e2]
 ·let#[o',e1]:=I.base.there b o e hx;exact free b o' (Gp b o e hx) e1 (I.base.free b o e n hx)
 ·let#[o',e1]:=I.base.there b o e hx;exact there b o' (Gp b o e hx) e1
 ·let#[m1,e1]:=I.base.ie b ps e;let#[m2,e2]:=ie b _ e1;exact#[m1++m2,by rw[e2,Array.append_assoc]]
 ·let#[m,hn,hl]:=I.loc;apply#[m,ns m hn,λi x v e1 e2 e3=>?_];let#[u,r,l]:=hl i x v e1 e2 e3;apply#[u,r,?_];rcases l with l|⟨k,c,e,z⟩
  ·exact .inl l
  exact .inr #[k,c,e,cellK x c e _ z]
 ·let#[v,z]:=I.cell x c e;exact#[v,cellK x c e v z]
 ·let#[m,#[o,_,_,ho,_],_]:=I.loc;exact free _ o (λz=>(ug _ z).2.1 U) ho I.free
 ·let#[v,o,ho,hd]:=I.cell x c e;exact free c o (λz=>(ug c z).2.2.1 x c e U) ho (I.ee x c e)
 let#[e,n,ne,nf,d]:=I.pin p hp;have Dg:p.1∉ch:=λz=>(ug p.1 z).2.2.2 p hp U;exact#[keep p.1 p.2 ne nf Dg e n,free p.1 p.2 Dg e n,ne,nf,d]
theorem Inv.un(I:Inv X pins σ H s)(u:Un X.fs [] H H' s.heap h')(ax:fR X.prog X.w H' h'):Inv X pins σ H' { s with heap:=h',toks:=t' }:=by
 let#[m,#[o,es,ep,ho,r],_]:=id I.loc;let#[sl,hL]:=u.any ho I.free Z2
 exact I.step (g':=s.gens) (d':=s.drawn) (ch:=[]) (λ_ z=>nomatch z) (λb o _ hb _ e n=>u.keep b o e n hb Z2) (λb o _ hb _ e n=>u.slot b o e n hb Z2) (λb o _ e n=>u.free b o e n Z2) (λb o _ e=>u.there b o e Z2) u.gS u.g9 u.ie (λm' hm=>by
  let#[o',Hc,Hd,nU,r']:=hm;rw[ho] at nU;cases nU;exact#[_,Hc,Hd,hL,r']) ax I.bare
theorem Inv.call(I:Inv X pins σ H s)(u:Un (o4 X.stack) ch H H' s.heap h')(ax:fR X.prog X.w H' h')(hg:AllBare g')(ug:∀b∈ch,(b∈X.ex∨X.c_.heap.objs.size<=b)/\b≠X.env.locals/\(∀x c,X.env.cells.lookup x\c->c≠b)/\∀p∈X.pn++pins,p.1≠b) :
  Inv X pins σ H' { s with heap:=h',gens:=g',drawn:=d',toks:=t' }:=by
 let#[m,#[o,es,ep,ho,r],_]:=id I.loc;let#[sl,hL]:=u.any ho I.free λz=>(ug _ z).2.1 U
 exact I.step (ch:=ch) ug (λb o hL hb hc e n=>u.keep b o e n (λz=>(bW.mp (I.kG b z)).elim hL hb) hc) (λb o _ _ hc e n=>u.any e n hc) (λb o hc e n=>u.free b o e n hc) (λb o hc e=>u.there b o e hc) u.gS u.g9 u.ie (λm' hm=>by
  let#[o',Hc,Hd,nU,r']:=hm;rw[ho] at nU;cases nU;exact#[_,Hc,Hd,hL,r']) ax hg
theorem Inv.turned{it:Addr}(I:Inv X pins σ H s)(k:∀b o,b≠it->s.heap.get? b\o->h'.get? b\o)(hn:H it=none)(hL:it≠X.env.locals)(h1:it∈X.ex∨X.c_.heap.objs.size<=it)(h2:∀x c,X.env.cells.lookup x\c->c≠it)(h3:∀p∈X.pn++pins,p.1≠it):Inv X pins σ H { s with heap:=h',toks:=t' }:=by
 have P9:∀b u,H b\u->b≠it:=λb u e z=>by rw[z,hn] at e;cases e
 apply I.step (g':=s.gens) (d':=s.drawn) (ch:=[it]) (λb hb=>?_) (λb o _ _ hc e _=>k b o (λz=>hc (by simp[z])) e) (λb o _ _ hc e _=>#[o.slots,k b o (λz=>hc (by simp[z])) e]) (λ_ _ _ _ n=>n)
  (λb o hc e=>#[o,k b o (λz=>hc (by simp[z])) e]) (λ_ _ e=>e) (λ_ _ _ e=>e) (λb ps e=>#[#[],by rw[e];simp]) (λm hm=>?_) (λb u e=>?_) I.bare
 ·have e:b=it:=⇑hb
  subst e;exact#[h1,hL,h2,h3]
 ·let#[o,es,ep,ho,r]:=hm;exact#[o,es,ep,k _ o (bG hL) ho,r]
 apply (I.ax b u e).eR (λc v hc q=>k c v ?_ q) (λ_ q=>q) λ_ _ q=>q;rcases hc with z|z
 ·rw[z];exact P9 b u e
 exact P9 c _ z
theorem Inv.tok(I:Inv X pins σ H s)(t:Nat):Inv X pins σ H { s with toks:=t }:=I.un (h':=s.heap) (t':=t) Un.refl I.ax
theorem Inv.kept(I:Inv X pins σ H s)(k:∀b u,s.heap.get? b\u->h'.get? b\u):Inv X pins σ H { s with heap:=h',toks:=t' }:=I.un (Un.kept k) (I.ax.kept k)
variable{o:HO}
theorem Inv.laid(I:Inv X pins σ H s)(k:∀b u,s.heap.get? b\u->h'.get? b\u)(hp:s.heap.objs.size<=a)(new:fA X.prog X.w (upd H a o) h' a o) :
  Inv X pins σ (upd H a o) { s with heap:=h',toks:=t' }:=I.un (Un.laid k hp (I.ax.fresh hp)) (I.ax.laid k hp new)
theorem Inv.write{x e:Addr}(I:Inv X pins σ H s)(mu:FS (H x))(he:e=x∨H e\.own x)(k:∀b u,b≠e->s.heap.get? b\u->h'.get? b\u)(Bd:∃u,h'.get? e\u)(new:fA X.prog X.w (upd H x o) h' x o):Inv X pins σ (upd H x o) { s with heap:=h',toks:=t' }:=I.un (Un.write mu he k Bd) (I.ax.write mu he k Bd new)
theorem Inv.nE{xk:List (Addr × Obj)}(I:Inv X pins σ H s)(h:∀p∈xk,s.heap.get? p.1\p.2/\H p.1=none/\p.1≠X.env.locals/\p.1∉X.fs/\∀v,p.2.data≠.cell v):Inv X xk σ H s:=
 #[I.ok,I.os,I.bare,I.base,I.loc,I.cell,I.free,I.ee,λp hp=>(dN.mp hp).elim (λz=>I.pin p (List.mem_append_left _ z)) (h p),I.ax,I.len]
variable{x:Str}{i:Nat}
theorem SM{N:af}(hN:N.Nodup){j:Nat}(a:N[i]? = some x)(b:N[j]? = some x):i=j:=by
 let#[h1,e1]:=bZ.mp a;let#[h2,e2]:=bZ.mp b;exact (List.getElem_inj hN).mp (e1.trans e2.symm)
variable{M:Model}{A:Af}{E:Aa->Ab->Prop}{v:V}{u:Aa}{Q:Unit->Ab->Prop}
theorem T1(I:Inv X pins σ H s)(hN:X.N.Nodup)(hi:X.N[i]? = some x)(hx:Loc X.env.scope x)(r:RelV v u)(h:∀s',Inv X pins (σ.set i (some v)) H s'->(∃a,Heap.SameBut a s.heap s'.heap/\(a=X.env.locals∨X.env.cells.lookup x\a))->Q () s')(hf:X.fn x=true∨X.env.scope.names.lookup x\.local:=by first|exact .inl U|exact .inr U|assumption):wpAny M A (storeName X.env x u) Q E s:=by
 let#[m,hn,hl]:=id I.loc;have LF:(X.env.scope.kind == .class || (X.env.scope.kind == .module&&X.env.locals != X.env.globals))=false:=by rw[I.ok.kind];rfl
 have Er:i<σ.length:=by rw[I.len];exact (bZ.mp hi).1
 let uo:=I.uo
 have tracked:∀{a:Addr} {h':Heap},(∃o,s.heap.get? a\o/\H a=none)->Heap.SameBut a s.heap h'->fR X.prog X.w H h':=λ{a h'} ha hs b ob e=>by
  let#[_,_,xE]:=ha;apply (I.ax b ob e).eR (λc w' hc q=>(hs.2 c ?_).trans q) (λ_ q=>q) λ_ _ q=>q;rintro rfl;rcases hc with rfl|hc
  ·rw[xE] at e;cases e
  rw[xE] at hc;cases hc
 rcases hx with hk|hk
 ·apply wpAny_storeName_local hk hn (λh' Ee hs=>?_) LF;let#[oL,_,_,GO,_]:=id hn;apply h _ #[I.ok,I.os,I.bare,#[λb o e n hb hx=>?_,λb o e n hb hx=>?_,I.base.free,λb o e hx=>?_,I.base.gS,I.base.g9,I.base.ie],#[_,Ee,λj y v' e1 e2 e3=>?_],λy c e=>?_,I.free,I.ee,λp hp=>?_,tracked #[oL,GO,I.free] hs,by simpa using I.len] #[_,hs,.inl U]
  ·exact (hs.2 b (dA (i6 (bp e) I.ok.above))).trans (I.base.keep b o e n hb hx)
  ·let#[sl,e1]:=I.base.slot b o e n hb hx;exact#[sl,(hs.2 b (dA (i6 (bp e) I.ok.above))).trans e1]
  ·let#[o',e1]:=I.base.there b o e hx;exact#[o',(hs.2 b (dA (i6 (bp e) I.ok.above))).trans e1]
  ·by_cases hj:j=i
   ·subst hj;rw[hi] at e1;cases e1;rw[List.getElem?_set_self Er] at e2;cases e2;exact#[u,r,.inl #[hk,by simp]]
   rw[List.getElem?_set_ne (bG hj)] at e2;let#[u',r',q]:=hl j y v' e1 e2 e3;apply#[u',r',?_];rcases q with⟨k,e⟩|⟨k,c,e,z⟩
   ·apply .inl #[k,?_];have:y≠x:=λe=>hj (SM hN e1 (e▸hi));simp[this,e]
   exact .inr #[k,c,e,z.sameBut hs (uo y c e)]
  ·let#[w',z]:=I.cell y c e;exact#[w',z.sameBut hs (uo y c e)]
  let#[e,n,ne,nf,d]:=I.pin p hp;exact#[(hs.2 p.1 ne).trans e,n,ne,nf,d]
 have Ls:X.fn x=true:=by
  rcases hf with z|z
  ·exact z
  rw[z] at hk;cases hk
 let#[c,hc]:=I.ok.has x (.inl hk);let#[w',z]:=I.cell x c hc;apply wpAny_storeName_cell I.ok.kind hk hc z (λh' GV hs=>?_);let#[oc,Ed,Lc]:=id z;apply h { s with heap:=h' } #[I.ok,I.os,I.bare,#[λb o e n hb hx=>?_,λb o e n hb hx=>?_,I.base.free,λb o e hx=>?_,I.base.gS,I.base.g9,I.base.ie],#[m,hn.sameBut hs (bG (uo x c hc)),λj y v' e1 e2 e3=>?_],λy c' e=>?_,I.free,I.ee,λp hp=>?_,tracked #[oc,Ed,I.ee x c hc] hs,by simpa using I.len] #[c,hs,.inr hc]
 ·exact (hs.2 b (dA (i6 (bp e) (I.ok.BB x c Ls hc)))).trans (I.base.keep b o e n hb hx)
 ·let#[sl,e1]:=I.base.slot b o e n hb hx;exact#[sl,(hs.2 b (dA (i6 (bp e) (I.ok.BB x c Ls hc)))).trans e1]
 ·let#[o',e1]:=I.base.there b o e hx;exact#[o',(hs.2 b (dA (i6 (bp e) (I.ok.BB x c Ls hc)))).trans e1]
 ·by_cases hj:j=i
  ·subst hj;rw[hi] at e1;cases e1;rw[List.getElem?_set_self Er] at e2;cases e2;exact#[u,r,.inr #[.inl hk,c,hc,GV]]
  rw[List.getElem?_set_ne (bG hj)] at e2;let#[u',r',q]:=hl j y v' e1 e2 e3;apply#[u',r',?_];rcases q with q|⟨k,c',e,z'⟩
  ·exact .inl q
  apply .inr #[k,c',e,z'.sameBut hs ?_];rintro rfl;exact hj (SM hN e1 (I.ok.inj _ _ _ e hc▸hi))
 ·by_cases RD:c'=c
  ·subst RD;exact#[_,GV]
  let#[w2,z2]:=I.cell y c' e;exact#[w2,z2.sameBut hs RD]
 let#[e,n,ne,nf,d]:=I.pin p hp;apply#[(hs.2 p.1 ?_).trans e,n,ne,nf,d];intro q;rw[q,Ed] at e;have q':oc=p.2:=cq e;exact d w' (by rw[<- q'];exact Lc)
theorem SI(I:Inv X pins σ H s)(hN:X.N.Nodup)(hi:X.N[i]? = some x)(hx:Loc X.env.scope x)(r:RelV v u)(h:∀s',Inv X pins (σ.set i (some v)) H s'->Q () s')(hf:X.fn x=true∨X.env.scope.names.lookup x\.local:=by first|exact .inl U|exact .inr U|assumption):wpAny M A (storeName X.env x u) Q E s:=
 T1 I hN hi hx r (λs' I' _=>h s' I') hf
theorem Inv.Fj{s':Ab}(I:Inv X pins σ H s)(ho:s'.os=s.os)(u:Un (o4 X.stack) ch H H' s.heap s'.heap)(ax:fR X.prog X.w H' s'.heap)(hg:AllBare s'.gens)(ug:∀b∈ch,(b∈X.ex∨X.c_.heap.objs.size<=b)/\b≠X.env.locals/\(∀x c,X.env.cells.lookup x\c->c≠b)/\∀p∈X.pn++pins,p.1≠b):Inv X pins σ H' s':=by
 let#[h',g',d',t',o']:=s';have e:o'=s.os:=ho;subst e;exact I.call (g':=g') (t':=t') (d':=d') u ax hg ug
abbrev XK:=Aa->Option Addr->Hp->Prop
abbrev St:=List aJ
abbrev VK:=V->Hp->Prop
abbrev TE:=St->Hp->VK->Prop
abbrev TT:=St->Hp->(Bool->Hp->Prop)->Prop
abbrev TA:=St->Hp->(ag->Hp->Prop)->Prop
structure Ends where
 nx:St->Hp->Prop
 rt:VK
 bk:St->Hp->Prop:=λ_ _=>False
 ct:St->Hp->Prop:=λ_ _=>False
abbrev TS:=Ends->St->Hp->Prop
def EP(X:Cx)(pins:List (Addr × Obj))(σ:St)(Q:VK)(u:Aa)(s':Ab):Prop:=∃v H',Inv X pins σ H' s'/\RelV v u/\Q v H'
def TP(X:Cx)(pins:List (Addr × Obj))(σ:St)(Q:Bool->Hp->Prop)(b:Bool)(s':Ab):Prop:=∃H',Inv X pins σ H' s'/\Q b H'
def AP(X:Cx)(pins:List (Addr × Obj))(σ:St)(Q:ag->Hp->Prop)(us:aj)(s':Ab):Prop:=∃vs H',Inv X pins σ H' s'/\Vals vs us/\Q vs H'
def SP(X:Cx)(pins:List (Addr × Obj))(D:Ends)(f:Flow)(s':Ab):Prop:=
 match f with
 |.next=>∃aV H',Inv X pins aV H' s'/\D.nx aV H'
 |.brk=>∃aV H',Inv X pins aV H' s'/\D.bk aV H'
 |.cont=>∃aV H',Inv X pins aV H' s'/\D.ct aV H'
 |.ret u=>∃v aV H',Inv X pins aV H' s'/\RelV v u/\D.rt v H'
def PE(X:Cx)(e:Expr)(t:TE):Prop:=
 ∀(pins:List (Addr × Obj)) (s:Ab) (σ:St) (H:Hp) (Q:VK),Inv X pins σ H s->t σ H Q->wpAny (model X.prog X.w) X.A (eval e X.env) (EP X pins σ Q) X.xe s
def PT(X:Cx)(e:Expr)(t:TT):Prop:=
 ∀(pins:List (Addr × Obj)) (s:Ab) (σ:St) (H:Hp) (Q:Bool->Hp->Prop),Inv X pins σ H s->t σ H Q->wpAny (model X.prog X.w) X.A (isTrue e X.env (eval e X.env)) (TP X pins σ Q) X.xe s
def PW(X:Cx)(e:Expr)(t:TT):Prop:=
 ∀(whole:Sem Aa) (pins:List (Addr × Obj)) (s:Ab) (σ:St) (H:Hp) (Q:Bool->Hp->Prop),Inv X pins σ H s->t σ H Q->wpAny (model X.prog X.w) X.A (isTrue e X.env whole) (TP X pins σ Q) X.xe s
theorem PW.pt{e:Expr}{t:TT}(h:PW X e t):PT X e t:=h _
def PA(X:Cx)(es:List Expr)(t:TA):Prop:=
 ∀(pos:Pos) (pins:List (Addr × Obj)) (s:Ab) (σ:St) (H:Hp) (Q:ag->Hp->Prop),Inv X pins σ H s->t σ H Q->wpAny (model X.prog X.w) X.A (spliced (backTo pos (starEach es X.env))) (AP X pins σ Q) X.xe s
def PS(X:Cx)(st:Stmt)(t:TS):Prop:=
 ∀(pins:List (Addr × Obj)) (s:Ab) (σ:St) (H:Hp) (D:Ends),Inv X pins σ H s->t D σ H->wpAny (model X.prog X.w) X.A (exec st X.env) (SP X pins D) X.xe s
def jT(X:Cx)(st:List Stmt)(t:TS):Prop:=
 ∀(pins:List (Addr × Obj)) (s:Ab) (σ:St) (H:Hp) (D:Ends),Inv X pins σ H s->t D σ H->wpAny (model X.prog X.w) X.A (execs st X.env) (SP X pins D) X.xe s
theorem aP{α:Type}{t:Sem α}{Q Q':α->Ab->Prop}(h:wpAny M A t Q E s)(hQ:∀a s,Q a s->Q' a s):wpAny M A t Q' E s:=wpAny_mono h hQ λ_ _ x=>x
end L2
abbrev mO:=L2.St->L2.Hp->Prop
abbrev bO:=Nat->L2.St->L2.Hp->Prop
namespace L2
open PySem PySem.Spec PyProof.Rows
variable{pos:Pos}
variable{σ:St}
variable{op:CmpOp}
variable{c:Expr}
section
variable{X:Cx}
inductive oG (i:Nat) (σ:St) (H:Hp) (Q:VK):Prop
 |mk:∀v,σ[i]? = some (some v)->Q v H->oG i σ H Q
def tC(v:V):TE:=λ_ H Q=>Q v H
theorem Yb{i:Nat}{x:Str}(hN:X.N[i]? = some x)(hv:OU X.env.scope x)(hd:(x == ("__debug__":Str))=false:=by decide)(ip:(x == ("__classdict__":Str))=false:=by decide):PE X (.Name x pos) (oG i):=by
 intro pins s σ H Q I h;let#[v,e,h]:=h;let#[m,hn,hl]:=I.loc;let#[u,r,l]:=hl i x v hN e hv;have fin:EP X pins σ Q u s:=#[v,H,I,r,h];rcases l with⟨hk,hm⟩|⟨hk,c,hc,nZ⟩
 ·exact wpAny_Name (wpAny_loadName_local I.ok.kind hk hn hm fin) hd
 rcases hk with hk|hk
 ·exact wpAny_Name (wpAny_loadName_cell I.ok.kind hk hc nZ fin) hd
 exact wpAny_Name (wpAny_loadName_free I.ok.kind hk hc nZ fin ip) hd
theorem aD{i j pos}:PE X (.Constant (.int i) j pos) (tC (.int i)):=λ_ _ _ H _ I h=>wpAny_Constant_int #[.int i,H,I.tok _,#[_,U],h]
theorem gG{b j pos}:PE X (.Constant (.bool b) j pos) (tC (.bl b)):=λ_ _ _ H _ I h=>Constant_bool #[.bl b,H,I,U,h]
theorem Au{j pos}:PE X (.Constant .none j pos) (tC .non):=λ_ _ _ H _ I h=>Constant_none #[.non,H,I,U,h]
theorem xU{x j pos}:PE X (.Constant (.str x) j pos) (tC (.str x)):=λ_ _ _ H _ I h=>Calls.Constant_str #[.str x,H,I.tok _,#[_,U],h]
def Gl(X:Cx)(x:Str):Prop:=X.env.kindOf x=some .globalImplicit
theorem Mr{E:Aa->Ab->Prop}{pins:List (Addr × Obj)}{s:Ab}{H:Hp}{x:Str}{u:Aa}{Q:Aa->Ab->Prop}(I:Inv X pins σ H s)(hg:Gl X x)(hm:X.mg x\u)(h:Q u s)(hd:(x == ("__debug__":Str))=false:=by decide):wpAny (model X.prog X.w) X.A (eval (.Name x pos) X.env) Q E s:=
 Calls.Name_function_global I.ok.kind hg (Calls.loadGlobal_global (by rw[I.ok.glob];exact I.mod.glob.keeps I.bk) hm h) hd
theorem wm{E:Aa->Ab->Prop}{pins:List (Addr × Obj)}{s:Ab}{H:Hp}{x:Str}{u:Aa}{Q:Aa->Ab->Prop}(I:Inv X pins σ H s)(hg:Gl X x)(hm:X.mg x=none)(hv:bootBuiltins x\u)(h:Q u s)(hn:x≠"__name__":=by decide)(hd:(x == ("__debug__":Str))=false:=by decide):wpAny (model X.prog X.w) X.A (eval (.Name x pos) X.env) Q E s:=by
 let#[mb,h1,h2]:=I.mod.blt;exact Calls.Name_function_global I.ok.kind hg (Calls.loadGlobal_builtin (by rw[I.ok.glob];exact I.mod.glob.keeps I.bk) hm (by rw[I.ok.blt];exact h1.keeps I.bk) ((h2 x hn).trans hv) h) hd
theorem BA{x:Str}{v:V}{u:Aa}(hg:Gl X x)(hm:X.mg x\u)(r:RelV v u)(hd:(x == ("__debug__":Str))=false:=by decide):PE X (.Name x pos) (tC v):=
 λ_ _ _ H _ I h=>Mr I hg hm #[v,H,I,r,h] hd
theorem mC{x:Str}{v:V}{u:Aa}(hg:Gl X x)(hm:X.mg x=none)(hv:bootBuiltins x\u)(r:RelV v u)(hn:x≠"__name__":=by decide)(hd:(x == ("__debug__":Str))=false:=by decide):PE X (.Name x pos) (tC v):=
 λ_ _ _ H _ I h=>wm I hg hm hv #[v,H,I,r,h] hn hd
variable{a b:Expr}{ta tb:TE}{pos:Pos}
def PC(X:Cx)(op:CmpOp)(a b:Expr)(t:TE):Prop:=
 ∀(pins:List (Addr × Obj)) (s:Ab) (σ:St) (H:Hp) (Q:VK),Inv X pins σ H s->t σ H Q->
  wpAny (model X.prog X.w) X.A (eval a X.env) (λv aK=>wpAny (model X.prog X.w) X.A (eval b X.env) (λu jq=>wpAny (model X.prog X.w) X.A (compareOp op v u) (EP X pins σ Q) X.xe jq) X.xe aK) X.xe s
theorem ju(b:Expr)(h:op≠.In)(h2:op≠.NotIn):behindInMarks op b=false:=by
 have e1:(op == CmpOp.In)=false:=by cases op<;>first|rfl|exact absurd U h
 have e2:(op == CmpOp.NotIn)=false:=by cases op<;>first|rfl|exact absurd U h2
 cases b<;>simp[behindInMarks,e1,e2]
def JL(ta:TE):TE:=λσ H Q=>ta σ H λx H1=>Q (.bl (decide (x=.non))) H1
def Cq(ta:TE):TE:=λσ H Q=>ta σ H λx H1=>Q (.bl (!decide (x=.non))) H1
theorem RelV.jt{x:V}{v:Aa}(r:RelV x v):(v == Value.none)=decide (x=.non):=by
 cases x with
 |non=>cases r;rfl
 |bl _=>cases r;rfl
 |int _=>let#[t,rfl]:=r;rfl
 |str _=>let#[t,rfl]:=r;rfl
 |byt _=>let#[t,rfl]:=r;rfl
 |flt _=>let#[t,rfl]:=r;rfl
 |ref _=>cases r;rfl
 |ty _=>cases r;rfl
theorem Hs{j pos'}(ha:PE X a ta):PC X .Is a (.Constant .none j pos') (JL ta):=by
 intro pins s σ H Q I h;apply aP (ha pins s σ H _ I h) λv s1 ⟨x,H1,I1,r1,q1⟩=>?_;exact Constant_none (is_none_gen #[.bl _,H1,I1,by rw[r1.jt];rfl,q1])
theorem _m{j pos'}(ha:PE X a ta):PC X .IsNot a (.Constant .none j pos') (Cq ta):=by
 intro pins s σ H Q I h;apply aP (ha pins s σ H _ I h) λv s1 ⟨x,H1,I1,r1,q1⟩=>?_;exact Constant_none (isnot_none_gen #[.bl _,H1,I1,by rw[r1.jt];rfl,q1])
inductive Pq (Q:Bool->Hp->Prop) (x:V) (H1:Hp):Prop
 |mk:∀c,x=.bl c->Q c H1->Pq Q x H1
def tB(t:TE):TT:=λσ H Q=>t σ H λx H1=>Pq Q x H1
theorem Hw{t:TE}(h:PC X op a b t)(h1:behindInMarks op b=false:=by first|exact ju _ (by decide) (by decide)|rfl):PE X (.Compare a [op] [b] pos) t:=λpins s σ H Q I hw=>wpAny_Compare1 (h pins s σ H Q I hw) h1
theorem tG{t:TE}(h:PC X op a b t)(h1:behindInMarks op b=false:=by first|exact ju _ (by decide) (by decide)|rfl):PT X (.Compare a [op] [b] pos) (tB t):=by
 intro pins s σ H Q I hw;apply wpAny_isTrue_Compare1 (aP (h pins s σ H _ I hw) λv s1 h1=>aP h1 λu s2 h2=>aP h2 λc s3 ⟨x,H1,I1,r1,q1⟩=>?_) h1;let#[d,rfl,q]:=q1;cases r1;exact um #[H1,I1,q]
theorem eZ{e:Expr}{t:TE}(h:PE X e t)(he:∀whole,isTrue e X.env whole=(do let v <- whole;standAt e.pos;holding [v] (truthy v)):=by intro _;rfl):PT X e (tB t):=by
 intro pins s σ H Q I hw;apply isTrue_plain (aP (h pins s σ H _ I hw) λv s1 ⟨x,H1,I1,r1,q1⟩=>?_) (he _);let#[d,rfl,q]:=q1;cases r1;exact um #[H1,I1,q]
variable{tA F7:TT}{rest:List Expr}
def JR(t u:TT):TT:=λσ H Q=>t σ H λc H1=>if c=true then u σ H1 Q else Q false H1
def VX(t u:TT):TT:=λσ H Q=>t σ H λc H1=>if c=true then Q true H1 else u σ H1 Q
def JJ(t:TT):TT:=λσ H Q=>t σ H λc H1=>Q (!c) H1
theorem Mq(ha:PT X a tA):PW X (.BoolOp .And [a] pos) tA:=by
 intro wh pins s σ H Q I h;apply isTrue_and (aP (ha pins s σ H Q I h) λc s1 e=>?_);cases c with
 |true=>exact isTrue_and_nil e
 |false=>exact e
theorem uH(ha:PT X a tA):PW X (.BoolOp .Or [a] pos) tA:=by
 intro wh pins s σ H Q I h;apply isTrue_or (aP (ha pins s σ H Q I h) λc s1 e=>?_);cases c with
 |false=>exact isTrue_or_nil e
 |true=>exact e
theorem L4(ha:PT X a tA)(hb:PW X (.BoolOp .And (b::rest) pos) F7):PW X (.BoolOp .And (a::b::rest) pos) (JR tA F7):=by
 intro wh pins s σ H Q I h;apply isTrue_and (aP (ha pins s σ H _ I h) λc s1 ⟨H1,I1,q1⟩=>?_);cases c with
 |true=>exact hb wh pins s1 σ H1 Q I1 q1
 |false=>exact#[H1,I1,q1]
theorem sX(ha:PT X a tA)(hb:PW X (.BoolOp .Or (b::rest) pos) F7):PW X (.BoolOp .Or (a::b::rest) pos) (VX tA F7):=by
 intro wh pins s σ H Q I h;apply isTrue_or (aP (ha pins s σ H _ I h) λc s1 ⟨H1,I1,q1⟩=>?_);cases c with
 |true=>exact#[H1,I1,q1]
 |false=>exact hb wh pins s1 σ H1 Q I1 q1
theorem fh(ha:PT X a tA):PT X (.UnaryOp .Not a pos) (JJ tA):=by
 intro pins s σ H Q I h;exact isTrue_not (ha pins s σ H (λc H1=>Q (!c) H1) I h)
inductive qu (tb:TE) (σ:St) (Q:VK) (x:V) (H1:Hp):Prop
 |mk:∀c,x=.bl c->(if c=true then tb σ H1 Q else Q (.bl false) H1)->qu tb σ Q x H1
def Cw(ta tb:TE):TE:=λσ H Q=>ta σ H λx H1=>qu tb σ Q x H1
inductive wN (tb:TE) (σ:St) (Q:VK) (x:V) (H1:Hp):Prop
 |mk:∀c,x=.bl c->(if c=true then Q (.bl true) H1 else tb σ H1 Q)->wN tb σ Q x H1
def JI(ta tb:TE):TE:=λσ H Q=>ta σ H λx H1=>wN tb σ Q x H1
inductive qo (Q:VK) (x:V) (H1:Hp):Prop
 |mk:∀c,x=.bl c->Q (.bl (!c)) H1->qo Q x H1
def Cp(ta:TE):TE:=λσ H Q=>ta σ H λx H1=>qo Q x H1
theorem uF{op}{t:TE}(h:PE X a t):PE X (.BoolOp op [a] pos) t:=λpins s σ H Q I hw=>BoolOp_one (h pins s σ H Q I hw)
theorem tq(ha:PE X a ta)(hb:PE X (.BoolOp .And (b::rest) pos) tb):PE X (.BoolOp .And (a::b::rest) pos) (Cw ta tb):=by
 intro pins s σ H Q I h;apply BoolOp_and (aP (ha pins s σ H _ I h) λv s1 ⟨x,H1,I1,r1,q1⟩=>?_);let#[c,rfl,q1]:=q1;cases r1;apply um ?_;cases c with
 |true=>exact hb pins s1 σ H1 Q I1 q1
 |false=>exact#[.bl false,H1,I1,U,q1]
theorem Yl(ha:PE X a ta)(hb:PE X (.BoolOp .Or (b::rest) pos) tb):PE X (.BoolOp .Or (a::b::rest) pos) (JI ta tb):=by
 intro pins s σ H Q I h;apply BoolOp_or (aP (ha pins s σ H _ I h) λv s1 ⟨x,H1,I1,r1,q1⟩=>?_);let#[c,rfl,q1]:=q1;cases r1;apply um ?_;cases c with
 |false=>exact hb pins s1 σ H1 Q I1 q1
 |true=>exact#[.bl true,H1,I1,U,q1]
theorem QZ(ha:PE X a ta):PE X (.UnaryOp .Not a pos) (Cp ta):=by
 intro pins s σ H Q I h;apply UnaryOp_ (aP (ha pins s σ H _ I h) λv s1 ⟨x,H1,I1,r1,q1⟩=>?_);let#[c,rfl,q1]:=q1;cases r1;exact not_of (um #[.bl (!c),H1,I1,U,q1])
def VY(t:TT)(ta tb:TE):TE:=λσ H Q=>t σ H λc H1=>if c=true then ta σ H1 Q else tb σ H1 Q
theorem ZM(hc:PT X c tA)(ha:PE X a ta)(hb:PE X b tb):PE X (.IfExp c a b pos) (VY tA ta tb):=by
 intro pins s σ H Q I h;apply wpAny_IfExp (aP (hc pins s σ H _ I h) λd s1 ⟨H1,I1,q1⟩=>?_);cases d with
 |true=>exact ha pins s1 σ H1 Q I1 q1
 |false=>exact hb pins s1 σ H1 Q I1 q1
end
def dY(K:ai)(H:Hp)(a:Addr)(xs:ag):Prop:=
 Rd H a (.lst xs) ∨
  ∃(o:Obj) (its:Array Aa) (n:Nat),K.lookup a\o/\o.cls=.type "list"/\o.dict=none/\o.data=.seq its n/\its.size<=sizeLine/\Vals xs its.toList
def fG(K:ai)(H:Hp)(a:Addr)(xs:ag):Prop:=
 Rd H a (.tup xs) ∨
  ∃(o:Obj) (its:Array Aa) (n:Nat),K.lookup a\o/\o.cls=.type "tuple"/\o.data=.seq its n/\its.size<=sizeLine/\Vals xs its.toList
def OT:Aa->aJ
 |.none=>some .non
 |.bool b=>some (.bl b)
 |.int i _=>some (.int i)
 |.str x _=>some (.str x)
 |.bytes b _=>some (.byt b)
 |.float b _=>some (.flt b)
 |.ref a=>some (.ref a)
 |.type n=>some (.ty n)
 |_=>none
theorem RelV.abs{x:V}{u:Aa}(r:RelV x u):OT u\x:=by
 cases x with
 |non=>cases r;rfl
 |bl _=>cases r;rfl
 |int _=>let#[t,rfl]:=r;rfl
 |str _=>let#[t,rfl]:=r;rfl
 |byt _=>let#[t,rfl]:=r;rfl
 |flt _=>let#[t,rfl]:=r;rfl
 |ref _=>cases r;rfl
 |ty _=>cases r;rfl
theorem RelV.inj{x y:V}{u:Aa}(r:RelV x u)(q:RelV y u):x=y:=cq (r.abs.symm.trans q.abs)
theorem Vals.inj:∀{xs ys:ag} {us:aj},Vals xs us->Vals ys us->xs=ys
 |_,_,_,.nil,.nil=>rfl
 |_,_,_,.cons r t,.cons r' t'=>by rw[r.inj r',Vals.inj t t']
section
variable{X:Cx}{pins:List (Addr × Obj)}{σ:St}{H:Hp}{s:Ab}{a:Addr}{xs ys:ag}
theorem dY.of{K:ai}(h:H a\.lst xs):dY K H a xs:=.inl (.inl h)
theorem fG.of{K:ai}(h:H a\.tup xs):fG K H a xs:=.inl (.inl h)
theorem Inv.list(I:Inv X pins σ H s)(h:dY X.K H a xs):∃its:aj,Vals xs its/\PlainL s.heap a its.toArray/\xs.length<=sizeLine:=by
 rcases h with h|⟨o,its,n,hk,hc,hd,hs,hz,r⟩
 ·let#[z,its,n,r,e]:=h.ok I.ax;exact#[its,r,#[_,n,e,U,U,U],z]
 apply#[its.toList,r,#[o,n,I.gL a o hk,hc,hd,by simpa using hs],?_];let e:=r.length;simp only[pf] at e;omega
theorem Inv.tuple(I:Inv X pins σ H s)(h:fG X.K H a xs):∃its:aj,Vals xs its/\IsTup s.heap a its.toArray/\xs.length<=sizeLine:=by
 rcases h with h|⟨o,its,n,hk,hc,hs,hz,r⟩
 ·let#[z,its,r,p,_]:=h.ok I.ax;exact#[its,r,p,z]
 apply#[its.toList,r,#[o,I.gL a o hk,hc,n,by simpa using hs],?_];let e:=r.length;simp only[pf] at e;omega
theorem Inv.jx(I:Inv X pins σ H s)(h:dY X.K H a xs)(h':dY X.K H a ys):xs=ys:=by
 let#[its,r,#[o,n,e,_,_,d],_]:=I.list h;let#[its',r',#[o',n',e',_,_,d'],_]:=I.list h';rw[e] at e';cases e';rw[d] at d'
 injection d' with d1 _
 have:its=its':=⇑(eF Array.toList d1)
 subst this;exact r.inj r'
theorem Inv.dS(I:Inv X pins σ H s)(h:fG X.K H a xs)(h':fG X.K H a ys):xs=ys:=by
 let#[its,r,#[o,e,_,n,d],_]:=I.tuple h;let#[its',r',#[o',e',_,n',d'],_]:=I.tuple h';rw[e] at e';cases e';rw[d] at d'
 injection d' with d1 _
 have:its=its':=⇑(eF Array.toList d1)
 subst this;exact r.inj r'
end
abbrev Cx.ib(X:Cx)(E:Aa->Ab->Prop):Cx:={ X with xe:=E }
abbrev Cx.xm(X:Cx):Cx:=X.ib λ_ _=>False
theorem Cx.Ok.ib{X:Cx}(ok:X.Ok)(E:Aa->Ab->Prop):(X.ib E).Ok:=
 #[ok.mod,ok.kind,ok.glob,ok.blt,ok.above,ok.inj,ok.has,ok.BB,ok.hd,ok.frames,ok.F8,ok.G_,ok.bs,ok.tE,ok.rR,ok.sO,ok.fZ,ok.vO]
theorem Cx.Ok.eP{X:Cx}{E:Aa->Ab->Prop}(ok:(X.ib E).Ok):X.Ok:=
 #[ok.mod,ok.kind,ok.glob,ok.blt,ok.above,ok.inj,ok.has,ok.BB,ok.hd,ok.frames,ok.F8,ok.G_,ok.bs,ok.tE,ok.rR,ok.sO,ok.fZ,ok.vO]
section
variable{X:Cx}{pins:List (Addr × Obj)}{σ:St}{H:Hp}{s:Ab}{E:Aa->Ab->Prop}
theorem Inv.ib(I:Inv X pins σ H s)(E:Aa->Ab->Prop):Inv (X.ib E) pins σ H s:=#[I.ok.ib E,I.os,I.bare,I.base,I.loc,I.cell,I.free,I.ee,I.pin,I.ax,I.len]
theorem Inv.eP(I:Inv (X.ib E) pins σ H s):Inv X pins σ H s:=#[I.ok.eP,I.os,I.bare,I.base,I.loc,I.cell,I.free,I.ee,I.pin,I.ax,I.len]
theorem SP.eP{D:Ends}{f:Flow}{s':Ab}(h:SP (X.ib E) pins D f s'):SP X pins D f s':=by
 cases f with
 |next=>let#[aV,H',I,q]:=h;exact#[aV,H',I.eP,q]
 |brk=>let#[aV,H',I,q]:=h;exact#[aV,H',I.eP,q]
 |cont=>let#[aV,H',I,q]:=h;exact#[aV,H',I.eP,q]
 |ret u=>let#[v,aV,H',I,r,q]:=h;exact#[v,aV,H',I.eP,r,q]
theorem jT.xm{st:List Stmt}{t:TS}(h:jT X.xm st t):jT X st t:=λpins s σ H D I hw=>
 wpAny_mono (h pins s σ H D (I.ib _) hw) (λ_ _ q=>q.eP) λ_ _ z=>False.elim z
end
section
variable{X:Cx}{st:Stmt}{rest:List Stmt}{t u:TS}{e:Expr}{te:TE}{pos:Pos}
def Cr:TS:=λD σ H=>D.nx σ H
def uT(t u:TS):TS:=λD σ H=>t { D with nx:=u D } σ H
theorem cg:jT X [] Cr:=λ_ _ σ H _ I h=>wpAny_execs_nil #[σ,H,I,h]
theorem av(h1:PS X st t)(h2:jT X rest u):jT X (st::rest) (uT t u):=by
 intro pins s σ H D I h;apply wpAny_execs_cons (aP (h1 pins s σ H { D with nx:=u D } I h) λf s1 q=>?_);cases f with
 |next=>
  let#[aV,H',I',q]:=q;exact h2 pins s1 aV H' D I' q
 |ret v=>exact q
 |brk=>exact q
 |cont=>exact q
theorem aE(h1:PS X st t):jT X [st] t:=by
 intro pins s σ H D I h;apply wpAny_execs_cons (aP (h1 pins s σ H D I h) λf s1 q=>?_);cases f with
 |next=>exact wpAny_execs_nil q
 |ret v=>exact q
 |brk=>exact q
 |cont=>exact q
theorem Inv.quiet{pins:List (Addr × Obj)}{H:Hp}{s:Ab}(I:Inv X pins σ H s):interactive X.env=false:=by simp[interactive,I.ok.kind]
def Ct(te:TE):TS:=λD σ H=>te σ H λ_ H1=>D.nx σ H1
theorem kC(he:PE X e te)(hs:swapsWith e none pos.line X.env=pure false:=by rfl):PS X (.Expr e pos) (Ct te):=by
 intro pins s σ H D I h;exact wpAny_Expr_any (aP (he pins s σ H _ I h) λv s1 ⟨x,H1,I1,r1,q1⟩=>#[σ,H1,I1,q1]) I.quiet hs
def JH(te:TE):TS:=λD σ H=>te σ H D.rt
theorem bu(he:PE X e te):PS X (.Return (some e) pos) (JH te):=by
 intro pins s σ H D I h;exact wpAny_Return_some (aP (he pins s σ H _ I h) λv s1 ⟨x,H1,I1,r1,q1⟩=>#[x,σ,H1,I1,r1,q1])
def JM(c:TT)(t u:TS):TS:=λD σ H=>c σ H λb H1=>if b=true then t D σ H1 else u D σ H1
theorem b_{a b:List Stmt}{tc:TT}(hc:PT X c tc)(ha:jT X a t)(hb:jT X b u):PS X (.If c a b pos) (JM tc t u):=by
 intro pins s σ H D I h;apply wpAny_If (aP (hc pins s σ H _ I h) λd s1 ⟨H1,I1,q1⟩=>?_);cases d with
 |true=>exact ha pins s1 σ H1 D I1 q1
 |false=>exact hb pins s1 σ H1 D I1 q1
def yj:TS:=λ_ _ _=>False
theorem gi{V4:List Stmt}:jT X V4 yj:=λ_ _ _ _ _ _ h=>h.elim
end
abbrev TG:=V->St->Hp->(St->Hp->Prop)->Prop
abbrev AS:=ag->St->Hp->(St->Hp->Prop)->Prop
def PG(X:Cx)(target:Expr)(t:TG):Prop:=
 ∀(pins:List (Addr × Obj)) (s:Ab) (σ:St) (H:Hp) (v:V) (u:Aa) (Q:mO),Inv X pins σ H s->RelV v u->t v σ H Q->
  wpAny (model X.prog X.w) X.A (assign target X.env u) (λ_ s'=>∃aV H',Inv X pins aV H' s'/\Q aV H') X.xe s
def FQ(X:Cx)(ts:List Expr)(t:AS):Prop:=
 ∀(pins:List (Addr × Obj)) (s:Ab) (σ:St) (H:Hp) (vs:ag) (us:aj) (Q:mO),Inv X pins σ H s->Vals vs us->t vs σ H Q->
  wpAny (model X.prog X.w) X.A (assignInOrder ((assignEach ts X.env).map (·.2)) us) (λ_ s'=>∃aV H',Inv X pins aV H' s'/\Q aV H') X.xe s
abbrev AR:=V->V->V->Hp->(Hp->Prop)->Prop
def FP(X:Cx)(t:AR):Prop:=
 ∀(pins:List (Addr × Obj)) (s:Ab) (σ:St) (H:Hp) (o i v:V) (ov iv u:Aa) (Q:Hp->Prop),Inv X pins σ H s->RelV o ov->RelV i iv->RelV v u->t o i v H Q->
  wpAny (model X.prog X.w) X.A (setItem ov iv u) (λ_ s'=>∃H',Inv X pins σ H' s'/\Q H') X.xe s
variable{es:List Expr}
variable{k n:Nat}
variable{tg:Expr}{te:TE}
variable{pos':Pos}
section
variable{X:Cx}{pos:Pos}
def ko(i:Nat):TG:=λv σ H Q=>Q (σ.set i (some v)) H
theorem gg{i:Nat}{x:Str}(hN:X.N.Nodup)(hi:X.N[i]? = some x)(hx:Loc X.env.scope x)(hf:X.fn x=true∨X.env.scope.names.lookup x\.local:=by first|exact .inl U|exact .inr U|assumption):PG X (.Name x pos) (ko i):=by
 intro pins s σ H v u Q I r h;exact wpAny_assign_Name (SI I hN hi hx r (λs' I'=>#[_,H,I',h]) hf)
theorem kr:type_of% PyProof.Rows.Boot.«isinstance»:=PyProof.Rows.Boot.«isinstance»
theorem LZ:type_of% PyProof.Rows.Boot.«int»:=PyProof.Rows.Boot.«int»
theorem Hy:type_of% PyProof.Rows.Boot.«str»:=PyProof.Rows.Boot.«str»
theorem wx:type_of% PyProof.Rows.Boot.«tuple»:=PyProof.Rows.Boot.«tuple»
theorem AG:type_of% PyProof.Rows.Boot.«list»:=PyProof.Rows.Boot.«list»
theorem IT:type_of% PyProof.Rows.Boot.«sorted»:=PyProof.Rows.Boot.«sorted»
theorem uA:type_of% PyProof.Rows.Boot.«dict»:=PyProof.Rows.Boot.«dict»
theorem P0(i:Nat){x:Str}(hN:X.N.Nodup:=by first|(show ([_]:List Str).Nodup;decide +kernel)|(show ([_,_]:List Str).Nodup;decide +kernel)|(show ([_,_,_]:List Str).Nodup;decide +kernel)|(show ([_,_,_,_]:List Str).Nodup;decide +kernel))(hi:X.N[i]? = some x:=by rfl)(hx:Loc X.env.scope x:=by first|exact Or.inl U|exact Or.inr U)(hf:X.fn x=true∨X.env.scope.names.lookup x\.local:=by first|exact .inl U|exact .inr U|assumption):PG X (.Name x pos) (ko i):=gg hN hi hx hf
theorem cm(i:Nat){x:Str}(hN:X.N.Nodup)(hi:X.N[i]? = some x:=by rfl)(hx:Loc X.env.scope x:=by first|exact Or.inl U|exact Or.inr U)(hf:X.fn x=true∨X.env.scope.names.lookup x\.local:=by first|exact .inl U|exact .inr U|assumption):PG X (.Name x pos) (ko i):=gg hN hi hx hf
def sM:AS:=λvs σ H Q=>vs=[]/\Q σ H
inductive pS (t:TG) (u:AS) (vs:ag) (σ:St) (H:Hp) (Q:mO):Prop
 |mk:∀v r,vs=v::r->(t v σ H λaV H'=>u r aV H' Q)->pS t u vs σ H Q
theorem iK:FQ X [] sM:=by
 intro pins s σ H vs us Q I r h;let#[e,h]:=h;subst e;cases r;exact assignInOrder_nil ⟨σ,H,I,h⟩
theorem dH{e:Expr}{t:TG}{u:AS}(h1:PG X e t)(h2:FQ X es u)(hs:(assignEach (e::es) X.env).map (·.2)=assign e X.env::(assignEach es X.env).map (·.2):=by rfl):FQ X (e::es) (pS t u):=by
 intro pins s σ H vs us Q I r h;let#[v,vr,e1,h]:=h;subst e1;cases r with
 |cons r rr=>
  rw[hs];apply assignInOrder_cons (aP (h1 pins s σ H _ _ _ I r h) λ_ s1 ⟨mR,H1,I1,q1⟩=>?_);exact h2 pins s1 mR H1 _ _ Q I1 rr q1
inductive gM (K:ai) (n:Nat) (t:AS) (v:V) (σ:St) (H:Hp) (Q:mO):Prop
 |mk:∀a xs,v=.ref a->fG K H a xs->xs.length=n->t xs σ H Q->gM K n t v σ H Q
theorem kq{t:AS}(hc:X.calm=true)(h:FQ X es t)(hn:(assignEach es X.env).length=n:=by rfl)(lU:(assignEach es X.env).findIdx? (·.1)=none:=by rfl):PG X (.Tuple es k pos) (gM X.K n t):=by
 intro pins s σ H v u Q I r hw;let#[a,xs,e1,hq,hl,hw]:=hw;subst e1;cases r;let#[its,rv,ht,hz]:=I.tuple hq;apply assign_Tuple_tuple (I.ok.hd hc) ht (by simp[hn,<- hl,rv.length]) lU λh' hx=>?_;have I1:Inv X pins σ H { s with heap:=h' }:=I.kept (t':=s.toks) λb o e=>hx b o (dA (bp e)) e;exact h pins _ σ H xs _ Q I1 ⇑rv hw
def L7(to ti:TE)(t:AR):TG:=λv σ H Q=>to σ H λo H1=>ti σ H1 λi H2=>t o i v H2 λH3=>Q σ H3
theorem QV{o i:Expr}{to ti:TE}{t:AR}(ho:PE X o to)(hi:PE X i ti)(hs:FP X t)
  (ha:∀v,assign (.Subscript o i pos) X.env v=(do
   let ov <- holding [v] (eval o X.env)
   let iv <- holding [v,ov] (eval i X.env)
   standAt pos
   holding [v,ov,iv] (setItem ov iv v)
   release [v,ov,iv] []):=by intro _;rfl):PG X (.Subscript o i pos) (L7 to ti t):=by
 intro pins s σ H v u Q I r h;rw[ha];apply ae (iI (aP (ho pins s σ H _ I h) λov s1 ⟨x,H1,I1,r1,q1⟩=>?_));apply ae (iI (aP (hi pins s1 σ H1 _ I1 q1) λiv s2 ⟨y,H2,I2,r2,q2⟩=>?_));apply ae (wpAny_standAt (ae (iI (aP (hs pins s2 σ H2 x y v ov iv u _ I2 r1 r2 r q2) λ_ s3 ⟨H3,I3,q3⟩=>?_))));exact wpAny_release #[σ,H3,I3,q3]
def yq(te:TE)(g:TG):TS:=λD σ H=>te σ H λx H1=>g x σ H1 D.nx
theorem L_{e:Expr}{g:TG}(he:PE X e te)(hg:PG X tg g)(hs:swapsWithSole [tg] e pos.line X.env=pure false:=by rfl)(hw:swappedStores [tg] e X.env=pure none:=by rfl)(h1:(assignEach [tg] X.env).map (·.2)=[assign tg X.env]:=by rfl):PS X (.Assign [tg] e pos) (yq te g):=by
 intro pins s σ H D I h;apply wpAny_Assign_stores (aP (he pins s σ H _ I h) λv s1 ⟨x,H1,I1,r1,q1⟩=>?_) hs hw;rw[h1];exact aP (hg pins s1 σ H1 x v _ I1 r1 q1) λ_ s2 q=>q
theorem YD{i:Nat}{x:Str}{e:Expr}(hN:X.N.Nodup)(hi:X.N[i]? = some x)(hx:Loc X.env.scope x)(he:PE X e te)(hs:swapsWith e (some (.Name x pos')) pos.line X.env=pure false:=by rfl)(hf:X.fn x=true∨X.env.scope.names.lookup x\.local:=by first|exact .inl U|exact .inr U|assumption) :
  PS X (.Assign [.Name x pos'] e pos) (yq te (ko i)):=by
 intro pins s σ H D I h;apply wpAny_Assign_Name (aP (he pins s σ H _ I h) λv s1 ⟨y,H1,I1,r1,q1⟩=>?_) hs;exact SI I1 hN hi hx r1 (λs2 I2=>#[_,H1,I2,q1]) hf
theorem bo(i:Nat){x:Str}{e:Expr}(hN:X.N.Nodup)(he:PE X e te)(hi:X.N[i]? = some x:=by rfl)(hx:Loc X.env.scope x:=by first|exact Or.inl U|exact Or.inr U)(hs:swapsWith e (some (.Name x pos')) pos.line X.env=pure false:=by rfl)(hf:X.fn x=true∨X.env.scope.names.lookup x\.local:=by first|exact .inl U|exact .inr U|assumption):PS X (.Assign [.Name x pos'] e pos) (yq te (ko i)):=YD hN hi hx he hs hf
end
variable{body:List Stmt}{tb:TS}
section
variable{X:Cx}{pos:Pos}
def qh(c:TT)(tb:TS):TS:=λD σ H=>∃W:Nat->St->Hp->Prop,(∃m,W m σ H)/\∀m σ H,W m σ H->
 c σ H λb H1=>if b=true then ∃N:St->Hp->Prop,(∀aV H',N aV H'->∃m',m'<m/\W m' aV H')/\tb { D with nx:=N,ct:=N,bk:=D.nx } σ H1 else D.nx σ H1
theorem FG{tc:TT}(hp:PassesOwn (model X.prog X.w) X.A X.env X.xe)(hc:PT X c tc)(hb:jT X body tb):PS X (.While c body [] pos) (qh tc tb):=by
 intro pins s σ H D I h;let#[W,#[m0,w0],turn]:=h;apply wpAny_While (codeAny_whileLoop (λn s'=>∃aV H',Inv X pins aV H' s'/\W n aV H') ?_ m0 #[σ,H,I,w0]);rintro n s1 ⟨mR,H1,I1,w1⟩;apply wpAny_passesOwn hp (aP (hc pins s1 mR H1 _ I1 (turn n mR H1 w1)) λb s2 ⟨H2,I2,q2⟩=>?_);cases b with
 |true=>
  let#[N,hN,q2]:=q2;rw[aI U];apply wpAny_passesOwn hp (aP (hb pins s2 mR H2 _ I2 q2) λf s3 q3=>?_);cases f with
  |next=>
   let#[j7,H3,I3,n3]:=q3;let#[m',hm,w3]:=hN j7 H3 n3;exact#[m',hm,j7,H3,I3,w3]
  |cont=>
   let#[j7,H3,I3,n3]:=q3;let#[m',hm,w3]:=hN j7 H3 n3;exact#[m',hm,j7,H3,I3,w3]
  |brk=>exact q3
  |ret v=>exact q3
 |false=>
  rw[aA f_];exact wpAny_execs_nil #[mR,H2,I2,q2]
end
structure It where
 go:Nat->Hp->Prop
 uO:Nat->Hp->V->Hp->Prop
 stop:Nat->Hp->Prop
def df(X:Cx)(pins:List (Addr × Obj))(H:Hp)(b:Addr):Prop:=
 H b=none/\b≠X.env.locals/\b∉X.fs/\(b∈X.ex∨X.c_.heap.objs.size<=b)/\(∀x c,X.env.cells.lookup x\c->c≠b)/\∀p∈X.pn++pins,p.1≠b
variable{b:Addr}
theorem Inv.jD{X:Cx}{pins:List (Addr × Obj)}{H H':Hp}{s:Ab}(I:Inv X pins σ H s)(hb:s.heap.objs.size<=b)(hn:H' b=none):df X pins H' b:=by
 apply#[hn,i5 (i6 I.lt hb),I.Ki hb,.inr (gj I.sz hb),λx c e z=>?_,λp hp z=>?_]
 ·let#[v,q]:=I.cell x c e;exact absurd (i6 q.lt (by rw[z];exact hb)) (tM _)
 exact absurd (i6 (bp (I.pin p hp).1) (by rw[z];exact hb)) (tM _)
structure Turn (P:Ad) (w:Ag) (K:ai) (tg:Expr) (J:It) (fp:aq) (it:Addr) (tn:Nat->Heap->Prop):Prop where
 mem:it∈fp
 obj:∀i h,tn i h->∀b∈fp,∃o,h.get? b\o/\∀v,o.data≠.cell v
 keep:∀i h h',tn i h->(∀b∈fp,∀o,h.get? b\o->h'.get? b\o)->tn i h'
 item:∀(X:Cx),X.prog=P->X.w=w->X.K=K->X.calm=true->∀(i:Nat) (pins:List (Addr × Obj)) (s:Ab) (σ:St) (H:Hp) (E:Aa->Ab->Prop),Inv X pins σ H s->(∀b∈fp,df X pins H b)->tn i s.heap->J.go i H->
  wpAny (model P w) X.A (pyNext (.ref it)) (λr s1=>∃u,r\u /\
   wpAny (model P w) X.A (letOwnedTupleGo tg (.ref it) u) (λ_ s2=>∃x H',Inv X pins σ H' s2/\RelV x u/\J.uO i H x H'/\tn (i+1) s2.heap/\∀b∈fp,H' b=none) E s1) E s
 done:∀(X:Cx),X.prog=P->X.w=w->X.K=K->X.calm=true->∀(i:Nat) (pins:List (Addr × Obj)) (s:Ab) (σ:St) (H:Hp) (E:Aa->Ab->Prop),Inv X pins σ H s->(∀b∈fp,df X pins H b)->tn i s.heap->J.stop i H->
  wpAny (model P w) X.A (pyNext (.ref it)) (λr s1=>r=none/\Inv X pins σ H s1) E s
 self:∀(A:Af) (i:Nat) (s:Ab) (Q:Aa->Ab->Prop) (E:Aa->Ab->Prop),tn i s.heap->Q (.ref it) s->wpAny (model P w) A (pyIter (.ref it)) Q E s
abbrev TI:=St->Hp->(It->Hp->Prop)->Prop
def UY(X:Cx)(pins:List (Addr × Obj))(σ:St)(tg:Expr)(R:It->Hp->Prop)(GF:Aa)(s2:Ab):Prop:=
 ∃(it:Addr) (fp:aq) (tn:Nat->Heap->Prop) (J:It) (H':Hp),GF=.ref it/\Inv X pins σ H' s2/\Turn X.prog X.w X.K tg J fp it tn/\tn 0 s2.heap/\(∀b∈fp,df X pins H' b)/\R J H'
def PI(X:Cx)(tg iter:Expr)(wi:TI):Prop:=
 ∀(pins:List (Addr × Obj)) (s:Ab) (σ:St) (H:Hp) (R:It->Hp->Prop),Inv X pins σ H s->wi σ H R->
  wpAny (model X.prog X.w) X.A (eval iter X.env) (λv s1=>wpAny (model X.prog X.w) X.A (pyIter v) (UY X pins σ tg R) X.xe s1) X.xe s
variable{u:Aa}{o:Obj}
theorem GH{M:Model}{A:Af}{E:Aa->Ab->Prop}{s:Ab}{it:Addr}{n:String}{vs:Array Aa}{Q:Unit->Ab->Prop}(ho:s.heap.get? it\o)(hc:o.cls=.type n)(hd:o.data=.fields vs)(hn:["enumerate","zip","dict_itemiterator","dict_reverseitemiterator","odict_iterator","itertools.zip_longest","itertools.pairwise"].contains n=false)(hQ:Q () s):wpAny M A (letOwnedTupleGo tg (.ref it) u) Q E s:=by
 unfold letOwnedTupleGo
 cases tg<;>first
  |exact aB hQ
  |(cases u<;>first
    |exact aB hQ
    |(apply ae (wpAny_load ho ?_)
      rw[hc,hd];show wpAny M A (if (["enumerate","zip","dict_itemiterator","dict_reverseitemiterator","odict_iterator","itertools.zip_longest","itertools.pairwise"].contains n&&vs[0]? == some (rawInt _))=true then _ else _) Q E s;rw[aA (by intro h;rw[hn,Bool.false_and] at h;cases h)];exact aB hQ))
def yb(K:ai)(a:Addr):It:=
 ⟨λi H=>∃xs x,dY K H a xs/\xs[i]? = some x,λi H x H'=>H'=H/\∀xs,dY K H a xs->xs[i]? = some x,λi H=>∃xs,dY K H a xs/\xs.length<=i⟩
def BV(lo:Int)(n:Nat):It:=⟨λi _=>i<n,λi H x H'=>H'=H/\x=.int (lo+i),λi _=>n<=i⟩
variable{P:Ad}{w:Ag}
theorem gg_{K:ai}(a it:Addr):Turn P w K tg (yb K a) [it] it (λi h=>h.IsListIter it a i) where
 mem:=by simp
 obj:=λi h st b hb=>by
  have e:b=it:=⇑hb
  subst e;let#[o,e,c,d]:=st;exact#[o,e,λv z=>by rw[d] at z;cases z]
 keep:=λi h h' st k=>st.at λo e=>k it Z2 o e
 item:=by
  intro X hP hw hK hc i pins s σ H E I hf st hg;subst hP hw hK;let#[xs,x,hq,hx]:=hg;let#[its,rv,p,hz]:=I.list hq;let#[u,hu,ru]:=rv.get hx;let#[f0,f1,f2,f3,f4,f5]:=hf it Z2;apply wpAny_pyNext_list_item st p.isList (x:=u) ⇑hu λh' fH sb=>?_;have I1:Inv X pins σ H { s with heap:=h' }:=I.turned (t':=s.toks) (λb o hb e=>(sb.2 b hb).trans e) f0 f1 f3 f4 f5;let#[o,e,c,d]:=id fH;exact#[u,U,GH (s:={ s with heap:=h' }) e c d (by decide) #[x,H,I1,ru,#[U,λys hy=>by rw[I.jx hy hq];exact hx],fH,λb hb=>(hf b hb).1]]
 done:=by
  intro X hP hw hK hc i pins s σ H E I hf st hg;subst hP hw hK;let#[xs,hq,hx]:=hg;let#[its,rv,p,hz]:=I.list hq;let#[f0,f1,f2,f3,f4,f5]:=hf it Z2;let hl:=rv.length;exact wpAny_pyNext_list_end (I.ok.hd hc) st p.isList (by simp;omega) λh' eb=>#[U,I.turned (t':=s.toks) (λb o hb e=>eb b o hb e) f0 f1 f3 f4 f5]
 self:=λ_ _ _ _ _ st h=>wpAny_pyIter_listiter st h
theorem fh_{K:ai}(it:Addr)(lo:Int)(n:Nat):Turn P w K tg (BV lo n) [it] it (λi h=>IsRangeIter h it (lo+(i:Nat) * 1) ((n:Int) - (i:Nat)) 1) where
 mem:=by simp
 obj:=λi h st b hb=>by
  have e:b=it:=⇑hb
  subst e
  exact#[_,st,λv z=>by
   have z':Data.fields _=Data.cell v:=z;cases z']
 keep:=λi h h' st k=>k it Z2 _ st
 item:=by
  intro X hP hw hK hc i pins s σ H E I hf st hg;subst hP hw hK;let#[f0,f1,f2,f3,f4,f5]:=hf it Z2;let W:=Walks.range (prog:=X.prog) (w:=X.w) (I.ok.hd hc) it lo 1 n;apply W.item i s _ _ hg st λv h' tk hv fH kk=>?_;let#[t,rfl]:=hv;have I1:Inv X pins σ H { s with heap:=h',toks:=tk }:=I.turned (λb o hb e=>kk b o ⇑hb e) f0 f1 f3 f4 f5;apply#[_,U,GH (s:={ s with heap:=h',toks:=tk }) (n:="range_iterator") fH U U (by decide) #[.int (lo+i),H,I1,#[t,?_],#[U,U],fH,λb hb=>(hf b hb).1]];rw[Int.mul_one]
 done:=by
  intro X hP hw hK hc i pins s σ H E I hf st hg;subst hP hw hK;let#[f0,f1,f2,f3,f4,f5]:=hf it Z2;exact wpAny_pyNext_range_end (I.ok.hd hc) st (by have:n<=i:=hg;omega) λh' eb=>#[U,I.turned (t':=s.toks) (λb o hb e=>eb b o hb e) f0 f1 f3 f4 f5]
 self:=λ_ _ _ _ _ st h=>wpAny_pyIter_rangeiter st h
inductive sf (K:ai) (R:It->Hp->Prop) (x:V) (H1:Hp):Prop
 |mk:∀a,x=.ref a->(∃xs,dY K H1 a xs)->R (yb K a) H1->sf K R x H1
def DT(K:ai)(tl:TE):TI:=λσ H R=>tl σ H λx H1=>sf K R x H1
variable{X:Cx}
theorem dF{l:Expr}{tl:TE}(hl:PE X l tl):PI X tg l (DT X.K tl):=by
 intro pins s σ H R I h;apply aP (hl pins s σ H _ I h) λv s1 ⟨x,H1,I1,r1,q1⟩=>?_;let#[a,e,#[xs,hq],q]:=q1;subst e;cases r1;let#[its,rv,p,hz]:=I1.list hq;apply wpAny_pyIter_list p.isList ?_;apply#[s1.heap.objs.size,[s1.heap.objs.size],_,_,H1,U,I1.kept (t':=s1.toks) λb o e=>aS _ e,gg_ a _,#[_,cw _ U,U,U],λb hb=>?_,q];have e:b=s1.heap.objs.size:=⇑hb
 subst e;exact I1.jD (a_ _) (I1.ax.fresh (a_ _))
variable{pins:List (Addr × Obj)}{lo:Int}
theorem ZN{H:Hp}{s:Ab}{R:It->Hp->Prop}{E:Aa->Ab->Prop}{hi:Int}{t u v:Tok}{tk:Nat}(I:Inv X pins σ H s)(h1:-(2 ^ 62)<=lo)(h2:lo<2 ^ 62)(h3:-(2 ^ 62)<=hi)(h4:hi<2 ^ 62)(q:R (BV lo (hi - lo).toNat) H):wpAny (model X.prog X.w) X.A (pyIter (.ref s.heap.objs.size)) (UY X pins σ tg R) E { s with heap:=s.heap.push { cls:=.type "range",data:=.fields (List.toArray [.int lo t,.int hi u,.int 1 v]) },toks:=tk }:=by
 apply wpAny_pyIter_range (IsRange.new ..) (small_one h1 h2 h3 h4) ?_;have I1:Inv X pins σ H { s with heap:=s.heap.push { cls:=.type "range",data:=.fields (List.toArray [.int lo t,.int hi u,.int 1 v]) },toks:=tk }:=I.kept λb o e=>aS _ e
 apply#[(s.heap.push { cls:=.type "range",data:=.fields (List.toArray [.int lo t,.int hi u,.int 1 v]) }).objs.size,[(s.heap.push { cls:=.type "range",data:=.fields (List.toArray [.int lo t,.int hi u,.int 1 v]) }).objs.size],_,_,H,U,
  I1.kept (t':=tk) λb o e=>aS _ e,fh_ _ lo (hi - lo).toNat,?_,λb hb=>?_,q]
 ·have e1:lo+((0:Nat):Int) * 1=lo:=by simp
  have e2:(((hi - lo).toNat:Nat):Int) - ((0:Nat):Int)=Builtin.Range.rangeSize lo hi 1:=by rw[rangeSize_one];split<;>omega
  show IsRangeIter _ _ (lo+((0:Nat):Int) * 1) ((((hi - lo).toNat:Nat):Int) - ((0:Nat):Int)) 1;rw[e1,e2];exact cw _ U
 have e:b=(s.heap.push { cls:=.type "range",data:=.fields (List.toArray [.int lo t,.int hi u,.int 1 v]) }).objs.size:=⇑hb
 subst e;exact I1.jD (a_ _) (I1.ax.fresh (a_ _))
inductive se (R:It->Hp->Prop) (vs:ag) (H1:Hp):Prop
 |mk:∀j:Int,vs=[.int j]->-(2 ^ 62)<=j->j<2 ^ 62->R (BV 0 j.toNat) H1->se R vs H1
def DS(ta:TA):TI:=λσ H R=>ta σ H λvs H1=>se R vs H1
variable{p:Pos}
theorem AC{a:Expr}{ta:TA}(hg:Gl X "range")(hm:X.mg "range"=none)(ha:PA X [a] ta)(hs:starEach [a] X.env=[(false,eval a X.env)]:=by rfl):PI X tg (.Call (.Name "range" p) [a] [] pos) (DS ta):=by
 intro pins s σ H R I h;apply Call_ (wm I hg hm boot_range (BC (aP (ha pos pins s σ H _ I h) λus s1 ⟨vs,H1,I1,r1,q1⟩=>?_) hs U));let#[j,e,q1,q2,q]:=q1;subst e;cases r1 with
 |cons r rr=>
  cases rr;let#[t,rfl]:=r;exact call_range_1 (ZN I1 Z1 Z1 q1 q2 ⇑q)
def JN(wi:TI)(g:TG)(tb:TS):TS:=λD σ H=>wi σ H λJ H1=>∃W:Nat->Nat->St->Hp->Prop,(∃m,W 0 m σ H1)/\∀i m σ H,W i m σ H->
 (J.stop i H/\D.nx σ H)∨(J.go i H/\∃N:St->Hp->Prop,(∀aV H',N aV H'->∃m',m'<m/\W (i+1) m' aV H')/\∀x H',J.uO i H x H'->g x σ H' λgm H2=>tb { D with nx:=N,ct:=N,bk:=D.nx } gm H2)
def vX(fp:aq)(h:Heap):List (Addr × Obj):=fp.filterMap λb=>(h.get? b).map λo=>(b,o)
variable{fp:aq}{h:Heap}
theorem IZ(hb:b∈fp)(e:h.get? b\o):(b,o)∈vX fp h:=ya.mpr #[b,hb,by rw[e];rfl]
theorem gh_{p:Addr × Obj}(hp:p∈vX fp h):p.1∈fp/\h.get? p.1\p.2:=by
 let#[b,hb,e]:=ya.mp hp;cases q:h.get? b with
 |none=>rw[q] at e;cases e
 |some o=>
  rw[q] at e;have e':(b,o)=p:=cq e;subst e';exact#[hb,q]
theorem Inv.pinned{H:Hp}{s:Ab}(I:Inv X pins σ H s)(hf:∀b∈fp,df X pins H b)(ho:∀b∈fp,∃o,s.heap.get? b\o/\∀v,o.data≠.cell v):Inv X (pins++vX fp s.heap) σ H s:=
 I.nE λp hp=>(dN.mp hp).elim (λz=>I.pin p (mJ _ z)) λz=>by
  let#[hb,e]:=gh_ z;let#[f0,f1,f2,_]:=hf p.1 hb;let#[o,e',d]:=ho p.1 hb;rw[e] at e';cases e';exact#[e,f0,f1,f2,d]
theorem Inv.eQ{pl:List (Addr × Obj)}{H:Hp}{s:Ab}(I:Inv X (pins++pl) σ H s):Inv X pins σ H s:=I.nE λp hp=>I.pin p (mJ _ (List.mem_append_left _ hp))
theorem d_{iter:Expr}{wi:TI}{g:TG}(hp:PassesOwn (model X.prog X.w) X.A X.env X.xe)(hc:X.calm=true)(hi:PI X tg iter wi)(hg:PG X tg g)(hb:jT X body tb)(hs:∀x,foldedSetIterable iter X.env x=pure x:=by intro _;rfl):PS X (.For tg iter body [] pos) (JN wi g tb):=by
 intro pins s σ H D I h;apply wpAny_For (aP (hi pins s σ H _ I h) λv s1 h1=>aP h1 λGF s2 h2=>?_) hs;let#[it,fp,tn,J,H2,e,I2,T,gn,f2,W,#[m0,w0],turn]:=h2;subst e;have yr:∀{H':Hp},(∀b∈fp,H' b=none)->∀b∈fp,df X pins H' b:=λhn b hb=>#[hn b hb,(f2 b hb).2];apply codeAny_forLoop_any (λn s'=>∃i aV H',Inv X pins aV H' s'/\tn i s'.heap/\(∀b∈fp,H' b=none)/\W i n aV H') ?_ m0 #[0,σ,H2,I2,gn,λb hb=>(f2 b hb).1,w0];rintro n s3 ⟨i,j7,H3,I3,iC,Sw,w3⟩;rcases turn i n j7 H3 w3 with⟨stop,qn⟩|⟨go,N,hN,step⟩
 ·apply wpAny_passesOwn hp (aP (T.done X U U U hc i pins s3 j7 H3 X.xe I3 (yr Sw) iC stop) λr s4 ⟨hr,I4⟩=>?_);subst hr;exact wpAny_execs_nil #[j7,H3,I4,qn]
 apply wpAny_passesOwn hp (aP (T.item X U U U hc i pins s3 j7 H3 X.xe I3 (yr Sw) iC go) λr s4 ⟨u,hr,h4⟩=>?_);subst hr;apply wpAny_passesOwn hp (aP h4 λ_ s5 ⟨x,H5,I5,r5,y5,iM,o5⟩=>?_);let I5':=I5.pinned (yr o5) (T.obj _ _ iM);apply wpAny_passesOwn hp (aP (hg _ s5 j7 H5 x u _ I5' r5 (step x H5 y5)) λ_ s6 ⟨U1,H6,I6,q6⟩=>?_);apply wpAny_passesOwn hp (aP (hb _ s6 U1 H6 _ I6 q6) λf s7 q7=>?_)
 have again:∀{qc:St} {H7:Hp},Inv X (pins++vX fp s5.heap) qc H7 s7->N qc H7->∃m,m<n/\∃i aV H',Inv X pins aV H' s7/\tn i s7.heap/\(∀b∈fp,H' b=none)/\W i m aV H':=λ{qc H7} I7 n7=>by
  let#[m',hm,w7]:=hN qc H7 n7;apply#[m',hm,i+1,qc,H7,I7.eQ,T.keep _ _ _ iM λb hb o e=>(I7.pin (b,o) (mJ _ (mJ _ (IZ hb e)))).1,λb hb=>?_,w7];let#[o,e,d]:=T.obj _ _ iM b hb;exact (I7.pin (b,o) (mJ _ (mJ _ (IZ hb e)))).2.1
 cases f with
 |next=>let#[qc,H7,I7,n7]:=q7;exact again I7 n7
 |cont=>let#[qc,H7,I7,n7]:=q7;exact again I7 n7
 |brk=>let#[qc,H7,I7,q7]:=q7;exact#[qc,H7,I7.eQ,q7]
 |ret v=>let#[x7,qc,H7,I7,r7,q7]:=q7;exact#[x7,qc,H7,I7.eQ,r7,q7]
theorem gh{K:ai}{a:Addr}{xs:ag}{g:TG}{D:Ends}{H:Hp}(Pv:bO)(h0:Pv 0 σ H)(hl:∀i σ H,i<=xs.length->Pv i σ H->dY K H a xs)(hs:∀i x σ H,xs[i]? = some x->Pv i σ H->g x σ H λgm H2=>tb { D with nx:=Pv (i+1),ct:=Pv (i+1),bk:=D.nx } gm H2)(hd:∀σ H,Pv xs.length σ H->D.nx σ H) :
  ∃W:Nat->Nat->St->Hp->Prop,(∃m,W 0 m σ H)/\∀i m σ H,W i m σ H->
   ((yb K a).stop i H/\D.nx σ H)∨((yb K a).go i H/\∃N:St->Hp->Prop,(∀aV H',N aV H'->∃m',m'<m/\W (i+1) m' aV H')/\∀x H',(yb K a).uO i H x H'->g x σ H' λgm H2=>tb { D with nx:=N,ct:=N,bk:=D.nx } gm H2):=by
 apply#[λi m σ H=>m=xs.length - i/\i<=xs.length/\Pv i σ H,#[xs.length,by simp,gB _,h0],?_];rintro i m σ H ⟨rfl,hi,p⟩;let q:=hl i σ H hi p;by_cases dW:i<xs.length
 ·apply .inr #[#[xs,xs[i],q,by simp[dW]],Pv (i+1),λaV H' p'=>#[xs.length - (i+1),by omega,U,dW,p'],λx H' y=>?_];let#[e,y]:=y;subst e;exact hs i x σ _ (y xs q) p
 have e:i=xs.length:=by omega
 subst e;exact .inl #[#[xs,q,a_ _],hd σ H p]
theorem BG{g:TG}{D:Ends}{H:Hp}(Pv:bO)(h0:Pv 0 σ H)(hs:∀i σ H,i<n->Pv i σ H->g (.int (lo+i)) σ H λgm H2=>tb { D with nx:=Pv (i+1),ct:=Pv (i+1),bk:=D.nx } gm H2)(hd:∀σ H,Pv n σ H->D.nx σ H) :
  ∃W:Nat->Nat->St->Hp->Prop,(∃m,W 0 m σ H)/\∀i m σ H,W i m σ H->
   ((BV lo n).stop i H/\D.nx σ H)∨((BV lo n).go i H/\∃N:St->Hp->Prop,(∀aV H',N aV H'->∃m',m'<m/\W (i+1) m' aV H')/\∀x H',(BV lo n).uO i H x H'->g x σ H' λgm H2=>tb { D with nx:=N,ct:=N,bk:=D.nx } gm H2):=by
 apply#[λi m σ H=>m=n - i/\i<=n/\Pv i σ H,#[n,by simp,gB _,h0],?_];rintro i m σ H ⟨rfl,hi,p⟩;by_cases dW:i<n
 ·apply .inr #[dW,Pv (i+1),λaV H' p'=>#[n - (i+1),by omega,U,dW,p'],λx H' y=>?_];let#[e,y]:=y;subst e y;exact hs i σ _ dW p
 have e:i=n:=by omega
 subst e;exact .inl #[a_ _,hd σ H p]
theorem hW_{c:TT}{D:Ends}{H:Hp}(Pv:mO)(μ:St->Hp->Nat)(h0:Pv σ H)(hs:∀σ H,Pv σ H->c σ H λb H1=>if b=true then tb { D with nx:=λaV H'=>Pv aV H'/\μ aV H'<μ σ H,ct:=λaV H'=>Pv aV H'/\μ aV H'<μ σ H,bk:=D.nx } σ H1 else D.nx σ H1)(mono:∀σ H Q Q',(∀b H1,Q b H1->Q' b H1)->c σ H Q->c σ H Q'):qh c tb D σ H:=by
 apply#[λm σ H=>m=μ σ H/\Pv σ H,#[_,U,h0],?_];rintro m σ H ⟨rfl,p⟩;apply mono σ H _ _ (λb H1 q=>?_) (hs σ H p);cases b with
 |true=>exact#[_,λaV H' ⟨p',l⟩=>#[_,l,U,p'],q]
 |false=>exact q
abbrev R2:=V->V->Hp->VK->Prop
def dO(X:Cx)(f:Aa->Aa->Sem Aa)(r:R2):Prop:=
 ∀(pins:List (Addr × Obj)) (s:Ab) (σ:St) (H:Hp) (x y:V) (v u:Aa) (Q:VK),Inv X pins σ H s->RelV x v->RelV y u->r x y H Q->
  wpAny (model X.prog X.w) X.A (f v u) (EP X pins σ Q) X.xe s
def OV(X:Cx)(f:Aa->Sem Aa)(r:V->Hp->VK->Prop):Prop:=
 ∀(pins:List (Addr × Obj)) (s:Ab) (σ:St) (H:Hp) (x:V) (v:Aa) (Q:VK),Inv X pins σ H s->RelV x v->r x H Q->
  wpAny (model X.prog X.w) X.A (f v) (EP X pins σ Q) X.xe s
def gE(X:Cx)(f:Aa)(r:ag->Hp->VK->Prop):Prop:=
 ∀(pins:List (Addr × Obj)) (s:Ab) (σ:St) (H:Hp) (xs:ag) (us:aj) (Q:VK),Inv X pins σ H s->Vals xs us->r xs H Q->
  wpAny (model X.prog X.w) X.A (call f us) (EP X pins σ Q) X.xe s
def F6(r:R2)(ta tb:TE):TE:=λσ H Q=>ta σ H λx H1=>tb σ H1 λy H2=>r x y H2 Q
def VV(r:V->Hp->VK->Prop)(ta:TE):TE:=λσ H Q=>ta σ H λx H1=>r x H1 Q
inductive rI (C:Int->Int->Prop) (g:Int->Int->V) (x:V) (y:V) (H:Hp) (Q:VK):Prop
 |mk:∀i j,x=.int i->y=.int j->C i j->Q (g i j) H->rI C g x y H Q
inductive u7 (g:Int->Int->V) (x:V) (y:V) (H:Hp) (Q:VK):Prop
 |mk:∀i j,x=.int i->y=.int j->Q (g i j) H->u7 g x y H Q
inductive rU (g:Int->V) (x:V) (H:Hp) (Q:VK):Prop
 |mk:∀i,x=.int i->Q (g i) H->rU g x H Q
variable{r:R2}
variable{g:Int->Int->Int}
variable{j:Int}
section
variable{X:Cx}{a b c:Expr}{ta tb tc:TE}{pos:Pos}
theorem AB(ha:PE X a ta)(hb:PE X b tb){s:Ab}{H:Hp}{R:V->V->Hp->Prop}(I:Inv X pins σ H s)(h:ta σ H λx H1=>tb σ H1 λy H2=>R x y H2){Q:Aa->Ab->Prop}{f:Aa->Aa->Sem Aa}(hf:∀v u s2 x y H2,Inv X pins σ H2 s2->RelV x v->RelV y u->R x y H2->wpAny (model X.prog X.w) X.A (f v u) Q X.xe s2) :
  wpAny (model X.prog X.w) X.A (eval a X.env) (λv aK=>wpAny (model X.prog X.w) X.A (eval b X.env) (λu jq=>wpAny (model X.prog X.w) X.A (f v u) Q X.xe jq) X.xe aK) X.xe s:=by
 apply aP (ha pins s σ H _ I h) λv s1 ⟨x,H1,I1,r1,q1⟩=>?_;apply aP (hb pins s1 σ H1 _ I1 q1) λu s2 ⟨y,H2,I2,r2,q2⟩=>?_;exact hf v u s2 x y H2 I2 r1 r2 q2
theorem bJ{op:Operator}(ho:dO X (binaryOp op) r)(ha:PE X a ta)(hb:PE X b tb):PE X (.BinOp a op b pos) (F6 r ta tb):=by
 intro pins s σ H Q I h;exact wpAny_BinOp (AB ha hb I h λv u s2 x y H2 I2 rx ry q=>ho pins s2 σ H2 x y v u Q I2 rx ry q)
theorem Qu{op:UnaryOp}{r:V->Hp->VK->Prop}(ho:OV X (unaryOp op) r)(ha:PE X a ta):PE X (.UnaryOp op a pos) (VV r ta):=by
 intro pins s σ H Q I h;exact UnaryOp_ (aP (ha pins s σ H _ I h) λv s1 ⟨x,H1,I1,r1,q1⟩=>ho pins s1 σ H1 x v Q I1 r1 q1)
theorem A5{f:Aa->Aa->Sem Aa}{C:Int->Int->Prop}(rule:∀(i j:Int) (t u:Tok) (s:Ab) (Q:Aa->Ab->Prop) (E:Aa->Ab->Prop),C i j->Q (.int (g i j) s.toks) { s with toks:=s.toks+1 }->wpAny (model X.prog X.w) X.A (f (.int i t) (.int j u)) Q E s) :
  dO X f (rI C λi j=>.int (g i j)):=by
 intro pins s σ H x y v u Q I rx ry h;let#[i,j,rfl,rfl,hc,q]:=h;let#[t,rfl]:=rx;let#[t',rfl]:=ry;exact rule i j t t' s _ _ hc #[.int (g i j),H,I.tok _,#[_,U],q]
theorem C_{f:Aa->Aa->Sem Aa}(rule:∀(i j:Int) (t u:Tok) (s:Ab) (Q:Aa->Ab->Prop) (E:Aa->Ab->Prop),Q (.int (g i j) s.toks) { s with toks:=s.toks+1 }->wpAny (model X.prog X.w) X.A (f (.int i t) (.int j u)) Q E s) :
  dO X f (u7 λi j=>.int (g i j)):=by
 intro pins s σ H x y v u Q I rx ry h;let#[i,j,rfl,rfl,q]:=h;let#[t,rfl]:=rx;let#[t',rfl]:=ry;exact rule i j t t' s _ _ #[.int (g i j),H,I.tok _,#[_,U],q]
theorem vk{f:Aa->Aa->Sem Aa}{g:Int->Int->Bool}
  (rule:∀(i j:Int) (t u:Tok) (s:Ab) (Q:Aa->Ab->Prop) (E:Aa->Ab->Prop),Q (.bool (g i j)) s->wpAny (model X.prog X.w) X.A (f (.int i t) (.int j u)) Q E s) :
  dO X f (u7 λi j=>.bl (g i j)):=by
 intro pins s σ H x y v u Q I rx ry h;let#[i,j,rfl,rfl,q]:=h;let#[t,rfl]:=rx;let#[t',rfl]:=ry;exact rule i j t t' s _ _ #[.bl (g i j),H,I,U,q]
def Pa(i j:Int):Prop:=0<j/\j<1073741824
def O_(i j:Int):Prop:=0<=j/\j<=1000000/\i.natAbs<2 ^ 64
def AV(i j:Int):Prop:=(-(2 ^ 64)<i/\i<2 ^ 64)∨(-(2 ^ 64)<j/\j<2 ^ 64)
theorem AV.ok{i:Int}(h:AV i j):IntMulOk i j:=by
 rcases h with⟨h1,h2⟩|⟨h1,h2⟩
 ·exact .of_left (intBits_le_64 h1 h2)
 exact .of_right (intBits_le_64 h1 h2)
theorem ia:dO X (binaryOp .Add) (u7 λi j=>.int (i+j)):=C_ λ_ _ _ _ _ _ _ q=>add_int q
theorem Bx:dO X (binaryOp .Sub) (u7 λi j=>.int (i - j)):=C_ λ_ _ _ _ _ _ _ q=>sub_int q
theorem iz:dO X (binaryOp .Mult) (rI AV λi j=>.int (i * j)):=A5 λ_ _ _ _ _ _ _ hc q=>mul_int q hc.ok
theorem Fe:dO X (binaryOp .FloorDiv) (rI Pa λi j=>.int (i / j)):=A5 λi j _ _ _ _ _ hc q=>by
 have h1:(0:Int)<j:=hc.1;have h2:j<1073741824:=hc.2;exact floordiv_int Z1 (by rw[Int.fdiv_eq_ediv_of_nonneg i Z1];exact q) (.inl (PyProof.noPylong_small Z1))
theorem Aw:dO X (binaryOp .Mod) (rI (λ_ j=>0<j) λi j=>.int (i % j)):=A5 λi j _ _ _ _ _ hc q=>by
 have h1:(0:Int)<j:=hc;exact mod_int' Z1 (by rw[Int.fmod_eq_emod_of_nonneg i Z1];exact q)
theorem Yh:dO X (binaryOp .Pow) (rI O_ λi j=>.int (i ^ j.toNat)):=A5 λ_ _ _ _ _ _ _ hc q=>pow_int_small hc.1 hc.2.1 hc.2.2 q
theorem VG{f:Aa->Sem Aa}{g:Int->Int}
  (rule:∀(i:Int) (t:Tok) (s:Ab) (Q:Aa->Ab->Prop) (E:Aa->Ab->Prop),Q (.int (g i) s.toks) { s with toks:=s.toks+1 }->wpAny (model X.prog X.w) X.A (f (.int i t)) Q E s) :
  OV X f (rU λi=>.int (g i)):=by
 intro pins s σ H x v Q I rx h;let#[i,rfl,q]:=h;let#[t,rfl]:=rx;exact rule i t s _ _ #[.int (g i),H,I.tok _,#[_,U],q]
theorem QY:OV X (unaryOp .USub) (rU λi=>.int (-i)):=VG λ_ _ _ _ _ q=>neg_int q
end
def CN:V->V->Bool
 |.non,.non=>true | .non,.int _=>true | .int _,.non=>true | .non,.bl _=>true | .bl _,.non=>true | .non,.str _=>true | .str _,.non=>true
 |.int _,.int _=>true | .bl _,.bl _=>true | .str _,.str _=>true | .byt _,.byt _=>true
 |.int _,.str _=>true | .str _,.int _=>true | .bl _,.str _=>true | .str _,.bl _=>true
 |_,_=>false
def WA:R2:=λx y H Q=>CN x y=true/\Q (.bl (decide (x=y))) H
def Wy:R2:=λx y H Q=>CN x y=true/\Q (.bl (!decide (x=y))) H
theorem Rz{i:Int}:decide (V.int i=V.int j)=(i == j):=by
 rw[Bool.eq_iff_iff];simp
theorem QO{i j:Bool}:decide (V.bl i=V.bl j)=(i == j):=by
 rw[Bool.eq_iff_iff];simp
theorem RY{i j:Str}:decide (V.str i=V.str j)=(i == j):=by
 rw[Bool.eq_iff_iff];simp
theorem RG{i j:Array UInt8}:decide (V.byt i=V.byt j)=(i.toList == j.toList):=by
 rw[Bool.eq_iff_iff];cases i;cases j;simp
variable{A6:CmpOp}{r':R2}
section
variable{X:Cx}{a b c:Expr}{ta tb tc:TE}{pos:Pos}
theorem fF{H:Hp}{s:Ab}{Q:VK}{k k':Bool}(I:Inv X pins σ H s)(q:Q (.bl k) H)(e:k=k'):EP X pins σ Q (.bool k') s:=by
 subst e;exact#[.bl k,H,I,U,q]
theorem Ew:dO X (compareOp .Eq) WA:=by
 intro pins s σ H x y v u Q I rx ry h;let#[hs,q]:=h;cases x with
 |non=>
  cases rx;cases y with
  |non=>cases ry;exact PySem.EqNone.eq_none_none (fF I q Z2)
  |bl j=>cases ry;exact PySem.EqNone.eq_none_bool (fF I q Z2)
  |int j=>let#[t',rfl]:=ry;exact PySem.EqNone.eq_none_int (fF I q Z2)
  |str j=>let#[t',rfl]:=ry;exact PySem.EqNone.eq_none_str (fF I q Z2)
  |_=>exact absurd (show false=true from hs) f_
 |bl i=>
  cases rx;cases y with
  |non=>cases ry;exact PySem.EqNone.eq_bool_none (fF I q Z2)
  |bl j=>cases ry;exact eq_bool (fF I q QO)
  |str j=>let#[t',rfl]:=ry;exact PySem.EqMixed.eq_bool_str (fF I q Z2)
  |_=>exact absurd (show false=true from hs) f_
 |int i=>
  let#[t,rfl]:=rx;cases y with
  |non=>cases ry;exact PySem.EqNone.eq_int_none (fF I q Z2)
  |int j=>let#[t',rfl]:=ry;exact eq_int (fF I q Rz)
  |str j=>let#[t',rfl]:=ry;exact PySem.EqMixed.eq_int_str (fF I q Z2)
  |_=>exact absurd (show false=true from hs) f_
 |str i=>
  let#[t,rfl]:=rx;cases y with
  |non=>cases ry;exact PySem.EqNone.eq_str_none (fF I q Z2)
  |bl j=>cases ry;exact PySem.EqMixed.eq_str_bool (fF I q Z2)
  |int j=>let#[t',rfl]:=ry;exact PySem.EqMixed.eq_str_int (fF I q Z2)
  |str j=>let#[t',rfl]:=ry;exact eq_str (fF I q RY)
  |_=>exact absurd (show false=true from hs) f_
 |byt i=>
  let#[t,rfl]:=rx;cases y with
  |byt j=>let#[t',rfl]:=ry;exact PySem.W.eq_bytes (fF I q RG)
  |_=>exact absurd (show false=true from hs) f_
 |_=>cases y<;>exact absurd (show false=true from hs) f_
theorem s_:dO X (compareOp .NotEq) Wy:=by
 intro pins s σ H x y v u Q I rx ry h;let#[hs,q]:=h;cases x with
 |non=>
  cases rx;cases y with
  |non=>cases ry;exact PySem.EqNone.ne_none_none (fF I q Z2)
  |bl j=>cases ry;exact PySem.EqNone.ne_none_bool (fF I q Z2)
  |int j=>let#[t',rfl]:=ry;exact PySem.EqNone.ne_none_int (fF I q Z2)
  |str j=>let#[t',rfl]:=ry;exact PySem.EqNone.ne_none_str (fF I q Z2)
  |_=>exact absurd (show false=true from hs) f_
 |bl i=>
  cases rx;cases y with
  |non=>cases ry;exact PySem.EqNone.ne_bool_none (fF I q Z2)
  |bl j=>cases ry;exact ne_bool (fF I q (eF not QO))
  |str j=>let#[t',rfl]:=ry;exact PySem.EqMixed.ne_bool_str (fF I q Z2)
  |_=>exact absurd (show false=true from hs) f_
 |int i=>
  let#[t,rfl]:=rx;cases y with
  |non=>cases ry;exact PySem.EqNone.ne_int_none (fF I q Z2)
  |int j=>let#[t',rfl]:=ry;exact ne_int (fF I q (eF not Rz))
  |str j=>let#[t',rfl]:=ry;exact PySem.EqMixed.ne_int_str (fF I q Z2)
  |_=>exact absurd (show false=true from hs) f_
 |str i=>
  let#[t,rfl]:=rx;cases y with
  |non=>cases ry;exact PySem.EqNone.ne_str_none (fF I q Z2)
  |bl j=>cases ry;exact PySem.EqMixed.ne_str_bool (fF I q Z2)
  |int j=>let#[t',rfl]:=ry;exact PySem.EqMixed.ne_str_int (fF I q Z2)
  |str j=>let#[t',rfl]:=ry;exact ne_str (fF I q (eF not RY))
  |_=>exact absurd (show false=true from hs) f_
 |byt i=>
  let#[t,rfl]:=rx;cases y with
  |byt j=>let#[t',rfl]:=ry;exact PySem.W.ne_bytes (fF I q (eF not RG))
  |_=>exact absurd (show false=true from hs) f_
 |_=>cases y<;>exact absurd (show false=true from hs) f_
theorem Qr:dO X (compareOp .Lt) (u7 λi j=>.bl (decide (i<j))):=vk λ_ _ _ _ _ _ _ q=>lt_int q
theorem vR:dO X (compareOp .LtE) (u7 λi j=>.bl (decide (i<=j))):=vk λ_ _ _ _ _ _ _ q=>le_int q
theorem GW:dO X (compareOp .Gt) (u7 λi j=>.bl (decide (j<i))):=vk λ_ _ _ _ _ _ _ q=>gt_int q
theorem Qy:dO X (compareOp .GtE) (u7 λi j=>.bl (decide (j<=i))):=vk λ_ _ _ _ _ _ _ q=>ge_int q
inductive UA (x:V) (y:V) (H:Hp) (Q:VK):Prop
 |mk:∀i j,x=.str i->y=.str j->Q (.bl (decide (i.cps.toList<j.cps.toList))) H->UA x y H Q
theorem gQ_:dO X (compareOp .Lt) UA:=by
 intro pins s σ H x y v u Q I rx ry h;let#[i,j,rfl,rfl,q]:=h;let#[t,rfl]:=rx;let#[t',rfl]:=ry;exact lt_str (fF I q rfl)
theorem X3:dO X (compareOp .Is) (λx y H Q=>y=.non/\Q (.bl (decide (x=.non))) H):=by
 intro pins s σ H x y v u Q I rx ry h;let#[rfl,q]:=h;cases ry;apply is_none_gen (fF I q ?_)
 cases x<;>first
  |(cases rx;rfl)
  |(let#[t,rfl]:=rx;rfl)
theorem rQ(b:Expr)(h:op≠.In:=by decide)(h2:op≠.NotIn:=by decide):behindInMarks op b=false:=by
 have e1:(op == CmpOp.In)=false:=by cases op<;>first|rfl|exact absurd rfl h
 have e2:(op == CmpOp.NotIn)=false:=by cases op<;>first|rfl|exact absurd rfl h2
 cases b<;>simp[behindInMarks,e1,e2]
theorem wk(ho:dO X (compareOp op) r)(ha:PE X a ta)(hb:PE X b tb)(hm:behindInMarks op b=false:=by exact rQ _):PE X (.Compare a [op] [b] pos) (F6 r ta tb):=by
 intro pins s σ H Q I h;exact wpAny_Compare1 (AB ha hb I h λv u s2 x y H2 I2 rx ry q=>ho pins s2 σ H2 x y v u Q I2 rx ry q) hm
inductive qk (Q:Bool->Hp->Prop) (x:V) (H':Hp):Prop
 |mk:∀k,x=.bl k->Q k H'->qk Q x H'
def wM(t:TE):TT:=λσ H Q=>t σ H λx H'=>qk Q x H'
theorem fg(ho:dO X (compareOp op) r)(ha:PE X a ta)(hb:PE X b tb)(hm:behindInMarks op b=false:=by exact rQ _):PT X (.Compare a [op] [b] pos) (wM (F6 r ta tb)):=by
 intro pins s σ H Q I h
 apply wpAny_isTrue_Compare1 (aP (ha pins s σ H _ I h) λv s1 ⟨x,H1,I1,r1,q1⟩=>aP (hb pins s1 σ H1 _ I1 q1) λu s2 ⟨y,H2,I2,r2,q2⟩=>
  aP (ho pins s2 σ H2 x y v u _ I2 r1 r2 q2) λc s3 ⟨z,H3,I3,r3,k,e,q3⟩=>?_) hm
 subst e;cases r3;exact um #[H3,I3,q3]
inductive mX (r':R2) (tc:TE) (σ:St) (Q:VK) (y:V) (z:V) (H3:Hp):Prop
 |mk:∀k,z=.bl k->(if k=true then tc σ H3 λw' H4=>r' y w' H4 Q else Q (.bl false) H3)->mX r' tc σ Q y z H3
def qt(r r':R2)(ta tb tc:TE):TE:=λσ H Q=>ta σ H λx H1=>tb σ H1 λy H2=>r x y H2 λz H3=>mX r' tc σ Q y z H3
theorem SK(ho:dO X (compareOp op) r)(nU:dO X (compareOp A6) r')(ha:PE X a ta)(hb:PE X b tb)(hc:PE X c tc)(hm:lastMarks [op,A6] [b,c]=false:=by with_unfolding_all rfl):PE X (.Compare a [op,A6] [b,c] pos) (qt r r' ta tb tc):=by
 intro pins s σ H Q I h
 apply Compare_chain (aP (ha pins s σ H _ I h) λv s1 ⟨x,H1,I1,r1,q1⟩=>chain_link (aP (hb pins s1 σ H1 _ I1 q1) λu s2 ⟨y,H2,I2,r2,q2⟩=>
  aP (ho pins s2 σ H2 x y v u _ I2 r1 r2 q2) λd s3 ⟨z,H3,I3,r3,k,e,q3⟩=>?_)) hm
 subst e;cases r3;apply um ?_;cases k with
 |false=>exact ite_ff #[.bl false,H3,I3,U,q3]
 |true=>exact ite_tt (chain_last (aP (hc pins s3 σ H3 _ I3 q3) λw' s4 ⟨z',H4,I4,r4,q4⟩=>nU pins s4 σ H4 y z' u w' Q I4 r2 r4 q4))
theorem SN(ho:dO X (compareOp op) r)(nU:dO X (compareOp A6) r')(ha:PE X a ta)(hb:PE X b tb)(hc:PE X c tc)(hm:lastMarks [op,A6] [b,c]=false:=by with_unfolding_all rfl):PT X (.Compare a [op,A6] [b,c] pos) (wM (qt r r' ta tb tc)):=by
 intro pins s σ H Q I h
 apply isTrue_chain (aP (ha pins s σ H _ I h) λv s1 ⟨x,H1,I1,r1,q1⟩=>test_link (aP (hb pins s1 σ H1 _ I1 q1) λu s2 ⟨y,H2,I2,r2,q2⟩=>
  aP (ho pins s2 σ H2 x y v u _ I2 r1 r2 q2) λd s3 ⟨z,H3,I3,r3,k,e,q3⟩=>?_)) hm
 subst e;cases r3;apply um ?_;cases k with
 |false=>
  let#[k',e',q']:=q3;cases e';exact ite_ff #[H3,I3,q']
 |true=>
  apply ite_tt (test_last (aP (hc pins s3 σ H3 _ I3 q3) λw' s4 ⟨z',H4,I4,r4,q4⟩=>aP (nU pins s4 σ H4 y z' u w' _ I4 r2 r4 q4) λd' s5 ⟨z2,H5,I5,r5,k2,e2,q5⟩=>?_));subst e2;cases r5;exact um #[H5,I5,q5]
theorem gr:(sizeLine:Nat)<2 ^ 63:=by rw[cU];decide
inductive UJ (x:V) (y:V) (H:Hp) (Q:VK):Prop
 |mk:∀i j,x=.str i->y=.str j->i.length+j.length<=sizeLine->Q (.str (i++j)) H->UJ x y H Q
theorem fl_:dO X (binaryOp .Add) UJ:=by
 intro pins s σ H x y v u Q I rx ry h;let#[i,j,rfl,rfl,hz,q]:=h;let#[t,rfl]:=rx;let#[t',rfl]:=ry;exact add_str (λt' tk=>⟨.str (i++j),H,I.tok _,⟨_,rfl⟩,q⟩) hz
theorem vals1{x:V}{us:aj}(r:Vals [x] us):∃u,us=[u]/\RelV x u:=by
 cases r with
 |cons r1 r2=>cases r2;exact#[_,U,r1]
theorem vals2{x y:V}{us:aj}(r:Vals [x,y] us):∃u w',us=[u,w']/\RelV x u/\RelV y w':=by
 cases r with
 |cons r1 r2=>
  cases r2 with
  |cons r3 r4=>cases r4;exact#[_,_,U,r1,r3]
inductive Tz (xs:ag) (H:Hp) (Q:VK):Prop
 |mk:∀i,xs=[.int i]->Q (.int (if i<0 then -i else i)) H->Tz xs H Q
theorem hE_:gE X (.builtin "abs") Tz:=by
 intro pins s σ H xs us Q I r h;let#[i,rfl,q]:=h;let#[u,rfl,t,rfl]:=vals1 r;exact call_abs_int λu tk=>#[.int (if i<0 then -i else i),H,I.tok _,#[_,U],q]
theorem To:gE X (.type "int") (λxs H Q=>(∃i,xs=[.int i]/\Q (.int i) H)∨∃k,xs=[.bl k]/\Q (.int (if k then 1 else 0)) H):=by
 intro pins s σ H xs us Q I r h;rcases h with⟨i,rfl,q⟩|⟨k,rfl,q⟩
 ·let#[u,rfl,t,rfl]:=vals1 r;exact call_int_int #[.int i,H,I,#[_,U],q]
 let#[u,rfl,r1]:=vals1 r;cases r1;exact call_int_bool #[.int (if k then 1 else 0),H,I.tok _,#[_,U],q]
end
structure mN (h:Heap) (x dx C:Addr) (mA:Str->Option Aa):Prop where
 obj:h.get? x\PySem.W.instObj C dx
 ns:h.Ns1 dx mA
 ne:dx≠x
variable{mA:Str->Option Aa}
theorem gb_{dx:Addr}(n:h.Ns1 dx mA):∃od,h.get? dx\od/\∀name,PySem.W.lookIn name od\mA name:=by
 let#[o,es,ep,ho,hd,hk,_,hm]:=n;apply#[o,ho,λname=>?_];let e:=hm name;unfold nsFind findBy at e;rw[<- Array.find?_toList] at e;unfold PySem.W.lookIn;rw[hd];dsimp only;split
 ·rename_i y q
  rw[q] at e;exact eF some e
 rename_i q
 rw[q] at e
 have a:es.toList.any (·.refKey)=false:=by
  rw[List.any_eq_false];intro y hy;let#[z,t,Lj]:=hk y (Array.mem_toList_iff.mp hy);simp[DictEntry.refKey,Lj]
 have a':¬es.toList.any (·.refKey)=true:=by rw[a];exact f_
 rw[aA a'];exact eF some e
theorem mN.look{x dx C:Addr}(I:mN h x dx C mA):∃od,PySem.W.InstAt h x (PySem.W.instObj C dx) C (some od)/\∀name,PySem.W.lookIn name od\mA name:=
 let #[od,ho,hl]:=gb_ I.ns
 #[od,#[I.obj,U,U,ho],hl]
variable{pl:Sem Bool}
variable{kw:List (Str × Aa)}
section
variable{prog:Ad}{w:Ag}{A:Af}{E:Aa->Ab->Prop}{s:Ab}{K:ai}{x dx C f:Addr}{mA:Str->Option Aa}{name:Str}{v:Aa}
theorem Zg{expr:Bool}{Q:Aa->Ab->Prop}(X:K.In s.heap)(I:mN s.heap x dx C mA)(hg:PySem.W.plainGet K C name=true)(hh:PySem.W.hasDictIn K C=true)
  (ha:PySem.W.findIn K (.ref C) name\none) (hv:mA name\v) (DV:PySem.W.handedIn v=true) (h:Q v { s with toks:=s.toks+1 }) :
  wpAny (model prog w) A (getAttr (.ref x) name expr) Q E s:=by
 let#[od,J,hl]:=I.look;exact PySem.W.get_value X J (PySem.W.plainGet_of hg).1 (PySem.W.findObj_own hh ha U (by rw[hl,hv])) DV h
theorem hH_{Q:Aa × aj->Ab->Prop}(X:K.In s.heap)(I:mN s.heap x dx C mA)(hg:PySem.W.plainGet K C name=true)(hf:PySem.W.findIn K (.ref C) name\some (.ref f))(ht:PySem.W.isFn K (.ref f)=true)(hv:mA name=none)(h:Q (.ref f,[.ref x]) s) :
  wpAny (model prog w) A (getMethod (.ref x) name pl) Q E s:=by
 let#[od,J,hl]:=I.look;exact PySem.W.method_fn X J (PySem.W.plainGet_of hg).1 (PySem.W.plainGet_of hg).2 hf (beq_iff_eq.mp ht) (by show (PySem.W.lookIn name od).map (·.isSome)=some false;rw[hl,hv];rfl) h
theorem Zt{ns:af}{Q:Unit->Ab->Prop}(X:K.In s.heap)(I:mN s.heap x dx C mA)
  (hs:PySem.W.findIn K (.ref C) "__setattr__"\some (.builtin "object.__setattr__")) (hp:PySem.W.plainOver K C=true) (ht:PySem.W.takerIn K C name\none) (hh:PySem.W.hasDictIn K C=true)
  (hw:PySem.Within mA ns) (hsz:ns.length<=sizeLine)
  (h:∀h',mN h' x dx C (λy=>if y=name then some v else mA y)->Heap.SameBut dx s.heap h'->Q () { s with heap:=h',toks:=s.toks+2 }) :
  wpAny (model prog w) A (setAttr (.ref x) name v) Q E s:=by
 let#[od,J,hl]:=I.look;apply PySem.W.set_plain X J hs (PySem.W.osa_open (s:={ s with toks:=s.toks+1 }) (r:=none) X J hp ht λb=>?_);let#[cd,hc,iU]:=PySem.W.any_some hh;have hx:s.heap.get? x=some #[.ref C,some dx,.plain,#[]]:=I.obj;apply ae (aB (ae (ae (wpAny_loadPart hx (ae (PySem.W.Looks.here (s:={ s with toks:=s.toks+1 }) (PySem.W.looks_clsIn X hc) ?_))))));rw[iU];apply aB (a:=some dx) (ae (aB (ae ?_)));apply wpAny_nsSet1 (s:={ s with toks:=s.toks+1 }) I.ns λh' xy vE=>?_;let#[oD,esD,epD,hoD,hdD,hcD]:=xy.count (PySem.Within.cons name v hw);apply ae (wpAny_lookBehind hoD (by rw[hdD];exact pastItsLine_dict (gj hcD (by rw[jm];omega))) ?_);exact aB (h _ #[(vE.2 _ (bG I.ne)).trans I.obj,xy,I.ne] vE)
theorem hP_{R:Result->Ab->Prop}{vs:aj}(X:K.In s.heap)(hm:PySem.W.makesIn K C=true)(hi:PySem.W.findIn K (.ref C) "__init__"\some (.ref f))(hf:PySem.W.typeIn K (.ref f)\.type "function")(h:codeAny (model prog w) (A.under (.builtin "type.__call__" #[.ref C::vs,kw])) (.call (.ref f) #[.ref (s.heap.objs.size+1)::vs,kw]) (PySem.W.InitBack (s.heap.objs.size+1) R)
   { s with heap:=(s.heap.push PySem.W.emptyDict).push (PySem.W.instObj C s.heap.objs.size) }) :
  codeAny (model prog w) A (.call (.ref C) #[vs,kw]) R s:=by
 let#[hh,g,d,t,os]:=s;exact PySem.W.make_core (PySem.W.makes_of X hm) (PySem.W.looks_findIn X hi) (λself=>PySem.W.bind_fn X self hf) (.inl U) h
end
def az(f:Str)(v:V):List (Str × V)->List (Str × V)
 |[]=>[(f,v)]
 |(g,x)::r=>if g=f then (g,v)::r else (g,x)::az f v r
theorem gA(f g:Str)(v:V):∀fs:List (Str × V),(az f v fs).lookup g=if g=f then some v else fs.lookup g
 |[]=>by
  show List.lookup g [(f,v)]=_;by_cases h:g=f
  ·have hb:(g == f)=true:=beq_iff_eq.mpr h;simp only[List.lookup,hb,aI h]
  ·have hb:(g == f)=false:=beq_eq_false_iff_ne.mpr h;simp only[List.lookup,hb,aA h]
 |(k,x)::r=>by
  let ih:=gA f g v r;rw[show az f v ((k,x)::r)=(if k=f then (k,v)::r else (k,x)::az f v r) from U];by_cases hk:k=f
  ·rw[aI hk];by_cases h:g=k
   ·have hb:(g == k)=true:=beq_iff_eq.mpr h;simp only[List.lookup,hb,aI (h.trans hk)]
   have hb:(g == k)=false:=beq_eq_false_iff_ne.mpr h;simp only[List.lookup,hb,aA (λe:g=f=>h (e.trans hk.symm))]
  rw[aA hk];by_cases h:g=k
  ·have hb:(g == k)=true:=beq_iff_eq.mpr h;simp only[List.lookup,hb,aA (λe:g=f=>hk (h.symm.trans e))]
  have hb:(g == k)=false:=beq_eq_false_iff_ne.mpr h;simp only[List.lookup,hb];exact ih
theorem NR(f:Str)(v:V):∀fs:List (Str × V),f∈(az f v fs).map (·.1)/\∀g,g∈fs.map (·.1)->g∈(az f v fs).map (·.1)
 |[]=>#[by simp[az],λg h=>by simp at h]
 |(k,x)::r=>by
  let#[i1,i2]:=NR f v r;rw[show az f v ((k,x)::r)=(if k=f then (k,v)::r else (k,x)::az f v r) from U];by_cases hk:k=f
  ·rw[aI hk];subst hk;exact#[by simp,λg h=>by simpa using h]
  rw[aA hk];apply#[?_,λg h=>?_]
  ·rw[eY];exact fM _ i1
  rw[eY] at h ⊢;rcases bW.mp h with e|e
  ·exact bW.mpr (.inl e)
  exact fM _ (i2 g e)
theorem UF(f:Str)(v:V):∀fs:List (Str × V),(az f v fs).length<=fs.length+1
 |[]=>by simp[az]
 |(k,x)::r=>by
  let ih:=UF f v r;rw[show az f v ((k,x)::r)=(if k=f then (k,v)::r else (k,x)::az f v r) from U];by_cases hk:k=f
  ·rw[aI hk,jm,jm];omega
  rw[aA hk,jm,jm];omega
variable{v:V}{o:Option Aa}
theorem e_.some_of(r:e_ (some v) o):∃u,o\u/\RelV v u:=by
 cases o with
 |none=>exact (show False from r).elim
 |some u=>exact#[u,U,r]
theorem e_.none_of(r:e_ none o):o=none:=by
 cases o with
 |none=>rfl
 |some u=>exact (show False from r).elim
theorem gI_(r:RelV v u):PySem.W.handedIn u=true:=by
 cases v with
 |non=>cases (show u=Value.none from r);rfl
 |bl b=>cases (show u=Value.bool b from r);rfl
 |int i=>let#[t,e]:=(show ∃t,u=Value.int i t from r);cases e;rfl
 |str x=>let#[t,e]:=(show ∃t,u=Value.str x t from r);cases e;rfl
 |byt b=>let#[t,e]:=(show ∃t,u=Value.bytes b t from r);cases e;rfl
 |flt b=>let#[t,e]:=(show ∃t,u=Value.float b t from r);cases e;rfl
 |ref a=>cases (show u=Value.ref a from r);rfl
 |ty n=>cases (show u=Value.type n from r);rfl
section
variable{P:Ad}{w:Ag}{H H':Hp}{h h':Heap}{a C dx:Addr}{fs fs':List (Str × V)}
theorem HQ(ax:fR P w H h)(e:H a\.ins C dx fs):∃mA,mN h a dx C mA/\(∀f,e_ (fs.lookup f) (mA f))/\PySem.Within mA (fs.map (·.1))/\fs.length<=1000/\H dx\.own a:=by
 let#[d,z,ne,ob,mA,n,r,q]:=(show fA P w H h a (.ins C dx fs) from ax a _ e);exact#[mA,#[ob,n,ne],r,q,z,d]
end
structure mQ (K:ai) (C:Addr):Prop where
 pg:PySem.W.plainGet K C Str.empty=true
 hd:PySem.W.hasDictIn K C=true
 po:PySem.W.plainOver K C=true
 sa:PySem.W.findIn K (.ref C) "__setattr__"\some (.builtin "object.__setattr__")
theorem mQ.get{K:ai}{C:Addr}(c:mQ K C)(f:Str):PySem.W.plainGet K C f=true:=c.pg
def mr(K:ai)(C:Addr)(f:Str):Prop:=PySem.W.findIn K (.ref C) f=some none
theorem mr.Ci{K:ai}{C:Addr}{f:Str}(n:mr K C f):PySem.W.takerIn K C f\none:=by
 unfold PySem.W.takerIn;rw[show PySem.W.findIn K (.ref C) f\none from n];rfl
structure Con (K:ai) (C:Addr) (f:Str) (v:V) (u:Aa):Prop where
 at_:PySem.W.findIn K (.ref C) f\some u
 rel:RelV v u
 get:PySem.W.specialIn K u "__get__"\none
 cp:PySem.W.copiedNames.contains f=false
structure Meth (K:ai) (C:Addr) (m:Str) (f:Addr):Prop where
 at_:PySem.W.findIn K (.ref C) m\some (.ref f)
 fn:PySem.W.isFn K (.ref f)=true
 kp:PySem.W.keepIn K (.ref f)=true
section
variable{X:Cx}{pins:List (Addr × Obj)}{σ:St}{H:Hp}{s:Ab}{a C dx:Addr}{fs:List (Str × V)}{f:Str}{v:V}{A:Af}{E:Aa->Ab->Prop}
theorem fi_{b:Bool}{Q:Aa->Ab->Prop}(I:Inv X pins σ H s)(e:H a\.ins C dx fs)(c:mQ X.K C)(n:mr X.K C f)(l:fs.lookup f\v)
  (h:∀u s',Inv X pins σ H s'->RelV v u->Q u s'):wpAny (model X.prog X.w) A (getAttr (.ref a) f b) Q E s:=by
 let#[mA,O,r,_,_,_]:=HQ I.ax e;let#[u,hu,ru]:=e_.some_of (v:=v) (o:=mA f) (by rw[<- l];exact r f);exact Zg I.gL O (c.get f) c.hd n hu (gI_ ru) (h u _ (I.tok _) ru)
theorem TM{m:Str}{g:Addr}{Q:Aa × aj->Ab->Prop}(I:Inv X pins σ H s)(e:H a\.ins C dx fs)(c:mQ X.K C)(k:Meth X.K C m g)(l:fs.lookup m=none)(h:Q (.ref g,[.ref a]) s):wpAny (model X.prog X.w) A (getMethod (.ref a) m pl) Q E s:=by
 let#[mA,O,r,_,_,_]:=HQ I.ax e;have hn:mA m=none:=e_.none_of (by rw[<- l];exact r m);exact hH_ I.gL O (c.get m) k.at_ k.fn hn h
theorem fo_{y:V}{Q:Unit->Ab->Prop}(I:Inv X pins σ H s)(e:H a\.ins C dx fs)(c:mQ X.K C)(n:mr X.K C f)(hl:fs.length<1000)(ry:RelV y u)(h:∀s',Inv X pins σ (upd H a (.ins C dx (az f y fs))) s'->Q () s'):wpAny (model X.prog X.w) A (setAttr (.ref a) f u) Q E s:=by
 let#[mA,O,r,wi,_,ho]:=HQ I.ax e;have hz:(fs.map (·.1)).length<=sizeLine:=by rw[ao,cU];omega
 apply Zt I.gL O c.sa c.po n.Ci c.hd wi hz λh' O' sb=>h _ ?_;have hd:∃o,h'.get? dx\o:=let #[o,_,_,e',_]:=O'.ns;#[o,e'];apply I.write (x:=a) (e:=dx) (by rw[e];exact True.intro) (.inr ho) (λb q hb z=>(sb.2 b hb).trans z) hd ?_;apply#[by rw[aw O.ne];exact ho,?_,O.ne,O'.obj,_,O'.ns,λg=>?_,λg hg=>?_]
 ·have:=UF f y fs;omega
 ·show e_ ((az f y fs).lookup g) (if g=f then some u else mA g);rw[gA];by_cases q:g=f
  ·rw[aI q,aI q];exact ry
  rw[aA q,aA q];exact r g
 by_cases q:g=f
 ·rw[q];exact (NR f y fs).1
 apply (NR f y fs).2 g (wi g λz=>hg ?_);show (if g=f then some u else mA g)=none;rw[aA q];exact z
theorem Inv.made(I:Inv X pins σ H s):Inv X pins σ (upd (upd H s.heap.objs.size (.own (s.heap.objs.size+1))) (s.heap.objs.size+1) (.ins C s.heap.objs.size []))
  { s with heap:=(s.heap.push PySem.W.emptyDict).push (PySem.W.instObj C s.heap.objs.size) }:=by
 have e1:(s.heap.push PySem.W.emptyDict).get? s.heap.objs.size\PySem.W.emptyDict:=cw s.heap U
 have e2:((s.heap.push PySem.W.emptyDict).push (PySem.W.instObj C s.heap.objs.size)).get? (s.heap.objs.size+1)\PySem.W.instObj C s.heap.objs.size:=by
  have:=cw (s.heap.push PySem.W.emptyDict) (o:=PySem.W.instObj C s.heap.objs.size) U;rwa [l7] at this
 have e3:(s.heap.push PySem.W.emptyDict).Ns s.heap.objs.size (λ_=>none):=#[PySem.W.emptyDict,#[],_,e1,U,(λe he=>absurd he Z2),λ_=>rfl];let I1:=I.laid (a:=s.heap.objs.size) (o:=.own (s.heap.objs.size+1)) (h':=s.heap.push PySem.W.emptyDict) (t':=s.toks) (λb u q=>aS _ q) (a_ _) #[_,e1];apply I1.laid (a:=s.heap.objs.size+1) (o:=.ins C s.heap.objs.size []) (t':=s.toks) (λb u q=>aS _ q) (Nat.le_of_eq (l7 _ _)) ?_;have ne:s.heap.objs.size≠s.heap.objs.size+1:=dA (Nat.lt_succ_self _);apply#[by rw[aw ne,ay],gB _,ne,e2,λ_=>none,(Heap.Ns1.of_empty e3).at λo q=>aS _ q,λ_=>True.intro,λy hy=>absurd U hy]
theorem YX{prog:Ad}{env:Env}{e:Expr}{f:Str}{s:Ab}{Q:Aa->Ab->Prop}(hb:attributeBase e f env (eval e env)=eval e env)(h:wpAny (model prog w) A (eval e env) (λo aK=>wpAny (model prog w) A (getAttr o f true) Q E aK) E s):wpAny (model prog w) A (eval (.Attribute e f pos) env) Q E s:=
 Attribute_any_ h (by rw[arm_eval_Attribute,hb])
end
inductive wR (K:ai) (f:Str) (Q:VK) (x:V) (H1:Hp):Prop
 |mk:∀a C dx fs v,x=.ref a->H1 a\.ins C dx fs->mQ K C->mr K C f->fs.lookup f\v->Q v H1->wR K f Q x H1
def JO(K:ai)(ta:TE)(f:Str):TE:=λσ H Q=>ta σ H λx H1=>wR K f Q x H1
inductive w6 (K:ai) (f:Str) (D:Ends) (σ:St) (y:V) (x:V) (H2:Hp):Prop
 |mk:∀a C dx fs,x=.ref a->H2 a\.ins C dx fs->mQ K C->mr K C f->fs.length<1000->D.nx σ (upd H2 a (.ins C dx (az f y fs)))->w6 K f D σ y x H2
def J1(K:ai)(ta tv:TE)(f:Str):TS:=λD σ H=>tv σ H λy H1=>ta σ H1 λx H2=>w6 K f D σ y x H2
section
variable{X:Cx}{o e value:Expr}{f:Str}{pos pos' JB:Pos}{ta tv:TE}
theorem gc(he:PE X e ta)(hb:attributeBase e f X.env (eval e X.env)=eval e X.env):PE X (.Attribute e f pos) (JO X.K ta f):=by
 intro pins s σ H Q I h;apply YX hb (aP (he pins s σ H _ I h) λu s1 ⟨x,H1,I1,rx,a,C,dx,fs,v,ex,ea,c,n,l,q⟩=>?_);subst ex;obtain rfl:u=Value.ref a:=rx;exact fi_ I1 ea c n l λu' s2 I2 ru=>#[v,H1,I2,ru,q]
theorem uG(ha:PE X o ta)(hv:PE X value tv)(hs:swapsWith value (some (.Attribute o f pos')) pos.line X.env=pure false):PS X (.Assign [.Attribute o f pos'] value pos) (J1 X.K ta tv f):=by
 intro pins s σ H D I h;apply plainObj_wpAny_Assign_Attribute (aP (hv pins s σ H _ I h) λu s1 ⟨y,H1,I1,ry,q⟩=>aP (ha pins s1 σ H1 _ I1 q) λov s2 ⟨x,H2,I2,rx,a,C,dx,fs,ex,ea,c,n,l,q2⟩=>?_) hs;subst ex;obtain rfl:ov=Value.ref a:=rx;exact fo_ I2 ea c n l ry λs3 I3=>#[σ,_,I3,q2]
end
section
variable{X:Cx}{pins:List (Addr × Obj)}{σ:St}{H:Hp}{s:Ab}{A:Af}{E:Aa->Ab->Prop}{Q:Aa->Ab->Prop}{c:Aa}{b:Bool}
inductive fO (K:ai) (H:Hp):V->Aa->Prop where
 |non:fO K H .non (.type "NoneType")
 |bl (x:Bool):fO K H (.bl x) (.type "bool")
 |int (i:Int):fO K H (.int i) (.type "int")
 |str (x:Str):fO K H (.str x) (.type "str")
 |flt (x:UInt64):fO K H (.flt x) (.type "float")
 |lst {a:Addr} {xs:ag} (e:H a\.lst xs):fO K H (.ref a) (.type "list")
 |frz {a:Addr} {o:Obj} {xs:ag} (e:H a\.frz o (.lst xs)):fO K H (.ref a) (.type "list")
 |tup {a:Addr} {xs:ag} (e:H a\.tup xs):fO K H (.ref a) (.type "tuple")
 |dK {a:Addr} {kvs:List (Key × V)} (e:H a\.dK kvs):fO K H (.ref a) (.type "dict")
 |dT {a:Addr} {kvs:List (aC × V)} (e:H a\.dT kvs):fO K H (.ref a) (.type "dict")
 |ins {a C dx:Addr} {fs:List (Str × V)} (e:H a\.ins C dx fs) (cl:mQ K C) (ha:PySem.W.findIn K (.ref C) "__class__"\some (.builtin "object.__class__"))
   (hn:PySem.W.specialIn K (.builtin "object.__class__") "__get__"\some (.builtin "getset_descriptor.__get__")) (GI:PySem.W.takesIn K (.builtin "object.__class__")\true)
   (hm:PySem.W.mroIn K C (.type "object")\true):fO K H (.ref a) (.ref C)
theorem TX{x:V}{t:Aa}(I:Inv X pins σ H s)(rx:RelV x u)(ty:fO X.K H x t)(e:PySem.W.kitOne X.K t c\b)(h:∀tk,Q (.bool b) { s with toks:=tk }) :
  wpAny (model X.prog X.w) A (call (.builtin "isinstance") [u,c]) Q E s:=by
 cases ty with
 |non=>cases (show u=Value.none from rx);exact sW PySem.W.kitx_none I.gL True.intro e nofun h
 |bl y=>cases (show u=Value.bool y from rx);exact sW PySem.W.kitx_bool I.gL True.intro e nofun h
 |int i=>let#[t,q]:=(show ∃t,u=Value.int i t from rx);cases q;exact sW PySem.W.kitx_int I.gL True.intro e nofun h
 |str y=>let#[t,q]:=(show ∃t,u=Value.str y t from rx);cases q;exact sW PySem.W.kitx_str I.gL True.intro e nofun h
 |flt y=>let#[t,q]:=(show ∃t,u=Value.float y t from rx);cases q;exact sW PySem.W.kitx_float I.gL True.intro e nofun h
 |@lst a xs ea=>
  cases (show u=Value.ref a from rx);let#[_,_,n,_,h1]:=(show fA X.prog X.w H s.heap a (.lst xs) from I.ax a _ ea);exact sW PySem.W.kitx_list I.gL #[_,h1,U] e nofun h
 |@frz a ob xs ea=>
  cases (show u=Value.ref a from rx);let#[_,_,_,n,_,h1]:=(show fA X.prog X.w H s.heap a (.frz ob (.lst xs)) from I.ax a _ ea);exact sW PySem.W.kitx_list I.gL #[_,h1,U] e nofun h
 |@tup a xs ea=>
  cases (show u=Value.ref a from rx);let#[_,_,_,p,_]:=(show fA X.prog X.w H s.heap a (.tup xs) from I.ax a _ ea);let#[o,h1,h2,_]:=p;exact sW PySem.W.kitx_tuple I.gL #[o,h1,h2] e nofun h
 |@dK a kvs ea=>
  cases (show u=Value.ref a from rx);let#[_,_,vs,_,p]:=(show fA X.prog X.w H s.heap a (.dK kvs) from I.ax a _ ea);let#[o,es,ep,h1,h2,_]:=p;exact sW PySem.W.kitx_dict I.gL #[o,h1,h2.1] e nofun h
 |@dT a kvs ea=>
  cases (show u=Value.ref a from rx);let#[_,_,xs,_,o,es,ep,h1,h2,_]:=(show fA X.prog X.w H s.heap a (.dT kvs) from I.ax a _ ea);exact sW PySem.W.kitx_dict I.gL #[o,h1,h2.1] e nofun h
 |@ins a C dx fs ea cl ha hn GI hm=>
  cases (show u=Value.ref a from rx);let#[mA,O,_]:=HQ I.ax ea;let#[od,J,_]:=O.look;exact sW (PySem.W.kitx_own (cl.get _) cl.hd ha hn GI hm) I.gL J e nofun h
end
structure aO (k:Nat) (A:Af):Prop where
 hd:A.handled=none
 dp:A.depth+3 * k+5<recursionLimit
 un:A.units+16 * k+200<cLine
theorem aO.mono{j:Nat}{A:Af}(r:aO k A)(h:j<=k):aO j A:=#[r.hd,by have:=r.dp;omega,by have:=r.un;omega]
theorem aO.deeper{A:Af}(r:aO (k+1) A)(env:Env):aO k (A.deeper env):=
 #[r.hd,by have:=r.dp;show A.depth+1+3 * k+5<_;omega,by have:=r.un;show A.units+3+16 * k+200<_;omega]
theorem aO.in1{A:Af}(r:aO (k+1) A):aO k A.in1:=
 #[r.hd,by have:=r.dp;show A.depth+3 * k+5<_;omega,by have:=r.un;show A.units+1+16 * k+200<_;omega]
theorem fG_{A:Af}{C:Addr}{us:aj}:(A.under (.builtin "type.__call__" #[.ref C::us,kw])).depth=A.depth+1:=by
 first|rfl|simp[Around.under,Code.weight,Code.isCreation,Code.isGuard,Code.isCaller,Code.frames,Code.isFrame,guardIds]
theorem fF_{A:Af}{C:Addr}{us:aj}:(A.under (.builtin "type.__call__" #[.ref C::us,kw])).units=A.units+1:=by
 first|rfl|simp[Around.under,Code.cUnits,Code.frames,Code.isFrame]
theorem aO.make{A:Af}(r:aO (k+1) A)(C:Addr)(us:aj)(kw:List (Str × Aa)):aO k (A.under (.builtin "type.__call__" #[.ref C::us,kw])):=
 #[r.hd,by have:=r.dp;rw[fG_];omega,by have:=r.un;rw[fF_];omega]
theorem aO.depth{A:Af}(r:aO k A):A.depth<recursionLimit:=by have:=r.dp;omega
theorem aO.units{A:Af}(r:aO k A):A.units+64<cLine:=by have:=r.un;omega
def oH:TA:=λ_ H Q=>Q [] H
def jo(ta:TE)(tr:TA):TA:=λσ H Q=>ta σ H λx H1=>tr σ H1 λxs H2=>Q (x::xs) H2
section
variable{X:Cx}{e:Expr}{es:List Expr}{te:TE}{t:TA}{pos:Pos}
theorem bF:PA X [] oH:=λ_ _ _ _ H Q I h=>Calls.spliced_nil #[[],H,I,.nil,h]
theorem iO(ha:PE X e te)(hr:PA X es t)(hs:starEach (e::es) X.env=(false,eval e X.env)::starEach es X.env:=by rfl):PA X (e::es) (jo te t):=by
 intro pos pins s σ H Q I h;rw[hs];show wpAny _ _ (spliced ((false,eval e X.env)::backTo pos (starEach es X.env))) _ _ s;apply Calls.spliced_cons (aP (ha pins s σ H _ I h) λu s1 ⟨x,H1,I1,r1,q1⟩=>?_);exact aP (hr pos pins s1 σ H1 _ I1 q1) λus s2 ⟨xs,H2,I2,r2,q2⟩=>#[x::xs,H2,I2,.cons r1 r2,q2]
def Cm(t:TA):TE:=λσ H Q=>t σ H λxs H1=>xs.length<=sizeLine/\∀p,H1 p=none->Q (.ref p) (upd H1 p (.tup xs))
def JK(t:TA):TE:=λσ H Q=>t σ H λxs H1=>xs.length<=sizeLine/\∀p,H1 p=none->Q (.ref p) (upd H1 p (.lst xs))
theorem iA{x1}(h:PA X es t):PE X (.Tuple es x1 pos) (Cm t):=by
 intro pins s σ H Q I hq;apply wpAny_Tuple_spliced (aP (h pos pins s σ H _ I hq) λus s1 ⟨xs,H1,I1,r,z,q⟩=>#[by rw[<- r.length];exact z,?_]);have hf:H1 s1.heap.objs.size=none:=I1.ax.fresh (a_ _);apply#[.ref s1.heap.objs.size,upd H1 s1.heap.objs.size (.tup xs),I1.laid (t':=s1.toks) (λb u e=>aS _ e) (a_ _) ?_,U,q _ hf];exact#[z,us,r,#[_,cw _ U,U,_,U],_,cw _ U,U]
theorem fE(h:PA X es t):PE X (.List es pos) (JK t):=by
 intro pins s σ H Q I hq;apply wpAny_List_spliced (aP (h pos pins s σ H _ I hq) λus s1 ⟨xs,H1,I1,r,z,q⟩=>#[by rw[<- r.length];exact z,?_]);have hf:H1 s1.heap.objs.size=none:=I1.ax.fresh (a_ _);apply#[.ref s1.heap.objs.size,upd H1 s1.heap.objs.size (.lst xs),I1.laid (t':=s1.toks) (λb u e=>aS _ e) (a_ _) ?_,U,q _ hf];exact#[z,us,0,r,cw _ U]
end
abbrev Sp:=ag->Hp->VK->XK->Prop
abbrev uM:=List Env->Hp->Ab->XK->Aa->Ab->Prop
structure iB (P:Ad) (w:Ag) (K:ai) (mg:Str->Option Aa) (base:Heap) (A:Af) (outer:List Env) (s:Ab) (H:Hp):Prop where
 frames:A.frames\outer
 mod:Mod K mg base
 bs:∀b o,base.get? b\o->s.heap.get? b\o/\H b=none
 tE:base.objs.size<=s.heap.objs.size
 fZ:s.heap.FunFrames base outer
 vO:∀b∈o4 outer,H b=none
 ax:fR P w H s.heap
 bare:AllBare s.gens
def CE(outer:List Env)(P:Ad)(w:Ag)(H:Hp)(s:Ab)(Q:VK)(u:Aa)(s':Ab):Prop:=
 ∃v H',s'.os=s.os/\AllBare s'.gens/\Un (o4 outer) [] H H' s.heap s'.heap/\fR P w H' s'.heap/\RelV v u/\Q v H'
def CR(CX:uM)(outer:List Env)(P:Ad)(w:Ag)(H:Hp)(s:Ab)(Q:VK)(E:XK)(r:Result)(s':Ab):Prop:=
 match r with
 |.ok (.ret u)=>CE outer P w H s Q u s'
 |.ok _=>False
 |.error e=>CX outer H s E e s'
structure au (P:Ad) (w:Ag) (K:ai) (mg:Str->Option Aa) (base:Heap) (CX:uM) (k:Nat) (f:Addr) (fd:Ae) (ps:af) (sp:Sp):Prop where
 len:∀vs H Q E,sp vs H Q E->vs.length=ps.length
 run:∀(A:Af) (outer:List Env) (s:Ab) (H:Hp) (args:Args) (us:aj) (vs:ag) (Q:VK) (E:XK),aO k A->iB P w K mg base A outer s H->BindsTo s fd args (ps.zip us)->Vals vs us->sp vs H Q E->
  codeAny (model P w) A (.call (.ref f) args) (CR CX outer P w H s Q E) s
variable{K:ai}{f:Addr}{mg:Str->Option Aa}{base:Heap}{CX:uM}{fd:Ae}{ps:af}
theorem au.imp{sp A0:Sp}(F:au P w K mg base CX k f fd ps sp)(h:∀vs H Q E,A0 vs H Q E->sp vs H Q E):au P w K mg base CX k f fd ps A0:=
 #[λvs H Q E q=>F.len vs H Q E (h _ _ _ _ q),λA outer s H args us vs Q E hr he hb hv hs=>F.run A outer s H args us vs Q E hr he hb hv (h _ _ _ _ hs)]
variable{H:Hp}{A:Af}{outer:List Env}
theorem iB.make{s:Ab}(e:iB P w K mg base A outer s H)(C:Addr)(us:aj)(kw:List (Str × Aa)) :
  iB P w K mg base (A.under (.builtin "type.__call__" #[.ref C::us,kw])) outer s H:=#[by first|exact e.frames|(simpa [Around.under,Code.envs,Code.isFrame,pushEnvs] using e.frames),e.mod,e.bs,e.tE,e.fZ,e.vO,e.ax,e.bare]
section
variable{X:Cx}{pins:List (Addr × Obj)}{σ:St}{H:Hp}{s s':Ab}
theorem Inv.Ac(I:Inv X pins σ H s):iB X.prog X.w X.K X.mg X.base X.A X.stack s H:=
 #[I.ok.frames,I.ok.mod,I.bs,gj I.ok.tE I.sz,I.stack,I.mY,I.ax,I.bare]
theorem Inv.after{Q:VK}(I:Inv X pins σ H s)(h:CE X.stack X.prog X.w H s Q u s'):EP X pins σ Q u s':=by
 let#[v,H',os,bare,un,ax,r,q]:=h;let#[hh,g,d,t,WW]:=s';obtain rfl:WW=s.os:=os;exact#[v,H',I.call (h':=hh) (g':=g) (d':=d) (t':=t) (ch:=[]) un ax bare (λb z=>absurd z Z2),r,q]
end
def wW(sp:Sp)(gQ:ag)(E:XK)(t:TA):TE:=λσ H Q=>t σ H λvs H1=>sp (vs++gQ) H1 Q E
inductive qp (C:Addr) (m:Str) (sp:Sp) (gQ:ag) (E:XK) (t:TA) (σ:St) (Q:VK) (x:V) (H1:Hp):Prop
 |mk:∀a dx fs,x=.ref a->H1 a\.ins C dx fs->fs.lookup m=none->(t σ H1 λvs H2=>sp (x::(vs++gQ)) H2 Q E)->qp C m sp gQ E t σ Q x H1
def mV(C:Addr)(m:Str)(sp:Sp)(gQ:ag)(E:XK)(ta:TE)(t:TA):TE:=λσ H Q=>ta σ H λx H1=>qp C m sp gQ E t σ Q x H1
def wO(C:Addr)(sp:Sp)(gQ:ag)(E:XK)(t:TA):TE:=λσ H Q=>t σ H λvs H1=>∀x dx,H1 x=none->H1 dx=none->dx≠x->
 sp (.ref x::(vs++gQ)) (upd (upd H1 dx (.own x)) x (.ins C dx [])) (λv H2=>v=.non/\Q (.ref x) H2) E
def pQ(K:ai)(fd:Ae)(ps:af)(ds:aj):Prop:=
 ∀(s:Ab) (us:aj),K.In s.heap->(us++ds).length=ps.length->BindsTo s fd #[us,[]] (ps.zip (us++ds))
theorem pQ.all(h:∀us:aj,us.length=ps.length->bindArgs fd #[us,[]]=pure (ps.zip us)):pQ K fd ps []:=λs us _ hl=>by
 rw[List.append_nil] at hl ⊢;exact .of_eq (h us hl)
def wA(CX:uM)(X:Cx)(E:XK):Prop:=∀(pins:List (Addr × Obj)) (σ:St) (H:Hp) (s:Ab) (e:Aa) (s':Ab),Inv X pins σ H s->CX X.stack H s E e s'->X.xe e s'
variable{E:XK}{Q:VK}{gQ vs:ag}{sp:Sp}{ds:aj}
theorem Mb{s:Ab}{us:aj}(F:au X.prog X.w X.K X.mg X.base CX k f fd ps sp)(hr:aO k X.A)(hb:pQ X.K fd ps ds)(hd:Vals gQ ds)(hx:wA CX X E)(I:Inv X pins σ H s)(r:Vals vs us)(h:sp (vs++gQ) H Q E):wpAny (model X.prog X.w) X.A (call (.ref f) us) (EP X pins σ Q) X.xe s:=by
 have r2:Vals (vs++gQ) (us++ds):=r.append hd;have hl:(us++ds).length=ps.length:=by rw[<- r2.length];exact F.len _ _ _ _ h
 apply wpAny_call (codeAny_mono (F.run X.A X.stack s H #[us,[]] (us++ds) (vs++gQ) Q E hr I.Ac (hb s us I.gL hl) r2 h) λr s' hq=>?_);cases r with
 |error e=>exact hx pins σ H s e s' I hq
 |ok fl=>
  cases fl with
  |ret u=>exact I.after hq
  |next=>exact False.elim hq
  |brk=>exact False.elim hq
  |cont=>exact False.elim hq
variable{x:Str}{t:TA}{e:Expr}
theorem Y4(F:au X.prog X.w X.K X.mg X.base CX k f fd ps sp)(hr:aO k X.A)(hg:Gl X x)(hm:X.mg x\.ref f)(hk:PySem.W.keepIn X.K (.ref f)=true)(hb:pQ X.K fd ps ds)(hd:Vals gQ ds)(hx:wA CX X E)
  (ha:PA X (e::es) t) (sG:(x == ("__debug__":Str))=false:=by decide) (he:starEach (e::es) X.env=(false,eval e X.env)::starEach es X.env:=by rfl) (ij:(backTo pos (starEach es X.env)).any (·.1)=false:=by rfl) :
  PE X (.Call (.Name x p) (e::es) [] pos) (wW sp gQ E t):=by
 intro pins s σ H Q I h;apply wpAny_Call_Name_kw (Mr I hg hm ?_ sG);apply PySem.W.callWith_K (h₀:=X.base) I.ok.mod.DM hk (aP (ha pos pins s σ H _ I h) λus s1 ⟨vs,H1,I1,r,q⟩=>#[I1.gL,?_]) he ij;exact Mb F hr hb hd hx I1 r q
variable{o:Expr}{ta:TE}{C:Addr}{m:Str}{apos:Pos}
theorem YN(he:PE X o ta)(c:mQ X.K C)(hm:Meth X.K C m f)(F:au X.prog X.w X.K X.mg X.base CX k f fd ps sp)(hr:aO k X.A)(hb:pQ X.K fd ps ds)(hd:Vals gQ ds)(hx:wA CX X E)(ha:PA X (e::es) t)(lU:starEach (e::es) X.env=(false,eval e X.env)::starEach es X.env:=by rfl)(ij:(backTo pos (starEach es X.env)).any (·.1)=false:=by rfl)(ht:eval (.Call (.Attribute o m apos) (e::es) [] pos) X.env=(do
   let ov <- eval o X.env
   standAt apos.atName
   let (f,first) <- holding [ov] (getMethod ov m pl)
   callWith pos f first (backTo pos (starEach (e::es) X.env)) (backToKw pos (keywordEach [] X.env))):=by rfl) :
  PE X (.Call (.Attribute o m apos) (e::es) [] pos) (mV C m sp gQ E ta t):=by
 intro pins s σ H Q I h;apply PySem.W.methodCall_KW (pl:=pl) (aP (he pins s σ H _ I h) λu s1 ⟨x,H1,I1,rx,a,dx,fs,ex,ea,l,q⟩=>?_) ht;subst ex;obtain rfl:u=Value.ref a:=rx;apply TM I1 ea c hm l ?_;apply PySem.W.callWith_K (first:=[.ref a]) (h₀:=X.base) I.ok.mod.DM hm.kp (aP (ha pos pins s1 σ H1 _ I1 q) λus s2 ⟨vs,H2,I2,r,q2⟩=>#[I2.gL,?_]) lU ij;exact Mb (us:=.ref a::us) (vs:=.ref a::vs) F hr hb hd hx I2 (.cons U r) q2
theorem hO_(he:PE X o ta)(c:mQ X.K C)(hm:Meth X.K C m f)(F:au X.prog X.w X.K X.mg X.base CX k f fd ps sp)(hr:aO k X.A)(hb:pQ X.K fd ps ds)(hd:Vals gQ ds)(hx:wA CX X E)(ht:eval (.Call (.Attribute o m apos) [] [] pos) X.env=(do
   let ov <- eval o X.env
   standAt apos.atName
   let (f,first) <- holding [ov] (getMethod ov m pl)
   callWith pos f first (backTo pos (starEach [] X.env)) (backToKw pos (keywordEach [] X.env))):=by rfl) :
  PE X (.Call (.Attribute o m apos) [] [] pos) (mV C m sp gQ E ta oH):=by
 intro pins s σ H Q I h;apply PySem.W.methodCall_KW (pl:=pl) (aP (he pins s σ H _ I h) λu s1 ⟨x,H1,I1,rx,a,dx,fs,ex,ea,l,q⟩=>?_) ht;subst ex;obtain rfl:u=Value.ref a:=rx;apply TM I1 ea c hm l ?_;exact PySem.W.callWith_K0 (first:=[.ref a]) I1.gL hm.kp (Mb (us:=[.ref a]) (vs:=[.ref a]) F hr hb hd hx I1 (.cons U .nil) q)
structure Mk (K:ai) (C f:Addr):Prop where
 makes:PySem.W.makesIn K C=true
 init:PySem.W.findIn K (.ref C) "__init__"\some (.ref f)
 fn:PySem.W.isFn K (.ref f)=true
 kp:PySem.W.keepIn K (.ref C)=true
theorem Z8{s:Ab}{us:aj}(M:Mk X.K C f)(F:au X.prog X.w X.K X.mg X.base CX k f fd ps sp)(hr:aO (k+1) X.A)(hb:pQ X.K fd ps ds)(hd:Vals gQ ds)(hx:wA CX X E)(I:Inv X pins σ H s)(r:Vals vs us)(h:∀x dx,H x=none->H dx=none->dx≠x->sp (.ref x::(vs++gQ)) (upd (upd H dx (.own x)) x (.ins C dx [])) (λv H2=>v=.non/\Q (.ref x) H2) E) :
  wpAny (model X.prog X.w) X.A (call (.ref C) us) (EP X pins σ Q) X.xe s:=by
 let hq:=h (s.heap.objs.size+1) s.heap.objs.size (I.ax.fresh (Nat.le_succ _)) (I.ax.fresh (a_ _)) (dA (Nat.lt_succ_self _));let I2:=Inv.made (C:=C) I;have r2:Vals (V.ref (s.heap.objs.size+1)::(vs++gQ)) (Value.ref (s.heap.objs.size+1)::(us++ds)):=.cons U (r.append hd)
 have hl:(Value.ref (s.heap.objs.size+1)::us++ds).length=ps.length:=by
  let e:=r2.length;rw[F.len _ _ _ _ hq] at e;exact e.symm
 apply wpAny_call (hP_ (f:=f) I.gL M.makes M.init (beq_iff_eq.mp M.fn) (codeAny_mono (F.run _ X.stack _ _ #[Value.ref (s.heap.objs.size+1)::us,[]] (Value.ref (s.heap.objs.size+1)::(us++ds)) _ _ E (hr.make C us [])
  (I2.Ac.make C us []) (hb _ (Value.ref (s.heap.objs.size+1)::us) I2.gL hl) r2 hq) λr s' hq'=>?_))
 cases r with
 |error e=>exact hx pins σ _ _ e s' I2 hq'
 |ok fl=>
  cases fl with
  |ret u=>
   let#[v,H',I3,rv,ev,q3]:=I2.after hq';subst ev;exact#[rv,#[V.ref (s.heap.objs.size+1),H',I3,U,q3]]
  |next=>exact False.elim hq'
  |brk=>exact False.elim hq'
  |cont=>exact False.elim hq'
theorem YL(M:Mk X.K C f)(F:au X.prog X.w X.K X.mg X.base CX k f fd ps sp)(hr:aO (k+1) X.A)(hg:Gl X x)(hm:X.mg x\.ref C)(hb:pQ X.K fd ps ds)(hd:Vals gQ ds)(hx:wA CX X E)
  (ha:PA X (e::es) t) (sG:(x == ("__debug__":Str))=false:=by decide) (he:starEach (e::es) X.env=(false,eval e X.env)::starEach es X.env:=by rfl) (ij:(backTo pos (starEach es X.env)).any (·.1)=false:=by rfl) :
  PE X (.Call (.Name x p) (e::es) [] pos) (wO C sp gQ E t):=by
 intro pins s σ H Q I h;apply wpAny_Call_Name_kw (Mr I hg hm ?_ sG);apply PySem.W.callWith_K (h₀:=X.base) I.ok.mod.DM M.kp (aP (ha pos pins s σ H _ I h) λus s1 ⟨vs,H1,I1,r,q⟩=>#[I1.gL,?_]) he ij;exact Z8 M F hr hb hd hx I1 r q
def PK(X:Cx)(A8:List Keyword)(t:TA):Prop:=
 ∀(pos:Pos) (pins:List (Addr × Obj)) (s:Ab) (σ:St) (H:Hp) (Q:ag->Hp->Prop),Inv X pins σ H s->t σ H Q->wpAny (model X.prog X.w) X.A (evalAll ((backToKw pos (keywordEach A8 X.env)).map (·.2))) (AP X pins σ Q) X.xe s
theorem XZ:PK X [] oH:=λ_ _ _ _ H Q I h=>wpAny_evalAll_nil #[[],H,I,.nil,h]
variable{KI:Pos}{A8:List Keyword}{nm:Option Str}
theorem _q(ha:PE X e te)(hr:PK X A8 t):PK X (#[nm,e,KI]::A8) (jo te t):=by
 intro pos pins s σ H Q I h;show wpAny _ _ (evalAll ((do let v <- eval e X.env;standAt pos;pure v)::(backToKw pos (keywordEach A8 X.env)).map (·.2))) _ _ s;apply wpAny_evalAll_cons (ae (aP (ha pins s σ H _ I h) λu s1 ⟨x,H1,I1,r1,q1⟩=>ae (wpAny_standAt (aB ?_))));exact aP (hr pos pins s1 σ H1 _ I1 q1) λus s2 ⟨xs,H2,I2,r2,q2⟩=>#[x::xs,H2,I2,.cons r1 r2,q2]
structure O4 (K:ai) (fd:Ae) (ps ks:af) (g:aj->aj->aj) (gV:ag->ag->ag):Prop where
 to:∀(s:Ab) (us ws:aj),K.In s.heap->(g us ws).length=ps.length->BindsTo s fd #[us,ks.zip ws] (ps.zip (g us ws))
 rel:∀{vs:ag} {us:aj} {zs:ag} {ws:aj},Vals vs us->Vals zs ws->Vals (gV vs zs) (g us ws)
structure bN (N P:af) (sc:Scope):Prop where
 kind:sc.kind=.function
 co:sc.isCoroutine=false
 gen:sc.isGenerator=false
 nd:N.Nodup
 pre:N.take P.length=P
 par:∀x∈P,sc.names.lookup x\.local∨sc.names.lookup x\.cell
 yW:∀y∈sc.names,y.2≠.free
theorem TY{kindOf:Str->Option NameKind}{x:Str}:∀{binds:List (Str × Aa)} {m:Str->Option Aa},(∀v,(x,v)∉binds)->bindL kindOf binds m x=m x
 |[],_,_=>rfl
 |(n,v)::r,m,h=>by
  unfold bindL;rw[TY λw hw=>h w (fM _ hw)];split
  ·have:x≠n:=by rintro rfl;exact h v gz
   simp[this]
  rfl
theorem T7{kindOf:Str->Option NameKind}{x:Str}:∀{binds:List (Str × Aa)} {m:Str->Option Aa},(∀v,(x,v)∉binds)->bindC kindOf binds m x=m x
 |[],_,_=>rfl
 |(n,v)::r,m,h=>by
  unfold bindC;rw[T7 λw hw=>h w (fM _ hw)];split
  ·rfl
  have:x≠n:=by rintro rfl;exact h v gz
  simp[this]
theorem Tu{kindOf:Str->Option NameKind}{x:Str}{v:Aa}:∀{P:af} {vs:aj} {i:Nat} {m:Str->Option Aa},P.Nodup->P[i]? = some x->vs[i]? = some v->kindOf x\.local->
  bindL kindOf (P.zip vs) m x\v
 |[],_,_,_,_,h,_,_=>by simp at h
 |_::_,[],_,_,_,_,h,_=>by simp at h
 |p::P,w::vs,0,m,nd,h1,h2,hk=>by
  simp at h1 h2;subst h1;subst h2;show bindL kindOf ((p,w)::P.zip vs) m p=_;unfold bindL;rw[TY λv hv=>(jk.mp nd).1 (List.of_mem_zip hv).1,aI hk];simp
 |p::P,w::vs,i+1,m,nd,h1,h2,hk=>by
  show bindL kindOf ((p,w)::P.zip vs) m x=_;unfold bindL;exact Tu (i:=i) (jk.mp nd).2 ⇑h1 ⇑h2 hk
theorem Ts{kindOf:Str->Option NameKind}{x:Str}{v:Aa}:∀{P:af} {vs:aj} {i:Nat} {m:Str->Option Aa},P.Nodup->P[i]? = some x->vs[i]? = some v->kindOf x≠some .local->
  bindC kindOf (P.zip vs) m x\v
 |[],_,_,_,_,h,_,_=>by simp at h
 |_::_,[],_,_,_,_,h,_=>by simp at h
 |p::P,w::vs,0,m,nd,h1,h2,hk=>by
  simp at h1 h2;subst h1;subst h2;show bindC kindOf ((p,w)::P.zip vs) m p=_;unfold bindC;rw[T7 λv hv=>(jk.mp nd).1 (List.of_mem_zip hv).1,aA hk];simp
 |p::P,w::vs,i+1,m,nd,h1,h2,hk=>by
  show bindC kindOf ((p,w)::P.zip vs) m x=_;unfold bindC;exact Ts (i:=i) (jk.mp nd).2 ⇑h1 ⇑h2 hk
def start(N:af)(vs:ag):St:=vs.map some++List.replicate (N.length - vs.length) none
def iX(CX:uM)(P:Ad)(w:Ag)(K:ai)(mg:Str->Option Aa)(base:Heap)(N:af)(qual:Str)(scope:Scope)(f:Addr)(cd:Aa)(A:Af)(outer:List Env)(s:Ab)(H:Hp)(E:XK):Cx where
 prog:=P
 w:=w
 K:=K
 mg:=mg
 base:=base
 A:=A.deeper (envOfC qual scope s.heap.objs.size f cd)
 N:=N
 c_:=s
 jV:=H
 env:=envOfC qual scope s.heap.objs.size f cd
 outer:=outer
 stack:=envOfC qual scope s.heap.objs.size f cd::outer
 ex:=[]
 calm:=true
 fn:=λ_=>true
 pn:=[]
 xe:=λe s'=>wpAny (model P w) (A.deeper (envOfC qual scope s.heap.objs.size f cd)) (leaving (envOfC qual scope s.heap.objs.size f cd) e) (λ_ pI=>CX outer H s E e pI) (λe' pI=>CX outer H s E e' pI) s'
theorem SO{sc:Scope}(h:sc.names.lookup x\.cell):∃c,(cellsFrom n sc.names []).lookup x\c:=by
 let q:=PySem.W.cellsFrom_some sc.names n [] (.inl h);exact Option.isSome_iff_exists.mp q
variable{N:af}{qual:Str}{scope:Scope}
theorem gG_{cd:Aa}{s s1:Ab}{us:aj}(S:bN N ps scope)(hd:A.handled=none)(e0:iB P w K mg base A outer s H)(hl:vs.length=ps.length)(r:Vals vs us)(x:InCallC s s.heap.objs.size (bindL (envOfC qual scope s.heap.objs.size f cd).kindOf (ps.zip us) λ_=>none) (cellsFrom (s.heap.objs.size+1) scope.names []) (bindC (envOfC qual scope s.heap.objs.size f cd).kindOf (ps.zip us) λ_=>none) s1) :
  Inv (iX CX P w K mg base N qual scope f cd A outer s H E) [] (start N vs) H s1:=by
 have ij:ps.length<=N.length:=by have:=eF List.length S.pre;rw[dR] at this;omega
 let#[h1,tk,rfl,hk]:=x.done;have vo:∀b:Addr,b∉(iX CX P w K mg base N qual scope f cd A outer s H E).ex:=λb z=>absurd (show b∈([]:aq) from z) Z2
 apply#[#[e0.mod,S.kind,U,U,a_ _,λy z c h1 h2=>?_,λy hy=>?_,λy c _ h=>?_,λ_=>hd,Around.frames_deeper e0.frames,.inr #[U,U],λb z=>absurd z (vo b),e0.bs,e0.tE,λb _ _=>vo b,λb z=>absurd z (vo b),e0.fZ,e0.vO],
  rfl,e0.bare,Un.kept hk,#[_,x.toInCall.ns,λi y v h1 h2 h3=>?_],λy c h=>#[_,x.cell y c h],e0.ax.fresh (a_ _),λy c h=>?_,λp hp=>absurd (show p∈([]:List (Addr × Obj)) from hp) Z2,e0.ax.kept hk,?_]
 ·exact name_of_addr x.apart (pY h1) (pY h2)
 ·have hy:scope.names.lookup y\.cell∨scope.names.lookup y\.free:=hy;rcases hy with hy|hy
  ·exact SO hy
  exact absurd U (S.yW _ (pY hy))
 ·exact Nat.le_of_lt (x.above y c (pY h))
 ·have hi:i<vs.length:=by
   unfold start at h2;by_cases hi:i<vs.length
   ·exact hi
   rw[x5 ⇑hi] at h2;rw[List.getElem?_replicate] at h2;split at h2<;>cases h2
  have ha:vs[i]? = some v:=by
   unfold start at h2;rw[wC ⇑hi,dG] at h2;cases e:vs[i]? with
   |none=>rw[e] at h2;cases h2
   |some a=>rw[e] at h2;cases h2;rfl
  let#[u,hu,rv]:=r.get ha
  have hp:ps[i]? = some y:=by
   rw[<- S.pre,List.getElem?_take_of_lt Z1];exact h1
  have Gq:ps.Nodup:=by rw[<- S.pre];exact S.nd.sublist (List.take_sublist _ _)
  apply#[u,rv,?_];rcases S.par y (cy hp) with k|k
  ·exact .inl #[k,Tu Gq hp hu k]
  let#[c,e]:=SO (n:=s.heap.objs.size+1) k;apply .inr #[.inl k,c,e,?_];let q:=x.cell y c e;rw[Ts Gq hp hu (by show scope.names.lookup y≠_;rw[k];decide)] at q;exact q
 ·exact e0.ax.fresh (Nat.le_of_lt (x.above y c (pY h)))
 unfold start;show _=N.length;rw[eI,ao,BQ];omega
theorem Qz{name:Str}{params:Arguments}{dV kV doc pm aQ ct oc:Aa}{an od:Option Addr}{j9:Array (Option Aa)}(lk:K.lookup f=some #[oc,od,.func (PySem.W.fnOf name qual params body scope dV kV doc pm an aQ ct),j9])(ip:PySem.W.codeIn K aQ qual=true)(S:bN N ps scope)(len:∀vs H Q E,sp vs H Q E->vs.length=ps.length)(fW:∀(A:Af) (outer:List Env) (s:Ab) (H:Hp) (vs:ag) (Q:VK) (E:XK),aO k (A.deeper (envOfC qual scope s.heap.objs.size f aQ))->sp vs H Q E->
   ∃t,jT (iX CX P w K mg base N qual scope f aQ A outer s H E) body t/\t { nx:=λ_ H'=>Q .non H',rt:=Q } (start N vs) H) :
  au P w K mg base CX (k+1) f (PySem.W.fnOf name qual params body scope dV kV doc pm an aQ ct) ps sp:=by
 apply#[len,λA outer s H args us vs Q E hr e0 hb r ke=>?_];let hl:=len _ _ _ _ ke;have KX:K.In s.heap:=e0.mod.DM.keeps λb o e=>(e0.bs b o e).1;have lim:s.heap.NoLimit:=e0.mod.nolimit.keeps λb o e=>(e0.bs b o e).1
 have Eo:∀y∈ps.zip us,scope.names.lookup y.1\.local∨(scope.names.lookup y.1\.cell/\((cellsFrom (s.heap.objs.size+1) scope.names []).lookup y.1).isSome=true):=λ⟨n,v⟩ hy=>by
  rcases S.par n (List.of_mem_zip hy).1 with q|q
  ·exact .inl q
  exact .inr #[q,PySem.W.cellsFrom_some _ _ _ (.inl q)]
 apply codeAny_call_function hr.depth (KX _ _ lk) U S.co S.gen U (PySem.W.codeRec_of KX ip) (hb _ _ _ _ ?_);apply wpAny_newFunctionEnv_cells S.kind Eo λenv he s1 x=>?_;subst he;apply#[lim.keeps x.toInCall.keep,codeAny_func ?_];let#[t,ht,hq]:=fW A outer s H vs Q E (hr.deeper _) ke;have I:Inv (iX CX P w K mg base N qual scope f aQ A outer s H E) [] (start N vs) H s1:=gG_ S hr.hd e0 hl r x;apply wpAny_mono (ht [] s1 (start N vs) H _ I hq) (λfl s' hs=>?_) λe s' hs=>hs
 have fin:∀{aV:St} {H':Hp} {v:V} {u:Aa},Inv (iX CX P w K mg base N qual scope f aQ A outer s H E) [] aV H' s'->RelV v u->Q v H'->CE outer P w H s Q u s':=
  λ{aV H' v u} J rv q=>#[v,H',J.os,J.bare,J.base,J.ax,rv,q]
 cases fl with
 |ret u=>
  let#[v,aV,H',J,rv,q]:=hs;exact fin J rv q
 |next=>
  let#[aV,H',J,q]:=hs;exact fin (v:=V.non) (u:=Value.none) J U q
 |brk=>
  let#[_,_,_,q]:=hs;exact False.elim q
 |cont=>
  let#[_,_,_,q]:=hs;exact False.elim q
def Pp(r:ag->Hp->VK->Prop)(t:TA):TE:=λσ H Q=>t σ H λvs H1=>r vs H1 Q
variable{r:ag->Hp->VK->Prop}{id:String}
theorem cZ(hc:gE X (.builtin id) r)(hg:Gl X x)(hm:X.mg x=none)(hv:bootBuiltins x\.builtin id)(ha:PA X (e::es) t)(hn:x≠"__name__":=by decide)(sG:(x == ("__debug__":Str))=false:=by decide)
  (he:starEach (e::es) X.env=(false,eval e X.env)::starEach es X.env:=by rfl) (ij:(backTo pos (starEach es X.env)).any (·.1)=false:=by rfl):PE X (.Call (.Name x p) (e::es) [] pos) (Pp r t):=by
 intro pins s σ H Q I h;apply wpAny_Call_Name_kw (wm I hg hm hv ?_ hn sG);exact PyProof.Rows.callWith_builtin1 (aP (ha pos pins s σ H _ I h) λus s1 ⟨vs,H1,I1,r1,q1⟩=>hc pins s1 σ H1 vs us Q I1 r1 q1) he ij
variable{T:String}
theorem jh(hc:gE X (.type T) r)(hg:Gl X x)(hm:X.mg x=none)(hv:bootBuiltins x\.type T)(ha:PA X (e::es) t)(hn:x≠"__name__":=by decide)(sG:(x == ("__debug__":Str))=false:=by decide)
  (he:starEach (e::es) X.env=(false,eval e X.env)::starEach es X.env:=by rfl) (ij:(backTo pos (starEach es X.env)).any (·.1)=false:=by rfl):PE X (.Call (.Name x p) (e::es) [] pos) (Pp r t):=by
 intro pins s σ H Q I h;apply wpAny_Call_Name_kw (wm I hg hm hv ?_ hn sG);exact BC (aP (ha pos pins s σ H _ I h) λus s1 ⟨vs,H1,I1,r1,q1⟩=>hc pins s1 σ H1 vs us Q I1 r1 q1) he ij
end L2
local macro_rules|`(!$f:ident $a*)=>if [`bx,`jZ,`bV,`au,`jU].contains f.getId then let i:=Lean.mkIdent;`($f $(i `P) $(i `w) $(i `K) $(i `mg) $(i `base) $a*)else Lean.Macro.throwUnsupported
namespace HT
open PySem PyProof.Rows
section
open PySem.SeqAt
open PySem.AutoSeq1 (wpAny_loadPart')
open PySem.MeetsSeq PySem.MeetsSeq2 PySem.MeetsSeq3
end
variable{t:Addr}{E Q:Aa->Ab->Prop}{prog:Ad}{w:Ag}{A:Af}{s:Ab}
theorem vZ{b:Addr}{vs ws:aj}(ht:IsTup s.heap t vs.toArray)(hb:IsTup s.heap b ws.toArray)(hv:vs≠[])(h1:ws=[]->Q (.ref t) s)(h2:ws≠[]->Q (.ref s.heap.objs.size) { s with heap:=s.heap.push { cls:=.type "tuple",data:=.seq (vs++ws).toArray } })(hsz:vs.length+ws.length<=sizeLine):wpAny (model prog w) A (binaryOp .Add (.ref t) (.ref b)) Q E s:=by
 let#[#[cls,dd,data,sl],ho,hc,n,hd]:=id ht;let#[#[NF,H_,data2,F_],fw,ki,n2,hd2]:=id hb;simp only at hc hd ki hd2;subst hc hd ki hd2;have e:vs.toArray++ws.toArray=(vs++ws).toArray:=by simp
 by_cases hw:ws=[]
 ·exact concat_meets #[_,ho,U] #[_,fw,U] noFill_tuple_add seq_tuple_add PySem.F.slot_tuple_add PySem.F.entry_tuple_add (PySem.F.args_tuple_add_2 _ _)
   (tuple_addW1 t b vs.toArray ws.toArray n n2 dd H_ sl F_ ⇑hv (by simp[hw])) #[ho,fw,h1 hw]
 apply concat_meets #[_,ho,U] #[_,fw,U] noFill_tuple_add seq_tuple_add PySem.F.slot_tuple_add PySem.F.entry_tuple_add (PySem.F.args_tuple_add_2 _ _)
  (tuple_addW2 t b vs.toArray ws.toArray n n2 dd H_ sl F_ ⇑hv ⇑hw (by rw[cQ,cQ];exact hsz)) #[ho,fw,?_]
 rw[e];exact h2 hw
def cJ(n d:Nat):Option Int->Nat
 |none=>d
 |some v=>if v<0 then (v+(n:Int)).toNat else min v.toNat n
theorem eS(n d:Nat):cJ n d none=d:=rfl
theorem d8(n d k:Nat):cJ n d (some (k:Int))=min k n:=by
 show (if (k:Int)<0 then ((k:Int)+(n:Int)).toNat else min (k:Int).toNat n)=min k n;rw[aA Z1,x_]
theorem Yd(n d:Nat)(hd:d<=n)(o:Option Int):cJ n d o<=n:=by
 cases o with
 |none=>exact hd
 |some v=>
  show (if v<0 then (v+(n:Int)).toNat else min v.toNat n)<=n;by_cases hv:v<0
  ·rw[aI hv];omega
  rw[aA hv];exact Nat.min_le_right _ _
theorem SG(v:Int)(n d:Nat):(if v<0 then max (v+(n:Int)) 0 else min v (n:Int))=((cJ n d (some v):Nat):Int):=by
 show (if v<0 then max (v+(n:Int)) 0 else min v (n:Int))=(((if v<0 then (v+(n:Int)).toNat else min v.toNat n):Nat):Int);by_cases hv:v<0
 ·simp only[aI hv];omega
 simp only[aA hv];omega
theorem fH_(lo hi:Option Int)(n:Nat):Builtin.Slice.sliceAdjust lo hi 1 (n:Int)=(((cJ n 0 lo:Nat):Int),((cJ n n hi:Nat):Int)):=by
 have h1:¬((1:Int)<0):=by omega
 unfold Builtin.Slice.sliceAdjust;simp only[h1,if_false];apply Prod.ext ?_ ?_
 ·cases lo with
  |none=>rfl
  |some v=>exact SG v n 0
 cases hi with
 |none=>rfl
 |some v=>exact SG v n n
theorem fs_(i j:Nat):Builtin.Slice.slicePlaces (i:Int) (j:Int) 1=j - i:=by
 unfold Builtin.Slice.slicePlaces;have h1:(1:Int) > 0:=by omega
 simp only[h1,if_true,Int.ediv_one];split<;>omega
theorem TL{v:Aa}{o:Option Int}{Q:Option Int->Ab->Prop}(p:IsPart v o)(h:Q o s):wpAny (model prog w) A (Builtin.Slice.slicePartIndex v) Q E s:=by
 cases p with
 |none=>exact slicePart_none h
 |int i t=>exact slicePart_int h
variable{sl:Addr}{vl vu:Aa}{hi lo:Option Int}
theorem cl_{n:Nat}{Q:Int × Int × Nat->Ab->Prop}(hs:s.heap.IsSliceOf sl vl vu .none)(pl:IsPart vl lo)(pu:IsPart vu hi)(h:Q (((cJ n 0 lo:Nat):Int),1,cJ n n hi - cJ n 0 lo) s):wpAny (model prog w) A (Builtin.Slice.sliceApplied (.ref sl) (pure (n:Int))) Q E s:=by
 let#[os,Ea,RB,sr]:=id hs;unfold Builtin.Slice.sliceApplied Builtin.Slice.sliceFields;apply ae (ae (fL Ea sr (x:=vl) U (ae (fL Ea sr (x:=vu) U (ae (fL Ea sr (x:=.none) U (aB ?_)))))));apply ae (slicePart_none ?_);show wpAny _ _ (if ((1:Int) == 0)=true then _ else _) _ _ s;rw[aA (by decide)];apply ae (TL pl (ae (TL pu (ae (aB ?_)))));show wpAny _ _ (match Builtin.Slice.sliceAdjust lo hi 1 (n:Int) with|(lo,hi)=>pure (lo,(1:Int),Builtin.Slice.slicePlaces lo hi 1)) _ _ s;rw[fH_ lo hi n];show wpAny _ _ (pure (((cJ n 0 lo:Nat):Int),(1:Int),Builtin.Slice.slicePlaces ((cJ n 0 lo:Nat):Int) ((cJ n n hi:Nat):Int) 1)) _ _ s;rw[fs_];exact aB h
theorem _v(xs:Array Aa)(i k:Nat):((List.range k).filterMap λ(m:Nat)=>xs[((i:Int)+(m:Int) * 1).toNat]?).toArray=((xs.toList.drop i).take k).toArray:=by
 have e:(λ(m:Nat)=>xs[((i:Int)+(m:Int) * 1).toNat]?)=λm=>xs[i+m]?:=by
  funext m
  have:((i:Int)+(m:Int) * 1).toNat=i+m:=by omega
  rw[this]
 rw[e];have:=pick_run xs i k;rw[List.filterMap_map] at this;have e2:((λx=>xs[x]?) ∘ λx=>i+x)=λm=>xs[i+m]?:=rfl;rw[e2] at this;rw[this]
theorem fY{items:Array Aa}(ht:IsTup s.heap t items)(hs:s.heap.IsSliceOf sl vl vu .none)(pl:IsPart vl lo)(pu:IsPart vu hi)(hw:¬(cJ items.size 0 lo=0/\cJ items.size items.size hi=items.size))(h:Q (.ref s.heap.objs.size) { s with heap:=s.heap.push { cls:=.type "tuple",data:=.seq ((items.toList.drop (cJ items.size 0 lo)).take (cJ items.size items.size hi - cJ items.size 0 lo)).toArray } })(hsz:items.size<=sizeLine):wpAny (model prog w) A (getItem (.ref t) (.ref sl)) Q E s:=by
 have nR:sizeOk (.seq ((items.toList.drop (cJ items.size 0 lo)).take (cJ items.size items.size hi - cJ items.size 0 lo)).toArray):=by
  show ((items.toList.drop (cJ items.size 0 lo)).take (cJ items.size items.size hi - cJ items.size 0 lo)).toArray.size<=sizeLine;rw[cQ,dR,List.length_drop,pf];omega
 have hj:cJ items.size items.size hi<=items.size:=Yd _ _ (a_ _) hi;let#[os,Ea,RB,sr]:=id hs;have LK:s.TypeIs (.ref sl) "slice":=#[os,Ea,RB];unfold getItem
 try with_reducible apply iI ?_
 first|refine ae (aB ?_)|skip
 apply ae (wpAny_sequenceKey ht.typeIs (by decide) ?_)
 apply ae (uq (name:=Str.ofString "__getitem__") ht.typeIs PyProof.Rows.slot_tuple_getitem
  (sU PyProof.Rows.slot_tuple_getitem ht.typeIs entry_tuple_getitem ?_ (args_tuple_getitem _ _)))
 show wpAny _ _ (Builtin.Tuple.tupleItemsOf (.ref t) >>= _) _ _ s;apply ae (tupleItemsOf_ ht ?_);apply ae (wpAny_typeOf LK ?_);rw[aI (by decide)];apply ae (cl_ hs pl pu ?_)
 have kh:¬((((cJ items.size 0 lo:Nat):Int) == 0&&(1:Int) == 1&&(cJ items.size items.size hi - cJ items.size 0 lo) == items.size)=true):=by
  intro q;rw[Bool.and_eq_true,Bool.and_eq_true] at q;have q1:((cJ items.size 0 lo:Nat):Int)=0:=eq_of_beq q.1.1;have q2:cJ items.size items.size hi - cJ items.size 0 lo=items.size:=eq_of_beq q.2;exact hw #[by omega,by omega]
 show wpAny _ _ (if (((cJ items.size 0 lo:Nat):Int) == 0&&(1:Int) == 1&&(cJ items.size items.size hi - cJ items.size 0 lo) == items.size)=true then _ else _) _ _ s;rw[aA kh,_v]
 first
  |exact ae (m:=Builtin.Tuple.tupleExact _) (pW (aB ⟨_,rfl,aB h⟩) nR)
  |exact ae (m:=Builtin.Tuple.tupleExact _) (pW (ae (aB (aB ⟨_,rfl,aB h⟩))) nR)
  |exact ae (ae (m:=Builtin.Tuple.tupleExact _) (pW (aB (aB ⟨_,rfl,aB h⟩)) nR))
  |exact ae (ae (m:=Builtin.Tuple.tupleExact _) (pW (aB ⟨_,rfl,aB h⟩) nR))
end HT
namespace L2
open PySem PySem.Spec PyProof.Rows
abbrev TO:=St->Hp->(Option Int->Hp->Prop)->Prop
def PO(X:Cx)(e:Option Expr)(t:TO):Prop:=
 ∀(pins:List (Addr × Obj)) (s:Ab) (σ:St) (H:Hp) (Q:Option Int->Hp->Prop),Inv X pins σ H s->t σ H Q->
  wpAny (model X.prog X.w) X.A (evalPart e X.env) (λu s'=>∃o H',Inv X pins σ H' s'/\IsPart u o/\Q o H') X.xe s
def uU:TO:=λ_ H Q=>Q none H
inductive ql (Q:Option Int->Hp->Prop) (x:V) (H1:Hp):Prop
 |mk:∀i,x=.int i->Q (some i) H1->ql Q x H1
def Co(t:TE):TO:=λσ H Q=>t σ H λx H1=>ql Q x H1
variable{us:aj}
section
variable{X:Cx}{e:Expr}{te:TE}{lo hi:Option Expr}{tl th:TO}{pos p2:Pos}
theorem AH:PO X none uU:=by
 intro pins s σ H Q I h;rw[evalPart_none];exact aB #[none,H,I,.none,h]
theorem AI(h:PE X e te):PO X (some e) (Co te):=by
 intro pins s σ H Q I hw;rw[evalPart_some];apply aP (h pins s σ H _ I hw) λu s1 ⟨x,H1,I1,r1,q1⟩=>?_;let#[i,rfl,q]:=q1;let#[t,rfl]:=r1;exact#[some i,H1,I1,.int i t,q]
def OY(X:Cx)(r:V->Option Int->Option Int->Hp->VK->Prop):Prop:=
 ∀(pins:List (Addr × Obj)) (s:Ab) (σ:St) (H:Hp) (x:V) (v vl vu:Aa) (lo hi:Option Int) (sl:Addr) (Q:VK),Inv X pins σ H s->RelV x v->s.heap.IsSliceOf sl vl vu .none->IsPart vl lo->IsPart vu hi->r x lo hi H Q->
  ∃T id,typeLookup (.type T) "__getitem__"=pure (some (.builtin id))/\s.TypeIs v T/\wpAny (model X.prog X.w) X.A (getItem v (.ref sl)) (EP X pins σ Q) X.xe s
def VW(r:V->Option Int->Option Int->Hp->VK->Prop)(te:TE)(tl th:TO):TE:=λσ H Q=>te σ H λx H1=>tl σ H1 λl H2=>th σ H2 λu H3=>r x l u H3 Q
theorem Ay{r:V->Option Int->Option Int->Hp->VK->Prop}(hr:OY X r)(he:PE X e te)(hl:PO X lo tl)(hu:PO X hi th):PE X (.Subscript e (.Slice lo hi none p2) pos) (VW r te tl th):=by
 intro pins s σ H Q I h;apply Subscript_ (aP (he pins s σ H _ I h) λv s1 ⟨x,H1,I1,r1,q1⟩=>?_);apply wpAny_Slice (aP (hl pins s1 σ H1 _ I1 q1) λvl s2 ⟨l,H2,I2,pl,q2⟩=>aP (hu pins s2 σ H2 _ I2 q2) λvu s3 ⟨u,H3,I3,pu,q3⟩=>?_);rw[evalPart_none];apply aB ?_;have I4:Inv X pins σ H3 { s3 with heap:=s3.heap.push { cls:=.type "slice",data:=.fields (List.toArray [vl,vu,.none]) } }:=I3.kept (t':=s3.toks) λb ob q=>aS _ q;let#[T,id,hT,ht,hg]:=hr pins { s3 with heap:=s3.heap.push { cls:=.type "slice",data:=.fields (List.toArray [vl,vu,.none]) } } σ H3 x v vl vu l u s3.heap.objs.size Q I4 r1 (Heap.IsSliceOf.new ..) pl pu q3;show wpAny (model X.prog X.w) X.A (subscriptTail e (.Slice lo hi none p2) v (.ref s3.heap.objs.size)) (EP X pins σ Q) X.xe { s3 with heap:=s3.heap.push { cls:=.type "slice",data:=.fields (List.toArray [vl,vu,.none]) } };exact tail_any (ops:=[.ref s3.heap.objs.size,v]) ht hT hg (by with_unfolding_all rfl)
def dX(xs:ag)(lo hi:Option Int):ag:=(xs.drop (HT.cJ xs.length 0 lo)).take (HT.cJ xs.length xs.length hi - HT.cJ xs.length 0 lo)
theorem OF(xs:ag)(lo hi:Option Int):(dX xs lo hi).length<=xs.length:=by
 unfold dX;rw[dR,List.length_drop];omega
inductive C0 (K:ai) (x:V) (lo:Option Int) (hi:Option Int) (H:Hp) (Q:VK):Prop
 |mk:∀a xs,x=.ref a->fG K H a xs->¬(HT.cJ xs.length 0 lo=0/\HT.cJ xs.length xs.length hi=xs.length)->(∀p,H p=none->Q (.ref p) (upd H p (.tup (dX xs lo hi))))->C0 K x lo hi H Q
theorem G6:OY X (C0 X.K):=by
 intro pins s σ H x v vl vu lo hi sl Q I rx hs pl pu h;let#[a,xs,rfl,hx,hw,q]:=h;cases rx;let#[its,r,ht,hz]:=I.tuple hx;have hlen:its.toArray.size=xs.length:=by rw[cQ];exact r.length.symm
 apply⟨"tuple",_,PyProof.Rows.slot_tuple_getitem.lookup,ht.typeIs,?_⟩;apply HT.fY ht hs pl pu (by rw[hlen];exact hw) ?_ (by rw[hlen];exact hz);rw[hlen];apply⟨.ref s.heap.objs.size,_,I.laid (t':=s.toks) (o:=.tup (dX xs lo hi)) (λb ob q=>aS _ q) (a_ _) ?_,rfl,q _ (I.ax.fresh (a_ _))⟩;exact⟨gj (OF xs lo hi) hz,_,(r.drop (HT.cJ xs.length 0 lo)).take (HT.cJ xs.length xs.length hi - HT.cJ xs.length 0 lo),IsTup.new _ _,_,cw _ rfl,rfl⟩
theorem Vals.nK{xs:ag}(r:Vals xs us):us=[] ↔ xs=[]:=by
 cases r with
 |nil=>simp
 |cons _ _=>simp
end
def vA(n:Nat)(i:Int):Option Nat:=if 0<=i then (if i<n then some i.toNat else none) else if -(n:Int)<=i then some (i+n).toNat else none
def iJ{α:Type}(xs:List α)(i:Int):Option α:=(vA xs.length i).bind λj=>xs[j]?
variable{j n:Nat}
theorem Sk{i:Int}(h:vA n i\j):seqIndex? i n\j/\j<n/\-(n:Int)<=i/\i<n:=by
 unfold vA at h;by_cases h0:0<=i
 ·rw[aI h0] at h;by_cases h1:i<n
  ·rw[aI h1] at h;have e:i.toNat=j:=cq h;exact#[by rw[seqIndex_of h0 h1,e],by omega,by omega,h1]
  rw[aA h1] at h;cases h
 rw[aA h0] at h;by_cases h1:-(n:Int)<=i
 ·rw[aI h1] at h;have e:(i+n).toNat=j:=cq h;exact#[by rw[seqIndex_neg Z1 h1,e],by omega,h1,by omega]
 rw[aA h1] at h;cases h
theorem Mn{α:Type}{xs:List α}{i:Int}{v:α}(h:iJ xs i\v):∃j,seqIndex? i xs.length\j/\xs[j]? = some v/\j<xs.length/\-(xs.length:Int)<=i/\i<xs.length:=by
 unfold iJ at h;cases e:vA xs.length i with
 |none=>rw[e] at h;cases h
 |some j=>
  rw[e] at h;let#[h1,h2,h3,h4]:=Sk e;exact#[j,h1,h,h2,h3,h4]
theorem d0{α:Type}{xs:List α}{v:α}(h:xs[j]? = some v):iJ xs (j:Int)\v:=by
 have hj:j<xs.length:=(bZ.mp h).1
 have e:vA xs.length (j:Int)\j:=by
  unfold vA;rw[aI Z1,aI Z1];simp
 unfold iJ;rw[e];exact h
def wF(b:Expr):Prop:=∀o i,subscripted b false o i=operate [o,i] (getItem o i)
def BU(X:Cx)(r:R2):Prop:=
 ∀(value slice:Expr) (pins:List (Addr × Obj)) (s:Ab) (σ:St) (H:Hp) (x y:V) (v u:Aa) (Q:VK),Inv X pins σ H s->RelV x v->RelV y u->r x y H Q->
  subscripted slice false v u=operate [v,u] (getItem v u)->wpAny (model X.prog X.w) X.A (subscriptTail value slice v u) (EP X pins σ Q) X.xe s
def UZ(X:Cx)(id:String)(r:V->ag->Hp->VK->Prop):Prop:=
 ∀(pins:List (Addr × Obj)) (s:Ab) (σ:St) (H:Hp) (x:V) (xs:ag) (v:Aa) (us:aj) (Q:VK),Inv X pins σ H s->RelV x v->Vals xs us->r x xs H Q->
  wpAny (model X.prog X.w) X.A (call (.builtin id) (v::us)) (EP X pins σ Q) X.xe s
variable{pins:List (Addr × Obj)}{σ:St}{s:Ab}{its its':aj}
variable{A:Af}{u:Aa}
variable{T:String}
section
variable{X:Cx}{a b:Expr}{ta tb:TE}{pos:Pos}
theorem bw{r:R2}(hr:BU X r)(ha:PE X a ta)(hb:PE X b tb)(hs:wF b:=by exact λ_ _=>rfl):PE X (.Subscript a b pos) (F6 r ta tb):=by
 intro pins s σ H Q I h;exact Subscript_ (AB ha hb I h λv u s2 x y H2 I2 rx ry q=>hr a b pins s2 σ H2 x y v u Q I2 rx ry q (hs _ _))
inductive rH (K:ai) (x:V) (y:V) (H:Hp) (Q:VK):Prop
 |mk:∀p xs i v,x=.ref p->y=.int i->dY K H p xs->iJ xs i\v->Q v H->rH K x y H Q
inductive oO (K:ai) (x:V) (y:V) (H:Hp) (Q:VK):Prop
 |mk:∀p xs i v,x=.ref p->y=.int i->fG K H p xs->iJ xs i\v->Q v H->oO K x y H Q
inductive C4 (x:V) (y:V) (H:Hp) (Q:VK):Prop
 |mk:∀z i c,x=.str z->y=.int i->z.length<=sizeLine->iJ z.cps.toList i\c->Q (.str ⟨(List.toArray [c])⟩) H->C4 x y H Q
theorem hJ:BU X (rH X.K):=by
 intro value slice pins s σ H x y v u Q I rx ry h hs;let#[p,xs,i,z,rfl,rfl,hq,he,q]:=h;cases rx;let#[t,rfl]:=ry;let#[its,r,pl,hz]:=I.list hq;let#[j,h1,h2,h3,h4,h5]:=Mn he;let#[w,ew,i_]:=r.get h2;let hl:=r.length;let hn:=gr;have fin:EP X pins σ Q w s:=⟨z,H,I,i_,q⟩;by_cases h0:0<=i
 ·have hj:i.toNat=j:=by
   rw[seqIndex_of h0 h5] at h1;exact cq h1
  exact item_listR pl.isList h0 Z1 (by rw[hj];simpa using ew) fin hs
 have hj:(i+(its.toArray.size:Int)).toNat=j:=by
  rw[seqIndex_neg Z1 h4] at h1;rw[cQ,<- hl];exact cq h1
 exact subscriptTail_builtinR (x:=w) pl.isList.typeIs slot_list_getitem.lookup
  (wpAny_getItem_list_neg (Q:=λr s'=>r=w/\EP X pins σ Q r s') pl.isList Z1 (by rw[cQ]<;>omega) Z1 (by rw[hj];simpa using ew) ⟨rfl,fin⟩) hs
theorem cu:BU X (oO X.K):=by
 intro value slice pins s σ H x y v u Q I rx ry h hs;let#[p,xs,i,z,rfl,rfl,hq,he,q]:=h;cases rx;let#[t,rfl]:=ry;let#[its,r,pl,hz]:=I.tuple hq;let#[j,h1,h2,h3,h4,h5]:=Mn he;let#[w,ew,i_]:=r.get h2;let hl:=r.length;let hn:=gr;have fin:EP X pins σ Q w s:=⟨z,H,I,i_,q⟩
 exact subscriptTail_builtinR (x:=w) pl.typeIs slot_tuple_getitem.lookup
  (getItem_tuple (j:=j) (Q:=λr s'=>r=w/\EP X pins σ Q r s') pl Z1 Z1 (by rw[cQ,<- hl];exact h1) ⇑ew ⟨rfl,fin⟩) hs
theorem YA:BU X C4:=by
 intro value slice pins s σ H x y v u Q I rx ry h hs;let#[z,i,c,rfl,rfl,hz,he,q]:=h;let#[t,rfl]:=rx;let#[t',rfl]:=ry;let#[j,h1,h2,h3,h4,h5]:=Mn he;have hl:z.cps.toList.length=z.length:=by simp[Str.length]
 rw[hl] at h1 h4 h5;let hn:=gr
 exact tail_any (typeIs_str s z t) slot_str_getitem.lookup (getItem_str (c:=c) (by
  have e1:decide (i < -(2 ^ 63:Int))=false:=fC Z1;have e2:decide (i ≥ 2 ^ 63)=false:=fC Z1;rw[e1,e2,Bool.or_false]) (by rw[h1];simpa using h2) ⟨.str ⟨(List.toArray [c])⟩,H,I.tok _,⟨_,rfl⟩,q⟩) hs
theorem fR_(its:aj)(n j:Nat)(u:Aa):Obj.mapSeq (·.setIfInBounds j u) { cls:=.type "list",data:=.seq its.toArray n }={ cls:=.type "list",data:=.seq (its.set j u).toArray n }:=by
 simp[Obj.mapSeq]
theorem Inv.lst{pins:List (Addr × Obj)}{σ:St}{H:Hp}{s:Ab}{p:Addr}{xs:ag}(I:Inv X pins σ H s)(h:H p\.lst xs) :
  ∃(its:aj) (n:Nat),Vals xs its/\s.heap.get? p=some { cls:=.type "list",data:=.seq its.toArray n }/\xs.length<=sizeLine:=by
 let#[z,its,n,r,e]:=I.ax p _ h;exact⟨its,n,r,e,z⟩
theorem Inv.y_{H:Hp}{p:Addr}{xs ys:ag}{n':Nat}{f:Obj->Obj}(I:Inv X pins σ H s)(h:H p\.lst xs)(ho:s.heap.get? p=some { cls:=.type "list",data:=.seq its.toArray n })(hf:f { cls:=.type "list",data:=.seq its.toArray n }={ cls:=.type "list",data:=.seq its'.toArray n' })(r:Vals ys its')(hz:ys.length<=sizeLine)(t:Nat) :
  Inv X pins σ (upd H p (.lst ys)) { s with heap:=s.heap.update p f,toks:=t }:=by
 have e:(s.heap.update p f).get? p=some { cls:=.type "list",data:=.seq its'.toArray n' }:=by
  rw[Heap.get?_update_self f ho (by rw[hf]<;>rfl),hf]
 apply I.write (x:=p) (e:=p) (by rw[h];trivial) (.inl rfl) (λb u hb q=>(pZ _ _ (bG hb)).trans q) ⟨_,e⟩ ?_;exact⟨hz,its',n',r,e⟩
inductive xa (o:V) (i:V) (v:V) (H:Hp) (Q:Hp->Prop):Prop
 |mk:∀p xs k j,o=.ref p->i=.int k->H p\.lst xs->vA xs.length k\j->Q (upd H p (.lst (xs.set j v)))->xa o i v H Q
theorem S7:FP X xa:=by
 intro pins s σ H o i v ov iv u Q I ro ri rv h;let#[p,xs,k,j,rfl,rfl,hp,hj,q]:=h;cases ro;let#[t,rfl]:=ri;let#[its,n,r,ho,hz]:=I.lst hp;let#[h1,h2,h3,h4]:=Sk hj;let hl:=r.length;let hn:=gr
 have I':Inv X pins σ (upd H p (.lst (xs.set j v))) { s with heap:=s.heap.update p (Obj.mapSeq (·.setIfInBounds j u)) }:=
  I.y_ hp ho (fR_ its n j u) (r.set rv j) (by rw[List.length_set];exact hz) s.toks
 by_cases h0:0<=k
 ·have hk:k.toNat=j:=by
   rw[seqIndex_of h0 h4] at h1;exact cq h1
  exact PySem.W.ki_setAt ho h0 Z1 (by rw[cQ,<- hl];exact h4) (by rw[hk];exact⟨_,I',q⟩)
 have hk:(k+(its.toArray.size:Int)).toNat=j:=by
  rw[seqIndex_neg Z1 h3] at h1;rw[cQ,<- hl];exact cq h1
 exact PySem.W.ki_setBack ho Z1 (by rw[cQ,<- hl];exact h3) Z1 (by rw[hk];exact⟨_,I',q⟩)
theorem e8_(lo hi:Option Int)(n:Nat):(sliceBounds lo hi none n).1=((HT.cJ n 0 lo:Nat):Int)/\(sliceBounds lo hi none n).2.1=((HT.cJ n n hi:Nat):Int)/\(sliceBounds lo hi none n).2.2=1:=by
 apply⟨?_,?_,rfl⟩
 ·cases lo with
  |none=>simp[sliceBounds,HT.cJ]
  |some i=>
   simp only[sliceBounds,HT.cJ,Option.getD_none,show (1:Int) > 0 by decide,if_true];by_cases h:i<0
   ·simp only[h,if_true]<;>omega
   simp only[h,if_false]<;>omega
 cases hi with
 |none=>simp[sliceBounds,HT.cJ]
 |some i=>
  simp only[sliceBounds,HT.cJ,Option.getD_none,show (1:Int) > 0 by decide,if_true];by_cases h:i<0
  ·simp only[h,if_true]<;>omega
  simp only[h,if_false]<;>omega
theorem dD_(its:aj)(lo hi:Option Int):slicePick its.toArray lo hi none=((its.drop (HT.cJ its.length 0 lo)).take (HT.cJ its.length its.length hi - HT.cJ its.length 0 lo)).toArray:=by
 let#[h1,h2,h3]:=e8_ lo hi its.toArray.size;unfold slicePick;rw[h1,h2,h3];simp only[sliceRange_one,pick_run,cQ]<;>rfl
inductive C1 (K:ai) (x:V) (lo:Option Int) (hi:Option Int) (H:Hp) (Q:VK):Prop
 |mk:∀a xs,x=.ref a->dY K H a xs->(∀p,H p=none->Q (.ref p) (upd H p (.lst (dX xs lo hi))))->C1 K x lo hi H Q
theorem Mz:OY X (C1 X.K):=by
 intro pins s σ H x v vl vu lo hi sl Q I rx hs pl pu h;let#[a,xs,rfl,hx,q]:=h;cases rx;let#[its,r,ht,hz]:=I.list hx;let hlen:=r.length;apply⟨"list",_,slot_list_getitem.lookup,ht.isList.typeIs,?_⟩;apply wpAny_getItem_list_slice ht.isList hs pl pu .none Z2 ?_ (by rw[cQ]<;>omega)
 rw[dD_,<- hlen];apply⟨.ref s.heap.objs.size,_,I.laid (t':=s.toks) (o:=.lst (dX xs lo hi)) (λb ob q=>aS _ q) (a_ _) ?_,rfl,q _ (I.ax.fresh (a_ _))⟩;exact⟨gj (OF xs lo hi) hz,_,0,(r.drop (HT.cJ xs.length 0 lo)).take (HT.cJ xs.length xs.length hi - HT.cJ xs.length 0 lo),cw _ rfl⟩
def uw:V->Bool
 |.non=>true
 |.bl _=>true
 |.int _=>true
 |.str _=>true
 |_=>false
def sR:V->V->Bool
 |.non,.non=>true
 |.bl a,.bl b=>a == b
 |.bl a,.int b=>(if a then 1 else 0) == b
 |.int a,.bl b=>a == (if b then 1 else 0)
 |.int a,.int b=>a == b
 |.str a,.str b=>a == b
 |_,_=>false
theorem G4{y x:V}{v:Aa}(ry:RelV y u)(rx:RelV x v)(fy:uw y=true)(fx:uw x=true):SeqAt.EqAt A s u v (sR y x):=by
 cases y with
 |non=>
  cases ry;cases x with
  |non=>cases rx;exact SeqAt.EqAt.same _
  |bl b=>cases rx;exact SeqAt.EqAt.none_bool b
  |int b=>let#[t,rfl]:=rx;exact SeqAt.EqAt.none_int b t
  |str b=>let#[t,rfl]:=rx;exact SeqAt.EqAt.none_str b t
  |_=>exact absurd (show false=true from fx) f_
 |bl a=>
  cases ry;cases x with
  |non=>cases rx;exact SeqAt.EqAt.bool_none a
  |bl b=>cases rx;exact SeqAt.EqAt.bool_bool a b
  |int b=>let#[t,rfl]:=rx;exact SeqAt.EqAt.bool_int a b t
  |str b=>let#[t,rfl]:=rx;exact SeqAt.EqAt.bool_str a b t
  |_=>exact absurd (show false=true from fx) f_
 |int a=>
  let#[t',rfl]:=ry;cases x with
  |non=>cases rx;exact SeqAt.EqAt.int_none a t'
  |bl b=>cases rx;exact SeqAt.EqAt.int_bool a t' b
  |int b=>let#[t,rfl]:=rx;exact SeqAt.EqAt.int_int a t' b t
  |str b=>let#[t,rfl]:=rx;exact SeqAt.EqAt.int_str a t' b t
  |_=>exact absurd (show false=true from fx) f_
 |str a=>
  let#[t',rfl]:=ry;cases x with
  |non=>cases rx;exact SeqAt.EqAt.str_none a t'
  |bl b=>cases rx;exact SeqAt.EqAt.str_bool a t' b
  |int b=>let#[t,rfl]:=rx;exact SeqAt.EqAt.str_int a t' b t
  |str b=>let#[t,rfl]:=rx;exact SeqAt.EqAt.str_str a t' b t
  |_=>exact absurd (show false=true from fx) f_
 |_=>exact absurd (show false=true from fy) f_
def vP(x:V)(u:Aa):Bool:=match u with
 |.none=>sR .non x
 |.bool b=>sR (.bl b) x
 |.int i _=>sR (.int i) x
 |.str z _=>sR (.str z) x
 |_=>false
theorem QN{x y:V}(r:RelV y u)(f:uw y=true):vP x u=sR y x:=by
 cases y with
 |non=>cases r;rfl
 |bl b=>cases r;rfl
 |int i=>let#[t,rfl]:=r;rfl
 |str z=>let#[t,rfl]:=r;rfl
 |_=>exact absurd (show false=true from f) f_
theorem Mw{x:V}:∀{xs:ag} {us:aj},Vals xs us->xs.all uw=true->us.any (vP x)=xs.any λy=>sR y x
 |_,_,.nil,_=>rfl
 |y::xs,u::us,.cons r t,f=>by
  rw[List.all_cons,Bool.and_eq_true] at f;rw[List.any_cons,List.any_cons,QN r f.1,Mw t f.2]
theorem MS{A:Af}{s:Ab}{x:V}{v:Aa}(rx:RelV x v)(fx:uw x=true):∀{xs:ag} {us:aj},Vals xs us->xs.all uw=true->∀u∈us,SeqAt.EqAt A s u v (vP x u)
 |_,_,.nil,_=>λu hu=>by cases hu
 |y::xs,u::us,.cons r t,f=>λu' hu=>by
  rw[List.all_cons,Bool.and_eq_true] at f;rcases bW.mp hu with rfl|hu
  ·rw[QN r f.1];exact G4 r rx f.1 fx
  exact MS rx fx t f.2 u' hu
def GG(x:V)(xs:ag):Bool:=xs.any λy=>sR y x
inductive PQ (K:ai) (neg:Bool) (x:V) (y:V) (H:Hp) (Q:VK):Prop
 |mk:∀p xs,y=.ref p->(dY K H p xs∨fG K H p xs)->uw x=true->xs.all uw=true->Q (.bl (if neg then !GG x xs else GG x xs)) H->PQ K neg x y H Q
theorem ed_:dO X (compareOp .NotIn) (PQ X.K true):=by
 intro pins s σ H x y v u Q I rx ry h;let#[p,xs,rfl,hq,fx,fs,q]:=h;cases ry;rcases hq with hq|hq
 ·let#[its,r,pl,hz]:=I.list hq;apply SeqAt.notIn_listAt (vP x) pl.isList (λw hw=>MS rx fx r fs w ⇑hw) ⟨.bl _,H,I,rfl,?_⟩;rw[show its.toArray.any (vP x)=its.any (vP x) by simp,Mw r fs];exact q
 let#[its,r,pl,hz]:=I.tuple hq;apply SeqAt.notIn_tupleAt (vP x) pl (λw hw=>MS rx fx r fs w ⇑hw) ⟨.bl _,H,I,rfl,?_⟩;rw[show its.toArray.any (vP x)=its.any (vP x) by simp,Mw r fs];exact q
inductive OG (K:ai) (xs:ag) (H:Hp) (Q:VK):Prop
 |mk:∀p ys,xs=[.ref p]->(dY K H p ys∨fG K H p ys)->Q (.int ys.length) H->OG K xs H Q
theorem h_:gE X (.builtin "len") (OG X.K):=by
 intro pins s σ H xs us Q I r h;let#[p,ys,rfl,hq,q]:=h;let#[u,rfl,rx]:=vals1 r;cases rx;let hn:=gr;rcases hq with hq|hq
 ·let#[its,r',pl,hz]:=I.list hq;let hlen:=r'.length;exact Calls.call_len_list pl.isList (by simp only[cQ]<;>omega) ⟨.int ys.length,H,I.tok _,⟨s.toks+1,by rw[cQ,hlen]⟩,q⟩
 let#[its,r',pl,hz]:=I.tuple hq;let hlen:=r'.length;exact len_tuple pl (by simp only[cQ]<;>omega) ⟨.int ys.length,H,I.tok _,⟨s.toks+1,by rw[cQ,hlen]⟩,q⟩
inductive Uv (xs:ag) (H:Hp) (Q:VK):Prop
 |mk:∀z,xs=[.str z]->z.length<=sizeLine->Q (.int z.length) H->Uv xs H Q
theorem dZ_:gE X (.builtin "len") Uv:=by
 intro pins s σ H xs us Q I r h;let#[z,rfl,hz,q]:=h;let#[u,rfl,t,rfl]:=vals1 r;let hn:=gr;exact len_str Z1 ⟨.int z.length,H,I.tok _,⟨_,rfl⟩,q⟩
inductive UR (K:ai) (xs:ag) (H:Hp) (Q:VK):Prop
 |mk:∀p ys,xs=[.ref p]->(dY K H p ys∨fG K H p ys)->(∀l,H l=none->Q (.ref l) (upd H l (.lst ys)))->UR K xs H Q
theorem dM_:gE X (.type "list") (UR X.K):=by
 intro pins s σ H xs us Q I r h;let#[p,ys,rfl,hq,q]:=h;let#[u,rfl,rx]:=vals1 r;cases rx
 have fin:∀(its:aj),Vals ys its->ys.length<=sizeLine->∀(h':Heap) (c':Nat),(∀b o',s.heap.get? b\o'->h'.get? b\o')->
   h'.get? s.heap.objs.size=some { cls:=.type "list",dict:=none,data:=.seq its.toArray c',slots:=#[] }->EP X pins σ Q (.ref s.heap.objs.size) { s with heap:=h' }:=λits r' hz h' c' kp e=>
  #[.ref s.heap.objs.size,_,I.laid (t':=s.toks) kp (a_ _) (show fA X.prog X.w _ h' _ (.lst ys) from #[hz,its,c',r',e]),U,q _ (I.ax.fresh (a_ _))]
 rcases hq with hq|hq
 ·let#[its,r',pl,hz]:=I.list hq;let hlen:=r'.length;let#[o,ho,hc,n,hd]:=pl.isList;exact call_list_seq p (.inl U) ho hc hd (λh' c' kp e=>fin its r' hz h' c' kp e) (by simp only[cQ]<;>omega)
 let#[its,r',pl,hz]:=I.tuple hq;let hlen:=r'.length;let#[o,ho,hc,n,hd]:=pl;exact call_list_seq p (.inr U) ho hc hd (λh' c' kp e=>fin its r' hz h' c' kp e) (by simp only[cQ]<;>omega)
inductive UP (K:ai) (xs:ag) (H:Hp) (Q:VK):Prop
 |mk:∀p ys,xs=[.ref p]->((dY K H p ys/\∀l,H l=none->Q (.ref l) (upd H l (.tup ys)))∨(fG K H p ys/\Q (.ref p) H))->UP K xs H Q
theorem OB:gE X (.type "tuple") (UP X.K):=by
 intro pins s σ H xs us Q I r h;let#[p,ys,rfl,h]:=h;let#[u,rfl,rx]:=vals1 r;cases rx;rcases h with⟨hq,q⟩|⟨hq,q⟩
 ·let#[its,r',pl,hz]:=I.list hq;let hlen:=r'.length;apply call_tuple_list pl.isList (λh' kp=>?_) (by simp only[cQ]<;>omega)
  have I1:Inv X pins σ H { s with heap:=h' }:=I.kept (t':=s.toks) kp
  have I2:Inv X pins σ (upd H h'.objs.size (.tup ys)) { s with heap:=h'.push { cls:=.type "tuple",data:=.seq its.toArray } }:=
   I1.laid (t':=s.toks) (λb o e=>aS _ e) (a_ _) (show fA X.prog X.w _ _ _ (.tup ys) from ⟨hz,its,r',IsTup.new _ _,_,cw _ rfl,rfl⟩)
  exact⟨.ref h'.objs.size,_,I2,rfl,q _ (I1.ax.fresh (a_ _))⟩
 let#[its,r',pl,hz]:=I.tuple hq;exact call_tuple_same pl ⟨.ref p,H,I,rfl,q⟩
def Jw(K:ai)(T:String)(x:V)(H:Hp):Prop:=match x with
 |.str _=>T="str"
 |.int _=>T="int"
 |.ref p=>(T="list"/\∃xs,dY K H p xs)∨(T="tuple"/\∃o,K.lookup p\o/\o.cls=.type "tuple"/\o.dict=none) ∨
   (T="dict"/\((∃kvs,H p\.dK kvs)∨∃kvs,H p\.dT kvs))∨(T="set"/\∃S n,H p\.set S n)
 |_=>False
theorem QK{H:Hp}{x:V}{v:Aa}(I:Inv X pins σ H s)(r:RelV x v)(ty:Jw X.K T x H) :
  s.TypeIs v T/\∀a,v=.ref a->∃ob,s.heap.get? a\ob/\ob.dict=none:=by
 cases x with
 |str z=>
  let#[t,rfl]:=r;cases (show T="str" from ty);exact#[typeIs_str s z t,λ_ e=>nomatch e]
 |int i=>
  let#[t,rfl]:=r;cases (show T="int" from ty);exact#[typeIs_int s i t,λ_ e=>nomatch e]
 |ref p=>
  cases r;rcases ty with⟨rfl,xs,hq⟩|⟨rfl,o,hk,hc,hd⟩|⟨rfl,hk⟩|⟨rfl,S,n,hk⟩
  ·let#[its,_,pl,_]:=I.list hq;apply#[pl.isList.typeIs,λa e=>?_];cases e;let#[o,n,e,c,hd,_]:=pl;exact#[o,e,hd]
  ·apply#[#[o,I.gL p o hk,hc],λa e=>?_];cases e;exact#[o,I.gL _ o hk,hd]
  ·have z:∃o,s.heap.get? p\o/\o.ExactDict:=by
    rcases hk with⟨kvs,hk⟩|⟨kvs,hk⟩
    ·let#[_,_,_,_,o,_,_,e,ex,_]:=I.ax p _ hk;exact#[o,e,ex]
    let#[_,_,_,_,o,_,_,e,ex,_]:=I.ax p _ hk;exact#[o,e,ex]
   let#[o,e,ex]:=z;apply#[#[o,e,ex.1],λa e2=>?_];cases e2;exact#[o,e,ex.2.1]
  ·let#[o,_,_,_,e,ex,_]:=I.ax p _ hk;apply#[#[o,e,ex.1],λa e2=>?_];cases e2;exact#[o,e,ex.2.1]
 |_=>exact False.elim ty
def JQ(K:ai)(T:String)(r:V->ag->Hp->VK->Prop)(to:TE):TE:=λσ H Q=>to σ H λx H1=>Jw K T x H1/\r x [] H1 Q
def VZ(K:ai)(T:String)(r:V->ag->Hp->VK->Prop)(to:TE)(t:TA):TE:=λσ H Q=>to σ H λx H1=>Jw K T x H1/\t σ H1 λxs H2=>r x xs H2 Q
variable{o e:Expr}{es:List Expr}{to:TE}{t:TA}{name:Str}{apos cO:Pos}{T id:String}{r:V->ag->Hp->VK->Prop}
theorem Y7(pa:PlainAttrs T)(slot:Slot T name id)(KW:typeOf (.builtin id)=pure (.type "method_descriptor"))(hm:UZ X id r)(ho:PE X o to)
  (g7:attributeBase o name X.env (eval o X.env)=eval o X.env:=by rfl) (gY:(apos.endLine == cO.line)=true:=by rfl):PE X (.Call (.Attribute o name apos) [] [] cO) (JQ X.K T r to):=by
 intro pins s σ H Q I h;apply wpAny_Call_method0_late g7 gY (aP (ho pins s σ H _ I h) λv s1 ⟨x,H1,I1,r1,ty,q1⟩=>?_);let#[h1,h2]:=QK I1 r1 ty;exact#[T,id,pa,slot,KW,h1,h2,Calls.callWith_builtin U (PySem.evalArgs_none (hm pins s1 σ H1 x [] v [] Q I1 r1 .nil q1))]
theorem om(pa:PlainAttrs T)(slot:Slot T name id)(KW:typeOf (.builtin id)=pure (.type "method_descriptor"))(hm:UZ X id r)(ho:PE X o to)(ha:PA X (e::es) t)
  (g7:attributeBase o name X.env (eval o X.env)=eval o X.env:=by rfl)
  (Lv:((backTo cO (starEach (e::es) X.env)).all (λx=>!x.1)&&(backToKw cO (keywordEach [] X.env)).all (λx=>x.1.isSome)
   && decide ((e::es).length+([]:List Keyword).length+(if ([]:List Keyword).isEmpty then 0 else 1)<30))=true:=by rfl)
  (gY:(apos.endLine == cO.line)=true:=by rfl) (hs:starEach (e::es) X.env=(false,eval e X.env)::starEach es X.env:=by rfl) (zp:(backTo cO (starEach es X.env)).any (·.1)=false:=by rfl) :
  PE X (.Call (.Attribute o name apos) (e::es) [] cO) (VZ X.K T r to t):=by
 intro pins s σ H Q I h;apply wpAny_Call_method_late g7 Lv gY U (aP (ho pins s σ H _ I h) λv s1 ⟨x,H1,I1,r1,ty,q1⟩=>?_);let#[h1,h2]:=QK I1 r1 ty;apply#[T,id,pa,slot,KW,h1,h2,?_];let hA:=ha cO pins s1 σ H1 _ I1 q1;rw[hs] at hA ⊢;apply Calls.callWith_builtin (by show (false || (backTo cO (starEach es X.env)).any (·.1))=false;rw[zp]<;>rfl) (Calls.evalArgs_plain ?_)
 exact aP hA λus s2 ⟨vs,H2,I2,r2,q2⟩=>hm pins s2 σ H2 x vs v us Q I2 r1 r2 q2
end
def Je(X:Cx)(id:String)(r:V->ag->Hp->VK->Prop):Prop:=
 ∀(pins:List (Addr × Obj)) (s:Ab) (σ:St) (H:Hp) (x:V) (xs:ag) (v:Aa) (us:aj) (Q:VK),Inv X pins σ H s->RelV x v->Vals xs us->r x xs H Q->
  wpAny (model X.prog X.w) X.A (call (.builtin id) (v::us)) (EP X pins σ Q) X.xe s
theorem Vals.one:∀{x:V} {us:aj},Vals [x] us->∃u,us=[u]/\RelV x u
 |_,_,.cons r .nil=>#[_,U,r]
theorem Vals.two:∀{x y:V} {us:aj},Vals [x,y] us->∃u v,us=[u,v]/\RelV x u/\RelV y v
 |_,_,_,.cons r (.cons q .nil)=>#[_,_,U,r,q]
theorem Vals.zero:∀{us:aj},Vals [] us->us=[]
 |_,.nil=>rfl
theorem Vals.reverse{xs:ag}(h:Vals xs us):Vals xs.reverse us.reverse:=by
 induction h with
 |nil=>exact .nil
 |cons r t ih=>rw[List.reverse_cons,List.reverse_cons];exact Vals.append ih (.cons r .nil)
variable{t':Nat}
section
variable{X:Cx}{pins:List (Addr × Obj)}{σ:St}{H:Hp}{s:Ab}{l b:Addr}{xs ys zs:ag}
theorem Inv.vw{f:Array Aa->Array Aa}(I:Inv X pins σ H s)(hH:H l\.lst xs)(e:s.heap.get? l=some { cls:=.type "list",data:=.seq its.toArray n })(hf:f its.toArray=its'.toArray)(hv:Vals ys its')(hz:ys.length<=sizeLine) :
  Inv X pins σ (upd H l (.lst ys)) { s with heap:=s.heap.update l (Obj.mapSeq f),toks:=t' }:=by
 let q:=PySem.IsL.update e f;rw[hf] at q;apply I.write (x:=l) (e:=l) (by rw[hH];exact trivial) (.inl U) (λb' u hb hu=>(pZ s.heap (Obj.mapSeq f) (bG hb)).trans hu) #[_,q] ?_;exact#[hz,its',_,hv,q]
theorem Inv.zc(I:Inv X pins σ H s)(hv:Vals ys its)(hz:ys.length<=sizeLine) :
  Inv X pins σ (upd H s.heap.objs.size (.lst ys)) { s with heap:=s.heap.push { cls:=.type "list",data:=.seq its.toArray },toks:=t' }:=
 I.laid (λ_ _ q=>aS _ q) (a_ _) #[hz,its,0,hv,cw _ U]
theorem Inv.fresh(I:Inv X pins σ H s):H s.heap.objs.size=none:=I.ax.fresh (a_ _)
theorem Inv.jw(I:Inv X pins σ H s)(hH:H l\.lst xs):xs.length<=sizeLine/\∃(its:aj) (n:Nat),Vals xs its/\xs.length=its.length/\s.heap.get? l=some { cls:=.type "list",data:=.seq its.toArray n }:=by
 let#[z,its,n,r,e]:=I.ax l _ hH;exact#[z,its,n,r,r.length,e]
theorem rP(h:n<=sizeLine):Builtin.List.listTooLong n=false:=by
 unfold Builtin.List.listTooLong;exact fC Z1
end
inductive nD (x:V) (vs:ag) (H:Hp) (Q:VK):Prop
 |mk:∀l xs y,x=.ref l->vs=[y]->H l\.lst xs->xs.length<sizeLine->Q .non (upd H l (.lst (xs++[y])))->nD x vs H Q
variable{X:Cx}
theorem tK:Je X "list.append" nD:=by
 intro pins s σ H x vs v us Q I rx rv h;let#[l,xs,y,rfl,rfl,hH,hz,q]:=h;cases rx;let#[u,rfl,ru]:=rv.one;let#[z,its,n,r,hl,e]:=I.jw hH;apply call_meets F.slot_list_append ⟨_,e,rfl⟩ F.entry_list_append (F.args_list_append_2 _ _) (PySem.list_append l its.toArray n u (by rw[cQ];omega)) ⟨e,?_⟩;apply⟨.non,_,I.vw (its':=its++[u]) hH e Z2 (r.append (.cons ru .nil)) ?_,rfl,q⟩;rw[eI,jn];omega
inductive nB (x:V) (vs:ag) (H:Hp) (Q:VK):Prop
 |mk:∀l b xs zs,x=.ref l->vs=[.ref b]->H l\.lst xs->H b\.lst zs->xs.length+zs.length<=sizeLine->Q .non (upd H l (.lst (xs++zs)))->nB x vs H Q
theorem Tp:Je X "list.extend" nB:=by
 intro pins s σ H x vs v us Q I rx rv h;let#[l,b,xs,zs,rfl,rfl,hH,hB,hz,q]:=h;cases rx;let#[u,rfl,ru]:=rv.one;cases ru;let#[z,its,n,r,hl,e]:=I.jw hH;let#[z2,ig,n2,r2,jd,e2]:=I.jw hB;have hsz:its.toArray.size+ig.toArray.size<=sizeLine:=by rw[cQ,cQ];omega
 have Eh:¬(!its.toArray.isEmpty&&Builtin.List.listTooLong (its.toArray.size+ig.toArray.size))=true:=by
  rw[rP hsz,Bool.and_false];exact f_
 apply call_meets F.slot_list_extend ⟨_,e,rfl⟩ F.entry_list_extend (F.args_list_extend_2 _ _)
  (AutoSeq1.list_extend_list_list_0 l its.toArray n b ig.toArray n2 Eh (by rw[cQ];omega) Z1) ⟨e,e2,?_⟩
 apply⟨.non,_,I.vw (its':=its++ig) hH e Z2 (r.append r2) ?_,rfl,q⟩;rw[eI];omega
inductive T_ (x:V) (vs:ag) (H:Hp) (Q:VK):Prop
 |mk:∀l xs,x=.ref l->vs=[]->H l\.lst xs->Q .non (upd H l (.lst xs.reverse))->T_ x vs H Q
theorem fL_:Je X "list.reverse" T_:=by
 intro pins s σ H x vs v us Q I rx rv h;let#[l,xs,rfl,rfl,hH,q]:=h;cases rx;let _M:=rv.zero;subst _M;let#[z,its,n,r,hl,e]:=I.jw hH;apply call_meets F.slot_list_reverse ⟨_,e,rfl⟩ F.entry_list_reverse (F.args_list_reverse_1 _) (AutoSeq1.list_reverse_list_0 l its.toArray n (by rw[cQ];omega)) ⟨e,?_⟩;apply⟨.non,_,I.vw (its':=its.reverse) hH e Z2 r.reverse ?_,rfl,q⟩;rw[List.length_reverse];omega
inductive C6 (x:V) (y:V) (H:Hp) (Q:VK):Prop
 |mk:∀l b xs zs,x=.ref l->y=.ref b->H l\.lst xs->H b\.lst zs->xs.length+zs.length<=sizeLine->(∀p,H p=none->Q (.ref p) (upd H p (.lst (xs++zs))))->C6 x y H Q
theorem XY:dO X (binaryOp .Add) C6:=by
 intro pins s σ H x y v u Q I rx ry h;let#[l,b,xs,zs,rfl,rfl,hH,hB,hz,q]:=h;cases rx;cases ry;let#[z,its,n,r,hl,e]:=I.jw hH;let#[z2,ig,n2,r2,jd,e2]:=I.jw hB;apply PySem.P.add_list e e2 ?_ (by rw[cQ,cQ];omega);have ea:its.toArray++ig.toArray=(its++ig).toArray:=by simp
 rw[ea];exact⟨.ref _,_,I.zc (t':=s.toks) (r.append r2) (by rw[eI];omega),rfl,q _ I.fresh⟩
variable{o:aJ}
section
variable{κ:Type}[DecidableEq κ]
def aY(kvs:List (κ × V))(k:κ):aJ:=(kvs.find? λkv=>decide (kv.1=k)).map (·.2)
def putK(kvs:List (κ × V))(k:κ)(v:V):List (κ × V):=
 if (kvs.any λkv=>decide (kv.1=k))=true then kvs.map (λkv=>if kv.1=k then (kv.1,v) else kv) else kvs++[(k,v)]
theorem AA{p:κ × V}{r:List (κ × V)}{k:κ}(e:p.1=k):aY (p::r) k\p.2:=by simp[aY,x8,e]
theorem Az{p:κ × V}{r:List (κ × V)}{k:κ}(e:¬p.1=k):aY (p::r) k=aY r k:=by simp[aY,x8,e]
theorem BJ(k:κ):∀kvs:List (κ × V),(kvs.any λkv=>decide (kv.1=k))=(aY kvs k).isSome
 |[]=>rfl
 |p::r=>by
  rw[List.any_cons];by_cases e:p.1=k
  ·simp only[AA e,cz e,Bool.true_or,Option.isSome_some]
  rw[Az e,fC e,Bool.false_or];exact BJ k r
theorem OD(kvs:List (κ × V))(k:κ)(v:V):(putK kvs k v).length<=kvs.length+1:=by
 unfold putK;split
 ·rw[ao];omega
 rw[eI,jm,List.length_nil];omega
theorem wB{kvs:List (κ × V)}{k:κ}(v:V)(h:aY kvs k=none):putK kvs k v=kvs++[(k,v)]:=by
 unfold putK;rw[BJ,h];exact aA (by decide)
theorem e_.dU{u:Option Aa}(r:e_ o u):o.isSome=u.isSome:=by
 cases o with
 |none=>cases u with
  |none=>rfl
  |some _=>exact (show False from r).elim
 |some _=>cases u with
  |none=>exact (show False from r).elim
  |some _=>rfl
theorem KV.val{kvs:List (κ × V)}{vs:List (κ × Aa)}(r:KV kvs vs)(k:κ):e_ (aY kvs k) (valueAt vs k):=by
 unfold KV at r
 induction r with
 |nil=>exact True.intro
 |@cons p q ps qs h t ih=>
  let#[h1,h2]:=h;by_cases e:p.1=k
  ·have e':q.1=k:=h1.symm.trans e;have b:valueAt (q::qs) k\q.2:=by simp[valueAt,x8,e']
   rw[AA e,b];exact h2
  have e':¬q.1=k:=λz=>e (h1.trans z);have b:valueAt (q::qs) k=valueAt qs k:=by simp[valueAt,x8,e']
  rw[Az e,b];exact ih
theorem KV.any{kvs:List (κ × V)}{vs:List (κ × Aa)}(r:KV kvs vs)(k:κ):(kvs.any λkv=>decide (kv.1=k))=vs.any λkv=>decide (kv.1=k):=by
 unfold KV at r
 induction r with
 |nil=>rfl
 |cons h t ih=>rw[List.any_cons,List.any_cons,ih,h.1]
theorem KV.yS{kvs:List (κ × V)}{vs:List (κ × Aa)}(r:KV kvs vs)(k:κ){y:V}(ry:RelV y u) :
  KV (kvs.map λkv=>if kv.1=k then (kv.1,y) else kv) (vs.map λkv=>if kv.1=k then (kv.1,u) else kv):=by
 unfold KV at r ⊢
 induction r with
 |nil=>exact .nil
 |@cons p q ps qs h t ih=>
  rw[eY,eY];apply .cons ?_ ih;let#[h1,h2]:=h;by_cases e:p.1=k
  ·rw[aI e,aI (h1.symm.trans e)];exact#[h1,ry]
  rw[aA e,aA (λz=>e (h1.trans z))];exact#[h1,h2]
theorem KV.put{kvs:List (κ × V)}{vs:List (κ × Aa)}(r:KV kvs vs)(k:κ){y:V}(ry:RelV y u):KV (putK kvs k y) (stored vs k u):=by
 unfold putK stored;rw[r.any k];by_cases e:(vs.any λkv=>decide (kv.1=k))=true
 ·rw[aI e,aI e];exact r.yS k ry
 rw[aA e,aA e];exact Paired.snoc r #[U,ry]
theorem KV.keys{kvs:List (κ × V)}{vs:List (κ × Aa)}(r:KV kvs vs):kvs.map (·.1)=vs.map (·.1):=by
 unfold KV at r
 induction r with
 |nil=>rfl
 |cons h t ih=>rw[eY,eY,ih,h.1]
theorem KV.length{kvs:List (κ × V)}{vs:List (κ × Aa)}(r:KV kvs vs):kvs.length=vs.length:=bj r
end
variable{P:Ad}{w:Ag}
theorem Aj{k:Key}(r:RelV (kV k) u):(fq P w).is k u=true:=by
 cases k with
 |inl i=>let#[t,e]:=(show ∃t,u=Value.int i t from r);subst e;exact em_ P w i t
 |inr x=>let#[t,e]:=(show ∃t,u=Value.str x t from r);subst e;exact ep_ P w x t
theorem Tr{P:Ad}{w:Ag}:∀{ks:aC} {us:aj},Vals (ks.map kV) us->ItemsAre (fq P w) ks us
 |[],_,r=>by rw[List.map_nil] at r;cases r;exact .nil
 |k::ks,_,r=>by
  rw[eY] at r;cases r with
  |cons h t=>exact .cons (Aj h) (Tr t)
abbrev KT(H:Hp):List (aC × V)->List (aC × Addr × Aa)->Prop:=Paired λp q=>p.1=q.1/\H q.2.1\.tup (p.1.map kV)/\RelV p.2 q.2.2
variable{xs:List (aC × Addr × Aa)}{H:Hp}{kvs:List (aC × V)}
theorem KT.val(r:KT H kvs xs)(k:aC):e_ (aY kvs k) ((atKey xs k).map (·.2)):=by
 induction r with
 |nil=>exact True.intro
 |@cons p q ps qs h t ih=>
  let#[h1,_,h2]:=h;by_cases e:p.1=k
  ·have e':q.1=k:=h1.symm.trans e;have b:atKey (q::qs) k\q.2:=by simp[atKey,x8,e']
   rw[AA e,b];exact h2
  have e':¬q.1=k:=λz=>e (h1.trans z);have b:atKey (q::qs) k=atKey qs k:=by simp[atKey,x8,e']
  rw[Az e,b];exact ih
theorem KT.yS(r:KT H kvs xs)(k:aC){y:V}(ry:RelV y u) :
  KT H (kvs.map λkv=>if kv.1=k then (kv.1,y) else kv) (xs.map (putAt k u)):=by
 induction r with
 |nil=>exact .nil
 |@cons p q ps qs h t ih=>
  rw[eY,eY];apply .cons ?_ ih;let#[h1,h2,h3]:=h;unfold putAt;by_cases e:p.1=k
  ·rw[aI e,aI (h1.symm.trans e)];exact#[h1,h2,ry]
  rw[aA e,aA (λz=>e (h1.trans z))];exact#[h1,h2,h3]
variable{b:Addr}
theorem KT.put(r:KT H kvs xs)(k:aC){y:V}(hb:H b\.tup (k.map kV))(ry:RelV y u) :
  KT H (putK kvs k y) (storedH xs k b u):=by
 have e:(kvs.any λkv=>decide (kv.1=k))=(atKey xs k).isSome:=by
  rw[BJ,(r.val k).dU,Option.isSome_map]
 unfold putK storedH;rw[e];by_cases q:(atKey xs k).isSome=true
 ·rw[aI q,aI q];exact r.yS k ry
 rw[aA q,aA q];exact Paired.snoc r #[U,hb,ry]
variable{H':Hp}
theorem KT.keeps(r:KT H kvs xs)(ht:∀b ys,H b\.tup ys->H' b\.tup ys):KT H' kvs xs:=
 Paired.aU r λ_ _ z=>#[z.1,ht _ _ z.2.1,z.2.2]
variable{h:Heap}{a:Addr}
theorem QB{u:HO}(ok:fR P w H h)(e:Rd H a u):fA P w H h a u:=e.ok ok
theorem jH{kvs:List (Key × V)}(ok:fR P w H h)(e:Rd H a (.dK kvs)):kvs.length<=sizeLine/\(a == sysModules)=false/\∃vs,KV kvs vs/\h.DictOf (fq P w) a vs:=
 show fA P w H h a (.dK kvs) from QB ok e
theorem ER{kvs:List (Key × V)}(ok:fR P w H h)(e:H a\.dK kvs):kvs.length<=sizeLine/\(a == sysModules)=false/\∃vs,KV kvs vs/\h.DictOf (fq P w) a vs:=jH ok (.inl e)
theorem By{ks:aC}(ok:fR P w H h)(e:H a\.tup (ks.map kV)):(tupleKind (fq P w)).is h ks a:=by
 let#[_,its,r,#[o,h1,h2,n,h3],_]:=(show fA P w H h a (.tup (ks.map kV)) from ok a _ e);exact#[o,its.toArray,n,h1,h2,h3,by simpa using Tr r]
theorem Bj(ok:fR P w H h)(e:Rd H a (.dT kvs)):kvs.length<=sizeLine/\(a == sysModules)=false /\
  ∃xs,KT H kvs xs/\h.DictOfH (tupleKind (fq P w)) a xs:=by
 let#[z,y,xs,r,o,es,ep,h1,h2,h3,h4,h5]:=(show fA P w H h a (.dT kvs) from QB ok e);apply#[z,y,xs,r,o,es,ep,h1,h2,h3,h4,λx hx=>?_,h5]
 have all:∀{l:List (aC × V)} {m:List (aC × Addr × Aa)},KT H l m->∀x∈m,(tupleKind (fq P w)).is h x.1 x.2.1:=by
  intro l m q
  induction q with
  |nil=>intro x hx;exact nomatch hx
  |@cons p q ps qs hq t ih=>
   intro x hx;rcases bW.mp hx with e|hx
   ·subst e;exact By ok (by rw[<- hq.1];exact hq.2.1)
   exact ih x hx
 exact all r x hx
theorem QC(ok:fR P w H h)(e:H a\.dT kvs):kvs.length<=sizeLine/\(a == sysModules)=false /\
  ∃xs,KT H kvs xs/\h.DictOfH (tupleKind (fq P w)) a xs:=Bj ok (.inl e)
def dP(H:Hp)(a:Addr)(y:V)(r:aJ):Prop:=
 (∃kvs k,Rd H a (.dK kvs)/\y=kV k/\r=aY kvs k)∨∃kvs k b,Rd H a (.dT kvs)/\y=.ref b/\H b\.tup (k.map kV)/\r=aY kvs k
def pB(H:Hp)(a:Addr)(y v:V)(H':Hp):Prop:=
 (∃kvs k,H a\.dK kvs/\y=kV k/\kvs.length<sizeLine/\H'=upd H a (.dK (putK kvs k v))) ∨
 ∃kvs k b,H a\.dT kvs/\y=.ref b/\H b\.tup (k.map kV)/\kvs.length<sizeLine/\H'=upd H a (.dT (putK kvs k v))
theorem dP.k{kvs:List (Key × V)}{k:Key}(e:H a\.dK kvs):dP H a (kV k) (aY kvs k):=.inl #[kvs,k,.inl e,U,U]
theorem dP.t{k:aC}(e:H a\.dT kvs)(eb:H b\.tup (k.map kV)):dP H a (.ref b) (aY kvs k):=.inr #[kvs,k,b,.inl e,U,eb,U]
theorem pB.k{kvs:List (Key × V)}{k:Key}{v:V}(e:H a\.dK kvs)(hl:kvs.length<sizeLine):pB H a (kV k) v (upd H a (.dK (putK kvs k v))):=.inl #[kvs,k,e,U,hl,U]
theorem pB.t{k:aC}{v:V}(e:H a\.dT kvs)(eb:H b\.tup (k.map kV))(hl:kvs.length<sizeLine) :
  pB H a (.ref b) v (upd H a (.dT (putK kvs k v))):=.inr #[kvs,k,b,e,U,eb,hl,U]
variable{h':Heap}
variable{kvs:List (Key × V)}
section
variable{X:Cx}{pins:List (Addr × Obj)}{σ:St}{H:Hp}{s:Ab}{a:Addr}{y v:V}{u r:Aa}{o:aJ}{A:Af}{E:Aa->Ab->Prop}
theorem Inv.big(I:Inv X pins σ H s):sysModules<s.heap.objs.size:=by
 have h:mainGlobals<s.heap.objs.size:=(I.mod.glob.keeps I.bk).lt;exact Nat.lt_trans (by decide) h
theorem hc_{Q:Aa->Ab->Prop}(hu:A.units+1<cLine)(I:Inv X pins σ H s)(g:dP H a y (some v))(ry:RelV y u)(h:∀w' s',Inv X pins σ H s'->RelV v w'->Q w' s') :
  wpAny (model X.prog X.w) A (getItem (.ref a) u) Q E s:=by
 rcases g with⟨kvs,k,e,ey,l⟩|⟨kvs,k,b,e,ey,eb,l⟩
 ·subst ey;let#[z,hd,vs,rel,dd]:=jH I.ax e;let#[w',hw,i_]:=e_.some_of (v:=v) (o:=valueAt vs k) (by rw[l];exact rel.val k);exact wpAny_getItem_of (Aj ry) dd.mapOf hw (h w' _ (I.tok _) i_)
 subst ey;cases (show u=Value.ref b from ry);let#[z,hd,xs,rel,dd]:=Bj I.ax e;let#[w',hw,i_]:=e_.some_of (v:=v) (o:=(atKey xs k).map (·.2)) (by rw[l];exact rel.val k);let#[p,hp,kg]:=BR.mp hw;apply wpAny_getItem_heap (tupleKind_room_in1 hu) (By I.ax eb) dd hp ?_;rw[kg];exact h w' _ (I.tok _) i_
theorem MX{Q:Aa->Ab->Prop}(hu:A.units+1<cLine)(I:Inv X pins σ H s)(g:dP H a y o)(ry:RelV y u)(h:∀s',Inv X pins σ H s'->Q (.bool o.isSome) s') :
  wpAny (model X.prog X.w) A (compareOp .In u (.ref a)) Q E s:=by
 rcases g with⟨kvs,k,e,ey,l⟩|⟨kvs,k,b,e,ey,eb,l⟩
 ·subst ey;let#[z,hd,vs,rel,dd]:=jH I.ax e;apply wpAny_in_of (Aj ry) hd dd.mapOf ?_;rw[<- (rel.val k).dU,<- l];exact h _ (I.tok _)
 subst ey;cases (show u=Value.ref b from ry);let#[z,hd,xs,rel,dd]:=Bj I.ax e;apply wpAny_in_heap (tupleKind_room_in1 hu) (By I.ax eb) hd dd ?_;let q:=(rel.val k).dU;rw[Option.isSome_map] at q;rw[<- q,<- l];exact h _ (I.tok _)
theorem Zj{Q:Aa->Ab->Prop}(hu:A.units+1<cLine)(I:Inv X pins σ H s)(g:dP H a y o)(ry:RelV y u)(h:∀s',Inv X pins σ H s'->Q (.bool (!o.isSome)) s') :
  wpAny (model X.prog X.w) A (compareOp .NotIn u (.ref a)) Q E s:=by
 rcases g with⟨kvs,k,e,ey,l⟩|⟨kvs,k,b,e,ey,eb,l⟩
 ·subst ey;let#[z,hd,vs,rel,dd]:=jH I.ax e;apply wpAny_notIn_of (Aj ry) hd dd.mapOf ?_;rw[<- (rel.val k).dU,<- l];exact h _ (I.tok _)
 subst ey;cases (show u=Value.ref b from ry);let#[z,hd,xs,rel,dd]:=Bj I.ax e;apply wpAny_notIn_heap (tupleKind_room_in1 hu) (By I.ax eb) hd dd ?_;let q:=(rel.val k).dU;rw[Option.isSome_map] at q;rw[<- q,<- l];exact h _ (I.tok _)
theorem MA{ob:HO}(I:Inv X pins σ H s)(mu:FS (H a))(hs:Heap.SameBut a s.heap h')(he:∃q,h'.get? a\q)(new:fA X.prog X.w (upd H a ob) h' a ob) :
  Inv X pins σ (upd H a ob) { s with heap:=h',toks:=t' }:=
 I.write (x:=a) (e:=a) mu (.inl U) (λb q hb z=>(hs.2 b hb).trans z) he new
theorem Hv{vs:List (Key × Aa)}(z:kvs.length<=sizeLine)(hd:(a == sysModules)=false)(rel:KV kvs vs)(dd:h'.DictOf (fq P w) a vs) :
  fA P w H' h' a (.dK kvs):=#[z,hd,vs,rel,dd]
theorem fZ_{Q:Unit->Ab->Prop}(hu:A.units+1<cLine)(I:Inv X pins σ H s)(g:pB H a y v H')(ry:RelV y u)(rv:RelV v r)(h:∀s',Inv X pins σ H' s'->Q () s') :
  wpAny (model X.prog X.w) A (setItem (.ref a) u r) Q E s:=by
 rcases g with⟨kvs,k,e,ey,l,eH⟩|⟨kvs,k,b,e,ey,eb,l,eH⟩
 ·subst ey eH;let#[z,hd,vs,rel,dd]:=ER I.ax e;have hz:vs.length<=sizeLine:=by rw[<- rel.length];exact z
  have hl:(putK kvs k v).length<=sizeLine:=by have:=OD kvs k v;omega
  apply wpAny_setItem_pairs (hsz:=hz) (Aj ry) dd λh' xR hs=>h _ ?_;have he:∃q,h'.get? a\q:=let #[q,_,_,hq,_]:=xR;#[q,hq];exact MA I (by rw[e];exact True.intro) hs he (Hv hl hd (rel.put k rv) xR)
 subst ey eH;cases (show u=Value.ref b from ry);let#[z,hd,xs,rel,dd]:=QC I.ax e;have hz:xs.length<=sizeLine:=by rw[<- bj rel];exact z
 have hl:(putK kvs k v).length<=sizeLine:=by have:=OD kvs k v;omega
 apply wpAny_setItem_heap (hsz:=hz) (tupleKind_room_in1 hu) (By I.ax eb) dd λh' xR hs=>h _ ?_;let#[q,es,ep,hq,h2,h3,h4,_,h5]:=xR;apply MA I (by rw[e];exact True.intro) hs #[q,hq] #[hl,hd,_,(rel.put k eb rv).keeps λc ys ec=>?_,q,es,ep,hq,h2,h3,h4,h5];rw[aw (bK ec e nofun)];exact ec
end
variable{E:Aa->Ab->Prop}
theorem Yo{Q:Aa->Ab->Prop}(I:Inv X pins σ H s)(e:Rd H a (.dK kvs))(h:∀t s',Inv X pins σ H s'->Q (.int kvs.length t) s'):wpAny (model X.prog X.w) A (call (.builtin "len") [.ref a]) Q E s:=by
 let#[z,hd,vs,rel,dd]:=jH I.ax e;apply call_len_dict hd dd (by rw[<- rel.length];rw[cU] at z;omega) ?_;rw[<- rel.length];exact h _ _ (I.tok _)
def FR(i:Expr):Prop:=∀ov iv,subscripted i false ov iv=operate [ov,iv] (getItem ov iv)
variable{value:Expr}{pos:Pos}
theorem Zl{prog:Ad}{env:Env}{slice:Expr}{id:String}{Q:Aa->Ab->Prop}(hl:typeLookup (.type T) "__getitem__"=pure (some (.builtin id)))(hs:FR slice)(h:wpAny (model prog w) A (eval value env) (λo aK=>wpAny (model prog w) A (eval slice env) (λi jq=>jq.TypeIs o T/\wpAny (model prog w) A (getItem o i) Q E jq) E aK) E s) :
  wpAny (model prog w) A (eval (.Subscript value slice pos) env) Q E s:=by
 apply Subscript_ (wpAny_mono h (λo aK KQ=>wpAny_mono KQ (λi jq zj=>?_) λ_ _ x=>x) λ_ _ x=>x);let#[hT,zj]:=zj;unfold subscriptTail;apply ae ?_;rw[getitemInPython_of_ne hT.not_modules];apply ae (wpAny_specialOf hT hl ?_)
 have fin:wpAny (model prog w) A (subscripted slice false o i) (λr Cy=>wpAny (model prog w) A (letTemporaryGo value o r >>= λ_=>pure r) Q E Cy) E jq:=by
  rw[hs o i];exact wpAny_operating (wpAny_mono zj (λr Cy KP=>ae (wpAny_letTemporaryGo (aB KP))) λ_ _ x=>x)
 first
  |exact aB (ae fin)
  |exact ae (aB (ae fin))
  |exact ae fin
theorem eF_{y:V}(I:Inv X pins σ H s)(g:dP H a y o):s.TypeIs (.ref a) "dict":=by
 rcases g with⟨kvs,k,e,_,_⟩|⟨kvs,k,b,e,_,_,_⟩
 ·let#[_,_,vs,_,dd]:=jH I.ax e;exact dd.typeIs
 let#[_,_,xs,_,dd]:=Bj I.ax e;exact dd.typeIs
inductive qr (Q:VK) (x:V) (y:V) (H2:Hp):Prop
 |mk:∀a v,x=.ref a->dP H2 a y (some v)->Q v H2->qr Q x y H2
def Cu(td ty:TE):TE:=λσ H Q=>td σ H λx H1=>ty σ H1 λy H2=>qr Q x y H2
inductive wU (Q:VK) (y:V) (x:V) (H2:Hp):Prop
 |mk:∀a o,x=.ref a->dP H2 a y o->Q (.bl o.isSome) H2->wU Q y x H2
def JP(ty td:TE):TE:=λσ H Q=>ty σ H λy H1=>td σ H1 λx H2=>wU Q y x H2
inductive SX (Q:VK) (y:V) (x:V) (H2:Hp):Prop
 |mk:∀a o,x=.ref a->dP H2 a y o->Q (.bl (!o.isSome)) H2->SX Q y x H2
def uV(ty td:TE):TE:=λσ H Q=>ty σ H λy H1=>td σ H1 λx H2=>SX Q y x H2
inductive rB (D:Ends) (σ:St) (v:V) (x:V) (y:V) (H3:Hp):Prop
 |mk:∀a H4,x=.ref a->pB H3 a y v H4->D.nx σ H4->rB D σ v x y H3
def CS(td ty tv:TE):TS:=λD σ H=>tv σ H λv H1=>td σ H1 λx H2=>ty σ H2 λy H3=>rB D σ v x y H3
variable{i o:Expr}{td ty:TE}
theorem ji(hu:X.A.units+1<cLine)(ho:PE X o td)(hi:PE X i ty)(hs:FR i:=by exact λ_ _=>rfl):PE X (.Subscript o i pos) (Cu td ty):=by
 intro pins s σ H Q I h;apply Zl PySem.F.slot_dict_getitem.lookup hs (aP (ho pins s σ H _ I h) λu s1 ⟨x,H1,I1,rx,q1⟩=>aP (hi pins s1 σ H1 _ I1 q1) λiv s2 ⟨y,H2,I2,ry,a,v,ex,g,q2⟩=>?_);subst ex;obtain rfl:u=Value.ref a:=rx;exact#[eF_ I2 g,hc_ hu I2 g ry λw' s3 I3 i_=>#[v,H2,I3,i_,q2]]
theorem Bw(hu:X.A.units+1<cLine)(hi:PE X i ty)(ho:PE X o td):PC X .In i o (JP ty td):=by
 intro pins s σ H Q I h;apply aP (hi pins s σ H _ I h) λiv s1 ⟨y,H1,I1,ry,q1⟩=>aP (ho pins s1 σ H1 _ I1 q1) λu s2 ⟨x,H2,I2,rx,a,ov,ex,g,q2⟩=>?_;subst ex;obtain rfl:u=Value.ref a:=rx;exact MX hu I2 g ry λs3 I3=>#[.bl ov.isSome,H2,I3,U,q2]
theorem IU(hu:X.A.units+1<cLine)(hi:PE X i ty)(ho:PE X o td):PC X .NotIn i o (uV ty td):=by
 intro pins s σ H Q I h;apply aP (hi pins s σ H _ I h) λiv s1 ⟨y,H1,I1,ry,q1⟩=>aP (ho pins s1 σ H1 _ I1 q1) λu s2 ⟨x,H2,I2,rx,a,ov,ex,g,q2⟩=>?_;subst ex;obtain rfl:u=Value.ref a:=rx;exact Zj hu I2 g ry λs3 I3=>#[.bl (!ov.isSome),H2,I3,U,q2]
variable{pos':Pos}{tv:TE}
theorem uC(hu:X.A.units+1<cLine)(ho:PE X o td)(hi:PE X i ty)(hv:PE X value tv)(hs:swapsWith value (some (.Subscript o i pos')) pos.line X.env=pure false) :
  PS X (.Assign [.Subscript o i pos'] value pos) (CS td ty tv):=by
 intro pins s σ H D I h;apply wpAny_Assign_Subscript (aP (hv pins s σ H _ I h) λr s1 ⟨v,H1,I1,rv,q1⟩=>aP (ho pins s1 σ H1 _ I1 q1) λu s2 ⟨x,H2,I2,rx,q2⟩=>aP (hi pins s2 σ H2 _ I2 q2) λiv s3 ⟨y,H3,I3,ry,a,H4,ex,g,q3⟩=>?_) hs;subst ex;obtain rfl:u=Value.ref a:=rx;exact fZ_ hu I3 g ry rv λs4 I4=>#[σ,H4,I4,q3]
theorem _g(h:Heap)(hb:sysModules<h.objs.size):fA P w H (h.push { cls:=.type "dict",data:=.dict #[] }) h.objs.size (.dK []):=
 #[gB _,beq_eq_false_iff_ne.mpr (bG (dA hb)),[],.nil,Heap.DictOf.new h]
theorem Ta(h:Heap)(hb:sysModules<h.objs.size):fA P w H (h.push { cls:=.type "dict",data:=.dict #[] }) h.objs.size (.dT []):=
 #[gB _,beq_eq_false_iff_ne.mpr (bG (dA hb)),[],.nil,_,#[],0,cw _ U,#[U,U,U],U,U,List.nodup_nil]
def yo:TE:=λ_ H Q=>∀p,H p=none->Q (.ref p) (upd H p (.dK []))
def ym:TE:=λ_ H Q=>∀p,H p=none->Q (.ref p) (upd H p (.dT []))
theorem FF:PE X (.Dict [] [] pos) yo:=λpins s σ H Q I h=>
 wpAny_Dict_empty #[.ref s.heap.objs.size,_,I.laid (a:=s.heap.objs.size) (o:=.dK []) (t':=s.toks) (λ_ _ q=>aS _ q) (a_ _) (_g s.heap I.big),U,h _ (I.ax.fresh (a_ _))]
theorem _b:PE X (.Dict [] [] pos) ym:=λpins s σ H Q I h=>
 wpAny_Dict_empty #[.ref s.heap.objs.size,_,I.laid (a:=s.heap.objs.size) (o:=.dT []) (t':=s.toks) (λ_ _ q=>aS _ q) (a_ _) (Ta s.heap I.big),U,h _ (I.ax.fresh (a_ _))]
def vY(kvs more:List (Key × V)):List (Key × V):=more.foldl (λacc kv=>putK acc kv.1 kv.2) kvs
theorem Ox:∀(more kvs:List (Key × V)),(vY kvs more).length<=kvs.length+more.length
 |[],kvs=>by show kvs.length<=kvs.length+0;omega
 |p::r,kvs=>by
  let h1:=Ox r (putK kvs p.1 p.2);let h2:=OD kvs p.1 p.2;show (vY (putK kvs p.1 p.2) r).length<=_;rw[jm];omega
structure M1 (X:Cx) (o:Expr) (m:Str) (apos:Pos) (e:Expr) (cO:Pos):Prop where
 base:attributeBase o m X.env (eval o X.env)=eval o X.env
 few:((backTo cO (starEach [e] X.env)).all (λx=>!x.1)&&(backToKw cO (keywordEach [] X.env)).all (λx=>x.1.isSome)
  && decide (([e]:List Expr).length+([]:List Keyword).length+(if ([]:List Keyword).isEmpty then 0 else 1)<30))=true
 line:(apos.endLine == cO.line)=true
 trees:backTo cO (starEach [e] X.env)=[(false,eval e X.env)]
structure M2 (X:Cx) (o:Expr) (m:Str) (apos:Pos) (e f:Expr) (cO:Pos):Prop where
 base:attributeBase o m X.env (eval o X.env)=eval o X.env
 few:((backTo cO (starEach [e,f] X.env)).all (λx=>!x.1)&&(backToKw cO (keywordEach [] X.env)).all (λx=>x.1.isSome)
  && decide (([e,f]:List Expr).length+([]:List Keyword).length+(if ([]:List Keyword).isEmpty then 0 else 1)<30))=true
 line:(apos.endLine == cO.line)=true
 trees:backTo cO (starEach [e,f] X.env)=[(false,eval e X.env),(false,eval f X.env)]
def IsD(H:Hp)(a:Addr):Prop:=(∃kvs,Rd H a (.dK kvs))∨∃kvs,Rd H a (.dT kvs)
theorem QT(I:Inv X pins σ H s)(d:IsD H a) :
  s.TypeIs (.ref a) "dict"/\(∀b,Value.ref a=.ref b->∃ob,s.heap.get? b\ob/\ob.dict=none)/\(a == sysModules)=false:=by
 rcases d with⟨kvs,e⟩|⟨kvs,e⟩
 ·let#[_,hd,vs,_,dd]:=jH I.ax e;apply#[dd.typeIs,λb q=>?_,hd];cases q;let#[ob,_,_,h1,h2,_]:=dd;exact#[ob,h1,h2.2.1]
 let#[_,hd,xs,_,dd]:=Bj I.ax e;apply#[dd.typeIs,λb q=>?_,hd];cases q;let#[ob,_,_,h1,h2,_]:=dd;exact#[ob,h1,h2.2.1]
theorem ZV{Q:Aa->Ab->Prop}(I:Inv X pins σ H s)(e:Rd H a (.dK kvs))(h:∀p s',H p=none->Inv X pins σ (upd H p (.dK kvs)) s'->Q (.ref p) s'):wpAny (model X.prog X.w) A (call (.type "dict") [.ref a]) Q E s:=by
 let#[z,hd,vs,rel,dd]:=jH I.ax e;apply kt_call_dict hd dd (by rw[<- rel.length];exact z) λh' xR hs=>?_;apply h _ _ (I.ax.fresh (a_ _)) (I.laid (a:=s.heap.objs.size) (o:=.dK kvs) (t':=s.toks) (λb q hq=>?_) (a_ _) (Hv z (beq_eq_false_iff_ne.mpr (bG (dA I.big))) rel xR));exact (hs.2 b (dA (bp hq))).trans (aS _ hq)
end L2
namespace U0
open PySem PySem.W PySem.Calls PyProof.Rows
variable{P:Params}{h:Heap}
theorem cP_:∀(ns:List Int) (vs:aj),WellAll P h vs (ns.map WData.int)->IntsAre vs ns:=by
 intro ns
 induction ns with
 |nil=>
  intro vs w;rw[List.map_nil] at w;cases w;exact .nil
 |cons n ns ih=>
  intro vs w;rw[eY] at w;cases w with
  |cons a b=>
   cases a;exact .cons _ _ (ih _ b)
variable{l:OpenLaw}{n:Nat}
theorem gq_(hn:l.most\n){args:List WData}{vals:aj}(vH:l.row.toRowW.claim.pre args=true)(KU:WellAll P h vals args) :
  ∃a vs ns,vals=[Value.ref a]/\args=[WData.list (ns.map WData.int)]/\h.get? a=some { cls:=.type "list",data:=.seq vs.toArray }/\IntsAre vs ns/\ns.length<=n:=by
 have _V:WShape.hasAll [] args [.list .int]=true:=(pre_splitW vH).1;have hc:l.pre.holds [] { args:=args }=true:=(pre_splitW vH).2;let#[d,r,rfl,h1,h2]:=hasAllW_cons _V;obtain rfl:=hasAllW_nil h2;let#[xs,rfl,h3]:=hasW_list h1;let#[ns,rfl]:=items_int h3
 have hlen:ns.length<=n:=by
  unfold OpenLaw.pre at hc
  have h4:(WTm.not (.lt (.lit (.int (n:Int))) (.len (.arg 0)))).holds [] { args:=[.list (ns.map .int)] }=true:=by
   let h4:=(holds_andW hc).1;rw[hn] at h4;exact h4
  let h5:=condW_of h4 (w_not (w_lt w_lit (w_len_list (w_arg U))));rw[ao] at h5;apply Nat.le_of_not_lt λq=>?_;have q':(n:Int)<((ns.length:Nat):Int):=by omega
  first
   |(rw[cz q'] at h5;exact absurd h5 (by decide))
   |(simp at h5;omega)
 cases KU with
 |cons w1 w2=>
  cases w2;cases w1 with
  |list ho zM=>exact#[_,_,ns,U,U,ho,cP_ ns _ zM,hlen]
theorem gN_(l:OpenLaw)(args:List WData):l.row.toRowW.claim.post args (.bool true) args=true:=
 postW_of (r:=l.row.toRowW) (X:=(true == true))
  (show WShape.has [] (.bool true) .bool=true by first|rfl|decide|simp[WShape.has,WShape.arms,WShape.armsAll])
  (show (WTm.eq .res (.lit (.bool true))).value [] { args:=args,res:=some (.bool true),after:=args }=some (.bool (true == true)) from w_eq_bool (w_res U) w_lit) U
theorem jO{q:Ad}{loose:af}{XP:(Str->Option Aa)->Heap->Prop}{YP:Ag->Heap->Prop}{d:DefRec}(hn:l.most\n)(EA:d.params.defaults=[])(call:∀(w:Ag) (c_ aK:Ab) (mg mb:Str->Option Aa) (fa:Addr) (o:Obj) (pm cd doc:Aa) (a:Addr) (vs:aj) (ns:List Int),
   Ground q loose [] XP w c_ mg mb aK.heap->YP w aK.heap->
   aK.heap.get? fa\o->o.data=.func (docDef d.name d.params d.body d.scope pm cd doc)->aK.heap.CodeRec cd d.name->mg d.name\.ref fa->
   aK.heap.get? a=some { cls:=.type "list",data:=.seq vs.toArray }->IntsAre vs ns->ns.length<=n->aK.gens=#[]->
   codeAny (model l.prog w) callerA (.call (.ref fa) #[[.ref a],[]]) (λr s'=>r=.ok (.ret (.bool true))/\OldK aK.heap s'.heap/\s'.os=aK.os/\AllBare s'.gens) aK) :
  WalkO q loose XP YP l.row.toRowW d [] (λf vs=>PySem.call f vs):=by
 intro w c_ aK mg mb G Y fa o pm cd doc dV kV ho hd ip hD hmg hg args vals as vH hlay hrd KU Rk;obtain rfl:dV=.none:=Dflts.none hD EA;obtain rfl:kV=.none:=Dflts.noKw hD;let#[a,vs,ns,rfl,rfl,zr,hints,hlen]:=gq_ hn vH KU;apply enter_call (codeAny_mono (call w c_ aK mg mb fa o pm cd doc a vs ns G Y ho (fd_plain hd) ip hmg zr hints hlen hg) λr s' hq=>?_);let#[rfl,h2,h3,h4]:=hq;exact#[.inl #[.bool true,.bool true,[],U,λ_=>rfl,.bool true,gN_ l _,λ_=>#[List.Pairwise.nil,λ_ hm=>(nomatch hm)]],h2,h3,h4]
end U0
namespace L2
open PySem PySem.Spec PyProof.Rows
theorem TQ:∀{vs:aj} {ns:List Int},IntsAre vs ns->Vals (ns.map V.int) vs
 |_,_,.nil=>.nil
 |_,_,.cons n t h=>.cons #[t,U] (TQ h)
def l9(s:Stmt)(j:Nat):Stmt:=match s with
 |.ClassDef _ _ _ body _ _ _ _ _ _ _=>body.getD j (.Pass #[0,0,0,0])
 |_=>.Pass #[0,0,0,0]
def jJ(s:Stmt):Arguments:=match s with
 |.FunctionDef _ a _ _ _ _ _ _ _ _=>a
 |_=>{ posonlyargs:=[],args:=[],vararg:=none,kwonlyargs:=[],kw_defaults:=[],kwarg:=none,defaults:=[] }
def iw(s:Stmt):List Stmt:=match s with
 |.FunctionDef _ _ b _ _ _ _ _ _ _=>b
 |_=>[]
def a9(s:Stmt):Scope:=match s with
 |.FunctionDef _ _ _ _ _ _ sc _ _ _=>sc
 |_=>{ kind:=.function,names:=[],isGenerator:=false,isCoroutine:=false }
abbrev bh:uM:=λ_ _ _ _ _ _=>False
abbrev E0:XK:=λ_ _ _=>False
variable{X:Cx}
theorem nF:wA bh X E0:=λ_ _ _ _ _ _ _ h=>h.elim
structure bC (K:ai) (x qual:Str) (st:Stmt) (f:Addr) (fd:Ae):Prop where
 ex:∃(oc:Aa) (od:Option Addr) (kV doc pm:Aa) (an:Option Addr) (aQ ct:Aa) (j9:Array (Option Aa)),
  fd=PySem.W.fnOf x qual (jJ st) (iw st) (a9 st) .none kV doc pm an aQ ct/\K.lookup f=some #[oc,od,.func fd,j9]/\PySem.W.codeIn K aQ qual=true
 kp:PySem.W.keepIn K (.ref f)=true
variable{qual x:Str}{st:Stmt}{f:Addr}{fd:Ae}{N ps:af}{k:Nat}{sp:Sp}{P:Ad}{w:Ag}{K:ai}{mg:Str->Option Aa}{base:Heap}
theorem bC.ok(F:bC K x qual st f fd)(S:bN N ps (a9 st))(len:∀vs H Q E,sp vs H Q E->vs.length=ps.length)(fW:∀(aQ:Aa) (A:Af) (outer:List Env) (s:Ab) (H:Hp) (vs:ag) (Q:VK) (E:XK),aO k (A.deeper (envOfC qual (a9 st) s.heap.objs.size f aQ))->sp vs H Q E->
   ∃t,jT (iX bh P w K mg base N qual (a9 st) f aQ A outer s H E).xm (iw st) t/\t { nx:=λ_ H'=>Q .non H',rt:=Q } (start N vs) H):!au bh (k+1) f fd ps sp:=by
 let#[oc,od,kV,doc,pm,an,aQ,ct,j9,rfl,lk,ip]:=F.ex;apply Qz lk ip S len λA outer s H vs Q E hr ke=>?_;let#[t,h,q]:=fW aQ A outer s H vs Q E hr ke;exact#[t,h.xm,q]
theorem bC.bS(F:bC K x qual st f fd)(S:bN N ps (a9 st))(fW:∀(aQ:Aa) (A:Af) (outer:List Env) (s:Ab) (H:Hp) (vs:ag) (Q:VK) (E:XK),aO k (A.deeper (envOfC qual (a9 st) s.heap.objs.size f aQ))->sp vs H Q E->
   ∃t,jT (iX bh P w K mg base N qual (a9 st) f aQ A outer s H E).xm (iw st) t/\t { nx:=λ_ H'=>Q .non H',rt:=Q } (start N vs) H)(len:∀vs H Q E,sp vs H Q E->vs.length=ps.length:=by intro vs H Q E h;first|(cases h;subst_vars;rfl)|(let#[rfl,_]:=h;rfl)|(let#[_,rfl,_]:=h;rfl)|(let#[_,_,rfl,_]:=h;rfl)|(let#[_,_,_,rfl,_]:=h;rfl)|(let#[_,_,_,_,rfl,_]:=h;rfl)):!au bh (k+1) f fd ps sp:=F.ok S len fW
theorem bC.binds(F:bC K x qual st f fd)(h:∀(kV doc pm:Aa) (an:Option Addr) (aQ ct:Aa) (us:aj),us.length=ps.length->bindArgs (PySem.W.fnOf x qual (jJ st) (iw st) (a9 st) .none kV doc pm an aQ ct) #[us,[]]=pure (ps.zip us)):pQ K fd ps []:=by
 let#[oc,od,kV,doc,pm,an,aQ,ct,j9,rfl,lk,ip]:=F.ex;exact .all (h kV doc pm an aQ ct)
theorem QX{oc:Aa}{od an:Option Addr}{j9:Array (Option Aa)}{kV doc pm aQ ct:Aa}(l:K.lookup f=some #[oc,od,.func (PySem.W.fnOf x qual (jJ st) (iw st) (a9 st) .none kV doc pm an aQ ct),j9])(c:PySem.W.codeIn K aQ qual=true)(k:PySem.W.keepIn K (.ref f)=true):bC K x qual st f (PySem.W.fnOf x qual (jJ st) (iw st) (a9 st) .none kV doc pm an aQ ct):=#[#[oc,od,kV,doc,pm,an,aQ,ct,j9,U,l,c],k]
theorem fN{A:Af}(hr:aO k A):A.units+1<cLine:=Nat.lt_of_le_of_lt (Nat.add_le_add_left (by decide:1<=64) _) hr.units
theorem pv(i:Nat){pos:Pos}(hN:X.N[i]? = some x:=by rfl)(hv:OU X.env.scope x:=by first|exact Or.inl U|exact Or.inr (Or.inl U)|exact Or.inr (Or.inr U))(hd:(x == ("__debug__":Str))=false:=by decide)(ip:(x == ("__classdict__":Str))=false:=by decide):PE X (.Name x pos) (oG i):=Yb hN hv hd ip
inductive Uy (xs:ag) (H:Hp) (Q:VK):Prop
 |mk:∀a kvs,xs=[V.ref a]->H a\.dK kvs->Q (.int kvs.length) H->Uy xs H Q
theorem g7_:gE X (.builtin "len") Uy:=by
 intro pins s σ H xs us Q I r h;let#[a,kvs,rfl,ha,q]:=h;let#[u,rfl,ru]:=vals1 r;cases ru;exact Yo I (.inl ha) λt s' I'=>#[.int kvs.length,H,I',#[t,U],q]
variable{A B:Prop}
theorem aL(h:B):if false=true then A else B:=by
 rw[aA f_];exact h
theorem dD(h:A):if true=true then A else B:=by
 rw[aI U];exact h
variable{c:Prop}
theorem bY[Decidable c](h1:c->A)(h2:¬c->B):if c then A else B:=by
 by_cases h:c
 ·rw[aI h];exact h1 h
 rw[aA h];exact h2 h
theorem An[Decidable c](hc:c)(h:B):if (!decide c)=true then A else B:=by
 rw[cz hc];exact aL h
def aa(H H':Hp):Prop:=∀b o,H b\o->H' b\o
theorem aa.refl(H:Hp):aa H H:=λ_ _ h=>h
variable{H:Hp}
theorem aa.trans{H1 H2:Hp}(a:aa H H1)(b:aa H1 H2):aa H H2:=λc o h=>b c o (a c o h)
theorem aa.free{H':Hp}(e:aa H H'){l:Addr}(h:H' l=Option.none):H l=Option.none:=by
 cases q:H l with
 |none=>rfl
 |some o=>
  rw[e l o q] at h;cases h
section
variable{κ:Type}[DecidableEq κ]
theorem YU{kvs:List (κ × V)}{k:κ}{v:V}(h:aY kvs k\v):k∈kvs.map (·.1):=by
 have q:(kvs.any λkv=>decide (kv.1=k))=true:=by
  rw[BJ,h]
  all_goals rfl
 let#[p,hp,e]:=List.any_eq_true.mp q;exact br.mpr #[p,hp,o9 e]
end
end L2
local macro_rules|`(%[$x,*|$_])=>do return (<-x.getElems.foldrM (λe (a:Lean.Term)=>if e.raw.isNatLit?.isSome then`(L2.iO (L2.pv $e) $a)else`(L2.iO $e $a)) (<-`(L2.bF)))
namespace L2
open PySem PySem.Spec PyProof.Rows
def iY(env:Env):List (Str × NameKind)->List (Str × Addr)->List (Str × Addr)
 |[],cs=>cs
 |(n,k)::r,cs=>iY env r (if k == .free then (n,(env.cells.lookup n).getD 0)::cs else cs)
theorem OC{env:Env}(f:Str × NameKind->List (Str × Addr)->Sem (ForInStep (List (Str × Addr))))
  (hf:∀n k cs,f (n,k) cs=if (k == .free)=true then (do let a <- cellOf env n;pure (.yield ((n,a)::cs))) else pure (.yield cs)) :
  ∀(names:List (Str × NameKind)) (cs:List (Str × Addr)),(∀x∈names,x.2=.free->∃c,env.cells.lookup x.1\c)->forIn names cs f=(pure (iY env names cs):Sem _)
 |[],cs,_=>by rw[uL];rfl
 |(n,k)::r,cs,h=>by
  rw[p7,hf];have hr:∀x∈r,x.2=.free->∃c,env.cells.lookup x.1\c:=λx hx=>h x (fM _ hx);unfold iY;by_cases hk:(k == NameKind.free)=true
  ·let#[c,hc]:=h (n,k) gz ⇑hk;have hc:env.cells.lookup n\c:=hc;rw[aI hk,aI hk];have e:cellOf env n=pure c:=by unfold cellOf;rw[hc]
   rw[e];simp only[pure_bind];rw[OC f hf r _ hr,hc];rfl
  rw[aA hk,aA hk];simp only[pure_bind];exact OC f hf r _ hr
variable{scope:Scope}{env:Env}
theorem UQ(h:∀x∈scope.names,x.2=.free->∃c,env.cells.lookup x.1\c):closureFor scope env=pure (iY env scope.names []):=by
 simp only[closureFor];rw[OC (env:=env) _ (λn k cs=>by by_cases hk:(k == NameKind.free)=true<;>simp[hk]) scope.names [] h]
 simp only[pure_bind]
theorem Ub{env:Env}:∀{names:List (Str × NameKind)} {cs:List (Str × Addr)} {x:Str} {c:Addr},(x,c)∈iY env names cs->(x,c)∈cs∨((x,NameKind.free)∈names/\c=(env.cells.lookup x).getD 0)
 |[],cs,x,c,h=>.inl h
 |(n,k)::r,cs,x,c,h=>by
  unfold iY at h;rcases Ub h with h|⟨h,e⟩
  ·by_cases hk:(k == NameKind.free)=true
   ·rw[aI hk] at h;rcases bW.mp h with q|q
    ·cases q;have:k=.free:=⇑hk
     subst this;exact .inr #[gz,U]
    exact .inl q
   rw[aA hk] at h;exact .inl h
  exact .inr #[fM _ h,e]
theorem NJ{env:Env}:∀{names:List (Str × NameKind)} {cs:List (Str × Addr)} {x:Str},(x,NameKind.free)∈names∨(∃c,(x,c)∈cs)->∃c,(x,c)∈iY env names cs
 |[],cs,x,h=>by
  rcases h with h|h
  ·cases h
  ·exact h
 |(n,k)::r,cs,x,h=>by
  unfold iY;apply NJ ?_;rcases h with h|⟨c,h⟩
  ·rcases bW.mp h with e|h
   ·cases e;exact .inr #[(env.cells.lookup n).getD 0,by rw[aI (by decide)];exact gz]
   exact .inl h
  apply .inr #[c,?_];split
  ·exact fM _ h
  exact h
theorem Oz:∀(names:List (Str × NameKind)) (n:Nat) (acc cl:List (Str × Addr)),cellsFrom n names (acc++cl)=cellsFrom n names acc++cl
 |[],_,_,_=>rfl
 |(x,k)::r,n,acc,cl=>by
  unfold cellsFrom;split
  ·exact Oz r (n+1) ((x,n)::acc) cl
  exact Oz r n acc cl
theorem Oy:∀{names:List (Str × NameKind)} {n:Nat} {acc:List (Str × Addr)} {x:Str} {c:Addr},(x,c)∈cellsFrom n names acc->(x,c)∈acc∨(x,NameKind.cell)∈names
 |[],_,_,_,_,h=>.inl h
 |(y,k)::r,n,acc,x,c,h=>by
  unfold cellsFrom at h;by_cases hk:(k == NameKind.cell)=true
  ·rw[aI hk] at h;rcases Oy h with h|h
   ·rcases bW.mp h with e|h
    ·cases e;have:k=.cell:=⇑hk
     subst this;exact .inr gz
    exact .inl h
   exact .inr (fM _ h)
  rw[aA hk] at h;rcases Oy h with h|h
  ·exact .inl h
  exact .inr (fM _ h)
theorem OA{α:Type}:∀{l:List (Str × α)} {x:Str} {c:α},(x,c)∈l->∃c',l.lookup x\c'
 |(k,v)::r,x,c,h=>by
  rw[p9];cases hb:x == k with
  |true=>exact#[v,U]
  |false=>
   rcases bW.mp h with e|h
   ·cases e;simp at hb
   exact OA h
def jE(scope:Scope)(C:Addr)(env:Env):Env:=
 { scope:=relabel scope env,locals:=C,globals:=env.globals,cells:=cellsFrom (C+1) scope.names (iY env scope.names []),qual:=env.qual,func:=none,code:=env.code,frame:=env.frame,builtins:=env.builtins }
theorem UK{M:Model}{A:Af}{E:Aa->Ab->Prop}{s:Ab}{cl:List (Str × Addr)}{Q:Env->Ab->Prop}(h:Q { scope:=scope,locals:=s.heap.objs.size,globals:=env.globals,cells:=cellsFrom (s.heap.objs.size+1) scope.names cl,qual:=env.qual,func:=none,code:=env.code,frame:=env.frame,builtins:=env.builtins }
   { s with heap:=pushCells (s.heap.push { cls:=.type "dict",data:=.dict #[] }) scope.names }) :
  wpAny M A (newFunctionEnv scope env.globals cl [] env.qual none .none (some env)) Q E s:=by
 simp only[newFunctionEnv,Option.isSome_some,if_true];apply ae (wpAny_alloc ?_);apply ae (wpAny_layCells _ (λname kind cells=>by cases hkc:kind == NameKind.cell<;>simp[hkc]) _ _ _ _ ?_)
 rw[show ({ s with heap:=s.heap.push { cls:=.type "dict",data:=.dict #[] } }:Ab).heap.objs.size=s.heap.objs.size+1 from l7 ..];rw[uL];exact ae (aB (aB h))
def II(PN:af)(ps:Scope)(N:af)(own:Nat)(fr:List Nat)(scope:Scope):Bool:=
 decide (scope.kind=.function)&&decide N.Nodup&&decide (own+fr.length=N.length)
 && (scope.names.all λy=>decide (scope.names.lookup y.1\y.2))
 && (scope.names.all λy=>if y.2=.free then decide (ps.names.lookup y.1\.cell) || decide (ps.names.lookup y.1\.free) else true)
 && ((fr.map λj=>PN[j]?) == (N.drop own).map some)
 && ((N.drop own).all λx=>decide (scope.names.lookup x\.free))
structure mP (PN:af) (ps:Scope) (N:af) (own:Nat) (fr:List Nat) (scope:Scope):Prop where
 kind:scope.kind=.function
 nd:N.Nodup
 len:own+fr.length=N.length
 look:∀y∈scope.names,scope.names.lookup y.1\y.2
 par:∀y∈scope.names,y.2=.free->ps.names.lookup y.1\.cell∨ps.names.lookup y.1\.free
 o4:(fr.map λj=>PN[j]?)=(N.drop own).map some
 frk:∀x∈N.drop own,scope.names.lookup x\.free
variable{N:af}{own:Nat}
theorem mP.of{PN:af}{ps:Scope}{fr:List Nat}(h:II PN ps N own fr scope=true):mP PN ps N own fr scope:=by
 unfold II at h;simp only[Bool.and_eq_true,decide_eq_true_eq,List.all_eq_true,beq_iff_eq] at h;let#[#[#[#[#[#[h1,h2],h3],h4],h5],h6],h7]:=h;apply#[h1,h2,h3,h4,λy hy e=>?_,h6,h7];let q:=h5 y hy;rw[aI e] at q;simpa using q
def AM(own:Nat)(fr:List Nat)(σ:St):St:=List.replicate own none++fr.map λj=>(σ[j]?).join
def hZ(X:Cx)(N:af)(scope:Scope)(fp:aq)(s:Ab)(H:Hp):Cx where
 prog:=X.prog
 w:=X.w
 K:=X.K
 mg:=X.mg
 base:=X.base
 A:=X.A
 N:=N
 c_:=s
 jV:=H
 env:=jE scope s.heap.objs.size X.env
 outer:=X.stack
 stack:=X.stack
 ex:=fp
 fn:=λx=>decide (scope.names.lookup x\.local) || decide (scope.names.lookup x\.cell)
 calm:=X.calm
 pn:=[]
 xe:=λ_ _=>False
theorem Ur{ps:Scope}{env:Env}(he:env.scope=ps){x:Str}:∀{names:List (Str × NameKind)} {k:NameKind},names.lookup x\k->
  (names.map λ(n,k)=>if (k == NameKind.free&&env.scope.kind == .function&&env.kindOf n == some .cell) then (n,NameKind.cell) else (n,k)).lookup x =
   some (if (k == NameKind.free&&env.scope.kind == .function&&env.kindOf x == some .cell) then .cell else k)
 |(n,k')::r,k,h=>by
  rw[p9] at h;rw[eY];cases hb:x == n with
  |true=>
   rw[hb] at h;cases h;have e:x=n:=⇑hb
   subst e;dsimp only;split<;>simp[p9]
  |false=>
   rw[hb] at h;let ih:=Ur he (env:=env) h;dsimp only;split<;>(rw[p9,hb];exact ih)
theorem Oj{env:Env}{x:Str}:∀{names:List (Str × NameKind)} {k:NameKind},(names.map λ(n,k)=>if (k == NameKind.free&&env.scope.kind == .function&&env.kindOf n == some .cell) then (n,NameKind.cell) else (n,k)).lookup x\k->∃k',names.lookup x\k'/\(k'=k∨(k'=.free/\k=.cell))
 |(n,k')::r,k,h=>by
  rw[eY] at h;rw[p9];dsimp only at h;cases hb:x == n with
  |true=>
   apply#[k',U,?_];by_cases hc:(k' == NameKind.free&&env.scope.kind == .function&&env.kindOf n == some .cell)=true
   ·rw[aI hc,p9,hb] at h;cases h;simp only[Bool.and_eq_true,beq_iff_eq] at hc;exact .inr #[hc.1.1,U]
   ·rw[aA hc,p9,hb] at h;cases h;exact .inl U
  |false=>
   have h':(r.map λ(n,k)=>if (k == NameKind.free&&env.scope.kind == .function&&env.kindOf n == some .cell) then (n,NameKind.cell) else (n,k)).lookup x\k:=by
    split at h<;>(rw[p9,hb] at h;exact h)
   exact Oj h'
theorem dA_{α:Type}{x:Str}{c:α}:∀{l r:List (Str × α)},(l++r).lookup x\c->(x,c)∈l∨(x,c)∈r:=λh=>dN.mp (pY h)
section
variable{X:Cx}{pins:List (Addr × Obj)}{σ:St}{H:Hp}{s:Ab}{N:af}{own:Nat}{fr:List Nat}{scope:Scope}{fp:aq}
theorem Ue(I:Inv X pins σ H s)(S:mP X.N X.env.scope N own fr scope){x:Str}{c:Addr}(h:(x,c)∈iY X.env scope.names []):X.env.cells.lookup x\c/\(x,NameKind.free)∈scope.names:=by
 rcases Ub h with h|⟨h,e⟩
 ·cases h
 let#[c',hc]:=I.ok.has x (S.par _ h U);apply#[?_,h];rw[e,hc];rfl
theorem Inv.block(I:Inv X pins σ H s)(S:mP X.N X.env.scope N own fr scope)(GS:∀b∈fp,df X pins H b)(hfo:∀b∈fp,∃o,s.heap.get? b\o) :
  Inv (hZ X N scope fp s H) [] (AM own fr σ) H { s with heap:=pushCells (s.heap.push { cls:=.type "dict",data:=.dict #[] }) scope.names }:=by
 have kept:∀b o,s.heap.get? b\o->(pushCells (s.heap.push { cls:=.type "dict",data:=.dict #[] }) scope.names).get? b\o:=λb o e=>pushCells_keeps _ _ b o (aS _ e);let IB:=cellsFrom_ok scope.names (s.heap.push { cls:=.type "dict",data:=.dict #[] }) (s.heap.objs.size+1) [] #[λ_ _ hm=>(nomatch hm),List.Pairwise.nil] (by rw[l7];exact a_ _);rw[l7] at IB;have ecs:cellsFrom (s.heap.objs.size+1) scope.names (iY X.env scope.names [])=cellsFrom (s.heap.objs.size+1) scope.names []++iY X.env scope.names []:=Oz _ _ [] _
 have gW:∀{x c},(cellsFrom (s.heap.objs.size+1) scope.names (iY X.env scope.names [])).lookup x\c->((x,c)∈cellsFrom (s.heap.objs.size+1) scope.names []/\(x,NameKind.cell)∈scope.names/\s.heap.objs.size+1<=c)∨(X.env.cells.lookup x\c/\(x,NameKind.free)∈scope.names):=λ{x c} h=>by
  rw[ecs] at h;rcases dA_ h with h|h
  ·apply .inl #[h,?_,(IB.empty _ _ h).2];rcases Oy h with q|q
   ·cases q
   exact q
  exact .inr (Ue I S h)
 have Da:∀{x c},X.env.cells.lookup x\c->c<s.heap.objs.size:=λ{x c} h=>by
  let#[v,hv]:=I.cell x c h;exact hv.lt
 have hb:∀b∈fp,b<s.heap.objs.size:=λb hb=>let #[o,e]:=hfo b hb;bp e
 apply#[#[I.ok.mod,S.kind,I.ok.glob,I.ok.blt,a_ _,λx y c h1 h2=>?_,λx hx=>?_,λx c hf h=>?_,I.ok.hd,I.ok.frames,.inl U,λb uh=>#[dA (hb b uh),λx c h=>?_],I.bs,?_,λb o e uh=>?_,λb uh hs=>?_,I.stack,I.mY],
  rfl,I.bare,Un.kept kept,#[_,(Heap.Ns.new s.heap (.type "dict")).keeps (pushCells_keeps _ _),λi x v h1 h2 h3=>?_],λx c h=>?_,I.ax.fresh (a_ _),λx c h=>?_,λp hp=>absurd (show p∈([]:List (Addr × Obj)) from hp) Z2,I.ax.kept kept,?_]
 ·-- inj
  rcases gW h1 with⟨m1,k1,l1⟩|⟨m1,k1⟩<;>rcases gW h2 with⟨m2,k2,l2⟩|⟨m2,k2⟩
  ·exact name_of_addr IB.apart m1 m2
  ·exact absurd (Da m2) (Nat.not_lt.mpr (Nat.le_of_succ_le l1))
  ·exact absurd (Da m1) (Nat.not_lt.mpr (Nat.le_of_succ_le l2))
  exact I.ok.inj x y c m1 m2
 ·-- has
  have key:(x,NameKind.cell)∈scope.names∨(x,NameKind.free)∈scope.names:=by
   rcases hx with hx|hx
   ·let#[k',e,q]:=Oj (env:=X.env) (show _\NameKind.cell from hx);let m:=pY e;rcases q with q|⟨q,_⟩
    ·exact .inl (q▸m)
    exact .inr (q▸m)
   let#[k',e,q]:=Oj (env:=X.env) (show _\NameKind.free from hx);let m:=pY e;rcases q with q|⟨_,q⟩
   ·exact .inr (q▸m)
   cases q
  show ∃c,(cellsFrom (s.heap.objs.size+1) scope.names (iY X.env scope.names [])).lookup x\c
  have:((cellsFrom (s.heap.objs.size+1) scope.names (iY X.env scope.names [])).lookup x).isSome=true:=by
   apply PySem.W.cellsFrom_some _ _ _ ?_;rcases key with q|q
   ·exact .inl (S.look _ q)
   let#[c,m]:=NJ (env:=X.env) (names:=scope.names) (cs:=[]) (x:=x) (.inl q);let#[c',e]:=OA m;exact .inr (by rw[e];rfl)
  exact Option.isSome_iff_exists.mp this
 ·-- BB
  rcases gW h with⟨_,_,l⟩|⟨_,k⟩
  ·exact Nat.le_of_succ_le l
  let e:=S.look _ k;have hf:(decide (scope.names.lookup x\.local) || decide (scope.names.lookup x\.cell))=true:=hf;rw[show scope.names.lookup x\.free from e] at hf;exact absurd hf (by decide)
 ·rcases gW h with⟨_,_,l⟩|⟨q,_⟩
  ·exact i5 (i6 (hb b uh) (Nat.le_of_succ_le l))
  exact (GS b uh).2.2.2.2.1 x c q
 ·exact gj I.ok.tE I.sz
 ·rcases (GS b uh).2.2.2.1 with q|q
  ·exact I.ok.rR b o e q
  exact absurd (i6 (bp e) I.ok.tE) Z1
 ·rcases bW.mp (I.kG b hs) with q|q
  ·exact (GS b uh).2.1 q
  exact (GS b uh).2.2.1 q
 ·-- names
  have hi:own<=i:=by
   apply Nat.le_of_not_lt λdW=>?_;unfold AM at h2;rw[wC (by rw[BQ];exact dW),List.getElem?_replicate,aI dW] at h2;cases h2
  have g8:(fr.map λj=>(σ[j]?).join)[i - own]? = some (some v):=by
   unfold AM at h2;rw[x5 (by rw[BQ];exact hi),BQ] at h2;exact h2
  have h1:N[i]? = some x:=h1;have hx:(N.drop own)[i - own]? = some x:=by rw[List.getElem?_drop,show own+(i - own)=i by omega];exact h1
  rw[dG] at g8;cases ej:fr[i - own]? with
  |none=>rw[ej] at g8;cases g8
  |some j=>
   rw[ej] at g8;have g8:(σ[j]?).join\v:=cq g8
   have si:σ[j]? = some (some v):=by
    cases q:σ[j]? with
    |none=>rw[q] at g8;cases g8
    |some o=>rw[q] at g8;exact eF some g8
   have hN:X.N[j]? = some x:=by
    let q:=eF (λl=>l[i - own]?) S.o4;simp only[dG,ej,hx,Option.map_some] at q;exact cq q
   let kf:=S.frk x (cy hx);let mf:=pY kf;let#[m,hm,hv]:=I.loc;let pk:=S.par _ mf U;let#[u,ru,lk]:=hv j x v hN si (pk.elim (λq=>.inr (.inl q)) λq=>.inr (.inr q));apply#[u,ru,?_];have PZ:X.env.kindOf x\.cell∨X.env.kindOf x\.free:=pk;rcases lk with⟨k,_⟩|⟨_,c,hc,nZ⟩
   ·rw[k] at PZ;rcases PZ with q|q<;>cases q
   let#[c',m1]:=NJ (env:=X.env) (names:=scope.names) (cs:=[]) (x:=x) (.inl mf);let e1:=(Ue I S m1).1;rw[hc] at e1;cases e1;apply .inr #[?_,c,?_,nZ.keeps kept]
   ·let q:=Ur (env:=X.env) U kf;show (relabel scope X.env).names.lookup x\.cell∨(relabel scope X.env).names.lookup x\.free;unfold relabel;rw[q];split
    ·exact .inl U
    exact .inr U
   let#[c2,e2]:=Option.isSome_iff_exists.mp (PySem.W.cellsFrom_some (x:=x) scope.names (s.heap.objs.size+1) (iY X.env scope.names []) (.inr (by let#[c',e]:=OA m1;rw[e];rfl)));show (cellsFrom (s.heap.objs.size+1) scope.names (iY X.env scope.names [])).lookup x\c;rcases gW e2 with⟨_,q,_⟩|⟨q,_⟩
   ·have:=S.look _ q;rw[show scope.names.lookup x\.free from kf] at this;cases this
   rw[hc] at q;cases q;exact e2
 ·-- cells
  rcases gW h with⟨q,_,_⟩|⟨q,_⟩
  ·exact#[_,(IB.empty _ _ q).1]
  let#[v,hv]:=I.cell x c q;exact#[v,hv.keeps kept]
 ·rcases gW h with⟨q,_,l⟩|⟨q,_⟩
  ·exact I.ax.fresh Z1
  exact I.ee x c q
 show (AM own fr σ).length=N.length;unfold AM;rw[eI,BQ,ao];exact S.len
end
def FO(X:Cx)(ifs:List Expr)(t:TT):Prop:=
 ∀(pins:List (Addr × Obj)) (s:Ab) (σ:St) (H:Hp) (Q:Bool->Hp->Prop),Inv X pins σ H s->t σ H Q->
  wpAny (model X.prog X.w) X.A (forIn ifs true λc r=>if r=true then do let ok <- isTrue c X.env (eval c X.env);pure (ForInStep.yield ok) else pure (ForInStep.yield r)) (TP X pins σ Q) X.xe s
def qg:TT:=λ_ H Q=>Q true H
variable{σ:St}
theorem fU{H:Hp}{A B:Hp->Prop}(h:A H):qg σ H λb H4=>if b=true then A H4 else B H4:=by
 unfold qg;exact dD h
variable{X:Cx}
theorem mE:FO X [] qg:=λ_ _ _ H _ I h=>wpAny_tests_nil #[H,I,h]
theorem HU{c:Expr}{t:TT}(h:PT X c t):FO X [c] t:=λpins s σ H Q I q=>wpAny_tests_one (h pins s σ H Q I q)
def Bu(J:It)(g:TG)(tc:TT)(te:TE)(pE:St)(D:Addr)(H1:Hp)(Q:VK):Prop:=∃W:Nat->Nat->St->Hp->Prop,
 (∃m,W 0 m pE (upd H1 D (.lst [])))/\∀i m aV H',W i m aV H'->(J.stop i H'/\Q (.ref D) H') ∨
  (J.go i H'/\∃Nx:St->Hp->Prop,(∀gm H2,Nx gm H2->∃m',m'<m/\W (i+1) m' gm H2) /\
   ∀x H2,J.uO i H' x H2->g x aV H2 λj7 H3=>tc j7 H3 λb H4=>if b=true then te j7 H4 λy H5=>∃out,H5 D\.lst out/\out.length<sizeLine/\Nx j7 (upd H5 D (.lst (out++[y]))) else Nx j7 H4)
def wV(wi:TI)(own:Nat)(fr:List Nat)(g:TG)(tc:TT)(te:TE):TE:=λσ H Q=>wi σ H λJ H1=>∀D,H1 D=none->Bu J g tc te (AM own fr σ) D H1 Q
variable{Q:VK}{J:It}{D:Addr}{elt iter tg:Expr}{ifs:List Expr}{pos:Pos}{g:TG}{tc:TT}{te:TE}
theorem R_{R:Result->Ab->Prop}{fr:List Nat}{pins:List (Addr × Obj)}{H1:Hp}{s2:Ab}{it:Addr}{fp:aq}{tn:Nat->Heap->Prop}(S:mP X.N X.env.scope N own fr scope)(hc:X.calm=true)(hg:∀fp s H,PG (hZ X N scope fp s H) tg g)(ht:∀fp s H,FO (hZ X N scope fp s H) ifs tc)(he:∀fp s H,PE (hZ X N scope fp s H) elt te)(I3:Inv X pins σ (upd H1 D (.lst [])) s2)(T:Turn X.prog X.w X.K tg J fp it tn)(st:tn 0 s2.heap)(f2:∀b∈fp,df X pins (upd H1 D (.lst [])) b)(k:Bu J g tc te (AM own fr σ) D H1 Q)(hR:∀H' s',Inv X pins σ H' s'->(∃m,s'.heap.Ns s2.heap.objs.size m)->H' s2.heap.objs.size=none->Q (.ref D) H'->R (.ok .next) s') :
  codeAny (model X.prog X.w) X.A (.compStart (.ListComp elt [#[tg,iter,ifs,0]] scope pos) 0 (.ref it) (.ref D) (jE scope s2.heap.objs.size X.env)) R
   { s2 with heap:=pushCells (s2.heap.push { cls:=.type "dict",data:=.dict #[] }) scope.names }:=by
 let#[W,#[m0,w0],turn]:=k;let I4:=I3.block (N:=N) S f2 (λb hb=>let #[o,e,_]:=T.obj _ _ st b hb;#[o,e]);have kept:∀b o,s2.heap.get? b\o->(pushCells (s2.heap.push { cls:=.type "dict",data:=.dict #[] }) scope.names).get? b\o:=λb o e=>pushCells_keeps _ _ b o (aS _ e);have iN:tn 0 (pushCells (s2.heap.push { cls:=.type "dict",data:=.dict #[] }) scope.names):=T.keep _ _ _ st λb hb o e=>kept b o e
 have fx:∀{H':Hp},(∀b∈fp,H' b=none)->∀b∈fp,df (hZ X N scope fp s2 (upd H1 D (.lst []))) [] H' b:=λhn b hb=>
  #[hn b hb,(I4.ok.G_ b hb).1,I4.ok.sO b hb,.inl hb,(I4.ok.G_ b hb).2,λp hp=>absurd (show p∈([]:List (Addr × Obj)) from hp) Z2]
 have loop:codeAny (model X.prog X.w) X.A (.compLoop (.ListComp elt [#[tg,iter,ifs,0]] scope pos) 0 (.ref it) (.ref D) (jE scope s2.heap.objs.size X.env)) R
   { s2 with heap:=pushCells (s2.heap.push { cls:=.type "dict",data:=.dict #[] }) scope.names }:=by
  apply codeAny_loop U (λn s'=>∃i aV H',Inv (hZ X N scope fp s2 (upd H1 D (.lst []))) [] aV H' s'/\tn i s'.heap/\(∀b∈fp,H' b=none)/\W i n aV H') (λn s' hI=>?_) m0 #[0,_,_,I4,iN,λb hb=>(f2 b hb).1,w0];let#[i,aV,H',I5,iM,o5,w5]:=hI;show wpAny _ X.A ((compTurn (.ListComp elt [#[tg,iter,ifs,0]] scope pos) 0 (.ref it) (.ref D) (jE scope s2.heap.objs.size X.env)).onRaise (λx=>do noteFrame x (jE scope s2.heap.objs.size X.env);theTreesLotGoes x)) _ _ s';apply wpAny_noted (wpAny_mono (E:=λ_ _=>False) ?_ (λ_ _ q=>q) λ_ _ q=>q.elim);rw[compTurn_list];apply ae (wpAny_standAt (ae ?_));rcases turn i n aV H' w5 with⟨stop,q⟩|⟨go,Nx,hN,step⟩
  ·apply aP (T.done (hZ X N scope fp s2 (upd H1 D (.lst []))) U U U hc i [] s' aV H' _ I5 (fx o5) iM stop) λr s6 ⟨hr,I6⟩=>?_;subst hr;apply aB (hR H' s6 (I3.Fj I6.os I6.base I6.ax I6.bare λb hb=>?_) ?_ I6.free q)
   ·exact#[(f2 b hb).2.2.2.1,(f2 b hb).2.1,(f2 b hb).2.2.2.2.1,(f2 b hb).2.2.2.2.2]
   let#[m,hm,_]:=I6.loc;exact#[m,hm]
  apply aP (T.item (hZ X N scope fp s2 (upd H1 D (.lst []))) U U U hc i [] s' aV H' _ I5 (fx o5) iM go) λr s6 ⟨u,hr,h6⟩=>?_;subst hr;apply ae (aP h6 λ_ s7 ⟨x,H7,I7,r7,y7,kI,EW⟩=>?_);let I7':=I7.pinned (fx EW) (T.obj _ _ kI)
  have back:∀{tV:St} {H8:Hp} {s8:Ab},Inv (hZ X N scope fp s2 (upd H1 D (.lst []))) ([]++vX fp s7.heap) tV H8 s8->Nx tV H8->∃m,m<n/\∃i aV H',Inv (hZ X N scope fp s2 (upd H1 D (.lst []))) [] aV H' s8/\tn i s8.heap/\(∀b∈fp,H' b=none)/\W i m aV H':=λ{tV H8 s8} I8 n8=>by
   let#[m',hm,w8]:=hN tV H8 n8;apply#[m',hm,i+1,tV,H8,I8.eQ,T.keep _ _ _ kI λb hb o e=>(I8.pin (b,o) (mJ _ (mJ _ (IZ hb e)))).1,λb hb=>?_,w8];let#[o,e,d]:=T.obj _ _ kI b hb;exact (I8.pin (b,o) (mJ _ (mJ _ (IZ hb e)))).2.1
  apply ae (aP (hg fp s2 (upd H1 D (.lst [])) _ s7 aV H7 x u _ I7' r7 (step x H7 y7)) λ_ s8 ⟨tV,H8,I8,q8⟩=>?_);apply ae (aP (ht fp s2 (upd H1 D (.lst [])) _ s8 tV H8 _ I8 q8) λb s9 ⟨H9,I9,q9⟩=>?_);cases b with
  |false=>
   simp only[p_,if_false] at q9 ⊢;exact aB #[U,back I9 q9]
  |true=>
   simp only[if_true] at q9 ⊢;apply ae (ae (aP (he fp s2 (upd H1 D (.lst [])) _ s9 tV H9 _ I9 q9) λy CY ⟨yv,H10,I10,WH,out,hD,hz,Ka⟩=>?_));apply ae (aP (tK (X:=hZ X N scope fp s2 (upd H1 D (.lst []))) _ CY tV H10 (.ref D) [yv] (.ref D) [y] (λ_ H'=>Nx tV H') I10 U (.cons WH .nil) #[D,out,yv,U,U,hD,hz,Ka]) λ_ s11 ⟨_,O6,I11,_,J_⟩=>?_);exact aB (aB #[U,back I11 J_])
 exact codeAny_compStart_list loop (T.self _ 0 _ _ _ iN loop)
variable{wi:TI}
theorem ku(N:af)(own:Nat)(fr:List Nat)(hi:PI X tg iter wi)(hg:∀fp s H,PG (hZ X N scope fp s H) tg g)(ht:∀fp s H,FO (hZ X N scope fp s H) ifs tc)(he:∀fp s H,PE (hZ X N scope fp s H) elt te)
  (S:II X.N X.env.scope N own fr scope=true:=by kernel_rfl) (hc:X.calm=true:=by rfl) (hs:∀x,foldedSetIterable iter X.env x=pure x:=by intro _;rfl) :
  PE X (.ListComp elt [#[tg,iter,ifs,0]] scope pos) (wV wi own fr g tc te):=by
 intro pins s σ H Q I h;let S':=mP.of S;rw[eval_ListComp];have sH:closureFor scope X.env=pure (iY X.env scope.names []):=UQ λx hx e=>I.ok.has x.1 (S'.par x hx e);apply wpAny_comprehension_free (use:=none) U hs sH S'.kind (λx hx e=>by rw[S'.look x hx,e]) (aP (hi pins s σ H _ I h) λv s1 h1=>aP h1 λGF s2 h2=>?_);let#[it,fp,tn,J,H1,rfl,I2,T,gn,f2,k]:=h2;apply pW (UK ?_);have hD:H1 s2.heap.objs.size=none:=I2.fresh;let I3:=I2.zc (ys:=[]) (its:=[]) (t':=s2.toks) .nil (gB _);have kept:∀b o,s2.heap.get? b\o->(s2.heap.push { cls:=.type "list",data:=.seq ([]:aj).toArray }).get? b\o:=λb o e=>aS _ e;apply R_ (own:=own) (fr:=fr) (Q:=Q) S' hc hg ht he I3 T (T.keep _ _ _ gn λb hb o e=>kept b o e) (λb hb=>?_) (k _ hD) ?_
 ·apply#[?_,(f2 b hb).2];let#[o,e,_]:=T.obj _ _ gn b hb;rw[aw (dA (bp e))];exact (f2 b hb).1
 rintro H' s' I' ⟨m,hm⟩ hn q;apply#[m,hm,λh' hs'=>#[.ref s2.heap.objs.size,H',?_,U,q]]
 exact I'.turned (t':=s'.toks) (λb o hb e=>hs'.extBut b o hb e) hn (i5 I3.lt) (.inr I3.sz) (λx c LD e=>by
  let#[v,hv]:=I3.cell x c LD
  exact absurd hv.lt (by rw[e];exact tM _)) λp hp e=>by
   have:=(I3.pin p hp).1;rw[e] at this;exact absurd (bp this) (tM _)
def Cv(i:Nat)(te:TE):TS:=λD σ H=>te σ H λx H1=>D.nx (σ.set i (some x)) H1
theorem Ms{i:Nat}{x:Str}{px:Pos}(N:af)(own:Nat)(fr:List Nat)(hN:X.N.Nodup)(GR:X.N[i]? = some x)(hx:Loc X.env.scope x)
  (hi:PI X tg iter wi) (hg:∀fp s H,PG (hZ X N scope fp s H) tg g) (ht:∀fp s H,FO (hZ X N scope fp s H) ifs tc) (he:∀fp s H,PE (hZ X N scope fp s H) elt te) {pos':Pos}
  (S:II X.N X.env.scope N own fr scope=true:=by kernel_rfl) (hc:X.calm=true:=by rfl) (hs:∀x,foldedSetIterable iter X.env x=pure x:=by intro _;rfl)
  (hf:X.fn x=true∨X.env.scope.names.lookup x\.local:=by first|exact .inl U|exact .inr U|assumption)
  (_U:swapsWith (.ListComp elt [#[tg,iter,ifs,0]] scope pos) (some (.Name x px)) pos'.line X.env=pure true:=by rfl) :
  PS X (.Assign [.Name x px] (.ListComp elt [#[tg,iter,ifs,0]] scope pos) pos') (Cv i (wV wi own fr g tc te)):=by
 intro pins s σ H E I h;let S':=mP.of S;rw[exec_Assign_Name_used _ _ _ _ _U];apply ae (wpAny_standAt (ae ?_));show wpAny _ X.A (do let _ <- comprehension (.ListComp elt [#[tg,iter,ifs,0]] scope pos) scope X.env _ (newList []) false (eval iter X.env) (some (assign (.Name x px) X.env))) _ _ s;have sH:closureFor scope X.env=pure (iY X.env scope.names []):=UQ λx hx e=>I.ok.has x.1 (S'.par x hx e)
 apply ae (wpAny_mono (wpAny_comprehension_free (use:=some (assign (.Name x px) X.env)) (Q:=λ_ s'=>SP X pins E .next s') U hs sH S'.kind (λx hx e=>by rw[S'.look x hx,e]) (aP (hi pins s σ H _ I h) λv s1 h1=>aP h1 λGF s2 h2=>?_))
  (λ_ s' hq=>aB (aB hq)) λ_ _ e=>e)
 let#[it,fp,tn,J,H1,rfl,I2,T,gn,f2,k]:=h2;apply pW (UK ?_);have hD:H1 s2.heap.objs.size=none:=I2.fresh;let I3:=I2.zc (ys:=[]) (its:=[]) (t':=s2.toks) .nil (gB _);have kept:∀b o,s2.heap.get? b\o->(s2.heap.push { cls:=.type "list",data:=.seq ([]:aj).toArray }).get? b\o:=λb o e=>aS _ e;apply R_ (own:=own) (fr:=fr) (Q:=λx H1=>E.nx (σ.set i (some x)) H1) S' hc hg ht he I3 T (T.keep _ _ _ gn λb hb o e=>kept b o e) (λb hb=>?_) (k _ hD) ?_
 ·apply#[?_,(f2 b hb).2];let#[o,e,_]:=T.obj _ _ gn b hb;rw[aw (dA (bp e))];exact (f2 b hb).1
 rintro H' s' I' ⟨m,hm⟩ hn q
 have uo:∀y c,X.env.cells.lookup y\c->c≠(s2.heap.push { cls:=.type "list",data:=.seq ([]:aj).toArray }).objs.size:=λy c LD e=>by
  let#[v,hv]:=I3.cell y c LD;exact absurd hv.lt (by rw[e];exact tM _)
 show wpAny _ X.A (assign (.Name x px) X.env (.ref s2.heap.objs.size)) _ _ s';apply wpAny_assign_Name (T1 (v:=V.ref s2.heap.objs.size) I' hN GR hx U (λpI I'' ⟨a,vE,ha⟩=>?_) hf)
 have hCa:(s2.heap.push { cls:=.type "list",data:=.seq ([]:aj).toArray }).objs.size≠a:=by
  rcases ha with e|e
  ·rw[e];exact i5 I3.lt
  exact (uo x a e).symm
 apply#[m,hm.sameBut vE hCa,λh' hs'=>#[_,H',?_,q]]
 exact I''.turned (t':=pI.toks) (λb o hb e=>hs'.extBut b o hb e) hn (i5 I3.lt) (.inr I3.sz) uo λp hp e=>by
   have:=(I3.pin p hp).1;rw[e] at this;exact absurd (bp this) (tM _)
def FV(g:TG)(own:Nat)(fv:List aJ)(dec:V->Hp->List aJ->Prop):Prop:=
 ∀(x:V) (o:List aJ) (H:Hp) (k:mO) (o3:List aJ),o.length=own->dec x H o3->k (o3++fv) H->g x (o++fv) H k
variable{fv:List aJ}
theorem fX:FV (ko 0) 1 fv (λx _ o3=>o3=[some x]):=λx o H k o3 hl e h=>by
 subst e
 match o,hl with
 |[a],_=>exact h
inductive Fc (K:ai) (x:V) (H:Hp) (o3:List aJ):Prop
 |mk:∀p u v,x=.ref p->fG K H p [u,v]->o3=[some u,some v]->Fc K x H o3
inductive Fb (K:ai) (x:V) (H:Hp) (o3:List aJ):Prop
 |mk:∀p u v w,x=.ref p->fG K H p [u,v,w]->o3=[some u,some v,some w]->Fb K x H o3
variable{K:ai}
theorem zU:FV (gM K 2 (pS (ko 0) (pS (ko 1) sM))) 2 fv (Fc K):=λx o H k o3 hl e h=>by
 let#[p,u,v,rfl,hp,rfl]:=e
 match o,hl with
 |[a,b],_=>exact#[p,[u,v],U,hp,U,u,[v],U,v,[],U,U,h]
theorem L6:FV (gM K 3 (pS (ko 0) (pS (ko 1) (pS (ko 2) sM)))) 3 fv (Fb K):=λx o H k o3 hl e h=>by
 let#[p,u,v,w,rfl,hp,rfl]:=e
 match o,hl with
 |[a,b,c],_=>exact#[p,[u,v,w],U,hp,U,u,[v,w],U,v,[w],U,w,[],U,U,h]
variable{H:Hp}{dec:V->Hp->List aJ->Prop}{pE:St}
theorem Mx(si:pE=List.replicate own none++fv)(G:FV g own fv dec)(n:Nat)(Pv:Nat->ag->Hp->Prop)(h0:Pv 0 [] (upd H D (.lst [])))(D5:∀out H',Pv n out H'->J.stop n H'/\Q (.ref D) H')(Lo:∀i out H',i<n->Pv i out H'->J.go i H'/\∀x H2,J.uO i H' x H2->∃o3,dec x H2 o3/\o3.length=own/\∀Nx:Hp->Prop,(∀rN H2,Pv (i+1) rN H2->Nx H2)->
   tc (o3++fv) H2 λb H4=>if b=true then te (o3++fv) H4 λy H5=>∃iP,H5 D\.lst iP/\iP.length<sizeLine/\Nx (upd H5 D (.lst (iP++[y]))) else Nx H4) :
  Bu J g tc te pE D H Q:=by
 subst si;apply#[λi m aV H'=>m=n - i/\i<=n/\(∃o:List aJ,aV=o++fv/\o.length=own)/\∃out,Pv i out H',#[n,by simp,gB _,#[_,U,BQ],_,h0],?_];rintro i m aV H' ⟨rfl,hi,⟨o,rfl,ho⟩,out,p⟩;by_cases dW:i<n
 ·let#[go,k]:=Lo i out H' dW p;apply .inr #[go,λgm H2=>(∃o:List aJ,gm=o++fv/\o.length=own)/\∃out,Pv (i+1) out H2,λgm H2 q=>#[n - (i+1),by omega,U,dW,q],λx H2 y=>?_];let#[o3,d,l3,q]:=k x H2 y;exact G x o H2 _ o3 ho d (q (λH2=>(∃o:List aJ,o3++fv=o++fv/\o.length=own)/\∃out,Pv (i+1) out H2) λrN H2 z=>#[#[o3,U,l3],rN,z])
 have e:i=n:=by omega
 subst e;exact .inl (D5 out H' p)
theorem kD{a:Addr}{xs:ag}(si:pE=List.replicate own none++fv)(G:FV g own fv dec)(Pv:Nat->ag->Hp->Prop)(h0:Pv 0 [] (upd H D (.lst [])))(hl:∀i out H',i<=xs.length->Pv i out H'->dY K H' a xs)(hd:∀out H',Pv xs.length out H'->Q (.ref D) H')(Lo:∀i x out H',xs[i]? = some x->Pv i out H'->∃o3,dec x H' o3/\o3.length=own/\∀Nx:Hp->Prop,(∀rN H2,Pv (i+1) rN H2->Nx H2)->
   tc (o3++fv) H' λb H4=>if b=true then te (o3++fv) H4 λy H5=>∃iP,H5 D\.lst iP/\iP.length<sizeLine/\Nx (upd H5 D (.lst (iP++[y]))) else Nx H4) :
  Bu (yb K a) g tc te pE D H Q:=by
 apply Mx si G xs.length Pv h0 (λout H' p=>#[#[xs,hl _ _ _ (a_ _) p,a_ _],hd out H' p]) λi out H' hi p=>?_;let q:=hl i out H' (Nat.le_of_lt hi) p;apply#[#[xs,xs[i],q,by simp[hi]],λx H2 y=>?_];let#[e,y]:=y;subst e;exact Lo i x out _ (y xs q) p
end L2
namespace wI
open PySem PySem.W PyProof.Rows
def Ok{α:Type}(f:Nat->Nat->Bool)(n:Nat):KasT α->(α->Prop)->Prop
 |.ret a,Q=>Q a
 |.ask i j k,Q=>i<n/\j<n/\Ok f n (k (f i j)) Q
theorem Ok.bind{α β:Type}{f:Nat->Nat->Bool}{n:Nat}{g:α->KasT β}{Q:β->Prop}:∀{t:KasT α} {R:α->Prop},Ok f n t R->(∀a,R a->Ok f n (g a) Q)->Ok f n (t.bind g) Q
 |.ret a,R,h,k=>k a h
 |.ask i j t,R,h,k=>#[h.1,h.2.1,Ok.bind h.2.2 k]
theorem Ok.imp{α:Type}{f:Nat->Nat->Bool}{n:Nat}{Q R:α->Prop}(k:∀a,Q a->R a):∀{t:KasT α},Ok f n t Q->Ok f n t R
 |.ret a,h=>k a h
 |.ask i j t,h=>#[h.1,h.2.1,Ok.imp k h.2.2]
theorem Ok.wp{α:Type}{f:Nat->Nat->Bool}{n:Nat}{cmp:Nat->Nat->(Bool->Ab->Prop)->Ab->Prop}{s:Ab}(hc:∀i j C,i<n->j<n->C (f i j) s->cmp i j C s){Q:α->Prop}{G:α->Ab->Prop}(k:∀a,Q a->G a s) :
  ∀{t:KasT α},Ok f n t Q->t.kasWp cmp G s
 |.ret a,h=>k a h
 |.ask i j t,h=>hc i j _ h.1 h.2.1 (Ok.wp hc k h.2.2)
structure Ord (f:Nat->Nat->Bool):Prop where
 fI:∀i,f i i=false
 trans:∀{i j k},f j i=false->f k j=false->f k i=false
 F4:∀{i j},f i j=true->f j i=false
variable{p:Array Nat}
variable{i j:Nat}
variable{k:Nat}
variable{n:Nat}
variable{lo:Nat}
variable{dC:Nat}
section
variable{f:Nat->Nat->Bool}(O:Ord f){N:Nat}
abbrev at'(p:Array Nat)(i:Nat):Nat:=p.getD i 0
def Up(f:Nat->Nat->Bool)(p:Array Nat)(k:Nat):Prop:=∀i j,i<=j->j<k->f (at' p j) (at' p i)=false
def Down(f:Nat->Nat->Bool)(p:Array Nat)(k:Nat):Prop:=∀i j,i<=j->j<k->f (at' p i) (at' p j)=false
def pA(f:Nat->Nat->Bool)(p:Array Nat)(lo k:Nat):Prop:=∀i,lo<=i->i<k->f (at' p i) (at' p (k - 1))=false/\f (at' p (k - 1)) (at' p i)=false
def Good(N:Nat)(p:Array Nat):Prop:=p.Perm (List.range N).toArray
theorem Good.size(h:Good N p):p.size=N:=by
 have:=h.size_eq;simpa using this
theorem Good.lt(h:Good N p)(hN:0<N)(i:Nat):at' p i<N:=by
 unfold at';by_cases hi:i<p.size
 ·have e:p.getD i 0=p[i]:=by simp[Array.getD,hi]
  rw[e];have m:p[i]∈(List.range N).toArray:=h.mem_iff.mp (Array.getElem_mem hi);simpa using m
 have e:p.getD i 0=0:=by simp[Array.getD,hi]
 rw[e];exact hN
theorem Good.rev(h:Good N p)(i j:Nat):Good N (kas_rev p i j):=(mirror_perm _ _ _ _).trans h
theorem Good.bub(h:Good N p)(i j:Nat):Good N (bubble p i j):=(bubble_perm _ _ _).trans h
theorem Fl{q:Array Nat}(h:p[i]? = q[j]?):at' p i=at' q j:=by
 unfold at';rw[Array.getD_eq_getD_getElem?,Array.getD_eq_getD_getElem?,h]
theorem Aq(hj:j<=p.size)(k:Nat):at' (kas_rev p i j) k=if i<=k/\k<j then at' p (i+j - 1 - k) else at' p k:=by
 let e:=getElem?_mirror_all (i:=i) hj k;unfold kas_rev;split
 ·rename_i c
  rw[aI c] at e;exact Fl e
 rename_i c
 rw[aA c] at e;exact Fl e
theorem QM{l:Nat}(hk:k<p.size)(hl:l<=k)(i:Nat):at' (bubble p k (k - l)) i=if i=l then at' p k else if l<i/\i<=k then at' p (i - 1) else at' p i:=by
 let e:=getElem?_bubble hk (k - l) Z1 i;rw[show k - (k - l)=l by omega] at e;by_cases c:i=l
 ·rw[aI c] at e ⊢;exact Fl e
 rw[aA c] at e ⊢;split
 ·rename_i d
  rw[aI d] at e;exact Fl e
 rename_i d
 rw[aA d] at e;exact Fl e
include O
theorem Up.more(h:Up f p n)(h1:1<=n)(c:f (at' p n) (at' p (n - 1))=false):Up f p (n+1):=λi j nV hj=>by
 by_cases e:j<n
 ·exact h i j nV e
 have e:j=n:=by omega
 subst e;by_cases e2:i=j
 ·subst e2;exact O.fI _
 exact O.trans (h i (j - 1) Z1 Z1) c
theorem Down.more(h:Down f p n)(h1:1<=n)(c:f (at' p (n - 1)) (at' p n)=false):Down f p (n+1):=λi j nV hj=>by
 by_cases e:j<n
 ·exact h i j nV e
 have e:j=n:=by omega
 subst e;by_cases e2:i=j
 ·subst e2;exact O.fI _
 exact O.trans c (h i (j - 1) Z1 Z1)
theorem Ma{p:Array Nat}(g:Good N p)(hN:0<N):∀(m n:Nat),1<=n->Up f p n->Ok f N (kas_asc p m n) λr=>n<=r/\r<=n+m/\Up f p r/\(r<n+m->f (at' p r) (at' p (r - 1))=true)
 |0,n,_,h=>#[a_ _,a_ _,h,λq=>absurd q Z1]
 |m+1,n,h1,h=>by
  apply#[g.lt hN _,g.lt hN _,?_];dsimp only;by_cases c:f (at' p n) (at' p (n - 1))=true
  ·rw[aI c];exact#[a_ _,by omega,h,λ_=>c]
  rw[aA c];apply (Ma g hN m (n+1) Z1 (h.more O h1 ⇑c)).imp λr ⟨a,b,u,z⟩=>#[by omega,by omega,u,λq=>z Z1]
theorem pA.rev(h:pA f p lo k)(hk:k<=p.size)(i:Nat):f (at' (kas_rev p lo k) i) (at' p i)=false/\f (at' p i) (at' (kas_rev p lo k) i)=false:=by
 rw[Aq hk];split
 ·rename_i c
  let#[a1,a2]:=h i c.1 c.2;let#[b1,b2]:=h (lo+k - 1 - i) Z1 Z1;exact#[O.trans a2 b1,O.trans b2 a1]
 exact#[O.fI _,O.fI _]
theorem Down.rev(h:Down f p n)(l:pA f p lo k)(hk:k<=p.size):Down f (kas_rev p lo k) n:=λi j nV hj=>by
 let#[a1,_]:=l.rev O hk i;let#[_,b2]:=l.rev O hk j;exact O.trans (O.trans b2 (h i j nV hj)) a1
theorem Ib(hN:0<N):∀(m:Nat) (p:Array Nat) (n q:Nat),Good N p->1<=n->q+1<=n->n+m<=N->Down f p n->pA f p (n - (q+1)) n->
  Ok f N (kas_desc m p n q) λr=>Good N r.1/\n<=r.2.1/\r.2.1<=n+m/\Down f r.1 r.2.1/\r.2.2+1<=r.2.1/\pA f r.1 (r.2.1 - (r.2.2+1)) r.2.1
 |0,p,n,q,g,h1,hq,hn,d,l=>#[g,a_ _,a_ _,d,hq,l]
 |m+1,p,n,q,g,h1,hq,hn,d,l=>by
  apply#[g.lt hN _,g.lt hN _,?_];dsimp only;by_cases c:f (at' p n) (at' p (n - 1))=true
  ·rw[aI c];have d2:Down f p (n+1):=d.more O h1 (O.F4 c)
   have one:∀p':Array Nat,pA f p' (n+1 - (0+1)) (n+1):=λp' i h2 h3=>by
    have e:i=n+1 - 1:=by omega
    subst e;exact#[O.fI _,O.fI _]
   by_cases Ra:q > 0
   ·rw[aI Ra];have hk:n<=p.size:=by rw[g.size];omega
    exact (Ib hN m _ (n+1) 0 (g.rev _ _) Z1 Z1 Z1 (d2.rev O l hk) (one _)).imp λr ⟨a,b,b2,z⟩=>#[a,by omega,by omega,z]
   rw[aA Ra];exact (Ib hN m _ (n+1) 0 g Z1 Z1 Z1 d2 (one _)).imp λr ⟨a,b,b2,z⟩=>#[a,by omega,by omega,z]
  rw[aA c];apply#[g.lt hN _,g.lt hN _,?_];dsimp only;have c:f (at' p n) (at' p (n - 1))=false:=⇑c
  by_cases e:f (at' p (n - 1)) (at' p n)=true
  ·rw[aI e];exact#[g,a_ _,by show n<=n+(m+1);omega,d,hq,l]
  rw[aA e];have e:f (at' p (n - 1)) (at' p n)=false:=⇑e
  apply (Ib hN m p (n+1) (q+1) g Z1 Z1 Z1 (d.more O h1 e) λi h2 h3=>?_).imp λr ⟨a,b,b2,z⟩=>#[a,by omega,by omega,z];show f (at' p i) (at' p n)=false/\f (at' p n) (at' p i)=false;by_cases ei:i=n
  ·subst ei;exact#[O.fI _,O.fI _]
  let#[a1,a2]:=l i Z1 Z1;exact#[O.trans e a1,O.trans a2 c]
def M9(f:Nat->Nat->Bool)(N dC:Nat)(r:Nat × Array Nat):Prop:=Good N r.2/\1<=r.1/\r.1<=dC/\Up f r.2 r.1
theorem HP(hN:0<N)(g:Good N p)(h1:1<=n)(hn:n<=dC)(hr:dC<=N)(d:Down f p n):Ok f N (kas_tail3 n dC p) (M9 f N dC):=by
 unfold kas_tail3
 have u:Up f (kas_rev p 0 n) n:=λi j nV hj=>by
  rw[Aq (by rw[g.size];omega),Aq (by rw[g.size];omega),aI Z1,aI Z1];exact d _ _ Z1 Z1
 exact (Ma O (g.rev _ _) hN (dC - n) n h1 u).bind λm ⟨a,b,u,_⟩=>#[g.rev _ _,by show 1<=m;omega,by show m<=dC;omega,u]
theorem Uw(hN:0<N)(g:Good N p)(hn:n+1<=dC)(hr:dC<=N)(d:Down f p (n+1)):Ok f N (kas_descPart n dC p) (M9 f N dC):=by
 unfold kas_descPart;apply (Ib O hN (dC - (n+1)) p (n+1) 0 g Z1 Z1 Z1 d λi h2 h3=>?_).bind λr ⟨g',a,b,d',hq,l⟩=>?_
 ·have e:i=n+1 - 1:=by omega
  subst e;exact#[O.fI _,O.fI _]
 split
 ·exact HP O hN (g'.rev _ _) Z1 Z1 hr (d'.rev O l (by rw[g'.size];omega))
 exact HP O hN g' Z1 Z1 hr d'
theorem _d(hN:0<N)(g:Good N p)(h1:1<=dC)(hr:dC<=N):Ok f N (kas_count dC p) (M9 f N dC):=by
 unfold kas_count;apply (Ma O g hN (dC - 1) 1 (a_ _) λi j nV hj=>?_).bind λn ⟨a,b,u,st⟩=>?_
 ·have e:i=j:=by omega
  subst e;exact O.fI _
 by_cases e:(n == dC)=true
 ·rw[aI e];exact#[g,a,by show n<=dC;omega,u]
 rw[aA e];have e:n≠dC:=⇑e
 let c:=st Z1;by_cases h2:n > 1
 ·rw[aI h2];apply#[g.lt hN _,g.lt hN _,?_];dsimp only;by_cases c2:f (at' p 0) (at' p (n - 1))=true
  ·rw[aI c2];exact#[g,a,by show n<=dC;omega,u]
  rw[aA c2];have c2:f (at' p 0) (at' p (n - 1))=false:=⇑c2
  apply Uw O hN (g.rev _ _) Z1 hr λi j nV hj=>?_;by_cases ej:j<n
  ·rw[Aq (by rw[g.size];omega),Aq (by rw[g.size];omega),aI Z1,aI Z1];exact u _ _ Z1 Z1
  have ej:j=n:=by omega
  subst ej;by_cases ei:i=j
  ·subst ei;exact O.fI _
  rw[Aq (by rw[g.size];omega),Aq (by rw[g.size];omega),aI Z1,aA Z1];exact O.trans (O.trans (O.F4 c) c2) (u 0 _ Z1 Z1)
 rw[aA h2];have e1:n=1:=by omega
 subst e1;apply Uw O hN g Z1 hr λi j nV hj=>?_;by_cases ei:i=j
 ·subst ei;exact O.fI _
 have q1:i=0:=by omega
 have q2:j=1:=by omega
 subst q1;subst q2;exact O.F4 c
theorem Nl(hN:0<N){p:Array Nat}{k:Nat}(g:Good N p)(u:Up f p k):∀(m l r:Nat),r - l<=m->l<=r->r<=k->(∀i,i<l->f (at' p k) (at' p i)=false)->(∀i,r<=i->i<k->f (at' p k) (at' p i)=true)->
  Ok f N (kas_place p k m l r) λx=>x<=k/\(∀i,i<x->f (at' p k) (at' p i)=false)/\∀i,x<=i->i<k->f (at' p k) (at' p i)=true
 |0,l,r,hm,hl,hr,h1,h2=>by
  have e:l=r:=by omega
  subst e;exact#[hr,h1,h2]
 |m+1,l,r,hm,hl,hr,h1,h2=>by
  unfold kas_place;by_cases e:l ≥ r
  ·rw[aI e];have e:l=r:=by omega
   subst e;exact#[hr,h1,h2]
  rw[aA e];apply#[g.lt hN _,g.lt hN _,?_];dsimp only;by_cases c:f (at' p k) (at' p ((l+r) / 2))=true
  ·rw[aI c];apply Nl hN g u m l _ Z1 Z1 Z1 h1 λi h3 h4=>?_;by_cases ei:f (at' p k) (at' p i)=true
   ·exact ei
   have ei:f (at' p k) (at' p i)=false:=⇑ei
   have:=O.trans (u _ i h3 h4) ei;rw[c] at this;cases this
  rw[aA c];have c:f (at' p k) (at' p ((l+r) / 2))=false:=⇑c
  exact Nl hN g u m _ r Z1 Z1 hr (λi h3=>O.trans (u i _ Z1 Z1) c) h2
theorem QR(hN:0<N):∀(m:Nat) (p:Array Nat) (k:Nat),Good N p->k+m=N->Up f p k->Ok f N (kas_bin m p k) λr=>Good N r/\Up f r N
 |0,p,k,g,e,u=>by
  have e:k=N:=by omega
  subst e;exact#[g,u]
 |m+1,p,k,g,e,u=>by
  unfold kas_bin;apply (Nl O hN g u k 0 k Z1 Z1 (a_ _) (λi h=>absurd h Z1) λi h1 h2=>absurd h2 Z1).bind λl ⟨hl,h1,h2⟩=>?_;have hk:k<p.size:=by rw[g.size];omega
  apply QR hN m _ (k+1) (g.bub _ _) Z1 λi j nV hj=>?_;rw[QM hk hl,QM hk hl];by_cases ej:j=l
  ·rw[aI ej];by_cases ei:i=l
   ·rw[aI ei];exact O.fI _
   rw[aA ei,aA Z1];exact h1 i Z1
  rw[aA ej];by_cases SV:l<j/\j<=k
  ·rw[aI SV];by_cases ei:i=l
   ·rw[aI ei];exact O.F4 (h2 (j - 1) Z1 Z1)
   rw[aA ei];by_cases SW:l<i/\i<=k
   ·rw[aI SW];exact u _ _ Z1 Z1
   rw[aA SW];exact u _ _ Z1 Z1
  rw[aA SV];rw[aA (show ¬i=l by omega),aA (show ¬(l<i/\i<=k) by omega)];exact u _ _ Z1 Z1
theorem Rf(hN:0<N):Ok f N (kas_sort N) λp=>Good N p/\Up f p N:=by
 unfold kas_sort;apply (_d O hN (p:=(List.range N).toArray) (Array.Perm.refl _) hN (a_ _)).bind λr ⟨g,h1,h2,u⟩=>?_;split
 ·rename_i c
  rw[show max r.1 1=r.1 by omega];exact QR O hN _ _ _ g Z1 u
 rename_i c
 have e:r.1=N:=by omega
 exact#[g,e▸u]
end
def tU(prog:Ad)(w:Ag)(A:Af)(f:Nat->Nat->Bool)(vs:aj)(s:Ab):Prop:=
 ∃κ,(∀Q:SortKind->Ab->Prop,Q κ s->wpAny (model prog w) A (keyKind' vs.toArray) Q (λ_ _=>False) s)/\∀i j C,i<vs.length->j<vs.length->C (f i j) s->kas_ask prog w A κ vs i j C s
def Fs(a:Addr)(h h':Heap):Prop:=∀b o,b≠a->h.get? b\o->h'.get? b\o
def mh(p:Array Nat)(vs:aj):aj:=p.toList.map λi=>vs.getD i Value.none
theorem UE(vs:aj):mh (List.range vs.length).toArray vs=vs:=by
 unfold mh;apply List.ext_getElem? ?_;intro i;simp only[dG];by_cases h:i<vs.length
 ·simp[h]
 simp[Nat.le_of_not_lt h]
variable{f:Nat->Nat->Bool}{prog:Ad}{w:Ag}{A:Af}{E:Aa->Ab->Prop}{s:Ab}
theorem hK_{a:Addr}{vs:aj}{P:Fin->Ab->Prop}(O:Ord f)(ho:s.heap.get? a\seqObj "list" vs.toArray n)(cX:vs.length<64)(zK:2<=vs.length->∀h',Fs a s.heap h'->tU prog w A f vs { s with heap:=h' })(h:∀(p:Array Nat) (h':Heap) (e:Nat),Good vs.length p->Up f p vs.length->h'.get? a\seqObj "list" (mh p vs).toArray e->Fs a s.heap h'->P (.done (.ret .none)) { s with heap:=h' }) :
  wpAny (model prog w) A (Builtin.«list.sort» #[[.ref a],[]]) P E s:=by
 have haz:a<s.heap.objs.size:=bp ho;obtain⟨e1,ud⟩:∃e1,(s.heap.update a (Obj.mapSeq λ_=>(#[]:Array Aa))).get? a\seqObj "list" #[] e1:=#[_,get?_update_seq ho (λ_=>#[])]
 have GC:vs.length<=sizeLine:=by
  have:=cU;omega
 rw[list_sort_plain];apply ae (listItems_at ho U (ae (listUpdate_at ho U (ae (seqEpoch_at ud U (ae (wpAny_newTuple (ae (wpAny_newList (iI ?_) (gB _))) GC)))) ⇑GC (gB _))))
 have keep:∀g:Array Aa->Array Aa,Fs a s.heap ((((s.heap.update a (Obj.mapSeq λ_=>(#[]:Array Aa))).push (seqObj "tuple" vs.toArray 0)).push (seqObj "list" #[] 0)).update a (Obj.mapSeq g)):=λg b o hb e=>by
  apply (pZ _ _ (bG hb)).trans (aS _ (aS _ ?_));exact (pZ _ _ (bG hb)).trans e
 have DO:Fs a s.heap (((s.heap.update a (Obj.mapSeq λ_=>(#[]:Array Aa))).push (seqObj "tuple" vs.toArray 0)).push (seqObj "list" #[] 0)):=λb o hb e=>
  aS _ (aS _ ((pZ _ _ (bG hb)).trans e))
 have Ba:(((s.heap.update a (Obj.mapSeq λ_=>(#[]:Array Aa))).push (seqObj "tuple" vs.toArray 0)).push (seqObj "list" #[] 0)).get? a\seqObj "list" #[] e1:=aS _ (aS _ ud);show wpAny (model prog w) A _ P E { s with heap:=((s.heap.update a (Obj.mapSeq λ_=>(#[]:Array Aa))).push (seqObj "tuple" vs.toArray 0)).push (seqObj "list" #[] 0) };dsimp only;by_cases h2:vs.toArray.size<2
 ·rw[aI h2,aI h2];apply ae (aB ?_);rw[StateT.run_pure]
  have vQ:((vs.toArray.zip vs.toArray).map λx:Keyed=>x.2)=(mh (List.range vs.length).toArray vs).toArray:=by
   rw[UE];apply Array.ext' ?_;simp[List.map_snd_zip]
  apply ae (aB (ae (seqEpoch_at Ba U (ae (listUpdate_at Ba U ?_ (gB _) ?_)))))
  ·simp only[bne_self_eq_false,p_,if_false];apply aB (h (List.range vs.length).toArray _ _ (Array.Perm.refl _) (λi j nV hj=>?_) ((get?_update_seq Ba _).trans (eF (λz=>some (seqObj "list" z _)) vQ)) (keep _))
   have e:i=j:=by
    simp only[cQ] at h2;omega
   subst e;exact O.fI _
  have e:((vs.toArray.zip vs.toArray).map λx:Keyed=>x.2).size<=sizeLine+1:=by
   simp only[Array.size_map,Array.size_zip,cQ];omega
  exact e
 rw[aA h2,aA h2]
 have g8:2<=vs.length:=by
  simp only[cQ] at h2;omega
 let#[κ,hk,hc]:=zK g8 _ DO;apply ae (wpAny_mono (hk (λk s'=>k=κ/\s'=_) #[U,U]) (λk s' En=>?_) λ_ _ x=>x.elim);let#[rfl,rfl]:=En
 apply ae (wpAny_mono (kat_run (ks:=vs) (vs:=vs) (G:=λp s'=>s'={ s with heap:=((s.heap.update a (Obj.mapSeq λ_=>(#[]:Array Aa))).push (seqObj "tuple" vs.toArray 0)).push (seqObj "list" #[] 0) }/\Good vs.length p/\Up f p vs.length)
  (Q:=λfH s'=>∃p:Array Nat,arrOf fH=p.map (kas_item (vs.toArray.zip vs.toArray))/\failedOf fH=none/\s'={ s with heap:=((s.heap.update a (Obj.mapSeq λ_=>(#[]:Array Aa))).push (seqObj "tuple" vs.toArray 0)).push (seqObj "list" #[] 0) }/\Good vs.length p/\Up f p vs.length)
  rfl g8 cX (λp fH s' _ q1 q2 q3=>#[p,q1,q2,q3]) (Ok.wp hc (λp q=>#[U,q]) (Rf O Z1))) ?_ λ_ _ x=>x)
 rintro⟨⟨⟩,fH⟩ s' ⟨p,LG,hf,hs',g,u⟩;have hs':s'={ s with heap:=((s.heap.update a (Obj.mapSeq λ_=>(#[]:Array Aa))).push (seqObj "tuple" vs.toArray 0)).push (seqObj "list" #[] 0) }:=hs';subst hs'
 have vQ:((arrOf fH).map λx:Keyed=>x.2)=(mh p vs).toArray:=by
  rw[LG];apply Array.ext' ?_;unfold mh;simp only[Array.map_map,Array.toList_map,List.toList_toArray];apply uI λi _=>?_;show (kas_item (vs.toArray.zip vs.toArray) i).2=_;unfold kas_item;by_cases hi:i<vs.length
  ·simp[Array.getD,hi]
  simp[Array.getD,hi,Nat.le_of_not_lt hi]
 have esz:((arrOf fH).map λx:Keyed=>x.2).size=vs.length:=by
  rw[vQ];unfold mh;simp only[cQ,ao,pf];exact g.size
 apply ae (seqEpoch_at Ba U (ae (listUpdate_at Ba U ?_ (gB _) (by rw[esz];omega))));rw[hf];simp only[bne_self_eq_false,p_,if_false];exact aB (h p _ _ g u ((get?_update_seq Ba _).trans (eF (λz=>some (seqObj "list" z _)) vQ)) (keep _))
theorem TH{x:Aa}{Q:Aa->Ab->Prop}(O:Ord f)(lZ:wpAny (model prog w) A.in1 (collect x) (λvs s1=>vs.length<64/\(2<=vs.length->∀h':Heap,(∀b o,s1.heap.get? b\o->h'.get? b\o)->tU prog w A.in1.in1 f vs { s1 with heap:=h' }) /\
   ∀(p:Array Nat) (h':Heap) (e:Nat),Good vs.length p->Up f p vs.length->h'.get? s1.heap.objs.size\seqObj "list" (mh p vs).toArray e->(∀b o,s1.heap.get? b\o->h'.get? b\o)->Q (.ref s1.heap.objs.size) { s1 with heap:=h' }) E s) :
  wpAny (model prog w) A (call (.builtin "sorted") [x]) Q E s:=by
 apply Calls.call_function_entry kind_sorted plain_sorted entry_sorted (args_sorted1 _) ?_;unfold Builtin.«sorted»;apply ae (m:=checkCount "sorted" 1 1 _) (aB (ae (wpAny_mono lZ (λvs s1 q=>?_) λ_ _ z=>z)));let#[cX,zK,hQ]:=q;apply ae (wpAny_newList ?_ (by have:=cU;omega));have hn:(s1.heap.push (seqObj "list" vs.toArray 0)).get? s1.heap.objs.size\seqObj "list" vs.toArray 0:=cw _ U
 have old:∀h',Fs s1.heap.objs.size (s1.heap.push (seqObj "list" vs.toArray 0)) h'->∀b o,s1.heap.get? b\o->h'.get? b\o:=λh' k b o e=>
  k b o (dA (bp e)) (aS _ e)
 apply ae (iI (sU slot_list_sort #[_,hn,U] entry_list_sort (hK_ O hn cX (λh2 h' k=>zK h2 h' (old h' k)) λp h' e g u q k=>#[_,U,?_]) (args_list_sort _)));exact aB #[_,U,hQ p h' e g u q (old h' k)]
end wI
namespace L2
open PySem PySem.Spec PyProof.Rows PySem.W wI
def ja:Key->Key->Bool
 |.inl i,.inl j=>decide (i<j)
 |.inl _,.inr _=>true
 |.inr _,.inl _=>false
 |.inr x,.inr y=>decide (x.cps.toList<y.cps.toList)
def bH:aC->aC->Bool
 |[],[]=>false
 |[],_::_=>true
 |_::_,[]=>false
 |a::r,b::q=>if a=b then bH r q else ja a b
theorem Ze:∀a:Key,ja a a=false
 |.inl i=>by simp[ja]
 |.inr x=>by simp[ja,List.lt_irrefl]
theorem Tn:∀{a b:Key},ja a b=true->ja b a=false
 |.inl i,.inl j,h=>by
  simp only[ja,decide_eq_true_eq,decide_eq_false_iff_not] at *;omega
 |.inl _,.inr _,_=>rfl
 |.inr _,.inl _,h=>by cases h
 |.inr x,.inr y,h=>by
  simp only[ja,decide_eq_true_eq,decide_eq_false_iff_not] at *;exact λq=>List.lt_irrefl _ (List.lt_trans h q)
theorem Rl:∀{a b:Key},ja a b=false->ja b a=false->a=b
 |.inl i,.inl j,h,h2=>by
  simp only[ja,decide_eq_false_iff_not] at *;rw[show i=j by omega]
 |.inl _,.inr _,h,_=>by cases h
 |.inr _,.inl _,_,h=>by cases h
 |.inr x,.inr y,h,h2=>by
  simp only[ja,decide_eq_false_iff_not] at *;rw[ext_toList (List.le_antisymm (List.not_lt.mp h2) (List.not_lt.mp h))]
theorem h2_:∀{a b c:Key},ja a b=true->ja b c=true->ja a c=true
 |.inl i,.inl j,.inl k,h,h2=>by
  simp only[ja,decide_eq_true_eq] at *;omega
 |.inl _,.inl _,.inr _,_,_=>rfl
 |.inl _,.inr _,.inr _,_,_=>rfl
 |.inl _,.inr _,.inl _,_,h=>by cases h
 |.inr _,.inl _,_,h,_=>by cases h
 |.inr _,.inr _,.inl _,_,h=>by cases h
 |.inr x,.inr y,.inr z,h,h2=>by
  simp only[ja,decide_eq_true_eq] at *;exact List.lt_trans h h2
theorem MN:∀a:aC,bH a a=false
 |[]=>rfl
 |a::r=>by
  unfold bH;rw[aI U];exact MN r
theorem NM:∀{a b:aC},bH a b=true->bH b a=false
 |[],[],h=>by cases h
 |[],_::_,_=>rfl
 |_::_,[],h=>by cases h
 |a::r,b::q,h=>by
  unfold bH at h ⊢;by_cases e:a=b
  ·rw[aI e] at h;rw[aI e.symm];exact NM h
  rw[aA e] at h;rw[aA (bG e)];exact Tn h
theorem ML:∀{a b:aC},bH a b=false->bH b a=false->a=b
 |[],[],_,_=>rfl
 |[],_::_,h,_=>by cases h
 |_::_,[],_,h=>by cases h
 |a::r,b::q,h,h2=>by
  unfold bH at h h2;by_cases e:a=b
  ·rw[aI e] at h;rw[aI e.symm] at h2;rw[e,ML h h2]
  rw[aA e] at h;rw[aA (bG e)] at h2;exact absurd (Rl h h2) e
theorem Uu:∀{a b c:aC},bH a b=true->bH b c=true->bH a c=true
 |[],_,[],h,h2=>by
  rename_i b
  cases b with
  |nil=>cases h
  |cons _ _=>cases h2
 |[],_,_::_,_,_=>rfl
 |_::_,[],_,h,_=>by cases h
 |_::_,_::_,[],_,h=>by cases h
 |a::r,b::q,c::t,h,h2=>by
  unfold bH at h h2 ⊢;by_cases e:a=b
  ·subst e;rw[aI U] at h;by_cases e2:a=c
   ·rw[aI e2] at h2 ⊢;exact Uu h h2
   rw[aA e2] at h2 ⊢;exact h2
  rw[aA e] at h;by_cases e2:b=c
  ·subst e2;rw[aA e];exact h
  rw[aA e2] at h2;let h3:=h2_ h h2;rw[aA (λq=>by rw[q,Ze] at h3;cases h3)];exact h3
theorem T8{a b c:aC}(h:bH b a=false)(h2:bH c b=false):bH c a=false:=by
 cases e:bH c a with
 |false=>rfl
 |true=>
  by_cases e1:bH a b=true
  ·have:=Uu e e1;rw[h2] at this;cases this
  have e1:bH a b=false:=⇑e1
  have:=ML e1 h;subst this;rw[h2] at e;cases e
def BX(ks:List aC):Prop:=ks.Pairwise λa b=>bH b a=false
theorem Ua:∀{a b:List aC},a.Perm b->BX a->BX b->a=b
 |[],b,p,_,_=>by
  have:=p.length_eq;cases b with
  |nil=>rfl
  |cons _ _=>cases this
 |x::r,[],p,_,_=>by
  have:=p.length_eq;cases this
 |x::r,y::q,p,h1,h2=>by
  let#[a1,a2]:=List.pairwise_cons.mp h1;let#[b1,b2]:=List.pairwise_cons.mp h2
  have e:x=y:=by
   rcases bW.mp (p.mem_iff.mp gz) with m|m
   ·exact m
   rcases bW.mp (p.mem_iff.mpr gz) with m2|m2
   ·exact m2.symm
   exact ML (b1 _ m) (a1 _ m2)
  subst e;rw[Ua ((List.perm_cons _).mp p) a2 b2]
def aZ(ks:List aC):List aC:=ks.mergeSort λa b=>!bH b a
theorem tL(ks:List aC):(aZ ks).Perm ks:=List.mergeSort_perm _ _
theorem fm_(ks:List aC):BX (aZ ks):=by
 have:=List.pairwise_mergeSort (le:=λa b=>!bH b a) (λa b c h1 h2=>by
  simp only[Bool.not_eq_true'] at *;exact T8 h1 h2) (λa b=>by
  simp only[Bool.or_eq_true,Bool.not_eq_true'];by_cases e:bH b a=true
  ·exact .inr (NM e)
  exact .inl ⇑e) ks
 exact this.imp λh=>by simpa using h
variable{ks:List aC}
theorem Nz{iQ:List aC}(p:iQ.Perm ks)(h:BX iQ):iQ=aZ ks:=Ua (p.trans (tL ks).symm) h (fm_ ks)
variable{p:Array Nat}
theorem FJ{α:Type}{n:Nat}(g:Good n p)(F:Nat->α):(p.toList.map F).Perm ((List.range n).map F):=by
 have e:p.toList.Perm (List.range n):=by
  have:=Array.perm_iff_toList_perm.mp g;simpa using this
 exact e.map F
theorem Mm{f:Nat->Nat->Bool}(hf:∀i j,i<ks.length->j<ks.length->f i j=bH (ks.getD i []) (ks.getD j []))(g:Good ks.length p)(u:Up f p ks.length):BX (p.toList.map λi=>ks.getD i []):=by
 unfold BX;rw[wD,List.pairwise_iff_getElem];intro i j hi hj nV;let hs:=g.size;rw[pf] at hi hj;have Ru:j<ks.length:=by omega
 let q:=u i j (Nat.le_of_lt nV) Ru;have hN:0<ks.length:=by omega
 rw[hf _ _ (g.lt hN _) (g.lt hN _)] at q;have e1:at' p i=p.toList[i]:=by simp[at',Array.getD,hi]
 have e2:at' p j=p.toList[j]:=by simp[at',Array.getD,hj]
 rw[e1,e2] at q;exact q
theorem MP(ks:List aC):Ord λi j=>bH (ks.getD i []) (ks.getD j []):=#[λ_=>MN _,λh h2=>T8 h h2,λh=>NM h]
theorem FM{α:Type}(d:α)(l:List α):((List.range l.length).map λi=>l.getD i d)=l:=by
 apply List.ext_getElem? ?_;intro i;simp only[dG];by_cases h:i<l.length
 ·simp[h]
 simp[Nat.le_of_not_lt h]
variable{ys:ag}{vs:aj}
theorem MI(r:Vals ys vs)(g:Good vs.length p):Vals (p.toList.map λi=>ys.getD i .non) (mh p vs):=by
 unfold mh
 have key:∀l:List Nat,(∀i∈l,i<vs.length)->Vals (l.map λi=>ys.getD i .non) (l.map λi=>vs.getD i Value.none):=λl=>by
  induction l with
  |nil=>exact λ_=>.nil
  |cons i l ih=>
   intro h;apply .cons ?_ (ih λj hj=>h j (fM _ hj));let hi:=h i gz;have hy:i<ys.length:=by rw[r.length];exact hi
   let#[u,hu,ru]:=r.get (aX hy);have e1:ys.getD i .non=ys[i]:=by simp[hy]
   have e2:vs.getD i Value.none=u:=by simp[hu]
   show RelV (ys.getD i .non) (vs.getD i Value.none);rw[e1,e2];exact ru
 apply key p.toList λi hi=>?_;have m:i∈(List.range vs.length).toArray:=g.mem_iff.mp ⇑hi;simpa using m
theorem RV:∀{ss:af} {vs:aj},Vals (ss.map V.str) vs->StrsAre vs ss
 |[],_,.nil=>.nil
 |x::r,_,.cons h t=>by
  let#[tk,rfl]:=h;exact .cons x tk (RV t)
def iy(ss:af):af:=(aZ (ss.map λx=>[Sum.inr x])).map λk=>match k with
 |[.inr x]=>x
 |_=>⟨#[]⟩
def bM(x:Str):aC:=[Sum.inr x]
variable{prog:Ad}{w:Ag}{A:Af}{s:Ab}
theorem Tt{ss:af}(r:StrsAre vs ss)(h2:2<=vs.length):tU prog w A (λi j=>bH ((ss.map bM).getD i []) ((ss.map bM).getD j [])) vs s:=by
 apply#[oneType',λQ q=>?_,λi j C hi hj hC=>?_]
 ·match vs,h2 with
  |v₁::Vy::t,_=>
   rw[keyKind_strs r];exact aB q
 unfold kas_ask;rw[keyLt'_oneType]
 have look:∀k,k<vs.length->∃x t,vs.getD k Value.none=.str x t/\(ss.map bM).getD k []=[Sum.inr x]:=λk hk=>by
  let e:=r.strs;let#[x,t,q]:=r.all vs[k] (mI hk);apply#[x,t,by simp[hk,q],?_]
  have Ro:k<ss.length:=by
   rw[<- e,ao];exact hk
  have e2:ss[k]=x:=by
   have e3:(vs.map strOf)[k]? = ss[k]?:=by rw[e]
   rw[dG,aX hk,aX Ro,q] at e3;exact (cq e3).symm
  simp[Ro,e2,bM]
 let#[x,t,e1,e2]:=look i hi;let#[y,u,e3,e4]:=look j hj;rw[e1,e3];dsimp only at hC;rw[e2,e4] at hC;apply oneLt_str ?_;unfold bH at hC;by_cases e:x=y
 ·subst e;rw[aI U] at hC;have:decide (x.cps.toList<x.cps.toList)=false:=by simp[List.lt_irrefl]
  rw[this];exact hC
 rw[aA (λq=>e (iu q))] at hC;exact hC
def xt:Key->Bool
 |.inl _=>false
 |.inr _=>true
variable{a b:Key}
theorem fY_{E:Aa->Ab->Prop}{c:Bool}{p q:Aa}{Q:Bool->Ab->Prop}(ra:RelV (kV a) p)(rb:RelV (kV b) q)(hk:xt a=xt b)(h:Q (ja a b) s) :
  wpAny (model prog w) A (oneLt' c p q) Q E s:=by
 cases a with
 |inl i=>
  cases b with
  |inr y=>cases hk
  |inl j=>
   let#[t,rfl]:=ra;let#[u,rfl]:=rb;cases c with
   |true=>exact oneLt_int h
   |false=>exact kat_one _ _ (lt_int (show PySem.W.BoolBack Q (.bool _) s from h))
 |inr x=>
  cases b with
  |inl j=>cases hk
  |inr y=>
   let#[t,rfl]:=ra;let#[u,rfl]:=rb;cases c with
   |true=>exact oneLt_str h
   |false=>exact kat_one _ _ (PyProof.Rows.lt_str (show PySem.W.BoolBack Q (.bool _) s from h))
theorem Zf(hk:xt a=xt b):sR (kV a) (kV b)=decide (a=b):=by
 cases a with
 |inl i=>
  cases b with
  |inr y=>cases hk
  |inl j=>
   show (i == j)=_;by_cases e:i=j
   ·subst e;simp
   ·rw[fC (λq=>e (Sum.inl.inj q))];simpa using e
 |inr x=>
  cases b with
  |inl j=>cases hk
  |inr y=>
   show (x == y)=_;by_cases e:x=y
   ·subst e;simp
   rw[fC (λq=>e (iu q))];simpa using e
theorem S9(a:Key):uw (kV a)=true:=by cases a<;>rfl
theorem Uq{prog:Ad}{w:Ag}{A:Af}{s:Ab}{Q:Bool->Ab->Prop}:∀{k1 k2:aC} {us vs:aj} (i:Nat),Vals (k1.map kV) us->Vals (k2.map kV) vs->k1.map xt=k2.map xt->Q (bH k1 k2) s->KatLex prog w A true false Q (us.zip vs) i s
 |[],[],_,_,i,.nil,.nil,_,h=>h
 |[],_::_,_,_,_,_,_,h,_=>by cases h
 |_::_,[],_,_,_,_,_,h,_=>by cases h
 |a::k1,b::k2,u::us,v::vs,i,.cons ra r1,.cons rb r2,hk,h=>by
  let#[e1,e2]:=List.cons.inj hk;apply kat_cons ?_;apply G4 ra rb (S9 a) (S9 b) prog w _ _ ?_;rw[Zf e1];unfold bH at h;by_cases e:a=b
  ·rw[aI e] at h;rw[cz e];exact kat_yes (Uq (i+1) r1 r2 e2 h)
  rw[aA e] at h;rw[fC e];exact kat_no (fY_ ra rb e1 h)
def bR(K:ai)(H:Hp):ag->List aC->Prop:=Paired λy k=>∃a,y=V.ref a/\H a\.tup (k.map kV)
def Alike(ks:List aC)(sh:List Bool):Prop:=sh≠[]/\∀k∈ks,k.map xt=sh
theorem hm_{X:Cx}{pins:List (Addr × Obj)}{σ:St}{H:Hp}{s':Ab}{sh:List Bool}(I:Inv X pins σ H s)(r:Vals ys vs)(t:bR X.K H ys ks)(al:Alike ks sh)(h2:2<=vs.length)(kp:∀b o,s.heap.get? b\o->s'.heap.get? b\o):tU X.prog X.w A (λi j=>bH (ks.getD i []) (ks.getD j [])) vs s':=by
 have look:∀k,k<vs.length->∃a its,vs.getD k Value.none=.ref a/\Vals ((ks.getD k []).map kV) its/\IsTup s'.heap a its.toArray/\ks.getD k []∈ks:=λk hk=>by
  have hy:k<ys.length:=by rw[r.length];exact hk
  have Bb:k<ks.length:=by rw[<- bj t];exact hy
  let#[u,hu,ru]:=r.get (aX hy)
  have gen:∀{ys:ag} {ks:List aC} (k:Nat) (hy:k<ys.length) (Bb:k<ks.length),bR X.K H ys ks->∃a,ys[k]=V.ref a/\H a\.tup (ks[k].map kV):=λ{ys ks} k hy Bb t=>by
   induction t generalizing k with
   |nil=>exact absurd hy Z2
   |cons h t ih=>
    cases k with
    |zero=>exact h
    |succ k=>exact ih k ⇑hy ⇑Bb
  let#[a,e,sq]:=gen k hy Bb t;let#[its,ri,ti,_]:=I.tuple (fG.of sq);rw[e] at ru;cases ru;have e2:ks.getD k []=ks[k]:=by simp[Bb]
  apply#[a,its,by simp[hu],by rw[e2];exact ri,ti.keeps kp,?_];rw[e2];exact mI Bb
 let#[lV,EH]:=al
 obtain⟨c,CL,rfl⟩:∃c CL,sh=c::CL:=by
  cases sh with
  |nil=>exact absurd U lV
  |cons c CL=>exact#[c,CL,U]
 apply#[tuples' true,λQ q=>?_,λi j C hi hj hC=>?_]
 ·have zX:∀l:aj,(∀v∈l,∃(a:Addr) (its:aj) (k:aC),v=.ref a/\Vals (k.map kV) its/\IsTup s'.heap a its.toArray/\k.map xt=c::CL)->∃fs,KatTups s'.heap l fs/\fs.length=l.length/\∀v∈fs,Looks (model X.prog X.w) s'.heap (typeOf v) (.type (if c then "str" else "int")):=λl=>by
   induction l with
   |nil=>exact λ_=>#[[],.nil,U,λ_ h=>nomatch h]
   |cons v l ih=>
    intro h;let#[fs,h1,h2,h3]:=ih λv hv=>h v (fM _ hv);let#[a,its,k,rfl,rv,#[o,ho,hc,n,hd],hk]:=h v gz
    match k,its,rv,hk with
    |k0::k,u::its,.cons r0 _,hk=>
     apply#[u::fs,.cons ho hc hd Z2 h1,by simp[h2],λv hv=>?_];rcases bW.mp hv with e|hv
     ·subst e;let e0:=(List.cons.inj hk).1;cases k0 with
      |inl i=>
       let#[t,rfl]:=r0;rw[<- e0];exact .now
      |inr x=>
       let#[t,rfl]:=r0;rw[<- e0];exact .now
     exact h3 v hv
  let#[fs,h1,h3,h4]:=zX vs λv hv=>by
   let#[k,hk,rfl]:=gH hv;let#[a,its,e,rv,ti,m]:=look k hk;apply#[a,its,_,?_,rv,ti,EH _ m];rw[<- e];simp[hk]
  apply kat_kind h1 Z1 h4 (by cases c<;>decide) ?_
  have e:((Value.type (if c then "str" else "int")) != Value.type "tuple")=true:=by cases c<;>decide
  rw[e];exact q
 unfold kas_ask;let#[a,its,e1,r1,#[o,ho,_,n,hd],m1]:=look i hi;let#[b,ig,e2,r2,#[o2,fw,_,n2,hd2],m2]:=look j hj;rw[e1,e2];apply kat_lt ho hd fw hd2 ?_;let l1:=r1.length;let l2:=r2.length;let l3:=eF List.length ((EH _ m1).trans (EH _ m2).symm);simp only[ao] at l1 l2 l3;rw[show decide (its.toArray.size<ig.toArray.size)=false by simp;omega];exact Uq 0 r1 r2 ((EH _ m1).trans (EH _ m2).symm) hC
end L2
namespace hW
open PySem PySem.W PyProof.Rows
def Raw(h:Heap)(d:Addr)(es:Array DictEntry)(ep:Nat):Prop:=∃o,h.get? d\o/\o.ExactDict/\o.data=.dict es ep
variable{h h':Heap}{d:Addr}{es:Array DictEntry}{ep:Nat}
theorem Raw.eR(x:Raw h d es ep)(k:∀o,h.get? d\o->h'.get? d\o):Raw h' d es ep:=let #[o,e,r]:=x;#[o,k o e,r]
variable{s:Ab}
theorem Raw.ty(x:Raw s.heap d es ep):s.TypeIs (.ref d) "dict":=let #[o,e,c,_]:=x;#[o,e,c.1]
variable{prog:Ad}{w:Ag}{A:Af}{E:Aa->Ab->Prop}
theorem _e{Q:Aa->Ab->Prop}(hd:(d == sysModules)=false)(x:Raw s.heap d es ep)(q:Q (.ref s.heap.objs.size) { s with heap:=s.heap.push { cls:=.type "dict_keyiterator",data:=.fields (List.toArray [.ref d,.int 0 0,.int es.size 0,.int ep 0]) } }) :
  wpAny (model prog w) A (pyIter (.ref d)) Q E s:=by
 let#[o,ho,hc,jA]:=id x;apply wpAny_pyIter_slot x.ty F.slot_dict_iter (sU F.slot_dict_iter x.ty F.entry_dict_iter ?_ (F.args_dict_iter_1 _));unfold Builtin.«dict.__iter__» Builtin.Dict.dictSlotNone;apply ae (ae (wpAny_notOrdered_dict x.ty (show wpAny _ _ (pure (Value.ref d)) _ _ s from aB (show wpAny _ _ (Builtin.Dict.showsAll d >>= _) _ _ s from ?_))));unfold Builtin.Dict.showsAll;rw[aA (by rw[hd];decide)];apply ae (aB (ae (wpAny_dictEntries ho jA (ae (wpAny_dictEpoch ho jA (ae (pW (aB #[_,U,"dict_keyiterator",_,#[_,cw _ U,U],F.slot_dict_keyiterator_next.lookup,?_]))))))));exact q
variable{Q:Option Aa->Ab->Prop}{it:Addr}{i:Nat}
theorem ZO(hit:s.heap.IsKeyIter it d i es.size ep)(x:Raw s.heap d es ep)(hi:i<es.size)(q:∀h',h'.IsKeyIter it d (i+1) es.size ep->Heap.SameBut it s.heap h'->Q (some es[i].key) { s with heap:=h' }):wpAny (model prog w) A (pyNext (.ref it)) Q E s:=by
 let#[o,ho,hc,hd]:=id hit;let#[od,Ec,ip,pO]:=id x;unfold pyNext;apply ae (wpAny_attempt (uq (name:=Str.ofString "__next__") hit.typeIs F.slot_dict_keyiterator_next (sU F.slot_dict_keyiterator_next hit.typeIs F.entry_dict_keyiterator_next ?_ (F.args_dict_keyiterator_next_1 _))));apply ae (aB (ae (ae ?_)))
 first|refine ae (wpAny_typeNameOfWhole_keyiter hit.typeIs (aB (ae (wpAny_fieldsOf ho hd ?_))))|refine ae (wpAny_typeNameOf_keyiter hit.typeIs (aB (ae (wpAny_fieldsOf ho hd ?_))))
 simp only[show Builtin.Dict_items.ownsTuple "dict_keyiterator"=false by decide,p_,if_false];apply (show wpAny _ _ (if (Value.ref d == Value.none)=true then _ else _) _ _ s from ?_);rw[aA (λz=>by cases z)];apply ae (aB (ae (wpAny_dictEntries Ec pO ?_)));rw[aA Z2];apply ae (aB (ae (wpAny_dictEpoch Ec pO ?_)));rw[aA Z2];apply aB ?_;simp only[show ¬((i:Int)<0) from by omega,if_false,x_,Array.getElem?_eq_getElem hi];apply ae ?_
 first|refine ae (wpAny_typeNameOfWhole_keyiter hit.typeIs (aB (ae (wpAny_isOneOf_keyiter hit.typeIs ?_))))|refine ae (wpAny_typeNameOf_keyiter hit.typeIs (aB (ae (wpAny_isOneOf_keyiter hit.typeIs ?_))))
 apply (show wpAny _ _ (setField (.ref it) 1 (rawInt ((i:Int)+1)) >>= _) _ _ s from ae (wpAny_setField ho hd Z2 ?_))
 have turned:(s.heap.update it (Obj.mapFields (·.setIfInBounds 1 (rawInt ((i:Int)+1))))).IsKeyIter it d (i+1) es.size ep:=
  #[_,Heap.get?_update_self _ ho (Obj.isFreed_of_fields (Obj.data_mapFields hd _)),(Obj.cls_mapFields ..).trans hc,by rw[Obj.data_mapFields hd];simp[rawInt]]
 apply ae (iI (ae (wpAny_isOneOf_keyiter (s:={ s with heap:=s.heap.update it (Obj.mapFields (·.setIfInBounds 1 (rawInt ((i:Int)+1)))) }) turned.typeIs ?_)));exact (show wpAny _ _ (pure es[i].key) _ _ _ from aB (aB #[_,U,aB (q _ turned (Heap.SameBut.update ..))]))
theorem hM_(hh:A.handled=none)(hit:s.heap.IsKeyIter it d es.size es.size ep)(x:Raw s.heap d es ep)(q:∀h',Heap.ExtBut it s.heap h'->Q none { s with heap:=h' }):wpAny (model prog w) A (pyNext (.ref it)) Q E s:=by
 let#[o,ho,hc,hd]:=id hit;let#[od,Ec,ip,pO]:=id x;unfold pyNext;apply ae (wpAny_attempt (uq (name:=Str.ofString "__next__") hit.typeIs F.slot_dict_keyiterator_next (sU F.slot_dict_keyiterator_next hit.typeIs F.entry_dict_keyiterator_next ?_ (F.args_dict_keyiterator_next_1 _))));apply ae (aB (ae (ae ?_)))
 first|refine ae (wpAny_typeNameOfWhole_keyiter hit.typeIs (aB (ae (wpAny_fieldsOf ho hd ?_))))|refine ae (wpAny_typeNameOf_keyiter hit.typeIs (aB (ae (wpAny_fieldsOf ho hd ?_))))
 simp only[show Builtin.Dict_items.ownsTuple "dict_keyiterator"=false by decide,p_,if_false];apply (show wpAny _ _ (if (Value.ref d == Value.none)=true then _ else _) _ _ s from ?_);rw[aA (λz=>by cases z)];apply ae (aB (ae (wpAny_dictEntries Ec pO ?_)));rw[aA Z2];apply ae (aB (ae (wpAny_dictEpoch Ec pO ?_)));rw[aA Z2];apply aB ?_;simp only[show ¬((es.size:Int)<0) from by omega,if_false,x_,Array.getElem?_eq_none (a_ _)];apply ae ?_
 first|refine ae (wpAny_typeNameOfWhole_keyiter hit.typeIs (aB ?g))|refine ae (wpAny_typeNameOf_keyiter hit.typeIs (aB ?g))
 apply (show wpAny _ _ (setField (.ref it) 0 .none >>= _) _ _ s from ae (wpAny_setField ho hd Z2 (show wpAny _ _ (newExc (.type "StopIteration") [] >>= _) _ _ _ from ae ?_)));simp only[newExc,newTuple];apply ae (pW (ae (m:=firstArgMember _ _) (wpAny_of_eq (a:=Value.none) (by first|rfl|(simp only[firstArgMember];rfl)) (pW ?_ (by size_fits)))) (by size_fits));simp only[raiseNew];apply ae (wpAny_handled ?_);rw[show A.in1.handled=none from hh];apply ae (aB (wpAny_throw ?_));exact ae (wpAny_isInstance (T:="StopIteration") (b:=true) #[_,cw _ U,U] isSubtype_stop (aB (q _ (((Heap.SameBut.update ..).extBut.push _).push _))))
theorem hi_(hh:A.handled=none)(I d:Addr)(lV:d≠I)(es:Array DictEntry)(ep:Nat) :
  Walks prog w A I [I,d] [I] es.size (λi v=>∃h:i<es.size,v=es[i].key) (λi h=>h.IsKeyIter I d i es.size ep/\Raw h d es ep) where
 sub:=λb hb=>by simp only[eg] at hb;simp[hb]
 frame:=λ_ _ _ st k=>#[st.1.at λo e=>k I Z2 o e,st.2.eR λo e=>k d Z2 o e]
 item:=λi s Q E hi st hQ=>ZO st.1 st.2 hi λh' zF hs'=>hQ _ h' s.toks #[hi,U] #[zF,st.2.eR λo e=>hs'.extBut d o lV e] λb o hb e=>hs'.extBut b o (λh=>hb (by simp[h])) e
 done:=λs Q E st hQ=>hM_ hh st.1 st.2 λh' he'=>hQ h' s.toks λb o hb e=>he' b o (λh=>hb (by simp[h])) e
 self:=λ_ _ _ _ st hQ=>wpAny_pyIter_keyiter st.1 hQ
theorem Zb(lo:(d == sysModules)=false):KdlSrc prog w "dict" d d es.size (λi v=>∃h:i<es.size,v=es[i].key) (λh=>Raw h d es ep) where
 type:=λs x=>x.ty
 there:=λh x=>let #[o,e,_]:=x;#[bp e,bp e]
 keep:=λh h' x k=>x.eR λo e=>k d (.inl U) o e
 notList:=by decide
 notTuple:=by decide
 hint:=λ_ _ s _ x q=>kdl_hint_dict x.ty q
 iter:=λA s hh x=>#[_,_,λE Q q=>_e lo x q,hi_ hh _ d (let #[o,e,_]:=x;dA (bp e)) es ep,#[#[_,cw _ U,U,U],x.eR λo e=>aS _ e]]
theorem cZ_:typeLookup (.type "list") "keys"=pure none:=by rw[typeLookup_type,builtinLookup_eq_fast];kernel_rfl
variable{a:Addr}{xs:Array Aa}{k:Nat}{tk:Tok}{R:Result->Ab->Prop}
theorem g4_(hx:s.heap.get? a\seqObj "list" xs k)(h:raisesAttr (.ref a) "keys" A R s) :
  codeAny (model prog w) A (.call (.builtin "list.__getattribute__") #[[.ref a,.str "keys" tk],[]]) R s:=by
 apply codeAny_call_builtin F.slot_list_getattribute.plain am_entry_list_getattribute (F.slot_list_getattribute.check _ _ _ _ _ _ _ _ #[_,hx,U] (F.args_list_getattribute_2 _ _) ?_);exact meets_getattribute_miss_list a xs k #[] "keys" tk cZ_ (by decide) (by size_fits) prog w A R s #[hx,h]
theorem yX(hx:s.heap.get? a\seqObj "list" xs k)(hA:A.handled=none)(h:∀h' tk,(∀b o,s.heap.get? b\o->h'.get? b\o)->Q none { s with heap:=h',toks:=tk }):wpAny (model prog w) A (getAttr? (.ref a) "keys") Q E s:=by
 let#[hp,g,d,tk,os]:=s;have ty:∀ic,(#[hp,g,d,ic,os]:Ab).TypeIs (.ref a) "list":=λ_=>#[_,hx,U];let f1:=sub_AttributeError;let f2:=F.slot_list_getattribute.lookup;let f3:=F.slot_list_getattribute.bind (.ref a);let f4:=am_list_getattr_none;unfold getAttr? getAttrBy? getAttrBy
 repeat (any_goals (first|assumption|exact ty _|wp_step))
 apply g4_ hx #[hA,λh' ic e hx'=>?_];let#[t',u',he]:=hx'.there;show wpAny _ _ (getattributeRaised _ _ _ _ _ _ _) _ _ _;unfold getattributeRaised
 repeat (any_goals (first|assumption|wp_step))
 exact h _ _ hx'.keeps
theorem IM:entryFor table "dict.update.loop"\Builtin.«dict.update.loop»:=entryFor_of_tree (by kernel_rfl)
theorem xY:plainId "dict.update.loop"=true:=by decide +kernel
theorem Hu(d it:Addr)(i:Int)(tk:Tok):Builtin.«dict.update.loop» #[[.ref d,.ref it,.int i tk,.none],[]]=(do
  let r <- pyNext (.ref it)
  match r with
  |none=>do Builtin.Dict.addKeywords d [];ret .none
  |some item=>do
   holding [item] (do
    let pair <- (Builtin.Dict.pairItems item).tryCatch λe=>do
     if !(<- isInstance e (.type "TypeError")) then throw e
     rule "dict.update.element-no-sequence"
     raiseError "TypeError" s!"cannot convert dictionary update sequence element #{i} to a sequence"
    match pair with
    |[k,v]=>holding [k,v] (dictSet d k v)
    |l=>do
     rule "dict.update.element-length"
     raiseError "ValueError" s!"dictionary update sequence element #{i} has length {l.length}; 2 is required")
   again (.builtin "dict.update.loop" #[[.ref d,.ref it,rawInt (i+1),.none],[]])):=by
 unfold Builtin.«dict.update.loop»;apply eF (λf=>pyNext (.ref it) >>= f) (funext λr=>?_);cases r<;>rfl
variable{b l:Addr}{ys:Array Aa}
variable{its:aj}
section
variable{prog:Ad}{w:Ag}{K:Type}[DecidableEq K]{knd:PySem.KeyKind prog w K}{A:Af}
def M7(knd:PySem.KeyKind prog w K)(h:Heap):aj->List (K × Aa)->Prop:=Paired λv p=>∃a key,v=.ref a/\IsTup h a (List.toArray [key,p.2])/\knd.is p.1 key=true
def eV(kvs:List (K × Aa))(ps:List (K × Aa)):List (K × Aa):=ps.foldl (λacc p=>stored acc p.1 p.2) kvs
theorem Uk(kvs:List (K × Aa))(k:K)(v:Aa):(stored kvs k v).length<=kvs.length+1:=by
 unfold stored;split
 ·simp
 simp
theorem Ux(t:IsTup h b ys)(q:h.IsListIter it l i):b≠it:=λz=>by
 let#[o,ho,hc,_]:=t;let#[o2,fw,ki,_]:=q;subst z;rw[ho] at fw;cases fw;rw[hc] at ki;exact absurd ki (by decide)
theorem ey_{kvs:List (K × Aa)}(t:IsTup h b ys)(q:h.DictOf knd d kvs):b≠d:=λz=>by
 let#[o,ho,hc,_]:=t;let#[o2,es,ep,fw,ki,_]:=q;subst z;rw[ho] at fw;cases fw;let xG:=ki.1;rw[hc] at xG;exact absurd xG (by decide)
theorem Fy{kvs:List (K × Aa)}(q:h.DictOf knd d kvs)(k:∀o,h.get? d\o->h'.get? d\o):h'.DictOf knd d kvs:=by
 let#[o,es,ep,ho,r]:=q;exact#[o,es,ep,k _ ho,r]
theorem ZT{key x:Aa}{k:K}{kvs:List (K × Aa)}(zH:d≠it)(hi:its.toArray[i]? = some (.ref a))(ht:IsTup s.heap a (List.toArray [key,x]))(hk:knd.is k key=true)(hit:s.heap.IsListIter it l i)(hl:s.heap.IsList l its.toArray)(hd:s.heap.DictOf knd d kvs)(hz:kvs.length<=1000)(hR:∀h2,h2.DictOf knd d (stored kvs k x)->(∀b o,b≠d->b≠it->s.heap.get? b\o->h2.get? b\o)->h2.IsListIter it l (i+1)->codeAny (model prog w) A (.builtin "dict.update.loop" #[[.ref d,.ref it,rawInt ((i:Int)+1),.none],[]]) R { s with heap:=h2,toks:=s.toks+1 }) :
  codeAny (model prog w) A (.builtin "dict.update.loop" #[[.ref d,.ref it,.int i tk,.none],[]]) R s:=by
 apply codeAny_builtin IM ?_;rw[xS xY _,Hu];apply ae (wpAny_pyNext_list_item hit hl hi λh1 vI vF=>?_);let#[ot,hot,EB,nt,hdt]:=id ht;have D_:h1.get? a\ot:=vF.extBut _ _ (Ux ht hit) hot;apply ae (iI (ae (wpAny_tryCatch ?_)));unfold Builtin.Dict.pairItems;apply ae (wpAny_typeOf (T:="tuple") #[ot,D_,EB] ?_);rw[aI (by decide)];unfold seqItems?;apply ae (ae (wpAny_load D_ ?_));rw[hdt];apply aB (aB ?_);apply (show wpAny _ _ (holding [key,x] (dictSet d key x)) _ _ _ from iI (wpAny_dictSet_pairs hk (Fy hd λo q=>vF.extBut _ _ zH q) (λh2 hd2 vE=>?_) (by have:=cU;omega)));exact aB #[plainId_quiet xY _,hR h2 hd2 (λb o h3 h4 q=>vE.extBut _ _ h3 (vF.extBut _ _ h4 q)) (vI.extBut vE.extBut (bG zH))]
theorem YK{kvs:List (K × Aa)}(zH:d≠it)(hh:A.handled=none)(hi:its.toArray[i]? = none)(hit:s.heap.IsListIter it l i)(hl:s.heap.IsList l its.toArray)(hd:s.heap.DictOf knd d kvs)(hR:∀h',h'.DictOf knd d kvs->(∀b o,b≠it->s.heap.get? b\o->h'.get? b\o)->R (.ok (.ret .none)) { s with heap:=h' }) :
  codeAny (model prog w) A (.builtin "dict.update.loop" #[[.ref d,.ref it,.int i tk,.none],[]]) R s:=by
 apply codeAny_builtin IM ?_;rw[xS xY _,Hu];apply ae (wpAny_pyNext_list_end hh hit hl hi λh' he=>?_);exact ae (m:=Builtin.Dict.addKeywords d []) (aB (aB (hR h' (Fy hd λo q=>he _ _ zH q) λb o hb q=>he b o hb q)))
theorem Yw(Et:l≠it)(zH:d≠it)(GT:d≠l)(hh:A.handled=none)(rest:aj):∀(ps:List (K × Aa)) (i:Nat) (kvs:List (K × Aa)) (s:Ab) (R:Result->Ab->Prop) (tk:Tok),its.drop i=rest->M7 knd s.heap rest ps->
  s.heap.IsListIter it l i->s.heap.IsList l its.toArray->s.heap.DictOf knd d kvs->kvs.length+ps.length<=1000->
  (∀h' ic,h'.DictOf knd d (eV kvs ps)->(∀b o,b≠d->b≠it->s.heap.get? b\o->h'.get? b\o)->R (.ok (.ret .none)) { s with heap:=h',toks:=ic })->
  codeAny (model prog w) A (.builtin "dict.update.loop" #[[.ref d,.ref it,.int i tk,.none],[]]) R s:=by
 induction rest with
 |nil=>
  intro ps i kvs s R tk e hp hit hl hd hz hR;cases hp
  have hi:its.toArray[i]? = none:=by
   have:=eF List.length e;simp only[List.length_drop,List.length_nil] at this;simp;omega
  exact YK zH hh hi hit hl hd λh' iU kp=>hR h' s.toks iU λb o _ hb q=>kp b o hb q
 |cons v rest ih=>
  intro ps i kvs s R tk e hp hit hl hd hz hR;cases hp with
  |@cons _ p _ ps h0 hr=>
  let#[a,key,hv,ht,hk]:=h0;let#[k,x]:=p;subst hv
  have hi:its.toArray[i]? = some (.ref a):=by
   have q:(its.drop i)[0]? = some (.ref a):=by rw[e];rfl
   rw[List.getElem?_drop] at q;simpa using q
  have e':its.drop (i+1)=rest:=by
   rw[<- List.drop_drop,e];rfl
  simp only[jm] at hz;apply ZT zH hi ht hk hit hl hd Z1 λh2 hd2 kp zE=>?_;have c1:((i:Int)+1)=((i+1:Nat):Int):=by omega
  rw[c1];apply ih ps (i+1) (stored kvs k x) _ R 0 e' (L2.Paired.aU hr λv p ⟨b,ky,e1,t1,k1⟩=>#[b,ky,e1,?_,k1]) zE (hl.at λo q=>kp _ _ (bG GT) Et q) hd2 (by have:=Uk kvs k x;omega) λh' ic iU KJ=>hR h' ic iU λb o h3 h4 q=>KJ b o h3 h4 (kp b o h3 h4 q);let#[o,ho,r]:=id t1;exact#[o,kp _ _ (ey_ t1 hd) (Ux t1 hit) ho,r]
theorem dS_{n:Nat}{ps:List (K × Aa)}{Q:Aa->Ab->Prop}(hh:A.handled=none)(ho:s.heap.get? l\seqObj "list" its.toArray n)(hp:M7 knd s.heap its ps)(hz:ps.length<=1000)(h:∀h' ic,h'.DictOf knd s.heap.objs.size (eV [] ps)->(∀b o,s.heap.get? b\o->h'.get? b\o)->Q (.ref s.heap.objs.size) { s with heap:=h',toks:=ic }) :
  wpAny (model prog w) A (call (.type "dict") [.ref l]) Q E s:=by
 apply callType_codes (Q₁:=λobj aK=>obj=.ref s.heap.objs.size/\aK={ s with heap:=s.heap.push { cls:=.type "dict",data:=.dict #[] } }) F.kt_called_dict (F.kt_typeCall_dict_1 _) F.entry_dict_init (kt_code_dict_new _ #[U,U]) ?_;rintro obj aK ⟨rfl,rfl⟩;have iS:(s.heap.push { cls:=.type "dict",data:=.dict #[] }).DictOf knd s.heap.objs.size []:=Heap.DictOf.new s.heap;have eX:(s.heap.push { cls:=.type "dict",data:=.dict #[] }).get? l\seqObj "list" its.toArray n:=aS _ ho;apply#[iS.typeIs,F.args_dict_init_2 _ _,?_];unfold Builtin.«dict.__init__» Builtin.Dict.selfAndRest;apply ae (ae (wpAny_notOrdered_dict iS.typeIs ?_));apply (show wpAny _ _ (pure (s.heap.objs.size,[Value.ref l])) _ _ _ from aB ?_);apply (show wpAny _ _ (Builtin.Dict.updateFrom "dict.__init__" s.heap.objs.size (.ref l) [] .none) _ _ _ from ?_);unfold Builtin.Dict.updateFrom;apply ae (wpAny_typeOf (T:="list") #[_,eX,U] ?_);rw[aI (by decide)];apply ae (yX eX hh λh2 VT k2=>?_);simp only[Option.isNone_none,if_true];have jd:h2.get? l\seqObj "list" its.toArray n:=k2 _ _ eX;apply ae (wpAny_rule (ae (wpAny_pyIter_list #[_,jd,U,_,U] ?_)));apply aB #[plainId_quiet xY _,?_];have all:∀{b o},s.heap.get? b\o->(h2.push { cls:=.type "list_iterator",data:=.fields (List.toArray [.ref l,.int 0 0]) }).get? b\o:=λq=>aS _ (k2 _ _ (aS _ q))
 have hd2:h2.DictOf knd s.heap.objs.size []:=by
  let#[o,es,ep,ho,r]:=iS;exact#[o,es,ep,k2 _ _ ho,r]
 have Cz:s.heap.objs.size<h2.objs.size:=by
  let#[o,es,ep,ho,r]:=hd2;exact bp ho
 have lz:l<s.heap.objs.size:=bp ho
 apply Yw (A:=A.in1) (knd:=knd) (its:=its) (it:=h2.objs.size) (l:=l) (d:=s.heap.objs.size) (dA (Nat.lt_trans lz Cz)) (dA Cz) (i5 lz) hh its ps 0 [] _ _ 0 U (L2.Paired.aU hp λv p ⟨b,ky,e1,t1,k1⟩=>#[b,ky,e1,t1.keeps λb o q=>all q,k1])
  #[_,cw _ U,U,U] #[_,aS _ jd,U,_,U] (by
   let#[o,es,ep,ho,r]:=hd2;exact#[o,es,ep,aS _ ho,r]) ⇑hz λh' ic iU kp=>#[U,h h' ic iU λb o q=>?_]
 have bl:b<s.heap.objs.size:=bp q;exact kp b o (dA bl) (dA (Nat.lt_trans bl Cz)) (all q)
end
end hW
theorem zl{n:Nat}(h:decide (n<=16777216)=true:=by rfl):n<=PySem.sizeLine:=by
 rw[PySem.sizeLine_eq];exact o9 h
namespace L2
open PySem PySem.Spec PyProof.Rows PySem.W wI hW
variable{ys:ag}
theorem bR.same{K:ai}{H H':Hp}{ks:List aC}(t:bR K H ys ks)(e:aa H H'):bR K H' ys ks:=Paired.aU t λy k ⟨a,z,q⟩=>#[a,z,e _ _ q]
theorem aa.new{H:Hp}{l:Addr}{o:HO}(h:H l=none):aa H (upd H l o):=λb u e=>by rw[aw (bq e h)];exact e
section
variable{X:Cx}{pins:List (Addr × Obj)}{σ:St}{H H':Hp}{s:Ab}{h':Heap}{t':Nat}
theorem Inv.many(I:Inv X pins σ H s)(k:∀b o,s.heap.get? b\o->h'.get? b\o)(hold:aa H H')(iS:∀b,H b=none->b<s.heap.objs.size->H' b=none)
  (hob:∀b o,H' b\o->H b=none->∃xs its,o=.tup xs/\xs.length<=sizeLine/\Vals xs its/\IsTup h' b its.toArray/\∃o,h'.get? b\o/\o.dict=none):Inv X pins σ H' { s with heap:=h',toks:=t' }:=by
 apply I.un #[λb o q _ _ _=>k b o q,λb o q _ _ _=>#[o.slots,k b o q],λb o q n _=>iS b n (bp q),λb o q _=>#[o,k b o q],λb xs q=>hold b _ q,λb o u q=>hold b _ q,λb ps q=>#[#[],by rw[Array.append_empty];exact hold b _ q]] λb o q=>?_;cases e:H b with
 |some u=>
  let e2:=hold b u e;rw[q] at e2;cases e2;exact (I.ax b o e).eR (λc v _ z=>k c v z) (λc z=>hold c _ z) λc xs z=>hold c _ z
 |none=>
  let#[xs,its,rfl,z,r,t]:=hob b o q e;exact#[z,its,r,t]
end
variable{R:aj->Ab->Prop}
section
variable{X:Cx}{pins:List (Addr × Obj)}{σ:St}{H:Hp}{s:Ab}{A:Af}{E:Aa->Ab->Prop}
theorem _G{p:Addr}(I:Inv X pins σ H s)(h:dY X.K H p ys)(hz:ys.length<=100000)(q:∀vs s1,Inv X pins σ H s1->Vals ys vs->R vs s1):wpAny (model X.prog X.w) A (collect (.ref p)) R E s:=by
 let#[its,r,pl,_]:=I.list h;let hl:=r.length;apply collect_list pl.isList (q its _ ?_ r) (by have:=cU;omega);apply I.kept (t':=s.toks) λb u e=>?_;have lt:b<s.heap.objs.size:=bp e;rw[Heap.get?_update_ne _ _ _ _ (dA lt)];exact aS _ e
theorem IY{P:Nat->Aa->Prop}{acc:Array Aa}(h:ItemsOf P acc ys.length)(hp:∀(j:Nat) v,P j v->∀y,ys[j]? = some y->RelV y v):Vals ys acc.toList:=by
 have gen:∀(ys:ag) (vs:aj),ys.length=vs.length->(∀(j:Nat) y v,ys[j]? = some y->vs[j]? = some v->RelV y v)->Vals ys vs:=λys=>by
  induction ys with
  |nil=>
   intro vs hl _;cases vs with
   |nil=>exact .nil
   |cons _ _=>cases hl
  |cons y ys ih=>
   intro vs hl h;cases vs with
   |nil=>cases hl
   |cons v vs=>exact .cons (h 0 y v U U) (ih vs ⇑hl λj y v a b=>h (j+1) y v ⇑a ⇑b)
 apply gen ys acc.toList (by rw[pf];exact h.1.symm) λj y v a b=>hp j v (h.2 j v ?_) y a;rw[<- Array.getElem?_toList];exact b
theorem QF{d:Addr}{kvs:List (Key × V)}(I:Inv X pins σ H s)(h:Rd H d (.dK kvs)):∃(P:Nat->Aa->Prop) (OK:Heap->Prop),KdlSrc X.prog X.w "dict" d d (kvs.map λkv=>kV kv.1).length P OK/\OK s.heap/\∀(j:Nat) v,P j v->∀y,(kvs.map λkv=>kV kv.1)[j]? = some y->RelV y v:=by
 let#[z,hd,vs,rel,dd]:=jH I.ax h;let#[ep,dat]:=dd.dictAt;let hl:=rel.length;apply#[λi v=>∃k x,vs[i]? = some (k,x)/\(fq X.prog X.w).is k v=true,λh=>h.DictAt (fq X.prog X.w) d vs ep,(by rw[ao,hl];exact kdl_dict (knd:=fq X.prog X.w) (kvs:=vs) (ep:=ep) hd),dat,λj v ⟨k,x,e,hk⟩ y hy=>?_];rw[dG] at hy;have ek:kvs.map (·.1)=vs.map (·.1):=rel.keys;have e2:(kvs.map (·.1))[j]? = (vs.map (·.1))[j]?:=by rw[ek]
 rw[dG,dG,e] at e2;cases e3:kvs[j]? with
 |none=>rw[e3] at e2;cases e2
 |some kv=>
  rw[e3] at e2 hy;have e4:kv.1=k:=cq e2;have e5:kV kv.1=y:=cq hy;rw[<- e5,e4];have hk:wa k v=true:=hk;rcases qb hk with⟨i,t,rfl,rfl⟩|⟨x,t,rfl,rfl⟩
  ·exact#[t,U]
  exact#[t,U]
theorem QQ{d:Addr}{kvs:List (Key × V)}(hh:A.handled=none)(I:Inv X pins σ H s)(h:Rd H d (.dK kvs))(q:∀vs s1,Inv X pins σ H s1->Vals (kvs.map λkv=>kV kv.1) vs->R vs s1):wpAny (model X.prog X.w) A (collect (.ref d)) R E s:=by
 let#[P,OK,S,ok,hp]:=QF I h;apply kdu_collect S hh ok ?_ λh' tk acc k a=>q _ _ (I.kept k) (IY a hp);rw[ao];exact (jH I.ax h).1
theorem Yz{d:Addr}{kvs:List (aC × V)}(I:Inv X pins σ H s)(h:Rd H d (.dT kvs)):∃(ys:ag) (P:Nat->Aa->Prop) (OK:Heap->Prop),bR X.K H ys (kvs.map (·.1))/\ys.length<=sizeLine/\KdlSrc X.prog X.w "dict" d d ys.length P OK/\OK s.heap/\∀(j:Nat) v,P j v->∀y,ys[j]? = some y->RelV y v:=by
 let#[z,hd,xs,rel,o,es,ep,ho,hc,jA,vJ,nd]:=h.ok I.ax
 have l1:es.size=xs.length:=by
  have:=eF List.length vJ;simpa using this
 let l2:=bj rel;apply#[xs.map λx=>V.ref x.2.1,λi v=>∃h:i<es.size,v=es[i].key,λh=>Raw h d es ep,?_,by rw[ao];omega,(by rw[ao,<- l1];exact Zb (es:=es) (ep:=ep) hd),#[o,ho,hc,jA],λj v ⟨hj,e⟩ y hy=>?_]
 ·have gen:∀{kvs:List (aC × V)} {xs:List (aC × Addr × Aa)},KT H kvs xs->bR X.K H (xs.map λx=>V.ref x.2.1) (kvs.map (·.1)):=λ{kvs xs} r=>by
   induction r with
   |nil=>exact .nil
   |cons h _ ih=>exact .cons #[_,U,h.2.1] ih
  exact gen rel
 rw[dG] at hy;have hx:j<xs.length:=by omega
 rw[aX hx] at hy;have e1:V.ref xs[j].2.1=y:=cq hy
 have e2:es[j]=entryOfKey (tupleKind (fq X.prog X.w)) xs[j]:=by
  have e3:es.toList[j]? = (xs.map (entryOfKey (tupleKind (fq X.prog X.w))))[j]?:=by rw[vJ]
  rw[dG,aX hx,Array.getElem?_toList,Array.getElem?_eq_getElem hj] at e3;exact cq e3
 rw[<- e1,e,e2];rfl
theorem X7{d:Addr}{kvs:List (aC × V)}(hh:A.handled=none)(I:Inv X pins σ H s)(h:Rd H d (.dT kvs))(q:∀ys vs s1,Inv X pins σ H s1->Vals ys vs->bR X.K H ys (kvs.map (·.1))->R vs s1):wpAny (model X.prog X.w) A (collect (.ref d)) R E s:=by
 let#[ys,P,OK,t,z,S,ok,hp]:=Yz I h;exact kdu_collect S hh ok z λh' tk acc k a=>q ys _ _ (I.kept k) (IY a hp) t
def tx(v d:Addr):HO:=.ext λh=>h.IsItemsView v d
def uz(v d:Addr):HO:=.ext λh=>h.IsValuesView v d
def km(K:ai)(H:Hp):ag->List (Key × V)->Prop:=Paired λy p=>∃a,y=V.ref a/\H a\.tup [kV p.1,p.2]
theorem h8_{v d:Addr}{kvs:List (Key × V)}(hh:A.handled=none)(I:Inv X pins σ H s)(hv:H v\tx v d)(h:Rd H d (.dK kvs))(q:∀H1 ys vs s1,Inv X pins σ H1 s1->aa H H1->Vals ys vs->km X.K H1 ys kvs->R vs s1) :
  wpAny (model X.prog X.w) A (collect (.ref v)) R E s:=by
 let#[z,hd,vs,rel,dd]:=jH I.ax h;let#[ep,dat]:=dd.dictAt;let#[iv,_,_]:=I.ax v _ hv;let hl:=rel.length;apply kdx_collect (knd:=fq X.prog X.w) (kvs:=vs) (ep:=ep) hh iv dat Z1 λh' tk as k la G=>?_;have up:∀b,b∈as->s.heap.objs.size<b:=G.above
 have at1:∀(j:Nat) b p,as[j]? = some b->kvs[j]? = some p->∃its,Vals [kV p.1,p.2] its/\IsTup h' b its.toArray/\∃o,h'.get? b\o/\o.dict=none:=λj b p hj hp=>by
  let#[key,kk,x,e1,e2,e3]:=G.pairs j b hj
  have gen:∀{kvs:List (Key × V)} {vs:List (Key × Aa)},KV kvs vs->∀(j:Nat),vs[j]? = some (kk,x)->kvs[j]? = some p->p.1=kk/\RelV p.2 x:=λ{kvs vs} r=>by
   induction r with
   |nil=>intro j e;simp at e
   |@cons p' q _ _ h _ ih=>
    intro j e e';cases j with
    |zero=>
     have e:q=(kk,x):=⇑e
     have e':p'=p:=⇑e'
     subst e';rw[e] at h;exact h
    |succ j=>exact ih j ⇑e ⇑e'
  let#[g1,g2]:=gen rel j e1 hp;apply#[[key,x],.cons ?_ (.cons g2 .nil),#[_,e3,U,_,U],_,e3,U];rw[g1];have e2:wa kk key=true:=e2;rcases qb e2 with⟨i,t,rfl,rfl⟩|⟨x,t,rfl,rfl⟩
  ·exact#[t,U]
  exact#[t,U]
 have look:∀{as:aq} {kvs:List (Key × V)},as.Pairwise (· < ·)->∀(j:Nat) b p,as[j]? = some b->kvs[j]? = some p->(as.zip kvs).lookup b\p:=λ{as}=>by
  induction as with
  |nil=>intro kvs _ j b p e;simp at e
  |cons a as ih=>
   intro kvs pw j b p e e';cases kvs with
   |nil=>simp at e'
   |cons q kvs=>
    let#[p1,p2]:=List.pairwise_cons.mp pw;show ((a,q)::as.zip kvs).lookup b\p;cases j with
    |zero=>
     have e:a=b:=⇑e
     have e':q=p:=⇑e'
     subst e;subst e';rw[List.lookup_cons_self]
    |succ j=>
     have e:as[j]? = some b:=⇑e
     have e':kvs[j]? = some p:=⇑e'
     let lt:=p1 b (cy e);rw[p9,show (b == a)=false by simp only[beq_eq_false_iff_ne];exact i5 lt];exact ih p2 j b p e e'
 have lk:as.length=kvs.length:=by omega
 let H1:Hp:=λb=>if b∈as then ((as.zip kvs).lookup b).map λp=>HO.tup [kV p.1,p.2] else H b
 have EO:∀(j:Nat) b p,as[j]? = some b->kvs[j]? = some p->H1 b\.tup [kV p.1,p.2]:=λj b p e e'=>by
  show (if b∈as then _ else _)=_;rw[aI (cy e),look G.rise j b p e e'];rfl
 have og:∀b,b∉as->H1 b=H b:=λb hb=>aA hb;have old:∀b,b<s.heap.objs.size->b∉as:=λb hb m=>absurd (up b m) Z1;apply q H1 (as.map V.ref) _ _ (I.many (t':=tk) k (λb o e=>by rw[og b (old b (I.ax.lt e))];exact e) (λb e hb=>by rw[og b (old b hb)];exact e) λb o e e0=>?_) (λb o e=>by rw[og b (old b (I.ax.lt e))];exact e) ?_ ?_
 ·by_cases m:b∈as
  ·let#[j,hj]:=List.mem_iff_getElem?.mp m
   have jl:j<kvs.length:=by
    have:=(bZ.mp hj).1;omega
   let e':=EO j b kvs[j] hj (aX jl);rw[e] at e';cases e';let#[its,r,t]:=at1 j b _ hj (aX jl);exact#[_,its,U,zl,r,t]
  rw[og b m,e0] at e;cases e
 ·have gen:∀as:aq,Vals (as.map V.ref) (as.map Value.ref):=λas=>by
   induction as with
   |nil=>exact .nil
   |cons a as ih=>exact .cons U ih
  exact gen as
 have gen:∀(BM:aq) (fK:List (Key × V)),BM.length=fK.length->(∀(j:Nat) b p,BM[j]? = some b->fK[j]? = some p->H1 b\.tup [kV p.1,p.2])->km X.K H1 (BM.map V.ref) fK:=λBM=>by
  induction BM with
  |nil=>
   intro fK hl _;cases fK with
   |nil=>exact .nil
   |cons _ _=>cases hl
  |cons a BM ih=>
   intro fK hl h;cases fK with
   |nil=>cases hl
   |cons p fK=>exact .cons #[a,U,h 0 a p U U] (ih fK ⇑hl λj b p e e'=>h (j+1) b p ⇑e ⇑e')
 exact gen as kvs lk EO
end
theorem SJ{a b:af}(h:a.map bM=b.map bM):a=b:=by
 induction a generalizing b with
 |nil=>
  cases b with
  |nil=>rfl
  |cons _ _=>cases h
 |cons x a ih=>
  cases b with
  |nil=>cases h
  |cons y b=>
   let#[h1,h2]:=List.cons.inj h;have h1:[(Sum.inr x:Key)]=[Sum.inr y]:=h1;cases h1;rw[ih h2]
theorem Oi(ss:af):(iy ss).map bM=aZ (ss.map bM):=by
 have all:∀k∈aZ (ss.map bM),∃x,k=bM x:=λk hk=>by
  let#[x,_,e]:=br.mp ((tL _).mem_iff.mp hk);exact#[x,e.symm]
 have gen:∀l:List aC,(∀k∈l,∃x,k=bM x)->(l.map λk=>match k with | [.inr x]=>x|_=>(⟨#[]⟩:Str)).map bM=l:=λl=>by
  induction l with
  |nil=>exact λ_=>rfl
  |cons k l ih=>
   intro h;let#[x,rfl]:=h k gz;rw[eY,eY,ih λk hk=>h k (fM _ hk)];rfl
 exact gen _ all
theorem FB(ss:af):(iy ss).Perm ss:=by
 have p:((iy ss).map bM).Perm (ss.map bM):=by rw[Oi];exact tL _
 have back:∀l:af,(l.map bM).map (λk=>match k with | [.inr x]=>x|_=>(⟨#[]⟩:Str))=l:=λl=>by
  rw[cY]
  induction l with
  |nil=>rfl
  |cons x l ih=>rw[eY,ih];rfl
 let q:=p.map (λk=>match k with | [.inr x]=>x|_=>(⟨#[]⟩:Str));rwa [back,back] at q
variable{u:Aa}
section
variable{X:Cx}{pins:List (Addr × Obj)}{σ:St}{H:Hp}{s:Ab}
theorem ea_{ss:af}{Q:VK}(cX:ss.length<64)(lZ:wpAny (model X.prog X.w) X.A.in1 (collect u) (λvs s1=>∃H1,Inv X pins σ H1 s1/\Vals (ss.map V.str) vs/\∀l,H1 l=none->Q (.ref l) (upd H1 l (.lst ((iy ss).map V.str)))) X.xe s) :
  wpAny (model X.prog X.w) X.A (call (.builtin "sorted") [u]) (EP X pins σ Q) X.xe s:=by
 apply TH (MP (ss.map bM)) (aP lZ λvs s1 ⟨H1,I1,r,q⟩=>?_);have hl:vs.length=ss.length:=by rw[<- r.length,ao]
 apply#[by omega,λh2 h' _=>Tt (RV r) h2,λp h' e g up hD kp=>?_];have g':Good (ss.map bM).length p:=by rw[ao,<- hl];exact g
 let asc:=Mm (ks:=ss.map bM) (λi j _ _=>rfl) g' (by rw[ao,<- hl];exact up)
 have perm:(p.toList.map λi=>(ss.map bM).getD i []).Perm (ss.map bM):=by
  have:=FJ g' λi=>(ss.map bM).getD i [];rwa [FM] at this
 let es:=Nz perm asc
 have inr:∀i∈p.toList,i<ss.length:=λi hi=>by
  have m:i∈(List.range vs.length).toArray:=g.mem_iff.mp ⇑hi;rw[hl] at m;simpa using m
 have e1:(p.toList.map λi=>ss.getD i ⟨#[]⟩)=iy ss:=by
  apply SJ ?_;rw[Oi,<- es,cY];apply uI λi hi=>?_;have:=inr i hi;simp[this]
 let rv:=MI r g
 have e2:(p.toList.map λi=>(ss.map V.str).getD i .non)=(iy ss).map V.str:=by
  rw[<- e1,cY];apply uI λi hi=>?_;have:=inr i hi;simp[this]
 rw[e2] at rv;apply#[.ref s1.heap.objs.size,_,I1.laid (t':=s1.toks) kp (a_ _) (show fA X.prog X.w _ h' _ (.lst ((iy ss).map V.str)) from #[?_,mh p vs,e,rv,hD]),U,q _ (I1.ax.fresh (a_ _))];rw[ao,(FB ss).length_eq];have:=cU;omega
theorem hQ_{K:ai}{H:Hp}{ks:List aC}(t:bR K H ys ks):∀l:List Nat,(∀i∈l,i<ys.length)->bR K H (l.map λi=>ys.getD i .non) (l.map λi=>ks.getD i []):=λl=>by
 induction l with
 |nil=>exact λ_=>.nil
 |cons i l ih=>
  intro h;apply .cons ?_ (ih λj hj=>h j (fM _ hj));let hi:=h i gz
  have gen:∀{ys:ag} {ks:List aC} (i:Nat),i<ys.length->bR K H ys ks->∃a,ys.getD i .non=V.ref a/\H a\.tup ((ks.getD i []).map kV):=λ{ys ks} i hy t=>by
   induction t generalizing i with
   |nil=>exact absurd hy Z2
   |cons h t ih=>
    cases i with
    |zero=>exact h
    |succ i=>exact ih i ⇑hy
  exact gen i hi t
theorem Ut{ks:List aC}{sh:List Bool}{Q:VK}(cX:ks.length<64)(al:Alike ks sh)(lZ:wpAny (model X.prog X.w) X.A.in1 (collect u) (λvs s1=>∃H1 ys,Inv X pins σ H1 s1/\Vals ys vs/\bR X.K H1 ys ks/\∀l zs,H1 l=none->bR X.K H1 zs (aZ ks)->zs.Perm ys->Q (.ref l) (upd H1 l (.lst zs))) X.xe s) :
  wpAny (model X.prog X.w) X.A (call (.builtin "sorted") [u]) (EP X pins σ Q) X.xe s:=by
 apply TH (MP ks) (aP lZ λvs s1 ⟨H1,ys,I1,r,t,q⟩=>?_);let l1:=r.length;let l2:=bj t;have hl:vs.length=ks.length:=by omega
 apply#[by omega,λh2 h' k=>hm_ I1 r t al h2 k,λp h' e g up hD kp=>?_];have g':Good ks.length p:=by rw[<- hl];exact g
 let asc:=Mm (ks:=ks) (λi j _ _=>rfl) g' (by rw[<- hl];exact up)
 have perm:(p.toList.map λi=>ks.getD i []).Perm ks:=by
  have:=FJ g' λi=>ks.getD i [];rwa [FM] at this
 let es:=Nz perm asc
 have inr:∀i∈p.toList,i<ys.length:=λi hi=>by
  have m:i∈(List.range vs.length).toArray:=g.mem_iff.mp ⇑hi;rw[<- l1] at m;simpa using m
 let tz:=hQ_ t p.toList inr;rw[es] at tz;let rv:=MI r g
 have pz:(p.toList.map λi=>ys.getD i .non).Perm ys:=by
  have:=FJ (n:=ys.length) (by rw[l1];exact g) λi=>ys.getD i .non;rwa [FM] at this
 apply#[.ref s1.heap.objs.size,_,I1.laid (t':=s1.toks) kp (a_ _) (show fA X.prog X.w _ h' _ (.lst (p.toList.map λi=>ys.getD i .non)) from #[?_,mh p vs,e,rv,hD]),U,q _ _ (I1.ax.fresh (a_ _)) tz pz];rw[pz.length_eq];have:=cU;omega
end
inductive nv (K:ai) (xs:ag) (H:Hp) (Q:VK):Prop
 |mk:∀d kvs sh,xs=[.ref d]->H d\.dT kvs->Alike (kvs.map (·.1)) sh->kvs.length<64->(∀l zs,H l=none->bR K H zs (aZ (kvs.map (·.1)))->Q (.ref l) (upd H l (.lst zs)))->nv K xs H Q
variable{X:Cx}
theorem en_(hc:X.calm=true):gE X (.builtin "sorted") (nv X.K):=by
 intro pins s σ H xs us Q I r h;let#[d,kvs,sh,rfl,hd,al,cX,q]:=h;let#[u,rfl,ru]:=vals1 r;cases ru;exact Ut (by rw[ao];exact cX) al (X7 (I.ok.hd hc) I (.inl hd) λys vs s1 I1 r1 t=>⟨H,ys,I1,r1,t,λl zs n t' _=>q l zs n t'⟩)
inductive ny (xs:ag) (H:Hp) (Q:VK):Prop
 |mk:∀d kvs ss,xs=[.ref d]->H d\.dK kvs->kvs.map (·.1)=ss.map Sum.inr->ss.length<64->(∀l,H l=none->Q (.ref l) (upd H l (.lst ((iy ss).map V.str))))->ny xs H Q
theorem ez_(hc:X.calm=true):gE X (.builtin "sorted") ny:=by
 intro pins s σ H xs us Q I r h;let#[d,kvs,ss,rfl,hd,ek,cX,q]:=h;let#[u,rfl,ru]:=vals1 r;cases ru;apply ea_ cX (QQ (I.ok.hd hc) I (.inl hd) λvs s1 I1 r1=>⟨H,I1,?_,q⟩)
 have e:(kvs.map λkv=>kV kv.1)=ss.map V.str:=by
  rw[show (kvs.map λkv=>kV kv.1)=(kvs.map (·.1)).map kV by rw[cY];rfl,ek,cY];rfl
 rwa [e] at r1
inductive rD (K:ai) (xs:ag) (H:Hp) (Q:VK):Prop
 |mk:∀(v d:Addr) (kvs:List (Key × V)) (ks:List (Key × Key)) (sh:List Bool),xs=[.ref v]->H v\tx v d->H d\.dK kvs->kvs=ks.map (λk:Key × Key=>(k.1,kV k.2))->Alike (ks.map λk=>[k.1,k.2]) sh->ks.length<64->(∀l H1 zs,aa H H1->H1 l=none->bR K H1 zs (aZ (ks.map λk=>[k.1,k.2]))->Q (.ref l) (upd H1 l (.lst zs)))->rD K xs H Q
theorem fz_(hc:X.calm=true):gE X (.builtin "sorted") (rD X.K):=by
 intro pins s σ H xs us Q I r h;let#[v,d,kvs,ks,sh,rfl,hv,hd,ek,al,cX,q]:=h;let#[u,rfl,ru]:=vals1 r;cases ru;apply Ut (by rw[ao];exact cX) al (h8_ (I.ok.hd hc) I hv (.inl hd) λH1 ys vs s1 I1 sm r1 t=>⟨H1,ys,I1,r1,?_,λl zs n t' _=>q l H1 zs sm n t'⟩);subst ek
 have gen:∀(ks:List (Key × Key)) (ys:ag),km X.K H1 ys (ks.map (λk:Key × Key=>(k.1,kV k.2)))->bR X.K H1 ys (ks.map λk=>[k.1,k.2]):=λks=>by
  induction ks with
  |nil=>
   intro ys t;cases t;exact .nil
  |cons k ks ih=>
   intro ys t;cases t with
   |cons h t=>exact .cons h (ih _ t)
 exact gen ks ys t
inductive rG (xs:ag) (H:Hp) (Q:VK):Prop
 |mk:∀d kvs,xs=[.ref d]->Rd H d (.dK kvs)->(∀l,H l=none->Q (.ref l) (upd H l (.lst (kvs.map λkv=>kV kv.1))))->rG xs H Q
theorem On(hc:X.calm=true):gE X (.type "list") rG:=by
 intro pins s σ H xs us Q I r h;let#[d,kvs,rfl,hd,q]:=h;let#[u,rfl,ru]:=vals1 r;cases ru;let#[P,OK,S,ok,hp]:=QF I hd;let z:=(jH I.ax hd).1;apply kdl_call S (I.ok.hd hc) ok (by rw[ao];exact z) λh' tk acc c k hD a=>?_;apply#[.ref s.heap.objs.size,_,I.laid (t':=tk) k (a_ _) (show fA X.prog X.w _ h' _ (.lst (kvs.map λkv=>kV kv.1)) from #[by rw[ao];exact z,acc.toList,c,IY a hp,by rw[Array.toArray_toList];exact hD]),U,q _ I.fresh]
theorem KV.eV{κ:Type}[DecidableEq κ]:∀{more:List (κ × V)} {rs:List (κ × Aa)} {kvs:List (κ × V)} {vs:List (κ × Aa)},KV more rs->KV kvs vs->KV (more.foldl (λacc kv=>putK acc kv.1 kv.2) kvs) (hW.eV vs rs):=λ{more rs kvs vs} h=>by
 induction h generalizing kvs vs with
 |nil=>exact λh=>h
 |@cons p q _ _ h _ ih=>
  intro h2;let#[k,y]:=p;let#[k',u]:=q;let#[h1,h3]:=h;have h1:k=k':=h1;subst h1;exact ih (h2.put k h3)
inductive nC (K:ai) (xs:ag) (H:Hp) (Q:VK):Prop
 |mk:∀p ys kvs,xs=[.ref p]->H p\.lst ys->km K H ys kvs->kvs.length<=1000->(∀l,H l=none->Q (.ref l) (upd H l (.dK (vY [] kvs))))->nC K xs H Q
theorem AN(hc:X.calm=true):gE X (.type "dict") (nC X.K):=by
 intro pins s σ H xs us Q I r h;let#[p,ys,kvs,rfl,hp,t,hz,q]:=h;let#[u,rfl,ru]:=vals1 r;cases ru;let#[z,its,n,rv,hl,ho]:=I.jw hp
 have gen:∀{ys:ag} {its:aj} {kvs:List (Key × V)},Vals ys its->km X.K H ys kvs->∃ps,KV kvs ps/\M7 (fq X.prog X.w) s.heap its ps:=λ{ys its kvs} rv t=>by
  induction t generalizing its with
  |nil=>
   cases rv;exact#[[],.nil,.nil]
  |@cons y p ys kvs h t ih=>
   cases rv with
   |cons r0 rv=>
    let#[ps,h1,h2]:=ih rv;let#[a,e,sq]:=h;subst e;cases r0;let#[tv,rt,it,_]:=I.tuple (fG.of sq);let#[key,x,e2,rk,rx]:=vals2 rt;subst e2;apply#[(p.1,x)::ps,Paired.cons (show p.1=p.1/\RelV p.2 x from #[U,rx]) h1,Paired.cons (show ∃a' DN,Value.ref a=.ref a'/\IsTup s.heap a' (List.toArray [DN,x])/\(fq X.prog X.w).is p.1 DN=true from #[a,key,U,it,Aj rk]) h2]
 let#[ps,h1,h2]:=gen rv t;let lp:=KV.length h1;apply dS_ (knd:=fq X.prog X.w) (I.ok.hd hc) ho h2 Z1 λh' tk hd kp=>?_;apply#[.ref s.heap.objs.size,_,I.laid (t':=tk) kp (a_ _) (Hv ?_ (beq_eq_false_iff_ne.mpr (bG (dA I.big))) (KV.eV h1 .nil) hd),U,q _ I.fresh];have:=Ox kvs [];have:=cU;simp only[List.length_nil] at *;show (vY [] kvs).length<=sizeLine;omega
theorem S6:∀{bs:List Bool} {vs:aj},Vals (bs.map V.bl) vs->vs=bs.map Value.bool
 |[],_,.nil=>rfl
 |b::bs,_,.cons h t=>by
  cases h;rw[S6 t];rfl
inductive C7 (K:ai) (g:List Bool->Bool) (xs:ag) (H:Hp) (Q:VK):Prop
 |mk:∀p bs,xs=[.ref p]->dY K H p (bs.map V.bl)->Q (.bl (g bs)) H->C7 K g xs H Q
theorem ZW(hc:X.calm=true):gE X (.builtin "all") (C7 X.K λbs=>bs.all id):=by
 intro pins s σ H xs us Q I r h;let#[p,bs,rfl,hp,q]:=h;let#[u,rfl,ru]:=vals1 r;cases ru;let#[its,rv,pl,z]:=I.list hp;obtain rfl:=S6 rv;let hl:=pl.isList;have lt:p<s.heap.objs.size:=by let#[_,e,_]:=hl;exact bp e
 apply call_all_walk (wpAny_pyIter_list hl ⟨s.heap.objs.size,[s.heap.objs.size,p],[s.heap.objs.size],(bs.map Value.bool).toArray.size,_,_,λi=>(bs[i]?).getD true,rfl,Walks.list (A:=X.A.in1) (I.ok.hd hc) _ p (dA lt) _,⟨⟨_,cw _ rfl,rfl,rfl⟩,hl.push _⟩,λi v s' Q' E' hP hQ=>?_,λh' tk hk=>?_⟩)
 ·have hP:(bs.map Value.bool).toArray[i]? = some v:=hP;simp only[List.getElem?_toArray,dG] at hP;cases e:bs[i]? with
  |none=>rw[e] at hP;cases hP
  |some b=>
   have hQ:Q' ((bs[i]?).getD true) s':=hQ;rw[e] at hP hQ;cases hP;exact um hQ
 have e:((List.range (bs.map Value.bool).toArray.size).all λi=>(bs[i]?).getD true)=bs.all id:=by
  rw[cQ,ao];exact LSm.range_all bs
 rw[e];exact#[.bl _,H,I.kept (LSm.kept_iter hk),U,q]
theorem RP:∀{ns:List Int} {vs:aj},Vals (ns.map V.int) vs->IntsAre vs ns
 |[],_,.nil=>.nil
 |n::ns,_,.cons h t=>by
  let#[tk,rfl]:=h;exact .cons _ _ (RP t)
end L2
namespace Jf
open PySem PySem.SeqAt PyProof.Rows
open AutoSeq1 (wpAny_loadPart')
open MeetsSeq MeetsSeq2 MeetsSeq3 SeqRoads2
theorem Yr(l b:Addr)(xs ys:Array Aa)(n m:Nat)(dl db:Option Addr)(sl sb:Array (Option Aa))(hs:xs.size=ys.size)(e:Nat->Bool)(k:Nat) :
  ∀i:Nat,xs.size - i=k->Meets (Builtin.«list.__eq__.loop» #[[.ref l,.ref b,rawInt i,rawInt 3],[]])
   (λA R s=>(s.heap.get? l=some { cls:=.type "list",dict:=dl,data:=.seq xs n,slots:=sl }/\s.heap.get? b=some { cls:=.type "list",dict:=db,data:=.seq ys m,slots:=sb }) /\
    (∀j (h1:j<xs.size) (h2:j<ys.size),EqAt A.in1 s xs[j] ys[j] (e j))/\R (.ok (.ret (.bool (!((List.range xs.size).drop i).all e)))) s):=by
 induction k with
 |zero=>
  intro i hk prog w A R s ⟨⟨gl,gb⟩,he,h⟩;let#[hp,g,d,tk,os]:=s
  wp_walk using o_ gl,o_ gb
  rw[show xs[((i:Nat):Int).toNat]? = none by simp;omega,show ys[((i:Nat):Int).toNat]? = none by simp;omega];rw[show (List.range xs.size).drop i=[] by simp;omega] at h
  wp_walk using o_ gl,o_ gb
  apply (show R (.ok (.ret (.bool (xs.size != ys.size)))) _ from ?_);rw[show (xs.size != ys.size)=false by simp[hs]];exact h
 |succ k ih=>
  intro i hk prog w A R s ⟨⟨gl,gb⟩,he,h⟩;let#[hp,g,d,tk,os]:=s
  wp_walk using o_ gl,o_ gb
  have z1:i<xs.size:=by omega
  have z2:i<ys.size:=by omega
  have q1:xs[((i:Nat):Int).toNat]? = some xs[i]:=by simp[z1]
  have q2:ys[((i:Nat):Int).toNat]? = some ys[i]:=by simp[z2]
  rw[show (List.range xs.size).drop i=i::(List.range xs.size).drop (i+1) by simp[List.drop_eq_getElem_cons,z1],List.all_cons] at h;rw[q1,q2];apply ae (he i z1 z2 prog w _ _ ?_);cases c:e i with
  |true=>
   rw[c] at h
   wp_walk
   rw[show ((i:Int)+1)=((i+1:Nat):Int) by omega];apply#[plainId_quiet plain_eq_loop _,codeAny_builtin entry_eq_loop ?_];rw[xS plain_eq_loop _];exact ih (i+1) Z1 prog w A R _ #[#[gl,gb],he,by simpa using h]
  |false=>
   rw[c] at h
   wp_walk using o_ gl,o_ gb
   rw[q1,q2]
   wp_walk
   simpa using h
theorem ZP(l b:Addr)(xs ys:Array Aa)(n m:Nat)(dl db:Option Addr)(sl sb:Array (Option Aa))(hs:xs.size=ys.size)(e:Nat->Bool) :
  Meets (Builtin.«list.__ne__» #[[.ref l,.ref b],[]])
   (λA R s=>(s.heap.get? l=some { cls:=.type "list",dict:=dl,data:=.seq xs n,slots:=sl }/\s.heap.get? b=some { cls:=.type "list",dict:=db,data:=.seq ys m,slots:=sb }) /\
    (∀j (h1:j<xs.size) (h2:j<ys.size),EqAt A.in1 s xs[j] ys[j] (e j))/\R (.ok (.ret (.bool (!(List.range xs.size).all e)))) s):=by
 intro prog w A R s ⟨⟨gl,gb⟩,he,h⟩;let#[hp,g,d,tk,os]:=s;let f3:=AutoSeq1.sub_list_list;have no:¬(xs.size != ys.size)=true:=by simp[hs]
 wp_walk using o_ gl,o_ gb
 apply#[plainId_quiet plain_eq_loop _,codeAny_builtin entry_eq_loop ?_];rw[xS plain_eq_loop _];exact Yr l b xs ys n m dl db sl sb hs e _ 0 U prog w A R _ #[#[gl,gb],he,by simpa using h]
theorem hA_(l b:Addr)(xs ys:Array Aa)(n m:Nat)(dl db:Option Addr)(sl sb:Array (Option Aa))(hs:(xs.size != ys.size)=true) :
  Meets (Builtin.«list.__ne__» #[[.ref l,.ref b],[]])
   (λA R s=>(s.heap.get? l=some { cls:=.type "list",dict:=dl,data:=.seq xs n,slots:=sl }/\s.heap.get? b=some { cls:=.type "list",dict:=db,data:=.seq ys m,slots:=sb })/\R (.ok (.ret (.bool true))) s):=
 .of_wp λprog w A R s ⟨⟨gl,gb⟩,h⟩=>by
  let#[hp,g,d,tk,os]:=s;let f3:=AutoSeq1.sub_list_list
  wp_walk using o_ gl,o_ gb
  exact#[_,U,h]
variable{b l:Addr}{xs ys:Array Aa}{E Q:Aa->Ab->Prop}{prog:Ad}{w:Ag}{A:Af}{s:Ab}
theorem oT{e:Nat->Bool}(hl:s.heap.IsList l xs)(hb:s.heap.IsList b ys)(hs:xs.size=ys.size)(hu:A.units<cLine)(he:∀j (h1:j<xs.size) (h2:j<ys.size),EqAt A.in1 s xs[j] ys[j] (e j))(h:Q (.bool (!(List.range xs.size).all e)) s):wpAny (model prog w) A (compareOp .NotEq (.ref l) (.ref b)) Q E s:=by
 let#[#[c1,d1,t1,l1],o1,k1,n1,z1]:=id hl;let#[#[c2,d2,t2,l2],o2,k2,n2,z2]:=id hb;simp only at k1 z1 k2 z2;subst k1 z1 k2 z2;exact richCompare_meets_room (op:=.NotEq) #[_,o1,U] #[_,o2,U] F.slot_list_ne F.entry_list_ne (F.args_list_ne_2 _ _) (ZP l b xs ys n1 n2 d1 d2 l1 l2 hs e) #[#[o1,o2],he,show Value.bool (!(List.range xs.size).all e)≠Value.notImplemented/\Q (.bool (!(List.range xs.size).all e)) s from #[(λx=>nomatch x),h]] hu
theorem gU(hl:s.heap.IsList l xs)(hb:s.heap.IsList b ys)(hs:(xs.size != ys.size)=true)(hu:A.units<cLine)(h:Q (.bool true) s):wpAny (model prog w) A (compareOp .NotEq (.ref l) (.ref b)) Q E s:=by
 let#[#[c1,d1,t1,l1],o1,k1,n1,z1]:=id hl;let#[#[c2,d2,t2,l2],o2,k2,n2,z2]:=id hb;simp only at k1 z1 k2 z2;subst k1 z1 k2 z2;exact richCompare_meets_room (op:=.NotEq) #[_,o1,U] #[_,o2,U] F.slot_list_ne F.entry_list_ne (F.args_list_ne_2 _ _) (hA_ l b xs ys n1 n2 d1 d2 l1 l2 hs) #[#[o1,o2],show Value.bool true≠Value.notImplemented/\Q (.bool true) s from #[(λx=>nomatch x),h]] hu
end Jf
namespace L2
open PySem PySem.Spec PyProof.Rows PySem.W wI hW
abbrev Rp(D:Type):=Hp->V->D->Prop
structure jY (X:Cx) (n:Nat) {D:Type} [DecidableEq D] (R:Rp D):Prop where
 eq:∀{pins:List (Addr × Obj)} {σ:St} {H:Hp} {s:Ab} {A:Af} {x y:V} {u v:Aa} {d e:D},Inv X pins σ H s->RelV x u->RelV y v->R H x d->R H y e->A.units+n<cLine->SeqAt.EqAt A s u v (decide (d=e))
 one:∀{pins:List (Addr × Obj)} {σ:St} {H:Hp} {s:Ab} {x:V} {d e:D},Inv X pins σ H s->R H x d->R H x e->d=e
def rS:Rp Str:=λ_ x d=>x=.str d
def rZ:Rp Int:=λ_ x d=>x=.int d
def r2(K:ai){D1 D2:Type}(R1:Rp D1)(R2:Rp D2):Rp (D1 × D2):=λH x d=>∃a u v,x=.ref a/\fG K H a [u,v]/\R1 H u d.1/\R2 H v d.2
def rL(K:ai){D:Type}(R:Rp D):Rp (List D):=λH x ds=>∃a xs,x=.ref a/\dY K H a xs/\Paired (R H) xs ds
variable{X:Cx}
theorem iq:jY X 0 rS where
 eq:=λ{pins σ H s A x y u v d e} I ru rv hx hy hu=>by
  have hx:x=.str d:=hx;have hy:y=.str e:=hy;subst hx;subst hy;let q:=G4 (A:=A) (s:=s) ru rv U U
  have e2:sR (.str d) (.str e)=decide (d=e):=by
   show (d == e)=_;by_cases h:d=e
   ·subst h;simp
   simp[h]
  rwa [e2] at q
 one:=λ{pins σ H s x d e} I hx hy=>by
  have hx:x=.str d:=hx;have hy:x=.str e:=hy;rw[hx] at hy;exact V.str.inj hy
theorem NC:jY X 0 rZ where
 eq:=λ{pins σ H s A x y u v d e} I ru rv hx hy hu=>by
  have hx:x=.int d:=hx;have hy:y=.int e:=hy;subst hx;subst hy;let q:=G4 (A:=A) (s:=s) ru rv U U
  have e2:sR (.int d) (.int e)=decide (d=e):=by
   show (d == e)=_;by_cases h:d=e
   ·subst h;simp
   simp[h]
  rwa [e2] at q
 one:=λ{pins σ H s x d e} I hx hy=>by
  have hx:x=.int d:=hx;have hy:x=.int e:=hy;rw[hx] at hy;exact V.int.inj hy
theorem AL{h:Heap}{a:Addr}{its:Array Aa}(t:IsTup h a its):h.IsTuple a its:=t
variable{n:Nat}
theorem Fg{m:Nat}{D1 D2:Type}[DecidableEq D1][DecidableEq D2]{R1:Rp D1}{R2:Rp D2}(c1:jY X n R1)(c2:jY X m R2):jY X (max n m+1) (r2 X.K R1 R2) where
 one:=λ{pins σ H s x d e} I hx hy=>by
  let#[a,u,v,rfl,t,q1,q2]:=hx;let#[b,u',v',e0,t',xj,xi]:=hy;cases e0;let e1:=I.dS t t';cases e1;exact Prod.ext (c1.one I q1 xj) (c2.one I q2 xi)
 eq:=λ{pins σ H s A x y u v d e} I ru rv hx hy hu=>by
  let hx':=hx;let Q3:=hy;let#[a,x1,x2,rfl,t,q1,q2]:=hx;let#[b,y1,y2,rfl,t',xj,xi]:=hy;cases ru;cases rv;by_cases xI:a=b
  ·subst xI;let e1:=I.dS t t';cases e1;have:d=e:=Prod.ext (c1.one I q1 xj) (c2.one I q2 xi);rw[cz this];exact SeqAt.EqAt.same _
  let#[its,r,it,_]:=I.tuple t;let#[its',r',DP,_]:=I.tuple t';let#[u1,u2,rfl,r1,r2]:=vals2 r;let#[w1,w2,rfl,WI,WD]:=vals2 r'
  let key:=SeqAt.EqAt.of_refs xI (SeqAt.RcAt.tuples (A:=A) (s:=s) (e:=λj=>if j=0 then decide (d.1=e.1) else decide (d.2=e.2)) (AL it) (AL DP) Z1 λj h1 h2=>by
   match j,h1,h2 with
   |0,_,_=>exact c1.eq I r1 WI q1 xj (by show A.units+1+n<cLine;omega)
   |1,_,_=>exact c2.eq I r2 WD q2 xi (by show A.units+1+m<cLine;omega))
  have e3:((List.range (min [u1,u2].toArray.size [w1,w2].toArray.size)).all (λj=>if j=0 then decide (d.1=e.1) else decide (d.2=e.2))&&[u1,u2].toArray.size == [w1,w2].toArray.size)=decide (d=e):=by
   show (decide (d.1=e.1)&&(decide (d.2=e.2)&&true)&&true)=_;by_cases h1:d.1=e.1
   ·by_cases h2:d.2=e.2
    ·have:d=e:=Prod.ext h1 h2;simp[this]
    have:¬d=e:=λz=>h2 (by rw[z]);simp[h1,h2,this]
   have:¬d=e:=λz=>h1 (by rw[z]);simp[h1,this]
  rw[e3] at key;exact key
theorem eO{α β:Type}{F:α->β->Prop}:∀{l:List α} {m:List β},Paired F l m->∀(i:Nat) (h1:i<l.length) (h2:i<m.length),F l[i] m[i]
 |_,_,.cons h t,0,_,_=>h
 |_,_,.cons h t,i+1,h1,h2=>eO t i ⇑h1 ⇑h2
theorem Us{D:Type}[DecidableEq D]:∀{ds es:List D},ds.length=es.length->((List.range ds.length).all λj=>decide (ds[j]? = es[j]?))=decide (ds=es):=λ{ds es} hl=>by
 by_cases h:ds=es
 ·subst h;simp
 rw[fC h]
 have:∃i,i<ds.length/\ds[i]?≠es[i]?:=by
  apply Classical.byContradiction λhn=>h ?_;apply List.ext_getElem? ?_;intro i;by_cases hi:i<ds.length
  ·exact Classical.byContradiction λq=>hn #[i,hi,q]
  rw[List.getElem?_eq_none Z1,List.getElem?_eq_none Z1]
 let#[i,hi,q]:=this;rw[List.all_eq_false];exact#[i,by simpa using hi,by simpa using q]
variable{pins:List (Addr × Obj)}{σ:St}{s:Ab}{A:Af}
theorem Tb{D:Type}[DecidableEq D]{R:Rp D}(c:jY X n R){H:Hp}(I:Inv X pins σ H s){xs ys:ag}{us vs:aj}{ds es:List D}(ru:Vals xs us)(rv:Vals ys vs)(hx:Paired (R H) xs ds)(hy:Paired (R H) ys es)(hu:A.units+n<cLine) :
  ∀j (h1:j<us.toArray.size) (h2:j<vs.toArray.size),SeqAt.EqAt A s us.toArray[j] vs.toArray[j] (decide (ds[j]? = es[j]?)):=λj h1 h2=>by
 let l1:=ru.length;let l2:=rv.length;let l3:=bj hx;let l4:=bj hy;simp only[cQ] at h1 h2;let q:=c.eq (A:=A) I (eO ru j Z1 h1) (eO rv j Z1 h2) (eO hx j Z1 Z1) (eO hy j Z1 Z1) hu
 have e:decide (ds[j]? = es[j]?)=decide (ds[j]' Z1=es[j]' Z1):=by
  rw[aX Z1,aX Z1];by_cases z:ds[j]' Z1=es[j]' Z1
  ·simp[z]
  simp[z]
 rw[e];exact q
def u9{D:Type}[DecidableEq D](R:Rp D)(neg:Bool):V->V->Hp->VK->Prop:=λx y H Q=>∃d e,R H x d/\R H y e/\Q (.bl (if neg then !decide (d=e) else decide (d=e))) H
theorem Yj{D:Type}[DecidableEq D]{R:Rp D}(c:jY X n R)(hu:X.A.units+n+1<cLine):dO X (compareOp .Eq) (u9 (rL X.K R) false):=by
 intro pins s σ H x y v u Q I rx ry h;let#[d,e,#[a,xs,rfl,t,q],#[b,ys,rfl,t',q'],hq]:=h;cases rx;cases ry;let#[us,r,pl,_]:=I.list t;let#[vs,r',vi,_]:=I.list t';let l1:=r.length;let l2:=r'.length;let l3:=bj q;let l4:=bj q';by_cases hl:d.length=e.length
 ·apply SeqAt.eq_listAt pl.isList vi.isList (by simp only[cQ];omega) Z1 (Tb c I r r' q q' (A:=X.A.in1) (by show X.A.units+1+n<cLine;omega)) #[.bl _,H,I,U,?_];rw[show us.toArray.size=d.length by simp only[cQ];omega,Us hl];exact hq
 apply SeqAt.eq_list_lengthsAt pl.isList vi.isList (by simp only[cQ,bne_iff_ne];omega) Z1 #[.bl _,H,I,U,?_];have hq:Q (.bl (decide (d=e))) H:=hq;rwa [fC (λz=>hl (by rw[z]))] at hq
theorem Y5{D:Type}[DecidableEq D]{R:Rp D}(c:jY X n R)(hu:X.A.units+n+1<cLine):dO X (compareOp .NotEq) (u9 (rL X.K R) true):=by
 intro pins s σ H x y v u Q I rx ry h;let#[d,e,#[a,xs,rfl,t,q],#[b,ys,rfl,t',q'],hq]:=h;cases rx;cases ry;let#[us,r,pl,_]:=I.list t;let#[vs,r',vi,_]:=I.list t';let l1:=r.length;let l2:=r'.length;let l3:=bj q;let l4:=bj q';have hq:Q (.bl (!decide (d=e))) H:=hq;by_cases hl:d.length=e.length
 ·apply Jf.oT pl.isList vi.isList (by simp only[cQ];omega) Z1 (Tb c I r r' q q' (A:=X.A.in1) (by show X.A.units+1+n<cLine;omega)) #[.bl _,H,I,U,?_];rw[show us.toArray.size=d.length by simp only[cQ];omega,Us hl];exact hq
 apply Jf.gU pl.isList vi.isList (by simp only[cQ,bne_iff_ne];omega) Z1 #[.bl _,H,I,U,?_];rwa [fC (λz=>hl (by rw[z]))] at hq
def yT(K:ai){D:Type}[DecidableEq D](R:Rp D)(neg:Bool):V->V->Hp->VK->Prop:=λx y H Q=>∃d es,R H x d/\rL K R H y es/\Q (.bl (if neg then !decide (d∈es) else decide (d∈es))) H
theorem K3{D:Type}[DecidableEq D]{R:Rp D}(c:jY X n R){H:Hp}(I:Inv X pins σ H s){x:V}{u:Aa}{d:D}(ru:RelV x u)(hx:R H x d)(hu:A.units+n<cLine):∀{ys:ag} {vs:aj} {es:List D},Vals ys vs->Paired (R H) ys es->
  ∃f:Aa->Bool,(∀w∈vs,SeqAt.EqAt A s w u (f w))/\vs.any f=decide (d∈es):=λ{ys vs es} rv hy=>by
 let f:Aa->Bool:=λw=>@decide (∃y e,RelV y w/\R H y e/\e=d) (Classical.propDecidable _)
 have sound:∀y w e,RelV y w->R H y e->f w=decide (e=d):=λy w e h1 h2=>by
  by_cases z:e=d
  ·rw[cz z];exact @cz _ (Classical.propDecidable _) #[y,e,h1,h2,z]
  rw[fC z];apply @fC _ (Classical.propDecidable _) λ⟨y',e',g1,g2,g3⟩=>z ?_;have:y'=y:=RelV.inj g1 h1;subst this;rw[<- g3];exact c.one I h2 g2
 apply#[f,?_,?_]
 ·induction rv generalizing es with
  |nil=>exact λw hw=>nomatch hw
  |cons h t ih=>
   cases hy with
   |cons g t'=>
    intro w hw;rcases bW.mp hw with rfl|hw
    ·rw[sound _ _ _ h g];exact c.eq I h ru g hx hu
    exact ih t' w hw
 induction rv generalizing es with
 |nil=>
  cases hy;simp
 |cons h t ih=>
  cases hy with
  |@cons _ e _ es g t'=>
   rw[List.any_cons,ih t',sound _ _ _ h g];by_cases z:e=d
   ·subst z;simp
   by_cases z2:d∈es
   ·simp[z2]
   have:¬d∈e::es:=λq=>by
    rcases bW.mp q with q|q
    ·exact z q.symm
    exact z2 q
   rw[fC z,fC z2,fC this];rfl
theorem LW{D:Type}[DecidableEq D]{R:Rp D}(c:jY X n R)(hu:X.A.units+n+1<cLine):dO X (compareOp .In) (yT X.K R false):=by
 intro pins s σ H x y v u Q I rx ry h;let#[d,es,hx,#[a,ys,rfl,t,q],hq]:=h;cases ry;let#[us,r,pl,_]:=I.list t;let#[f,h1,h2]:=K3 c I (A:=X.A.in1) rx hx (by show X.A.units+1+n<cLine;omega) r q;apply SeqAt.in_listAt f pl.isList (λw hw=>h1 w ⇑hw) #[.bl _,H,I,U,?_];rw[show us.toArray.any f=us.any f by simp,h2];exact hq
theorem TV{D:Type}[DecidableEq D]{R:Rp D}(c:jY X n R)(hu:X.A.units+n+1<cLine):dO X (compareOp .NotIn) (yT X.K R true):=by
 intro pins s σ H x y v u Q I rx ry h;let#[d,es,hx,#[a,ys,rfl,t,q],hq]:=h;cases ry;let#[us,r,pl,_]:=I.list t;let#[f,h1,h2]:=K3 c I (A:=X.A.in1) rx hx (by show X.A.units+1+n<cLine;omega) r q;apply SeqAt.notIn_listAt f pl.isList (λw hw=>h1 w ⇑hw) #[.bl _,H,I,U,?_];rw[show us.toArray.any f=us.any f by simp,h2];exact hq
inductive C5 (K:ai) (xs:ag) (H:Hp) (Q:VK):Prop
 |mk:∀x T t b,xs=[x,.ty T]->fO K H x t->PySem.W.kitOne K t (.type T)\b->Q (.bl b) H->C5 K xs H Q
theorem mG:gE X (.builtin "isinstance") (C5 X.K):=by
 intro pins s σ H xs us Q I r h;let#[x,T,t,b,rfl,ty,e,q]:=h;let#[u,w',rfl,ru,i_]:=vals2 r;cases (show w'=Value.type T from i_);exact TX I ru ty e λtk=>#[.bl b,H,I.tok tk,U,q]
inductive UD (x:V) (y:V) (H:Hp) (Q:VK):Prop
 |mk:∀i j,x=.str i->y=.str j->Q (.bl (!decide (j.cps.toList<i.cps.toList))) H->UD x y H Q
theorem S2:dO X (compareOp .LtE) UD:=by
 intro pins s σ H x y v u Q I rx ry h;let#[i,j,rfl,rfl,q]:=h;let#[t,rfl]:=rx;let#[t',rfl]:=ry;exact PySem.P.le_str ⟨.bl _,H,I,rfl,q⟩
theorem YQ{prog:Ad}{w':Ag}{E:Aa->Ab->Prop}(l:Addr)(its:Array Aa)(n:Nat)(k:Int)(t:Tok)(w:Aa)(h1:¬(!Builtin.List.listFitsIndex k)=true)(h2:its.size<=sizeLine){Q:Aa->Ab->Prop}(e:s.heap.get? l=some { cls:=.type "list",data:=.seq its n })(f:Array Aa->Array Aa)(hf:f=λxs:Array Aa=>let k:=if k<0 then (k+((xs.size:Nat):Int)).toNat else min k.toNat xs.size;(xs.extract 0 k).push w++xs.extract k)(q:Q .none { s with heap:=s.heap.update l (Obj.mapSeq f) }):wpAny (model prog w') A (call (.builtin "list.insert") [.ref l,.int k t,w]) Q E s:=by
 subst hf;let hm:=@PySem.AutoListH.list_insert_list_int_val_1 l its n k t w h1 h2;have ty:s.TypeIs (.ref l) "list":=⟨_,e,rfl⟩;exact wpAny_call (codeAny_call_builtin F.slot_list_insert.plain F.entry_list_insert (F.slot_list_insert.check _ _ _ _ _ _ _ _ ty (F.args_list_insert_3 _ _ _) (hm prog w' A (wants Q E) s ⟨e,q⟩)))
inductive nz (x:V) (vs:ag) (H:Hp) (Q:VK):Prop
 |mk:∀(l:Addr) (k:Nat) (xs:ag) (y:V),x=.ref l->vs=[.int k,y]->H l\.lst xs->k<=xs.length->xs.length<100000->Q .non (upd H l (.lst (xs.take k++y::xs.drop k)))->nz x vs H Q
theorem T4:Je X "list.insert" nz:=by
 intro pins s σ H x vs v us Q I rx rv h;let#[l,k,xs,y,rfl,rfl,hH,hk,hz,q]:=h;cases rx;let#[u,w,rfl,#[t,rfl],i_]:=rv.two;let#[z,its,n,r,hl,e]:=I.jw hH;let sz:=cU
 have fit:Builtin.List.listFitsIndex (k:Int)=true:=by
  unfold Builtin.List.listFitsIndex;rw[cz Z1,cz Z1];rfl
 apply YQ l its.toArray n (k:Int) t w (by rw[fit];exact f_) (by rw[cQ];omega) e _ rfl ?_;apply⟨.non,_,I.vw (its':=its.take k++w::its.drop k) (f:=λxs=>let k':=if (k:Int)<0 then ((k:Int)+((xs.size:Nat):Int)).toNat else min (k:Int).toNat xs.size;(xs.extract 0 k').push w++xs.extract k') hH e ?_ (Vals.append (r.take k) (.cons i_ (r.drop k))) ?_,rfl,q⟩
 ·have e1:(if (k:Int)<0 then ((k:Int)+((its.toArray.size:Nat):Int)).toNat else min (k:Int).toNat its.toArray.size)=k:=by
   rw[aA Z1];simp;omega
  dsimp only;rw[e1];apply Array.ext' ?_;simp[uJ]
 rw[eI,jm,dR,List.length_drop];omega
inductive qi (mk:Addr->Addr->HO) (Q:VK) (x:V) (H1:Hp):Prop
 |mk:∀d kvs,x=.ref d->H1 d\.dK kvs->(∀v,H1 v=none->Q (.ref v) (upd H1 v (mk v d)))->qi mk Q x H1
def wL(mk:Addr->Addr->HO)(td:TE):TE:=λσ H Q=>td σ H λx H1=>qi mk Q x H1
variable{H:Hp}{d:Addr}
theorem Sn{cls:String}(I:Inv X pins σ H s)(φ:Heap->Prop)(_B:φ (s.heap.push { cls:=.type cls,data:=.fields (List.toArray [.ref d]) }))(hs:∀h1 h2:Heap,φ h1->(∀o,h1.get? s.heap.objs.size\o->h2.get? s.heap.objs.size\o)->φ h2) :
  Inv X pins σ (upd H s.heap.objs.size (.ext φ)) { s with heap:=s.heap.push { cls:=.type cls,data:=.fields (List.toArray [.ref d]) } }:=
 I.laid (t':=s.toks) (λ_ _ q=>aS _ q) (a_ _) #[_B,#[_,cw _ U],hs]
variable{o:Expr}{td:TE}{apos cO:Pos}
theorem Iz(ho:PE X o td)(g7:attributeBase o "items" X.env (eval o X.env)=eval o X.env:=by rfl)(gY:(apos.endLine == cO.line)=true:=by rfl):PE X (.Call (.Attribute o "items" apos) [] [] cO) (wL tx td):=by
 intro pins s σ H Q I h;apply wpAny_Call_method0_late g7 gY (aP (ho pins s σ H _ I h) λv s1 ⟨x,H1,I1,r1,d,kvs,e,hd,q⟩=>?_);subst e;cases r1;let#[t1,t2,t3]:=QT I1 (.inl #[kvs,.inl hd]);let#[_,_,vs,rel,dd]:=ER I1.ax hd;apply#["dict","dict.items",PySem.F.plainAttrs_dict,PySem.F.slot_dict_items,PySem.F.type_dict_items,t1,t2,Calls.callWith_builtin U (PySem.evalArgs_none ?_)];apply call_meetsIn PySem.F.slot_dict_items t1 PySem.F.entry_dict_items (PySem.F.args_dict_items_1 _) (meets_dict_items (fq X.prog X.w) d t3) #[#[vs,dd],?_];exact#[.ref _,_,Sn I1 _ #[_,cw _ U,U,U] λh1 h2 ⟨o,e,r⟩ k=>#[o,k o e,r],U,q _ I1.fresh]
theorem NW(ho:PE X o td)(g7:attributeBase o "values" X.env (eval o X.env)=eval o X.env:=by rfl)(gY:(apos.endLine == cO.line)=true:=by rfl):PE X (.Call (.Attribute o "values" apos) [] [] cO) (wL uz td):=by
 intro pins s σ H Q I h;apply wpAny_Call_method0_late g7 gY (aP (ho pins s σ H _ I h) λv s1 ⟨x,H1,I1,r1,d,kvs,e,hd,q⟩=>?_);subst e;cases r1;let#[t1,t2,t3]:=QT I1 (.inl #[kvs,.inl hd]);let#[_,_,vs,rel,dd]:=ER I1.ax hd;apply#["dict","dict.values",PySem.F.plainAttrs_dict,PySem.F.slot_dict_values,PySem.F.type_dict_values,t1,t2,Calls.callWith_builtin U (PySem.evalArgs_none ?_)];apply call_meetsIn PySem.F.slot_dict_values t1 PySem.F.entry_dict_values (PySem.F.args_dict_values_1 _) (meets_dict_values (fq X.prog X.w) d t3) #[#[vs,dd],?_];exact#[.ref _,_,Sn I1 _ #[_,cw _ U,U,U] λh1 h2 ⟨o,e,r⟩ k=>#[o,k o e,r],U,q _ I1.fresh]
variable{kvs:List (Key × V)}
theorem Inv.freeze(I:Inv X pins σ H s)(h:H d\.dK kvs):∃o,s.heap.get? d\o/\Inv X pins σ (upd H d (.frz o (.dK kvs))) s:=by
 let#[z,hd,vs,rel,dd]:=ER I.ax h;let#[o,es,ep,ho,r]:=id dd;have other:∀{b u},H b\u->u≠.dK kvs->upd H d (.frz o (.dK kvs)) b\u:=λ{b u} e ne=>by rw[aw (bK e h ne)];exact e
 apply#[o,ho,I.un (h':=s.heap) (t':=s.toks) #[λb u q _ _ _=>q,λb u q _ _ _=>#[u.slots,q],λb u q n _=>?_,λb u q _=>#[u,q],λb xs q=>other q Z2,λb u v q=>other q Z2,λb ps q=>#[#[],by rw[Array.append_empty];exact other q Z2]] λb u q=>?_]
 ·by_cases e:b=d
  ·subst e;rw[h] at n;cases n
  rw[aw e];exact n
 by_cases e:b=d
 ·subst e;rw[ay] at q;cases q;exact#[ho,z,hd,vs,rel,dd]
 rw[aw e] at q;exact (I.ax b u q).eR (λc v _ z=>z) (λc z=>other z Z2) λc xs z=>other z Z2
variable{o:Obj}
theorem Inv.qf(I:Inv X pins σ H s)(h:H d\.frz o (.dK kvs))(h0:∀o u,X.jV d≠some (.frz o u)):Inv X pins σ (upd H d (.dK kvs)) s:=by
 have other:∀{b u},H b\u->(∀o v,u≠.frz o v)->upd H d (.dK kvs) b\u:=λ{b u} e ne=>by rw[aw (bK e h (ne _ _))];exact e
 have nI:∀{b},H b=none->upd H d (.dK kvs) b=none:=λ{b} e=>by
  rw[aw (λz=>by subst z;rw[h] at e;cases e)];exact e
 apply#[I.ok,I.os,I.bare,#[I.base.keep,I.base.slot,λb u q n hx=>nI (I.base.free b u q n hx),I.base.there,λb xs q=>other (I.base.gS b xs q) Z2,λb u v q=>?_,λb ps q=>?_],I.loc,I.cell,nI I.free,λx c e=>nI (I.ee x c e),λp hp=>?_,λb u q=>?_,I.len]
 ·have:=I.base.g9 b u v q;rw[aw (λz=>by subst z;exact h0 _ _ q)];exact this
 ·let#[more,e]:=I.base.ie b ps q;exact#[more,other e Z2]
 ·let#[a1,a2,a3]:=I.pin p hp;exact#[a1,nI a2,a3]
 by_cases e:b=d
 ·subst e;rw[ay] at q;cases q;let#[ho,z,hd,vs,rel,dd]:=I.ax b _ h;exact#[z,hd,vs,rel,dd]
 rw[aw e] at q;exact (I.ax b u q).eR (λc v _ z=>z) (λc z=>other z Z2) λc xs z=>other z Z2
theorem TF{es:Array DictEntry}{ep:Nat}(I:Inv X pins σ H s)(h:H d\.frz o (.dK kvs))(ho:o.data=.dict es ep):∃vs,KV kvs vs/\s.heap.DictAt (fq X.prog X.w) d vs ep:=by
 let#[e,z,hd,vs,rel,o',Hc,Hd,e',c',d',r]:=I.ax d _ h;rw[e] at e';cases e';rw[ho] at d';cases d';exact#[vs,rel,o,es,e,c',ho,r]
theorem LB{κ:Type}{kvs:List (κ × V)}{vs:List (κ × Aa)}(r:KV kvs vs):∀(i:Nat) {k:κ} {x:V},kvs[i]? = some (k,x)->∃u,vs[i]? = some (k,u)/\RelV x u:=by
 induction r with
 |nil=>intro i k x e;simp at e
 |@cons p q _ _ h _ ih=>
  intro i k x e;cases i with
  |zero=>
   have e:p=(k,x):=⇑e
   subst e;apply#[q.2,?_,h.2];rw[List.getElem?_cons_zero];have h1:k=q.1:=h.1;rw[h1]
  |succ i=>exact ih i ⇑e
def O5(x:Str):It:=#[λi _=>i<x.cps.size,λi H v H'=>H'=H/\∃c,x.cps[i]? = some c/\v=.str ⟨(List.toArray [c])⟩,λi _=>x.cps.size<=i]
variable{P:Ad}{w:Ag}{K:ai}{tg:Expr}
theorem fO_(it:Addr)(x:Str)(t:Tok):Turn P w K tg (O5 x) [it] it (λi h=>i<=x.cps.size/\h.IsStrIter it "str_ascii_iterator" x t i) where
 mem:=by simp
 obj:=λi h st b hb=>by
  obtain rfl:b=it:=⇑hb
  let#[o,e,c,d]:=st.2;exact#[o,e,λv z=>by rw[d] at z;cases z]
 keep:=λi h h' st k=>#[st.1,let #[o,ho,r]:=st.2;#[o,k it Z2 o ho,r]]
 item:=by
  intro X hP hw hK hc i pins s σ H E I hf st hg;subst hP hw hK;have hg:i<x.cps.size:=hg;let#[f0,f1,f2,f3,f4,f5]:=hf it Z2;apply wpAny_pyNext_ascii_item st.2 (c:=x.cps[i]) (by simp[hg]) λh' fH sb=>?_;have I1:Inv X pins σ H { s with heap:=h',toks:=s.toks+1 }:=I.turned (t':=s.toks+1) (λb o hb e=>(sb.2 b hb).trans e) f0 f1 f3 f4 f5;let#[o',e,c,dd]:=id fH;exact#[_,U,GH (s:={ s with heap:=h',toks:=s.toks+1 }) e c dd (by decide) #[.str ⟨#[x.cps[i]]⟩,H,I1,#[_,U],#[U,_,by simp[hg],U],#[hg,fH],λb hb=>(hf b hb).1]]
 done:=by
  intro X hP hw hK hc i pins s σ H E I hf st hg;subst hP hw hK;have hg:x.cps.size<=i:=hg;let#[f0,f1,f2,f3,f4,f5]:=hf it Z2;exact wpAny_pyNext_ascii_end (I.ok.hd hc) st.2 (by simp[hg]) λh' eb=>#[U,I.turned (t':=s.toks) (λb o hb e=>eb b o hb e) f0 f1 f3 f4 f5]
 self:=λ_ _ _ _ _ st h=>wpAny_pyIter_striter_ascii st.2 h
theorem hg_(it:Addr)(x:Str)(t:Tok):Turn P w K tg (O5 x) [it] it (λi h=>i<=x.cps.size/\h.IsStrIter it "str_iterator" x t i) where
 mem:=by simp
 obj:=λi h st b hb=>by
  obtain rfl:b=it:=⇑hb
  let#[o,e,c,d]:=st.2;exact#[o,e,λv z=>by rw[d] at z;cases z]
 keep:=λi h h' st k=>#[st.1,let #[o,ho,r]:=st.2;#[o,k it Z2 o ho,r]]
 item:=by
  intro X hP hw hK hc i pins s σ H E I hf st hg;subst hP hw hK;have hg:i<x.cps.size:=hg;let#[f0,f1,f2,f3,f4,f5]:=hf it Z2;apply wpAny_pyNext_wide_item st.2 (c:=x.cps[i]) (by simp[hg]) λh' fH sb=>?_;have I1:Inv X pins σ H { s with heap:=h',toks:=s.toks+1 }:=I.turned (t':=s.toks+1) (λb o hb e=>(sb.2 b hb).trans e) f0 f1 f3 f4 f5;let#[o',e,c,dd]:=id fH;exact#[_,U,GH (s:={ s with heap:=h',toks:=s.toks+1 }) e c dd (by decide) #[.str ⟨#[x.cps[i]]⟩,H,I1,#[_,U],#[U,_,by simp[hg],U],#[hg,fH],λb hb=>(hf b hb).1]]
 done:=by
  intro X hP hw hK hc i pins s σ H E I hf st hg;subst hP hw hK;have hg:x.cps.size<=i:=hg;let#[f0,f1,f2,f3,f4,f5]:=hf it Z2;exact wpAny_pyNext_wide_end (I.ok.hd hc) st.2 (by simp[hg]) λh' eb=>#[U,I.turned (t':=s.toks) (λb o hb e=>eb b o hb e) f0 f1 f3 f4 f5]
 self:=λ_ _ _ _ _ st h=>wpAny_pyIter_striter_wide st.2 h
inductive xu (R:It->Hp->Prop) (v:V) (H1:Hp):Prop
 |mk:∀x,v=.str x->R (O5 x) H1->xu R v H1
def KO(tl:TE):TI:=λσ H R=>tl σ H λv H1=>xu R v H1
theorem Yi{l:Expr}{tl:TE}(hl:PE X l tl):PI X tg l (KO tl):=by
 intro pins s σ H R I h;apply aP (hl pins s σ H _ I h) λv s1 ⟨y,H1,I1,r1,x,e,q⟩=>?_;subst e;let#[t,rfl]:=r1
 have fp:∀b∈[s1.heap.objs.size],df X pins H1 b:=λb hb=>by
  obtain rfl:b=s1.heap.objs.size:=⇑hb
  exact I1.jD (a_ _) (I1.ax.fresh (a_ _))
 cases ha:x.cps.all (· < 128)
 ·apply wpAny_pyIter_wide ha ?_;exact#[s1.heap.objs.size,[s1.heap.objs.size],_,_,H1,U,I1.kept (t':=s1.toks) λb o e=>aS _ e,hg_ _ x t,#[gB _,_,cw _ U,U,U],fp,q]
 apply wpAny_pyIter_ascii ha ?_;exact#[s1.heap.objs.size,[s1.heap.objs.size],_,_,H1,U,I1.kept (t':=s1.toks) λb o e=>aS _ e,fO_ _ x t,#[gB _,_,cw _ U,U,U],fp,q]
theorem WY{f:Aa->Aa->Sem Aa}(r:ai->R2)(h:dO X f (r X.K))(hK:X.K=K:=by rfl):dO X f (r K):=by
 subst hK;exact h
theorem Fi{f:Aa}(r:ai->ag->Hp->VK->Prop)(h:gE X f (r X.K))(hK:X.K=K:=by rfl):gE X f (r K):=by
 subst hK;exact h
theorem zg(r:ai->R2)(h:BU X (r X.K))(hK:X.K=K:=by rfl):BU X (r K):=by
 subst hK;exact h
theorem Fv{N:af}{scope:Scope}{fp:aq}{es:List Expr}{k:Nat}{pos:Pos}{t:AS}(h:FQ (hZ X N scope fp s H) es t)(hc:X.calm=true:=by rfl)(hn:(assignEach es (hZ X N scope fp s H).env).length=n:=by rfl)(lU:(assignEach es (hZ X N scope fp s H).env).findIdx? (·.1)=none:=by rfl):PG (hZ X N scope fp s H) (.Tuple es k pos) (gM X.K n t):=kq (X:=hZ X N scope fp s H) hc h hn lU
end L2
abbrev Am:PySem.Str:="ways_by_name"
abbrev xO:PySem.Str:="_law_script"
abbrev wb:PySem.Str:="_law_digit"
abbrev vT:PySem.Str:="_law_piece"
abbrev xP:PySem.Str:="_law_strength"
abbrev Bm:PySem.Str:="greatest_divisor"
abbrev ur:PySem.Str:="_law_found"
abbrev Bq:PySem.Str:="neighbours_by_hand"
abbrev Bt:PySem.Str:="multiple_of_strengths"
abbrev mq:PySem.Str:="_law_pieces_here"
abbrev uv:PySem.Str:="strength_by_hand"
abbrev pR:PySem.Str:="weight_by_name"
abbrev pT:PySem.Str:="ahead_by_hands"
abbrev jL:PySem.Str:="_law_hands_here"
abbrev hG:PySem.Str:="_law_state"
abbrev jK:PySem.Str:="exits_by_place"
abbrev Bp:List PySem.Str:=[jL,mq,"_law_keys","_law_limit"]
abbrev oo:List PySem.Str:=["goods","placed"]
abbrev jR:List PySem.Str:=[jL,mq,"_law_spot"]
abbrev gf:List PySem.Str:=["thing"]
abbrev mw:List PySem.Str:=["one","other"]
abbrev oj:List PySem.Str:=["self","thing"]
abbrev xN:List PySem.Str:=[hG,"_law_base"]
abbrev oB:List PySem.Str:=[hG,jL,mq]
abbrev Br:List PySem.Str:=["_law_name_here",xP]
abbrev xQ:List PySem.Str:=["name","weight","ways"]
abbrev tQ:List PySem.Str:=[jL,mq,"_law_spot","_law_limit"]
abbrev tP:List PySem.Str:=[mq,"_law_ties_here","_law_spot","_law_most"]
abbrev tO:List PySem.Str:=[mq,"_law_ties_here","_law_spot"]
abbrev vW:List PySem.Str:=["self","hand"]
abbrev oA:List PySem.Str:=["goods","stand","limit","most"]
abbrev tN:List PySem.Str:=[hG,"_law_ties_here","_law_most"]
abbrev jQ:List PySem.Str:=["thing","least","most"]
abbrev jP:List PySem.Str:=["self","one","other"]
abbrev Bl:List PySem.Str:=["thing","least"]
abbrev oz:List PySem.Str:=["goods","hands","limit"]
abbrev oy:List PySem.Str:=["self","goods","placed"]
abbrev o7:List PySem.Str:=["self"]
abbrev Bn:List PySem.Str:=["self","hands"]
namespace Ev
open PySem L2
def top(i:Nat):Stmt:=PySem.Challenge.pw_evenpieces_k69_stands_reached.main.body.getD i (.Pass #[0,0,0,0])
abbrev yP:Stmt:=top 12
abbrev lg:Stmt:=top 14
abbrev qT:Stmt:=top 15
abbrev Np:Stmt:=top 16
abbrev qR:Stmt:=top 17
abbrev Ng:Stmt:=top 18
abbrev rh:Stmt:=top 47
abbrev yO:Stmt:=top 48
abbrev qM:Stmt:=top 49
abbrev qS:Stmt:=top 50
abbrev oM:Stmt:=top 51
def y9(a b:Str):Bool:=decide (a.cps.toList<b.cps.toList)
def aF(a b:Str):Str × Str:=if y9 a b=true then (a,b) else (b,a)
variable{f:Addr}{fd:Ae}
variable{X:Cx}{k:Nat}{ps:af}{sp:Sp}{pos:Pos}{e:Expr}{es:List Expr}{t:TA}
section v
theorem bT{N p:List Str}{c:Scope}(h:bN N p c:=by exact#[U,U,U,by decide +kernel,U,by decide +kernel,by decide +kernel]):bN N p c:=h
theorem qE:bN mw mw (a9 Np):=bT
def Iy:Sp:=λvs H Q _=>∃a b,vs=[.str a,.str b]/\∀t,H t=none->Q (.ref t) (upd H t (.tup [.str (aF a b).1,.str (aF a b).2]))
theorem h5_(F:bC K "lesser_first" "lesser_first" Np f fd):!au bh 1 f fd mw Iy:=by
 exists F.bS qE;let#[a,b,rfl,k]:=h;apply#[_,aE (bu (ZM (fg gQ_ (pv 0) (pv 1)) (iA %[0,1|0]) (iA %[1,0|0]))),?_];apply#[_,U,_,U,a,b,U,U,_,U,?_];apply bY (λc=>?_) (λc=>?_)
 ·apply#[_,U,_,U,zl,λt ht=>?_];have:=k t ht;rwa [show aF a b=(a,b) from aI c] at this
 apply#[_,U,_,U,zl,λt ht=>?_];have:=k t ht;rwa [show aF a b=(b,a) from aA c] at this
theorem uY:bN jQ jQ (a9 lg):=bT
def MJ:Sp:=λvs H Q _=>∃i a b:Int,vs=[.int i,.int a,.int b]/\Q (.bl (decide (a<=i)&&decide (i<=b))) H
structure Bi (mg:Str->Option Aa):Prop where
 ka:mg "isinstance"=none
 int:mg "int"=none
 bool:mg "bool"=none
 str:mg "str"=none
 tuple:mg "tuple"=none
 list:mg "list"=none
 dict:mg "dict"=none
 len:mg "len"=none
 all:mg "all"=none
 sorted:mg "sorted"=none
 max:mg "max"=none
 range:mg "range"=none
 any:mg "any"=none
 enum:mg "enumerate"=none
structure bx (P:Ad) (w:Ag) (K:ai) (mg:Str->Option Aa) (base:Heap) (k:Nat) (x:Str) (ps:af) (sp:Sp):Prop where
 ex:∃f fd,au P w K mg base bh k f fd ps sp/\mg x\.ref f/\PySem.W.keepIn K (.ref f)=true/\pQ K fd ps []
theorem bc{n_:Nat}{x:Str}{p:Pos}(c:bx X.prog X.w X.K X.mg X.base k x ps sp)(hr:aO n_ X.A)(ha:PA X (e::es) t)(hg:Gl X x:=by rfl)(sG:(x == ("__debug__":Str))=false:=by decide)(he:starEach (e::es) X.env=(false,eval e X.env)::starEach es X.env:=by rfl)(ij:(backTo pos (starEach es X.env)).any (·.1)=false:=by rfl)(hk:k<=n_:=by decide):PE X (.Call (.Name x p) (e::es) [] pos) (wW sp [] E0 t):=by
 let#[f,fd,F,m,kp,b]:=c.ex;exact Y4 F (hr.mono hk) hg m kp b .nil nF ha sG he ij
theorem CO:bN gf gf (a9 yP):=bT
def nh:Sp:=λvs H Q _=>∃i:Int,vs=[.int i]/\Q (.bl true) H
theorem X5(F:bC K "is_whole" "is_whole" yP f fd)(B:Bi mg):!au bh 1 f fd gf nh:=by
 exists F.bS CO;let#[i,rfl,k]:=h;apply#[_,aE (bu (tq (cZ mG (by rfl) B.ka kr %[0,mC (v:=.ty "int") (by rfl) B.int LZ U|0]) (uF (QZ (cZ mG (by rfl) B.ka kr %[0,mC (v:=.ty "bool") (by rfl) B.bool PyProof.Rows.Boot.«bool» rfl|0]))))),?_];exact#[_,U,_,_,_,_,U,.int i,U,_,U,dD #[_,U,_,_,_,_,U,.int i,U,_,U,k]]
theorem hI_(F:bC K "is_whole_within" "is_whole_within" lg f fd)(cI:!bx 1 "is_whole" gf nh):!au bh 2 f fd jQ MJ:=by
 exists F.bS uY;let#[i,a,b,rfl,k]:=h;apply#[_,aE (bu (tq (bc cI hr %[0|0]) (uF (SK vR vR (pv 1) (pv 0) (pv 2))))),?_];apply#[_,U,i,U,_,U,dD ?_];apply#[_,U,_,U,_,_,U,U,_,U,?_];apply bY (λc=>?_) (λc=>?_)
 ·apply#[_,U,_,_,U,U,?_];rw[c] at k;exact k
 rw[show decide (a<=i)=false by simpa using c] at k;exact k
def oR(c:Nat):Bool:=decide (97<=c)&&decide (c<=122)
def ix(x:Str):Bool:=decide (1<=x.length)&&decide (x.length<=8)&&x.cps.toList.all oR
theorem yE:bN gf gf (a9 qT):=bT
def Hh:Sp:=λvs H Q _=>∃x:Str,vs=[.str x]/\x.length<=100000/\∀H',aa H H'->Q (.bl (ix x)) H'
theorem YI{c:Nat}:(!decide ((⟨(List.toArray [c])⟩:Str).cps.toList<("a":Str).cps.toList))=decide (97<=c):=by
 have e:("a":Str).cps.toList=[97]:=by decide +kernel
 rw[e];show (!decide ([c] < [97]))=decide (97<=c);by_cases h:97<=c
 ·have:¬[c] < [97]:=by simp[List.cons_lt_cons_iff];omega
  simp[this,h]
 have:[c] < [97]:=by simp[List.cons_lt_cons_iff];omega
 simp[this,h]
theorem Zz{c:Nat}:(!decide (("z":Str).cps.toList<(⟨(List.toArray [c])⟩:Str).cps.toList))=decide (c<=122):=by
 have e:("z":Str).cps.toList=[122]:=by decide +kernel
 rw[e];show (!decide ([122] < [c]))=decide (c<=122);by_cases h:c<=122
 ·have:¬[122] < [c]:=by simp[List.cons_lt_cons_iff];omega
  simp[this,h]
 have:[122] < [c]:=by simp[List.cons_lt_cons_iff];omega
 simp[this,h]
theorem Y0(F:bC K "is_name" "is_name" qT f fd)(B:Bi mg){t8:Tok}(m8:mg "MOST_LETTERS"\.int 8 t8):!au bh 1 f fd gf Hh:=by
 exists F.bS yE;let#[x,rfl,hz,k]:=h;let sz:=cU
 apply#[_,av (b_ (sX (fh (eZ (cZ mG (by rfl) B.ka kr %[0,mC (v:=.ty "str") (by rfl) B.str Hy U|0])))
   (uH (fh (SN vR vR aD (cZ dZ_ (by rfl) B.len gF %[0|0]) (BA (v:=.int 8) (by rfl) m8 #[t8,U]))))).pt (aE (bu gG)) cg)
  (aE (bu (cZ (ZW U) (by rfl) B.all PyProof.Rows.Boot.«all» (iO
   (ku ["letter"] 1 [] (Yi (pv 0)) (λfp s H=>gg (i:=0) (show (["letter"]:af).Nodup by decide +kernel) U (Or.inl U)) (λfp s H=>mE) (λfp s H=>SK S2 S2 xU (pv 0) xU)) bF)))),?_]
 apply#[_,U,_,_,_,_,U,.str x,U,_,U,?_];apply aL ?_;apply#[_,U,x,U,by omega,_,_,U,U,_,U,?_]
 have fin:(decide (1<=x.length)&&decide (x.length<=8))=false->∀H',aa H H'->Q (.bl false) H':=λe H' sm=>by
  have:=k H' sm;rwa [show ix x=false by unfold ix;rw[e];rfl] at this
 apply bY (λc=>?_) (λc=>?_)
 ·have c1:1<=x.length:=by
   have:(1:Int)<=(x.length:Int):=⇑c
   omega
  apply#[_,_,U,U,_,U,?_];apply bY (λc2=>?_) (λc2=>?_)
  ·-- too long
   have c3:¬x.length<=8:=by
    have:¬((x.length:Int)<=8):=⇑c2
    omega
   exact fin (by rw[fC c3,Bool.and_false]) H (aa.refl H)
  have c3:x.length<=8:=by
   have:(x.length:Int)<=8:=⇑c2
   omega
  apply#[_,U,x,U,λD hD=>?_];apply Mx (own:=1) (fv:=[]) U fX x.cps.size (λi out H'=>H'=upd H D (.lst out)/\out=((x.cps.toList.take i).map oR).map V.bl) #[U,by simp] (λout H' ⟨e1,e2⟩=>?_) (λi out H' hi ⟨e1,e2⟩=>?_)
  ·apply#[a_ _,D,x.cps.toList.map oR,U,.of ?_,?_]
   ·rw[e1,ay,e2,uJ Z2]
   have:=k H' (by rw[e1];exact aa.new hD);rwa [show ix x=(x.cps.toList.map oR).all id by unfold ix;rw[cz c1,cz c3,List.all_map];rfl] at this
  apply#[hi,λv H2 y=>?_];let#[eH,c,hc,rfl]:=y;subst eH;apply#[_,U,U,λNx hN=>fU ?_]
  have lo:out.length<sizeLine:=by
   rw[e2];have hs:x.length=x.cps.size:=rfl;simp only[ao,dR,pf];omega
  have nx:Nx (upd H2 D (.lst (out++[V.bl (oR c)]))):=hN (out++[V.bl (oR c)]) _ #[by rw[e1,_j],by
   rw[e2,tJ];simp[hc]]
  have UU:H2 D\.lst out:=by rw[e1,ay]
  apply#[_,U,_,_,U,U,_,U,?_];rw[YI];apply bY (λc2=>?_) (λc2=>?_)
  ·apply#[_,_,U,U,out,UU,lo,?_];rw[Zz];rwa [show oR c=decide (c<=122) by unfold oR;rw[c2];rfl] at nx
  apply#[out,UU,lo,?_];rwa [show oR c=false by unfold oR;rw[show decide (97<=c)=false by simpa using c2];rfl] at nx
 have c1:¬1<=x.length:=by
  have:¬((1:Int)<=(x.length:Int)):=⇑c
  omega
 exact#[_,U,dD (fin (by rw[fC c1];rfl) H (aa.refl H))]
end
def kT(t:Str × Str):aC:=[.inr t.1,.inr t.2]
def v_(t:Str × Str):Prop:=ix t.1=true/\ix t.2=true/\t.1≠t.2
theorem IR{x:Str}(h:ix x=true):x.length<=8:=by
 unfold ix at h;simp only[Bool.and_eq_true,decide_eq_true_eq] at h;exact h.1.2
theorem GN{H:Hp}{p:Addr}{t:Str × Str}(h:H p\.tup ((kT t).map kV)):H p\.tup [.str t.1,.str t.2]:=h
variable{ks:List aC}
variable{D:Addr}{o:HO}
section v
theorem yD:bN gf gf (a9 qR):=bT
def qv:Sp:=λvs H Q _=>∃(p:Addr) (a b:Str),vs=[.ref p]/\H p\.tup [.str a,.str b]/\a.length<=100000/\b.length<=100000/\∀H',aa H H'->Q (.bl (ix a&&ix b&&!decide (a=b))) H'
theorem Zo(F:bC K "is_pair_of_names" "is_pair_of_names" qR f fd)(B:Bi mg)(cN:!bx 1 "is_name" gf Hh):!au bh 2 f fd gf qv:=by
 exists F.bS yD;let#[p,a,b,rfl,hp,la,lb,k]:=h
 apply#[_,av (b_ (sX (fh (eZ (cZ mG (by rfl) B.ka kr %[0,mC (v:=.ty "tuple") (by rfl) B.tuple wx U|0])))
   (uH (fg s_ (cZ h_ (by rfl) B.len gF %[0|0]) aD))).pt (aE (bu gG)) cg)
  (aE (bu (tq (bc cN hr %[bw cu (pv 0) aD|0]) (tq (bc cN hr %[bw cu (pv 0) aD|0])
   (uF (wk s_ (bw cu (pv 0) aD) (bw cu (pv 0) aD))))))),?_]
 apply#[_,U,_,_,_,_,U,.tup hp,U,_,U,aL ?_];apply#[_,U,p,_,U,.inr (.of hp),U,_,U,?_];apply An (show V.int ((2:Nat):Int)=V.int 2 from U) ?_;apply#[_,U,p,_,_,_,U,U,.of hp,U,a,U,la,λH1 s1=>#[_,U,?_]];let xx:=s1 _ _ hp;apply bY (λc=>?_) (λc=>?_)
 ·apply#[_,U,p,_,_,_,U,U,.of xx,U,b,U,lb,λH2 s2=>#[_,U,?_]];let kg:=s2 _ _ xx;let kk:=k H2 (s1.trans s2);apply bY (λc2=>?_) (λc2=>?_)
  ·apply#[_,U,p,_,_,_,U,U,.of kg,U,_,U,p,_,_,_,U,U,.of kg,U,U,?_];rw[c,c2] at kk
   have e:decide (V.str a=V.str b)=decide (a=b):=by
    by_cases z:a=b
    ·simp[z]
    simp[z]
   show Q (.bl (!decide (V.str a=V.str b))) H2;rw[e];exact kk
  rw[c,show ix b=false by simpa using c2] at kk;exact kk
 let kk:=k H1 s1;rw[show ix a=false by simpa using c] at kk;exact kk
theorem Il:bN ["ties","found","pair","tie"] ["ties"] (a9 Ng):=bT
def MW(K:ai):Sp:=λvs H Q _=>∃(l:Addr) (ys:ag) (ts:Xb),vs=[.ref l]/\H l\.lst ys/\bR K H ys (ts.map kT)/\(∀t∈ts,v_ t)/\(ts.map λt=>kT (aF t.1 t.2)).Nodup/\ts.length<64 /\
 ∀l' zs H',aa H H'->H l'=none->H' l'\.lst zs->bR K H' zs (aZ (ts.map λt=>kT (aF t.1 t.2)))->Q (.ref l') H'
theorem ou{α β γ:Type}{F:α->γ->Prop}{g:β->γ}{ys:List α}{ts:List β}(t:Paired F ys (ts.map g)){i:Nat}{y:α}(h:ys[i]? = some y):∃x,ts[i]? = some x/\F y (g x):=by
 have hi:i<ys.length:=(bZ.mp h).1;let hl:=bj t;rw[ao] at hl;have:=eO t i hi (by rw[ao];omega);rw[List.getElem_map] at this;apply#[ts[i],aX Z1,?_];rw[(bZ.mp h).2] at this;exact this
theorem uK{κ:Type}[DecidableEq κ]{kvs:List (κ × V)}{k:κ}(h:k∉kvs.map (·.1)):aY kvs k=none:=by
 cases e:aY kvs k with
 |none=>rfl
 |some v=>exact absurd (YU e) h
theorem x6{α β:Type}(g:α->β){ts:List α}{i:Nat}{x:α}(h:ts[i]? = some x):(ts.take (i+1)).map g=(ts.take i).map g++[g x]:=by
 rw[tJ,h,fe];rfl
theorem FE{α β:Type}{g:α->β}{ts:List α}{i:Nat}{x:α}(h:(ts.map g).Nodup)(hx:ts[i]? = some x):g x∉(ts.take i).map g:=by
 intro m;have hi:i<ts.length:=(bZ.mp hx).1;let#[y,hy,e]:=br.mp m;let#[j,hj,e2]:=gH hy;rw[dR] at hj;rw[List.getElem_take] at e2;rw[qa,wD,List.pairwise_iff_getElem] at h;apply h j i Z1 hi Z1 ?_;rw[e2,e,(bZ.mp hx).2]
theorem gH_(F:bC K "sorted_ties" "sorted_ties" Ng f fd)(B:Bi mg)(cP:!bx 2 "is_pair_of_names" gf qv)(cL:!bx 1 "lesser_first" mw Iy):!au bh 3 f fd ["ties"] (MW K):=by
 exists F.bS Il;let#[l,ys,ts,rfl,hl,tu,good,nd,cX,k]:=h;let hu:=fN hr;let sz:=cU
 apply#[_,av (b_ (fh (eZ (cZ mG (by rfl) B.ka kr %[0,mC (v:=.ty "list") (by rfl) B.list AG U|0]))) gi cg)
  (av (bo 1 Il.nd _b)
  (av (d_ dI U (dF (pv 0)) (cm 2 Il.nd)
   (av (b_ (fh (eZ (bc cP hr %[2|0]))) gi cg)
   (av (bo 3 Il.nd (bc cL hr %[bw cu (pv 2) aD,bw cu (pv 2) aD|0]))
   (av (b_ (tG (Bw hu (pv 3) (pv 1))) gi cg)
   (aE (uC hu (pv 1) (pv 3) gG U))))))
  (aE (bu (cZ (en_ U) (by rfl) B.sorted IT %[1|0]))))),?_]
 apply#[_,U,_,_,_,_,U,.lst hl,U,_,U,aL ?_];intro d hd;have s0:aa H (upd H d (.dT [])):=aa.new hd;apply#[_,U,l,U,#[_,.of (s0 _ _ hl)],gh (K:=K) (a:=l) (xs:=ys) (λi σ H2=>∃(v3 v4:aJ),σ=[some (.ref l),some (.ref d),v3,v4]/\aa H H2/\H2 d\.dT ((ts.take i).map λt=>(kT (aF t.1 t.2),V.bl true))) #[none,none,U,s0,ay] (λi σ H2 _ ⟨_,_,_,s2,_⟩=>.of (s2 _ _ hl)) ?_ ?_]
 ·rintro i y σ H2 hy ⟨v3,v4,rfl,s2,hd2⟩;let#[t,ht,a,rfl,ha]:=ou tu hy;let#[g1,g2,g3]:=good t (cy ht);let n5:=s2 _ _ (GN ha);apply#[_,U,a,t.1,t.2,U,n5,by have:=IR g1;omega,by have:=IR g2;omega,λH3 s3=>#[_,U,?_]];let jC:=s3 _ _ n5;let lY:=s3 _ _ hd2;rw[g1,g2,fC g3];apply aL ?_;apply#[_,U,a,_,_,_,U,U,.of jC,U,_,U,a,_,_,_,U,U,.of jC,U,t.1,t.2,U,λb hb=>?_];have s4:aa H3 (upd H3 b (.tup [.str (aF t.1 t.2).1,.str (aF t.1 t.2).2])):=aa.new hb;let RA:=s4 _ _ lY;have RF:upd H3 b (.tup [.str (aF t.1 t.2).1,.str (aF t.1 t.2).2]) b\.tup ((kT (aF t.1 t.2)).map kV):=ay
  have ua:aY ((ts.take i).map λt=>(kT (aF t.1 t.2),V.bl true)) (kT (aF t.1 t.2))=none:=uK (by
   rw[cY];exact FE (g:=λt=>kT (aF t.1 t.2)) nd ht)
  apply#[_,U,_,U,d,_,U,.t (k:=kT (aF t.1 t.2)) RA RF,_,U,?_];rw[ua];apply aL ?_;apply#[_,U,_,U,d,_,U,.t (k:=kT (aF t.1 t.2)) RA RF (by rw[ao,dR];omega),?_];apply#[_,_,U,λc o e=>?_,?_]
  ·rw[aw (bq e hd)];exact s4 _ _ (s3 _ _ (s2 _ _ e))
  rw[ay,wB _ ua,x6 _ ht]
 rintro σ H2 ⟨v3,v4,rfl,s2,hd2⟩;let le:=bj tu;rw[ao] at le;rw[le,eG] at hd2;apply#[_,U,d,_,[true,true],U,hd2,#[by decide,λk hk=>?_],by rw[ao];exact cX,λl' zs hn tz=>?_]
 ·rw[cY] at hk;let#[t,_,rfl]:=br.mp hk;rfl
 rw[cY] at tz;exact k l' zs _ (s2.trans (aa.new hn)) (s2.free hn) ay (tz.same (aa.new hn))
theorem gY_{K:ai}{H:Hp}{ys:ag}{a:Addr}{k:aC}(t:bR K H ys ks)(h:H a\.tup (k.map kV)):bR K H (ys++[.ref a]) (ks++[k]):=Paired.snoc t #[a,U,h]
theorem fQ{H H1:Hp}(h:aa H H1)(hD:H D=none):aa H (upd H1 D o):=λb u e=>by rw[aw (bq e hD)];exact h b u e
theorem IF{K:ai}{H:Hp}{ys:ag}{xs:ag}(t:bR K H ys ks)(hD:H D\.lst xs):bR K (upd H D o) ys ks:=Paired.aU t λy k ⟨a,z,q⟩=>#[a,z,by rw[aw (bK q hD nofun)];exact q]
end
def kH(h:Str × Int):aC:=[.inr h.1,.inl h.2]
def oi(h:Str × Int):Prop:=ix h.1=true/\1<=h.2/\h.2<=1000
def zf:aC->Key × V
 |[k,v]=>(k,kV v)
 |_=>(.inl 0,.non)
def di(hs:Xa):List (Key × V):=(aZ (hs.map kH)).map zf
theorem sj{H:Hp}{p:Addr}{t:Str × Int}(h:H p\.tup ((kH t).map kV)):H p\.tup [.str t.1,.int t.2]:=h
theorem Uj:∀(more kvs:List (Key × V)),(kvs.map (·.1)++more.map (·.1)).Nodup->vY kvs more=kvs++more
 |[],kvs,_=>by
  show kvs=kvs++[];rw[List.append_nil]
 |p::more,kvs,h=>by
  show vY (putK kvs p.1 p.2) more=kvs++p::more
  have hn:aY kvs p.1=none:=uK λm=>by
   rw[eY,List.nodup_append] at h;exact h.2.2 p.1 m p.1 gz U
  rw[wB _ hn,Uj more (kvs++[(p.1,p.2)])]
  ·simp
  simpa using h
theorem xZ{more:List (Key × V)}(h:(more.map (·.1)).Nodup):vY [] more=more:=by
 rw[Uj more [] ⇑h];rfl
theorem Uh(hs:Xa):((di hs).map (·.1)).Perm (hs.map λh=>Sum.inr h.1):=by
 unfold di;rw[cY];let p:=(tL (hs.map kH)).map λk=>(zf k).1;rw[cY] at p;exact p
theorem Ul{hs:Xa}(h:(hs.map (·.1)).Nodup):((di hs).map (·.1)).Nodup:=by
 apply (Uh hs).nodup_iff.mpr ?_;have:(hs.map λh=>(Sum.inr h.1:Key))=(hs.map (·.1)).map Sum.inr:=by rw[cY];rfl
 rw[this,qa,wD];exact h.imp λn e=>n (iu e)
theorem ml{A:Af}(hr:aO k A)(n:Nat)(h:n+1<=64:=by decide):A.units+n+1<cLine:=by
 have:=hr.units;omega
variable{tk:Tok}
variable{ns:af}
section v
theorem yK:bN gf gf (a9 rh):=bT
def qx:Sp:=λvs H Q _=>∃(p:Addr) (a:Str) (n:Int),vs=[.ref p]/\H p\.tup [.str a,.int n]/\a.length<=100000/\∀H',aa H H'->Q (.bl (ix a&&(decide (1<=n)&&decide (n<=1000)))) H'
theorem YV(F:bC K "is_hand_with_strength" "is_hand_with_strength" rh f fd)(B:Bi mg)(cN:!bx 1 "is_name" gf Hh)(cW:!bx 2 "is_whole_within" jQ MJ)(mS:mg "MOST_STRENGTH"\.int 1000 tk) :
  au P w K mg base bh 3 f fd gf qx:=by
 exists F.bS yK;let#[p,a,n,rfl,hp,la,k]:=h
 apply#[_,av (b_ (sX (fh (eZ (cZ mG (by rfl) B.ka kr %[0,mC (v:=.ty "tuple") (by rfl) B.tuple wx U|0])))
   (uH (fg s_ (cZ h_ (by rfl) B.len gF %[0|0]) aD))).pt (aE (bu gG)) cg)
  (aE (bu (tq (bc cN hr %[bw cu (pv 0) aD|0]) (uF (bc cW hr %[bw cu (pv 0) aD,aD,BA (v:=.int 1000) (by rfl) mS #[tk,U]|0]))))),?_]
 apply#[_,U,_,_,_,_,U,.tup hp,U,_,U,aL ?_];apply#[_,U,p,_,U,.inr (.of hp),U,_,U,?_];apply An (show V.int ((2:Nat):Int)=V.int 2 from U) ?_;apply#[_,U,p,_,_,_,U,U,.of hp,U,a,U,la,λH1 s1=>#[_,U,?_]];let xx:=s1 _ _ hp;let kk:=k H1 s1;apply bY (λc=>?_) (λc=>?_)
 ·apply#[_,U,p,_,_,_,U,U,.of xx,U,n,1,1000,U,?_];rw[c] at kk;exact kk
 rw[show ix a=false by simpa using c] at kk;exact kk
theorem qC:bN ["hands","found","hand"] ["hands"] (a9 yO):=bT
def wZ(K:ai):Sp:=λvs H Q _=>∃(l:Addr) (ys:ag) (hs:Xa),vs=[.ref l]/\H l\.lst ys/\bR K H ys (hs.map kH)/\(∀h∈hs,oi h)/\(hs.map (·.1)).Nodup/\1<=hs.length/\hs.length<=8 /\
 ∀d H',aa H H'->H d=none->H' d\.dK (di hs)->Q (.ref d) H'
theorem Yg(F:bC K "checked_strengths" "checked_strengths" yO f fd)(B:Bi mg)(cH:!bx 3 "is_hand_with_strength" gf qx)(mH:mg "MOST_HANDS"\.int 8 tk):!au bh 4 f fd ["hands"] (wZ K):=by
 exists F.bS qC;let#[l,ys,hs,rfl,hl,tu,good,nd,h1,h8,k]:=h;let hu:=fN hr;let sz:=cU;let le:=bj tu;rw[ao] at le
 apply#[_,av (b_ (sX (fh (eZ (cZ mG (by rfl) B.ka kr %[0,mC (v:=.ty "list") (by rfl) B.list AG U|0])))
   (uH (fh (SN vR vR aD (cZ h_ (by rfl) B.len gF %[0|0]) (BA (v:=.int 8) (by rfl) mH #[tk,U]))))).pt gi cg)
  (av (bo 1 qC.nd FF)
  (av (d_ dI U (dF (pv 0)) (cm 2 qC.nd)
   (av (b_ (fh (eZ (bc cH hr %[2|0]))) gi cg)
   (av (b_ (tG (Bw hu (bw cu (pv 2) aD) (pv 1))) gi cg)
   (aE (uC hu (pv 1) (bw cu (pv 2) aD) (bw cu (pv 2) aD) U)))))
  (aE (bu (jh (AN U) (by rfl) B.dict uA %[cZ (fz_ U) (by rfl) B.sorted IT %[Iz (pv 1)|0]|0]))))),?_]
 apply#[_,U,_,_,_,_,U,.lst hl,U,_,U,aL ?_];apply#[_,U,l,_,U,.inl (.of hl),_,_,U,U,_,U,?_];rw[cz (show (1:Int)<=(ys.length:Int) by omega)];apply dD #[_,_,U,U,_,U,?_];rw[cz (show (ys.length:Int)<=8 by omega)];apply aL ?_;intro d hd;have s0:aa H (upd H d (.dK [])):=aa.new hd;apply#[_,U,l,U,#[_,.of (s0 _ _ hl)],gh (K:=K) (a:=l) (xs:=ys) (λi σ H2=>∃(v2:aJ),σ=[some (.ref l),some (.ref d),v2]/\aa H H2/\H2 d\.dK ((hs.take i).map λh=>(Sum.inr h.1,V.int h.2))) #[none,U,s0,ay] (λi σ H2 _ ⟨_,_,s2,_⟩=>.of (s2 _ _ hl)) ?_ ?_]
 ·rintro i y σ H2 hy ⟨v2,rfl,s2,hd2⟩;let#[t,ht,a,rfl,ha]:=ou tu hy;let#[g1,g2,g3]:=good t (cy ht);let n5:=s2 _ _ (sj ha);apply#[_,U,a,t.1,t.2,U,n5,by have:=IR g1;omega,λH3 s3=>#[_,U,?_]];let jC:=s3 _ _ n5;let lY:=s3 _ _ hd2;rw[g1,cz g2,cz g3];apply aL ?_
  have ua:aY ((hs.take i).map λh=>((Sum.inr h.1:Key),V.int h.2)) (Sum.inr t.1)=none:=uK (by
   rw[cY];let q:=FE (g:=λh:Str × Int=>h.1) nd ht;intro m;let#[h,hh,e]:=br.mp m;exact q (br.mpr #[h,hh,iu e]))
  apply#[_,U,a,_,_,_,U,U,.of jC,U,_,U,d,_,U,.k (k:=Sum.inr t.1) lY,_,U,?_];rw[ua];apply aL ?_;apply#[_,U,a,_,_,_,U,U,.of jC,U,_,U,_,U,a,_,_,_,U,U,.of jC,U,d,_,U,.k (k:=Sum.inr t.1) lY (by rw[ao,dR];omega),?_];apply#[_,U,λc o e=>?_,?_]
  ·rw[aw (bq e hd)];exact s3 _ _ (s2 _ _ e)
  rw[ay,wB _ ua,x6 _ ht]
 rintro σ H2 ⟨v2,rfl,s2,hd2⟩;rw[le,eG] at hd2;apply#[_,U,d,_,U,hd2,λv hv=>?_];have s3:aa H2 (upd H2 v (tx v d)):=aa.new hv;apply#[v,d,_,hs.map λh=>(Sum.inr h.1,Sum.inl h.2),[true,false],U,ay,s3 _ _ hd2,by rw[cY];rfl,#[by decide,λq hq=>?_],by rw[ao];omega,λl' H4 zs s4 hn tz=>?_]
 ·rw[cY] at hq;let#[h,_,rfl]:=br.mp hq;rfl
 have ez:((hs.map λh=>((Sum.inr h.1:Key),(Sum.inl h.2:Key))).map λk=>[k.1,k.2])=hs.map kH:=by rw[cY];rfl
 rw[ez] at tz
 have pz:km K (upd H4 l' (.lst zs)) zs (di hs):=by
  have shape:∀k∈aZ (hs.map kH),∃a b,k=[a,b]:=λk hk=>by
   let#[h,_,e]:=br.mp ((tL _).mem_iff.mp hk);exact#[_,_,e.symm]
  have gen:∀(ks:List aC) (zs:ag),(∀k∈ks,∃a b,k=[a,b])->bR K (upd H4 l' (.lst zs)) zs ks->km K (upd H4 l' (.lst zs)) zs (ks.map zf):=λks=>by
   intro zs;generalize upd H4 l' (.lst zs)=HH;intro sh t
   induction t with
   |nil=>exact .nil
   |cons h t ih=>
    let#[a,b,rfl]:=sh _ gz;exact .cons h (ih λk hk=>sh k (fM _ hk))
  exact gen _ _ shape (tz.same (aa.new hn))
 apply#[l',zs,_,U,ay,pz,?_,λd' iU=>?_]
 ·have:=(Uh hs).length_eq;simp only[ao] at this;omega
 rw[xZ (Ul nd)];have CT:aa H (upd H4 l' (.lst zs)):=(s2.trans (s3.trans s4)).trans (aa.new hn);exact k d' _ (CT.trans (aa.new iU)) (CT.free iU) ay
theorem Ig:bN ["ties","strengths","found","one","other"] ["ties","strengths"] (a9 qM):=bT
inductive kJ (K:ai) (vs:ag) (H:Hp) (Q:VK) (E:XK):Prop
 |mk:∀(l d:Addr) (ys:ag) (ts:Xb) (kvs:List (Key × V)),vs=[.ref l,.ref d]->H l\.lst ys->bR K H ys (ts.map kT)->(∀t∈ts,v_ t)->(ts.map λt=>kT (aF t.1 t.2)).Nodup->ts.length<64->H d\.dK kvs->(∀t∈ts,(aY kvs (Sum.inr t.1)).isSome=true/\(aY kvs (Sum.inr t.2)).isSome=true)->(∀l' zs H',aa H H'->H l'=none->H' l'\.lst zs->bR K H' zs (aZ (ts.map λt=>kT (aF t.1 t.2)))->Q (.ref l') H')->kJ K vs H Q E
theorem BF(a b:Str):aF a b=(a,b)∨aF a b=(b,a):=by
 unfold aF;split
 ·exact .inl rfl
 exact .inr rfl
theorem YZ(F:bC K "checked_ties" "checked_ties" qM f fd)(B:Bi mg)(cS:!bx 3 "sorted_ties" ["ties"] (MW K)):!au bh 4 f fd ["ties","strengths"] (kJ K):=by
 exists F.bS Ig;let#[l,d,ys,ts,kvs,rfl,hl,tu,good,nd,cX,hd,there,k]:=h;let hu:=fN hr
 apply#[_,av (bo 2 Ig.nd (bc cS hr %[0|0]))
  (av (b_ (tG (Hs (pv 2))) gi cg)
  (av (d_ dI U (dF (pv 2)) (kq U (dH (cm 3 Ig.nd) (dH (cm 4 Ig.nd) iK)))
   (aE (b_ (sX (tG (IU hu (pv 3) (pv 1))) (uH (tG (IU hu (pv 4) (pv 1))))).pt gi cg)))
  (aE (bu (pv 2))))),?_]
 apply#[_,U,l,ys,ts,U,hl,tu,good,nd,cX,λl' zs H1 s1 hf eX tz=>?_];apply#[_,U,_,U,aL ?_];apply#[_,U,l',U,#[_,.of eX],gh (K:=K) (a:=l') (xs:=zs) (λi σ H2=>∃(v3 v4:aJ),σ=[some (.ref l),some (.ref d),some (.ref l'),v3,v4]/\H2=H1) #[none,none,U,U] (λi σ H2 _ ⟨_,_,_,e⟩=>by subst e;exact .of eX) ?_ ?_]
 ·rintro i y σ H2 hy ⟨v3,v4,rfl,rfl⟩;let ez:=bj tz;have hi:i<zs.length:=(bZ.mp hy).1;let#[a,e,ha]:=eO tz i hi Z1;rw[(bZ.mp hy).2] at e;subst e;let#[t,ht,e]:=br.mp ((tL _).mem_iff.mp (mI (show i<(aZ (ts.map λt=>kT (aF t.1 t.2))).length by omega)));rw[<- e] at ha;let#[t1,t2]:=there t ht
  have both:(aY kvs (Sum.inr (aF t.1 t.2).1)).isSome=true/\(aY kvs (Sum.inr (aF t.1 t.2).2)).isSome=true:=by
   rcases BF t.1 t.2 with q|q
   ·rw[q];exact#[t1,t2]
   rw[q];exact#[t2,t1]
  let uf:=s1 _ _ hd;apply#[a,_,U,.of (GN ha),U,_,_,U,_,_,U,U,?_];apply#[_,U,_,U,d,_,U,.k (k:=Sum.inr (aF t.1 t.2).1) uf,_,U,?_];rw[both.1];apply aL ?_;apply#[_,U,_,U,d,_,U,.k (k:=Sum.inr (aF t.1 t.2).2) uf,_,U,?_];rw[both.2];apply aL ?_;exact#[_,_,U,U]
 rintro σ H2 ⟨v3,v4,rfl,rfl⟩;exact#[_,U,k l' zs _ s1 hf eX tz]
def near(ns:af)(ts:Xb)(n:Str):af:=ns.filter λo=>decide (aF n o∈ts)
theorem k7:bN ["names","ties","found","hand"] ["names","ties"] (a9 qS):=bT
def tF(ns:af)(as:aq):List (Key × V):=(ns.zip as).map λp=>(Sum.inr p.1,V.ref p.2)
inductive kP (K:ai) (vs:ag) (H:Hp) (Q:VK) (E:XK):Prop
 |mk:∀(l1 l2:Addr) (ns:af) (zs:ag) (ts:Xb),vs=[.ref l1,.ref l2]->H l1\.lst (ns.map V.str)->H l2\.lst zs->bR K H zs (ts.map kT)->ns.Nodup->ns.length<=1000->l1≠l2->(∀d as H',aa H H'->H d=none->as.length=ns.length->H' d\.dK (tF ns as)->(∀(i:Nat) n a,ns[i]? = some n->as[i]? = some a->H a=none/\H' a\.lst ((near ns ts n).map V.str))->Q (.ref d) H')->kP K vs H Q E
theorem MB{K:ai}{H:Hp}:∀{ts:Xb} {zs:ag},bR K H zs (ts.map kT)->Paired (r2 K rS rS H) zs ts
 |[],_,.nil=>.nil
 |t::ts,_,.cons ⟨a,e,h⟩ r=>.cons #[a,_,_,e,.of (GN h),U,U] (MB r)
theorem mz{i:Nat}{x:V}(h:(ns.map V.str)[i]? = some x):∃n,ns[i]? = some n/\x=.str n:=by
 rw[dG] at h;cases e:ns[i]? with
 |none=>rw[e] at h;cases h
 |some n=>rw[e] at h;exact#[n,U,(cq h).symm]
theorem IQ{α:Type}(p:α->Bool){l:List α}{i:Nat}{x:α}(h:l[i]? = some x):(l.take (i+1)).filter p=(l.take i).filter p++(if p x then [x] else []):=PySem.take_succ_filter p l i x h
theorem Zh(F:bC K "neighbours_of_all" "neighbours_of_all" qS f fd)(cL:!bx 1 "lesser_first" mw Iy):!au bh 2 f fd ["names","ties"] (kP K):=by
 exists F.bS k7;let#[l1,l2,ns,zs,ts,rfl,eX,jd,tz,nd,h8,lV,k]:=h;let hu:=fN hr;let hu3:=hr.units;let sz:=cU
 apply#[_,av (bo 2 k7.nd FF)
  (av (d_ dI U (dF (pv 0)) (cm 3 k7.nd)
   (aE (uC hu (pv 2) (pv 3) (ku ["other","hand","ties"] 1 [3,1] (dF (pv 0)) (λfp s H=>gg (i:=0) (show (["other","hand","ties"]:af).Nodup by decide +kernel) U (Or.inl U))
    (λfp s H=>HU (fg (WY (K:=K) (λK=>yT K (r2 K rS rS) false) (LW (Fg iq iq) (ml hr _))) (bc cL hr %[1,0|0]) (pv 2) (by with_unfolding_all rfl))) (λfp s H=>pv 0)) U)))
  (aE (bu (pv 2)))),?_]
 intro d hd;have s0:aa H (upd H d (.dK [])):=aa.new hd
 apply#[_,U,l1,U,#[_,.of (s0 _ _ eX)],gh (K:=K) (a:=l1) (xs:=ns.map V.str) (λi σ H2=>∃(v3:aJ) (as:aq),σ=[some (.ref l1),some (.ref l2),some (.ref d),v3]/\aa H H2/\as.length=i/\H2 d\.dK (tF (ns.take i) as) /\
  ∀(j:Nat) n a,ns[j]? = some n->as[j]? = some a->H a=none/\a≠d/\H2 a\.lst ((near ns ts n).map V.str)) #[none,[],U,s0,U,ay,λj n a _ e=>by simp at e] (λi σ H2 _ ⟨_,_,_,s2,_⟩=>.of (s2 _ _ eX)) ?_ ?_]
 ·rintro i y σ H2 hy ⟨v3,as,rfl,s2,la,hd2,lists⟩;let#[n,hn,rfl]:=mz hy;have hi:i<ns.length:=(bZ.mp hn).1
  have lk:(tF (ns.take i) as).length=i:=by
   unfold tF;rw[ao,List.length_zip,dR];omega
  apply#[_,U,l1,U,#[_,.of (s2 _ _ eX)],λD hD=>?_];apply kD (own:=1) (fv:=[some (.str n),some (.ref l2)]) (xs:=ns.map V.str) U fX (λj out H'=>aa H2 H'/\H' D\.lst out/\out=((ns.take j).filter λo=>decide (aF n o∈ts)).map V.str) #[aa.new hD,ay,U] (λj out H' _ ⟨sm,_,_⟩=>.of (sm _ _ (s2 _ _ eX))) (λout H' ⟨sm,dM,eo⟩=>?_) (λj x out H' hx ⟨sm,dM,eo⟩=>?_)
  ·rw[ao,eG] at eo
   have ua:aY (tF (ns.take i) as) (Sum.inr n)=none:=uK λm=>by
    unfold tF at m;rw[cY] at m;let#[p,hp,e]:=br.mp m;have e:p.1=n:=iu e;let q:=FE (g:=id) (by rw[List.map_id];exact nd) hn;rw[List.map_id] at q;exact q (e▸(List.of_mem_zip hp).1)
   have Qa:D≠d:=λz=>by subst z;rw[hD] at hd2;cases hd2
   apply#[_,U,_,U,d,_,U,.k (k:=Sum.inr n) (sm _ _ hd2) Z1,?_];apply#[_,as++[D],U,λc o e=>?_,by rw[eI,la];rfl,?_,λj n' a Ee ha=>?_]
   ·rw[aw (bq e hd)];exact sm _ _ (s2 _ _ e)
   ·rw[ay,wB _ ua];congr 2;unfold tF;rw[tJ,hn,List.zip_append (by rw[dR];omega),fe];rfl
   by_cases hj:j<as.length
   ·rw[wC hj] at ha;let#[q1,q2,q3]:=lists j n' a Ee ha;apply#[q1,q2,?_];rw[aw q2];exact sm _ _ q3
   have Rq:j=i:=by
    have:=(bZ.mp ha).1;rw[eI] at this;simp only[jn] at this;omega
   subst Rq;rw[x5 Z1,la,Nat.sub_self] at ha;have ha:D=a:=⇑ha
   subst ha;rw[hn] at Ee;cases Ee;apply#[s2.free hD,Qa,?_];rw[aw Qa,dM,eo];rfl
  let#[o,ho,rfl]:=mz hx;apply#[_,U,U,λNx hN=>?_];apply#[_,U,_,U,n,o,U,λt ht=>?_];have s3:aa H' (upd H' t (.tup [.str (aF n o).1,.str (aF n o).2])):=aa.new ht;let VI:=((tz.same s2).same sm).same s3
  have lo:out.length<sizeLine:=by
   rw[eo,ao];have:=BP (λo=>decide (aF n o∈ts)) (ns.take j);rw[dR] at this;omega
  apply#[_,U,aF n o,ts,#[t,_,_,U,.of ay,U,U],#[l2,zs,U,.of (s3 _ _ (sm _ _ (s2 _ _ jd))),MB VI],_,U,?_];apply bY (λc=>?_) (λc=>?_)
  ·apply#[_,U,out,s3 _ _ dM,lo,hN _ _ #[fQ (sm.trans s3) hD,ay,?_]];have c:decide (aF n o∈ts)=true:=⇑c
   rw[IQ _ ho,aI c,fe,eo];rfl
  apply hN _ _ #[sm.trans s3,s3 _ _ dM,?_];have c:¬decide (aF n o∈ts)=true:=⇑c
  rw[IQ _ ho,aA c,List.append_nil,eo]
 rintro σ H2 ⟨v3,as,rfl,s2,la,hd2,lists⟩;rw[ao] at la hd2;rw[eG] at hd2;exact#[_,U,k d as _ s2 hd la hd2 λj n a h1 h2=>#[(lists j n a h1 h2).1,(lists j n a h1 h2).2.2]]
end
abbrev rg:Stmt:=l9 oM 0
abbrev u5:Stmt:=l9 oM 1
abbrev lI:Stmt:=l9 oM 2
abbrev Oa:Stmt:=l9 oM 3
abbrev lE:Stmt:=l9 oM 4
abbrev qN:Stmt:=l9 oM 5
def EU:aC->Str
 |.inr a::_=>a
 |_=>⟨#[]⟩
def Jx:aC->Str × Str
 |[.inr a,.inr b]=>(a,b)
 |_=>(⟨#[]⟩,⟨#[]⟩)
def aN(hs:Xa):af:=(aZ (hs.map kH)).map EU
def bQ(ts:Xb):Xb:=(aZ (ts.map λt=>kT (aF t.1 t.2))).map Jx
theorem NY(ts:Xb):(bQ ts).map kT=aZ (ts.map λt=>kT (aF t.1 t.2)):=by
 unfold bQ;rw[cY]
 have all:∀k∈aZ (ts.map λt=>kT (aF t.1 t.2)),∃t:Str × Str,k=kT t:=λk hk=>by
  let#[t,_,e]:=br.mp ((tL _).mem_iff.mp hk);exact#[_,e.symm]
 generalize aZ (ts.map λt=>kT (aF t.1 t.2))=l at all
 induction l with
 |nil=>rfl
 |cons k l ih=>
  let#[t,rfl]:=all k gz;rw[eY,ih λk hk=>all k (fM _ hk)];rfl
theorem T9(hs:Xa):∀k∈aZ (hs.map kH),∃h:Str × Int,h∈hs/\k=kH h:=λk hk=>by
 let#[t,ht,e]:=br.mp ((tL _).mem_iff.mp hk);exact#[t,ht,e.symm]
theorem Sz(hs:Xa):((di hs).map λkv=>kV kv.1)=(aN hs).map V.str:=by
 unfold di aN;rw[cY,cY];apply uI λk hk=>?_;let#[h,_,rfl]:=T9 hs k hk;rfl
theorem Ti(hs:Xa):(di hs).map (·.1)=(aN hs).map Sum.inr:=by
 unfold di aN;rw[cY,cY];apply uI λk hk=>?_;let#[h,_,rfl]:=T9 hs k hk;rfl
theorem fD(hs:Xa):(aN hs).Perm (hs.map (·.1)):=by
 unfold aN;let p:=(tL (hs.map kH)).map EU;rw[cY] at p;exact p
theorem IS{κ:Type}[DecidableEq κ]{kvs:List (κ × V)}{k:κ}(h:k∈kvs.map (·.1)):(aY kvs k).isSome=true:=by
 rw[<- BJ];let#[p,hp,e]:=br.mp h;exact List.any_eq_true.mpr #[p,hp,cz e]
theorem HY{hs:Xa}{n:Str}:(aY (di hs) (Sum.inr n)).isSome=decide (n∈hs.map (·.1)):=by
 by_cases h:n∈hs.map (·.1)
 ·rw[cz h];apply IS ?_;rw[Ti];exact br.mpr #[n,(fD hs).mem_iff.mpr h,U]
 rw[fC h,uK]
 ·rfl
 rw[Ti];intro m;let#[x,hx,e]:=br.mp m;cases e;exact h ((fD hs).mem_iff.mp hx)
theorem rY:¬((uv:Str)="sorted_pairs"):=by decide +kernel
theorem Dj:¬((uv:Str)=Bq):=by decide +kernel
def fo(d1 l2 d3:Addr):List (Str × V):=az Bq (.ref d3) (az "sorted_pairs" (.ref l2) (az uv (.ref d1) []))
theorem G7(d1 l2 d3:Addr):(fo d1 l2 d3).lookup (uv:Str)\.ref d1:=by
 unfold fo;rw[gA,aA Dj,gA,aA rY,gA,aI U]
theorem QU(d1 l2 d3:Addr):(fo d1 l2 d3).lookup (Bq:Str)\.ref d3:=by
 unfold fo;rw[gA,aI U]
variable{m:Str}
theorem p0(d1 l2 d3:Addr)(h1:¬m=uv)(h2:¬m="sorted_pairs")(h3:¬m=Bq):(fo d1 l2 d3).lookup m=none:=by
 unfold fo;rw[gA,aA h3,gA,aA h2,gA,aA h1]
 all_goals rfl
structure g_ (K:ai) (C:Addr) (H:Hp) (p:Addr) (hs:Xa) (ts:Xb) (fp:aq):Prop where
 ex:∃(dx d1 l2 d3:Addr) (zs:ag) (as:aq),fp=p::d1::l2::d3::as/\H p\.ins C dx (fo d1 l2 d3)/\H d1\.dK (di hs)/\H l2\.lst zs/\bR K H zs ((bQ ts).map kT)/\H d3\.dK (tF (aN hs) as)/\as.length=(aN hs).length /\
  ∀(i:Nat) n a,(aN hs)[i]? = some n->as[i]? = some a->H a\.lst ((near (aN hs) (bQ ts) n).map V.str)
variable{H':Hp}
theorem g_.keep{K:ai}{C:Addr}{H:Hp}{p:Addr}{hs:Xa}{ts:Xb}{fp:aq}(W:g_ K C H p hs ts fp)(k:∀b∈fp,∀o,H b\o->H' b\o)(kt:∀b xs,H b\.tup xs->H' b\.tup xs):g_ K C H' p hs ts fp:=by
 let#[dx,d1,l2,d3,zs,as,rfl,h1,h2,h3,h4,h5,h6,h7]:=W.ex;apply#[dx,d1,l2,d3,zs,as,U,k _ Z2 _ h1,k _ Z2 _ h2,k _ Z2 _ h3,Paired.aU h4 λy q ⟨a,e,z⟩=>#[a,e,kt _ _ z],k _ Z2 _ h5,h6,λi n a e1 e2=>k _ ?_ _ (h7 i n a e1 e2)];have:=cy e2;simp[this]
theorem g_.same{K:ai}{C:Addr}{H:Hp}{p:Addr}{hs:Xa}{ts:Xb}{fp:aq}(W:g_ K C H p hs ts fp)(s:aa H H'):g_ K C H' p hs ts fp:=W.keep (λb _ o e=>s b o e) λb xs e=>s b _ e
structure Good (hs:Xa) (ts:Xb):Prop where
 ax:∀h∈hs,oi h
 oV:(hs.map (·.1)).Nodup
 h1:1<=hs.length
 h8:hs.length<=8
 tok:∀t∈ts,v_ t
 F5:(ts.map λt=>kT (aF t.1 t.2)).Nodup
 wX:ts.length<64
 uR:∀t∈ts,t.1∈hs.map (·.1)/\t.2∈hs.map (·.1)
theorem Good.rV{hs:Xa}{ts:Xb}(G:Good hs ts):(aN hs).Nodup:=(fD hs).nodup_iff.mpr G.oV
theorem Good.gT{hs:Xa}{ts:Xb}(G:Good hs ts):(aN hs).length=hs.length:=by
 rw[(fD hs).length_eq,ao]
structure Txt (K:ai) (mg:Str->Option Aa) (C:Addr):Prop where
 cl:mQ K C
 nS:mr K C uv
 nP:mr K C "sorted_pairs"
 nN:mr K C Bq
section v
theorem k_:bN ["self","hands","ties","strengths","checked"] ["self","hands","ties"] (a9 rg):=bT
inductive Hl (K:ai) (C:Addr) (vs:ag) (H:Hp) (Q:VK) (E:XK):Prop
 |mk:∀(p dx lh lt:Addr) (ys zs:ag) (hs:Xa) (ts:Xb),vs=[.ref p,.ref lh,.ref lt]->H p\.ins C dx []->H lh\.lst ys->bR K H ys (hs.map kH)->H lt\.lst zs->bR K H zs (ts.map kT)->Good hs ts->(∀fp H',(∀b o,H b\o->b≠p->H' b\o)->g_ K C H' p hs ts fp->(∀b∈fp,b=p∨H b=none)->Q .non H')->Hl K C vs H Q E
theorem YH{C:Addr}(F:bC K "__init__" "Web.__init__" rg f fd)(T:Txt K mg C)(B:Bi mg)(cS:!bx 4 "checked_strengths" ["hands"] (wZ K))(cT:!bx 4 "checked_ties" ["ties","strengths"] (kJ K))(cN:!bx 2 "neighbours_of_all" ["names","ties"] (kP K)) :
  au P w K mg base bh 5 f fd ["self","hands","ties"] (Hl K C):=by
 exists F.bS k_;let#[p,dx,lh,lt,ys,zs,hs,ts,rfl,hp,eW,th,dW,tt,G,k]:=h
 apply#[_,av (bo 3 k_.nd (bc cS hr %[1|0]))
  (av (bo 4 k_.nd (bc cT hr %[2,3|0]))
  (av (uG (pv 0) (pv 3) U) (av (uG (pv 0) (pv 4) U)
  (aE (uG (pv 0) (bc cN hr %[jh (On U) (by rfl) B.list AG %[3|0],4|0]) U))))),?_]
 apply#[_,U,lh,ys,hs,U,eW,th,G.ax,G.oV,G.h1,G.h8,λd1 H1 s1 f1 uf=>?_];apply#[_,U,_,U,lt,d1,zs,ts,_,U,s1 _ _ dW,tt.same s1,G.tok,G.F5,G.wX,uf,λt ht=>?_,λl2 Ji H2 s2 f2 jd tz=>?_]
 ·rw[HY,HY];exact#[cz (G.uR t ht).1,cz (G.uR t ht).2]
 let zI:=s2 _ _ uf;let kg:=s2 _ _ (s1 _ _ hp);have p1:p≠d1:=bK kg zI nofun;have p2:p≠l2:=bK kg jd nofun;apply#[_,U,_,U,p,C,dx,[],U,kg,T.cl,T.nS,by show 0<1000;decide,?_];apply#[_,U,_,U,p,C,dx,_,U,ay,T.cl,T.nP,by show 1<1000;decide,?_]
 let H3:Hp:=upd (upd H2 p (.ins C dx (az uv (.ref d1) []))) p (.ins C dx (az "sorted_pairs" (.ref l2) (az uv (.ref d1) [])))
 have h3:∀{b o},H2 b\o->b≠p->H3 b\o:=λe ne=>by
  show upd (upd H2 p _) p _ _=_;rw[aw ne,aw ne];exact e
 have LY:H3 p\.ins C dx (az "sorted_pairs" (.ref l2) (az uv (.ref d1) [])):=ay
 have Df:∀{b},H3 b=none->H2 b=none:=λ{b} e=>by
  by_cases z:b=p
  ·subst z;rw[LY] at e;cases e
  have e:upd (upd H2 p _) p _ b=none:=e;rw[aw z,aw z] at e;exact e
 have Pk:bR K H3 Ji ((bQ ts).map kT):=by
  rw[NY];exact Paired.aU tz λy q ⟨a,e,z⟩=>#[a,e,h3 z (bK z kg nofun)]
 apply#[_,U,d1,_,U,.inl (h3 zI p1.symm),λl1 eX=>?_];rw[Sz];have s4:aa H3 (upd H3 l1 (.lst ((aN hs).map V.str))):=aa.new eX;have Ko:l1≠l2:=(bq (H:=H3) (h3 jd p2.symm) eX).symm;apply#[_,U,l1,l2,aN hs,Ji,bQ ts,U,ay,s4 _ _ (h3 jd p2.symm),Pk.same s4,G.rV,by rw[G.gT];have:=G.h8;omega,Ko,λd3 as H5 s5 f5 la lY lists=>?_];let K7:=s5 _ _ (s4 _ _ LY);apply#[_,U,p,C,dx,_,U,K7,T.cl,T.nN,by show 2<1000;decide,?_]
 have up:∀{b o},H2 b\o->b≠p->upd H5 p (.ins C dx (fo d1 l2 d3)) b\o:=λe ne=>by
  rw[aw ne];exact s5 _ _ (s4 _ _ (h3 e ne))
 have o5:∀{b},upd H3 l1 (.lst ((aN hs).map V.str)) b=none->H b=none:=λe=>s1.free (s2.free (Df (s4.free e)));have LC:d3≠p:=(bq (s4 _ _ LY) f5).symm;apply k (p::d1::l2::d3::as) _ (λb o e ne=>up (s2 _ _ (s1 _ _ e)) ne) #[dx,d1,l2,d3,Ji,as,U,ay,up zI p1.symm,up jd p2.symm,?_,?_,la,λi n a e1 e2=>?_] λb hb=>?_
 ·exact Paired.aU (Pk.same (s4.trans s5)) λy q ⟨a,e,z⟩=>#[a,e,by rw[aw (bK z K7 nofun)];exact z]
 ·rw[aw LC];exact lY
 ·let#[q1,q2]:=lists i n a e1 e2;rw[aw (bK q2 K7 nofun)];exact q2
 simp only[bW] at hb;rcases hb with rfl|rfl|rfl|rfl|hb
 ·exact .inl U
 ·exact .inr f1
 ·exact .inr (s1.free f2)
 ·exact .inr (o5 f5)
 let#[i,hi,e]:=gH hb;have e1:as[i]? = some b:=by rw[aX hi,e]
 have hn:i<(aN hs).length:=by omega
 exact .inr (o5 (lists i _ b (aX hn) e1).1)
end
structure bV (P:Ad) (w:Ag) (K:ai) (mg:Str->Option Aa) (base:Heap) (C:Addr) (k:Nat) (m:Str) (ps:af) (sp:Sp):Prop where
 ex:∃f fd,au P w K mg base bh k f fd ps sp/\Meth K C m f/\pQ K fd ps []
variable{o:Expr}{apos:Pos}{ta:TE}{pl:Sem Bool}
theorem iZ{C:Addr}(c:bV X.prog X.w X.K X.mg X.base C k m ps sp)(cl:mQ X.K C)(hr:aO k X.A)(he:PE X o ta)(ha:PA X (e::es) t)(lU:starEach (e::es) X.env=(false,eval e X.env)::starEach es X.env:=by rfl)(ij:(backTo pos (starEach es X.env)).any (·.1)=false:=by rfl)(ht:eval (.Call (.Attribute o m apos) (e::es) [] pos) X.env=(do
   let ov <- eval o X.env
   standAt apos.atName
   let (f,first) <- holding [ov] (getMethod ov m pl)
   callWith pos f first (backTo pos (starEach (e::es) X.env)) (backToKw pos (keywordEach [] X.env))):=by rfl) :
  PE X (.Call (.Attribute o m apos) (e::es) [] pos) (mV C m sp [] E0 ta t):=by
 let#[f,fd,F,hm,b]:=c.ex;exact YN he cl hm F hr b .nil nF ha lU ij ht
theorem Ar{C:Addr}(c:bV X.prog X.w X.K X.mg X.base C k m ps sp)(cl:mQ X.K C)(hr:aO k X.A)(he:PE X o ta)(ht:eval (.Call (.Attribute o m apos) [] [] pos) X.env=(do
   let ov <- eval o X.env
   standAt apos.atName
   let (f,first) <- holding [ov] (getMethod ov m pl)
   callWith pos f first (backTo pos (starEach [] X.env)) (backToKw pos (keywordEach [] X.env))):=by rfl) :
  PE X (.Call (.Attribute o m apos) [] [] pos) (mV C m sp [] E0 ta oH):=by
 let#[f,fd,F,hm,b]:=c.ex;exact hO_ he cl hm F hr b .nil nF ht
theorem fJ_{hs:Xa}(nd:(hs.map (·.1)).Nodup){x:Str}{n:Int}(h:(x,n)∈hs):aY (di hs) (Sum.inr x)\.int n:=by
 have m:((Sum.inr x:Key),V.int n)∈di hs:=by
  unfold di;apply br.mpr #[kH (x,n),(tL _).mem_iff.mpr (br.mpr #[_,h,U]),U]
 let nk:=Ul nd;generalize di hs=kvs at m nk
 induction kvs with
 |nil=>cases m
 |cons p r ih=>
  let#[n1,n2]:=jk.mp nk;rcases bW.mp m with e|m
  ·rw[<- e];exact AA U
  rw[Az (λe:p.1=Sum.inr x=>n1 (br.mpr #[_,m,e.symm]))];exact ih m n2
variable{as:aq}
theorem gl_(nd:ns.Nodup)(la:as.length=ns.length){i:Nat}{n:Str}(hn:ns[i]? = some n):∃a,as[i]? = some a/\aY (tF ns as) (Sum.inr n)\.ref a:=by
 induction ns generalizing as i with
 |nil=>simp at hn
 |cons x ns ih=>
  cases as with
  |nil=>cases la
  |cons b as=>
   let#[n1,n2]:=jk.mp nd;cases i with
   |zero=>
    have e:x=n:=⇑hn
    subst e;exact#[b,U,AA U]
   |succ i=>
    have hn:ns[i]? = some n:=⇑hn
    let#[a,h1,h2]:=ih n2 ⇑la hn;apply#[a,by simpa using h1,?_];show aY ((Sum.inr x,V.ref b)::tF ns as) (Sum.inr n)=_;rw[Az λe=>n1 (by rw[show x=n from iu e];exact cy hn)];exact h2
section v
theorem w4:bN oj oj (a9 u5):=bT
inductive js (K:ai) (C:Addr) (vs:ag) (H:Hp) (Q:VK) (E:XK):Prop
 |mk:∀(p:Addr) (x:Str) (hs:Xa) (ts:Xb) (fp:aq),vs=[.ref p,.str x]->g_ K C H p hs ts fp->Q (.bl (decide (x∈hs.map (·.1)))) H->js K C vs H Q E
theorem X6{C:Addr}(F:bC K "has_hand" "Web.has_hand" u5 f fd)(T:Txt K mg C)(B:Bi mg):!au bh 1 f fd oj (js K C):=by
 exists F.bS w4;let#[p,x,hs,ts,fp,rfl,W,k]:=h;let hu:=fN hr;let#[dx,d1,l2,d3,zs,as,rfl,h1,h2,h3,h4,h5,h6,h7]:=W.ex;apply#[_,aE (bu (tq (cZ mG (by rfl) B.ka kr %[1,mC (v:=.ty "str") (by rfl) B.str Hy U|0]) (uF (Hw (Bw hu (pv 1) (gc (pv 0) U)))))),?_];apply#[_,U,_,_,_,_,U,.str x,U,_,U,dD ?_];apply#[_,U,_,U,p,C,dx,_,_,U,h1,T.cl,T.nS,G7 _ _ _,d1,_,U,.k (k:=Sum.inr x) h2,?_];rw[HY];exact k
theorem u4:bN o7 o7 (a9 lI):=bT
inductive Fp (K:ai) (C:Addr) (vs:ag) (H:Hp) (Q:VK) (E:XK):Prop
 |mk:∀(p:Addr) (hs:Xa) (ts:Xb) (fp:aq),vs=[.ref p]->g_ K C H p hs ts fp->(∀l,H l=none->Q (.ref l) (upd H l (.lst ((aN hs).map V.str))))->Fp K C vs H Q E
theorem _w{C:Addr}(F:bC K "hands" "Web.hands" lI f fd)(T:Txt K mg C)(B:Bi mg):!au bh 1 f fd o7 (Fp K C):=by
 exists F.bS u4;let#[p,hs,ts,fp,rfl,W,k]:=h;let#[dx,d1,l2,d3,zs,as,rfl,h1,h2,h3,h4,h5,h6,h7]:=W.ex;apply#[_,aE (bu (jh (On U) (by rfl) B.list AG %[gc (pv 0) U|0])),?_];apply#[_,U,p,C,dx,_,_,U,h1,T.cl,T.nS,G7 _ _ _,d1,_,U,.inl h2,λl hl=>?_];rw[Sz];exact k l hl
theorem er':bN vW vW (a9 Oa):=bT
inductive IX (K:ai) (C:Addr) (vs:ag) (H:Hp) (Q:VK) (E:XK):Prop
 |mk:∀(p:Addr) (x:Str) (n:Int) (hs:Xa) (ts:Xb) (fp:aq),vs=[.ref p,.str x]->g_ K C H p hs ts fp->(hs.map (·.1)).Nodup->(x,n)∈hs->Q (.int n) H->IX K C vs H Q E
theorem ej_{C:Addr}(F:bC K "strength" "Web.strength" Oa f fd)(T:Txt K mg C)(cH:!bV C 1 "has_hand" oj (js K C)):!au bh 2 f fd vW (IX K C):=by
 apply F.bS er' λaQ A outer s H vs Q E hr h=>?_;let#[p,x,n,hs,ts,fp,rfl,W,nd,hx,k]:=h;let hu:=fN hr;let#[dx,d1,l2,d3,zs,as,rfl,h1,h2,h3,h4,h5,h6,h7]:=id W.ex;apply#[_,av (b_ (fh (eZ (iZ cH T.cl hr (pv 0) %[1|0]))) gi cg) (aE (bu (ji hu (gc (pv 0) U) (pv 1)))),?_];apply#[_,U,p,dx,_,U,h1,p0 _ _ _ Z0 Z0 Z0,_,U,p,x,hs,ts,_,U,W,_,U,?_];rw[cz (br.mpr #[_,hx,U])];apply aL ?_;apply#[_,U,p,C,dx,_,_,U,h1,T.cl,T.nS,G7 _ _ _,_,U,d1,_,U,?_,k];rw[<- fJ_ nd hx];exact .k (k:=Sum.inr x) h2
theorem uZ:bN vW vW (a9 lE):=bT
inductive M3 (K:ai) (C:Addr) (vs:ag) (H:Hp) (Q:VK) (E:XK):Prop
 |mk:∀(p:Addr) (x:Str) (hs:Xa) (ts:Xb) (fp:aq),vs=[.ref p,.str x]->g_ K C H p hs ts fp->(aN hs).Nodup->x∈hs.map (·.1)->(∀l,H l=none->Q (.ref l) (upd H l (.lst ((near (aN hs) (bQ ts) x).map V.str))))->M3 K C vs H Q E
theorem QS{H:Hp}{hs:Xa}{ts:Xb}{x:Str}(nd:(aN hs).Nodup)(hx:x∈hs.map (·.1))(la:as.length=(aN hs).length)(h7:∀(i:Nat) n a,(aN hs)[i]? = some n->as[i]? = some a->H a\.lst ((near (aN hs) (bQ ts) n).map V.str)):∃a,aY (tF (aN hs) as) (Sum.inr x)\.ref a/\H a\.lst ((near (aN hs) (bQ ts) x).map V.str):=by
 let#[i,hi,e]:=gH ((fD hs).mem_iff.mpr hx);have hn:(aN hs)[i]? = some x:=by rw[aX hi,e]
 let#[a,h1,h2]:=gl_ nd la hn;exact⟨a,h2,h7 i x a hn h1⟩
theorem ZH{C:Addr}(F:bC K "neighbours" "Web.neighbours" lE f fd)(T:Txt K mg C)(B:Bi mg)(cH:!bV C 1 "has_hand" oj (js K C)):!au bh 2 f fd vW (M3 K C):=by
 exists F.bS uZ;let#[p,x,hs,ts,fp,rfl,W,nd,hx,k]:=h;let hu:=fN hr;let#[dx,d1,l2,d3,zs,as,rfl,h1,h2,h3,h4,h5,h6,h7]:=id W.ex;let#[a,e1,ha]:=QS nd hx h6 h7;apply#[_,av (b_ (fh (eZ (iZ cH T.cl hr (pv 0) %[1|0]))) gi cg) (aE (bu (jh dM_ (by rfl) B.list AG %[ji hu (gc (pv 0) U) (pv 1)|0]))),?_];apply#[_,U,p,dx,_,U,h1,p0 _ _ _ Z0 Z0 Z0,_,U,p,x,hs,ts,_,U,W,_,U,?_];rw[cz hx];apply aL ?_;apply#[_,U,p,C,dx,_,_,U,h1,T.cl,T.nN,QU _ _ _,_,U,d3,.ref a,U,?_,a,_,U,.inl (.of ha),k];rw[<- e1];exact .k (k:=Sum.inr x) h5
theorem yB:bN jP jP (a9 qN):=bT
theorem Nn{H:Hp}:∀ns:af,Paired (rS H) (ns.map V.str) ns
 |[]=>.nil
 |_::ns=>.cons U (Nn ns)
end
end Ev
namespace L2
open PySem PySem.Spec PyProof.Rows PySem.W
variable{X:Cx}{pins:List (Addr × Obj)}{σ:St}{s:Ab}{h':Heap}{t':Nat}{fp:aq}
theorem Inv.iL{H:Hp}{T:Addr}{xs:ag}{its:aj}(I:Inv X pins σ H s)(k:∀b o,b∉fp->s.heap.get? b\o->h'.get? b\o)(hf:∀b∈fp,df X pins H b)(hT:s.heap.objs.size<=T)(hz:xs.length<=sizeLine)(r:Vals xs its)(ht:IsTup h' T its.toArray/\∃o,h'.get? T\o/\o.dict=none):Inv X pins σ (upd H T (.tup xs)) { s with heap:=h',toks:=t' }:=by
 have fT:H T=none:=I.ax.fresh hT;have nf:∀b u,H b\u->b∉fp:=λb u e hb=>by rw[(hf b hb).1] at e;cases e
 have old:∀{b u},H b\u->upd H T (.tup xs) b\u:=λe=>by rw[aw (bq e fT)];exact e
 apply I.step (g':=s.gens) (d':=s.drawn) (ch:=fp) (λb hb=>?_) (λb o _ _ hc e _=>k b o hc e) (λb o _ _ hc e _=>#[o.slots,k b o hc e]) (λb o _ e n=>?_)
  (λb o hc e=>#[o,k b o hc e]) (λb ys e=>old e) (λb o u e=>old e) (λb ps e=>#[#[],by rw[Array.append_empty];exact old e]) (λm hm=>?_) (λb u e=>?_) I.bare
 ·let#[f0,f1,f2,f3,f4,f5]:=hf b hb;exact#[f3,f1,f4,f5]
 ·rw[aw (λz=>by subst z;exact absurd (bp e) (Nat.not_lt.mpr hT))];exact n
 ·let#[o,es,ep,ho,r]:=hm;exact#[o,es,ep,k _ o (λhb=>(hf _ hb).2.1 U) ho,r]
 by_cases z:b=T
 ·subst z;rw[ay] at e;cases e;exact#[hz,its,r,ht]
 rw[aw z] at e;apply (I.ax b u e).eR (λc v hc q=>k c v ?_ q) (λ_ q=>old q) λ_ _ q=>old q;rcases hc with z|z
 ·rw[z];exact nf b u e
 exact nf c _ z
theorem Inv.gP{H:Hp}(I:Inv X pins σ H s)(k:∀b o,b∉fp->s.heap.get? b\o->h'.get? b\o)(hf:∀b∈fp,df X pins H b):Inv X pins σ H { s with heap:=h',toks:=t' }:=by
 have nf:∀b u,H b\u->b∉fp:=λb u e hb=>by rw[(hf b hb).1] at e;cases e
 apply I.step (g':=s.gens) (d':=s.drawn) (ch:=fp) (λb hb=>?_) (λb o _ _ hc e _=>k b o hc e) (λb o _ _ hc e _=>#[o.slots,k b o hc e]) (λb o _ e n=>n)
  (λb o hc e=>#[o,k b o hc e]) (λb ys e=>e) (λb o u e=>e) (λb ps e=>#[#[],by rw[Array.append_empty];exact e]) (λm hm=>?_) (λb u e=>?_) I.bare
 ·let#[f0,f1,f2,f3,f4,f5]:=hf b hb;exact#[f3,f1,f4,f5]
 ·let#[o,es,ep,ho,r]:=hm;exact#[o,es,ep,k _ o (λhb=>(hf _ hb).2.1 U) ho,r]
 apply (I.ax b u e).eR (λc v hc q=>k c v ?_ q) (λ_ q=>q) λ_ _ q=>q;rcases hc with z|z
 ·rw[z];exact nf b u e
 exact nf c _ z
section
variable{M:Model}{A:Af}{E:Aa->Ab->Prop}{s:Ab}{base:Heap}{env:Env}{outer:List Env}{L e:Addr}{cls cx fl:Aa}{Q:Unit->Ab->Prop}
end
section
variable{P:Ad}{w:Ag}{H H':Hp}{B h0 h h1:Heap}{l:List Env}
end
section
variable{X:Cx}{pins:List (Addr × Obj)}{σ:St}{H H':Hp}{s s1:Ab}{B h:Heap}{a:Addr}{cls a0:Aa}{E:XK}
end
section
variable{P:Ad}{w:Ag}{K:ai}{mg:Str->Option Aa}{base:Heap}{N:af}{qual:Str}{scope:Scope}{f:Addr}{cd:Aa}{A:Af}{outer:List Env}{s:Ab}{H:Hp}{E:XK}
end
section v
end
open PySem.Calls Builtin Builtin.ObjectAttr Builtin.Getset_descriptor
structure O7 (K:ai) (C:Addr):Prop where
 cl:(clsIn K C).isSome=true
 ga:findIn K (.ref C) "__getattribute__"\some (.builtin "BaseException.__getattribute__")
 ha:findIn K (.ref C) "__getattr__"\none
 ca:findIn K (.ref C) "__class__"\some (.builtin "object.__class__")
 gt:specialIn K (.builtin "object.__class__") "__get__"\some (.builtin "getset_descriptor.__get__")
 tk:takesIn K (.builtin "object.__class__")\true
 mo:mroIn K C (.type "object")\true
 mb:mroIn K C (.type "BaseException")\true
section
variable{prog:Ad}{w:Ag}{A:Af}{E:Aa->Ab->Prop}{s:Ab}{K:ai}{x C:Addr}
end
inductive xg (K:ai) (xs:ag) (H:Hp) (Q:VK):Prop
 |mk:∀x C t b,xs=[x,.ref C]->fO K H x t->PySem.W.kitOne K t (.ref C)\b->Q (.bl b) H->xg K xs H Q
theorem g1_:gE X (.builtin "isinstance") (xg X.K):=by
 intro pins s σ H xs us Q I r h;let#[x,C,t,b,rfl,ty,e,q]:=h;let#[u,w',rfl,ru,i_]:=vals2 r;cases (show w'=Value.ref C from i_);exact TX I ru ty e λtk=>#[.bl b,H,I.tok tk,U,q]
end L2
namespace Ev
open PySem L2
abbrev lO:Stmt:=top 54
abbrev M6:Stmt:=top 55
abbrev NU:Stmt:=top 56
abbrev E7:Stmt:=top 57
abbrev lM:Stmt:=top 60
abbrev JZ:Stmt:=top 20
abbrev JY:Stmt:=top 21
abbrev rA:Stmt:=top 22
abbrev q_:Stmt:=top 23
abbrev qX:Stmt:=top 24
abbrev Nm:Stmt:=top 13
abbrev MZ:Stmt:=top 26
abbrev Om:Stmt:=top 27
abbrev qW:Stmt:=top 28
abbrev Na:Stmt:=top 29
abbrev qO:Stmt:=top 30
abbrev N2:Stmt:=top 31
abbrev rC:Stmt:=top 34
abbrev lK:Stmt:=top 35
abbrev qQ:Stmt:=top 36
abbrev Nc:Stmt:=top 37
abbrev qU:Stmt:=top 38
abbrev Ie:Stmt:=top 39
abbrev qV:Stmt:=top 40
abbrev M8:Stmt:=top 41
abbrev qY:Stmt:=top 42
abbrev Ou:Stmt:=top 43
abbrev lG:Stmt:=top 61
abbrev Nr:Stmt:=top 62
abbrev lF:Stmt:=top 63
abbrev Oo:Stmt:=top 64
abbrev Nv:Stmt:=top 65
abbrev M5:Stmt:=top 66
abbrev lH:Stmt:=top 67
abbrev Nw:Stmt:=top 68
abbrev M4:Stmt:=top 69
abbrev MT:Stmt:=top 70
abbrev lD:Stmt:=top 71
abbrev fj:Stmt:=top 72
def bz(l:Addr)(H H':Hp):Prop:=∀b o,H b\o->b≠l->H' b\o
theorem bz.refl(l:Addr)(H:Hp):bz l H H:=λ_ _ e _=>e
variable{H1:Hp}
theorem bz.trans{l:Addr}{H H2:Hp}(h:bz l H H1)(h2:bz l H1 H2):bz l H H2:=λb o e n=>h2 b o (h b o e n) n
theorem bz.of{l:Addr}{H:Hp}(h:aa H H1):bz l H H1:=λb o e _=>h b o e
theorem bz.upd{l:Addr}{H:Hp}{o:HO}:bz l H (upd H l o):=λb u e n=>by rw[aw n];exact e
def dQ(H:Hp)(l:Addr):Prop:=(∃n:Int,H l\.lst [.int n])∨∃n m c:Int,H l\.lst [.int n,.int m,.int c]
theorem dQ.some{H:Hp}{l:Addr}(h:dQ H l):∃xs,H l\.lst xs:=by
 rcases h with⟨n,e⟩|⟨n,m,c,e⟩
 ·exact#[_,e]
 exact#[_,e]
theorem bz.free{l b:Addr}{H H':Hp}(h:bz l H H')(s:dQ H' l)(e:H' b=none):H b=none:=by
 cases z:H b with
 |none=>rfl
 |some o=>
  by_cases q:b=l
  ·subst q;let#[xs,e2]:=s.some;rw[e] at e2;cases e2
  rw[h b o z q] at e;cases e
theorem d0{α:Type}{xs:List α}{i:Int}(h0:0<=i)(h1:i<xs.length):iJ xs i=xs[i.toNat]?:=by
 unfold iJ vA;rw[aI h0,aI h1];rfl
section v
def AE:Sp:=λvs H Q _=>∃(l:Addr) (b:Int),vs=[.ref l,.int b]/\0<b/\b<1073741824/\dQ H l/\∀r H',0<=r->r<b->bz l H H'->dQ H' l->Q (.int r) H'
theorem small(x:Int):-(2 ^ 64)<x % 2147483647/\x % 2147483647<2 ^ 64:=by
 let h1:=Int.emod_nonneg x (b:=2147483647) (by decide);let h2:=Int.emod_lt_of_pos x (b:=2147483647) (by decide);exact#[by omega,by omega]
end
theorem hC_:("abcdefghijklmnopqrstuvwxyz":Str).cps.toList=[97,98,99,100,101,102,103,104,105,106,107,108,109,110,111,112,113,114,115,116,117,118,119,120,121,122]:=by decide +kernel
variable{r:Int}
theorem Yx(h0:0<=r)(h1:r<26):∃c,iJ ("abcdefghijklmnopqrstuvwxyz":Str).cps.toList r\c/\oR c=true:=by
 rw[hC_,d0 h0 ⇑h1];have hn:r.toNat<26:=by omega
 apply#[_,aX ⇑hn,?_];have all:∀c∈[97,98,99,100,101,102,103,104,105,106,107,108,109,110,111,112,113,114,115,116,117,118,119,120,121,122],oR c=true:=by decide +kernel
 exact all _ (mI _)
def pU{α:Type}(l:List α)(k:Nat)(x:α):List α:=l.take k++x::l.drop k
theorem FA{α:Type}(l:List α)(k:Nat)(x:α):(pU l k x).Perm (x::l):=by
 unfold pU;apply List.perm_middle.trans ?_;rw[List.take_append_drop]
theorem S1{α β:Type}(g:α->β)(l:List α)(k:Nat)(x:α):(pU l k x).map g=pU (l.map g) k (g x):=by
 unfold pU;rw[fe,eY,List.map_take,List.map_drop]
theorem NI{α β:Type}{F:α->β->Prop}:∀{ys:List α} {ks:List β} (k:Nat) {y:α} {q:β},Paired F ys ks->F y q->Paired F (pU ys k y) (pU ks k q)
 |[],_,k,_,_,.nil,h=>by
  unfold pU;simp only[List.take_nil,List.drop_nil,List.nil_append];exact .cons h .nil
 |y::ys,_,0,_,_,.cons a t,h=>.cons h (.cons a t)
 |y::ys,_,k+1,_,_,.cons a t,h=>.cons a (NI k t h)
theorem NA{α:Type}(l:List α)(k:Nat)(x:α):(pU l k x).length=l.length+1:=(FA l k x).length_eq
theorem zE{α:Type}{a b:α}(h0:0<=r)(h1:r<2):iJ [a,b] r\a∨iJ [a,b] r\b:=by
 have:r=0∨r=1:=by omega
 rcases this with rfl|rfl
 ·exact .inl U
 exact .inr U
theorem Ll{α:Type}{p:α->Prop}{a b c d:α}(h0:0<=r)(h1:r<4)(ha:p a)(hb:p b)(hc:p c)(hd:p d):∃x,iJ [a,b,c,d] r\x/\p x:=by
 have:r=0∨r=1∨r=2∨r=3:=by omega
 rcases this with rfl|rfl|rfl|rfl
 ·exact#[_,U,ha]
 ·exact#[_,U,hb]
 ·exact#[_,U,hc]
 exact#[_,U,hd]
theorem jN{K:ai}{H H':Hp}{l:Addr}{ys:ag}{ks:List aC}(t:bR K H ys ks)(b:bz l H H'){xs:ag}(hl:H l\.lst xs):bR K H' ys ks:=Paired.aU t λy k ⟨a,z,q⟩=>#[a,z,b _ _ q (bK q hl nofun)]
variable{D:Addr}{ns:af}
theorem TU{K:ai}{H:Hp}(h:H D\.lst (ns.map V.str)):rL K rS H (.ref D) ns:=#[D,_,U,.of h,Nn ns]
theorem fp_{K:ai}{a:Addr}{ys:ag}{hs:Xa}{H:Hp}{Q:VK}{pE:St}(si:pE=[none,none])(ha:H a\.lst ys)(tu:bR K H ys (hs.map kH))(h8:hs.length<=1000)(hD:H D=none)(q:∀H',aa H H'->H' D\.lst ((hs.map (·.1)).map V.str)->Q (.ref D) H'):Bu (yb K a) (gM K 2 (pS (ko 0) (pS (ko 1) sM))) qg (oG 0) pE D H Q:=by
 let sz:=cU;let le:=bj tu;rw[ao] at le;apply kD (own:=2) (fv:=[]) (xs:=ys) si zU (λi out H'=>aa H H'/\H' D\.lst out/\out=((hs.take i).map (·.1)).map V.str) #[aa.new hD,ay,U] (λi out H' _ ⟨sm,_,_⟩=>.of (sm _ _ ha)) (λout H4 ⟨sm,oY,eo⟩=>?_) (λj y out H' hy ⟨sm,dM,eo⟩=>?_)
 ·rw[le,eG] at eo;subst eo;exact q _ sm oY
 let#[h,hh,p,rfl,hp]:=ou tu hy;apply#[_,#[p,_,_,U,.of (sm _ _ (sj hp)),U],U,λNx hN=>fU ?_];apply#[_,U,out,dM,?_,hN _ _ #[fQ sm hD,ay,?_]]
 ·rw[eo,ao,ao,dR];omega
 rw[x6 _ hh,fe,eo];rfl
def kO(t:Str × Str):aC:=kT (aF t.1 t.2)
structure TI (ns:af) (k j:Nat) (ts:Xb):Prop where
 at':∀t∈ts,∃(a b:Nat) (x y:Str),b<a/\(a<k∨(a=k/\b<j))/\ns[a]? = some x/\ns[b]? = some y/\(t=(x,y)∨t=(y,x))
 nd:(ts.map kO).Nodup
 len:ts.length<=7 * k+j
variable{j k:Nat}
theorem TI.skip{ts:Xb}(h:TI ns k j ts):TI ns k (j+1) ts:=
 #[λt ht=>let #[a,b,x,y,h1,h2,h3,h4,h5]:=h.at' t ht;#[a,b,x,y,h1,by omega,h3,h4,h5],h.nd,by have:=h.len;omega]
theorem TI.next{ts:Xb}(h:TI ns k k ts)(h7:k<=7):TI ns (k+1) 0 ts:=
 #[λt ht=>let #[a,b,x,y,h1,h2,h3,h4,h5]:=h.at' t ht;#[a,b,x,y,h1,by omega,h3,h4,h5],h.nd,by have:=h.len;omega]
theorem Ht{a b:Str × Str}(h:kT a=kT b):a=b:=by
 unfold kT at h;let#[h1,h2]:=List.cons.inj h;let#[h2,_]:=List.cons.inj h2;exact Prod.ext (iu h1) (iu h2)
variable{x:Str}
theorem Fq(nd:ns.Nodup){i:Nat}(h:ns[i]? = some x)(h2:ns[j]? = some x):i=j:=by
 let#[hi,e1]:=bZ.mp h;let#[hj,e2]:=bZ.mp h2;exact (List.getElem_inj nd).mp (e1.trans e2.symm)
variable{b:Str}
theorem QP{a c d:Str}(h:kO (a,b)=kO (c,d)):(a=c/\b=d)∨(a=d/\b=c):=by
 let h:=Ht h;dsimp only at h;rcases BF a b with e|e<;>rcases BF c d with e2|e2<;>rw[e,e2] at h<;>let h1:=(Prod.mk.inj h).1<;>let h2:=(Prod.mk.inj h).2
 ·exact .inl #[h1,h2]
 ·exact .inr #[h1,h2]
 ·exact .inr #[h2,h1]
 exact .inl #[h2,h1]
theorem TI.add{ts:Xb}(h:TI ns k j ts)(nd:ns.Nodup){y:Str}{t:Str × Str}(hj:j<k)(hx:ns[k]? = some x)(hy:ns[j]? = some y)(ht:t=(x,y)∨t=(y,x))(q:Nat):TI ns k (j+1) (pU ts q t):=by
 apply#[λu hu=>?_,?_,by have:=h.len;rw[NA];omega]
 ·rcases bW.mp ((FA _ _ _).mem_iff.mp hu) with rfl|hu
  ·exact#[k,j,x,y,hj,.inr #[U,by omega],hx,hy,ht]
  exact h.skip.at' u hu
 apply ((FA ts q t).map kO).nodup_iff.mpr ?_;rw[eY];apply jk.mpr #[λm=>?_,h.nd];let#[u,hu,e]:=br.mp m;let#[a,b,c,d,h1,h2,h3,h4,h5]:=h.at' u hu
 have key:(c=x/\d=y)∨(c=y/\d=x):=by
  rcases h5 with rfl|rfl<;>rcases ht with rfl|rfl<;>rcases QP e with⟨q1,q2⟩|⟨q1,q2⟩<;>simp_all
 rcases key with⟨rfl,rfl⟩|⟨rfl,rfl⟩
 ·have:=Fq nd h3 hx;have:=Fq nd h4 hy;omega
 have:=Fq nd h3 hy;have:=Fq nd h4 hx;omega
theorem TI.good{ts:Xb}(h:TI ns k j ts)(nd:ns.Nodup)(ok:∀n∈ns,ix n=true):∀t∈ts,v_ t/\t.1∈ns/\t.2∈ns:=λt ht=>by
 let#[a,b,x,y,h1,h2,h3,h4,h5]:=h.at' t ht;let mx:=cy h3;let my:=cy h4
 have ne:x≠y:=λe=>by
  subst e;have:=Fq nd h3 h4;omega
 rcases h5 with rfl|rfl
 ·exact#[#[ok _ mx,ok _ my,ne],mx,my]
 exact#[#[ok _ my,ok _ mx,ne.symm],my,mx]
theorem _x(ns:af)(k:Nat):dX (ns.map V.str) none (some (k:Int))=(ns.take k).map V.str:=by
 unfold dX;rw[HT.eS,HT.d8,List.drop_zero,Nat.sub_zero,List.map_take,ao];by_cases h:k<=ns.length
 ·rw[Nat.min_eq_left h]
 rw[Nat.min_eq_right Z1,uJ (by rw[ao];omega),uJ (by rw[ao];omega)]
theorem dQ.same{H H':Hp}{l:Addr}(h:dQ H l)(s:aa H H'):dQ H' l:=by
 rcases h with⟨n,e⟩|⟨n,m,c,e⟩
 ·exact .inl #[n,s _ _ e]
 exact .inr #[n,m,c,s _ _ e]
theorem hk_{a:Str}(h:y9 a b=true):y9 b a=false:=Tn (a:=Sum.inr a) (b:=Sum.inr b) h
theorem YJ{a:Str}(h:y9 a b=false)(h2:y9 b a=false):a=b:=iu (Rl (a:=Sum.inr a) (b:=Sum.inr b) h h2)
theorem Ny(a b:Str):aF a b=aF b a:=by
 unfold aF;by_cases h:y9 a b=true
 ·rw[aI h,aA (by rw[hk_ h];decide)]
 by_cases h2:y9 b a=true
 ·rw[aA h,aI h2]
 have:=YJ ⇑h ⇑h2;subst this;rw[aA h]
theorem IA{ts:Xb}{x:Str × Str}:x∈bQ ts ↔ ∃t∈ts,aF t.1 t.2=x:=by
 have e:kT x∈(bQ ts).map kT ↔ x∈bQ ts:=#[λh=>by
  let#[y,hy,e]:=br.mp h;rw[<- Ht e];exact hy,λh=>br.mpr #[x,h,U]]
 rw[<- e,NY,(tL _).mem_iff,br];exact#[λ⟨t,ht,q⟩=>#[t,ht,Ht q],λ⟨t,ht,q⟩=>#[t,ht,by rw[q]]]
theorem Zx(a b:Str):kO (a,b)=kO (b,a):=by
 show kT (aF a b)=kT (aF b a);rw[Ny]
variable{f:Addr}{fd:Ae}
section v
theorem IL:bN [hG,"_law_base",ur,"_law_number"] xN (a9 lM):=bT
theorem _t(F:bC K wb wb lM f fd)(B:Bi mg):!au bh 1 f fd xN AE:=by
 exists F.bS IL;let#[l,b,rfl,h0,h1,st,k]:=h
 apply#[_,av (b_ (fg Ew (cZ h_ (by rfl) B.len gF %[0|0]) aD)
   (aE (kC (om l_ PySem.F.slot_list_extend PySem.F.type_list_extend Tp (pv 0) %[fE %[bJ Aw (bw hJ (pv 0) aD) aD,aD|0]|0]))) cg)
  (av (b_ (fg GW (bw hJ (pv 0) aD) aD)
   (av (bo 2 IL.nd (bJ Aw (bw hJ (pv 0) aD) (pv 1)))
   (av (L_ (bJ Fe (bw hJ (pv 0) aD) (pv 1)) (QV (pv 0) aD S7))
   (aE (bu (pv 2))))) cg)
  (av (L_ (bJ ia (bw hJ (pv 0) aD) aD) (QV (pv 0) aD S7))
  (av (bo 3 IL.nd (bJ Aw (bJ iz (bJ ia (bJ ia (bw hJ (pv 0) aD) (bJ iz aD (bw hJ (pv 0) aD))) aD) aD) aD))
  (av (bo 3 IL.nd (bJ Aw (bJ iz (pv 3) (bJ ia (bJ Fe (pv 3) aD) aD)) aD))
  (aE (bu (bJ Aw (bJ Aw (bJ iz (pv 3) (bJ ia (bJ Fe (pv 3) aD) aD)) aD) (pv 1)))))))),?_]
 rcases st with⟨n,oX⟩|⟨n,m,c,hl⟩
 case' inl=>
  apply#[_,U,l,_,U,.inl (.of oX),U,_,U,dD ?_];apply#[_,U,.inl #[U,_,.of oX],_,U,l,_,_,_,U,U,.of oX,U,_,_,U,U,by show (0:Int)<2147483647;decide,zl,λq hq=>?_];apply#[l,q,_,_,U,U,aa.new hq _ _ oX,ay,by show 1+2<=sizeLine;decide,?_];have bt:bz l H (upd (upd H q (.lst [.int (n % 2147483647),.int 0])) l (.lst ([.int n]++[.int (n % 2147483647),.int 0]))):=(bz.of (aa.new hq)).trans bz.upd;have hl:(upd (upd H q (.lst [.int (n % 2147483647),.int 0])) l (.lst ([.int n]++[.int (n % 2147483647),.int 0]))) l\.lst [.int n,.int (n % 2147483647),.int 0]:=ay;generalize (upd (upd H q (.lst [.int (n % 2147483647),.int 0])) l (.lst ([.int n]++[.int (n % 2147483647),.int 0])))=H1 at bt hl ⊢
 case' inr=>
  apply#[_,U,l,_,U,.inl (.of hl),U,_,U,aL ?_];let bt:=bz.refl l H
 all_goals
  apply#[_,U,l,_,_,_,U,U,.of hl,U,_,_,U,U,_,U,?_];apply bY (λc=>?_) (λc=>?_)
  ·apply#[_,U,l,_,_,_,U,U,.of hl,U,_,U,_,_,U,U,h0,?_];apply#[_,U,l,_,_,_,U,U,.of hl,U,_,U,_,_,U,U,#[h0,h1],_,U,l,_,_,0,U,U,hl,U,?_];exact#[_,U,k _ _ (Int.emod_nonneg _ Z1) (Int.emod_lt_of_pos _ h0) (bt.trans bz.upd) (.inr #[_,_,_,ay])]
  apply#[_,U,l,_,_,_,U,U,.of hl,U,_,_,U,U,_,U,l,_,_,2,U,U,hl,U,?_];apply#[_,U,l,_,_,_,U,U,.of ay,U,_,U,l,_,_,_,U,U,.of ay,U,_,_,U,U,.inl #[by decide,by decide],_,_,U,U,_,_,U,U,_,_,U,U,.inr #[by decide,by decide],_,_,U,U,by show (0:Int)<2147483647;decide,?_];apply#[_,U,_,U,_,_,U,U,#[by decide,by decide],_,_,U,U,_,_,U,U,.inl (small _),_,_,U,U,by show (0:Int)<2147483647;decide,?_];apply#[_,U,_,U,_,_,U,U,#[by decide,by decide],_,_,U,U,_,_,U,U,.inl (small _),_,_,U,U,by show (0:Int)<2147483399;decide,_,U,_,_,U,U,h0,?_];exact k _ _ (Int.emod_nonneg _ Z1) (Int.emod_lt_of_pos _ h0) (bt.trans bz.upd) (.inr #[_,_,_,ay])
theorem Ia:bN [hG,ur,"_law_k"] [hG] (a9 lG):=bT
def MY:Sp:=λvs H Q _=>∃(l:Addr),vs=[.ref l]/\dQ H l/\∀x H',ix x=true->bz l H H'->dQ H' l->Q (.str x) H'
theorem _C(F:bC K "_law_name" "_law_name" lG f fd)(B:Bi mg)(cD:!bx 1 wb xN AE):!au bh 2 f fd [hG] MY:=by
 exists F.bS Ia;let#[l,rfl,st,k]:=h;let sz:=cU
 apply#[_,av (bo 1 Ia.nd xU)
  (av (d_ dI U (AC (by rfl) B.range %[bJ ia aD (bc cD hr %[0,aD|0])|0]) (cm 2 Ia.nd)
   (aE (bo 1 Ia.nd (bJ fl_ (pv 1) (bw YA xU (bc cD hr %[0,aD|0]))))))
  (aE (bu (pv 1)))),?_]
 apply#[_,U,l,8,U,by decide,by decide,st,λr H1 r0 r8 b1 uW=>?_];apply#[_,_,U,U,_,U,by show (-(2 ^ 62):Int)<=1+r;omega,by show 1+r<(2 ^ 62:Int);omega,?_];apply BG (lo:=0) (n:=(1+r).toNat) (λi σ H2=>∃(x:Str) (v:aJ),σ=[some (.ref l),some (.str x),v]/\x.length=i/\x.cps.toList.all oR=true/\bz l H H2/\dQ H2 l) #["",none,U,U,U,b1,uW] ?_ ?_
 ·rintro i σ H2 hi ⟨x,v,rfl,hx,ho,b2,gn⟩;apply#[_,U,_,U,l,26,U,by decide,by decide,gn,λq H3 q0 WK b3 iC=>?_];let#[c,hc,oc]:=Yx q0 WK;apply#[_,_,_,U,U,by decide +kernel,hc,_,_,U,U,?_,_,_,U,?_,?_,b2.trans b3,iC]
  ·have:(⟨(List.toArray [c])⟩:Str).length=1:=rfl;omega
  ·have e:(x++(⟨(List.toArray [c])⟩:Str)).cps.toList=x.cps.toList++[c]:=PySem.W.KT.app_list _ _;have:(x++(⟨(List.toArray [c])⟩:Str)).length=(x++(⟨(List.toArray [c])⟩:Str)).cps.toList.length:=by rw[pf];rfl
   rw[this,e,eI,pf];show x.length+1=i+1;omega
  have e:(x++(⟨(List.toArray [c])⟩:Str)).cps.toList=x.cps.toList++[c]:=PySem.W.KT.app_list _ _;rw[e,List.all_append,ho];simp[oc]
 rintro σ H2 ⟨x,v,rfl,hx,ho,b2,gn⟩;apply#[_,U,k x H2 ?_ b2 gn];unfold ix;rw[ho,cz (show 1<=x.length by omega),cz (show x.length<=8 by omega)];rfl
theorem Fh:bN [hG,"_law_most",ur,"_law_k","_law_name_here",xP] [hG,"_law_most"] (a9 Nr):=bT
def Ug(K:ai):Sp:=λvs H Q _=>∃(l:Addr) (m:Nat),vs=[.ref l,.int m]/\1<=m/\m<=8/\dQ H l/\∀(a:Addr) (ys:ag) (hs:Xa) (H':Hp),bz l H H'->dQ H' l->H a=none->H' a\.lst ys->bR K H' ys (hs.map kH)->(∀h∈hs,oi h)->(hs.map (·.1)).Nodup->1<=hs.length->hs.length<=m->Q (.ref a) H'
theorem gk_(F:bC K "_law_hands" "_law_hands" Nr f fd)(B:Bi mg)(cD:!bx 1 wb xN AE)(cN:!bx 2 "_law_name" [hG] MY):!au bh 3 f fd [hG,"_law_most"] (Ug K):=by
 exists F.bS Fh;let#[l,m,rfl,m1,m8,st,k]:=h;let sz:=cU
 apply#[_,av (bo 2 Fh.nd (fE bF))
  (av (d_ dI U (AC (by rfl) B.range %[bJ ia aD (bc cD hr %[0,1|0])|0]) (cm 3 Fh.nd)
   (av (bo 4 Fh.nd (bc cN hr %[0|0]))
   (aE (b_ (fg (TV iq (ml hr 0)) (pv 4) (ku ["_law_one",xP] 2 [] (dF (pv 2)) (λfp s H=>Fv (n:=2) (dH (gg (i:=0) (show (["_law_one",xP]:af).Nodup by decide +kernel) U (Or.inl U)) (dH (gg (i:=1) (show (["_law_one",xP]:af).Nodup by decide +kernel) U (Or.inl U)) iK)))
     (λfp s H=>mE) (λfp s H=>pv 0)) (by with_unfolding_all rfl))
    (av (bo 5 Fh.nd (bw hJ (fE %[aD,bJ ia aD (bc cD hr %[0,aD|0]),bJ ia aD (bc cD hr %[0,aD|0]),aD|0]) (bc cD hr %[0,aD|0])))
    (aE (kC (om l_ PySem.F.slot_list_insert PySem.F.type_list_insert T4 (pv 2) %[bc cD hr %[0,bJ ia (cZ h_ (by rfl) B.len gF %[2|0]) aD|0],iA %[4,5|0]|0]))))
    cg))))
  (aE (bu (pv 2)))),?_]
 apply#[zl,λa ha=>?_];let#[Pe,oX]:=st.some;have gx:l≠a:=bq oX ha
 have V6:dQ (upd H a (.lst [])) l:=by
  unfold dQ;rw[aw gx];exact st
 apply#[_,U,_,U,l,m,U,by omega,by omega,V6,λr H1 r0 r8 b1 uW=>?_];apply#[_,_,U,U,_,U,by show (-(2 ^ 62):Int)<=1+r;omega,by show 1+r<(2 ^ 62:Int);omega,?_]
 apply BG (lo:=0) (n:=(1+r).toNat) (λi σ H2=>∃(v3 v4 v5:aJ) (ys:ag) (hs:Xa),σ=[some (.ref l),some (.int m),some (.ref a),v3,v4,v5]/\bz l H H2/\dQ H2 l/\H2 a\.lst ys/\bR K H2 ys (hs.map kH)/\(∀h∈hs,oi h)/\(hs.map (·.1)).Nodup/\hs.length<=i/\(1<=i->1<=hs.length))
  #[none,none,none,[],[],U,(bz.of (aa.new ha)).trans b1,uW,b1 _ _ ay gx.symm,.nil,by simp,.nil,a_ _,by omega] ?_ ?_
 ·rintro i σ H2 hi ⟨v3,v4,v5,ys,hs,rfl,b2,gn,n5,tu,good,nd,le,ge⟩;have i8:i<8:=by omega
  apply#[_,U,l,U,gn,λx H3 nx b3 iC=>?_];let jC:=b3 _ _ n5 gx.symm;let#[Vg,jd]:=gn.some;let Po:=jN tu b3 jd;apply#[_,U,_,U,a,U,#[_,.of jC],λD hD=>?_];let Ql:=bj tu;rw[ao] at Ql;apply kD (own:=2) (fv:=[]) (xs:=ys) U zU (λi out H'=>aa H3 H'/\H' D\.lst out/\out=((hs.take i).map (·.1)).map V.str) #[aa.new hD,ay,U] (λi out H' _ ⟨sm,_,_⟩=>.of (sm _ _ jC)) (λout H4 ⟨sm,oY,eo⟩=>?_) (λj y out H' hy ⟨sm,dM,eo⟩=>?_)
  ·rw[Ql,eG] at eo;subst eo;let jB:=sm _ _ jC;have b4:bz l H H4:=(b2.trans b3).trans (bz.of sm)
   have iN:dQ H4 l:=by
    rcases iC with⟨n,e⟩|⟨n,m,c,e⟩
    ·exact .inl #[n,sm _ _ e]
    exact .inr #[n,m,c,sm _ _ e]
   let yg:=Po.same sm;apply#[x,_,U,TU oY,_,U,?_];apply bY (λc=>?_) (λc=>?_)
   ·have Km:x∉hs.map (·.1):=⇑c
    apply#[_,U,l,9,U,by decide,by decide,iN,λr1 H5 q0 q1 b5 iM=>#[_,_,U,U,?_]];apply#[_,U,l,1000,U,by decide,by decide,iM,λr2 H6 q2 q3 b6 j8=>#[_,_,U,U,?_]];apply#[zl,λp hp=>?_];let#[Pd,pN]:=j8.some;have lp:l≠p:=bq pN hp
    have kI:dQ (upd H6 p (.lst [.int 1,.int (1+r1),.int (1+r2),.int 1000])) l:=by
     unfold dQ;rw[aw lp];exact j8
    apply#[_,U,l,4,U,by decide,by decide,kI,λr3 H8 q4 q5 b8 CB=>?_];let hp8:=b8 _ _ (show upd H6 p (.lst [.int 1,.int (1+r1),.int (1+r2),.int 1000]) p=_ from ay) lp.symm;let#[y,hy,n,en,n1,n2]:=Ll (p:=λy:V=>∃n:Int,y=.int n/\1<=n/\n<=1000) (a:=V.int 1) (b:=.int (1+r1)) (c:=.int (1+r2)) (d:=.int 1000) q4 q5 #[1,U,by decide,by decide] #[_,U,by omega,by omega] #[_,U,by omega,by omega] #[1000,U,by decide,by decide];subst en;apply#[p,_,_,_,U,U,.of hp8,hy,?_];have OJ:bz l H4 H8:=((b5.trans b6).trans (bz.of (aa.new hp))).trans b8;let#[Ve,Ek]:=iN.some;let LJ:=OJ _ _ jB gx.symm;let VP:=jN yg OJ Ek;apply#[_,U,.inl #[U,_,.of LJ],_,U,_,U,a,_,U,.inl (.of LJ),_,_,U,U,l,_,U,by show (0:Int)<(ys.length:Int)+1;omega,by show (ys.length:Int)+1<1073741824;omega,CB,λr4 H9 q6 q7 b9 AZ=>?_];have q7:r4<(ys.length:Int)+1:=q7;let#[xs8,hl8]:=CB.some;let LI:=b9 _ _ LJ gx.symm;let VO:=jN VP b9 hl8;apply#[_,U,_,U,zl,λt ht=>?_];let jr:=aa.new (o:=.tup [.str x,.int n]) ht;apply#[a,r4.toNat,ys,.ref t,U,by rw[Int.toNat_of_nonneg q6],jr _ _ LI,by omega,by omega,?_]
    have hl9:∃xs,upd H9 t (.tup [.str x,.int n]) l\.lst xs:=by
     let#[xs,e]:=AZ.some;exact#[xs,jr _ _ e]
    have tt:upd H9 t (.tup [.str x,.int n]) t\.tup ((kH (x,n)).map kV):=ay;have ta:t≠a:=(bq LI ht).symm;apply#[_,_,_,_,pU hs r4.toNat (x,n),U,?_,?_,ay,?_,?_,?_,?_,?_]
    ·intro b o e ne;rw[aw (bq e ha)];exact jr _ _ (b9 _ _ (OJ _ _ (b4 _ _ e ne) ne) ne)
    ·unfold dQ;rw[aw gx,aw (bq (AZ.some.choose_spec) ht)];exact AZ
    ·rw[S1];exact IF (NI _ (VO.same jr) #[t,U,tt]) (jr _ _ LI)
    ·intro h hh;rcases bW.mp ((FA _ _ _).mem_iff.mp hh) with rfl|hh
     ·exact#[nx,n1,n2]
     exact good h hh
    ·apply ((FA hs _ _).map _).nodup_iff.mpr ?_;rw[eY];exact jk.mpr #[Km,nd]
    ·rw[NA];omega
    intro _;rw[NA];omega
   apply#[_,_,_,_,hs,U,b4,iN,jB,yg,good,nd,by omega,λ_=>?_];have Vc:x∈hs.map (·.1):=⇑c
   have:=List.length_pos_of_mem Vc;rw[ao] at this;omega
  let#[h,hh,p,rfl,hp]:=ou Po hy;apply#[_,#[p,_,_,U,.of (sm _ _ (sj hp)),U],U,λNx hN=>fU ?_];apply#[_,U,out,dM,?_,hN _ _ #[fQ sm hD,ay,?_]]
  ·rw[eo,ao,ao,dR];omega
  rw[x6 _ hh,fe,eo];rfl
 rintro σ H2 ⟨v3,v4,v5,ys,hs,rfl,b2,gn,n5,tu,good,nd,le,ge⟩;exact#[_,U,k a ys hs H2 b2 gn ha n5 tu good nd (ge Z1) Z1]
theorem AD:bN [hG,jL,"_law_names","_law_few",ur,"_law_k","_law_other","_law_tie"] [hG,jL] (a9 lF):=bT
inductive Nq (K:ai) (vs:ag) (H:Hp) (Q:VK) (E:XK):Prop
 |mk:∀(l lh:Addr) (ys:ag) (hs:Xa),vs=[.ref l,.ref lh]->dQ H l->H lh\.lst ys->bR K H ys (hs.map kH)->(∀n∈hs.map (·.1),ix n=true)->(hs.map (·.1)).Nodup->hs.length<=8->lh≠l->(∀(a:Addr) (zs:ag) (ts:Xb) (H':Hp),bz l H H'->dQ H' l->H a=none->H' a\.lst zs->bR K H' zs (ts.map kT)->(∀t∈ts,v_ t/\t.1∈hs.map (·.1)/\t.2∈hs.map (·.1))->(ts.map kO).Nodup->ts.length<64->Q (.ref a) H')->Nq K vs H Q E
theorem ZL(F:bC K "_law_ties" "_law_ties" lF f fd)(B:Bi mg)(cD:!bx 1 wb xN AE):!au bh 2 f fd [hG,jL] (Nq K):=by
 exists F.bS AD;let#[l,lh,ys,hs,rfl,st,eW,tu,WZ,nd,h8,lV,k]:=h;let sz:=cU
 apply#[_,av (Ms (i:=2) Br 2 [] AD.nd U (Or.inl U) (dF (pv 1)) (λfp s H=>Fv (n:=2) (dH (gg (i:=0) (show (Br:af).Nodup by decide +kernel) U (Or.inl U)) (dH (gg (i:=1) (show (Br:af).Nodup by decide +kernel) U (Or.inl U)) iK)))
     (λfp s H=>mE) (λfp s H=>pv 0))
  (av (bo 3 AD.nd (bJ ia aD (bc cD hr %[0,aD|0])))
  (av (bo 4 AD.nd (fE bF))
  (av (d_ dI U (AC (by rfl) B.range %[cZ h_ (by rfl) B.len gF %[2|0]|0]) (cm 5 AD.nd)
   (aE (d_ dI U (dF (Ay Mz (pv 2) AH (AI (pv 5)))) (cm 6 AD.nd)
    (aE (b_ (fg Qr (bc cD hr %[0,aD|0]) (pv 3))
     (av (bo 7 AD.nd (bw hJ (fE %[iA %[bw hJ (pv 2) (pv 5),6|0],iA %[6,bw hJ (pv 2) (pv 5)|0]|0]) (bc cD hr %[0,aD|0])))
     (aE (kC (om l_ PySem.F.slot_list_insert PySem.F.type_list_insert T4 (pv 4) %[bc cD hr %[0,bJ ia (cZ h_ (by rfl) B.len gF %[4|0]) aD|0],7|0]))))
     cg)))))
  (aE (bu (pv 4)))))),?_]
 apply#[_,U,lh,U,#[_,.of eW],λln xA=>?_];apply fp_ U eW tu Z1 xA λH1 s1 hn1=>?_
 let ns:af:=hs.map (·.1)
 have n8:ns.length<=8:=by show (hs.map (·.1)).length<=8;rw[ao];exact h8
 let uW:=st.same s1;apply#[_,U,l,3,U,by decide,by decide,uW,λr H2 r0 r3 b2 gn=>#[_,_,U,U,?_]];let#[Vj,eX]:=uW.some
 have Gz:ln≠l:=λe=>by
  subst e;let#[xs,e2]:=st.some;rw[xA] at e2;cases e2
 let xy:=b2 _ _ hn1 Gz;apply#[zl,λa ha=>?_];let#[Vg,jd]:=gn.some;have gx:l≠a:=bq jd ha;have XI:ln≠a:=bq xy ha;have s3:aa H2 (upd H2 a (.lst [])):=aa.new ha
 have oa:H a=none:=by
  cases z:H a with
  |none=>rfl
  |some o=>
   have:=b2 _ _ (s1 _ _ z) gx.symm;rw[ha] at this;cases this
 apply#[_,U,ln,_,U,.inl (.of (s3 _ _ xy)),_,U,by show (-(2 ^ 62):Int)<=((ns.map V.str).length:Int);omega,by show (((hs.map (·.1)).map V.str).length:Int)<2 ^ 62;rw[ao,ao];omega,?_]
 let Iv:Nat->Nat->Hp->Prop:=λkk j H'=>∃zs ts,bz l H H'/\dQ H' l/\H' ln\.lst (ns.map V.str)/\H' a\.lst zs/\bR K H' zs (ts.map kT)/\TI ns kk j ts
 have le:(ns.map V.str).length=ns.length:=ao _
 apply BG (lo:=0) (n:=((ns.map V.str).length:Int).toNat) (λi σ H'=>∃(v5 v6 v7:aJ),σ=[some (.ref l),some (.ref lh),some (.ref ln),some (.int (1+r)),some (.ref a),v5,v6,v7]/\Iv i 0 H')
  #[none,none,none,U,[],[],((bz.of s1).trans b2).trans (bz.of s3),gn.same s3,s3 _ _ xy,ay,.nil,#[by simp,.nil,gB _]] ?_ ?_
 ·rintro i σ H4 hi ⟨v5,v6,v7,rfl,U3,VS,b4,iN,zA,jB,yg,VU⟩;rw[Int.zero_add];have hi:i<ns.length:=by omega
  apply#[_,U,_,U,_,U,ln,_,U,.of zA,λp hp=>?_];rw[_x];have s5:aa H4 (upd H4 p (.lst ((ns.take i).map V.str))):=aa.new hp
  have lp:l≠p:=by
   let#[xs,e]:=iN.some;exact bq e hp
  have pln:ln≠p:=bq zA hp;have pa:p≠a:=(bq jB hp).symm
  apply#[p,U,#[_,.of ay],gh (K:=K) (a:=p) (xs:=(ns.take i).map V.str) (λj σ H'=>∃(v6 v7:aJ),σ=[some (.ref l),some (.ref lh),some (.ref ln),some (.int (1+r)),some (.ref a),some (.int i),v6,v7]/\H' p\.lst ((ns.take i).map V.str)/\Iv i j H')
   #[_,_,U,ay,U3,VS,b4.trans (bz.of s5),iN.same s5,s5 _ _ zA,s5 _ _ jB,yg.same s5,VU] (λj σ H' _ ⟨_,_,_,q,_⟩=>.of q) ?_ ?_]
  ·rintro j y σ H6 hy ⟨v6,v7,rfl,Re,uN,AX,b6,j8,zy,vL,t7,t_⟩;let#[o,ho,rfl]:=mz hy
   have hj:j<i:=by
    have:=(bZ.mp ho).1;rw[dR] at this;omega
   have ho:ns[j]? = some o:=by
    rw[List.getElem?_take_of_lt hj] at ho;exact ho
   have hx:ns[i]? = some ns[i]:=aX hi
   have EE:iJ (ns.map V.str) (i:Int)\.str ns[i]:=by
    rw[d0 Z1 (by rw[ao];omega),x_,dG,hx];rfl
   apply#[_,U,l,4,U,by decide,by decide,j8,λr2 H7 q0 q1 b7 kI=>#[_,U,_,_,U,U,_,U,?_]];let#[Pd,pN]:=j8.some;let zx:=b7 _ _ zy Gz;let RI:=b7 _ _ vL gx.symm;let Rc:=b7 _ _ Re lp.symm;let Pn:=jN t7 b7 pN;apply bY (λc=>?_) (λc=>?_)
   ·apply#[_,U,_,U,ln,_,_,_,U,U,.of zx,EE,_,U,zl,λt1 uc=>?_];let s8:=aa.new (o:=.tup [.str ns[i],.str o]) uc;apply#[_,U,_,U,_,U,ln,_,_,_,U,U,.of (s8 _ _ zx),EE,zl,λt2 A9=>?_];let s9:=aa.new (o:=.tup [.str o,.str ns[i]]) A9;apply#[zl,λlx oW=>?_];let CY:=aa.new (o:=.lst [.ref t1,.ref t2]) oW;let s7:=(s8.trans s9).trans CY;let jr:=kI.same s7;apply#[_,U,l,2,U,by decide,by decide,jr,λr3 O6 q2 q3 Jb CC=>?_]
    have Ku:lx≠l:=by
     let#[xs,e]:=(kI.same (s8.trans s9)).some;exact (bq e oW).symm
    let Ef:=Jb _ _ (show upd (upd (upd H7 t1 (.tup [.str ns[i],.str o])) t2 (.tup [.str o,.str ns[i]])) lx (.lst [.ref t1,.ref t2]) lx=_ from ay) Ku;let#[Vi,Em]:=jr.some;let D3:=CY _ _ (s9 _ _ (show upd H7 t1 (.tup [.str ns[i],.str o]) t1=_ from ay));let DZ:=CY _ _ (show upd (upd H7 t1 (.tup [.str ns[i],.str o])) t2 (.tup [.str o,.str ns[i]]) t2=_ from ay);let D0:=Jb _ _ D3 (bK D3 Em nofun);let DY:=Jb _ _ DZ (bK DZ Em nofun)
    have pick:∃(t:Addr) (tt:Str × Str),iJ [V.ref t1,V.ref t2] r3\.ref t/\O6 t\.tup ((kT tt).map kV)/\(tt=(ns[i],o)∨tt=(o,ns[i])):=by
     rcases zE (a:=V.ref t1) (b:=V.ref t2) q2 q3 with e|e
     ·exact#[t1,(ns[i],o),e,D0,.inl U]
     exact#[t2,(o,ns[i]),e,DY,.inr U]
    let#[t,tt,et,ht,etc]:=pick;apply#[lx,_,_,_,U,U,.of Ef,et,?_];have tH:bz l H7 O6:=(bz.of s7).trans Jb;let#[xs7,zC]:=kI.some;let zN:=tH _ _ RI gx.symm;let Lf:=tH _ _ zx Gz;let K9:=tH _ _ Rc lp.symm;let JA:=jN Pn tH zC;let lz:=bj t7;rw[ao] at lz;let tl:=t_.len;apply#[_,U,.inl #[U,_,.of zN],_,U,_,U,a,_,U,.inl (.of zN),_,_,U,U,l,_,U,by show (0:Int)<(uN.length:Int)+1;omega,by show (uN.length:Int)+1<1073741824;omega,CC,λr4 H12 q4 q5 BL JU=>?_];have q5:r4<(uN.length:Int)+1:=q5;let#[Vh,El]:=CC.some;let EJ:=BL _ _ zN gx.symm;let Le:=BL _ _ Lf Gz;let K8:=BL _ _ K9 lp.symm;let K1:=BL _ _ ht (bK ht El nofun);let Jz:=jN JA BL El;apply#[_,U,a,r4.toNat,uN,.ref t,U,by rw[Int.toNat_of_nonneg q4],EJ,by omega,by omega,?_];apply#[_,_,U,by rw[aw pa];exact K8,_,pU AX r4.toNat tt,?_,?_,by rw[aw XI];exact Le,ay,?_,t_.add nd hj hx ho etc _]
    ·intro b o e ne;rw[aw (bq e oa)];exact BL _ _ (tH _ _ (b7 _ _ (b6 _ _ e ne) ne) ne) ne
    ·unfold dQ;rw[aw gx];exact JU
    rw[S1];exact IF (NI _ Jz #[t,U,K1]) EJ
   exact#[_,_,U,Rc,uN,AX,b6.trans b7,kI,zx,RI,Pn,t_.skip]
  rintro σ H6 ⟨v6,v7,rfl,Re,uN,AX,b6,j8,zy,vL,t7,t_⟩;rw[ao,dR,Nat.min_eq_left Z1] at t_;exact#[_,_,_,U,uN,AX,b6,j8,zy,vL,t7,t_.next Z1]
 rintro σ H6 ⟨v5,v6,v7,rfl,uN,AX,b6,j8,zy,vL,t7,t_⟩;have:=t_.len;exact#[_,U,k a uN AX H6 b6 j8 oa vL t7 (t_.good nd WZ) t_.nd Z1]
end
end Ev
namespace HT
open PySem PySem.Spec PyProof.Rows
end HT
namespace L2
open PySem PySem.Spec PyProof.Rows
end L2
namespace Ev
open PySem L2
theorem Oe(ys:ag)(k:Nat):dX ys none (some (k:Int))=ys.take k:=by
 unfold dX;rw[HT.eS,HT.d8,List.drop_zero,Nat.sub_zero];by_cases h:k<=ys.length
 ·rw[Nat.min_eq_left h]
 rw[Nat.min_eq_right Z1,uJ (a_ _),uJ Z1]
theorem Tq(ys:ag)(k:Nat):dX ys (some (k:Int)) none=ys.drop k:=by
 unfold dX;rw[HT.d8,HT.eS];by_cases h:k<=ys.length
 ·rw[Nat.min_eq_left h,uJ (by rw[List.length_drop];omega)]
 rw[Nat.min_eq_right Z1,List.drop_eq_nil_of_le (a_ _),List.drop_eq_nil_of_le Z1,List.take_nil]
theorem UH{α β:Type}{F:α->β->Prop}:∀{ys:List α} {ks:List β} (n:Nat),Paired F ys ks->Paired F (ys.take n) (ks.take n)
 |_,_,0,_=>.nil
 |_,_,_+1,.nil=>.nil
 |_,_,n+1,.cons a t=>.cons a (UH n t)
theorem gR{α β:Type}{F:α->β->Prop}:∀{ys Pb:List α} {ks iQ:List β},Paired F ys ks->Paired F Pb iQ->Paired F (ys++Pb) (ks++iQ)
 |_,_,_,_,.nil,h=>h
 |_,_,_,_,.cons a t,h=>.cons a (gR t h)
theorem Es{α:Type}{p:α->Prop}{a b c:α}{r:Int}(h0:0<=r)(h1:r<3)(ha:p a)(hb:p b)(hc:p c):∃x,iJ [a,b,c] r\x/\p x:=by
 have:r=0∨r=1∨r=2:=by omega
 rcases this with rfl|rfl|rfl
 ·exact#[_,U,ha]
 ·exact#[_,U,hb]
 exact#[_,U,hc]
structure E9 (ts ws:Xb):Prop where
 good:∀w∈ws,v_ w
 nd:(ws.map kO).Nodup
 fV:∀w∈ws,kO w∈ts.map kO
 len:ws.length<=ts.length
theorem ZE{ts us ws:Xb}(good:∀t∈ts,v_ t)(nd:(ts.map kO).Nodup)(sub:us.Sublist ts)(p:Paired (λw u=>w=u∨w=(u.2,u.1)) ws us):E9 ts ws:=by
 have e:ws.map kO=us.map kO:=by
  clear sub
  induction p with
  |nil=>rfl
  |cons h _ ih=>
   rw[eY,eY,ih];rcases h with rfl|rfl
   ·rfl
   exact eF (·::_) (Zx _ _)
 apply#[λw hw=>?_,?_,λw hw=>?_,?_]
 ·let#[i,hi,ew]:=gH hw;let hl:=bj p;let q:=eO p i hi Z1;rw[ew] at q;let g:=good _ (sub.subset (mI (show i<us.length by omega)));rcases q with q|q
  ·rw[q];exact g
  rw[q];exact#[g.2.1,g.1,g.2.2.symm]
 ·rw[e];exact (sub.map kO).nodup nd
 ·have:kO w∈ws.map kO:=br.mpr #[w,hw,U];rw[e] at this;exact (sub.map kO).subset this
 rw[bj p];exact sub.length_le
def bU(K:ai)(H:Hp)(v:V):Option (Xb)->Prop
 |none=>v=.non
 |some ws=>∃a ys,v=.ref a/\H a\.lst ys/\bR K H ys (ws.map kT)
variable{K:ai}{H H':Hp}{v:V}{o:Option (Xb)}
theorem bU.same(h:bU K H v o)(s:aa H H'):bU K H' v o:=by
 cases o with
 |none=>exact h
 |some ws=>
  let#[a,ys,e,ha,t]:=h;exact#[a,ys,e,s _ _ ha,t.same s]
abbrev Pc:=Str × Int × Option (Xb)
def i7(K:ai)(H:Hp)(y:V)(p:Pc):Prop:=∃t v,y=.ref t/\H t\.tup [.str p.1,.int p.2.1,v]/\bU K H v p.2.2
abbrev jM(K:ai)(H:Hp)(ys:ag)(ps:List Pc):Prop:=Paired (i7 K H) ys ps
structure jW (ts:Xb) (p:Pc):Prop where
 nm:ix p.1=true
 w1:1<=p.2.1
 w2:p.2.1<=1000000000
 ws:∀ws,p.2.2\ws->E9 ts ws
variable{l:Addr}
theorem Zm{a:Addr}{ys:ag}{ks:List aC}(t:bR K H ys ks)(ha:H a\.lst ys)(st:dQ H l):a≠l:=λe=>by
 subst e;rcases st with⟨n,e⟩|⟨n,m,c,e⟩
 all_goals
  rw[ha] at e;have e:ys=_:=HO.lst.inj (cq e);subst e;cases t with
  |cons h _=>
   let#[b,z,_]:=h;cases z
theorem bU.but(h:bU K H v o)(b:bz l H H')(st:dQ H l):bU K H' v o:=by
 cases o with
 |none=>exact h
 |some ws=>
  let#[a,ys,e,ha,t]:=h;let#[xs,hl]:=st.some;exact#[a,ys,e,b _ _ ha (Zm t ha st),jN t b hl]
variable{y:V}{p:Pc}
theorem i7.but(h:i7 K H y p)(b:bz l H H')(st:dQ H l):i7 K H' y p:=by
 let#[t,v,e,ht,hv]:=h;let#[xs,hl]:=st.some;exact#[t,v,e,b _ _ ht (bK ht hl nofun),hv.but b st]
theorem i7.same(h:i7 K H y p)(s:aa H H'):i7 K H' y p:=by
 let#[t,v,e,ht,hv]:=h;exact#[t,v,e,s _ _ ht,hv.same s]
theorem bU.put{D:Addr}{xs:ag}{u:HO}(h:bU K H v o)(hD:H D\.lst xs)(ne:v≠.ref D):bU K (upd H D u) v o:=by
 cases o with
 |none=>exact h
 |some ws=>
  let#[a,ys,e,ha,t]:=h;subst e;exact#[a,ys,U,by rw[aw λz=>ne (by rw[z])];exact ha,IF t hD]
end Ev
abbrev aM:=List Ev.Pc
namespace Ev
open PySem L2
def jS(K:ai)(H:Hp)(v:V):Option Str->Prop
 |some x=>v=.str x
 |none=>∃t,fO K H v t/\PySem.W.kitOne K t (.type "str")\false
def DQ(ns:af):Option Str->Bool
 |some x=>decide (x∈ns)
 |none=>false
def Bs(hs:Xa)(ts:Xb):Option Str->Option Str->Bool
 |some x,some y=>decide (x∈hs.map (·.1))&&(decide (y∈hs.map (·.1))&&decide (y∈near (aN hs) (bQ ts) x))
 |_,_=>false
theorem Ol(hs:Xa)(ts:Xb)(x y:Str):Bs hs ts (some x) (some y)=(decide (x∈hs.map (·.1))&&(decide (y∈hs.map (·.1))&&decide (y∈near (aN hs) (bQ ts) x))):=rfl
variable{f:Addr}{fd:Ae}
variable{H' H0:Hp}
variable{D:Addr}{u:HO}{v:V}{o:Option (Xb)}
section v
inductive kX (K:ai) (C:Addr) (vs:ag) (H:Hp) (Q:VK) (E:XK):Prop
 |mk:∀(p:Addr) (v:V) (x:Option Str) (hs:Xa) (ts:Xb) (fp:aq),vs=[.ref p,v]->g_ K C H p hs ts fp->jS K H v x->Q (.bl (DQ (hs.map (·.1)) x)) H->kX K C vs H Q E
theorem Zs{C:Addr}(F:bC K "has_hand" "Web.has_hand" u5 f fd)(T:Txt K mg C)(B:Bi mg):!au bh 1 f fd oj (kX K C):=by
 exists F.bS w4;let#[p,v,x,hs,ts,fp,rfl,W,sv,k]:=h;let hu:=fN hr;let#[dx,d1,l2,d3,zs,as,rfl,h1,h2,h3,h4,h5,h6,h7]:=W.ex;apply#[_,aE (bu (tq (cZ mG (by rfl) B.ka kr %[1,mC (v:=.ty "str") (by rfl) B.str Hy U|0]) (uF (Hw (Bw hu (pv 1) (gc (pv 0) U)))))),?_];cases x with
 |some x=>
  cases (show v=.str x from sv);apply#[_,U,_,_,_,_,U,.str x,U,_,U,dD ?_];apply#[_,U,_,U,p,C,dx,_,_,U,h1,T.cl,T.nS,G7 _ _ _,d1,_,U,.k (k:=Sum.inr x) h2,?_];rw[HY];exact k
 |none=>
  let#[t,ty,e]:=sv;exact#[_,U,_,_,_,_,U,ty,e,_,U,aL k]
inductive HZ (K:ai) (C:Addr) (vs:ag) (H:Hp) (Q:VK) (E:XK):Prop
 |mk:∀(p:Addr) (v u:V) (x y:Option Str) (hs:Xa) (ts:Xb) (fp:aq),vs=[.ref p,v,u]->g_ K C H p hs ts fp->(aN hs).Nodup->jS K H v x->jS K H u y->Q (.bl (Bs hs ts x y)) H->HZ K C vs H Q E
theorem hU_{C:Addr}(F:bC K "are_tied" "Web.are_tied" qN f fd)(T:Txt K mg C)(cH:!bV C 1 "has_hand" oj (kX K C)):!au bh 2 f fd jP (HZ K C):=by
 exists F.bS yB;let#[p,v,u,x,y,hs,ts,fp,rfl,W,nd,sv,su,k]:=h;let hu:=fN hr;let#[dx,d1,l2,d3,zs,as,rfl,h1,h2,h3,h4,h5,h6,h7]:=id W.ex;have kh:(fo d1 l2 d3).lookup ("has_hand":Str)=none:=p0 _ _ _ Z0 Z0 Z0;apply#[_,aE (bu (tq (iZ cH T.cl hr (pv 0) %[1|0]) (tq (iZ cH T.cl hr (pv 0) %[2|0]) (uF (wk (LW iq (ml hr 0)) (pv 2) (ji hu (gc (pv 0) U) (pv 1)) (by with_unfolding_all rfl)))))),?_];apply#[_,U,p,dx,_,U,h1,kh,_,U,p,v,x,hs,ts,_,U,W,sv,_,U,?_];cases x with
 |none=>exact aL k
 |some x=>
  cases (show v=.str x from sv);apply bY (λc=>?_) (λc=>?_)
  ·have hx:x∈hs.map (·.1):=o9 c;let#[a,e1,ha]:=QS nd hx h6 h7;apply#[_,U,p,dx,_,U,h1,kh,_,U,p,u,y,hs,ts,_,U,W,su,_,U,?_];cases y with
   |none=>exact aL k
   |some y=>
    cases (show u=.str y from su);rw[Ol,cz hx,Bool.true_and] at k;apply bY (λc2=>?_) (λc2=>?_)
    ·have hy:y∈hs.map (·.1):=o9 c2;rw[cz hy,Bool.true_and] at k;apply#[_,U,_,U,p,C,dx,_,_,U,h1,T.cl,T.nN,QU _ _ _,_,U,d3,.ref a,U,?_,y,_,U,#[a,_,U,.of ha,Nn _],k];rw[<- e1];exact .k (k:=Sum.inr x) h5
    have hy:¬y∈hs.map (·.1):=λz=>c2 (cz z);rw[fC hy,Bool.false_and] at k;exact k
  have hx:¬x∈hs.map (·.1):=λz=>c (cz z);cases y with
  |none=>exact k
  |some y=>
   rw[Ol,fC hx,Bool.false_and] at k;exact k
theorem _u{hs:Xa}{ts ws:Xb}(G:Good hs ts)(W:E9 ts ws){t:Str × Str}(ht:t∈bQ ws):Bs hs ts (some t.1) (some t.2)=true:=by
 let#[x,hx,ex]:=IA.mp ht;let#[u,hu,eu]:=br.mp (W.fV x hx);have eo:aF u.1 u.2=t:=(Ht eu).trans ex
 have both:t.1∈hs.map (·.1)/\t.2∈hs.map (·.1)/\aF t.1 t.2=t:=by
  let#[g1,g2]:=G.uR u hu;rcases BF u.1 u.2 with e|e
  ·rw[<- eo,e];exact#[g1,g2,e]
  rw[<- eo,e];exact#[g2,g1,(Ny _ _).trans e]
 let#[m1,m2,m3]:=both;have m4:t.2∈near (aN hs) (bQ ts) t.1:=mF.mpr #[(fD hs).mem_iff.mpr m2,cz (by rw[m3];exact IA.mpr #[u,hu,eo])];rw[Ol,cz m1,cz m2,cz m4];rfl
theorem HX:bN ["web","ways","found","one","other"] ["web","ways"] (a9 lO):=bT
inductive Nk (K:ai) (C:Addr) (vs:ag) (H:Hp) (Q:VK) (E:XK):Prop
 |mk:∀(p:Addr) (v:V) (o:Option (Xb)) (hs:Xa) (ts:Xb) (fp:aq),vs=[.ref p,v]->g_ K C H p hs ts fp->Good hs ts->bU K H v o->(∀ws,o\ws->E9 ts ws)->(∀v' H',aa H H'->bU K H' v' (o.map bQ)->(∀a,v'=.ref a->H a=none)->Q v' H')->Nk K C vs H Q E
theorem hD_{C:Addr}(F:bC K "checked_ways" "checked_ways" lO f fd)(T:Txt K mg C)(cS:!bx 3 "sorted_ties" ["ties"] (MW K))(cT:!bV C 2 "are_tied" jP (HZ K C)):!au bh 4 f fd ["web","ways"] (Nk K C):=by
 exists F.bS HX;let#[p,v,o,hs,ts,fp,rfl,W,G,wy,gw,k]:=h;let hu:=fN hr;have iR:aO 2 _:=hr.mono (by decide)
 apply#[_,av (b_ (tG (Hs (pv 1))) (aE (bu Au)) cg)
  (av (bo 2 HX.nd (bc cS hr %[1|0]))
  (av (b_ (tG (Hs (pv 2))) gi cg)
  (av (d_ dI U (dF (pv 2)) (kq U (dH (cm 3 HX.nd) (dH (cm 4 HX.nd) iK)))
   (aE (b_ (fh (eZ (iZ cT T.cl iR (pv 0) %[3,4|0]))) gi cg)))
  (aE (bu (pv 2)))))),?_]
 cases o with
 |none=>
  cases (show v=.non from wy);exact#[_,U,_,U,dD (k .non H (aa.refl H) U (λa z=>by cases z))]
 |some ws=>
  let#[a,ys,rfl,ha,tu]:=wy;let Wo:=gw ws U;apply#[_,U,_,U,aL ?_];apply#[_,U,a,ys,ws,U,ha,tu,Wo.good,Wo.nd,by have:=Wo.len;have:=G.wX;omega,λl' zs H1 s1 hf eX tz=>?_];apply#[_,U,_,U,aL ?_];let W1:=W.same s1;let#[dx,d1,l2,d3,wJ,as,rfl,h1,h2,h3,h4,h5,h6,h7]:=id W1.ex;have kh:(fo d1 l2 d3).lookup ("are_tied":Str)=none:=p0 _ _ _ Z0 Z0 Z0;rw[<- NY] at tz;apply#[_,U,l',U,#[_,.of eX],gh (K:=K) (a:=l') (xs:=zs) (λi σ H2=>∃(v3 v4:aJ),σ=[some (.ref p),some (.ref a),some (.ref l'),v3,v4]/\H2=H1) #[none,none,U,U] (λi σ H2 _ ⟨_,_,_,e⟩=>by subst e;exact .of eX) ?_ ?_]
  ·rintro i y σ H2 hy ⟨v3,v4,rfl,rfl⟩;let#[t,ht,q,rfl,hq]:=ou tz hy;apply#[q,_,U,.of (GN hq),U,_,_,U,_,_,U,U,?_];apply#[_,U,p,dx,_,U,h1,kh,_,U,_,U,p,_,_,some t.1,some t.2,hs,ts,_,U,W1,G.rV,U,U,_,U,?_];rw[_u G Wo (cy ht)];apply aL ?_;exact#[_,_,U,U]
  rintro σ H2 ⟨v3,v4,rfl,rfl⟩;exact#[_,U,k (.ref l') _ s1 #[l',zs,U,eX,tz] (λc z=>by cases z;exact hf)]
def pJ(p:Pc):Pc:=(p.1,p.2.1,p.2.2.map bQ)
def pV(K:ai)(H0 H:Hp)(y:V)(p:Pc):Prop:=∃t v,y=.ref t/\H t\.tup [.str p.1,.int p.2.1,v]/\bU K H v p.2.2/\∀a,v=.ref a->H0 a=none
theorem pV.same{K:ai}{H:Hp}{y:V}{p:Pc}(h:pV K H0 H y p)(s:aa H H'):pV K H0 H' y p:=by
 let#[t,v,e,ht,hv,hn]:=h;exact#[t,v,e,s _ _ ht,hv.same s,hn]
theorem bU.up{K:ai}{H:Hp}(h:bU K H v o)(n1:∀xs,H D≠some (.lst xs))(n2:∀xs,H D≠some (.tup xs)):bU K (upd H D u) v o:=by
 cases o with
 |none=>exact h
 |some ws=>
  let#[a,ys,e,ha,t]:=h;exact#[a,ys,e,by rw[aw (λz:a=D=>n1 ys (z▸ha))];exact ha,Paired.aU t λy k ⟨b,z,q⟩=>#[b,z,by rw[aw (λz:b=D=>n2 _ (z▸q))];exact q]]
theorem pV.up{K:ai}{H:Hp}{y:V}{p:Pc}(h:pV K H0 H y p)(n1:∀xs,H D≠some (.lst xs))(n2:∀xs,H D≠some (.tup xs)):pV K H0 (upd H D u) y p:=by
 let#[t,v,e,ht,hv,hn]:=h;exact#[t,v,e,by rw[aw (λz:t=D=>n2 _ (z▸ht))];exact ht,hv.up n1 n2,hn]
theorem MO{ps:aM}{cs:ag}(nd:(ps.map (·.1)).Nodup)(hl:cs.length=ps.length):∀{j:Nat} {q:Pc} {c:V},ps[j]? = some q->cs[j]? = some c->aY ((ps.zip cs).map λq=>((Sum.inr q.1.1:Key),q.2)) (Sum.inr q.1)\c:=by
 induction ps generalizing cs with
 |nil=>
  intro j q c h;simp at h
 |cons p ps ih=>
  intro j q c h1 h2;cases cs with
  |nil=>cases hl
  |cons b cs=>
   rw[eY] at nd;let#[n1,n2]:=jk.mp nd;cases j with
   |zero=>
    have e1:p=q:=⇑h1
    have e2:b=c:=⇑h2
    subst e1 e2;exact AA U
   |succ j=>
    have h1:ps[j]? = some q:=⇑h1
    have h2:cs[j]? = some c:=⇑h2
    show aY ((Sum.inr p.1,b)::((ps.zip cs).map λq=>((Sum.inr q.1.1:Key),q.2))) (Sum.inr q.1)=_;rw[Az λe=>n1 (by rw[show p.1=q.1 from iu e];exact br.mpr #[q,cy h1,U])];exact ih n2 ⇑hl h1 h2
theorem qK:bN ["web","piece"] ["web","piece"] (a9 M6):=bT
inductive NO (K:ai) (C:Addr) (vs:ag) (H:Hp) (Q:VK) (E:XK):Prop
 |mk:∀(p:Addr) (y:V) (q:Pc) (hs:Xa) (ts:Xb) (fp:aq),vs=[.ref p,y]->g_ K C H p hs ts fp->Good hs ts->i7 K H y q->jW ts q->(∀y' H',aa H H'->pV K H H' y' (pJ q)->Q y' H')->NO K C vs H Q E
theorem fW_{C:Addr}(F:bC K "checked_piece" "checked_piece" M6 f fd)(B:Bi mg)(cN:!bx 1 "is_name" gf Hh)(cW:!bx 2 "is_whole_within" jQ MJ)(cC:!bx 4 "checked_ways" ["web","ways"] (Nk K C)){tk:Tok}(mW:mg "MOST_WEIGHT"\.int 1000000000 tk) :
  au P w K mg base bh 5 f fd ["web","piece"] (NO K C):=by
 exists F.bS qK;let#[p,y,q,hs,ts,fp,rfl,W,G,#[t,v,rfl,ht,wy],gp,k]:=h
 apply#[_,av (b_ (sX (fh (eZ (cZ mG (by rfl) B.ka kr %[1,mC (v:=.ty "tuple") (by rfl) B.tuple wx U|0])))
   (uH (fg s_ (cZ h_ (by rfl) B.len gF %[1|0]) aD))).pt gi cg)
  (av (b_ (fh (eZ (bc cN hr %[bw cu (pv 1) aD|0]))) gi cg)
  (av (b_ (fh (eZ (bc cW hr %[bw cu (pv 1) aD,aD,BA (v:=.int 1000000000) (by rfl) mW #[tk,U]|0]))) gi cg)
  (aE (bu (iA %[bw cu (pv 1) aD,bw cu (pv 1) aD,bc cC hr %[0,bw cu (pv 1) aD|0]|0]))))),?_]
 apply#[_,U,_,_,_,_,U,.tup ht,U,_,U,aL ?_];apply#[_,U,t,_,U,.inr (.of ht),U,_,U,?_];apply An (show V.int ((3:Nat):Int)=V.int 3 from U) ?_;apply#[_,U,t,_,_,_,U,U,.of ht,U,q.1,U,by have:=IR gp.nm;omega,λH1 s1=>#[_,U,?_]];rw[gp.nm];apply aL ?_;let uc:=s1 _ _ ht;apply#[_,U,t,_,_,_,U,U,.of uc,U,q.2.1,1,1000000000,U,_,U,?_];rw[cz gp.w1,cz gp.w2];apply aL ?_;apply#[_,U,t,_,_,_,U,U,.of uc,U,_,U,t,_,_,_,U,U,.of uc,U,_,U,_,U,t,_,_,_,U,U,.of uc,U,p,v,q.2.2,hs,ts,fp,U,W.same s1,G,wy.same s1,gp.ws,λv' H2 s2 Vl hf=>?_];apply#[zl,λt' D4=>?_];exact k (.ref t') _ (s1.trans (s2.trans (aa.new D4))) #[t',v',U,ay,Vl.same (aa.new D4),λa z=>s1.free (hf a z)]
theorem Ja:bN ["web","pieces","found","piece","checked"] ["web","pieces"] (a9 NU):=bT
structure Qs (ps qs:aM):Prop where
 yY:qs.map (·.1)=iy (ps.map (·.1))
 mem:∀q∈qs,∃p∈ps,q=pJ p
inductive N4 (K:ai) (C:Addr) (vs:ag) (H:Hp) (Q:VK) (E:XK):Prop
 |mk:∀(p l:Addr) (ys:ag) (ps:aM) (hs:Xa) (ts:Xb) (fp:aq),vs=[.ref p,.ref l]->g_ K C H p hs ts fp->Good hs ts->H l\.lst ys->jM K H ys ps->(∀q∈ps,jW ts q)->(ps.map (·.1)).Nodup->ps.length<64->(∀l' zs qs H',aa H H'->H' l'\.lst zs->Paired (pV K H H') zs qs->Qs ps qs->Q (.ref l') H')->N4 K C vs H Q E
theorem aH{H:Hp}{a:Addr}{o:HO}(n:H a=none):aa H (upd H a o)/\upd H a o a\o:=⟨aa.new n,ay⟩
theorem fK_{C:Addr}(F:bC K "checked_pieces" "checked_pieces" NU f fd)(B:Bi mg)(cP:!bx 5 "checked_piece" ["web","piece"] (NO K C)):!au bh 6 f fd ["web","pieces"] (N4 K C):=by
 exists F.bS Ja;let#[p,l,ys,ps,hs,ts,fp,rfl,W,G,hl,pc,gp,nd,cX,k]:=h;let hu:=fN hr;let sz:=cU;let le:=bj pc
 apply#[_,av (b_ (fh (eZ (cZ mG (by rfl) B.ka kr %[1,mC (v:=.ty "list") (by rfl) B.list AG U|0]))) gi cg)
  (av (bo 2 Ja.nd FF)
  (av (d_ dI U (dF (pv 1)) (cm 3 Ja.nd)
   (av (bo 4 Ja.nd (bc cP hr %[0,3|0]))
   (av (b_ (tG (Bw hu (bw cu (pv 4) aD) (pv 2))) gi cg)
   (aE (uC hu (pv 2) (bw cu (pv 4) aD) (pv 4) U)))))
  (aE (bu (ku ["name","found"] 1 [2] (dF (cZ (ez_ U) (by rfl) B.sorted IT %[2|0])) (λfp s H=>gg (i:=0) (show (["name","found"]:af).Nodup by decide +kernel) U (Or.inl U)) (λfp s H=>mE)
   (λfp s H=>ji hu (pv 1) (pv 0))))))),?_]
 apply#[_,U,_,_,_,_,U,.lst hl,U,_,U,aL ?_];intro d hd;have s0:aa H (upd H d (.dK [])):=aa.new hd;apply#[_,U,l,U,#[_,.of (s0 _ _ hl)],gh (K:=K) (a:=l) (xs:=ys) (λi σ H2=>∃(v3 v4:aJ) (cs:ag),σ=[some (.ref p),some (.ref l),some (.ref d),v3,v4]/\aa H H2/\Paired (pV K H H2) cs ((ps.take i).map pJ)/\H2 d\.dK (((ps.take i).zip cs).map λq=>(Sum.inr q.1.1,q.2))) #[none,none,[],U,s0,.nil,ay] (λi σ H2 _ ⟨_,_,_,_,s2,_⟩=>.of (s2 _ _ hl)) ?_ ?_]
 ·rintro i y σ H2 hy ⟨v3,v4,cs,rfl,s2,pn,hd2⟩;have hi:i<ys.length:=(bZ.mp hy).1;have hq:ps[i]? = some (ps[i]' Z1):=aX Z1;let py:=eO pc i hi Z1;rw[(bZ.mp hy).2] at py;generalize ps[i]' Z1=q at hq py;apply#[_,U,_,U,p,y,q,hs,ts,fp,U,W.same s2,G,py.same s2,gp q (cy hq),λy' H3 s3 pw=>?_];let#[t,v,rfl,ht,wy,hf]:=pw;let lY:=s3 _ _ hd2;let lc:=bj pn;rw[ao,dR] at lc
  have keys:((((ps.take i).zip cs).map λq=>((Sum.inr q.1.1:Key),q.2)).map (·.1))=((ps.take i).map (·.1)).map Sum.inr:=by
   rw[cY];have:((λx:Key × V=>x.1) ∘ λq:Pc × V=>((Sum.inr q.1.1:Key),q.2))=(λp:Pc=>(Sum.inr p.1:Key)) ∘ Prod.fst:=rfl;rw[this,<- cY,List.map_fst_zip (by rw[dR];omega),cY];rfl
  have ua:aY (((ps.take i).zip cs).map λq=>((Sum.inr q.1.1:Key),q.2)) (Sum.inr q.1)=none:=uK (by
   rw[keys];intro m;let#[x,hx,e]:=br.mp m;cases e;exact FE (g:=λp:Pc=>p.1) nd hq hx)
  apply#[_,U,t,_,_,_,U,U,.of ht,U,_,U,d,_,U,.k (k:=Sum.inr q.1) lY,_,U,?_];rw[ua];apply aL ?_;apply#[_,U,_,U,_,U,t,_,_,_,U,U,.of ht,U,d,_,U,.k (k:=Sum.inr q.1) lY (by rw[ao,List.length_zip,dR];omega),?_];let Wf:=s2.trans s3;have n1:∀xs,H3 d≠some (.lst xs):=λxs z=>by rw[lY] at z;cases z
  have n2:∀xs,H3 d≠some (.tup xs):=λxs z=>by rw[lY] at z;cases z
  apply#[_,_,cs++[.ref t],U,λc o e=>?_,?_,?_]
  ·rw[aw (bq e hd)];exact Wf _ _ e
  ·rw[tJ,hq,fe];exact gR (Paired.aU pn λy q h=>(h.same s3).up n1 n2) (.cons (pV.up #[t,v,U,ht,wy,λa z=>s2.free (hf a z)] n1 n2) .nil)
  rw[ay,wB _ ua,tJ,hq,List.zip_append (by rw[dR];omega),fe];rfl
 rintro σ H2 ⟨v3,v4,cs,rfl,s2,pn,hd2⟩;rw[le,eG] at pn hd2;let lc:=bj pn;rw[ao] at lc
 have keys:(((ps.zip cs).map λq=>((Sum.inr q.1.1:Key),q.2)).map (·.1))=(ps.map (·.1)).map Sum.inr:=by
  rw[cY];have:((λx:Key × V=>x.1) ∘ λq:Pc × V=>((Sum.inr q.1.1:Key),q.2))=(λp:Pc=>(Sum.inr p.1:Key)) ∘ Prod.fst:=rfl;rw[this,<- cY,List.map_fst_zip Z1,cY];rfl
 apply#[_,U,d,_,ps.map (·.1),U,hd2,keys,by rw[ao];exact cX,λls Lg=>?_];let#[s3,ue]:=aH (o:=.lst ((iy (ps.map (·.1))).map V.str)) Lg;apply#[ls,U,#[_,.of ue],λD hD=>?_];generalize upd H2 ls (.lst ((iy (ps.map (·.1))).map V.str))=H3 at s3 ue hD ⊢;have XB:(iy (ps.map (·.1))).length=ps.length:=by rw[(FB _).length_eq,ao]
 apply kD (own:=1) (fv:=[some (.ref d)]) (xs:=(iy (ps.map (·.1))).map V.str) U fX (λi out H'=>∃qs:aM,aa H3 H'/\H' D\.lst out/\Paired (pV K H H2) out qs/\qs.map (·.1)=(iy (ps.map (·.1))).take i/\∀q∈qs,∃p∈ps,q=pJ p) #[[],aa.new hD,ay,.nil,U,by simp] (λi out H' _ ⟨_,sm,_⟩=>.of (sm _ _ ue)) (λzs H4 ⟨qs,s4,oY,pq,en,mem⟩=>?_) (λi x out H' hx ⟨qs,sm,dM,pq,en,mem⟩=>?_)
 ·rw[ao,eG] at en;exact k D zs qs H4 (s2.trans (s3.trans s4)) oY (Paired.aU pq λy q h=>h.same (s3.trans s4)) #[en,mem]
 let#[n,hn,rfl]:=mz hx;have hm:n∈ps.map (·.1):=(FB _).mem_iff.mp (cy hn);let#[q,hq,eq]:=br.mp hm;let#[j,hj,ej]:=gH hq;have _Z:ps[j]? = some q:=by rw[aX hj,ej]
 have RC:cs[j]? = some (cs[j]' Z1):=aX Z1;let hv:=MO nd lc _Z RC;let pj:=eO pn j Z1 (by rw[ao];omega);rw[List.getElem_map,ej] at pj;generalize cs[j]' Z1=c at RC hv pj;rw[eq] at hv;let lo:=bj pq;let lq:=eF List.length en;rw[ao,dR] at lq;have hi:i<(iy (ps.map (·.1))).length:=(bZ.mp hn).1;apply#[_,U,U,λNx hN=>fU ?_];apply#[_,U,_,U,d,c,U,?_,out,dM,by omega,hN _ _ #[qs++[pJ q],fQ sm hD,ay,?_,?_,?_]]
 ·rw[<- hv];exact .k (k:=Sum.inr n) (sm _ _ (s3 _ _ hd2))
 ·exact gR pq (.cons pj .nil)
 ·rw[fe,en,tJ,hn,<- eq];rfl
 intro q' hq';rcases dN.mp hq' with hq'|hq'
 ·exact mem q' hq'
 obtain rfl:q'=pJ q:=⇑hq'
 exact#[q,hq,U]
end
abbrev lJ:Stmt:=l9 E7 0
abbrev rq:Stmt:=l9 E7 1
abbrev Nd:Stmt:=l9 E7 2
abbrev MV:Stmt:=l9 E7 3
abbrev rp:Stmt:=l9 E7 5
def cK(p dw dy:Addr):List (Str × V):=az Am (.ref dy) (az pR (.ref dw) (az "web" (.ref p) []))
theorem g12:¬(("web":Str)=pR):=by decide +kernel
theorem g13:¬(("web":Str)=Am):=by decide +kernel
theorem g23:¬((pR:Str)=Am):=by decide +kernel
theorem xX(p dw dy:Addr):(cK p dw dy).lookup ("web":Str)\.ref p:=by
 unfold cK;rw[gA,aA g13,gA,aA g12,gA,aI U]
theorem MD(p dw dy:Addr):(cK p dw dy).lookup (pR:Str)\.ref dw:=by
 unfold cK;rw[gA,aA g23,gA,aI U]
theorem Zy(p dw dy:Addr):(cK p dw dy).lookup (Am:Str)\.ref dy:=by
 unfold cK;rw[gA,aI U]
theorem wz(p dw dy:Addr){m:Str}(h1:¬m="web")(h2:¬m=pR)(h3:¬m=Am):(cK p dw dy).lookup m=none:=by
 unfold cK;rw[gA,aA h3,gA,aA h2,gA,aA h1]
 all_goals rfl
def kE(qs:aM):List (Key × V):=qs.map λq=>(Sum.inr q.1,V.int q.2.1)
def uP(qs:aM)(vs:ag):List (Key × V):=(qs.zip vs).map λx=>(Sum.inr x.1.1,x.2)
theorem SH(qs:aM):(kE qs).map (·.1)=(qs.map (·.1)).map Sum.inr:=by
 unfold kE;rw[cY,cY];rfl
variable{qs:aM}
theorem ZX{vs:ag}(h:vs.length=qs.length):(uP qs vs).map (·.1)=(qs.map (·.1)).map Sum.inr:=by
 unfold uP;rw[cY];have:((λx:Key × V=>x.1) ∘ λq:Pc × V=>((Sum.inr q.1.1:Key),q.2))=(λp:Pc=>(Sum.inr p.1:Key)) ∘ Prod.fst:=rfl;rw[this,<- cY,List.map_fst_zip Z1,cY];rfl
structure gy (K:ai) (CG CW:Addr) (H:Hp) (g p:Addr) (hs:Xa) (ts:Xb) (qs:aM) (fp:aq):Prop where
 ex:∃(dx dw dy:Addr) (vs:ag) (dc:aq),H g\.ins CG dx (cK p dw dy)/\g_ K CW H p hs ts dc/\H dw\.dK (kE qs)/\H dy\.dK (uP qs vs)/\Paired (λv (q:Pc)=>bU K H v q.2.2) vs qs /\
  g∈fp/\dw∈fp/\dy∈fp/\(∀b∈dc,b∈fp)/\∀v∈vs,∀a,v=.ref a->a∈fp
theorem OE{α β:Type}{F G:α->β->Prop}:∀{l:List α} {m:List β},Paired F l m->(∀a∈l,∀b,F a b->G a b)->Paired G l m
 |_,_,.nil,_=>.nil
 |_,_,.cons h t,f=>.cons (f _ gz _ h) (OE t λa ha=>f a (fM _ ha))
theorem bU.keep{K:ai}{H:Hp}(h:bU K H v o)(k:∀a,v=.ref a->∀u,H a\u->H' a\u)(kt:∀b xs,H b\.tup xs->H' b\.tup xs):bU K H' v o:=by
 cases o with
 |none=>exact h
 |some ws=>
  let#[a,ys,e,ha,t]:=h;exact#[a,ys,e,k a e _ ha,Paired.aU t λy q ⟨b,z,hb⟩=>#[b,z,kt _ _ hb]]
variable{fp:aq}
theorem gy.keep{K:ai}{CG CW:Addr}{H:Hp}{g p:Addr}{hs:Xa}{ts:Xb}(G:gy K CG CW H g p hs ts qs fp)(k:∀b∈fp,∀o,H b\o->H' b\o)(kt:∀b xs,H b\.tup xs->H' b\.tup xs):gy K CG CW H' g p hs ts qs fp:=by
 let#[dx,dw,dy,vs,dc,h1,h2,h3,h4,h5,m1,m2,m3,m4,m5]:=G.ex;exact#[dx,dw,dy,vs,dc,k _ m1 _ h1,h2.keep (λb hb o e=>k b (m4 b hb) o e) kt,k _ m2 _ h3,k _ m3 _ h4,OE h5 λv hv q h=>h.keep (λa z u e=>k a (m5 v hv a z) u e) kt,m1,m2,m3,m4,m5]
theorem gy.same{K:ai}{CG CW:Addr}{H:Hp}{g p:Addr}{hs:Xa}{ts:Xb}(G:gy K CG CW H g p hs ts qs fp)(s:aa H H'):gy K CG CW H' g p hs ts qs fp:=G.keep (λb _ o e=>s b o e) λb xs e=>s b _ e
structure gd (K:ai) (CG:Addr):Prop where
 cl:mQ K CG
 nW:mr K CG "web"
 nG:mr K CG pR
 nY:mr K CG Am
structure FU (K:ai) (C:Addr):Prop where
 ha:PySem.W.findIn K (.ref C) "__class__"\some (.builtin "object.__class__")
 hn:PySem.W.specialIn K (.builtin "object.__class__") "__get__"\some (.builtin "getset_descriptor.__get__")
 tk:PySem.W.takesIn K (.builtin "object.__class__")\true
 mo:PySem.W.mroIn K C (.type "object")\true
theorem hF_(K:ai)(c:Aa):PySem.W.kitOne K c c\true:=by
 unfold PySem.W.kitOne;rw[aI (beq_self_eq_true c)]
theorem SC{K:ai}{H0 H:Hp}:∀{zs:ag} {qs:aM},Paired (pV K H0 H) zs qs->∃vs:ag,vs.length=qs.length/\Paired (λz (x:Pc × V)=>∃t,z=.ref t/\H t\.tup [.str x.1.1,.int x.1.2.1,x.2]) zs (qs.zip vs)/\Paired (λv (q:Pc)=>bU K H v q.2.2) vs qs/\∀v∈vs,∀a,v=.ref a->H0 a=none
 |_,_,.nil=>#[[],U,.nil,.nil,by simp]
 |_,_,.cons ⟨t,v,e,ht,wy,hn⟩ r=>by
  let#[vs,h1,h2,h3,h4]:=SC r;apply#[v::vs,by simp[h1],.cons #[t,e,ht] h2,.cons wy h3,λu hu=>?_];rcases bW.mp hu with rfl|hu
  ·exact hn
  exact h4 u hu
theorem S_{K:ai}{l:Addr}{zs:ag}{xs:List (Pc × V)}{H:Hp}{Q:VK}{pE:St}{j:Nat}(sel:Pc × V->V)(hj:∀x:Pc × V,[some (V.str x.1.1),some (V.int x.1.2.1),some x.2][j]? = some (some (sel x)))(si:pE=[none,none,none])(hl:H l\.lst zs)(pz:Paired (λz (x:Pc × V)=>∃t,z=.ref t/\H t\.tup [.str x.1.1,.int x.1.2.1,x.2]) zs xs)(oh:xs.length<=1000)(hD:H D=none)(q:∀H' out,aa H H'->H' D\.lst out->km K H' out (xs.map λx=>(Sum.inr x.1.1,sel x))->Q (.ref D) H') :
  Bu (yb K l) (gM K 3 (pS (ko 0) (pS (ko 1) (pS (ko 2) sM)))) qg (Cm (jo (oG 0) (jo (oG j) oH))) pE D H Q:=by
 let sz:=cU;let le:=bj pz;apply kD (own:=3) (fv:=[]) (xs:=zs) si L6 (λi out H'=>aa H H'/\H' D\.lst out/\km K H' out ((xs.take i).map λx=>(Sum.inr x.1.1,sel x))) #[aa.new hD,ay,.nil] (λi out H' _ ⟨sm,_,_⟩=>.of (sm _ _ hl)) (λout H4 ⟨sm,oY,eo⟩=>?_) (λi y out H' hy ⟨sm,dM,eo⟩=>?_)
 ·rw[le,eG] at eo;exact q _ _ sm oY eo
 have hi:i<zs.length:=(bZ.mp hy).1;have hx:xs[i]? = some (xs[i]' Z1):=aX Z1;let#[t,et,ht]:=eO pz i hi Z1;rw[(bZ.mp hy).2] at et;subst et;generalize xs[i]' Z1=x at hx ht;let lo:=bj eo;rw[ao,dR] at lo;apply#[_,#[t,_,_,_,U,.of (sm _ _ ht),U],U,λNx hN=>fU ?_];apply#[_,U,_,hj x,zl,λp hp=>?_];let s2:=aa.new (o:=.tup [.str x.1.1,sel x]) hp;apply#[out,s2 _ _ dM,by omega,hN _ _ #[fQ (sm.trans s2) hD,ay,?_]];rw[x6 _ hx];have pD:∀{b:Addr} {ys:ag},upd H' p (.tup [.str x.1.1,sel x]) b\.tup ys->b≠D:=λhb=>bK hb (s2 _ _ dM) nofun;apply gR (Paired.aU eo λy kv ⟨b,z,hb⟩=>#[b,z,by rw[aw (pD (s2 _ _ hb))];exact s2 _ _ hb]) (.cons #[p,U,?_] .nil);have kg:upd H' p (.tup [.str x.1.1,sel x]) p\.tup [.str x.1.1,sel x]:=ay;rw[aw (pD kg)];exact kg
section v
theorem nu:bN ["self","web","pieces","checked"] ["self","web","pieces"] (a9 lJ):=bT
inductive IJ (K:ai) (CG CW:Addr) (vs:ag) (H:Hp) (Q:VK) (E:XK):Prop
 |mk:∀(g dx p l:Addr) (ys:ag) (ps:aM) (hs:Xa) (ts:Xb) (dc:aq),vs=[.ref g,.ref p,.ref l]->H g\.ins CG dx []->g_ K CW H p hs ts dc->g∉dc->Good hs ts->H l\.lst ys->jM K H ys ps->(∀q∈ps,jW ts q)->(ps.map (·.1)).Nodup->ps.length<64->(∀qs fp H',(∀b o,H b\o->b≠g->H' b\o)->gy K CG CW H' g p hs ts qs fp->Qs ps qs->(∀b∈fp,b=g∨b∈dc∨H b=none)->Q .non H')->IJ K CG CW vs H Q E
theorem hB_{CG CW:Addr}(F:bC K "__init__" "Goods.__init__" lJ f fd)(T:gd K CG)(TW:Txt K mg CW)(IW:FU K CW)(B:Bi mg)(Kr:mg "Web"\.ref CW)(cP:!bx 6 "checked_pieces" ["web","pieces"] (N4 K CW)):!au bh 7 f fd ["self","web","pieces"] (IJ K CG CW):=by
 exists F.bS nu;let#[g,dx,p,l,ys,ps,hs,ts,dc,rfl,hg,W,gw,G,hl,pc,gp,nd,cX,k]:=h
 apply#[_,av (b_ (fh (eZ (cZ g1_ (by rfl) B.ka kr %[1,BA (v:=.ref CW) (by rfl) Kr U|0]))) gi cg)
  (av (bo 3 nu.nd (bc cP hr %[1,2|0]))
  (av (uG (pv 0) (pv 1) U)
  (av (uG (pv 0) (jh (AN U) (by rfl) B.dict uA %[ku xQ 3 [] (dF (pv 3)) (λfp s H=>Fv (n:=3) (dH (gg (i:=0) (show (xQ:af).Nodup by decide +kernel) U (Or.inl U)) (dH (gg (i:=1) (show (xQ:af).Nodup by decide +kernel) U (Or.inl U)) (dH (gg (i:=2) (show (xQ:af).Nodup by decide +kernel) U (Or.inl U)) iK)))) (λfp s H=>mE) (λfp s H=>iA %[0,1|0])|0]) U)
  (aE (uG (pv 0) (jh (AN U) (by rfl) B.dict uA %[ku xQ 3 [] (dF (pv 3)) (λfp s H=>Fv (n:=3) (dH (gg (i:=0) (show (xQ:af).Nodup by decide +kernel) U (Or.inl U)) (dH (gg (i:=1) (show (xQ:af).Nodup by decide +kernel) U (Or.inl U)) (dH (gg (i:=2) (show (xQ:af).Nodup by decide +kernel) U (Or.inl U)) iK)))) (λfp s H=>mE) (λfp s H=>iA %[0,2|0])|0]) U))))),?_]
 let#[l6,d1,l2,d3,wJ,as,ef,w1,_]:=id W.ex;apply#[_,U,_,_,_,_,U,.ins w1 TW.cl IW.ha IW.hn IW.tk IW.mo,hF_ _ _,_,U,aL ?_];apply#[_,U,_,U,p,l,ys,ps,hs,ts,dc,U,W,G,hl,pc,gp,nd,cX,λlc zs qs H1 s1 xB pn Qq=>?_];let#[vs,lv,pz,Vk,Cd]:=SC pn;let Ex:=s1 _ _ hg
 have lq:qs.length=ps.length:=by
  have:=eF List.length Qq.yY;rw[ao,(FB _).length_eq,ao] at this;exact this
 have WJ:(qs.map (·.1)).Nodup:=by
  rw[Qq.yY];exact (FB _).nodup_iff.mpr nd
 apply#[_,U,_,U,g,CG,dx,[],U,Ex,T.cl,T.nW,by show 0<1000;decide,?_];have up1:∀{b o},H1 b\o->b≠g->upd H1 g (.ins CG dx (az "web" (.ref p) [])) b\o:=λe ne=>by rw[aw ne];exact e
 have Lr:upd H1 g (.ins CG dx (az "web" (.ref p) [])) g\.ins CG dx (az "web" (.ref p) []):=ay
 have Mf:∀{b},upd H1 g (.ins CG dx (az "web" (.ref p) [])) b=none->H1 b=none:=λ{b} e=>by
  by_cases z:b=g
  ·rw[z,ay] at e;cases e
  rw[aw z] at e;exact e
 generalize upd H1 g (.ins CG dx (az "web" (.ref p) []))=H2 at up1 Lr Mf ⊢;have GB:lc≠g:=bK xB Ex nofun;have WQ:Paired (λz (x:Pc × V)=>∃t,z=.ref t/\H2 t\.tup [.str x.1.1,.int x.1.2.1,x.2]) zs (qs.zip vs):=Paired.aU pz λz x ⟨t,e,ht⟩=>#[t,e,up1 ht (bK ht Ex nofun)];have mU:(qs.zip vs).length<=1000:=by rw[List.length_zip];omega
 apply#[_,U,lc,U,#[_,.of (up1 xB GB)],λD hD=>?_];apply S_ (λx=>.int x.1.2.1) (λx=>rfl) U (up1 xB GB) WQ mU hD λH3 out s3 xJ P6=>?_;apply#[D,out,_,U,xJ,P6,by rw[ao];exact mU,λdw Lz=>?_]
 have Mu:((qs.zip vs).map λx:Pc × V=>((Sum.inr x.1.1:Key),V.int x.1.2.1))=kE qs:=by
  unfold kE;have:(λx:Pc × V=>((Sum.inr x.1.1:Key),V.int x.1.2.1))=(λq:Pc=>((Sum.inr q.1:Key),V.int q.2.1)) ∘ Prod.fst:=rfl;rw[this,<- cY,List.map_fst_zip Z1]
 have nM:(qs.map (·.1)).map (Sum.inr:Str->Key) |>.Nodup:=by
  rw[qa,wD];exact WJ.imp λn e=>n (iu e)
 rw[Mu,xZ (by rw[SH];exact nM)];let s4:=aa.new (o:=.dK (kE qs)) Lz;let Ry:=s4 _ _ (s3 _ _ Lr);apply#[_,U,g,CG,dx,_,U,Ry,T.cl,T.nG,by show 1<1000;decide,?_];let Gc:=s3.trans s4;have Ez:upd H3 dw (.dK (kE qs)) dw\.dK (kE qs):=ay;have Tx:dw≠g:=(bq (s3 _ _ Lr) Lz).symm;have pP:∀{b},upd H3 dw (.dK (kE qs)) b=none->H2 b=none:=λe=>Gc.free e;have dwn:H2 dw=none:=s3.free Lz;generalize upd H3 dw (.dK (kE qs))=H4 at s4 Ry Gc Ez pP ⊢;have Jv:∀{b o},H4 b\o->b≠g->upd H4 g (.ins CG dx (az pR (.ref dw) (az "web" (.ref p) []))) b\o:=λe ne=>by rw[aw ne];exact e
 have Lq:upd H4 g (.ins CG dx (az pR (.ref dw) (az "web" (.ref p) []))) g\.ins CG dx (az pR (.ref dw) (az "web" (.ref p) [])):=ay
 have o5:∀{b},upd H4 g (.ins CG dx (az pR (.ref dw) (az "web" (.ref p) []))) b=none->H4 b=none:=λ{b} e=>by
  by_cases z:b=g
  ·rw[z,ay] at e;cases e
  rw[aw z] at e;exact e
 generalize upd H4 g (.ins CG dx (az pR (.ref dw) (az "web" (.ref p) [])))=H5 at Jv Lq o5 ⊢;have uQ:∀{b o},H1 b\o->b≠g->H5 b\o:=λe ne=>Jv (Gc _ _ (up1 e ne)) ne;have WO:Paired (λz (x:Pc × V)=>∃t,z=.ref t/\H5 t\.tup [.str x.1.1,.int x.1.2.1,x.2]) zs (qs.zip vs):=Paired.aU pz λz x ⟨t,e,ht⟩=>#[t,e,uQ ht (bK ht Ex nofun)];apply#[_,U,lc,U,#[_,.of (uQ xB GB)],λD2 zS=>?_];apply S_ (λx=>x.2) (λx=>rfl) U (uQ xB GB) WO mU zS λH6 iP s6 hD6 WV=>?_;apply#[D2,iP,_,U,hD6,WV,by rw[ao];exact mU,λdy Ly=>?_];rw[show ((qs.zip vs).map λx:Pc × V=>((Sum.inr x.1.1:Key),x.2))=uP qs vs from U,xZ (by rw[ZX lv];exact nM)];let s7:=aa.new (o:=.dK (uP qs vs)) Ly;let Gb:=s6.trans s7;let Rx:=Gb _ _ Lq;apply#[_,U,g,CG,dx,_,U,Rx,T.cl,T.nY,by show 2<1000;decide,?_];have Ey:upd H6 dy (.dK (uP qs vs)) dy\.dK (uP qs vs):=ay;have dyg:dy≠g:=(bq (s6 _ _ Lq) Ly).symm;have dyn:H5 dy=none:=s6.free Ly;generalize upd H6 dy (.dK (uP qs vs))=H7 at s7 Gb Rx Ey ⊢
 have fin:∀{b o},H1 b\o->b≠g->upd H7 g (.ins CG dx (cK p dw dy)) b\o:=λe ne=>by
  rw[aw ne];exact Gb _ _ (uQ e ne)
 have Cg:∀b xs,H1 b\.tup xs->upd H7 g (.ins CG dx (cK p dw dy)) b\.tup xs:=λb xs e=>fin e (bK e Ex nofun);have nH:∀{b},H1 b=none->H b=none:=λe=>s1.free e;apply k qs (g::dw::dy::(dc++vs.filterMap λv=>match v with | .ref a=>some a|_=>none)) _ (λb o e ne=>fin (s1 _ _ e) ne) #[dx,dw,dy,vs,dc,ay,?_,?_,?_,?_,by simp,by simp,by simp,λb hb=>by simp[hb],λv hv a z=>?_] Qq λb hb=>?_
 ·exact W.keep (λb hb o e=>fin (s1 _ _ e) (λz=>gw (z▸hb))) λb xs e=>Cg b xs (s1 _ _ e)
 ·rw[aw Tx];exact Gb _ _ (Jv Ez Tx)
 ·rw[aw dyg];exact Ey
 ·exact OE Vk λv hv q h=>h.keep (λa z u e=>fin e (λzz=>by
   subst zz;have:=Cd v hv _ z;rw[hg] at this;cases this)) λb xs e=>Cg b xs e
 ·apply fM _ (fM _ (fM _ (mJ _ (ya.mpr #[v,hv,?_]))));rw[z]
 simp only[bW,dN,ya] at hb;rcases hb with rfl|rfl|rfl|hb|⟨v,hv,e⟩
 ·exact .inl U
 ·exact .inr (.inr (nH (Mf dwn)))
 ·exact .inr (.inr (nH (Mf (Gc.free (o5 dyn)))))
 ·exact .inr (.inl hb)
 cases v with
 |ref a=>
  cases e;exact .inr (.inr (Cd _ hv _ U))
 |_=>cases e
end
end Ev
namespace L2
open PySem
end L2
namespace Ev
open PySem L2
theorem ew_{kvs:List (Key × V)}{ns:af}(h:kvs.map (·.1)=ns.map Sum.inr)(x:Str):(aY kvs (Sum.inr x)).isSome=decide (x∈ns):=by
 by_cases hx:x∈ns
 ·rw[cz hx];apply IS ?_;rw[h];exact br.mpr #[x,hx,U]
 rw[fC hx,uK]
 ·rfl
 rw[h];intro m;let#[y,hy,e]:=br.mp m;cases e;exact hx hy
variable{q:Pc}
theorem Yt{qs:aM}(nd:(qs.map (·.1)).Nodup)(hq:q∈qs):aY (kE qs) (Sum.inr q.1)\.int q.2.1:=by
 let#[j,hj,e]:=gH hq;have:=MO (ps:=qs) (cs:=qs.map λq=>V.int q.2.1) nd (by rw[ao]) (j:=j) (q:=q) (c:=.int q.2.1) (by rw[aX hj,e]) (by rw[dG,aX hj,e];rfl)
 have e2:((qs.zip (qs.map λq=>V.int q.2.1)).map λq=>((Sum.inr q.1.1:Key),q.2))=kE qs:=by
  unfold kE;rw[List.zip_map_right,cY]
  have:qs.zip qs=qs.map λq=>(q,q):=by
   clear nd hq this hj e j
   induction qs with
   |nil=>rfl
   |cons a l ih=>rw[List.zip_cons_cons,ih,eY]
  rw[this,cY];rfl
 rwa [e2] at this
theorem Yf{qs:aM}{vs:ag}(nd:(qs.map (·.1)).Nodup){K:ai}{H:Hp}(h:Paired (λv (q:Pc)=>bU K H v q.2.2) vs qs)(hq:q∈qs):∃v∈vs,aY (uP qs vs) (Sum.inr q.1)\v/\bU K H v q.2.2:=by
 let#[j,hj,e]:=gH hq;let hl:=bj h;have hv:j<vs.length:=by omega
 let p:=eO h j hv hj;rw[e] at p;exact#[vs[j],mI hv,MO nd Z1 (by rw[aX hj,e]) (aX hv),p]
def Bg(hs:Xa)(ts:Xb)(o:Option (Xb))(x y:Option Str):Bool:=
 Bs hs ts x y&&match o,x,y with
  |none,_,_=>true
  |some ws,some a,some b=>decide (aF a b∈ws)
  |_,_,_=>false
variable{f:Addr}{fd:Ae}
section v
theorem yM:bN oj oj (a9 rq):=bT
inductive E6 (K:ai) (CG CW:Addr) (vs:ag) (H:Hp) (Q:VK) (E:XK):Prop
 |mk:∀(g p:Addr) (v:V) (x:Option Str) (hs:Xa) (ts:Xb) (qs:aM) (fp:aq),vs=[.ref g,v]->gy K CG CW H g p hs ts qs fp->jS K H v x->Q (.bl (DQ (qs.map (·.1)) x)) H->E6 K CG CW vs H Q E
theorem Y1{CG CW:Addr}(F:bC K "has_piece" "Goods.has_piece" rq f fd)(T:gd K CG)(B:Bi mg):!au bh 1 f fd oj (E6 K CG CW):=by
 exists F.bS yM;let#[g,p,v,x,hs,ts,qs,fp,rfl,G,sv,k]:=h;let hu:=fN hr;let#[dx,dw,dy,vs,dc,h1,h2,h3,h4,h5,m1,m2,m3,m4,m5]:=G.ex;apply#[_,aE (bu (tq (cZ mG (by rfl) B.ka kr %[1,mC (v:=.ty "str") (by rfl) B.str Hy U|0]) (uF (Hw (Bw hu (pv 1) (gc (pv 0) U)))))),?_];cases x with
 |some x=>
  cases (show v=.str x from sv);apply#[_,U,_,_,_,_,U,.str x,U,_,U,dD ?_];apply#[_,U,_,U,g,CG,dx,_,_,U,h1,T.cl,T.nG,MD _ _ _,dw,_,U,.k (k:=Sum.inr x) h3,?_];rw[ew_ (SH qs)];exact k
 |none=>
  let#[t,ty,e]:=sv;exact#[_,U,_,_,_,_,U,ty,e,_,U,aL k]
theorem qH:bN o7 o7 (a9 Nd):=bT
inductive BH (K:ai) (CG CW:Addr) (vs:ag) (H:Hp) (Q:VK) (E:XK):Prop
 |mk:∀(g p:Addr) (hs:Xa) (ts:Xb) (qs:aM) (fp:aq),vs=[.ref g]->gy K CG CW H g p hs ts qs fp->(∀l,H l=none->Q (.ref l) (upd H l (.lst ((qs.map (·.1)).map V.str))))->BH K CG CW vs H Q E
theorem gu_{CG CW:Addr}(F:bC K "names" "Goods.names" Nd f fd)(T:gd K CG)(B:Bi mg):!au bh 1 f fd o7 (BH K CG CW):=by
 exists F.bS qH;let#[g,p,hs,ts,qs,fp,rfl,G,k]:=h;let#[dx,dw,dy,vs,dc,h1,h2,h3,h4,h5,m1,m2,m3,m4,m5]:=G.ex;apply#[_,aE (bu (jh (On U) (by rfl) B.list AG %[gc (pv 0) U|0])),?_];apply#[_,U,g,CG,dx,_,_,U,h1,T.cl,T.nG,MD _ _ _,dw,_,U,.inl h3,λl hl=>?_]
 have e:((kE qs).map λkv=>kV kv.1)=(qs.map (·.1)).map V.str:=by
  unfold kE;rw[cY,cY];rfl
 rw[e];exact k l hl
structure Ref (K:ai) (mg:Str->Option Aa) (x:Str) (C:Addr):Prop where
 mg:mg x\.ref C
 ex:PySem.W.excIn K C [.type "ValueError",.type "Exception",.type "BaseException",.type "object"] "ValueError.__new__"=true
theorem oK:bN ["self","piece"] ["self","piece"] (a9 MV):=bT
inductive N_ (K:ai) (CG CW CP:Addr) (vs:ag) (H:Hp) (Q:VK) (E:XK):Prop
 |mk:∀(g p:Addr) (v:V) (x:Option Str) (hs:Xa) (ts:Xb) (qs:aM) (fp:aq),vs=[.ref g,v]->gy K CG CW H g p hs ts qs fp->(qs.map (·.1)).Nodup->jS K H v x->((∃q∈qs,x\q.1/\Q (.int q.2.1) H)∨False)->N_ K CG CW CP vs H Q E
theorem fx_{CG CW CP:Addr}(F:bC K "weight" "Goods.weight" MV f fd)(T:gd K CG)(cH:!bV CG 1 "has_piece" oj (E6 K CG CW)):!au bh 2 f fd ["self","piece"] (N_ K CG CW CP):=by
 exists F.bS oK;let#[g,p,v,x,hs,ts,qs,fp,rfl,G,nd,sv,k]:=h;let hu:=fN hr;let#[dx,dw,dy,vs,dc,h1,h2,h3,h4,h5,m1,m2,m3,m4,m5]:=id G.ex;have kh:(cK p dw dy).lookup ("has_piece":Str)=none:=wz _ _ _ Z0 Z0 Z0;apply#[_,av (b_ (fh (eZ (iZ cH T.cl hr (pv 0) %[1|0]))) gi cg) (aE (bu (ji hu (gc (pv 0) U) (pv 1)))),?_];apply#[_,U,g,dx,_,U,h1,kh,_,U,g,p,v,x,hs,ts,qs,fp,U,G,sv,_,U,?_];rcases k with⟨q,hq,rfl,k⟩|k
 ·cases (show v=.str q.1 from sv);rw[show DQ (qs.map (·.1)) (some q.1)=true from cz (br.mpr #[q,hq,U])];apply aL ?_;apply#[_,U,g,CG,dx,_,_,U,h1,T.cl,T.nG,MD _ _ _,_,U,dw,_,U,?_,k];rw[<- Yt nd hq];exact .k (k:=Sum.inr q.1) h3
 exact k.elim
theorem qI:bN ["self","piece","one","other","ties"] ["self","piece","one","other"] (a9 rp):=bT
inductive kY (K:ai) (CG CW CP:Addr) (vs:ag) (H:Hp) (Q:VK) (E:XK):Prop
 |mk:∀(g p:Addr) (v u1 u2:V) (x y1 y2:Option Str) (hs:Xa) (ts:Xb) (qs:aM) (fp:aq),vs=[.ref g,v,u1,u2]->gy K CG CW H g p hs ts qs fp->(qs.map (·.1)).Nodup->(aN hs).Nodup->jS K H v x->((∃q∈qs,x\q.1/\jS K H u1 y1/\jS K H u2 y2/\∀H',aa H H'->Q (.bl (Bg hs ts q.2.2 y1 y2)) H')∨False)->kY K CG CW CP vs H Q E
theorem ZF{CG CW CP:Addr}(F:bC K "may_go" "Goods.may_go" rp f fd)(T:gd K CG)(TW:Txt K mg CW)(cH:!bV CG 1 "has_piece" oj (E6 K CG CW))(cT:!bV CW 2 "are_tied" jP (HZ K CW))(cL:!bx 1 "lesser_first" mw Iy) :
  au P w K mg base bh 3 f fd ["self","piece","one","other"] (kY K CG CW CP):=by
 exists F.bS qI;let#[g,p,v,u1,u2,x,y1,y2,hs,ts,qs,fp,rfl,G,nd,rV,sv,k]:=h;let hu:=fN hr;have jb:aO 1 _:=hr.mono (by decide);let#[dx,dw,dy,vs,dc,h1,h2,h3,h4,h5,m1,m2,m3,m4,m5]:=id G.ex;have kh:(cK p dw dy).lookup ("has_piece":Str)=none:=wz _ _ _ Z0 Z0 Z0;let#[l6,d1,l2,d3,wJ,as,ef,w1,_]:=id h2.ex;have zu:(fo d1 l2 d3).lookup ("are_tied":Str)=none:=p0 _ _ _ Z0 Z0 Z0
 apply#[_,av (b_ (fh (eZ (iZ cH T.cl jb (pv 0) %[1|0]))) gi cg)
  (av (b_ (fh (eZ (iZ cT TW.cl hr (gc (pv 0) U) %[2,3|0]))) (aE (bu gG)) cg)
  (av (bo 4 qI.nd (ji hu (gc (pv 0) U) (pv 1)))
  (aE (bu (Yl (Hw (Hs (pv 4))) (uF (wk (LW (Fg iq iq) (ml hr _)) (bc cL hr %[2,3|0]) (pv 4) (by with_unfolding_all rfl)))))))),?_]
 apply#[_,U,g,dx,_,U,h1,kh,_,U,g,p,v,x,hs,ts,qs,fp,U,G,sv,_,U,?_];rcases k with⟨q,hq,rfl,s1,s2,k⟩|k
 ·cases (show v=.str q.1 from sv);rw[show DQ (qs.map (·.1)) (some q.1)=true from cz (br.mpr #[q,hq,U])];apply aL ?_;apply#[_,U,g,CG,dx,_,_,U,h1,T.cl,T.nW,xX _ _ _,p,l6,_,U,w1,zu,_,U,_,U,p,u1,u2,y1,y2,hs,ts,dc,U,h2,rV,s1,s2,_,U,?_];cases tb:Bs hs ts y1 y2 with
  |false=>
   apply dD ?_;have:=k H (aa.refl H);unfold Bg at this;rw[tb,Bool.false_and] at this;exact this
  |true=>
   apply aL ?_;let#[u,vD,eu,wy]:=Yf nd h5 hq;apply#[_,U,g,CG,dx,_,_,U,h1,T.cl,T.nY,Zy _ _ _,_,U,dy,u,U,?_,?_]
   ·rw[<- eu];exact .k (k:=Sum.inr q.1) h4
   apply#[_,U,_,U,?_];unfold Bg at k;rw[tb] at k;cases e:q.2.2 with
   |none=>
    rw[e] at wy k;cases (show u=.non from wy);exact dD (k H (aa.refl H))
   |some ws=>
    rw[e] at wy k;let#[a,ys,rfl,ha,tu]:=wy;cases y1 with
    |none=>cases tb
    |some a1=>
     cases y2 with
     |none=>cases tb
     |some a2=>
      cases (show u1=.str a1 from s1);cases (show u2=.str a2 from s2);apply aL #[_,U,_,U,a1,a2,U,λt ht=>?_];have s3:aa H (upd H t (.tup [.str (aF a1 a2).1,.str (aF a1 a2).2])):=aa.new ht;apply#[_,U,aF a1 a2,ws,#[t,_,_,U,.of ay,U,U],#[a,ys,U,.of (s3 _ _ ha),MB (tu.same s3)],?_];let z:=k _ s3;rw[Bool.true_and] at z;rw[aA f_];show Q (.bl _) _;have z:Q (.bl (decide (aF a1 a2∈ws))) (upd H t (.tup [.str (aF a1 a2).1,.str (aF a1 a2).2])):=z;generalize upd H t (.tup [.str (aF a1 a2).1,.str (aF a1 a2).2])=Hz at z ⊢;by_cases hm:aF a1 a2∈ws
      ·simpa [hm] using z
      simpa [hm] using z
 exact k.elim
end
end Ev
namespace L2
open PySem PySem.Spec PyProof.Rows PySem.W
variable{P:Ad}{w:Ag}
theorem Zv{k:Key}{key:Aa}(h:(fq P w).is k key=true):RelV (kV k) key:=by
 have e2:wa k key=true:=h;rcases qb e2 with⟨i,t,rfl,rfl⟩|⟨x,t,rfl,rfl⟩
 ·exact#[t,U]
 exact#[t,U]
def Itm(d:Addr)(o:Obj)(kvs:List (Key × V)):It:=#[λi H=>H d\.frz o (.dK kvs)/\i<kvs.length,λi H y H'=>∃t k x,y=.ref t/\H t=none/\kvs[i]? = some (k,x)/\H'=upd H t (.tup [kV k,x]),λi H=>H d\.frz o (.dK kvs)/\kvs.length<=i]
variable{elts:List Expr}{kk:Nat}
theorem fq_{K:ai}{pos:Pos}(d it:Addr)(o:Obj)(kvs:List (Key × V)){es:Array DictEntry}{ep:Nat}(ho:o.data=.dict es ep):Turn P w K (.Tuple elts kk pos) (Itm d o kvs) [it] it (λi h=>∃ok ov,IsItemIter h it d i kvs.length ep ok ov) where
 mem:=by simp
 obj:=λi h st b hb=>by
  obtain rfl:b=it:=⇑hb
  let#[ok,ov,q]:=st;exact#[_,q,λv z=>by cases z]
 keep:=λi h h' st k=>by
  let#[ok,ov,q]:=st;exact#[ok,ov,k it Z2 _ q]
 item:=by
  intro X hP hw hK hc i pins s σ H E I hf st hg;subst hP hw hK;let#[hd,hi]:=hg;let#[vs,rel,dat]:=TF I hd ho;obtain⟨⟨k,x⟩,hx⟩:∃p,kvs[i]? = some p:=#[kvs[i],by simp[hi]];let#[u,hu,ru]:=LB rel i hx;let#[ok,ov,st]:=st;have ZJ:it<s.heap.objs.size:=bp st;rw[rel.length] at st;apply wpAny_pyNext_items_item st dat hu λkey h' hk out ht sz kp=>?_;apply#[_,U,wpAny_letOwnedTupleGo_items (s:={ s with heap:=h' }) out λh2 gn sb=>?_];have nT:s.heap.objs.size≠it:=i5 ZJ;have I1:Inv X pins σ (upd H s.heap.objs.size (.tup [kV k,x])) { s with heap:=h2 }:=I.iL (t':=s.toks) (fp:=[it]) (its:=[key,u]) (λb o hb q=>(sb.2 b ⇑hb).trans (kp b o ⇑hb q)) hf (a_ _) (zl) (.cons (Zv hk) (.cons ru .nil)) #[#[_,(sb.2 _ nT).trans ht,U,_,U],_,(sb.2 _ nT).trans ht,U];apply#[.ref _,_,I1,U,#[_,k,x,U,I.ax.fresh (a_ _),hx,U],#[_,_,by rw[rel.length];exact gn],λb hb=>?_];have e:b=it:=⇑hb
  rw[aw (λz=>nT (z.symm.trans e))];exact (hf b hb).1
 done:=by
  intro X hP hw hK hc i pins s σ H E I hf st hg;subst hP hw hK;let#[hd,hi]:=hg;let#[vs,rel,dat]:=TF I hd ho;let#[f0,f1,f2,f3,f4,f5]:=hf it Z2;let#[ok,ov,st]:=st;rw[rel.length] at st hi;exact wpAny_pyNext_items_end (I.ok.hd hc) st dat (by simp;omega) λh' eb=>#[U,I.turned (t':=s.toks) (λb o hb e=>eb b o hb e) f0 f1 f3 f4 f5]
 self:=λA i s Q E st h=>by
  let#[ok,ov,q]:=st;exact kcp_self q h
inductive nO (R:It->Hp->Prop) (x:V) (H1:Hp):Prop
 |mk:∀v d kvs,x=.ref v->H1 v\tx v d->H1 d\.dK kvs->(∀o,R (Itm d o kvs) (upd H1 d (.frz o (.dK kvs))))->nO R x H1
def zh(tv:TE):TI:=λσ H R=>tv σ H λx H1=>nO R x H1
variable{X:Cx}
theorem Nh{p2:Pos}{e:Expr}{tv:TE}(he:PE X e tv):PI X (.Tuple elts kk p2) e (zh tv):=by
 intro pins s σ H R I h;apply aP (he pins s σ H _ I h) λu s1 ⟨x,H1,I1,r1,v,d,kvs,ex,hv,hd,q⟩=>?_;subst ex;cases r1;let#[iv,_,_]:=I1.ax v _ hv;let#[o,ho,I2]:=I1.freeze hd;let#[z,_,vs,rel,o',es,ep,nU,c',dt,r]:=ER I1.ax hd;rw[ho] at nU;cases nU;apply wpAny_pyIter_items (knd:=fq X.prog X.w) (kvs:=vs) (ep:=ep) iv #[o,es,ho,c',dt,r] ?_;apply#[s1.heap.objs.size,[s1.heap.objs.size],_,_,_,U,I2.kept (t':=s1.toks) λb o e=>aS _ e,fq_ d _ o kvs dt,?_,λb hb=>?_,q o]
 ·rw[rel.length];exact#[.none,.none,cw _ U]
 obtain rfl:b=s1.heap.objs.size:=⇑hb
 exact I2.jD (a_ _) (I2.ax.fresh (a_ _))
theorem N7{d:Addr}{o:Obj}{kvs:List (Key × V)}{g:TG}{tb:TS}{D:Ends}{σ:St}{H:Hp}(Pv:bO)(h0:Pv 0 σ H)(hl:∀i σ H,i<=kvs.length->Pv i σ H->H d\.frz o (.dK kvs))
  (hs:∀i k x σ H,kvs[i]? = some (k,x)->Pv i σ H->∀t,H t=none->g (.ref t) σ (upd H t (.tup [kV k,x])) λgm H2=>tb { D with nx:=Pv (i+1),ct:=Pv (i+1),bk:=D.nx } gm H2) (hd:∀σ H,Pv kvs.length σ H->D.nx σ H) :
  ∃W:Nat->Nat->St->Hp->Prop,(∃m,W 0 m σ H)/\∀i m σ H,W i m σ H->
   ((Itm d o kvs).stop i H/\D.nx σ H)∨((Itm d o kvs).go i H/\∃N:St->Hp->Prop,(∀aV H',N aV H'->∃m',m'<m/\W (i+1) m' aV H')/\∀x H',(Itm d o kvs).uO i H x H'->g x σ H' λgm H2=>tb { D with nx:=N,ct:=N,bk:=D.nx } gm H2):=by
 apply#[λi m σ H=>m=kvs.length - i/\i<=kvs.length/\Pv i σ H,#[kvs.length,by simp,gB _,h0],?_];rintro i m σ H ⟨rfl,hi,p⟩;let q:=hl i σ H hi p;by_cases dW:i<kvs.length
 ·apply .inr #[#[q,dW],Pv (i+1),λaV H' p'=>#[kvs.length - (i+1),by omega,U,dW,p'],λx H' y=>?_];let#[t,k,x,rfl,ht,hx,rfl]:=y;exact hs i k x σ H hx p t ht
 have e:i=kvs.length:=by omega
 subst e;exact .inl #[#[q,a_ _],hd σ H p]
inductive qj (t:TS) (D:Ends) (σ:St) (H:Hp):Prop
 |mk:∀d kvs,H d\.dK kvs->t { nx:=λmR H1=>∃o,H1 d\.frz o (.dK kvs)/\D.nx mR (upd H1 d (.dK kvs)),rt:=λv H1=>∃o,H1 d\.frz o (.dK kvs)/\D.rt v (upd H1 d (.dK kvs)) } σ H->qj t D σ H
theorem R8{st:Stmt}{t:TS}(h:PS X st t):PS X st (qj t):=by
 intro pins s σ H D I q;let#[d,kvs,hd,q]:=q
 have nf:∀o u,X.jV d≠some (.frz o u):=λo u z=>by
  have:=I.base.g9 _ _ _ z;rw[hd] at this;cases this
 apply aP (h pins s σ H _ I q) λf s' p=>?_;cases f with
 |next=>
  let#[mR,H1,I1,o,hf,q1]:=p;exact#[mR,_,I1.qf hf nf,q1]
 |brk=>
  let#[mR,H1,I1,q1]:=p;exact False.elim q1
 |cont=>
  let#[mR,H1,I1,q1]:=p;exact False.elim q1
 |ret u=>
  let#[v,mR,H1,I1,r,o,hf,q1]:=p;exact#[v,mR,_,I1.qf hf nf,r,q1]
end L2
namespace Ev
open PySem L2
structure Fz (d:Addr) (o:Obj) (kvs:List (Key × V)) (H H':Hp):Prop where
 at_:H' d\.frz o (.dK kvs)
 sm:∀b u,b≠d->H b\u->H' b\u
section
variable{d:Addr}{o:Obj}{kvs:List (Key × V)}{H H' H2:Hp}
theorem Fz.start:Fz d o kvs H (upd H d (.frz o (.dK kvs))):=#[ay,λb u ne e=>by rw[aw ne];exact e]
theorem Fz.step(f:Fz d o kvs H H')(s:aa H' H2):Fz d o kvs H H2:=#[s _ _ f.at_,λb u ne e=>s _ _ (f.sm b u ne e)]
theorem Fz.qf(f:Fz d o kvs H H')(hd:H d\.dK kvs):aa H (upd H' d (.dK kvs)):=λb u e=>by
 by_cases z:b=d
 ·subst z;rw[hd] at e;cases e;exact ay
 rw[aw z];exact f.sm b u z e
theorem Fz.xK{K:ai}{CG CW g p:Addr}{hs:Xa}{ts:Xb}{qs:aM}{fp:aq}(f:Fz d o kvs H H')(hd:H d\.dK kvs)(G:gy K CG CW H g p hs ts qs fp)(nd:d∉fp):gy K CG CW H' g p hs ts qs fp:=
 G.keep (λb hb u e=>f.sm b u (λz=>nd (z▸hb)) e) λb xs e=>f.sm b _ (bK e hd nofun) e
end
def d9(ns:af)(g:Str->V):List (Key × V):=ns.map λn=>(Sum.inr n,g n)
theorem BK(ns:af)(g:Str->V):(d9 ns g).map (·.1)=ns.map Sum.inr:=by
 unfold d9;rw[cY];rfl
theorem mB(ns:af)(g:Str->V):(d9 ns g).length=ns.length:=ao _
variable{n:Str}
theorem wg{ns:af}{g:Str->V}(h:n∈ns):aY (d9 ns g) (Sum.inr n)\g n:=by
 induction ns with
 |nil=>cases h
 |cons m ns ih=>
  by_cases e:m=n
  ·subst e;exact AA U
  have:aY (d9 (m::ns) g) (Sum.inr n)=aY (d9 ns g) (Sum.inr n):=Az λz=>e (iu z);rw[this];rcases bW.mp h with z|z
  ·exact absurd z.symm e
  exact ih z
theorem IK{ns:af}{g k:Str->V}(h:∀n∈ns,g n=k n):d9 ns g=d9 ns k:=uI λn hn=>by rw[h n hn]
variable{v:V}
theorem Se{ns:af}{g:Str->V}(h:n∈ns):putK (d9 ns g) (Sum.inr n) v=d9 ns λm=>if m=n then v else g m:=by
 unfold putK;rw[aI]
 ·unfold d9;rw[cY];apply uI λm _=>?_;by_cases e:m=n
  ·subst e;simp
  have:¬((Sum.inr m:Key)=Sum.inr n):=λz=>e (iu z);simp[e]
 apply List.any_eq_true.mpr #[(Sum.inr n,g n),br.mpr #[n,h,U],by simp]
theorem Sq{ns:af}{g:Str->V}(h:n∉ns):putK (d9 ns g) (Sum.inr n) v=d9 (ns++[n]) λm=>if m=n then v else g m:=by
 rw[wB _ (uK (by
  rw[BK];intro m;let#[x,hx,e]:=br.mp m;exact h (iu e▸hx)))]
 unfold d9;rw[fe];congr 1
 ·apply uI λm hm=>?_;have e:¬m=n:=λz=>h (z▸hm);simp[e]
 simp
variable{i:Nat}
theorem L8{ns:af}{g:Str->V}{k:Key}{x:V}(h:(d9 ns g)[i]? = some (k,x)):∃n,ns[i]? = some n/\k=Sum.inr n/\x=g n:=by
 unfold d9 at h;rw[dG] at h;cases e:ns[i]? with
 |none=>rw[e] at h;cases h
 |some n=>
  rw[e] at h;let h:=cq h;exact#[n,U,(eF Prod.fst h).symm,(eF Prod.snd h).symm]
theorem Tc{ns:af}(nd:ns.Nodup)(h:ns[i]? = some n):n∉ns.take i:=by
 let q:=FE (g:=id) (ts:=ns) (by rw[List.map_id];exact nd) h;rwa [List.map_id] at q
theorem uB{ns:af}(h:ns[i]? = some n):ns.take (i+1)=ns.take i++[n]:=by
 rw[tJ,h];rfl
abbrev ft(ns:af)(f:bg):List (Key × V):=d9 ns λn=>.str (f n)
def eD(q:Pc):Str × Int:=(q.1,q.2.1)
def ld(f:bg)(ws:Xa)(h:Str):Int:=((ws.filter λx=>decide (f x.1=h)).map (·.2)).sum
theorem Rg(f:bg)(ws:Xa)(x:Str × Int)(h:Str):ld f (ws++[x]) h=if h=f x.1 then ld f ws h+x.2 else ld f ws h:=by
 unfold ld;rw[List.filter_append];by_cases e:f x.1=h
 ·rw[aI e.symm,fe,List.sum_append];simp[e]
 rw[aA λz=>e z.symm];simp[e]
theorem RR:∀{l:List Int},(∀x∈l,0<=x)->0<=l.sum
 |[],_=>by simp
 |x::l,h=>by
  rw[List.sum_cons];have:=h x gz;have:=RR (l:=l) λy hy=>h y (fM _ hy);omega
theorem Yv{f:bg}{ws:Xa}{h:Str}(p:∀x∈ws,0<=x.2):0<=ld f ws h:=RR λx hx=>by
 let#[y,hy,rfl]:=br.mp hx;exact p y (mF.mp hy).1
theorem gn_{α:Type}{ps:List (Str × α)}(nd:(ps.map (·.1)).Nodup){a b:Str × α}(ha:a∈ps)(hb:b∈ps)(e:a.1=b.1):a=b:=by
 induction ps with
 |nil=>cases ha
 |cons p ps ih=>
  rw[eY,jk] at nd;rcases bW.mp ha with za|ha
  ·rcases bW.mp hb with zb|hb
   ·rw[za,zb]
   rw[za] at e;exact absurd (show p.1∈ps.map (·.1) from br.mpr #[b,hb,e.symm]) nd.1
  rcases bW.mp hb with zb|hb
  ·rw[zb] at e;exact absurd (show p.1∈ps.map (·.1) from br.mpr #[a,ha,e]) nd.1
  exact ih nd.2 ha hb
def strOf(hs:Xa)(n:Str):Int:=((hs.find? λh=>decide (h.1=n)).map (·.2)).getD 0
theorem IV{hs:Xa}(h:n∈hs.map (·.1)):(n,strOf hs n)∈hs:=by
 unfold strOf;let#[x,hx,e]:=br.mp h;cases q:hs.find? λh=>decide (h.1=n) with
 |none=>
  have:=List.find?_eq_none.mp q x hx;simp[e] at this
 |some y=>
  let m:=List.mem_of_find?_eq_some q;have:=List.find?_some q;have e2:y.1=n:=⇑this
  show (n,y.2)∈hs;rw[<- e2];exact m
theorem IE{hs:Xa}(nd:(hs.map (·.1)).Nodup){s:Int}(h:(n,s)∈hs):strOf hs n=s:=by
 let m:=IV (br.mpr #[_,h,U]:n∈hs.map (·.1));exact eF Prod.snd (gn_ nd m h U)
def fr(a b:Int):Int × Int:=(a / (Int.gcd a b:Int),b / (Int.gcd a b:Int))
variable{a b:Int}
theorem _E(ha:0<=a)(h:0<b):Int.gcd b (a % b)=Int.gcd a b:=by
 let#[m,rfl]:=AO ha;let#[n,rfl]:=AO (gO h);rw[<- Int.natCast_emod];show Nat.gcd n (m % n)=Nat.gcd m n;rw[Nat.gcd_comm n,<- Nat.gcd_rec,Nat.gcd_comm]
variable{fd:Ae}
section v
theorem oJ:bN ["one","other","rest","divisor","left"] mw (a9 JZ):=bT
def uX:Sp:=λvs H Q _=>∃a b:Int,vs=[.int a,.int b]/\0<=a/\0<b/\Q (.int (Int.gcd a b)) H
theorem Ym{f:Addr}(F:bC K Bm Bm JZ f fd):!au bh 1 f fd mw uX:=by
 exists F.bS oJ;let#[a,b,rfl,ha,hb,k]:=h;refine' #[_,av ?s1 (av ?s2 (av ?s3 ?s4)),?kk]
 case s1=>exact bo 2 oJ.nd (pv 0)
 case s2=>exact bo 3 oJ.nd (pv 1)
 case s3=>exact FG dI (fg s_ (pv 2) aD) (av (bo 4 oJ.nd (bJ Aw (pv 3) (pv 2))) (av (bo 3 oJ.nd (pv 2)) (aE (bo 2 oJ.nd (pv 4)))))
 case s4=>exact aE (bu (pv 3))
 apply#[_,U,_,U,?_];apply hW_ (λσ H'=>H'=H/\∃(r d:Int) (v4:aJ),σ=[some (.int a),some (.int b),some (.int r),some (.int d),v4]/\0<=r/\0<d/\Int.gcd r d=Int.gcd a b) (λσ _=>match σ with | [_,_,some (.int r),_,_]=>r.toNat|_=>0) #[U,a,b,none,U,ha,hb,U] ?_ ?_
 ·rintro σ H' ⟨rfl,r,d,v4,rfl,jc,hd,e⟩;apply#[_,U,U,_,U,?_];apply bY (λc=>?_) (λc=>?_)
  ·have jb:0<r:=by
    have:r≠0:=by
     intro z;subst z;simp at c
    omega
   apply#[_,U,_,U,_,_,U,U,jb,_,U,_,U,?_];let h1:=Int.emod_nonneg d (Int.ne_of_gt jb);let h2:=Int.emod_lt_of_pos d jb;apply#[#[U,_,_,_,U,h1,jb,?_],?_]
   ·rw[<- e,Int.gcd_comm (d % r) r,_E (gO hd) jb,Int.gcd_comm]
   show (d % r).toNat<r.toNat;omega
  have jb:r=0:=⇑c
  subst jb;apply#[_,U,?_]
  have e2:(Int.gcd a b:Int)=d:=by
   rw[<- e,Int.gcd_zero_left];omega
  rw[<- e2];exact k
 intro σ H' Q1 Q2 hq h;let#[x,e,h1,c,h2,h3]:=h;exact#[x,e,h1,c,h2,hq _ _ h3]
end
theorem Yk(hb:0<b)(l5:b<=1000):0<(Int.gcd a b:Int)/\(Int.gcd a b:Int)<1073741824:=by
 have h1:0<Int.gcd a b:=Int.gcd_pos_of_ne_zero_right a Z1;have h2:(Int.gcd a b:Int) ∣ b:=Int.gcd_dvd_right a b;let h3:=Int.le_of_dvd hb h2;omega
section v
structure Nb (hs:Xa) (qs:aM) (ns:af) (f:bg):Prop where
 perm:ns.Perm (qs.map (·.1))
 at_:∀n∈ns,f n∈hs.map (·.1)
theorem Ij:bN ["goods","stand","piece","hand","names"] ["goods","stand"] (a9 MZ):=bT
inductive Iq (K:ai) (CG CW:Addr) (vs:ag) (H:Hp) (Q:VK) (E:XK):Prop
 |mk:∀(g p d:Addr) (hs:Xa) (ts:Xb) (qs:aM) (fp:aq) (ns:af) (f:bg),vs=[.ref g,.ref d]->gy K CG CW H g p hs ts qs fp->d∉fp->H d\.dK (ft ns f)->Nb hs qs ns f->(qs.map (·.1)).Nodup->qs.length<64->(∀d' H',aa H H'->H d'=none->H' d'\.dK (ft (qs.map (·.1)) f)->Q (.ref d') H')->Iq K CG CW vs H Q E
theorem _W{f CG CW:Addr}(F:bC K "checked_stand" "checked_stand" MZ f fd)(B:Bi mg)(T:gd K CG)(TW:Txt K mg CW)(cH:!bV CG 1 "has_piece" oj (E6 K CG CW))(cW:!bV CW 1 "has_hand" oj (js K CW))(cN:!bV CG 1 "names" o7 (BH K CG CW)) :
  au P w K mg base bh 2 f fd ["goods","stand"] (Iq K CG CW):=by
 exists F.bS Ij;let#[g,p,d,hs,ts,qs,fp,ns,f,rfl,G,vV,hd,so,nd,cX,k]:=h;let hu:=fN hr;let sz:=cU;refine' #[_,?r0,?kk]
 case' r0=>refine' av ?s1 ?r1
 case s1=>exact b_ (fh (eZ (cZ mG (by rfl) B.ka kr %[1,mC (v:=.ty "dict") (by rfl) B.dict uA U|0]))) gi cg
 case' r1=>refine' av ?s2 ?r2
 case' s2=>refine' R8 (d_ dI U ?i2 ?g2 ?b2)
 case i2=>exact Nh (Iz (pv 1))
 case g2=>exact kq U (dH (cm 2 Ij.nd) (dH (cm 3 Ij.nd) iK))
 case b2=>exact av (b_ (fh (eZ (iZ cH T.cl hr (pv 0) %[2|0]))) gi cg) (aE (b_ (fh (eZ (iZ cW TW.cl hr (gc (pv 0) U) %[3|0]))) gi cg))
 case' r2=>refine' av ?s3 ?r3
 case s3=>exact bo 4 Ij.nd (Ar cN T.cl hr (pv 0))
 case' r3=>refine' av ?s4 (aE ?s5)
 case s4=>exact b_ (fg s_ (cZ g7_ (by rfl) B.len gF %[1|0]) (cZ h_ (by rfl) B.len gF %[4|0])) gi cg
 case s5=>exact bu (jh (AN U) (by rfl) B.dict uA %[ku ["piece","stand"] 1 [1] (dF (pv 4)) (λfp s H=>gg (i:=0) (show (["piece","stand"]:af).Nodup by decide +kernel) U (Or.inl U)) (λfp s H=>mE) (λfp s H=>iA %[0,ji hu (pv 1) (pv 0)|0])|0])
 have XG:ns.length=qs.length:=by rw[so.perm.length_eq,ao]
 apply#[_,U,_,_,_,_,U,.dK hd,U,_,U,aL ?_];apply#[d,_,hd,?_];apply#[_,U,d,_,U,hd,λv hv=>?_];let#[s1,xw]:=aH (o:=tx v d) hv;let G1:=G.same s1;let uf:=s1 _ _ hd;generalize upd H v (tx v d)=H1 at s1 xw G1 uf ⊢;apply#[v,d,_,U,xw,uf,λo=>?_];apply N7 (λi σ H'=>∃(v2 v3:aJ),σ=[some (.ref g),some (.ref d),v2,v3,none]/\Fz d o (ft ns f) H1 H') #[none,none,U,Fz.start] (λi σ H' _ ⟨_,_,_,z⟩=>z.at_) ?_ ?_
 ·rintro i ky x σ H2 hx ⟨v2,v3,rfl,fz⟩ t ht;let#[n,hn,rfl,rfl]:=L8 hx;let nm:=cy hn;let s2:=aa.new (o:=.tup [.str n,.str (f n)]) ht;let zW:=fz.step s2;have e2:upd H2 t (.tup [.str n,.str (f n)]) t\.tup [.str n,.str (f n)]:=ay;show gM _ _ _ _ _ (upd H2 t (.tup [.str n,.str (f n)])) _;generalize upd H2 t (.tup [.str n,.str (f n)])=H3 at s2 zW e2 ⊢;apply#[t,_,U,.of e2,U,_,_,U,_,_,U,U,?_];let G3:=zW.xK uf G1 vV;let#[dx,dw,dy,vs,dc,h1,h2,h3,h4,h5,m1,m2,m3,m4,m5]:=id G3.ex;let#[l6,d1,l2,d3,wJ,as,ef,w1,_]:=id h2.ex;have kh:(cK p dw dy).lookup ("has_piece":Str)=none:=wz _ _ _ Z0 Z0 Z0;have zu:(fo d1 l2 d3).lookup ("has_hand":Str)=none:=p0 _ _ _ Z0 Z0 Z0;apply#[_,U,g,dx,_,U,h1,kh,_,U,g,p,.str n,some n,hs,ts,qs,fp,U,G3,U,_,U,?_];rw[show DQ (qs.map (·.1)) (some n)=true from cz (so.perm.mem_iff.mp nm)];apply aL ?_;apply#[_,U,g,CG,dx,_,_,U,h1,T.cl,T.nW,xX _ _ _,p,l6,_,U,w1,zu,_,U,p,f n,hs,ts,dc,U,h2,_,U,?_];rw[cz (so.at_ n nm)];exact aL #[_,_,U,zW]
 rintro σ H2 ⟨v2,v3,rfl,fz⟩;apply#[o,fz.at_,?_];let s2:=s1.trans (fz.qf uf);have hd2:upd H2 d (.dK (ft ns f)) d\.dK (ft ns f):=ay;generalize upd H2 d (.dK (ft ns f))=H3 at s2 hd2 ⊢;let G3:=G.same s2;let#[dx,dw,dy,vs,dc,h1,h2,h3,h4,h5,m1,m2,m3,m4,m5]:=id G3.ex;apply#[_,U,g,dx,_,U,h1,wz _ _ _ Z0 Z0 Z0,g,p,hs,ts,qs,fp,U,G3,λln xA=>?_];let#[s3,e3]:=aH (o:=.lst ((qs.map (·.1)).map V.str)) xA;let lY:=s3 _ _ hd2;generalize upd H3 ln (.lst ((qs.map (·.1)).map V.str))=H4 at s3 e3 lY ⊢;apply#[_,U,d,_,U,lY,_,U,ln,_,U,.inl (.of e3),U,_,U,?_];rw[mB,ao,ao,XG];simp only[bne_self_eq_false,decide_true,Bool.not_true];apply aL ?_;let pH:=s2.trans s3;apply#[_,U,ln,U,#[_,.of e3],λD hD=>?_];apply kD (own:=1) (fv:=[some (.ref d)]) (xs:=(qs.map (·.1)).map V.str) U fX (λi out H'=>aa H4 H'/\H' D\.lst out/\km K H' out (ft ((qs.map (·.1)).take i) f)) #[aa.new hD,ay,.nil] (λi out H' _ ⟨sm,_,_⟩=>.of (sm _ _ e3)) (λout H5 ⟨sm,iV,pa⟩=>?_) (λi y out H' hy ⟨sm,dM,pa⟩=>?_)
 ·rw[ao,eG] at pa;apply#[D,out,_,U,iV,pa,by rw[mB,ao];omega,λd' iU=>?_]
  have nM:((ft (qs.map (·.1)) f).map (·.1)).Nodup:=by
   rw[BK,qa,wD];exact nd.imp λn e=>n (iu e)
  rw[xZ nM];exact k d' _ ((pH.trans sm).trans (aa.new iU)) (pH.free (sm.free iU)) ay
 let#[n,hn,rfl]:=mz hy;have hi:i<(qs.map (·.1)).length:=(bZ.mp hn).1;rw[ao] at hi;have nm:n∈ns:=so.perm.mem_iff.mpr (cy hn);apply#[_,U,U,λNx hN=>fU ?_];apply#[_,U,_,U,_,U,d,.str (f n),U,?_,zl,λt ht=>?_]
 ·rw[<- wg (g:=λn=>V.str (f n)) nm];exact .k (k:=Sum.inr n) (sm _ _ lY)
 let s5:=aa.new (o:=.tup [.str n,.str (f n)]) ht;let lo:=bj pa;rw[mB,dR,ao] at lo;apply#[out,s5 _ _ dM,by omega,hN _ _ #[fQ (sm.trans s5) hD,ay,?_]];have DX:upd H' t (.tup [.str n,.str (f n)]) t\.tup [.str n,.str (f n)]:=ay;have pD:∀{b:Addr} {ys:ag},upd H' t (.tup [.str n,.str (f n)]) b\.tup ys->b≠D:=λhb=>bK hb (s5 _ _ dM) nofun;rw[uB hn];show km K _ _ (((qs.map (·.1)).take i++[n]).map _);rw[fe];exact gR (Paired.aU pa λy kv ⟨b,z,hb⟩=>#[b,z,by rw[aw (pD (s5 _ _ hb))];exact s5 _ _ hb]) (.cons #[t,U,by rw[aw (pD DX)];exact DX] .nil)
end
variable{C:Addr}
theorem g_.has{K:ai}{H:Hp}{p:Addr}{hs:Xa}{ts:Xb}{fp:aq}(W:g_ K C H p hs ts fp){b:Addr}(hb:b∈fp):∃o,H b\o:=by
 let#[dx,d1,l2,d3,zs,as,rfl,h1,h2,h3,h4,h5,h6,h7]:=W.ex;simp only[bW] at hb;rcases hb with rfl|rfl|rfl|rfl|hb
 ·exact#[_,h1]
 ·exact#[_,h2]
 ·exact#[_,h3]
 ·exact#[_,h5]
 let#[i,hi,e]:=gH hb;exact#[_,h7 i ((aN hs)[i]' Z1) b (aX Z1) (by rw[<- e];exact aX hi)]
theorem gy.slim{K:ai}{CG CW:Addr}{H:Hp}{g p:Addr}{hs:Xa}{ts:Xb}{qs:aM}{fp:aq}(G:gy K CG CW H g p hs ts qs fp):∃ui,gy K CG CW H g p hs ts qs ui/\∀b∈ui,∃o,H b\o:=by
 let#[dx,dw,dy,vs,dc,h1,h2,h3,h4,h5,m1,m2,m3,m4,m5]:=G.ex;apply#[g::dw::dy::(dc++vs.filterMap λv=>match v with | .ref a=>some a|_=>none),#[dx,dw,dy,vs,dc,h1,h2,h3,h4,h5,by simp,by simp,by simp,λb hb=>by simp[hb],λv hv a z=>?_],λb hb=>?_]
 ·have:a∈vs.filterMap λv=>match v with | .ref a=>some a|_=>none:=ya.mpr #[v,hv,by rw[z]];simp only[bW,dN];exact .inr (.inr (.inr (.inr this)))
 simp only[bW,dN] at hb;rcases hb with rfl|rfl|rfl|hb|hb
 ·exact#[_,h1]
 ·exact#[_,h3]
 ·exact#[_,h4]
 ·exact h2.has hb
 let#[v,hv,e]:=ya.mp hb;let#[i,hi,ev]:=gH hv;let le:=bj h5;let w:=eO h5 i hi Z1;rw[ev] at w;cases o:(qs[i]' Z1).2.2 with
 |none=>
  rw[o] at w;rw[show v=.non from w] at e;cases e
 |some ws=>
  rw[o] at w;let#[a,ys,ea,ha,_]:=w;rw[ea] at e;cases e;exact#[_,ha]
section
variable{d d2:Addr}{o:Obj}{kvs:List (Key × V)}{H H' H1:Hp}{u:HO}
theorem Fz.yu(s:aa H H1):Fz d o kvs H (upd H1 d (.frz o (.dK kvs))):=#[ay,λb u ne e=>by rw[aw ne];exact s _ _ e]
theorem Fz.put(f:Fz d o kvs H H')(hn:H d2=none)(ne:d2≠d):Fz d o kvs H (upd H' d2 u):=#[by rw[aw ne.symm];exact f.at_,λb u nb e=>by rw[aw (bq e hn)];exact f.sm b u nb e]
end
section v
theorem I_:bN ["goods","placed","hand","found","piece"] oo (a9 Om):=bT
structure BD (K:ai) (CG CW:Addr) (H:Hp) (g p d:Addr) (hs:Xa) (ts:Xb) (qs:aM) (fp:aq) (f:bg):Prop where
 G:gy K CG CW H g p hs ts qs fp
 Gd:Good hs ts
 vV:d∉fp
 hd:H d\.dK (ft (qs.map (·.1)) f)
 at_:∀n∈qs.map (·.1),f n∈hs.map (·.1)
 nd:(qs.map (·.1)).Nodup
 cX:qs.length<64
abbrev Qm(hs:Xa)(qs:aM)(f:bg):List (Key × V):=d9 (aN hs) λh=>.int (ld f (qs.map eD) h)
inductive N8 (K:ai) (CG CW:Addr) (vs:ag) (H:Hp) (Q:VK) (E:XK):Prop
 |mk:∀(g p d:Addr) (hs:Xa) (ts:Xb) (qs:aM) (fp:aq) (f:bg),vs=[.ref g,.ref d]->BD K CG CW H g p d hs ts qs fp f->(∀d' H',aa H H'->H d'=none->H' d'\.dK (Qm hs qs f)->Q (.ref d') H')->N8 K CG CW vs H Q E
theorem fM_{f CG CW CP:Addr}(F:bC K "loads_at" "loads_at" Om f fd)(B:Bi mg)(T:gd K CG)(TW:Txt K mg CW)(cH:!bV CW 1 "hands" o7 (Fp K CW))(cW:!bV CG 2 "weight" ["self","piece"] (N_ K CG CW CP)) :
  au P w K mg base bh 3 f fd oo (N8 K CG CW):=by
 exists F.bS I_;let#[g,p,d,hs,ts,qs,fp,f,rfl,Pl,k]:=h;let hu:=fN hr;let sz:=cU;have jb:aO 1 _:=hr.mono (by decide);refine' #[_,?r0,?kk]
 case' r0=>refine' av ?s1 ?r1
 case s1=>exact bo 3 I_.nd (jh (AN U) (by rfl) B.dict uA %[ku ["hand"] 1 [] (dF (Ar cH TW.cl jb (gc (pv 0) U))) (λfp s H=>gg (i:=0) (show (["hand"]:af).Nodup by decide +kernel) U (Or.inl U)) (λfp s H=>mE) (λfp s H=>iA %[0,aD|0])|0])
 case' r1=>refine' av ?s2 ?r2
 case' s2=>refine' R8 (d_ dI U ?i2 ?g2 (aE ?b2))
 case i2=>exact Nh (Iz (pv 1))
 case g2=>exact kq U (dH (cm 4 I_.nd) (dH (cm 2 I_.nd) iK))
 case b2=>exact uC hu (pv 3) (pv 2) (bJ ia (ji hu (pv 3) (pv 2)) (iZ cW T.cl hr (pv 0) %[4|0])) U
 case r2=>exact aE (bu (pv 3))
 let nl:=Pl.Gd.gT;let h8:=Pl.Gd.h8;let#[dx,dw,dy,vs,dc,h1,h2,h3,h4,h5,m1,m2,m3,m4,m5]:=id Pl.G.ex;let#[l6,d1,l2,d3,wJ,as,ef,w1,_]:=id h2.ex;have zu:(fo d1 l2 d3).lookup ("hands":Str)=none:=p0 _ _ _ Z0 Z0 Z0;apply#[_,U,g,CG,dx,_,_,U,h1,T.cl,T.nW,xX _ _ _,p,l6,_,U,w1,zu,p,hs,ts,dc,U,h2,λlh eW=>?_];let#[s1,e1]:=aH (o:=.lst ((aN hs).map V.str)) eW;generalize upd H lh (.lst ((aN hs).map V.str))=H1 at s1 e1 ⊢;apply#[lh,U,#[_,.of e1],λD hD=>?_];apply kD (own:=1) (fv:=[]) (xs:=(aN hs).map V.str) U fX (λi out H'=>aa H1 H'/\H' D\.lst out/\km K H' out (d9 ((aN hs).take i) λ_=>.int 0)) #[aa.new hD,ay,.nil] (λi out H' _ ⟨sm,_,_⟩=>.of (sm _ _ e1)) (λout H5 ⟨sm,iV,pa⟩=>?_) (λi y out H' hy ⟨sm,dM,pa⟩=>?_);rotate_left 1
 ·let#[n,hn,rfl]:=mz hy;have hi:i<(aN hs).length:=(bZ.mp hn).1;apply#[_,U,U,λNx hN=>fU ?_];apply#[_,U,zl,λt ht=>?_];let s5:=aa.new (o:=.tup [.str n,.int 0]) ht;let lo:=bj pa;rw[mB,dR] at lo;apply#[out,s5 _ _ dM,by omega,hN _ _ #[fQ (sm.trans s5) hD,ay,?_]];have DX:upd H' t (.tup [.str n,.int 0]) t\.tup [.str n,.int 0]:=ay;have pD:∀{b:Addr} {ys:ag},upd H' t (.tup [.str n,.int 0]) b\.tup ys->b≠D:=λhb=>bK hb (s5 _ _ dM) nofun;rw[uB hn];show km K _ _ (((aN hs).take i++[n]).map _);rw[fe];exact gR (Paired.aU pa λy kv ⟨b,z,hb⟩=>#[b,z,by rw[aw (pD (s5 _ _ hb))];exact s5 _ _ hb]) (.cons #[t,U,by rw[aw (pD DX)];exact DX] .nil)
 rw[ao,eG] at pa;apply#[D,out,_,U,iV,pa,by rw[mB];omega,λd2 hd2=>?_]
 have nM:((d9 (aN hs) λ_=>V.int 0).map (·.1)).Nodup:=by
  rw[BK,qa,wD];exact Pl.Gd.rV.imp λn e=>n (iu e)
 rw[xZ nM];let s2:=(s1.trans sm).trans (aa.new (o:=.dK (d9 (aN hs) λ_=>V.int 0)) hd2);have e2:upd H5 d2 (.dK (d9 (aN hs) λ_=>V.int 0)) d2\.dK (d9 (aN hs) λ_=>V.int 0):=ay;have n2:H d2=none:=s1.free (sm.free hd2);show uT _ _ _ _ (upd H5 d2 (.dK (d9 (aN hs) λ_=>V.int 0)));generalize upd H5 d2 (.dK (d9 (aN hs) λ_=>V.int 0))=H6 at s2 e2 ⊢;have Nt:d2≠d:=(bq Pl.hd n2).symm;apply#[d,_,s2 _ _ Pl.hd,?_];apply#[_,U,d,_,U,s2 _ _ Pl.hd,λv hv=>?_];let#[s3,xw]:=aH (o:=tx v d) hv;let e3:=s3 _ _ e2;let eU:=s2.trans s3;generalize upd H6 v (tx v d)=H7 at s3 xw e3 eU ⊢;apply#[v,d,_,U,xw,eU _ _ Pl.hd,λo=>?_];apply N7 (λi σ H'=>∃(v2 v4:aJ),σ=[some (.ref g),some (.ref d),v2,some (.ref d2),v4]/\Fz d o (ft (qs.map (·.1)) f) H H'/\H' d2\.dK (d9 (aN hs) λh=>.int (ld f ((qs.take i).map eD) h))) #[none,none,U,Fz.yu eU,by rw[aw Nt];exact e3] (λi σ H' _ ⟨_,_,_,z,_⟩=>z.at_) ?_ ?_
 ·rintro i ky x σ H8 hx ⟨v2,v4,rfl,fz,e8⟩ t ht;let#[n,hn,rfl,rfl]:=L8 hx
  have hi:i<qs.length:=by
   have:=(bZ.mp hn).1;rwa [ao] at this
  have hq:qs[i]? = some (qs[i]'hi):=aX hi
  have en:n=(qs[i]'hi).1:=by
   rw[dG,hq] at hn;exact (cq hn).symm
  have fm:f n∈aN hs:=(fD hs).mem_iff.mpr (Pl.at_ n (cy hn));generalize qs[i]'hi=q at hq en;let s8:=aa.new (o:=.tup [.str n,.str (f n)]) ht;let zW:=fz.step s8;let e9:=s8 _ _ e8;have et:upd H8 t (.tup [.str n,.str (f n)]) t\.tup [.str n,.str (f n)]:=ay;show gM _ _ _ _ _ (upd H8 t (.tup [.str n,.str (f n)])) _;generalize upd H8 t (.tup [.str n,.str (f n)])=H9 at s8 zW e9 et ⊢;apply#[t,_,U,.of et,U,_,_,U,_,_,U,U,?_];let G9:=zW.xK Pl.hd Pl.G Pl.vV;let#[dx,dw,dy,vs,dc,h1,h2,h3,h4,h5,m1,m2,m3,m4,m5]:=id G9.ex;have kh:(cK p dw dy).lookup ("weight":Str)=none:=wz _ _ _ Z0 Z0 Z0;apply#[_,U,_,U,d2,.int (ld f ((qs.take i).map eD) (f n)),U,?_,_,U,g,dx,_,U,h1,kh,_,U,g,p,.str n,some n,hs,ts,qs,fp,U,G9,Pl.nd,U,.inl #[q,cy hq,eF some en,?_]]
  ·rw[<- wg (g:=λh=>V.int (ld f ((qs.take i).map eD) h)) fm];exact .k (k:=Sum.inr (f n)) e9
  apply#[_,_,U,U,_,U,_,U,d2,_,U,.k (k:=Sum.inr (f n)) e9 (by rw[mB];omega),?_];apply#[_,_,U,zW.put n2 Nt,?_];rw[ay,Se fm];congr 2;apply IK λm _=>?_
  have e5:(qs.take (i+1)).map eD=(qs.take i).map eD++[eD q]:=by
   rw[tJ,hq,fe];rfl
  rw[e5,Rg];show (if m=f n then V.int (ld f ((qs.take i).map eD) (f n)+q.2.1) else V.int (ld f ((qs.take i).map eD) m))=V.int (if m=f q.1 then _ else _);rw[<- en];by_cases z:m=f n
  ·rw[aI z,aI z,z];rfl
  rw[aA z,aA z]
 rintro σ H8 ⟨v2,v4,rfl,fz,e8⟩;apply#[o,fz.at_,?_];rw[mB,ao,eG] at e8;exact#[_,U,k d2 _ (fz.qf Pl.hd) n2 (by rw[aw Nt];exact e8)]
end
structure Std (K:ai) (CG CW:Addr) (H:Hp) (g p d:Addr) (hs:Xa) (ts:Xb) (qs:aM) (fp:aq) (ns:af) (f:bg):Prop where
 G:gy K CG CW H g p hs ts qs fp
 Gd:Good hs ts
 vV:d∉fp
 hd:H d\.dK (ft ns f)
 ok:Nb hs qs ns f
 nd:(qs.map (·.1)).Nodup
 cX:qs.length<64
 wp:∀q∈qs,0<=q.2.1
theorem CM{t u:TS}{D:Ends}{σ:St}{H:Hp}(R:mO)(later:∀σ H,R σ H->u D σ H)(now:∀N:St->Hp->Prop,(∀σ H,R σ H->N σ H)->t { D with nx:=N } σ H):uT t u D σ H:=now (u D) later
structure jZ (P:Ad) (w:Ag) (K:ai) (mg:Str->Option Aa) (base:Heap) (C:Addr) (k:Nat) (x:Str) (ps:af) (sp:Sp):Prop where
 ex:∃f fd,au P w K mg base bh k f fd ps sp/\Mk K C f/\mg x\.ref C/\pQ K fd ps []
theorem GJ{n_:Nat}{X:Cx}{k:Nat}{x:Str}{ps:af}{sp:Sp}{p pos:Pos}{e:Expr}{es:List Expr}{t:TA}(c:jZ X.prog X.w X.K X.mg X.base C k x ps sp)(hr:aO n_ X.A)(ha:PA X (e::es) t)(hg:Gl X x:=by rfl)(sG:(x == ("__debug__":Str))=false:=by decide)(he:starEach (e::es) X.env=(false,eval e X.env)::starEach es X.env:=by rfl)(ij:(backTo pos (starEach es X.env)).any (·.1)=false:=by rfl)(hk:(k+1)<=n_:=by decide):PE X (.Call (.Name x p) (e::es) [] pos) (wO C sp [] E0 t):=by
 let#[f,fd,F,M,m,b]:=c.ex;exact YL M F (hr.mono hk) hg m b .nil nF ha sG he ij
end Ev
namespace L2
open PySem PySem.Spec PyProof.Rows PySem.W
inductive rK (xs:ag) (H:Hp) (Q:VK):Prop
 |mk:∀a kvs,xs=[.ref a]->Rd H a (.dK kvs)->(∀p,H p=none->Q (.ref p) (upd H p (.dK kvs)))->rK xs H Q
variable{X:Cx}
theorem fC_:gE X (.type "dict") rK:=by
 intro pins s σ H xs us Q I r h;let#[a,kvs,rfl,hd,q]:=h;let#[u,rfl,ru]:=vals1 r;cases ru;exact ZV I hd λp s' hp I'=>#[.ref p,_,I',U,q p hp]
inductive rF (K:ai) (x:V) (y:V) (H:Hp) (Q:VK):Prop
 |mk:∀a b xs,x=.ref a->y=.ref b->dY K H a xs->dY K H b []->Q (.bl (!xs.isEmpty)) H->rF K x y H Q
theorem MM(hu:X.A.units+0+1<cLine):dO X (compareOp .NotEq) (rF X.K):=by
 intro pins s σ H x y v u Q I rx ry h;let#[a,b,xs,rfl,rfl,t,t',hq]:=h;cases xs with
 |nil=>exact Y5 iq hu pins s σ H (.ref a) (.ref b) v u Q I rx ry #[[],[],#[a,[],U,t,.nil],#[b,[],U,t',.nil],hq]
 |cons z zs=>
  cases rx;cases ry;let#[us,r,pl,_]:=I.list t;let#[vs,r',vi,_]:=I.list t';let l1:=r.length;let l2:=r'.length;exact Jf.gU pl.isList vi.isList (by simp only[cQ,bne_iff_ne];simp at l1 l2;omega) Z1 #[.bl true,H,I,U,hq]
end L2
namespace Ev
open PySem L2
theorem R5{A:Af}{s:Ab}{ns:af}{f g:bg}{vb:List (Key × Aa)}(rb:KV (ft ns g) vb):∀(ms:af) (va:List (Key × Aa)),KV (ft ms f) va->(∀m∈ms,m∈ns)->PySem.W.KeqHits A s vb va (ms.all λn=>decide (f n=g n))
 |[],va,r,_=>by
  cases r;exact .nil
 |m::ms,va,r,h=>by
  cases r with
  |@cons _ q _ Vz h1 r=>
   let hm:=h m gz;let#[y,hy,ry]:=e_.some_of (v:=.str (g m)) (o:=valueAt vb (Sum.inr m)) (by rw[<- wg (g:=λn=>V.str (g n)) hm];exact rb.val _);let#[k,v]:=q;let#[e1,e2]:=h1;have e1:(Sum.inr m:Key)=k:=e1;subst e1;let#[t,rfl]:=(show ∃t,v=Value.str (f m) t from e2);let#[u,rfl]:=(show ∃t,y=Value.str (g m) t from ry);let q:=SeqAt.EqAt.str_str (A:=A) (s:=s) (f m) t (g m) u;rw[show (f m == g m)=decide (f m=g m) by by_cases z:f m=g m<;>simp[z]] at q
   exact .hit hy q (R5 rb ms Vz r λx hx=>h x (fM _ hx))
def gK(a n:Int):Int:=a / (Int.gcd a n:Int) * n
variable{n:Int}
theorem YR{a:Int}(ha:0<a)(hn:0<n):gK a n=(Int.lcm a n:Int):=by
 let#[p,rfl]:=AO (gO ha);let#[q,rfl]:=AO (gO hn);show ((p:Int) / ((Nat.gcd p q:Nat):Int)) * (q:Int)=((Nat.lcm p q:Nat):Int);rw[<- Int.natCast_ediv,<- Int.natCast_mul,Nat.div_mul_right_comm (Nat.gcd_dvd_left p q)];rfl
def jy(ns:List Int):Int:=ns.foldl gK 1
theorem IC:∀(ns:List Int) (a:Int),0<a->(∀n∈ns,0<n)->0<ns.foldl gK a/\∀x:Int,0<=x->(ns.foldl gK a ∣ x ↔ a ∣ x/\∀n∈ns,n ∣ x)
 |[],a,ha,_=>#[ha,λx _=>by simp]
 |n::ns,a,ha,h=>by
  let hn:=h n gz;let e:=YR ha hn
  have p:0<gK a n:=by
   rw[e];have:=Nat.lcm_pos (m:=a.natAbs) (n:=n.natAbs) Z1 Z1;have:0<Int.lcm a n:=this;omega
  let#[h1,h2]:=IC ns (gK a n) p λm hm=>h m (fM _ hm);apply#[h1,λx hx=>(h2 x hx).trans ?_];let#[z,rfl]:=AO hx;rw[e,Int.natCast_dvd_natCast,Int.lcm_dvd_iff];constructor
  ·rintro⟨⟨q1,q2⟩,q3⟩
   exact#[q1,λm hm=>by
    rcases bW.mp hm with rfl|hm
    ·exact q2
    exact q3 m hm]
  rintro⟨q1,q2⟩;exact#[#[q1,q2 n gz],λm hm=>q2 m (fM _ hm)]
variable{ns:List Int}
theorem Nf(h:∀n∈ns,0<n):0<jy ns:=(IC ns 1 (by decide) h).1
theorem _a(h:∀n∈ns,0<n)(hn:n∈ns):n ∣ jy ns:=
 (((IC ns 1 (by decide) h).2 _ (gO (Nf h))).mp (Int.dvd_refl _)).2 n hn
theorem Za(f:bg)(x:Str × Int)(ws:Xa)(h:Str):ld f (x::ws) h=(if f x.1=h then x.2 else 0)+ld f ws h:=by
 unfold ld;by_cases e:f x.1=h
 ·simp[e]
 simp[e]
theorem Qt{f:bg}{h:Str}:∀{ws:Xa},(∀x∈ws,0<=x.2/\x.2<=1000000000)->ld f ws h<=1000000000 * ws.length
 |[],_=>by
  unfold ld;simp
 |x::ws,p=>by
  let h1:=p x gz;let h2:=Qt (f:=f) (h:=h) (ws:=ws) λy hy=>p y (fM _ hy);rw[Za,jm];by_cases z:f x.1=h
  ·rw[aI z];omega
  rw[aA z];omega
def bP(hs:Xa):Int:=jy ((aN hs).map (strOf hs))
theorem wo{hs:Xa}{ts:Xb}(G:Good hs ts){n:Str}(h:n∈aN hs):1<=strOf hs n/\strOf hs n<=1000:=(G.ax _ (IV ((fD hs).mem_iff.mp h))).2
variable{i:Nat}
variable{fd:Ae}
section v
theorem u0:bN ["numbers","found","number"] ["numbers"] (a9 JY):=bT
def CH(K:ai):Sp:=λvs H Q _=>∃(l:Addr) (ns:List Int),vs=[.ref l]/\dY K H l (ns.map V.int)/\(∀n∈ns,1<=n/\n<=1000)/\Q (.int (jy ns)) H
theorem _N(h:ns[i]? = some n):jy (ns.take (i+1))=gK (jy (ns.take i)) n:=by
 unfold jy;rw[tJ,h,List.foldl_append];rfl
theorem eB_{y:V}(h:(ns.map V.int)[i]? = some y):∃n,ns[i]? = some n/\y=.int n:=by
 rw[dG] at h;cases e:ns[i]? with
 |none=>rw[e] at h;cases h
 |some n=>rw[e] at h;exact#[n,U,(cq h).symm]
theorem Yq{f:Addr}(F:bC K "least_multiple" "least_multiple" JY f fd)(cG:!bx 1 Bm mw uX):!au bh 2 f fd ["numbers"] (CH K):=by
 exists F.bS u0;let#[l,ns,rfl,hl,b,k]:=h;refine' #[_,av ?s1 (av ?s2 (aE ?s3)),?kk]
 case s1=>exact bo 1 u0.nd aD
 case s2=>exact d_ dI U (dF (pv 0)) (cm 2 u0.nd) (aE (bo 1 u0.nd (bJ iz (bJ Fe (pv 1) (bc cG hr %[1,2|0])) (pv 2))))
 case s3=>exact bu (pv 1)
 apply#[_,U,l,U,#[_,hl],gh (K:=K) (a:=l) (xs:=ns.map V.int) (λi σ H'=>H'=H/\∃(v2:aJ),σ=[some (.ref l),some (.int (jy (ns.take i))),v2]) #[U,none,U] (λi σ H' _ ⟨e,_⟩=>by rw[e];exact hl) ?_ ?_]
 ·rintro i y σ H' hy ⟨rfl,v2,rfl⟩;let#[n,hn,rfl]:=eB_ hy;let bn:=b n (cy hn)
  let p:=Nf (ns:=ns.take i) λm hm=>by
   have:=b m (List.take_subset _ _ hm);omega
  apply#[_,U,_,U,_,U,_,_,U,gO p,by omega,_,_,U,U,Yk Z1 bn.2,_,U,_,_,U,U,.inr #[by omega,by omega],U,some (.int n),?_];rw[_N hn];rfl
 rintro σ H' ⟨rfl,v2,rfl⟩;apply#[_,U,?_];rw[ao,eG];exact k
theorem yG:bN ["web"] ["web"] (a9 qW):=bT
inductive E8 (K:ai) (C:Addr) (vs:ag) (H:Hp) (Q:VK) (E:XK):Prop
 |mk:∀(p:Addr) (hs:Xa) (ts:Xb) (fp:aq),vs=[.ref p]->g_ K C H p hs ts fp->Good hs ts->(∀H',aa H H'->Q (.int (bP hs)) H')->E8 K C vs H Q E
theorem YY{f CW:Addr}(F:bC K Bt Bt qW f fd)(TW:Txt K mg CW)(cL:!bx 2 "least_multiple" ["numbers"] (CH K))(cH:!bV CW 1 "hands" o7 (Fp K CW))(cS:!bV CW 2 "strength" vW (IX K CW)):!au bh 3 f fd ["web"] (E8 K CW):=by
 exists F.bS yG;let#[p,hs,ts,fp,rfl,W,G,k]:=h;let sz:=cU;let nl:=G.gT;let h8:=G.h8;refine' #[_,aE (bu (bc cL hr %[ku ["hand","web"] 1 [0] (dF (Ar cH TW.cl (hr.mono (by decide)) (pv 0))) (λfp s H=>gg (i:=0) (show (["hand","web"]:af).Nodup by decide +kernel) U (Or.inl U)) (λfp s H=>mE) (λfp s H=>?e1)|0])),?kk]
 case e1=>exact iZ cS TW.cl hr (pv 1) %[0|0]
 let#[l6,d1,l2,d3,wJ,as,ef,w1,_]:=id W.ex;apply#[_,U,p,l6,_,U,w1,p0 _ _ _ Z0 Z0 Z0,p,hs,ts,fp,U,W,λlh eW=>?_];let#[s1,e1]:=aH (o:=.lst ((aN hs).map V.str)) eW;generalize upd H lh (.lst ((aN hs).map V.str))=H1 at s1 e1 ⊢;apply#[lh,U,#[_,.of e1],λD hD=>?_];apply kD (own:=1) (fv:=[some (.ref p)]) (xs:=(aN hs).map V.str) U fX (λi out H'=>aa H1 H'/\H' D\.lst out/\out=(((aN hs).take i).map (strOf hs)).map V.int) #[aa.new hD,ay,U] (λi out H' _ ⟨sm,_,_⟩=>.of (sm _ _ e1)) (λout H5 ⟨sm,iV,eo⟩=>?_) (λi y out H' hy ⟨sm,dM,eo⟩=>?_)
 ·rw[ao,eG] at eo;rw[eo] at iV;apply#[D,_,U,.of iV,λn hn=>?_,k H5 (s1.trans sm)];let#[m,hm,rfl]:=br.mp hn;exact wo G hm
 let#[n,hn,rfl]:=mz hy;have hi:i<(aN hs).length:=(bZ.mp hn).1;apply#[_,U,U,λNx hN=>fU ?_];let W':=(W.same s1).same sm;let#[l6,d1,l2,d3,wJ,as,ef,w1,_]:=id W'.ex;apply#[_,U,p,l6,_,U,w1,p0 _ _ _ Z0 Z0 Z0,_,U,p,n,strOf hs n,hs,ts,fp,U,W',G.oV,IV ((fD hs).mem_iff.mp (cy hn)),?_];apply#[out,dM,by rw[eo,ao,ao,dR];omega,hN _ _ #[fQ sm hD,ay,?_]];rw[uB hn,fe,fe,eo];rfl
theorem FI:bN ["goods","placed","multiple","found","hand","load"] oo (a9 Na):=bT
def dZ(hs:Xa)(qs:aM)(f:bg)(h:Str):Int:=ld f (qs.map eD) h * (bP hs / strOf hs h)
inductive Oh (K:ai) (CG CW:Addr) (vs:ag) (H:Hp) (Q:VK) (E:XK):Prop
 |mk:∀(g p d:Addr) (hs:Xa) (ts:Xb) (qs:aM) (fp:aq) (f:bg),vs=[.ref g,.ref d]->BD K CG CW H g p d hs ts qs fp f->(∀q∈qs,0<=q.2.1/\q.2.1<=1000000000)->(∀d' H',aa H H'->H d'=none->H' d'\.dK (d9 (aN hs) λh=>.int (dZ hs qs f h))->Q (.ref d') H')->Oh K CG CW vs H Q E
theorem Bh{qs:aM}(wp:∀q∈qs,0<=q.2.1/\q.2.1<=1000000000)(cX:qs.length<64)(f:bg)(h:Str):0<=ld f (qs.map eD) h/\ld f (qs.map eD) h<=64000000000:=by
 have p:∀x∈qs.map eD,0<=x.2/\x.2<=1000000000:=λx hx=>by
  let#[q,hq,rfl]:=br.mp hx;exact wp q hq
 let h1:=Qt (f:=f) (h:=h) p;rw[ao] at h1;exact#[Yv λx hx=>(p x hx).1,by omega]
theorem ge_{f CG CW:Addr}(F:bC K "levels_at" "levels_at" Na f fd)(T:gd K CG)(TW:Txt K mg CW)(cL:!bx 3 "loads_at" oo (N8 K CG CW))(cM:!bx 3 Bt ["web"] (E8 K CW))(cS:!bV CW 2 "strength" vW (IX K CW)) :
  au P w K mg base bh 4 f fd oo (Oh K CG CW):=by
 exists F.bS FI;let#[g,p,d,hs,ts,qs,fp,f,rfl,Pl,wp,k]:=h;let hu:=fN hr;let sz:=cU;have iR:aO 2 _:=hr.mono (by decide);refine' #[_,?r0,?kk]
 case' r0=>refine' av ?s0 (av ?s1 (av ?s2 ?r2))
 case s0=>exact bo 2 FI.nd (bc cM hr %[gc (pv 0) U|0])
 case s1=>exact bo 3 FI.nd FF
 case' s2=>refine' d_ dI U ?i2 ?g2 (aE ?b2)
 case i2=>exact Nh (Iz (bc cL hr %[0,1|0]))
 case g2=>exact kq U (dH (cm 4 FI.nd) (dH (cm 5 FI.nd) iK))
 case b2=>exact uC hu (pv 3) (pv 4) (bJ iz (pv 5) (bJ Fe (pv 2) (iZ cS TW.cl iR (gc (pv 0) U) %[4|0]))) U
 case r2=>exact aE (bu (pv 3))
 let nl:=Pl.Gd.gT;let h8:=Pl.Gd.h8;let#[dx,dw,dy,vs,dc,h1,h2,_]:=id Pl.G.ex;apply#[_,U,g,CG,dx,_,_,U,h1,T.cl,T.nW,xX _ _ _,p,hs,ts,dc,U,h2,Pl.Gd,λH0 s0=>?_];intro d2 hd2;let s1:=s0.trans (aa.new (o:=.dK []) hd2);have e1:upd H0 d2 (.dK []) d2\.dK []:=ay;have n2:H d2=none:=s0.free hd2;show uT _ _ _ _ (upd H0 d2 (.dK []));generalize upd H0 d2 (.dK [])=H1 at s1 e1 ⊢;have Pl1:BD K CG CW H1 g p d hs ts qs fp f:=#[Pl.G.same s1,Pl.Gd,Pl.vV,s1 _ _ Pl.hd,Pl.at_,Pl.nd,Pl.cX];apply#[_,U,_,U,g,p,d,hs,ts,qs,fp,f,U,Pl1,λdl H2 s2 GT e2=>?_];apply#[dl,_,U,e2,λv hv=>?_];let#[s3,xw]:=aH (o:=tx v dl) hv;let e3:=s3 _ _ e2;let J4:=s2.trans s3;generalize upd H2 v (tx v dl)=H3 at s3 xw e3 J4 ⊢;have Xk:H dl=none:=s1.free GT;have Ui:d2≠dl:=bq e1 GT;apply#[v,dl,_,U,xw,e3,λo=>?_];apply N7 (λi σ H'=>∃(v4 v5:aJ),σ=[some (.ref g),some (.ref d),some (.int (bP hs)),some (.ref d2),v4,v5]/\aa H H'/\H' dl\.frz o (.dK (Qm hs qs f))/\H' d2\.dK (d9 ((aN hs).take i) λh=>.int (dZ hs qs f h))) #[none,none,U,fQ (s1.trans J4) Xk,ay,by rw[aw Ui];exact J4 _ _ e1] (λi σ H' _ ⟨_,_,_,_,z,_⟩=>z) ?_ ?_
 ·rintro i ky x σ H8 hx ⟨v4,v5,rfl,s8,f8,e8⟩ t ht;let#[n,hn,rfl,rfl]:=L8 hx;have hi:i<(aN hs).length:=(bZ.mp hn).1;have nm:n∈hs.map (·.1):=(fD hs).mem_iff.mp (cy hn);let sm:=IV nm;let sg:=wo Pl.Gd (cy hn);let lo:=Bh wp Pl.cX f n;let ss:=aa.new (o:=.tup [.str n,.int (ld f (qs.map eD) n)]) ht;let s9:=s8.trans ss;let e9:=ss _ _ e8;let f9:=ss _ _ f8;have et:upd H8 t (.tup [.str n,.int (ld f (qs.map eD) n)]) t\.tup [.str n,.int (ld f (qs.map eD) n)]:=ay;show gM _ _ _ _ _ (upd H8 t (.tup [.str n,.int (ld f (qs.map eD) n)])) _;generalize upd H8 t (.tup [.str n,.int (ld f (qs.map eD) n)])=H9 at ss s9 e9 f9 et ⊢;apply#[t,_,U,.of et,U,_,_,U,_,_,U,U,?_];let G9:=Pl.G.same s9;let#[dx,dw,dy,vs,dc,h1,h2,h3,h4,h5,m1,m2,m3,m4,m5]:=id G9.ex;let#[l6,d1,l2,d3,wJ,as,ef,w1,_]:=id h2.ex;have zu:(fo d1 l2 d3).lookup ("strength":Str)=none:=p0 _ _ _ Z0 Z0 Z0;apply#[_,U,_,U,_,U,g,CG,dx,_,_,U,h1,T.cl,T.nW,xX _ _ _,p,l6,_,U,w1,zu,_,U,p,n,strOf hs n,hs,ts,dc,U,h2,Pl.Gd.oV,sm,?_];apply#[_,_,U,U,#[by omega,by omega],_,_,U,U,.inl #[by omega,by omega],_,U,_,U,d2,_,U,.k (k:=Sum.inr n) e9 (by rw[mB,dR];omega),?_];apply#[_,_,U,fQ s9 n2,by rw[aw Ui.symm];exact f9,?_];rw[ay,uB hn,Sq (Tc Pl.Gd.rV hn)];congr 2;apply IK λm _=>?_;by_cases z:m=n
  ·subst z;simp[dZ]
  simp[z]
 rintro σ H8 ⟨v4,v5,rfl,s8,f8,e8⟩;rw[mB,eG] at e8;exact#[_,U,k d2 H8 s8 n2 e8]
end
end Ev
namespace L2
open PySem PySem.Spec PyProof.Rows PySem.W
variable{vs:List (Key × Aa)}{prog:Ad}{w:Ag}{A:Af}
theorem Ud{d it:Addr}{ep:Nat}(hh:A.handled=none)(lV:d≠it):Walks prog w A it [it,d] [it] vs.length (λi v=>∃k,vs[i]? = some (k,v)) (λi h=>h.IsValIter it d i vs.length ep/\h.DictAt (fq prog w) d vs ep) where
 sub:=λb hb=>by simp at hb;simp[hb]
 frame:=λi h h' st k=>#[st.1.at λo e=>k it Z2 o e,by
  let#[o,es,ho,r]:=st.2;exact#[o,es,k d Z2 o ho,r]]
 item:=by
  intro i s Q E hi st h;obtain⟨⟨k,v⟩,hx⟩:∃p,vs[i]? = some p:=#[vs[i],by simp[hi]];apply wpAny_pyNext_values_item st.1 st.2 hx λh' fH sb=>?_;apply h v h' s.toks #[k,hx] #[fH,?_] λb o hb e=>(sb.2 b ⇑hb).trans e;let#[o,es,ho,r]:=st.2;exact#[o,es,(sb.2 d lV).trans ho,r]
 done:=by
  intro s Q E st h;exact wpAny_pyNext_values_end hh st.1 st.2 Z2 λh' eb=>h h' s.toks λb o hb e=>eb b o ⇑hb e
 self:=λ_ _ _ _ st h=>wpAny_pyIter_valiter st.1 h
theorem Ic{ns:List (Key × Int)}(r:KV (ns.map λx=>(x.1,V.int x.2)) vs){i:Nat}{k:Key}{v:Aa}(h:vs[i]? = some (k,v)):∃n t,(ns.map (·.2))[i]? = some n/\v=.int n t:=by
 let hl:=r.length;rw[ao] at hl
 have hi:i<ns.length:=by
  have:=(bZ.mp h).1;omega
 let#[u,hu,ru]:=LB r i (k:=(ns[i]'hi).1) (x:=V.int (ns[i]'hi).2) (by rw[dG,aX hi];rfl);rw[h] at hu;let e:=eF Prod.snd (cq hu);let#[t,rfl]:=(show ∃t,u=Value.int (ns[i]'hi).2 t from ru);exact#[_,t,by rw[dG,aX hi];rfl,e]
inductive xf (xs:ag) (H:Hp) (Q:VK):Prop
 |mk:∀(v d:Addr) (ns:List (Key × Int)),xs=[.ref v]->H v\uz v d->Rd H d (.dK (ns.map λx=>(x.1,V.int x.2)))->0<ns.length->(∀m,m∈ns.map (·.2)->(∀a∈ns.map (·.2),a<=m)->Q (.int m) H)->xf xs H Q
inductive xc (xs:ag) (H:Hp) (Q:VK):Prop
 |mk:∀(v d:Addr) (ns:List (Key × Int)),xs=[.ref v]->H v\uz v d->Rd H d (.dK (ns.map λx=>(x.1,V.int x.2)))->0<ns.length->(∀m,m∈ns.map (·.2)->(∀a∈ns.map (·.2),m<=a)->Q (.int m) H)->xc xs H Q
variable{X:Cx}
theorem gX_(hc:X.calm=true):gE X (.builtin "max") xf:=by
 intro pins s σ H xs us Q I r h;let#[v,d,ns,rfl,hv,hd,h0,q]:=h;let#[u,rfl,ru]:=vals1 r;cases ru;let#[z,lV,vs,rel,dd]:=jH I.ax hd;let#[ep,dat]:=dd.dictAt;let#[iv,_,_]:=I.ax v _ hv;let hl:=rel.length;rw[ao] at hl
 have E_:d<s.heap.objs.size:=by
  let#[o,es,ho,_]:=dat;exact bp ho
 apply call_max_walk (wpAny_pyIter_values (knd:=fq X.prog X.w) (kvs:=vs) (ep:=ep) iv dat ?_);apply⟨s.heap.objs.size,[s.heap.objs.size,d],[s.heap.objs.size],vs.length,λi v=>∃k,vs[i]? = some (k,v),_,_,rfl,Ud (ep:=ep) (I.ok.hd hc) (dA E_),⟨⟨_,cw _ rfl,rfl,rfl⟩,?_⟩,λb hb=>?_,by omega,CmpOf.ints_gt (λi=>((ns.map (·.2))[i]?).getD 0) (λi v ⟨k,hv⟩=>?_),λv' h' tk hP k=>?_⟩
 ·let#[o,es,ho,r]:=dat;exact⟨o,es,aS _ ho,r⟩
 ·have hb:b=s.heap.objs.size∨b=d:=⇑hb
  show b<(s.heap.objs.push _).size;rw[Array.size_push];rcases hb with e|e
  ·rw[e];exact Nat.lt_succ_self _
  rw[e];exact Nat.lt_succ_of_lt E_
 ·let#[n,t,e1,e2]:=Ic rel hv;apply⟨t,?_⟩;rw[e1];exact e2
 let#[k',DV]:=hP;let#[n,t,e1,rfl]:=Ic rel DV;let#[b1,b2]:=argBest_gt (λi=>((ns.map (·.2))[i]?).getD 0) (vs.length - 1);rw[e1] at b2;apply⟨.int n,H,I.kept (t':=tk) (λb o e=>k b o (λm=>?_) (aS _ e)),⟨t,rfl⟩,q n (cy e1) λa ha=>?_⟩
 ·have m:b=s.heap.objs.size:=⇑m
  exact absurd m (dA (bp e))
 let#[j,hj,ej]:=gH ha;have:=b2 j (by rw[ao] at hj;omega);rw[aX hj,ej] at this;exact this
theorem g2_(hc:X.calm=true):gE X (.builtin "min") xc:=by
 intro pins s σ H xs us Q I r h;let#[v,d,ns,rfl,hv,hd,h0,q]:=h;let#[u,rfl,ru]:=vals1 r;cases ru;let#[z,lV,vs,rel,dd]:=jH I.ax hd;let#[ep,dat]:=dd.dictAt;let#[iv,_,_]:=I.ax v _ hv;let hl:=rel.length;rw[ao] at hl
 have E_:d<s.heap.objs.size:=by
  let#[o,es,ho,_]:=dat;exact bp ho
 apply call_min_walk (wpAny_pyIter_values (knd:=fq X.prog X.w) (kvs:=vs) (ep:=ep) iv dat ?_);apply⟨s.heap.objs.size,[s.heap.objs.size,d],[s.heap.objs.size],vs.length,λi v=>∃k,vs[i]? = some (k,v),_,_,rfl,Ud (ep:=ep) (I.ok.hd hc) (dA E_),⟨⟨_,cw _ rfl,rfl,rfl⟩,?_⟩,λb hb=>?_,by omega,CmpOf.ints_lt (λi=>((ns.map (·.2))[i]?).getD 0) (λi v ⟨k,hv⟩=>?_),λv' h' tk hP k=>?_⟩
 ·let#[o,es,ho,r]:=dat;exact⟨o,es,aS _ ho,r⟩
 ·have hb:b=s.heap.objs.size∨b=d:=⇑hb
  show b<(s.heap.objs.push _).size;rw[Array.size_push];rcases hb with e|e
  ·rw[e];exact Nat.lt_succ_self _
  rw[e];exact Nat.lt_succ_of_lt E_
 ·let#[n,t,e1,e2]:=Ic rel hv;apply⟨t,?_⟩;rw[e1];exact e2
 let#[k',DV]:=hP;let#[n,t,e1,rfl]:=Ic rel DV;let#[b1,b2]:=argBest_lt (λi=>((ns.map (·.2))[i]?).getD 0) (vs.length - 1);rw[e1] at b2;apply⟨.int n,H,I.kept (t':=tk) (λb o e=>k b o (λm=>?_) (aS _ e)),⟨t,rfl⟩,q n (cy e1) λa ha=>?_⟩
 ·have m:b=s.heap.objs.size:=⇑m
  exact absurd m (dA (bp e))
 let#[j,hj,ej]:=gH ha;have:=b2 j (by rw[ao] at hj;omega);rw[aX hj,ej] at this;exact this
end L2
namespace Jg
open PySem PySem.Spec PyProof.Rows PySem.W
theorem Tj{h:Heap}{S:Addr}{old new:aj}{n:Nat}(hS:h.get? S=some { cls:=.type "list",data:=.seq old.toArray n }):∃n',(h.update S (Obj.mapSeq λ_=>new.toArray)).get? S=some { cls:=.type "list",data:=.seq new.toArray n' }:=⟨_,get?_update_seq hS (λ_=>new.toArray)⟩
def Kp(it S:Addr)(h h':Heap):Prop:=∀b o,b≠it->b≠S->h.get? b\o->h'.get? b\o
end Jg
namespace L2
open PySem PySem.Spec PyProof.Rows PySem.W
theorem Th{X:Cx}:dO X (binaryOp .FloorDiv) (rI (λ_ j=>0<j/\j<2 ^ 100) λi j=>.int (i / j)):=A5 λi j _ _ _ _ _ hc q=>by
 have h1:(0:Int)<j:=hc.1;have h2:j<2 ^ 100:=hc.2;apply floordiv_int Z1 (by rw[Int.fdiv_eq_ediv_of_nonneg i Z1];exact q) (.inl (PyProof.noPylong_of_log2 ?_));have:j.natAbs.log2<100:=(Nat.log2_lt Z1).mpr Z1;omega
end L2
namespace Ev
open PySem L2
theorem QD{La Lb Sa Sb ca cb M:Int}(h1:ca * Sa=M)(h2:cb * Sb=M):(La * Sb - Lb * Sa) * M=Sa * Sb * (La * ca - Lb * cb):=by
 have e1:La * Sb * M=Sa * Sb * (La * ca):=by rw[<- h1];grind
 have e2:Lb * Sa * M=Sa * Sb * (Lb * cb):=by rw[<- h2];grind
 rw[Int.sub_mul,Int.mul_sub,e1,e2]
theorem ZG{a n:Int}(ha:0<a)(hn:0<n)(h2:n<=1000):gK a n<=a * 1000:=by
 unfold gK
 have g:0<(Int.gcd a n:Int):=by
  have:=Int.gcd_pos_of_ne_zero_right a (show n≠0 by omega);omega
 have k1:a / (Int.gcd a n:Int)<=a:=Int.ediv_le_self _ (gO ha);have k0:0<=a / (Int.gcd a n:Int):=Int.ediv_nonneg (gO ha) (gO g);exact Int.mul_le_mul k1 h2 (gO hn) (gO ha)
theorem QL:∀(ns:List Int) (a:Int),0<a->(∀n∈ns,0<n/\n<=1000)->ns.foldl gK a<=a * 1000 ^ ns.length
 |[],a,_,_=>by simp
 |n::ns,a,ha,h=>by
  let hn:=h n gz
  have p:0<gK a n:=by
   have:=(IC [n] a ha ⇑(hn.1)).1;exact this
  let k1:=QL ns (gK a n) p λm hm=>h m (fM _ hm);let k2:=ZG ha hn.1 hn.2;have e:(0:Int)<=1000 ^ ns.length:=Int.pow_nonneg (by decide);rw[List.foldl_cons,jm,Int.pow_succ];apply Int.le_trans k1 ?_;have:=BO k2 e;have e2:a * 1000 * 1000 ^ ns.length=a * (1000 ^ ns.length * 1000):=by grind
  rw[e2] at this;exact this
theorem tw{hs:Xa}{ts:Xb}(G:Good hs ts):0<bP hs/\bP hs<2 ^ 100/\∀n∈aN hs,bP hs / strOf hs n * strOf hs n=bP hs:=by
 have pos:∀m∈(aN hs).map (strOf hs),0<m/\m<=1000:=λm hm=>by
  let#[x,hx,rfl]:=br.mp hm;have:=wo G hx;omega
 have oQ:∀m∈(aN hs).map (strOf hs),0<m:=λm hm=>(pos m hm).1;apply#[Nf oQ,?_,λn hn=>Int.ediv_mul_cancel (_a oQ (br.mpr #[_,hn,U]))];let k:=QL _ 1 (by decide) pos;rw[ao,G.gT,Int.one_mul] at k;let h8:=G.h8
 have k2:(1000:Int) ^ hs.length<=1000 ^ 8:=by
  have:(1000:Nat) ^ hs.length<=1000 ^ 8:=Nat.pow_le_pow_right (by decide) h8
  exact_mod_cast this
 have:bP hs<=1000 ^ 8:=Int.le_trans k k2;have e:(1000:Int) ^ 8<2 ^ 100:=by decide
 omega
theorem Yp{hs:Xa}{ts:Xb}(G:Good hs ts){qs:aM}(wp:∀q∈qs,0<=q.2.1/\q.2.1<=1000000000)(cX:qs.length<64){f:bg}{n:Str}(hn:n∈aN hs):0<=dZ hs qs f n:=
 Int.mul_nonneg (Bh wp cX f n).1 (Int.ediv_nonneg (gO (tw G).1) (by have:=wo G hn;omega))
def jI(hs:Xa)(qs:aM)(f:bg)(r:Int):Prop:=∃x∈aN hs,∃y∈aN hs,r=dZ hs qs f x - dZ hs qs f y/\∀z∈aN hs,dZ hs qs f z<=dZ hs qs f x/\dZ hs qs f y<=dZ hs qs f z
variable{fd:Ae}
section v
theorem qJ:bN ["top","below","divisor"] ["top","below"] (a9 rA):=bT
def kZ:Sp:=λvs H Q _=>∃a b:Int,vs=[.int a,.int b]/\0<=a/\0<b/\b<2 ^ 100/\∀t,H t=none->Q (.ref t) (upd H t (.tup [.int (fr a b).1,.int (fr a b).2]))
theorem _o{f:Addr}(F:bC K "fraction_of" "fraction_of" rA f fd)(cG:!bx 1 Bm mw uX):!au bh 2 f fd ["top","below"] kZ:=by
 exists F.bS qJ;let#[a,b,rfl,ha,hb,l5,k]:=h
 have g:0<(Int.gcd a b:Int)/\(Int.gcd a b:Int)<2 ^ 100:=by
  have h1:0<Int.gcd a b:=Int.gcd_pos_of_ne_zero_right a Z1;let h3:=Int.le_of_dvd hb (Int.gcd_dvd_right a b);omega
 apply#[_,av (bo 2 qJ.nd (bc cG hr %[0,1|0])) (aE (bu (iA %[bJ Th (pv 0) (pv 2),bJ Th (pv 1) (pv 2)|0]))),?_];apply#[_,U,_,U,a,b,U,ha,hb,?_];exact#[_,U,_,U,_,_,U,U,g,_,U,_,U,_,_,U,U,g,zl,k]
theorem qD:bN ["goods","placed","levels"] oo (a9 qO):=bT
inductive Hm (K:ai) (CG CW:Addr) (vs:ag) (H:Hp) (Q:VK) (E:XK):Prop
 |mk:∀(g p d:Addr) (hs:Xa) (ts:Xb) (qs:aM) (fp:aq) (f:bg),vs=[.ref g,.ref d]->BD K CG CW H g p d hs ts qs fp f->(∀q∈qs,0<=q.2.1/\q.2.1<=1000000000)->(∀r H',aa H H'->jI hs qs f r->Q (.int r) H')->Hm K CG CW vs H Q E
theorem _l{f CG CW:Addr}(F:bC K "rise_at" "rise_at" qO f fd)(B:Bi mg)(y0:mg "min"=none)(cV:!bx 4 "levels_at" oo (Oh K CG CW)):!au bh 5 f fd oo (Hm K CG CW):=by
 exists F.bS qD;let#[g,p,d,hs,ts,qs,fp,f,rfl,Pl,wp,k]:=h;let nl:=Pl.Gd.gT;let h1:=Pl.Gd.h1;refine' #[_,av ?s1 (aE ?s2),?kk]
 case s1=>exact bo 2 qD.nd (bc cV hr %[0,1|0])
 case s2=>exact bu (bJ Bx (cZ (gX_ U) (by rfl) B.max PyProof.Rows.Boot.«max» %[NW (pv 2)|0]) (cZ (g2_ U) (by rfl) y0 PyProof.Rows.Boot.«min» %[NW (pv 2)|0]))
 apply#[_,U,_,U,g,p,d,hs,ts,qs,fp,f,U,Pl,wp,λdv H1 s1 n1 e1=>?_]
 have em:((aN hs).map λh=>((Sum.inr h:Key),dZ hs qs f h)).map (·.2)=(aN hs).map (dZ hs qs f):=by
  rw[cY];rfl
 have Mu:d9 (aN hs) (λh=>V.int (dZ hs qs f h))=((aN hs).map λh=>((Sum.inr h:Key),dZ hs qs f h)).map λx=>(x.1,V.int x.2):=by
  rw[cY];rfl
 rw[Mu] at e1;apply#[_,U,dv,_,U,e1,λv hv=>?_];let#[s2,ev]:=aH (o:=uz v dv) hv;generalize upd H1 v (uz v dv)=H2 at s2 ev ⊢;apply#[v,dv,(aN hs).map λh=>((Sum.inr h:Key),dZ hs qs f h),U,ev,.of (s2 _ _ e1),by rw[ao];omega,λm hm mx=>?_];rw[em] at hm mx;apply#[_,U,dv,_,U,s2 _ _ e1,λv2 _L=>?_];let#[s3,SQ]:=aH (o:=uz v2 dv) _L;generalize upd H2 v2 (uz v2 dv)=H3 at s3 SQ ⊢;apply#[v2,dv,(aN hs).map λh=>((Sum.inr h:Key),dZ hs qs f h),U,SQ,.of (s3 _ _ (s2 _ _ e1)),by rw[ao];omega,λm2 Ri mn=>?_];rw[em] at Ri mn;let#[x,hx,rfl]:=br.mp hm;let#[y,hy,rfl]:=br.mp Ri;exact#[_,_,U,U,k _ H3 (s1.trans (s2.trans s3)) #[x,hx,y,hy,U,λz hz=>#[mx _ (br.mpr #[z,hz,U]),mn _ (br.mpr #[z,hz,U])]]]
theorem ev':bN oo oo (a9 N2):=bT
inductive NH (K:ai) (CG CW:Addr) (vs:ag) (H:Hp) (Q:VK) (E:XK):Prop
 |mk:∀(g p d:Addr) (hs:Xa) (ts:Xb) (qs:aM) (fp:aq) (f:bg),vs=[.ref g,.ref d]->BD K CG CW H g p d hs ts qs fp f->(∀q∈qs,0<=q.2.1/\q.2.1<=1000000000)->(∀t r H',aa H H'->jI hs qs f r->H' t\.tup [.int (fr r (bP hs)).1,.int (fr r (bP hs)).2]->Q (.ref t) H')->NH K CG CW vs H Q E
theorem ev_{f CG CW:Addr}(F:bC K "spread_at" "spread_at" N2 f fd)(T:gd K CG)(cR:!bx 5 "rise_at" oo (Hm K CG CW))(cM:!bx 3 Bt ["web"] (E8 K CW))(cF:!bx 2 "fraction_of" ["top","below"] kZ):!au bh 6 f fd oo (NH K CG CW):=by
 apply F.bS ev' λaQ A outer s H vs Q E hr h=>?_;let#[g,p,d,hs,ts,qs,fp,f,rfl,Pl,wp,k]:=h;let mo:=tw Pl.Gd;apply#[_,aE (bu (bc cF hr %[bc cR hr %[0,1|0],bc cM hr %[gc (pv 0) U|0]|0])),?_];apply#[_,U,_,U,g,p,d,hs,ts,qs,fp,f,U,Pl,wp,λr H1 s1 ir=>?_];let G1:=Pl.G.same s1;let#[dx,dw,dy,vs,dc,h1,h2,_]:=id G1.ex;apply#[_,U,g,CG,dx,_,_,U,h1,T.cl,T.nW,xX _ _ _,p,hs,ts,dc,U,h2,Pl.Gd,λH2 s2=>?_]
 have r0:0<=r:=by
  let#[x,hx,y,hy,rfl,b]:=ir;have:=(b y hy).1;omega
 exact#[r,bP hs,U,r0,mo.1,mo.2.1,λt ht=>k t r _ ((s1.trans s2).trans (aa.new ht)) ir ay]
end
end Ev
namespace hW
open PySem PySem.W PyProof.Rows
inductive Src (h:Heap) (it l:Addr) (i:Nat) (xs:Array Aa):Prop
 |lst (a:h.IsListIter it l i) (b:h.IsList l xs):Src h it l i xs
 |tup (a:h.IsTupleIter it l i) (b:h.IsTuple l xs):Src h it l i xs
variable{h:Heap}{it l:Addr}{i:Nat}{xs:Array Aa}
theorem Src.keep{h':Heap}(x:Src h it l i xs)(k1:∀o,h.get? it\o->h'.get? it\o)(k2:∀o,h.get? l\o->h'.get? l\o):Src h' it l i xs:=by
 cases x with
 |lst a b=>exact .lst (a.at k1) (b.at k2)
 |tup a b=>exact .tup (a.at k1) (by let#[o,e,r]:=b;exact#[o,k2 o e,r])
variable{ys:Array Aa}
theorem oq(a:h.IsList l xs)(b:h.IsTuple l ys):False:=by
 let#[o,e,c,_]:=a;let#[u,f,d,_]:=b;rw[e] at f;cases f;rw[c] at d;simp at d
theorem Src.QI(x:Src h it l i xs)(b:h.IsList l ys):h.IsListIter it l i:=by
 cases x with
 |lst a _=>exact a
 |tup _ c=>exact (oq b c).elim
theorem Src.xr(x:Src h it l i xs)(b:h.IsTuple l ys):h.IsTupleIter it l i:=by
 cases x with
 |tup a _=>exact a
 |lst _ c=>exact (oq c b).elim
theorem Src.lt(x:Src h it l i xs):it<h.objs.size/\l<h.objs.size:=by
 cases x with
 |lst a b=>let#[o,e,_]:=a;let#[u,f,_]:=b;exact#[bp e,bp f]
 |tup a b=>let#[o,e,_]:=a;let#[u,f,_]:=b;exact#[bp e,bp f]
variable{x:Aa}{E Q:Aa->Ab->Prop}{prog:Ad}{w:Ag}{A:Af}{s:Ab}
theorem nextT{t:Addr}(hit:s.heap.IsTupleIter it t i)(ht:s.heap.IsTuple t xs)(hx:xs[i]? = some x)(hQ:∀h',h'.IsTupleIter it t (i+1)->Heap.SameBut it s.heap h'->Q x { s with heap:=h' }):wpAny (model prog w) A (Builtin.SmallTypes.nextOf (.ref it)) Q E s:=by
 let#[o,ho,hc,hd]:=id hit;let#[u,hu,_,n,hv]:=ht;unfold Builtin.SmallTypes.nextOf;apply ae (uq (name:=Str.ofString "__next__") hit.typeIs F.slot_tuple_iterator_next (sU F.slot_tuple_iterator_next hit.typeIs F.entry_tuple_iterator_next ?_ (F.args_tuple_iterator_next_1 _)));apply (show wpAny _ _ (field (.ref it) 0 >>= _) _ _ s from ae (fL ho hd (x:=.ref t) U ?_));apply (show wpAny _ _ (if (Value.ref t == Value.none)=true then _ else _) _ _ s from ?_);rw[aA (show ¬((Value.ref t == Value.none)=true) from f_)];apply (show wpAny _ _ (field (.ref it) 1 >>= _) _ _ s from ae (fL ho hd (x:=.int i 0) U ?_));apply (show wpAny _ _ (seqItems? (.ref t) >>= _) _ _ s from ae (jG hu hv ?_));simp only[x_,hx];apply ae (wpAny_setField ho hd Z2 (aB #[x,U,aB (hQ _ #[_,Heap.get?_update_self _ ho (Obj.isFreed_of_fields (Obj.data_mapFields hd _)),(Obj.cls_mapFields ..).trans hc,?_] (Heap.SameBut.update ..))]));rw[Obj.data_mapFields hd];simp[rawInt]
theorem Src.next(z:Src s.heap it l i xs)(ne:l≠it)(hx:xs[i]? = some x)(hQ:∀h',Src h' it l (i+1) xs->Heap.SameBut it s.heap h'->Q x { s with heap:=h' }):wpAny (model prog w) A (Builtin.SmallTypes.nextOf (.ref it)) Q E s:=by
 cases z with
 |lst a b=>exact wpAny_nextOf_list_item a b hx λh' a' sb=>hQ h' (.lst a' (b.extBut sb.extBut ne)) sb
 |tup a b=>exact nextT a b hx λh' a' sb=>hQ h' (.tup a' (b.extBut sb.extBut ne)) sb
abbrev Zp(h:Heap)(z TI TO:Addr)(f0:Aa)(f1:Bool):Prop:=h.get? z=some { cls:=.type "zip",dict:=none,data:=.fields (List.toArray [f0,.bool f1,.bool false,.ref TI,.ref TO]),slots:=#[] }
abbrev fi(h:Heap)(T:Addr)(xs:Array Aa):Prop:=h.get? T=some { cls:=.type "tuple",data:=.seq xs }
variable{k:Nat}
theorem Fu{T:Addr}{Q:Unit->Ab->Prop}(hT:fi s.heap T xs)(h3:xs.size<=3)(h:∀h',fi h' T (xs.setIfInBounds k x)->Heap.SameBut T s.heap h'->Q () { s with heap:=h' }):wpAny (model prog w) A (updateSeq T (·.setIfInBounds k x)) Q E s:=by
 apply wpAny_updateSeq hT U (h _ ?_ (Heap.SameBut.update ..)) (hz:=gj h3 (by decide)) (_hz':=by rw[Array.size_setIfInBounds];exact gj h3 (by decide));show Heap.get? _ _=_;rw[Heap.get?_update_self _ hT U];simp[Obj.mapSeq]
structure ow (h:Heap) (z TI TO i1 i2 i3 l1 l2 l3:Addr) (k:Nat) (xs ys zs:Array Aa):Prop where
 nd:[z,TO,i1,i2,i3].Nodup
 ti:TI∉[z,TO,i1,i2,i3]
 ls:∀l∈[l1,l2,l3],l∉[z,TO,i1,i2,i3]
 hI:fi h TI (List.toArray [.ref i1,.ref i2,.ref i3])
 hO:∃a b c,fi h TO (List.toArray [a,b,c])
 s1:Src h i1 l1 k xs
 s2:Src h i2 l2 k ys
 s3:Src h i3 l3 k zs
variable{i1 i2 i3 l1 l2 l3 z:Addr}{zs:Array Aa}{v y:Aa}
theorem gS_{TI TO:Addr}(D:ow s.heap z TI TO i1 i2 i3 l1 l2 l3 k xs ys zs)(hz:Zp s.heap z TI TO .none false)(hx:xs[k]? = some x)(hy:ys[k]? = some y)(hv:zs[k]? = some v)(hQ:∀h',Zp h' z TI TO (rawInt s.heap.objs.size) false->ow h' z TI TO i1 i2 i3 l1 l2 l3 (k+1) xs ys zs->fi h' s.heap.objs.size (List.toArray [x,y,v])->(∀c o,c∉[z,TO,i1,i2,i3]->s.heap.get? c\o->h'.get? c\o)->Q (.ref s.heap.objs.size) { s with heap:=h' }) :
  wpAny (model prog w) A (Builtin.«zip.__next__» #[[.ref z],[]]) (λfin s'=>∃v,fin=.done (.ret v)/\Q v s') E s:=by
 let#[nd,ti,ls,hI,#[a,b,c,hO],s1,s2,s3]:=D;simp only[jk,bW,gI,or_false,not_or,not_false_eq_true,List.nodup_nil,and_true] at nd ti ls;let#[#[zO,z1,z2,z3],#[O1,O2,O3],#[rY,Dj],n23]:=nd;let L1:=ls l1 (.inl U);let L2:=ls l2 (.inr (.inl U));let L3:=ls l3 (.inr (.inr U));apply (show wpAny _ _ (field (.ref z) 2 >>= _) _ _ _ from ae (fL hz U (x:=.bool false) U ?_));apply (show wpAny _ _ (field (.ref z) 3 >>= _) _ _ _ from ae (fL hz U (x:=.ref TI) U ?_));apply ae (jG hI U ?_);apply (show wpAny _ _ (Builtin.SmallTypes.ownedTupleIsFree (.ref z) >>= _) _ _ _ from ae ?_);unfold Builtin.SmallTypes.ownedTupleIsFree;apply ae (fL hz U (x:=.none) U (aB ?_));simp only[if_true];apply ae (wpAny_rule (ae (fL hz U (x:=.ref TO) U (ae (pX hz Z2 λh1 iF e1=>ae ?_)))));replace iF:Zp h1 z TI TO .ellipsis false:=iF;have LR:fi h1 TO (List.toArray [a,b,c]):=e1.extBut _ _ (bG zO) hO;let s1:=s1.keep (e1.extBut _ · (bG z1)) (e1.extBut _ · L1.1);let s2:=s2.keep (e1.extBut _ · (bG z2)) (e1.extBut _ · L2.1);let s3:=s3.keep (e1.extBut _ · (bG z3)) (e1.extBut _ · L3.1);simp only[List.zipIdx_cons,List.zipIdx_nil,p7,uL];apply ae (ae (wpAny_onRaise (show wpAny _ _ (Builtin.SmallTypes.nextOf (.ref i1) >>= _) _ _ _ from ae (s1.next L1.2.2.1 hx λh2 s1 e2=>aB ?_))));have EM:fi h2 TO (List.toArray [a,b,c]):=e2.extBut _ _ O1 LR;let s2:=s2.keep (e2.extBut _ · (bG rY)) (e2.extBut _ · L2.2.2.1);let s3:=s3.keep (e2.extBut _ · (bG Dj)) (e2.extBut _ · L3.2.2.1);apply ae (jG EM U (ae (Fu EM (a_ 3) λh3 zR e3=>ae (wpAny_letGo (aB ?_)))));replace zR:fi h3 TO (List.toArray [x,b,c]):=zR;let s1:=s1.keep (e3.extBut _ · (bG O1)) (e3.extBut _ · L1.2.1);let s2:=s2.keep (e3.extBut _ · (bG O2)) (e3.extBut _ · L2.2.1);let s3:=s3.keep (e3.extBut _ · (bG O3)) (e3.extBut _ · L3.2.1);apply ae (ae (wpAny_onRaise (show wpAny _ _ (Builtin.SmallTypes.nextOf (.ref i2) >>= _) _ _ _ from ae (s2.next L2.2.2.2.1 hy λh4 s2 e4=>aB ?_))));have EL:fi h4 TO (List.toArray [x,b,c]):=e4.extBut _ _ O2 zR;let s1:=s1.keep (e4.extBut _ · rY) (e4.extBut _ · L1.2.2.2.1);let s3:=s3.keep (e4.extBut _ · (bG n23)) (e4.extBut _ · L3.2.2.2.1);apply ae (jG EL U (ae (Fu EL (a_ 3) λh5 LQ e5=>ae (wpAny_letGo (aB ?_)))));replace LQ:fi h5 TO (List.toArray [x,y,c]):=LQ;let s1:=s1.keep (e5.extBut _ · (bG O1)) (e5.extBut _ · L1.2.1);let s2:=s2.keep (e5.extBut _ · (bG O2)) (e5.extBut _ · L2.2.1);let s3:=s3.keep (e5.extBut _ · (bG O3)) (e5.extBut _ · L3.2.1);apply ae (ae (wpAny_onRaise (show wpAny _ _ (Builtin.SmallTypes.nextOf (.ref i3) >>= _) _ _ _ from ae (s3.next L3.2.2.2.2 hv λh6 s3 e6=>aB ?_))));have RL:fi h6 TO (List.toArray [x,y,c]):=e6.extBut _ _ O3 LQ;let s1:=s1.keep (e6.extBut _ · Dj) (e6.extBut _ · L1.2.2.2.2);let s2:=s2.keep (e6.extBut _ · n23) (e6.extBut _ · L2.2.2.2.2);apply ae (jG RL U (ae (Fu RL (a_ 3) λh7 vM e7=>ae (wpAny_letGo (aB (aB ?_))))));replace vM:fi h7 TO (List.toArray [x,y,v]):=vM;let s1:=s1.keep (e7.extBut _ · (bG O1)) (e7.extBut _ · L1.2.1);let s2:=s2.keep (e7.extBut _ · (bG O2)) (e7.extBut _ · L2.2.1);let s3:=s3.keep (e7.extBut _ · (bG O3)) (e7.extBut _ · L3.2.1);have all:∀{c o},c≠TO->c≠i1->c≠i2->c≠i3->h1.get? c\o->h7.get? c\o:=λc2 c3 c4 c5 q=>e7.extBut _ _ c2 (e6.extBut _ _ c5 (e5.extBut _ _ c2 (e4.extBut _ _ c4 (e3.extBut _ _ c2 (e2.extBut _ _ c3 q)))));have zk:Zp h7 z TI TO .ellipsis false:=all zO z1 z2 z3 iF;have LS:fi h7 TI (List.toArray [.ref i1,.ref i2,.ref i3]):=all ti.2.1 ti.2.2.1 ti.2.2.2.1 ti.2.2.2.2 (e1.extBut _ _ ti.1 hI);have sz:h7.objs.size=s.heap.objs.size:=by rw[e7.1,e6.1,e5.1,e4.1,e3.1,e2.1,e1.1]
 apply ae (jG vM U (ae (wpAny_newTuple ?_)));apply (show wpAny _ _ (Builtin.SmallTypes.ownedTupleHandOut (.ref z) (.ref h7.objs.size) >>= _) _ _ _ from ae ?_);unfold Builtin.SmallTypes.ownedTupleHandOut;have KS:Zp (h7.push { cls:=.type "tuple",data:=.seq (List.toArray [x,y,v]) }) z TI TO .ellipsis false:=aS _ zk;apply ae (pX KS Z2 λh9 KR e9=>pX (show Zp h9 z TI TO (rawInt h7.objs.size) false from KR) Z2 λhA vC eA=>aB #[_,U,?_]);have up:∀{c o},c≠z->h7.get? c\o->hA.get? c\o:=λc1 q=>eA.extBut _ _ c1 (e9.extBut _ _ c1 (aS _ q));have hT:fi hA h7.objs.size (List.toArray [x,y,v]):=eA.extBut _ _ (i5 (bp zk)) (e9.extBut _ _ (i5 (bp zk)) (cw _ U));show Q (.ref h7.objs.size) _;rw[sz] at hT ⊢;have vC:Zp hA z TI TO (rawInt h7.objs.size) false:=vC;rw[sz] at vC;apply hQ hA vC #[?_,?_,?_,up ti.1 LS,#[_,_,_,up (bG zO) vM],s1.keep (λ_=>up (bG z1)) (λ_=>up L1.1),s2.keep (λ_=>up (bG z2)) (λ_=>up L2.1),s3.keep (λ_=>up (bG z3)) (λ_=>up L3.1)] hT λc o hc q=>?_
 ·simp[zO,z1,z2,z3,O1,O2,O3,rY,Dj,n23]
 ·simp[ti]
 ·simpa using ls
 simp only[bW,gI,or_false,not_or] at hc;exact up hc.1 (all hc.2.1 hc.2.2.1 hc.2.2.2.1 hc.2.2.2.2 (e1.extBut _ _ hc.1 q))
theorem ended(hh:A.handled=none)(a:s.heap.IsListIter it l i)(b:s.heap.IsList l xs)(hx:xs[i]? = none)(hE:∀h' e,Heap.ExtBut it s.heap h'->(∃o,h'.get? e\o/\o.cls=.type "StopIteration")->E (.ref e) { s with heap:=h' }):wpAny (model prog w) A (Builtin.SmallTypes.nextOf (.ref it)) Q E s:=wpAny_nextOf_list_end hh a b hx hE
theorem _r{TI TO:Addr}{Q:Fin->Ab->Prop}(hh:A.handled=none)(n1:i1≠z)(n2:l1≠z)(hI:fi s.heap TI (List.toArray [.ref i1,.ref i2,.ref i3]))(a1:s.heap.IsListIter i1 l1 k)(b1:s.heap.IsList l1 xs)(hz:Zp s.heap z TI TO .none false)(hx:xs[k]? = none)(hE:∀h' e,(∀c o,c≠z->c≠i1->s.heap.get? c\o->h'.get? c\o)->(∃o,h'.get? e\o/\o.cls=.type "StopIteration")->E (.ref e) { s with heap:=h' }):wpAny (model prog w) A (Builtin.«zip.__next__» #[[.ref z],[]]) Q E s:=by
 apply (show wpAny _ _ (field (.ref z) 2 >>= _) _ _ _ from ae (fL hz U (x:=.bool false) U ?_));apply (show wpAny _ _ (field (.ref z) 3 >>= _) _ _ _ from ae (fL hz U (x:=.ref TI) U ?_));apply ae (jG hI U ?_);apply (show wpAny _ _ (Builtin.SmallTypes.ownedTupleIsFree (.ref z) >>= _) _ _ _ from ae ?_);unfold Builtin.SmallTypes.ownedTupleIsFree;apply ae (fL hz U (x:=.none) U (aB ?_));simp only[if_true];apply ae (wpAny_rule (ae (fL hz U (x:=.ref TO) U (ae (pX hz Z2 λh1 iF e1=>ae ?_)))));replace iF:Zp h1 z TI TO .ellipsis false:=iF;simp only[List.zipIdx_cons,List.zipIdx_nil,p7,uL];apply ae (ae (wpAny_onRaise (show wpAny _ _ (Builtin.SmallTypes.nextOf (.ref i1) >>= _) _ _ _ from ae (ended hh (a1.extBut e1.extBut n1) (b1.extBut e1.extBut n2) hx λh2 e e2 he=>?_))));let#[oe,zq,EC]:=he;have DU:Zp h2 z TI TO .ellipsis false:=e2 _ _ (bG n1) iF;have Lw:e≠z:=λx=>by subst x;rw[DU] at zq;cases zq;simp at EC
 exact pX DU Z2 λh3 _ e3=>hE h3 e (λc o c1 c3 x=>e3.extBut _ _ c1 (e2 _ _ c3 (e1.extBut _ _ c1 x))) #[oe,e3.extBut _ _ Lw zq,EC]
variable{Q:Option Aa->Ab->Prop}
theorem gW_{TI TO:Addr}(D:ow s.heap z TI TO i1 i2 i3 l1 l2 l3 k xs ys zs)(hz:Zp s.heap z TI TO .none false)(hx:xs[k]? = some x)(hy:ys[k]? = some y)(hv:zs[k]? = some v)(hQ:∀h',Zp h' z TI TO (rawInt s.heap.objs.size) false->ow h' z TI TO i1 i2 i3 l1 l2 l3 (k+1) xs ys zs->fi h' s.heap.objs.size (List.toArray [x,y,v])->(∀c o,c∉[z,TO,i1,i2,i3]->s.heap.get? c\o->h'.get? c\o)->Q (some (.ref s.heap.objs.size)) { s with heap:=h' }) :
  wpAny (model prog w) A (pyNext (.ref z)) Q E s:=by
 have hT:s.TypeIs (.ref z) "zip":=#[_,hz,U];unfold pyNext;exact ae (wpAny_attempt (uq (name:=Str.ofString "__next__") hT F.slot_zip_next (sU F.slot_zip_next hT F.entry_zip_next (gS_ D hz hx hy hv λh' a1 a2 a3 a4=>aB (hQ h' a1 a2 a3 a4)) (F.args_zip_next_1 _))))
theorem dy_{TI TO:Addr}(hh:A.handled=none)(n1:i1≠z)(n2:l1≠z)(hI:fi s.heap TI (List.toArray [.ref i1,.ref i2,.ref i3]))(a1:s.heap.IsListIter i1 l1 k)(b1:s.heap.IsList l1 xs)(hz:Zp s.heap z TI TO .none false)(hx:xs[k]? = none)(hQ:∀h',(∀c o,c≠z->c≠i1->s.heap.get? c\o->h'.get? c\o)->Q none { s with heap:=h' }):wpAny (model prog w) A (pyNext (.ref z)) Q E s:=by
 have hT:s.TypeIs (.ref z) "zip":=#[_,hz,U];unfold pyNext;apply ae (wpAny_attempt (uq (name:=Str.ofString "__next__") hT F.slot_zip_next (sU F.slot_zip_next hT F.entry_zip_next (_r hh n1 n2 hI a1 b1 hz hx λh' e hk he=>?_) (F.args_zip_next_1 _))));let#[o,ho,hc]:=he;exact ae (wpAny_isInstance (T:="StopIteration") (b:=true) #[o,ho,hc] isSubtype_stop (aB (hQ _ hk)))
theorem dx_(a b c:Aa):checkTypeCall "zip" #[[a,b,c],[]]=pure ():=by kernel_rfl
theorem e0_(a b c:Aa):checkBuiltinCall "zip.__new__" #[[.type "zip",a,b,c],[]]=pure ():=by kernel_rfl
theorem fI_(a b c d:Aa):argsOk "object.__init__" #[[a,b,c,d],[]]:=by
 unfold argsOk;rw[signature?_of (id:="object.__init__") (n:=['_','_','t','i','n','i','_','_']) (o:=['t','c','e','j','b','o']) (by kernel_rfl) F.owner_object];kernel_rfl
abbrev mT(h:Heap)(l:Addr):Heap:=h.push { cls:=.type "list_iterator",data:=.fields (List.toArray [.ref l,.int 0 0]) }
abbrev oF(h:Heap)(l:Addr):Heap:=h.push { cls:=.type "tuple_iterator",data:=.fields (List.toArray [.ref l,.int 0 0]) }
abbrev B4(h:Heap)(l1 l2 l3:Addr):Heap:=oF (oF (mT h l1) l2) l3
abbrev B3(h:Heap)(l1 l2 l3:Addr):Heap:=(B4 h l1 l2 l3).push { cls:=.type "tuple",data:=.seq (List.toArray [.ref h.objs.size,.ref (mT h l1).objs.size,.ref (oF (mT h l1) l2).objs.size]) }
abbrev B2(h:Heap)(l1 l2 l3:Addr):Heap:=(B3 h l1 l2 l3).push { cls:=.type "tuple",data:=.seq (List.toArray [.none,.none,.none]) }
abbrev yf(h:Heap)(l1 l2 l3:Addr):Heap:=(B2 h l1 l2 l3).push { cls:=.type "zip",data:=.fields (List.toArray [.none,.bool false,.bool false,.ref (B4 h l1 l2 l3).objs.size,.ref (B3 h l1 l2 l3).objs.size]) }
theorem fr_(l1 l2 l3:Addr)(xs ys zs:Array Aa):Meets (Builtin.«zip.__new__» #[[.type "zip",.ref l1,.ref l2,.ref l3],[]]) (λ_ R s=>s.heap.IsList l1 xs/\s.heap.IsTuple l2 ys/\s.heap.IsTuple l3 zs /\
   R (.ok (.ret (.ref (B2 s.heap l1 l2 l3).objs.size))) { s with heap:=yf s.heap l1 l2 l3 }):=
 .of_wp λprog w A R s h=>by
  let#[hp,g,d,tk,os]:=s;let#[a1,a2,a3,h]:=h;let zo:=sub_zip;have b1:Heap.IsList (Shared.heap #[hp,g,d,tk,os]) l1 xs:=a1;have b2:Heap.IsTuple (Shared.heap #[hp.push { cls:=.type "list_iterator",data:=.fields (List.toArray [.ref l1,.int 0 0]) },g,d,tk,os]) l2 ys:=Heap.IsTuple.push a2 _;have b3:Heap.IsTuple (Shared.heap #[(hp.push { cls:=.type "list_iterator",data:=.fields (List.toArray [.ref l1,.int 0 0]) }).push { cls:=.type "tuple_iterator",data:=.fields (List.toArray [.ref l2,.int 0 0]) },g,d,tk,os]) l3 zs:=Heap.IsTuple.push (Heap.IsTuple.push a3 _) _
  wp_walk using wpAny_pyIter_list b1,wpAny_pyIter_tuple b2,wpAny_pyIter_tuple b3
  exact#[_,U,h]
end hW
namespace L2
open PySem PySem.Spec PyProof.Rows PySem.W hW
def FT(K:ai)(a b c:Addr):It:=
 #[λi H=>∃xs ys zs x y z,dY K H a xs/\fG K H b ys/\fG K H c zs/\xs[i]? = some x/\ys[i]? = some y/\zs[i]? = some z,
  λi H v H'=>∃t x y z,v=.ref t/\H t=none/\(∀xs,dY K H a xs->xs[i]? = some x)/\(∀xs,fG K H b xs->xs[i]? = some y)/\(∀xs,fG K H c xs->xs[i]? = some z)/\H'=upd H t (.tup [x,y,z]),λi H=>∃xs,dY K H a xs/\xs.length=i]
theorem gD_{P:Ad}{w:Ag}{K:ai}{elts:List Expr}{k:Nat}{pos:Pos}(a b c z TI TO i1 i2 i3:Addr)(nd:[z,TO,i1,i2,i3].Nodup)(ti:TI∉[z,TO,i1,i2,i3])(ls:∀l∈[a,b,c],l∉[z,TO,i1,i2,i3]) :
  Turn P w K (.Tuple elts k pos) (FT K a b c) [z,TI,TO,i1,i2,i3] z (λi h=>Zp h z TI TO .none false/\fi h TI (List.toArray [.ref i1,.ref i2,.ref i3])/\(∃x y v,fi h TO (List.toArray [x,y,v]))/\h.IsListIter i1 a i/\h.IsTupleIter i2 b i/\h.IsTupleIter i3 c i) where
 mem:=by simp
 obj:=λi h st q hq=>by
  let#[h1,h2,#[x,y,v,h3],#[o1,e1,c1,d1],#[o2,e2,c2,d2],#[o3,e3,c3,d3]]:=st;simp only[bW,gI,or_false] at hq;rcases hq with rfl|rfl|rfl|rfl|rfl|rfl
  ·exact#[_,h1,λv z=>by cases z]
  ·exact#[_,h2,λv z=>by cases z]
  ·exact#[_,h3,λv z=>by cases z]
  ·exact#[o1,e1,λv z=>by rw[d1] at z;cases z]
  ·exact#[o2,e2,λv z=>by rw[d2] at z;cases z]
  exact#[o3,e3,λv z=>by rw[d3] at z;cases z]
 keep:=λi h h' st kk=>by
  let#[h1,h2,#[x,y,v,h3],s1,s2,s3]:=st;exact#[kk _ Z2 _ h1,kk _ Z2 _ h2,#[x,y,v,kk _ Z2 _ h3],s1.at λo q=>kk _ Z2 o q,s2.at λo q=>kk _ Z2 o q,s3.at λo q=>kk _ Z2 o q]
 item:=by
  intro X hP hw hK hc i pins s σ H E I hf st hg;subst hP hw hK;let#[xs,ys,zs,x,y,v,q1,q2,q3,x1,x2,x3]:=hg;let Gr:=nd;have z1:z≠i1:=by simp at nd;exact nd.1.2.1
  have z2:z≠i2:=by simp at nd;exact nd.1.2.2.1
  have U5:z≠i3:=by simp at nd;exact nd.1.2.2.2
  have zO:TO≠z:=by simp at nd;exact bG nd.1.1
  have tz:TI≠z:=by simp at ti;exact ti.1
  let#[h1,h2,h3,s1,s2,s3]:=st;let#[u1,r1,p1,_]:=I.list q1;let#[u2,r2,p2,_]:=I.tuple q2;let#[u3,r3,p3,_]:=I.tuple q3;let#[w1,_J,Wm]:=r1.get x1;let#[w2,_I,Wl]:=r2.get x2;let#[w3,_H,Wj]:=r3.get x3;apply gW_ (l1:=a) (l2:=b) (l3:=c) (xs:=u1.toArray) (ys:=u2.toArray) (zs:=u3.toArray) (x:=w1) (y:=w2) (v:=w3) #[nd,ti,ls,h2,h3,.lst s1 p1.isList,.tup s2 p2,.tup s3 p3] h1 ⇑_J ⇑_I ⇑_H λh' z' D' xr kk=>?_;have lt:∀{d o},s.heap.get? d\o->s.heap.objs.size≠d:=λe=>i5 (bp e);obtain⟨T,eT⟩:∃T,T=s.heap.objs.size:=#[_,U];have hT:s.heap.objs.size<=T:=Nat.le_of_eq eT.symm;rw[<- eT] at z' xr ⊢;apply#[_,U,wpAny_letOwnedTupleGo_zip (s:={ s with heap:=h' }) z' λL0 z3 e3=>?_]
  have nT:∀{q},q∈[z,TI,TO,i1,i2,i3]->T≠q:=λ{q} hq e=>by
   let#[x,y,v,h3]:=h3;rw[e] at eT;let#[o1,e1,_]:=s1;let#[o2,e2,_]:=s2;let#[o3,e3,_]:=s3;simp only[bW,gI,or_false] at hq;rcases hq with rfl|rfl|rfl|rfl|rfl|rfl
   ·exact lt h1 eT.symm
   ·exact lt h2 eT.symm
   ·exact lt h3 eT.symm
   ·exact lt e1 eT.symm
   ·exact lt e2 eT.symm
   exact lt e3 eT.symm
  have yc:∀{q o},q≠z->h'.get? q\o->L0.get? q\o:=λhq e=>e3.extBut _ _ hq e;have vB:fi L0 T (List.toArray [w1,w2,w3]):=yc (nT Z2) xr;have I1:Inv X pins σ (upd H T (.tup [x,y,v])) { s with heap:=L0 }:=I.iL (t':=s.toks) (fp:=[z,TI,TO,i1,i2,i3]) (its:=[w1,w2,w3]) (λq o hq e=>yc (λhz=>hq (by simp[hz])) (kk q o (λhm=>hq (by simp at hm ⊢;rcases hm with h|h|h|h|h<;>simp[h])) e)) hf hT (zl) (.cons Wm (.cons Wl (.cons Wj .nil))) #[#[_,vB,U,_,U],_,vB,U]
  apply#[.ref T,_,I1,U,#[T,x,y,v,U,I.ax.fresh hT,λys hy=>by rw[I.jx hy q1];exact x1,λys hy=>by rw[I.dS hy q2];exact x2,λys hy=>by rw[I.dS hy q3];exact x3,U],?_,λq hq=>?_]
  ·let#[_,_,_,j2,#[f1,f2,f3,j3],j4,j5,j6]:=D';apply#[z3,yc tz j2,#[f1,f2,f3,yc zO j3],?_,?_,?_]
   ·exact (j4.QI (p1.isList.at λo e=>kk a o (ls a Z2) e)).at λo e=>yc (bG z1) e
   ·exact (j5.xr (by let#[o,e,r]:=p2;exact#[o,kk b o (ls b Z2) e,r])).at λo e=>yc (bG z2) e
   exact (j6.xr (by let#[o,e,r]:=p3;exact#[o,kk c o (ls c Z2) e,r])).at λo e=>yc (bG U5) e
  rw[aw (λz:q=T=>nT hq z.symm)];exact (hf q hq).1
 done:=by
  intro X hP hw hK hc i pins s σ H E I hf st hg;subst hP hw hK;let#[xs,hq,hx]:=hg;let#[its,rv,p,hz]:=I.list hq;let#[h1,h2,h3,s1,s2,s3]:=st;have:=rv.length;simp only[jk,bW,gI,or_false,not_or,not_false_eq_true,List.nodup_nil,and_true] at nd ti;exact dy_ (I.ok.hd hc) (bG nd.1.2.1) (by have:=ls a Z2;simp at this;exact this.1) h2 s1 p.isList h1 (by simp;omega) λh' kk=>#[U,I.gP (t':=s.toks) (fp:=[z,TI,TO,i1,i2,i3]) (λq o hq e=>kk q o (λh=>hq (by simp[h])) (λh=>hq (by simp[h])) e) hf]
 self:=λA i s Q E st h=>wpAny_pyIter_zip st.1 h
end L2
namespace hW
open PySem PySem.W PyProof.Rows
variable{a:Addr}{prog:Ad}{w:Ag}{A:Af}{E:Aa->Ab->Prop}{s:Ab}
theorem alive{o:Obj}{Q:Option Obj->Ab->Prop}(ho:s.heap.get? a\o)(h:Q (some o) s):wpAny (model prog w) A (loadIfAlive a) Q E s:=fun Γ p _=>by
 unfold loadIfAlive;rw[Sem.wp_loadIfAlive,ho];exact (aB (M:=model prog w) (A:=A) h) Γ p (by assumption)
structure mL (h:Heap) (z TI TO i1 i2 l1 l2:Addr) (k:Nat) (xs ys:Array Aa):Prop where
 nd:[z,TO,i1,i2].Nodup
 ti:TI∉[z,TO,i1,i2]
 ls:∀l∈[l1,l2],l∉[z,TO,i1,i2]
 hI:fi h TI (List.toArray [.ref i1,.ref i2])
 hO:∃a b,fi h TO (List.toArray [a,b])
 s1:Src h i1 l1 k xs
 s2:Src h i2 l2 k ys
 hz:Zp h z TI TO .none false∨∃T o f1,T∉[z,TO,i1,i2]/\h.get? T\o/\Zp h z TI TO (rawInt T) f1
variable{i1 i2 l1 l2 z:Addr}{k:Nat}{xs ys:Array Aa}{x y:Aa}
theorem gT_{TI TO:Addr}{Q:Aa->Ab->Prop}(D:mL s.heap z TI TO i1 i2 l1 l2 k xs ys)(hx:xs[k]? = some x)(hy:ys[k]? = some y)(hQ:∀h',mL h' z TI TO i1 i2 l1 l2 (k+1) xs ys->fi h' s.heap.objs.size (List.toArray [x,y])->(∀c o,c∉[z,TO,i1,i2]->s.heap.get? c\o->h'.get? c\o)->Q (.ref s.heap.objs.size) { s with heap:=h' }) :
  wpAny (model prog w) A (Builtin.«zip.__next__» #[[.ref z],[]]) (λfin s'=>∃v,fin=.done (.ret v)/\Q v s') E s:=by
 let#[Gr,JC,Kw,hI,#[a,b,hO],s1,s2,hz]:=D;let nd:=Gr;let ti:=JC;let ls:=Kw;simp only[jk,bW,gI,or_false,not_or,not_false_eq_true,List.nodup_nil,and_true] at nd ti ls;let#[#[zO,z1,z2],#[O1,O2],rY]:=nd;let L1:=ls l1 (.inl U);let L2:=ls l2 (.inr U);have new:∀{c o},s.heap.get? c\o->s.heap.objs.size≠c:=λe=>i5 (bp e)
 have nT:s.heap.objs.size∉[z,TO,i1,i2]:=by
  simp only[bW,gI,or_false,not_or];apply#[?_,new hO,i5 s1.lt.1,i5 s2.lt.1];rcases hz with hz|⟨T,o,f1,hT,e,hz⟩
  ·exact new hz
  exact new hz
 rcases hz with hz|⟨T,o,f1,hT,eT,hz⟩
 ·apply (show wpAny _ _ (field (.ref z) 2 >>= _) _ _ _ from ae (fL hz U (x:=.bool false) U ?_));apply (show wpAny _ _ (field (.ref z) 3 >>= _) _ _ _ from ae (fL hz U (x:=.ref TI) U ?_));apply ae (jG hI U ?_);apply (show wpAny _ _ (Builtin.SmallTypes.ownedTupleIsFree (.ref z) >>= _) _ _ _ from ae ?_);unfold Builtin.SmallTypes.ownedTupleIsFree;apply ae (fL hz U (x:=.none) U (aB ?_));simp only[if_true];apply ae (wpAny_rule (ae (fL hz U (x:=.ref TO) U (ae (pX hz Z2 λh1 iF e1=>ae ?_)))));replace iF:Zp h1 z TI TO .ellipsis false:=iF;have LR:fi h1 TO (List.toArray [a,b]):=e1.extBut _ _ (bG zO) hO;let s1:=s1.keep (e1.extBut _ · (bG z1)) (e1.extBut _ · L1.1);let s2:=s2.keep (e1.extBut _ · (bG z2)) (e1.extBut _ · L2.1);simp only[List.zipIdx_cons,List.zipIdx_nil,p7,uL];apply ae (ae (wpAny_onRaise (show wpAny _ _ (Builtin.SmallTypes.nextOf (.ref i1) >>= _) _ _ _ from ae (s1.next L1.2.2.1 hx λh2 s1 e2=>aB ?_))));have EM:fi h2 TO (List.toArray [a,b]):=e2.extBut _ _ O1 LR;let s2:=s2.keep (e2.extBut _ · (bG rY)) (e2.extBut _ · L2.2.2.1);apply ae (jG EM U (ae (Fu EM (Nat.le_succ 2) λh3 zR e3=>ae (wpAny_letGo (aB ?_)))));replace zR:fi h3 TO (List.toArray [x,b]):=zR;let s1:=s1.keep (e3.extBut _ · (bG O1)) (e3.extBut _ · L1.2.1);let s2:=s2.keep (e3.extBut _ · (bG O2)) (e3.extBut _ · L2.2.1);apply ae (ae (wpAny_onRaise (show wpAny _ _ (Builtin.SmallTypes.nextOf (.ref i2) >>= _) _ _ _ from ae (s2.next L2.2.2.2 hy λh4 s2 e4=>aB ?_))));have EL:fi h4 TO (List.toArray [x,b]):=e4.extBut _ _ O2 zR;let s1:=s1.keep (e4.extBut _ · rY) (e4.extBut _ · L1.2.2.2);apply ae (jG EL U (ae (Fu EL (Nat.le_succ 2) λh7 vM e7=>ae (wpAny_letGo (aB (aB ?_))))));replace vM:fi h7 TO (List.toArray [x,y]):=vM;let s1:=s1.keep (e7.extBut _ · (bG O1)) (e7.extBut _ · L1.2.1);let s2:=s2.keep (e7.extBut _ · (bG O2)) (e7.extBut _ · L2.2.1);have all:∀{c o},c≠TO->c≠i1->c≠i2->h1.get? c\o->h7.get? c\o:=λc2 c3 c4 q=>e7.extBut _ _ c2 (e4.extBut _ _ c4 (e3.extBut _ _ c2 (e2.extBut _ _ c3 q)));have zk:Zp h7 z TI TO .ellipsis false:=all zO z1 z2 iF;have LS:fi h7 TI (List.toArray [.ref i1,.ref i2]):=all ti.2.1 ti.2.2.1 ti.2.2.2 (e1.extBut _ _ ti.1 hI);have sz:h7.objs.size=s.heap.objs.size:=by rw[e7.1,e4.1,e3.1,e2.1,e1.1]
  apply ae (jG vM U (ae (wpAny_newTuple ?_)));apply (show wpAny _ _ (Builtin.SmallTypes.ownedTupleHandOut (.ref z) (.ref h7.objs.size) >>= _) _ _ _ from ae ?_);unfold Builtin.SmallTypes.ownedTupleHandOut;have KS:Zp (h7.push { cls:=.type "tuple",data:=.seq (List.toArray [x,y]) }) z TI TO .ellipsis false:=aS _ zk;apply ae (pX KS Z2 λh9 KR e9=>pX (show Zp h9 z TI TO (rawInt h7.objs.size) false from KR) Z2 λhA vC eA=>aB #[_,U,?_]);have up:∀{c o},c≠z->h7.get? c\o->hA.get? c\o:=λc1 q=>eA.extBut _ _ c1 (e9.extBut _ _ c1 (aS _ q));have hT:fi hA h7.objs.size (List.toArray [x,y]):=eA.extBut _ _ (i5 (bp zk)) (e9.extBut _ _ (i5 (bp zk)) (cw _ U));show Q (.ref h7.objs.size) _;have vC:Zp hA z TI TO (rawInt h7.objs.size) false:=vC;rw[sz] at hT vC ⊢;apply hQ hA #[Gr,JC,Kw,up ti.1 LS,#[_,_,up (bG zO) vM],s1.keep (λ_=>up (bG z1)) (λ_=>up L1.1),s2.keep (λ_=>up (bG z2)) (λ_=>up L2.1),.inr #[_,_,_,nT,hT,vC]] hT λc o hc q=>?_;simp only[bW,gI,or_false,not_or] at hc;exact up hc.1 (all hc.2.1 hc.2.2.1 hc.2.2.2 (e1.extBut _ _ hc.1 q))
 apply (show wpAny _ _ (field (.ref z) 2 >>= _) _ _ _ from ae (fL hz U (x:=.bool false) U ?_));apply (show wpAny _ _ (field (.ref z) 3 >>= _) _ _ _ from ae (fL hz U (x:=.ref TI) U ?_));apply ae (jG hI U ?_);apply (show wpAny _ _ (Builtin.SmallTypes.ownedTupleIsFree (.ref z) >>= _) _ _ _ from ae ?_)
 have free:∀{Q:Bool->Ab->Prop},(∀h',Zp h' z TI TO (rawInt T) true->(∀c o,c≠z->s.heap.get? c\o->h'.get? c\o)->h'.objs.size=s.heap.objs.size->Q false { s with heap:=h' })->wpAny (model prog w) A (Builtin.SmallTypes.ownedTupleIsFree (.ref z)) Q E s:=λ{Q} h=>by
  unfold Builtin.SmallTypes.ownedTupleIsFree;apply ae (fL hz U (x:=rawInt T) U ?_);apply (show wpAny _ _ (loadIfAlive (((T:Nat):Int)).toNat >>= _) _ _ _ from ?_);rw[x_];apply ae (alive eT ?_);simp only[Option.isNone_some,p_,if_false];apply ae (fL hz U (x:=.bool f1) U ?_);cases f1 with
  |true=>
   apply wpAny_ite_false (by decide) (aB ?_);exact h _ hz (λc o _ q=>q) U
  |false=>
   apply wpAny_ite_true (by decide) ?_;apply ae (pX hz Z2 λh1 iF e1=>aB ?_);exact h h1 iF (λc o hc q=>e1.extBut _ _ hc q) e1.1
 apply free λh1 iF k1 V3=>?_;simp only[p_,if_false];let s1:=s1.keep (k1 _ · (bG z1)) (k1 _ · L1.1);let s2:=s2.keep (k1 _ · (bG z2)) (k1 _ · L2.1);apply ae ?_;simp only[List.forIn_toArray,p7,uL];apply ae (ae (iI (show wpAny _ _ (Builtin.SmallTypes.nextOf (.ref i1) >>= _) _ _ _ from ae (s1.next L1.2.2.1 hx λh2 s1 e2=>aB (aB ?_)))));let s2:=s2.keep (e2.extBut _ · (bG rY)) (e2.extBut _ · L2.2.2.1);apply ae (ae (iI (show wpAny _ _ (Builtin.SmallTypes.nextOf (.ref i2) >>= _) _ _ _ from ae (s2.next L2.2.2.2 hy λh4 s2 e4=>aB (aB (aB ?_))))));let s1:=s1.keep (e4.extBut _ · rY) (e4.extBut _ · L1.2.2.2);have sz:h4.objs.size=s.heap.objs.size:=by rw[e4.1,e2.1,V3]
 apply (show wpAny _ _ (newTuple [x,y] >>= _) _ _ _ from ae (wpAny_newTuple (aB #[_,U,?_])));have all:∀{c o},c≠i1->c≠i2->h1.get? c\o->h4.get? c\o:=λc3 c4 q=>e4.extBut _ _ c4 (e2.extBut _ _ c3 q);have up:∀{c o},h4.get? c\o->(h4.push { cls:=.type "tuple",data:=.seq (List.toArray [x,y]) }).get? c\o:=λq=>aS _ q;have zP:fi (h4.push { cls:=.type "tuple",data:=.seq (List.toArray [x,y]) }) h4.objs.size (List.toArray [x,y]):=cw _ U;show Q (.ref h4.objs.size) _;rw[sz] at zP ⊢;simp only[bW,gI,or_false,not_or] at hT;apply hQ _ #[Gr,JC,Kw,up (all ti.2.2.1 ti.2.2.2 (k1 _ _ ti.1 hI)),#[_,_,up (all O1 O2 (k1 _ _ (bG zO) hO))],s1.keep (λ_=>up) (λ_=>up),s2.keep (λ_=>up) (λ_=>up),.inr #[T,_,true,by simp[hT],up (all hT.2.2.1 hT.2.2.2 (k1 _ _ hT.1 eT)),up (all z1 z2 iF)]] zP λc o hc q=>?_;simp only[bW,gI,or_false,not_or] at hc;exact up (all hc.2.2.1 hc.2.2.2 (k1 _ _ hc.1 q))
theorem _z{TI TO:Addr}{Q:Fin->Ab->Prop}(hh:A.handled=none)(D:mL s.heap z TI TO i1 i2 l1 l2 k xs ys)(b0:s.heap.IsList l1 xs)(hx:xs[k]? = none)(hE:∀h' e,(∀c o,c∉[z,TO,i1,i2]->s.heap.get? c\o->h'.get? c\o)->(∃o,h'.get? e\o/\o.cls=.type "StopIteration")->E (.ref e) { s with heap:=h' }):wpAny (model prog w) A (Builtin.«zip.__next__» #[[.ref z],[]]) Q E s:=by
 let#[nd,ti,ls,hI,#[a,b,hO],s1,s2,hz]:=D;let a0:=s1.QI b0;simp only[jk,bW,gI,or_false,not_or,not_false_eq_true,List.nodup_nil,and_true] at nd ti ls;let#[#[zO,z1,z2],#[O1,O2],rY]:=nd;let L1:=ls l1 (.inl U);have go:∀(h1:Heap),(∀c o,c≠z->s.heap.get? c\o->h1.get? c\o)->∀(E':Aa->Ab->Prop) (Q':Aa->Ab->Prop),(∀h' e,Heap.ExtBut i1 h1 h'->(∃o,h'.get? e\o/\o.cls=.type "StopIteration")->E' (.ref e) { s with heap:=h' })->wpAny (model prog w) A (Builtin.SmallTypes.nextOf (.ref i1)) Q' E' { s with heap:=h1 }:=λh1 k1 E' Q' h=>ended hh (s:={ s with heap:=h1 }) (a0.at λo q=>k1 _ o (bG z1) q) (b0.at λo q=>k1 _ o L1.1 q) hx h;rcases hz with hz|⟨T,o,f1,hT,eT,hz⟩
 ·apply (show wpAny _ _ (field (.ref z) 2 >>= _) _ _ _ from ae (fL hz U (x:=.bool false) U ?_));apply (show wpAny _ _ (field (.ref z) 3 >>= _) _ _ _ from ae (fL hz U (x:=.ref TI) U ?_));apply ae (jG hI U ?_);apply (show wpAny _ _ (Builtin.SmallTypes.ownedTupleIsFree (.ref z) >>= _) _ _ _ from ae ?_);unfold Builtin.SmallTypes.ownedTupleIsFree;apply ae (fL hz U (x:=.none) U (aB ?_));simp only[if_true];apply ae (wpAny_rule (ae (fL hz U (x:=.ref TO) U (ae (pX hz Z2 λh1 iF e1=>ae ?_)))));replace iF:Zp h1 z TI TO .ellipsis false:=iF;simp only[List.zipIdx_cons,List.zipIdx_nil,p7,uL];apply ae (ae (wpAny_onRaise (show wpAny _ _ (Builtin.SmallTypes.nextOf (.ref i1) >>= _) _ _ _ from ae (go h1 (λc o hc q=>e1.extBut _ _ hc q) _ _ λh2 e e2 he=>?_))));let#[oe,zq,EC]:=he;have DU:Zp h2 z TI TO .ellipsis false:=e2 _ _ z1 iF;have Lw:e≠z:=λx=>by subst x;rw[DU] at zq;cases zq;simp at EC
  exact pX DU Z2 λh3 _ e3=>hE h3 e (λc o hc x=>by
   simp only[bW,gI,or_false,not_or] at hc;exact e3.extBut _ _ hc.1 (e2 _ _ hc.2.2.1 (e1.extBut _ _ hc.1 x))) #[oe,e3.extBut _ _ Lw zq,EC]
 apply (show wpAny _ _ (field (.ref z) 2 >>= _) _ _ _ from ae (fL hz U (x:=.bool false) U ?_));apply (show wpAny _ _ (field (.ref z) 3 >>= _) _ _ _ from ae (fL hz U (x:=.ref TI) U ?_));apply ae (jG hI U ?_);apply (show wpAny _ _ (Builtin.SmallTypes.ownedTupleIsFree (.ref z) >>= _) _ _ _ from ae ?_)
 have free:∀{Q:Bool->Ab->Prop},(∀h',(∀c o,c≠z->s.heap.get? c\o->h'.get? c\o)->Q false { s with heap:=h' })->wpAny (model prog w) A (Builtin.SmallTypes.ownedTupleIsFree (.ref z)) Q E s:=λ{Q} h=>by
  unfold Builtin.SmallTypes.ownedTupleIsFree;apply ae (fL hz U (x:=rawInt T) U ?_);apply (show wpAny _ _ (loadIfAlive (((T:Nat):Int)).toNat >>= _) _ _ _ from ?_);rw[x_];apply ae (alive eT ?_);simp only[Option.isNone_some,p_,if_false];apply ae (fL hz U (x:=.bool f1) U ?_);cases f1 with
  |true=>exact wpAny_ite_false (by decide) (aB (h _ λc o _ q=>q))
  |false=>exact wpAny_ite_true (by decide) (ae (pX hz Z2 λh1 iF e1=>aB (h h1 λc o hc q=>e1.extBut _ _ hc q)))
 apply free λh1 k1=>?_;simp only[p_,if_false];apply ae ?_;simp only[List.forIn_toArray,p7,uL];apply ae (ae (iI (show wpAny _ _ (Builtin.SmallTypes.nextOf (.ref i1) >>= _) _ _ _ from ae (go h1 k1 _ _ λh2 e e2 he=>hE h2 e (λc o hc x=>?_) he))));simp only[bW,gI,or_false,not_or] at hc;exact e2 _ _ hc.2.2.1 (k1 _ _ hc.1 x)
theorem mL.ty{TI TO:Addr}(D:mL s.heap z TI TO i1 i2 l1 l2 k xs ys):s.TypeIs (.ref z) "zip":=by
 rcases D.hz with hz|⟨T,o,f1,hT,eT,hz⟩
 ·exact#[_,hz,U]
 exact#[_,hz,U]
variable{Q:Option Aa->Ab->Prop}
theorem gR_{TI TO:Addr}(D:mL s.heap z TI TO i1 i2 l1 l2 k xs ys)(hx:xs[k]? = some x)(hy:ys[k]? = some y)(hQ:∀h',mL h' z TI TO i1 i2 l1 l2 (k+1) xs ys->fi h' s.heap.objs.size (List.toArray [x,y])->(∀c o,c∉[z,TO,i1,i2]->s.heap.get? c\o->h'.get? c\o)->Q (some (.ref s.heap.objs.size)) { s with heap:=h' }):wpAny (model prog w) A (pyNext (.ref z)) Q E s:=by
 unfold pyNext;exact ae (wpAny_attempt (uq (name:=Str.ofString "__next__") D.ty F.slot_zip_next (sU F.slot_zip_next D.ty F.entry_zip_next (gT_ D hx hy λh' a2 a3 a4=>aB (hQ h' a2 a3 a4)) (F.args_zip_next_1 _))))
theorem dE_{TI TO:Addr}(hh:A.handled=none)(D:mL s.heap z TI TO i1 i2 l1 l2 k xs ys)(b0:s.heap.IsList l1 xs)(hx:xs[k]? = none)(hQ:∀h',(∀c o,c∉[z,TO,i1,i2]->s.heap.get? c\o->h'.get? c\o)->Q none { s with heap:=h' }):wpAny (model prog w) A (pyNext (.ref z)) Q E s:=by
 unfold pyNext;apply ae (wpAny_attempt (uq (name:=Str.ofString "__next__") D.ty F.slot_zip_next (sU F.slot_zip_next D.ty F.entry_zip_next (_z hh D b0 hx λh' e hk he=>?_) (F.args_zip_next_1 _))));let#[o,ho,hc]:=he;exact ae (wpAny_isInstance (T:="StopIteration") (b:=true) #[o,ho,hc] isSubtype_stop (aB (hQ _ hk)))
abbrev B1(h:Heap)(l1 l2:Addr):Heap:=oF (mT h l1) l2
abbrev B0(h:Heap)(l1 l2:Addr):Heap:=(B1 h l1 l2).push { cls:=.type "tuple",data:=.seq (List.toArray [.ref h.objs.size,.ref (mT h l1).objs.size]) }
abbrev BZ(h:Heap)(l1 l2:Addr):Heap:=(B0 h l1 l2).push { cls:=.type "tuple",data:=.seq (List.toArray [.none,.none]) }
abbrev yd(h:Heap)(l1 l2:Addr):Heap:=(BZ h l1 l2).push { cls:=.type "zip",data:=.fields (List.toArray [.none,.bool false,.bool false,.ref (B1 h l1 l2).objs.size,.ref (B0 h l1 l2).objs.size]) }
theorem fE_(l1 l2:Addr)(xs ys:Array Aa):Meets (Builtin.«zip.__new__» #[[.type "zip",.ref l1,.ref l2],[]]) (λ_ R s=>s.heap.IsList l1 xs/\s.heap.IsTuple l2 ys/\R (.ok (.ret (.ref (BZ s.heap l1 l2).objs.size))) { s with heap:=yd s.heap l1 l2 }):=
 .of_wp λprog w A R s h=>by
  let#[hp,g,d,tk,os]:=s;let#[a1,a2,h]:=h;let zo:=sub_zip;have b1:Heap.IsList (Shared.heap #[hp,g,d,tk,os]) l1 xs:=a1;have b2:Heap.IsTuple (Shared.heap #[hp.push { cls:=.type "list_iterator",data:=.fields (List.toArray [.ref l1,.int 0 0]) },g,d,tk,os]) l2 ys:=Heap.IsTuple.push a2 _
  wp_walk using wpAny_pyIter_list b1,wpAny_pyIter_tuple b2
  exact#[_,U,h]
theorem mL.yU{h:Heap}{TI TO:Addr}(D:mL h z TI TO i1 i2 l1 l2 k xs ys){h':Heap}(up:∀c o,h.get? c\o->h'.get? c\o):mL h' z TI TO i1 i2 l1 l2 k xs ys:=by
 let#[nd,ti,ls,hI,#[a,b,hO],s1,s2,hz]:=D;apply#[nd,ti,ls,up _ _ hI,#[a,b,up _ _ hO],s1.keep (up _) (up _),s2.keep (up _) (up _),?_];rcases hz with hz|⟨T,o,f1,hT,eT,hz⟩
 ·exact .inl (up _ _ hz)
 exact .inr #[T,o,f1,hT,up _ _ eT,up _ _ hz]
theorem h4_{Q:Aa->Ab->Prop}(a1:s.heap.IsList l1 xs)(a2:s.heap.IsTuple l2 ys)(h:∀h' z TI TO i1 i2,mL h' z TI TO i1 i2 l1 l2 0 xs ys->Zp h' z TI TO .none false->(∀b∈[z,TO,i1,i2],s.heap.objs.size<=b)->(∀c o,s.heap.get? c\o->h'.get? c\o)->Q (.ref z) { s with heap:=h' }):wpAny (model prog w) A (call (.type "zip") [.ref l1,.ref l2]) Q E s:=by
 apply callType_new F.called_zip (by decide) (F.typeCall_zip_2 _ _) (F.newCall_zip_2 _ _) (λobj=>F.args_object_init_3 obj _ _) F.entry_zip_new (fE_ l1 l2 xs ys) #[a1,a2,?_];have z1:(mT s.heap l1).objs.size=s.heap.objs.size+1:=l7 ..;have z2:(B1 s.heap l1 l2).objs.size=s.heap.objs.size+2:=by rw[l7,z1]
 have z3:(B0 s.heap l1 l2).objs.size=s.heap.objs.size+3:=by rw[l7,z2]
 have z4:(BZ s.heap l1 l2).objs.size=s.heap.objs.size+4:=by rw[l7,z3]
 have g5:(yd s.heap l1 l2).get? (BZ s.heap l1 l2).objs.size\_:=cw _ U;have g4:(yd s.heap l1 l2).get? (B0 s.heap l1 l2).objs.size\_:=aS _ (cw _ U);have g3:(yd s.heap l1 l2).get? (B1 s.heap l1 l2).objs.size\_:=aS _ (aS _ (cw _ U));have g2:(yd s.heap l1 l2).get? (mT s.heap l1).objs.size\_:=aS _ (aS _ (aS _ (cw _ U)));have g1:(yd s.heap l1 l2).get? s.heap.objs.size\_:=aS _ (aS _ (aS _ (aS _ (cw _ U))));have up:∀c o,s.heap.get? c\o->(yd s.heap l1 l2).get? c\o:=λc o x=>aS _ (aS _ (aS _ (aS _ (aS _ x))));have ub:l1<s.heap.objs.size:=by let#[_,e,_]:=a1;exact bp e
 have Kv:l2<s.heap.objs.size:=by let#[_,e,_]:=a2;exact bp e
 show _/\_;apply#[#[_,g5,U],h _ (BZ s.heap l1 l2).objs.size (B1 s.heap l1 l2).objs.size (B0 s.heap l1 l2).objs.size s.heap.objs.size (mT s.heap l1).objs.size #[?_,?_,?_,g3,#[_,_,g4],.lst #[_,g1,U,U] (a1.at λo e=>up _ o e),.tup #[_,g2,U,U] (by let#[o,e,r]:=a2;exact#[o,up _ o e,r]),.inl g5] g5 ?_ up]
 ·rw[z1,z3,z4];generalize s.heap.objs.size=n;simp
 ·rw[z1,z2,z3,z4];generalize s.heap.objs.size=n;simp
 ·intro l hl hm
  have lt:l<s.heap.objs.size:=by
   simp only[bW,gI,or_false] at hl;rcases hl with rfl|rfl
   ·exact ub
   exact Kv
  simp only[bW,gI,or_false] at hm;rcases hm with rfl|rfl|rfl|rfl
  ·rw[z4] at lt;exact absurd lt (Nat.not_lt.mpr (tI _ _))
  ·rw[z3] at lt;exact absurd lt (Nat.not_lt.mpr (tI _ _))
  ·exact tM _ lt
  rw[z1] at lt;exact absurd lt (Nat.not_lt.mpr (tI _ _))
 intro b hb;simp only[bW,gI,or_false] at hb;rcases hb with rfl|rfl|rfl|rfl
 ·rw[z4];exact tI _ _
 ·rw[z3];exact tI _ _
 ·exact a_ _
 rw[z1];exact tI _ _
theorem dq_:typeLookup (.type "zip") "keys"=pure none:=by rw[typeLookup_type,builtinLookup_eq_fast];kernel_rfl
theorem ck_:typeLookup (.type "zip") "__getattr__"=pure none:=by rw[typeLookup_type,builtinLookup_eq_fast];kernel_rfl
theorem dT_:entryFor table "zip.__getattribute__"\Builtin.«object.__getattribute__»:=entryFor_alias (id':="object.__getattribute__") (by kernel_rfl) Z0 Z0 (by kernel_rfl)
theorem cX_(a:Addr)(fs:Array Aa)(u:Tok):Meets (Builtin.«object.__getattribute__» #[[.ref a,.str "keys" u],[]]) (λA R s=>s.heap.get? a=some { cls:=.type "zip",dict:=none,data:=.fields fs,slots:=#[] }/\raisesAttr (.ref a) "keys" A R s):=
 Meets.of_wp λprog w A R s hs=>by
  let#[hp,g,d,tk,os]:=s;let#[hx,hs]:=hs;have hT:(#[hp,g,d,tk,os]:Ab).TypeIs (.ref a) "zip":=#[_,hx,U];let hm:=dq_;unfold Builtin.«object.__getattribute__»
  repeat (any_goals (first|assumption|wp_step))
  repeat (any_goals (first|assumption|wp_step))
  exact wpAny_raiseAttrError hs.1 hs.2 (attrMsg_fits Z0 (by size_fits))
variable{fs:Array Aa}
theorem fj_{tk:Tok}{R:Result->Ab->Prop}(hx:s.heap.get? a=some { cls:=.type "zip",dict:=none,data:=.fields fs,slots:=#[] })(h:raisesAttr (.ref a) "keys" A R s) :
  codeAny (model prog w) A (.call (.builtin "zip.__getattribute__") #[[.ref a,.str "keys" tk],[]]) R s:=by
 apply codeAny_call_builtin F.slot_zip_getattribute.plain dT_ (F.slot_zip_getattribute.check _ _ _ _ _ _ _ _ #[_,hx,U] (F.args_zip_getattribute_2 _ _) ?_);exact cX_ a fs tk prog w A R s #[hx,h]
theorem vn(hx:s.heap.get? a=some { cls:=.type "zip",dict:=none,data:=.fields fs,slots:=#[] })(hA:A.handled=none)(h:∀h' tk,(∀b o,s.heap.get? b\o->h'.get? b\o)->Q none { s with heap:=h',toks:=tk }):wpAny (model prog w) A (getAttr? (.ref a) "keys") Q E s:=by
 let#[hp,g,d,tk,os]:=s;have ty:∀ic,(#[hp,g,d,ic,os]:Ab).TypeIs (.ref a) "zip":=λ_=>#[_,hx,U];let f1:=sub_AttributeError;let f2:=F.slot_zip_getattribute.lookup;let f3:=F.slot_zip_getattribute.bind (.ref a);let f4:=ck_;unfold getAttr? getAttrBy? getAttrBy
 repeat (any_goals (first|assumption|exact ty _|wp_step))
 apply fj_ hx #[hA,λh' ic e hx'=>?_];let#[t',u',he]:=hx'.there;apply (show wpAny _ _ (getattributeRaised _ _ _ _ _ _ _) _ _ _ from ?_);unfold getattributeRaised
 repeat (any_goals (first|assumption|wp_step))
 exact h _ _ hx'.keeps
variable{Q:Aa->Ab->Prop}
section
variable{prog:Ad}{w:Ag}{K:Type}[DecidableEq K]{knd:PySem.KeyKind prog w K}{A:Af}
theorem _p{TI TO d:Addr}(hd:d∉[z,TO,i1,i2])(hh:A.handled=none){xs ys:aj}(rest:List K):∀(i:Nat) (kvs:List (K × Aa)) (s:Ab) (R:Result->Ab->Prop) (tk:Tok),i+rest.length=xs.length->i+rest.length=ys.length->
  (∀(j:Nat) k,rest[j]? = some k->∃v,xs[i+j]? = some v/\knd.is k v=true)->mL s.heap z TI TO i1 i2 l1 l2 i xs.toArray ys.toArray->s.heap.IsList l1 xs.toArray->s.heap.DictOf knd d kvs->kvs.length+rest.length<=1000->
  (∀h' ic,h'.DictOf knd d (eV kvs (rest.zip (ys.drop i)))->(∀b o,b≠d->b∉[z,TO,i1,i2]->s.heap.get? b\o->h'.get? b\o)->R (.ok (.ret .none)) { s with heap:=h',toks:=ic })->
  codeAny (model prog w) A (.builtin "dict.update.loop" #[[.ref d,.ref z,.int i tk,.none],[]]) R s:=by
 induction rest with
 |nil=>
  intro i kvs s R tk e1 e2 hk D b0 pO hz hR;apply codeAny_builtin IM ?_;rw[xS xY _,Hu];apply ae (dE_ hh D b0 (by simp at e1 ⊢;omega) λh' kp=>?_);exact ae (m:=Builtin.Dict.addKeywords d []) (aB (aB (hR h' s.toks (Fy pO λo q=>kp _ _ hd q) λb o _ hb q=>kp b o hb q)))
 |cons k rest ih=>
  intro i kvs s R tk e1 e2 hk D b0 pO hz hR;simp only[jm] at e1 e2 hz;let#[v,hv,kv]:=hk 0 k U;have hy:ys[i]? = some ys[i]:=aX Z1;apply codeAny_builtin IM ?_;rw[xS xY _,Hu];apply ae (gR_ D (x:=v) (y:=ys[i]) ⇑hv ⇑hy λh1 D1 hT kp=>?_);apply ae (iI (ae (wpAny_tryCatch ?_)));unfold Builtin.Dict.pairItems;apply ae (wpAny_typeOf (T:="tuple") #[_,hT,U] ?_);rw[aI (by decide)];unfold seqItems?;apply ae (ae (wpAny_load hT (aB (aB ?_))));apply (show wpAny _ _ (holding [v,ys[i]] (dictSet d v ys[i])) _ _ _ from iI (wpAny_dictSet_pairs kv (Fy pO λo q=>kp _ _ hd q) (λh2 hd2 vE=>?_) (by have:=cU;omega)));have c1:((i:Int)+1)=((i+1:Nat):Int):=by omega
  have ndT:s.heap.objs.size≠d:=by
   let#[o,es,ep,ho,_]:=pO;exact i5 (bp ho)
  apply aB #[plainId_quiet xY _,?_];have ed:∀{c o},c≠d->h1.get? c\o->h2.get? c\o:=λhc q=>vE.extBut _ _ hc q;let#[nd,ti,ls,hI,#[a,b,hO],s1,s2,Q0]:=D1;have dn:∀{c},c∈[z,TO,i1,i2]->c≠d:=λhc e=>hd (by rw[<- e];exact hc)
  have rW:∀{c xs},h1.IsTuple c xs->c≠d:=λ{c xs} q e=>by
   let#[o,ho,hc,_]:=q;let#[o2,es,ep,fw,ki,_]:=pO;let fw:=kp _ _ hd fw;subst e;rw[ho] at fw;cases fw;let xG:=ki.1;rw[hc] at xG;exact absurd xG (by decide)
  have rX:∀{c xs},h1.IsList c xs->c≠d:=λ{c xs} q e=>by
   let#[o,ho,hc,_]:=q;let#[o2,es,ep,fw,ki,_]:=pO;let fw:=kp _ _ hd fw;subst e;rw[ho] at fw;cases fw;let xG:=ki.1;rw[hc] at xG;exact absurd xG (by decide)
  have ld:∀{it l k zs},Src h1 it l k zs->l≠d:=λq=>by
   cases q with
   |lst _ b=>exact rX b
   |tup _ b=>exact rW b
  have D2:mL h2 z TI TO i1 i2 l1 l2 (i+1) xs.toArray ys.toArray:=by
   apply#[nd,ti,ls,ed (rW #[_,hI,U,_,U]) hI,#[a,b,ed (dn Z2) hO],s1.keep (λ_=>ed (dn Z2)) (λ_=>ed (ld s1)),s2.keep (λ_=>ed (dn Z2)) (λ_=>ed (ld s2)),?_];rcases Q0 with hz|⟨T,o,f1,zP,eT,hz⟩
   ·exact .inl (ed (dn Z2) hz)
   by_cases c:T=d
   ·let#[o2,es,ep,fw,_]:=hd2;exact .inr #[T,o2,f1,zP,by rw[c];exact fw,ed (dn Z2) hz]
   exact .inr #[T,o,f1,zP,ed c eT,ed (dn Z2) hz]
  rw[c1]
  apply ih (i+1) (stored kvs k ys[i]) _ R 0 Z1 Z1 (λj k' hj=>?_) D2 (b0.at λo q=>ed (rX (b0.at λo q=>kp _ _ (ls _ Z2) q)) (kp _ _ (ls _ Z2) q)) hd2 (by have:=Uk kvs k ys[i];omega) λh' ic iU KJ=>hR h' ic (by
   have e:ys.drop i=ys[i]::ys.drop (i+1):=List.drop_eq_getElem_cons Z1;rw[e];exact iU) λb o h3 h4 q=>KJ b o h3 h4 (ed h3 (kp b o h4 q))
  let#[v,e,r]:=hk (j+1) k' hj;exact#[v,by rw[<- e];congr 1;omega,r]
theorem fB_{TI TO:Addr}{xs ys:aj}{ks:List K}(hh:A.handled=none)(D:mL s.heap z TI TO i1 i2 l1 l2 0 xs.toArray ys.toArray)(hz:Zp s.heap z TI TO .none false)(b0:s.heap.IsList l1 xs.toArray)(e1:ks.length=xs.length)(e2:ks.length=ys.length)(hk:∀(j:Nat) k,ks[j]? = some k->∃v,xs[j]? = some v/\knd.is k v=true)(oh:ks.length<=1000)(h:∀h' ic,h'.DictOf knd s.heap.objs.size (eV [] (ks.zip ys))->(∀b o,b∉[z,TO,i1,i2]->s.heap.get? b\o->h'.get? b\o)->Q (.ref s.heap.objs.size) { s with heap:=h',toks:=ic }) :
  wpAny (model prog w) A (call (.type "dict") [.ref z]) Q E s:=by
 apply callType_codes (Q₁:=λobj aK=>obj=.ref s.heap.objs.size/\aK={ s with heap:=s.heap.push { cls:=.type "dict",data:=.dict #[] } }) F.kt_called_dict (F.kt_typeCall_dict_1 _) F.entry_dict_init (kt_code_dict_new _ #[U,U]) ?_;rintro obj aK ⟨rfl,rfl⟩;have iS:(s.heap.push { cls:=.type "dict",data:=.dict #[] }).DictOf knd s.heap.objs.size []:=Heap.DictOf.new s.heap;have z1:Zp (s.heap.push { cls:=.type "dict",data:=.dict #[] }) z TI TO .none false:=aS _ hz;apply#[iS.typeIs,F.args_dict_init_2 _ _,?_];unfold Builtin.«dict.__init__» Builtin.Dict.selfAndRest;apply ae (ae (wpAny_notOrdered_dict iS.typeIs ?_));apply (show wpAny _ _ (pure (s.heap.objs.size,[Value.ref z])) _ _ _ from aB ?_);apply (show wpAny _ _ (Builtin.Dict.updateFrom "dict.__init__" s.heap.objs.size (.ref z) [] .none) _ _ _ from ?_);unfold Builtin.Dict.updateFrom;apply ae (wpAny_typeOf (T:="zip") #[_,z1,U] ?_);rw[aI (by decide)];apply ae (vn z1 hh λh2 VT k2=>?_);simp only[Option.isNone_none,if_true];have z2:IsZip h2 z TI TO .none:=k2 _ _ z1;apply ae (wpAny_rule (ae (wpAny_pyIter_zip z2 ?_)));apply aB #[plainId_quiet xY _,?_];have all:∀c o,s.heap.get? c\o->h2.get? c\o:=λc o q=>k2 _ _ (aS _ q)
 have lt:∀{b},b∈[z,TO,i1,i2]->b<s.heap.objs.size:=λ{b} hb=>by
  let#[nd,ti,ls,hI,#[a,b,hO],s1,s2,Q0]:=D;simp only[bW,gI,or_false] at hb;rcases hb with rfl|rfl|rfl|rfl
  ·exact bp hz
  ·exact bp hO
  ·exact s1.lt.1
  exact s2.lt.1
 apply _p (A:=A.in1) (knd:=knd) (d:=s.heap.objs.size) (xs:=xs) (ys:=ys) (λhm=>tM _ (lt hm)) hh ks 0 [] _ _ 0 Z1 Z1 (λj k hj=>by simpa using hk j k hj) (D.yU all) (b0.at λo q=>all _ _ q) (Fy iS λo q=>k2 _ _ q) ⇑oh λh' ic iU kp=>#[U,h h' ic ⇑iU λb o hb q=>kp b o (dA (bp q)) hb (all _ _ q)]
end
theorem h1_{l3:Addr}{zs:Array Aa}(a1:s.heap.IsList l1 xs)(a2:s.heap.IsTuple l2 ys)(a3:s.heap.IsTuple l3 zs)(h:∀h' z TI TO i1 i2 i3,[z,TO,i1,i2,i3].Nodup->TI∉[z,TO,i1,i2,i3]->(∀b∈[z,TI,TO,i1,i2,i3],s.heap.objs.size<=b)->Zp h' z TI TO .none false->fi h' TI (List.toArray [.ref i1,.ref i2,.ref i3])->fi h' TO (List.toArray [.none,.none,.none])->h'.IsListIter i1 l1 0->h'.IsTupleIter i2 l2 0->h'.IsTupleIter i3 l3 0->(∀c o,s.heap.get? c\o->h'.get? c\o)->Q (.ref z) { s with heap:=h' }):wpAny (model prog w) A (call (.type "zip") [.ref l1,.ref l2,.ref l3]) Q E s:=by
 apply callType_new F.called_zip (by decide) (dx_ _ _ _) (e0_ _ _ _) (λobj=>fI_ obj _ _ _) F.entry_zip_new (fr_ l1 l2 l3 xs ys zs) #[a1,a2,a3,?_];have z1:(mT s.heap l1).objs.size=s.heap.objs.size+1:=l7 ..;have z2:(oF (mT s.heap l1) l2).objs.size=s.heap.objs.size+2:=by rw[l7,z1]
 have z3:(B4 s.heap l1 l2 l3).objs.size=s.heap.objs.size+3:=by rw[l7,z2]
 have z4:(B3 s.heap l1 l2 l3).objs.size=s.heap.objs.size+4:=by rw[l7,z3]
 have z5:(B2 s.heap l1 l2 l3).objs.size=s.heap.objs.size+5:=by rw[l7,z4]
 have g6:(yf s.heap l1 l2 l3).get? (B2 s.heap l1 l2 l3).objs.size\_:=cw _ U;have g5:(yf s.heap l1 l2 l3).get? (B3 s.heap l1 l2 l3).objs.size\_:=aS _ (cw _ U);have g4:(yf s.heap l1 l2 l3).get? (B4 s.heap l1 l2 l3).objs.size\_:=aS _ (aS _ (cw _ U));have g3:(yf s.heap l1 l2 l3).get? (oF (mT s.heap l1) l2).objs.size\_:=aS _ (aS _ (aS _ (cw _ U)));have g2:(yf s.heap l1 l2 l3).get? (mT s.heap l1).objs.size\_:=aS _ (aS _ (aS _ (aS _ (cw _ U))));have g1:(yf s.heap l1 l2 l3).get? s.heap.objs.size\_:=aS _ (aS _ (aS _ (aS _ (aS _ (cw _ U)))));show _/\_;apply#[#[_,g6,U],h _ (B2 s.heap l1 l2 l3).objs.size (B4 s.heap l1 l2 l3).objs.size (B3 s.heap l1 l2 l3).objs.size s.heap.objs.size (mT s.heap l1).objs.size (oF (mT s.heap l1) l2).objs.size ?_ ?_ ?_ g6 g4 g5 #[_,g1,U,U] #[_,g2,U,U] #[_,g3,U,U] λc o x=>aS _ (aS _ (aS _ (aS _ (aS _ (aS _ x)))))]
 ·rw[z1,z2,z4,z5];generalize s.heap.objs.size=n;simp
 ·rw[z1,z2,z3,z4,z5];generalize s.heap.objs.size=n;simp
 intro b hb;simp only[bW,gI,or_false] at hb;rcases hb with rfl|rfl|rfl|rfl|rfl|rfl
 ·rw[z5];exact tI _ _
 ·rw[z3];exact tI _ _
 ·rw[z4];exact tI _ _
 ·exact a_ _
 ·rw[z1];exact tI _ _
 rw[z2];exact tI _ _
end hW
namespace L2
open PySem PySem.Spec PySem.Calls PyProof.Rows PySem.W hW
inductive sd (K:ai) (R:It->Hp->Prop) (vs:ag) (H1:Hp):Prop
 |mk:∀a b c xs ys zs,vs=[.ref a,.ref b,.ref c]->dY K H1 a xs->fG K H1 b ys->fG K H1 c zs->R (FT K a b c) H1->sd K R vs H1
def DR(K:ai)(ta:TA):TI:=λσ H R=>ta σ H λvs H1=>sd K R vs H1
variable{X:Cx}{p2:Pos}{a:Expr}{es:List Expr}{ta:TA}
theorem YE{elts:List Expr}{kk:Nat}{p pos:Pos}(hg:Gl X "zip")(hm:X.mg "zip"=none)(ha:PA X (a::es) ta)(hs:starEach (a::es) X.env=(false,eval a X.env)::starEach es X.env:=by rfl)(ij:(backTo pos (starEach es X.env)).any (·.1)=false:=by rfl):PI X (.Tuple elts kk p2) (.Call (.Name "zip" p) (a::es) [] pos) (DR X.K ta):=by
 intro pins s σ H R I h;apply Call_ (wm I hg hm boot_zip (BC (aP (ha pos pins s σ H _ I h) λus s1 ⟨vs,H1,I1,r1,q1⟩=>?_) hs ij));let#[a,b,c,xs,ys,zs,e,q1,q2,q3,q]:=q1;subst e;cases r1 with
 |cons ra rr=>
 cases rr with
 |cons rb rr=>
 cases rr with
 |cons rc rr=>
 cases rr;cases ra;cases rb;cases rc;let#[u1,_,p1,_]:=I1.list q1;let#[u2,_,p2,_]:=I1.tuple q2;let#[u3,_,p3,_]:=I1.tuple q3;have ub:a<s1.heap.objs.size:=by let#[_,e,_]:=p1.isList;exact bp e
 have Kv:b<s1.heap.objs.size:=by let#[_,e,_]:=p2;exact bp e
 have XA:c<s1.heap.objs.size:=by let#[_,e,_]:=p3;exact bp e
 apply h1_ p1.isList p2 p3 λh' z TI TO i1 i2 i3 nd ti new hz hI hO Wg s2 s3 kp=>?_;apply wpAny_pyIter_zip hz ?_;apply#[z,[z,TI,TO,i1,i2,i3],_,_,H1,U,I1.kept (t':=s1.toks) kp,gD_ a b c z TI TO i1 i2 i3 nd ti λl hl hm=>?_,#[hz,hI,#[_,_,_,hO],Wg,s2,s3],λd hd=>I1.jD (new d hd) (I1.ax.fresh (new d hd)),q];have hm:s1.heap.objs.size<=l:=new l (by simp at hm ⊢;rcases hm with h|h|h|h|h<;>simp[h])
 simp only[bW,gI,or_false] at hl;rcases hl with rfl|rfl|rfl
 ·exact Nat.not_lt.mpr hm ub
 ·exact Nat.not_lt.mpr hm Kv
 exact Nat.not_lt.mpr hm XA
theorem hV_{K:ai}{a b c:Addr}{xs ys zs:ag}{g:TG}{tb:TS}{D:Ends}{σ:St}{H:Hp}(l2:ys.length=xs.length)(l3:zs.length=xs.length)(Pv:bO)(h0:Pv 0 σ H)(hl:∀i σ H,i<=xs.length->Pv i σ H->dY K H a xs/\fG K H b ys/\fG K H c zs)
  (hs:∀i x y z σ H,xs[i]? = some x->ys[i]? = some y->zs[i]? = some z->Pv i σ H->∀t,H t=none->g (.ref t) σ (upd H t (.tup [x,y,z])) λgm H2=>tb { D with nx:=Pv (i+1),ct:=Pv (i+1),bk:=D.nx } gm H2) (hd:∀σ H,Pv xs.length σ H->D.nx σ H) :
  ∃W:Nat->Nat->St->Hp->Prop,(∃m,W 0 m σ H)/\∀i m σ H,W i m σ H->
   ((FT K a b c).stop i H/\D.nx σ H)∨((FT K a b c).go i H/\∃N:St->Hp->Prop,(∀aV H',N aV H'->∃m',m'<m/\W (i+1) m' aV H')/\∀x H',(FT K a b c).uO i H x H'->g x σ H' λgm H2=>tb { D with nx:=N,ct:=N,bk:=D.nx } gm H2):=by
 apply#[λi m σ H=>m=xs.length - i/\i<=xs.length/\Pv i σ H,#[xs.length,by simp,gB _,h0],?_];rintro i m σ H ⟨rfl,hi,p⟩;let#[q1,q2,q3]:=hl i σ H hi p;by_cases dW:i<xs.length
 ·apply .inr #[#[xs,ys,zs,xs[i],ys[i]' Z1,zs[i]' Z1,q1,q2,q3,by simp[dW],by simp[l2,dW],by simp[l3,dW]],Pv (i+1),λaV H' p'=>#[xs.length - (i+1),by omega,U,dW,p'],λv H' y=>?_];let#[t,x,y,z,rfl,ht,y1,y2,y3,rfl]:=y;exact hs i x y z σ H (y1 xs q1) (y2 ys q2) (y3 zs q3) p t ht
 have e:i=xs.length:=by omega
 subst e;exact .inl #[#[xs,q1,U],hd σ H p]
inductive TC (K:ai) (Q:VK) (vs:ag) (H1:Hp):Prop
 |mk:∀(l t:Addr) (ns:af) (ys:ag),vs=[.ref l,.ref t]->dY K H1 l (ns.map V.str)->fG K H1 t ys->ys.length=ns.length->ns.length<=1000->(∀d,H1 d=none->Q (.ref d) (upd H1 d (.dK (vY [] ((ns.zip ys).map λp=>(Sum.inr p.1,p.2))))))->TC K Q vs H1
def qq(K:ai)(ta:TA):TE:=λσ H Q=>ta σ H λvs H1=>TC K Q vs H1
theorem QH:∀{ns:af} {ys:ag} {us:aj},Vals ys us->KV ((ns.zip ys).map λp=>((Sum.inr p.1:Key),p.2)) ((ns.map Sum.inr).zip us)
 |[],_,_,_=>by simp only[List.zip_nil_left,List.map_nil];exact Paired.nil
 |_::_,_,_,.nil=>by simp only[List.zip_nil_right,List.map_nil];exact Paired.nil
 |n::ns,y::ys,u::us,.cons r t=>.cons #[U,r] (QH t)
theorem fS_{p1 oQ oP:Pos}(gD:Gl X "dict")(mD:X.mg "dict"=none)(gZ:Gl X "zip")(mZ:X.mg "zip"=none)(ha:PA X (a::es) ta)(hc:X.calm=true:=by rfl)(h1:starEach (a::es) X.env=(false,eval a X.env)::starEach es X.env:=by rfl)(h2:starEach [.Call (.Name "zip" p2) (a::es) [] oP] X.env=(false,eval (.Call (.Name "zip" p2) (a::es) [] oP) X.env)::starEach [] X.env:=by rfl)(h3:(backTo oQ (starEach [] X.env)).any (·.1)=false:=by rfl)(h4:(backTo oP (starEach es X.env)).any (·.1)=false:=by rfl):PE X (.Call (.Name "dict" p1) [.Call (.Name "zip" p2) (a::es) [] oP] [] oQ) (qq X.K ta):=by
 intro pins s σ H Q I h;apply wpAny_Call_Name_kw (wm I gD mD uA ?_ (by decide) (by decide));apply BC ?_ h2 h3;rw[h2];apply (show wpAny _ _ (spliced ((false,eval (.Call (.Name "zip" p2) (a::es) [] oP) X.env)::backTo oQ (starEach [] X.env))) _ _ s from Calls.spliced_cons ?_);apply wpAny_Call_Name_kw (wm I gZ mZ boot_zip ?_ (by decide) (by decide));apply BC (aP (ha oP pins s σ H _ I h) λus s1 ⟨vs,H1,I1,r1,q1⟩=>?_) h1 h4;let#[l,t,ns,ys,e,sq,V7,ly,oh,q]:=q1;subst e;cases r1 with
 |cons ra rr=>
 cases rr with
 |cons rb rr=>
 cases rr;cases ra;cases rb;let#[u1,v1,p1,_]:=I1.list sq;let#[u2,v2,p2,_]:=I1.tuple V7;let e1:=v1.length;let e2:=v2.length;rw[ao] at e1;apply h4_ p1.isList p2 λh' z TI TO i1 i2 D hz new kp=>?_;have I2:Inv X pins σ H1 { s1 with heap:=h' }:=I1.kept (t':=s1.toks) kp;apply Calls.spliced_nil ?_;apply fB_ (knd:=fq X.prog X.w) (s:={ s1 with heap:=h' }) (ks:=ns.map Sum.inr) (I1.ok.hd hc) D hz (p1.isList.at λo e=>kp _ _ e) (by rw[ao];omega) (by rw[ao];omega) (λj k hj=>?_) (by rw[ao];exact oh) λg8 tk hd X8=>?_
 ·rw[dG,BR] at hj;let#[n,hn,rfl]:=hj;let#[u,hu,ru]:=v1.get (i:=j) (x:=V.str n) (by rw[dG,hn];rfl);exact#[u,hu,Aj (k:=Sum.inr n) ru]
 have hk:∀b o,s1.heap.get? b\o->g8.get? b\o:=λb o e=>X8 b o (λhm=>Nat.not_lt.mpr (new b hm) (bp e)) (kp _ _ e);have fresh:s1.heap.objs.size<=h'.objs.size:=Nat.le_of_lt (Nat.lt_of_le_of_lt (new z Z2) (bp hz));let big:=I2.big;apply#[.ref h'.objs.size,_,I1.laid (t':=tk) hk fresh (Hv ?_ (beq_eq_false_iff_ne.mpr (bG (dA big))) (KV.eV (QH v2) .nil) hd),U,q _ (I1.ax.fresh fresh)];show (vY [] ((ns.zip ys).map λp=>((Sum.inr p.1:Key),p.2))).length<=sizeLine;have:=Ox ((ns.zip ys).map λp=>((Sum.inr p.1:Key),p.2)) [];rw[ao,List.length_zip] at this;have:=cU;simp only[List.length_nil] at *;omega
end L2
namespace hW
open PySem PySem.W PyProof.Rows
variable{prog:Ad}{w:Ag}{A:Af}
theorem N9(hh:A.handled=none)(it l:Addr)(ne:l≠it)(xs:Array Aa):Draws prog w A it [it,l] xs.size (λi v=>xs[i]? = some v) λi h=>h.IsTupleIter it l i/\h.IsTuple l xs where
 live:=λi h ⟨⟨o,e,_⟩,_⟩=>#[o,e]
 frame:=λi h h' ⟨a,b⟩ k=>#[a.at λo e=>k it Z2 o e,by let#[o,e,r]:=b;exact#[o,k l Z2 o e,r]]
 item:=λi s Q E hi ⟨a,b⟩ h=>nextT a b (Array.getElem?_eq_getElem hi) λh' a' sb=>h _ h' s.toks (Array.getElem?_eq_getElem hi) #[a',b.extBut sb.extBut ne] sb
 done:=λs Q E ⟨a,b⟩ hE=>by
  let#[o,ho,hc,hd]:=id a;let#[u,hu,_,n,hv]:=b;have hx:xs[xs.size]? = none:=Array.getElem?_eq_none (a_ _);unfold Builtin.SmallTypes.nextOf;apply ae (uq (name:=Str.ofString "__next__") a.typeIs F.slot_tuple_iterator_next (sU F.slot_tuple_iterator_next a.typeIs F.entry_tuple_iterator_next ?_ (F.args_tuple_iterator_next_1 _)));apply (show wpAny _ _ (field (.ref it) 0 >>= _) _ _ s from ae (fL ho hd (x:=.ref l) U ?_));apply (show wpAny _ _ (if (Value.ref l == Value.none)=true then _ else _) _ _ s from ?_);rw[aA (show ¬((Value.ref l == Value.none)=true) from f_)];apply (show wpAny _ _ (field (.ref it) 1 >>= _) _ _ s from ae (fL ho hd (x:=.int xs.size 0) U ?_));apply (show wpAny _ _ (seqItems? (.ref l) >>= _) _ _ s from ae (jG hu hv ?_));simp only[x_,hx];apply ae (wpAny_rule (ae (wpAny_setField ho hd Z2 ?_)));apply (show wpAny _ _ (newExc (.type "StopIteration") [] >>= _) _ _ _ from ae ?_);simp only[newExc,newTuple];apply ae (pW ?_ (by size_fits));apply ae (m:=firstArgMember _ _) (wpAny_of_eq (a:=Value.none) (by first|rfl|(simp only[firstArgMember];rfl)) ?_);apply pW ?_ (by size_fits);simp only[raiseNew];apply ae (wpAny_handled ?_)
  first|rw[show A.in1.handled=none from hh]|rw[hh]
  apply ae (aB (wpAny_throw ?_));exact hE _ _ (((Heap.SameBut.update ..).extBut.push _).push _) #[_,cw _ U,U]
variable{s:Ab}
theorem el_(l:Addr)(xs:Array Aa):Meets (Builtin.«enumerate.__new__» #[[.type "enumerate",.ref l],[]]) (λ_ R s=>s.heap.IsTuple l xs /\
   R (.ok (.ret (.ref (oF s.heap l).objs.size))) { s with heap:=(oF s.heap l).push { cls:=.type "enumerate",data:=.fields (List.toArray [.none,.bool false,.ref s.heap.objs.size,rawInt 0,.none,.none]) } }):=
 .of_wp λprog w A R s h=>by
  let#[hp,g,d,tk,os]:=s;let#[a,h]:=h;let zo:=sub_enumerate;let#[o,ho,hc,n,hd]:=id a;have hL:Heap.IsTuple (Shared.heap #[hp,g,d,tk,os]) l xs:=a
  wp_walk using AutoSeq1.wpAny_loadPart' ho
  apply wpAny_stack_any λst=>aB ?_;split
  ·rename_i c _ _ _ _ _
   cases (c == Value.type "enumerate")
   ·wp_walk using AutoSeq1.wpAny_loadPart' ho,wpAny_pyIter_tuple hL
    exact#[_,U,h]
   wp_walk using AutoSeq1.wpAny_loadPart' ho,wpAny_pyIter_tuple hL
   exact#[_,U,h]
  wp_walk using AutoSeq1.wpAny_loadPart' ho,wpAny_pyIter_tuple hL
  exact#[_,U,h]
variable{E:Aa->Ab->Prop}
theorem fv_{l:Addr}{xs:Array Aa}{Q:Aa->Ab->Prop}(hL:s.heap.IsTuple l xs)
  (h:∀h',IsEnum h' (s.heap.objs.size+1) s.heap.objs.size 0 .none->h'.IsTupleIter s.heap.objs.size l 0->(∀b o,s.heap.get? b\o->h'.get? b\o)->Q (.ref (s.heap.objs.size+1)) { s with heap:=h' }) :
  wpAny (model prog w) A (call (.type "enumerate") [.ref l]) Q E s:=by
 apply callType_new F.called_enumerate (by decide) (F.typeCall_enumerate_1 _) (F.newCall_enumerate_1 _) (λobj=>F.args_object_init_2 obj _) F.entry_enumerate_new (el_ l xs) #[hL,?_];have hz:(oF s.heap l).objs.size=s.heap.objs.size+1:=l7 ..;have g2:((oF s.heap l).push { cls:=.type "enumerate",data:=.fields (List.toArray [.none,.bool false,.ref s.heap.objs.size,rawInt 0,.none,.none]) }).get? (oF s.heap l).objs.size\_:=cw _ U;have g1:((oF s.heap l).push { cls:=.type "enumerate",data:=.fields (List.toArray [.none,.bool false,.ref s.heap.objs.size,rawInt 0,.none,.none]) }).get? s.heap.objs.size\_:=aS _ (cw _ U);show _/\_;rw[hz] at g2 ⊢;exact#[#[_,g2,U],h _ g2 #[_,g1,U,U] λb o x=>aS _ (aS _ x)]
end hW
namespace L2
open PySem PySem.Spec PyProof.Rows PySem.W hW
def tT(K:ai)(a:Addr):It:=
 #[λi H=>∃xs x,fG K H a xs/\xs[i]? = some x,λi H y H'=>∃t x,y=.ref t/\H t=none/\(∀xs,fG K H a xs->xs[i]? = some x)/\H'=upd H t (.tup [.int i,x]),λi H=>∃xs,fG K H a xs/\xs.length=i]
variable{elts:List Expr}{pos:Pos}
theorem fw_{P:Ad}{w:Ag}{K:ai}{k:Nat}(a e it:Addr)(h1:e≠it)(h2:a≠e)(h3:a≠it):Turn P w K (.Tuple elts k pos) (tT K a) [e,it] e (λi h=>(∃old,IsEnum h e it i old)/\h.IsTupleIter it a i) where
 mem:=by simp
 obj:=λi h st b hb=>by
  let#[#[old,q],o,e2,c,d]:=st;rcases bW.mp hb with rfl|hb
  ·exact#[_,q,λv z=>by cases z]
  obtain rfl:b=it:=⇑hb
  exact#[o,e2,λv z=>by rw[d] at z;cases z]
 keep:=λi h h' st kk=>by
  let#[#[old,q],gn]:=st;exact#[#[old,kk e Z2 _ q],gn.at λo q2=>kk it Z2 o q2]
 item:=by
  intro X hP hw hK hc i pins s σ H E I hf st hg;subst hP hw hK;let#[xs,x,hq,hx]:=hg;let#[its,rv,p,hz]:=I.tuple hq;let#[u,hu,ru]:=rv.get hx;have p:s.heap.IsTuple a its.toArray:=p;let W:=WalksT.enumerateD (A:=X.A) (N9 (prog:=X.prog) (w:=X.w) (A:=X.A.in1) (I.ok.hd hc) it a h3 its.toArray) e h1 (by simp[h1,bG h2]) Z2
  have hi:i<its.toArray.size:=by
   simp only[cQ];exact (bZ.mp hu).1
  let#[old,he]:=st.1;apply wpAny_pyNext_enum_itemD (N9 (prog:=X.prog) (w:=X.w) (A:=X.A.in1) (I.ok.hd hc) it a h3 its.toArray) he #[st.2,p] hi h1 (by simp[h1,bG h2]) λx' h' t hx' ho fH LM hsz hk=>?_
  have ex:x'=u:=by
   rw[List.getElem?_toArray,hu] at hx';exact (cq hx').symm
  subst ex;have Lx:e<s.heap.objs.size:=bp he;have Ln:it<s.heap.objs.size:=by let#[_,x,_]:=st.2;exact bp x
  have mid:(∃x,IsEnumOut h' e it ((i:Int)+1) x s.heap.objs.size)/\(h'.IsTupleIter it a (i+1)/\h'.IsTuple a its.toArray)/\s.heap.objs.size≠e/\s.heap.objs.size≠it:=#[#[_,ho],fH,i5 Lx,i5 Ln];have kk:∀b o,b∉[e,it]->s.heap.get? b\o->h'.get? b\o:=λb o hb x=>hk b o (λe'=>hb (by simp[e'])) (λe'=>hb (by simp[e'])) x;have xr:h'.IsTuple s.heap.objs.size (List.toArray [.int i t,x']):=#[_,LM,U,_,U];obtain⟨T,eT⟩:∃T,T=s.heap.objs.size:=#[_,U];obtain⟨tk,GI⟩:∃tk,tk=t+1:=#[_,U];rw[<- eT] at xr mid LM ⊢;have hT:s.heap.objs.size<=T:=Nat.le_of_eq eT.symm;rw[<- GI];apply#[_,U,W.go elts k pos i T { s with heap:=h',toks:=tk } _ _ mid λg8 fH KL=>?_];have nT:T∉[e,it]:=W.apart i T h' mid
  have vB:g8.IsTuple T (List.toArray [.int i t,x']):=by
   let#[o,q,r]:=xr;exact#[o,KL T o nT q,r]
  have I1:Inv X pins σ (upd H T (.tup [.int i,x])) { s with heap:=g8,toks:=tk }:=I.iL (t':=tk) (fp:=[e,it]) (its:=[.int i t,x']) (λb o hb q=>KL b o hb (kk b o hb q)) hf hT (zl) (.cons #[t,U] (.cons ru .nil)) #[vB,_,KL T _ nT LM,U];apply#[.ref T,_,I1,U,#[T,x,U,I.ax.fresh hT,λys hy=>by rw[I.dS hy hq];exact hx,U],#[?_,fH.2.1],λb hb=>?_]
  ·let#[old,q]:=fH.1;exact#[old,by simpa using q]
  rw[aw (λz:b=T=>nT (by rw[<- z];exact hb))];exact (hf b hb).1
 done:=by
  intro X hP hw hK hc i pins s σ H E I hf st hg;subst hP hw hK;let#[xs,hq,hx]:=hg;let#[its,rv,p,hz]:=I.tuple hq;have p:s.heap.IsTuple a its.toArray:=p;let W:=WalksT.enumerateD (A:=X.A) (N9 (prog:=X.prog) (w:=X.w) (A:=X.A.in1) (I.ok.hd hc) it a h3 its.toArray) e h1 (by simp[h1,bG h2]) Z2
  have hn:its.toArray.size=i:=by
   have:=rv.length;simp only[cQ];omega
  apply W.done s _ _ (by rw[hn];exact#[st.1,st.2,p]) λh' tk kk=>#[U,I.gP (t':=tk) (fp:=[e,it]) kk hf]
 self:=λA i s Q E st h=>by
  let#[old,q]:=st.1;exact wpAny_pyIter_enum q h
inductive nQ (K:ai) (R:It->Hp->Prop) (vs:ag) (H1:Hp):Prop
 |mk:∀a,vs=[.ref a]->(∃xs,fG K H1 a xs)->R (tT K a) H1->nQ K R vs H1
def zi(K:ai)(ta:TA):TI:=λσ H R=>ta σ H λvs H1=>nQ K R vs H1
variable{X:Cx}
theorem _y{kk:Nat}{p2:Pos}{a:Expr}{ta:TA}{p:Pos}(hg:Gl X "enumerate")(hm:X.mg "enumerate"=none)(ha:PA X [a] ta)(hs:starEach [a] X.env=[(false,eval a X.env)]:=by rfl):PI X (.Tuple elts kk p2) (.Call (.Name "enumerate" p) [a] [] pos) (zi X.K ta):=by
 intro pins s σ H R I h;apply Call_ (wm I hg hm boot_enumerate (BC (aP (ha pos pins s σ H _ I h) λus s1 ⟨vs,H1,I1,r1,q1⟩=>?_) hs U));let#[l,e,#[xs,hq],q]:=q1;subst e;cases r1 with
 |cons r rr=>
  cases rr;cases r;let#[its,rv,pl,hz]:=I1.tuple hq;have pl:s1.heap.IsTuple l its.toArray:=pl;have ll:l<s1.heap.objs.size:=by let#[_,e,_]:=pl;exact bp e
  apply fv_ pl λh' he hi kp=>?_;apply wpAny_pyIter_enum he ?_;apply#[s1.heap.objs.size+1,[s1.heap.objs.size+1,s1.heap.objs.size],_,_,H1,U,I1.kept (t':=s1.toks) kp,fw_ l _ _ (Nat.succ_ne_self _) (dA (Nat.lt_succ_of_lt ll)) (dA ll),#[#[_,he],hi],λb hb=>?_,q]
  have e:s1.heap.objs.size<=b:=by
   rcases bW.mp hb with rfl|hb
   ·exact Nat.le_succ _
   obtain rfl:b=s1.heap.objs.size:=⇑hb
   exact a_ _
  exact I1.jD e (I1.ax.fresh e)
theorem hb_{K:ai}{a:Addr}{xs:ag}{g:TG}{tb:TS}{D:Ends}{σ:St}{H:Hp}(Pv:bO)(h0:Pv 0 σ H)(hl:∀i σ H,i<=xs.length->Pv i σ H->fG K H a xs)
  (hs:∀i x σ H,xs[i]? = some x->Pv i σ H->∀t,H t=none->g (.ref t) σ (upd H t (.tup [.int i,x])) λgm H2=>tb { D with nx:=Pv (i+1),ct:=Pv (i+1),bk:=D.nx } gm H2) (hd:∀σ H,Pv xs.length σ H->D.nx σ H) :
  ∃W:Nat->Nat->St->Hp->Prop,(∃m,W 0 m σ H)/\∀i m σ H,W i m σ H->
   ((tT K a).stop i H/\D.nx σ H)∨((tT K a).go i H/\∃N:St->Hp->Prop,(∀aV H',N aV H'->∃m',m'<m/\W (i+1) m' aV H')/\∀x H',(tT K a).uO i H x H'->g x σ H' λgm H2=>tb { D with nx:=N,ct:=N,bk:=D.nx } gm H2):=by
 apply#[λi m σ H=>m=xs.length - i/\i<=xs.length/\Pv i σ H,#[xs.length,by simp,gB _,h0],?_];rintro i m σ H ⟨rfl,hi,p⟩;let q:=hl i σ H hi p;by_cases dW:i<xs.length
 ·apply .inr #[#[xs,xs[i],q,by simp[dW]],Pv (i+1),λaV H' p'=>#[xs.length - (i+1),by omega,U,dW,p'],λx H' y=>?_];let#[t,x,rfl,ht,y,rfl]:=y;exact hs i x σ H (y xs q) p t ht
 have e:i=xs.length:=by omega
 subst e;exact .inl #[#[xs,q,U],hd σ H p]
def yl(tk tv:TE):TE:=λσ H Q=>∀p,H p=none->tk σ (upd H p (.dT [])) λx H1=>tv σ H1 λy H2=>H2 p\.dT []/\∃b k,x=.ref b/\H2 b\.tup (k.map kV)/\Q (.ref p) (upd H2 p (.dT [(k,y)]))
theorem Sy{k v:Expr}{tk tv:TE}(hu:X.A.units+1<cLine)(hk:PE X k tk)(hv:PE X v tv):PE X (.Dict [some k] [v] pos) (yl tk tv):=by
 intro pins s σ H Q I q;let hn:=I.ax.fresh (a_ s.heap.objs.size);let I1:=I.laid (a:=s.heap.objs.size) (o:=.dT []) (h':=s.heap.push { cls:=.type "dict",data:=.dict #[] }) (t':=s.toks) (λ_ _ q=>aS _ q) (a_ _) (Ta s.heap I.big);let shape:=zip_pairTrees [some k] [v] X.env pos U U;rw[arm_eval_Dict,shape,dictDisplay_pairs (pairTrees [some k] [v] X.env pos) (by intro e;exact absurd (eF List.length e) (by rw[pairTrees_length [some k] [v] X.env pos U U];exact Nat.one_ne_zero)) (by rw[pairTrees_length [some k] [v] X.env pos U U];exact (by decide:1<17))];apply ae (wpAny_standAt (ae ?_));unfold subDict;apply ae (wpAny_alloc (ae (iI ?_)));rw[aI (by rw[pairTrees_length [some k] [v] X.env pos U U];exact (by decide:1<=15))];apply ae (pairTrees_cons_walk (aP (hk pins _ σ _ _ I1 (q _ hn)) λu s2 ⟨x,H2,I2,rx,q2⟩=>aP (hv pins s2 σ H2 _ I2 q2) λr s3 ⟨y,H3,I3,ry,e,b,kk,ex,eb,q3⟩=>pairTrees_nil_walk ?_));subst ex;cases rx;let#[z,hd,xs,rel,dd]:=QC I3.ax e;cases rel;apply iI ?_;apply ae ?_;simp only[p7,uL];apply ae (ae (wpAny_dictSet_heap (hsz:=by simp) (show (tupleKind (fq X.prog X.w)).room X.A from Nat.lt_of_succ_lt hu) (By I3.ax eb) dd λh' xR hs=>aB (aB (aB (aB (aB ?_))))));let#[ob,es,ep,hq,h2,h3,h4,_,h5]:=xR;apply#[.ref s.heap.objs.size,_,MA (ob:=.dT [(kk,y)]) I3 (by rw[e];exact True.intro) hs #[ob,hq] #[zl,hd,_,(KT.put (H:=H3) (kvs:=[]) (xs:=[]) .nil kk eb ry).keeps λc ys ec=>?_,ob,es,ep,hq,h2,h3,h4,h5],U,q3];rw[aw (bK ec e nofun)];exact ec
open PySem.Builtin PySem.Builtin.Str
theorem SL:∀{ss:af} {us:aj},Vals (ss.map V.str) us->StrsAre us ss
 |[],_,.nil=>.nil
 |x::ss,_,.cons r rs=>by
  let#[t,rfl]:=r;exact .cons x t (SL rs)
end L2
namespace hW
open PySem PySem.W PyProof.Rows
end hW
namespace L2
open PySem PySem.Spec PyProof.Rows PySem.W hW
section
variable{X:Cx}{o i e value:Expr}{pos pos' JB:Pos}{td ty tv:TE}
end
section
variable{X:Cx}{CX:uM}{k:Nat}{f C:Addr}{fd:Ae}{ps ks:af}{sp:Sp}{E:XK}{m:Str}{pos apos:Pos}{e o:Expr}{es:List Expr}{A8:List Keyword}{ta:TE}{t tk:TA}{g:aj->aj->aj}{gV:ag->ag->ag}
end
structure FunD (K:ai) (x qual:Str) (st:Stmt) (f:Addr) (fd:Ae):Prop where
 ex:∃(oc:Aa) (od:Option Addr) (T:Addr) (kV doc pm:Aa) (an:Option Addr) (aQ ct:Aa) (j9:Array (Option Aa)) (o:Obj) (n:Nat),
  fd=PySem.W.fnOf x qual (jJ st) (iw st) (a9 st) (.ref T) kV doc pm an aQ ct/\K.lookup f=some #[oc,od,.func fd,j9]/\PySem.W.codeIn K aQ qual=true/\K.lookup T\o/\o.data=.seq (List.toArray [.none]) n
open AutoSeq1 (wpAny_loadPart')
variable{prog:Ad}{w:Ag}
theorem cY_(r:Addr)(o:Obj)(hc:o.cls=.type "dict_values")(φ:aj->Ab->Prop) :
  MeetsIn prog w (Builtin.«tuple.__new__» #[[.type "tuple",.ref r],[]]) (λA R s=>s.heap.get? r\o/\A.handled=none/\(∀(A':Af) (E':Aa->Ab->Prop) (Rr:aj->Ab->Prop),A'.handled=none->(∀vs s1,φ vs s1->Rr vs s1)->wpAny (model prog w) A' (collect (.ref r)) Rr E' s)/\∀vs s1,φ vs s1->vs.length<=sizeLine/\R (.ok (.ret (.ref s1.heap.objs.size))) { s1 with heap:=s1.heap.push { cls:=.type "tuple",data:=.seq vs.toArray } }):=
 .of_wp λA R s h=>by
  let#[hp,g,d,tk,os]:=s;let#[ht,hh,col,h]:=h;let zo:=sub_tuple_self;let Rv:=init_tuple_lookup;let hmh:=madeHere_tuple;have hT:Shared.TypeIs #[hp,g,d,tk,os] (.ref r) "dict_values":=#[o,ht,hc];have NB:∀{Rr:aj->Ab->Prop} {E':Aa->Ab->Prop},(∀vs s1,φ vs s1->Rr vs s1)->wpAny (model prog w) A.in1 (collect (.ref r)) Rr E' #[hp,g,d,tk,os]:=λh=>col A.in1 _ _ hh h
  wp_walk using o_ ht,wpAny_typeOf hT,NB
  intro vs s1 hv;let#[hz,h]:=h vs s1 hv;apply (show wpAny _ _ (Builtin.Tuple.tupleExact vs.toArray >>= λv=>ret v) _ _ _ from ?_);unfold Builtin.Tuple.tupleExact;apply ae (pW ?_ (by show vs.toArray.size<=sizeLine;simpa using hz));exact aB #[_,U,h]
inductive w_ (xs:ag) (H:Hp) (Q:VK):Prop
 |mk:∀v d kvs,xs=[.ref v]->H v\uz v d->H d\.dK kvs->(∀l,H l=none->Q (.ref l) (upd H l (.tup (kvs.map (·.2)))))->w_ xs H Q
variable{X:Cx}
theorem gC_(hc:X.calm=true):gE X (.type "tuple") w_:=by
 intro pins s σ H xs us Q I r h;let#[v,d,kvs,rfl,hv,hd,q]:=h;let#[u,rfl,ru]:=vals1 r;cases ru;let#[z,hdn,vs,rel,dd]:=jH I.ax (.inl hd);let#[ep,dat]:=dd.dictAt;let#[iv,_,_]:=I.ax v _ hv;let hl:=rel.length;let#[o,ho,oc,_]:=id iv
 have col:∀(A':Af) (E':Aa->Ab->Prop) (Rr:aj->Ab->Prop),A'.handled=none->(∀ws s1,(Inv X pins σ H s1/\Vals (kvs.map (·.2)) ws)->Rr ws s1)->wpAny (model X.prog X.w) A' (collect (.ref v)) Rr E' s:=λA' E' Rr hh q=>by
  apply kdu_collect (kdl_values (knd:=fq X.prog X.w) (kvs:=vs) (ep:=ep)) hh #[iv,dat] Z1 λh' tk acc k a=>q _ _ #[I.kept k,?_];have a':ItemsOf (λi v=>∃k,vs[i]? = some (k,v)) acc (kvs.map (·.2)).length:=by rw[ao,hl];exact a
  apply IY a' λj v ⟨k,e⟩ y hy=>?_;rw[dG] at hy;cases e3:kvs[j]? with
  |none=>rw[e3] at hy;cases hy
  |some kv=>
   rw[e3] at hy;let#[u,hu,ru]:=LB rel j (k:=kv.1) (x:=kv.2) e3;rw[e] at hu;let hu:=cq hu;have g2:v=u:=eF Prod.snd hu;cases (cq hy:kv.2=y);rw[g2];exact ru
 apply callType_newIn F.called_tuple (by decide) (F.typeCall_tuple_1 _) (F.newCall_tuple_1 _) (λobj=>F.args_object_init_2 obj _) F.entry_tuple_new
  (cY_ v o oc λws s1=>Inv X pins σ H s1/\Vals (kvs.map (·.2)) ws) #[ho,I.ok.hd hc,col,λws s1 ⟨I1,r1⟩=>#[?_,#[_,cw _ U,U],?_]]
 ·rw[<- r1.length,ao];exact z
 exact#[.ref s1.heap.objs.size,_,I1.laid (t':=s1.toks) (λb o e=>aS _ e) (a_ _) (show fA X.prog X.w _ _ _ (.tup (kvs.map (·.2))) from #[by rw[ao];exact z,ws,r1,IsTup.new _ _,_,cw _ U,U]),U,q _ (I1.ax.fresh (a_ _))]
theorem _s{A:Af}{E:Aa->Ab->Prop}{s:Ab}{t b:Addr}{ws:aj}{Q:Aa->Ab->Prop}(ht:IsTup s.heap t #[])(hb:IsTup s.heap b ws.toArray)(h:Q (.ref b) s):wpAny (model prog w) A (binaryOp .Add (.ref t) (.ref b)) Q E s:=by
 let#[#[cls,dd,data,sl],ho,hc,n,hd]:=id ht;let#[#[NF,H_,data2,F_],fw,ki,n2,hd2]:=id hb;simp only at hc hd ki hd2;subst hc hd ki hd2;exact concat_meets #[_,ho,U] #[_,fw,U] noFill_tuple_add seq_tuple_add PySem.F.slot_tuple_add PySem.F.entry_tuple_add (PySem.F.args_tuple_add_2 _ _) (tuple_addW0 t b #[] ws.toArray n n2 dd H_ sl F_ U) #[ho,fw,h]
inductive xh (x:V) (y:V) (H:Hp) (Q:VK):Prop
 |mk:∀a b xs ys,x=.ref a->y=.ref b->H a\.tup xs->H b\.tup ys->xs.length+ys.length<=sizeLine->(∀p H',aa H H'->H' p\.tup (xs++ys)->Q (.ref p) H')->xh x y H Q
theorem HS:dO X (binaryOp .Add) xh:=by
 intro pins s σ H x y v u Q I rx ry h;let#[a,b,xs,ys,rfl,rfl,ha,hb,hz,q]:=h;cases rx;cases ry;let#[its,r1,p1,_]:=I.tuple (.of ha);let#[ig,r2,p2,_]:=I.tuple (.of hb);by_cases z:its=[]
 ·subst z;let e:=r1.nK.mp rfl;exact _s p1 p2 ⟨.ref b,H,I,rfl,q _ _ (aa.refl H) (by rw[e];exact hb)⟩
 apply HT.vZ p1 p2 z (λz2=>⟨.ref a,H,I,rfl,q _ _ (aa.refl H) ?_⟩) (λz2=>?_) (by rw[<- r1.length,<- r2.length];exact hz)
 ·rw[r2.nK.mp z2,List.append_nil];exact ha
 apply⟨.ref s.heap.objs.size,_,I.laid (t':=s.toks) (o:=.tup (xs++ys)) (λb ob q=>aS _ q) (a_ _) ?_,rfl,q _ _ (aa.new (I.ax.fresh (a_ _))) ay⟩;exact⟨by rw[eI];exact hz,_,r1.append r2,IsTup.new _ _,_,cw _ rfl,rfl⟩
end L2
namespace hW
open PySem PySem.W PyProof.Rows
variable{prog:Ad}{w:Ag}
theorem fQ_(d:Addr)(es:Array DictEntry)(ep:Nat)(hd:(d == sysModules)=false):MeetsIn prog w (Builtin.«dict.__len__» ⟨[.ref d],[]⟩) (λ_ R s=>Raw s.heap d es ep/\R (.ok (.ret (.int es.size s.toks))) { s with toks:=s.toks+1 }):=
 .of_wp λA R s ⟨hm,h⟩=>by
  let#[o,ho,hc,jA]:=hm;apply (show wpAny _ _ (dictSize d >>= _) _ _ s from ?_);unfold dictSize;apply ae (ae (wpAny_dictEntries ho jA (aB ?_)));apply (show wpAny _ _ (Builtin.Dict.pendingCount d >>= _) _ _ s from ae (wpAny_pendingCount_other hd ?_));apply wpAny_ret_mkInt ?_;rw[Nat.add_zero];exact h
theorem gc_{A:Af}{E:Aa->Ab->Prop}{s:Ab}{d:Addr}{es:Array DictEntry}{ep:Nat}{Q:Aa->Ab->Prop}(hd:(d == sysModules)=false)(hm:Raw s.heap d es ep)(hfit:(es.size:Int)<2 ^ 63)(h:Q (.int es.size (s.toks+1)) { s with toks:=s.toks+1+1 }):wpAny (model prog w) A (call (.builtin "len") [.ref d]) Q E s:=by
 apply Calls.call_function_entry kind_len plain_len entry_len (args_len1 _) ?_;unfold Builtin.«len»;apply ae (m:=oneArg "len" _) (aB ?_);apply ae (m:=callSpecial? (.ref d) (Str.ofString "__len__")) (uq (name:=Str.ofString "__len__") hm.ty F.slot_dict_len (call_meetsIn F.slot_dict_len hm.ty F.entry_dict_len (F.args_dict_len_1 _) (fQ_ d es ep hd) #[hm,?_]));apply (show wpAny _ _ _ _ _ { s with toks:=s.toks+1 } from ae (iI (aB ?_)));apply ae (wpAny_letGo ?_);apply (show wpAny _ _ (if ((es.size:Nat):Int)<0 then _ else _) _ _ _ from ?_);rw[aA Z1];apply (show wpAny _ _ (if ((es.size:Nat):Int) ≥ 2 ^ 63 then _ else _) _ _ _ from ?_);rw[aA Z1];exact ae (wpAny_mkInt (aB #[_,U,h]))
end hW
namespace L2
open PySem PySem.Spec PyProof.Rows PySem.W hW
inductive UB (xs:ag) (H:Hp) (Q:VK):Prop
 |mk:∀a kvs,xs=[V.ref a]->H a\.dT kvs->Q (.int kvs.length) H->UB xs H Q
theorem T6{X:Cx}:gE X (.builtin "len") UB:=by
 intro pins s σ H xs us Q I r h;let#[a,kvs,rfl,ha,q]:=h;let#[u,rfl,ru]:=vals1 r;cases ru;let#[z,hd,xs,rel,o,es,ep,ho,hc,jA,vJ,nd]:=I.ax a _ ha
 have l1:es.size=xs.length:=by
  have:=eF List.length vJ;simpa using this
 let l2:=bj rel;let sz:=cU;apply gc_ (es:=es) (ep:=ep) hd ⟨o,ho,hc,jA⟩ Z1 ⟨.int kvs.length,H,I.tok _,⟨_,by rw[l2,<- l1]⟩,q⟩
end L2
namespace Ev
open PySem L2
abbrev ak:=af
def sK(s:ak):aC:=s.map Sum.inr
abbrev sV(s:ak):ag:=s.map V.str
theorem qZ(s:ak):(sK s).map kV=sV s:=by
 unfold sK;rw[cY];rfl
variable{a:ak}
theorem K6{b:ak}(h:sK a=sK b):a=b:=by
 unfold sK at h;exact List.map_inj_right (λx y e=>iu e) |>.mp h
inductive Wk (N:ak->ak->Prop) (s0:ak):Nat->ak->Prop
 |z:Wk N s0 0 s0
 |s {k:Nat} {a b:ak}:Wk N s0 k a->N a b->Wk N s0 (k+1) b
def Ds(N:ak->ak->Prop)(s0:ak)(k:Nat)(s:ak):Prop:=Wk N s0 k s/\∀j,j<k->¬Wk N s0 j s
variable{N:ak->ak->Prop}{s0:ak}
theorem Wk.ds:∀{k:Nat} {s:ak},Wk N s0 k s->∃j,j<=k/\Ds N s0 j s:=λ{k s} h=>by
 induction k using Nat.strongRecOn with
 |_ k ih=>
  by_cases c:∃j,j<k/\Wk N s0 j s
  ·let#[j,hj,hw]:=c;let#[i,hi,d]:=ih j hj hw;exact#[i,by omega,d]
  exact#[k,a_ _,h,λj hj hw=>c #[j,hj,hw]]
variable{s:ak}
theorem Ds.prev{k:Nat}(h:Ds N s0 (k+1) s):∃a,Ds N s0 k a/\N a s:=by
 let#[hw,hn]:=h;cases hw with
 |@s _ a _ ha xI=>exact#[a,#[ha,λj hj hw=>hn (j+1) Z1 (.s hw xI)],xI]
theorem Ds.down:∀{k:Nat} {s:ak},Ds N s0 k s->∀i,i<=k->∃t,Ds N s0 i t
 |0,s,h,i,hi=>#[s,by rw[show i=0 by omega];exact h]
 |k+1,s,h,i,hi=>by
  by_cases c:i=k+1
  ·exact#[s,by rw[c];exact h]
  let#[a,ha,_]:=h.prev;exact ha.down i Z1
variable{j:Nat}
theorem Ds.inj{k:Nat}(h:Ds N s0 j s)(h2:Ds N s0 k s):j=k:=by
 rcases Nat.lt_trichotomy j k with c|c|c
 ·exact absurd h.1 (h2.2 j c)
 ·exact c
 exact absurd h2.1 (h.2 k c)
structure Bf (N:ak->ak->Prop) (s0:ak) (k:Nat) (ks nw:List ak):Prop where
 nd:ks.Nodup
 nn:nw.Nodup
 all:∀s,s∈ks ↔ ∃j,j<=k/\Wk N s0 j s
 new:∀s,s∈nw ↔ Ds N s0 k s
structure Wd (old seen ks fd:List ak):Prop where
 nd:ks.Nodup
 nf:fd.Nodup
 all:∀s,s∈ks ↔ s∈old∨s∈seen
 new:∀s,s∈fd ↔ s∈seen/\s∉old
variable{old:List ak}
theorem Wd.start(nd:old.Nodup):Wd old [] old []:=#[nd,.nil,by simp,by simp]
variable{fd ks seen:List ak}
theorem Wd.skip(h:Wd old seen ks fd)(ha:a∈ks):Wd old (seen++[a]) ks fd:=by
 apply#[h.nd,h.nf,λs=>?_,λs=>?_]
 ·rw[h.all,dN,eg];apply#[λx=>x.imp id .inl,λx=>?_];rcases x with x|x|rfl
  ·exact .inl x
  ·exact .inr x
  exact (h.all _).mp ha
 rw[h.new,dN,eg];apply#[λ⟨x,y⟩=>#[.inl x,y],λ⟨x,y⟩=>#[?_,y]];rcases x with x|rfl
 ·exact x
 exact ((h.all _).mp ha).resolve_left y
theorem Wd.add(h:Wd old seen ks fd)(ha:a∉ks):Wd old (seen++[a]) (ks++[a]) (fd++[a]):=by
 have no:a∉old:=λx=>ha ((h.all _).mpr (.inl x));have nf:a∉fd:=λx=>ha ((h.all _).mpr (.inr ((h.new _).mp x).1));apply#[?_,?_,λs=>?_,λs=>?_]
 ·rw[List.nodup_append];exact#[h.nd,by simp,λx hx y hy e=>ha (by rw[<- eg.mp hy,<- e];exact hx)]
 ·rw[List.nodup_append];exact#[h.nf,by simp,λx hx y hy e=>nf (by rw[<- eg.mp hy,<- e];exact hx)]
 ·rw[dN,dN,h.all];constructor
  ·rintro ((x|x)|x)
   ·exact .inl x
   ·exact .inr (.inl x)
   exact .inr (.inr x)
  rintro (x|x|x)
  ·exact .inl (.inl x)
  ·exact .inl (.inr x)
  exact .inr x
 rw[dN,dN,h.new,eg];constructor
 ·rintro (⟨x,y⟩|rfl)
  ·exact#[.inl x,y]
  exact#[.inr U,no]
 rintro⟨x|x,y⟩
 ·exact .inl #[x,y]
 exact .inr x
theorem Bf.start:Bf N s0 0 [s0] [s0]:=by
 have w0:∀s,Wk N s0 0 s ↔ s=s0:=λs=>#[λh=>by cases h;rfl,λh=>by rw[h];exact .z];apply#[by simp,by simp,λs=>?_,λs=>?_]
 ·rw[eg,<- w0];exact#[λh=>#[0,a_ _,h],λ⟨j,hj,h⟩=>by rw[show j=0 by omega] at h;exact h]
 rw[eg,<- w0];exact#[λh=>#[h,λj hj=>by omega],λh=>h.1]
theorem Bf.next{k:Nat}{nw iQ:List ak}(B:Bf N s0 k ks nw)(W:Wd ks seen iQ fd)(hs:∀s,s∈seen ↔ ∃a∈nw,N a s):Bf N s0 (k+1) iQ fd:=by
 have key:∀s,Wk N s0 (k+1) s->(∃j,j<=k/\Wk N s0 j s)∨s∈seen:=λs h=>by
  cases h with
  |@s _ a _ ha xI=>
   by_cases c:∃j,j<k/\Wk N s0 j a
   ·let#[j,hj,hw]:=c;exact .inl #[j+1,by omega,.s hw xI]
   exact .inr ((hs s).mpr #[a,(B.new a).mpr #[ha,λj hj hw=>c #[j,hj,hw]],xI])
 have sw:∀s,s∈seen->Wk N s0 (k+1) s:=λs h=>by
  let#[a,ha,hn]:=(hs s).mp h;exact .s ((B.new a).mp ha).1 hn
 apply#[W.nd,W.nf,λs=>?_,λs=>?_]
 ·rw[W.all,B.all];constructor
  ·rintro (⟨j,hj,h⟩|h)
   ·exact#[j,by omega,h]
   exact#[k+1,a_ _,sw s h]
  rintro⟨j,hj,h⟩;by_cases c:j=k+1
  ·rw[c] at h;exact key s h
  exact .inl #[j,by omega,h]
 rw[W.new,B.all];constructor
 ·rintro⟨h,n⟩;exact#[sw s h,λj hj hw=>n #[j,by omega,hw]]
 rintro⟨h,n⟩;have no:¬∃j,j<=k/\Wk N s0 j s:=λ⟨j,hj,hw⟩=>n j Z1 hw;exact#[(key s h).resolve_left no,no]
theorem Bf.last{k:Nat}(B:Bf N s0 k ks [])(h:Ds N s0 j s):j<k:=by
 by_cases c:j<k
 ·exact c
 let#[t,ht]:=h.down k Z1;exact absurd ((B.new t).mpr ht) Z2
def pe(ns:af):Nat->List ak
 |0=>[[]]
 |n+1=>ns.flatMap λh=>(pe ns n).map (h::·)
theorem Td(ns:af):∀n,(pe ns n).length=ns.length ^ n
 |0=>rfl
 |n+1=>by
  unfold pe;rw[List.length_flatMap];have:(ns.map λh=>((pe ns n).map (h::·)).length)=ns.map λ_=>ns.length ^ n:=uI λh _=>by rw[ao,Td ns n]
  rw[this,List.map_const',List.sum_replicate_nat,Nat.pow_succ,Nat.mul_comm]
theorem S8{ns:af}:∀{n:Nat} {s:ak},s.length=n->(∀h∈s,h∈ns)->s∈pe ns n
 |0,s,e,_=>by rw[List.length_eq_zero_iff.mp e];exact eg.mpr U
 |n+1,[],e,_=>by cases e
 |n+1,h::s,e,hm=>by
  unfold pe;rw[List.mem_flatMap];exact#[h,hm h Z2,br.mpr #[s,S8 ⇑e (λx hx=>hm x (by simp[hx])),U]]
variable{ns:af}
theorem BI{n:Nat}{l:List ak}(nd:l.Nodup)(h:∀s∈l,s.length=n/\∀x∈s,x∈ns):l.length<=ns.length ^ n:=by
 rw[<- Td];exact List.Nodup.length_le_of_subset nd λs hs=>S8 (h s hs).1 (h s hs).2
def sP(hs:Xa)(ts:Xb)(q:Pc)(h:Str):af:=(near (aN hs) (bQ ts) h).filter λo=>Bg hs ts q.2.2 (some h) (some o)
structure Mv (hs:Xa) (ts:Xb) (qs:aM) (a b:ak) (m:Str × Str × Str):Prop where
 ex:∃(k:Nat) (q:Pc) (h h':Str),qs[k]? = some q/\a[k]? = some h/\h'∈sP hs ts q h/\b=a.set k h'/\m=(q.1,h,h')
def Nx(hs:Xa)(ts:Xb)(qs:aM)(a b:ak):Prop:=∃m,Mv hs ts qs a b m
structure Vs (hs:Xa) (qs:aM) (a:ak):Prop where
 len:a.length=qs.length
 fV:∀h∈a,h∈aN hs
theorem Nx.vs{hs:Xa}{ts:Xb}{qs:aM}{b:ak}(h:Nx hs ts qs a b)(v:Vs hs qs a):Vs hs qs b:=by
 let#[m,k,q,x,y,h1,h2,h3,rfl,_]:=h;apply#[by rw[List.length_set];exact v.len,λz hz=>?_];rcases List.mem_or_eq_of_mem_set hz with h|rfl
 ·exact v.fV z h
 exact (mF.mp (mF.mp h3).1).1
theorem Wk.vs{hs:Xa}{ts:Xb}{qs:aM}(v:Vs hs qs s0):∀{k:Nat} {s:ak},Wk (Nx hs ts qs) s0 k s->Vs hs qs s:=λh=>by
 induction h with
 |z=>exact v
 |s _ n ih=>exact n.vs ih
inductive AQ (hs:Xa) (ts:Xb) (qs:aM):ak->List (Str × Str × Str)->ak->Prop
 |nil {a:ak}:AQ hs ts qs a [] a
 |cons {a b c:ak} {m:Str × Str × Str} {ms:List (Str × Str × Str)}:Mv hs ts qs a b m->AQ hs ts qs b ms c->AQ hs ts qs a (m::ms) c
def Ml(hs:Xa)(qs:aM)(f:bg)(a b:Int):Prop:=∀x∈aN hs,∀y∈aN hs,b * (dZ hs qs f x - dZ hs qs f y)<=a * bP hs
variable{a b r:Int}
theorem Sg{hs:Xa}{qs:aM}{f:bg}(R:jI hs qs f r)(hb:0<b):Ml hs qs f a b ↔ b * r<=a * bP hs:=by
 let#[x,hx,y,hy,rfl,up]:=R;constructor
 ·exact λh=>h x hx y hy
 intro h z hz u hu;let h1:=(up z hz).1;let h2:=(up u hu).2;have:b * (dZ hs qs f z - dZ hs qs f u)<=b * (dZ hs qs f x - dZ hs qs f y):=FN Z1 Z1;omega
theorem hG_{M:Int}(hr:0<=r)(hM:0<M):a * (fr r M).2<(fr r M).1 * b ↔ a * M<r * b:=by
 have g0:0<(Int.gcd r M:Int):=by
  have:Int.gcd r M≠0:=λe=>by
   have:=Int.gcd_eq_zero_iff.mp e;omega
  omega
 have e1:(fr r M).1 * (Int.gcd r M:Int)=r:=Int.ediv_mul_cancel (Int.gcd_dvd_left ..);have e2:(fr r M).2 * (Int.gcd r M:Int)=M:=Int.ediv_mul_cancel (Int.gcd_dvd_right ..);have h1:a * (fr r M).2 * (Int.gcd r M:Int)=a * M:=by rw[Int.mul_assoc,e2]
 have h2:(fr r M).1 * b * (Int.gcd r M:Int)=r * b:=by rw[Int.mul_right_comm,e1]
 rw[<- h1,<- h2];exact#[λh=>Int.mul_lt_mul_of_pos_right h g0,λh=>Int.lt_of_mul_lt_mul_right h (gO g0)]
def zY(ns:af)(s:ak):bg:=λn=>((ns.zip s).lookup n).getD n
theorem G5(nd:ns.Nodup){k:Nat}{n h:Str}(hn:ns[k]? = some n)(hh:s[k]? = some h):zY ns s n=h:=by
 unfold zY
 have:(ns.zip s).lookup n\h:=by
  induction ns generalizing s k with
  |nil=>cases hn
  |cons m ns ih=>
   cases s with
   |nil=>cases hh
   |cons x s=>
    cases k with
    |zero=>
     cases cq hn;cases cq hh;simp[List.lookup]
    |succ k=>
     have hn:ns[k]? = some n:=⇑hn
     have hh:s[k]? = some h:=⇑hh
     have ne:(n == m)=false:=by
      rw[beq_eq_false_iff_ne];intro e;subst e;exact (jk.mp nd).1 (cy hn)
     rw[List.zip_cons_cons,p9,ne];exact ih (jk.mp nd).2 hn hh
 rw[this];rfl
theorem QE(nd:ns.Nodup)(hl:s.length=ns.length):((ns.zip (sV s)).map λp=>((Sum.inr p.1:Key),p.2))=ft ns (zY ns s):=by
 apply List.ext_getElem? ?_;intro k;unfold ft d9;rw[dG,dG];by_cases c:k<ns.length
 ·have h1:ns[k]? = some ns[k]:=aX c;have h2:s[k]? = some (s[k]' Z1):=aX Z1
  have h3:(ns.zip (sV s))[k]? = some (ns[k],V.str (s[k]' Z1)):=by
   rw[List.getElem?_zip_eq_some];exact#[h1,by rw[dG,h2];rfl]
  rw[h3,h1,Option.map_some,Option.map_some];dsimp only;rw[G5 nd h1 h2]
 rw[List.getElem?_eq_none (by rw[List.length_zip];omega),List.getElem?_eq_none Z1];rfl
end Ev
namespace L2
open PySem PySem.Spec PyProof.Rows PySem.W
theorem SE{i:Int}(h:-(2 ^ 250)<i/\i<2 ^ 250):Builtin.Int.intBits i<=250:=by
 rw[intBits_le_iff];omega
def FY(i j:Int):Prop:=(-(2 ^ 250)<i/\i<2 ^ 250)/\(-(2 ^ 250)<j/\j<2 ^ 250)
theorem Si{X:Cx}:dO X (binaryOp .Mult) (rI FY λi j=>.int (i * j)):=A5 λi j _ _ _ _ _ hc q=>mul_int q (by
 let h1:=SE hc.1;let h2:=SE hc.2;let e:=bitsLine_eq;unfold IntMulOk Builtin.Int.intTooBig;have z:¬((Builtin.Int.intBits i:Int)+(Builtin.Int.intBits j:Int) > (bitsLine:Int)):=by omega
 simp[z])
end L2
namespace Ev
open PySem L2
variable{f0:Addr}{fd:Ae}
section v
theorem qB:bN Bl Bl (a9 Nm):=bT
def Ip:Sp:=λvs H Q _=>∃i a:Int,vs=[.int i,.int a]/\Q (.bl (decide (a<=i))) H
theorem g0_(F:bC K "is_whole_from" "is_whole_from" Nm f0 fd)(cI:!bx 1 "is_whole" gf nh):!au bh 2 f0 fd Bl Ip:=by
 exists F.bS qB;let#[i,a,rfl,k]:=h;apply#[_,aE (bu (tq (bc cI hr %[0|0]) (uF (wk vR (pv 1) (pv 0))))),?_];exact#[_,U,i,U,_,U,dD #[_,U,_,U,_,_,U,U,k]]
structure vU (l:Int × Int):Prop where
 b1:1<=l.2
 b2:l.2<2 ^ 200
 a1:-(2 ^ 200)<l.1
 a2:l.1<2 ^ 200
 g:Int.gcd l.1 l.2=1
abbrev hU(H:Hp)(t:Addr)(x:Int × Int):Prop:=H t=some (.tup [.int x.1,.int x.2])
theorem yJ:bN gf gf (a9 q_):=bT
def qw:Sp:=λvs H Q _=>∃(t:Addr) (l:Int × Int),vs=[.ref t]/\hU H t l/\vU l/\Q (.bl true) H
theorem YO{f:Addr}(F:bC K "is_fraction" "is_fraction" q_ f fd)(B:Bi mg)(Kt:mg "abs"=none)(cI:!bx 1 "is_whole" gf nh)(cF:!bx 2 "is_whole_from" Bl Ip)(cG:!bx 1 Bm mw uX):!au bh 3 f fd gf qw:=by
 exists F.bS yJ;let#[t,l,rfl,ht,lo,k]:=h;refine' #[_,av ?s1 (av ?s2 (aE ?s3)),?kk]
 case s1=>exact b_ (sX (fh (eZ (cZ mG (by rfl) B.ka kr %[0,mC (v:=.ty "tuple") (by rfl) B.tuple wx U|0]))) (uH (fg s_ (cZ h_ (by rfl) B.len gF %[0|0]) aD))).pt (aE (bu gG)) cg
 case s2=>exact b_ (sX (fh (eZ (bc cI hr %[bw cu (pv 0) aD|0]))) (uH (fh (eZ (bc cF hr %[bw cu (pv 0) aD,aD|0]))))).pt (aE (bu gG)) cg
 case s3=>exact bu (wk Ew (bc cG hr %[cZ hE_ (by rfl) Kt PyProof.Rows.Boot.«abs» %[bw cu (pv 0) aD|0],bw cu (pv 0) aD|0]) aD)
 apply#[_,U,_,_,_,_,U,.tup ht,U,_,U,aL ?_];apply#[_,U,t,_,U,.inr (.of ht),U,_,U,?_];apply An (show V.int ((2:Nat):Int)=V.int 2 from U) ?_;apply#[_,U,t,_,_,_,U,U,.of ht,U,l.1,U,_,U,aL ?_];apply#[_,U,t,_,_,_,U,U,.of ht,U,l.2,1,U,_,U,?_];rw[cz lo.b1];apply aL ?_;apply#[_,U,t,_,_,_,U,U,.of ht,U,l.1,U,_,U,t,_,_,_,U,U,.of ht,U,_,l.2,U,?_,lo.b1,?_]
 ·split<;>omega
 have e:Int.gcd (if l.1<0 then -l.1 else l.1) l.2=1:=by
  split
  ·rw[Int.neg_gcd];exact lo.g
  exact lo.g
 rw[e];exact#[U,k]
theorem yH:bN mw mw (a9 qX):=bT
def Sm(x:Int × Int):Prop:=(-(2 ^ 250)<x.1/\x.1<2 ^ 250)/\(-(2 ^ 250)<x.2/\x.2<2 ^ 250)
inductive kU (vs:ag) (H:Hp) (Q:VK) (E:XK):Prop
 |mk:∀(t u:Addr) (x y:Int × Int),vs=[.ref t,.ref u]->hU H t x->hU H u y->Sm x->Sm y->Q (.bl (decide (x.1 * y.2<y.1 * x.2))) H->kU vs H Q E
theorem _i{f:Addr}(F:bC K "is_less" "is_less" qX f fd):!au bh 1 f fd mw kU:=by
 exists F.bS yH;let#[t,u,x,y,rfl,ht,hu,sx,sy,k]:=h;refine' #[_,aE ?s1,?kk]
 case s1=>exact bu (wk Qr (bJ Si (bw cu (pv 0) aD) (bw cu (pv 1) aD)) (bJ Si (bw cu (pv 1) aD) (bw cu (pv 0) aD)))
 apply#[_,U,t,_,_,_,U,U,.of ht,U,_,U,u,_,_,_,U,U,.of hu,U,_,_,U,U,#[sx.1,sy.2],?_];exact#[_,U,u,_,_,_,U,U,.of hu,U,_,U,t,_,_,_,U,U,.of ht,U,_,_,U,U,#[sy.1,sx.2],_,_,U,U,k]
theorem yN:bN gf gf (a9 rC):=bT
def qy:Sp:=λvs H Q _=>∃(t:Addr) (l:Int × Int),vs=[.ref t]/\hU H t l/\vU l/\Q .non H
theorem Y_{f:Addr}(F:bC K "check_limit" "check_limit" rC f fd)(cF:!bx 3 "is_fraction" gf qw):!au bh 4 f fd gf qy:=by
 exists F.bS yN;let#[t,l,rfl,ht,lo,k]:=h;apply#[_,aE (b_ (fh (eZ (bc cF hr %[0|0]))) gi cg),?_];exact#[_,U,t,l,U,ht,lo,_,U,aL k]
structure Gs (K:ai) (CG CW:Addr) (H:Hp) (g p:Addr) (hs:Xa) (ts:Xb) (qs:aM) (fp:aq):Prop where
 G:gy K CG CW H g p hs ts qs fp
 Gd:Good hs ts
 nd:(qs.map (·.1)).Nodup
 cX:qs.length<64
 wp:∀q∈qs,0<=q.2.1/\q.2.1<=1000000000
theorem Gs.same{CG CW:Addr}{H H':Hp}{g p:Addr}{hs:Xa}{ts:Xb}{qs:aM}{fp:aq}(G:Gs K CG CW H g p hs ts qs fp)(s:aa H H'):Gs K CG CW H' g p hs ts qs fp:=#[G.G.same s,G.Gd,G.nd,G.cX,G.wp]
theorem Gs.placed{CG CW:Addr}{H H':Hp}{g p d:Addr}{hs:Xa}{ts:Xb}{qs:aM}{fp:aq}{f:bg}(G:Gs K CG CW H g p hs ts qs fp)(s:aa H H')(hn:H d=none)(hd:H' d\.dK (ft (qs.map (·.1)) f))(at_:∀n∈qs.map (·.1),f n∈hs.map (·.1)):∃ui,BD K CG CW H' g p d hs ts qs ui f:=by
 let#[ui,G',h]:=G.G.slim;apply#[ui,G'.same s,G.Gd,λhm=>?_,hd,at_,G.nd,G.cX];let#[o,e]:=h d hm;rw[hn] at e;cases e
theorem Vs.at_{hs:Xa}{qs:aM}{s:ak}(v:Vs hs qs s)(nd:(qs.map (·.1)).Nodup):∀n∈qs.map (·.1),zY (qs.map (·.1)) s n∈hs.map (·.1):=λn hn=>by
 let#[k,hk,e]:=gH hn;have hl:k<s.length:=by rw[v.len];simpa using hk
 rw[G5 nd (k:=k) (by rw[aX hk,e]) (aX hl)];exact (fD hs).mem_iff.mp (v.fV _ (mI hl))
abbrev fS(qs:aM)(s:ak):bg:=zY (qs.map (·.1)) s
theorem yC:bN ["goods","hands"] ["goods","hands"] (a9 qQ):=bT
inductive Hg (K:ai) (CG CW:Addr) (vs:ag) (H:Hp) (Q:VK) (E:XK):Prop
 |mk:∀(g p t:Addr) (hs:Xa) (ts:Xb) (qs:aM) (fp:aq) (s:ak),vs=[.ref g,.ref t]->Gs K CG CW H g p hs ts qs fp->H t\.tup (sV s)->s.length=qs.length->(∀d H',aa H H'->H d=none->H' d\.dK (ft (qs.map (·.1)) (fS qs s))->Q (.ref d) H')->Hg K CG CW vs H Q E
theorem Zi{f CG CW:Addr}(F:bC K "placed_by" "placed_by" qQ f fd)(B:Bi mg)(mZ:mg "zip"=none)(T:gd K CG)(cN:!bV CG 1 "names" o7 (BH K CG CW)):!au bh 2 f fd ["goods","hands"] (Hg K CG CW):=by
 exists F.bS yC;let#[g,p,t,hs,ts,qs,fp,s,rfl,G,ht,hl,k]:=h;let cX:=G.cX;apply#[_,aE (bu (fS_ (by rfl) B.dict (by rfl) mZ %[Ar cN T.cl (hr.mono (by decide)) (pv 0),1|0])),?_];let#[dx,dw,dy,vs,dc,h1,_]:=id G.G.ex;apply#[_,U,g,dx,_,U,h1,wz _ _ _ Z0 Z0 Z0,g,p,hs,ts,qs,fp,U,G.G,λl eX=>?_];let#[s1,e1]:=aH (o:=.lst ((qs.map (·.1)).map V.str)) eX;generalize upd H l (.lst ((qs.map (·.1)).map V.str))=H1 at s1 e1 ⊢;apply#[_,U,l,t,qs.map (·.1),sV s,U,.of e1,.of (s1 _ _ ht),by rw[ao,ao];exact hl,by rw[ao];omega,λd hd=>?_];rw[QE G.nd (by rw[ao];exact hl)]
 have nM:((ft (qs.map (·.1)) (fS qs s)).map (·.1)).Nodup:=by
  rw[BK,qa,wD];exact G.nd.imp λn e=>n (iu e)
 rw[xZ nM];exact k d _ (s1.trans (aa.new hd)) (s1.free hd) ay
theorem HW{hs:Xa}{ts:Xb}{qs:aM}{f:bg}{r:Int}(G:Good hs ts)(wp:∀q∈qs,0<=q.2.1/\q.2.1<=1000000000)(cX:qs.length<64)(R:jI hs qs f r):0<=r/\r<2 ^ 140:=by
 let#[x,hx,y,hy,rfl,up]:=R;let h1:=(up y hy).1;let h2:=Yp G wp cX (f:=f) hy
 have h3:dZ hs qs f x<=64000000000 * bP hs:=by
  unfold dZ;let l1:=Bh wp cX f x;let mo:=tw G;let so:=wo G hx;have q:bP hs / strOf hs x<=bP hs:=Int.ediv_le_self _ (gO mo.1);have q0:0<=bP hs / strOf hs x:=Int.ediv_nonneg (gO mo.1) Z1;exact Int.le_trans (FN q l1.1) (BO l1.2 (gO mo.1))
 let mo:=tw G;omega
theorem Qw{r M:Int}(hr:0<=r)(iR:r<2 ^ 140)(hM:0<M)(hM2:M<2 ^ 100):0<=(fr r M).1/\(fr r M).1<2 ^ 140/\1<=(fr r M).2/\(fr r M).2<2 ^ 100/\Int.gcd (fr r M).1 (fr r M).2=1:=by
 have g0:0<Int.gcd r M:=by
  rcases Nat.eq_zero_or_pos (Int.gcd r M) with e|e
  ·have:=Int.gcd_eq_zero_iff.mp e;omega
  exact e
 have g1:0<(Int.gcd r M:Int):=by omega
 have e2:(fr r M).2 * (Int.gcd r M:Int)=M:=Int.ediv_mul_cancel (Int.gcd_dvd_right ..);have p1:0<=(fr r M).1:=Int.ediv_nonneg hr (gO g1);have p2:(fr r M).1<=r:=Int.ediv_le_self _ hr;have p3:(fr r M).2<=M:=Int.ediv_le_self _ (gO hM)
 have p4:1<=(fr r M).2:=by
  by_cases c:1<=(fr r M).2
  ·exact c
  have:(fr r M).2 * (Int.gcd r M:Int)<=0 * (Int.gcd r M:Int):=BO Z1 (gO g1);omega
 exact#[p1,by omega,p4,by omega,Int.gcd_ediv_gcd_ediv_gcd g0]
noncomputable def je (hs:Xa) (qs:aM) (s:ak) (l:Int × Int):Bool:=@decide (Ml hs qs (fS qs s) l.1 l.2) (Classical.propDecidable _)
theorem ME{hs:Xa}{qs:aM}{s:ak}{l:Int × Int}:je hs qs s l=true ↔ Ml hs qs (fS qs s) l.1 l.2:=by
 unfold je;exact @decide_eq_true_iff _ (Classical.propDecidable _)
theorem qG:bN oz oz (a9 Nc):=bT
inductive Og (K:ai) (CG CW:Addr) (vs:ag) (H:Hp) (Q:VK) (E:XK):Prop
 |mk:∀(g p t lt:Addr) (hs:Xa) (ts:Xb) (qs:aM) (fp:aq) (s:ak) (l:Int × Int),vs=[.ref g,.ref t,.ref lt]->Gs K CG CW H g p hs ts qs fp->H t\.tup (sV s)->Vs hs qs s->hU H lt l->vU l->(∀H',aa H H'->Q (.bl (je hs qs s l)) H')->Og K CG CW vs H Q E
theorem hj_{f CG CW:Addr}(F:bC K "is_even" "is_even" Nc f fd)(cL:!bx 1 "is_less" mw kU)(cS:!bx 6 "spread_at" oo (NH K CG CW))(cP:!bx 2 "placed_by" ["goods","hands"] (Hg K CG CW)):!au bh 7 f fd oz (Og K CG CW):=by
 exists F.bS qG;let#[g,p,t,lt,hs,ts,qs,fp,s,l,rfl,G,ht,v,hl,lo,k]:=h;apply#[_,aE (bu (QZ (bc cL hr %[2,bc cS hr %[0,bc cP hr %[0,1|0]|0]|0]))),?_];apply#[_,U,_,U,_,U,_,U,g,p,t,hs,ts,qs,fp,s,U,G,ht,v.len,λd H1 s1 n1 e1=>?_];let#[G0,Pl]:=G.placed s1 n1 e1 (v.at_ G.nd);apply#[g,p,d,hs,ts,qs,G0,fS qs s,U,Pl,G.wp,λu r H2 s2 R e2=>?_];let rl:=HW G.Gd G.wp G.cX R;let mo:=tw G.Gd;let fb:=Qw rl.1 rl.2 mo.1 mo.2.1;apply#[lt,u,l,fr r (bP hs),U,s2 _ _ (s1 _ _ hl),e2,?_,?_,?_]
 ·have:=lo.a1;have:=lo.a2;have:=lo.b1;have:=lo.b2;exact#[#[by omega,by omega],by omega,by omega]
 ·exact#[#[by omega,by omega],by omega,by omega]
 let kk:=k H2 (s1.trans s2)
 have e:(!decide (l.1 * (fr r (bP hs)).2<(fr r (bP hs)).1 * l.2))=je hs qs s l:=by
  rw[Bool.eq_iff_iff,ME,Sg R (by have:=lo.b1;omega),Bool.not_eq_true',decide_eq_false_iff_not,hG_ rl.1 mo.1,Int.not_lt,Int.mul_comm]
 apply#[_,U,?_];rw[e];exact kk
end
structure BW (H:Hp) (d:Addr) (hs:Xa) (ts:Xb) (ns:af) (q:Pc) (ad:Str->Addr):Prop where
 at_:H d\.dK (d9 ns λh=>.ref (ad h))
 is:∀h∈ns,H (ad h)\.lst ((sP hs ts q h).map V.str)
def FW(H:Hp)(d:Addr)(hs:Xa)(ts:Xb)(q:Pc):Prop:=∃ad,BW H d hs ts (aN hs) q ad
variable{q:Pc}
theorem BW.same{H H':Hp}{d:Addr}{hs:Xa}{ts:Xb}{ns:af}{ad:Str->Addr}(h:BW H d hs ts ns q ad)(s:aa H H'):BW H' d hs ts ns q ad:=#[s _ _ h.at_,λx hx=>s _ _ (h.is x hx)]
theorem FW.same{H H':Hp}{d:Addr}{hs:Xa}{ts:Xb}(h:FW H d hs ts q)(s:aa H H'):FW H' d hs ts q:=by
 let#[ad,h]:=h;exact#[ad,h.same s]
def wH(H:Hp)(l d:Addr)(hs:Xa)(ts:Xb)(q:Pc):Prop:=∃ad,BW H d hs ts (aN hs) q ad/\∀x∈aN hs,ad x≠l
theorem wH.same{H H':Hp}{l d:Addr}{hs:Xa}{ts:Xb}(h:wH H l d hs ts q)(s:aa H H'):wH H' l d hs ts q:=by
 let#[ad,h,n]:=h;exact#[ad,h.same s,n]
def oE(H:Hp)(l:Addr)(hs:Xa)(ts:Xb)(qs:aM):Prop:=∃ds:aq,H l\.lst (ds.map V.ref)/\Paired (λd q=>FW H d hs ts q) ds qs
theorem oE.same{H H':Hp}{l:Addr}{hs:Xa}{ts:Xb}{qs:aM}(h:oE H l hs ts qs)(s:aa H H'):oE H' l hs ts qs:=by
 let#[ds,h1,h2]:=h;exact#[ds,s _ _ h1,Paired.aU h2 λd q x=>x.same s]
section v
theorem Bz:bN ["goods","web","found","piece","exits","one"] ["goods"] (a9 lK):=bT
inductive MK (K:ai) (CG CW:Addr) (vs:ag) (H:Hp) (Q:VK) (E:XK):Prop
 |mk:∀(g p:Addr) (hs:Xa) (ts:Xb) (qs:aM) (fp:aq),vs=[.ref g]->Gs K CG CW H g p hs ts qs fp->(∀l H',aa H H'->H l=none->oE H' l hs ts qs->Q (.ref l) H')->MK K CG CW vs H Q E
theorem hN_{f CG CW CP:Addr}(F:bC K "exits_of" "exits_of" lK f fd)(T:gd K CG)(TW:Txt K mg CW)(cN:!bV CG 1 "names" o7 (BH K CG CW))(cH:!bV CW 1 "hands" o7 (Fp K CW))(cE:!bV CW 2 "neighbours" vW (M3 K CW))(cM:!bV CG 3 "may_go" ["self","piece","one","other"] (kY K CG CW CP)):!au bh 4 f fd ["goods"] (MK K CG CW):=by
 exists F.bS Bz;let#[g,p,hs,ts,qs,fp,rfl,G,k]:=h;let hu:=fN hr;let sz:=cU;let cX:=G.cX;let nl:=G.Gd.gT;let h8:=G.Gd.h8;let rV:=G.Gd.rV;have jb:aO 1 _:=hr.mono (by decide);have iR:aO 2 _:=hr.mono (by decide);have A_:aO 3 _:=hr.mono (by decide);refine' #[_,av ?s1 (av ?s2 (av ?s3 (aE ?s4))),?kk]
 case s1=>exact bo 1 Bz.nd (gc (pv 0) U)
 case s2=>exact bo 2 Bz.nd (fE bF)
 case' s3=>refine' d_ dI U ?i3 ?g3 (av ?b1 (av ?b2 (aE ?b3)))
 case i3=>exact dF (Ar cN T.cl jb (pv 0))
 case g3=>exact cm 3 Bz.nd
 case b1=>exact bo 4 Bz.nd FF
 case' b2=>refine' d_ dI U ?i4 ?g4 (aE ?b4)
 case i4=>exact dF (Ar cH TW.cl jb (pv 1))
 case g4=>exact cm 5 Bz.nd
 case' b4=>refine' uC hu (pv 4) (pv 5) (ku ["other","goods","one","piece"] 1 [0,5,3] (dF (iZ cE TW.cl iR (pv 1) %[5|0])) (λfp s H=>?g5) (λfp s H=>?c5) (λfp s H=>?e5)) U
 case g5=>exact gg (i:=0) (show (["other","goods","one","piece"]:af).Nodup by decide +kernel) U (Or.inl U)
 case c5=>exact HU (eZ (iZ cM T.cl A_ (pv 1) %[3,2,0|0]))
 case e5=>exact pv 0
 case b3=>exact kC (om l_ uD uE tK (pv 2) %[4|0])
 case s4=>exact bu (pv 2)
 let#[dx,dw,dy,vs,dc,h1,h2,_]:=id G.G.ex;have gno:(cK p dw dy).lookup ("names":Str)=none:=wz _ _ _ Z0 Z0 Z0;have gnm:(cK p dw dy).lookup ("may_go":Str)=none:=wz _ _ _ Z0 Z0 Z0;apply#[_,U,g,CG,dx,_,_,U,h1,T.cl,T.nW,xX _ _ _,?_];apply#[zl,λl hl=>?_];let#[s1,e1]:=aH (o:=.lst []) hl;generalize upd H l (.lst [])=H1 at s1 e1 ⊢;apply#[_,U,g,dx,_,U,s1 _ _ h1,gno,g,p,hs,ts,qs,fp,U,G.G.same s1,λln xA=>?_];let#[s2,e2]:=aH (o:=.lst ((qs.map (·.1)).map V.str)) xA;have nln:H ln=none:=s1.free xA;have XH:ln≠l:=(bq e1 xA).symm;let el:=s2 _ _ e1;let i9:=s1.trans s2;generalize upd H1 ln (.lst ((qs.map (·.1)).map V.str))=H2 at s2 e2 el i9 ⊢
 let Iv:bO:=λi σ H'=>∃(v3 v4 v5:aJ) (ds:aq),σ=[some (.ref g),some (.ref p),some (.ref l),v3,v4,v5]/\aa H H'/\H' ln\.lst ((qs.map (·.1)).map V.str)/\H' l\.lst (ds.map V.ref)/\Paired (λd q=>wH H' l d hs ts q) ds (qs.take i)
 apply#[ln,U,#[_,.of e2],gh (K:=K) (a:=ln) (xs:=(qs.map (·.1)).map V.str) Iv #[none,none,none,[],U,i9,e2,el,.nil] (λi σ H' _ ⟨_,_,_,_,_,_,q,_⟩=>.of q) ?_ ?_]
 ·rintro i y σ H3 hy ⟨v3,v4,v5,ds,rfl,eU,e3,uk,pd⟩;let#[n,hn,rfl]:=mz hy;rw[dG,BR] at hn;let#[q,hq,rfl]:=hn;let qm:=cy hq;have hi:i<qs.length:=(bZ.mp hq).1;intro d hd;let s4:=aa.new (o:=.dK []) hd;have e4:upd H3 d (.dK []) d\.dK (d9 [] λh=>.ref d):=ay;have dn:H d=none:=eU.free hd;let pH:=eU.trans s4;let iH:=s4 _ _ uk;let SS:=s4 _ _ e3;let C8:=Paired.aU (G:=λa q=>wH (upd H3 d (.dK [])) l a hs ts q/\a≠d) pd λa q x=>#[x.same s4,by let#[ad,x,_]:=x;exact bq x.at_ hd];have dl:d≠l:=(bq uk hd).symm;have dln:d≠ln:=(bq e3 hd).symm;generalize upd H3 d (.dK [])=H4 at s4 e4 pH iH SS C8 ⊢;let W4:=h2.same pH;let#[l6,d1,l2,d3,wJ,as,ef,w1,_]:=id h2.ex;have Vp:(fo d1 l2 d3).lookup ("hands":Str)=none:=p0 _ _ _ Z0 Z0 Z0;have Vq:(fo d1 l2 d3).lookup ("neighbours":Str)=none:=p0 _ _ _ Z0 Z0 Z0;apply#[_,U,p,l6,_,U,pH _ _ w1,Vp,p,hs,ts,dc,U,W4,λlh eW=>?_];let#[s5,e5]:=aH (o:=.lst ((aN hs).map V.str)) eW;let pG:=pH.trans s5;have Rh:H lh=none:=pH.free eW;have XO:lh≠d:=(bq e4 eW).symm;let Bv:=s5 _ _ e4;let sT:=s5 _ _ iH;let SR:=s5 _ _ SS;let P1:=Paired.aU (G:=λa q=>wH (upd H4 lh (.lst ((aN hs).map V.str))) l a hs ts q/\a≠d) C8 λa q x=>#[x.1.same s5,x.2];generalize upd H4 lh (.lst ((aN hs).map V.str))=H5 at s5 e5 pG Bv sT SR P1 ⊢
  let Iw:bO:=λj σ H'=>∃(v5:aJ) (ad:Str->Addr),σ=[some (.ref g),some (.ref p),some (.ref l),some (.str q.1),some (.ref d),v5]/\aa H H'/\H' ln\.lst ((qs.map (·.1)).map V.str)/\H' l\.lst (ds.map V.ref)/\H' lh\.lst ((aN hs).map V.str)/\Paired (λa q=>wH H' l a hs ts q/\a≠d) ds (qs.take i)/\BW H' d hs ts ((aN hs).take j) q ad/\∀x∈(aN hs).take j,ad x≠l
  apply#[lh,U,#[_,.of e5],gh (K:=K) (a:=lh) (xs:=(aN hs).map V.str) Iw #[_,_,U,pG,SR,sT,e5,P1,#[Bv,by simp],by simp] (λj σ H' _ ⟨_,_,_,_,_,_,z,_⟩=>.of z) ?_ ?_]
  ·rintro j y σ H6 hy ⟨Js,ad,rfl,gq,Mt,uj,e6,Gi,ex,G8⟩;let#[h,hh,rfl]:=mz hy;let hm:=cy hh;have hj:j<(aN hs).length:=(bZ.mp hh).1;let lX:=(fD hs).mem_iff.mp hm;let Ld:=Tc rV hh;let W6:=h2.same gq;apply#[_,U,p,l6,_,U,gq _ _ w1,Vq,_,U,p,h,hs,ts,dc,U,W6,rV,lX,λlx oW=>?_];let#[s7,e7]:=aH (o:=.lst ((near (aN hs) (bQ ts) h).map V.str)) oW;generalize upd H6 lx (.lst ((near (aN hs) (bQ ts) h).map V.str))=H7 at s7 e7 ⊢;have Xd:(near (aN hs) (bQ ts) h).length<=8:=gj (BP ..) Z1;apply#[lx,U,#[_,.of e7],λD hD=>?_];apply kD (own:=1) (fv:=[some (.ref g),some (.str h),some (.str q.1)]) (xs:=(near (aN hs) (bQ ts) h).map V.str) U fX (λi out H'=>aa H7 H'/\H' D\.lst out/\out=(((near (aN hs) (bQ ts) h).take i).filter λo=>Bg hs ts q.2.2 (some h) (some o)).map V.str) #[aa.new hD,ay,U] (λi out H' _ ⟨sm,_,_⟩=>.of (sm _ _ e7)) (λout H8 ⟨sm,hD8,eo⟩=>?_) (λi' y out H' hy ⟨sm,dM,eo⟩=>?_)
   ·rw[ao,eG] at eo;let A2:=s7.trans sm;let E1:=ex.same A2;have Dn:H6 D=none:=s7.free hD;apply#[_,U,_,U,d,_,U,.k (k:=Sum.inr h) E1.at_ (by rw[mB,dR];omega),?_];have Dd:D≠d:=λz=>by rw[z,ex.at_] at Dn;cases Dn
    apply#[_,λx=>if x=h then D else ad x,U,fQ (gq.trans A2) dn,by rw[aw dln.symm];exact A2 _ _ Mt,by rw[aw dl.symm];exact A2 _ _ uj,by rw[aw XO];exact A2 _ _ e6,Paired.aU Gi λa q ⟨⟨OS,x,xl⟩,ne⟩=>#[#[OS,?_,xl],ne],#[?_,λx hx=>?_],λx hx=>?_]
    ·let x:=x.same A2;exact#[by rw[aw ne];exact x.at_,λz hz=>by rw[aw (bK (x.is z hz) E1.at_ (by intro e;cases e))];exact x.is z hz]
    ·rw[ay,uB hh,Sq Ld];exact eF (λz=>some (HO.dK z)) (IK λn _=>by split<;>rfl)
    ·rw[uB hh] at hx;rcases dN.mp hx with hx|hx
     ·have:x≠h:=λe=>Ld (by rw[<- e];exact hx);rw[aA this,aw (bK (E1.is x hx) E1.at_ (by intro e;cases e))];exact E1.is x hx
     rw[eg.mp hx,aI U,aw Dd,hD8,eo];rfl
    rw[uB hh] at hx;rcases dN.mp hx with hx|hx
    ·have:x≠h:=λe=>Ld (by rw[<- e];exact hx);show (if x=h then D else ad x)≠l;rw[aA this];exact G8 x hx
    rw[eg.mp hx];show (if h=h then D else ad h)≠l;rw[aI U];exact λz=>by rw[z,uj] at Dn;cases Dn
   let#[o,ho,rfl]:=mz hy;apply#[_,U,U,λNx hN=>?_];let G':=G.G.same (((gq.trans s7)).trans sm);let oZ:=(gq.trans s7).trans sm _ _ h1;apply#[_,U,g,dx,_,U,oZ,gnm,_,U,_,U,_,U,g,p,.str q.1,.str h,.str o,some q.1,some h,some o,hs,ts,qs,fp,U,G',G.nd,rV,U,.inl #[q,qm,U,U,U,λH9 s9=>#[_,U,?_]]]
   have lo:out.length<=8:=by
    rw[eo,ao];exact gj (BP ..) (gj (by rw[dR];exact Nat.min_le_right ..) Xd)
   apply bY (λc=>?_) (λc=>?_)
   ·apply#[_,U,out,s9 _ _ dM,by omega,hN _ _ #[fQ (sm.trans s9) hD,ay,?_]];rw[IQ _ ho,fe,<- eo];rw[aI c];rfl
   apply hN out _ #[sm.trans s9,s9 _ _ dM,?_];rw[IQ _ ho,fe,<- eo,aA c];simp
  rintro σ H6 ⟨Js,ad,rfl,gq,Mt,uj,e6,Gi,ex,G8⟩;rw[ao,eG] at ex G8;let lp:=bj Gi;rw[dR] at lp;apply#[_,U,.inl #[U,_,.of uj],_,U,l,_,_,U,U,uj,by rw[ao];omega,?_];have pl:∀{a q},wH H6 l a hs ts q->wH (upd H6 l (.lst (ds.map V.ref++[.ref d]))) l a hs ts q:=λ{a q} ⟨OS,x,xl⟩=>#[OS,#[by rw[aw (bK x.at_ uj (by intro e;cases e))];exact x.at_,λz hz=>by rw[aw (xl z hz)];exact x.is z hz],xl];apply#[_,_,_,ds++[d],U,fQ gq hl,by rw[aw XH];exact Mt,?_,?_]
  ·rw[ay,fe];rfl
  rw[kz,hq];exact gR (Paired.aU Gi λa q x=>pl x.1) (.cons (pl #[ad,ex,G8]) .nil)
 rintro σ H3 ⟨v3,v4,v5,ds,rfl,eU,e3,uk,pd⟩;rw[ao,ao,eG] at pd;exact#[_,U,k l H3 eU hl #[ds,uk,Paired.aU pd λa q ⟨ad,x,_⟩=>#[ad,x]]]
end
abbrev lC:Stmt:=l9 Ie 0
abbrev lu:Stmt:=l9 Ie 1
abbrev M_:Stmt:=l9 Ie 2
abbrev qP:Stmt:=l9 Ie 3
theorem T3(f:Str)(u v:V):∀fs:List (Str × V),az f v (az f u fs)=az f v fs
 |[]=>by
  show az f v [(f,u)]=[(f,v)];show (if f=f then _ else _)=_;rw[aI U]
 |(g,x)::r=>by
  by_cases c:g=f
  ·rw[show az f u ((g,x)::r)=(g,u)::r from aI c,show az f v ((g,u)::r)=(g,v)::r from aI c,show az f v ((g,x)::r)=(g,v)::r from aI c]
  rw[show az f u ((g,x)::r)=(g,x)::az f u r from aA c,show az f v ((g,x)::az f u r)=(g,x)::az f v (az f u r) from aA c,show az f v ((g,x)::r)=(g,x)::az f v r from aA c,T3 f u v r]
def bX(x a n:Addr):List (Str × V):=az "newest" (.ref n) (az pT (.ref a) (az jK (.ref x) []))
theorem WG:¬((jK:Str)=pT):=by decide +kernel
theorem WE:¬((jK:Str)="newest"):=by decide +kernel
theorem WC:¬((pT:Str)="newest"):=by decide +kernel
theorem Zw(x a n:Addr):(bX x a n).lookup (jK:Str)\.ref x:=by
 unfold bX;rw[gA,aA WE,gA,aA WG,gA,aI U]
theorem HV(x a n:Addr):(bX x a n).lookup (pT:Str)\.ref a:=by
 unfold bX;rw[gA,aA WC,gA,aI U]
theorem BE(x a n:Addr):(bX x a n).lookup ("newest":Str)\.ref n:=by
 unfold bX;rw[gA,aI U]
theorem Ir(x a n:Addr){m:Str}(h1:¬m=jK)(h2:¬m=pT)(h3:¬m="newest"):(bX x a n).lookup m=none:=by
 unfold bX;rw[gA,aA h3,gA,aA h2,gA,aA h1]
 all_goals rfl
structure mK (K:ai) (CR:Addr):Prop where
 cl:mQ K CR
 nX:mr K CR jK
 nA:mr K CR pT
 nN:mr K CR "newest"
def gN(H:Hp):ag->List ak->Prop:=Paired λy s=>∃t,y=.ref t/\H t\.tup (sV s)
theorem gN.keep{H H':Hp}{ys:ag}{l:List ak}(h:gN H ys l)(k:∀b xs,H b\.tup xs->H' b\.tup xs):gN H' ys l:=Paired.aU h λy s ⟨t,e,ht⟩=>#[t,e,k _ _ ht]
def UX(H:Hp)(v:V):Option ak->Prop
 |none=>v=.non
 |some q=>∃b,v=.ref b/\H b\.tup (sV q)
def fP(H:Hp):List (aC × V)->List (ak × Option ak)->Prop:=Paired λkv e=>kv.1=sK e.1/\UX H kv.2 e.2
variable{kvs:List (aC × V)}
theorem fP.keep{H H':Hp}{pa:List (ak × Option ak)}(h:fP H kvs pa)(k:∀b xs,H b\.tup xs->H' b\.tup xs):fP H' kvs pa:=Paired.aU h λkv e ⟨h1,h2⟩=>#[h1,by
 cases z:e.2 with
 |none=>rw[z] at h2;exact h2
 |some q=>
  rw[z] at h2;let#[b,e1,hb]:=h2;exact#[b,e1,k _ _ hb]]
theorem fP.keys{H:Hp}:∀{kvs:List (aC × V)} {pa:List (ak × Option ak)},fP H kvs pa->kvs.map (·.1)=(pa.map (·.1)).map sK
 |_,_,.nil=>rfl
 |_,_,.cons h t=>by
  rw[eY,eY,eY,h.1,fP.keys t]
theorem fP.none{H:Hp}{pa:List (ak × Option ak)}(h:fP H kvs pa){s:ak}(hs:s∉pa.map (·.1)):aY kvs (sK s)=none:=uK (by
 rw[h.keys];intro hm;let#[x,hx,e]:=br.mp hm;rw[<- K6 e] at hs;exact hs hx)
theorem fP.isSome{H:Hp}{pa:List (ak × Option ak)}(h:fP H kvs pa)(s:ak):(aY kvs (sK s)).isSome=decide (s∈pa.map (·.1)):=by
 by_cases c:s∈pa.map (·.1)
 ·rw[cz c];exact IS (by rw[h.keys];exact br.mpr #[s,c,U])
 rw[fC c,h.none c];rfl
theorem fP.get{H:Hp}:∀{kvs:List (aC × V)} {pa:List (ak × Option ak)},fP H kvs pa->(pa.map (·.1)).Nodup->∀{e:ak × Option ak},e∈pa->∃v,aY kvs (sK e.1)\v/\UX H v e.2
 |_,_,.nil,_,_,he=>by cases he
 |_,_,.cons (a:=kv) (b:=e0) h t,nd,e,he=>by
  rw[eY,jk] at nd;rcases bW.mp he with rfl|he
  ·exact#[kv.2,by unfold aY;rw[x8];simp[h.1],h.2]
  let#[v,h1,h2]:=fP.get t nd.2 he;apply#[v,?_,h2]
  have ne:¬kv.1=sK e.1:=λz=>by
   rw[h.1] at z;exact nd.1 (by rw[K6 z];exact br.mpr #[e,he,U])
  unfold aY at h1 ⊢;rw[x8];simp[ne,h1]
theorem wB{k:aC}{v:V}(h:aY kvs k=none):putK kvs k v=kvs++[(k,v)]:=by
 unfold putK;rw[BJ,h];rfl
def ph(N:ak->ak->Prop)(s0:ak)(pa:List (ak × Option ak)):Prop:=∀e∈pa,(e.1=s0/\e.2=none)∨∃q d,e.2\q/\Ds N s0 d q/\Ds N s0 (d+1) e.1/\N q e.1
structure vS (CR:Addr) (H:Hp) (r a x n:Addr) (hs:Xa) (ts:Xb) (qs:aM) (pa:List (ak × Option ak)) (nw:List ak):Prop where
 ins:∃dx,H r\.ins CR dx (bX x a n)
 ex:oE H x hs ts qs
 ah:∃kvs,H a\.dT kvs/\fP H kvs pa
 ne:∃ys,H n\.lst ys/\gN H ys nw
theorem vS.same{CR:Addr}{H H':Hp}{r a x n:Addr}{hs:Xa}{ts:Xb}{qs:aM}{pa:List (ak × Option ak)}{nw:List ak}(R:vS CR H r a x n hs ts qs pa nw)(s:aa H H'):vS CR H' r a x n hs ts qs pa nw:=by
 let#[#[dx,h1],h2,#[kvs,h3,h4],#[ys,h5,h6]]:=R;exact#[#[dx,s _ _ h1],h2.same s,#[kvs,s _ _ h3,h4.keep λb xs e=>s _ _ e],#[ys,s _ _ h5,h6.keep λb xs e=>s _ _ e]]
section v
theorem nj:bN ["self","goods","placed","first"] oy (a9 lC):=bT
inductive IG (K:ai) (CG CW CR:Addr) (vs:ag) (H:Hp) (Q:VK) (E:XK):Prop
 |mk:∀(r dx g p d:Addr) (hs:Xa) (ts:Xb) (qs:aM) (fp:aq) (f:bg),vs=[.ref r,.ref g,.ref d]->H r\.ins CR dx []->Gs K CG CW H g p hs ts qs fp->H d\.dK (ft (qs.map (·.1)) f)->(∀a x n H',(∀b o,H b\o->b≠r->H' b\o)->H a=none->vS CR H' r a x n hs ts qs [((qs.map (·.1)).map f,none)] [(qs.map (·.1)).map f]->Q .non H')->IG K CG CW CR vs H Q E
theorem _K{f CG CW CR:Addr}(F:bC K "__init__" "Reach.__init__" lC f fd)(T:mK K CR)(B:Bi mg)(cE:!bx 4 "exits_of" ["goods"] (MK K CG CW)):!au bh 5 f fd oy (IG K CG CW CR):=by
 exists F.bS nj;let#[r,dx,g,p,d,hs,ts,qs,fp,f,rfl,jc,G,hd,k]:=h;let hu:=fN hr;refine' #[_,av ?s1 (av ?s2 (av ?s3 (aE ?s4))),?kk]
 case s1=>exact bo 3 nj.nd (jh (gC_ U) (by rfl) B.tuple wx %[NW (pv 2)|0])
 case s2=>exact uG (pv 0) (bc cE hr %[1|0]) U
 case s3=>exact uG (pv 0) (Sy hu (pv 3) Au) U
 case s4=>exact uG (pv 0) (fE %[3|0]) U
 apply#[_,U,d,_,U,hd,λv hv=>?_];let#[s1,e1]:=aH (o:=uz v d) hv;generalize upd H v (uz v d)=H1 at s1 e1 ⊢;apply#[v,d,_,U,e1,s1 _ _ hd,λt ht=>?_]
 have ev:(ft (qs.map (·.1)) f).map (·.2)=sV ((qs.map (·.1)).map f):=by
  simp only[ft,d9,sV,cY];rfl
 rw[ev];obtain⟨s0,Q_⟩:∃s0,s0=(qs.map (·.1)).map f:=#[_,U];rw[<- Q_];rw[<- Q_] at k;let#[s2,e2]:=aH (o:=.tup (sV s0)) ht;let i9:=s1.trans s2;generalize upd H1 t (.tup (sV s0))=H2 at s2 e2 i9 ⊢;apply#[_,U,g,p,hs,ts,qs,fp,U,G.same i9,λx H3 s3 nx ex=>?_];let eU:=i9.trans s3;apply#[_,U,r,CR,dx,[],U,eU _ _ jc,T.cl,T.nX,by show 0<1000;decide,?_];have F2:∀{b o},H3 b\o->b≠r->upd H3 r (.ins CR dx (az jK (.ref x) [])) b\o:=λe ne=>by rw[aw ne];exact e
 have r4:upd H3 r (.ins CR dx (az jK (.ref x) [])) r\.ins CR dx (az jK (.ref x) []):=ay
 have pP:∀{b},upd H3 r (.ins CR dx (az jK (.ref x) [])) b=none->H3 b=none:=λ{b} e=>by
  by_cases z:b=r
  ·rw[z,ay] at e;cases e
  rw[aw z] at e;exact e
 generalize upd H3 r (.ins CR dx (az jK (.ref x) []))=H4 at F2 r4 pP ⊢;let A_:=eU _ _ jc;have tr:t≠r:=bK (s3 _ _ e2) A_ nofun;have e4:H4 t\.tup (sV s0):=F2 (s3 _ _ e2) tr;intro a ha;let#[s5,e5]:=aH (o:=.dT []) ha;have an:H a=none:=eU.free (pP ha);have ar:a≠r:=(bq r4 ha).symm;generalize upd H4 a (.dT [])=H5 at s5 e5 ⊢;apply#[_,U,e5,t,sK s0,U,by rw[qZ];exact s5 _ _ e4,_,U,?_];have ta:t≠a:=bK (s5 _ _ e4) e5 nofun;have Ju:∀{b o},H5 b\o->b≠a->upd H5 a (.dT [(sK s0,.non)]) b\o:=λe ne=>by rw[aw ne];exact e
 have e6:upd H5 a (.dT [(sK s0,.non)]) a\.dT [(sK s0,.non)]:=ay
 have GZ:∀{b},upd H5 a (.dT [(sK s0,.non)]) b=none->H5 b=none:=λ{b} e=>by
  by_cases z:b=a
  ·rw[z,ay] at e;cases e
  rw[aw z] at e;exact e
 generalize upd H5 a (.dT [(sK s0,.non)])=H6 at Ju e6 GZ ⊢;apply#[r,CR,dx,_,U,Ju (s5 _ _ r4) ar.symm,T.cl,T.nA,by show 1<1000;decide,?_];have Jt:∀{b o},H6 b\o->b≠r->upd H6 r (.ins CR dx (az pT (.ref a) (az jK (.ref x) []))) b\o:=λe ne=>by rw[aw ne];exact e
 have r7:upd H6 r (.ins CR dx (az pT (.ref a) (az jK (.ref x) []))) r\.ins CR dx (az pT (.ref a) (az jK (.ref x) [])):=ay
 have EW:∀{b},upd H6 r (.ins CR dx (az pT (.ref a) (az jK (.ref x) []))) b=none->H6 b=none:=λ{b} e=>by
  by_cases z:b=r
  ·rw[z,ay] at e;cases e
  rw[aw z] at e;exact e
 generalize upd H6 r (.ins CR dx (az pT (.ref a) (az jK (.ref x) [])))=H7 at Jt r7 EW ⊢
 have e47:∀{b o},H3 b\o->b≠r->H7 b\o:=λ{b o} e ne=>by
  let e4':=s5 _ _ (F2 e ne)
  have ba:b≠a:=λz=>by
   have:=F2 e ne;rw[z,ha] at this;cases this
  exact Jt (Ju e4' ba) ne
 apply#[_,U,zl,λn hn=>?_];let#[s8,e8]:=aH (o:=.lst [.ref t]) hn;have nr:n≠r:=(bq r7 hn).symm;generalize upd H7 n (.lst [.ref t])=H8 at s8 e8 ⊢;apply#[_,U,r,CR,dx,_,U,s8 _ _ r7,T.cl,T.nN,by show 2<1000;decide,?_];have F1:∀{b o},H8 b\o->b≠r->upd H8 r (.ins CR dx (bX x a n)) b\o:=λe ne=>by rw[aw ne];exact e
 have r9:upd H8 r (.ins CR dx (bX x a n)) r\.ins CR dx (bX x a n):=ay;show Q .non (upd H8 r (.ins CR dx (bX x a n)));generalize upd H8 r (.ins CR dx (bX x a n))=H9 at F1 r9 ⊢;have E4:∀{b o},H3 b\o->b≠r->H9 b\o:=λe ne=>F1 (s8 _ _ (e47 e ne)) ne;apply k a x n H9 (λb o e ne=>E4 (eU _ _ e) ne) an #[#[dx,r9],?_,#[_,F1 (s8 _ _ (Jt e6 ar)) ar,.cons #[U,U] .nil],#[_,F1 e8 nr,.cons #[t,U,E4 (s3 _ _ e2) tr] .nil]];let#[ds,x1,x2]:=ex
 have Kg:∀{b o},H3 b\o->(∀C dx fs,o≠.ins C dx fs)->b≠r:=λe no z=>by
  rw[z,A_] at e;cases e;exact no _ _ _ U
 exact#[ds,E4 x1 (Kg x1 (by intro _ _ _ z;cases z)),Paired.aU x2 λd q ⟨ad,y1,y2⟩=>#[ad,E4 y1 (Kg y1 (by intro _ _ _ z;cases z)),λh hh=>E4 (y2 h hh) (Kg (y2 h hh) (by intro _ _ _ z;cases z))]]
end
theorem T5{s:ak}{i:Nat}(h:i<s.length)(o:Str):(sV s).take i++[V.str o]++(sV s).drop (i+1)=sV (s.set i o):=by
 show (s.map V.str).take i++[V.str o]++(s.map V.str).drop (i+1)=(s.set i o).map V.str;rw[List.set_eq_take_append_cons_drop,aI h,fe,eY,List.map_take,List.map_drop,List.append_assoc];rfl
def Jd(hs:Xa)(ts:Xb)(qs:aM)(s:ak)(i:Nat)(b:ak):Prop:=∃(k:Nat) (q:Pc) (h h':Str),k<i/\qs[k]? = some q/\s[k]? = some h/\h'∈sP hs ts q h/\b=s.set k h'
theorem YG{hs:Xa}{ts:Xb}{qs:aM}{s b:ak}:Jd hs ts qs s s.length b ↔ Nx hs ts qs s b:=by
 constructor
 ·rintro⟨k,q,h,h',_,h1,h2,h3,h4⟩;exact#[_,k,q,h,h',h1,h2,h3,h4,U]
 rintro⟨m,k,q,h,h',h1,h2,h3,h4,_⟩;exact#[k,q,h,h',(bZ.mp h2).1,h1,h2,h3,h4]
theorem oE.at_{H:Hp}{l:Addr}{hs:Xa}{ts:Xb}{qs:aM}(h:oE H l hs ts qs){k:Nat}(hq:qs[k]? = some q):∃(ds:aq) (d:Addr),H l\.lst (ds.map V.ref)/\(ds.map V.ref)[k]? = some (.ref d)/\FW H d hs ts q:=by
 let#[ds,h1,h2]:=h;have hk:k<qs.length:=(bZ.mp hq).1;let hl:=bj h2;have:=eO h2 k Z1 hk;rw[aX hk] at hq;cases hq;exact#[ds,ds[k]' Z1,h1,by rw[dG,aX Z1];rfl,this]
section v
theorem Fw:bN ["self","hands","found","place","one","other"] Bn (a9 lu):=bT
inductive Nj (CR:Addr) (vs:ag) (H:Hp) (Q:VK) (E:XK):Prop
 |mk:∀(r dx t x a n:Addr) (hs:Xa) (ts:Xb) (qs:aM) (s:ak),vs=[.ref r,.ref t]->H r\.ins CR dx (bX x a n)->oE H x hs ts qs->H t\.tup (sV s)->Vs hs qs s->(aN hs).length<=8->qs.length<64->(∀l ys L H',aa H H'->H l=none->H' l\.lst ys->gN H' ys L->(∀b,b∈L ↔ Nx hs ts qs s b)->L.length<=512->Q (.ref l) H')->Nj CR vs H Q E
theorem _c{f CR:Addr}(F:bC K "one_move_on" "Reach.one_move_on" lu f fd)(T:mK K CR)(B:Bi mg):!au bh 1 f fd Bn (Nj CR):=by
 exists F.bS Fw;let#[r,dx,t,x,a,n,hs,ts,qs,s,rfl,_X,ex,ht,v,n8,PR,k]:=h;let hu:=fN hr;let sz:=cU;let vl:=v.len;refine' #[_,av ?s1 (av ?s2 (aE ?s3)),?kk]
 case s1=>exact bo 2 Fw.nd (fE bF)
 case' s2=>refine' d_ dI U ?i2 ?g2 (aE ?b2)
 case i2=>exact _y (by rfl) B.enum %[1|0]
 case g2=>exact kq U (dH (cm 3 Fw.nd) (dH (cm 4 Fw.nd) iK))
 case' b2=>refine' d_ dI U ?i3 ?g3 (aE ?b3)
 case i3=>exact dF (ji hu (bw hJ (gc (pv 0) U) (pv 3)) (pv 4))
 case g3=>exact cm 5 Fw.nd
 case b3=>exact kC (om l_ uD uE tK (pv 2) %[bJ HS (bJ HS (Ay G6 (pv 1) AH (AI (pv 3))) (iA %[5|0])) (Ay G6 (pv 1) (AI (bJ ia (pv 3) aD)) AH)|0])
 case s3=>exact bu (pv 2)
 apply#[zl,λl hl=>?_];let#[s1,e1]:=aH (o:=.lst []) hl;generalize upd H l (.lst [])=H1 at s1 e1 ⊢;apply#[_,U,t,U,#[_,.of (s1 _ _ ht)],?_]
 let Iv:bO:=λi σ H'=>∃(v3 v4 v5:aJ) (ys:ag) (L:List ak),σ=[some (.ref r),some (.ref t),some (.ref l),v3,v4,v5]/\aa H H'/\H' l\.lst ys/\gN H' ys L/\(∀b,b∈L ↔ Jd hs ts qs s i b)/\L.length<=8 * i
 apply hb_ (xs:=sV s) Iv #[none,none,none,[],[],U,s1,e1,.nil,λb=>by simp[Jd],by simp] (λi σ H' _ ⟨_,_,_,_,_,_,sm,_⟩=>.of (sm _ _ ht)) ?_ ?_
 ·rintro i y σ H2 hy ⟨v3,v4,v5,ys,L,rfl,s2,e2,sp,mem,len⟩ tt KY;let#[h,hh,rfl]:=mz hy;have hi:i<s.length:=(bZ.mp hh).1;have hq:qs[i]? = some (qs[i]' Z1):=aX Z1;obtain⟨q,eq⟩:∃q,q=qs[i]' Z1:=#[_,U];rw[<- eq] at hq;let hm:=v.fV h (cy hh);let#[s3,e3]:=aH (o:=.tup [.int i,.str h]) KY;let eU:=s2.trans s3;let uk:=s3 _ _ e2;let qz:=sp.keep λb xs e=>s3 _ _ e;show gM _ _ _ _ _ (upd H2 tt (.tup [.int i,.str h])) _;generalize upd H2 tt (.tup [.int i,.str h])=H3 at s3 e3 eU uk qz ⊢;apply#[tt,_,U,.of e3,U,_,_,U,_,_,U,U,?_];let#[ds,d,x1,x2,ad,x3,x4]:=ex.at_ hq;apply#[_,U,r,CR,dx,_,_,U,eU _ _ _X,T.cl,T.nX,Zw _ _ _,_,U,x,_,i,.ref d,U,U,.of (eU _ _ x1),L2.d0 x2,_,U,d,.ref (ad h),U,?_,ad h,U,#[_,.of (eU _ _ (x4 h hm))],?_]
  ·have:=dP.k (k:=.inr h) (eU _ _ x3);rw[wg (g:=λn=>V.ref (ad n)) hm] at this;exact this
  let Iw:bO:=λj σ H'=>∃(v5:aJ) (ys:ag) (L:List ak),σ=[some (.ref r),some (.ref t),some (.ref l),some (.int i),some (.str h),v5]/\aa H H'/\H' l\.lst ys/\gN H' ys L/\(∀b,b∈L ↔ Jd hs ts qs s i b∨∃o∈(sP hs ts q h).take j,b=s.set i o)/\L.length<=8 * i+j
  have el8:(sP hs ts q h).length<=8:=gj (BP ..) (gj (BP ..) n8);apply gh (K:=K) (a:=ad h) (xs:=(sP hs ts q h).map V.str) Iw #[_,ys,L,U,eU,uk,qz,λb=>by rw[mem];simp,by omega] (λj σ H' _ ⟨_,_,_,_,sm,_⟩=>.of (sm _ _ (x4 h hm))) ?_ ?_
  ·rintro j y σ H4 hy ⟨Js,ys,L,rfl,s4,iH,iD,fJ,lT⟩;let#[o,ho,rfl]:=mz hy;have hj:j<(sP hs ts q h).length:=(bZ.mp ho).1;let vt:=bj iD;let pM:=s4 _ _ ht;apply#[_,U,.inl #[U,_,.of iH],?_];apply#[_,U,_,U,_,U,t,_,U,.of pM,?_,λp1 xx=>?_]
   ·rw[HT.eS,HT.d8,ao];omega
   rw[Oe];let#[s5,e5]:=aH (o:=.tup ((sV s).take i)) xx;generalize upd H4 p1 (.tup ((sV s).take i))=H5 at s5 e5 ⊢;apply#[_,U,zl,λp2 kg=>?_];let#[s6,e6]:=aH (o:=.tup [.str o]) kg;generalize upd H5 p2 (.tup [.str o])=H6 at s6 e6 ⊢;apply#[p1,p2,_,_,U,U,s6 _ _ e5,e6,by rw[dR,ao,jn];omega,λp3 H7 s7 e7=>?_];let w9:=(s5.trans s6).trans s7;apply#[_,U,_,U,_,_,U,U,_,U,t,_,U,.of (w9 _ _ pM),?_,λp4 D9=>?_]
   ·rw[show ((i:Int)+1)=((i+1:Nat):Int) by omega,HT.d8,ao];omega
   rw[show ((i:Int)+1)=((i+1:Nat):Int) by omega,Tq];let#[s8,e8]:=aH (o:=.tup ((sV s).drop (i+1))) D9;generalize upd H7 p4 (.tup ((sV s).drop (i+1)))=H8 at s8 e8 ⊢;apply#[p3,p4,_,_,U,U,s8 _ _ e7,e8,by rw[eI,dR,ao,jn,List.length_drop,ao];omega,λp5 H9 s9 e9=>?_];rw[T5 hi] at e9;let yQ:=(w9.trans s8).trans s9;let Ah:=yQ _ _ iH;apply#[l,_,_,U,U,Ah,by omega,?_]
   have kt:∀b xs,H9 b\.tup xs->upd H9 l (.lst (ys++[.ref p5])) b\.tup xs:=λb xs e=>by
    rw[aw (bK e Ah nofun)];exact e
   apply#[_,_,L++[s.set i o],U,fQ (s4.trans yQ) hl,ay,gR ((iD.keep λb xs e=>yQ _ _ e).keep kt) (.cons #[p5,U,kt _ _ e9] .nil),λb=>?_,by rw[eI,jn];omega];rw[dN,fJ,eg,uB ho];constructor
   ·rintro ((x|⟨z,hz,e⟩)|e)
    ·exact .inl x
    ·exact .inr #[z,dN.mpr (.inl hz),e]
    exact .inr #[o,by simp,e]
   rintro (x|⟨z,hz,e⟩)
   ·exact .inl (.inl x)
   rcases dN.mp hz with hz|hz
   ·exact .inl (.inr #[z,hz,e])
   rw[eg.mp hz] at e;exact .inr e
  rintro σ H4 ⟨Js,ys,L,rfl,s4,iH,iD,fJ,lT⟩;rw[ao] at fJ lT;apply#[_,_,_,ys,L,U,s4,iH,iD,λb=>?_,by omega];rw[fJ,eG];constructor
  ·rintro (⟨k',q',h',o',k1,k2⟩|⟨o,ho,e⟩)
   ·exact#[k',q',h',o',by omega,k2]
   exact#[i,q,h,o,by omega,hq,hh,ho,e]
  rintro⟨k',q',h',o',k1,k2,k3,k4,k5⟩;by_cases c:k'=i
  ·subst c;rw[hq] at k2;rw[hh] at k3;cases k2;cases k3;exact .inr #[o',k4,k5]
  exact .inl #[k',q',h',o',by omega,k2,k3,k4,k5]
 rintro σ H2 ⟨v3,v4,v5,ys,L,rfl,s2,e2,sp,mem,len⟩;rw[ao] at mem len;exact#[_,U,k l ys L H2 s2 hl e2 sp (λb=>(mem b).trans YG) Z1]
end
def pC(r a:Addr)(H H':Hp):Prop:=∀b o,H b\o->b≠r->b≠a->H' b\o
theorem bz.gS{a:Addr}{H H':Hp}{o:HO}(b:bz a H H')(ha:H a\o)(no:∀xs,o≠.tup xs):∀c xs,H c\.tup xs->H' c\.tup xs:=λc xs e=>b _ _ e λz=>by
 rw[z,ha] at e;cases e;exact no _ U
theorem oE.but{a:Addr}{H H':Hp}{l:Addr}{hs:Xa}{ts:Xb}{qs:aM}(h:oE H l hs ts qs)(b:bz a H H')(ha:H a\.dT kvs):oE H' l hs ts qs:=by
 have k:∀{c o},H c\o->o≠.dT kvs->H' c\o:=λe ne=>b _ _ e λz=>by
  rw[z,ha] at e;cases e;exact ne U
 let#[ds,h1,h2]:=h;exact#[ds,k h1 nofun,Paired.aU h2 λd q ⟨ad,x1,x2⟩=>#[ad,k x1 nofun,λy hy=>k (x2 y hy) nofun]]
section v
theorem Io:bN ["self","most","found","hands","after"] ["self","most"] (a9 M_):=bT
def More(N:ak->ak->Prop)(s0:ak)(m:Nat):Prop:=∃l:List ak,l.Nodup/\(∀s∈l,∃j,Wk N s0 j s)/\m<l.length
inductive Ii (CR:Addr) (vs:ag) (H:Hp) (Q:VK) (E:XK):Prop
 |mk:∀(r x a n:Addr) (hs:Xa) (ts:Xb) (qs:aM) (pa:List (ak × Option ak)) (nw:List ak) (s0:ak) (k m:Nat),vs=[.ref r,.int m]->vS CR H r a x n hs ts qs pa nw->Bf (Nx hs ts qs) s0 k (pa.map (·.1)) nw->ph (Nx hs ts qs) s0 pa->(∀s∈nw,Vs hs qs s)->(aN hs).length<=8->qs.length<64->m<=1000000->pa.length<=1000000->(∀H',pC r a H H'->More (Nx hs ts qs) s0 m->Q (.bl false) H')->(∀n' lP lQ H',pC r a H H'->H n'=none->vS CR H' r a x n' hs ts qs lP lQ->Bf (Nx hs ts qs) s0 (k+1) (lP.map (·.1)) lQ->ph (Nx hs ts qs) s0 lP->lP.length=pa.length+lQ.length->(lP.length<=m∨lQ=[])->Q (.bl true) H')->Ii CR vs H Q E
theorem g3_{f CR:Addr}(F:bC K "widen" "Reach.widen" M_ f fd)(T:mK K CR)(B:Bi mg)(cM:!bV CR 1 "one_move_on" Bn (Nj CR)):!au bh 2 f fd ["self","most"] (Ii CR):=by
 exists F.bS Io;let#[r,x,a,n,hs,ts,qs,pa,nw,s0,k,m,rfl,R,bf,po,vv,n8,PR,m6,p6,kF,kT]:=h;let hu:=fN hr;let sz:=cU;refine' #[_,av ?s1 (av ?s2 (av ?s3 (aE ?s4))),?kk]
 case s1=>exact bo 2 Io.nd (fE bF)
 case' s2=>refine' d_ dI U ?i2 ?g2 (aE ?b2)
 case i2=>exact dF (gc (pv 0) U)
 case g2=>exact cm 3 Io.nd
 case' b2=>refine' d_ dI U ?i3 ?g3 (aE ?b3)
 case i3=>exact dF (iZ cM T.cl hr (pv 0) %[3|0])
 case g3=>exact cm 4 Io.nd
 case' b3=>refine' b_ (tG (IU hu (pv 4) (gc (pv 0) U))) (av ?c1 (av ?c2 (aE ?c3))) cg
 case c1=>exact b_ (fg Qy (cZ T6 (by rfl) B.len gF %[gc (pv 0) U|0]) (pv 1)) (aE (bu gG)) cg
 case c2=>exact uC hu (gc (pv 0) U) (pv 4) (pv 3) U
 case c3=>exact kC (om l_ uD uE tK (pv 2) %[4|0])
 case s3=>exact uG (pv 0) (pv 2) U
 case s4=>exact bu gG
 let#[#[dx,jc],ex,#[kvs,oa,OR],#[Jj,GP,JX]]:=R;apply#[zl,λl hl=>?_];let#[s1,e1]:=aH (o:=.lst []) hl;generalize upd H l (.lst [])=H1 at s1 e1 ⊢;apply#[_,U,r,CR,dx,_,_,U,s1 _ _ jc,T.cl,T.nN,BE _ _ _,n,U,#[_,.of (s1 _ _ GP)],?_];have uR:∀{b:Addr} {H':Hp},bz a H H'->∀c xs,H c\.tup xs->H' c\.tup xs:=λbt=>bz.gS bt oa (by intro xs z;cases z);have J6:r≠a:=bK jc oa nofun;have Xc:n≠a:=bK GP oa nofun
 let J:List ak->Hp->Prop:=λseen H'=>∃(kvs:List (aC × V)) (lP:List (ak × Option ak)) (fs:ag) (fd:List ak),bz a H H'/\H' a\.dT kvs/\fP H' kvs lP/\H' l\.lst fs/\gN H' fs fd/\Wd (pa.map (·.1)) seen (lP.map (·.1)) fd/\ph (Nx hs ts qs) s0 lP/\lP.length=pa.length+fd.length/\(lP.length<=m∨fd=[])
 let Iv:bO:=λi σ H'=>∃(v3 v4:aJ) (seen:List ak),σ=[some (.ref r),some (.int m),some (.ref l),v3,v4]/\J seen H'/\(∀b,b∈seen ↔ ∃h∈nw.take i,Nx hs ts qs h b)
 let XJ:=bj JX;apply gh (K:=K) (a:=n) (xs:=Jj) Iv #[none,none,[],U,#[kvs,pa,[],[],bz.of s1,s1 _ _ oa,OR.keep λb xs e=>s1 _ _ e,e1,.nil,Wd.start bf.nd,po,by simp,.inr U],by simp] (λi σ H' _ ⟨_,_,_,_,⟨_,_,_,_,bt,_⟩,_⟩=>.of (bt _ _ GP Xc)) ?_ ?_
 ·rintro i y σ H2 hy ⟨v3,v4,seen,rfl,⟨DL,Kd,Sv,Mi,wd,n5,OQ,He,yA,Jm,Kc,ln2,Kf⟩,mem⟩;have hi:i<Jj.length:=(bZ.mp hy).1
  obtain⟨h,hh,t,rfl,ht⟩:∃h,nw[i]? = some h/\∃t,y=.ref t/\H t\.tup (sV h):=by
   have:=eO JX i hi Z1;rw[aX hi] at hy;cases hy;exact#[nw[i]' Z1,aX Z1,this]
  let hm:=cy hh;let sr:=(bf.new h).mp hm;let A9:=uR (b:=a) wd _ _ ht;let iR:=wd _ _ jc J6;apply#[_,U,r,dx,_,U,iR,Ir _ _ _ Z0 Z0 Z0,_,U,r,dx,t,x,a,n,hs,ts,qs,h,U,iR,ex.but wd oa,A9,vv h hm,n8,PR,λl3 qd L H3 s3 pK e3 qz lR KC=>?_];have Qp:l3≠l:=λz=>by rw[z,He] at pK;cases pK
  have GD:l3≠a:=λz=>by rw[z,n5] at pK;cases pK
  have l3n:H l3=none:=by
   cases z:H l3 with
   |none=>rfl
   |some o=>
    have:=wd _ _ z GD;rw[pK] at this;cases this
  let Ky:=bj qz
  let Iw:bO:=λj σ H'=>∃(v4:aJ) (dk:List ak),σ=[some (.ref r),some (.int m),some (.ref l),some (.ref t),v4]/\H' l3\.lst qd/\gN H' qd L/\H' t\.tup (sV h)/\J dk H'/\(∀b,b∈dk ↔ b∈seen∨b∈L.take j)
  apply#[l3,U,#[_,.of e3],?_];apply gh (K:=K) (a:=l3) (xs:=qd) Iw ?_ ?_ ?_ ?_
  ·exact#[_,seen,U,e3,qz,s3 _ _ A9,#[DL,Kd,Sv,Mi,wd.trans (bz.of s3),s3 _ _ n5,OQ.keep λb xs e=>s3 _ _ e,s3 _ _ He,yA.keep λb xs e=>s3 _ _ e,Jm,Kc,ln2,Kf],λb=>#[.inl,λz=>z.elim id λw=>absurd w (gI)]]
  ·rintro j σ H' _ ⟨_,_,_,e,_⟩;exact .of e
  ·rintro j y σ H4 hy ⟨VE,dk,rfl,e4,iD,pM,⟨gX,C9,Su,SB,IP,jB,BN,iH,yy,Cb,PX,XF,WX⟩,fJ⟩;have hj:j<qd.length:=(bZ.mp hy).1
   obtain⟨b,hb,u,rfl,Q5⟩:∃b,L[j]? = some b/\∃u,y=.ref u/\H4 u\.tup (sV b):=by
    have:=eO iD j hj Z1;rw[aX hj] at hy;cases hy;exact#[L[j]' Z1,aX Z1,this]
   let GL:=IP _ _ jc J6;have bL:Nx hs ts qs h b:=(lR b).mp (cy hb)
   have tk:∀c,c∈L.take (j+1) ↔ c∈L.take j∨c=b:=λc=>by
    rw[kz,hb];simp
   have hK:H4 u\.tup ((sK b).map kV):=by rw[qZ];exact Q5
   apply#[_,U,_,U,r,CR,dx,_,_,U,GL,T.cl,T.nA,HV _ _ _,a,_,U,.t jB hK,_,U,?_];rw[BN.isSome];by_cases c:b∈C9.map (·.1)
   ·rw[cz c];apply aL ?_;apply#[_,dk++[b],U,e4,iD,pM,#[gX,C9,Su,SB,IP,jB,BN,iH,yy,Cb.skip c,PX,XF,WX],λz=>?_];rw[dN,fJ,tk,eg,or_assoc]
   rw[fC c];apply dD ?_;let lk:=bj BN;let lf:=bj yy;apply#[_,U,r,CR,dx,_,_,U,GL,T.cl,T.nA,HV _ _ _,a,_,U,jB,_,U,_,_,U,U,_,U,?_]
   have OO:∀z∈C9.map (·.1),∃j,Wk (Nx hs ts qs) s0 j z:=λz hz=>by
    rcases (Cb.all z).mp hz with y|y
    ·let#[j,_,w]:=(bf.all z).mp y;exact#[j,w]
    rcases (fJ z).mp y with y|y
    ·let#[h',sk,nx]:=(mem z).mp y;exact#[_,.s ((bf.new h').mp (List.mem_of_mem_take sk)).1 nx]
    exact#[_,.s sr.1 ((lR z).mp (List.mem_of_mem_take y))]
   apply bY (λc2=>?_) (λc2=>?_)
   ·apply kF H4 (λc o e n1 n2=>IP _ _ e n2) #[C9.map (·.1)++[b],?_,λz hz=>?_,?_]
    ·rw[List.nodup_append];exact#[Cb.nd,by simp,λx hx y hy e=>c (by rw[<- eg.mp hy,<- e];exact hx)]
    ·rcases dN.mp hz with hz|hz
     ·exact OO z hz
     rw[eg.mp hz];exact#[_,.s sr.1 bL]
    have:(m:Int)<=(gX.length:Int):=o9 c2;rw[eI,ao,jn];omega
   have lt:gX.length<m:=by
    have:¬(m:Int)<=(gX.length:Int):=of_decide_eq_false ⇑c2;omega
   apply#[_,U,_,U,r,CR,dx,_,_,U,GL,T.cl,T.nA,HV _ _ _,_,U,a,_,U,.t jB hK Z1,?_];rw[wB (BN.none c)];have UM:bz a H (upd H4 a (.dT (gX++[(sK b,.ref t)]))):=IP.trans bz.upd;have k5:∀{c o},H4 c\o->c≠a->upd H4 a (.dT (gX++[(sK b,.ref t)])) c\o:=λe ne=>by rw[aw ne];exact e
   have t5:∀c xs,H4 c\.tup xs->upd H4 a (.dT (gX++[(sK b,.ref t)])) c\.tup xs:=λc xs e=>k5 e (bK e jB nofun);have e5:upd H4 a (.dT (gX++[(sK b,.ref t)])) a\.dT (gX++[(sK b,.ref t)]):=ay;have la:l≠a:=bK iH jB nofun;generalize upd H4 a (.dT (gX++[(sK b,.ref t)]))=H5 at UM k5 t5 e5 ⊢;let sT:=k5 iH la;apply#[_,U,.inl #[U,_,.of sT],_,U,l,_,_,U,U,sT,by omega,?_]
   have t6:∀c xs,H5 c\.tup xs->upd H5 l (.lst (Su++[.ref u])) c\.tup xs:=λc xs e=>by
    rw[aw (bK e sT nofun)];exact e
   let AY:=λc xs e=>t6 c xs (t5 c xs e);have kb:¬∃j,j<=k/\Wk (Nx hs ts qs) s0 j b:=λz=>c ((Cb.all b).mpr (.inl ((bf.all b).mpr z)));apply#[_,dk++[b],U,by rw[aw Qp];exact k5 e4 GD,iD.keep AY,AY _ _ pM,#[_,C9++[(b,some h)],_,SB++[b],λc o e ne=>?_,by rw[aw la.symm];exact e5,gR (BN.keep AY) (.cons #[U,t,U,AY _ _ pM] .nil),ay,gR (yy.keep AY) (.cons #[u,U,AY _ _ Q5] .nil),?_,?_,?_,?_],λz=>?_]
   ·rw[aw (bq e hl)];exact UM _ _ e ne
   ·rw[fe];exact Cb.add c
   ·intro e he;rcases dN.mp he with he|he
    ·exact PX e he
    rw[eg.mp he];exact .inr #[h,k,U,sr,#[.s sr.1 bL,λj hj w=>kb #[j,by omega,w]],bL]
   ·rw[eI,eI,jn,jn];omega
   ·left
    rw[eI,jn];omega
   rw[dN,fJ,tk,eg,or_assoc]
  rintro σ H4 ⟨VE,dk,rfl,e4,iD,pM,jj,fJ⟩;apply#[_,_,dk,U,jj,λb=>?_];rw[fJ,mem,show qd.length=L.length from Ky,eG,lR,kz,hh];simp only[Option.toList_some,dN,eg];constructor
  ·rintro (⟨h',sk,nx⟩|nx)
   ·exact#[h',.inl sk,nx]
   exact#[h,.inr U,nx]
  rintro⟨h',sk|rfl,nx⟩
  ·exact .inl #[h',sk,nx]
  exact .inr nx
 rintro σ H2 ⟨v3,v4,seen,rfl,⟨DL,Kd,Sv,Mi,wd,n5,OQ,He,yA,Jm,Kc,ln2,Kf⟩,mem⟩;let iR:=wd _ _ jc J6;apply#[_,U,_,U,r,CR,dx,_,U,iR,T.cl,T.nN,?_,?_]
 ·show 3<1000;decide
 have ef:az "newest" (V.ref l) (bX x a n)=bX x a l:=T3 _ _ _ _;rw[ef];have k3:∀{c o},H2 c\o->c≠r->upd H2 r (.ins CR dx (bX x a l)) c\o:=λe ne=>by rw[aw ne];exact e
 have ni:∀{c o},H2 c\o->(∀C dx fs,o≠.ins C dx fs)->upd H2 r (.ins CR dx (bX x a l)) c\o:=λe no=>k3 e λz=>by
  rw[z,iR] at e;cases e;exact no _ _ _ U
 let#[ds,x1,x2]:=ex.but wd oa;apply kT l Kd Mi _ (λc o e n1 n2=>by rw[aw n1];exact wd _ _ e n2) hl #[#[dx,ay],#[ds,ni x1 (by intro _ _ _ z;cases z),Paired.aU x2 λd q ⟨ad,y1,y2⟩=>#[ad,ni y1 (by intro _ _ _ z;cases z),λh hh=>ni (y2 h hh) (by intro _ _ _ z;cases z)]],#[_,ni n5 (by intro _ _ _ z;cases z),OQ.keep λb xs e=>ni e (by intro _ _ _ z;cases z)],#[_,ni He (by intro _ _ _ z;cases z),yA.keep λb xs e=>ni e (by intro _ _ _ z;cases z)]] (bf.next Jm λb=>?_) Kc ln2 Kf;rw[mem,XJ,eG]
end
def Cn(N:ak->ak->Prop):List ak->Prop
 |[]=>True
 |[_]=>True
 |a::b::r=>N a b/\Cn N (b::r)
structure Row (N:ak->ak->Prop) (a s:ak) (k:Nat) (row:List ak):Prop where
 cn:Cn N row
 hd:row.head? = some a
 lt:row.getLast? = some s
 len:row.length=k+1
variable{N:ak->ak->Prop}
theorem Row.one{s:ak}:Row N s s 0 [s]:=#[trivial,U,U,U]
theorem Row.more{a b s:ak}{k:Nat}{row:List ak}(h:Row N b s k row)(n:N a b):Row N a s (k+1) (a::row):=by
 cases row with
 |nil=>cases h.hd
 |cons c r=>
  have e:c=b:=cq h.hd;subst e;exact#[#[n,h.cn],U,by rw[List.getLast?_cons_cons];exact h.lt,by rw[jm,h.len]]
theorem TK{α β:Type}{F:α->β->Prop}:∀{l:List α} {m:List β},Paired F l m->Paired F l.reverse m.reverse
 |_,_,.nil=>.nil
 |_,_,.cons h t=>by
  rw[List.reverse_cons,List.reverse_cons];exact gR (TK t) (.cons h .nil)
section v
theorem Hk:bN ["self","hands","row","there"] Bn (a9 qP):=bT
inductive kK (CR:Addr) (vs:ag) (H:Hp) (Q:VK) (E:XK):Prop
 |mk:∀(r x a n t:Addr) (hs:Xa) (ts:Xb) (qs:aM) (pa:List (ak × Option ak)) (nw:List ak) (s0 s:ak) (k:Nat),vs=[.ref r,.ref t]->vS CR H r a x n hs ts qs pa nw->H t\.tup (sV s)->Ds (Nx hs ts qs) s0 k s->(pa.map (·.1)).Nodup->(∀j z,j<=k->Wk (Nx hs ts qs) s0 j z->z∈pa.map (·.1))->ph (Nx hs ts qs) s0 pa->k<1000000->(∀l ys row H',aa H H'->H l=none->H' l\.lst ys->gN H' ys row->Row (Nx hs ts qs) s0 s k row->Q (.ref l) H')->kK CR vs H Q E
theorem Zu{f CR:Addr}(F:bC K "row_to" "Reach.row_to" qP f fd)(T:mK K CR):!au bh 1 f fd Bn (kK CR):=by
 exists F.bS Hk;let#[r,x,a,n,t,hs,ts,qs,pa,nw,s0,s,k,rfl,R,ht,ds,nd,all,po,p6,kk]:=h;let hu:=fN hr;let sz:=cU;refine' #[_,av ?s1 (av ?s2 (av ?s3 (av ?s4 (aE ?s5)))),?kk]
 case s1=>exact bo 2 Hk.nd (fE bF)
 case s2=>exact bo 3 Hk.nd (pv 1)
 case' s3=>refine' FG dI ?c1 (av ?b1 (aE ?b2))
 case c1=>exact tG (_m (pv 3))
 case b1=>exact kC (om l_ uD uE tK (pv 2) %[3|0])
 case b2=>exact bo 3 Hk.nd (ji hu (gc (pv 0) U) (pv 3))
 case s4=>exact kC (Y7 l_ PySem.F.slot_list_reverse PySem.F.type_list_reverse fL_ (pv 2))
 case s5=>exact bu (pv 2)
 let#[#[dx,jc],ex,#[kvs,oa,OR],#[Jj,GP,JX]]:=R;apply#[zl,λl hl=>?_];let#[s1,e1]:=aH (o:=.lst []) hl;generalize upd H l (.lst [])=H1 at s1 e1 ⊢;apply#[_,U,?_]
 let Iv:bO:=λm σ H'=>∃(v:V) (ys:ag) (wr:List ak),σ=[some (.ref r),some (.ref t),some (.ref l),some v]/\aa H H'/\H' l\.lst ys/\gN H' ys wr.reverse/\wr.length<=k+1/\((v=.non/\m=0/\Row (Nx hs ts qs) s0 s k wr)∨∃u z,v=.ref u/\H u\.tup (sV z)/\m+wr.length=k+1/\0<m/\Ds (Nx hs ts qs) s0 (m - 1) z/\((wr=[]/\z=s)∨∃b,Nx hs ts qs z b/\∃j,wr.length=j+1/\Row (Nx hs ts qs) b s j wr))
 apply#[Iv,#[k+1,.ref t,[],[],U,s1,e1,.nil,by simp,.inr #[t,s,U,ht,by simp,by omega,by simpa using ds,.inl #[U,U]]],?_];rintro m σ H2 ⟨v,ys,wr,rfl,s2,e2,yA,lw,cs⟩;let vt:=bj yA;rw[List.length_reverse] at vt;rcases cs with⟨rfl,rfl,row⟩|⟨u,z,rfl,hz,lm,m0,dz,cs⟩
 ·apply#[_,U,_,U,aL ?_];apply#[_,U,.inl #[U,_,.of e2],l,_,U,U,e2,?_]
  have t3:∀c xs,H2 c\.tup xs->upd H2 l (.lst ys.reverse) c\.tup xs:=λc xs e=>by
   rw[aw (bK e e2 nofun)];exact e
  let qz:=TK (yA.keep t3);rw[List.reverse_reverse] at qz;exact#[_,U,kk l _ wr _ (fQ s2 hl) hl ay qz row]
 apply#[_,U,_,U,dD #[λaV H'=>∃m',m'<m/\Iv m' aV H',λ_ _ h=>h,?_]];apply#[_,U,.inl #[U,_,.of e2],_,U,l,_,_,U,U,e2,by omega,?_]
 have t3:∀c xs,H2 c\.tup xs->upd H2 l (.lst (ys++[.ref u])) c\.tup xs:=λc xs e=>by
  rw[aw (bK e e2 nofun)];exact e
 have s3:aa H (upd H2 l (.lst (ys++[.ref u]))):=fQ s2 hl;have e3:upd H2 l (.lst (ys++[.ref u])) l\.lst (ys++[.ref u]):=ay;let qz:=gR (yA.keep t3) (.cons #[u,U,s3 _ _ hz] .nil:gN (upd H2 l (.lst (ys++[.ref u]))) [.ref u] [z]);generalize upd H2 l (.lst (ys++[.ref u]))=H3 at s3 e3 qz ⊢;have U4:z∈pa.map (·.1):=all _ z Z1 dz.1;let#[e,he,rfl]:=br.mp U4;let#[v',gv,Gh]:=OR.get nd he;apply#[_,U,r,CR,dx,_,_,U,s3 _ _ jc,T.cl,T.nA,HV _ _ _,_,U,a,v',U,?_,?_]
 ·rw[<- gv];exact .t (s3 _ _ oa) (by rw[qZ];exact s3 _ _ hz)
 have i_:∃j,(e.1::wr).length=j+1/\Row (Nx hs ts qs) e.1 s j (e.1::wr):=by
  rcases cs with⟨rfl,rfl⟩|⟨b,nb,j,lj,rj⟩
  ·exact#[0,U,.one]
  exact#[j+1,by rw[jm,lj],rj.more nb]
 have CJ:gN H3 (ys++[.ref u]) (e.1::wr).reverse:=by rw[List.reverse_cons];exact qz
 have lc:(e.1::wr).length=wr.length+1:=jm;rcases po e he with⟨e0,en⟩|⟨q,d,eq,dq,de,nq⟩
 ·rw[en] at Gh
  have HM:m - 1=0:=by
   rw[e0] at dz;exact dz.inj #[.z,λj hj=>by omega]
  let#[j,lj,rj]:=i_;apply#[0,by omega,v',_,e.1::wr,U,s3,e3,CJ,by omega,.inl #[Gh,U,?_]];rw[<- e0];have:j=k:=by omega
  rw[<- this];exact rj
 rw[eq] at Gh;let#[b,rfl,hb]:=Gh;let dm:=dz.inj de;apply#[m - 1,by omega,_,_,e.1::wr,U,s3,e3,CJ,by omega,.inr #[b,q,U,hb,by omega,by omega,?_,.inr #[e.1,nq,i_]]];rw[show m - 1 - 1=d by omega];exact dq
end
theorem Yy{hs:Xa}{ts:Xb}(G:Good hs ts){h h':Str}(m:h'∈sP hs ts q h):h≠h':=by
 intro e;subst e;let m2:=(mF.mp (mF.mp m).1).2;let#[t,ht,et]:=IA.mp (o9 m2);let g:=(G.tok t ht).2.2;have e1:aF h h=(h,h):=by rcases BF h h with e|e<;>exact e
 rw[e1] at et;rcases BF t.1 t.2 with e|e
 ·rw[e] at et;exact g ((eF Prod.fst et).trans (eF Prod.snd et).symm)
 rw[e] at et;exact g ((eF Prod.snd et).trans (eF Prod.fst et).symm)
def oC(H:Hp):ag->List (Str × Str × Str)->Prop:=Paired λy m=>∃t,y=.ref t/\H t\.tup [.str m.1,.str m.2.1,.str m.2.2]
theorem QG{hs:Xa}{ts:Xb}{qs:aM}:∀{ms:List (Str × Str × Str)} {row:List ak} {a s:ak},row.length=ms.length+1->(∀(j:Nat) m,ms[j]? = some m->∃x y,row[j]? = some x/\row[j+1]? = some y/\Mv hs ts qs x y m)->row.head? = some a->row.getLast? = some s->AQ hs ts qs a ms s
 |[],[],_,_,hl,_,_,_=>by cases hl
 |[],[x],a,s,_,_,h1,h2=>by
  cases cq h1;cases cq h2;exact .nil
 |[],_::_::_,_,_,hl,_,_,_=>by simp at hl
 |m::ms,[],_,_,hl,_,_,_=>by cases hl
 |m::ms,[x],_,_,hl,_,_,_=>by simp at hl
 |m::ms,x::y::r,a,s,hl,hm,h1,h2=>by
  cases cq h1;let#[x',y',e1,e2,mv]:=hm 0 m U;cases cq e1;cases cq e2;apply .cons mv (QG ⇑hl (λj m' hj=>hm (j+1) m' hj) U ?_);rw[List.getLast?_cons_cons] at h2;exact h2
section v
theorem Hr:bN ["goods","hands","after","piece","one","other"] ["goods","hands","after"] (a9 qU):=bT
inductive kQ (K:ai) (CG CW:Addr) (vs:ag) (H:Hp) (Q:VK) (E:XK):Prop
 |mk:∀(g p t u:Addr) (hs:Xa) (ts:Xb) (qs:aM) (fp:aq) (a b:ak) (m:Str × Str × Str),vs=[.ref g,.ref t,.ref u]->Gs K CG CW H g p hs ts qs fp->H t\.tup (sV a)->H u\.tup (sV b)->a.length=qs.length->Mv hs ts qs a b m->(∀x H',aa H H'->H' x\.tup [.str m.1,.str m.2.1,.str m.2.2]->Q (.ref x) H')->kQ K CG CW vs H Q E
theorem _k{f CG CW:Addr}(F:bC K "move_between" "move_between" qU f fd)(mZ:mg "zip"=none)(T:gd K CG)(cN:!bV CG 1 "names" o7 (BH K CG CW)):!au bh 2 f fd ["goods","hands","after"] (kQ K CG CW):=by
 exists F.bS Hr;let#[g,p,t,u,hs,ts,qs,fp,a,b,m,rfl,G,ht,hu,la,mv,k]:=h;have jb:aO 1 _:=hr.mono (by decide);refine' #[_,av ?s1 (aE ?s2),?kk]
 case' s1=>refine' d_ dI U ?i1 ?g1 (aE ?b1)
 case i1=>exact YE (by rfl) mZ %[Ar cN T.cl jb (pv 0),1,2|0]
 case g1=>exact kq U (dH (cm 3 Hr.nd) (dH (cm 4 Hr.nd) (dH (cm 5 Hr.nd) iK)))
 case b1=>exact b_ (fg s_ (pv 4) (pv 5)) (aE (bu (iA %[3,4,5|0]))) cg
 case s2=>exact bu Au
 let#[k0,q,h,h',q1,q2,q3,rfl,rfl]:=mv;let ne:=Yy G.Gd q3;have hk:k0<qs.length:=(bZ.mp q1).1;let#[dx,dw,dy,vs,dc,h1,_]:=id G.G.ex;apply#[_,U,g,dx,_,U,h1,wz _ _ _ Z0 Z0 Z0,g,p,hs,ts,qs,fp,U,G.G,λl hl=>?_];let#[s1,e1]:=aH (o:=.lst ((qs.map (·.1)).map V.str)) hl;generalize upd H l (.lst ((qs.map (·.1)).map V.str))=H1 at s1 e1 ⊢;apply#[_,U,_,U,l,t,u,_,_,_,U,.of e1,.of (s1 _ _ ht),.of (s1 _ _ hu),?_]
 let Iv:bO:=λi σ H'=>∃(v3 v4 v5:aJ),σ=[some (.ref g),some (.ref t),some (.ref u),v3,v4,v5]/\aa H1 H'/\i<=k0
 apply hV_ (by rw[ao,ao,ao];exact la) (by rw[ao,ao,ao,List.length_set];exact la) Iv #[none,none,none,U,aa.refl _,gB _] (λi σ H' _ ⟨_,_,_,_,sm,_⟩=>#[.of (sm _ _ e1),.of (sm _ _ (s1 _ _ ht)),.of (sm _ _ (s1 _ _ hu))]) ?_ ?_
 ·rintro i x y z σ H2 hx hy hz ⟨v3,v4,v5,rfl,s2,le⟩ tt KY;let#[n,hn,rfl]:=mz hx;let#[o1,ud,rfl]:=mz hy;let#[o2,fw,rfl]:=mz hz;let#[s3,e3]:=aH (o:=.tup [.str n,.str o1,.str o2]) KY;show gM _ _ _ _ _ (upd H2 tt (.tup [.str n,.str o1,.str o2])) _;generalize upd H2 tt (.tup [.str n,.str o1,.str o2])=H3 at s3 e3 ⊢;apply#[tt,_,U,.of e3,U,_,_,U,_,_,U,_,_,U,U,?_];apply#[_,U,_,U,U,_,U,?_];by_cases c:i=k0
  ·subst c;rw[q2] at ud;cases ud;rw[List.getElem?_set_self Z1] at fw;cases fw;rw[dG,q1] at hn;cases hn;rw[fC (λz:V.str h=V.str h'=>ne (V.str.inj z))];apply dD #[_,U,_,U,_,U,zl,λx hx=>?_];exact k x _ (((s1.trans s2).trans s3).trans (aa.new hx)) ay
  rw[List.getElem?_set_ne (bG c),ud] at fw;cases fw;rw[cz U];exact aL #[_,_,_,U,s2.trans s3,by omega]
 rintro σ H2 ⟨v3,v4,v5,rfl,s2,le⟩;rw[ao,ao] at le;omega
theorem yF:bN ["goods","row"] ["goods","row"] (a9 qV):=bT
inductive kR (K:ai) (CG CW:Addr) (vs:ag) (H:Hp) (Q:VK) (E:XK):Prop
 |mk:∀(g p l:Addr) (ys:ag) (hs:Xa) (ts:Xb) (qs:aM) (fp:aq) (a s:ak) (n:Nat) (row:List ak),vs=[.ref g,.ref l]->Gs K CG CW H g p hs ts qs fp->H l\.lst ys->gN H ys row->Row (Nx hs ts qs) a s n row->(∀z∈row,z.length=qs.length)->n<1000000->(∀x zs ms H',aa H H'->H x=none->H' x\.lst zs->oC H' zs ms->AQ hs ts qs a ms s->ms.length=n->Q (.ref x) H')->kR K CG CW vs H Q E
theorem Qv{N:ak->ak->Prop}:∀{row:List ak},Cn N row->∀{j:Nat} {x y:ak},row[j]? = some x->row[j+1]? = some y->N x y
 |[],_,_,_,_,h,_=>by cases h
 |[_],_,j,_,_,_,h=>by simp at h
 |a::b::r,c,0,x,y,h1,h2=>by
  cases cq h1;cases cq h2;exact c.1
 |a::b::r,c,j+1,x,y,h1,h2=>Qv c.2 ⇑h1 ⇑h2
theorem L5{H:Hp}{ys:ag}{l:List ak}(h:gN H ys l){j:Nat}{s:ak}(hs:l[j]? = some s):∃t,ys[j]? = some (.ref t)/\H t\.tup (sV s):=by
 have hj:j<l.length:=(bZ.mp hs).1;let hl:=bj h;let#[t,e,ht]:=eO h j Z1 hj;rw[aX hj] at hs;cases hs;exact#[t,by rw[aX Z1,e],ht]
theorem Zk{f CG CW:Addr}(F:bC K "moves_along" "moves_along" qV f fd)(B:Bi mg)(cB:!bx 2 "move_between" ["goods","hands","after"] (kQ K CG CW)):!au bh 3 f fd ["goods","row"] (kR K CG CW):=by
 exists F.bS yF;let#[g,p,l,ys,hs,ts,qs,fp,a,s,n,row,rfl,G,hl,sp,Gf,vl,n6,k]:=h;let sz:=cU;let vt:=bj sp;let lr:=Gf.len;refine' #[_,aE (bu (ku ["k","goods","row"] 1 [0,1] (AC (by rfl) B.range %[bJ Bx (cZ h_ (by rfl) B.len gF %[1|0]) aD|0]) (λfp s H=>?g1) (λfp s H=>mE) (λfp s H=>?e1))),?kk]
 case g1=>exact gg (i:=0) (show (["k","goods","row"]:af).Nodup by decide +kernel) U (Or.inl U)
 case e1=>exact bc cB hr %[1,bw (zg (K:=K) rH hJ) (pv 2) (pv 0),bw (zg (K:=K) rH hJ) (pv 2) (bJ ia (pv 0) aD)|0]
 apply#[_,U,l,_,U,.inl (.of hl),_,_,U,U,_,U,by show (-(2 ^ 62):Int)<=(ys.length:Int) - 1;omega,by show (ys.length:Int) - 1<2 ^ 62;omega,λD hD=>?_];apply Mx (own:=1) (fv:=[some (.ref g),some (.ref l)]) U fX n (λi out H'=>aa H H'/\H' D\.lst out/\∃ms,oC H' out ms/\ms.length=i/\∀(j:Nat) m,ms[j]? = some m->∃x y,row[j]? = some x/\row[j+1]? = some y/\Mv hs ts qs x y m) #[aa.new hD,ay,[],.nil,U,by simp] (λout H' ⟨sm,dM,ms,mv,lm,tr⟩=>?_) (λi out H' hi ⟨sm,dM,ms,mv,lm,tr⟩=>?_)
 ·apply#[?_,k D out ms H' sm hD dM mv (QG Z1 tr Gf.hd Gf.lt) lm];show ((ys.length:Int) - 1).toNat<=n;omega
 apply#[by show i<((ys.length:Int) - 1).toNat;omega,?_];rintro x H2 ⟨rfl,rfl⟩;rw[Int.zero_add];apply#[_,U,U,λNx' hN=>fU ?_];have h1:row[i]? = some (row[i]' Z1):=aX Z1;have h2:row[i+1]? = some (row[i+1]' Z1):=aX Z1;obtain⟨x1,e1⟩:∃x,x=row[i]' Z1:=#[_,U];obtain⟨x2,e2⟩:∃x,x=row[i+1]' Z1:=#[_,U];rw[<- e1] at h1;rw[<- e2] at h2;let#[t1,y1,uc]:=L5 sp h1;let#[t2,y2,A9]:=L5 sp h2;let#[m,mm]:=Qv Gf.cn h1 h2;apply#[_,U,_,U,_,U,l,_,i,.ref t1,U,U,.of (sm _ _ hl),L2.d0 y1,_,U,_,U,_,_,U,U,l,_,((i:Int)+1),.ref t2,U,U,.of (sm _ _ hl),?_,g,p,t1,t2,hs,ts,qs,fp,x1,x2,m,U,G.same sm,sm _ _ uc,sm _ _ A9,vl _ (cy h1),mm,λz H3 s3 e3=>?_]
 ·rw[show ((i:Int)+1)=((i+1:Nat):Int) by omega];exact L2.d0 y2
 let lo:=bj mv;apply#[out,s3 _ _ dM,by omega,hN _ _ #[fQ (sm.trans s3) hD,ay,ms++[m],?_,by rw[eI,lm];rfl,λj m' hj=>?_]]
 ·have tD:∀{c xs},H3 c\.tup xs->upd H3 D (.lst (out++[.ref z])) c\.tup xs:=λe=>by
   rw[aw (bK e (s3 _ _ dM) nofun)];exact e
  exact gR (Paired.aU mv λy m ⟨t,e,ht⟩=>#[t,e,tD (s3 _ _ ht)]) (.cons #[z,U,tD e3] .nil)
 by_cases c:j<ms.length
 ·rw[wC c] at hj;exact tr j m' hj
 have:j=ms.length:=by
  have:=(bZ.mp hj).1;rw[eI,jn] at this;omega
 subst this;rw[x5 (a_ _),Nat.sub_self] at hj;cases cq hj;rw[lm];exact#[x1,x2,h1,h2,mm]
end
theorem QA{hs:Xa}{ts:Xb}{qs:aM}:∀{row:List ak} {a:ak},Cn (Nx hs ts qs) row->row.head? = some a->Vs hs qs a->∀z∈row,Vs hs qs z
 |[],_,_,_,_,_,hz=>by cases hz
 |[x],a,_,h,v,z,hz=>by
  cases cq h;rw[eg.mp hz];exact v
 |x::y::r,a,c,h,v,z,hz=>by
  cases cq h;rcases bW.mp hz with rfl|hz
  ·exact v
  exact QA c.2 U (c.1.vs v) z hz
section v
theorem Im:bN ["goods","stand","limit","most","placed","reach","hands"] oA (a9 M8):=bT
structure Bo (H:Hp) (d:Addr) (hs:Xa) (qs:aM) (fp:aq) (s0:ak) (ns:af) (f:bg):Prop where
 hd:H d\.dK (ft ns f)
 vV:d∉fp
 ok:Nb hs qs ns f
 s0:s0=(qs.map (·.1)).map f
inductive Ih (K:ai) (CG CW:Addr) (vs:ag) (H:Hp) (Q:VK) (E:XK):Prop
 |mk:∀(g p d lt:Addr) (hs:Xa) (ts:Xb) (qs:aM) (fp:aq) (s0:ak) (ns:af) (f:bg) (l:Int × Int) (m:Nat),vs=[.ref g,.ref d,.ref lt,.int m]->Gs K CG CW H g p hs ts qs fp->Bo H d hs qs fp s0 ns f->hU H lt l->vU l->1<=m->m<1000000->(∀t x ys ms s H',aa H H'->H x=none->H' t\.tup [.str "moves",.ref x]->H' x\.lst ys->oC H' ys ms->AQ hs ts qs s0 ms s->Ds (Nx hs ts qs) s0 ms.length s->je hs qs s l=true->(∀j z,j<ms.length->Ds (Nx hs ts qs) s0 j z->je hs qs z l=false)->Q (.ref t) H')->(∀t H',aa H H'->H' t\.tup [.str "none"]->(∀j z,Ds (Nx hs ts qs) s0 j z->je hs qs z l=false)->Q (.ref t) H')->(∀t H',aa H H'->H' t\.tup [.str "more"]->More (Nx hs ts qs) s0 m->Q (.ref t) H')->Ih K CG CW vs H Q E
theorem Bo.vs{H:Hp}{d:Addr}{hs:Xa}{qs:aM}{fp:aq}{s0:ak}{ns:af}{f:bg}(S:Bo H d hs qs fp s0 ns f):Vs hs qs s0:=by
 apply⟨by rw[S.s0,ao,ao],λh hh=>?_⟩;rw[S.s0] at hh;let#[n,hn,rfl]:=br.mp hh;exact (fD hs).mem_iff.mpr (S.ok.at_ n (S.ok.perm.mem_iff.mpr hn))
theorem gU_{CG CW CR:Addr}(F:bC K "fewest_moves" "fewest_moves" M8 f0 fd)(B:Bi mg)(T:mK K CR)(cL:!bx 4 "check_limit" gf qy)(cS:!bx 2 "checked_stand" ["goods","stand"] (Iq K CG CW))(cF:!bx 2 "is_whole_from" Bl Ip)(cR:!jZ CR 5 "Reach" oy (IG K CG CW CR))(cE:!bx 7 "is_even" oz (Og K CG CW))(cA:!bx 3 "moves_along" ["goods","row"] (kR K CG CW))(cT:!bV CR 1 "row_to" Bn (kK CR))(cW:!bV CR 2 "widen" ["self","most"] (Ii CR)):!au bh 8 f0 fd oA (Ih K CG CW):=by
 exists F.bS Im;let#[g,p,d,lt,hs,ts,qs,fp,s0,ns,f,l,m,rfl,G,S,hl,lo,m1,m6,kM,kN,kO]:=h;let hu:=fN hr;let sz:=cU;have n8:(aN hs).length<=8:=by rw[G.Gd.gT];exact G.Gd.h8
 have jb:aO 1 _:=hr.mono (by decide);have iR:aO 2 _:=hr.mono (by decide);have GL:aO 4 _:=hr.mono (by decide);refine' #[_,av ?s1 (av ?s2 (av ?s3 (av ?s4 (av ?s5 (aE ?s6))))),?kk]
 case s1=>exact kC (bc cL hr %[2|0])
 case s2=>exact bo 4 Im.nd (bc cS hr %[0,1|0])
 case s3=>exact b_ (fh (eZ (bc cF hr %[3,aD|0]))) gi cg
 case s4=>exact bo 5 Im.nd (GJ cR hr %[0,4|0])
 case' s5=>refine' FG dI ?c5 (av ?b1 (aE ?b2))
 case c5=>exact fg (MM (ml hr 0)) (gc (pv 5) U) (fE bF)
 case' b1=>refine' d_ dI U ?i1 ?g1 (aE ?e1)
 case i1=>exact dF (gc (pv 5) U)
 case g1=>exact cm 6 Im.nd
 case e1=>exact b_ (eZ (bc cE hr %[0,6,2|0])) (aE (bu (iA %[xU,bc cA hr %[0,iZ cT T.cl jb (pv 5) %[6|0]|0]|0]))) cg
 case b2=>exact b_ (fh (eZ (iZ cW T.cl iR (pv 5) %[3|0]))) (aE (bu (jh OB (by rfl) B.tuple wx %[fE %[xU|0]|0]))) cg
 case s6=>exact bu (jh OB (by rfl) B.tuple wx %[fE %[xU|0]|0])
 apply#[_,U,lt,l,U,hl,lo,?_];apply#[_,U,_,U,g,p,d,hs,ts,qs,fp,ns,f,U,G.G,S.vV,S.hd,S.ok,G.nd,G.cX,λd1 H1 s1 n1 e1=>?_];apply#[_,U,m,1,U,_,U,?_];rw[cz (show (1:Int)<=(m:Int) by omega)];apply aL ?_;apply#[_,U,_,U,λr dx jc zG ne=>?_];have s2:aa H1 (upd (upd H1 dx (.own r)) r (.ins CR dx [])):=(aa.new zG).trans (aa.new (by rw[aw ne.symm];exact jc));have e2:upd (upd H1 dx (.own r)) r (.ins CR dx []) r\.ins CR dx []:=ay;have rn:H r=none:=s1.free jc;generalize upd (upd H1 dx (.own r)) r (.ins CR dx [])=H2 at s2 e2 ⊢;let i9:=s1.trans s2;apply#[r,dx,g,p,d1,hs,ts,qs,fp,f,U,e2,G.same i9,s2 _ _ e1,λa x n H3 k3 an R3=>#[U,?_]];have sQ:(qs.map (·.1)).map f=s0:=S.s0.symm;rw[sQ] at R3;have ON:H a=none:=i9.free an;have eU:aa H H3:=λb o e=>k3 b o (i9 _ _ e) (bq e rn);let v0:=S.vs
 let N:ak->ak->Prop:=Nx hs ts qs
 let Iv:bO:=λq σ H'=>∃(v6:aJ) (n:Addr) (pa:List (ak × Option ak)) (nw:List ak) (k:Nat),σ=[some (.ref g),some (.ref d),some (.ref lt),some (.int m),some (.ref d1),some (.ref r),v6]/\aa H H'/\vS CR H' r a x n hs ts qs pa nw/\Bf N s0 k (pa.map (·.1)) nw/\ph N s0 pa/\pa.length<=m/\(nw≠[]->k+1<=pa.length)/\(∀j z,j<k->Ds N s0 j z->je hs qs z l=false)/\q=(m - pa.length)+(if nw=[] then 0 else 1)
 apply#[Iv,#[_,_,n,[(s0,none)],[s0],0,U,eU,R3,Bf.start,?_,by simpa using m1,by simp,λj z hj=>by omega,U],?_]
 ·intro e he;rw[eg.mp he];exact .inl #[U,U]
 rintro q σ H4 ⟨v6,n,pa,nw,k,rfl,s4,R,bf,po,pm,kp,ev,rfl⟩;let#[#[HN,vG],ex4,#[gX,jB,BN],#[AW,zA,iD]]:=id R;let l4:=bj iD;have Ce:∀z∈nw,Vs hs qs z:=λz hz=>((bf.new z).mp hz).1.vs v0;apply#[_,U,r,CR,HN,_,_,U,vG,T.cl,T.nN,BE _ _ _,zl,λb hb=>?_];let#[s5,e5]:=aH (o:=.lst []) hb;generalize upd H4 b (.lst [])=H5 at s5 e5 ⊢;apply#[n,b,AW,U,U,.of (s5 _ _ zA),.of e5,_,U,?_];let pG:=s4.trans s5;by_cases c:nw=[]
 ·have ye:AW=[]:=List.length_eq_zero_iff.mp (by rw[l4,c];rfl);rw[ye];apply aL ?_;apply#[zl,λl1 eX=>?_];let#[s6,e6]:=aH (o:=.lst [.str "none"]) eX;generalize upd H5 l1 (.lst [.str "none"])=H6 at s6 e6 ⊢;apply#[l1,_,U,.inl #[.of e6,λt ht=>?_]];apply kN t _ ((pG.trans s6).trans (aa.new ht)) ay λj z dz=>?_;rw[c] at bf;exact ev j z (bf.last dz) dz
 have ye:AW.isEmpty=false:=by
  cases AW with
  |nil=>
   cases nw with
   |nil=>exact absurd U c
   |cons _ _=>cases l4
  |cons _ _=>rfl
 rw[ye];let kpa:=kp c;apply dD #[λaV H'=>∃q',q'<(m - pa.length)+(if nw=[] then 0 else 1)/\Iv q' aV H',λ_ _ h=>h,?_];rw[aA c];apply#[_,U,r,CR,HN,_,_,U,s5 _ _ vG,T.cl,T.nN,BE _ _ _,n,U,#[_,.of (s5 _ _ zA)],?_]
 let Iw:bO:=λi σ H'=>∃(v6:aJ),σ=[some (.ref g),some (.ref d),some (.ref lt),some (.int m),some (.ref d1),some (.ref r),v6]/\aa H4 H'/\∀(j:Nat) z,j<i->nw[j]? = some z->je hs qs z l=false
 apply gh (K:=K) (a:=n) (xs:=AW) Iw ?_ ?_ ?_ ?_
 ·exact#[_,U,s5,λj z hj=>by omega]
 ·rintro i σ H' _ ⟨_,_,sm,_⟩;exact .of (sm _ _ zA)
 ·rintro i y σ H6 hy ⟨VD,rfl,s6,Mj⟩;have hi:i<AW.length:=(bZ.mp hy).1;have hz:nw[i]? = some (nw[i]' Z1):=aX Z1;obtain⟨z,ez⟩:∃z,z=nw[i]' Z1:=#[_,U];rw[<- ez] at hz;let#[t,yt,ht]:=L5 iD hz;rw[hy] at yt;cases yt;let zm:=cy hz;let zd:=(bf.new z).mp zm;let gq:=s4.trans s6;apply#[_,U,_,U,_,U,g,p,t,lt,hs,ts,qs,fp,z,l,U,G.same gq,s6 _ _ ht,Ce z zm,gq _ _ hl,lo,λH7 s7=>#[_,U,?_]];let w9:=s6.trans s7;let oN:=s4.trans w9;apply bY (λcc=>?_) (λcc=>?_)
  ·apply#[_,U,_,U,r,HN,_,U,w9 _ _ vG,Ir _ _ _ Z0 Z0 Z0,_,U,r,x,a,n,t,hs,ts,qs,pa,nw,s0,z,k,U,R.same w9,w9 _ _ ht,zd,bf.nd,λj u hj wu=>(bf.all u).mpr #[j,hj,wu],po,by omega,λl8 U_ row H8 s8 n8' e8 V9 J5=>?_];apply#[g,p,l8,U_,hs,ts,qs,fp,s0,z,k,row,U,(G.same oN).same s8,e8,V9,J5,λu vD=>(QA J5.cn J5.hd v0 u vD).len,by omega,λx9 zs ms H9 s9 n9 e9 mv tr lm=>#[zl,λt9 K0=>?_]];let We:=s8.trans s9;let Ge:=oN.trans We;let sA:=aa.new (o:=.tup [.str "moves",.ref x9]) K0;apply kM t9 x9 zs ms z _ (Ge.trans sA) (oN.free (s8.free n9)) ay (sA _ _ e9) (Paired.aU mv λy m ⟨t,e,ht⟩=>#[t,e,sA _ _ ht]) tr (by rw[lm];exact zd) cc λj u hj du=>ev j u Z1 du
  apply#[_,U,w9,λj u hj vD=>?_];by_cases c2:j=i
  ·subst c2;rw[hz] at vD;cases vD;simpa using cc
  exact Mj j u Z1 vD
 rintro σ H6 ⟨VD,rfl,s6,Mj⟩;let gq:=s4.trans s6
 have evk:∀j z,j<k+1->Ds N s0 j z->je hs qs z l=false:=λj z hj dz=>by
  by_cases c2:j=k
  ·subst c2;let#[i,hi,e]:=gH ((bf.new z).mpr dz);exact Mj i z Z1 (by rw[aX hi,e])
  exact ev j z Z1 dz
 have sN:∀{H7:Hp},pC r a H6 H7->aa H H7:=λb7 b o e=>b7 b o (gq _ _ e) (bq e rn) (bq e ON);apply#[_,U,r,HN,_,U,s6 _ _ vG,Ir _ _ _ Z0 Z0 Z0,_,U,r,x,a,n,hs,ts,qs,pa,nw,s0,k,m,U,R.same s6,bf,po,Ce,n8,G.cX,by omega,by omega,λH7 b7 more=>#[_,U,dD ?_],λn' lP lQ H7 b7 nn R7 FC Kb r_ Ke=>#[_,U,aL ?_]]
 ·apply#[zl,λl1 eX=>?_];let#[s8,e8]:=aH (o:=.lst [.str "more"]) eX;generalize upd H7 l1 (.lst [.str "more"])=H8 at s8 e8 ⊢;apply#[l1,_,U,.inl #[.of e8,λt ht=>?_]];exact kO t _ (((sN b7).trans s8).trans (aa.new ht)) ay more
 apply#[_,?_,_,n',lP,lQ,k+1,U,sN b7,R7,FC,Kb,?_,?_,evk,U]
 ·split
  ·rename_i c3
   rw[c3] at r_;simp at r_;omega
  rename_i c3
  have:1<=lQ.length:=by
   cases lQ with
   |nil=>exact absurd U c3
   |cons _ _=>simp
  rcases Ke with o|o
  ·omega
  exact absurd o c3
 ·rcases Ke with o|o
  ·exact o
  rw[o] at r_;simp at r_;omega
 intro c3
 have:1<=lQ.length:=by
  cases lQ with
  |nil=>exact absurd U c3
  |cons _ _=>simp
 omega
end
structure jX (ts:Xb) (p:Pc):Prop where
 g:jW ts p
 sub:∀ws,p.2.2\ws->∀w∈ws,w∈ts
theorem UI:∀us:Xb,Paired (λw u=>w=u∨w=(u.2,u.1)) us us
 |[]=>.nil
 |u::us=>.cons (.inl U) (UI us)
variable{f:Addr}
section v
theorem AK:bN [hG,"_law_ties_here","_law_most",ur,"_law_k","_law_name_here","_law_some","_law_weight","_law_ways"] tN (a9 Oo):=bT
inductive Of (K:ai) (vs:ag) (H:Hp) (Q:VK) (E:XK):Prop
 |mk:∀(l lt:Addr) (m:Nat) (zs:ag) (ts:Xb),vs=[.ref l,.ref lt,.int m]->m<=8->dQ H l->H lt\.lst zs->bR K H zs (ts.map kT)->lt≠l->ts.length<64->(∀t∈ts,v_ t)->(ts.map kO).Nodup->(∀(a:Addr) (ys:ag) (ps:aM) (H':Hp),bz l H H'->dQ H' l->H a=none->H' a\.lst ys->jM K H' ys ps->(∀p∈ps,jX ts p)->(ps.map (·.1)).Nodup->ps.length<=m->Q (.ref a) H')->Of K vs H Q E
theorem fD_(F:bC K "_law_pieces" "_law_pieces" Oo f fd)(B:Bi mg)(cD:!bx 1 wb xN AE)(cN:!bx 2 "_law_name" [hG] MY):!au bh 3 f fd tN (Of K):=by
 exists F.bS AK;let#[l,lt,m,zs,ts,rfl,m8,st,dW,tu,y8,cX,good,nd,k]:=h;let sz:=cU;let lz:=bj tu;rw[ao] at lz;refine' #[_,av ?s1 (av ?s2 (aE ?s3)),?kk]
 case s1=>exact bo 3 AK.nd (fE bF)
 case' s2=>refine' d_ dI U ?i2 ?g2 (av ?b1 (aE ?b2))
 case i2=>exact AC (by rfl) B.range %[bc cD hr %[0,bJ ia (pv 2) aD|0]|0]
 case g2=>exact cm 4 AK.nd
 case b1=>exact bo 5 AK.nd (bc cN hr %[0|0])
 case' b2=>refine' b_ (fg (TV iq (ml hr 0)) (pv 5) (ku [vT] 1 [] (dF (pv 3)) (λfp s H=>?g3) (λfp s H=>mE) (λfp s H=>?e3)) (by with_unfolding_all rfl)) (av ?c1 (av ?c2 (av ?c3 (aE ?c4)))) cg
 case g3=>exact gg (i:=0) (show ([vT]:af).Nodup by decide +kernel) U (Or.inl U)
 case e3=>exact bw (zg (K:=K) oO cu) (pv 0) aD
 case c1=>exact bo 6 AK.nd (fE %[bJ ia aD (bc cD hr %[0,aD|0]),bJ ia aD (bc cD hr %[0,aD|0]),bJ ia aD (bc cD hr %[0,bJ Yh aD aD|0])|0])
 case c2=>exact bo 7 AK.nd (bw hJ (pv 6) (bc cD hr %[0,aD|0]))
 case' c3=>refine' Ms (i:=8) ["_law_tie",hG] 1 [0] AK.nd U (Or.inl U) (dF (pv 1)) (λfp s H=>?g4) (λfp s H=>?t4) (λfp s H=>?e4)
 case g4=>exact gg (i:=0) (show (["_law_tie",hG]:af).Nodup by decide +kernel) U (Or.inl U)
 case t4=>exact HU (fg GW (bc cD hr %[1,aD|0]) aD)
 case e4=>exact pv 0
 case c4=>exact kC (om l_ uD uE tK (pv 3) %[iA %[5,7,bw hJ (fE %[Au,Au,8|0]) (bc cD hr %[0,aD|0])|0]|0])
 case s3=>exact bu (pv 3)
 apply#[zl,λa ha=>?_];let#[Pe,oX]:=st.some;have gx:l≠a:=bq oX ha;let#[s1,e1]:=aH (o:=.lst []) ha;let uW:=st.same s1;generalize upd H a (.lst [])=H1 at s1 e1 uW ⊢;apply#[_,U,_,U,_,_,U,U,l,(m:Int)+1,U,by omega,by omega,uW,λr H2 r0 rm b2 gn=>?_];apply#[_,U,by show (-(2 ^ 62):Int)<=r;omega,by show r<(2 ^ 62:Int);omega,?_]
 let Iv:bO:=λi σ H'=>∃(v4 v5 v6 v7 v8:aJ) (ys:ag) (ps:aM),σ=[some (.ref l),some (.ref lt),some (.int m),some (.ref a),v4,v5,v6,v7,v8]/\bz l H H'/\dQ H' l/\H' a\.lst ys/\Paired (λy p=>∃t v,y=.ref t/\H' t\.tup [.str p.1,.int p.2.1,v]/\bU K H' v p.2.2/\v≠.ref a) ys ps/\(∀p∈ps,jX ts p)/\(ps.map (·.1)).Nodup/\ps.length<=i
 apply BG (lo:=0) (n:=r.toNat) Iv #[none,none,none,none,none,[],[],U,(bz.of s1).trans b2,gn,b2 _ _ e1 gx.symm,.nil,by simp,.nil,a_ _] ?_ ?_
 ·rintro i σ H3 hi ⟨v4,v5,v6,v7,v8,ys,ps,rfl,b3,iC,jC,Gm,gp,u_,le⟩;let ly:=bj Gm;apply#[_,U,l,U,iC,λx H4 nx b4 iN=>?_];let#[Vf,ue]:=iC.some;let jB:=b4 _ _ jC gx.symm
  have Gj:∀{Ha Hb:Hp},bz l Ha Hb->dQ Ha l->∀{y p},(∃t v,y=V.ref t/\Ha t\.tup [.str p.1,.int p.2.1,v]/\bU K Ha v p.2.2/\v≠.ref a)->∃t v,y=V.ref t/\Hb t\.tup [.str (p:Pc).1,.int p.2.1,v]/\bU K Hb v p.2.2/\v≠.ref a:=by
   intro Ha Hb bb sb y p h;let#[t,v,e,ht,wy,na]:=h;let#[xs,e2]:=sb.some;exact#[t,v,e,bb _ _ ht (bK ht e2 nofun),wy.but bb sb,na]
  let P5:=Paired.aU Gm λy p h=>Gj b4 iC h;apply#[_,U,_,U,a,U,#[_,.of jB],λD hD=>?_];apply kD (own:=1) (fv:=[]) (xs:=ys) U fX (λi out H'=>aa H4 H'/\H' D\.lst out/\out=((ps.take i).map (·.1)).map V.str) #[aa.new hD,ay,U] (λi out H' _ ⟨sm,_,_⟩=>.of (sm _ _ jB)) (λout H5 ⟨s5,iV,eo⟩=>?_) (λj y out H' hy ⟨sm,dM,eo⟩=>?_);rotate_left 1
  ·have hj:j<ys.length:=(bZ.mp hy).1;let#[t,v,e,ht,_]:=eO P5 j hj Z1;rw[aX hj] at hy;cases hy;rw[e];have hp:ps[j]? = some (ps[j]' Z1):=aX Z1;apply#[_,U,U,λNx hN=>fU ?_];apply#[_,U,t,_,0,_,U,U,.of (sm _ _ ht),L2.d0 (j:=0) U,out,dM,?_,hN _ _ #[fQ sm hD,ay,?_]]
   ·rw[eo,ao,ao,dR];omega
   rw[x6 _ hp,fe,eo];rfl
  rw[ly,eG] at eo;subst eo;have b5:bz l H H5:=(b3.trans b4).trans (bz.of s5);let iM:=iN.same s5;let EI:=s5 _ _ jB;let P4:=Paired.aU P5 λy p h=>Gj (bz.of s5) iN h;apply#[x,_,U,TU iV,_,U,?_];apply bY (λc=>?_) (λc=>?_)
  ·have Km:x∉ps.map (·.1):=⇑c
   apply#[_,U,l,3,U,by decide,by decide,iM,λr1 H6 q0 q1 b6 j8=>#[_,_,U,U,?_]];apply#[_,U,l,9,U,by decide,by decide,j8,λr2 H7 q2 q3 b7 kI=>#[_,_,U,U,?_]];apply#[_,U,_,_,U,U,#[by decide,by decide,by decide],l,_,U,by decide,by decide,kI,λr3 H8 q4 q5 b8 CB=>#[_,_,U,U,?_]];have q5:r3<1000000000:=q5;apply#[zl,λp hp=>?_];let#[s9,e9]:=aH (o:=.lst [.int (1+r1),.int (1+r2),.int (1+r3)]) hp;let AZ:=CB.same s9
   have pl:p≠l:=by
    let#[xs,e]:=CB.some;exact (bq e hp).symm
   have US:bz l H5 (upd H8 p (.lst [.int (1+r1),.int (1+r2),.int (1+r3)])):=((b6.trans b7).trans b8).trans (bz.of s9);generalize upd H8 p (.lst [.int (1+r1),.int (1+r2),.int (1+r3)])=H9 at s9 e9 AZ US ⊢;apply#[_,U,_,U,l,3,U,by decide,by decide,AZ,λr4 HA q6 q7 bA JT=>?_];let#[y,hy,wt,ew,w1,w2]:=Es (p:=λy:V=>∃n:Int,y=.int n/\1<=n/\n<=1000000000) (a:=V.int (1+r1)) (b:=.int (1+r2)) (c:=.int (1+r3)) q6 q7 #[_,U,by omega,by omega] #[_,U,by omega,by omega] #[_,U,by omega,by omega];subst ew;apply#[p,_,_,_,U,U,.of (bA _ _ e9 pl),hy,?_];let OI:=US.trans bA;have Rm:bz l H HA:=b5.trans OI;let Eg:=Rm _ _ dW y8;let VN:=jN tu Rm oX;apply#[_,U,lt,U,#[_,.of Eg],λD2 zS=>?_]
   have O8:D2≠l:=by
    let#[xs,e]:=JT.some;exact (bq e zS).symm
   apply kD (own:=1) (fv:=[some (.ref l)]) (xs:=zs) U fX (λi out H'=>∃us:Xb,bz l HA H'/\dQ H' l/\H' D2\.lst out/\bR K H' out (us.map kT)/\us.Sublist (ts.take i)) #[[],bz.of (aa.new zS),JT.same (aa.new zS),ay,.nil,List.nil_sublist _] (λi out H' _ ⟨_,b,_⟩=>.of (b _ _ Eg y8)) (λVa HB ⟨us,bB,F9,GY,VM,sub⟩=>?_) (λi x out H' hx ⟨us,b,stx,hDx,Pm,sub⟩=>?_);rotate_left 1
   ·let#[t,ht,p,rfl,hp]:=ou VN hx;apply#[_,U,U,λNx hN=>?_];apply#[_,U,l,3,U,by decide,by decide,stx,λr2 H4 q0 q1 b4 iN=>#[_,_,U,U,_,U,?_]];let#[Vd,oW]:=stx.some;let yg:=jN Pm b4 oW;let oY:=b4 _ _ hDx O8;let#[Vj,e1]:=JT.some;have ij:p≠l:=bK hp e1 nofun;apply bY (λc2=>?_) (λc2=>?_)
    ·let lo:=bj Pm;rw[ao] at lo;let ls:=sub.length_le;rw[dR] at ls;let D9:=b4 _ _ (b _ _ hp ij) ij;apply#[_,U,out,oY,by omega,hN _ _ #[us++[t],λb' o e ne=>?_,?_,ay,?_,?_]]
     ·rw[aw (bq e zS)];exact b4 _ _ (b _ _ e ne) ne
     ·unfold dQ;rw[aw O8.symm];exact iN
     ·rw[fe];exact IF (gY_ yg D9) oY
     rw[tJ,ht];exact sub.append (List.Sublist.refl _)
    apply hN _ _ #[us,b.trans b4,iN,oY,yg,sub.trans ?_];rw[tJ];exact List.sublist_append_left _ _
   rw[lz,eG] at sub;let OH:=OI.trans bB;let RH:=OH _ _ EI gx.symm;let WU:=Paired.aU P4 λy p h=>Gj OH iM h
   have D2a:D2≠a:=λz=>by
    have:=OI _ _ EI gx.symm;rw[<- z,zS] at this;cases this
   apply#[_,U,.inl #[U,_,.of RH],_,U,_,U,_,U,zl,λlx oW=>?_];let#[sC,eC]:=aH (o:=.lst [.non,.non,.ref D2]) oW;let stC:=F9.same sC
   have Ku:lx≠l:=by
    let#[xs,e]:=F9.some;exact (bq e oW).symm
   generalize upd HB lx (.lst [.non,.non,.ref D2])=HC at sC eC stC ⊢;apply#[_,U,l,3,U,by decide,by decide,stC,λr5 HD q8 q9 bD V5=>?_];have FH:bz l HB HD:=(bz.of sC).trans bD;let VJ:=jN VM FH (F9.some.choose_spec);let hDD:=FH _ _ GY O8;let#[v,hv,o,wy,fresh,gw,gs]:=Es (p:=λv:V=>∃o,bU K HD v o/\v≠.ref a/\(∀ws,o\ws->E9 ts ws)/\∀ws,o\ws->∀w∈ws,w∈ts) (a:=V.non) (b:=.non) (c:=.ref D2) q8 q9 #[none,U,nofun,(λws z=>by cases z),(λws z=>by cases z)] #[none,U,nofun,(λws z=>by cases z),(λws z=>by cases z)] #[some us,#[D2,Va,U,hDD,VJ],(λz=>D2a (V.ref.inj z)),(λws z=>by cases z;exact ZE good nd sub (UI us)),(λws z w hw=>by cases z;exact sub.subset hw)];apply#[lx,_,_,_,U,U,.of (bD _ _ eC Ku),hv,zl,λt ht=>?_];let haD:=FH _ _ RH gx.symm;let#[sE,eE]:=aH (o:=.tup [.str x,.int wt,v]) ht;let A4:=Paired.aU WU λy p h=>Gj (FH.trans (bz.of sE)) F9 h;let Pr:=V5.same sE;let Pg:=wy.same sE;let bE:=(b5.trans OH).trans (FH.trans (bz.of sE));let Be:=sE _ _ haD;generalize upd HD t (.tup [.str x,.int wt,v])=HE at sE eE A4 Pr Pg bE Be ⊢;apply#[a,_,_,U,U,Be,by omega,?_];apply#[_,_,_,_,_,_,ps++[(x,wt,o)],U,λb' o' e ne=>?_,?_,ay,?_,?_,?_,?_]
   ·rw[aw (bq e ha)];exact bE _ _ e ne
   ·unfold dQ;rw[aw gx];exact Pr
   ·exact gR (Paired.aU A4 λy p ⟨t',v,e,D4,wy,na⟩=>#[t',v,e,by rw[aw (bK D4 Be nofun)];exact D4,wy.put Be na,na]) (.cons #[t,v,U,by rw[aw (bK eE Be nofun)];exact eE,Pg.put Be fresh,fresh] .nil)
   ·intro q hq;rcases dN.mp hq with hq|hq
    ·exact gp q hq
    rw[eg.mp hq];exact#[#[nx,w1,w2,gw],gs]
   ·rw[fe,List.nodup_append];exact#[u_,by simp,λa1 h1 a2 h2 e=>Km (by rw[<- (eg.mp h2:a2=x),<- e];exact h1)]
   rw[eI,jn];omega
  exact#[_,_,_,_,_,ys,ps,U,b5,iM,EI,P4,gp,u_,by omega]
 rintro σ H3 ⟨v4,v5,v6,v7,v8,ys,ps,rfl,b3,iC,jC,Gm,gp,u_,le⟩;exact#[_,U,k a ys ps H3 b3 iC ha jC (Paired.aU Gm λy p ⟨t,v,e,ht,wy,_⟩=>#[t,v,e,ht,wy]) gp u_ Z1]
end
section v
theorem qF:bN oB oB (a9 Nv):=bT
inductive MQ (K:ai) (vs:ag) (H:Hp) (Q:VK) (E:XK):Prop
 |mk:∀(l lh lp:Addr) (yh yp:ag) (hs:Xa) (ps:aM),vs=[.ref l,.ref lh,.ref lp]->dQ H l->H lh\.lst yh->bR K H yh (hs.map kH)->lh≠l->1<=hs.length->hs.length<=8->H lp\.lst yp->jM K H yp ps->lp≠l->(ps.map (·.1)).Nodup->ps.length<=8->(∀d f H',bz l H H'->dQ H' l->H d=none->H' d\.dK (ft (ps.map (·.1)) f)->(∀n∈ps.map (·.1),f n∈hs.map (·.1))->Q (.ref d) H')->MQ K vs H Q E
theorem fX_(F:bC K "_law_stand" "_law_stand" Nv f fd)(B:Bi mg)(cD:!bx 1 wb xN AE):!au bh 2 f fd oB (MQ K):=by
 exists F.bS qF;let#[l,lh,lp,yh,yp,hs,ps,rfl,st,eW,th,vx,h1,h8,iG,pc,DB,nd,p8,k]:=h;let sz:=cU;let j_:=bj th;rw[ao] at j_;let Dv:=bj pc;refine' #[_,aE (bu (jh (AN U) (by rfl) B.dict uA %[ku [vT,jL,hG] 1 [1,0] (dF (pv 2)) (λfp s H=>?g1) (λfp s H=>mE) (λfp s H=>?e1)|0])),?kk]
 case g1=>exact gg (i:=0) (show ([vT,jL,hG]:af).Nodup by decide +kernel) U (Or.inl U)
 case e1=>exact iA %[bw (zg (K:=K) oO cu) (pv 0) aD,bw (zg (K:=K) oO cu) (bw (zg (K:=K) rH hJ) (pv 1) (bc cD hr %[2,cZ (Fi (K:=K) OG h_) (by rfl) B.len gF %[1|0]|0])) aD|0]
 let#[Pe,oX]:=st.some;apply#[_,U,lp,U,#[_,.of iG],λD hD=>?_];have Dl:D≠l:=(bq oX hD).symm;apply kD (own:=1) (fv:=[some (.ref lh),some (.ref l)]) (xs:=yp) U fX (λi out H'=>∃hh:ak,bz l H H'/\dQ H' l/\H' D\.lst out/\hh.length=i/\(∀h∈hh,h∈hs.map (·.1))/\km K H' out ((((ps.map (·.1)).take i).zip (sV hh)).map λp=>(Sum.inr p.1,p.2))) #[[],bz.of (aa.new hD),st.same (aa.new hD),ay,U,by simp,by simp;exact .nil] (λi out H' _ ⟨_,b,_⟩=>.of (b _ _ iG DB)) (λout H5 ⟨hh,b5,iM,iV,Kz,mem,pa⟩=>?_) (λi y out H' hy ⟨hh,b,stx,dM,XQ,mem,pa⟩=>?_)
 ·rw[Dv] at Kz;have lt:(ps.map (·.1)).take yp.length=ps.map (·.1):=by rw[Dv];exact uJ Z2
  rw[lt] at pa;have ln:(ps.map (·.1)).length=ps.length:=ao _;rw[QE nd (by rw[ln];exact Kz)] at pa;apply#[D,out,_,U,iV,pa,by rw[mB,ln];omega,λd hd=>?_]
  have nM:((ft (ps.map (·.1)) (zY (ps.map (·.1)) hh)).map (·.1)).Nodup:=by
   rw[BK,qa,wD];exact nd.imp λn e=>n (iu e)
  rw[xZ nM];apply k d (zY (ps.map (·.1)) hh) _ (b5.trans (bz.of (aa.new hd))) (iM.same (aa.new hd)) (b5.free iM hd) ay λn hn=>?_;let#[j,hj,e]:=gH hn;have zD:j<hh.length:=by rw[Kz,<- ln];exact hj
  rw[G5 nd (k:=j) (by rw[aX hj,e]) (aX zD)];exact mem _ (mI zD)
 have hi:i<yp.length:=(bZ.mp hy).1;let#[t,v,e,ht,_]:=eO pc i hi Z1;rw[aX hi] at hy;cases hy;rw[e];have hp:ps[i]? = some (ps[i]' Z1):=aX Z1;obtain⟨pz,ep⟩:∃p,p=ps[i]' Z1:=#[_,U];rw[<- ep] at hp ht;have tl:t≠l:=bK ht oX nofun;apply#[_,U,U,λNx hN=>fU ?_];apply#[_,U,t,_,0,_,U,U,.of (b _ _ ht tl),L2.d0 (j:=0) U,_,U,_,U,_,U,lh,_,U,.inl (.of (b _ _ eW vx)),l,(yh.length:Int),U,by omega,by omega,stx,λr H2 r0 r1 b2 gn=>?_];let#[r,rfl]:=AO r0;have GM:r<yh.length:=by omega
 let#[u,eu,hu]:=eO th r GM (by rw[ao];omega);let bb:=b.trans b2;have hh':(hs.map kH)[r]'(by rw[ao];omega)=kH (hs[r]' Z1):=List.getElem_map ..;rw[hh'] at hu;let _P:=sj (bb _ _ hu (bK hu oX nofun));apply#[lh,_,r,.ref u,U,U,.of (bb _ _ eW vx),L2.d0 (by rw[aX GM,eu]),u,_,0,_,U,U,.of _P,L2.d0 (j:=0) U,zl,λz hz=>?_];let#[s3,e3]:=aH (o:=.tup [.str pz.1,.str (hs[r]' Z1).1]) hz;let iC:=gn.same s3;let xJ:=s3 _ _ (b2 _ _ dM Dl);generalize upd H2 z (.tup [.str pz.1,.str (hs[r]' Z1).1])=H3 at s3 e3 iC xJ ⊢;let lo:=bj pa;rw[ao,List.length_zip,dR,ao,ao] at lo
 have tD:∀{c xs},H3 c\.tup xs->upd H3 D (.lst (out++[.ref z])) c\.tup xs:=λe=>by
  rw[aw (bK e xJ nofun)];exact e
 let#[Vd,oW]:=stx.some;apply#[out,xJ,by omega,hN _ _ #[hh++[(hs[r]' Z1).1],λc o e ne=>?_,?_,ay,by rw[eI,XQ];rfl,λh hm=>?_,?_]]
 ·rw[aw (bq e hD)];exact s3 _ _ (bb _ _ e ne)
 ·unfold dQ;rw[aw Dl.symm];exact iC
 ·rcases dN.mp hm with hm|hm
  ·exact mem h hm
  rw[eg.mp hm];exact br.mpr #[_,mI Z1,U]
 have ez:((ps.map (·.1)).take (i+1)).zip (sV (hh++[(hs[r]' Z1).1]))=((ps.map (·.1)).take i).zip (sV hh)++[(pz.1,V.str (hs[r]' Z1).1)]:=by
  rw[uB (n:=pz.1) (by rw[dG,hp];rfl)];show _=_;rw[show sV (hh++[(hs[r]' Z1).1])=sV hh++[V.str (hs[r]' Z1).1] from fe,List.zip_append (by rw[dR,ao,ao];omega)];rfl
 rw[ez,fe];apply gR (Paired.aU pa λy p ⟨c,e,hc⟩=>#[c,e,tD (s3 _ _ (b2 _ _ hc (bK hc oW nofun)))]) (.cons #[z,U,tD e3] .nil)
theorem NS:bN [jL,mq,"_law_spot",ur,"_law_k"] jR (a9 M5):=bT
def dJ(ss:aM)(s:ak)(h:Str):Int:=ld (fS ss s) (ss.map eD) h
inductive FK (K:ai) (vs:ag) (H:Hp) (Q:VK) (E:XK):Prop
 |mk:∀(lh lp t:Addr) (yh yp:ag) (hs:Xa) (ss:aM) (s:ak),vs=[.ref lh,.ref lp,.ref t]->H lh\.lst yh->bR K H yh (hs.map kH)->(hs.map (·.1)).Nodup->hs.length<=8->H lp\.lst yp->jM K H yp ss->(ss.map (·.1)).Nodup->ss.length<=8->H t\.tup (sV s)->s.length=ss.length->(∀h∈s,h∈hs.map (·.1))->(∀d H',aa H H'->H d=none->H' d\.dK (d9 (hs.map (·.1)) λh=>.int (dJ ss s h))->Q (.ref d) H')->FK K vs H Q E
theorem gM_(F:bC K "_law_loads" "_law_loads" M5 f fd)(B:Bi mg):!au bh 1 f fd jR (FK K):=by
 exists F.bS NS;let#[lh,lp,t,yh,yp,hs,ss,s,rfl,eW,th,oV,h8,iG,pc,nd,p8,ht,ls,fV,k]:=h;let hu:=fN hr;let sz:=cU;let j_:=bj th;rw[ao] at j_;let Dv:=bj pc;refine' #[_,av ?s1 (av ?s2 (aE ?s3)),?kk]
 case' s1=>refine' bo 3 NS.nd (jh (AN U) (by rfl) B.dict uA %[ku Br 2 [] (dF (pv 0)) (λfp s H=>?g1) (λfp s H=>mE) (λfp s H=>?e1)|0])
 case g1=>exact Fv (n:=2) (dH (gg (i:=0) (show (Br:af).Nodup by decide +kernel) U (Or.inl U)) (dH (gg (i:=1) (show (Br:af).Nodup by decide +kernel) U (Or.inl U)) iK))
 case e1=>exact iA %[0,aD|0]
 case' s2=>refine' d_ dI U ?i2 ?g2 (aE ?b2)
 case i2=>exact AC (by rfl) B.range %[cZ h_ (by rfl) B.len gF %[1|0]|0]
 case g2=>exact cm 4 NS.nd
 case b2=>exact uC hu (pv 3) (bw cu (pv 2) (pv 4)) (bJ ia (ji hu (pv 3) (bw cu (pv 2) (pv 4))) (bw cu (bw hJ (pv 1) (pv 4)) aD)) U
 case s3=>exact bu (pv 3)
 apply#[_,U,lh,U,#[_,.of eW],λD hD=>?_];apply kD (own:=2) (fv:=[]) (xs:=yh) U zU (λi out H'=>aa H H'/\H' D\.lst out/\km K H' out (d9 ((hs.map (·.1)).take i) λ_=>.int 0)) #[aa.new hD,ay,.nil] (λi out H' _ ⟨sm,_,_⟩=>.of (sm _ _ eW)) (λout H5 ⟨sm,iV,pa⟩=>?_) (λi y out H' hy ⟨sm,dM,pa⟩=>?_);rotate_left 1
 ·let#[h,hh,p,rfl,hp]:=ou th hy;apply#[_,#[p,_,_,U,.of (sm _ _ (sj hp)),U],U,λNx hN=>fU ?_];apply#[_,U,zl,λz hz=>?_];let#[s3,e3]:=aH (o:=.tup [.str h.1,.int 0]) hz;generalize upd H' z (.tup [.str h.1,.int 0])=H3 at s3 e3 ⊢;have hi:i<hs.length:=(bZ.mp hh).1;let lo:=bj pa;rw[mB,dR,ao] at lo
  have tD:∀{c xs},H3 c\.tup xs->upd H3 D (.lst (out++[.ref z])) c\.tup xs:=λe=>by
   rw[aw (bK e (s3 _ _ dM) nofun)];exact e
  apply#[out,s3 _ _ dM,by omega,hN _ _ #[fQ (sm.trans s3) hD,ay,?_]];rw[uB (n:=h.1) (by rw[dG,hh];rfl)];show km K _ _ (((hs.map (·.1)).take i++[h.1]).map _);rw[fe];exact gR (Paired.aU pa λy p ⟨c,e,hc⟩=>#[c,e,tD (s3 _ _ hc)]) (.cons #[z,U,tD e3] .nil)
 have lt:(hs.map (·.1)).take yh.length=hs.map (·.1):=uJ (by rw[ao];omega);rw[lt] at pa;apply#[D,out,_,U,iV,pa,by rw[mB,ao];omega,λd hd=>?_]
 have nM:((d9 (hs.map (·.1)) λ_=>V.int 0).map (·.1)).Nodup:=by
  rw[BK,qa,wD];exact oV.imp λn e=>n (iu e)
 rw[xZ nM];let#[s6,e6]:=aH (o:=.dK (d9 (hs.map (·.1)) λ_=>V.int 0)) hd;have dn:H d=none:=sm.free hd;let gq:=sm.trans s6;generalize upd H5 d (.dK (d9 (hs.map (·.1)) λ_=>V.int 0))=H6 at s6 e6 gq ⊢;apply#[_,U,lp,_,U,.inl (.of (gq _ _ iG)),_,U,by show (-(2 ^ 62):Int)<=(yp.length:Int);omega,by show (yp.length:Int)<2 ^ 62;omega,?_]
 let Iv:bO:=λi σ H'=>∃(v4:aJ),σ=[some (.ref lh),some (.ref lp),some (.ref t),some (.ref d),v4]/\aa H H'/\H' d\.dK (d9 (hs.map (·.1)) λh=>.int (ld (fS ss s) ((ss.take i).map eD) h))
 apply BG (lo:=0) (n:=((yp.length:Nat):Int).toNat) Iv #[none,U,gq,e6] ?_ ?_
 ·rintro i σ H7 hi ⟨v4,rfl,s7,e7⟩;rw[Int.zero_add];have hi:i<ss.length:=by omega
  let#[u,v,eu,vD,_]:=eO pc i Z1 hi;have GK:s[i]? = some (s[i]' Z1):=aX Z1;obtain⟨h,eh⟩:∃h,h=s[i]' Z1:=#[_,U];obtain⟨q,eq⟩:∃q,q=ss[i]:=#[_,U];have hq:ss[i]? = some q:=by rw[eq];exact aX hi
  rw[<- eh] at GK;rw[<- eq] at vD;have hm:h∈hs.map (·.1):=fV h (cy GK);have EE:iJ (sV s) (i:Int)\.str h:=L2.d0 (by rw[dG,GK];rfl);let Q8:=s7 _ _ ht;have ff:fS ss s q.1=h:=G5 nd (k:=i) (by rw[dG,hq];rfl) GK;apply#[_,U,_,U,_,U,t,_,i,_,U,U,.of Q8,EE,d,.int (ld (fS ss s) ((ss.take i).map eD) h),U,?_,?_]
  ·have:=dP.k (k:=.inr h) e7;rw[wg (g:=λh=>V.int (ld (fS ss s) ((ss.take i).map eD) h)) hm] at this;exact this
  apply#[_,U,_,U,lp,_,i,.ref u,U,U,.of (s7 _ _ iG),L2.d0 (by rw[aX Z1,eu]),u,_,1,_,U,U,.of (s7 _ _ vD),L2.d0 (j:=1) U,_,_,U,U,?_];apply#[_,U,_,U,_,U,t,_,i,_,U,U,.of Q8,EE,d,_,U,.k (k:=Sum.inr h) e7 (by rw[mB,ao];omega),?_];apply#[_,U,fQ s7 dn,?_];rw[ay,Se hm];apply eF (λz=>some (HO.dK z)) (IK λn _=>?_);rw[x6 _ hq,Rg];show (if n=h then _ else _)=V.int (if n=fS ss s q.1 then _ else _);rw[ff];by_cases c:n=h
  ·rw[aI c,aI c,c];rfl
  rw[aA c,aA c]
 rintro σ H7 ⟨v4,rfl,s7,e7⟩;have:ss.take ((yp.length:Nat):Int).toNat=ss:=uJ Z1;rw[this] at e7;exact#[_,U,k d H7 s7 dn e7]
end
structure eM (ts:Xb) (ss qs:aM):Prop where
 qs:qs=ss.map pJ
 dr:∀p∈ss,jX ts p
 nd:(ss.map (·.1)).Nodup
theorem eM.yY{ts:Xb}{ss qs:aM}(S:eM ts ss qs):qs.map (·.1)=ss.map (·.1):=by
 rw[S.qs,cY];rfl
theorem eM.ws{ts:Xb}{ss qs:aM}(S:eM ts ss qs):qs.map eD=ss.map eD:=by
 rw[S.qs,cY];rfl
theorem eM.wp{ts:Xb}{ss qs:aM}(S:eM ts ss qs):∀q∈qs,0<=q.2.1/\q.2.1<=1000000000:=λq hq=>by
 rw[S.qs] at hq;let#[p,hp,rfl]:=br.mp hq;let g:=(S.dr p hp).g;let h1:=g.w1;let h2:=g.w2;exact#[by show 0<=p.2.1;omega,h2]
theorem eM.len{ts:Xb}{ss qs:aM}(S:eM ts ss qs):qs.length=ss.length:=by rw[S.qs,ao]
theorem Ao{ts:Xb}{ss qs:aM}(S:eM ts ss qs)(s:ak)(h:Str):dJ ss s h=ld (fS qs s) (qs.map eD) h:=by
 unfold dJ fS;rw[S.yY,S.ws]
theorem Te{hs:Xa}{ts:Xb}{ss qs:aM}(G:Good hs ts)(S:eM ts ss qs)(s:ak)(l:Int × Int):je hs qs s l=true ↔ ∀a∈hs,∀b∈hs,¬(l.1 * a.2 * b.2<l.2 * (dJ ss s a.1 * b.2 - dJ ss s b.1 * a.2)):=by
 rw[ME];let mo:=tw G
 have one:∀a∈hs,∀b∈hs,(¬(l.1 * a.2 * b.2<l.2 * (dJ ss s a.1 * b.2 - dJ ss s b.1 * a.2)) ↔ l.2 * (dZ hs qs (fS qs s) a.1 - dZ hs qs (fS qs s) b.1)<=l.1 * bP hs):=λa ha b hb=>by
  have am:a.1∈aN hs:=(fD hs).mem_iff.mpr (br.mpr #[a,ha,U]);have bm:b.1∈aN hs:=(fD hs).mem_iff.mpr (br.mpr #[b,hb,U]);have ea:strOf hs a.1=a.2:=IE G.oV ha;have eb:strOf hs b.1=b.2:=IE G.oV hb;let sa:=wo G am;let sb:=wo G bm;let ma:=mo.2.2 _ am;let mb:=mo.2.2 _ bm;rw[ea] at sa ma;rw[eb] at sb mb;let OP:=QD (La:=ld (fS qs s) (qs.map eD) a.1) (Lb:=ld (fS qs s) (qs.map eD) b.1) ma mb
  have e1:dZ hs qs (fS qs s) a.1=ld (fS qs s) (qs.map eD) a.1 * (bP hs / a.2):=by
   unfold dZ;rw[ea]
  have e2:dZ hs qs (fS qs s) b.1=ld (fS qs s) (qs.map eD) b.1 * (bP hs / b.2):=by
   unfold dZ;rw[eb]
  rw[Ao S,Ao S,e1,e2,Int.not_lt];have Jc:0<a.2 * b.2:=Int.mul_pos Z1 Z1
  have k1:l.2 * (ld (fS qs s) (qs.map eD) a.1 * b.2 - ld (fS qs s) (qs.map eD) b.1 * a.2) * bP hs=a.2 * b.2 * (l.2 * (ld (fS qs s) (qs.map eD) a.1 * (bP hs / a.2) - ld (fS qs s) (qs.map eD) b.1 * (bP hs / b.2))):=by
   rw[Int.mul_assoc,OP]
   grind
  have k2:l.1 * a.2 * b.2 * bP hs=a.2 * b.2 * (l.1 * bP hs):=by grind
  constructor
  ·intro h;have:=BO h (gO mo.1);rw[k1,k2] at this;exact Int.le_of_mul_le_mul_left this Jc
  intro h;have:=FN h (gO Jc);rw[<- k1,<- k2] at this;exact Int.le_of_mul_le_mul_right this mo.1
 constructor
 ·intro h a ha b hb;exact (one a ha b hb).mpr (h _ ((fD hs).mem_iff.mpr (br.mpr #[a,ha,U])) _ ((fD hs).mem_iff.mpr (br.mpr #[b,hb,U])))
 intro h x hx y hy;let#[a,ha,rfl]:=br.mp ((fD hs).mem_iff.mp hx);let#[b,hb,rfl]:=br.mp ((fD hs).mem_iff.mp hy);exact (one a ha b hb).mp (h a ha b hb)
section v
theorem AF:bN [jL,mq,"_law_spot","_law_limit",ur,"_law_one",xP,"_law_other","_law_more","_law_over"] tQ (a9 lH):=bT
inductive M0 (K:ai) (vs:ag) (H:Hp) (Q:VK) (E:XK):Prop
 |mk:∀(lh lp t lt:Addr) (yh yp:ag) (hs:Xa) (ts:Xb) (ss qs:aM) (s:ak) (l:Int × Int),vs=[.ref lh,.ref lp,.ref t,.ref lt]->H lh\.lst yh->bR K H yh (hs.map kH)->Good hs ts->H lp\.lst yp->jM K H yp ss->eM ts ss qs->ss.length<=8->H t\.tup (sV s)->Vs hs qs s->hU H lt l->vU l->(∀H',aa H H'->Q (.bl (je hs qs s l)) H')->M0 K vs H Q E
theorem hJ_(F:bC K "_law_even" "_law_even" lH f fd)(cL:!bx 1 "_law_loads" jR (FK K)):!au bh 2 f fd tQ (M0 K):=by
 exists F.bS AF;let#[lh,lp,t,lt,yh,yp,hs,ts,ss,qs,s,l,rfl,eW,th,G,iG,pc,S,s8,ht,v,hl,lo,k]:=h;let hu:=fN hr;let j_:=bj th;rw[ao] at j_;have fV:∀h∈s,h∈hs.map (·.1):=λh hh=>(fD hs).mem_iff.mp (v.fV h hh);refine' #[_,av ?s1 (av ?s2 (aE ?s3)),?kk]
 case s1=>exact bo 4 AF.nd (bc cL hr %[0,1,2|0])
 case' s2=>refine' d_ dI U (dF (pv 0)) ?g2 (aE ?b2)
 case g2=>exact kq U (dH (cm 5 AF.nd) (dH (cm 6 AF.nd) iK))
 case' b2=>refine' d_ dI U (dF (pv 0)) ?g3 (av ?c1 (aE ?c2))
 case g3=>exact kq U (dH (cm 7 AF.nd) (dH (cm 8 AF.nd) iK))
 case c1=>exact bo 9 AF.nd (bJ Bx (bJ iz (ji hu (pv 4) (pv 5)) (pv 8)) (bJ iz (ji hu (pv 4) (pv 7)) (pv 6)))
 case c2=>exact b_ (fg GW (bJ iz (bw cu (pv 3) aD) (pv 9)) (bJ iz (bJ iz (bw cu (pv 3) aD) (pv 6)) (pv 8))) (aE (bu gG)) cg
 case s3=>exact bu gG
 apply#[_,U,_,U,_,U,lh,lp,t,yh,yp,hs,ss,s,U,eW,th,G.oV,G.h8,iG,pc,S.nd,s8,ht,by rw[v.len,S.len],fV,λd H1 s1 n1 e1=>?_];let wK:=th.same s1
 have xq:∀n,0<=dJ ss s n/\dJ ss s n<=64000000000:=λn=>by
  rw[Ao S];exact Bh S.wp (by rw[S.len];omega) _ _
 let X:(Str × Int)->(Str × Int)->Prop:=λa b=>l.1 * a.2 * b.2<l.2 * (dJ ss s a.1 * b.2 - dJ ss s b.1 * a.2)
 let Iv:bO:=λi σ H'=>∃(v5 v6 v7 v8 v9:aJ),σ=[some (.ref lh),some (.ref lp),some (.ref t),some (.ref lt),some (.ref d),v5,v6,v7,v8,v9]/\H'=H1/\∀a∈hs.take i,∀b∈hs,¬X a b
 apply#[_,U,lh,U,#[_,.of (s1 _ _ eW)],?_];apply gh (K:=K) (a:=lh) (xs:=yh) Iv ?_ ?_ ?_ ?_
 ·exact#[none,none,none,none,none,U,U,by simp]
 ·rintro i σ H' _ ⟨_,_,_,_,_,_,rfl,_⟩;exact .of (s1 _ _ eW)
 ·rintro i y σ H2 hy ⟨v5,v6,v7,v8,v9,rfl,rfl,no⟩;let#[a,ha,p,rfl,hp]:=ou wK hy;let am:=cy ha;have an:a.1∈hs.map (·.1):=br.mpr #[a,am,U];let ga:=G.ax a am;apply#[p,_,U,.of (sj hp),U,_,_,U,_,_,U,U,?_]
  let Iw:bO:=λj σ H'=>∃(v7 v8 v9:aJ),σ=[some (.ref lh),some (.ref lp),some (.ref t),some (.ref lt),some (.ref d),some (.str a.1),some (.int a.2),v7,v8,v9]/\H'=H2/\∀b∈hs.take j,¬X a b
  apply#[_,U,lh,U,#[_,.of (s1 _ _ eW)],?_];apply gh (K:=K) (a:=lh) (xs:=yh) Iw ?_ ?_ ?_ ?_
  ·exact#[_,_,_,U,U,by simp]
  ·rintro j σ H' _ ⟨_,_,_,_,rfl,_⟩;exact .of (s1 _ _ eW)
  ·rintro j y σ H3 hy ⟨v7,v8,v9,rfl,rfl,nJ⟩;let#[b,hb,q,rfl,hq]:=ou wK hy;let bm:=cy hb;have bn:b.1∈hs.map (·.1):=br.mpr #[b,bm,U];let gb:=G.ax b bm;let la:=xq a.1;let lb:=xq b.1;let Sf:=ga.2.1;let ET:=ga.2.2;let Sd:=gb.2.1;let ES:=gb.2.2
   have dg:∀{n},n∈hs.map (·.1)->dP H3 d (.str n) (some (.int (dJ ss s n))):=λ{n} hn=>by
    have:=dP.k (k:=.inr n) e1;rw[wg (g:=λh=>V.int (dJ ss s h)) hn] at this;exact this
   apply#[q,_,U,.of (sj hq),U,_,_,U,_,_,U,U,?_];apply#[_,U,_,U,d,_,U,dg an,_,U,_,_,U,U,.inr #[by omega,by omega],_,U,_,U,d,_,U,dg bn,_,U,_,_,U,U,.inr #[by omega,by omega],_,_,U,U,?_];have m1:0<=dJ ss s a.1 * b.2/\dJ ss s a.1 * b.2<=64000000000 * 1000:=#[Int.mul_nonneg la.1 Z1,Int.mul_le_mul la.2 ES Z1 (by decide)];have m2:0<=dJ ss s b.1 * a.2/\dJ ss s b.1 * a.2<=64000000000 * 1000:=#[Int.mul_nonneg lb.1 Z1,Int.mul_le_mul lb.2 ET Z1 (by decide)];apply#[_,U,lt,_,1,_,U,U,.of (s1 _ _ hl),L2.d0 (j:=1) U,_,U,_,_,U,U,.inr #[by omega,by omega],?_];apply#[_,U,lt,_,0,_,U,U,.of (s1 _ _ hl),L2.d0 (j:=0) U,_,U,_,_,U,U,.inr #[by omega,by omega],_,U,_,_,U,U,.inr #[by omega,by omega],_,_,U,U,_,U,?_];apply bY (λc=>?_) (λc=>?_)
   ·have hx:X a b:=o9 c;let kk:=k H3 s1
    have:je hs qs s l=false:=by
     rw[<- Bool.not_eq_true,Te G S];exact λh=>h a am b bm hx
    rw[this] at kk;exact kk
   have hx:¬X a b:=λh=>absurd h (Int.not_lt.mpr ⇑c);apply#[_,_,_,U,U,λz hz=>?_];rw[kz,hb] at hz;rcases dN.mp hz with hz|hz
   ·exact nJ z hz
   have:z=b:=⇑hz
   rw[this];exact hx
  rintro σ H3 ⟨v7,v8,v9,rfl,rfl,nJ⟩;rw[j_,eG] at nJ;apply#[_,_,_,_,_,U,U,λz hz=>?_];rw[kz,ha] at hz;rcases dN.mp hz with hz|hz
  ·exact no z hz
  have:z=a:=⇑hz
  rw[this];exact nJ
 rintro σ H2 ⟨v5,v6,v7,v8,v9,rfl,rfl,no⟩;rw[j_,eG] at no;let kk:=k H2 s1;rw[(Te G S s l).mpr no] at kk;exact kk
end
end Ev
namespace L2
open PySem PySem.Spec PyProof.Rows PySem.W wI hW
def J8(K:ai){D:Type}[DecidableEq D](R:Rp D)(neg:Bool):V->V->Hp->VK->Prop:=λx y H Q=>∃(d:D) (es:List D) (a:Addr) (ys:ag),R H x d/\y=.ref a/\fG K H a ys/\Paired (R H) ys es/\Q (.bl (if neg then !decide (d∈es) else decide (d∈es))) H
theorem XW{X:Cx}{n:Nat}{D:Type}[DecidableEq D]{R:Rp D}(c:jY X n R)(hu:X.A.units+n+1<cLine):dO X (compareOp .In) (J8 X.K R false):=by
 intro pins s σ H x y v u Q I rx ry h;let#[d,es,a,ys,hx,rfl,t,q,hq]:=h;cases ry;let#[us,r,pl,_]:=I.tuple t;let#[f,h1,h2]:=K3 c I (A:=X.A.in1) rx hx (by show X.A.units+1+n<cLine;omega) r q;apply SeqAt.in_tupleAt f (AL pl) (λw hw=>h1 w ⇑hw) #[.bl _,H,I,U,?_];rw[show us.toArray.any f=us.any f by simp,h2];exact hq
end L2
namespace Ev
open PySem L2
def iE(t:Str × Str)(h:Str):Str:=if t.1=h then t.2 else t.1
theorem Ni{ts:Xb}{a b:Str}:aF a b∈bQ ts ↔ (a,b)∈ts∨(b,a)∈ts:=by
 rw[IA];constructor
 ·rintro⟨⟨x,y⟩,ht,e⟩;rcases QP (a:=x) (b:=y) (c:=a) (d:=b) (by show kT (aF x y)=kT (aF a b);rw[<- e]) with⟨rfl,rfl⟩|⟨rfl,rfl⟩
  ·exact .inl ht
  exact .inr ht
 rintro (h|h)
 ·exact#[_,h,U]
 exact#[_,h,Ny _ _]
def gJ(ts:Xb)(p:Pc):Xb:=p.2.2.getD ts
variable{h h':Str}
theorem Y2{ws:Xb}(g:∀t∈ws,v_ t):(∃t∈ws,(h=t.1∨h=t.2)/\h'=iE t h) ↔ (h,h')∈ws∨(h',h)∈ws:=by
 constructor
 ·rintro⟨⟨x,y⟩,ht,e,rfl⟩;let ne:=(g _ ht).2.2;rcases e with rfl|rfl
  ·left
   rw[show iE (h,y) h=y from aI U];exact ht
  right
  rw[show iE (x,h) h=x from aA ne];exact ht
 rintro (ht|ht)
 ·exact#[_,ht,.inl U,(aI U).symm]
 exact#[_,ht,.inr U,(aA (g _ ht).2.2).symm]
theorem _h{hs:Xa}{ts:Xb}(G:Good hs ts){p:Pc}(d:jX ts p)(hm:h∈aN hs):h'∈sP hs ts (pJ p) h ↔ ∃t∈gJ ts p,(h=t.1∨h=t.2)/\h'=iE t h:=by
 have gw:∀t∈gJ ts p,t∈ts:=λt ht=>by
  unfold gJ at ht;cases e:p.2.2 with
  |none=>
   rw[e] at ht;exact ht
  |some ws=>
   rw[e] at ht;exact d.sub ws e t ht
 rw[Y2 λt ht=>G.tok t (gw t ht)]
 have jv:∀{o},o∈near (aN hs) (bQ ts) h ↔ (h,o)∈ts∨(o,h)∈ts:=λ{o}=>by
  unfold near;rw[mF,decide_eq_true_iff,Ni];apply#[λz=>z.2,λz=>#[?_,z]];rcases z with z|z
  ·exact (fD hs).mem_iff.mpr (G.uR _ z).2
  exact (fD hs).mem_iff.mpr (G.uR _ z).1
 unfold sP;rw[mF,jv];let lX:=(fD hs).mem_iff.mp hm;constructor
 ·rintro⟨h1,h2⟩;cases e:p.2.2 with
  |none=>
   unfold gJ;rw[e];exact h1
  |some ws=>
   have e2:(pJ p).2.2\bQ ws:=by
    show p.2.2.map bQ=_;rw[e];rfl
   rw[e2] at h2;let h3:=(Bool.and_eq_true_iff.mp h2).2;have h4:aF h h'∈bQ ws:=o9 h3;unfold gJ;rw[e];exact Ni.mp h4
 intro z;have zt:(h,h')∈ts∨(h',h)∈ts:=z.imp (gw _) (gw _);apply#[zt,?_]
 have Lm:h'∈hs.map (·.1):=by
  rcases zt with y|y
  ·exact (G.uR _ y).2
  exact (G.uR _ y).1
 have td:Bs hs ts (some h) (some h')=true:=by
  show (decide _&&(decide _&&decide _))=true;rw[cz lX,cz Lm,cz (jv.mpr zt)];rfl
 unfold Bg;rw[td,Bool.true_and];cases e:p.2.2 with
 |none=>
  have e2:(pJ p).2.2=none:=by
   show p.2.2.map bQ=_;rw[e];rfl
  rw[e2]
 |some ws=>
  have e2:(pJ p).2.2\bQ ws:=by
   show p.2.2.map bQ=_;rw[e];rfl
  rw[e2];unfold gJ at z;rw[e] at z;exact cz (Ni.mpr z)
abbrev Me:=(Str × Str × Str) × ak
def Ak(H:Hp):ag->List Me->Prop:=Paired λy e=>∃t m u,y=.ref t/\H t\.tup [.ref m,.ref u]/\H m\.tup [.str e.1.1,.str e.1.2.1,.str e.1.2.2]/\H u\.tup (sV e.2)
variable{H':Hp}{ys:ag}
theorem Ak.keep{H:Hp}{L:List Me}(h:Ak H ys L)(k:∀b xs,H b\.tup xs->H' b\.tup xs):Ak H' ys L:=Paired.aU h λy e ⟨t,m,u,e1,e2,e3,e4⟩=>#[t,m,u,e1,k _ _ e2,k _ _ e3,k _ _ e4]
def O0(hs:Xa)(ts:Xb)(qs:aM)(s:ak)(i:Nat)(e:Me):Prop:=∃(k:Nat) (q:Pc) (h h':Str),k<i/\qs[k]? = some q/\s[k]? = some h/\h'∈sP hs ts q h/\e=((q.1,h,h'),s.set k h')
theorem YW{hs:Xa}{ts:Xb}{qs:aM}{s:ak}{e:Me}:O0 hs ts qs s qs.length e ↔ Mv hs ts qs s e.2 e.1:=by
 constructor
 ·rintro⟨k,q,h,h',_,h1,h2,h3,rfl⟩;exact#[k,q,h,h',h1,h2,h3,U,U]
 rintro⟨k,q,h,h',h1,h2,h3,h4,h5⟩;exact#[k,q,h,h',(bZ.mp h1).1,h1,h2,h3,Prod.ext h5 h4]
variable{f:Addr}{fd:Ae}
section v
theorem wc:bN [mq,"_law_ties_here","_law_spot",ur,"_law_k","_law_name_here","_law_weight","_law_ways","_law_tie","_law_other","_law_later"] tO (a9 Nw):=bT
inductive MU (K:ai) (vs:ag) (H:Hp) (Q:VK) (E:XK):Prop
 |mk:∀(lp lt t:Addr) (yp zs:ag) (hs:Xa) (ts:Xb) (ss qs:aM) (s:ak),vs=[.ref lp,.ref lt,.ref t]->H lp\.lst yp->jM K H yp ss->H lt\.lst zs->bR K H zs (ts.map kT)->Good hs ts->eM ts ss qs->ss.length<=8->H t\.tup (sV s)->Vs hs qs s->(∀l ys L H',aa H H'->H l=none->H' l\.lst ys->Ak H' ys L->(∀e,e∈L ↔ Mv hs ts qs s e.2 e.1)->L.length<=512->Q (.ref l) H')->MU K vs H Q E
theorem gV_(F:bC K "_law_moves" "_law_moves" Nw f fd)(B:Bi mg):!au bh 1 f fd tO (MU K):=by
 exists F.bS wc;let#[lp,lt,t,yp,zs,hs,ts,ss,qs,s,rfl,iG,pc,dW,tu,G,S,s8,ht,v,k]:=h;let sz:=cU;let Dv:=bj pc;let vl:=v.len;let sl:=S.len;let wX:=G.wX;let lz:=bj tu;rw[ao] at lz;refine' #[_,av ?s1 (av ?s2 (aE ?s3)),?kk]
 case s1=>exact bo 3 wc.nd (fE bF)
 case' s2=>refine' d_ dI U ?i2 ?g2 (av ?b1 (aE ?b2))
 case i2=>exact AC (by rfl) B.range %[cZ h_ (by rfl) B.len gF %[0|0]|0]
 case g2=>exact cm 4 wc.nd
 case b1=>exact L_ (bw hJ (pv 0) (pv 4)) (kq U (dH (cm 5 wc.nd) (dH (cm 6 wc.nd) (dH (cm 7 wc.nd) iK))))
 case' b2=>refine' d_ dI U (dF (bw hJ (fE %[7,1|0]) (jh To (by rfl) B.int LZ %[wk X3 (pv 7) Au|0]))) ?g3 (aE ?b3)
 case g3=>exact cm 8 wc.nd
 case' b3=>refine' b_ (fg (XW iq (ml hr 0)) (bw cu (pv 2) (pv 4)) (pv 8) (by with_unfolding_all rfl)) (av ?c1 (av ?c2 (aE ?c3))) cg
 case c1=>exact bo 9 wc.nd (bw hJ (fE %[bw cu (pv 8) aD,bw cu (pv 8) aD|0]) (jh To (by rfl) B.int LZ %[wk Ew (bw cu (pv 8) aD) (bw cu (pv 2) (pv 4))|0]))
 case c2=>exact bo 10 wc.nd (bJ HS (bJ HS (Ay G6 (pv 2) AH (AI (pv 4))) (iA %[9|0])) (Ay G6 (pv 2) (AI (bJ ia (pv 4) aD)) AH))
 case c3=>exact kC (om l_ uD uE tK (pv 3) %[iA %[iA %[5,bw cu (pv 2) (pv 4),9|0],10|0]|0])
 case s3=>exact bu (pv 3)
 apply#[zl,λl hl=>?_];let#[s1,e1]:=aH (o:=.lst []) hl;generalize upd H l (.lst [])=H1 at s1 e1 ⊢;apply#[_,U,lp,_,U,.inl (.of (s1 _ _ iG)),_,U,by show (-(2 ^ 62):Int)<=(yp.length:Int);omega,by show (yp.length:Int)<2 ^ 62;omega,?_]
 let Iv:bO:=λi σ H'=>∃(v4 v5 v6 v7 v8 v9 v10:aJ) (ys:ag) (L:List Me),σ=[some (.ref lp),some (.ref lt),some (.ref t),some (.ref l),v4,v5,v6,v7,v8,v9,v10]/\aa H H'/\H' l\.lst ys/\Ak H' ys L/\(∀e,e∈L ↔ O0 hs ts qs s i e)/\L.length<=64 * i
 apply BG (lo:=0) (n:=((yp.length:Nat):Int).toNat) Iv ?_ ?_ ?_
 ·exact#[none,none,none,none,none,none,none,[],[],U,s1,e1,.nil,λe=>#[λz=>absurd z gI,λ⟨_,_,_,_,z,_⟩=>absurd z (Nat.not_lt_zero _)],gB _]
 ·rintro i σ H2 hi ⟨v4,v5,v6,v7,v8,v9,v10,ys,L,rfl,s2,e2,me,mem,len⟩;have hi:i<yp.length:=by omega
  let#[tp,wv,ep,hp,wy]:=eO pc i hi Z1;have K5:ss[i]? = some (ss[i]' Z1):=aX Z1;obtain⟨p,epp⟩:∃p,p=ss[i]' Z1:=#[_,U];rw[<- epp] at hp wy K5;have hq:qs[i]? = some (pJ p):=by rw[S.qs,dG,K5];rfl
  have Q9:i<s.length:=by omega
  obtain⟨h,eh⟩:∃h,h=s[i]:=#[_,U];have hh:s[i]? = some h:=by rw[aX Q9,eh]
  have hV:(sV s)[i]? = some (.str h):=by rw[dG,hh];rfl
  let hm:=v.fV h (cy hh);let dp:=S.dr p (cy K5);let ex:=λ{h'}=>_h G dp (h':=h') hm;rw[show (0:Int)+(i:Nat)=(i:Int) by omega];apply#[_,U,_,U,lp,_,i,_,U,U,.of (s2 _ _ iG),L2.d0 (by rw[aX hi,ep]),?_];apply#[tp,_,U,.of (s2 _ _ hp),U,_,_,U,_,_,U,_,_,U,U,?_]
  obtain⟨la,BY,j,hj,gx,tl,GC⟩:∃(la:Addr) (BY:ag) (j:Nat),(if decide (wv=V.non)=true then (1:Int) else 0)=(j:Int)/\[wv,V.ref lt][j]? = some (.ref la)/\(H la\.lst BY/\bR K H BY ((gJ ts p).map kT))/\(gJ ts p).length<64:=by
   unfold gJ;cases e:p.2.2 with
   |none=>
    rw[e] at wy;have wy:wv=.non:=wy;subst wy;exact#[lt,zs,1,U,U,#[dW,tu],wX]
   |some ws=>
    rw[e] at wy;let#[a,ys,rfl,ha,ta]:=wy;let wl:=(dp.g.ws ws e).len;exact#[a,ys,0,U,U,#[ha,ta],by show ws.length<64;omega]
  let#[Ej,tl]:=tl;apply#[_,U,_,U,zl,λlx oW=>?_];let#[s3,e3]:=aH (o:=.lst [wv,.ref lt]) oW;let eU:=s2.trans s3;let uk:=s3 _ _ e2;let Qd:=me.keep λb xs e=>s3 _ _ e;generalize upd H2 lx (.lst [wv,.ref lt])=H3 at s3 e3 eU uk Qd ⊢;apply#[_,U,U,.inr #[_,U,?_]];rw[hj];apply#[lx,_,j,_,U,U,.of e3,L2.d0 gx,la,U,#[_,.of (eU _ _ Ej)],?_];let Gw:=bj tl;rw[ao] at Gw
  let Iw:bO:=λj σ H'=>∃(v8 v9 v10:aJ) (ys:ag) (L:List Me),σ=[some (.ref lp),some (.ref lt),some (.ref t),some (.ref l),some (.int i),some (.str p.1),some (.int p.2.1),some wv,v8,v9,v10]/\aa H H'/\H' l\.lst ys/\Ak H' ys L/\(∀e,e∈L ↔ O0 hs ts qs s i e∨∃u∈(gJ ts p).take j,(h=u.1∨h=u.2)/\e=((p.1,h,iE u h),s.set i (iE u h)))/\L.length<=64 * i+j
  apply gh (K:=K) (a:=la) (xs:=BY) Iw ?_ ?_ ?_ ?_
  ·exact#[_,_,_,ys,L,U,eU,uk,Qd,λe=>(mem e).trans #[.inl,λz=>z.elim id λ⟨_,z,_⟩=>absurd z gI],by omega]
  ·rintro j σ H' _ ⟨_,_,_,_,_,_,sm,_⟩;exact .of (sm _ _ Ej)
  ·rintro j y σ H4 hy ⟨v8,v9,v10,ys,L,rfl,s4,iH,Dm,fJ,lT⟩;let#[u,hu,c,rfl,hc]:=ou tl hy;have GU:H4 c\.tup [.str u.1,.str u.2]:=s4 _ _ hc;let pM:=s4 _ _ ht;have zD:j<BY.length:=(bZ.mp hy).1;let vt:=bj Dm
   have tk:∀z,z∈(gJ ts p).take (j+1) ↔ z∈(gJ ts p).take j∨z=u:=λz=>by
    rw[kz,hu];simp
   apply#[_,U,_,U,t,_,i,_,U,U,.of pM,L2.d0 hV,_,U,h,[u.1,u.2],c,_,U,U,.of GU,.cons U (.cons U .nil),_,U,?_];apply bY (λcd=>?_) (λcd=>?_)
   ·have lX:h=u.1∨h=u.2:=⇑cd
    have ho:[V.str u.1,V.str u.2][(if u.1=h then 1 else 0:Nat)]? = some (.str (iE u h)):=by
     unfold iE;by_cases z:u.1=h
     ·rw[aI z,aI z];rfl
     rw[aA z,aA z];rfl
    have hz:(if decide (V.str u.1=V.str h)=true then (1:Int) else 0)=((if u.1=h then 1 else 0:Nat):Int):=by
     by_cases z:u.1=h
     ·rw[aI z,z];simp
     rw[aA z,aA (by intro y;exact z (V.str.inj (o9 y)))];rfl
    apply#[_,U,c,_,0,_,U,U,.of GU,L2.d0 (j:=0) U,_,U,c,_,1,_,U,U,.of GU,L2.d0 (j:=1) U,zl,λlo Rk=>?_];let#[sA,eA]:=aH (o:=.lst [.str u.1,.str u.2]) Rk;generalize upd H4 lo (.lst [.str u.1,.str u.2])=HA at sA eA ⊢;apply#[_,U,c,_,0,_,U,U,.of (sA _ _ GU),L2.d0 (j:=0) U,_,U,_,U,t,_,i,_,U,U,.of (sA _ _ pM),L2.d0 hV,U,.inr #[_,U,?_]];rw[hz];apply#[lo,_,_,_,U,U,.of eA,L2.d0 ho,?_];let Q7:=sA _ _ pM;apply#[_,U,_,U,_,U,t,_,U,.of Q7,?_,λp1 xx=>?_]
    ·rw[HT.eS,HT.d8,ao];omega
    rw[Oe];let#[s5,e5]:=aH (o:=.tup ((sV s).take i)) xx;generalize upd HA p1 (.tup ((sV s).take i))=H5 at s5 e5 ⊢;apply#[_,U,zl,λp2 kg=>?_];let#[s6,e6]:=aH (o:=.tup [.str (iE u h)]) kg;generalize upd H5 p2 (.tup [.str (iE u h)])=H6 at s6 e6 ⊢;apply#[p1,p2,_,_,U,U,s6 _ _ e5,e6,by rw[dR,ao,jn];omega,λp3 H7 s7 e7=>?_];let Pz:=(s5.trans s6).trans s7;apply#[_,U,_,U,_,_,U,U,_,U,t,_,U,.of (Pz _ _ Q7),?_,λp4 D9=>?_]
    ·rw[show ((i:Int)+1)=((i+1:Nat):Int) by omega,HT.d8,ao];omega
    rw[show ((i:Int)+1)=((i+1:Nat):Int) by omega,Tq];let#[pF,e8]:=aH (o:=.tup ((sV s).drop (i+1))) D9;generalize upd H7 p4 (.tup ((sV s).drop (i+1)))=H8 at pF e8 ⊢;apply#[p3,p4,_,_,U,U,pF _ _ e7,e8,by rw[eI,dR,ao,jn,List.length_drop,ao];omega,λp5 H9 s9 e9=>?_];rw[T5 Q9] at e9;let yQ:=sA.trans ((Pz.trans pF).trans s9);let Ah:=yQ _ _ iH;apply#[_,U,.inl #[U,_,.of Ah],_,U,_,U,_,U,t,_,i,_,U,U,.of (yQ _ _ pM),L2.d0 hV,_,U,zl,λm sk=>?_];let#[sB,eB]:=aH (o:=.tup [.str p.1,.str h,.str (iE u h)]) sk;generalize upd H9 m (.tup [.str p.1,.str h,.str (iE u h)])=HB at sB eB ⊢;apply#[_,U,zl,λx hx=>?_];let#[sC,eC]:=aH (o:=.tup [.ref m,.ref p5]) hx;generalize upd HB x (.tup [.ref m,.ref p5])=HC at sC eC ⊢;let PB:=sB.trans sC;let J2:=yQ.trans PB;let SU:=J2 _ _ iH;apply#[l,_,_,U,U,SU,by omega,?_]
    have kt:∀b xs,HC b\.tup xs->upd HC l (.lst (ys++[.ref x])) b\.tup xs:=λb xs e=>by
     rw[aw (bK e SU nofun)];exact e
    apply#[_,_,_,_,L++[((p.1,h,iE u h),s.set i (iE u h))],U,fQ (s4.trans J2) hl,ay,gR ((Dm.keep λb xs e=>J2 _ _ e).keep kt) (.cons #[x,m,p5,U,kt _ _ eC,kt _ _ (sC _ _ eB),kt _ _ (PB _ _ e9)] .nil),λe=>?_,by rw[eI,jn];omega];rw[dN,fJ,eg];constructor
    ·rintro ((z|⟨z,xv,r⟩)|z)
     ·exact .inl z
     ·exact .inr #[z,(tk z).mpr (.inl xv),r]
     exact .inr #[u,(tk u).mpr (.inr U),lX,z]
    rintro (z|⟨z,xv,r⟩)
    ·exact .inl (.inl z)
    rcases (tk z).mp xv with xv|rfl
    ·exact .inl (.inr #[z,xv,r])
    exact .inr r.2
   have kh:¬(h=u.1∨h=u.2):=⇑cd
   apply#[_,_,_,ys,L,U,s4,iH,Dm,λe=>(fJ e).trans #[λz=>z.imp id λ⟨x,hx,r⟩=>#[x,(tk x).mpr (.inl hx),r],λz=>z.imp id λ⟨x,hx,r⟩=>?_],by omega];rcases (tk x).mp hx with hx|rfl
   ·exact#[x,hx,r]
   exact absurd r.1 kh
  rintro σ H4 ⟨v8,v9,v10,ys,L,rfl,s4,iH,Dm,fJ,lT⟩;apply#[_,_,_,_,_,_,_,ys,L,U,s4,iH,Dm,λe=>(fJ e).trans ?_,by omega];rw[Gw,eG];constructor
  ·rintro (⟨k',q',h1,h2,z1,z2⟩|⟨x,hx,r,rfl⟩)
   ·exact#[k',q',h1,h2,by omega,z2]
   exact#[i,_,h,_,by omega,hq,hh,ex.mpr #[x,hx,r,U],U]
  rintro⟨k',q',h1,h2,z1,z2,z3,z4,z5⟩;by_cases ck:k'=i
  ·subst ck;rw[hq] at z2;cases cq z2;rw[hh] at z3;cases cq z3;let#[x,hx,r,rfl]:=ex.mp z4;exact .inr #[x,hx,r,z5]
  exact .inl #[k',q',h1,h2,by omega,z2,z3,z4,z5]
 rintro σ H2 ⟨v4,v5,v6,v7,v8,v9,v10,ys,L,rfl,s2,e2,me,mem,len⟩;have:((yp.length:Nat):Int).toNat=qs.length:=by omega
 rw[this] at mem len;exact#[_,U,k l ys L H2 s2 hl e2 me (λe=>(mem e).trans YW) Z1]
end
theorem ZU{α:Type}{xs:List α}(h:0<xs.length):iJ xs (-1)=xs[xs.length - 1]?:=by
 unfold iJ vA;rw[aA (by decide),aI Z1];show xs[((xs.length:Int) + -1).toNat]? = _;congr 1;omega
def kn(ks:List ak):List (aC × V):=ks.map λs=>(sK s,.bl true)
theorem RX(ks:List ak):(kn ks).map (·.1)=ks.map sK:=by
 unfold kn;rw[cY];rfl
variable{ks:List ak}
theorem So{s:ak}(hs:s∉ks):aY (kn ks) (sK s)=none:=uK (by
 rw[RX];intro hm;let#[x,hx,e]:=br.mp hm;rw[<- K6 e] at hs;exact hs hx)
theorem Zr(ks:List ak)(s:ak):(aY (kn ks) (sK s)).isSome=decide (s∈ks):=by
 by_cases c:s∈ks
 ·rw[cz c];exact IS (by rw[RX];exact br.mpr #[s,c,U])
 rw[fC c,So c];rfl
theorem Ye{s:ak}(hs:s∉ks):putK (kn ks) (sK s) (.bl true)=kn (ks++[s]):=by
 rw[wB (So hs)];unfold kn;rw[fe];rfl
theorem xT{K:ai}{H:Hp}{ps:aM}(h:jM K H ys ps)(s:aa H H'):jM K H' ys ps:=Paired.aU h λy p ⟨t,v,e,ht,wy⟩=>#[t,v,e,s _ _ ht,wy.same s]
def eN(H:Hp):ag->List (List ak)->Prop:=Paired λy L=>∃a zs,y=.ref a/\H a\.lst zs/\gN H zs L
theorem eN.keep{H H':Hp}:∀{ys:ag} {LL:List (List ak)},eN H ys LL->(∀a,V.ref a∈ys->∀xs,H a\.lst xs->H' a\.lst xs)->(∀b xs,H b\.tup xs->H' b\.tup xs)->eN H' ys LL
 |_,_,.nil,_,_=>.nil
 |_,_,.cons ⟨a,zs,e,h1,h2⟩ t,kl,kt=>.cons #[a,zs,e,kl a (by rw[e];exact gz) _ h1,h2.keep kt] (eN.keep t (λa m=>kl a (fM _ m)) kt)
variable{LL:List (List ak)}
theorem eN.same{H:Hp}(h:eN H ys LL)(s:aa H H'):eN H' ys LL:=h.keep (λ_ _ _ e=>s _ _ e) λ_ _ e=>s _ _ e
structure gC (N:ak->ak->Prop) (s0:ak) (LL:List (List ak)):Prop where
 is:∀(j:Nat) L,LL[j]? = some L->L.Nodup/\∀s,s∈L ↔ Ds N s0 j s
 last:∃n,LL.length=n+1/\LL[n]? = some []
 ne:∀(j:Nat) L,j+1<LL.length->LL[j]? = some L->L≠[]
variable{N:ak->ak->Prop}{s0:ak}
theorem gC.mem(h:gC N s0 LL){j:Nat}{s:ak}(d:Ds N s0 j s):∃L,LL[j]? = some L/\s∈L:=by
 let#[n,hn,hl]:=h.last
 have hj:j<n:=by
  by_cases c:j<n
  ·exact c
  let#[t,ht]:=d.down n Z1;exact absurd (((h.is n _ hl).2 t).mpr ht) gI
 have hx:LL[j]? = some (LL[j]' Z1):=aX Z1;exact#[_,hx,((h.is j _ hx).2 s).mpr d]
theorem gC.flat(h:gC N s0 LL):LL.flatten.Nodup:=by
 rw[qa,List.pairwise_flatten];apply#[λL hL=>?_,?_]
 ·let#[j,hj,e]:=gH hL;exact qa.mp (h.is j L (by rw[aX hj,e])).1
 rw[List.pairwise_iff_getElem];intro i j hi hj lt;intro s h1 t h2 e;subst e;let d1:=((h.is i _ (aX hi)).2 s).mp h1;let d2:=((h.is j _ (aX hj)).2 s).mp h2;have:=d1.inj d2;omega
theorem gC.all(h:gC N s0 LL)(s:ak):s∈LL.flatten ↔ ∃j,Wk N s0 j s:=by
 rw[List.mem_flatten];constructor
 ·rintro⟨L,hL,hs⟩;let#[j,hj,e]:=gH hL;exact#[j,(((h.is j L (by rw[aX hj,e])).2 s).mp hs).1]
 rintro⟨j,w⟩;let#[i,_,d]:=w.ds;let#[L,hL,hs]:=h.mem d;exact#[L,cy hL,hs]
theorem gC.vm(h:gC N s0 LL){m:Nat}(hm:LL.flatten.length<=m):¬More N s0 m:=λ⟨l,nd,al,lt⟩=>by
 have:=List.Nodup.length_le_of_subset nd λs hs=>(h.all s).mpr (al s hs);omega
section v
theorem AJ:bN [mq,"_law_ties_here","_law_spot","_law_most","_law_known","_law_layers_here","_law_layer","_law_one","_law_move","_law_later"] tP (a9 M4):=bT
inductive NP (K:ai) (vs:ag) (H:Hp) (Q:VK) (E:XK):Prop
 |mk:∀(lp lt t:Addr) (m:Nat) (yp zs:ag) (hs:Xa) (ts:Xb) (ss qs:aM) (s:ak),vs=[.ref lp,.ref lt,.ref t,.int m]->H lp\.lst yp->jM K H yp ss->H lt\.lst zs->bR K H zs (ts.map kT)->Good hs ts->eM ts ss qs->ss.length<=8->H t\.tup (sV s)->Vs hs qs s->(aN hs).length ^ qs.length<=m->m<=1000000->(∀l ys LL H',aa H H'->H l=none->H' l\.lst ys->eN H' ys LL->(∀b,V.ref b∈ys->H b=none)->gC (Nx hs ts qs) s LL->LL.flatten.length<=m->Q (.ref l) H')->NP K vs H Q E
theorem gf_(F:bC K "_law_layers" "_law_layers" M4 f fd)(B:Bi mg)(cM:!bx 1 "_law_moves" tO (MU K)):!au bh 2 f fd tP (NP K):=by
 exists F.bS AJ;let#[lp,lt,t,m,yp,zs,hs,ts,ss,qs,s,rfl,iG,pc,dW,tu,G,S,s8,ht,v,bm,m6,k]:=h;let hu:=fN hr;let sz:=cU;refine' #[_,av ?s1 (av ?s2 (av ?s3 (aE ?s4))),?kk]
 case s1=>exact bo 4 AJ.nd (Sy hu (pv 2) gG)
 case s2=>exact bo 5 AJ.nd (fE %[fE %[2|0]|0])
 case' s3=>refine' FG dI (PW.pt (L4 ?w1 (Mq ?w2))) (av ?b1 (av ?b2 (aE ?b3)))
 case w1=>exact fg (MM (ml hr 0)) (bw hJ (pv 5) (Qu QY aD)) (fE bF)
 case w2=>exact fg vR (cZ T6 (by rfl) B.len gF %[4|0]) (pv 3)
 case b1=>exact bo 6 AJ.nd (fE bF)
 case' b2=>refine' d_ dI U (dF (bw hJ (pv 5) (Qu QY aD))) ?g2 (aE ?c1)
 case g2=>exact cm 7 AJ.nd
 case' c1=>refine' d_ dI U (dF (bc cM hr %[0,1,7|0])) ?g3 (aE ?c2)
 case g3=>exact kq U (dH (cm 8 AJ.nd) (dH (cm 9 AJ.nd) iK))
 case' c2=>refine' b_ (tG (IU hu (pv 9) (pv 4))) (av ?d1 (aE ?d2)) cg
 case d1=>exact uC hu (pv 4) (pv 9) gG U
 case d2=>exact kC (om l_ uD uE tK (pv 6) %[9|0])
 case b3=>exact kC (om l_ uD uE tK (pv 5) %[6|0])
 case s4=>exact bu (pv 5)
 intro d hd;have hK:∀{H':Hp},H' t\.tup (sV s)->H' t\.tup ((sK s).map kV):=λe=>by rw[qZ];exact e
 apply#[_,U,ay,t,sK s,U,by rw[aw (bq ht hd)];exact hK ht,?_];have s1:aa H (upd (upd H d (.dT [])) d (.dT [(sK s,.bl true)])):=fQ (aa.new hd) hd;have e1:upd (upd H d (.dT [])) d (.dT [(sK s,.bl true)]) d\.dT (kn [s]):=ay;generalize upd (upd H d (.dT [])) d (.dT [(sK s,.bl true)])=H1 at s1 e1 ⊢;apply#[_,U,zl,λa0 oa=>?_];let#[s2,e2]:=aH (o:=.lst [.ref t]) oa;have a0n:H a0=none:=s1.free oa;let S0:=s2 _ _ e1;let i9:=s1.trans s2;generalize upd H1 a0 (.lst [.ref t])=H2 at s2 e2 S0 i9 ⊢;apply#[zl,λl hl=>?_];let#[s3,e3]:=aH (o:=.lst [.ref a0]) hl;have ln:H l=none:=i9.free hl;have a0l:a0≠l:=bq e2 hl;let SZ:=s3 _ _ S0;let S5:=s3 _ _ e2;let eU:=i9.trans s3;generalize upd H2 l (.lst [.ref a0])=H3 at s3 e3 SZ S5 eU ⊢
 let N:ak->ak->Prop:=Nx hs ts qs
 let Wv:bO:=λn σ H'=>∃(v6 v7 v8 v9:aJ) (k:Nat) (ys:ag) (LL:List (List ak)) (ks nw:List ak),σ=[some (.ref lp),some (.ref lt),some (.ref t),some (.int m),some (.ref d),some (.ref l),v6,v7,v8,v9]/\aa H H'/\H' d\.dT (kn ks)/\H' l\.lst ys/\eN H' ys LL/\(∀b,V.ref b∈ys->H b=none/\b≠l)/\LL.length=k+1/\LL[k]? = some nw/\(∀(j:Nat) L,LL[j]? = some L->L.Nodup/\∀s',s'∈L ↔ Ds N s j s')/\Bf N s k ks nw/\(∀s'∈ks,Vs hs qs s')/\n=(aN hs).length ^ qs.length - ks.length+(if nw=[] then 0 else 1)/\k+(if nw=[] then 0 else 1)<=ks.length/\∀(j:Nat) L,j<k->LL[j]? = some L->L≠[]
 apply#[Wv,#[_,none,none,none,none,0,[.ref a0],[[s]],[s],[s],U,eU,SZ,e3,.cons #[a0,_,U,S5,.cons #[t,U,eU _ _ ht] .nil] .nil,?_,U,U,?_,Bf.start,?_,U,?_,λj L z=>absurd z (Nat.not_lt_zero _)],?_]
 ·intro b hb;cases V.ref.inj (eg.mp hb);exact#[a0n,a0l]
 ·intro j L hj;cases j with
  |zero=>
   cases cq hj;exact#[by simp,(Bf.start (N:=N) (s0:=s)).new]
  |succ j=>cases hj
 ·intro s' hs';rw[eg.mp hs'];exact v
 ·simp
 rintro n σ H4 ⟨v6,v7,v8,v9,kk,ys,LL,ks,nw,rfl,s4,ed4,iH,y6,pP,lT,vq,QJ,FD,Jn,hn,kle,ne4⟩;let kB:=BI (ns:=aN hs) (n:=qs.length) FD.nd λs' hs'=>#[(Jn s' hs').len,(Jn s' hs').fV];let DD:=bj y6;have hk:kk<ys.length:=by omega
 let#[an,yn,S3,han,iD]:=eO y6 kk hk Z1;rw[aX Z1] at vq;rw[cq vq] at iD
 have xC:iJ ys (-1)\.ref an:=by
  rw[ZU Z1,show ys.length - 1=kk by omega,aX hk,S3]
 have anm:V.ref an∈ys:=by rw[<- S3];exact mI hk
 let Gx:=bj iD;apply#[_,U,_,U,l,ys,_,_,U,U,.of iH,xC,zl,λle hle=>?_];let#[s5,e5]:=aH (o:=.lst []) hle;let pG:=s4.trans s5;let Hj:=s5 _ _ ed4;let sT:=s5 _ _ iH;let Gy:=y6.same s5;let sI:=s5 _ _ han;let CI:=iD.keep λb xs e=>s5 _ _ e;generalize upd H4 le (.lst [])=H5 at s5 e5 pG Hj sT Gy sI CI ⊢;apply#[an,le,yn,U,U,.of sI,.of e5,_,U,?_];by_cases cn:nw=[]
 ·have Jk:yn=[]:=by
   rw[cn] at Gx;exact List.length_eq_zero_iff.mp Gx
  rw[Jk];apply aL (aL #[_,U,?_]);rw[cn] at FD;have ok:gC (Nx hs ts qs) s LL:=#[QJ,#[kk,lT,by rw[aX Z1];exact vq.trans (by rw[cn])],λj L z=>ne4 j L Z1];apply k l ys LL H5 pG ln sT Gy (λb hb=>(pP b hb).1) ok (gj (BI ok.flat λs' hs'=>?_) bm);let#[j,wj]:=(ok.all s').mp hs';exact#[(wj.vs v).len,(wj.vs v).fV]
 have Jk:yn.isEmpty=false:=by
  cases yn with
  |nil=>exact absurd (List.length_eq_zero_iff.mp Gx.symm) cn
  |cons _ _=>rfl
 rw[Jk];apply dD #[_,U,d,_,U,Hj,_,U,_,_,U,U,_,U,?_];have lk:(kn ks).length=ks.length:=ao _;rw[aA cn] at hn kle;have ct:decide (((kn ks).length:Int)<=(m:Int))=true:=cz Z1;rw[ct];apply dD #[λaV H'=>∃m',m'<n/\Wv m' aV H',λ_ _ h=>h,?_];apply#[zl,λla gx=>?_];let#[s6,e6]:=aH (o:=.lst []) gx;have Qn:H la=none:=pG.free gx;have KG:la≠l:=(bq sT gx).symm;have ana:an≠la:=bq sI gx;have OM:an≠l:=(pP an anm).2;have and_:an≠d:=bK sI Hj nofun
 have fra:∀b,V.ref b∈ys->b≠la:=λb hb=>by
  let#[i,hi,ei]:=gH hb;let#[a',zs',e',h',_]:=eO Gy i hi Z1;rw[ei] at e';cases e';exact bq h' gx
 let gq:=pG.trans s6;let SY:=s6 _ _ Hj;let uj:=s6 _ _ sT;let A7:=Gy.same s6;let zL:=s6 _ _ sI;let Px:=CI.keep λb xs e=>s6 _ _ e;generalize upd H5 la (.lst [])=H6 at s6 e6 gq SY uj A7 zL Px ⊢
 let J:List ak->Hp->Prop:=λseen H'=>∃(iQ fd:List ak) (fs:ag),aa H H'/\H' d\.dT (kn iQ)/\H' l\.lst ys/\eN H' ys LL/\H' an\.lst yn/\gN H' yn nw/\H' la\.lst fs/\gN H' fs fd/\Wd ks seen iQ fd/\(∀s'∈iQ,Vs hs qs s')/\iQ.length=ks.length+fd.length
 let Iv:bO:=λi σ H'=>∃(v7 v8 v9:aJ) (seen:List ak),σ=[some (.ref lp),some (.ref lt),some (.ref t),some (.int m),some (.ref d),some (.ref l),some (.ref la),v7,v8,v9]/\J seen H'/\(∀b,b∈seen ↔ ∃h∈nw.take i,N h b)
 apply#[_,U,_,U,l,ys,_,_,U,U,.of uj,xC,an,U,#[_,.of zL],?_];apply gh (K:=K) (a:=an) (xs:=yn) Iv ?_ ?_ ?_ ?_
 ·exact#[_,_,_,[],U,#[ks,[],[],gq,SY,uj,A7,zL,Px,e6,.nil,Wd.start FD.nd,Jn,U],λb=>#[λz=>absurd z gI,λ⟨_,z,_⟩=>absurd z gI]]
 ·rintro i σ H' _ ⟨_,_,_,_,_,⟨_,_,_,_,_,_,_,e,_⟩,_⟩;exact .of e
 ·rintro i y σ H7 hy ⟨VC,VB,VA,seen,rfl,⟨GE,o6,Ss,oN,E3,Ai,Dw,EG,JW,Hq,yx,Ca,Cc,Qk⟩,mem⟩;have hi:i<yn.length:=(bZ.mp hy).1
  obtain⟨h,hh,u,rfl,_O⟩:∃h,nw[i]? = some h/\∃u,y=.ref u/\H7 u\.tup (sV h):=by
   have:=eO JW i hi Z1;rw[aX hi] at hy;cases hy;exact#[nw[i]' Z1,aX Z1,this]
  let hm:=cy hh;let sr:=(FD.new h).mp hm;have vh:Vs hs qs h:=sr.1.vs v;apply#[_,U,_,U,_,U,lp,lt,u,yp,zs,hs,ts,ss,qs,h,U,oN _ _ iG,xT pc oN,oN _ _ dW,tu.same oN,G,S,s8,_O,vh,λl3 qd L H8 pF pK e8 Qc lR KC=>?_];have Qp:l3≠l:=λz=>by rw[z,Ai] at pK;cases pK
  have GD:l3≠la:=λz=>by rw[z,Hq] at pK;cases pK
  have l3d:l3≠d:=λz=>by rw[z,E3] at pK;cases pK
  let Ky:=bj Qc
  let Iw:bO:=λj σ H'=>∃(v8 v9:aJ) (dk:List ak),σ=[some (.ref lp),some (.ref lt),some (.ref t),some (.int m),some (.ref d),some (.ref l),some (.ref la),some (.ref u),v8,v9]/\H' l3\.lst qd/\Ak H' qd L/\J dk H'/\(∀b,b∈dk ↔ b∈seen∨∃e∈L.take j,b=e.2)
  apply#[l3,U,#[_,.of e8],?_];apply gh (K:=K) (a:=l3) (xs:=qd) Iw ?_ ?_ ?_ ?_
  ·exact#[_,_,seen,U,e8,Qc,#[GE,o6,Ss,oN.trans pF,pF _ _ E3,pF _ _ Ai,Dw.same pF,pF _ _ EG,JW.keep λb xs e=>pF _ _ e,pF _ _ Hq,yx.keep λb xs e=>pF _ _ e,Ca,Cc,Qk],λb=>#[.inl,λz=>z.elim id λ⟨_,w,_⟩=>absurd w (gI)]]
  ·rintro j σ H' _ ⟨_,_,_,_,e,_⟩;exact .of e
  ·rintro j y σ H9 hy ⟨Jr,Jq,dk,rfl,e9,Gv,⟨pL,SA,Mc,Ge,E2,Ah,Qf,EF,Pw,S4,yw,Jl,F0,Qj⟩,vp⟩;have hj:j<qd.length:=(bZ.mp hy).1
   obtain⟨e,he,tt,mm,uu,rfl,K0,_,Q4⟩:∃e,L[j]? = some e/\∃t m u,y=.ref t/\H9 t\.tup [.ref m,.ref u]/\H9 m\.tup [.str e.1.1,.str e.1.2.1,.str e.1.2.2]/\H9 u\.tup (sV e.2):=by
    have:=eO Gv j hj Z1;rw[aX hj] at hy;cases hy;exact#[L[j]' Z1,aX Z1,this]
   have bL:N h e.2:=#[e.1,(lR e).mp (cy he)]
   have tk:∀c,(∃e∈L.take (j+1),c=e.2) ↔ (∃e∈L.take j,c=e.2)∨c=e.2:=λc=>by
    rw[kz,he];constructor
    ·rintro⟨x,hx,r⟩;rcases dN.mp hx with hx|hx
     ·exact .inl #[x,hx,r]
     have:x=e:=⇑hx
     rw[this] at r;exact .inr r
    rintro (⟨x,hx,r⟩|r)
    ·exact#[x,dN.mpr (.inl hx),r]
    exact#[e,by simp,r]
   have RN:H9 uu\.tup ((sK e.2).map kV):=by rw[qZ];exact Q4
   apply#[tt,_,U,.of K0,U,_,_,U,_,_,U,U,?_];apply#[_,U,_,U,d,_,U,.t E2 RN,_,U,?_];rw[Zr];by_cases c:e.2∈pL
   ·rw[cz c];apply aL ?_;apply#[_,_,dk++[e.2],U,e9,Gv,#[pL,SA,Mc,Ge,E2,Ah,Qf,EF,Pw,S4,yw,Jl.skip c,F0,Qj],λz=>?_];rw[dN,vp,tk,eg,or_assoc]
   rw[fC c];apply dD ?_;let kB9:=BI (ns:=aN hs) (n:=qs.length) Jl.nd λs' hs'=>#[(F0 s' hs').len,(F0 s' hs').fV];let lf:=bj yw;have XN:(kn pL).length=pL.length:=ao _;apply#[_,U,_,U,d,_,U,.t E2 RN Z1,?_];rw[Ye c];have kA:∀{c o},H9 c\o->c≠d->upd H9 d (.dT (kn (pL++[e.2]))) c\o:=λe ne=>by rw[aw ne];exact e
   have tA:∀c xs,H9 c\.tup xs->upd H9 d (.dT (kn (pL++[e.2]))) c\.tup xs:=λc xs e=>kA e (bK e E2 nofun);have lA:∀c xs,H9 c\.lst xs->upd H9 d (.dT (kn (pL++[e.2]))) c\.lst xs:=λc xs e=>kA e (bK e E2 nofun);have sA:aa H (upd H9 d (.dT (kn (pL++[e.2])))):=fQ Ge hd;have eA:upd H9 d (.dT (kn (pL++[e.2]))) d\.dT (kn (pL++[e.2])):=ay;generalize upd H9 d (.dT (kn (pL++[e.2])))=HA at kA tA lA sA eA ⊢;let Ho:=lA _ _ S4;apply#[_,U,.inl #[U,_,.of Ho],_,U,la,_,_,U,U,Ho,by omega,?_];have lB:∀c xs,c≠la->H9 c\.lst xs->upd HA la (.lst (Mc++[.ref uu])) c\.lst xs:=λc xs ne e=>by rw[aw ne];exact lA _ _ e
   have tB:∀c xs,H9 c\.tup xs->upd HA la (.lst (Mc++[.ref uu])) c\.tup xs:=λc xs e=>by
    rw[aw (bK (tA _ _ e) Ho nofun)];exact tA _ _ e
   have XR:d≠la:=bK eA Ho nofun;apply#[_,_,dk++[e.2],U,lB _ _ GD e9,Gv.keep tB,#[pL++[e.2],SA++[e.2],_,fQ sA Qn,by rw[aw XR];exact eA,lB _ _ KG.symm Ah,Qf.keep (λb hb xs e=>lB _ _ (fra b hb) e) tB,lB _ _ ana EF,Pw.keep tB,ay,gR (yw.keep tB) (.cons #[uu,U,tB _ _ Q4] .nil),Jl.add c,λs' hs'=>?_,?_],λz=>?_]
   ·rcases dN.mp hs' with hs'|hs'
    ·exact F0 s' hs'
    rw[eg.mp hs'];exact bL.vs vh
   ·rw[eI,eI,Qj];rfl
   rw[dN,vp,tk,eg,or_assoc]
  rintro σ H9 ⟨Jr,Jq,dk,rfl,e9,Gv,jj,vp⟩;apply#[_,_,_,dk,U,jj,λb=>?_];rw[vp,mem,show qd.length=L.length from Ky,eG,kz,hh];simp only[Option.toList_some,dN,eg];constructor
  ·rintro (⟨h',sk,nx⟩|⟨e,he,rfl⟩)
   ·exact#[h',.inl sk,nx]
   exact#[h,.inr U,e.1,(lR e).mp he]
  rintro⟨h',sk|rfl,nx⟩
  ·exact .inl #[h',sk,nx]
  let#[mm,nx]:=nx;exact .inr #[(mm,b),(lR (mm,b)).mpr nx,U]
 rintro σ H7 ⟨VC,VB,VA,seen,rfl,⟨GE,o6,Ss,oN,E3,Ai,Dw,EG,JW,Hq,yx,Ca,Cc,Qk⟩,mem⟩;rw[Gx,eG] at mem;let UO:=FD.next Ca mem;apply#[_,U,.inl #[U,_,.of Ai],_,U,l,_,_,U,U,Ai,by omega,?_];have lB:∀c xs,c≠l->H7 c\.lst xs->upd H7 l (.lst (ys++[.ref la])) c\.lst xs:=λc xs ne e=>by rw[aw ne];exact e
 have tB:∀c xs,H7 c\.tup xs->upd H7 l (.lst (ys++[.ref la])) c\.tup xs:=λc xs e=>by
  rw[aw (bK e Ai nofun)];exact e
 let kB7:=BI (ns:=aN hs) (n:=qs.length) Ca.nd λs' hs'=>#[(Cc s' hs').len,(Cc s' hs').fV];have dl:d≠l:=bK E3 Ai nofun
 have gl:(LL++[o6])[kk+1]? = some o6:=by
  rw[x5 Z1,show kk+1 - LL.length=0 by omega];rfl
 have fl:o6=[]->o6.length=0:=λz=>by rw[z];rfl
 have G2:o6≠[]->0<o6.length:=λz=>List.length_pos_iff.mpr z;apply#[(aN hs).length ^ qs.length - GE.length+(if o6=[] then 0 else 1),?_,_,_,_,_,kk+1,_,LL++[o6],GE,o6,U,fQ oN ln,by rw[aw dl];exact E3,ay,gR (Dw.keep (λb hb xs e=>lB _ _ (pP b hb).2 e) tB) (.cons #[la,_,U,lB _ _ KG Hq,yx.keep tB] .nil),?_,by rw[eI,lT];rfl,gl,?_,UO,Cc,U,?_,?_]
 ·by_cases z:o6=[]
  ·rw[aI z];have:=fl z;omega
  rw[aA z];have:=G2 z;omega
 ·intro b hb;rcases dN.mp hb with hb|hb
  ·exact pP b hb
  cases V.ref.inj (eg.mp hb);exact#[Qn,KG]
 ·intro j L hL;by_cases c:j<LL.length
  ·rw[wC c] at hL;exact QJ j L hL
  let zD:=(bZ.mp hL).1;rw[eI,jn] at zD;have:j=kk+1:=by omega
  subst this;rw[gl] at hL;cases cq hL;exact#[Ca.nf,UO.new]
 ·by_cases z:o6=[]
  ·rw[aI z];omega
  rw[aA z];have:=G2 z;omega
 intro j L hj hL;rw[wC Z1] at hL;by_cases c:j<kk
 ·exact ne4 j L c hL
 have:j=kk:=by omega
 subst this;rw[aX Z1,cq vq] at hL;rw[<- cq hL];exact cn
end
end Ev
namespace L2
open PySem PySem.Spec PyProof.Rows PySem.W wI hW
inductive rJ (K:ai) (x:V) (y:V) (H:Hp) (Q:VK):Prop
 |mk:∀a b xs,x=.ref a->y=.ref b->dY K H a xs->dY K H b []->Q (.bl xs.isEmpty) H->rJ K x y H Q
variable{X:Cx}
theorem ZR(hu:X.A.units+0+1<cLine):dO X (compareOp .Eq) (rJ X.K):=by
 intro pins s σ H x y v u Q I rx ry h;let#[a,b,xs,rfl,rfl,t,t',hq]:=h;cases xs with
 |nil=>exact Yj iq hu pins s σ H (.ref a) (.ref b) v u Q I rx ry #[[],[],#[a,[],U,t,.nil],#[b,[],U,t',.nil],hq]
 |cons z zs=>
  cases rx;cases ry;let#[us,r,pl,_]:=I.list t;let#[vs,r',vi,_]:=I.list t';let l1:=r.length;let l2:=r'.length;exact SeqAt.eq_list_lengthsAt pl.isList vi.isList (by simp only[cQ,bne_iff_ne];simp at l1 l2;omega) Z1 #[.bl false,H,I,U,hq]
end L2
namespace Ev
open PySem L2
structure BS (K:ai) (H:Hp) (lh lp lt ll:Addr) (hs:Xa) (ts:Xb) (ss qs:aM) (l:Int × Int):Prop where
 hh:∃yh,H lh\.lst yh/\bR K H yh (hs.map kH)
 hp:∃yp,H lp\.lst yp/\jM K H yp ss
 ht:∃zs,H lt\.lst zs/\bR K H zs (ts.map kT)
 hl:hU H ll l
 lo:vU l
 G:Good hs ts
 S:eM ts ss qs
 s8:ss.length<=8
variable{H':Hp}
theorem BS.same{K:ai}{H:Hp}{lh lp lt ll:Addr}{hs:Xa}{ts:Xb}{ss qs:aM}{l:Int × Int}(h:BS K H lh lp lt ll hs ts ss qs l)(s:aa H H'):BS K H' lh lp lt ll hs ts ss qs l:=by
 let#[#[yh,a1,a2],#[yp,b1,b2],#[zs,c1,c2],d,e,f,g,i]:=h;exact#[#[yh,s _ _ a1,a2.same s],#[yp,s _ _ b1,xT b2 s],#[zs,s _ _ c1,c2.same s],s _ _ d,e,f,g,i]
def Tld(H:Hp)(t:Addr)(hs:Xa)(ts:Xb)(qs:aM)(s0:ak)(l:Int × Int):Prop:=
 (∃(x:Addr) (ys:ag) (ms:List (Str × Str × Str)) (s:ak),H t\.tup [.str "moves",.ref x]/\H x\.lst ys/\oC H ys ms/\AQ hs ts qs s0 ms s/\Ds (Nx hs ts qs) s0 ms.length s/\je hs qs s l=true/\∀j z,j<ms.length->Ds (Nx hs ts qs) s0 j z->je hs qs z l=false)∨(H t\.tup [.str "none"]/\∀j z,Ds (Nx hs ts qs) s0 j z->je hs qs z l=false)
variable{l:Addr}
theorem gy.but{K:ai}{CG CW:Addr}{H:Hp}{g p:Addr}{hs:Xa}{ts:Xb}{qs:aM}{fp:aq}(G:gy K CG CW H g p hs ts qs fp)(b:bz l H H')(st:dQ H l)(nl:l∉fp):gy K CG CW H' g p hs ts qs fp:=by
 let#[xs,e]:=st.some;exact G.keep (λc hc o ho=>b _ _ ho λz=>nl (by rw[<- z];exact hc)) (λc zs hz=>b _ _ hz (bK hz e nofun))
theorem gy.CK{K:ai}{CG CW:Addr}{H:Hp}{g p:Addr}{hs:Xa}{ts:Xb}{qs:aM}{fp:aq}(G:gy K CG CW H g p hs ts qs fp):∃ui,gy K CG CW H g p hs ts qs ui/\(∀b∈ui,∃o,H b\o)/\∀c∈ui,c∈fp:=by
 let#[dx,dw,dy,vs,dc,h1,h2,h3,h4,h5,m1,m2,m3,m4,m5]:=G.ex;have fV:∀{b:Addr} {o:HO},b∈fp->H b\o->b∈fp.filter λb=>(H b).isSome:=λm e=>mF.mpr #[m,by rw[e];rfl];apply#[fp.filter λb=>(H b).isSome,#[dx,dw,dy,vs,dc,h1,h2,h3,h4,h5,fV m1 h1,fV m2 h3,fV m3 h4,λb hb=>?_,λv hv a z=>?_],λb hb=>?_,λb hb=>(mF.mp hb).1]
 ·let#[o,e]:=h2.has hb;exact fV (m4 b hb) e
 ·let#[i,hi,ev]:=gH hv;let le:=bj h5;let w:=eO h5 i hi Z1;rw[ev,z] at w;cases o:(qs[i]' Z1).2.2 with
  |none=>
   rw[o] at w;cases (show V.ref a=.non from w)
  |some ws=>
   rw[o] at w;let#[a',ys,e,h,_]:=w;cases e;exact fV (m5 v hv a z) h
 exact Option.isSome_iff_exists.mp (mF.mp hb).2
theorem fk_{hs:Xa}{ts:Xb}{qs:aM}{f:bg}{r:Int}(G:Good hs ts)(wp:∀q∈qs,0<=q.2.1/\q.2.1<=1000000000)(cX:qs.length<64)(R:jI hs qs f r):vU (fr r (bP hs)):=by
 let rl:=HW G wp cX R;let mo:=tw G;let fb:=Qw rl.1 rl.2 mo.1 mo.2.1;let#[f1,f2,f3,f4,f5]:=fb;apply#[f3,?_,?_,?_,f5]<;>omega
structure tS (N:ak->ak->Prop) (s0:ak) (c:Nat) (LL:List (List ak)):Prop where
 is:∀(j:Nat) L,LL[j]? = some L->L.Nodup/\∀s,s∈L ↔ Ds N s0 j s
 len:LL.length<=c+1
 all:∀j z,j<=c->Ds N s0 j z->j<LL.length
variable{N:ak->ak->Prop}{LL:List (List ak)}
theorem tS.mem{s0:ak}{c:Nat}(h:tS N s0 c LL)(s:ak):s∈LL.flatten ↔ ∃j,j<=c/\Ds N s0 j s:=by
 rw[List.mem_flatten];constructor
 ·rintro⟨L,hL,hs⟩;let#[j,hj,e]:=gH hL;have:=h.len;exact#[j,by omega,((h.is j L (by rw[aX hj,e])).2 s).mp hs]
 rintro⟨j,hj,d⟩;let hl:=h.all j s hj d;exact#[_,mI hl,((h.is j _ (aX hl)).2 s).mpr d]
theorem RZ{s0:ak}(is:∀(j:Nat) L,LL[j]? = some L->L.Nodup/\∀s,s∈L ↔ Ds N s0 j s):LL.flatten.Nodup:=by
 rw[qa,List.pairwise_flatten];apply#[λL hL=>?_,?_]
 ·let#[j,hj,e]:=gH hL;exact qa.mp (is j L (by rw[aX hj,e])).1
 rw[List.pairwise_iff_getElem];intro i j hi hj lt;intro s h1 t h2 e;subst e;let d1:=((is i _ (aX hi)).2 s).mp h1;let d2:=((is j _ (aX hj)).2 s).mp h2;have:=d1.inj d2;omega
theorem oE.Ow{r a:Addr}{H:Hp}{CR dx:Addr}{fs:List (Str × V)}{hs:Xa}{ts:Xb}{qs:aM}{kvs:List (aC × V)}(h:oE H l hs ts qs)(b:pC r a H H')(hr:H r\.ins CR dx fs)(ha:H a\.dT kvs):oE H' l hs ts qs:=by
 have k:∀{c o},H c\o->o≠.dT kvs->o≠.ins CR dx fs->H' c\o:=λe n1 n2=>b _ _ e (λz=>by
  rw[z,hr] at e;cases e;exact n2 U) λz=>by
  rw[z,ha] at e;cases e;exact n1 U
 let#[ds,h1,h2]:=h;exact#[ds,k h1 nofun nofun,Paired.aU h2 λd q ⟨ad,x1,x2⟩=>#[ad,k x1 nofun nofun,λy hy=>k (x2 y hy) nofun nofun]]
section v
theorem k9:bN ["goods","placed","count","reach","layers"] ["goods","placed","count"] (a9 qY):=bT
inductive kW (K:ai) (CG CW:Addr) (vs:ag) (H:Hp) (Q:VK) (E:XK):Prop
 |mk:∀(g p d:Addr) (hs:Xa) (ts:Xb) (qs:aM) (fp:aq) (f:bg) (s0:ak) (c:Nat),vs=[.ref g,.ref d,.int c]->Gs K CG CW H g p hs ts qs fp->H d\.dK (ft (qs.map (·.1)) f)->s0=(qs.map (·.1)).map f->Vs hs qs s0->(aN hs).length ^ qs.length<=3000->c<=1000000->(∀l ys LL H',aa H H'->H l=none->H' l\.lst ys->eN H' ys LL->(∀b,V.ref b∈ys->H b≠some (.lst []))->tS (Nx hs ts qs) s0 c LL->Q (.ref l) H')->kW K CG CW vs H Q E
theorem YS{f0 CG CW CR:Addr}{fd:Ae}(F:bC K "layers_within" "layers_within" qY f0 fd)(B:Bi mg)(T:mK K CR){tk:Tok}(mM:mg "MOST_STANDS"\.int 3000 tk)(cR:!jZ CR 5 "Reach" oy (IG K CG CW CR))(cW:!bV CR 2 "widen" ["self","most"] (Ii CR)):!au bh 7 f0 fd ["goods","placed","count"] (kW K CG CW):=by
 exists F.bS k9;let#[g,p,d,hs,ts,qs,fp,f,s0,c,rfl,G,hd,sQ,v0,bm,c6,k]:=h;let hu:=fN hr;let sz:=cU;have n8:(aN hs).length<=8:=by rw[G.Gd.gT];exact G.Gd.h8
 have iR:aO 2 _:=hr.mono (by decide);refine' #[_,av ?s1 (av ?s2 (av ?s3 (aE ?s4))),?kk]
 case s1=>exact bo 3 k9.nd (GJ cR hr %[0,1|0])
 case s2=>exact bo 4 k9.nd (fE %[gc (pv 3) U|0])
 case' s3=>refine' FG dI (PW.pt (L4 ?w1 (Mq ?w2))) (av ?b1 (aE ?b2))
 case w1=>exact fg vR (cZ h_ (by rfl) B.len gF %[4|0]) (pv 2)
 case w2=>exact fg (MM (ml hr 0)) (gc (pv 3) U) (fE bF)
 case b1=>exact b_ (fh (eZ (iZ cW T.cl iR (pv 3) %[BA (v:=.int 3000) (by rfl) mM #[tk,U]|0]))) gi cg
 case b2=>exact kC (om l_ uD uE tK (pv 4) %[gc (pv 3) U|0])
 case s4=>exact bu (pv 4)
 apply#[_,U,_,U,λr dx jc zG ne=>?_];have s2:aa H (upd (upd H dx (.own r)) r (.ins CR dx [])):=(aa.new zG).trans (aa.new (by rw[aw ne.symm];exact jc));have e2:upd (upd H dx (.own r)) r (.ins CR dx []) r\.ins CR dx []:=ay;generalize upd (upd H dx (.own r)) r (.ins CR dx [])=H2 at s2 e2 ⊢;apply#[r,dx,g,p,d,hs,ts,qs,fp,f,U,e2,G.same s2,s2 _ _ hd,λa x n H3 k3 an R3=>#[U,?_]];rw[<- sQ] at R3;have ON:H a=none:=s2.free an;have eU:aa H H3:=λb o e=>k3 b o (s2 _ _ e) (bq e jc);let#[#[dx3,LX],_,_,#[B_,hn3,_]]:=id R3;apply#[_,U,r,CR,dx3,_,_,U,LX,T.cl,T.nN,BE _ _ _,zl,λl hl=>?_];have ln:H l=none:=eU.free hl;have lr:l≠r:=(bq LX hl).symm
 have la:l≠a:=by
  let#[_,_,#[kvs,ha,_],_]:=R3;exact (bq ha hl).symm
 have nl:n≠l:=bq hn3 hl;let#[s4,e4]:=aH (o:=.lst [.ref n]) hl;let pH:=eU.trans s4;let R4:=R3.same s4;generalize upd H3 l (.lst [.ref n])=H4 at s4 e4 pH R4 ⊢
 let N:ak->ak->Prop:=Nx hs ts qs
 have small:∀l:List ak,l.Nodup->(∀z∈l,∃j,Wk N s0 j z)->l.length<=3000:=λl nd h=>gj (BI nd λz hz=>by
  let#[j,w]:=h z hz;exact#[(w.vs v0).len,(w.vs v0).fV]) bm
 let Iv:bO:=λq σ H'=>∃(n:Addr) (pa:List (ak × Option ak)) (nw:List ak) (kk:Nat) (ys:ag) (LL:List (List ak)),σ=[some (.ref g),some (.ref d),some (.int c),some (.ref r),some (.ref l)]/\aa H H'/\vS CR H' r a x n hs ts qs pa nw/\Bf N s0 kk (pa.map (·.1)) nw/\ph N s0 pa/\H' l\.lst ys/\eN H' ys LL/\(∀b,V.ref b∈ys->b≠l/\H b≠some (.lst []))/\n≠l/\LL.length=kk+1/\(∀(j:Nat) L,LL[j]? = some L->L.Nodup/\∀s,s∈L ↔ Ds N s0 j s)/\kk<=c/\pC r a H3 H'/\q=c - kk
 apply#[Iv,#[_,n,[(s0,none)],[s0],0,[.ref n],[[s0]],U,pH,R4,Bf.start,?_,e4,?_,?_,nl,U,?_,gB _,λb o e _ _=>s4 _ _ e,U],?_]
 ·intro e he;rw[eg.mp he];exact .inl #[U,U]
 ·let#[_,_,_,#[ys,hn,sp]]:=R4;exact .cons #[n,ys,U,hn,sp] .nil
 ·intro b hb;cases V.ref.inj (eg.mp hb);apply#[nl,λe=>?_];let#[_,_,_,#[ys,hn,sp]]:=R4;rw[pH _ _ e] at hn;cases hn;cases sp
 ·intro j L hL;cases j with
  |zero=>
   cases cq hL;exact#[by simp,(Bf.start (N:=N) (s0:=s0)).new]
  |succ j=>cases hL
 rintro q σ H5 ⟨n,pa,nw,kk,ys,LL,rfl,s5,R,bf,po,xD,ly,xM,nl,XU,is,kc,b3,rfl⟩;let DD:=bj ly
 have P6:pa.length<=3000:=by
  have:=small (pa.map (·.1)) bf.nd λz hz=>by
   let#[j,_,w]:=(bf.all z).mp hz;exact#[j,w]
  rwa [ao] at this
 let#[#[Tw,RU],_,_,#[B_,Rh,V8]]:=id R;let Qg:=bj V8;apply#[_,U,l,_,U,.inl (.of xD),_,U,_,_,U,U,_,U,?_];have lay:tS N s0 kk LL:=#[is,by omega,λj z hj _=>by omega];apply bY (λcc=>?_) (λcc=>?_)
 ·have cc:(ys.length:Int)<=(c:Int):=o9 cc;apply#[_,U,r,CR,Tw,_,_,U,RU,T.cl,T.nN,BE _ _ _,zl,λb hb=>?_];let#[s6,e6]:=aH (o:=.lst []) hb;let R6:=R.same s6;let A7:=ly.same s6;let pN:=s6 _ _ xD;let zy:=s6 _ _ Rh;let RS:=s6 _ _ RU;let gq:=s5.trans s6;generalize upd H5 b (.lst [])=H6 at s6 e6 R6 A7 pN zy RS gq ⊢;apply#[n,b,B_,U,U,.of zy,.of e6,_,U,?_];by_cases cn:nw=[]
  ·have ye:B_=[]:=List.length_eq_zero_iff.mp (by rw[Qg,cn];rfl);rw[ye];apply aL ?_;rw[cn] at bf;apply#[_,U,k l ys LL H6 gq ln pN A7 (λb hb=>(xM b hb).2) #[is,by omega,λj z _ dz=>by have:=bf.last dz;omega]]
  have ye:B_.isEmpty=false:=by
   cases B_ with
   |nil=>
    cases nw with
    |nil=>exact absurd U cn
    |cons _ _=>cases Qg
   |cons _ _=>rfl
  rw[ye];apply dD #[λaV H'=>∃q',q'<c - kk/\Iv q' aV H',λ_ _ h=>h,?_];apply#[_,U,r,Tw,_,U,RS,Ir _ _ _ Z0 Z0 Z0,r,x,a,n,hs,ts,qs,pa,nw,s0,kk,3000,U,R6,bf,po,λz hz=>((bf.new z).mp hz).1.vs v0,n8,G.cX,by decide,by omega,λH7 b7 more=>?_,λn' lP lQ H7 b7 nn R7 FC Kb r_ Ke=>#[_,U,aL ?_]]
  ·let#[L,nd,al,lt]:=more;have:=small L nd al;omega
  let#[#[Tv,LV],_,_,#[B9,zx,CD]]:=id R7;have rn:∀{c o},H c\o->c≠r:=λe=>bq e jc;have an':∀{c o},H c\o->c≠a:=λe=>bq e ON;let#[#[dx6,EN],_,#[X1,RT,_],_]:=id R6;have Dx:∀{c xs},H6 c\.lst xs->H7 c\.lst xs:=λe=>b7 _ _ e (bK e EN nofun) (bK e RT nofun);have Jy:∀{c xs},H6 c\.tup xs->H7 c\.tup xs:=λe=>b7 _ _ e (bK e EN nofun) (bK e RT nofun);have oN:aa H H7:=λc o e=>b7 c o (gq _ _ e) (rn e) (an' e);let Dw:=A7.keep (λ_ _ _ e=>Dx e) (λ_ _ e=>Jy e);let zC:=Dx pN;have Gu:n'≠l:=λz=>by rw[z,pN] at nn;cases nn
  have Xp:H n'=none:=gq.free nn;apply#[_,U,.inl #[U,_,.of zC],_,U,r,CR,Tv,_,_,U,LV,T.cl,T.nN,BE _ _ _,l,_,_,U,U,zC,by omega,?_];have PL:aa H (upd H7 l (.lst (ys++[.ref n']))):=fQ oN ln;have e8:upd H7 l (.lst (ys++[.ref n'])) l\.lst (ys++[.ref n']):=ay;have k8:∀{c o},H7 c\o->c≠l->upd H7 l (.lst (ys++[.ref n'])) c\o:=λe ne=>by rw[aw ne];exact e
  generalize upd H7 l (.lst (ys++[.ref n']))=H8 at PL e8 k8 ⊢;have UT:pC r a H3 H8:=λc o e n1 n2=>k8 (b7 _ _ (s6 _ _ (b3 _ _ e n1 n2)) n1 n2) (bq e hl);have t8:∀{c xs},H7 c\.tup xs->H8 c\.tup xs:=λe=>k8 e (bK e zC nofun)
  have gl:(LL++[lQ])[kk+1]? = some lQ:=by
   rw[x5 Z1,show kk+1 - LL.length=0 by omega];rfl
  apply#[c - (kk+1),by omega,n',lP,lQ,kk+1,ys++[.ref n'],LL++[lQ],U,PL,?_,FC,Kb,e8,?_,?_,Gu,by rw[eI,XU];rfl,?_,by omega,?_,U]
  ·let#[_,ex3,#[X2,h3a,_],_]:=id R3;let#[_,_,#[KH,RQ,ah7],_]:=R7;exact#[#[Tv,k8 LV (bK LV zC nofun)],ex3.Ow UT LX h3a,#[KH,k8 RQ (bK RQ zC nofun),ah7.keep λ_ _ e=>t8 e],#[B9,k8 zx Gu,CD.keep λ_ _ e=>t8 e]]
  ·apply gR (Dw.keep (λb hb xs e=>k8 e (xM b hb).1) λ_ _ e=>t8 e) (.cons #[n',B9,U,k8 zx Gu,CD.keep λ_ _ e=>t8 e] .nil)
  ·intro b hb;rcases dN.mp hb with hb|hb
   ·exact xM b hb
   cases V.ref.inj (eg.mp hb);exact#[Gu,λe=>by rw[Xp] at e;cases e]
  ·intro j L hL;by_cases cj:j<LL.length
   ·rw[wC cj] at hL;exact is j L hL
   let zD:=(bZ.mp hL).1;rw[eI,jn] at zD;have:j=kk+1:=by omega
   subst this;rw[gl] at hL;cases cq hL;exact#[FC.nn,FC.new]
  exact UT
 have cc:¬(ys.length:Int)<=(c:Int):=⇑cc
 have ek:kk=c:=by omega
 apply aL #[_,U,k l ys LL H5 s5 ln xD ly (λb hb=>(xM b hb).2) #[is,by omega,λj z hj _=>by omega]]
end
end Ev
namespace L2
open PySem PySem.Spec PyProof.Rows PySem.W
inductive C3 (K:ai) (xs:ag) (H:Hp) (Q:VK):Prop
 |mk:∀(p:Addr) (ns:List Int),xs=[.ref p]->dY K H p (ns.map V.int)->0<ns.length->(∀m,m∈ns->(∀a∈ns,m<=a)->Q (.int m) H)->C3 K xs H Q
variable{X:Cx}
theorem hS_(hc:X.calm=true):gE X (.builtin "min") (C3 X.K):=by
 intro pins s σ H xs us Q I r h;let#[p,ns,rfl,hp,hn,q]:=h;let#[u,rfl,ru]:=vals1 r;cases ru;let#[its,rv,pl,z]:=I.list hp;let hi:=RP rv;let#[xs,e]:=hi.allInts.items;let hl:=pl.isList;have zw:ns=xs.toList.map (·.1):=by rw[<- hi.numsOf,<- nums_intItems,<- e]
 have hsz:0<xs.size:=by
  let h3:=hn;rw[zw] at h3;simpa using h3
 rw[e] at hl;apply min_intList (I.ok.hd hc) hl hsz λv h' tk hv hk=>?_;let#[t,rfl]:=intItems_at hv;let#[h1,h2]:=argBest_lt (numAt xs) (xs.size - 1);apply#[.int _,H,I.kept hk,#[t,U],q _ ?_ λa ha=>?_]
 ·rw[zw,numAt_eq];exact getD_mem (by rw[ao,pf];omega)
 rw[zw] at ha;let#[j,hj,rfl]:=mem_getD ha;rw[ao,pf] at hj;rw[<- numAt_eq];exact h2 j Z1
end L2
namespace Ev
open PySem L2
structure tR (N:ak->ak->Prop) (s0:ak) (hs:Xa) (qs:aM) (c n:Nat) (r:Int):Prop where
 ex:∃l:List ak,l.Nodup/\(∀s,s∈l ↔ ∃j,j<=c/\Ds N s0 j s)/\n=l.length
 at_:∃z j,j<=c/\Ds N s0 j z/\jI hs qs (fS qs z) r
 lo:∀z j r',j<=c->Ds N s0 j z->jI hs qs (fS qs z) r'->r<=r'
variable{r':Int}
theorem hf_{hs:Xa}{qs:aM}{f:bg}{r:Int}(a:jI hs qs f r)(b:jI hs qs f r'):r=r':=by
 let#[x,hx,y,hy,rfl,up]:=a;let#[x',hx',y',Q3,rfl,Pj]:=b;let h1:=(up x' hx').1;let h2:=(up y' Q3).2;let h3:=(Pj x hx).1;let h4:=(Pj y hy).2;omega
theorem ds0{N:ak->ak->Prop}{s0:ak}:Ds N s0 0 s0:=#[.z,λj hj=>absurd hj (Nat.not_lt_zero _)]
variable{fd:Ae}
section v
theorem I0:bN ["goods","stand","count","placed","rises","layer"] ["goods","stand","count"] (a9 Ou):=bT
inductive Od (K:ai) (CG CW:Addr) (vs:ag) (H:Hp) (Q:VK) (E:XK):Prop
 |mk:∀(g p d:Addr) (hs:Xa) (ts:Xb) (qs:aM) (fp:aq) (s0:ak) (ns:af) (f:bg) (c:Nat),vs=[.ref g,.ref d,.int c]->Gs K CG CW H g p hs ts qs fp->Bo H d hs qs fp s0 ns f->(aN hs).length ^ qs.length<=3000->c<=1000000->(∀t u n r H',aa H H'->H' t\.tup [.int (n:Nat),.ref u]->hU H' u (fr r (bP hs))->tR (Nx hs ts qs) s0 hs qs c n r->Q (.ref t) H')->Od K CG CW vs H Q E
theorem ft_{f0 CG CW:Addr}(F:bC K "reached_by" "reached_by" Ou f0 fd)(B:Bi mg)(T:gd K CG)(y0:mg "min"=none)(cS:!bx 2 "checked_stand" ["goods","stand"] (Iq K CG CW))(cF:!bx 2 "is_whole_from" Bl Ip)(cL:!bx 7 "layers_within" ["goods","placed","count"] (kW K CG CW))(cR:!bx 5 "rise_at" oo (Hm K CG CW))(cP:!bx 2 "placed_by" ["goods","hands"] (Hg K CG CW))(cM:!bx 3 Bt ["web"] (E8 K CW))(IH:!bx 2 "fraction_of" ["top","below"] kZ):!au bh 8 f0 fd ["goods","stand","count"] (Od K CG CW):=by
 exists F.bS I0;let#[g,p,d,hs,ts,qs,fp,s0,ns,f,c,rfl,G,S,bm,c6,k]:=h;let sz:=cU;refine' #[_,av ?s1 (av ?s2 (av ?s3 (av ?s4 (aE ?s5)))),?kk]
 case s1=>exact bo 3 I0.nd (bc cS hr %[0,1|0])
 case s2=>exact b_ (fh (eZ (bc cF hr %[2,aD|0]))) gi cg
 case s3=>exact bo 4 I0.nd (fE bF)
 case' s4=>refine' d_ dI U (dF (bc cL hr %[0,3,2|0])) ?g4 (aE ?b4)
 case g4=>exact cm 5 I0.nd
 case' b4=>refine' kC (om l_ PySem.F.slot_list_extend PySem.F.type_list_extend Tp (pv 4) %[ku ["hands","goods"] 1 [0] (dF (pv 5)) (λfp s H=>?g5) (λfp s H=>mE) (λfp s H=>?e5)|0])
 case g5=>exact gg (i:=0) (show (["hands","goods"]:af).Nodup by decide +kernel) U (Or.inl U)
 case e5=>exact bc cR hr %[1,bc cP hr %[1,0|0]|0]
 case s5=>exact bu (iA %[cZ h_ (by rfl) B.len gF %[4|0],bc IH hr %[cZ (hS_ U) (by rfl) y0 PyProof.Rows.Boot.«min» %[4|0],bc cM hr %[gc (pv 0) U|0]|0]|0])
 let mo:=tw G.Gd;let v0:=S.vs;apply#[_,U,_,U,g,p,d,hs,ts,qs,fp,ns,f,U,G.G,S.vV,S.hd,S.ok,G.nd,G.cX,λd1 H1 s1 n1 e1=>?_];apply#[_,U,c,0,U,_,U,?_];rw[cz (show (0:Int)<=(c:Int) by omega)];apply aL ?_;apply#[zl,λlr Rj=>?_];have XE:H lr=none:=s1.free Rj;let#[s2,e2]:=aH (o:=.lst []) Rj;let i9:=s1.trans s2;generalize upd H1 lr (.lst [])=H2 at s2 e2 i9 ⊢;apply#[_,U,_,U,_,U,g,p,d1,hs,ts,qs,fp,f,s0,c,U,G.same i9,s2 _ _ e1,S.s0,v0,bm,c6,λlL ys LL H3 s3 nL e3 ly xM up=>?_];let DD:=bj ly;let nd:=RZ up.is;let mem:=up.mem
 have small:∀l:List ak,l.Nodup->(∀z∈l,z∈LL.flatten)->l.length<=3000:=λl nd h=>gj (BI nd λz hz=>by
  let#[j,_,w]:=(mem z).mp (h z hz);exact#[(w.1.vs v0).len,(w.1.vs v0).fV]) bm
 have Kx:∀b,V.ref b∈ys->b≠lr:=λb hb z=>by
  rw[z] at hb;exact xM _ hb e2
 let eU:=i9.trans s3;have XD:lL≠lr:=λz=>by rw[z,e2] at nL;cases nL
 let Iv:bO:=λi σ H'=>∃(v5:aJ) (rs:List Int),σ=[some (.ref g),some (.ref d),some (.int c),some (.ref d1),some (.ref lr),v5]/\aa H H'/\H' lr\.lst (rs.map V.int)/\H' lL\.lst ys/\eN H' ys LL/\Paired (λr z=>jI hs qs (fS qs z) r) rs (LL.take i).flatten
 apply#[lL,U,#[_,.of e3],?_];apply gh (K:=K) (a:=lL) (xs:=ys) Iv ?_ ?_ ?_ ?_
 ·exact#[none,[],U,eU,s3 _ _ e2,e3,ly,.nil]
 ·rintro i σ H' _ ⟨_,_,_,_,_,e,_⟩;exact .of e
 ·rintro i y σ H4 hy ⟨v5,rs,rfl,s4,lW,RM,y6,pr⟩;have hi:i<ys.length:=(bZ.mp hy).1
  obtain⟨L,hL,a,zs,rfl,ha,sp⟩:∃L,LL[i]? = some L/\∃a zs,y=.ref a/\H4 a\.lst zs/\gN H4 zs L:=by
   have:=eO y6 i hi Z1;rw[aX hi] at hy;cases hy;exact#[LL[i]' Z1,aX Z1,this]
  let vt:=bj sp;have hz:∀z∈L,Vs hs qs z:=λz hz=>(((up.is i L hL).2 z).mp hz).1.vs v0;let Qh:=bj pr
  have tk:(LL.take (i+1)).flatten=(LL.take i).flatten++L:=by
   rw[kz,hL,List.flatten_append];simp
  have CA:∀j,(LL.take j).flatten.Sublist LL.flatten:=λj=>by
   have:=List.sublist_append_left (LL.take j).flatten (LL.drop j).flatten;rwa [<- List.flatten_append,List.take_append_drop] at this
  have sub:∀j,(LL.take j).flatten.length<=3000:=λj=>small _ (nd.sublist (CA j)) λz hz=>(CA j).subset hz;let sb:=sub (i+1);rw[tk,eI] at sb;apply#[_,U,.inl #[U,_,.of lW],_,U,a,U,#[_,.of ha],λD hD=>?_];have lrD:lr≠D:=bq lW hD;apply kD (own:=1) (fv:=[some (.ref g)]) (xs:=zs) U fX (λj out H'=>aa H4 H'/\∃u6:List Int,H' D\.lst (u6.map V.int)/\out=u6.map V.int/\Paired (λr z=>jI hs qs (fS qs z) r) u6 (L.take j)) #[aa.new hD,[],ay,U,.nil] (λj out H' _ ⟨sm,_⟩=>.of (sm _ _ ha)) (λout H5 ⟨s5,u6,iV,eo,A3⟩=>?_) (λj y out H' hy ⟨sm,u6,dM,eo,A3⟩=>?_);rotate_left 1
  ·have hj:j<zs.length:=(bZ.mp hy).1
   obtain⟨z,xv,t,rfl,ht⟩:∃z,L[j]? = some z/\∃t,y=.ref t/\H4 t\.tup (sV z):=by
    have:=eO sp j hj Z1;rw[aX hj] at hy;cases hy;exact#[L[j]' Z1,aX Z1,this]
   let vz:=hz z (cy xv);let PM:=s4.trans sm;apply#[_,U,U,λNx hN=>fU ?_];apply#[_,U,_,U,_,U,g,p,t,hs,ts,qs,fp,z,U,G.same PM,sm _ _ ht,vz.len,λd5 H6 s6 n6 e6=>?_];let#[G0,Pl]:=(G.same PM).placed s6 n6 e6 (vz.at_ G.nd);apply#[g,p,d5,hs,ts,qs,G0,fS qs z,U,Pl,G.wp,λr H7 s7 R=>?_];let PD:=s6.trans s7;let l2:=bj A3;rw[dR] at l2;apply#[out,by rw[eo];exact PD _ _ dM,by rw[eo,ao];omega,hN (out++[.int r]) _ #[fQ (sm.trans PD) hD,u6++[r],?_,?_,?_]]
   ·rw[ay,eo,fe];rfl
   ·rw[eo,fe];rfl
   rw[kz,xv];exact gR A3 (.cons R .nil)
  rw[vt,eG] at A3;subst eo;let l2:=bj A3;apply#[lr,D,_,_,U,U,s5 _ _ lW,iV,by rw[ao,ao];omega,?_];rw[<- fe]
  have kL:∀c xs,c≠lr->H4 c\.lst xs->upd H5 lr (.lst ((rs++u6).map V.int)) c\.lst xs:=λc xs ne e=>by
   rw[aw ne];exact s5 _ _ e
  have kT:∀c xs,H4 c\.tup xs->upd H5 lr (.lst ((rs++u6).map V.int)) c\.tup xs:=λc xs e=>by
   rw[aw (bK e lW nofun)];exact s5 _ _ e
  apply#[_,rs++u6,U,fQ (s4.trans s5) XE,ay,kL _ _ XD RM,y6.keep (λb hb xs e=>kL _ _ (Kx b hb) e) kT,?_];rw[tk];exact gR pr A3
 rintro σ H4 ⟨v5,rs,rfl,s4,lW,RM,y6,pr⟩;rw[DD,eG] at pr;let Qh:=bj pr;let sm:=small _ nd λz hz=>hz;have Wh:s0∈LL.flatten:=(mem s0).mpr #[0,gB _,ds0];let pos:=List.length_pos_of_mem Wh;let#[dx,dw,dy,vs,dc,h1,h2,_]:=id (G.same s4).G.ex;apply#[_,U,lr,_,U,.inl (.of lW),_,U,lr,rs,U,.of lW,by omega,λm hm VF=>?_];apply#[_,U,g,CG,dx,_,_,U,h1,T.cl,T.nW,xX _ _ _,p,hs,ts,dc,U,h2,G.Gd,λH5 s5=>?_];let#[i,hi,em]:=gH hm;let hR:=eO pr i hi Z1;rw[em] at hR;let r0:=(HW G.Gd G.wp G.cX hR).1;apply#[m,bP hs,U,r0,mo.1,mo.2.1,λu hu=>#[zl,λt ht=>?_]];let#[s6,e6]:=aH (o:=.tup [.int (fr m (bP hs)).1,.int (fr m (bP hs)).2]) hu;generalize upd H5 u (.tup [.int (fr m (bP hs)).1,.int (fr m (bP hs)).2])=H6 at s6 e6 ht ⊢;let s7:=aa.new (o:=.tup [.int ((rs.map V.int).length:Nat),.ref u]) ht;apply k t u (rs.map V.int).length m _ (((s4.trans s5).trans s6).trans s7) ay (s7 _ _ e6) #[#[LL.flatten,nd,mem,by rw[ao];exact Qh],?_,λz j r' hj dz R'=>?_]
 ·let#[j,hj,dj]:=(mem _).mp (mI (by omega:i<LL.flatten.length));exact#[_,j,hj,dj,hR]
 let#[i',GR,ez]:=gH ((mem z).mpr #[j,hj,dz]);let q:=eO pr i' Z1 GR;rw[ez] at q;rw[hf_ R' q];exact VF _ (mI _)
end
variable{M:Int}
theorem ZD{X Y c d r:Int}(hM:0<M)(hc:0<c)(hX:X * M=c * d)(hY:Y * M=c * r):(X=Y ↔ d=r)/\(Y<=X ↔ r<=d):=by
 apply#[#[λh=>?_,λh=>?_],#[λh=>?_,λh=>?_]]
 ·rw[h,hY] at hX;exact (Int.eq_of_mul_eq_mul_left Z1 hX).symm
 ·rw[h,<- hY] at hX;exact Int.eq_of_mul_eq_mul_right Z1 hX
 ·have:=BO h (gO hM);rw[hX,hY] at this;exact Int.le_of_mul_le_mul_left this hc
 have:=FN h (gO hc);rw[<- hX,<- hY] at this;exact Int.le_of_mul_le_mul_right this hM
theorem Hx{r:Int}(hr:0<=r)(hM:0<M):(fr r M).1 * M=r * (fr r M).2/\0<(fr r M).2:=by
 have g0:0<(Int.gcd r M:Int):=by
  have:Int.gcd r M≠0:=λe=>by
   have:=Int.gcd_eq_zero_iff.mp e;omega
  omega
 have e1:(fr r M).1 * (Int.gcd r M:Int)=r:=Int.ediv_mul_cancel (Int.gcd_dvd_left ..);have e2:(fr r M).2 * (Int.gcd r M:Int)=M:=Int.ediv_mul_cancel (Int.gcd_dvd_right ..);constructor
 ·have:(fr r M).1 * ((fr r M).2 * (Int.gcd r M:Int))=(fr r M).1 * (Int.gcd r M:Int) * (fr r M).2:=by grind
  rw[e2,e1] at this;exact this
 by_cases c:0<(fr r M).2
 ·exact c
 have:(fr r M).2 * (Int.gcd r M:Int)<=0 * (Int.gcd r M:Int):=BO Z1 (gO g0);omega
theorem Ya{r:Int}(hr:0<=r)(GM:0<=r')(hM:0<M):fr r M=fr r' M ↔ r=r':=by
 constructor
 ·intro e;let h1:=Hx hr hM;let h2:=Hx GM hM;rw[<- e] at h2;have:r * (fr r M).2=r' * (fr r M).2:=by rw[<- h1.1,h2.1]
  exact Int.eq_of_mul_eq_mul_right Z1 this
 intro e;rw[e]
theorem GX{hs:Xa}{ts:Xb}{qs:aM}{z:ak}{r:Int}(G:Good hs ts)(r0:0<=r)(R':jI hs qs (fS qs z) r'):je hs qs z (fr r (bP hs))=true ↔ r'<=r:=by
 let f:=Hx r0 (tw G).1;rw[ME,Sg R' f.2,f.1,Int.mul_comm r];exact#[λh=>Int.le_of_mul_le_mul_left h f.2,λh=>FN h (gO f.2)]
theorem MC{hs:Xa}{ts:Xb}(G:Good hs ts)(qs:aM)(f:bg):∃r,jI hs qs f r:=by
 have ne:aN hs≠[]:=λe=>by
  have:=G.gT;have:=G.h1;rw[e] at *;simp at *;omega
 have mx:∀(F:Str->Int) (l:af),l≠[]->∃x∈l,∀z∈l,F z<=F x:=λF l=>by
  induction l with
  |nil=>exact λh=>absurd U h
  |cons a l ih=>
   intro _;by_cases c:l=[]
   ·exact#[a,by simp,λz hz=>by
     rw[c] at hz;rw[eg.mp hz];exact Int.le_refl _]
   let#[x,hx,up]:=ih c;by_cases d:F a<=F x
   ·apply#[x,fM _ hx,λz hz=>?_];rcases bW.mp hz with rfl|hz
    ·exact d
    exact up z hz
   apply#[a,gz,λz hz=>?_];rcases bW.mp hz with rfl|hz
   ·exact Int.le_refl _
   have:=up z hz;omega
 let#[x,hx,ux]:=mx (dZ hs qs f) _ ne;let#[y,hy,uy]:=mx (λn=>-dZ hs qs f n) _ ne;exact#[_,x,hx,y,hy,U,λz hz=>#[ux z hz,by have:=uy z hz;omega]]
theorem QW{hs:Xa}{ts:Xb}{ss qs:aM}(G:Good hs ts)(S:eM ts ss qs)(s:ak){r:Int}(r0:0<=r){a b:Str × Int}(ha:a∈hs)(hb:b∈hs):((fr r (bP hs)).2 * (dJ ss s a.1 * b.2 - dJ ss s b.1 * a.2)=(fr r (bP hs)).1 * a.2 * b.2 ↔ dZ hs qs (fS qs s) a.1 - dZ hs qs (fS qs s) b.1=r)/\((fr r (bP hs)).1 * a.2 * b.2<=(fr r (bP hs)).2 * (dJ ss s a.1 * b.2 - dJ ss s b.1 * a.2) ↔ r<=dZ hs qs (fS qs s) a.1 - dZ hs qs (fS qs s) b.1):=by
 let mo:=tw G;let f:=Hx r0 mo.1;have am:a.1∈aN hs:=(fD hs).mem_iff.mpr (br.mpr #[a,ha,U]);have bm:b.1∈aN hs:=(fD hs).mem_iff.mpr (br.mpr #[b,hb,U]);have ea:strOf hs a.1=a.2:=IE G.oV ha;have eb:strOf hs b.1=b.2:=IE G.oV hb;let sa:=wo G am;let sb:=wo G bm;let ma:=mo.2.2 _ am;let mb:=mo.2.2 _ bm;rw[ea] at sa ma;rw[eb] at sb mb;let OP:=QD (La:=ld (fS qs s) (qs.map eD) a.1) (Lb:=ld (fS qs s) (qs.map eD) b.1) ma mb
 have e1:dZ hs qs (fS qs s) a.1=ld (fS qs s) (qs.map eD) a.1 * (bP hs / a.2):=by
  unfold dZ;rw[ea]
 have e2:dZ hs qs (fS qs s) b.1=ld (fS qs s) (qs.map eD) b.1 * (bP hs / b.2):=by
  unfold dZ;rw[eb]
 rw[Ao S,Ao S,e1,e2];have Jc:0<a.2 * b.2:=Int.mul_pos Z1 Z1;apply ZD mo.1 (Int.mul_pos Jc f.2) (c:=a.2 * b.2 * (fr r (bP hs)).2) ?_ ?_
 ·rw[Int.mul_assoc (fr r (bP hs)).2,OP]
  grind
 have:(fr r (bP hs)).1 * a.2 * b.2 * bP hs=a.2 * b.2 * ((fr r (bP hs)).1 * bP hs):=by grind
 rw[this,f.1]
 grind
variable{f:Addr}
section v
theorem we:bN [jL,mq,"_law_keys","_law_limit","_law_good","_law_spot",ur,"_law_one",xP,"_law_other","_law_more","_law_over"] Bp (a9 MT):=bT
inductive N3 (K:ai) (vs:ag) (H:Hp) (Q:VK) (E:XK):Prop
 |mk:∀(lh lp lt lk u:Addr) (yk:ag) (l:List ak) (hs:Xa) (ts:Xb) (ss qs:aM) (r:Int),vs=[.ref lh,.ref lp,.ref lk,.ref u]->BS K H lh lp lt u hs ts ss qs (fr r (bP hs))->H lk\.lst yk->gN H yk l->(∀z∈l,Vs hs qs z)->l.length<=3000->0<=r->(∃z∈l,jI hs qs (fS qs z) r)->(∀H',aa H H'->Q (.bl true) H')->N3 K vs H Q E
theorem fA_(F:bC K "_law_is_least" "_law_is_least" MT f fd)(cL:!bx 1 "_law_loads" jR (FK K))(cE:!bx 2 "_law_even" tQ (M0 K)):!au bh 3 f fd Bp (N3 K):=by
 exists F.bS we;let#[lh,lp,lt,lk,u,yk,l,hs,ts,ss,qs,r,rfl,Pt,Ei,sp,vl,l3,r0,#[z0,_D,R0],k]:=h;let hu:=fN hr;let sz:=cU;refine' #[_,av ?s1 (av ?s2 (av ?s3 (aE ?s4))),?kk]
 case' s1=>refine' Ms (i:=4) ["_law_spot",jL,"_law_limit",mq] 1 [0,3,1] we.nd U (Or.inl U) (dF (pv 2)) (λfp s H=>?g1) (λfp s H=>?t1) (λfp s H=>?e1)
 case g1=>exact gg (i:=0) (show (["_law_spot",jL,"_law_limit",mq]:af).Nodup by decide +kernel) U (Or.inl U)
 case t1=>exact HU (eZ (bc cE hr %[1,3,0,2|0]))
 case e1=>exact pv 0
 case s2=>exact b_ (fg (ZR (ml hr 0)) (pv 4) (fE bF)) (aE (bu gG)) cg
 case' s3=>refine' d_ dI U (dF (pv 4)) ?g3 (av ?a1 (aE ?a2))
 case g3=>exact cm 5 we.nd
 case a1=>exact bo 6 we.nd (bc cL hr %[0,1,5|0])
 case' a2=>refine' d_ dI U (dF (pv 0)) ?g4 (aE ?b2)
 case g4=>exact kq U (dH (cm 7 we.nd) (dH (cm 8 we.nd) iK))
 case' b2=>refine' d_ dI U (dF (pv 0)) ?g5 (av ?c1 (aE ?c2))
 case g5=>exact kq U (dH (cm 9 we.nd) (dH (cm 10 we.nd) iK))
 case c1=>exact bo 11 we.nd (bJ Bx (bJ iz (ji hu (pv 6) (pv 7)) (pv 10)) (bJ iz (ji hu (pv 6) (pv 9)) (pv 8)))
 case c2=>exact b_ (fg Ew (bJ iz (bw cu (pv 3) aD) (pv 11)) (bJ iz (bJ iz (bw cu (pv 3) aD) (pv 8)) (pv 10))) (aE (bu gG)) cg
 case s4=>exact bu gG
 let G:=Pt.G;let S:=Pt.S;let s8:=Pt.s8;let vt:=bj sp
 let fl:ak->Bool:=λz=>je hs qs z (fr r (bP hs))
 apply#[_,U,lk,U,#[_,.of Ei],λD hD=>?_];apply kD (own:=1) (fv:=[some (.ref lh),some (.ref u),some (.ref lp)]) (xs:=yk) U fX (λj out H'=>aa H H'/\H' D\.lst out/\gN H' out ((l.take j).filter fl)) #[aa.new hD,ay,.nil] (λj out H' _ ⟨sm,_,_⟩=>.of (sm _ _ Ei)) (λout H4 ⟨s4,oY,iD⟩=>?_) (λj y out H' hy ⟨sm,dM,JV⟩=>?_);rotate_left 1
 ·have hj:j<yk.length:=(bZ.mp hy).1
  obtain⟨z,hz,t,rfl,ht⟩:∃z,l[j]? = some z/\∃t,y=V.ref t/\H t\.tup (sV z):=by
   have:=eO sp j hj Z1;rw[aX hj] at hy;cases hy;exact#[l[j]' Z1,aX Z1,this]
  let zv:=vl z (cy hz);let OZ:=Pt.same sm;let#[#[yh,a1,a2],#[yp,b1,b2]]:=And.intro OZ.hh OZ.hp;apply#[_,U,U,λNx hN=>?_];apply#[_,U,_,U,_,U,_,U,lh,lp,t,u,yh,yp,hs,ts,ss,qs,z,fr r (bP hs),U,a1,a2,G,b1,b2,S,s8,sm _ _ ht,zv,OZ.hl,Pt.lo,λH3 s3=>#[_,U,?_]]
  have tk:((l.take (j+1)).filter fl)=((l.take j).filter fl)++if fl z=true then [z] else []:=by
   rw[kz,hz,List.filter_append];by_cases c:fl z=true
   ·simp[c]
   simp[c]
  apply bY (λc=>?_) (λc=>?_)
  ·let lo:=bj JV;let lf:=BP fl (l.take j);rw[dR] at lf;let xJ:=s3 _ _ dM;apply#[_,U,out,xJ,by omega,hN _ _ #[fQ (sm.trans s3) hD,ay,?_]]
   have kt:∀b xs,H' b\.tup xs->upd H3 D (.lst (out++[.ref t])) b\.tup xs:=λb xs e=>by
    rw[aw (bK (s3 _ _ e) xJ nofun)];exact s3 _ _ e
   rw[tk,aI c];exact gR (JV.keep kt) (.cons #[t,U,kt _ _ (sm _ _ ht)] .nil)
  apply hN out _ #[sm.trans s3,s3 _ _ dM,?_];rw[tk,aA c,List.append_nil];exact JV.keep λb xs e=>s3 _ _ e
 rw[vt,eG] at iD;have FZ:z0∈l.filter fl:=mF.mpr #[_D,(GX G r0 R0).mpr (Int.le_refl _)];let Dy:=bj iD;apply#[_,U,zl,λle hle=>?_];let#[s5,e5]:=aH (o:=.lst []) hle;let pG:=s4.trans s5;let iV:=s5 _ _ oY;have CI:gN (upd H4 le (.lst [])) out (l.filter fl):=iD.keep λb xs e=>s5 _ _ e;generalize upd H4 le (.lst [])=H5 at s5 e5 pG iV CI ⊢
 have oe:out.isEmpty=false:=by
  cases out with
  |nil=>
   have:=List.length_pos_of_mem FZ;simp at Dy;omega
  |cons _ _=>rfl
 apply#[D,le,out,U,U,.of iV,.of e5,?_];rw[oe];apply#[_,U,aL ?_]
 let X:ak->(Str × Int)->(Str × Int)->Prop:=λz a b=>(fr r (bP hs)).2 * (dJ ss z a.1 * b.2 - dJ ss z b.1 * a.2)=(fr r (bP hs)).1 * a.2 * b.2
 let lo:=Pt.lo
 let Iu:bO:=λi σ H'=>∃(v5 v6 v7 v8 v9 va vb:aJ),σ=[some (.ref lh),some (.ref lp),some (.ref lk),some (.ref u),some (.ref D),v5,v6,v7,v8,v9,va,vb]/\aa H5 H'/\∀z∈(l.filter fl).take i,∀a∈hs,∀b∈hs,¬X z a b
 apply#[_,U,D,U,#[_,.of iV],?_];apply gh (K:=K) (a:=D) (xs:=out) Iu ?_ ?_ ?_ ?_
 ·exact#[_,_,_,_,_,_,_,U,aa.refl _,by simp]
 ·rintro i σ H' _ ⟨_,_,_,_,_,_,_,_,sm,_⟩;exact .of (sm _ _ iV)
 ·rintro i y σ H6 hy ⟨v5,v6,v7,v8,v9,va,vb,rfl,s6,no⟩;have hi:i<out.length:=(bZ.mp hy).1
  obtain⟨z,hz,t,rfl,ht⟩:∃z,(l.filter fl)[i]? = some z/\∃t,y=V.ref t/\H5 t\.tup (sV z):=by
   have:=eO CI i hi Z1;rw[aX hi] at hy;cases hy;exact#[(l.filter fl)[i]' Z1,aX Z1,this]
  let zv:=vl z (mF.mp (cy hz)).1;let gq:=pG.trans s6;let AU:=Pt.same gq;let#[#[yh,eW,th],#[yp,iG,pc]]:=And.intro AU.hh AU.hp;let j_:=bj th;rw[ao] at j_;have fV:∀h∈z,h∈hs.map (·.1):=λh hh=>(fD hs).mem_iff.mp (zv.fV h hh);apply#[_,U,_,U,_,U,lh,lp,t,yh,yp,hs,ss,z,U,eW,th,G.oV,G.h8,iG,pc,S.nd,s8,s6 _ _ ht,by rw[zv.len,S.len],fV,λd H1 s1 n1 e1=>?_];let wK:=th.same s1;let iT:=s1 _ _ eW;let eX:=(AU.same s1).hl
  have xq:∀n,0<=dJ ss z n/\dJ ss z n<=64000000000:=λn=>by
   rw[Ao S];exact Bh S.wp (by rw[S.len];omega) _ _
  let Iv:bO:=λi σ H'=>∃(v7 v8 v9 va vb:aJ),σ=[some (.ref lh),some (.ref lp),some (.ref lk),some (.ref u),some (.ref D),some (.ref t),some (.ref d),v7,v8,v9,va,vb]/\H'=H1/\∀a∈hs.take i,∀b∈hs,¬X z a b
  apply#[_,U,lh,U,#[_,.of iT],?_];apply gh (K:=K) (a:=lh) (xs:=yh) Iv ?_ ?_ ?_ ?_
  ·exact#[_,_,_,_,_,U,U,by simp]
  ·rintro i σ H' _ ⟨_,_,_,_,_,_,rfl,_⟩;exact .of iT
  ·rintro i y σ H2 hy ⟨v7,v8,v9,va,vb,rfl,rfl,oS⟩;let#[a,ha,p,rfl,hp]:=ou wK hy;let am:=cy ha;have an:a.1∈hs.map (·.1):=br.mpr #[a,am,U];let ga:=G.ax a am;apply#[p,_,U,.of (sj hp),U,_,_,U,_,_,U,U,?_]
   let Iw:bO:=λj σ H'=>∃(v9 va vb:aJ),σ=[some (.ref lh),some (.ref lp),some (.ref lk),some (.ref u),some (.ref D),some (.ref t),some (.ref d),some (.str a.1),some (.int a.2),v9,va,vb]/\H'=H2/\∀b∈hs.take j,¬X z a b
   apply#[_,U,lh,U,#[_,.of iT],?_];apply gh (K:=K) (a:=lh) (xs:=yh) Iw ?_ ?_ ?_ ?_
   ·exact#[_,_,_,U,U,by simp]
   ·rintro j σ H' _ ⟨_,_,_,_,rfl,_⟩;exact .of iT
   ·rintro j y σ H3 hy ⟨v9,va,vb,rfl,rfl,nJ⟩;let#[b,hb,q,rfl,hq]:=ou wK hy;let bm:=cy hb;have bn:b.1∈hs.map (·.1):=br.mpr #[b,bm,U];let gb:=G.ax b bm;let la:=xq a.1;let lb:=xq b.1;let Sf:=ga.2.1;let ET:=ga.2.2;let Sd:=gb.2.1;let ES:=gb.2.2
    have dg:∀{n},n∈hs.map (·.1)->dP H3 d (.str n) (some (.int (dJ ss z n))):=λ{n} hn=>by
     have:=dP.k (k:=.inr n) e1;rw[wg (g:=λh=>V.int (dJ ss z h)) hn] at this;exact this
    apply#[q,_,U,.of (sj hq),U,_,_,U,_,_,U,U,?_];apply#[_,U,_,U,d,_,U,dg an,_,U,_,_,U,U,.inr #[by omega,by omega],_,U,_,U,d,_,U,dg bn,_,U,_,_,U,U,.inr #[by omega,by omega],_,_,U,U,?_];have m1:0<=dJ ss z a.1 * b.2/\dJ ss z a.1 * b.2<=64000000000 * 1000:=#[Int.mul_nonneg la.1 Z1,Int.mul_le_mul la.2 ES Z1 (by decide)];have m2:0<=dJ ss z b.1 * a.2/\dJ ss z b.1 * a.2<=64000000000 * 1000:=#[Int.mul_nonneg lb.1 Z1,Int.mul_le_mul lb.2 ET Z1 (by decide)];apply#[_,U,u,_,1,_,U,U,.of eX,L2.d0 (j:=1) U,_,U,_,_,U,U,.inr #[by omega,by omega],?_];apply#[_,U,u,_,0,_,U,U,.of eX,L2.d0 (j:=0) U,_,U,_,_,U,U,.inr #[by omega,by omega],_,U,_,_,U,U,.inr #[by omega,by omega],U,_,U,?_];apply bY (λc=>?_) (λc=>?_)
    ·exact k H3 (gq.trans s1)
    have hx:¬X z a b:=λh=>c (cz (eF V.int h));apply#[_,_,_,U,U,λx hx'=>?_];rw[kz,hb] at hx';rcases dN.mp hx' with hx'|hx'
    ·exact nJ x hx'
    have:x=b:=⇑hx'
    rw[this];exact hx
   rintro σ H3 ⟨v9,va,vb,rfl,rfl,nJ⟩;rw[j_,eG] at nJ;apply#[_,_,_,_,_,U,U,λx hx=>?_];rw[kz,ha] at hx;rcases dN.mp hx with hx|hx
   ·exact oS x hx
   have:x=a:=⇑hx
   rw[this];exact nJ
  rintro σ H2 ⟨v7,v8,v9,va,vb,rfl,rfl,oS⟩;rw[j_,eG] at oS;apply#[_,_,_,_,_,_,_,U,s6.trans s1,λx hx=>?_];rw[kz,hz] at hx;rcases dN.mp hx with hx|hx
  ·exact no x hx
  have:x=z:=⇑hx
  rw[this];exact oS
 rintro σ H6 ⟨v5,v6,v7,v8,v9,va,vb,rfl,s6,no⟩;rw[Dy,eG] at no;let#[x,hx,y,hy,er,_]:=R0;let#[a,ha,rfl]:=br.mp ((fD hs).mem_iff.mp hx);let#[b,hb,rfl]:=br.mp ((fD hs).mem_iff.mp hy);exact absurd ((QW G S z0 r0 ha hb).1.mpr er.symm) (no z0 FZ a ha b hb)
end
theorem Sh:∀bs:List Bool,(bs.map V.bl).all uw=true
 |[]=>rfl
 |b::r=>by
  rw[eY,List.all_cons,Sh r];rfl
theorem Y9{bs:List Bool}(h:true∈bs):GG (.bl true) (bs.map V.bl)=true:=by
 unfold GG;rw[List.any_eq_true];exact#[_,br.mpr #[true,h,U],U]
section v
theorem wq:bN [jL,mq,"_law_keys","_law_limit","_law_spot",ur,"_law_over","_law_one",xP,"_law_other","_law_more","_law_above"] Bp (a9 lD):=bT
inductive Nu (K:ai) (vs:ag) (H:Hp) (Q:VK) (E:XK):Prop
 |mk:∀(lh lp lt lk u:Addr) (yk:ag) (l:List ak) (hs:Xa) (ts:Xb) (ss qs:aM) (r:Int),vs=[.ref lh,.ref lp,.ref lk,.ref u]->BS K H lh lp lt u hs ts ss qs (fr r (bP hs))->H lk\.lst yk->gN H yk l->(∀z∈l,Vs hs qs z)->l.length<=3000->0<=r->(∀z∈l,∀r',jI hs qs (fS qs z) r'->r<=r')->(∀H',aa H H'->Q (.bl true) H')->Nu K vs H Q E
theorem hL_(F:bC K "_law_none_below" "_law_none_below" lD f fd)(cL:!bx 1 "_law_loads" jR (FK K)):!au bh 2 f fd Bp (Nu K):=by
 exists F.bS wq;let#[lh,lp,lt,lk,u,yk,l,hs,ts,ss,qs,r,rfl,Pt,Ei,sp,vl,l3,r0,least,k]:=h;let hu:=fN hr;let sz:=cU;refine' #[_,av ?s3 (aE ?s4),?kk]
 case' s3=>refine' d_ dI U (dF (pv 2)) ?g3 (av ?a1 (av ?a0 (av ?a2 (aE ?a3))))
 case g3=>exact cm 4 wq.nd
 case a1=>exact bo 5 wq.nd (bc cL hr %[0,1,4|0])
 case a0=>exact bo 6 wq.nd (fE bF)
 case' a2=>refine' d_ dI U (dF (pv 0)) ?g4 (aE ?b2)
 case g4=>exact kq U (dH (cm 7 wq.nd) (dH (cm 8 wq.nd) iK))
 case' b2=>refine' d_ dI U (dF (pv 0)) ?g5 (av ?c1 (aE ?c2))
 case g5=>exact kq U (dH (cm 9 wq.nd) (dH (cm 10 wq.nd) iK))
 case c1=>exact bo 11 wq.nd (bJ Bx (bJ iz (ji hu (pv 5) (pv 7)) (pv 10)) (bJ iz (ji hu (pv 5) (pv 9)) (pv 8)))
 case c2=>exact kC (om l_ uD uE tK (pv 6) %[wk Qy (bJ iz (bw cu (pv 3) aD) (pv 11)) (bJ iz (bJ iz (bw cu (pv 3) aD) (pv 8)) (pv 10))|0])
 case a3=>exact b_ (fg ed_ gG (pv 6) (by with_unfolding_all rfl)) (aE (bu gG)) cg
 case s4=>exact bu gG
 let G:=Pt.G;let S:=Pt.S;let s8:=Pt.s8;let vt:=bj sp;let lo:=Pt.lo
 let X:ak->(Str × Int)->(Str × Int)->Prop:=λz a b=>(fr r (bP hs)).1 * a.2 * b.2<=(fr r (bP hs)).2 * (dJ ss z a.1 * b.2 - dJ ss z b.1 * a.2)
 let Iu:bO:=λi σ H'=>∃(v4 v5 v6 v7 v8 v9 va vb:aJ),σ=[some (.ref lh),some (.ref lp),some (.ref lk),some (.ref u),v4,v5,v6,v7,v8,v9,va,vb]/\aa H H'
 apply#[_,U,lk,U,#[_,.of Ei],?_];apply gh (K:=K) (a:=lk) (xs:=yk) Iu ?_ ?_ ?_ ?_
 ·exact#[_,_,_,_,_,_,_,_,U,aa.refl _]
 ·rintro i σ H' _ ⟨_,_,_,_,_,_,_,_,_,sm⟩;exact .of (sm _ _ Ei)
 ·rintro i y σ H6 hy ⟨v4,v5,v6,v7,v8,v9,va,vb,rfl,s6⟩;have hi:i<yk.length:=(bZ.mp hy).1
  obtain⟨z,hz,t,rfl,ht⟩:∃z,l[i]? = some z/\∃t,y=V.ref t/\H t\.tup (sV z):=by
   have:=eO sp i hi Z1;rw[aX hi] at hy;cases hy;exact#[l[i]' Z1,aX Z1,this]
  let zm:=cy hz;let zv:=vl z zm;let AU:=Pt.same s6;let#[#[yh,eW,th],#[yp,iG,pc]]:=And.intro AU.hh AU.hp;let j_:=bj th;rw[ao] at j_;let h8:=G.h8;have fV:∀h∈z,h∈hs.map (·.1):=λh hh=>(fD hs).mem_iff.mp (zv.fV h hh);apply#[_,U,_,U,_,U,lh,lp,t,yh,yp,hs,ss,z,U,eW,th,G.oV,G.h8,iG,pc,S.nd,s8,s6 _ _ ht,by rw[zv.len,S.len],fV,λd H0 s1 n1 e0=>?_];apply#[zl,λla Kl=>?_];let#[s2,e2]:=aH (o:=.lst []) Kl;let e1:=s2 _ _ e0;let CV:=s1.trans s2;have XS:H la=none:=(s6.trans s1).free Kl;generalize upd H0 la (.lst [])=H1 at s2 e2 e1 CV ⊢;let wK:=th.same CV;let iT:=CV _ _ eW;let eX:=(AU.same CV).hl;have dla:d≠la:=bK e1 e2 nofun;have ze:lh≠la:=bq eW (s1.free Kl);have VH:u≠la:=bK eX e2 nofun
  have xq:∀n,0<=dJ ss z n/\dJ ss z n<=64000000000:=λn=>by
   rw[Ao S];exact Bh S.wp (by rw[S.len];omega) _ _
  let J:Nat->List Bool->Hp->Prop:=λn bs H'=>(∀c o,H1 c\o->c≠la->H' c\o)/\H' la\.lst (bs.map V.bl)/\bs.length=n
  let Iv:bO:=λi σ H'=>∃(v7 v8 v9 va vb:aJ) (bs:List Bool),σ=[some (.ref lh),some (.ref lp),some (.ref lk),some (.ref u),some (.ref t),some (.ref d),some (.ref la),v7,v8,v9,va,vb]/\J (i * hs.length) bs H'/\∀a∈hs.take i,∀b∈hs,X z a b->true∈bs
  apply#[_,U,lh,U,#[_,.of iT],?_];apply gh (K:=K) (a:=lh) (xs:=yh) Iv ?_ ?_ ?_ ?_
  ·exact#[_,_,_,_,_,[],U,#[λ_ _ e _=>e,e2,by simp],by simp]
  ·rintro i σ H' _ ⟨_,_,_,_,_,_,_,⟨j1,_,_⟩,_⟩;exact .of (j1 _ _ iT ze)
  ·rintro i y σ H2 hy ⟨v7,v8,v9,va,vb,bs,rfl,jj,oS⟩;have GR:i<yh.length:=(bZ.mp hy).1;let#[a,ha,p,rfl,hp]:=ou wK hy;let am:=cy ha;have an:a.1∈hs.map (·.1):=br.mpr #[a,am,U];let ga:=G.ax a am;have PU:∀{c xs} {H':Hp},(∀c o,H1 c\o->c≠la->H' c\o)->H1 c\.tup xs->H' c\.tup xs:=λj e=>j _ _ e (bK e e2 nofun);apply#[p,_,U,.of (PU jj.1 (sj hp)),U,_,_,U,_,_,U,U,?_]
   let Iw:bO:=λj σ H'=>∃(v9 va vb:aJ) (bs:List Bool),σ=[some (.ref lh),some (.ref lp),some (.ref lk),some (.ref u),some (.ref t),some (.ref d),some (.ref la),some (.str a.1),some (.int a.2),v9,va,vb]/\J (i * hs.length+j) bs H'/\(∀a∈hs.take i,∀b∈hs,X z a b->true∈bs)/\∀b∈hs.take j,X z a b->true∈bs
   apply#[_,U,lh,U,#[_,.of (jj.1 _ _ iT ze)],?_];apply gh (K:=K) (a:=lh) (xs:=yh) Iw ?_ ?_ ?_ ?_
   ·exact#[_,_,_,bs,U,jj,oS,by simp]
   ·rintro j σ H' _ ⟨_,_,_,_,_,⟨j1,_,_⟩,_⟩;exact .of (j1 _ _ iT ze)
   ·rintro j y σ H3 hy ⟨v9,va,vb,bs,rfl,⟨j1,j2,j3⟩,oS,nJ⟩;have Ru:j<yh.length:=(bZ.mp hy).1;let#[b,hb,q,rfl,hq]:=ou wK hy;let bm:=cy hb;have bn:b.1∈hs.map (·.1):=br.mpr #[b,bm,U];let gb:=G.ax b bm;let Qo:=xq a.1;let lb:=xq b.1;let Sf:=ga.2.1;let ET:=ga.2.2;let Sd:=gb.2.1;let ES:=gb.2.2
    have dg:∀{n},n∈hs.map (·.1)->dP H3 d (.str n) (some (.int (dJ ss z n))):=λ{n} hn=>by
     have:=dP.k (k:=.inr n) (j1 _ _ e1 dla);rw[wg (g:=λh=>V.int (dJ ss z h)) hn] at this;exact this
    let ue:=j1 _ _ eX VH;apply#[q,_,U,.of (PU j1 (sj hq)),U,_,_,U,_,_,U,U,?_];apply#[_,U,_,U,d,_,U,dg an,_,U,_,_,U,U,.inr #[by omega,by omega],_,U,_,U,d,_,U,dg bn,_,U,_,_,U,U,.inr #[by omega,by omega],_,_,U,U,?_];have m1:0<=dJ ss z a.1 * b.2/\dJ ss z a.1 * b.2<=64000000000 * 1000:=#[Int.mul_nonneg Qo.1 Z1,Int.mul_le_mul Qo.2 ES Z1 (by decide)];have m2:0<=dJ ss z b.1 * a.2/\dJ ss z b.1 * a.2<=64000000000 * 1000:=#[Int.mul_nonneg lb.1 Z1,Int.mul_le_mul lb.2 ET Z1 (by decide)];apply#[_,U,.inl #[U,_,.of j2],?_];apply#[_,U,u,_,1,_,U,U,.of ue,L2.d0 (j:=1) U,_,U,_,_,U,U,.inr #[by omega,by omega],?_];apply#[_,U,u,_,0,_,U,U,.of ue,L2.d0 (j:=0) U,_,U,_,_,U,U,.inr #[by omega,by omega],_,U,_,_,U,U,.inr #[by omega,by omega],_,_,U,U,?_];have il:i * hs.length<=8 * 8:=Nat.mul_le_mul Z1 h8;apply#[la,_,_,U,U,j2,by rw[ao];omega,?_];obtain⟨v,ev⟩:∃v:Bool,v=decide ((fr r (bP hs)).1 * a.2 * b.2<=(fr r (bP hs)).2 * (dJ ss z a.1 * b.2 - dJ ss z b.1 * a.2)):=#[_,U];apply#[_,_,_,bs++[v],U,#[λc o e ne=>by rw[aw ne];exact j1 c o e ne,?_,by rw[eI,j3];rfl],λa' ha' b' uh h=>List.mem_append_left _ (oS a' ha' b' uh h),λx hx' h=>?_]
    ·rw[ay,ev,fe];rfl
    rw[kz,hb] at hx';rcases dN.mp hx' with hx'|hx'
    ·exact List.mem_append_left _ (nJ x hx' h)
    have:x=b:=⇑hx'
    rw[this] at h;rw[ev,cz h];simp
   rintro σ H3 ⟨v9,va,vb,bs,rfl,jj,oS,nJ⟩;rw[j_,eG] at nJ;rw[j_] at jj;apply#[_,_,_,_,_,bs,U,by rw[Nat.succ_mul];exact jj,λx hx b hb h=>?_];rw[kz,ha] at hx;rcases dN.mp hx with hx|hx
   ·exact oS x hx b hb h
   have:x=a:=⇑hx
   rw[this] at h;exact nJ b hb h
  rintro σ H2 ⟨v7,v8,v9,va,vb,bs,rfl,⟨j1,j2,j3⟩,oS⟩;rw[j_,eG] at oS;let#[r',R']:=MC G qs (fS qs z);let le:=least z zm r' R';let#[x,hx,y,hy,er,_]:=R';let#[a,ha,rfl]:=br.mp ((fD hs).mem_iff.mp hx);let#[b,hb,rfl]:=br.mp ((fD hs).mem_iff.mp hy);let tm:=oS a ha b hb ((QW G S z r0 ha hb).2.mpr Z1);apply#[_,U,la,_,U,.inl (.of j2),U,Sh bs,?_];rw[Y9 tm];apply#[_,U,aL ?_];apply#[_,_,_,_,_,_,_,_,U,λc o e=>?_];have:=CV _ _ (s6 _ _ e);exact j1 c o this (bq e XS)
 rintro σ H6 ⟨v4,v5,v6,v7,v8,v9,va,vb,rfl,s6⟩;exact k _ s6
end
end Ev
namespace L2
open PySem PySem.Spec PyProof.Rows
section v
section
variable{N:af}{qual:Str}{scope:Scope}{f:Addr}{cd:Aa}{A:Af}{outer:List Env}{s:Ab}{H:Hp}{E:XK}
end
end
open PySem.Calls PySem.W
section
variable{M:Model}{A:Af}{E:Aa->Ab->Prop}{s:Ab}{base:Heap}{env:Env}{outer:List Env}{L e:Addr}{cls a0:Aa}{Q:Unit->Ab->Prop}
end
section
variable{prog:Ad}{w:Ag}{A:Af}{E:Aa->Ab->Prop}{h:Heap}{g:Array GenState}{d:Drawn}{t:Nat}{os:OsState}{nm q:Str}{C N f:Addr}{bs bm UN:aj}{hdct:Bool}{sn:af}{sub:aj}{ab:Bool}{col:Option Bool}{dd:Option Addr}{k0 k1 k2 k3 k5:Option Aa}{B newId KN:String}{K:ai}{rest:aj}
end
open Builtin Builtin.ObjectAttr
def zZ(C CE:Addr):aj:=[.ref C,.ref CE,.type "ValueError",.type "Exception",.type "BaseException",.type "object"]
section
variable{prog:Ad}{w:Ag}{A:Af}{E:Aa->Ab->Prop}{s:Ab}{K:ai}{x C CE:Addr}{ox:Obj}{od:Option Obj}{name:Str}{tk:Tok}{v:Aa}{cd:ClassData}
end
def z_(K:ai)(C:Addr)(UN:aj)(newId:String):Bool:=
 match K.lookup C with
 |some ⟨.type "type",_,.cls cd,sl⟩=>
  match cd.mro,sl.toList with
  |.ref C'::bm,[_,_,_,_,some (.builtin n),_]=>C' == C&&n == newId&&!cd.hasDel&&tailIn K UN bm&&nsOkIn K cd.ns
  |_,_=>false
 |_=>false
def ND(K:ai)(C CE:Addr):Bool:=
 match clsIn K C with
 |some cd=>cd.mro == zZ C CE&&cd.hasDict
 |none=>false
structure ExO (K:ai) (C CE:Addr):Prop where
 kx:O7 K C
 ex:z_ K C bmV "ValueError.__new__"=true
 es:findIn K (.ref C) "__setattr__"\some (.builtin "object.__setattr__")
 cl:ND K C CE=true
structure ExF (K:ai) (C:Addr) (f:Str):Prop where
 tk:takerIn K C f\none
 fd:findIn K (.ref C) f\none
structure ExB (K:ai) (CE:Addr):Prop where
 sp:specialIn K (.ref CE) "__getattribute__"\some (.builtin "type.__getattribute__")
 rd:readsIn K CE (.type "type")=true
 fc:findCls K (.ref CE) (.type "type") "__init__"\.val (.builtin "ValueError.__init__")
section
variable{P:Ad}{w:Ag}{H:Hp}{h:Heap}{e C a0 d:Addr}{dd:Option Addr}{fs:List (Str × V)}
end
section
variable{X:Cx}{C CE:Addr}{x f:Str}{p apos pos pos':Pos}{o e value:Expr}{es:List Expr}{ta tv:TE}{t:TA}
end
section
variable{X:Cx}{pins:List (Addr × Obj)}{σ:St}{H H':Hp}{s s1:Ab}{B h:Heap}{a:Addr}{cls a0:Aa}{dd:Option Addr}{E:XK}
end
section
variable{P:Ad}{w:Ag}{K:ai}{mg:Str->Option Aa}{base:Heap}{N:af}{qual:Str}{scope:Scope}{f:Addr}{cd:Aa}{A:Af}{outer:List Env}{s:Ab}{H:Hp}{E:XK}
end
section
variable{X:Cx}{x:Str}{C f:Addr}{fd:Ae}{ps:af}{sp:Sp}{k:Nat}{np cO pos:Pos}{e:Expr}{es:List Expr}{t:TA}{E:XK}
end
section
variable{X:Cx}{i:Nat}{x n:Str}{D C:Addr}{np D6 pos:Pos}{Fx:Stmt}{wY body:List Stmt}{tb:XK->TS}{ts:TS}{rest:List ExceptHandler}
end
section
variable{P:Ad}{w:Ag}{K:ai}{mg:Str->Option Aa}{base:Heap}{N:af}{qual:Str}{scope:Scope}{f:Addr}{cd:Aa}{A:Af}{outer:List Env}{s:Ab}{H:Hp}{E:XK}
end
section
variable{X:Cx}{i:Nat}{x x2 n:Str}{D C D2 C2:Addr}{np D6 np2 Rb pos:Pos}{Fx c₀:Stmt}{wY JS body:List Stmt}{tb:XK->TS}{ts ts2:TS}
end
section
variable{X:Cx}{i:Nat}{x n:Str}{D:Addr}{ok:Addr->Prop}{np D6 pos:Pos}{Fx:Stmt}{wY body:List Stmt}{tb:XK->TS}{ts:TS}
end
section
variable{X:Cx}{k:Nat}{ps:af}{x:Str}{p pos:Pos}{e:Expr}{es:List Expr}{tn:TE}{t:TA}
end
structure Ik (ps dE:af) (scope:Scope):Prop where
 nd:(ps++dE).Nodup
 kind:scope.kind=.function
 co:scope.isCoroutine=false
 gen:scope.isGenerator=false
 par:∀p∈ps,scope.names.lookup p\.local
 fv:∀x∈dE,scope.names.lookup x\.free
 all:∀x,scope.names.lookup x\.free->x∈dE
 rT:∀x∈scope.names,x.2≠.cell
def Bk(CX:uM)(P:Ad)(w:Ag)(K:ai)(mg:Str->Option Aa)(base:Heap)(N:af)(qual:Str)(scope:Scope)(f:Addr)(cd:Aa)(cl:List (Str × Addr))(A:Af)(outer:List Env)(s:Ab)(H:Hp)(E:XK):Cx where
 prog:=P
 w:=w
 K:=K
 mg:=mg
 base:=base
 A:=A.deeper (envX qual scope s.heap.objs.size f cd cl)
 N:=N
 c_:=s
 jV:=H
 env:=envX qual scope s.heap.objs.size f cd cl
 outer:=outer
 stack:=envX qual scope s.heap.objs.size f cd cl::outer
 ex:=[]
 calm:=true
 fn:=λ_=>false
 pn:=[]
 xe:=λe s'=>wpAny (model P w) (A.deeper (envX qual scope s.heap.objs.size f cd cl)) (leaving (envX qual scope s.heap.objs.size f cd cl) e) (λ_ pI=>CX outer H s E e pI) (λe' pI=>CX outer H s E e' pI) s'
theorem TN{x:Str}{u:Aa}:∀{l:List (Str × Aa)},(l.map (·.1)).Nodup->(x,u)∈l->l.lookup x\u
 |(y,v)::l,nd,h=>by
  let n:=jk.mp nd;rcases bW.mp h with e|h
  ·cases e;simp[List.lookup]
  have ne:x≠y:=λz=>n.1 (by rw[<- z];exact br.mpr #[_,h,U]);have:(x == y)=false:=⇑ne
  rw[p9,this];exact TN n.2 h
theorem Sj:∀(ps:af) (us:aj),((ps.zip us).map (·.1)).Sublist ps
 |[],_=>by simp
 |_::_,[]=>by simp
 |p::ps,u::us=>by
  simp only[List.zip_cons_cons,eY];exact (Sj ps us).cons₂ p
variable{ps:af}{us:aj}{x:Str}
theorem d0_{i:Nat}{u:Aa}(nd:ps.Nodup)(h1:ps[i]? = some x)(h2:us[i]? = some u):(ps.zip us).reverse.lookup x\u:=by
 apply TN ?_ (List.mem_reverse.mpr (cy (i:=i) ?_))
 ·rw[List.map_reverse];apply (List.reverse_perm _).nodup_iff.mpr (nd.sublist ?_);exact Sj ps us
 rw[List.getElem?_zip_eq_some];exact#[h1,h2]
structure ID (dE:af) (cl:List (Str × Addr)) (gs:ag) (h:Heap):Prop where
 inj:∀x y c,cl.lookup x\c->cl.lookup y\c->x=y
 has:∀x∈dE,∃c,cl.lookup x\c
 all:∀x c,cl.lookup x\c->∃v,h.IsCell c v
 is:∀(i:Nat) x v,dE[i]? = some x->gs[i]? = some v->∃c u,cl.lookup x\c/\RelV v u/\h.IsCell c (some u)
variable{h':Heap}{c:Addr}
theorem IsCell.keeps{h:Heap}{v:Option Aa}(x:h.IsCell c v)(k:∀o,h.get? c\o->h'.get? c\o):h'.IsCell c v:=let #[o,e,d]:=x;#[o,k o e,d]
variable{CX:uM}{w:Ag}{mg:Str->Option Aa}{base:Heap}{dE:af}{f:Addr}{cd:Aa}{A:Af}{outer:List Env}{s:Ab}{E:XK}{gs:ag}
theorem ZC{P:Ad}{K:ai}{qual:Str}{scope:Scope}{cl:List (Str × Addr)}{H:Hp}{vs:ag}{h1:Heap}{tk:Nat}(S:Ik ps dE scope)(hd:A.handled=none)(e0:iB P w K mg base A outer s H)(hl:vs.length=ps.length)(hg:gs.length=dE.length)(r:Vals vs us)(C:ID dE cl gs s.heap)(fc:∀x c,cl.lookup x\c->H c=none)(ns:h1.Ns s.heap.objs.size λx=>(ps.zip us).reverse.lookup x)(k:∀b o,s.heap.get? b\o->h1.get? b\o) :
  Inv (Bk CX P w K mg base (ps++dE) qual scope f cd cl A outer s H E) [] (vs.map some++gs.map some) H { s with heap:=h1,toks:=tk }:=by
 have vo:∀b:Addr,b∉(Bk CX P w K mg base (ps++dE) qual scope f cd cl A outer s H E).ex:=λb z=>absurd (show b∈([]:aq) from z) Z2
 apply#[#[e0.mod,S.kind,U,U,a_ _,C.inj,λy hy=>?_,λy c h=>(by cases h),λ_=>hd,Around.frames_deeper e0.frames,.inr #[U,U],λb z=>absurd z (vo b),e0.bs,e0.tE,λb _ _=>vo b,λb z=>absurd z (vo b),e0.fZ,e0.vO],
  rfl,e0.bare,Un.kept k,#[_,ns,λi y v oZ h2 h3=>?_],λy c h=>?_,e0.ax.fresh (a_ _),fc,λp hp=>absurd (show p∈([]:List (Addr × Obj)) from hp) Z2,e0.ax.kept k,?_]
 ·have hy:scope.names.lookup y\.cell∨scope.names.lookup y\.free:=hy;rcases hy with hy|hy
  ·exact absurd U (S.rT _ (pY hy))
  exact C.has y (S.all y hy)
 ·have oZ:(ps++dE)[i]? = some y:=oZ;by_cases hi:i<ps.length
  ·rw[wC hi] at oZ;rw[wC (by simpa [hl] using hi),dG] at h2;let#[v',hv,e]:=BR.mp h2;cases e;let#[u,hu,rv]:=r.get hv;apply#[u,rv,.inl #[S.par y (cy oZ),?_]];have Gq:ps.Nodup:=(List.nodup_append.mp S.nd).1;show (ps.zip us).reverse.lookup y\u;exact d0_ Gq oZ hu
  rw[x5 Z1] at oZ;rw[x5 (by simp[hl];omega),dG,ao,hl] at h2;let#[v',hv,e]:=BR.mp h2;cases e;let#[c,u,e1,rv,ce]:=C.is _ _ _ oZ hv;exact#[u,rv,.inr #[.inr (S.fv y (cy oZ)),c,e1,IsCell.keeps ce λo e=>k _ _ e]]
 ·let#[v,ce]:=C.all y c h;exact#[v,IsCell.keeps ce λo e=>k _ _ e]
 show _=(ps++dE).length;rw[eI,eI,ao,ao,hl,hg]
variable{k:Nat}{c':Addr}
theorem Zc{P:Ad}{K:ai}{qual:Str}{params:Arguments}{body:PySem.Expr}{scope:Scope}{pm kj:Aa}{cl:List (Str × Addr)}{H:Hp}{Q:VK}{vs:ag}{t:TE}(S:Ik ps dE scope)(hr:aO (k+1) A)(e0:iB P w K mg base A outer s H)(hf:s.heap.get? f\kla_obj "<lambda>" qual params body scope cl pm c' kj)(ip:s.heap.CodeRec (.ref c') qual)(hb:bindArgs (kla_fn "<lambda>" qual params body scope cl pm (.ref c') kj) #[us,[]]=pure (ps.zip us))(hl:vs.length=ps.length)(hg:gs.length=dE.length)(r:Vals vs us)(C:ID dE cl gs s.heap)(fc:∀x c,cl.lookup x\c->H c=none)(ht:aO k (A.deeper (envX qual scope s.heap.objs.size f (.ref c') cl))->PE (Bk CX P w K mg base (ps++dE) qual scope f (.ref c') cl A outer s H E) body t)(hq:t (vs.map some++gs.map some) H Q) :
  codeAny (model P w) A (.call (.ref f) #[us,[]]) (CR CX outer P w H s Q E) s:=by
 have lim:s.heap.NoLimit:=e0.mod.nolimit.keeps λb o e=>(e0.bs b o e).1;apply kla_callFunE hr.depth hf U S.co S.gen U ip ?_;rw[hb];apply aB (wpAny_newFunctionEnv S.rT (λx hx=>?_) (λh1 ns sb=>?_) S.kind)
 ·exact S.par x.1 (List.of_mem_zip hx).1
 have k1:∀b o,s.heap.get? b\o->h1.get? b\o:=λb o e=>sb.extBut b o (dA (bp e)) (aS _ e);apply#[lim.keeps k1,?_];show codeAny _ _ (.expr body (envX qual scope s.heap.objs.size f (.ref c') cl)) _ _;let I:=ZC (CX:=CX) (qual:=qual) (f:=f) (cd:=.ref c') (E:=E) (tk:=s.toks+(ps.zip us).length) S hr.hd e0 hl hg r C fc ns k1;apply kla_codeExpr (wpAny_mono (ht (hr.deeper _) [] _ _ H _ I hq) (λv s' hs=>?_) λe s' hs=>hs);let#[x,H',J,rv,q]:=hs;exact#[x,H',J.os,J.bare,J.base,J.ax,rv,q]
def jz(f:Addr)(qual:Str)(params:Arguments)(body:PySem.Expr)(scope:Scope)(cl:List (Str × Addr))(c':Addr):HO:=.ext λh=>∃pm kj,h.get? f\kla_obj "<lambda>" qual params body scope cl pm c' kj
def Al(c':Addr)(qual:Str):HO:=.ext λh=>∃o vs t,h.get? c'\o/\o.data=.fields vs/\vs[1]? = some (.str qual t)
inductive wQ (P:Addr) (qual:Str) (params:Arguments) (body:PySem.Expr) (scope:Scope) (pos:Pos) (cl:List (Str × Addr)) (H:Hp) (Q:VK):Prop
 |mk:∀ps,H P\.tbl ps->TriplesOk ps.toList->((codeAmong pos ps.toList=none/\∀c' f,H c'=none->H f=none->c'≠f->Q (.ref f) (upd (upd (upd H P (.tbl (ps++(List.toArray [rawInt pos.line,rawInt pos.col,.ref c'])))) c' (Al c' qual)) f (jz f qual params body scope cl c')))∨∃c',codeAmong pos ps.toList\.ref c'/\∀f,H f=none->Q (.ref f) (upd H f (jz f qual params body scope cl c')))->wQ P qual params body scope pos cl H Q
def Cs(P:Addr)(qual:Str)(params:Arguments)(body:PySem.Expr)(scope:Scope)(pos:Pos)(cl:List (Str × Addr)):TE:=λ_ H Q=>wQ P qual params body scope pos cl H Q
variable{X:Cx}{pos:Pos}
theorem X9{params:Arguments}{body:PySem.Expr}{scope:Scope}{cl:List (Str × Addr)}{P:Addr}(LA:defaultsOf params X.env=([],[]))(vK:closureFor scope X.env=pure cl)(xF:X.env.code=.ref c)(C:CodeHd X.base c P)(xH:X.base.BuiltinsAt X.mg P) :
  PE X (.Lambda params body scope pos) (Cs P (X.env.qual++"<lambda>") params body scope pos cl):=by
 intro pins s σ H Q I h;let#[ps,hP,ht,h]:=h;have RK:s.heap.get? P\tabObj ps:=I.ax P _ hP
 have Rw:H mainGlobals=none:=by
  let#[o,_,_,e,_]:=I.mod.glob;exact (I.bs _ _ e).2
 apply kla_eval LA ?_;rcases h with⟨hn,q⟩|⟨c',hf,q⟩
 ·apply kla_makeFunction vK I.ok.glob (I.mod.glob.keeps I.bk) xF (C.keeps I.bk) RK ht hn (λz=>by rw[z,hP] at Rw;cases Rw) (xH.keeps I.bk) λc' kj h' tk hx Lp dW K2 Q6=>?_;have fz:s.heap.objs.size<=h'.objs.size:=gj Lp (Nat.le_of_lt dW);have nc:H c'=none:=I.ax.fresh Lp;have nf:H h'.objs.size=none:=I.ax.fresh fz;have cf:c'≠h'.objs.size:=dA dW;have Pc:P≠c':=bq hP nc;have Pf:P≠h'.objs.size:=bq hP nf
  have old:∀{b u},H b\u->b≠P->upd (upd (upd H P (.tbl (ps++(List.toArray [rawInt pos.line,rawInt pos.col,.ref c'])))) c' (Al c' (X.env.qual++"<lambda>"))) h'.objs.size (jz h'.objs.size (X.env.qual++"<lambda>") params body scope cl c') b\u:=λ{b u} e n=>by
   rw[aw (bq e nf),aw (bq e nc),aw n];exact e
  have rO:∀{b u},H b\u->(∀ps,u≠.tbl ps)->b≠P:=λ{b u} e n z=>by
   rw[z,hP] at e;cases e;exact n _ U
  have kp:∀b o,b≠P->s.heap.get? b\o->(h'.push (kla_obj "<lambda>" (X.env.qual++"<lambda>") params body scope cl ((X.mg "__name__").getD .none) c' kj)).get? b\o:=λb o n e=>aS _ (hx b o n e);apply#[.ref h'.objs.size,_,I.un (t':=tk) #[λb o e n _ _=>kp b o (λz=>by rw[z,hP] at n;cases n) e,λb o e n _ _=>#[o.slots,kp b o (λz=>by rw[z,hP] at n;cases n) e],λb o e n _=>?_,λb o e _=>?_,λb xs e=>old e (rO e Z2),λb o u e=>old e (rO e Z2),λb qs e=>?_] (λb u e=>?_),U,q c' h'.objs.size nc nf cf]
  ·let lt:=bp e;rw[aw (dA (i6 lt fz)),aw (dA (i6 lt Lp)),aw (λz=>by rw[z,hP] at n;cases n)];exact n
  ·by_cases z:b=P
   ·subst z;exact#[_,aS _ Q6]
   exact#[o,kp b o z e]
  ·by_cases z:b=P
   ·subst z;rw[hP] at e;cases e;exact#[_,by rw[aw Pf,aw Pc,ay]]
   exact#[#[],by rw[Array.append_empty];exact old e z]
  by_cases z1:b=h'.objs.size
  ·subst z1;rw[ay] at e;cases e;exact#[#[_,_,cw _ U],#[_,cw _ U],λh1 h2 ⟨pm,cv,e1⟩ k=>#[pm,cv,k _ e1]]
  rw[aw z1] at e;by_cases z2:b=c'
  ·subst z2;rw[ay] at e;cases e;let#[c2,oc,vs,t,ec,Ed,hd,hv]:=K2;cases ec;exact#[#[oc,vs,t,aS _ Ed,hd,hv],#[_,aS _ Ed],λh1 h2 ⟨o,vs,t,e1,r⟩ k=>#[o,vs,t,k _ e1,r]]
  rw[aw z2] at e;by_cases z3:b=P
  ·subst z3;rw[ay] at e;cases e;exact aS _ Q6
  rw[aw z3] at e;apply (I.ax b u e).eR (λd v hd e1=>kp d v ?_ e1) (λd e1=>old e1 (rO e1 Z2)) λd xs e1=>old e1 (rO e1 Z2);rcases hd with rfl|hd
  ·exact z3
  exact rO hd Z2
 apply kla_makeFunctionHit vK I.ok.glob (I.mod.glob.keeps I.bk) xF (C.keeps I.bk) RK ht hf (xH.keeps I.bk) λkj h' tk hk hsz=>?_;have nf:H h'.objs.size=none:=I.ax.fresh hsz;apply#[.ref h'.objs.size,_,I.laid (t':=tk) (λb o e=>aS _ (hk b o e)) hsz ?_,U,q _ nf];exact#[#[_,_,cw _ U],#[_,cw _ U],λh1 h2 ⟨pm,cv,e1⟩ k=>#[pm,cv,k _ e1]]
variable{P:Ad}{N:af}
theorem vj{K:ai}{qual:Str}{scope:Scope}{cl:List (Str × Addr)}{H:Hp}:wA bh (Bk bh P w K mg base N qual scope f cd cl A outer s H E) E:=λ_ _ _ _ _ _ _ h=>h.elim
section
variable{cs:List (Addr × Obj)}{H H':Hp}{b:Addr}{o:Obj}{u:HO}
variable{P:Ad}{w:Ag}{h:Heap}
end
section
variable{X:Cx}{pins:List (Addr × Obj)}{σ:St}{H:Hp}{s s':Ab}{cs:List (Addr × Obj)}
def jU(P:Ad)(w:Ag)(K:ai)(mg:Str->Option Aa)(base:Heap)(k:Nat)(qual:Str)(params:Arguments)(body:PySem.Expr)(scope:Scope)(ps dE:af)(sp:ag->ag->Hp->VK->XK->Prop):Prop:=
 ∀(A:Af) (outer:List Env) (s:Ab) (H:Hp) (f c':Addr) (pm kj:Aa) (cl:List (Str × Addr)) (us:aj) (vs gs:ag) (Q:VK) (E:XK),aO k A->iB P w K mg base A outer s H->s.heap.get? f\kla_obj "<lambda>" qual params body scope cl pm c' kj->s.heap.CodeRec (.ref c') qual->
  vs.length=ps.length->gs.length=dE.length->Vals vs us->ID dE cl gs s.heap->(∀x c,cl.lookup x\c->H c=none)->sp vs gs H Q E->codeAny (model P w) A (.call (.ref f) #[us,[]]) (CR bh outer P w H s Q E) s
theorem DH{K:ai}{qual:Str}{params:Arguments}{body:PySem.Expr}{scope:Scope}{sp:ag->ag->Hp->VK->XK->Prop}(S:Ik ps dE scope)(hb:∀pm c' kj cl us,us.length=ps.length->bindArgs (kla_fn "<lambda>" qual params body scope cl pm (.ref c') kj) #[us,[]]=pure (ps.zip us))(fW:∀(A:Af) (outer:List Env) (s:Ab) (H:Hp) (f:Addr) (cd:Aa) (cl:List (Str × Addr)) (vs gs:ag) (Q:VK) (E:XK),aO k (A.deeper (envX qual scope s.heap.objs.size f cd cl))->sp vs gs H Q E->wA bh (Bk bh P w K mg base (ps++dE) qual scope f cd cl A outer s H E) E->
   ∃t,PE (Bk bh P w K mg base (ps++dE) qual scope f cd cl A outer s H E) body t/\t (vs.map some++gs.map some) H Q):!jU (k+1) qual params body scope ps dE sp:=by
 intro A outer s H f c' pm kj cl us vs gs Q E hr e0 hf ip hl hg r C fc ke;let#[t,ht,hq]:=fW A outer s H f (.ref c') cl vs gs Q E (hr.deeper _) ke vj;exact Zc S hr e0 hf ip (hb pm c' kj cl us (by rw[<- r.length];exact hl)) hl hg r C fc (λ_=>ht) hq
end
structure Jh (dE:af) (cl:List (Str × Addr)) (cs:List (Addr × Obj)) (gs:ag):Prop where
 len:gs.length=dE.length
 inj:∀x y c,cl.lookup x\c->cl.lookup y\c->x=y
 has:∀x∈dE,∃c,cl.lookup x\c
 all:∀x c,cl.lookup x\c->∃o v,cs.lookup c\o/\o.data=.cell v
 is:∀(i:Nat) x v,dE[i]? = some x->gs[i]? = some v->∃c o u,cl.lookup x\c/\cs.lookup c\o/\o.data=.cell (some u)/\RelV v u
section
variable{X:Cx}{k:Nat}{x:Str}{p pos:Pos}{tn:TE}{qual:Str}{params:Arguments}{body:PySem.Expr}{scope:Scope}{dE ps:af}{A0:ag->ag->Hp->VK->XK->Prop}{E:XK}
end
section
variable{X:Cx}{k:Nat}{x:Str}{p pos:Pos}{e:PySem.Expr}{es:List PySem.Expr}{ta:TA}{dE ps:af}{sp:Sp}{f:Addr}{fd:Ae}{cl:List (Str × Addr)}{is:List Nat}
end
variable{a:Addr}{ts:aq}{fd:Ae}
theorem gv_{K:ai}{mb:Str->Option Aa}{fa:Addr}{sp:Sp}{aK:Ab}{vs:aj}{ns:List Int}(hT:∀T∈ts,K.lookup T=none)(eT:∀T∈ts,aK.heap.get? T\tabObj #[])(EB:∀T∈ts,isCodeTable aK.heap T)(KX:K.In aK.heap)(zw:aK.heap.Ns mainGlobals mg)(hb:aK.heap.Ns builtinsNs mb)(hbb:∀x:Str,x≠"__name__"->mb x=bootBuiltins x)(Li:aK.heap.NoLimit)(hg:aK.gens=#[])(ha:aK.heap.get? a=some { cls:=.type "list",data:=.seq vs.toArray })(hi:IntsAre vs ns)(hl:ns.length<=sizeLine)(hr:aO k callerA)(xH:∃bm ob,mg "__builtins__"\.ref bm/\bm≠builtinsNs/\aK.heap.get? bm\ob/\ob.cls=.type "module"/\ob.dict\builtinsNs/\ob.data=.plain)(F:∀base:Heap,K.In base->base.Ns mainGlobals mg->(∀T∈ts,base.BuiltinsAt mg T)->!au CX k fa fd [x] sp)(ED:∀(s:Ab) (u:Aa),BindsTo s fd #[[u],[]] [(x,u)])(ke:∀H:Hp,(∀T∈ts,H T\.tbl #[])->dY K H a (ns.map V.int)->sp [.ref a] H (λv _=>v=.bl true) λ_ _ _=>False)(LU:∀H e s',CX [] H aK (λ_ _ _=>False) e s'->False) :
  codeAny (model P w) callerA (.call (.ref fa) #[[.ref a],[]]) (λr s'=>r=.ok (.ret (.bool true))/\OldK aK.heap s'.heap/\s'.os=aK.os/\AllBare s'.gens) aK:=by
 let rv:=TQ hi;let KA:=hi.length
 have aT:∀{b},b∈ts->b≠a:=λ{b} hb z=>by
  have:=eT b hb;rw[z,ha] at this;cases this
 have core:∀H:Hp,(∀b,H b=none∨(b∈ts/\H b\.tbl #[])∨(b∉ts/\∃o xs,H b\.frz o (.lst xs)))->(∀T∈ts,H T\.tbl #[])->dY K H a (ns.map V.int)->fR P w H aK.heap->(∀b,H b≠none->b=a∨b∈ts)->(H a≠none->K.lookup a=none)->
   codeAny (model P w) callerA (.call (.ref fa) #[[.ref a],[]]) (λr s'=>r=.ok (.ret (.bool true))/\OldK aK.heap s'.heap/\s'.os=aK.os/\AllBare s'.gens) aK:=by
  intro H hO hHT hS ax hA hK;have i0:∀{b:Addr} {o:Obj},aK.heap.get? b\o->H b=none->(ik aK.heap H).get? b\o:=λe n=>hT_ e n
  have vo:∀{b:Addr} {o:Obj} {es:Array DictEntry} {ep:Nat},aK.heap.get? b\o->o.data=.dict es ep->H b=none:=λ{b o es ep} e d=>by
   cases q:H b with
   |none=>rfl
   |some u=>
    rcases hA b (by rw[q];simp) with e'|e'
    ·subst e';rw[ha] at e;cases e;have d':Data.seq vs.toArray _=Data.dict es ep:=d;cases d'
    rw[eT b e'] at e;cases e;cases d
  have Gn:∀{b:Addr} {m:Str->Option Aa},aK.heap.Ns b m->(ik aK.heap H).Ns b m:=λ{b m} ⟨o,es,ep,e,d,r⟩=>#[o,es,ep,i0 e (vo e d),d,r]
  have RO:K.In (ik aK.heap H):=λb o e=>i0 (KX b o e) (by
   cases q:H b with
   |none=>rfl
   |some u=>
    rcases hA b (by rw[q];simp) with e'|e'
    ·subst e';rw[hK (by rw[q];simp)] at e;cases e
    rw[hT b e'] at e;cases e)
  have hB:∀T∈ts,(ik aK.heap H).BuiltinsAt mg T:=λT LK=>by
   let#[bm,ob,h1,h2,h3,h4,h5,h6]:=xH
   have n1:bm≠mainGlobals:=λz=>by
    let#[o,es,ep,e,d,_]:=zw;rw[z,e] at h3;cases h3;rw[d] at h6;cases h6
   have n2:∀{b},b∈ts->bm≠b:=λ{b} hb z=>by
    rw[z,eT b hb] at h3;cases h3;cases h6
   apply#[bm,ob,h1,h2,n1,n2 LK,i0 h3 ?_,h4,h5,h6];cases q:H bm with
   |none=>rfl
   |some u=>
    rcases hA bm (by rw[q];simp) with e'|e'
    ·subst e';rw[ha] at h3;cases h3;cases h6
    exact absurd U (n2 e')
  have hM:Mod K mg (ik aK.heap H):=#[RO,Gn zw,#[mb,Gn hb,hbb],let #[mc,h1,h2]:=Li;#[mc,Gn h1,h2]];have e0:iB P w K mg (ik aK.heap H) callerA [] aK H:=#[U,hM,λb o e=>Y3 e,Nat.le_of_eq (hq_ _ _),trivial,λb hb=>absurd (show b∈([]:aq) from hb) Z2,ax,.of_eq hg];apply codeAny_mono ((F _ RO (Gn zw) hB).run callerA [] aK H #[[.ref a],[]] [.ref a] [.ref a] _ _ hr e0 (ED aK (.ref a)) (.cons U .nil) (ke H hHT hS)) λr s' h=>?_;cases r with
  |error e=>exact (LU H e s' h).elim
  |ok fl=>
   cases fl with
   |next=>exact False.elim h
   |brk=>exact False.elim h
   |cont=>exact False.elim h
   |ret u=>
    let#[v,H',os,bare,un,Eb,r',q]:=h;have q':v=.bl true:=q;subst q';obtain rfl:u=Value.bool true:=r'
    have main:∀b o,aK.heap.get? b\o->s'.heap.get? b\o∨(b∈ts/\o=tabObj #[]/\∃more,s'.heap.get? b\tabObj (#[]++more)):=λb o e=>by
     cases q:H b with
     |none=>exact .inl (un.keep b o e q (by intro z;exact absurd (show b∈([]:aq) from z) Z2) Z2)
     |some u=>
      rcases hO b with z|⟨zT,z⟩|⟨_,ob,xs,z⟩
      ·rw[q] at z;cases z
      ·rw[eT b zT] at e;cases e;let#[more,z]:=un.ie b _ z;exact .inr #[zT,U,more,Eb b _ z]
      let z2:=un.g9 b ob _ z;let#[e1,_]:=ax b _ z;let#[e2,_]:=Eb b _ z2;rw[e] at e1;cases e1;exact .inl e2
    apply#[U,#[λb o e=>?_,λb o e=>?_],os,bare]
    ·rcases main b o e with z|⟨zT,rfl,more,z⟩
     ·exact .inl z
     exact .inr (.inl #[EB b zT,U,_,_,U,z])
    rcases main b o e with z|⟨_,_,more,z⟩
    ·exact#[_,z]
    exact#[_,z]
 cases hk:K.lookup a with
 |some o=>
  let e:=KX a o hk;rw[ha] at e;cases e;apply core (λb=>if b∈ts then some (.tbl #[]) else none) (λb=>?_) (λT h=>aI h) (.inr #[_,vs.toArray,_,hk,U,U,U,by rw[cQ,KA];exact hl,by simpa using rv]) (λb u z=>?_) (λb z=>?_) λz=>absurd (aA λq=>aT q U) z
  ·by_cases hb:b∈ts
   ·exact .inr (.inl #[hb,aI hb])
   exact .inl (aA hb)
  ·by_cases hb:b∈ts
   ·let z':=(aI hb).symm.trans z;cases z';exact eT b hb
   let z':=(aA hb).symm.trans z;cases z'
  ·by_cases hb:b∈ts
   ·exact .inr hb
   ·exact absurd (aA hb) z
 |none=>
  have T2:∀{b:Addr},b∈ts->(λb=>if b∈ts then some (.tbl #[]) else if b=a then some (HO.frz { cls:=.type "list",data:=.seq vs.toArray } (.lst (ns.map V.int))) else none) b\.tbl #[]:=λ{b} hb=>aI hb;apply core (λb=>if b∈ts then some (.tbl #[]) else if b=a then some (.frz { cls:=.type "list",data:=.seq vs.toArray } (.lst (ns.map V.int))) else none) (λb=>?_) (λT h=>aI h) (.inl (.inr #[{ cls:=.type "list",data:=.seq vs.toArray },(aA λq=>aT q U).trans (aI U)])) (λb u z=>?_) (λb z=>?_) λ_=>hk
  ·by_cases l5:b∈ts
   ·exact .inr (.inl #[l5,aI l5])
   by_cases hb:b=a
   ·exact .inr (.inr #[l5,_,_,(aA l5).trans (aI hb)])
   exact .inl ((aA l5).trans (aA hb))
  ·by_cases l5:b∈ts
   ·let z':=(aI l5).symm.trans z;cases z';exact eT b l5
   by_cases hb:b=a
   ·let z':=((aA l5).trans (aI hb)).symm.trans z;cases z';subst hb;exact#[ha,by rw[ao];exact hl,vs,_,rv,ha]
   let z':=((aA l5).trans (aA hb)).symm.trans z;cases z'
  by_cases l5:b∈ts
  ·exact .inr l5
  by_cases hb:b=a
  ·exact .inl hb
  exact absurd ((aA l5).trans (aA hb)) z
variable{T:Addr}
theorem fn_{K:ai}(h:T∉K.map (·.1)):K.lookup T=none:=by
 induction K with
 |nil=>rfl
 |cons p K ih=>
  let#[b,o]:=p;simp only[eY,bW,not_or] at h;rw[p9,show (T == b)=false by simpa using h.1];exact ih h.2
variable{n:Nat}
theorem qe{l:PySem.W.OpenLaw}{q:Ad}{loose:af}{XP:(Str->Option Aa)->Heap->Prop}{d:DefRec}{K:Params->ai}{as:aq}{Hn:∀P:Params,as=(K P).map (·.1)}{CX:Ag->uM}{sp:Ag->Sp}(hn:l.most\n)(xy:n<=sizeLine)(EA:d.params.defaults=[])(hr:aO k callerA)(KZ:(ts.all λT=>!as.contains T)=true)(F:∀(w:Ag) (mg:Str->Option Aa) (fa:Addr) (h:Heap),(K w.params).In h->h.Ns mainGlobals mg->mg d.name\.ref fa->
   ∃fd:Ae,(∀(s:Ab) (u:Aa),BindsTo s fd #[[u],[]] [(x,u)])/\(∀T∈ts,isCodeTable h T) /\
    ∀base:Heap,(K w.params).In base->base.Ns mainGlobals mg->(∀T∈ts,base.BuiltinsAt mg T)->au l.prog w (K w.params) mg base (CX w) k fa fd [x] (sp w))(ke:∀(w:Ag) (H:Hp) (a:Addr) (ns:List Int),ns.length<=n->(∀T∈ts,H T\.tbl #[])->dY (K w.params) H a (ns.map V.int)->sp w [.ref a] H (λv _=>v=.bl true) λ_ _ _=>False)(LU:∀(w:Ag) (H:Hp) (s:Ab) (e:Aa) (s':Ab),CX w [] H s (λ_ _ _=>False) e s'->False) :
  PySem.W.WalkO q loose XP (kmHook K as Hn ts).says l.row.toRowW d [] (λf vs=>PySem.call f vs):=by
 apply U0.jO hn EA λw c_ aK mg mb fa o pm cd doc a vs ns G Y ho hd ip hmg zr hints hlen hg=>?_;have KX:(K w.params).In aK.heap:=km_in_of Y;have eT:∀T∈ts,aK.heap.get? T\tabObj #[]:=Y.2;let#[fd,hb,EB,hF]:=F w mg fa _ KX G.T.g hmg;apply gv_ (λT h=>fn_ ?_) eT EB KX G.T.g G.T.b G.T.builtins G.T.nolimit hg zr hints (gj hlen xy) hr G.T.bmain hF hb (λH hO hS=>ke w H a ns hlen hO hS) λH e s'=>LU w H aK e s';have:=List.all_eq_true.mp KZ T h;rw[<- Hn w.params];simpa using this
open PySem.W in
def mj:List (Pos × Addr)->aj
 |[]=>[]
 |(p,c)::es=>rawInt p.line::rawInt p.col::.ref c::mj es
def md(H:Hp)(T:Addr)(qual:Str):Prop:=∃es:List (Pos × Addr),H T\.tbl (mj es).toArray/\∀e∈es,H e.2\Al e.2 qual
variable{H':Hp}
theorem md.same{H:Hp}{qual:Str}(s:aa H H')(h:md H T qual):md H' T qual:=by
 let#[es,a,b]:=h;exact#[es,s _ _ a,λe he=>s _ _ (b e he)]
theorem SD:∀es:List (Pos × Addr),TriplesOk (mj es)
 |[]=>trivial
 |(p,c)::es=>by
  have:=SD es;simp[mj,TriplesOk,rawInt,this]
theorem TZ:∀(es:List (Pos × Addr)) (p:Pos) (c:Addr),mj (es++[(p,c)])=mj es++[rawInt p.line,rawInt p.col,.ref c]
 |[],p,c=>rfl
 |(p',c')::es,p,c=>by
  show rawInt p'.line::rawInt p'.col::.ref c'::mj (es++[(p,c)])=_;rw[TZ es p c];rfl
theorem Uo(pos:Pos):∀es:List (Pos × Addr),codeAmong pos (mj es)=none∨∃e∈es,codeAmong pos (mj es)\.ref e.2
 |[]=>.inl U
 |(p,c)::es=>by
  by_cases h:codeAmong pos (mj ((p,c)::es))\.ref c
  ·exact .inr #[(p,c),gz,h]
  have e:codeAmong pos (mj ((p,c)::es))=codeAmong pos (mj es):=by
   show codeAmong pos (rawInt p.line::rawInt p.col::.ref c::mj es)=_;have h:¬codeAmong pos (rawInt p.line::rawInt p.col::.ref c::mj es)=some (.ref c):=h;simp only[codeAmong,rawInt] at h ⊢;split at h
   ·exact absurd U h
   rename_i q
   rw[aA q]
  rcases Uo pos es with q|⟨x,hx,q⟩
  ·exact .inl (e.trans q)
  exact .inr #[x,fM _ hx,e.trans q]
open wI
section
variable{X:Cx}{pins:List (Addr × Obj)}{σ:St}{H:Hp}{s:Ab}
theorem Inv.yi{t':Nat}{fp:aq}{ys:ag}{its:aj}(I:Inv X pins σ H s)(k:∀b o,b∉fp->s.heap.get? b\o->h'.get? b\o)(hf:∀b∈fp,df X pins H b)(hT:T∈fp)(hz:ys.length<=sizeLine)(r:Vals ys its)(ht:h'.get? T=some { cls:=.type "list",data:=.seq its.toArray n }):Inv X pins σ (upd H T (.lst ys)) { s with heap:=h',toks:=t' }:=by
 have fT:H T=none:=(hf T hT).1;have nf:∀b u,H b\u->b∉fp:=λb u e hb=>by rw[(hf b hb).1] at e;cases e
 have old:∀{b u},H b\u->upd H T (.lst ys) b\u:=λe=>by rw[aw (bq e fT)];exact e
 apply I.step (g':=s.gens) (d':=s.drawn) (ch:=fp) (λb hb=>?_) (λb o _ _ hc e _=>k b o hc e) (λb o _ _ hc e _=>#[o.slots,k b o hc e]) (λb o hc e n=>?_)
  (λb o hc e=>#[o,k b o hc e]) (λb ys e=>old e) (λb o u e=>old e) (λb ps e=>#[#[],by rw[Array.append_empty];exact old e]) (λm hm=>?_) (λb u e=>?_) I.bare
 ·let#[f0,f1,f2,f3,f4,f5]:=hf b hb;exact#[f3,f1,f4,f5]
 ·rw[aw (λz=>hc (by rw[z];exact hT))];exact n
 ·let#[o,es,ep,ho,r]:=hm;exact#[o,es,ep,k _ o (λhb=>(hf _ hb).2.1 U) ho,r]
 by_cases z:b=T
 ·subst z;rw[ay] at e;cases e;exact#[hz,its,n,r,ht]
 rw[aw z] at e;apply (I.ax b u e).eR (λc v hc q=>k c v ?_ q) (λ_ q=>old q) λ_ _ q=>old q;rcases hc with z|z
 ·rw[z];exact nf b u e
 exact nf c _ z
theorem df.at{b:Addr}(f:df X pins H b)(n:H' b=none):df X pins H' b:=#[n,f.2]
end
variable{xs zs:ag}
section
variable{X:Cx}{pins:List (Addr × Obj)}{σ:St}{H:Hp}{s:Ab}{B:Af}
theorem _n{kf:V->aC}{p:Array Nat}(g:Good xs.length p)(up:Up (λi j=>bH ((xs.map kf).getD i []) ((xs.map kf).getD j [])) p xs.length)(ez:zs=p.toList.map λi=>xs.getD i .non):zs.Perm xs/\zs.map kf=aZ (xs.map kf):=by
 have gk:Good (xs.map kf).length p:=by rw[ao];exact g
 let asc:=Mm (ks:=xs.map kf) (λi j _ _=>rfl) gk (by rw[ao];exact up)
 have perm:(p.toList.map λi=>(xs.map kf).getD i []).Perm (xs.map kf):=by
  have:=FJ gk λi=>(xs.map kf).getD i [];rwa [FM] at this
 let es:=Nz perm asc;apply#[?_,?_]
 ·have:=FJ (n:=xs.length) g λi=>xs.getD i .non;rw[FM] at this;rw[ez];exact this
 rw[<- es,ez,cY];apply uI λi hi=>?_;have m:i∈(List.range xs.length).toArray:=g.mem_iff.mp ⇑hi;have m:i<xs.length:=⇑m
 show kf (xs.getD i .non)=(xs.map kf).getD i [];simp[List.getD,m]
end
section
variable{X:Cx}{pins:List (Addr × Obj)}{σ:St}{H:Hp}{s:Ab}
theorem Inv.sY{cl:List (Str × Addr)}{is:List Nat}(I:Inv X pins σ H s)(lX:∀q∈cl,X.env.cells.lookup q.1\q.2)(vK:∀x∈dE,∃c,cl.lookup x\c)(Ep:∀x∈dE,X.env.scope.names.lookup x\.cell)(hN:is.map (λi=>X.N[i]?)=dE.map some)(Bc:is.map (λi=>σ[i]?)=gs.map (λv=>some (some v))):gs.length=dE.length/\ID dE cl gs s.heap/\∀x c,cl.lookup x\c->H c=none:=by
 have lk:∀{x c},cl.lookup x\c->(x,c)∈cl:=λe=>pY e;apply#[?_,#[λa b c h1 h2=>I.ok.inj a b c (lX _ (lk h1)) (lX _ (lk h2)),vK,λa c h1=>I.cell a c (lX _ (lk h1)),λj a v h1 h2=>?_],λx c e=>I.ee x c (lX _ (lk e))]
 ·let a:=eF List.length Bc;let b:=eF List.length hN;simp only[ao] at a b;omega
 let#[c,hc]:=vK a (cy h1);have e1:(is.map λi=>X.N[i]?)[j]? = some (some a):=by rw[hN,dG,h1];rfl
 have e2:(is.map λi=>σ[i]?)[j]? = some (some (some v)):=by rw[Bc,dG,h2];rfl
 rw[dG] at e1 e2;let#[i,hi,e1]:=BR.mp e1;rw[hi] at e2;have e2:σ[i]? = some (some v):=cq e2;let#[m,_,hl]:=I.loc;let kd:=Ep a (cy h1);let#[u,ru,lo]:=hl i a v e1 e2 (.inr (.inl kd));rcases lo with⟨z,_⟩|⟨_,c2,e3,o,e4,e5⟩
 ·have z:X.env.scope.names.lookup a\.local:=z;rw[kd] at z;cases z
 rw[lX _ (lk hc)] at e3;cases e3;exact#[c,u,hc,ru,o,e4,e5]
end
def OX(K:ai)(H:Hp)(x:V)(xs:ag):Prop:=(∃l,x=.ref l/\dY K H l xs)∨∃d kvs,x=.ref d/\H d\.dK kvs/\xs=kvs.map λkv=>kV kv.1
variable{kf:V->Str}
theorem go_(h:(zs.map λx=>bM (kf x))=aZ (xs.map λx=>bM (kf x))):zs.map kf=iy (xs.map kf):=by
 apply SJ ?_;rw[Oi,cY,cY];exact h
theorem fu_{prog:Ad}{vs:aj}(r:StrsAre vs (xs.map kf))(h2:2<=vs.length):tU prog w A (λi j=>bH ((xs.map λx=>bM (kf x)).getD i []) ((xs.map λx=>bM (kf x)).getD j [])) vs s:=by
 have:=Tt (prog:=prog) (w:=w) (A:=A) (s:=s) r h2;rw[cY] at this;exact this
variable{E:Aa->Ab->Prop}{B:Af}{H0:Hp}
section
variable{X:Cx}{pins:List (Addr × Obj)}{σ:St}{H:Hp}{s:Ab}
def Hf(X:Cx)(σ:St)(B:Af)(fv:Aa)(H0:Hp)(kf:V->Str)(xs:ag):Prop:=
 ∀(pins:List (Addr × Obj)) (H:Hp) (s:Ab) (x:V) (u:Aa),Inv X pins σ H s->aa H0 H->x∈xs->RelV x u->
  wpAny (model X.prog X.w) B (call fv [u]) (EP X pins σ λv H'=>aa H H'/\v=.str (kf x)) (λ_ _=>False) s
theorem ZQ{fv:Aa}{kS:Addr}{e1:Nat}{all:ag}{Q:PUnit->Ab->Prop}{body:Aa->PUnit->Sem (ForInStep PUnit)}(lV:a≠kS)(jF:Hf X σ B fv H0 kf all)(hb:∀(u:Aa) (s:Ab) (Qb:ForInStep PUnit->Ab->Prop),wpAny (model X.prog X.w) B (call fv [u]) (λk s'=>wpAny (model X.prog X.w) B (Builtin.List.listUpdate (.ref kS) (·.push k)) (λ_ pI=>Qb (.yield ⟨⟩) pI) E s') (λ_ _=>False) s->wpAny (model X.prog X.w) B (body u ⟨⟩) Qb E s) :
  ∀(xs:ag) (us:aj) (ks:ag) (kvs:aj) (kk:af) (H:Hp) (s:Ab) (c:Nat),Vals xs us->(∀x∈xs,x∈all)->Inv X pins σ H s->aa H0 H->df X pins H a->df X pins H kS->s.heap.get? a\seqObj "list" #[] e1->s.heap.get? kS\seqObj "list" kvs.toArray c->
   Vals ks kvs->ks=kk.map V.str->kvs.length+us.length<64->
   (∀H' s' fK c',Inv X pins σ H' s'->aa H0 H'->df X pins H' a->df X pins H' kS->s'.heap.get? a\seqObj "list" #[] e1->s'.heap.get? kS\seqObj "list" fK.toArray c'->fK.length=kvs.length+us.length->(∃iQ,Vals iQ fK/\iQ=(kk++xs.map kf).map V.str)->Q ⟨⟩ s')->
   wpAny (model X.prog X.w) B (forIn us PUnit.unit body) Q E s:=by
 intro xs
 induction xs with
 |nil=>
  intro us ks kvs kk H s c rv _ I sm fa fk ha hk r t _ q;cases rv;rw[uL];exact aB (q H s kvs c I sm fa fk ha hk Z2 #[ks,r,by simpa using t])
 |cons x xs ih=>
  intro us ks kvs kk H s c rv hx I sm fa fk ha hk r t hz q
  obtain⟨u,us,rfl,ru,rr⟩:∃u Pi,us=u::Pi/\RelV x u/\Vals xs Pi:=by
   cases rv with
   |cons h t=>exact#[_,_,U,h,t]
  rw[p7];rw[jm] at hz;apply ae (hb u s _ ?_)
  have hf:∀b∈[a,kS],df X pins H b:=λb hb=>by
   rcases bW.mp hb with rfl|hb
   ·exact fa
   obtain rfl:b=kS:=⇑hb
   exact fk
  let I1:=I.pinned (fp:=[a,kS]) hf (λb hb=>by
   rcases bW.mp hb with rfl|hb
   ·exact#[_,ha,λv z=>by cases z]
   obtain rfl:b=kS:=⇑hb
   exact#[_,hk,λv z=>by cases z])
  apply wpAny_mono (jF _ H s x u I1 sm (hx x gz) ru) (λk s1 ⟨v,H1,J,rv,Wi,ev⟩=>?_) λ_ _ z=>z
  have pa:(a,seqObj "list" #[] e1)∈vX [a,kS] s.heap:=by
   unfold vX;exact ya.mpr #[a,by simp,by rw[ha];rfl]
  have pk:(kS,seqObj "list" kvs.toArray c)∈vX [a,kS] s.heap:=by
   unfold vX;exact ya.mpr #[kS,by simp,by rw[hk];rfl]
  let#[EK,Xm,_]:=J.pin _ (mJ _ (mJ _ pa));let#[GQ,Xj,_]:=J.pin _ (mJ _ (mJ _ pk));have EK:s1.heap.get? a\seqObj "list" #[] e1:=EK;have GQ:s1.heap.get? kS\seqObj "list" kvs.toArray c:=GQ;let J0:=J.eQ;let fa1:=fa.at (H':=H1) Xm;let Sx:=fk.at (H':=H1) Xj;have GC:kvs.length<64:=by omega
  apply listUpdate_at GQ U ?_ (by rw[cQ,cU];omega) (gj (Nat.le_of_eq (Array.size_push ..)) (by rw[cQ,cU];omega));have iE:∀b o,b∉[kS]->s1.heap.get? b\o->(s1.heap.update kS (Obj.mapSeq (·.push k))).get? b\o:=λb o hb e=>(pZ _ _ (λz=>hb (by simp[z]))).trans e;have ea:kvs.toArray.push k=(kvs++[k]).toArray:=by simp
  obtain⟨c2,ki⟩:∃c2,(s1.heap.update kS (Obj.mapSeq (·.push k))).get? kS\seqObj "list" (kvs++[k]).toArray c2:=#[_,by rw[<- ea];exact get?_update_seq GQ (·.push k)]
  have I2:Inv X pins σ H1 { s1 with heap:=s1.heap.update kS (Obj.mapSeq (·.push k)) }:=J0.gP (t':=s1.toks) (fp:=[kS]) iE (λb hb=>by
   obtain rfl:b=kS:=⇑hb
   exact Sx)
  subst ev;apply ih us (ks++[.str (kf x)]) (kvs++[k]) (kk++[kf x]) H1 _ c2 rr (λy hy=>hx y (fM _ hy)) I2 (sm.trans Wi) fa1 Sx ?_ ki (r.append (.cons rv .nil)) ?_ (by rw[eI,jn];omega) λH' s' fK c' a1 a2 a3 a4 a5 a6 a7 a8=>?_
  ·exact iE a _ ⇑lV EK
  ·rw[fe,<- t];rfl
  apply q H' s' fK c' a1 a2 a3 a4 a5 a6 (by rw[a7,eI,jn,jm];omega) ?_;let#[iQ,b1,b2]:=a8;exact#[iQ,b1,by simpa using b2]
end
section
variable{X:Cx}{pins:List (Addr × Obj)}{σ:St}{H:Hp}{s:Ab}{B:Af}
theorem fN_{P:PySem.Fin->Ab->Prop}(I:Inv X pins σ H s)(fa:df X pins H a)(ho:s.heap.get? a\seqObj "list" us.toArray n)(r:Vals xs us)(cX:us.length<64)(jF:Hf X σ B (.ref f) H kf xs)(h:∀zs H' s',Inv X pins σ (upd H' a (.lst zs)) s'->aa H H'->H' a=none->zs.Perm xs->zs.map kf=iy (xs.map kf)->P (.done (.ret .none)) s'):wpAny (model X.prog X.w) B (ksk_tree a (.ref f) false) P E s:=by
 let lx:=r.length;obtain⟨e1,ud⟩:∃e1,(s.heap.update a (Obj.mapSeq λ_=>(#[]:Array Aa))).get? a\seqObj "list" #[] e1:=#[_,get?_update_seq ho λ_=>#[]];have iE:∀b o,b∉[a]->s.heap.get? b\o->(s.heap.update a (Obj.mapSeq λ_=>(#[]:Array Aa))).get? b\o:=λb o hb e=>(pZ _ _ (λz=>hb (by simp[z]))).trans e
 have I1:Inv X pins σ H { s with heap:=s.heap.update a (Obj.mapSeq λ_=>(#[]:Array Aa)) }:=I.gP (t':=s.toks) (fp:=[a]) iE (λb hb=>by
  obtain rfl:b=a:=⇑hb
  exact fa)
 unfold ksk_tree;apply ae (listItems_at ho U ?_);apply ae (listUpdate_at ho U ?_ (by rw[cQ,cU];omega) (gB _));apply ae (seqEpoch_at ud U ?_);apply ae (wpAny_newTuple ?_ (by show us.length<=_;rw[cU];omega));apply ae (wpAny_newList ?_ (gB _));apply iI ?_;have I2:Inv X pins σ H { s with heap:=(s.heap.update a (Obj.mapSeq λ_=>(#[]:Array Aa))).push (seqObj "tuple" us.toArray 0) }:=I1.kept (t':=s.toks) λb u e=>aS _ e;have I3:Inv X pins σ H { s with heap:=((s.heap.update a (Obj.mapSeq λ_=>(#[]:Array Aa))).push (seqObj "tuple" us.toArray 0)).push (seqObj "list" #[] 0) }:=I2.kept (t':=s.toks) λb u e=>aS _ e;have fk:df X pins H ((s.heap.update a (Obj.mapSeq λ_=>(#[]:Array Aa))).push (seqObj "tuple" us.toArray 0)).objs.size:=I2.jD (a_ _) (I2.ax.fresh (a_ _));have jC:(((s.heap.update a (Obj.mapSeq λ_=>(#[]:Array Aa))).push (seqObj "tuple" us.toArray 0)).push (seqObj "list" #[] 0)).get? a\seqObj "list" #[] e1:=aS _ (aS _ ud);have Lk:(((s.heap.update a (Obj.mapSeq λ_=>(#[]:Array Aa))).push (seqObj "tuple" us.toArray 0)).push (seqObj "list" #[] 0)).get? ((s.heap.update a (Obj.mapSeq λ_=>(#[]:Array Aa))).push (seqObj "tuple" us.toArray 0)).objs.size\seqObj "list" #[] 0:=cw _ U;have lV:a≠((s.heap.update a (Obj.mapSeq λ_=>(#[]:Array Aa))).push (seqObj "tuple" us.toArray 0)).objs.size:=dA (bp (aS (seqObj "tuple" us.toArray 0) ud));show wpAny (model X.prog X.w) B (ksk_rest a (.ref f) false us.toArray e1 (.ref ((s.heap.update a (Obj.mapSeq λ_=>(#[]:Array Aa))).push (seqObj "tuple" us.toArray 0)).objs.size)) P E { s with heap:=((s.heap.update a (Obj.mapSeq λ_=>(#[]:Array Aa))).push (seqObj "tuple" us.toArray 0)).push (seqObj "list" #[] 0) };generalize ((s.heap.update a (Obj.mapSeq λ_=>(#[]:Array Aa))).push (seqObj "tuple" us.toArray 0)).objs.size=kS at fk Lk lV ⊢;generalize ((s.heap.update a (Obj.mapSeq λ_=>(#[]:Array Aa))).push (seqObj "tuple" us.toArray 0)).push (seqObj "list" #[] 0)=h3 at I3 jC Lk ⊢;clear I2 I1 iE;unfold ksk_rest;apply ae (wpAny_rule ?_);rw[List.forIn_toArray];apply ae (ZQ (pins:=pins) (E:=E) (e1:=e1) lV jF (λu s4 Qb hq=>?_) xs us [] [] [] H _ 0 r (λx hx=>hx) I3 (aa.refl H) fa fk jC Lk .nil U ⇑cX λH5 s5 kvs c5 I5 V_ SF fk5 EI Rn lk ⟨ks,rk,tk⟩=>?_)
 ·apply ae (wpAny_attempt (wpAny_mono hq (λk pI hk=>?_) λ_ _ hF=>hF.elim));exact ae (wpAny_mono hk (λ_ s6 h6=>aB h6) λ_ _ z=>z)
 rw[List.nil_append] at tk;rw[List.length_nil,Nat.zero_add] at lk;apply ae (listItems_at Rn U ?_)
 have tail:∀(p:Array Nat) (st:SortSt),Good xs.length p->Up (λi j=>bH ((xs.map λx=>bM (kf x)).getD i []) ((xs.map λx=>bM (kf x)).getD j [])) p xs.length->(arrOf st).map (·.2)=(mh p us).toArray->failedOf st=none->wpAny (model X.prog X.w) B (ksk_tail a false e1 (.ref kS) st) P E s5:=λp st g up K_ Lu=>by
  have gu:Good us.length p:=by rw[<- lx];exact g
  have hz:(mh p us).length=us.length:=by
   unfold mh;rw[ao,pf];exact gu.size
  let s1:=Heap.SameBut.update s5.heap kS (Obj.mapSeq λ_=>(#[]:Array Aa));have vL:(s5.heap.update kS (Obj.mapSeq λ_=>(#[]:Array Aa))).get? a\seqObj "list" #[] e1:=(pZ _ _ (bG lV)).trans EI;unfold ksk_tail;dsimp only;rw[K_];apply ae (listUpdate_at Rn U ?_ (by rw[cQ,cU];omega) (gB _));apply ae (wpAny_letGo ?_);apply ae (seqEpoch_at vL U ?_);simp only[p_,if_false];apply ae (listUpdate_at vL U ?_ (gB _) (by rw[cQ,hz,cU];omega));rw[Lu];simp only[bne_self_eq_false,p_,if_false]
  have zl:(p.toList.map λi=>xs.getD i .non).length<=sizeLine:=by
   rw[ao,pf,g.size,cU];omega
  let#[pz,ek]:=_n (kf:=λx=>bM (kf x)) (zs:=p.toList.map λi=>xs.getD i .non) g up U;let ek:=go_ ek;apply aB (h _ H5 _ (I5.yi (t':=s5.toks) (fp:=[a,kS]) (T:=a) (λb o hb e=>?_) (λb hb=>?_) Z2 zl (MI r gu) (get?_update_seq vL _)) V_ SF.1 pz ek)
  ·have n1:b≠a:=λz=>hb (by simp[z]);have n2:b≠kS:=λz=>hb (by simp[z]);exact (pZ _ _ (bG n1)).trans ((pZ _ _ (bG n2)).trans e)
  rcases bW.mp hb with rfl|hb
  ·exact SF
  obtain rfl:b=kS:=⇑hb
  exact fk5
 unfold ksk_end;dsimp only;simp only[p_,if_false];by_cases h2:us.toArray.size<2
 ·rw[aI h2,aI h2];apply ae (aB ?_);rw[StateT.run_pure];apply ae (aB (tail (List.range xs.length).toArray _ (Array.Perm.refl _) (λi j nV hj=>?_) ?_ U))
  ·have e:i=j:=by
    simp only[cQ] at h2;omega
   subst e;exact MN _
  show ((kvs.toArray.zip us.toArray).map λx:Keyed=>x.2)=_;rw[show xs.length=us.length from lx,UE];apply Array.ext' ?_;simp[List.map_snd_zip,lk]
 rw[aA h2,aA h2]
 have g8:2<=us.length:=by
  simp only[cQ] at h2;omega
 let#[κ,hk,hc]:=fu_ (prog:=X.prog) (w:=X.w) (A:=B) (s:=s5) (kf:=kf) (xs:=xs) (SL (tk▸rk)) Z1;apply ae (wpAny_mono (hk (λk s'=>k=κ/\s'=s5) #[U,U]) (λk s7 En=>?_) λ_ _ x=>x.elim);let#[rfl,rfl]:=En;have O:Ord (λi j=>bH ((xs.map λx=>bM (kf x)).getD i []) ((xs.map λx=>bM (kf x)).getD j [])):=MP _
 apply ae (wpAny_mono (kat_run (ks:=kvs) (vs:=us) (G:=λp s'=>s'=s7/\Good us.length p/\Up (λi j=>bH ((xs.map λx=>bM (kf x)).getD i []) ((xs.map λx=>bM (kf x)).getD j [])) p us.length)
  (Q:=λfH s'=>∃p:Array Nat,arrOf fH=p.map (kas_item (kvs.toArray.zip us.toArray))/\failedOf fH=none/\s'=s7/\Good us.length p/\Up (λi j=>bH ((xs.map λx=>bM (kf x)).getD i []) ((xs.map λx=>bM (kf x)).getD j [])) p us.length)
  lk g8 cX (λp fH s' _ q1 q2 q3=>#[p,q1,q2,q3]) (Ok.wp (n:=us.length) (λi j C hi hj=>hc i j C Z1 Z1) (λp q=>#[U,q]) (Rf O Z1))) ?_ λ_ _ x=>x)
 rintro⟨⟨⟩,fH⟩ s' ⟨p,LG,hf,hs',g,u⟩;subst hs';rw[<- lx] at g u;exact tail p fH g u (kat_snds lk LG) hf
end
section
variable{X:Cx}{pins:List (Addr × Obj)}{σ:St}{H:Hp}{s:Ab}
theorem hY_{qual:Str}{params:Arguments}{body:PySem.Expr}{scope:Scope}{p:Str}{sp:ag->ag->Hp->VK->XK->Prop}{cl:List (Str × Addr)}{is:List Nat}(F:jU X.prog X.w X.K X.mg X.base k qual params body scope [p] dE sp)(hr:aO k B)(hB:B.frames=X.A.frames)(hf:H0 f\jz f qual params body scope cl c')(hc:H0 c'\Al c' qual)(lX:∀q∈cl,X.env.cells.lookup q.1\q.2)(vK:∀x∈dE,∃c,cl.lookup x\c)(Ep:∀x∈dE,X.env.scope.names.lookup x\.cell)(hN:is.map (λi=>X.N[i]?)=dE.map some)(Bc:is.map (λi=>σ[i]?)=gs.map (λv=>some (some v)))(ke:∀H x,aa H0 H->x∈xs->sp [x] gs H (λv H'=>aa H H'/\v=.str (kf x)) (λ_ _ _=>False)):Hf X σ B (.ref f) H0 kf xs:=by
 intro pins H s x u I sm hx ru;let#[#[pm,kj,ef],_]:=I.ax f _ (sm _ _ hf);let#[#[oc,Jp,t,ec,d1,d2],_]:=I.ax c' _ (sm _ _ hc);let#[hg,C,fc]:=I.sY lX vK Ep hN Bc;let e0:=I.Ac;apply wpAny_call (codeAny_mono (F B X.stack s H f c' pm kj cl [u] [x] gs _ _ hr #[hB.trans e0.frames,e0.mod,e0.bs,e0.tE,e0.fZ,e0.vO,e0.ax,e0.bare] ef #[c',oc,Jp,t,U,ec,d1,d2] U hg (.cons ru .nil) C fc (ke H x sm hx)) λr s' hq=>?_);cases r with
 |error e=>
  let#[a,cls,H',B,a0,dd,rfl,os,bare,un,ax,fl,i,hE]:=hq
 |ok fl=>
  cases fl with
  |ret u=>exact I.after hq
  |next=>exact False.elim hq
  |brk=>exact False.elim hq
  |cont=>exact False.elim hq
theorem qA{x:Aa}{Q:VK}(I:Inv X pins σ H s)(cX:xs.length<64)(jF:Hf X σ X.A.in1.in1 (.ref f) H kf xs)(lZ:∀R:aj->Ab->Prop,(∀vs s1,Inv X pins σ H s1->Vals xs vs->R vs s1)->wpAny (model X.prog X.w) X.A.in1 (collect x) R E s)(q:∀l zs H',aa H H'->H' l=none->H l=none->zs.Perm xs->zs.map kf=iy (xs.map kf)->Q (.ref l) (upd H' l (.lst zs))):wpAny (model X.prog X.w) X.A (call (.builtin "sorted") [x] [(Str.ofString "key",.ref f)]) (EP X pins σ Q) E s:=by
 apply call_function_entry_kw kind_sorted plain_sorted entry_sorted (ksk_s1 _ _) ?_;unfold Builtin.«sorted»;apply ae (m:=checkCount "sorted" 1 1 _) (aB ?_);apply ae (lZ _ λvs s1 I1 r=>?_);let lv:=r.length;apply ae (wpAny_newList ?_ (by rw[cU];omega));have GO:(s1.heap.push (seqObj "list" vs.toArray 0)).get? s1.heap.objs.size\seqObj "list" vs.toArray 0:=cw _ U;have I2:Inv X pins σ H { s1 with heap:=s1.heap.push (seqObj "list" vs.toArray 0) }:=I1.kept (t':=s1.toks) λb u e=>aS _ e;have fa:df X pins H s1.heap.objs.size:=I1.jD (a_ _) (I1.ax.fresh (a_ _));have nl:H s1.heap.objs.size=none:=I1.ax.fresh (a_ _);apply ae (iI (wpAny_call_entry_kw slot_list_sort #[_,GO,U] entry_list_sort ?body (ksk_l1 _ _)))
 case body=>
  show wpAny (model X.prog X.w) X.A.in1.in1 (Builtin.«list.sort» #[[.ref s1.heap.objs.size],[(Str.ofString "key",.ref f)]]) _ _ _;rw[ksk_t1];apply fN_ (s:={ s1 with heap:=s1.heap.push (seqObj "list" vs.toArray 0) }) I2 fa GO r Z1 jF λzs H' s' I' sm na pz ek=>?_;exact#[_,U,aB #[_,U,.ref _,_,I',U,q _ zs H' sm na nl pz ek]]
end
inductive Uc (K:ai) (qual:Str) (params:Arguments) (body:PySem.Expr) (scope:Scope) (cl:List (Str × Addr)) (is:List Nat) (sp:ag->ag->Hp->VK->XK->Prop) (σ:St) (H:Hp) (Q:VK) (vs:ag) (ws:ag) (H2:Hp):Prop
 |mk:∀x f c' xs kf gs,vs=[x]->ws=[.ref f]->H2 f\jz f qual params body scope cl c'->H2 c'\Al c' qual->OX K H2 x xs->xs.length<64->is.map (λi=>σ[i]?)=gs.map (λv=>some (some v))->(∀H x,aa H2 H->x∈xs->sp [x] gs H (λv H'=>aa H H'/\v=.str (kf x)) (λ_ _ _=>False))->(∀l zs H',aa H2 H'->H' l=none->H2 l=none->zs.Perm xs->zs.map kf=iy (xs.map kf)->Q (.ref l) (upd H' l (.lst zs)))->Uc K qual params body scope cl is sp σ H Q vs ws H2
def uS(K:ai)(qual:Str)(params:Arguments)(body:PySem.Expr)(scope:Scope)(cl:List (Str × Addr))(is:List Nat)(sp:ag->ag->Hp->VK->XK->Prop)(t tk:TA):TE:=λσ H Q=>t σ H λvs H1=>tk σ H1 λws H2=>Uc K qual params body scope cl is sp σ H Q vs ws H2
variable{qual:Str}
theorem gp_{e:PySem.Expr}{t tk:TA}{p kp r6:Pos}{params:Arguments}{body:PySem.Expr}{scope:Scope}{px:Str}{sp:ag->ag->Hp->VK->XK->Prop}{cl:List (Str × Addr)}{is:List Nat}(hc:X.calm=true)(hg:Gl X "sorted")(hm:X.mg "sorted"=none)(ha:PA X [e] t)(hkw:PK X [#[some "key",.Lambda params body scope r6,kp]] tk)(F:jU X.prog X.w X.K X.mg X.base k qual params body scope [px] dE sp)(hr:aO (k+2) X.A)(lX:∀q∈cl,X.env.cells.lookup q.1\q.2)(vK:∀x∈dE,∃c,cl.lookup x\c)(Ep:∀x∈dE,X.env.scope.names.lookup x\.cell)(hN:is.map (λi=>X.N[i]?)=dE.map some)(he:starEach [e] X.env=[(false,eval e X.env)]:=by rfl)(zM:(backToKw pos (keywordEach [#[some "key",.Lambda params body scope r6,kp]] X.env)).all (·.1.isSome)=true:=by rfl)(En:(backToKw pos (keywordEach [#[some "key",.Lambda params body scope r6,kp]] X.env)).filterMap (·.1)=[Str.ofString "key"]:=by rfl)(hkn:(backToKw pos (keywordEach [#[some "key",.Lambda params body scope r6,kp]] X.env)).any (·.1.isNone)=false:=by rfl):PE X (.Call (.Name "sorted" p) [e] [#[some "key",.Lambda params body scope r6,kp]] pos) (uS X.K qual params body scope cl is sp t tk):=by
 intro pins s σ H Q I h;apply wpAny_Call_Name_kw (wm I hg hm IT ?_);let hA:=ha pos pins s σ H _ I h;rw[he] at hA ⊢;apply callWith_builtin_kwB (first:=[]) U hkn (evalArgs_kwB zM (aP hA λus s1 ⟨vs,H1,I1,r1,q1⟩=>?_));apply aP (hkw pos pins s1 σ H1 _ I1 q1) λws s2 ⟨zs,H2,I2,rz,x,f,c',xs,kf,gs,ev,ez,hf,ip,src,cX,Bc,ke,q⟩=>?_;subst ev ez;let#[u,rfl,ru]:=Vals.one r1;let#[fv,rfl,rf]:=Vals.one rz;cases rf;rw[En];have hd:X.A.in1.handled=none:=I.ok.hd hc;apply qA I2 cX (hY_ F hr.in1.in1 U hf ip lX vK Ep hN Bc ke) (λR hR=>?_) q;rcases src with⟨l,rfl,hl⟩|⟨d,kvs,rfl,hd2,rfl⟩
 ·cases ru;exact _G I2 hl Z1 hR
 cases ru;exact QQ hd I2 (.inl hd2) hR
structure wG (K:ai) (x qual:Str) (st:Stmt) (f c:Addr) (fd:Ae):Prop where
 ex:∃(oc:Aa) (od:Option Addr) (kV doc pm:Aa) (an:Option Addr) (ct:Aa) (j9:Array (Option Aa)),
  fd=PySem.W.fnOf x qual (jJ st) (iw st) (a9 st) .none kV doc pm an (.ref c) ct/\K.lookup f=some #[oc,od,.func fd,j9]/\PySem.W.codeIn K (.ref c) qual=true
 kp:PySem.W.keepIn K (.ref f)=true
theorem wG.ok{K:ai}{st:Stmt}{sp:Sp}(F:wG K x qual st f c fd)(S:bN N ps (a9 st))(len:∀vs H Q E,sp vs H Q E->vs.length=ps.length)(fW:∀(A:Af) (outer:List Env) (s:Ab) (H:Hp) (vs:ag) (Q:VK) (E:XK),aO k (A.deeper (envOfC qual (a9 st) s.heap.objs.size f (.ref c)))->sp vs H Q E->
   ∃t,jT (iX bh P w K mg base N qual (a9 st) f (.ref c) A outer s H E).xm (iw st) t/\t { nx:=λ_ H'=>Q .non H',rt:=Q } (start N vs) H):!au bh (k+1) f fd ps sp:=by
 let#[oc,od,kV,doc,pm,an,ct,j9,rfl,lk,ip]:=F.ex;apply Qz lk ip S len λA outer s H vs Q E hr ke=>?_;let#[t,h,q]:=fW A outer s H vs Q E hr ke;exact#[t,h.xm,q]
end L2
namespace Ev
open PySem L2
def NT(H G:Hp):Prop:=∀b o,H b\o->(∀vs,o≠.tbl vs)->G b\o
variable{G:Hp}
theorem NT.of{H:Hp}(s:aa H G):NT H G:=λb o e _=>s b o e
theorem NT.refl(H:Hp):NT H H:=NT.of (aa.refl H)
theorem NT.trans{H J:Hp}(s:NT H G)(t:NT G J):NT H J:=λb o e n=>t b o (s b o e n) n
variable{T:Addr}
theorem bz.nt{H:Hp}{vs:Array Aa}(b:bz T H G)(hT:H T\.tbl vs):NT H G:=λc o e n=>b c o e (λz=>by
 rw[z,hT] at e;exact n _ (cq e).symm)
theorem NT.tup{H G:Hp}(s:NT H G){a:Addr}{xs:ag}(h:H a\.tup xs):G a\.tup xs:=s _ _ h nofun
theorem NT.lst{H G:Hp}(s:NT H G){a:Addr}{xs:ag}(h:H a\.lst xs):G a\.lst xs:=s _ _ h nofun
theorem NT.dK{H G:Hp}(s:NT H G){a:Addr}{xs:List (Key × V)}(h:H a\.dK xs):G a\.dK xs:=s _ _ h nofun
variable{qual:Str}
theorem Yu{H:Hp}{q':Str}{a a':Arguments}{b b':Expr}{sc Ga:Scope}{ps:Pos}{cl:List (Str × Addr)}{σ:St}{Q:VK}(h:md H T qual)(e1:q'=qual)(e2:a'=a)(e3:b'=b)(e4:Ga=sc)(q:∀f c' H1,bz T H H1->md H1 T qual->H1 f\jz f qual a b sc cl c'->H1 c'\Al c' qual->Q (.ref f) H1):Cs T q' a' b' Ga ps cl σ H Q:=by
 subst e1 e2 e3 e4;let#[es,h,vJ]:=h;apply#[_,h,SD es,?_];rcases Uo ps es with e|⟨e,he,q1⟩
 ·apply .inl #[e,λc' f n1 n2 n3=>?_];have Xo:T≠c':=bq h n1;have Xn:T≠f:=bq h n2
  have B:bz T H (upd (upd (upd H T (.tbl ((mj es).toArray++(List.toArray [rawInt ps.line,rawInt ps.col,.ref c'])))) c' (Al c' q')) f (jz f q' a' b' Ga cl c')):=λb o e n=>by
   rw[aw (bq e n2),aw (bq e n1),aw n];exact e
  apply q f c' _ B #[es++[(ps,c')],?_,λx hx=>?_] ay ?_
  ·rw[aw Xn,aw Xo,ay,TZ];simp
  ·rcases dN.mp hx with hx|hx
   ·exact B _ _ (vJ x hx) (λz=>by have:=vJ x hx;rw[z,h] at this;cases this)
   rw[eg.mp hx];show upd _ f _ c'=_;rw[aw n3,ay]
  rw[aw n3,ay]
 apply .inr #[e.2,q1,λf hf=>?_];let s:=aa.new (o:=jz f q' a' b' Ga cl e.2) hf;exact q f e.2 _ (bz.of s) #[es,s _ _ h,λx hx=>s _ _ (vJ x hx)] ay (s _ _ (vJ e he))
theorem YT{H:Hp}(h:md H T qual):∃vs,H T\.tbl vs:=by
 let#[es,e,_]:=h;exact#[_,e]
def vy:Expr->Scope
 |.Lambda _ _ s _=>s
 |_=>a9 fj
def KD:Expr->Expr
 |.Lambda _ b _ _=>b
 |e=>e
def KF:Expr->Arguments
 |.Lambda a _ _ _=>a
 |_=>jJ fj
def X0:Expr->Expr
 |.Call _ _ (k::_) _=>k.value
 |e=>e
def yV(l:List Stmt)(i:Nat):Stmt:=l.getD i (.Pass #[0,0,0,0])
variable{ps:aM}
theorem Y6(nd:(ps.map (·.1)).Nodup){a b:Pc}(ha:a∈ps)(hb:b∈ps)(e:a.1=b.1):a=b:=by
 let#[i,hi,rfl]:=gH ha;let#[j,hj,rfl]:=gH hb;have:i=j:=(List.getElem?_inj (l:=ps.map (·.1)) (by rw[ao];exact hi) nd).mp (by rw[dG,dG,aX hi,aX hj,Option.map_some,Option.map_some,e]);subst this;rfl
theorem Yn{ts:Xb}{ss qs:aM}(Q:Qs ps qs)(nd:(ps.map (·.1)).Nodup)(p:ss.Perm ps)(e:ss.map (·.1)=iy (ps.map (·.1)))(dr:∀q∈ps,jX ts q):eM ts ss qs:=by
 have en:qs.map (·.1)=ss.map (·.1):=by rw[Q.yY,e]
 have le:qs.length=ss.length:=by rw[<- ao (as:=qs) (f:=λq:Pc=>q.1),en,ao]
 apply#[?_,λq hq=>dr q (p.mem_iff.mp hq),?_]
 ·apply List.ext_getElem (by rw[ao,le]) ?_;intro j h1 h2;rw[List.getElem_map];have hs:j<ss.length:=by omega
  let#[x,hx,ex]:=Q.mem qs[j] (mI h1);have n1:(qs.map (·.1))[j]? = some qs[j].1:=by rw[dG,aX h1];rfl
  have n2:(ss.map (·.1))[j]? = some (ss[j]).1:=by rw[dG,aX hs];rfl
  rw[en,n2] at n1;have n3:(ss[j]).1=qs[j].1:=cq n1;have n4:qs[j].1=x.1:=by rw[ex];rfl
  rw[ex,Y6 nd hx (p.mem_iff.mp (mI hs)) (n4.symm.trans n3.symm)]
 exact (p.map (·.1)).nodup_iff.mpr nd
theorem ex_{α β:Type}{F:α->β->Prop}{zs ys:List α}(p:zs.Perm ys):∀{ps:List β},Paired F ys ps->∃ss,ss.Perm ps/\Paired F zs ss:=by
 induction p with
 |nil=>exact λ{ps} h=>#[ps,.refl _,h]
 |cons x _ ih=>
  intro ps h;cases h with
  |cons h t=>
   let#[ss,q,r]:=ih t;exact#[_,q.cons _,.cons h r]
 |swap x y l=>
  intro ps h;cases h with
  |cons h t=>
   cases t with
   |cons h2 t=>exact#[_,.swap _ _ _,.cons h2 (.cons h t)]
 |trans _ _ Z_ Z9=>
  intro ps h;let#[ss,q,r]:=Z9 h;let#[s2,q2,r2]:=Z_ r;exact#[s2,q2.trans q,r2]
def Kk(H:Hp):V->Str
 |.ref t=>match H t with
  |some (.tup (.str n::_))=>n
  |_=>⟨#[]⟩
 |_=>⟨#[]⟩
theorem My{K:ai}{H:Hp}:∀{ys:ag} {ps:aM},jM K H ys ps->ys.map (Kk H)=ps.map (·.1)
 |_,_,.nil=>rfl
 |_,_,.cons (b:=p) ⟨t,v,e,ht,_⟩ r=>by
  rw[eY,eY,My (K:=K) r,e]
  have:Kk H (.ref t)=p.1:=by
   show (match H t with|some (.tup (.str n::_))=>n|_=>(⟨#[]⟩:Str))=p.1;rw[ht]
  rw[this]
def EX:Stmt->List Stmt
 |.For _ _ b _ _=>b
 |_=>[]
def OL:Stmt->Expr
 |.Assign _ e _=>e
 |_=>.Constant .none 0 #[0,0,0,0]
def oU:Expr:=X0 (OL (yV (EX (yV (iw fj) 0)) 5))
abbrev qL:Str:="law.<locals>.<lambda>"
theorem EV:∀y∈(vy oU).names,y.2=.free->y.1∈([]:af):=by decide +kernel
theorem yI:Ik [vT] [] (vy oU):=#[by decide +kernel,U,U,U,by decide +kernel,by decide +kernel,λx h=>EV (x,.free) (pY h) U,by decide +kernel]
inductive ng (vs:ag) (gs:ag) (H:Hp) (Q:VK):Prop
 |mk:∀(t:Addr) (n:Str) (r:ag),vs=[.ref t]->gs=[]->H t\.tup (.str n::r)->Q (.str n) H->ng vs gs H Q
def yz:ag->ag->Hp->VK->XK->Prop:=λvs gs H Q _=>ng vs gs H Q
theorem NG{L f:Addr}{cd:Aa}:closureFor (vy oU) (PyProof.Rows.envOfC "law" (a9 fj) L f cd)=pure []:=by rfl
variable{P:Ad}{w:Ag}{K:ai}{mg:Str->Option Aa}{base:Heap}
theorem YM:!jU 1 qL (KF oU) (KD oU) (vy oU) [vT] [] yz:=by
 apply DH yI (λpm c' kj cl us hl=>?_) (λA outer s H f cd cl vs gs Q E hr h hp=>?_)
 ·match us,hl with
  |[_],_=>rfl
 let#[t,n,r,rfl,rfl,ht,k]:=h;apply#[_,bw cu (pv 0) aD,?_];exact#[_,U,t,_,0,_,U,U,.of ht,L2.d0 (j:=0) U,k]
end Ev
namespace L2
open PySem PySem.Spec PyProof.Rows PySem.W wI hW Ev
inductive xb (x:V) (y:V) (H:Hp) (Q:VK):Prop
 |mk:∀(a b:Addr) (ms ns:af) (f:bg),x=.ref a->y=.ref b->H a\.dK (ft ms f)->H b\.dK (ft ns f)->ms.length=ns.length->(∀m∈ms,m∈ns)->Q (.bl false) H->xb x y H Q
theorem Zd{X:Cx}(hu:X.A.units<cLine):dO X (compareOp .NotEq) xb:=by
 intro pins s σ H x y v u Q I rx ry h;let#[a,b,ms,ns,f,rfl,rfl,ha,hb,le,sub,q]:=h;cases rx;cases ry;let#[za,na,va,ra,da]:=jH I.ax (.inl ha);let#[zb,nb,vb,rb,db]:=jH I.ax (.inl hb);let la:=ra.length;let lb:=rb.length;rw[mB] at la lb;apply PySem.W.keq_ne na nb da db hu (r:=ms.all λn=>decide (f n=f n)) (λ_=>R5 rb ms va ra sub) ⟨.bl _,H,I,rfl,?_⟩;rw[<- la,<- lb,le];have al:(ms.all λn=>decide (f n=f n))=true:=by simp
 rw[al];simpa using q
end L2
namespace Ev
open PySem L2
variable{R:Addr->Hp->Prop}{lh:Addr}
variable{lp:Addr}{ps:aM}
section
variable{K:ai}{CG CW:Addr}
theorem Y8{H:Hp}{E:XK}{lt:Addr}{yh yt:ag}{hs:Xa}{ts:Xb}(G:Good hs ts)(h1:H lh\.lst yh)(h2:bR K H yh (hs.map kH))(h3:H lt\.lst yt)(h4:bR K H yt (ts.map kT))(k:∀p fp H',aa H H'->g_ K CW H' p hs ts fp->(∀b∈fp,H b=none)->R p H'):∀x dx,H x=none->H dx=none->dx≠x->Hl K CW (.ref x::([.ref lh,.ref lt]++[])) (upd (upd H dx (.own x)) x (.ins CW dx [])) (λv H2=>v=.non/\R x H2) E:=by
 intro p dx hp zG ne;have s4:aa H (upd (upd H dx (.own p)) p (.ins CW dx [])):=(aa.new zG).trans (aa.new (by rw[aw ne.symm];exact hp));apply⟨p,dx,lh,lt,yh,yt,hs,ts,rfl,ay,s4 _ _ h1,h2.same s4,s4 _ _ h3,h4.same s4,G,λdc H5 kp W fr=>⟨rfl,?_⟩⟩;apply k p dc H5 (λb o e=>kp b o (s4 _ _ e) (bq e hp)) W λb hb=>?_;rcases fr b hb with rfl|z
 ·exact hp
 exact s4.free z
theorem _A{H:Hp}{E:XK}{p:Addr}{yp:ag}{hs:Xa}{ts:Xb}{dc:aq}(W:g_ K CW H p hs ts dc)(G:Good hs ts)(h1:H lp\.lst yp)(h2:jM K H yp ps)(gp:∀q∈ps,jW ts q)(nd:(ps.map (·.1)).Nodup)(len:ps.length<64)(k:∀g qs fp H',aa H H'->gy K CG CW H' g p hs ts qs fp->Qs ps qs->(∀b∈fp,b∈dc∨H b=none)->R g H'):∀x dx,H x=none->H dx=none->dx≠x->IJ K CG CW (.ref x::([.ref p,.ref lp]++[])) (upd (upd H dx (.own x)) x (.ins CG dx [])) (λv H2=>v=.non/\R x H2) E:=by
 intro g dx hg zG ne;have s4:aa H (upd (upd H dx (.own g)) g (.ins CG dx [])):=(aa.new zG).trans (aa.new (by rw[aw ne.symm];exact hg))
 have gw:g∉dc:=λm=>by
  let#[o,e]:=W.has m;rw[hg] at e;cases e
 apply#[g,dx,p,lp,yp,ps,hs,ts,dc,U,ay,W.same s4,gw,G,s4 _ _ h1,Paired.aU h2 λ_ _ q=>q.same s4,gp,nd,len,λqs fp H5 kp GA Qq fr=>#[U,?_]];apply k g qs fp H5 (λb o e=>kp b o (s4 _ _ e) (bq e hg)) GA Qq λb hb=>?_;rcases fr b hb with rfl|z|z
 ·exact .inr hg
 ·exact .inl z
 exact .inr (s4.free z)
end
variable{σ:St}{k:ag->Hp->Prop}
theorem Kn{H:Hp}(h:k [] H):oH σ H k:=h
theorem Ff{te:TE}{t:TA}{H:Hp}(h:te σ H λx H1=>t σ H1 λxs H2=>k (x::xs) H2):jo te t σ H k:=h
theorem Mo:∀{LL:List (List ak)},(∀(j:Nat) L,j+1<LL.length->LL[j]? = some L->L≠[])->LL.length<=LL.flatten.length+1
 |[],_=>by simp
 |[L],_=>by simp
 |L::L2::r,h=>by
  let ih:=Mo (LL:=L2::r) λj M hj hM=>h (j+1) M ⇑hj ⇑hM;have h0:L≠[]:=h 0 L Z2 U;have:=List.length_pos_iff.mpr h0;rw[List.flatten_cons,eI];rw[jm (a:=L)];omega
variable{G:Hp}{xs:ag}
theorem md.Ov{H:Hp}{T l:Addr}{q:Str}(h:md H T q)(b:bz l H G)(hl:H l\.lst xs):md G T q:=by
 let#[es,e,c]:=h;exact#[es,b _ _ e (bK e hl nofun),λx hx=>b _ _ (c x hx) (bK (c x hx) hl nofun)]
structure Dr (K:ai) (H:Hp) (l lh lt lp d:Addr) (hs:Xa) (ts:Xb) (ps:aM) (f:bg):Prop where
 st:dQ H l
 hh:∃yh,H lh\.lst yh/\bR K H yh (hs.map kH)
 ht:∃zs,H lt\.lst zs/\bR K H zs (ts.map kT)
 hp:∃yp,H lp\.lst yp/\jM K H yp ps
 hd:H d\.dK (ft (ps.map (·.1)) f)
 n1:lh≠l
 n2:lt≠l
 n3:lp≠l
variable{H':Hp}
theorem Dr.but{K:ai}{H:Hp}{l lt d:Addr}{hs:Xa}{ts:Xb}{f:bg}(h:Dr K H l lh lt lp d hs ts ps f)(b:bz l H H')(st:dQ H' l):Dr K H' l lh lt lp d hs ts ps f:=by
 let#[a0,#[yh,a1,a2],#[zs,b1,b2],#[yp,c1,c2],d1,n1,n2,n3]:=h;let#[xs,e]:=a0.some;exact#[st,#[yh,b _ _ a1 n1,jN a2 b e],#[zs,b _ _ b1 n2,jN b2 b e],#[yp,b _ _ c1 n3,Paired.aU c2 λy p q=>q.but b a0],b _ _ d1 (bK d1 e nofun),n1,n2,n3]
theorem Dr.same{K:ai}{H:Hp}{l lt d:Addr}{hs:Xa}{ts:Xb}{f:bg}(h:Dr K H l lh lt lp d hs ts ps f)(s:aa H H'):Dr K H' l lh lt lp d hs ts ps f:=h.but (bz.of s) (h.st.same s)
theorem bR.nt{K:ai}{H:Hp}{ys:ag}{ks:List aC}(h:bR K H ys ks)(s:NT H G):bR K G ys ks:=Paired.aU h λy k ⟨a,z,q⟩=>#[a,z,s.tup q]
theorem bU.nt{K:ai}{H:Hp}{v:V}{o:Option (Xb)}(h:bU K H v o)(s:NT H G):bU K G v o:=by
 cases o with
 |none=>exact h
 |some ws=>
  let#[a,ys,e,ha,t]:=h;exact#[a,ys,e,s.lst ha,bR.nt t s]
theorem Dr.nt{K:ai}{H:Hp}{l lt d:Addr}{hs:Xa}{ts:Xb}{f:bg}(h:Dr K H l lh lt lp d hs ts ps f)(s:NT H H'):Dr K H' l lh lt lp d hs ts ps f:=by
 let#[a0,#[yh,a1,a2],#[zs,b1,b2],#[yp,c1,c2],d1,n1,n2,n3]:=h;apply#[?_,#[yh,s.lst a1,bR.nt a2 s],#[zs,s.lst b1,bR.nt b2 s],#[yp,s.lst c1,Paired.aU c2 λy p ⟨t,v,e,ht,w⟩=>#[t,v,e,s.tup ht,w.nt s]],s.dK d1,n1,n2,n3];rcases a0 with⟨n,e⟩|⟨n,m,c,e⟩
 ·exact .inl #[n,s.lst e]
 exact .inr #[n,m,c,s.lst e]
theorem hR_{K:ai}{H:Hp}{a:Addr}(s:aa H H')(h:dY K H a xs):dY K H' a xs:=by
 rcases h with (h|⟨o,h⟩)|h
 ·exact .inl (.inl (s _ _ h))
 ·exact .inl (.inr #[o,s _ _ h])
 exact .inr h
theorem bz.same{l:Addr}{H H1 H2:Hp}(b:bz l H1 H2)(n:H l=none)(s:aa H H1):aa H H2:=λc o e=>b c o (s c o e) (bq e n)
section v
theorem bx.imp{k:Nat}{x:Str}{ps:af}{sp A0:Sp}(c:!bx k x ps sp)(h:∀vs H Q E,A0 vs H Q E->sp vs H Q E):!bx k x ps A0:=by
 let#[f,fd,F,m]:=c.ex;exact#[f,fd,F.imp h,m]
end
def OW(H H':Hp)(t:Addr)(hs:Xa)(ts:Xb)(qs:aM)(s0:ak)(l:Int × Int):Prop:=Tld H' t hs ts qs s0 l/\((∃x ys,H x=none/\H' t\.tup [.str "moves",.ref x]/\H' x\.lst ys/\ys.length<=1000000)∨H' t\.tup [.str "none"])
inductive k6 (K:ai) (CG CW:Addr) (vs:ag) (H:Hp) (Q:VK) (E:XK):Prop
 |mk:∀(g p d lt:Addr) (hs:Xa) (ts:Xb) (qs:aM) (fp:aq) (s0:ak) (ns:af) (f:bg) (l:Int × Int) (m:Nat),vs=[.ref g,.ref d,.ref lt,.int m]->Gs K CG CW H g p hs ts qs fp->Bo H d hs qs fp s0 ns f->hU H lt l->vU l->1<=m->m<1000000->(∀j z,Ds (Nx hs ts qs) s0 j z->j<1000000)->(∀t H',aa H H'->(OW H H' t hs ts qs s0 l∨(H' t\.tup [.str "more"]/\More (Nx hs ts qs) s0 m))->Q (.ref t) H')->k6 K CG CW vs H Q E
theorem Mh{K:ai}{CG CW:Addr}(vs:ag)(H:Hp)(Q:VK)(E:XK)(h:k6 K CG CW vs H Q E):Ih K CG CW vs H Q E:=by
 let#[g,p,d,lt,hs,ts,qs,fp,s0,ns,f,l,m,e,a,b,c,o,m1,m2,dl,k]:=h;exact⟨g,p,d,lt,hs,ts,qs,fp,s0,ns,f,l,m,e,a,b,c,o,m1,m2,λt x ys ms s H' sm nx h1 h2 h3 h4 h5 h6 h7=>k _ _ sm (.inl ⟨.inl ⟨x,ys,ms,s,h1,h2,h3,h4,h5,h6,h7⟩,.inl ⟨x,ys,nx,h1,h2,by have:=bj h3;have:=dl _ _ h5;omega⟩⟩),λt H' sm h1 h2=>k _ _ sm (.inl ⟨.inr ⟨h1,h2⟩,.inr h1⟩),λt H' sm h1 h2=>k _ _ sm (.inr ⟨h1,h2⟩)⟩
end Ev
namespace L2
open PySem PySem.Spec PyProof.Rows PySem.W wI hW
variable{X:Cx}{m n:Nat}
theorem YF{D1 D2:Type}[DecidableEq D1][DecidableEq D2]{R1:Rp D1}{R2:Rp D2}(c1:jY X n R1)(c2:jY X m R2)(h1:X.A.units+n+1<cLine)(h2:X.A.units+m+1<cLine):dO X (compareOp .Eq) (u9 (r2 X.K R1 R2) false):=by
 intro pins s σ H x y v u Q I rx ry h;let#[d,e,#[a,x1,x2,rfl,t,q1,q2],#[b,y1,y2,rfl,t',xj,xi],hq]:=h;cases rx;cases ry;let#[its,r,it,_]:=I.tuple t;let#[its',r',DP,_]:=I.tuple t';let#[u1,u2,rfl,e1,e2]:=vals2 r;let#[w1,w2,rfl,MH,MG]:=vals2 r';apply SeqAt.eq_tupleAt (e:=λj=>if j=0 then decide (d.1=e.1) else decide (d.2=e.2)) (AL it) (AL DP) Z1 (λj g1 g2=>?_) ⟨.bl _,H,I,rfl,?_⟩
 ·match j,g1,g2 with
  |0,_,_=>exact c1.eq I e1 MH q1 xj (by show X.A.units+1+n<cLine;omega)
  |1,_,_=>exact c2.eq I e2 MG q2 xi (by show X.A.units+1+m<cLine;omega)
 have hq:Q (.bl (decide (d=e))) H:=hq
 have e3:((List.range (min [u1,u2].toArray.size [w1,w2].toArray.size)).all (λj=>if j=0 then decide (d.1=e.1) else decide (d.2=e.2))&&[u1,u2].toArray.size == [w1,w2].toArray.size)=decide (d=e):=by
  show (decide (d.1=e.1)&&(decide (d.2=e.2)&&true)&&true)=_;by_cases h1:d.1=e.1
  ·by_cases h2:d.2=e.2
   ·have:d=e:=Prod.ext h1 h2;simp[this]
   have:¬d=e:=λz=>h2 (by rw[z]);simp[h1,h2,this]
  have:¬d=e:=λz=>h1 (by rw[z]);simp[h1,this]
 rw[e3];exact hq
theorem ZA{D1 D2:Type}[DecidableEq D1][DecidableEq D2]{R1:Rp D1}{R2:Rp D2}(c1:jY X n R1)(c2:jY X m R2)(h1:X.A.units+n+1<cLine)(h2:X.A.units+m+1<cLine):dO X (compareOp .NotEq) (u9 (r2 X.K R1 R2) true):=by
 intro pins s σ H x y v u Q I rx ry h;let#[d,e,#[a,x1,x2,rfl,t,q1,q2],#[b,y1,y2,rfl,t',xj,xi],hq]:=h;cases rx;cases ry;let#[its,r,it,_]:=I.tuple t;let#[its',r',DP,_]:=I.tuple t';let#[u1,u2,rfl,e1,e2]:=vals2 r;let#[w1,w2,rfl,MH,MG]:=vals2 r';apply SeqAt.RcNeAt.tuples (e:=λj=>if j=0 then decide (d.1=e.1) else decide (d.2=e.2)) (AL it) (AL DP) Z1 (λj g1 g2=>?_) X.prog X.w _ _ #[.bl _,H,I,U,?_]
 ·match j,g1,g2 with
  |0,_,_=>exact c1.eq I e1 MH q1 xj (by show X.A.units+1+n<cLine;omega)
  |1,_,_=>exact c2.eq I e2 MG q2 xi (by show X.A.units+1+m<cLine;omega)
 have hq:Q (.bl (!decide (d=e))) H:=hq
 have e3:((List.range (min [u1,u2].toArray.size [w1,w2].toArray.size)).all (λj=>if j=0 then decide (d.1=e.1) else decide (d.2=e.2))&&[u1,u2].toArray.size == [w1,w2].toArray.size)=decide (d=e):=by
  show (decide (d.1=e.1)&&(decide (d.2=e.2)&&true)&&true)=_;by_cases h1:d.1=e.1
  ·by_cases h2:d.2=e.2
   ·have:d=e:=Prod.ext h1 h2;simp[this]
   have:¬d=e:=λz=>h2 (by rw[z]);simp[h1,h2,this]
  have:¬d=e:=λz=>h1 (by rw[z]);simp[h1,this]
 rw[e3];exact hq
end L2
namespace Ev
open PySem L2
abbrev lN:af:=[xO,"_law_cell",hG,jL,"_law_ties_here","_law_drawn","_law_stand_here",mq,"_law_goods","_law_layers_here","_law_handed","_law_counts","_law_first","_law_count","_law_keys","_law_told","_law_row"]
theorem jg:bN lN [xO] (a9 fj):=bT
structure Dn (K:ai) (CG CW:Addr) (H:Hp) (lh lt lz d g0 pw lL dh:Addr) (hs:Xa) (ts:Xb) (ss qs:aM) (fp:aq) (ns:af) (f:bg) (s0:ak) (yL:ag) (LL:List (List ak)):Prop where
 hh:∃yh,H lh\.lst yh/\bR K H yh (hs.map kH)
 ht:∃zs,H lt\.lst zs/\bR K H zs (ts.map kT)
 hp:∃yp,H lz\.lst yp/\jM K H yp ss
 G:Good hs ts
 S:eM ts ss qs
 s8:ss.length<=8
 Gg:Gs K CG CW H g0 pw hs ts qs fp
 hd:H d\.dK (ft ns f)
 St:Bo H dh hs qs fp s0 ns f
 hL:H lL\.lst yL
 ly:eN H yL LL
 ok:gC (Nx hs ts qs) s0 LL
 fl:LL.flatten.length<=300
 pw:(aN hs).length ^ qs.length<=300
variable{H:Hp}{hs:Xa}{qs:aM}{s0:ak}{LL:List (List ak)}
theorem Dn.same{K:ai}{CG CW:Addr}{H':Hp}{lh lt lz d g0 pw lL dh:Addr}{ts:Xb}{ss:aM}{fp:aq}{ns:af}{f:bg}{yL:ag}(h:Dn K CG CW H lh lt lz d g0 pw lL dh hs ts ss qs fp ns f s0 yL LL)(s:aa H H'):Dn K CG CW H' lh lt lz d g0 pw lL dh hs ts ss qs fp ns f s0 yL LL:=by
 let#[#[yh,a1,a2],#[zs,c1,c2],#[yp,b1,b2],G,S,s8,Gg,hd,St,hL,ly,ok,fl,pw]:=h;exact#[#[yh,s _ _ a1,a2.same s],#[zs,s _ _ c1,c2.same s],#[yp,s _ _ b1,xT b2 s],G,S,s8,Gg.same s,s _ _ hd,#[s _ _ St.hd,St.vV,St.ok,St.s0],s _ _ hL,ly.same s,ok,fl,pw]
variable{N:ak->ak->Prop}
theorem HR(h:gC N s0 LL)(c:Nat):(LL.take (c+1)).flatten.Nodup/\∀s,s∈(LL.take (c+1)).flatten ↔ ∃j,j<=c/\Ds N s0 j s:=by
 have is:∀(j:Nat) L,(LL.take (c+1))[j]? = some L->L.Nodup/\∀s,s∈L ↔ Ds N s0 j s:=λj L e=>by
  rw[List.getElem?_take] at e;split at e
  ·exact h.is j L e
  cases e
 apply#[RZ is,(tS.mem (c:=c) #[is,by rw[dR];omega,λj z hj dz=>?_])];let#[L,hL,_]:=h.mem dz;have:=(bZ.mp hL).1;rw[dR];omega
theorem _F(h:gC N s0 LL){c n:Nat}{r:Int}(R:tR N s0 hs qs c n r):n=(LL.take (c+1)).flatten.length:=by
 let#[l,nd,mem,e]:=R.ex;let#[Xl,Dk]:=HR h c;let h1:=List.Nodup.length_le_of_subset nd λs hs=>(Dk s).mpr ((mem s).mp hs);let h2:=List.Nodup.length_le_of_subset Xl λs hs=>(mem s).mpr ((Dk s).mp hs);omega
theorem Sr{H:Hp}:∀{ys:ag} {LL:List (List ak)},eN H ys LL->∃(as:aq) (rows:List ag),ys=as.map V.ref/\Paired (λa r=>H a\.lst r) as rows/\gN H rows.flatten LL.flatten
 |_,_,.nil=>#[[],[],U,.nil,.nil]
 |_,_,.cons ⟨a,zs,e,h1,h2⟩ t=>by
  let#[as,rows,e2,p,q]:=Sr t;exact#[a::as,zs::rows,by rw[e,e2];rfl,.cons h1 p,gR h2 q]
theorem eN.take{ys:ag}(h:eN H ys LL)(n:Nat):eN H (ys.take n) (LL.take n):=UH n h
structure FX (P:Ad) (w:Ag) (K:ai) (mg:Str->Option Aa) (base:Heap) (CG CW:Addr):Prop where
 cF:!bx 8 "fewest_moves" oA (Ih K CG CW)
 cR:!bx 8 "reached_by" ["goods","stand","count"] (Od K CG CW)
 cI:!bx 3 "_law_is_least" Bp (N3 K)
 cN:!bx 2 "_law_none_below" Bp (Nu K)
end Ev
namespace Jg
open PySem PySem.Spec PyProof.Rows PySem.W
abbrev E5(it S:Addr):Code:=.builtin "sum.loop" #[[.ref it,.ref S,rawInt 2,rawInt 0],[]]
variable{S it l t:Addr}{i n:Nat}{its:Array Aa}{s:Ab}{R:Result->Ab->Prop}{prog:Ad}{w:Ag}{A:Af}
theorem XX(hh:A.handled=none)(hS:s.heap.get? S=some { cls:=.type "list",data:=.seq (List.toArray [.ref t]) n })(hit:s.heap.IsListIter it l i)(hl:s.heap.IsList l its)(hi:its[i]? = none)(h:∀h',Heap.ExtBut it s.heap h'->R (.ok (.ret (.ref t))) { s with heap:=h' }):codeAny (model prog w) A (E5 it S) R s:=by
 apply codeAny_builtin F.entry_sum_loop ?_;rw[xS F.plain_sum_loop _];apply ae (jG hS U ?_);apply ae (wpAny_tryCatch (wpAny_pyNext_list_end hh hit hl hi λh' he=>?_));exact aB (h h' he)
theorem Zq{a:Addr}{m1 m2:Nat}{xs ys:Array Aa}(zQ:S≠it)(DW:t≠it)(LH:a≠it)(hS:s.heap.get? S=some { cls:=.type "list",data:=.seq (List.toArray [.ref t]) n })(hit:s.heap.IsListIter it l i)(hl:s.heap.IsList l its)(hi:its[i]? = some (.ref a))(ht:s.heap.get? t=some { cls:=.type "list",data:=.seq xs m1 })(ha:s.heap.get? a=some { cls:=.type "list",data:=.seq ys m2 })(hz:xs.size+ys.size<=sizeLine)(h:∀(r:Addr) (h':Heap) (n':Nat),h'.get? S=some { cls:=.type "list",data:=.seq (List.toArray [.ref r]) n' }->h'.IsListIter it l (i+1)->s.heap.objs.size<=r->h'.get? r=some { cls:=.type "list",data:=.seq (xs++ys) }->r≠S->r≠it->Kp it S s.heap h'->codeAny (model prog w) A (E5 it S) R { s with heap:=h' }):codeAny (model prog w) A (E5 it S) R s:=by
 apply codeAny_builtin F.entry_sum_loop ?_;rw[xS F.plain_sum_loop _];apply ae (jG hS U ?_);apply ae (wpAny_tryCatch (wpAny_pyNext_list_item hit hl hi λh1 vI vF=>?_));let RJ:=vF.extBut _ _ zQ hS;let uc:=vF.extBut _ _ DW ht;let EK:=vF.extBut _ _ LH ha;apply ae (wpAny_attempt (iI (P.add_list (n:=m1) (n2:=m2) uc EK ?_ hz)));have LP:(h1.push { cls:=.type "list",data:=.seq (xs++ys) }).get? S=some { cls:=.type "list",data:=.seq (List.toArray [.ref t]) n }:=aS _ RJ;have iR:(h1.push { cls:=.type "list",data:=.seq (xs++ys) }).get? h1.objs.size=some { cls:=.type "list",data:=.seq (xs++ys) }:=cw _ U;have k2:∀b o,h1.get? b\o->(h1.push { cls:=.type "list",data:=.seq (xs++ys) }).get? b\o:=λb o e=>aS _ e;have hr:s.heap.objs.size<=h1.objs.size:=Nat.le_of_eq vF.1.symm;have K4:h1.objs.size≠S:=bG (dA (bp RJ))
 have _Y:h1.objs.size≠it:=by
  let#[o,e,_]:=vI;exact bG (dA (bp e))
 show wpAny (model prog w) A.in1 _ _ _ { s with heap:=h1.push { cls:=.type "list",data:=.seq (xs++ys) } };generalize h1.push { cls:=.type "list",data:=.seq (xs++ys) }=h2 at LP iR k2 ⊢;let#[n3,LO]:=Tj (old:=[.ref t]) (new:=[.ref h1.objs.size]) LP
 have k3:∀b o,b≠S->h2.get? b\o->(h2.update S (Obj.mapSeq λ_=>[Value.ref h1.objs.size].toArray)).get? b\o:=λb o hb e=>by
  rw[pZ _ _ (bG hb)];exact e
 apply ae (wpAny_updateSeq LP U (ae (wpAny_letGo ?_)) (zl) (by show 1<=sizeLine+1;decide));show wpAny (model prog w) A.in1 _ _ _ { s with heap:=h2.update S (Obj.mapSeq λ_=>[Value.ref h1.objs.size].toArray) };generalize h2.update S (Obj.mapSeq λ_=>[Value.ref h1.objs.size].toArray)=h3 at LO k3 ⊢;let#[n4,hS4]:=Tj (old:=[.ref h1.objs.size]) (new:=[.ref h1.objs.size]) LO
 have k4:∀b o,b≠S->h3.get? b\o->(h3.update S (Obj.mapSeq λ_=>[Value.ref h1.objs.size].toArray)).get? b\o:=λb o hb e=>by
  rw[pZ _ _ (bG hb)];exact e
 apply ae (wpAny_updateSeq LO U (aB #[plainId_quiet F.plain_sum_loop _,?_]) (zl) (by show 1<=sizeLine+1;decide));apply h h1.objs.size _ n4 hS4 (vI.at λo e=>k4 _ _ zQ.symm (k3 _ _ zQ.symm (k2 _ _ e))) hr (k4 _ _ K4 (k3 _ _ K4 iR)) K4 _Y λb o b1 b2 e=>k4 _ _ b2 (k3 _ _ b2 (k2 _ _ (vF.extBut _ _ b1 e)))
variable{as:aq}
theorem Ys(zQ:S≠it)(LN:S≠l)(Et:l≠it)(hh:A.handled=none)(hits:its=(as.map Value.ref).toArray):∀(k i:Nat) (t:Addr) (xs:Array Aa) (rows:List aj) (n m1:Nat) (s:Ab) (R:Result->Ab->Prop),as.length - i=k->i<=as.length->
  Paired (λa r=>a≠it/\a≠S/\∃m,s.heap.get? a=some { cls:=.type "list",data:=.seq (List.toArray r) m }) (as.drop i) rows->t≠it->t≠S->xs.size+rows.flatten.length<=sizeLine->
  s.heap.IsListIter it l i->s.heap.IsList l its->s.heap.get? S=some { cls:=.type "list",data:=.seq (List.toArray [.ref t]) n }->s.heap.get? t=some { cls:=.type "list",data:=.seq xs m1 }->
  (∀(r:Addr) (m:Nat) h',h'.get? r=some { cls:=.type "list",data:=.seq (xs++rows.flatten.toArray) m }->(r=t/\m=m1/\rows=[]∨s.heap.objs.size<=r)->Kp it S s.heap h'->R (.ok (.ret (.ref r))) { s with heap:=h' })->codeAny (model prog w) A (E5 it S) R s:=by
 intro k
 induction k with
 |zero=>
  intro i t xs rows n m1 s R hk hi hp DW _R hz hit hl hS ht hR;have ei:i=as.length:=by omega
  subst ei;rw[List.drop_length] at hp;cases hp;apply XX hh hS hit hl (by rw[hits];simp) λh' he=>hR t m1 h' ?_ (.inl #[U,U,U]) λb o b1 _ e=>he b o b1 e;rw[he _ _ DW ht];simp
 |succ k ih=>
  intro i t xs rows n m1 s R hk hi hp DW _R hz hit hl hS ht hR;have dW:i<as.length:=by omega
  rw[List.drop_eq_getElem_cons dW] at hp;cases hp with
  |@cons a r _ rows h hp=>
   let#[LH,haS,m2,ha]:=h;rw[List.flatten_cons,eI] at hz;apply Zq zQ DW LH hS hit hl (by rw[hits];simp[dW]) ht ha (by simp only[cQ];omega) λq h' n' hS' zF hq hq' hqS hqi kk=>?_;apply ih (i+1) q (xs++r.toArray) rows n' 0 _ R Z1 Z1 (L2.Paired.aU hp λa r ⟨h1,h2,m,e⟩=>#[h1,h2,m,kk _ _ h1 h2 e]) hqi hqS (by simp only[Array.size_append,cQ];omega) zF ?_ hS' hq' λr2 m h2 e o k2=>hR r2 m h2 ?_ (.inr ?_) λb o' b1 b2 e'=>k2 b o' b1 b2 (kk b o' b1 b2 e')
   ·let#[o,e,r]:=hl;exact#[o,kk _ _ Et LN.symm e,r]
   ·rw[e,List.flatten_cons];simp
   rcases o with⟨rfl,_⟩|o
   ·exact hq
   exact gj hq (Nat.le_of_lt (i6 (bp hq') o))
theorem oI{st:Addr}(hh:A.handled=none){rows:List aj}{m0:Nat}{Q E:Aa->Ab->Prop}(hl:s.heap.IsList l (as.map Value.ref).toArray)(lU:s.heap.get? st=some { cls:=.type "list",data:=.seq #[] m0 })(hp:Paired (λa r=>∃m,s.heap.get? a=some { cls:=.type "list",data:=.seq (List.toArray r) m }) as rows)(hz:rows.flatten.length<=sizeLine)(h:∀(r:Addr) (m:Nat) h',h'.get? r=some { cls:=.type "list",data:=.seq rows.flatten.toArray m }->(r=st/\m=m0/\rows=[]∨s.heap.objs.size<=r)->(∀b o,s.heap.get? b\o->h'.get? b\o)->Q (.ref r) { s with heap:=h' }) :
  wpAny (model prog w) A (call (.builtin "sum") [.ref l,.ref st]) Q E s:=by
 apply wpAny_call (codeAny_call_builtin F.plain_sum F.entry_sum ?_);have hck:checkBuiltinCall "sum" #[[.ref l,.ref st],[]]=pure ():=by rfl
 show wpAny (model prog w) A.in1 (checkBuiltinCall "sum" #[[.ref l,.ref st],[]]) _ _ s;rw[hck];apply aB ?_
 have hb:Builtin.sum #[[.ref l,.ref st],[]]=(do
   let it <- pyIter (.ref l)
   forIn [("str","strings","''"),("bytes","bytes","b''"),("bytearray","bytearray","b''")] PUnit.unit λ(x:String × String × String) (_:PUnit)=>do
    let y <- isInstance (.ref st) (.type x.1)
    if y=true then do
     rule "sum.start-refused"
     raiseErrorMade "TypeError" (toString "sum() can't sum "++toString x.2.1++toString " [use "++toString x.2.2++toString ".join(seq) instead]")
     pure (ForInStep.yield PUnit.unit)
    else pure (ForInStep.yield PUnit.unit)
   let b <- newList [.ref st]
   again (.builtin "sum.loop" #[[it,b,rawInt 2,rawInt 0],[]])):=by rfl
 rw[hb];have ll:l<s.heap.objs.size:=by let#[_,e,_]:=hl;exact bp e
 apply ae (wpAny_pyIter_list hl ?_)
 have Eu:s.heap.objs.size<(s.heap.push { cls:=.type "list_iterator",data:=.fields (List.toArray [.ref l,.int 0 0]) }).objs.size:=by
  have:(s.heap.push { cls:=.type "list_iterator",data:=.fields (List.toArray [.ref l,.int 0 0]) }).get? s.heap.objs.size\_:=cw _ U;exact bp this
 have hit:(s.heap.push { cls:=.type "list_iterator",data:=.fields (List.toArray [.ref l,.int 0 0]) }).IsListIter s.heap.objs.size l 0:=#[_,cw _ U,U,U];let eX:=hl.push { cls:=.type "list_iterator",data:=.fields (List.toArray [.ref l,.int 0 0]) };have k1:∀b o,s.heap.get? b\o->(s.heap.push { cls:=.type "list_iterator",data:=.fields (List.toArray [.ref l,.int 0 0]) }).get? b\o:=λb o e=>aS _ e;show wpAny (model prog w) A.in1 _ _ _ { s with heap:=s.heap.push { cls:=.type "list_iterator",data:=.fields (List.toArray [.ref l,.int 0 0]) } };generalize s.heap.push { cls:=.type "list_iterator",data:=.fields (List.toArray [.ref l,.int 0 0]) }=g1 at Eu hit eX k1 ⊢;have ty:({ s with heap:=g1 }:Ab).TypeIs (.ref st) "list":=#[_,k1 _ _ lU,U];apply ae ?_;rw[p7];apply ae (ae (wpAny_isInstance ty (b:=false) U ?_));rw[aA f_];apply aB ?_;show wpAny (model prog w) A.in1 (forIn [("bytes","bytes","b''"),("bytearray","bytearray","b''")] PUnit.unit _) _ _ _;rw[p7];apply ae (ae (wpAny_isInstance ty (b:=false) U ?_));rw[aA f_];apply aB ?_;show wpAny (model prog w) A.in1 (forIn [("bytearray","bytearray","b''")] PUnit.unit _) _ _ _;rw[p7];apply ae (ae (wpAny_isInstance ty (b:=false) U ?_));rw[aA f_];apply aB ?_;show wpAny (model prog w) A.in1 (pure PUnit.unit) _ _ _;apply aB (ae (wpAny_newList (aB #[plainId_quiet F.plain_sum_loop _,?_]) (zl)));have hS:(g1.push { cls:=.type "list",data:=.seq (List.toArray [.ref st]) }).get? g1.objs.size=some { cls:=.type "list",data:=.seq (List.toArray [.ref st]) 0 }:=cw _ U;have k2:∀b o,g1.get? b\o->(g1.push { cls:=.type "list",data:=.seq (List.toArray [.ref st]) }).get? b\o:=λb o e=>aS _ e;let jd:=eX.push { cls:=.type "list",data:=.seq (List.toArray [.ref st]) };show codeAny (model prog w) A (E5 s.heap.objs.size g1.objs.size) _ { s with heap:=g1.push { cls:=.type "list",data:=.seq (List.toArray [.ref st]) } };generalize g1.push { cls:=.type "list",data:=.seq (List.toArray [.ref st]) }=g2 at hS k2 jd ⊢;have k3:∀b o,s.heap.get? b\o->g2.get? b\o:=λb o e=>k2 _ _ (k1 _ _ e);have zQ:g1.objs.size≠s.heap.objs.size:=bG (dA Eu);have LN:g1.objs.size≠l:=bG (dA (Nat.lt_trans ll Eu));have Et:l≠s.heap.objs.size:=dA ll;have ub:∀b o,s.heap.get? b\o->b≠s.heap.objs.size/\b≠g1.objs.size:=λb o e=>#[dA (bp e),dA (Nat.lt_trans (bp e) Eu)];have Cz:s.heap.objs.size<=g2.objs.size:=Nat.le_of_lt (Nat.lt_trans Eu (bp hS));apply Ys zQ LN Et hh U as.length 0 st #[] rows 0 m0 _ _ U (gB _) (L2.Paired.aU hp λa r ⟨m,e⟩=>#[(ub _ _ e).1,(ub _ _ e).2,m,k3 _ _ e]) (ub _ _ lU).1 (ub _ _ lU).2 ⇑hz (hit.at λo e=>k2 _ _ e) jd hS (k3 _ _ lU) λr m h' e o kk=>h r m h' ⇑e ?_ λb o' e'=>kk b o' (ub _ _ e').1 (ub _ _ e').2 (k3 _ _ e');rcases o with o|o
 ·exact .inl o
 exact .inr (gj Cz o)
end Jg
namespace L2
open PySem PySem.Spec PyProof.Rows PySem.W
inductive CZ (K:ai) (xs:ag) (H:Hp) (Q:VK):Prop
 |mk:∀(l st:Addr) (as:aq) (rows:List ag),xs=[.ref l,.ref st]->dY K H l (as.map V.ref)->H st\.lst []->Paired (λa r=>H a\.lst r) as rows->rows.flatten.length<=sizeLine->(∀(r:Addr) (H':Hp),aa H H'->H' r\.lst rows.flatten->Q (.ref r) H')->CZ K xs H Q
theorem Sl:∀{as:aq} {vs:aj},Vals (as.map V.ref) vs->vs=as.map Value.ref
 |[],_,.nil=>rfl
 |a::as,_,.cons r t=>by
  cases r;rw[Sl t];rfl
theorem RW{X:Cx}{pins:List (Addr × Obj)}{σ:St}{H:Hp}{s:Ab}(I:Inv X pins σ H s):∀{as:aq} {rows:List ag},Paired (λa r=>H a\.lst r) as rows->∃vs:List aj,Paired (λa r=>∃m,s.heap.get? a=some { cls:=.type "list",data:=.seq (List.toArray r) m }) as vs/\Vals rows.flatten vs.flatten
 |[],_,.nil=>#[[],.nil,.nil]
 |a::as,_,.cons h t=>by
  let#[vs,p,v]:=RW I t;let#[_,its,n,r,e]:=I.ax a _ h;exact#[its::vs,.cons #[n,e] p,by rw[List.flatten_cons,List.flatten_cons];exact r.append v]
theorem gm_{X:Cx}(hc:X.calm=true):gE X (.builtin "sum") (CZ X.K):=by
 intro pins s σ H xs us Q I rr h;let#[l,st,as,rows,rfl,hl,lU,hp,hz,q]:=h;let#[u,v,rfl,ru,rv]:=Vals.two rr;cases ru;cases rv;let#[its,rl,pl,z]:=I.list hl;obtain rfl:=Sl rl;let#[vs,pv,vv]:=RW I hp;let#[_,ZI,n0,r0,e0]:=I.ax st _ lU;cases r0;apply Jg.oI (I.ok.hd hc) pl.isList e0 pv (by rw[<- vv.length];exact hz) λra m h' hr o kk=>?_;rcases o with⟨rfl,rfl,e⟩|o
 ·have er:rows=[]:=by
   cases hp with
   |nil=>rfl
   |cons _ _=>cases pv;cases e
  subst er;exact#[.ref ra,H,I.kept (t':=s.toks) kk,U,q ra H (aa.refl H) lU]
 exact#[.ref ra,_,I.laid (o:=.lst rows.flatten) (t':=s.toks) kk o #[hz,_,m,vv,hr],U,q ra _ (aa.new (I.ax.fresh o)) ay]
end L2
namespace Ev
open PySem L2
abbrev fB:List Stmt:=EX (yV (iw fj) 0)
variable{CG CW fl:Addr}{P:Ad}{w:Ag}{K:ai}{mg:Str->Option Aa}{base:Heap}
theorem HP{cd:Aa}{A:Af}{outer:List Env}{s:Ab}{Hi:Hp}{E:XK}(hr:aO 9 (A.deeper (PyProof.Rows.envOfC "law" (a9 fj) s.heap.objs.size fl cd)))(B:Bi mg)(yZ:mg "sum"=none)(C:FX P w K mg base CG CW):∃t,jT (iX bh P w K mg base lN "law" (a9 fj) fl cd A outer s Hi E).xm (fB.drop 10) t /\
  ∀(D:Ends) (H:Hp) (w1 w2 w3 w5 w7:V) (Cf tZ tY tX tW:aJ) (lh lt lz d g0 pw lL dh lc:Addr) (hs:Xa) (ts:Xb) (ss qs:aM) (fp:aq) (ns:af) (f:bg) (s0:ak) (yL:ag) (LL:List (List ak)) (c:Nat),Dn K CG CW H lh lt lz d g0 pw lL dh hs ts ss qs fp ns f s0 yL LL->c<=1000->H lc\.lst [.int 0,.int 1,.int 2,.int 3000,.int c,.int 1]->
   (∀Cf tZ tY tX tW H',aa H H'->D.nx [some w1,some w2,some w3,some (.ref lh),some (.ref lt),some w5,some (.ref d),some (.ref lz),some (.ref g0),some (.ref lL),some (.ref dh),some (.ref lc),Cf,tZ,tY,tX,tW] H')->
   t D [some w1,some w2,some w3,some (.ref lh),some (.ref lt),some w5,some (.ref d),some (.ref lz),some (.ref g0),some (.ref lL),some (.ref dh),some (.ref lc),Cf,tZ,tY,tX,tW] H:=by
 let hu:=fN hr;let sz:=cU;have cF2:!bx 8 "fewest_moves" oA (k6 K CG CW):=C.cF.imp Mh;have hz:∀{X:Cx},jY X 0 rZ:=NC;refine' #[_,av ?Ka (av ?J_ (av ?WN (av ?WM (aE ?WL)))),?kk]
 case Ka=>exact bo 12 jg.nd Au
 case' J_=>refine' d_ dI U (dF (pv 11)) (cm 13 jg.nd) (av ?d1 (av ?d2 (av ?d3 (av ?d4 (av ?d5 (av ?d6 (aE ?d7)))))))
 case d1=>exact bo 14 jg.nd (cZ (gm_ U) (by rfl) yZ PyProof.Rows.Boot.«sum» %[Ay Mz (pv 9) AH (AI (bJ ia (pv 13) aD)),fE bF|0])
 case d2=>exact bo 15 jg.nd (bc C.cR hr %[8,10,13|0])
 case d3=>exact b_ (sX (fh (eZ (cZ mG (by rfl) B.ka kr %[15,mC (v:=.ty "tuple") (by rfl) B.tuple wx U|0]))) (sX (fg s_ (cZ h_ (by rfl) B.len gF %[15|0]) aD) (uH (fg (Zd (Nat.lt_of_succ_lt (ml hr 0))) (pv 10) (pv 6))))).pt (aE (bu gG)) cg
 case d4=>exact b_ (fg s_ (bw cu (pv 15) aD) (cZ h_ (by rfl) B.len gF %[14|0])) (aE (bu gG)) cg
 case d5=>exact b_ (fh (eZ (bc C.cI hr %[3,7,14,bw cu (pv 15) aD|0]))) (aE (bu gG)) cg
 case d6=>exact b_ (fh (eZ (bc C.cN hr %[3,7,14,bw cu (pv 15) aD|0]))) (aE (bu gG)) cg
 case d7=>exact b_ (fg Ew (pv 13) aD) (aE (bo 12 jg.nd (bw cu (pv 15) aD))) cg
 case WN=>exact bo 16 jg.nd (bc cF2 hr %[8,10,12,aD|0])
 case WM=>exact b_ (sX (fg s_ (bw cu (pv 16) aD) xU) (uH (fg (ZA hz hz (ml hr 0) (ml hr 0)) (bw cu (bc C.cR hr %[8,10,cZ h_ (by rfl) B.len gF %[bw cu (pv 16) aD|0]|0]) aD) (pv 12)))).pt (aE (bu gG)) cg
 case WL=>exact b_ (L4 (fg GW (cZ h_ (by rfl) B.len gF %[bw cu (pv 16) aD|0]) aD) (Mq (fg (YF hz hz (ml hr 0) (ml hr 0)) (bw cu (bc C.cR hr %[8,10,bJ Bx (cZ h_ (by rfl) B.len gF %[bw cu (pv 16) aD|0]) aD|0]) aD) (pv 12)))).pt (aE (bu gG)) cg
 intro D H w1 w2 w3 w5 w7 Cf tZ tY tX tW lh lt lz d g0 pw lL dh lc hs ts ss qs fp ns f s0 yL LL c Z c6 xB k;let#[r9,R9]:=MC Z.G qs (fS qs s0);let sS:=Z.S;have Jo:Vs hs qs s0:=Z.St.vs;let mo:=tw Z.G;let l8:=Z.s8;let Qi:=Z.S.len;have rM:(aN hs).length ^ qs.length<=3000:=gj Z.pw (by decide)
 have Ph:∀n,∀z∈(LL.take (n+1)).flatten,Vs hs qs z:=λn z hz=>by
  let#[j,_,dz]:=((HR Z.ok n).2 z).mp hz;exact dz.1.vs Jo
 have Mg:∀n,(LL.take (n+1)).flatten.length<=300:=λn=>by
  have:=List.sublist_append_left (LL.take (n+1)).flatten (LL.drop (n+1)).flatten;rw[<- List.flatten_append,List.take_append_drop] at this;exact gj this.length_le Z.fl
 have DG:∀{z:ak} {r},jI hs qs (fS qs z) r->vU (fr r (bP hs)):=λR=>fk_ Z.G Z.S.wp Z1 R;have J9:∀{z:ak} {r},jI hs qs (fS qs z) r->0<=r:=λR=>(HW Z.G Z.S.wp Z1 R).1;let DD:=bj Z.ly
 let fst:V->Hp->Prop:=λv H'=>∃(u:Addr) (n:Nat) (r:Int),v=.ref u/\hU H' u (fr r (bP hs))/\tR (Nx hs ts qs) s0 hs qs 3000 n r
 let Iw:bO:=λi σ H'=>∃(v:V) (tZ tY tX tW:aJ),σ=[some w1,some w2,some w3,some (.ref lh),some (.ref lt),some w5,some (.ref d),some (.ref lz),some (.ref g0),some (.ref lL),some (.ref dh),some (.ref lc),some v,tZ,tY,tX,tW]/\aa H H'/\(4<=i->fst v H')
 apply CM (R:=λσ H'=>Iw 0 σ H') ?_ (λN hN=>?_);rotate_left 1
 ·exact hN _ _ #[_,_,_,_,_,U,aa.refl _,λh=>absurd h (by decide)]
 intro σ H2 h0;apply CM (R:=λσ H'=>Iw 6 σ H') ?_ (λN hN=>?_);rotate_left 1
 ·let h0':=h0;let#[v,tZ,tY,tX,tW,rfl,s2,_]:=h0';apply#[_,U,lc,U,#[_,.of (s2 _ _ xB)],?_];apply gh (K:=K) (a:=lc) (xs:=[.int 0,.int 1,.int 2,.int 3000,.int c,.int 1]) Iw ?_ ?_ ?_ ?_
  ·exact h0
  ·rintro i σ H' _ ⟨_,_,_,_,_,_,sm,_⟩;exact .of (sm _ _ xB)
  ·rintro i y σ H3 hy ⟨v,tZ,tY,tX,tW,rfl,s3,fv⟩
   obtain⟨m,rfl,m6,mi⟩:∃m:Nat,y=.int m/\m<=3000/\(i=3->m=3000):=by
    match i,hy with
    |0,hy=>exact#[0,(cq hy).symm,by decide,by decide]
    |1,hy=>exact#[1,(cq hy).symm,by decide,by decide]
    |2,hy=>exact#[2,(cq hy).symm,by decide,by decide]
    |3,hy=>exact#[3000,(cq hy).symm,by decide,λ_=>rfl]
    |4,hy=>exact#[c,(cq hy).symm,by omega,by omega]
    |5,hy=>exact#[1,(cq hy).symm,by decide,by decide]
    |_+6,hy=>cases hy
   let Z3:=Z.same s3;apply#[_,U,_,U,_,_,U,U,_,U,lL,_,U,.of Z3.hL,λl2 Xh=>?_];rw[show (some ((m:Int)+1))=some ((m+1:Nat):Int) from U,Oe];let#[s4,e4]:=aH (o:=.lst (yL.take (m+1))) Xh;generalize upd H3 l2 (.lst (yL.take (m+1)))=H4 at s4 e4 ⊢;apply#[zl,λl0 Xi=>?_];let#[s5,e5]:=aH (o:=.lst []) Xi;let yR:=s4.trans s5;let Bv:=s5 _ _ e4;generalize upd H4 l0 (.lst [])=H5 at s5 e5 yR Bv ⊢;let#[as,rows,ea,pr,PV]:=Sr ((Z3.ly.same yR).take (m+1));rw[ea] at Bv;have XC:rows.flatten.length=(LL.take (m+1)).flatten.length:=bj PV;apply#[l2,l0,as,rows,U,.of Bv,e5,pr,by have:=Mg m;omega,λlk H6 s6 e6=>?_];let PH:=yR.trans s6;let Z6:=Z3.same PH;have Pu:gN H6 rows.flatten (LL.take (m+1)).flatten:=PV.keep λ_ _ e=>s6 _ _ e;apply#[_,U,_,U,_,U,g0,pw,dh,hs,ts,qs,fp,s0,ns,f,m,U,Z6.Gg,Z6.St,rM,by omega,λt u n r H7 s7 e7 f7 R=>?_];let PF:=PH.trans s7;let Z7:=Z3.same PF;let MF:=s7 _ _ e6;let CF:=Pu.keep λ_ _ e=>s7 _ _ e;let en:=_F Z.ok R;let#[z0,j0,Rt,HM,R0]:=R.at_;let r0:=J9 R0;have UW:BS K H7 lh lz lt u hs ts ss qs (fr r (bP hs)):=#[Z7.hh,Z7.hp,Z7.ht,f7,DG R0,Z.G,Z.S,l8];let FZ:=((HR Z.ok m).2 z0).mpr #[j0,Rt,HM];let Dz:=bj Pu;apply#[_,U,_,_,_,_,U,.tup e7,U,_,U,aL ?_];apply#[_,U,t,_,U,.inr (.of e7),U,_,U,?_];apply An (show V.int ((2:Nat):Int)=V.int 2 from U) ?_;apply#[_,U,_,U,dh,d,ns,ns,f,U,U,Z7.St.hd,Z7.hd,U,λ_ h=>h,#[_,U,aL ?_]];apply#[_,U,t,_,0,_,U,U,.of e7,L2.d0 (j:=0) U,_,U,lk,_,U,.inl (.of MF),U,_,U,?_];apply An (by rw[en,Dz]) ?_;apply#[_,U,_,U,_,U,_,U,t,_,1,_,U,U,.of e7,L2.d0 (j:=1) U,lh,lz,lt,lk,u,_,_,hs,ts,ss,qs,r,U,UW,MF,CF,Ph m,gj (Mg m) (by decide),r0,#[z0,FZ,R0],λH8 s8=>#[_,U,aL ?_]];apply#[_,U,_,U,_,U,_,U,t,_,1,_,U,U,.of (s8 _ _ e7),L2.d0 (j:=1) U,lh,lz,lt,lk,u,_,_,hs,ts,ss,qs,r,U,UW.same s8,s8 _ _ MF,CF.keep λ_ _ e=>s8 _ _ e,Ph m,gj (Mg m) (by decide),r0,λz hz r' R'=>?_,λH9 s9=>#[_,U,aL ?_]]
   ·let#[j,hj,dz]:=((HR Z.ok m).2 z).mp hz;exact R.lo z j r' hj dz R'
   let J3:=PF.trans (s8.trans s9);apply#[_,U,U,_,U,?_];apply bY (λc3=>?_) (λc3=>?_)
   ·have m3:m=3000:=by
     have:=V.int.inj (o9 c3);omega
    apply#[_,U,t,_,1,_,U,U,.of (s9 _ _ (s8 _ _ e7)),L2.d0 (j:=1) U,?_];apply#[_,_,_,_,_,U,s3.trans J3,λ_=>#[u,n,r,U,s9 _ _ (s8 _ _ f7),?_]];rw[<- m3];exact R
   have m3:i≠3:=λe=>c3 (cz (by rw[mi e];rfl));apply#[_,_,_,_,_,U,s3.trans J3,λh4=>?_];let#[u',n',r',e',f',R']:=fv Z1;exact#[u',n',r',e',J3 _ _ f',R']
  rintro σ H3 h;exact hN _ _ h
 clear h0;intro σ H3 ⟨v,tZ,tY,tX,tW,si,s3,fv⟩;subst si;let#[u,n,r,rfl,fu,R]:=fv (by decide);let Z3:=Z.same s3;let#[z0,j0,Rt,HM,R0]:=R.at_;let r0:=J9 R0;let XM:=Mo Z.ok.ne;let fl:=Z.fl
 have TB:∀j z,Ds (Nx hs ts qs) s0 j z->j<1000:=λj z dz=>by
  let#[L,hL,_]:=Z.ok.mem dz;have:=(bZ.mp hL).1;omega
 apply#[_,U,_,U,_,U,g0,pw,dh,u,hs,ts,qs,fp,s0,ns,f,fr r (bP hs),300,U,Z3.Gg,Z3.St,fu,DG R0,by decide,by decide,λj z dz=>by have:=TB j z dz;omega,λt H4 s4 td=>?_];rcases td with⟨td,_⟩|⟨_,Xq⟩;rotate_left 1
 ·exact absurd Xq (Z.ok.vm fl)
 rcases td with⟨x,ys,ms,sE,h1,h2,h3,h4,h5,h6,h7⟩|⟨_,h2⟩;rotate_left 1
 ·have:=h2 j0 z0 HM;rw[(GX Z.G r0 R0).mpr (Int.le_refl _)] at this;cases this
 let Xy:=bj h3;let lms:=TB _ _ h5;let Z4:=Z3.same s4;let#[rE,RE]:=MC Z.G qs (fS qs sE);have rE1:rE<=r:=(GX Z.G r0 RE).mp h6;let rE2:=R.lo sE ms.length rE Z1 h5 RE;apply#[_,U,t,_,0,_,U,U,.of h1,L2.d0 (j:=0) U,U,_,U,?_];apply An U ?_;apply#[_,U,_,U,_,U,t,_,1,_,U,U,.of h1,L2.d0 (j:=1) U,x,_,U,.inl (.of h2),g0,pw,dh,hs,ts,qs,fp,s0,ns,f,ys.length,U,Z4.Gg,Z4.St,rM,by omega,λt2 u2 n2 r2 H5 s5 e5 f5 R2=>?_];rw[Xy] at R2
 have e2:r2=r:=by
  let#[z2,j2,Rq,dz2,Rz2]:=R2.at_;let a1:=R.lo z2 j2 r2 Z1 dz2 Rz2;let a2:=R2.lo sE ms.length rE (a_ _) h5 RE;omega
 subst e2;apply#[t2,_,1,_,U,U,.of e5,L2.d0 (j:=1) U,_,U,fr r2 (bP hs),fr r2 (bP hs),#[u2,_,_,U,.of f5,U,U],#[u,_,_,U,.of (s5 _ _ (s4 _ _ fu)),U,U],#[_,U,?_]];apply bY (λc=>?_) (λ_=>?_)
 ·simp at c
 let yR:=s4.trans s5;let Z5:=Z4.same s5;let oZ:=s5 _ _ h1;let g8:=s5 _ _ h2;apply#[_,U,t,_,1,_,U,U,.of oZ,L2.d0 (j:=1) U,x,_,U,.inl (.of g8),_,_,U,U,_,U,?_];apply bY (λc=>?_) (λ_=>?_);rotate_left 1
 ·exact k _ _ _ _ _ _ (s3.trans yR)
 have cO:0<ys.length:=by
  have:=o9 c;omega
 apply#[_,U,_,U,_,U,t,_,1,_,U,U,.of oZ,L2.d0 (j:=1) U,x,_,U,.inl (.of g8),_,_,U,U,g0,pw,dh,hs,ts,qs,fp,s0,ns,f,ys.length - 1,?_,Z5.Gg,Z5.St,rM,by omega,λt3 u3 n3 r3 H6 s6 e6 f6 R3=>?_]
 ·rw[show ((ys.length:Int) - 1)=((ys.length - 1:Nat):Int) by omega];rfl
 let#[z3,j3,hj3,dz3,UV]:=R3.at_;let WB:=J9 UV
 have ne3:¬fr r3 (bP hs)=fr r2 (bP hs):=λe=>by
  let e3:=(Ya WB r0 mo.1).mp e;let h:=h7 j3 z3 Z1 dz3;rw[(GX Z.G r0 UV).mpr Z1] at h;cases h
 apply#[t3,_,1,_,U,U,.of e6,L2.d0 (j:=1) U,_,U,fr r3 (bP hs),fr r2 (bP hs),#[u3,_,_,U,.of f6,U,U],#[u,_,_,U,.of (s6 _ _ (yR _ _ fu)),U,U],#[_,U,?_]];apply bY (λc=>?_) (λ_=>?_)
 ·exact absurd (o9 c) ne3
 exact k _ _ _ _ _ _ (s3.trans (yR.trans s6))
structure O9 (P:Ad) (w:Ag) (K:ai) (mg:Str->Option Aa) (base:Heap) (CG CW:Addr):Prop where
 cD:!bx 1 wb xN AE
 cH:!bx 3 "_law_hands" [hG,"_law_most"] (Ug K)
 cT:!bx 2 "_law_ties" [hG,jL] (Nq K)
 cP:!bx 3 "_law_pieces" tN (Of K)
 cS:!bx 2 "_law_stand" oB (MQ K)
 cW:!jZ CW 5 "Web" ["self","hands","ties"] (Hl K CW)
 cG:!jZ CG 7 "Goods" ["self","web","pieces"] (IJ K CG CW)
 cL:!bx 2 "_law_layers" tP (NP K)
def m_(K:ai)(T:Addr):Sp:=λvs H Q _=>∃(a:Addr) (ns:List Int),vs=[.ref a]/\H T\.tbl #[]/\dY K H a (ns.map V.int)/\ns.length<=63/\∀H',Q (.bl true) H'
variable{T:Addr}
theorem YB{c0:Addr}{fd:Ae}(F:wG K "law" "law" fj fl c0 fd)(B:Bi mg)(yZ:mg "sum"=none)(hC:PySem.W.CodeHd base c0 T)(xH:base.BuiltinsAt mg T)(C:O9 P w K mg base CG CW)(C2:FX P w K mg base CG CW):!au bh 10 fl fd [xO] (m_ K T):=by
 apply F.ok jg (λvs H Q E h=>?_) (λA outer s H vs Q E hr h=>?_)
 ·let#[a,ns,rfl,_]:=h;rfl
 let#[ls,ns,rfl,hT,Lg,h63,k]:=h;let sz:=cU;let hu:=fN hr;have A_:aO 3 _:=hr.mono (by decide);let#[tl,_Q,later]:=HP (Hi:=H) (E:=E) (outer:=outer) hr B yZ C2;refine' #[_,av ?s1 (aE (bu gG)),?kk]
 case' s1=>refine' d_ dI U (dF (bJ XY (fE %[aD|0]) (Ay Mz (pv 0) AH (AI aD)))) (cm 1 jg.nd) ?b0
 case' b0=>refine' av ?q0 ?c1
 case' c1=>refine' av ?q1 ?c2
 case' c2=>refine' av ?q2 ?c3
 case' c3=>refine' av ?q3 ?c4
 case' c4=>refine' av ?q4 ?c5
 case' c5=>refine' av ?q5 ?c6
 case' c6=>refine' av ?q6 ?c7
 case' c7=>refine' av ?q7 ?c8
 case' c8=>refine' av ?q8 ?c9
 case' c9=>refine' av ?q9 ?c10
 case c10=>exact _Q
 case q0=>exact bo 2 jg.nd (fE %[1|0])
 case q1=>exact bo 3 jg.nd (bc C.cH hr %[2,aD|0])
 case q2=>exact bo 4 jg.nd (bc C.cT hr %[2,3|0])
 case q3=>exact bo 5 jg.nd (bc C.cP hr %[2,4,aD|0])
 case q4=>exact bo 6 jg.nd (bc C.cS hr %[2,3,5|0])
 case q5=>exact bo 7 jg.nd (gp_ (px:=vT) (dE:=[]) (cl:=[]) (is:=[]) (k:=1) U (by rfl) B.sorted %[5|0] (_q (X9 (P:=T) (c:=c0) U NG U hC xH) XZ) YM A_ (λ_ h=>by cases h) (λ_ h=>by cases h) (λ_ h=>by cases h) U)
 case q6=>exact bo 8 jg.nd (GJ C.cG hr %[GJ C.cW hr %[3,4|0],5|0])
 case' q7=>refine' bo 9 jg.nd (bc C.cL hr %[7,4,jh OB (by rfl) B.tuple wx %[ku [vT,"_law_stand_here"] 1 [6] (dF (pv 7)) (λfp s H=>?g6) (λfp s H=>mE) (λfp s H=>?e6)|0],aD|0])
 case g6=>exact gg (i:=0) (show ([vT,"_law_stand_here"]:af).Nodup by decide +kernel) U (Or.inl U)
 case e6=>exact ji hu (pv 1) (bw (zg (K:=K) oO cu) (pv 0) aD)
 case q8=>exact bo 10 jg.nd (jh fC_ (by rfl) B.dict uA %[6|0])
 case q9=>exact bo 11 jg.nd (fE %[aD,aD,aD,aD,bc C.cD hr %[2,cZ h_ (by rfl) B.len gF %[9|0]|0],aD|0])
 have sQ:md H T qL:=#[[],hT,λe he=>by cases he];apply#[zl,λa1 n1=>?_];let#[s1,k1]:=aH (o:=.lst [.int 0]) n1;generalize upd H a1 (.lst [.int 0])=H1 at s1 k1 ⊢;apply#[_,U,_,U,ls,_,U,hR_ s1 Lg,λa2 n2=>?_];let#[s2,k2]:=aH (o:=.lst (dX (ns.map V.int) none (some 3))) n2;generalize upd H1 a2 (.lst (dX (ns.map V.int) none (some 3)))=H2 at s2 k2 ⊢;let lc:=OF (ns.map V.int) none (some 3);rw[ao] at lc;apply#[a1,a2,_,_,U,U,s2 _ _ k1,k2,by show 1+(dX (ns.map V.int) none (some 3)).length<=sizeLine;omega,λa3 n3=>?_];let#[s3,k3]:=aH (o:=.lst ([.int 0]++dX (ns.map V.int) none (some 3))) n3;generalize upd H2 a3 (.lst ([.int 0]++dX (ns.map V.int) none (some 3)))=H0 at s3 k3 ⊢;have Ck:md H0 T qL:=sQ.same ((s1.trans s2).trans s3)
 have allI:∀y∈[V.int 0]++dX (ns.map V.int) none (some 3),∃n,y=.int n:=λy hy=>by
  rcases dN.mp hy with hy|hy
  ·exact#[0,eg.mp hy]
  have hy:y∈ns.map V.int:=by
   unfold dX at hy;exact List.mem_of_mem_drop (List.mem_of_mem_take hy)
  let#[n,_,rfl]:=br.mp hy;exact#[n,U]
 let Iv:bO:=λi σ H2=>∃(v1 v2 v3 v4 v5 v6 v7 v8 v9 va vb vc vd ve vf vg:aJ),σ=[some (.ref ls),v1,v2,v3,v4,v5,v6,v7,v8,v9,va,vb,vc,vd,ve,vf,vg]/\NT H0 H2/\md H2 T qL
 apply#[a3,U,#[_,.of k3],?_];apply gh (K:=K) (a:=a3) (xs:=[.int 0]++dX (ns.map V.int) none (some 3)) Iv ?_ ?_ ?_ ?_
 ·exact#[none,none,none,none,none,none,none,none,none,none,none,none,none,none,none,none,U,NT.refl H0,Ck]
 ·rintro i σ H' _ ⟨_,_,_,_,_,_,_,_,_,_,_,_,_,_,_,_,_,nt,_⟩;exact .of (nt.lst k3)
 rotate_left 1
 ·rintro σ H' ⟨_,_,_,_,_,_,_,_,_,_,_,_,_,_,_,_,rfl,_,_⟩;exact k H'
 rintro i y σ H2 hy ⟨v1,v2,v3,v4,v5,v6,v7,v8,v9,va,vb,vc,vd,ve,vf,vg,rfl,W8,JG⟩;let#[n,rfl]:=allI y (cy hy);clear hy s1 k1 s2 k2 n1 n2 n3 s3 sQ Ck k;apply#[_,U,zl,λl nl=>?_];let s3:=aa.new (o:=.lst [.int n]) nl;have iC:dQ (upd H2 l (.lst [.int n])) l:=.inl #[n,ay];generalize upd H2 l (.lst [.int n])=H3 at s3 iC ⊢;apply#[_,U,l,3,U,by decide,by decide,iC,λlh yh hs H4 b4 iN pP eW tu g nd h1 h8=>?_];let#[Vf,ue]:=iC.some;have vx:lh≠l:=(bq ue pP).symm;apply#[_,U,_,U,l,lh,yh,hs,U,iN,eW,tu,λx hx=>?_,nd,by omega,vx,λlt yt ts H5 b5 iM o5 dW tt tok F5 wX=>?_]
 ·let#[h,hh,rfl]:=br.mp hx;exact (g h hh).1
 let#[Ve,Ek]:=iN.some;have y8:lt≠l:=(bq Ek o5).symm;have W:Good hs ts:=#[g,nd,h1,by omega,λt ht=>(tok t ht).1,F5,wX,λt ht=>(tok t ht).2];apply#[_,U,_,U,l,lt,4,yt,ts,U,by decide,iM,dW,tt,y8,wX,W.tok,F5,λlp yp ps H6 b6 j8 GZ iG pc dp u_ p3=>?_];let#[xs5,xD]:=iM.some;have DB:lp≠l:=(bq xD GZ).symm;let t7:=jN (jN tu b5 Ek) b6 xD;let zB:=b6 _ _ (b5 _ _ eW vx) vx;apply#[_,U,_,U,_,U,l,lh,lp,yh,yp,hs,ps,U,j8,zB,t7,vx,h1,by omega,iG,pc,DB,u_,by omega,λd f H7 b7 kI EW hd fm=>?_];let#[Pd,pN]:=j8.some;have D7:Dr K H7 l lh lt lp d hs ts ps f:=#[kI,#[yh,b7 _ _ zB vx,jN t7 b7 pN],#[yt,b7 _ _ (b6 _ _ dW y8) y8,jN (jN tt b6 xD) b7 pN],#[yp,b7 _ _ iG DB,Paired.aU pc λy p q=>q.but b7 j8],hd,vx,y8,DB];have PJ:aa H2 H7:=(((b4.trans b5).trans b6).trans b7).same nl s3;have Cj:md H7 T qL:=JG.same PJ;clear b4 b5 b6 b7 iC iN iM j8 kI pP o5 GZ EW ue Ek xD pN tu t7 eW zB dW tt iG pc hd s3;apply#[_,U,Kn (Ff ?_)];apply Yu Cj U U U U λG2 c' H8 b8 JF Lu GV=>?_;let#[tv,hT7]:=YT Cj;have Dc:NT H7 H8:=b8.nt hT7;let D8:=D7.nt Dc;let#[Vb,Lh,Gk]:=D8.hp;let Dv:=bj Gk;apply#[.ref lp,G2,c',Vb,Kk H8,[],U,U,Lu,GV,.inl #[lp,U,.of Lh],by omega,U,λH' x sm hx=>?_,λlz zs H9 s9 W3 W5 pz ek=>?_]
 ·let#[j,hj,rfl]:=gH hx;let#[t,v,e,ht,_]:=eO Gk j hj Z1;rw[e];apply#[t,_,_,U,U,sm _ _ ht,aa.refl _,?_];show V.str _=V.str (match H8 t with|some (.tup (.str n::_))=>n|_=>(⟨#[]⟩:Str));rw[ht]
 let#[ss,sp,P2]:=ex_ pz Gk
 have esn:ss.map (·.1)=iy (ps.map (·.1)):=by
  rw[<- My P2,<- My Gk];exact ek
 have sA:aa H8 (upd H9 lz (.lst zs)):=s9.trans (aa.new W3);have eA:upd H9 lz (.lst zs) lz\.lst zs:=ay;generalize upd H9 lz (.lst zs)=HA at sA eA ⊢;have P3:jM K HA zs ss:=xT P2 sA;let DA:=D8.same sA;let JE:=JF.same sA;have W7:NT H2 HA:=((NT.of PJ).trans Dc).trans (NT.of sA)
 have Gw:lz≠l:=by
  let#[xs,e]:=D8.st.some;exact (bq e W5).symm
 have nM:(ss.map (·.1)).Nodup:=(sp.map (·.1)).nodup_iff.mpr u_;have XB:ss.length=ps.length:=sp.length_eq;let Xw:=bj P3;let#[#[yhC,hhC,VL],#[ztC,_T,VR],#[ypC,hpC,WT]]:=And.intro DA.hh (And.intro DA.ht DA.hp);apply#[_,U,_,U,?_];apply Y8 W hhC VL _T VR (λpw dc HD sD Wb frw=>?_);apply#[_,U,?_];apply _A Wb W (sD _ _ hpC) (xT WT sD) (λq hq=>(dp q hq).g) u_ Z1 (λg0 qs G0 HE sE GA Qq frg=>?_);let#[fp,GA,has,sub]:=GA.CK;have S:eM ts ss qs:=Yn Qq u_ sp esn dp;let Qi:=S.len
 have lfp:l∉fp:=λm=>by
  let#[xs,e]:=DA.st.some;rcases frg l (sub l m) with z|z
  ·have:=frw l z;rw[e] at this;cases this
  rw[sD _ _ e] at z;cases z
 let CU:=sD.trans sE;let DE:=DA.same CU;have JD:md HE T qL:=JE.same CU;let HG:=CU _ _ eA;let A4:=xT P3 CU;have P8:qs.map (·.1)=ss.map (·.1):=S.yY;apply#[_,U,_,U,_,U,lz,U,#[_,.of HG],λD hD=>?_];apply kD (own:=1) (fv:=[some (.ref d)]) (xs:=zs) U fX (λi out H'=>aa HE H'/\H' D\.lst out/\out=((ss.take i).map λp=>f p.1).map V.str) #[aa.new hD,ay,U] (λi out H' _ ⟨sm,_,_⟩=>.of (sm _ _ HG)) (λout HB ⟨sB,GY,eo⟩=>?_) (λj y out H' hy ⟨sm,dM,eo⟩=>?_);rotate_left 1
 ·have hj:j<zs.length:=(bZ.mp hy).1
  obtain⟨q,hq,t,v,rfl,ht,_⟩:∃q,ss[j]? = some q/\i7 K HE y q:=by
   have:=eO A4 j hj Z1;rw[aX hj] at hy;cases hy;exact#[ss[j]' Z1,aX Z1,this]
  have qm:q.1∈ps.map (·.1):=br.mpr #[q,sp.mem_iff.mp (cy hq),U]
  have dg:dP H' d (.str q.1) (some (.str (f q.1))):=by
   have:=dP.k (k:=.inr q.1) (sm _ _ DE.hd);rw[wg (g:=λn=>V.str (f n)) qm] at this;exact this
  apply#[_,U,U,λNx hN=>fU ?_];apply#[_,U,_,U,t,_,0,_,U,U,.of (sm _ _ ht),L2.d0 (j:=0) U,d,_,U,dg,out,dM,?_,hN _ _ #[fQ sm hD,ay,?_]]
  ·rw[eo,ao,ao,dR];omega
  rw[x6 _ hq,fe,eo];rfl
 rw[Xw,eG] at eo;subst eo;obtain⟨s0,sQ⟩:∃s0:ak,s0=ss.map λp=>f p.1:=#[_,U];rw[<- sQ] at GY;apply#[D,_,U,.inl #[.of GY,λt0 W9=>?_]];let#[sC,eC]:=aH (o:=.tup (sV s0)) W9;let CQ:=sB.trans sC;generalize upd HB t0 (.tup (sV s0))=HC at sC eC CQ ⊢;let DC:=DE.same CQ
 have Jo:Vs hs qs s0:=by
  apply#[by rw[sQ,ao,Qi],λh hh=>?_];rw[sQ] at hh;let#[q,hq,rfl]:=br.mp hh;exact (fD hs).mem_iff.mpr (fm _ (br.mpr #[q,sp.mem_iff.mp hq,U]))
 have Xg:(aN hs).length<=3:=by rw[W.gT];omega
 have P7:(aN hs).length ^ qs.length<=300:=by
  have a1:(aN hs).length ^ qs.length<=3 ^ qs.length:=Nat.pow_le_pow_left Xg _;have a2:(3:Nat) ^ qs.length<=3 ^ 4:=Nat.pow_le_pow_right (by decide) Z1;omega
 let#[#[U2,_S,VQ],_]:=And.intro DC.ht DC.hp;let eAC:=CQ _ _ HG;apply#[lz,lt,t0,300,zs,U2,hs,ts,ss,qs,s0,U,eAC,xT A4 CQ,_S,VQ,W,S,by omega,eC,Jo,P7,by decide,λlL yL LL HF sF Xf eL Qe frL ok EY=>?_];let DF:=DC.same sF
 have XT:lL≠l:=by
  let#[xs,e]:=DC.st.some;exact (bq e Xf).symm
 have xM:∀b,V.ref b∈yL->b≠l:=λb hb=>by
  let#[xs,e]:=DC.st.some;exact (bq e (frL b hb)).symm
 let XM:=Mo ok.ne;let DD:=bj Qe;apply#[_,U,d,_,U,.inl DF.hd,λdh Kq=>?_];let#[sJ,eJ]:=aH (o:=.dK (ft (ps.map (·.1)) f)) Kq;generalize upd HF dh (.dK (ft (ps.map (·.1)) f))=HJ at sJ eJ ⊢;let Py:=CQ.trans sF
 have MR:dh∉fp:=λm=>by
  let#[o,e]:=has dh m;rw[Py _ _ e] at Kq;cases Kq
 let A1:=Py.trans sJ;let DJ:=DE.same A1;let Xz:=Qe.same sJ;let Tf:=sJ _ _ eL
 have W_:1<=yL.length:=by
  let#[n,hn,_]:=ok.last;omega
 apply#[_,U,_,U,lL,_,U,.inl (.of Tf),l,yL.length,U,by omega,by omega,DJ.st,λr HI q0 q1 bI stI=>?_]
 have tl:∀{c xs},HJ c\.tup xs->HI c\.tup xs:=λe=>by
  let#[xs,e2]:=DJ.st.some;exact bI _ _ e (bK e e2 nofun)
 let DI:=DJ.but bI stI;let#[c,rfl]:=AO q0;apply#[zl,λlc Xe=>?_];let#[sK,eK]:=aH (o:=.lst [.int 0,.int 1,.int 2,.int 3000,.int (c:Nat),.int 1]) Xe;generalize upd HI lc (.lst [.int 0,.int 1,.int 2,.int 3000,.int (c:Nat),.int 1])=HK at sK eK ⊢;let DK:=DI.same sK;have WR:(ps.map (·.1)).Perm (qs.map (·.1)):=by rw[P8];exact (sp.map (·.1)).symm
 have Mp:s0=(qs.map (·.1)).map f:=by rw[sQ,P8,cY];rfl
 have Xx:HI lz\.lst zs:=bI _ _ (A1 _ _ HG) Gw;have WS:jM K HI zs ss:=Paired.aU (xT A4 A1) λy p q=>q.but bI DJ.st;have GgI:Gs K CG CW HI g0 pw hs ts qs fp:=#[(GA.same A1).but bI DJ.st lfp,W,by rw[S.yY];exact nM,by omega,S.wp]
 have dhI:HI dh\.dK (ft (ps.map (·.1)) f):=by
  let#[xs,e2]:=DJ.st.some;exact bI _ _ eJ (bK eJ e2 nofun)
 have Zn:Dn K CG CW HI lh lt lz d g0 pw lL dh hs ts ss qs fp (ps.map (·.1)) f s0 yL LL:=#[DI.hh,DI.ht,#[zs,Xx,WS],W,S,by omega,GgI,DI.hd,#[dhI,MR,#[WR,fm],Mp],bI _ _ Tf XT,Xz.keep (λa m xs e=>bI _ _ e (xM a m)) (λc xs e=>tl e),ok,EY,P7];apply later _ HK (.ref ls) (.int n) (.ref l) (.ref lp) .non _ _ _ _ _ lh lt lz d g0 pw lL dh lc hs ts ss qs fp (ps.map (·.1)) f s0 yL LL c (Zn.same sK) Z1 eK (λCf tZ tY tX tW HL sL=>?_);have nt:NT H2 HL:=λb o e no=>(sK.trans sL) _ _ (bI _ _ (A1 _ _ (CU _ _ (W7 _ _ e no))) (bq e nl));let#[xsJ,hlJ]:=DJ.st.some;exact#[_,_,_,_,_,_,_,_,_,_,_,_,_,_,_,_,U,W8.trans nt,(md.Ov (JD.same A1) bI hlJ).same (sK.trans sL)]
structure Fd (K:ai) (mg:Str->Option Aa) (x:Str) (st:Stmt):Prop where
 ex:∃f fd,bC K x x st f fd/\mg x\.ref f/\PySem.W.keepIn K (.ref f)=true
variable{h:Heap}{x:Str}{st:Stmt}{f:Addr}{aQ ct doc oc pm:Aa}{an od:Option Addr}{j9:Array (Option Aa)}
theorem EZ(X:K.In h)(G:h.Ns mainGlobals mg){kV:Aa}(a:PySem.W.nsIn K mainGlobals x\some (.ref f))(l:K.lookup f=some #[oc,od,.func (PySem.W.fnOf x x (jJ st) (iw st) (a9 st) .none kV doc pm an aQ ct),j9])(c:PySem.W.codeIn K aQ x=true)(k:PySem.W.keepIn K (.ref f)=true):Fd K mg x st:=#[_,_,QX l c k,PySem.W.mg_of X G a,k]
structure Md (K:ai) (C:Addr) (m qual:Str) (st:Stmt):Prop where
 ex:∃f fd,bC K m qual st f fd/\Meth K C m f
variable{C:Addr}{m qual:Str}
theorem Do{kV:Aa}(a:PySem.W.findIn K (.ref C) m\some (.ref f))(i:PySem.W.isFn K (.ref f)=true)(l:K.lookup f=some #[oc,od,.func (PySem.W.fnOf m qual (jJ st) (iw st) (a9 st) .none kV doc pm an aQ ct),j9])(c:PySem.W.codeIn K aQ qual=true)(k:PySem.W.keepIn K (.ref f)=true):Md K C m qual st:=#[_,_,QX l c k,a,i,k]
variable{k:Nat}{ps:af}{sp:Sp}
theorem cal(d:Fd K mg x st)(ok:∀f fd,bC K x x st f fd->!au bh k f fd ps sp)(h:∀(kV doc pm:Aa) (an:Option Addr) (aQ ct:Aa) (us:aj),us.length=ps.length->bindArgs (PySem.W.fnOf x x (jJ st) (iw st) (a9 st) .none kV doc pm an aQ ct) #[us,[]]=pure (ps.zip us)):!bx k x ps sp:=by
 let#[f,fd,F,m,kp]:=d.ex;exact#[f,fd,ok f fd F,m,kp,F.binds h]
theorem NK(d:Md K C m qual st)(ok:∀f fd,bC K m qual st f fd->!au bh k f fd ps sp)(h:∀(kV doc pm:Aa) (an:Option Addr) (aQ ct:Aa) (us:aj),us.length=ps.length->bindArgs (PySem.W.fnOf m qual (jJ st) (iw st) (a9 st) .none kV doc pm an aQ ct) #[us,[]]=pure (ps.zip us)):!bV C k m ps sp:=by
 let#[f,fd,F,m]:=d.ex;exact#[f,fd,ok f fd F,m,F.binds h]
theorem NL(d:Md K C "__init__" qual st)(hx:mg x\.ref C)(mk:PySem.W.makesIn K C=true)(kc:PySem.W.keepIn K (.ref C)=true)(ok:∀f fd,bC K "__init__" qual st f fd->!au bh k f fd ps sp)(h:∀(kV doc pm:Aa) (an:Option Addr) (aQ ct:Aa) (us:aj),us.length=ps.length->bindArgs (PySem.W.fnOf "__init__" qual (jJ st) (iw st) (a9 st) .none kV doc pm an aQ ct) #[us,[]]=pure (ps.zip us)):!jZ C k x ps sp:=by
 let#[f,fd,F,m]:=d.ex;exact#[f,fd,ok f fd F,#[mk,m.1,m.2,kc],hx,F.binds h]
structure Tg (P:Ad) (w:Ag) (b:Heap):Prop where
theorem dB(q:Tg P w base)(d:Fd K mg x st)(ok:∀f fd,bC K x x st f fd->!au bh k f fd ps sp)(h:∀(kV doc pm:Aa) (an:Option Addr) (aQ ct:Aa) (us:aj),us.length=ps.length->bindArgs (PySem.W.fnOf x x (jJ st) (iw st) (a9 st) .none kV doc pm an aQ ct) #[us,[]]=pure (ps.zip us):=by first|(exact λ_ _ _ _ _ _ us (hl:us.length=1)=>match us,hl with | [_],_=>rfl)|(exact λ_ _ _ _ _ _ us (hl:us.length=2)=>match us,hl with | [_,_],_=>rfl)|(exact λ_ _ _ _ _ _ us (hl:us.length=3)=>match us,hl with | [_,_,_],_=>rfl)|(exact λ_ _ _ _ _ _ us (hl:us.length=4)=>match us,hl with | [_,_,_,_],_=>rfl)|(exact λ_ _ _ _ _ _ us (hl:us.length=5)=>match us,hl with | [_,_,_,_,_],_=>rfl)|(exact λ_ _ _ _ _ _ us (hl:us.length=6)=>match us,hl with | [_,_,_,_,_,_],_=>rfl)):!bx k x ps sp:=cal d ok h
theorem o8(q:Tg P w base)(d:Md K C m qual st)(ok:∀f fd,bC K m qual st f fd->!au bh k f fd ps sp)(h:∀(kV doc pm:Aa) (an:Option Addr) (aQ ct:Aa) (us:aj),us.length=ps.length->bindArgs (PySem.W.fnOf m qual (jJ st) (iw st) (a9 st) .none kV doc pm an aQ ct) #[us,[]]=pure (ps.zip us):=by first|(exact λ_ _ _ _ _ _ us (hl:us.length=1)=>match us,hl with | [_],_=>rfl)|(exact λ_ _ _ _ _ _ us (hl:us.length=2)=>match us,hl with | [_,_],_=>rfl)|(exact λ_ _ _ _ _ _ us (hl:us.length=3)=>match us,hl with | [_,_,_],_=>rfl)|(exact λ_ _ _ _ _ _ us (hl:us.length=4)=>match us,hl with | [_,_,_,_],_=>rfl)|(exact λ_ _ _ _ _ _ us (hl:us.length=5)=>match us,hl with | [_,_,_,_,_],_=>rfl)|(exact λ_ _ _ _ _ _ us (hl:us.length=6)=>match us,hl with | [_,_,_,_,_,_],_=>rfl)):!bV C k m ps sp:=NK d ok h
theorem NN(q:Tg P w base)(d:Md K C "__init__" qual st)(hx:mg x\.ref C)(mk:PySem.W.makesIn K C=true)(kc:PySem.W.keepIn K (.ref C)=true)(ok:∀f fd,bC K "__init__" qual st f fd->!au bh k f fd ps sp)(h:∀(kV doc pm:Aa) (an:Option Addr) (aQ ct:Aa) (us:aj),us.length=ps.length->bindArgs (PySem.W.fnOf "__init__" qual (jJ st) (iw st) (a9 st) .none kV doc pm an aQ ct) #[us,[]]=pure (ps.zip us):=by first|(exact λ_ _ _ _ _ _ us (hl:us.length=1)=>match us,hl with | [_],_=>rfl)|(exact λ_ _ _ _ _ _ us (hl:us.length=2)=>match us,hl with | [_,_],_=>rfl)|(exact λ_ _ _ _ _ _ us (hl:us.length=3)=>match us,hl with | [_,_,_],_=>rfl)|(exact λ_ _ _ _ _ _ us (hl:us.length=4)=>match us,hl with | [_,_,_,_],_=>rfl)|(exact λ_ _ _ _ _ _ us (hl:us.length=5)=>match us,hl with | [_,_,_,_,_],_=>rfl)|(exact λ_ _ _ _ _ _ us (hl:us.length=6)=>match us,hl with | [_,_,_,_,_,_],_=>rfl)):!jZ C k x ps sp:=NL d hx mk kc ok h
variable{l:PySem.W.OpenLaw}
theorem all_mk{fa CR c:Addr}(X:K.In h)(G:h.Ns mainGlobals mg)(hfa:mg "law"\.ref fa)(f0:Fd K mg "is_whole" yP)(f1:Fd K mg "is_whole_from" Nm)(f2:Fd K mg "is_whole_within" lg)(f3:Fd K mg "is_name" qT)(f4:Fd K mg "lesser_first" Np)(f5:Fd K mg "is_pair_of_names" qR)(f6:Fd K mg "sorted_ties" Ng)(f7:Fd K mg Bm JZ)(f8:Fd K mg "least_multiple" JY)(f9:Fd K mg "fraction_of" rA)(f10:Fd K mg "is_fraction" q_)(f11:Fd K mg "is_less" qX)(f12:Fd K mg "is_hand_with_strength" rh)(f13:Fd K mg "checked_strengths" yO)(f14:Fd K mg "checked_ties" qM)(f15:Fd K mg "neighbours_of_all" qS)(f16:Fd K mg "checked_ways" lO)(f17:Fd K mg "checked_piece" M6)(f18:Fd K mg "checked_pieces" NU)(f19:Fd K mg "checked_stand" MZ)(f20:Fd K mg "loads_at" Om)(f21:Fd K mg Bt qW)(f22:Fd K mg "levels_at" Na)(f23:Fd K mg "rise_at" qO)(f24:Fd K mg "spread_at" N2)(f25:Fd K mg "check_limit" rC)(f26:Fd K mg "exits_of" lK)(f27:Fd K mg "placed_by" qQ)(f28:Fd K mg "is_even" Nc)(f29:Fd K mg "move_between" qU)(f30:Fd K mg "moves_along" qV)(f31:Fd K mg "fewest_moves" M8)(f32:Fd K mg "layers_within" qY)(f33:Fd K mg "reached_by" Ou)(f34:Fd K mg wb lM)(f35:Fd K mg "_law_name" lG)(f36:Fd K mg "_law_hands" Nr)(f37:Fd K mg "_law_ties" lF)(f38:Fd K mg "_law_pieces" Oo)(f39:Fd K mg "_law_stand" Nv)(f40:Fd K mg "_law_loads" M5)(f41:Fd K mg "_law_even" lH)(f42:Fd K mg "_law_moves" Nw)(f43:Fd K mg "_law_layers" M4)(f44:Fd K mg "_law_is_least" MT)(f45:Fd K mg "_law_none_below" lD)(m0:Md K CW "__init__" "Web.__init__" rg)(m1:Md K CW "has_hand" "Web.has_hand" u5)(m2:Md K CW "hands" "Web.hands" lI)(m3:Md K CW "strength" "Web.strength" Oa)(m4:Md K CW "neighbours" "Web.neighbours" lE)(m5:Md K CW "are_tied" "Web.are_tied" qN)(m6:Md K CG "__init__" "Goods.__init__" lJ)(m7:Md K CG "has_piece" "Goods.has_piece" rq)(m8:Md K CG "names" "Goods.names" Nd)(m9:Md K CG "weight" "Goods.weight" MV)(Xv:Md K CG "may_go" "Goods.may_go" rp)(Xu:Md K CR "__init__" "Reach.__init__" lC)(Xt:Md K CR "one_move_on" "Reach.one_move_on" lu)(Xs:Md K CR "widen" "Reach.widen" M_)(Xr:Md K CR "row_to" "Reach.row_to" qP){W2 Qx TJ PY Um:Aa}{W0 OM:Option Addr}{Wa:Array (Option Aa)}{t8 t9 V2 V1 V0:Tok}(al:W.nsIn K mainGlobals "law"\some (.ref fl))(ll:K.lookup fl=some #[W2,W0,.func (W.fnOf "law" "law" (jJ fj) (iw fj) (a9 fj) .none Qx TJ PY OM (.ref c) Um),Wa])(cl:W.codeIn K (.ref c) "law"=true)(kl:W.keepIn K (.ref fl)=true)(ch:W.codeHdIn K c T=true)(aW:W.nsIn K mainGlobals "Web"\some (.ref CW))(aG:W.nsIn K mainGlobals "Goods"\some (.ref CG))(aR:W.nsIn K mainGlobals "Reach"\some (.ref CR))(c8_:W.nsIn K mainGlobals "MOST_LETTERS"\some (.int 8 t8))(c9_:W.nsIn K mainGlobals "MOST_HANDS"\some (.int 8 t9))(Ot:W.nsIn K mainGlobals "MOST_STRENGTH"\some (.int 1000 V2))(Os:W.nsIn K mainGlobals "MOST_WEIGHT"\some (.int 1000000000 V1))(Oq:W.nsIn K mainGlobals "MOST_STANDS"\some (.int 3000 V0))(Vo:W.plainGet K CW Str.empty=true)(Vx:W.hasDictIn K CW=true)(Vn:W.plainOver K CW=true)(Vm:W.findIn K (.ref CW) "__setattr__"\some (.builtin "object.__setattr__"))(Vv:W.makesIn K CW=true)(Vw:W.keepIn K (.ref CW)=true)(Vu:W.findIn K (.ref CW) uv\none)(Vt:W.findIn K (.ref CW) "sorted_pairs"\none)(Vr:W.findIn K (.ref CW) Bq\none)(gpg:W.plainGet K CG Str.empty=true)(ghd:W.hasDictIn K CG=true)(gpo:W.plainOver K CG=true)(gsa:W.findIn K (.ref CG) "__setattr__"\some (.builtin "object.__setattr__"))(gmk:W.makesIn K CG=true)(gkc:W.keepIn K (.ref CG)=true)(gn0:W.findIn K (.ref CG) "web"\none)(gn1:W.findIn K (.ref CG) pR\none)(gn2:W.findIn K (.ref CG) Am\none)(Wq:W.plainGet K CR Str.empty=true)(Wx:W.hasDictIn K CR=true)(Wp:W.plainOver K CR=true)(Wn:W.findIn K (.ref CR) "__setattr__"\some (.builtin "object.__setattr__"))(Wu:W.makesIn K CR=true)(Ww:W.keepIn K (.ref CR)=true)(Wt:W.findIn K (.ref CR) jK\none)(Ws:W.findIn K (.ref CR) pT\none)(Wr:W.findIn K (.ref CR) "newest"\none)(ZZ:W.findIn K (.ref CW) "__class__"\some (.builtin "object.__class__"))(ZY:W.specialIn K (.builtin "object.__class__") "__get__"\some (.builtin "getset_descriptor.__get__"))(ZK:W.takesIn K (.builtin "object.__class__")\true)(ZS:W.mroIn K CW (.type "object")\true)(B6:W.nsIn K mainGlobals "sum"\none)(B8:W.nsIn K mainGlobals "abs"\none)(B7:W.nsIn K mainGlobals "min"\none)(B5:W.nsIn K mainGlobals "zip"\none)(z0:W.nsIn K mainGlobals "isinstance"\none)(z1:W.nsIn K mainGlobals "int"\none)(z2:W.nsIn K mainGlobals "bool"\none)(z3:W.nsIn K mainGlobals "str"\none)(z4:W.nsIn K mainGlobals "tuple"\none)(z5:W.nsIn K mainGlobals "list"\none)(z6:W.nsIn K mainGlobals "dict"\none)(z7:W.nsIn K mainGlobals "len"\none)(z8:W.nsIn K mainGlobals "all"\none)(z9:W.nsIn K mainGlobals "sorted"\none)(U9:W.nsIn K mainGlobals "max"\none)(U8:W.nsIn K mainGlobals "range"\none)(U7:W.nsIn K mainGlobals "any"\none)(U6:W.nsIn K mainGlobals "enumerate"\none) :
  ∃fd:Ae,(∀(s:Ab) (v:Aa),BindsTo s fd #[[v],[]] [(xO,v)])/\(∀T'∈[T],isCodeTable h T')/\∀base:Heap,K.In base->base.Ns mainGlobals mg->(∀T'∈[T],base.BuiltinsAt mg T')->au l.prog w K mg base bh 10 fa fd [xO] (m_ K T):=by
 let e:=hfa.symm.trans (W.mg_of X G al);cases e;have B:Bi mg:=#[jf X G z0,jf X G z1,jf X G z2,jf X G z3,jf X G z4,jf X G z5,jf X G z6,jf X G z7,jf X G z8,jf X G z9,jf X G U9,jf X G U8,jf X G U7,jf X G U6];have TW:Txt K mg CW:=#[#[Vo,Vx,Vn,Vm],Vu,Vt,Vr];have TG:gd K CG:=#[#[gpg,ghd,gpo,gsa],gn0,gn1,gn2];have TR:mK K CR:=#[#[Wq,Wx,Wp,Wn],Wt,Ws,Wr];have IW:FU K CW:=#[ZZ,ZY,ZK,ZS];let Dh:=jf X G B6;let Di:=jf X G B8;let xo:=jf X G B7;let xn:=jf X G B5;have FL:wG K "law" "law" fj _ c _:=#[#[_,_,_,_,_,_,_,_,U,ll,cl],kl];apply#[W.fnOf "law" "law" (jJ fj) (iw fj) (a9 fj) .none Qx TJ PY OM (.ref c) Um,λs v=>.of_eq U,λT' zP=>?_,λbase KB _ xH=>?_]
 ·obtain rfl:T'=T:=⇑zP
  let#[o,Jp,file,tf,flags,tg,inF,text,tt,h1,h2,h3,h4,_]:=W.codeHd_of_K X ch;exact#[c,o,Jp,h1,h2,h3,h4]
 have q:Tg l.prog w base:=⟨⟩;let Av:=dB q f0 λ_ _ F=>X5 F B;let sZ:=dB q f2 λ_ _ F=>hI_ F Av;let Ap:=dB q f1 λ_ _ F=>g0_ F Av;let tj:=dB q f3 λ_ _ F=>Y0 F B (W.mg_of X G c8_);let As:=dB q f4 λ_ _ F=>h5_ F;let Fm:=dB q f5 λ_ _ F=>Zo F B tj;let xV:=dB q f6 λ_ _ F=>gH_ F B Fm As;let Ft:=dB q f12 λ_ _ F=>YV F B tj sZ (W.mg_of X G Ot);let cStr:=dB q f13 λ_ _ F=>Yg F B Ft (W.mg_of X G c9_);let Fk:=dB q f14 λ_ _ F=>YZ F B xV;let Fn:=dB q f15 λ_ _ F=>Zh F As;let NQ:=NN q m0 (W.mg_of X G aW) Vv Vw λ_ _ F=>YH F TW B cStr Fk Fn;let y4:=o8 (mg:=mg) q m1 λ_ _ F=>X6 F TW B;let Dq:=o8 (mg:=mg) q m1 λ_ _ F=>Zs F TW B;let lS:=o8 (mg:=mg) q m2 λ_ _ F=>_w F TW B;let Dp:=o8 (mg:=mg) q m3 λ_ _ F=>ej_ F TW y4;let Ks:=o8 (mg:=mg) q m4 λ_ _ F=>ZH F TW B y4;let xp:=o8 (mg:=mg) q m5 λ_ _ F=>hU_ F TW Dq;let Ob:=dB q f16 λ_ _ F=>hD_ F TW xV xp;let cCP:=dB q f17 λ_ _ F=>fW_ F B tj sZ Ob (W.mg_of X G Os);let Oc:=dB q f18 λ_ _ F=>fK_ F B cCP;let Ax:=NN q m6 (W.mg_of X G aG) gmk gkc λ_ _ F=>hB_ F TG TW IW B (W.mg_of X G aW) Oc;let zV:=o8 (mg:=mg) q m7 λ_ _ F=>Y1 (CW:=CW) F TG B;let iW:=o8 (mg:=mg) q m8 λ_ _ F=>gu_ (CW:=CW) F TG B;let vN:=o8 (mg:=mg) q m9 λ_ _ F=>fx_ (CP:=CW) F TG zV;let L9:=o8 (mg:=mg) q Xv λ_ _ F=>ZF (CP:=CW) F TG TW zV xp As;let N5:=dB q f7 λ_ _ F=>Ym F;let cLM:=dB q f8 λ_ _ F=>Yq F N5;let IH:=dB q f9 λ_ _ F=>_o F N5;let cIF:=dB q f10 λ_ _ F=>YO F B Di Av Ap N5;let Fo:=dB q f11 λ_ _ F=>_i F;let UL:=dB q f19 λ_ _ F=>_W F B TG TW zV y4 iW;let cLA:=dB q f20 λ_ _ F=>fM_ F B TG TW lS vN;let NX:=dB q f21 λ_ _ F=>YY F TW cLM lS Dp;let cLv:=dB q f22 λ_ _ F=>ge_ F TG TW cLA NX Dp;let xW:=dB q f23 λ_ _ F=>_l F B xo cLv;let NV:=dB q f24 λ_ _ F=>ev_ F TG xW NX IH;let cCL:=dB q f25 λ_ _ F=>Y_ F cIF;let cEx:=dB q f26 λ_ _ F=>hN_ F TG TW iW lS Ks L9;let UC:=dB q f27 λ_ _ F=>Zi F B xn TG iW;let cIE:=dB q f28 λ_ _ F=>hj_ F Fo NV UC;let Uz:=NN q Xu (W.mg_of X G aR) Wu Ww λ_ _ F=>_K F TR B cEx;let Wz:=o8 (mg:=mg) q Xt λ_ _ F=>_c F TR B;let PP:=o8 (mg:=mg) q Xs λ_ _ F=>g3_ F TR B Wz;let J7:=o8 (mg:=mg) q Xr λ_ _ F=>Zu F TR;let cMB:=dB q f29 λ_ _ F=>_k F xn TG iW;let cMA:=dB q f30 λ_ _ F=>Zk F B cMB;let N6:=dB q f31 λ_ _ F=>gU_ F B TR cCL UL Ap Uz cIE cMA J7 PP;let pb:=dB q f34 λ_ _ F=>_t F B;let UG:=dB q f35 λ_ _ F=>_C F B pb;let cLH:=dB q f36 λ_ _ F=>gk_ F B pb UG;let cLT:=dB q f37 λ_ _ F=>ZL F B pb;let cLP:=dB q f38 λ_ _ F=>fD_ F B pb UG;let cLS:=dB q f39 λ_ _ F=>fX_ F B pb;let N1:=dB q f40 λ_ _ F=>gM_ F B;let cLE:=dB q f41 λ_ _ F=>hJ_ F N1;let N0:=dB q f42 λ_ _ F=>gV_ F B;let NZ:=dB q f43 λ_ _ F=>gf_ F B N0;let cLW:=dB q f32 λ_ _ F=>YS F B TR (W.mg_of X G Oq) Uz PP;let cRB:=dB q f33 λ_ _ F=>ft_ F B TG xo UL Ap cLW xW UC NX IH;let cIL:=dB q f44 λ_ _ F=>fA_ F N1 cLE;let cNB:=dB q f45 λ_ _ F=>hL_ F N1;exact YB FL B Dh (W.codeHd_of_K KB ch) (xH T Z2) #[pb,cLH,cLT,cLP,cLS,NQ,Ax,NZ] #[N6,cRB,cIL,cNB]
theorem walk{q:Ad}{loose:af}{XP:(Str->Option Aa)->Heap->Prop}{d:DefRec}{K:Params->ai}{as:aq}{Hn:∀P:Params,as=(K P).map (·.1)}(hn:l.most\63)(EA:d.params.defaults=[])(KZ:([T].all λT=>!as.contains T)=true)(F:∀(w:Ag) (mg:Str->Option Aa) (fa:Addr) (h:Heap),(K w.params).In h->h.Ns mainGlobals mg->mg d.name\.ref fa->
   ∃fd:Ae,(∀(s:Ab) (u:Aa),BindsTo s fd #[[u],[]] [(xO,u)])/\(∀T'∈[T],isCodeTable h T')/\∀base:Heap,(K w.params).In base->base.Ns mainGlobals mg->(∀T'∈[T],base.BuiltinsAt mg T')->au l.prog w (K w.params) mg base bh 10 fa fd [xO] (m_ (K w.params) T)) :
  PySem.W.WalkO q loose XP (PySem.W.kmHook K as Hn [T]).says l.row.toRowW d [] (λf vs=>PySem.call f vs):=
 L2.qe (n:=63) (k:=10) (x:=xO) (CX:=λ_=>bh) (sp:=λw=>m_ (K w.params) T) hn (by decide) EA #[U,by decide,by decide] KZ F (λ_ _ a ns hl hT hS=>#[a,ns,U,hT T Z2,hS,hl,λ_=>rfl]) λ_ _ _ _ _ z=>z
end Ev
namespace PySem.W.Fast
universe tw11173100859882641120 tw18069647745293458336 tw835013832172591008 tw3760613333805120448 tw11626629861637267873 tw18097184287701845953 tw3914689087584201922 tw3451048929549144610 tw18243402039072406883 tw14211652187054478915 tw18104161516935862436 tw3254941429634176676 tw11997443017807596453 tw928322130480777 tw7706745069510195114 tw13306515846356620427 tw8878843474666377548 tw8058081455892198925 tw12179936314106502190 tw14117954640636297423 tw14826058482358759151 tw10037674946428375024 tw12718575700168946898 tw13615731564856154835 tw13693695635507364723 tw16243914493779451924 tw15129057655093992500 tw8431599843634544820 tw12717358683452650708 tw17147932363338656148 tw13599415418982366869 tw9102435749521876693 tw4462787266128120279 tw10628145635028144759 tw10212364588337865880 tw3716453022509379160 tw17935485833537383449 tw5748618346311228121 tw18384381361782348031 tw18441803134566362826 tw15196342622074733085 tw9548162829710802955 tw16141794340283074299 tw11173542511221989495 tw13788254489059702167 tw16206164610440546634 tw6811287296755383612 tw2320462789953109391 tw11774896896574844200 tw10861743938579400187 tw16479971320118845743 tw11932204378433299583 tw13060162439336474637 tw17620496939885634058 tw9298336764490959064 tw4832176839904452896 tw15568719506270367869 tw4751519388988902296 tw11541883832413690891 tw161613712286698184 tw18119514086093454828 tw17658138125159813627 tw17055470165212315209 tw10797433620167149379 tw2776693282948551774 tw11483347532728069962 tw8501799221683900404 tw7726414257379381915 tw12936550950693500650 tw3569163276974869649 tw13266291487254302465 tw4839738363246420427 tw8673884170115050606 tw11242413182631037186 tw2535049931018874541 tw6964002185976171238 tw7384333091368071256 tw9608008220686468519 tw13231399403778980131 tw12224500383558378813 tw12999580073477797634 tw3630384925349440957 tw10340663169505941059 tw5608417082684199407 tw17859882244473436935 tw14889812560785908877 tw2017811551045019293 tw9182957561197660384 tw10035430458251401984 tw16317072442445324136 tw7793271529033854645 tw3567451354500680238 tw5076114208868643183 tw2322483705934915905 tw6173564804620772196 tw4960601689140760586 tw17156763564013820783 tw11661213580272749497 tw10558906169764587334 tw6961565844584598688 tw836111320458034579 tw2856606313805587484 tw1003107067032965755 tw15414211001384234220 tw5625032919411497618 tw16832259723121377545 tw4257242722724264830 tw9968639183707233709 tw1766735681079174508 tw10737117677519992828 tw17660719526736483833 tw5279905173894068278 tw15482859830572224155 tw4346423313040133611 tw17561005830042064246 tw633190552629479159 tw4338622995131489608 tw7212961649773557238 tw2159699824297986213 tw7170561340184105958 tw2090198126366284400 tw7867513994535980144 tw9530640066435478140 tw9376791141385662671 tw2066728115715769177 tw1840413262856857175 tw5502779548647203841 tw9415651845181692087 tw979675542187848756 tw10249001378456785272 tw3357166066527629901 tw7368208024556243832 tw14517593547768446874 tw10122367121346002573 tw13276057847444284746 tw12605061834872563967 tw1766677983569937635 tw17603117482040966747 tw1828945271737348613 tw12659592494082118384 tw14733300011716378026 tw4006103426619921692 tw18100295062069141070 tw4542620897841022791 tw14264442942977745429 tw11816149399133600107 tw18101278187314589116 tw5542219547243894613 tw16439443317435060463 tw7634250424222886587 tw13334692925208864032 tw1996434299546619223 tw12226512280488753630 tw10741985368972480316 tw8301506628277203212 tw4196736542311113442 tw913094171178401805 tw10013500728389459028 tw17046259498880791600 tw10664731072474711377 tw12314084181701386123 tw16224171756091671798 tw7421780501319040768 tw14398678487362937434 tw8600946351739359207 tw2827382003121915186 tw4266409277405881245 tw2594814329211223926 tw4647231358034845726 tw9940691560527420186 tw17916715697797165822 tw5704644414791400944 tw12094916551436040648 tw11651835689855478791 tw9893357637805279231 tw13665133867714132670 tw1607686659333571753 tw14756506127333434468 tw502889633018662721 tw1113404752873462436 tw1261830495767837844 tw13727775138067942829 tw9066799951399989544 tw1187883261134939478 tw6404240011753389682 tw14556141725339488143 tw15103672240056914138 tw3241362041313905358 tw7899330427434637295 tw65815148449720925 tw17842584953048185064 tw3976057606965459233 tw11231408600193646505 tw5328396239991279092 tw11127524704944959756 tw72360158035632314 tw1519761163371403668 tw13803733807555688721 tw2013066222098123039 tw14958525173395250594 tw11889173202056359475 tw8364477607505743729 tw13156750751895730596 tw852827190683140893 tw8074754999776576401 tw16125821261836265280 tw14968159532187426351 tw6343510839512699837 tw5186639966591228450 tw7486691988806571357 tw3762466015687572956 tw12273394981263572365 tw6183195971488686265 tw9165055603528398427 tw3273097983614910570 tw1782843257219040346 tw5504439319385146460 tw13937102328537076822 tw4444509968404506924 tw8453912443136358938 tw5086929990289824876 tw10312346265276481799 tw15538982866458428799 tw9086539462599807386 tw7401714052646906330 tw64285270886484572 tw8193732673008680119 tw10836922571397033603 tw5834348105118414778 tw5846222234490501813 tw8209382324787379082 tw17287488305971078580 tw6424764596604766791 tw14322761262527213763 tw18364891097278645334 tw6528207114364324215 tw7608489841864087447 tw17285410628297123621 tw2245182729858544008 tw2504298938538092100 tw4355485759663033529 tw11957713221271440012 tw12276026428276616590 tw220432642512845601 tw3406031439223628826 tw18371997500650562405 tw14514060823612950151 tw5478878294902490257 tw16819803744214072988 tw6254066357004861042 tw15689946906330015609 tw2882451411359498169 tw3498679995806763491 tw16808206299018246452 tw12189834023560155197 tw17003350347224702778 tw17210931605183871099 tw251199329011505278 tw8244082278237143773 tw3309522185508040719 tw16399371372885139670 tw9094517740447379053 tw9642151490685566267 tw5235642886878837844 tw5831762103688594690 tw15612232337375504037 tw7584310428597692345 tw6906192296868044817 tw4599174566242146175 tw5159868363070860198 tw6851168823360094892 tw13665374116499146736 tw9082223872722715335 tw5500638875547609601 tw9674477455650586789 tw17713503929055693841 tw7256458065222506281 tw14899479291320462565 tw6363978332461602362 tw13602426145546611663 tw15647075323793667696 tw10255637600028322016 tw17334713286184819091 tw11146766878373711937 tw705963099526079107 tw10816306486774463394 tw3029820104860935932 tw3055016784867043055 tw14807495849264335561 tw17954358461878108739 tw10929440023314821302 tw6494476633229000084 tw4809569845906458096 tw4086615262314691138 tw18213358407078506052 tw8095855628729511877 tw18186403090235336776 tw12910427858687939549 tw3204932996795783153 tw2801501001307903680 tw6446080041149924101 tw15713000124696335611 tw6615015281639599875 tw5557273574327912248 tw17401835304345024948 tw3914780056576582722 tw7542003522640126305 tw707216412994999537 tw2951551901221745385 tw4078233543725805682 tw4137653129531453315 tw17536966334893505268 tw11224834649689318291 tw18060907031859571910 tw5696601565137550274 tw2458411540913865993 tw2383717882765357213 tw13643901636656558844 tw17372694486974205912 tw12044130885889460842 tw329225654766952603 tw14602631654668272883 tw16251910212096858436 tw18385304222309736522 tw10854707690786461964 tw12783815219087121843 tw4286497507150069967 tw6867832011041114532 tw212252429414603105 tw4409205137245064395 tw5167469656374895045 tw8245101533466148790 tw1638026017335289409 tw321059151728810545 tw9685147473265714433 tw10444953116162726870 tw1854614558293921679 tw6295914709759155912 tw5281662617009401152 tw9018741372678361016 tw18118821975899505196 tw5424434151871514727 tw17013809260684004358 tw16196619157153435935 tw13580299818431426153 tw226285456074760126 tw5200623928766547597 tw11424877944327100461 tw3126491035713382223 tw17329515160472357461 tw16134171864108531092 tw704419082697769617 tw11329120279203490313 tw14299807597643218037 tw9776263292374844757 tw4363962159649463884 tw6290587607086955261 tw6208662018704670489 tw15056880476625172914 tw12331516161784208421 tw8232241414941308253 tw8108265225189630354 tw12792312221382927230 tw13517487238617202147 tw6553160791719771753 tw7944607531504758972 tw15506919063997283084 tw1304042728869429107 tw15358363055676061462 tw8688964106545742509 tw4900074474506593621 tw10031797598752554732 tw8664504074957648206 tw16288121955663805013 tw14057136347683387607 tw14770032355499663611 tw13540561084738509069 tw6033931250624307631 tw13500268572615620704 tw13152984954122531270 tw1984473948991727679 tw11484489273301698900 tw12602835432401678688 tw3083474183933442784 tw15648665976354796800 tw9370517057449338745 tw11100723521400142988 tw947763063276933629 tw18063731103944189753 tw9830464879149827410 tw550906566043979012 tw1887633240870995753 tw16658668329214577429 tw3888840833360035552 tw8541018404559951811 tw13540488280538822832 tw5488392128160067401 tw4666077639089536988 tw920100187792077927 tw10471568668590264405 tw3164310600036661387 tw18274240814082022148 tw14596342196102816401 tw10511073560846181876 tw17768228616806220470 tw6263628157488059651 tw14357551344897406111 tw18421763814326841467 tw17841989158238618786 tw1567569456088356166 tw6599923349662105256 tw12200260392817597963 tw1849903507521754093 tw13207946026607039321 tw17947915319973550106 tw14653319227238374813 tw8673108389609873044 tw3371586448117356404 tw1377907659806545103 tw9389222025199834839 tw15965415136125307032 tw14846972832922253546 tw1265664577623926277 tw2320595306846507578 tw1239235154409346932 tw1413346251589392319 tw16140878823001838716 tw15782581219479135596 tw13333585212533401332 tw1783758706764918993 tw6290487182716066943 tw4621608615243414457 tw10146675426490772587 tw1700773151348365837 tw157009519206717201 tw1541105757180806214 tw18146645639055521562 tw4777847308469889059 tw15632820368462682905 tw5950557638810213727 tw6509464566749218346 tw17983852409487627789 tw15489707868091488980 tw11353279566089655080 tw6002187965255755671 tw15419319466723550527 tw2996190764569550768 tw9957074891796041161 tw2824783110053900811 tw14364386937046949526 tw4518588763719299791 tw17819078716468657413 tw16766707802950423106 tw7664968155572643157 tw16710962646493926125 tw12888787933455742983 tw14680368432293890771 tw16196559216824660767 tw17643220379943581433 tw6205765869205327948 tw14084734077915827921 tw20524634187119094 tw9985304494659926037 tw12873083958673756610 tw12180703702355291590 tw1808834532811509170 tw13564443176922165832 tw1956121711257685475 tw1879184135972536604 tw4557301404703998687 tw10009616738225347882 tw16182739110344285595 tw6930677299501170183 tw313153347802798751 tw17239381874160900532 tw2061279092451997673 tw12333048161661591456 tw18435985025308886490 tw15497444012622387765 tw2109243700848273422 tw4356729808505691661 tw11261553455306385247 tw10694850880947673646 tw2062302020776785365 tw9963153966320664468 tw16187043175306750468 tw5977536161051808312 tw1827017132167237290 tw12091178324412588747 tw10802325326062469867 tw17488737268717949530 tw17583567362923590868 tw13591853573655294426 tw2422000629671357153 tw11029192748254767660 tw17555804266496690998 tw4866434532854777236 tw4066251531921298997 tw2754970715469518930 tw6301561487627717175 tw5255527130368316187 tw7932557238796804106 tw5046164190743028491 tw18302480463625479827 tw9772827175674429780 tw4293970610606549481 tw18148842717689414139 tw18347701163987379930 tw2190583895314684473 tw11506218794768951595 tw37404371154880776 tw6489741353999353816 tw223922550529961602 tw16807375262551762990 tw6671205544745256563 tw8970820893837751926 tw13791933658311364118 tw16479291834526517346 tw1680421607799321424 tw16191142686488406495 tw2227897193942957510 tw16139360432480827584 tw14298130696514035298 tw3060498243228755555 tw744969814346884688 tw15443045669272964465 tw16553786457298165350 tw16450908655706313892 tw17404984898304311007 tw13746460484657346522 tw4300102746924527822 tw4716719869935878659 tw18297611457081171010 tw6924845510273245632 tw5372338367520792835 tw7807502651917877594 tw1520967578061086875 tw14147008742503685052 tw3868973703594635401 tw12739916094069179686 tw1037386180648204179 tw4172839425633706058 tw17675974989457169060 tw12926440812917360270 tw11047464606960681971 tw7591409417634408215 tw836809888954221536 tw6817497037833967913 tw7779528003917209865 tw16360324204202059785 tw5329979576355737633 tw952388228117106974 tw9683359538151086405 tw9167130915462700951 tw11648777830389754134 tw5979961948062851563 tw15757825020432621401 tw3406127652941765868 tw6556431955410000722 tw896049511155792823 tw7597589829135089206 tw9020573825194089609 tw2147423218170233522 tw7224055078696606597 tw15916830856429219274 tw7263627688010511092 tw14142121884216824133 tw13907768574901192212 tw6671699529414378997 tw18118342283229690556 tw16334895995959246176 tw7826261605979594056 tw16025499638035825685 tw4397361272195253685 tw14113494409814862294 tw7225083352435295109 tw18026595096875559066 tw6379584075760383799 tw14648171005920196441 tw4652551970222287857 tw11123317772888361048
end PySem.W.Fast
open PySem PySem.W PyProof.Rows
set_option maxRecDepth 100000 in
local macro_rules|`(%[|$k:num])=>let i:=Lean.mkIdent;if k.getNat==1 then`(Ev.EZ $(i `KX) $(i `G) ?_ ?_ ?_ ?_)else`(Ev.Do ?_ ?_ ?_ ?_ ?_)
theorem PySem.Challenge.cw_evenpieces_k69_stands_reached_holds : PySem.Challenge.rw_evenpieces_k69_stands_reached.Holds := by
 w_on;o_law;k_head;(case hw=>w_witness2)
 k_fill
 apply Ev.walk (l:=PySem.Challenge.rw_evenpieces_k69_stands_reached) rfl rfl (by rfl) ?F
 case F=>
  intro w mg fa h KX G hmg;refine' Ev.all_mk KX G hmg %[|1] %[|1] %[|1] %[|1] %[|1] %[|1] %[|1] %[|1] %[|1] %[|1] %[|1] %[|1] %[|1] %[|1] %[|1] %[|1] %[|1] %[|1] %[|1] %[|1] %[|1] %[|1] %[|1] %[|1] %[|1] %[|1] %[|1] %[|1] %[|1] %[|1] %[|1] %[|1] %[|1] %[|1] %[|1] %[|1] %[|1] %[|1] %[|1] %[|1] %[|1] %[|1] %[|1] %[|1] %[|1] %[|1] %[|2] %[|2] %[|2] %[|2] %[|2] %[|2] %[|2] %[|2] %[|2] %[|2] %[|2] %[|2] %[|2] %[|2] %[|2] ?_ ?_ ?_ ?_ ?ch ?aW ?aG ?aR ?_ ?_ ?_ ?_ ?_ ?_ ?_ ?_ ?_ ?_ ?_ ?_ ?_ ?_ ?_ ?_ ?_ ?_ ?_ ?_ ?_ ?_ ?_ ?_ ?_ ?_ ?_ ?_ ?_ ?_ ?_ ?_ ?_ ?_ ?_ ?_ ?_ ?_ ?_ ?_ ?_ ?_ ?_ ?_ ?_ ?_ ?_ ?_ ?_ ?_ ?_ ?_ ?_ ?_
  (case aW=>k_is);(case aG=>k_is);(case aR=>k_is)
  any_goals k_is
  (case ch=>kernel_rfl)

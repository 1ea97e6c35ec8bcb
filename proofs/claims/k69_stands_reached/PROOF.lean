import PyProof.Rows.All
import Wide.All
import OpenK.AllK
import Wide.FinOn
import Lean
import PyProof.EqAt
import PyProof.EqKinds
import PyProof.TupleCall
import PyProof.TupleOfSeq
import PyProof.NeKinds
import PyProof.WalkInts
import KE.KLam
import KE.KSortTup
import PySem.Challenge.RW_evenpieces_k69_stands_reached
set_option maxHeartbeats 0
set_option Elab.async false
set_option linter.all false
noncomputable section
local macro_rules|`(def $x:declId $s:optDeclSig $v:declVal)=>`(noncomputable def $x:declId $s:optDeclSig $v:declVal)
local macro_rules|`(abbrev $x:declId $s:optDeclSig $v:declVal)=>`(noncomputable abbrev $x:declId $s:optDeclSig $v:declVal)
local macro_rules|`(universe $x*)=>return Lean.mkNullNode (←x.mapM λa=>do return(←`(theorem $a:ident:True:=⟨⟩)).raw)
abbrev Xa:=List (PySem.Str × Int)
abbrev Xb:=List (PySem.Str × PySem.Str)
set_option compiler.extract_closed false
set_option maxRecDepth 100000
theorem af:type_of% @PySem.wpAny_bind:=@PySem.wpAny_bind
theorem aS:type_of% @PySem.Heap.get?_push_of_some:=@PySem.Heap.get?_push_of_some
abbrev Aa:=PySem.Value
abbrev Ab:=PySem.Shared
theorem aC:type_of% @PySem.wpAny_pure:=@PySem.wpAny_pure
theorem cy:type_of% @PySem.Heap.get?_push_size:=@PySem.Heap.get?_push_size
theorem bj:type_of% @PySem.Paired.length:=@PySem.Paired.length
theorem bp:type_of% @PySem.Heap.lt_size:=@PySem.Heap.lt_size
theorem cu:type_of% @Option.some.inj:=@Option.some.inj
abbrev Ad:=PySem.Program
theorem cJ:type_of% @decide_eq_true:=@decide_eq_true
theorem dH:type_of% @PySem.PassesOwn.never:=@PySem.PassesOwn.never
theorem aB:type_of% @if_neg:=@if_neg
abbrev Ae:=PySem.FuncData
theorem cU:type_of% @PySem.sizeLine_eq:=@PySem.sizeLine_eq
theorem aJ:type_of% @if_pos:=@if_pos
theorem fD:type_of% @decide_eq_false:=@decide_eq_false
abbrev Af:=PySem.World
theorem mq:type_of% @PySem.F.plainAttrs_list:=@PySem.F.plainAttrs_list
abbrev Ag:=PySem.Around
theorem bG:type_of% @Ne.symm:=@Ne.symm
theorem gH:type_of% @PySem.boot_len:=@PySem.boot_len
theorem jk:type_of% @PySem.W.mg_none_of:=@PySem.W.mg_none_of
theorem fM:type_of% @PySem.wpAny_field:=@PySem.wpAny_field
theorem p_:type_of% @PySem.Heap.get?_update_other:=@PySem.Heap.get?_update_other
theorem uL:type_of% @PySem.F.type_list_append:=@PySem.F.type_list_append
theorem uK:type_of% @PySem.F.slot_list_append:=@PySem.F.slot_list_append
theorem iK:type_of% @PySem.wpAny_holding:=@PySem.wpAny_holding
theorem uC:type_of% @PySem.wpAny_callSpecial?_slot:=@PySem.wpAny_callSpecial?_slot
theorem pA:type_of% @PySem.wpAny_loadPart':=@PySem.wpAny_loadPart'
theorem p9:type_of% @PySem.mem_of_lookup:=@PySem.mem_of_lookup
theorem jL:type_of% @PySem.wpAny_seqItems:=@PySem.wpAny_seqItems
theorem eG:type_of% @congrArg:=@congrArg
theorem ph:type_of% @of_decide_eq_true:=@of_decide_eq_true
theorem p7:type_of% @PySem.wpAny_setField_rec:=@PySem.wpAny_setField_rec
theorem p0:type_of% @PySem.wpAny_newObj_type:=@PySem.wpAny_newObj_type
theorem iy:type_of% @Sum.inr.inj:=@Sum.inr.inj
theorem mj:type_of% @PySem.Heap.size_push:=@PySem.Heap.size_push
theorem BK:type_of% @PyProof.Rows.callWith_type1:=@PyProof.Rows.callWith_type1
theorem s_:type_of% @PySem.wpAny_call_entry:=@PySem.wpAny_call_entry
theorem uA:type_of% @PySem.wpAny_truthy_bool:=@PySem.wpAny_truthy_bool
theorem xX:type_of% @PySem.Around.under_plainId:=@PySem.Around.under_plainId
theorem tj:type_of% @PySem.W.kia_one:=@PySem.W.kia_one
theorem Z0{p:Prop}[Decidable p](h:decide p=true:=by decide +kernel):p:=of_decide_eq_true h
theorem Z1{p:Prop}(h:p:=by omega):p:=h
theorem Z2{p:Prop}(h:p:=by simp):p:=h
local macro_rules|`(tactic|let $x:ident:=$e)=>`(tactic|have $x:ident:=$e)
local macro_rules|`($a\$b)=>`($a=some $b)
local macro_rules|`(⇑$h)=>`(by simpa using $h)
local macro_rules|`(tactic|exists $e)=>let i:=Lean.mkIdent;`(tactic|refine $e λ$(i `aM) $(i `A) $(i `outer) $(i `s) $(i `H) $(i `vs) $(i `Q) $(i `E) $(i `hr) $(i `h)=>?_)
local macro_rules|`(section v)=>let i:=Lean.mkIdent;return Lean.mkNullNode #[←`(section),←`(variable{$(i `P):ident:$(i `Ad)}{$(i `w):ident:$(i `Af)}{$(i `K):ident:$(i `aj)}{$(i `mg):ident:$(i `Str)->$(i `Option) $(i `Aa)}{$(i `base):ident:$(i `Heap)})]
local macro_rules|`(tactic|apply $e)=>`(tactic|refine $e)
local macro_rules|`(#[$x,$xs,*])=>`(⟨$x,$xs,*⟩)
local macro_rules|`(tactic|let $p:term:=$e)=>let g:=λ(x:Lean.Syntax)=>(if x.isIdent then`(rcasesPat|$(⟨x⟩):ident) else if x.isOfKind ``Lean.Parser.Term.hole then`(rcasesPat|_) else pure ⟨x⟩:Lean.MacroM (Lean.TSyntax `rcasesPat));p.raw.rewriteBottomUpM (λn=>if n.isOfKind `«term#[_,]» then n[1].getSepArgs.mapM (λx=>g x>>=λy=>`(Lean.Parser.Tactic.rcasesPatLo|$y:rcasesPat))>>=λs=>`(rcasesPat|⟨$s,*⟩)>>=λt=>pure t.raw else pure n)>>=λq=>`(tactic|obtain $(⟨q⟩):rcasesPat:=$e)
theorem U{α:Sort _}{a:α}:a=a:=rfl
abbrev aj:=PySem.W.Frag
theorem au:type_of% @List.length_map:=@List.length_map
theorem aY:type_of% @List.getElem?_eq_getElem:=@List.getElem?_eq_getElem
theorem b_:type_of% @List.getElem?_eq_some_iff:=@List.getElem?_eq_some_iff
theorem cz:type_of% @List.mem_of_getElem?:=@List.mem_of_getElem?
theorem cQ:type_of% @List.size_toArray:=@List.size_toArray
theorem bw:type_of% @List.mem_map:=@List.mem_map
theorem bc:type_of% @Nat.le_refl:=@Nat.le_refl
theorem dF:type_of% @List.getElem?_map:=@List.getElem?_map
theorem bW:type_of% @List.mem_cons:=@List.mem_cons
theorem eD:type_of% @List.mem_singleton:=@List.mem_singleton
theorem eM:type_of% @List.length_append:=@List.length_append
theorem dR:type_of% @List.length_take:=@List.length_take
theorem fN:type_of% @List.mem_cons_of_mem:=@List.mem_cons_of_mem
theorem dM:type_of% @List.mem_append:=@List.mem_append
theorem eI:type_of% @List.take_length:=@List.take_length
theorem cY:type_of% @List.map_map:=@List.map_map
theorem gc:type_of% @Bool.false_ne_true:=@Bool.false_ne_true
theorem dC:type_of% @Nat.ne_of_lt:=@Nat.ne_of_lt
theorem gJ:type_of% @List.getElem_of_mem:=@List.getElem_of_mem
theorem fg:type_of% @List.map_append:=@List.map_append
theorem gB:type_of% @List.mem_cons_self:=@List.mem_cons_self
theorem eZ:type_of% @List.map_cons:=@List.map_cons
theorem gK:type_of% @List.not_mem_nil:=@List.not_mem_nil
theorem js:type_of% @List.length_singleton:=@List.length_singleton
theorem ja:type_of% @Nat.lt_of_lt_of_le:=@Nat.lt_of_lt_of_le
theorem qe:type_of% @List.nodup_iff_pairwise_ne:=@List.nodup_iff_pairwise_ne
theorem mP:type_of% @List.mem_append_right:=@List.mem_append_right
theorem gm:type_of% @Nat.le_trans:=@Nat.le_trans
theorem jr:type_of% @List.length_cons:=@List.length_cons
theorem gS:type_of% @Int.le_of_lt:=@Int.le_of_lt
theorem gE:type_of% @Nat.zero_le:=@Nat.zero_le
theorem jq:type_of% @List.nodup_cons:=@List.nodup_cons
theorem pE:type_of% @Array.length_toList:=@Array.length_toList
theorem wK:type_of% @List.getElem?_append_left:=@List.getElem?_append_left
theorem mO:type_of% @List.getElem_mem:=@List.getElem_mem
theorem uQ:type_of% @List.take_of_length_le:=@List.take_of_length_le
theorem yb:type_of% @List.getElem?_append_right:=@List.getElem?_append_right
theorem mL:type_of% @List.mem_filter:=@List.mem_filter
theorem qd:type_of% @Bool.false_eq_true:=@Bool.false_eq_true
theorem kE:type_of% @List.take_succ:=@List.take_succ
theorem i_:type_of% @Nat.ne_of_gt:=@Nat.ne_of_gt
theorem BX:type_of% @Int.mul_le_mul_of_nonneg_right:=@Int.mul_le_mul_of_nonneg_right
theorem uP:type_of% @List.map_congr_left:=@List.map_congr_left
theorem qc:type_of% @List.lookup_cons:=@List.lookup_cons
theorem tQ:type_of% @List.take_add_one:=@List.take_add_one
theorem qb:type_of% @List.forIn_cons:=@List.forIn_cons
theorem tP:type_of% @Nat.le_add_right:=@Nat.le_add_right
theorem AY:type_of% @Int.eq_ofNat_of_zero_le:=@Int.eq_ofNat_of_zero_le
theorem FW:type_of% @Int.mul_le_mul_of_nonneg_left:=@Int.mul_le_mul_of_nonneg_left
theorem wL:type_of% @List.pairwise_map:=@List.pairwise_map
theorem yg:type_of% @List.mem_filterMap:=@List.mem_filterMap
theorem B0:type_of% @Option.map_eq_some_iff:=@Option.map_eq_some_iff
theorem yf:type_of% @Int.toNat_natCast:=@Int.toNat_natCast
theorem tT:type_of% @Nat.lt_irrefl:=@Nat.lt_irrefl
theorem uS:type_of% @List.forIn_nil:=@List.forIn_nil
theorem BZ:type_of% @List.length_replicate:=@List.length_replicate
theorem BY:type_of% @List.length_filter_le:=@List.length_filter_le
theorem yd:type_of% @List.find?_cons:=@List.find?_cons
abbrev ag:=List PySem.Value
abbrev bh:=PySem.Str->PySem.Str
abbrev ao:=List PySem.Addr
abbrev ae:=List PySem.Str
namespace L2
open PySem PySem.Spec PyProof.Rows
abbrev Key:=Sum Int Str
def wk:Key->Aa->Bool
 |.inl k,v=>Value.isInt k v
 |.inr x,v=>Value.isStrOf x v
def KY(w:Af):Key->Int
 |.inl k=>hashInt k
 |.inr x=>hashStr w x
theorem qf:∀{k:Key} {v:Aa},wk k v=true->(∃i t,k=Sum.inl i/\v=Value.int i t)∨(∃x t,k=Sum.inr x/\v=Value.str x t)
 |.inl i,v,h=>by
  let#[t,e]:=Value.isInt_shape (k:=i) (v:=v) h;exact .inl #[i,t,U,e]
 |.inr x,v,h=>by
  let#[t,e]:=Value.isStrOf_shape (x:=x) (v:=v) h;exact .inr #[x,t,U,e]
theorem g7_(i:Int)(t:Tok):wk (.inl i) (.int i t)=true:=by simp[wk,Value.isInt]
theorem gC_(x:Str)(t:Tok):wk (.inr x) (.str x t)=true:=by simp[wk,Value.isStrOf]
theorem Yn(a b:Int):decide ((Sum.inl a:Key)=Sum.inl b)=(a == b):=by
 by_cases e:a=b
 ·subst e;simp
 have h:¬(Sum.inl a:Key)=Sum.inl b:=λq=>e (Sum.inl.inj q);rw[fD h];exact (beq_eq_false_iff_ne.mpr e).symm
theorem YG(a b:Str):decide ((Sum.inr a:Key)=Sum.inr b)=decide (a=b):=by
 by_cases e:a=b
 ·subst e;simp
 have h:¬(Sum.inr a:Key)=Sum.inr b:=λq=>e (iy q);rw[fD h,fD e]
theorem Yq(a:Int)(b:Str):decide ((Sum.inl a:Key)=Sum.inr b)=false:=fD (λq=>nomatch q)
theorem YN(a:Str)(b:Int):decide ((Sum.inr a:Key)=Sum.inl b)=false:=fD (λq=>nomatch q)
def ft(prog:Ad)(w:Af):PySem.KeyKind prog w Key where
 is:=wk
 hash:=KY w
 inj:=λv a b ha hb=>by
  rcases qf ha with⟨i,t,rfl,rfl⟩|⟨x,t,rfl,rfl⟩
  ·rcases qf hb with⟨j,u,rfl,e⟩|⟨y,u,rfl,e⟩
   ·injection e with e1 _;rw[e1]
   exact nomatch e
  rcases qf hb with⟨j,u,rfl,e⟩|⟨y,u,rfl,e⟩
  ·exact nomatch e
  injection e with e1 _;rw[e1]
 byValue:=λk v h=>by
  rcases qf h with⟨i,t,rfl,rfl⟩|⟨x,t,rfl,rfl⟩<;>rfl
 pyHash:=λhv h=>by
  rcases qf hv with⟨i,t,rfl,rfl⟩|⟨x,t,rfl,rfl⟩
  ·exact wpAny_pyHash_int h
  exact wpAny_pyHash_str h
 eqBool:=λhu hv h=>by
  rcases qf hu with⟨i,t,rfl,rfl⟩|⟨x,t,rfl,rfl⟩
  ·rcases qf hv with⟨j,u,rfl,rfl⟩|⟨y,u,rfl,rfl⟩
   ·rw[Yn] at h;exact wpAny_eqBool_int h
   rw[Yq] at h;exact SeqAt.EqAt.int_str i t y u _ _ _ _ h
  rcases qf hv with⟨j,u,rfl,rfl⟩|⟨y,u,rfl,rfl⟩
  ·rw[YN] at h;exact SeqAt.EqAt.str_int x t j u _ _ _ _ h
  rw[YG] at h;exact wpAny_eqBool_str h
 «strs»:=λk x t v h=>by
  rcases qf h with⟨i,u,rfl,e⟩|⟨y,u,rfl,e⟩
  ·exact nomatch e
  injection e with e1 _
  subst e1;cases v<;>rfl
theorem ej_(prog:Ad)(w:Af)(i:Int)(t:Tok):(ft prog w).is (.inl i) (.int i t)=true:=g7_ i t
theorem eD_(prog:Ad)(w:Af)(x:Str)(t:Tok):(ft prog w).is (.inr x) (.str x t)=true:=gC_ x t
end L2
abbrev av:=List L2.Key
namespace L2
open PySem PySem.Spec PyProof.Rows
inductive V where
 |non|bl (b:Bool)|int (i:Int)|str (x:Str)|byt (b:Array UInt8)|flt (b:UInt64)|ref (a:Addr)|ty (n:String)
 deriving DecidableEq
def RelV:V->Aa->Prop
 |.non,u=>u=Value.none
 |.bl b,u=>u=Value.bool b
 |.int i,u=>∃t,u=Value.int i t
 |.str x,u=>∃t,u=Value.str x t
 |.byt b,u=>∃t,u=Value.bytes b t
 |.flt b,u=>∃t,u=Value.float b t
 |.ref a,u=>u=Value.ref a
 |.ty n,u=>u=Value.type n
abbrev Vals:List V->ag->Prop:=Paired RelV
theorem Vals.length{xs:List V}{us:ag}(r:Vals xs us):xs.length=us.length:=bj r
theorem Vals.get:∀{xs:List V} {us:ag} {i:Nat} {x:V},Vals xs us->xs[i]? = some x->∃u,us[i]? = some u/\RelV x u
 |_,_,_,_,.nil,e=>by simp at e
 |_,_,0,_,.cons r _,e=>by simp at e;subst e;exact#[_,U,r]
 |_,_,i+1,x,.cons _ t,e=>by
  let#[u,h1,h2]:=Vals.get (i:=i) (x:=x) t ⇑e;exact#[u,by simpa using h1,h2]
theorem Vals.set{x:V}{u:Aa}(r:RelV x u):∀{xs:List V} {us:ag} (i:Nat),Vals xs us->Vals (xs.set i x) (us.set i u)
 |_,_,_,.nil=>.nil
 |_,_,0,.cons _ t=>.cons r t
 |_,_,i+1,.cons q t=>.cons q (Vals.set r i t)
theorem Vals.append:∀{xs ys:List V} {us ws:ag},Vals xs us->Vals ys ws->Vals (xs++ys) (us++ws)
 |_,_,_,_,.nil,s=>s
 |_,_,_,_,.cons r t,s=>.cons r (Vals.append t s)
theorem Vals.take:∀{xs:List V} {us:ag} (n:Nat),Vals xs us->Vals (xs.take n) (us.take n)
 |_,_,0,_=>.nil
 |_,_,_+1,.nil=>.nil
 |_,_,n+1,.cons r t=>.cons r (Vals.take n t)
theorem Vals.drop:∀{xs:List V} {us:ag} (n:Nat),Vals xs us->Vals (xs.drop n) (us.drop n)
 |_,_,0,r=>r
 |_,_,_+1,.nil=>.nil
 |_,_,n+1,.cons _ t=>Vals.drop n t
def fe:Option V->Option Aa->Prop
 |some v,some u=>RelV v u
 |none,none=>True
 |_,_=>False
def KV{κ:Type}:List (κ × V)->List (κ × Aa)->Prop:=Paired λ(p:κ × V) (q:κ × Aa)=>p.1=q.1/\RelV p.2 q.2
def kV:Key->V
 |.inl i=>.int i
 |.inr x=>.str x
inductive HO where
  |lst (xs:List V)
  |tup (xs:List V)
  |dK (kvs:List (Key × V))|dT (kvs:List (av × V))
  |set (S:Int->Bool) (n:Nat)
  |ins (C dx:Addr) (fs:List (Str × V))
  |own (x:Addr)
  |xd (fs:List (Str × V))
  |met (f x:Addr)
  |rng (lo hi:Int)
  |frz (o:Obj) (u:HO)
  |tbl (ps:Array Aa)
  |ext (φ:Heap->Prop)
abbrev Hp:=Addr->Option HO
def upd(H:Hp)(a:Addr)(o:HO):Hp:=λb=>if b=a then some o else H b
theorem az{H:Hp}{a:Addr}{o:HO}:upd H a o a\o:=by unfold upd;rw[aJ U]
theorem ax{H:Hp}{a b:Addr}{o:HO}(h:b≠a):upd H a o b=H b:=by unfold upd;rw[aB h]
theorem Za{H:Hp}{a:Addr}{o u:HO}:upd (upd H a o) a u=upd H a u:=by
 funext b;unfold upd;split<;>rfl
theorem bK{H:Hp}{a b:Addr}{o u:HO}(h:H a\o)(h':H b\u)(d:o≠u):a≠b:=by
 intro e;subst e;rw[h] at h';exact d (cu h')
theorem bq{H:Hp}{a b:Addr}{o:HO}(h:H a\o)(h':H b=none):a≠b:=by
 intro e;subst e;rw[h] at h';cases h'
section
variable(P:Ad)(w:Af)
def fC(H:Hp)(h:Heap)(a:Addr):HO->Prop
 |.lst xs=>xs.length<=sizeLine/\∃(its:ag) (n:Nat),Vals xs its/\h.get? a=some { cls:=.type "list",data:=.seq its.toArray n }
 |.tup xs=>xs.length<=sizeLine/\∃its:ag,Vals xs its/\IsTup h a its.toArray/\∃o,h.get? a\o/\o.dict=none
 |.dK kvs=>kvs.length<=sizeLine/\(a == sysModules)=false/\∃vs,KV kvs vs/\h.DictOf (ft P w) a vs
 |.dT kvs=>kvs.length<=sizeLine/\(a == sysModules)=false/\∃xs:List (av × Addr × Aa),
   Paired (λ(p:av × V) (q:av × Addr × Aa)=>p.1=q.1/\H q.2.1\.tup (p.1.map kV)/\RelV p.2 q.2.2) kvs xs /\
   ∃o es ep,h.get? a\o/\o.ExactDict/\o.data=.dict es ep/\es.toList=xs.map (entryOfKey (tupleKind (ft P w)))/\(xs.map (·.1)).Nodup
 |.set S n=>h.SetOf (intKind P w) a S n
 |.ins C dx fs=>H dx\.own a/\fs.length<=1000/\dx≠a/\h.get? a\PySem.W.instObj C dx /\
   ∃mA,h.Ns1 dx mA/\(∀f,fe (fs.lookup f) (mA f))/\PySem.Within mA (fs.map (·.1))
 |.own _=>∃o,h.get? a\o
 |.xd fs=>∃mA,h.Ns1 a mA/\∀f,fe (fs.lookup f) (mA f)
 |.rng lo hi=>∃t u v,h.get? a=some { cls:=.type "range",data:=.fields (List.toArray [.int lo t,.int hi u,.int 1 v]) }
 |.frz o u=>h.get? a\o/\fC H h a u
 |.tbl ps=>h.get? a=some { cls:=.none,data:=.fields ps }
 |.met f x=>h.get? a\PySem.W.methodObj (.ref f) (.ref x)
 |.ext φ=>φ h/\(∃o,h.get? a\o)/\∀h1 h2:Heap,φ h1->(∀o,h1.get? a\o->h2.get? a\o)->φ h2
def fU(H:Hp)(h:Heap):Prop:=∀a o,H a\o->fC P w H h a o
end
section
variable{P:Ad}{w:Af}{H H':Hp}{h h':Heap}{a:Addr}{o:HO}
theorem fC.lt(x:fC P w H h a o):a<h.objs.size:=by
 cases o with
 |lst xs=>let#[_,_,_,_,e]:=x;exact bp e
 |tup xs=>let#[_,_,_,p,_]:=x;exact p.lt
 |dK kvs=>let#[_,_,_,_,o,_,_,e,_]:=x;exact bp e
 |dT kvs=>let#[_,_,_,_,o,_,_,e,_]:=x;exact bp e
 |set S n=>let#[o,_,_,_,e,_]:=x;exact bp e
 |ins C dx fs=>let#[_,_,_,e,_]:=x;exact bp e
 |own y=>let#[_,e]:=x;exact bp e
 |xd fs=>let#[_,#[_,_,_,e,_],_]:=x;exact bp e
 |rng lo hi=>let#[_,_,_,e]:=x;exact bp e
 |frz ob u=>let#[e,_]:=x;exact bp e
 |tbl ps=>exact bp (show h.get? a\_ from x)
 |met f y=>exact bp (show h.get? a\_ from x)
 |ext φ=>let#[_,#[_,e],_]:=x;exact bp e
theorem Paired.aU{α β:Type}{F G:α->β->Prop}:∀{DH:List α} {DG:List β},Paired F DH DG->(∀a b,F a b->G a b)->Paired G DH DG
 |_,_,.nil,_=>.nil
 |_,_,.cons r t,f=>.cons (f _ _ r) (Paired.aU t f)
theorem fC.eS(x:fC P w H h a o)(k:∀b u,(b=a∨H b\.own a)->h.get? b\u->h'.get? b\u)
  (ho:∀b,H b\.own a->H' b\.own a) (ht:∀b xs,H b\.tup xs->H' b\.tup xs):fC P w H' h' a o:=by
 induction o with
 |lst xs=>let#[z,its,n,r,e]:=x;exact#[z,its,n,r,k _ _ (.inl U) e]
 |tup xs=>let#[z,its,r,#[ob,e,c],o2,e2,c2]:=x;exact#[z,its,r,#[ob,k _ _ (.inl U) e,c],o2,k _ _ (.inl U) e2,c2]
 |dK kvs=>let#[z,y,vs,r,ob,es,ep,e,c]:=x;exact#[z,y,vs,r,ob,es,ep,k _ _ (.inl U) e,c]
 |dT kvs=>
  let#[z,y,xs,r,ob,es,ep,e,c]:=x;exact#[z,y,xs,Paired.aU r λp q z=>#[z.1,ht _ _ z.2.1,z.2.2],ob,es,ep,k _ _ (.inl U) e,c]
 |set S n=>let#[ob,es,ep,t,e,c]:=x;exact#[ob,es,ep,t,k _ _ (.inl U) e,c]
 |ins C dx fs=>
  let#[d,z,ne,e,mA,#[od,es,ep,e2,c],r]:=x;exact#[ho _ d,z,ne,k _ _ (.inl U) e,mA,#[od,es,ep,k _ _ (.inr d) e2,c],r]
 |own y=>let#[ob,e]:=x;exact#[ob,k _ _ (.inl U) e]
 |xd fs=>let#[mA,#[od,es,ep,e,c],r]:=x;exact#[mA,#[od,es,ep,k _ _ (.inl U) e,c],r]
 |rng lo hi=>let#[t,u,v,e]:=x;exact#[t,u,v,k _ _ (.inl U) e]
 |frz ob u ih=>let#[e,q]:=x;exact#[k _ _ (.inl U) e,ih q]
 |tbl ps=>
  have e:h.get? a=some { cls:=.none,data:=.fields ps }:=x;show h'.get? a=some { cls:=.none,data:=.fields ps };exact k a _ (.inl U) e
 |met f y=>
  have e:h.get? a\PySem.W.methodObj (.ref f) (.ref y):=x;show h'.get? a\PySem.W.methodObj (.ref f) (.ref y);exact k a _ (.inl U) e
 |ext φ=>let#[p,#[o,e],st]:=x;exact#[st _ _ p λo q=>k _ _ (.inl U) q,#[o,k _ _ (.inl U) e],st]
theorem fU.lt(x:fU P w H h)(e:H a\o):a<h.objs.size:=(x a o e).lt
theorem fU.fresh(x:fU P w H h)(e:h.objs.size<=a):H a=none:=by
 cases q:H a with
 |none=>rfl
 |some u=>exact absurd (ja (x.lt q) e) (tT _)
theorem fU.kept(x:fU P w H h)(k:∀b u,h.get? b\u->h'.get? b\u):fU P w H h':=λa o e=>
 (x a o e).eS (λb u _ q=>k b u q) (λ_ q=>q) λ_ _ q=>q
theorem fU.laid(x:fU P w H h)(k:∀b u,h.get? b\u->h'.get? b\u)(hp:h.objs.size<=a)(new:fC P w (upd H a o) h' a o):fU P w (upd H a o) h':=λb u e=>by
 let hn:=x.fresh hp;by_cases hb:b=a
 ·subst hb;rw[az] at e;cases e;exact new
 rw[ax hb] at e;exact (x b u e).eS (λc v _ q=>k c v q) (λc q=>by rw[ax (bq q hn)];exact q) λc xs q=>by rw[ax (bq q hn)];exact q
end
def Rd(H:Hp)(a:Addr)(u:HO):Prop:=H a=some u∨∃o,H a\.frz o u
theorem Rd.of{H:Hp}{a:Addr}{u:HO}(h:H a\u):Rd H a u:=.inl h
theorem Rd.ok{P:Ad}{w:Af}{H:Hp}{h:Heap}{a:Addr}{u:HO}(r:Rd H a u)(x:fU P w H h):fC P w H h a u:=by
 rcases r with r|⟨o,r⟩
 ·exact x a u r
 let#[_,q]:=x a _ r;exact q
def F1:Option HO->Prop
 |some (.lst _)=>True
 |some (.dK _)=>True
 |some (.dT _)=>True
 |some (.set _ _)=>True
 |some (.ins _ _ _)=>True
 |some (.ext _)=>True
 |_=>False
section
variable{P:Ad}{w:Af}{H:Hp}{h h':Heap}{x e:Addr}{o':HO}
theorem fU.write(ok:fU P w H h)(mu:F1 (H x))(he:e=x∨H e\.own x)(k:∀b u,b≠e->h.get? b\u->h'.get? b\u)(Bn:∃u,h'.get? e\u)
  (new:fC P w (upd H x o') h' x o'):fU P w (upd H x o') h':=λb u q=>by
 have Dp:∀c y,H c\.own y->c≠x:=λc y r z=>by subst z;rw[r] at mu;exact mu
 have Kr:∀c xs,H c\.tup xs->c≠x:=λc xs r z=>by subst z;rw[r] at mu;exact mu
 by_cases hb:b=x
 ·subst hb;rw[az] at q;cases q;exact new
 rw[ax hb] at q;by_cases zS:b=e
 ·have q':H b\.own x:=by
   rcases he with z|z
   ·exact absurd (zS.trans z) hb
   rw[zS];exact z
  rw[q] at q';cases q';let#[v,hv]:=Bn;exact#[v,by rw[zS];exact hv]
 apply (ok b u q).eS (λc v hc r=>k c v ?_ r) (λc r=>by rw[ax (Dp c b r)];exact r) λc xs r=>by rw[ax (Kr c xs r)];exact r
 rcases hc with rfl|hc
 ·exact zS
 rintro rfl;rcases he with z|z
 ·exact Dp c b hc z
 rw[hc] at z;cases z;exact hb U
end
structure Un (fs ex:ao) (H H':Hp) (h h':Heap):Prop where
 keep:∀b o,h.get? b\o->H b=none->b∉fs->b∉ex->h'.get? b\o
 slot:∀b o,h.get? b\o->H b=none->b∈fs->b∉ex->∃sl,h'.get? b=some { o with slots:=sl }
 free:∀b o,h.get? b\o->H b=none->b∉ex->H' b=none
 there:∀b o,h.get? b\o->b∉ex->∃o',h'.get? b\o'
 gW:∀b xs,H b\.tup xs->H' b\.tup xs
 hJ:∀b o u,H b\.frz o u->H' b\.frz o u
 ik:∀b ps,H b\.tbl ps->∃more,H' b\.tbl (ps++more)
section
variable{fs fs' ex ex':ao}{H H1 H2:Hp}{h h1 h2 h':Heap}{a x e:Addr}{o:HO}
theorem Un.any(u:Un fs ex H H1 h h1){b:Addr}{ob:Obj}(q:h.get? b\ob)(n:H b=none)(hx:b∉ex):∃sl,h1.get? b=some { ob with slots:=sl }:=by
 by_cases hb:b∈fs
 ·exact u.slot b ob q n hb hx
 exact#[ob.slots,u.keep b ob q n hb hx]
theorem Un.kept(k:∀b u,h.get? b\u->h'.get? b\u):Un fs ex H H h h':=
 #[λb ob q _ _ _=>k b ob q,λb ob q _ _ _=>#[ob.slots,k b ob q],λ_ _ _ n _=>n,λb ob q _=>#[ob,k b ob q],λ_ _ q=>q,λ_ _ _ q=>q,λ_ ps q=>#[#[],by rw[q];simp]]
theorem Un.refl:Un fs ex H H h h:=Un.kept λ_ _ q=>q
theorem Un.laid(k:∀b u,h.get? b\u->h'.get? b\u)(hp:h.objs.size<=a)(hn:H a=none):Un fs ex H (upd H a o) h h' where
 keep:=λb u q _ _ _=>k b u q
 slot:=λb u q _ _ _=>#[u.slots,k b u q]
 free:=λb u q n _=>by rw[ax (dC (ja (bp q) hp))];exact n
 there:=λb u q _=>#[u,k b u q]
 gW:=λb xs q=>by rw[ax (bq q hn)];exact q
 hJ:=λb u xs q=>by rw[ax (bq q hn)];exact q
 ik:=λb ps q=>#[#[],by rw[ax (bq q hn),q];simp]
theorem Un.write(mu:F1 (H x))(he:e=x∨H e\.own x)(k:∀b u,b≠e->h.get? b\u->h'.get? b\u)(Bn:∃u,h'.get? e\u):Un fs ex H (upd H x o) h h':=by
 have hx:∀b,H b=none->b≠x:=λb n z=>by subst z;rw[n] at mu;exact mu
 have hb:∀b,H b=none->b≠e:=λb n z=>by
  subst z;rcases he with r|r
  ·exact hx b n r
  rw[n] at r;cases r
 have hm:∀b u,H b\u->¬F1 (some u)->b≠x:=λb u q nm z=>by subst z;rw[q] at mu;exact nm mu
 apply#[λb u q n _ _=>k b u (hb b n) q,λb u q n _ _=>#[u.slots,k b u (hb b n) q],λb u q n _=>by rw[ax (hx b n)];exact n,λb u q _=>?_,
  λb xs q=>by rw[ax (hm b _ q λz=>z)];exact q,λb u xs q=>by rw[ax (hm b _ q λz=>z)];exact q,λb ps q=>#[#[],by rw[ax (hm b _ q λz=>z),q];simp]]
 by_cases zS:b=e
 ·subst zS;exact Bn
 exact#[u,k b u zS q]
end
def Gb(h:Heap)(H:Hp):ao:=(List.range h.objs.size).filter λa=>(H a).isSome
def iu(h:Heap)(H:Hp):Heap:=PySem.W.hideAll h (Gb h H)
theorem gQ_(h:Heap)(H:Hp):(iu h H).objs.size=h.objs.size:=PySem.W.hideAll_size _ _
theorem _A{h:Heap}{H:Hp}{b:Addr}{o:Obj}(e:h.get? b\o)(n:H b=none):(iu h H).get? b\o:=
 PySem.W.hideAll_get _ e λhm=>by
  have q:(H b).isSome=true:=(mL.mp hm).2;rw[n] at q;simp at q
theorem Zv{h:Heap}{H:Hp}{b:Addr}{o:Obj}(e:(iu h H).get? b\o):h.get? b\o/\H b=none:=by
 have e':h.get? b\o:=PySem.W.of_hideAll (Gb h H) e;apply#[e',?_];cases q:H b with
 |none=>rfl
 |some x=>
  have hm:b∈Gb h H:=mL.mpr #[List.mem_range.mpr (bp e'),by simp[q]];have z:(iu h H).get? b=none:=PySem.W.hideAll_none (Gb h H) hm;rw[z] at e;cases e
end L2
abbrev ai:=List L2.V
abbrev aE:=Option L2.V
namespace L2
open PySem PySem.Spec PyProof.Rows
structure Mod (K:aj) (mg:Str->Option Aa) (base:Heap):Prop where
 DV:K.In base
 glob:base.Ns mainGlobals mg
 blt:∃mb,base.Ns builtinsNs mb/\∀x:Str,x≠"__name__"->mb x=bootBuiltins x
 nolimit:base.NoLimit
structure Cx where
 prog:Ad
 w:Af
 K:aj
 mg:Str->Option Aa
 base:Heap
 A:Ag
 N:ae
 dc:Ab
 jZ:Hp
 env:Env
 outer:List Env
 stack:List Env
 ex:ao
 fn:Str->Bool
 calm:Bool
 pn:List (Addr × Obj)
 xe:Aa->Ab->Prop
def o_(l:List Env):ao:=l.filterMap (·.frame)
abbrev Cx.fs(X:Cx):ao:=o_ X.outer
def O7(sc:Scope)(x:Str):Prop:=sc.names.lookup x=some .local∨sc.names.lookup x\.cell∨sc.names.lookup x\.free
def Loc(sc:Scope)(x:Str):Prop:=sc.names.lookup x=some .local∨sc.names.lookup x\.cell
def Look(env:Env)(h:Heap)(m:Str->Option Aa)(x:Str)(u:Aa):Prop:=
 (env.kindOf x\.local/\m x\u)∨((env.kindOf x\.cell∨env.kindOf x\.free)/\∃c,env.cells.lookup x\c/\h.IsCell c (some u))
structure Cx.Ok (X:Cx):Prop where
 mod:Mod X.K X.mg X.base
 kind:X.env.scope.kind=.function
 glob:X.env.globals=mainGlobals
 blt:X.env.builtins=builtinsNs
 above:X.dc.heap.objs.size<=X.env.locals
 inj:∀x y c,X.env.cells.lookup x\c->X.env.cells.lookup y\c->x=y
 has:∀x,(X.env.kindOf x\.cell∨X.env.kindOf x\.free)->∃c,X.env.cells.lookup x\c
 BJ:∀x c,X.fn x=true->X.env.cells.lookup x\c->X.dc.heap.objs.size<=c
 hd:X.calm=true->X.A.handled=none
 frames:X.A.frames\X.stack
 Gi:X.stack=X.outer∨(X.stack=X.env::X.outer/\X.env.frame\X.env.locals)
 Hn:∀b∈X.ex,b≠X.env.locals/\∀x c,X.env.cells.lookup x\c->c≠b
 bs:∀b o,X.base.get? b\o->X.dc.heap.get? b\o/\X.jZ b=none
 tL:X.base.objs.size<=X.dc.heap.objs.size
 rY:∀b o,X.base.get? b\o->b∉X.ex
 sU:∀b∈X.ex,b∉X.fs
 f_:X.dc.heap.FunFrames X.base X.outer
 vU:∀b∈X.fs,X.jZ b=none
structure Inv (X:Cx) (pins:List (Addr × Obj)) (σ:List aE) (H:Hp) (s:Ab):Prop where
 ok:X.Ok
 os:s.os=X.dc.os
 bare:AllBare s.gens
 base:Un X.fs X.ex X.jZ H X.dc.heap s.heap
 loc:∃m,s.heap.Ns X.env.locals m/\∀(i:Nat) (x:Str) (v:V),X.N[i]? = some x->σ[i]? = some (some v)->O7 X.env.scope x->∃u,RelV v u/\Look X.env s.heap m x u
 cell:∀x c,X.env.cells.lookup x\c->∃v,s.heap.IsCell c v
 free:H X.env.locals=none
 eg:∀x c,X.env.cells.lookup x\c->H c=none
 pin:∀p∈X.pn++pins,s.heap.get? p.1\p.2/\H p.1=none/\p.1≠X.env.locals/\p.1∉X.fs/\∀v,p.2.data≠.cell v
 ay:fU X.prog X.w H s.heap
 len:σ.length=X.N.length
section
variable{X:Cx}{pins:List (Addr × Obj)}{σ:List aE}{H H':Hp}{s:Ab}{h':Heap}
theorem Cx.Ok.Kt(ok:X.Ok){b:Addr}{o:Obj}(e:X.base.get? b\o):b∉X.fs:=λhb=>by
 have:=(ok.f_.mem hb).1;rw[e] at this;cases this
theorem Inv.bs(I:Inv X pins σ H s):∀b o,X.base.get? b\o->s.heap.get? b\o/\H b=none:=λb o e=>
 #[I.base.keep b o (I.ok.bs b o e).1 (I.ok.bs b o e).2 (I.ok.Kt e) (I.ok.rY b o e),I.base.free b o (I.ok.bs b o e).1 (I.ok.bs b o e).2 (I.ok.rY b o e)]
theorem Inv.bk(I:Inv X pins σ H s):∀b o,X.base.get? b\o->s.heap.get? b\o:=λb o e=>(I.bs b o e).1
theorem Inv.mod(I:Inv X pins σ H s):Mod X.K X.mg X.base:=I.ok.mod
theorem Inv.gN(I:Inv X pins σ H s):X.K.In s.heap:=I.ok.mod.DV.keeps I.bk
theorem Inv.lt(I:Inv X pins σ H s):X.env.locals<s.heap.objs.size:=let #[_,hn,_]:=I.loc;hn.lt
theorem Inv.sz(I:Inv X pins σ H s):X.dc.heap.objs.size<=s.heap.objs.size:=gm I.ok.above (Nat.le_of_lt I.lt)
theorem Inv.Ks(I:Inv X pins σ H s){a:Addr}(h:s.heap.objs.size<=a):a∉X.fs:=λhb=>by
 let#[_,o,ho,_]:=I.ok.f_.mem hb;exact absurd (ja (bp ho) (gm I.sz h)) (tT _)
theorem Inv.uB(I:Inv X pins σ H s):∀x c,X.env.cells.lookup x\c->c≠X.env.locals:=λx c e z=>by
 let#[v,o,ho,hd]:=I.cell x c e;let#[m,#[o',es,ep,og,iW,_],_]:=I.loc;rw[z,og] at ho;cases ho;rw[iW] at hd;cases hd
theorem Inv.f_(I:Inv X pins σ H s):s.heap.FunFrames X.base X.outer:=by
 have all:∀(l:List Env),(∀b∈o_ l,b∈X.fs)->X.dc.heap.FunFrames X.base l->s.heap.FunFrames X.base l:=by
  intro l
  induction l with
  |nil=>intro _ _;trivial
  |cons env r ih=>
   intro hs hl;let#[hk,#[L,o,hf,hn,ho,hd],hr]:=hl;have hL:L∈X.fs:=hs L (by unfold o_;rw[List.filterMap_cons,hf];exact gB);let#[sl,e]:=I.base.slot L o ho (I.ok.vU L hL) hL λz=>I.ok.sU L z hL;exact#[hk,#[L,_,hf,hn,e,hd],ih (λb hb=>hs b (by unfold o_;rw[List.filterMap_cons,hf];exact fN _ hb)) hr]
 exact all X.outer (λ_ hb=>hb) I.ok.f_
theorem Inv.stack(I:Inv X pins σ H s):s.heap.FunFrames X.base X.stack:=by
 rcases I.ok.Gi with e|⟨e,hf⟩
 ·rw[e];exact I.f_
 rw[e];let#[m,hn,_]:=I.loc;apply .cons (by rw[I.ok.kind];decide) hf hn ?_ I.f_;exact Heap.get?_none_of_le (gm I.ok.tL I.ok.above)
theorem Inv.kQ(I:Inv X pins σ H s):∀b∈o_ X.stack,b∈X.env.locals::X.fs:=λb hb=>by
 rcases I.ok.Gi with e|⟨e,hf⟩
 ·rw[e] at hb;exact fN _ hb
 rw[e] at hb;unfold o_ at hb;rw[List.filterMap_cons,hf] at hb;exact hb
theorem Inv.nu(I:Inv X pins σ H s):∀b∈o_ X.stack,H b=none:=λb hb=>by
 rcases bW.mp (I.kQ b hb) with e|hb
 ·rw[e];exact I.free
 let#[_,o,ho,_]:=I.ok.f_.mem hb;exact I.base.free b o ho (I.ok.vU b hb) λz=>I.ok.sU b z hb
theorem Inv.step{g':Array GenState}{t':Nat}{d':Drawn}{ch:ao}(I:Inv X pins σ H s)
  (uq:∀b∈ch,(b∈X.ex∨X.dc.heap.objs.size<=b)/\b≠X.env.locals/\(∀x c,X.env.cells.lookup x\c->c≠b)/\∀p∈X.pn++pins,p.1≠b)
  (keep:∀b o,b≠X.env.locals->b∉X.fs->b∉ch->s.heap.get? b\o->H b=none->h'.get? b\o)
  (slot:∀b o,b≠X.env.locals->b∈X.fs->b∉ch->s.heap.get? b\o->H b=none->∃sl,h'.get? b=some { o with slots:=sl }) (free:∀b o,b∉ch->s.heap.get? b\o->H b=none->H' b=none)
  (there:∀b o,b∉ch->s.heap.get? b\o->∃o',h'.get? b\o')
  (gW:∀b xs,H b\.tup xs->H' b\.tup xs) (hJ:∀b o u,H b\.frz o u->H' b\.frz o u) (ik:∀b ps,H b\.tbl ps->∃more,H' b\.tbl (ps++more))
  (ns:∀m,s.heap.Ns X.env.locals m->h'.Ns X.env.locals m) (ay:fU X.prog X.w H' h') (hg:AllBare g') :
  Inv X pins σ H' { s with heap:=h',gens:=g',drawn:=d',toks:=t' }:=by
 have Qk:∀b o,X.dc.heap.get? b\o->b≠X.env.locals:=λb o e=>dC (ja (bp e) I.ok.above)
 have GB:∀b o,X.dc.heap.get? b\o->b∉X.ex->b∉ch:=λb o e hx hb=>by
  rcases (uq b hb).1 with z|z
  ·exact hx z
  exact absurd (ja (bp e) z) (tT _)
 have cellK:∀x c,X.env.cells.lookup x\c->∀v,s.heap.IsCell c v->h'.IsCell c v:=λx c e v ⟨o,ho,hd⟩=>by
  have Dt:c∉ch:=λz=>(uq c z).2.2.1 x c e U;by_cases hc:c∈X.fs
  ·let#[sl,q]:=slot c o (I.uB x c e) hc Dt ho (I.eg x c e);exact#[_,q,hd]
  exact#[o,keep c o (I.uB x c e) hc Dt ho (I.eg x c e),hd]
 apply#[I.ok,I.os,hg,#[λb o e n hb hx=>?_,λb o e n hb hx=>?_,λb o e n hx=>?_,λb o e hx=>?_,λb xs e=>gW b xs (I.base.gW b xs e),λb o xs e=>hJ b o xs (I.base.hJ b o xs e),λb ps e=>?_],?_,λx c e=>?_,?_,λx c e=>?_,λp hp=>?_,ay,I.len]
 ·exact keep b o (Qk b o e) hb (GB b o e hx) (I.base.keep b o e n hb hx) (I.base.free b o e n hx)
 ·let#[sl,e1]:=I.base.slot b o e n hb hx;let#[Wp,e2]:=slot b _ (Qk b o e) hb (GB b o e hx) e1 (I.base.free b o e n hx);exact#[Wp,e2]
 ·let#[o',e1]:=I.base.there b o e hx;exact free b o' (GB b o e hx) e1 (I.base.free b o e n hx)
 ·let#[o',e1]:=I.base.there b o e hx;exact there b o' (GB b o e hx) e1
 ·let#[m1,e1]:=I.base.ik b ps e;let#[m2,e2]:=ik b _ e1;exact#[m1++m2,by rw[e2,Array.append_assoc]]
 ·let#[m,hn,hl]:=I.loc;apply#[m,ns m hn,λi x v e1 e2 e3=>?_];let#[u,r,l]:=hl i x v e1 e2 e3;apply#[u,r,?_];rcases l with l|⟨k,c,e,z⟩
  ·exact .inl l
  exact .inr #[k,c,e,cellK x c e _ z]
 ·let#[v,z]:=I.cell x c e;exact#[v,cellK x c e v z]
 ·let#[m,#[o,_,_,ho,_],_]:=I.loc;exact free _ o (λz=>(uq _ z).2.1 U) ho I.free
 ·let#[v,o,ho,hd]:=I.cell x c e;exact free c o (λz=>(uq c z).2.2.1 x c e U) ho (I.eg x c e)
 let#[e,n,ne,nf,d]:=I.pin p hp;have Dt:p.1∉ch:=λz=>(uq p.1 z).2.2.2 p hp U;exact#[keep p.1 p.2 ne nf Dt e n,free p.1 p.2 Dt e n,ne,nf,d]
theorem Inv.un{t':Nat}(I:Inv X pins σ H s)(u:Un X.fs [] H H' s.heap h')(ay:fU X.prog X.w H' h'):Inv X pins σ H' { s with heap:=h',toks:=t' }:=by
 let#[m,#[o,es,ep,ho,r],_]:=id I.loc;let#[sl,hL]:=u.any ho I.free Z2
 exact I.step (g':=s.gens) (d':=s.drawn) (ch:=[]) (λ_ z=>nomatch z) (λb o _ hb _ e n=>u.keep b o e n hb Z2) (λb o _ hb _ e n=>u.slot b o e n hb Z2) (λb o _ e n=>u.free b o e n Z2) (λb o _ e=>u.there b o e Z2) u.gW u.hJ u.ik (λm' hm=>by
  let#[o',Ho,Hq,og,r']:=hm;rw[ho] at og;cases og;exact#[_,Ho,Hq,hL,r']) ay I.bare
theorem Inv.call{g':Array GenState}{t':Nat}{d':Drawn}{ch:ao}(I:Inv X pins σ H s)(u:Un (o_ X.stack) ch H H' s.heap h')(ay:fU X.prog X.w H' h')(hg:AllBare g')
  (uq:∀b∈ch,(b∈X.ex∨X.dc.heap.objs.size<=b)/\b≠X.env.locals/\(∀x c,X.env.cells.lookup x\c->c≠b)/\∀p∈X.pn++pins,p.1≠b) :
  Inv X pins σ H' { s with heap:=h',gens:=g',drawn:=d',toks:=t' }:=by
 let#[m,#[o,es,ep,ho,r],_]:=id I.loc;let#[sl,hL]:=u.any ho I.free λz=>(uq _ z).2.1 U
 exact I.step (ch:=ch) uq (λb o hL hb hc e n=>u.keep b o e n (λz=>(bW.mp (I.kQ b z)).elim hL hb) hc) (λb o _ _ hc e n=>u.any e n hc) (λb o hc e n=>u.free b o e n hc) (λb o hc e=>u.there b o e hc) u.gW u.hJ u.ik (λm' hm=>by
  let#[o',Ho,Hq,og,r']:=hm;rw[ho] at og;cases og;exact#[_,Ho,Hq,hL,r']) ay hg
theorem Inv.turned{t':Nat}{it:Addr}(I:Inv X pins σ H s)(k:∀b o,b≠it->s.heap.get? b\o->h'.get? b\o)(hn:H it=none)(hL:it≠X.env.locals)
  (h1:it∈X.ex∨X.dc.heap.objs.size<=it) (h2:∀x c,X.env.cells.lookup x\c->c≠it) (h3:∀p∈X.pn++pins,p.1≠it):Inv X pins σ H { s with heap:=h',toks:=t' }:=by
 have Qj:∀b u,H b\u->b≠it:=λb u e z=>by rw[z,hn] at e;cases e
 apply I.step (g':=s.gens) (d':=s.drawn) (ch:=[it]) (λb hb=>?_) (λb o _ _ hc e _=>k b o (λz=>hc (by simp[z])) e) (λb o _ _ hc e _=>#[o.slots,k b o (λz=>hc (by simp[z])) e]) (λ_ _ _ _ n=>n)
  (λb o hc e=>#[o,k b o (λz=>hc (by simp[z])) e]) (λ_ _ e=>e) (λ_ _ _ e=>e) (λb ps e=>#[#[],by rw[e];simp]) (λm hm=>?_) (λb u e=>?_) I.bare
 ·have e:b=it:=⇑hb
  subst e;exact#[h1,hL,h2,h3]
 ·let#[o,es,ep,ho,r]:=hm;exact#[o,es,ep,k _ o (bG hL) ho,r]
 apply (I.ay b u e).eS (λc v hc q=>k c v ?_ q) (λ_ q=>q) λ_ _ q=>q;rcases hc with z|z
 ·rw[z];exact Qj b u e
 exact Qj c _ z
theorem Inv.tok(I:Inv X pins σ H s)(t:Nat):Inv X pins σ H { s with toks:=t }:=I.un (h':=s.heap) (t':=t) Un.refl I.ay
theorem Inv.kept{t':Nat}(I:Inv X pins σ H s)(k:∀b u,s.heap.get? b\u->h'.get? b\u):Inv X pins σ H { s with heap:=h',toks:=t' }:=I.un (Un.kept k) (I.ay.kept k)
theorem Inv.laid{a:Addr}{o:HO}{t':Nat}(I:Inv X pins σ H s)(k:∀b u,s.heap.get? b\u->h'.get? b\u)(hp:s.heap.objs.size<=a)(new:fC X.prog X.w (upd H a o) h' a o) :
  Inv X pins σ (upd H a o) { s with heap:=h',toks:=t' }:=I.un (Un.laid k hp (I.ay.fresh hp)) (I.ay.laid k hp new)
theorem Inv.write{x e:Addr}{o:HO}{t':Nat}(I:Inv X pins σ H s)(mu:F1 (H x))(he:e=x∨H e\.own x)(k:∀b u,b≠e->s.heap.get? b\u->h'.get? b\u)(Bn:∃u,h'.get? e\u)
  (new:fC X.prog X.w (upd H x o) h' x o):Inv X pins σ (upd H x o) { s with heap:=h',toks:=t' }:=I.un (Un.write mu he k Bn) (I.ay.write mu he k Bn new)
theorem Inv.nM{xq:List (Addr × Obj)}(I:Inv X pins σ H s)(h:∀p∈xq,s.heap.get? p.1\p.2/\H p.1=none/\p.1≠X.env.locals/\p.1∉X.fs/\∀v,p.2.data≠.cell v):Inv X xq σ H s:=
 #[I.ok,I.os,I.bare,I.base,I.loc,I.cell,I.free,I.eg,λp hp=>(dM.mp hp).elim (λz=>I.pin p (List.mem_append_left _ z)) (h p),I.ay,I.len]
theorem Tu{N:ae}(hN:N.Nodup){i j:Nat}{x:Str}(a:N[i]? = some x)(b:N[j]? = some x):i=j:=by
 let#[h1,e1]:=b_.mp a;let#[h2,e2]:=b_.mp b;exact (List.getElem_inj hN).mp (e1.trans e2.symm)
theorem Ug{M:Model}{A:Ag}{E:Aa->Ab->Prop}{i:Nat}{x:Str}{v:V}{u:Aa}{Q:Unit->Ab->Prop}(I:Inv X pins σ H s)(hN:X.N.Nodup)(hi:X.N[i]? = some x)(hx:Loc X.env.scope x)(r:RelV v u)
  (h:∀s',Inv X pins (σ.set i (some v)) H s'->(∃a,Heap.SameBut a s.heap s'.heap/\(a=X.env.locals∨X.env.cells.lookup x\a))->Q () s') (hf:X.fn x=true∨X.env.scope.names.lookup x\.local:=by first|exact .inl U|exact .inr U|assumption):wpAny M A (storeName X.env x u) Q E s:=by
 let#[m,hn,hl]:=id I.loc;have LN:(X.env.scope.kind == .class || (X.env.scope.kind == .module&&X.env.locals != X.env.globals))=false:=by rw[I.ok.kind];rfl
 have EA:i<σ.length:=by rw[I.len];exact (b_.mp hi).1
 let uB:=I.uB
 have tracked:∀{a:Addr} {h':Heap},(∃o,s.heap.get? a\o/\H a=none)->Heap.SameBut a s.heap h'->fU X.prog X.w H h':=λ{a h'} ha hs b ob e=>by
  let#[_,_,xJ]:=ha;apply (I.ay b ob e).eS (λc w' hc q=>(hs.2 c ?_).trans q) (λ_ q=>q) λ_ _ q=>q;rintro rfl;rcases hc with rfl|hc
  ·rw[xJ] at e;cases e
  rw[xJ] at hc;cases hc
 rcases hx with hk|hk
 ·apply wpAny_storeName_local hk hn (λh' Em hs=>?_) LN;let#[oL,_,_,GY,_]:=id hn;apply h _ #[I.ok,I.os,I.bare,#[λb o e n hb hx=>?_,λb o e n hb hx=>?_,I.base.free,λb o e hx=>?_,I.base.gW,I.base.hJ,I.base.ik],#[_,Em,λj y v' e1 e2 e3=>?_],λy c e=>?_,I.free,I.eg,λp hp=>?_,tracked #[oL,GY,I.free] hs,by simpa using I.len] #[_,hs,.inl U]
  ·exact (hs.2 b (dC (ja (bp e) I.ok.above))).trans (I.base.keep b o e n hb hx)
  ·let#[sl,e1]:=I.base.slot b o e n hb hx;exact#[sl,(hs.2 b (dC (ja (bp e) I.ok.above))).trans e1]
  ·let#[o',e1]:=I.base.there b o e hx;exact#[o',(hs.2 b (dC (ja (bp e) I.ok.above))).trans e1]
  ·by_cases hj:j=i
   ·subst hj;rw[hi] at e1;cases e1;rw[List.getElem?_set_self EA] at e2;cases e2;exact#[u,r,.inl #[hk,by simp]]
   rw[List.getElem?_set_ne (bG hj)] at e2;let#[u',r',q]:=hl j y v' e1 e2 e3;apply#[u',r',?_];rcases q with⟨k,e⟩|⟨k,c,e,z⟩
   ·apply .inl #[k,?_];have:y≠x:=λe=>hj (Tu hN e1 (e▸hi));simp[this,e]
   exact .inr #[k,c,e,z.sameBut hs (uB y c e)]
  ·let#[w',z]:=I.cell y c e;exact#[w',z.sameBut hs (uB y c e)]
  let#[e,n,ne,nf,d]:=I.pin p hp;exact#[(hs.2 p.1 ne).trans e,n,ne,nf,d]
 have Lz:X.fn x=true:=by
  rcases hf with z|z
  ·exact z
  rw[z] at hk;cases hk
 let#[c,hc]:=I.ok.has x (.inl hk);let#[w',z]:=I.cell x c hc;apply wpAny_storeName_cell I.ok.kind hk hc z (λh' G7 hs=>?_);let#[oc,El,Li]:=id z;apply h { s with heap:=h' } #[I.ok,I.os,I.bare,#[λb o e n hb hx=>?_,λb o e n hb hx=>?_,I.base.free,λb o e hx=>?_,I.base.gW,I.base.hJ,I.base.ik],#[m,hn.sameBut hs (bG (uB x c hc)),λj y v' e1 e2 e3=>?_],λy c' e=>?_,I.free,I.eg,λp hp=>?_,tracked #[oc,El,I.eg x c hc] hs,by simpa using I.len] #[c,hs,.inr hc]
 ·exact (hs.2 b (dC (ja (bp e) (I.ok.BJ x c Lz hc)))).trans (I.base.keep b o e n hb hx)
 ·let#[sl,e1]:=I.base.slot b o e n hb hx;exact#[sl,(hs.2 b (dC (ja (bp e) (I.ok.BJ x c Lz hc)))).trans e1]
 ·let#[o',e1]:=I.base.there b o e hx;exact#[o',(hs.2 b (dC (ja (bp e) (I.ok.BJ x c Lz hc)))).trans e1]
 ·by_cases hj:j=i
  ·subst hj;rw[hi] at e1;cases e1;rw[List.getElem?_set_self EA] at e2;cases e2;exact#[u,r,.inr #[.inl hk,c,hc,G7]]
  rw[List.getElem?_set_ne (bG hj)] at e2;let#[u',r',q]:=hl j y v' e1 e2 e3;apply#[u',r',?_];rcases q with q|⟨k,c',e,z'⟩
  ·exact .inl q
  apply .inr #[k,c',e,z'.sameBut hs ?_];rintro rfl;exact hj (Tu hN e1 (I.ok.inj _ _ _ e hc▸hi))
 ·by_cases RL:c'=c
  ·subst RL;exact#[_,G7]
  let#[w2,z2]:=I.cell y c' e;exact#[w2,z2.sameBut hs RL]
 let#[e,n,ne,nf,d]:=I.pin p hp;apply#[(hs.2 p.1 ?_).trans e,n,ne,nf,d];intro q;rw[q,El] at e;have q':oc=p.2:=cu e;exact d w' (by rw[<- q'];exact Li)
theorem Tz{M:Model}{A:Ag}{E:Aa->Ab->Prop}{i:Nat}{x:Str}{v:V}{u:Aa}{Q:Unit->Ab->Prop}(I:Inv X pins σ H s)(hN:X.N.Nodup)(hi:X.N[i]? = some x)(hx:Loc X.env.scope x)(r:RelV v u)
  (h:∀s',Inv X pins (σ.set i (some v)) H s'->Q () s') (hf:X.fn x=true∨X.env.scope.names.lookup x\.local:=by first|exact .inl U|exact .inr U|assumption):wpAny M A (storeName X.env x u) Q E s:=
 Ug I hN hi hx r (λs' I' _=>h s' I') hf
theorem Inv.Fs{s':Ab}{ch:ao}(I:Inv X pins σ H s)(ho:s'.os=s.os)(u:Un (o_ X.stack) ch H H' s.heap s'.heap)(ay:fU X.prog X.w H' s'.heap)(hg:AllBare s'.gens)
  (uq:∀b∈ch,(b∈X.ex∨X.dc.heap.objs.size<=b)/\b≠X.env.locals/\(∀x c,X.env.cells.lookup x\c->c≠b)/\∀p∈X.pn++pins,p.1≠b):Inv X pins σ H' s':=by
 let#[h',g',d',t',o']:=s';have e:o'=s.os:=ho;subst e;exact I.call (g':=g') (t':=t') (d':=d') u ay hg uq
end
abbrev XK:=Aa->Option Addr->Hp->Prop
abbrev St:=List aE
abbrev VK:=V->Hp->Prop
abbrev TE:=St->Hp->VK->Prop
abbrev TT:=St->Hp->(Bool->Hp->Prop)->Prop
abbrev TA:=St->Hp->(ai->Hp->Prop)->Prop
structure Ends where
 nx:St->Hp->Prop
 rt:VK
 bk:St->Hp->Prop:=λ_ _=>False
 ct:St->Hp->Prop:=λ_ _=>False
abbrev TS:=Ends->St->Hp->Prop
def EP(X:Cx)(pins:List (Addr × Obj))(σ:St)(Q:VK)(u:Aa)(s':Ab):Prop:=∃v H',Inv X pins σ H' s'/\RelV v u/\Q v H'
def TP(X:Cx)(pins:List (Addr × Obj))(σ:St)(Q:Bool->Hp->Prop)(b:Bool)(s':Ab):Prop:=∃H',Inv X pins σ H' s'/\Q b H'
def AP(X:Cx)(pins:List (Addr × Obj))(σ:St)(Q:ai->Hp->Prop)(us:ag)(s':Ab):Prop:=∃vs H',Inv X pins σ H' s'/\Vals vs us/\Q vs H'
def SP(X:Cx)(pins:List (Addr × Obj))(D:Ends)(f:Flow)(s':Ab):Prop:=
 match f with
 |.next=>∃aV H',Inv X pins aV H' s'/\D.nx aV H'
 |.brk=>∃aV H',Inv X pins aV H' s'/\D.bk aV H'
 |.cont=>∃aV H',Inv X pins aV H' s'/\D.ct aV H'
 |.ret u=>∃v aV H',Inv X pins aV H' s'/\RelV v u/\D.rt v H'
def PE(X:Cx)(e:Expr)(t:TE):Prop:=
 ∀(pins:List (Addr × Obj)) (s:Ab) (σ:St) (H:Hp) (Q:VK),Inv X pins σ H s->t σ H Q->wpAny (model X.prog X.w) X.A (eval e X.env) (EP X pins σ Q) X.xe s
def PT(X:Cx)(e:Expr)(t:TT):Prop:=
 ∀(pins:List (Addr × Obj)) (s:Ab) (σ:St) (H:Hp) (Q:Bool->Hp->Prop),Inv X pins σ H s->t σ H Q->wpAny (model X.prog X.w) X.A (isTrue e X.env (eval e X.env)) (TP X pins σ Q) X.xe s
def PW(X:Cx)(e:Expr)(t:TT):Prop:=
 ∀(whole:Sem Aa) (pins:List (Addr × Obj)) (s:Ab) (σ:St) (H:Hp) (Q:Bool->Hp->Prop),Inv X pins σ H s->t σ H Q->wpAny (model X.prog X.w) X.A (isTrue e X.env whole) (TP X pins σ Q) X.xe s
theorem PW.pt{X:Cx}{e:Expr}{t:TT}(h:PW X e t):PT X e t:=h _
def PA(X:Cx)(es:List Expr)(t:TA):Prop:=
 ∀(pos:Pos) (pins:List (Addr × Obj)) (s:Ab) (σ:St) (H:Hp) (Q:ai->Hp->Prop),Inv X pins σ H s->t σ H Q->wpAny (model X.prog X.w) X.A (spliced (backTo pos (starEach es X.env))) (AP X pins σ Q) X.xe s
def PS(X:Cx)(st:Stmt)(t:TS):Prop:=
 ∀(pins:List (Addr × Obj)) (s:Ab) (σ:St) (H:Hp) (D:Ends),Inv X pins σ H s->t D σ H->wpAny (model X.prog X.w) X.A (exec st X.env) (SP X pins D) X.xe s
def jX(X:Cx)(st:List Stmt)(t:TS):Prop:=
 ∀(pins:List (Addr × Obj)) (s:Ab) (σ:St) (H:Hp) (D:Ends),Inv X pins σ H s->t D σ H->wpAny (model X.prog X.w) X.A (execs st X.env) (SP X pins D) X.xe s
theorem aQ{α:Type}{t:Sem α}{Q Q':α->Ab->Prop}{M:Model}{A:Ag}{E:Aa->Ab->Prop}{s:Ab}(h:wpAny M A t Q E s)(hQ:∀a s,Q a s->Q' a s):wpAny M A t Q' E s:=wpAny_mono h hQ λ_ _ x=>x
end L2
abbrev mU:=L2.St->L2.Hp->Prop
abbrev bO:=Nat->L2.St->L2.Hp->Prop
namespace L2
open PySem PySem.Spec PyProof.Rows
section
variable{X:Cx}
inductive oN (i:Nat) (σ:St) (H:Hp) (Q:VK):Prop
 |mk:∀v,σ[i]? = some (some v)->Q v H->oN i σ H Q
def tC(v:V):TE:=λ_ H Q=>Q v H
theorem Zi{i:Nat}{x:Str}{pos:Pos}(hN:X.N[i]? = some x)(hv:O7 X.env.scope x)(hd:(x == ("__debug__":Str))=false:=by decide)(iw:(x == ("__classdict__":Str))=false:=by decide):PE X (.Name x pos) (oN i):=by
 intro pins s σ H Q I h;let#[v,e,h]:=h;let#[m,hn,hl]:=I.loc;let#[u,r,l]:=hl i x v hN e hv;have fin:EP X pins σ Q u s:=#[v,H,I,r,h];rcases l with⟨hk,hm⟩|⟨hk,c,hc,oi⟩
 ·exact wpAny_Name (wpAny_loadName_local I.ok.kind hk hn hm fin) hd
 rcases hk with hk|hk
 ·exact wpAny_Name (wpAny_loadName_cell I.ok.kind hk hc oi fin) hd
 exact wpAny_Name (wpAny_loadName_free I.ok.kind hk hc oi fin iw) hd
theorem aD{i j pos}:PE X (.Constant (.int i) j pos) (tC (.int i)):=λ_ _ _ H _ I h=>wpAny_Constant_int #[.int i,H,I.tok _,#[_,U],h]
theorem gI{b j pos}:PE X (.Constant (.bool b) j pos) (tC (.bl b)):=λ_ _ _ H _ I h=>Constant_bool #[.bl b,H,I,U,h]
theorem AB{j pos}:PE X (.Constant .none j pos) (tC .non):=λ_ _ _ H _ I h=>Constant_none #[.non,H,I,U,h]
theorem xZ{x j pos}:PE X (.Constant (.str x) j pos) (tC (.str x)):=λ_ _ _ H _ I h=>Calls.Constant_str #[.str x,H,I.tok _,#[_,U],h]
def Gl(X:Cx)(x:Str):Prop:=X.env.kindOf x=some .globalImplicit
theorem MK{E:Aa->Ab->Prop}{pins:List (Addr × Obj)}{s:Ab}{σ:St}{H:Hp}{x:Str}{u:Aa}{pos:Pos}{Q:Aa->Ab->Prop}(I:Inv X pins σ H s)(hg:Gl X x)(hm:X.mg x\u)(h:Q u s)
  (hd:(x == ("__debug__":Str))=false:=by decide):wpAny (model X.prog X.w) X.A (eval (.Name x pos) X.env) Q E s:=
 Calls.Name_function_global I.ok.kind hg (Calls.loadGlobal_global (by rw[I.ok.glob];exact I.mod.glob.keeps I.bk) hm h) hd
theorem wB{E:Aa->Ab->Prop}{pins:List (Addr × Obj)}{s:Ab}{σ:St}{H:Hp}{x:Str}{u:Aa}{pos:Pos}{Q:Aa->Ab->Prop}(I:Inv X pins σ H s)(hg:Gl X x)(hm:X.mg x=none)(hv:bootBuiltins x\u)(h:Q u s)
  (hn:x≠"__name__":=by decide) (hd:(x == ("__debug__":Str))=false:=by decide):wpAny (model X.prog X.w) X.A (eval (.Name x pos) X.env) Q E s:=by
 let#[mb,h1,h2]:=I.mod.blt;exact Calls.Name_function_global I.ok.kind hg (Calls.loadGlobal_builtin (by rw[I.ok.glob];exact I.mod.glob.keeps I.bk) hm (by rw[I.ok.blt];exact h1.keeps I.bk) ((h2 x hn).trans hv) h) hd
theorem BM{x:Str}{v:V}{u:Aa}{pos:Pos}(hg:Gl X x)(hm:X.mg x\u)(r:RelV v u)(hd:(x == ("__debug__":Str))=false:=by decide):PE X (.Name x pos) (tC v):=
 λ_ _ _ H _ I h=>MK I hg hm #[v,H,I,r,h] hd
theorem mJ{x:Str}{v:V}{u:Aa}{pos:Pos}(hg:Gl X x)(hm:X.mg x=none)(hv:bootBuiltins x\u)(r:RelV v u)(hn:x≠"__name__":=by decide)(hd:(x == ("__debug__":Str))=false:=by decide):PE X (.Name x pos) (tC v):=
 λ_ _ _ H _ I h=>wB I hg hm hv #[v,H,I,r,h] hn hd
variable{a b:Expr}{ta tb:TE}{pos:Pos}
def PC(X:Cx)(op:CmpOp)(a b:Expr)(t:TE):Prop:=
 ∀(pins:List (Addr × Obj)) (s:Ab) (σ:St) (H:Hp) (Q:VK),Inv X pins σ H s->t σ H Q->
  wpAny (model X.prog X.w) X.A (eval a X.env) (λv aK=>wpAny (model X.prog X.w) X.A (eval b X.env) (λu ju=>wpAny (model X.prog X.w) X.A (compareOp op v u) (EP X pins σ Q) X.xe ju) X.xe aK) X.xe s
theorem jz(b:Expr){op:CmpOp}(h:op≠.In)(h2:op≠.NotIn):behindInMarks op b=false:=by
 have e1:(op == CmpOp.In)=false:=by cases op<;>first|rfl|exact absurd U h
 have e2:(op == CmpOp.NotIn)=false:=by cases op<;>first|rfl|exact absurd U h2
 cases b<;>simp[behindInMarks,e1,e2]
def JU(ta:TE):TE:=λσ H Q=>ta σ H λx H1=>Q (.bl (decide (x=.non))) H1
def CA(ta:TE):TE:=λσ H Q=>ta σ H λx H1=>Q (.bl (!decide (x=.non))) H1
theorem RelV.jy{x:V}{v:Aa}(r:RelV x v):(v == Value.none)=decide (x=.non):=by
 cases x with
 |non=>cases r;rfl
 |bl _=>cases r;rfl
 |int _=>let#[t,rfl]:=r;rfl
 |str _=>let#[t,rfl]:=r;rfl
 |byt _=>let#[t,rfl]:=r;rfl
 |flt _=>let#[t,rfl]:=r;rfl
 |ref _=>cases r;rfl
 |ty _=>cases r;rfl
theorem Hk{j pos'}(ha:PE X a ta):PC X .Is a (.Constant .none j pos') (JU ta):=by
 intro pins s σ H Q I h;apply aQ (ha pins s σ H _ I h) λv s1 ⟨x,H1,I1,r1,q1⟩=>?_;exact Constant_none (is_none_gen #[.bl _,H1,I1,by rw[r1.jy];rfl,q1])
theorem ZG{j pos'}(ha:PE X a ta):PC X .IsNot a (.Constant .none j pos') (CA ta):=by
 intro pins s σ H Q I h;apply aQ (ha pins s σ H _ I h) λv s1 ⟨x,H1,I1,r1,q1⟩=>?_;exact Constant_none (isnot_none_gen #[.bl _,H1,I1,by rw[r1.jy];rfl,q1])
inductive PH (Q:Bool->Hp->Prop) (x:V) (H1:Hp):Prop
 |mk:∀c,x=.bl c->Q c H1->PH Q x H1
def tB(t:TE):TT:=λσ H Q=>t σ H λx H1=>PH Q x H1
theorem HS{op:CmpOp}{t:TE}(h:PC X op a b t)(h1:behindInMarks op b=false:=by first|exact jz _ (by decide) (by decide)|rfl):PE X (.Compare a [op] [b] pos) t:=λpins s σ H Q I hw=>wpAny_Compare1 (h pins s σ H Q I hw) h1
theorem tN{op:CmpOp}{t:TE}(h:PC X op a b t)(h1:behindInMarks op b=false:=by first|exact jz _ (by decide) (by decide)|rfl):PT X (.Compare a [op] [b] pos) (tB t):=by
 intro pins s σ H Q I hw;apply wpAny_isTrue_Compare1 (aQ (h pins s σ H _ I hw) λv s1 h1=>aQ h1 λu s2 h2=>aQ h2 λc s3 ⟨x,H1,I1,r1,q1⟩=>?_) h1;let#[d,rfl,q]:=q1;cases r1;exact uA #[H1,I1,q]
theorem e_{e:Expr}{t:TE}(h:PE X e t)(he:∀whole,isTrue e X.env whole=(do let v <- whole;standAt e.pos;holding [v] (truthy v)):=by intro _;rfl):PT X e (tB t):=by
 intro pins s σ H Q I hw;apply isTrue_plain (aQ (h pins s σ H _ I hw) λv s1 ⟨x,H1,I1,r1,q1⟩=>?_) (he _);let#[d,rfl,q]:=q1;cases r1;exact uA #[H1,I1,q]
variable{tA Gh:TT}{rest:List Expr}
def J1(t u:TT):TT:=λσ H Q=>t σ H λc H1=>if c=true then u σ H1 Q else Q false H1
def V7(t u:TT):TT:=λσ H Q=>t σ H λc H1=>if c=true then Q true H1 else u σ H1 Q
def JS(t:TT):TT:=λσ H Q=>t σ H λc H1=>Q (!c) H1
theorem MB(ha:PT X a tA):PW X (.BoolOp .And [a] pos) tA:=by
 intro wh pins s σ H Q I h;apply isTrue_and (aQ (ha pins s σ H Q I h) λc s1 e=>?_);cases c with
 |true=>exact isTrue_and_nil e
 |false=>exact e
theorem uN(ha:PT X a tA):PW X (.BoolOp .Or [a] pos) tA:=by
 intro wh pins s σ H Q I h;apply isTrue_or (aQ (ha pins s σ H Q I h) λc s1 e=>?_);cases c with
 |false=>exact isTrue_or_nil e
 |true=>exact e
theorem Ma(ha:PT X a tA)(hb:PW X (.BoolOp .And (b::rest) pos) Gh):PW X (.BoolOp .And (a::b::rest) pos) (J1 tA Gh):=by
 intro wh pins s σ H Q I h;apply isTrue_and (aQ (ha pins s σ H _ I h) λc s1 ⟨H1,I1,q1⟩=>?_);cases c with
 |true=>exact hb wh pins s1 σ H1 Q I1 q1
 |false=>exact#[H1,I1,q1]
theorem tq(ha:PT X a tA)(hb:PW X (.BoolOp .Or (b::rest) pos) Gh):PW X (.BoolOp .Or (a::b::rest) pos) (V7 tA Gh):=by
 intro wh pins s σ H Q I h;apply isTrue_or (aQ (ha pins s σ H _ I h) λc s1 ⟨H1,I1,q1⟩=>?_);cases c with
 |true=>exact#[H1,I1,q1]
 |false=>exact hb wh pins s1 σ H1 Q I1 q1
theorem fi(ha:PT X a tA):PT X (.UnaryOp .Not a pos) (JS tA):=by
 intro pins s σ H Q I h;exact isTrue_not (ha pins s σ H (λc H1=>Q (!c) H1) I h)
inductive qy (tb:TE) (σ:St) (Q:VK) (x:V) (H1:Hp):Prop
 |mk:∀c,x=.bl c->(if c=true then tb σ H1 Q else Q (.bl false) H1)->qy tb σ Q x H1
def CI(ta tb:TE):TE:=λσ H Q=>ta σ H λx H1=>qy tb σ Q x H1
inductive wW (tb:TE) (σ:St) (Q:VK) (x:V) (H1:Hp):Prop
 |mk:∀c,x=.bl c->(if c=true then Q (.bl true) H1 else tb σ H1 Q)->wW tb σ Q x H1
def JR(ta tb:TE):TE:=λσ H Q=>ta σ H λx H1=>wW tb σ Q x H1
inductive qt (Q:VK) (x:V) (H1:Hp):Prop
 |mk:∀c,x=.bl c->Q (.bl (!c)) H1->qt Q x H1
def Cz(ta:TE):TE:=λσ H Q=>ta σ H λx H1=>qt Q x H1
theorem uO{op}{t:TE}(h:PE X a t):PE X (.BoolOp op [a] pos) t:=λpins s σ H Q I hw=>BoolOp_one (h pins s σ H Q I hw)
theorem tJ(ha:PE X a ta)(hb:PE X (.BoolOp .And (b::rest) pos) tb):PE X (.BoolOp .And (a::b::rest) pos) (CI ta tb):=by
 intro pins s σ H Q I h;apply BoolOp_and (aQ (ha pins s σ H _ I h) λv s1 ⟨x,H1,I1,r1,q1⟩=>?_);let#[c,rfl,q1]:=q1;cases r1;apply uA ?_;cases c with
 |true=>exact hb pins s1 σ H1 Q I1 q1
 |false=>exact#[.bl false,H1,I1,U,q1]
theorem Yw(ha:PE X a ta)(hb:PE X (.BoolOp .Or (b::rest) pos) tb):PE X (.BoolOp .Or (a::b::rest) pos) (JR ta tb):=by
 intro pins s σ H Q I h;apply BoolOp_or (aQ (ha pins s σ H _ I h) λv s1 ⟨x,H1,I1,r1,q1⟩=>?_);let#[c,rfl,q1]:=q1;cases r1;apply uA ?_;cases c with
 |false=>exact hb pins s1 σ H1 Q I1 q1
 |true=>exact#[.bl true,H1,I1,U,q1]
theorem QR(ha:PE X a ta):PE X (.UnaryOp .Not a pos) (Cz ta):=by
 intro pins s σ H Q I h;apply UnaryOp_ (aQ (ha pins s σ H _ I h) λv s1 ⟨x,H1,I1,r1,q1⟩=>?_);let#[c,rfl,q1]:=q1;cases r1;exact not_of (uA #[.bl (!c),H1,I1,U,q1])
def V8(t:TT)(ta tb:TE):TE:=λσ H Q=>t σ H λc H1=>if c=true then ta σ H1 Q else tb σ H1 Q
theorem _b{c:Expr}(hc:PT X c tA)(ha:PE X a ta)(hb:PE X b tb):PE X (.IfExp c a b pos) (V8 tA ta tb):=by
 intro pins s σ H Q I h;apply wpAny_IfExp (aQ (hc pins s σ H _ I h) λd s1 ⟨H1,I1,q1⟩=>?_);cases d with
 |true=>exact ha pins s1 σ H1 Q I1 q1
 |false=>exact hb pins s1 σ H1 Q I1 q1
end
end L2
namespace L2
open PySem PySem.Spec PyProof.Rows
def dZ(K:aj)(H:Hp)(a:Addr)(xs:ai):Prop:=
 Rd H a (.lst xs) ∨
  ∃(o:Obj) (its:Array Aa) (n:Nat),K.lookup a\o/\o.cls=.type "list"/\o.dict=none/\o.data=.seq its n/\its.size<=sizeLine/\Vals xs its.toList
def fH(K:aj)(H:Hp)(a:Addr)(xs:ai):Prop:=
 Rd H a (.tup xs) ∨
  ∃(o:Obj) (its:Array Aa) (n:Nat),K.lookup a\o/\o.cls=.type "tuple"/\o.data=.seq its n/\its.size<=sizeLine/\Vals xs its.toList
def O6:Aa->aE
 |.none=>some .non
 |.bool b=>some (.bl b)
 |.int i _=>some (.int i)
 |.str x _=>some (.str x)
 |.bytes b _=>some (.byt b)
 |.float b _=>some (.flt b)
 |.ref a=>some (.ref a)
 |.type n=>some (.ty n)
 |_=>none
theorem RelV.abs{x:V}{u:Aa}(r:RelV x u):O6 u\x:=by
 cases x with
 |non=>cases r;rfl
 |bl _=>cases r;rfl
 |int _=>let#[t,rfl]:=r;rfl
 |str _=>let#[t,rfl]:=r;rfl
 |byt _=>let#[t,rfl]:=r;rfl
 |flt _=>let#[t,rfl]:=r;rfl
 |ref _=>cases r;rfl
 |ty _=>cases r;rfl
theorem RelV.inj{x y:V}{u:Aa}(r:RelV x u)(q:RelV y u):x=y:=cu (r.abs.symm.trans q.abs)
theorem Vals.inj:∀{xs ys:ai} {us:ag},Vals xs us->Vals ys us->xs=ys
 |_,_,_,.nil,.nil=>rfl
 |_,_,_,.cons r t,.cons r' t'=>by rw[r.inj r',Vals.inj t t']
section
variable{X:Cx}{pins:List (Addr × Obj)}{σ:St}{H:Hp}{s:Ab}{a:Addr}{xs ys:ai}
theorem dZ.of{K:aj}(h:H a\.lst xs):dZ K H a xs:=.inl (.inl h)
theorem fH.of{K:aj}(h:H a\.tup xs):fH K H a xs:=.inl (.inl h)
theorem Inv.list(I:Inv X pins σ H s)(h:dZ X.K H a xs):∃its:ag,Vals xs its/\PlainL s.heap a its.toArray/\xs.length<=sizeLine:=by
 rcases h with h|⟨o,its,n,hk,hc,hd,hs,hz,r⟩
 ·let#[z,its,n,r,e]:=h.ok I.ay;exact#[its,r,#[_,n,e,U,U,U],z]
 apply#[its.toList,r,#[o,n,I.gN a o hk,hc,hd,by simpa using hs],?_];let e:=r.length;simp only[pE] at e;omega
theorem Inv.tuple(I:Inv X pins σ H s)(h:fH X.K H a xs):∃its:ag,Vals xs its/\IsTup s.heap a its.toArray/\xs.length<=sizeLine:=by
 rcases h with h|⟨o,its,n,hk,hc,hs,hz,r⟩
 ·let#[z,its,r,p,_]:=h.ok I.ay;exact#[its,r,p,z]
 apply#[its.toList,r,#[o,I.gN a o hk,hc,n,by simpa using hs],?_];let e:=r.length;simp only[pE] at e;omega
theorem Inv.jC(I:Inv X pins σ H s)(h:dZ X.K H a xs)(h':dZ X.K H a ys):xs=ys:=by
 let#[its,r,#[o,n,e,_,_,d],_]:=I.list h;let#[its',r',#[o',n',e',_,_,d'],_]:=I.list h';rw[e] at e';cases e';rw[d] at d'
 injection d' with d1 _
 have:its=its':=⇑(eG Array.toList d1)
 subst this;exact r.inj r'
theorem Inv.dS(I:Inv X pins σ H s)(h:fH X.K H a xs)(h':fH X.K H a ys):xs=ys:=by
 let#[its,r,#[o,e,_,n,d],_]:=I.tuple h;let#[its',r',#[o',e',_,n',d'],_]:=I.tuple h';rw[e] at e';cases e';rw[d] at d'
 injection d' with d1 _
 have:its=its':=⇑(eG Array.toList d1)
 subst this;exact r.inj r'
end
abbrev Cx.ig(X:Cx)(E:Aa->Ab->Prop):Cx:={ X with xe:=E }
abbrev Cx.xr(X:Cx):Cx:=X.ig λ_ _=>False
theorem Cx.Ok.ig{X:Cx}(ok:X.Ok)(E:Aa->Ab->Prop):(X.ig E).Ok:=
 #[ok.mod,ok.kind,ok.glob,ok.blt,ok.above,ok.inj,ok.has,ok.BJ,ok.hd,ok.frames,ok.Gi,ok.Hn,ok.bs,ok.tL,ok.rY,ok.sU,ok.f_,ok.vU]
theorem Cx.Ok.eQ{X:Cx}{E:Aa->Ab->Prop}(ok:(X.ig E).Ok):X.Ok:=
 #[ok.mod,ok.kind,ok.glob,ok.blt,ok.above,ok.inj,ok.has,ok.BJ,ok.hd,ok.frames,ok.Gi,ok.Hn,ok.bs,ok.tL,ok.rY,ok.sU,ok.f_,ok.vU]
section
variable{X:Cx}{pins:List (Addr × Obj)}{σ:St}{H:Hp}{s:Ab}{E:Aa->Ab->Prop}
theorem Inv.ig(I:Inv X pins σ H s)(E:Aa->Ab->Prop):Inv (X.ig E) pins σ H s:=#[I.ok.ig E,I.os,I.bare,I.base,I.loc,I.cell,I.free,I.eg,I.pin,I.ay,I.len]
theorem Inv.eQ(I:Inv (X.ig E) pins σ H s):Inv X pins σ H s:=#[I.ok.eQ,I.os,I.bare,I.base,I.loc,I.cell,I.free,I.eg,I.pin,I.ay,I.len]
theorem SP.eQ{D:Ends}{f:Flow}{s':Ab}(h:SP (X.ig E) pins D f s'):SP X pins D f s':=by
 cases f with
 |next=>let#[aV,H',I,q]:=h;exact#[aV,H',I.eQ,q]
 |brk=>let#[aV,H',I,q]:=h;exact#[aV,H',I.eQ,q]
 |cont=>let#[aV,H',I,q]:=h;exact#[aV,H',I.eQ,q]
 |ret u=>let#[v,aV,H',I,r,q]:=h;exact#[v,aV,H',I.eQ,r,q]
theorem jX.xr{st:List Stmt}{t:TS}(h:jX X.xr st t):jX X st t:=λpins s σ H D I hw=>
 wpAny_mono (h pins s σ H D (I.ig _) hw) (λ_ _ q=>q.eQ) λ_ _ z=>False.elim z
end
section
variable{X:Cx}{st:Stmt}{rest:List Stmt}{t u:TS}{e:Expr}{te:TE}{pos:Pos}
def CB:TS:=λD σ H=>D.nx σ H
def uZ(t u:TS):TS:=λD σ H=>t { D with nx:=u D } σ H
theorem cm:jX X [] CB:=λ_ _ σ H _ I h=>wpAny_execs_nil #[σ,H,I,h]
theorem aw(h1:PS X st t)(h2:jX X rest u):jX X (st::rest) (uZ t u):=by
 intro pins s σ H D I h;apply wpAny_execs_cons (aQ (h1 pins s σ H { D with nx:=u D } I h) λf s1 q=>?_);cases f with
 |next=>
  let#[aV,H',I',q]:=q;exact h2 pins s1 aV H' D I' q
 |ret v=>exact q
 |brk=>exact q
 |cont=>exact q
theorem aF(h1:PS X st t):jX X [st] t:=by
 intro pins s σ H D I h;apply wpAny_execs_cons (aQ (h1 pins s σ H D I h) λf s1 q=>?_);cases f with
 |next=>exact wpAny_execs_nil q
 |ret v=>exact q
 |brk=>exact q
 |cont=>exact q
theorem Inv.quiet{pins:List (Addr × Obj)}{σ:St}{H:Hp}{s:Ab}(I:Inv X pins σ H s):interactive X.env=false:=by simp[interactive,I.ok.kind]
def CD(te:TE):TS:=λD σ H=>te σ H λ_ H1=>D.nx σ H1
theorem kG(he:PE X e te)(hs:swapsWith e none pos.line X.env=pure false:=by rfl):PS X (.Expr e pos) (CD te):=by
 intro pins s σ H D I h;exact wpAny_Expr_any (aQ (he pins s σ H _ I h) λv s1 ⟨x,H1,I1,r1,q1⟩=>#[σ,H1,I1,q1]) I.quiet hs
def JQ(te:TE):TS:=λD σ H=>te σ H D.rt
theorem bx(he:PE X e te):PS X (.Return (some e) pos) (JQ te):=by
 intro pins s σ H D I h;exact wpAny_Return_some (aQ (he pins s σ H _ I h) λv s1 ⟨x,H1,I1,r1,q1⟩=>#[x,σ,H1,I1,r1,q1])
def JV(c:TT)(t u:TS):TS:=λD σ H=>c σ H λb H1=>if b=true then t D σ H1 else u D σ H1
theorem cg{c:Expr}{a b:List Stmt}{tc:TT}(hc:PT X c tc)(ha:jX X a t)(hb:jX X b u):PS X (.If c a b pos) (JV tc t u):=by
 intro pins s σ H D I h;apply wpAny_If (aQ (hc pins s σ H _ I h) λd s1 ⟨H1,I1,q1⟩=>?_);cases d with
 |true=>exact ha pins s1 σ H1 D I1 q1
 |false=>exact hb pins s1 σ H1 D I1 q1
def yr:TS:=λ_ _ _=>False
theorem gj{Wf:List Stmt}:jX X Wf yr:=λ_ _ _ _ _ _ h=>h.elim
end
abbrev TG:=V->St->Hp->(St->Hp->Prop)->Prop
abbrev A2:=ai->St->Hp->(St->Hp->Prop)->Prop
def PG(X:Cx)(target:Expr)(t:TG):Prop:=
 ∀(pins:List (Addr × Obj)) (s:Ab) (σ:St) (H:Hp) (v:V) (u:Aa) (Q:mU),Inv X pins σ H s->RelV v u->t v σ H Q->
  wpAny (model X.prog X.w) X.A (assign target X.env u) (λ_ s'=>∃aV H',Inv X pins aV H' s'/\Q aV H') X.xe s
def FZ(X:Cx)(ts:List Expr)(t:A2):Prop:=
 ∀(pins:List (Addr × Obj)) (s:Ab) (σ:St) (H:Hp) (vs:ai) (us:ag) (Q:mU),Inv X pins σ H s->Vals vs us->t vs σ H Q->
  wpAny (model X.prog X.w) X.A (assignInOrder ((assignEach ts X.env).map (·.2)) us) (λ_ s'=>∃aV H',Inv X pins aV H' s'/\Q aV H') X.xe s
abbrev A1:=V->V->V->Hp->(Hp->Prop)->Prop
def FY(X:Cx)(t:A1):Prop:=
 ∀(pins:List (Addr × Obj)) (s:Ab) (σ:St) (H:Hp) (o i v:V) (ov iv u:Aa) (Q:Hp->Prop),Inv X pins σ H s->RelV o ov->RelV i iv->RelV v u->t o i v H Q->
  wpAny (model X.prog X.w) X.A (setItem ov iv u) (λ_ s'=>∃H',Inv X pins σ H' s'/\Q H') X.xe s
section
variable{X:Cx}{pos:Pos}
def ku(i:Nat):TG:=λv σ H Q=>Q (σ.set i (some v)) H
theorem gh{i:Nat}{x:Str}(hN:X.N.Nodup)(hi:X.N[i]? = some x)(hx:Loc X.env.scope x)(hf:X.fn x=true∨X.env.scope.names.lookup x\.local:=by first|exact .inl U|exact .inr U|assumption):PG X (.Name x pos) (ku i):=by
 intro pins s σ H v u Q I r h;exact wpAny_assign_Name (Tz I hN hi hx r (λs' I'=>#[_,H,I',h]) hf)
theorem kC:type_of% PyProof.Rows.Boot.«isinstance»:=PyProof.Rows.Boot.«isinstance»
theorem L9:type_of% PyProof.Rows.Boot.«int»:=PyProof.Rows.Boot.«int»
theorem HQ:type_of% PyProof.Rows.Boot.«str»:=PyProof.Rows.Boot.«str»
theorem wJ:type_of% PyProof.Rows.Boot.«tuple»:=PyProof.Rows.Boot.«tuple»
theorem AS:type_of% PyProof.Rows.Boot.«list»:=PyProof.Rows.Boot.«list»
theorem Jh:type_of% PyProof.Rows.Boot.«sorted»:=PyProof.Rows.Boot.«sorted»
theorem uH:type_of% PyProof.Rows.Boot.«dict»:=PyProof.Rows.Boot.«dict»
theorem P_(i:Nat){x:Str}(hN:X.N.Nodup:=by first|(show ([_]:List Str).Nodup;decide +kernel)|(show ([_,_]:List Str).Nodup;decide +kernel)|(show ([_,_,_]:List Str).Nodup;decide +kernel)|(show ([_,_,_,_]:List Str).Nodup;decide +kernel))(hi:X.N[i]? = some x:=by rfl)(hx:Loc X.env.scope x:=by first|exact Or.inl U|exact Or.inr U)(hf:X.fn x=true∨X.env.scope.names.lookup x\.local:=by first|exact .inl U|exact .inr U|assumption):PG X (.Name x pos) (ku i):=gh hN hi hx hf
theorem cq(i:Nat){x:Str}(hN:X.N.Nodup)(hi:X.N[i]? = some x:=by rfl)(hx:Loc X.env.scope x:=by first|exact Or.inl U|exact Or.inr U)(hf:X.fn x=true∨X.env.scope.names.lookup x\.local:=by first|exact .inl U|exact .inr U|assumption):PG X (.Name x pos) (ku i):=gh hN hi hx hf
def sT:A2:=λvs σ H Q=>vs=[]/\Q σ H
inductive pV (t:TG) (u:A2) (vs:ai) (σ:St) (H:Hp) (Q:mU):Prop
 |mk:∀v r,vs=v::r->(t v σ H λaV H'=>u r aV H' Q)->pV t u vs σ H Q
theorem iM:FZ X [] sT:=by
 intro pins s σ H vs us Q I r h;let#[e,h]:=h;subst e;cases r;exact assignInOrder_nil ⟨σ,H,I,h⟩
theorem dG{e:Expr}{es:List Expr}{t:TG}{u:A2}(h1:PG X e t)(h2:FZ X es u)
  (hs:(assignEach (e::es) X.env).map (·.2)=assign e X.env::(assignEach es X.env).map (·.2):=by rfl):FZ X (e::es) (pV t u):=by
 intro pins s σ H vs us Q I r h;let#[v,vr,e1,h]:=h;subst e1;cases r with
 |cons r rr=>
  rw[hs];apply assignInOrder_cons (aQ (h1 pins s σ H _ _ _ I r h) λ_ s1 ⟨mY,H1,I1,q1⟩=>?_);exact h2 pins s1 mY H1 _ _ Q I1 rr q1
inductive gO (K:aj) (n:Nat) (t:A2) (v:V) (σ:St) (H:Hp) (Q:mU):Prop
 |mk:∀a xs,v=.ref a->fH K H a xs->xs.length=n->t xs σ H Q->gO K n t v σ H Q
theorem kz{es:List Expr}{k:Nat}{t:A2}{n:Nat}(hc:X.calm=true)(h:FZ X es t)
  (hn:(assignEach es X.env).length=n:=by rfl) (lZ:(assignEach es X.env).findIdx? (·.1)=none:=by rfl):PG X (.Tuple es k pos) (gO X.K n t):=by
 intro pins s σ H v u Q I r hw;let#[a,xs,e1,hq,hl,hw]:=hw;subst e1;cases r;let#[its,rv,ht,hz]:=I.tuple hq;apply assign_Tuple_tuple (I.ok.hd hc) ht (by simp[hn,<- hl,rv.length]) lZ λh' hx=>?_;have I1:Inv X pins σ H { s with heap:=h' }:=I.kept (t':=s.toks) λb o e=>hx b o (dC (bp e)) e;exact h pins _ σ H xs _ Q I1 ⇑rv hw
def Mh(to ti:TE)(t:A1):TG:=λv σ H Q=>to σ H λo H1=>ti σ H1 λi H2=>t o i v H2 λH3=>Q σ H3
theorem Q3{o i:Expr}{to ti:TE}{t:A1}(ho:PE X o to)(hi:PE X i ti)(hs:FY X t)
  (ha:∀v,assign (.Subscript o i pos) X.env v=(do
   let ov <- holding [v] (eval o X.env)
   let iv <- holding [v,ov] (eval i X.env)
   standAt pos
   holding [v,ov,iv] (setItem ov iv v)
   release [v,ov,iv] []):=by intro _;rfl):PG X (.Subscript o i pos) (Mh to ti t):=by
 intro pins s σ H v u Q I r h;rw[ha];apply af (iK (aQ (ho pins s σ H _ I h) λov s1 ⟨x,H1,I1,r1,q1⟩=>?_));apply af (iK (aQ (hi pins s1 σ H1 _ I1 q1) λiv s2 ⟨y,H2,I2,r2,q2⟩=>?_));apply af (wpAny_standAt (af (iK (aQ (hs pins s2 σ H2 x y v ov iv u _ I2 r1 r2 r q2) λ_ s3 ⟨H3,I3,q3⟩=>?_))));exact wpAny_release #[σ,H3,I3,q3]
def yy(te:TE)(g:TG):TS:=λD σ H=>te σ H λx H1=>g x σ H1 D.nx
theorem Ml{tg e:Expr}{te:TE}{g:TG}(he:PE X e te)(hg:PG X tg g)(hs:swapsWithSole [tg] e pos.line X.env=pure false:=by rfl)(hw:swappedStores [tg] e X.env=pure none:=by rfl)
  (h1:(assignEach [tg] X.env).map (·.2)=[assign tg X.env]:=by rfl):PS X (.Assign [tg] e pos) (yy te g):=by
 intro pins s σ H D I h;apply wpAny_Assign_stores (aQ (he pins s σ H _ I h) λv s1 ⟨x,H1,I1,r1,q1⟩=>?_) hs hw;rw[h1];exact aQ (hg pins s1 σ H1 x v _ I1 r1 q1) λ_ s2 q=>q
theorem YQ{i:Nat}{x:Str}{e:Expr}{te:TE}{pos':Pos}(hN:X.N.Nodup)(hi:X.N[i]? = some x)(hx:Loc X.env.scope x)(he:PE X e te)(hs:swapsWith e (some (.Name x pos')) pos.line X.env=pure false:=by rfl)(hf:X.fn x=true∨X.env.scope.names.lookup x\.local:=by first|exact .inl U|exact .inr U|assumption) :
  PS X (.Assign [.Name x pos'] e pos) (yy te (ku i)):=by
 intro pins s σ H D I h;apply wpAny_Assign_Name (aQ (he pins s σ H _ I h) λv s1 ⟨y,H1,I1,r1,q1⟩=>?_) hs;exact Tz I1 hN hi hx r1 (λs2 I2=>#[_,H1,I2,q1]) hf
theorem bo(i:Nat){x:Str}{e:Expr}{te:TE}{pos':Pos}(hN:X.N.Nodup)(he:PE X e te)(hi:X.N[i]? = some x:=by rfl)(hx:Loc X.env.scope x:=by first|exact Or.inl U|exact Or.inr U)(hs:swapsWith e (some (.Name x pos')) pos.line X.env=pure false:=by rfl)(hf:X.fn x=true∨X.env.scope.names.lookup x\.local:=by first|exact .inl U|exact .inr U|assumption):PS X (.Assign [.Name x pos'] e pos) (yy te (ku i)):=YQ hN hi hx he hs hf
end
section
variable{X:Cx}{pos:Pos}
def ql(c:TT)(tb:TS):TS:=λD σ H=>∃W:Nat->St->Hp->Prop,(∃m,W m σ H)/\∀m σ H,W m σ H->
 c σ H λb H1=>if b=true then ∃N:St->Hp->Prop,(∀aV H',N aV H'->∃m',m'<m/\W m' aV H')/\tb { D with nx:=N,ct:=N,bk:=D.nx } σ H1 else D.nx σ H1
theorem FP{c:Expr}{body:List Stmt}{tc:TT}{tb:TS}(hp:PassesOwn (model X.prog X.w) X.A X.env X.xe)(hc:PT X c tc)(hb:jX X body tb):PS X (.While c body [] pos) (ql tc tb):=by
 intro pins s σ H D I h;let#[W,#[m0,w0],turn]:=h;apply wpAny_While (codeAny_whileLoop (λn s'=>∃aV H',Inv X pins aV H' s'/\W n aV H') ?_ m0 #[σ,H,I,w0]);rintro n s1 ⟨mY,H1,I1,w1⟩;apply wpAny_passesOwn hp (aQ (hc pins s1 mY H1 _ I1 (turn n mY H1 w1)) λb s2 ⟨H2,I2,q2⟩=>?_);cases b with
 |true=>
  let#[N,hN,q2]:=q2;rw[aJ U];apply wpAny_passesOwn hp (aQ (hb pins s2 mY H2 _ I2 q2) λf s3 q3=>?_);cases f with
  |next=>
   let#[ka,H3,I3,n3]:=q3;let#[m',hm,w3]:=hN ka H3 n3;exact#[m',hm,ka,H3,I3,w3]
  |cont=>
   let#[ka,H3,I3,n3]:=q3;let#[m',hm,w3]:=hN ka H3 n3;exact#[m',hm,ka,H3,I3,w3]
  |brk=>exact q3
  |ret v=>exact q3
 |false=>
  rw[aB gc];exact wpAny_execs_nil #[mY,H2,I2,q2]
end
structure It where
 go:Nat->Hp->Prop
 uU:Nat->Hp->V->Hp->Prop
 stop:Nat->Hp->Prop
def dk(X:Cx)(pins:List (Addr × Obj))(H:Hp)(b:Addr):Prop:=
 H b=none/\b≠X.env.locals/\b∉X.fs/\(b∈X.ex∨X.dc.heap.objs.size<=b)/\(∀x c,X.env.cells.lookup x\c->c≠b)/\∀p∈X.pn++pins,p.1≠b
theorem Inv.jI{X:Cx}{pins:List (Addr × Obj)}{σ:St}{H H':Hp}{s:Ab}{b:Addr}(I:Inv X pins σ H s)(hb:s.heap.objs.size<=b)(hn:H' b=none):dk X pins H' b:=by
 apply#[hn,i_ (ja I.lt hb),I.Ks hb,.inr (gm I.sz hb),λx c e z=>?_,λp hp z=>?_]
 ·let#[v,q]:=I.cell x c e;exact absurd (ja q.lt (by rw[z];exact hb)) (tT _)
 exact absurd (ja (bp (I.pin p hp).1) (by rw[z];exact hb)) (tT _)
structure Turn (P:Ad) (w:Af) (K:aj) (tg:Expr) (J:It) (fp:ao) (it:Addr) (tn:Nat->Heap->Prop):Prop where
 mem:it∈fp
 obj:∀i h,tn i h->∀b∈fp,∃o,h.get? b\o/\∀v,o.data≠.cell v
 keep:∀i h h',tn i h->(∀b∈fp,∀o,h.get? b\o->h'.get? b\o)->tn i h'
 item:∀(X:Cx),X.prog=P->X.w=w->X.K=K->X.calm=true->∀(i:Nat) (pins:List (Addr × Obj)) (s:Ab) (σ:St) (H:Hp) (E:Aa->Ab->Prop),Inv X pins σ H s->(∀b∈fp,dk X pins H b)->tn i s.heap->J.go i H->
  wpAny (model P w) X.A (pyNext (.ref it)) (λr s1=>∃u,r\u /\
   wpAny (model P w) X.A (letOwnedTupleGo tg (.ref it) u) (λ_ s2=>∃x H',Inv X pins σ H' s2/\RelV x u/\J.uU i H x H'/\tn (i+1) s2.heap/\∀b∈fp,H' b=none) E s1) E s
 done:∀(X:Cx),X.prog=P->X.w=w->X.K=K->X.calm=true->∀(i:Nat) (pins:List (Addr × Obj)) (s:Ab) (σ:St) (H:Hp) (E:Aa->Ab->Prop),Inv X pins σ H s->(∀b∈fp,dk X pins H b)->tn i s.heap->J.stop i H->
  wpAny (model P w) X.A (pyNext (.ref it)) (λr s1=>r=none/\Inv X pins σ H s1) E s
 self:∀(A:Ag) (i:Nat) (s:Ab) (Q:Aa->Ab->Prop) (E:Aa->Ab->Prop),tn i s.heap->Q (.ref it) s->wpAny (model P w) A (pyIter (.ref it)) Q E s
abbrev TI:=St->Hp->(It->Hp->Prop)->Prop
def U8(X:Cx)(pins:List (Addr × Obj))(σ:St)(tg:Expr)(R:It->Hp->Prop)(GO:Aa)(s2:Ab):Prop:=
 ∃(it:Addr) (fp:ao) (tn:Nat->Heap->Prop) (J:It) (H':Hp),GO=.ref it/\Inv X pins σ H' s2/\Turn X.prog X.w X.K tg J fp it tn/\tn 0 s2.heap/\(∀b∈fp,dk X pins H' b)/\R J H'
def PI(X:Cx)(tg iter:Expr)(wi:TI):Prop:=
 ∀(pins:List (Addr × Obj)) (s:Ab) (σ:St) (H:Hp) (R:It->Hp->Prop),Inv X pins σ H s->wi σ H R->
  wpAny (model X.prog X.w) X.A (eval iter X.env) (λv s1=>wpAny (model X.prog X.w) X.A (pyIter v) (U8 X pins σ tg R) X.xe s1) X.xe s
theorem GS{M:Model}{A:Ag}{E:Aa->Ab->Prop}{s:Ab}{tg:Expr}{it:Addr}{u:Aa}{o:Obj}{n:String}{vs:Array Aa}{Q:Unit->Ab->Prop}(ho:s.heap.get? it\o)(hc:o.cls=.type n)(hd:o.data=.fields vs)
  (hn:["enumerate","zip","dict_itemiterator","dict_reverseitemiterator","odict_iterator","itertools.zip_longest","itertools.pairwise"].contains n=false) (hQ:Q () s):wpAny M A (letOwnedTupleGo tg (.ref it) u) Q E s:=by
 unfold letOwnedTupleGo
 cases tg<;>first
  |exact aC hQ
  |(cases u<;>first
    |exact aC hQ
    |(apply af (wpAny_load ho ?_)
      rw[hc,hd];show wpAny M A (if (["enumerate","zip","dict_itemiterator","dict_reverseitemiterator","odict_iterator","itertools.zip_longest","itertools.pairwise"].contains n&&vs[0]? == some (rawInt _))=true then _ else _) Q E s;rw[aB (by intro h;rw[hn,Bool.false_and] at h;cases h)];exact aC hQ))
def yi(K:aj)(a:Addr):It:=
 ⟨λi H=>∃xs x,dZ K H a xs/\xs[i]? = some x,λi H x H'=>H'=H/\∀xs,dZ K H a xs->xs[i]? = some x,λi H=>∃xs,dZ K H a xs/\xs.length<=i⟩
def B3(lo:Int)(n:Nat):It:=⟨λi _=>i<n,λi H x H'=>H'=H/\x=.int (lo+i),λi _=>n<=i⟩
theorem fZ_{P:Ad}{w:Af}{K:aj}{tg:Expr}(a it:Addr):Turn P w K tg (yi K a) [it] it (λi h=>h.IsListIter it a i) where
 mem:=by simp
 obj:=λi h st b hb=>by
  have e:b=it:=⇑hb
  subst e;let#[o,e,c,d]:=st;exact#[o,e,λv z=>by rw[d] at z;cases z]
 keep:=λi h h' st k=>st.at λo e=>k it Z2 o e
 item:=by
  intro X hP hw hK hc i pins s σ H E I hf st hg;subst hP hw hK;let#[xs,x,hq,hx]:=hg;let#[its,rv,p,hz]:=I.list hq;let#[u,hu,ru]:=rv.get hx;let#[f0,f1,f2,f3,f4,f5]:=hf it Z2;apply wpAny_pyNext_list_item st p.isList (x:=u) ⇑hu λh' fI sb=>?_;have I1:Inv X pins σ H { s with heap:=h' }:=I.turned (t':=s.toks) (λb o hb e=>(sb.2 b hb).trans e) f0 f1 f3 f4 f5;let#[o,e,c,d]:=id fI;exact#[u,U,GS (s:={ s with heap:=h' }) e c d (by decide) #[x,H,I1,ru,#[U,λys hy=>by rw[I.jC hy hq];exact hx],fI,λb hb=>(hf b hb).1]]
 done:=by
  intro X hP hw hK hc i pins s σ H E I hf st hg;subst hP hw hK;let#[xs,hq,hx]:=hg;let#[its,rv,p,hz]:=I.list hq;let#[f0,f1,f2,f3,f4,f5]:=hf it Z2;let hl:=rv.length;exact wpAny_pyNext_list_end (I.ok.hd hc) st p.isList (by simp;omega) λh' eb=>#[U,I.turned (t':=s.toks) (λb o hb e=>eb b o hb e) f0 f1 f3 f4 f5]
 self:=λ_ _ _ _ _ st h=>wpAny_pyIter_listiter st h
theorem fK_{P:Ad}{w:Af}{K:aj}{tg:Expr}(it:Addr)(lo:Int)(n:Nat):Turn P w K tg (B3 lo n) [it] it (λi h=>IsRangeIter h it (lo+(i:Nat) * 1) ((n:Int) - (i:Nat)) 1) where
 mem:=by simp
 obj:=λi h st b hb=>by
  have e:b=it:=⇑hb
  subst e
  exact#[_,st,λv z=>by
   have z':Data.fields _=Data.cell v:=z;cases z']
 keep:=λi h h' st k=>k it Z2 _ st
 item:=by
  intro X hP hw hK hc i pins s σ H E I hf st hg;subst hP hw hK;let#[f0,f1,f2,f3,f4,f5]:=hf it Z2;let W:=Walks.range (prog:=X.prog) (w:=X.w) (I.ok.hd hc) it lo 1 n;apply W.item i s _ _ hg st λv h' tk hv fI kk=>?_;let#[t,rfl]:=hv;have I1:Inv X pins σ H { s with heap:=h',toks:=tk }:=I.turned (λb o hb e=>kk b o ⇑hb e) f0 f1 f3 f4 f5;apply#[_,U,GS (s:={ s with heap:=h',toks:=tk }) (n:="range_iterator") fI U U (by decide) #[.int (lo+i),H,I1,#[t,?_],#[U,U],fI,λb hb=>(hf b hb).1]];rw[Int.mul_one]
 done:=by
  intro X hP hw hK hc i pins s σ H E I hf st hg;subst hP hw hK;let#[f0,f1,f2,f3,f4,f5]:=hf it Z2;exact wpAny_pyNext_range_end (I.ok.hd hc) st (by have:n<=i:=hg;omega) λh' eb=>#[U,I.turned (t':=s.toks) (λb o hb e=>eb b o hb e) f0 f1 f3 f4 f5]
 self:=λ_ _ _ _ _ st h=>wpAny_pyIter_rangeiter st h
end L2
namespace L2
open PySem PySem.Spec PyProof.Rows
section
variable{X:Cx}{tg:Expr}
inductive sG (K:aj) (R:It->Hp->Prop) (x:V) (H1:Hp):Prop
 |mk:∀a,x=.ref a->(∃xs,dZ K H1 a xs)->R (yi K a) H1->sG K R x H1
def D4(K:aj)(tl:TE):TI:=λσ H R=>tl σ H λx H1=>sG K R x H1
theorem dE{l:Expr}{tl:TE}(hl:PE X l tl):PI X tg l (D4 X.K tl):=by
 intro pins s σ H R I h;apply aQ (hl pins s σ H _ I h) λv s1 ⟨x,H1,I1,r1,q1⟩=>?_;let#[a,e,#[xs,hq],q]:=q1;subst e;cases r1;let#[its,rv,p,hz]:=I1.list hq;apply wpAny_pyIter_list p.isList ?_;apply#[s1.heap.objs.size,[s1.heap.objs.size],_,_,H1,U,I1.kept (t':=s1.toks) λb o e=>aS _ e,fZ_ a _,#[_,cy _ U,U,U],λb hb=>?_,q];have e:b=s1.heap.objs.size:=⇑hb
 subst e;exact I1.jI (bc _) (I1.ay.fresh (bc _))
theorem hY_{pins:List (Addr × Obj)}{σ:St}{H:Hp}{s:Ab}{R:It->Hp->Prop}{E:Aa->Ab->Prop}{lo hi:Int}{t u v:Tok}{tk:Nat}(I:Inv X pins σ H s)(h1:-(2 ^ 62)<=lo)(h2:lo<2 ^ 62)(h3:-(2 ^ 62)<=hi)(h4:hi<2 ^ 62)
  (q:R (B3 lo (hi - lo).toNat) H):wpAny (model X.prog X.w) X.A (pyIter (.ref s.heap.objs.size)) (U8 X pins σ tg R) E { s with heap:=s.heap.push { cls:=.type "range",data:=.fields (List.toArray [.int lo t,.int hi u,.int 1 v]) },toks:=tk }:=by
 apply wpAny_pyIter_range (IsRange.new ..) (small_one h1 h2 h3 h4) ?_;have I1:Inv X pins σ H { s with heap:=s.heap.push { cls:=.type "range",data:=.fields (List.toArray [.int lo t,.int hi u,.int 1 v]) },toks:=tk }:=I.kept λb o e=>aS _ e
 apply#[(s.heap.push { cls:=.type "range",data:=.fields (List.toArray [.int lo t,.int hi u,.int 1 v]) }).objs.size,[(s.heap.push { cls:=.type "range",data:=.fields (List.toArray [.int lo t,.int hi u,.int 1 v]) }).objs.size],_,_,H,U,
  I1.kept (t':=tk) λb o e=>aS _ e,fK_ _ lo (hi - lo).toNat,?_,λb hb=>?_,q]
 ·have e1:lo+((0:Nat):Int) * 1=lo:=by simp
  have e2:(((hi - lo).toNat:Nat):Int) - ((0:Nat):Int)=Builtin.Range.rangeSize lo hi 1:=by rw[rangeSize_one];split<;>omega
  show IsRangeIter _ _ (lo+((0:Nat):Int) * 1) ((((hi - lo).toNat:Nat):Int) - ((0:Nat):Int)) 1;rw[e1,e2];exact cy _ U
 have e:b=(s.heap.push { cls:=.type "range",data:=.fields (List.toArray [.int lo t,.int hi u,.int 1 v]) }).objs.size:=⇑hb
 subst e;exact I1.jI (bc _) (I1.ay.fresh (bc _))
inductive sr (R:It->Hp->Prop) (vs:ai) (H1:Hp):Prop
 |mk:∀j:Int,vs=[.int j]->-(2 ^ 62)<=j->j<2 ^ 62->R (B3 0 j.toNat) H1->sr R vs H1
def D3(ta:TA):TI:=λσ H R=>ta σ H λvs H1=>sr R vs H1
theorem AL{a:Expr}{ta:TA}{p pos:Pos}(hg:Gl X "range")(hm:X.mg "range"=none)(ha:PA X [a] ta)(hs:starEach [a] X.env=[(false,eval a X.env)]:=by rfl):PI X tg (.Call (.Name "range" p) [a] [] pos) (D3 ta):=by
 intro pins s σ H R I h;apply Call_ (wB I hg hm boot_range (BK (aQ (ha pos pins s σ H _ I h) λus s1 ⟨vs,H1,I1,r1,q1⟩=>?_) hs U));let#[j,e,q1,q2,q]:=q1;subst e;cases r1 with
 |cons r rr=>
  cases rr;let#[t,rfl]:=r;exact call_range_1 (hY_ I1 Z1 Z1 q1 q2 ⇑q)
def JW(wi:TI)(g:TG)(tb:TS):TS:=λD σ H=>wi σ H λJ H1=>∃W:Nat->Nat->St->Hp->Prop,(∃m,W 0 m σ H1)/\∀i m σ H,W i m σ H->
 (J.stop i H/\D.nx σ H)∨(J.go i H/\∃N:St->Hp->Prop,(∀aV H',N aV H'->∃m',m'<m/\W (i+1) m' aV H')/\∀x H',J.uU i H x H'->g x σ H' λgn H2=>tb { D with nx:=N,ct:=N,bk:=D.nx } gn H2)
def wI(fp:ao)(h:Heap):List (Addr × Obj):=fp.filterMap λb=>(h.get? b).map λo=>(b,o)
theorem Jk{fp:ao}{h:Heap}{b:Addr}{o:Obj}(hb:b∈fp)(e:h.get? b\o):(b,o)∈wI fp h:=yg.mpr #[b,hb,by rw[e];rfl]
theorem he_{fp:ao}{h:Heap}{p:Addr × Obj}(hp:p∈wI fp h):p.1∈fp/\h.get? p.1\p.2:=by
 let#[b,hb,e]:=yg.mp hp;cases q:h.get? b with
 |none=>rw[q] at e;cases e
 |some o=>
  rw[q] at e;have e':(b,o)=p:=cu e;subst e';exact#[hb,q]
theorem Inv.pinned{pins:List (Addr × Obj)}{σ:St}{H:Hp}{s:Ab}{fp:ao}(I:Inv X pins σ H s)(hf:∀b∈fp,dk X pins H b)(ho:∀b∈fp,∃o,s.heap.get? b\o/\∀v,o.data≠.cell v):Inv X (pins++wI fp s.heap) σ H s:=
 I.nM λp hp=>(dM.mp hp).elim (λz=>I.pin p (mP _ z)) λz=>by
  let#[hb,e]:=he_ z;let#[f0,f1,f2,_]:=hf p.1 hb;let#[o,e',d]:=ho p.1 hb;rw[e] at e';cases e';exact#[e,f0,f1,f2,d]
theorem Inv.eR{pins pl:List (Addr × Obj)}{σ:St}{H:Hp}{s:Ab}(I:Inv X (pins++pl) σ H s):Inv X pins σ H s:=I.nM λp hp=>I.pin p (mP _ (List.mem_append_left _ hp))
theorem ed{iter:Expr}{body:List Stmt}{wi:TI}{g:TG}{tb:TS}{pos:Pos}(hp:PassesOwn (model X.prog X.w) X.A X.env X.xe)(hc:X.calm=true)(hi:PI X tg iter wi)(hg:PG X tg g)(hb:jX X body tb)
  (hs:∀x,foldedSetIterable iter X.env x=pure x:=by intro _;rfl):PS X (.For tg iter body [] pos) (JW wi g tb):=by
 intro pins s σ H D I h;apply wpAny_For (aQ (hi pins s σ H _ I h) λv s1 h1=>aQ h1 λGO s2 h2=>?_) hs;let#[it,fp,tn,J,H2,e,I2,T,gq,f2,W,#[m0,w0],turn]:=h2;subst e;have yz:∀{H':Hp},(∀b∈fp,H' b=none)->∀b∈fp,dk X pins H' b:=λhn b hb=>#[hn b hb,(f2 b hb).2];apply codeAny_forLoop_any (λn s'=>∃i aV H',Inv X pins aV H' s'/\tn i s'.heap/\(∀b∈fp,H' b=none)/\W i n aV H') ?_ m0 #[0,σ,H2,I2,gq,λb hb=>(f2 b hb).1,w0];rintro n s3 ⟨i,ka,H3,I3,iE,SG,w3⟩;rcases turn i n ka H3 w3 with⟨stop,qn⟩|⟨go,N,hN,step⟩
 ·apply wpAny_passesOwn hp (aQ (T.done X U U U hc i pins s3 ka H3 X.xe I3 (yz SG) iE stop) λr s4 ⟨hr,I4⟩=>?_);subst hr;exact wpAny_execs_nil #[ka,H3,I4,qn]
 apply wpAny_passesOwn hp (aQ (T.item X U U U hc i pins s3 ka H3 X.xe I3 (yz SG) iE go) λr s4 ⟨u,hr,h4⟩=>?_);subst hr;apply wpAny_passesOwn hp (aQ h4 λ_ s5 ⟨x,H5,I5,r5,y5,iO,pb⟩=>?_);let I5':=I5.pinned (yz pb) (T.obj _ _ iO);apply wpAny_passesOwn hp (aQ (hg _ s5 ka H5 x u _ I5' r5 (step x H5 y5)) λ_ s6 ⟨Va,H6,I6,q6⟩=>?_);apply wpAny_passesOwn hp (aQ (hb _ s6 Va H6 _ I6 q6) λf s7 q7=>?_)
 have again:∀{qg:St} {H7:Hp},Inv X (pins++wI fp s5.heap) qg H7 s7->N qg H7->∃m,m<n/\∃i aV H',Inv X pins aV H' s7/\tn i s7.heap/\(∀b∈fp,H' b=none)/\W i m aV H':=λ{qg H7} I7 n7=>by
  let#[m',hm,w7]:=hN qg H7 n7;apply#[m',hm,i+1,qg,H7,I7.eR,T.keep _ _ _ iO λb hb o e=>(I7.pin (b,o) (mP _ (mP _ (Jk hb e)))).1,λb hb=>?_,w7];let#[o,e,d]:=T.obj _ _ iO b hb;exact (I7.pin (b,o) (mP _ (mP _ (Jk hb e)))).2.1
 cases f with
 |next=>let#[qg,H7,I7,n7]:=q7;exact again I7 n7
 |cont=>let#[qg,H7,I7,n7]:=q7;exact again I7 n7
 |brk=>let#[qg,H7,I7,q7]:=q7;exact#[qg,H7,I7.eR,q7]
 |ret v=>let#[x7,qg,H7,I7,r7,q7]:=q7;exact#[x7,qg,H7,I7.eR,r7,q7]
end
theorem gi{K:aj}{a:Addr}{xs:ai}{g:TG}{tb:TS}{D:Ends}{σ:St}{H:Hp}(Pv:bO)(h0:Pv 0 σ H)(hl:∀i σ H,i<=xs.length->Pv i σ H->dZ K H a xs)
  (hs:∀i x σ H,xs[i]? = some x->Pv i σ H->g x σ H λgn H2=>tb { D with nx:=Pv (i+1),ct:=Pv (i+1),bk:=D.nx } gn H2) (hd:∀σ H,Pv xs.length σ H->D.nx σ H) :
  ∃W:Nat->Nat->St->Hp->Prop,(∃m,W 0 m σ H)/\∀i m σ H,W i m σ H->
   ((yi K a).stop i H/\D.nx σ H)∨((yi K a).go i H/\∃N:St->Hp->Prop,(∀aV H',N aV H'->∃m',m'<m/\W (i+1) m' aV H')/\∀x H',(yi K a).uU i H x H'->g x σ H' λgn H2=>tb { D with nx:=N,ct:=N,bk:=D.nx } gn H2):=by
 apply#[λi m σ H=>m=xs.length - i/\i<=xs.length/\Pv i σ H,#[xs.length,by simp,gE _,h0],?_];rintro i m σ H ⟨rfl,hi,p⟩;let q:=hl i σ H hi p;by_cases dW:i<xs.length
 ·apply .inr #[#[xs,xs[i],q,by simp[dW]],Pv (i+1),λaV H' p'=>#[xs.length - (i+1),by omega,U,dW,p'],λx H' y=>?_];let#[e,y]:=y;subst e;exact hs i x σ _ (y xs q) p
 have e:i=xs.length:=by omega
 subst e;exact .inl #[#[xs,q,bc _],hd σ H p]
theorem BO{lo:Int}{n:Nat}{g:TG}{tb:TS}{D:Ends}{σ:St}{H:Hp}(Pv:bO)(h0:Pv 0 σ H)
  (hs:∀i σ H,i<n->Pv i σ H->g (.int (lo+i)) σ H λgn H2=>tb { D with nx:=Pv (i+1),ct:=Pv (i+1),bk:=D.nx } gn H2) (hd:∀σ H,Pv n σ H->D.nx σ H) :
  ∃W:Nat->Nat->St->Hp->Prop,(∃m,W 0 m σ H)/\∀i m σ H,W i m σ H->
   ((B3 lo n).stop i H/\D.nx σ H)∨((B3 lo n).go i H/\∃N:St->Hp->Prop,(∀aV H',N aV H'->∃m',m'<m/\W (i+1) m' aV H')/\∀x H',(B3 lo n).uU i H x H'->g x σ H' λgn H2=>tb { D with nx:=N,ct:=N,bk:=D.nx } gn H2):=by
 apply#[λi m σ H=>m=n - i/\i<=n/\Pv i σ H,#[n,by simp,gE _,h0],?_];rintro i m σ H ⟨rfl,hi,p⟩;by_cases dW:i<n
 ·apply .inr #[dW,Pv (i+1),λaV H' p'=>#[n - (i+1),by omega,U,dW,p'],λx H' y=>?_];let#[e,y]:=y;subst e y;exact hs i σ _ dW p
 have e:i=n:=by omega
 subst e;exact .inl #[bc _,hd σ H p]
theorem hK_{c:TT}{tb:TS}{D:Ends}{σ:St}{H:Hp}(Pv:mU)(μ:St->Hp->Nat)(h0:Pv σ H)
  (hs:∀σ H,Pv σ H->c σ H λb H1=>if b=true then tb { D with nx:=λaV H'=>Pv aV H'/\μ aV H'<μ σ H,ct:=λaV H'=>Pv aV H'/\μ aV H'<μ σ H,bk:=D.nx } σ H1 else D.nx σ H1)
  (mono:∀σ H Q Q',(∀b H1,Q b H1->Q' b H1)->c σ H Q->c σ H Q'):ql c tb D σ H:=by
 apply#[λm σ H=>m=μ σ H/\Pv σ H,#[_,U,h0],?_];rintro m σ H ⟨rfl,p⟩;apply mono σ H _ _ (λb H1 q=>?_) (hs σ H p);cases b with
 |true=>exact#[_,λaV H' ⟨p',l⟩=>#[_,l,U,p'],q]
 |false=>exact q
end L2
namespace L2
open PySem PySem.Spec PyProof.Rows
abbrev R2:=V->V->Hp->VK->Prop
def dN(X:Cx)(f:Aa->Aa->Sem Aa)(r:R2):Prop:=
 ∀(pins:List (Addr × Obj)) (s:Ab) (σ:St) (H:Hp) (x y:V) (v u:Aa) (Q:VK),Inv X pins σ H s->RelV x v->RelV y u->r x y H Q->
  wpAny (model X.prog X.w) X.A (f v u) (EP X pins σ Q) X.xe s
def O8(X:Cx)(f:Aa->Sem Aa)(r:V->Hp->VK->Prop):Prop:=
 ∀(pins:List (Addr × Obj)) (s:Ab) (σ:St) (H:Hp) (x:V) (v:Aa) (Q:VK),Inv X pins σ H s->RelV x v->r x H Q->
  wpAny (model X.prog X.w) X.A (f v) (EP X pins σ Q) X.xe s
def gG(X:Cx)(f:Aa)(r:ai->Hp->VK->Prop):Prop:=
 ∀(pins:List (Addr × Obj)) (s:Ab) (σ:St) (H:Hp) (xs:ai) (us:ag) (Q:VK),Inv X pins σ H s->Vals xs us->r xs H Q->
  wpAny (model X.prog X.w) X.A (call f us) (EP X pins σ Q) X.xe s
def Gf(r:R2)(ta tb:TE):TE:=λσ H Q=>ta σ H λx H1=>tb σ H1 λy H2=>r x y H2 Q
def V5(r:V->Hp->VK->Prop)(ta:TE):TE:=λσ H Q=>ta σ H λx H1=>r x H1 Q
inductive rI (C:Int->Int->Prop) (g:Int->Int->V) (x:V) (y:V) (H:Hp) (Q:VK):Prop
 |mk:∀i j,x=.int i->y=.int j->C i j->Q (g i j) H->rI C g x y H Q
inductive vm (g:Int->Int->V) (x:V) (y:V) (H:Hp) (Q:VK):Prop
 |mk:∀i j,x=.int i->y=.int j->Q (g i j) H->vm g x y H Q
inductive rU (g:Int->V) (x:V) (H:Hp) (Q:VK):Prop
 |mk:∀i,x=.int i->Q (g i) H->rU g x H Q
section
variable{X:Cx}{a b c:Expr}{ta tb tc:TE}{pos:Pos}
theorem AJ(ha:PE X a ta)(hb:PE X b tb){pins:List (Addr × Obj)}{s:Ab}{σ:St}{H:Hp}{R:V->V->Hp->Prop}(I:Inv X pins σ H s)
  (h:ta σ H λx H1=>tb σ H1 λy H2=>R x y H2) {Q:Aa->Ab->Prop} {f:Aa->Aa->Sem Aa}
  (hf:∀v u s2 x y H2,Inv X pins σ H2 s2->RelV x v->RelV y u->R x y H2->wpAny (model X.prog X.w) X.A (f v u) Q X.xe s2) :
  wpAny (model X.prog X.w) X.A (eval a X.env) (λv aK=>wpAny (model X.prog X.w) X.A (eval b X.env) (λu ju=>wpAny (model X.prog X.w) X.A (f v u) Q X.xe ju) X.xe aK) X.xe s:=by
 apply aQ (ha pins s σ H _ I h) λv s1 ⟨x,H1,I1,r1,q1⟩=>?_;apply aQ (hb pins s1 σ H1 _ I1 q1) λu s2 ⟨y,H2,I2,r2,q2⟩=>?_;exact hf v u s2 x y H2 I2 r1 r2 q2
theorem bJ{op:Operator}{r:R2}(ho:dN X (binaryOp op) r)(ha:PE X a ta)(hb:PE X b tb):PE X (.BinOp a op b pos) (Gf r ta tb):=by
 intro pins s σ H Q I h;exact wpAny_BinOp (AJ ha hb I h λv u s2 x y H2 I2 rx ry q=>ho pins s2 σ H2 x y v u Q I2 rx ry q)
theorem QD{op:UnaryOp}{r:V->Hp->VK->Prop}(ho:O8 X (unaryOp op) r)(ha:PE X a ta):PE X (.UnaryOp op a pos) (V5 r ta):=by
 intro pins s σ H Q I h;exact UnaryOp_ (aQ (ha pins s σ H _ I h) λv s1 ⟨x,H1,I1,r1,q1⟩=>ho pins s1 σ H1 x v Q I1 r1 q1)
theorem Bd{f:Aa->Aa->Sem Aa}{C:Int->Int->Prop}{g:Int->Int->Int}
  (rule:∀(i j:Int) (t u:Tok) (s:Ab) (Q:Aa->Ab->Prop) (E:Aa->Ab->Prop),C i j->Q (.int (g i j) s.toks) { s with toks:=s.toks+1 }->wpAny (model X.prog X.w) X.A (f (.int i t) (.int j u)) Q E s) :
  dN X f (rI C λi j=>.int (g i j)):=by
 intro pins s σ H x y v u Q I rx ry h;let#[i,j,rfl,rfl,hc,q]:=h;let#[t,rfl]:=rx;let#[t',rfl]:=ry;exact rule i j t t' s _ _ hc #[.int (g i j),H,I.tok _,#[_,U],q]
theorem Dk{f:Aa->Aa->Sem Aa}{g:Int->Int->Int}
  (rule:∀(i j:Int) (t u:Tok) (s:Ab) (Q:Aa->Ab->Prop) (E:Aa->Ab->Prop),Q (.int (g i j) s.toks) { s with toks:=s.toks+1 }->wpAny (model X.prog X.w) X.A (f (.int i t) (.int j u)) Q E s) :
  dN X f (vm λi j=>.int (g i j)):=by
 intro pins s σ H x y v u Q I rx ry h;let#[i,j,rfl,rfl,q]:=h;let#[t,rfl]:=rx;let#[t',rfl]:=ry;exact rule i j t t' s _ _ #[.int (g i j),H,I.tok _,#[_,U],q]
theorem vt{f:Aa->Aa->Sem Aa}{g:Int->Int->Bool}
  (rule:∀(i j:Int) (t u:Tok) (s:Ab) (Q:Aa->Ab->Prop) (E:Aa->Ab->Prop),Q (.bool (g i j)) s->wpAny (model X.prog X.w) X.A (f (.int i t) (.int j u)) Q E s) :
  dN X f (vm λi j=>.bl (g i j)):=by
 intro pins s σ H x y v u Q I rx ry h;let#[i,j,rfl,rfl,q]:=h;let#[t,rfl]:=rx;let#[t',rfl]:=ry;exact rule i j t t' s _ _ #[.bl (g i j),H,I,U,q]
def Pn(i j:Int):Prop:=0<j/\j<1073741824
def Pm(i j:Int):Prop:=0<=j/\j<=1000000/\i.natAbs<2 ^ 64
def A4(i j:Int):Prop:=(-(2 ^ 64)<i/\i<2 ^ 64)∨(-(2 ^ 64)<j/\j<2 ^ 64)
theorem A4.ok{i j:Int}(h:A4 i j):IntMulOk i j:=by
 rcases h with⟨h1,h2⟩|⟨h1,h2⟩
 ·exact .of_left (intBits_le_64 h1 h2)
 exact .of_right (intBits_le_64 h1 h2)
theorem ie:dN X (binaryOp .Add) (vm λi j=>.int (i+j)):=Dk λ_ _ _ _ _ _ _ q=>add_int q
theorem BE:dN X (binaryOp .Sub) (vm λi j=>.int (i - j)):=Dk λ_ _ _ _ _ _ _ q=>sub_int q
theorem iB:dN X (binaryOp .Mult) (rI A4 λi j=>.int (i * j)):=Bd λ_ _ _ _ _ _ _ hc q=>mul_int q hc.ok
theorem Fn:dN X (binaryOp .FloorDiv) (rI Pn λi j=>.int (i / j)):=Bd λi j _ _ _ _ _ hc q=>by
 have h1:(0:Int)<j:=hc.1;have h2:j<1073741824:=hc.2;exact floordiv_int Z1 (by rw[Int.fdiv_eq_ediv_of_nonneg i Z1];exact q) (.inl (PyProof.noPylong_small Z1))
theorem Ay:dN X (binaryOp .Mod) (rI (λ_ j=>0<j) λi j=>.int (i % j)):=Bd λi j _ _ _ _ _ hc q=>by
 have h1:(0:Int)<j:=hc;exact mod_int' Z1 (by rw[Int.fmod_eq_emod_of_nonneg i Z1];exact q)
theorem Ye:dN X (binaryOp .Pow) (rI Pm λi j=>.int (i ^ j.toNat)):=Bd λ_ _ _ _ _ _ _ hc q=>pow_int_small hc.1 hc.2.1 hc.2.2 q
theorem VR{f:Aa->Sem Aa}{g:Int->Int}
  (rule:∀(i:Int) (t:Tok) (s:Ab) (Q:Aa->Ab->Prop) (E:Aa->Ab->Prop),Q (.int (g i) s.toks) { s with toks:=s.toks+1 }->wpAny (model X.prog X.w) X.A (f (.int i t)) Q E s) :
  O8 X f (rU λi=>.int (g i)):=by
 intro pins s σ H x v Q I rx h;let#[i,rfl,q]:=h;let#[t,rfl]:=rx;exact rule i t s _ _ #[.int (g i),H,I.tok _,#[_,U],q]
theorem Q6:O8 X (unaryOp .USub) (rU λi=>.int (-i)):=VR λ_ _ _ _ _ q=>neg_int q
end
def C0:V->V->Bool
 |.non,.non=>true | .non,.int _=>true | .int _,.non=>true | .non,.bl _=>true | .bl _,.non=>true | .non,.str _=>true | .str _,.non=>true
 |.int _,.int _=>true | .bl _,.bl _=>true | .str _,.str _=>true | .byt _,.byt _=>true
 |.int _,.str _=>true | .str _,.int _=>true | .bl _,.str _=>true | .str _,.bl _=>true
 |_,_=>false
def WL:R2:=λx y H Q=>C0 x y=true/\Q (.bl (decide (x=y))) H
def WJ:R2:=λx y H Q=>C0 x y=true/\Q (.bl (!decide (x=y))) H
theorem Sv{i j:Int}:decide (V.int i=V.int j)=(i == j):=by
 rw[Bool.eq_iff_iff];simp
theorem QY{i j:Bool}:decide (V.bl i=V.bl j)=(i == j):=by
 rw[Bool.eq_iff_iff];simp
theorem Sn{i j:Str}:decide (V.str i=V.str j)=(i == j):=by
 rw[Bool.eq_iff_iff];simp
theorem Sk{i j:Array UInt8}:decide (V.byt i=V.byt j)=(i.toList == j.toList):=by
 rw[Bool.eq_iff_iff];cases i;cases j;simp
section
variable{X:Cx}{a b c:Expr}{ta tb tc:TE}{pos:Pos}
theorem fG{pins:List (Addr × Obj)}{σ:St}{H:Hp}{s:Ab}{Q:VK}{k k':Bool}(I:Inv X pins σ H s)(q:Q (.bl k) H)(e:k=k'):EP X pins σ Q (.bool k') s:=by
 subst e;exact#[.bl k,H,I,U,q]
theorem E3:dN X (compareOp .Eq) WL:=by
 intro pins s σ H x y v u Q I rx ry h;let#[hs,q]:=h;cases x with
 |non=>
  cases rx;cases y with
  |non=>cases ry;exact PySem.EqNone.eq_none_none (fG I q Z2)
  |bl j=>cases ry;exact PySem.EqNone.eq_none_bool (fG I q Z2)
  |int j=>let#[t',rfl]:=ry;exact PySem.EqNone.eq_none_int (fG I q Z2)
  |str j=>let#[t',rfl]:=ry;exact PySem.EqNone.eq_none_str (fG I q Z2)
  |_=>exact absurd (show false=true from hs) gc
 |bl i=>
  cases rx;cases y with
  |non=>cases ry;exact PySem.EqNone.eq_bool_none (fG I q Z2)
  |bl j=>cases ry;exact eq_bool (fG I q QY)
  |str j=>let#[t',rfl]:=ry;exact PySem.EqMixed.eq_bool_str (fG I q Z2)
  |_=>exact absurd (show false=true from hs) gc
 |int i=>
  let#[t,rfl]:=rx;cases y with
  |non=>cases ry;exact PySem.EqNone.eq_int_none (fG I q Z2)
  |int j=>let#[t',rfl]:=ry;exact eq_int (fG I q Sv)
  |str j=>let#[t',rfl]:=ry;exact PySem.EqMixed.eq_int_str (fG I q Z2)
  |_=>exact absurd (show false=true from hs) gc
 |str i=>
  let#[t,rfl]:=rx;cases y with
  |non=>cases ry;exact PySem.EqNone.eq_str_none (fG I q Z2)
  |bl j=>cases ry;exact PySem.EqMixed.eq_str_bool (fG I q Z2)
  |int j=>let#[t',rfl]:=ry;exact PySem.EqMixed.eq_str_int (fG I q Z2)
  |str j=>let#[t',rfl]:=ry;exact eq_str (fG I q Sn)
  |_=>exact absurd (show false=true from hs) gc
 |byt i=>
  let#[t,rfl]:=rx;cases y with
  |byt j=>let#[t',rfl]:=ry;exact PySem.W.eq_bytes (fG I q Sk)
  |_=>exact absurd (show false=true from hs) gc
 |_=>cases y<;>exact absurd (show false=true from hs) gc
theorem tG:dN X (compareOp .NotEq) WJ:=by
 intro pins s σ H x y v u Q I rx ry h;let#[hs,q]:=h;cases x with
 |non=>
  cases rx;cases y with
  |non=>cases ry;exact PySem.EqNone.ne_none_none (fG I q Z2)
  |bl j=>cases ry;exact PySem.EqNone.ne_none_bool (fG I q Z2)
  |int j=>let#[t',rfl]:=ry;exact PySem.EqNone.ne_none_int (fG I q Z2)
  |str j=>let#[t',rfl]:=ry;exact PySem.EqNone.ne_none_str (fG I q Z2)
  |_=>exact absurd (show false=true from hs) gc
 |bl i=>
  cases rx;cases y with
  |non=>cases ry;exact PySem.EqNone.ne_bool_none (fG I q Z2)
  |bl j=>cases ry;exact ne_bool (fG I q (eG not QY))
  |str j=>let#[t',rfl]:=ry;exact PySem.EqMixed.ne_bool_str (fG I q Z2)
  |_=>exact absurd (show false=true from hs) gc
 |int i=>
  let#[t,rfl]:=rx;cases y with
  |non=>cases ry;exact PySem.EqNone.ne_int_none (fG I q Z2)
  |int j=>let#[t',rfl]:=ry;exact ne_int (fG I q (eG not Sv))
  |str j=>let#[t',rfl]:=ry;exact PySem.EqMixed.ne_int_str (fG I q Z2)
  |_=>exact absurd (show false=true from hs) gc
 |str i=>
  let#[t,rfl]:=rx;cases y with
  |non=>cases ry;exact PySem.EqNone.ne_str_none (fG I q Z2)
  |bl j=>cases ry;exact PySem.EqMixed.ne_str_bool (fG I q Z2)
  |int j=>let#[t',rfl]:=ry;exact PySem.EqMixed.ne_str_int (fG I q Z2)
  |str j=>let#[t',rfl]:=ry;exact ne_str (fG I q (eG not Sn))
  |_=>exact absurd (show false=true from hs) gc
 |byt i=>
  let#[t,rfl]:=rx;cases y with
  |byt j=>let#[t',rfl]:=ry;exact PySem.W.ne_bytes (fG I q (eG not Sk))
  |_=>exact absurd (show false=true from hs) gc
 |_=>cases y<;>exact absurd (show false=true from hs) gc
theorem QJ:dN X (compareOp .Lt) (vm λi j=>.bl (decide (i<j))):=vt λ_ _ _ _ _ _ _ q=>lt_int q
theorem vX:dN X (compareOp .LtE) (vm λi j=>.bl (decide (i<=j))):=vt λ_ _ _ _ _ _ _ q=>le_int q
theorem GQ:dN X (compareOp .Gt) (vm λi j=>.bl (decide (j<i))):=vt λ_ _ _ _ _ _ _ q=>gt_int q
theorem QK:dN X (compareOp .GtE) (vm λi j=>.bl (decide (j<=i))):=vt λ_ _ _ _ _ _ _ q=>ge_int q
inductive UN (x:V) (y:V) (H:Hp) (Q:VK):Prop
 |mk:∀i j,x=.str i->y=.str j->Q (.bl (decide (i.cps.toList<j.cps.toList))) H->UN x y H Q
theorem gN_:dN X (compareOp .Lt) UN:=by
 intro pins s σ H x y v u Q I rx ry h;let#[i,j,rfl,rfl,q]:=h;let#[t,rfl]:=rx;let#[t',rfl]:=ry;exact lt_str (fG I q rfl)
theorem YI:dN X (compareOp .Is) (λx y H Q=>y=.non/\Q (.bl (decide (x=.non))) H):=by
 intro pins s σ H x y v u Q I rx ry h;let#[rfl,q]:=h;cases ry;apply is_none_gen (fG I q ?_)
 cases x<;>first
  |(cases rx;rfl)
  |(let#[t,rfl]:=rx;rfl)
theorem rX(b:Expr){op:CmpOp}(h:op≠.In:=by decide)(h2:op≠.NotIn:=by decide):behindInMarks op b=false:=by
 have e1:(op == CmpOp.In)=false:=by cases op<;>first|rfl|exact absurd rfl h
 have e2:(op == CmpOp.NotIn)=false:=by cases op<;>first|rfl|exact absurd rfl h2
 cases b<;>simp[behindInMarks,e1,e2]
theorem wA{op:CmpOp}{r:R2}(ho:dN X (compareOp op) r)(ha:PE X a ta)(hb:PE X b tb)(hm:behindInMarks op b=false:=by exact rX _):PE X (.Compare a [op] [b] pos) (Gf r ta tb):=by
 intro pins s σ H Q I h;exact wpAny_Compare1 (AJ ha hb I h λv u s2 x y H2 I2 rx ry q=>ho pins s2 σ H2 x y v u Q I2 rx ry q) hm
inductive qq (Q:Bool->Hp->Prop) (x:V) (H':Hp):Prop
 |mk:∀k,x=.bl k->Q k H'->qq Q x H'
def wV(t:TE):TT:=λσ H Q=>t σ H λx H'=>qq Q x H'
theorem fh{op:CmpOp}{r:R2}(ho:dN X (compareOp op) r)(ha:PE X a ta)(hb:PE X b tb)(hm:behindInMarks op b=false:=by exact rX _):PT X (.Compare a [op] [b] pos) (wV (Gf r ta tb)):=by
 intro pins s σ H Q I h
 apply wpAny_isTrue_Compare1 (aQ (ha pins s σ H _ I h) λv s1 ⟨x,H1,I1,r1,q1⟩=>aQ (hb pins s1 σ H1 _ I1 q1) λu s2 ⟨y,H2,I2,r2,q2⟩=>
  aQ (ho pins s2 σ H2 x y v u _ I2 r1 r2 q2) λc s3 ⟨z,H3,I3,r3,k,e,q3⟩=>?_) hm
 subst e;cases r3;exact uA #[H3,I3,q3]
inductive nj (r':R2) (tc:TE) (σ:St) (Q:VK) (y:V) (z:V) (H3:Hp):Prop
 |mk:∀k,z=.bl k->(if k=true then tc σ H3 λw' H4=>r' y w' H4 Q else Q (.bl false) H3)->nj r' tc σ Q y z H3
def qx(r r':R2)(ta tb tc:TE):TE:=λσ H Q=>ta σ H λx H1=>tb σ H1 λy H2=>r x y H2 λz H3=>nj r' tc σ Q y z H3
theorem To{op y0:CmpOp}{r r':R2}(ho:dN X (compareOp op) r)(og:dN X (compareOp y0) r')(ha:PE X a ta)(hb:PE X b tb)(hc:PE X c tc)
  (hm:lastMarks [op,y0] [b,c]=false:=by with_unfolding_all rfl):PE X (.Compare a [op,y0] [b,c] pos) (qx r r' ta tb tc):=by
 intro pins s σ H Q I h
 apply Compare_chain (aQ (ha pins s σ H _ I h) λv s1 ⟨x,H1,I1,r1,q1⟩=>chain_link (aQ (hb pins s1 σ H1 _ I1 q1) λu s2 ⟨y,H2,I2,r2,q2⟩=>
  aQ (ho pins s2 σ H2 x y v u _ I2 r1 r2 q2) λd s3 ⟨z,H3,I3,r3,k,e,q3⟩=>?_)) hm
 subst e;cases r3;apply uA ?_;cases k with
 |false=>exact ite_ff #[.bl false,H3,I3,U,q3]
 |true=>exact ite_tt (chain_last (aQ (hc pins s3 σ H3 _ I3 q3) λw' s4 ⟨z',H4,I4,r4,q4⟩=>og pins s4 σ H4 y z' u w' Q I4 r2 r4 q4))
theorem Tq{op y0:CmpOp}{r r':R2}(ho:dN X (compareOp op) r)(og:dN X (compareOp y0) r')(ha:PE X a ta)(hb:PE X b tb)(hc:PE X c tc)
  (hm:lastMarks [op,y0] [b,c]=false:=by with_unfolding_all rfl):PT X (.Compare a [op,y0] [b,c] pos) (wV (qx r r' ta tb tc)):=by
 intro pins s σ H Q I h
 apply isTrue_chain (aQ (ha pins s σ H _ I h) λv s1 ⟨x,H1,I1,r1,q1⟩=>test_link (aQ (hb pins s1 σ H1 _ I1 q1) λu s2 ⟨y,H2,I2,r2,q2⟩=>
  aQ (ho pins s2 σ H2 x y v u _ I2 r1 r2 q2) λd s3 ⟨z,H3,I3,r3,k,e,q3⟩=>?_)) hm
 subst e;cases r3;apply uA ?_;cases k with
 |false=>
  let#[k',e',q']:=q3;cases e';exact ite_ff #[H3,I3,q']
 |true=>
  apply ite_tt (test_last (aQ (hc pins s3 σ H3 _ I3 q3) λw' s4 ⟨z',H4,I4,r4,q4⟩=>aQ (og pins s4 σ H4 y z' u w' _ I4 r2 r4 q4) λd' s5 ⟨z2,H5,I5,r5,k2,e2,q5⟩=>?_));subst e2;cases r5;exact uA #[H5,I5,q5]
theorem gx:(sizeLine:Nat)<2 ^ 63:=by rw[cU];decide
inductive US (x:V) (y:V) (H:Hp) (Q:VK):Prop
 |mk:∀i j,x=.str i->y=.str j->i.length+j.length<=sizeLine->Q (.str (i++j)) H->US x y H Q
theorem fD_:dN X (binaryOp .Add) US:=by
 intro pins s σ H x y v u Q I rx ry h;let#[i,j,rfl,rfl,hz,q]:=h;let#[t,rfl]:=rx;let#[t',rfl]:=ry;exact add_str (λt' tk=>⟨.str (i++j),H,I.tok _,⟨_,rfl⟩,q⟩) hz
theorem vals1{x:V}{us:ag}(r:Vals [x] us):∃u,us=[u]/\RelV x u:=by
 cases r with
 |cons r1 r2=>cases r2;exact#[_,U,r1]
theorem vals2{x y:V}{us:ag}(r:Vals [x,y] us):∃u w',us=[u,w']/\RelV x u/\RelV y w':=by
 cases r with
 |cons r1 r2=>
  cases r2 with
  |cons r3 r4=>cases r4;exact#[_,_,U,r1,r3]
inductive TU (xs:ai) (H:Hp) (Q:VK):Prop
 |mk:∀i,xs=[.int i]->Q (.int (if i<0 then -i else i)) H->TU xs H Q
theorem _B:gG X (.builtin "abs") TU:=by
 intro pins s σ H xs us Q I r h;let#[i,rfl,q]:=h;let#[u,rfl,t,rfl]:=vals1 r;exact call_abs_int λu tk=>#[.int (if i<0 then -i else i),H,I.tok _,#[_,U],q]
theorem TL:gG X (.type "int") (λxs H Q=>(∃i,xs=[.int i]/\Q (.int i) H)∨∃k,xs=[.bl k]/\Q (.int (if k then 1 else 0)) H):=by
 intro pins s σ H xs us Q I r h;rcases h with⟨i,rfl,q⟩|⟨k,rfl,q⟩
 ·let#[u,rfl,t,rfl]:=vals1 r;exact call_int_int #[.int i,H,I,#[_,U],q]
 let#[u,rfl,r1]:=vals1 r;cases r1;exact call_int_bool #[.int (if k then 1 else 0),H,I.tok _,#[_,U],q]
end
end L2
namespace L2
open PySem PySem.Spec PyProof.Rows
structure mT (h:Heap) (x dx C:Addr) (mA:Str->Option Aa):Prop where
 obj:h.get? x\PySem.W.instObj C dx
 ns:h.Ns1 dx mA
 ne:dx≠x
theorem hm_{h:Heap}{dx:Addr}{mA:Str->Option Aa}(n:h.Ns1 dx mA):∃od,h.get? dx\od/\∀name,PySem.W.lookIn name od\mA name:=by
 let#[o,es,ep,ho,hd,hk,_,hm]:=n;apply#[o,ho,λname=>?_];let e:=hm name;unfold nsFind findBy at e;rw[<- Array.find?_toList] at e;unfold PySem.W.lookIn;rw[hd];dsimp only;split
 ·rename_i y q
  rw[q] at e;exact eG some e
 rename_i q
 rw[q] at e
 have a:es.toList.any (·.refKey)=false:=by
  rw[List.any_eq_false];intro y hy;let#[z,t,Lp]:=hk y (Array.mem_toList_iff.mp hy);simp[DictEntry.refKey,Lp]
 have a':¬es.toList.any (·.refKey)=true:=by rw[a];exact gc
 rw[aB a'];exact eG some e
theorem mT.look{h:Heap}{x dx C:Addr}{mA:Str->Option Aa}(I:mT h x dx C mA):∃od,PySem.W.InstAt h x (PySem.W.instObj C dx) C (some od)/\∀name,PySem.W.lookIn name od\mA name:=
 let #[od,ho,hl]:=hm_ I.ns
 #[od,#[I.obj,U,U,ho],hl]
section
variable{prog:Ad}{w:Af}{A:Ag}{E:Aa->Ab->Prop}{s:Ab}{K:aj}{x dx C f:Addr}{mA:Str->Option Aa}{name:Str}{v:Aa}
theorem _v{expr:Bool}{Q:Aa->Ab->Prop}(X:K.In s.heap)(I:mT s.heap x dx C mA)(hg:PySem.W.plainGet K C name=true)(hh:PySem.W.hasDictIn K C=true)
  (ha:PySem.W.findIn K (.ref C) name\none) (hv:mA name\v) (D6:PySem.W.handedIn v=true) (h:Q v { s with toks:=s.toks+1 }) :
  wpAny (model prog w) A (getAttr (.ref x) name expr) Q E s:=by
 let#[od,J,hl]:=I.look;exact PySem.W.get_value X J (PySem.W.plainGet_of hg).1 (PySem.W.findObj_own hh ha U (by rw[hl,hv])) D6 h
theorem hA_{pl:Sem Bool}{Q:Aa × ag->Ab->Prop}(X:K.In s.heap)(I:mT s.heap x dx C mA)(hg:PySem.W.plainGet K C name=true)
  (hf:PySem.W.findIn K (.ref C) name\some (.ref f)) (ht:PySem.W.isFn K (.ref f)=true) (hv:mA name=none) (h:Q (.ref f,[.ref x]) s) :
  wpAny (model prog w) A (getMethod (.ref x) name pl) Q E s:=by
 let#[od,J,hl]:=I.look;exact PySem.W.method_fn X J (PySem.W.plainGet_of hg).1 (PySem.W.plainGet_of hg).2 hf (beq_iff_eq.mp ht) (by show (PySem.W.lookIn name od).map (·.isSome)=some false;rw[hl,hv];rfl) h
theorem ZQ{ns:ae}{Q:Unit->Ab->Prop}(X:K.In s.heap)(I:mT s.heap x dx C mA)
  (hs:PySem.W.findIn K (.ref C) "__setattr__"\some (.builtin "object.__setattr__")) (hp:PySem.W.plainOver K C=true) (ht:PySem.W.takerIn K C name\none) (hh:PySem.W.hasDictIn K C=true)
  (hw:PySem.Within mA ns) (hsz:ns.length<=sizeLine)
  (h:∀h',mT h' x dx C (λy=>if y=name then some v else mA y)->Heap.SameBut dx s.heap h'->Q () { s with heap:=h',toks:=s.toks+2 }) :
  wpAny (model prog w) A (setAttr (.ref x) name v) Q E s:=by
 let#[od,J,hl]:=I.look;apply PySem.W.set_plain X J hs (PySem.W.osa_open (s:={ s with toks:=s.toks+1 }) (r:=none) X J hp ht λb=>?_);let#[cd,hc,iW]:=PySem.W.any_some hh;have hx:s.heap.get? x=some #[.ref C,some dx,.plain,#[]]:=I.obj;apply af (aC (af (af (wpAny_loadPart hx (af (PySem.W.Looks.here (s:={ s with toks:=s.toks+1 }) (PySem.W.looks_clsIn X hc) ?_))))));rw[iW];apply aC (a:=some dx) (af (aC (af ?_)));apply wpAny_nsSet1 (s:={ s with toks:=s.toks+1 }) I.ns λh' xE vK=>?_;let#[oD,esD,epD,hoD,hdD,hcD]:=xE.count (PySem.Within.cons name v hw);apply af (wpAny_lookBehind hoD (by rw[hdD];exact pastItsLine_dict (gm hcD (by rw[jr];omega))) ?_);exact aC (h _ #[(vK.2 _ (bG I.ne)).trans I.obj,xE,I.ne] vK)
theorem _L{R:Result->Ab->Prop}{vs:ag}{kw:List (Str × Aa)}(X:K.In s.heap)(hm:PySem.W.makesIn K C=true)
  (hi:PySem.W.findIn K (.ref C) "__init__"\some (.ref f)) (hf:PySem.W.typeIn K (.ref f)\.type "function")
  (h:codeAny (model prog w) (A.under (.builtin "type.__call__" #[.ref C::vs,kw])) (.call (.ref f) #[.ref (s.heap.objs.size+1)::vs,kw]) (PySem.W.InitBack (s.heap.objs.size+1) R)
   { s with heap:=(s.heap.push PySem.W.emptyDict).push (PySem.W.instObj C s.heap.objs.size) }) :
  codeAny (model prog w) A (.call (.ref C) #[vs,kw]) R s:=by
 let#[hh,g,d,t,os]:=s;exact PySem.W.make_core (PySem.W.makes_of X hm) (PySem.W.looks_findIn X hi) (λself=>PySem.W.bind_fn X self hf) (.inl U) h
end
def aA(f:Str)(v:V):List (Str × V)->List (Str × V)
 |[]=>[(f,v)]
 |(g,x)::r=>if g=f then (g,v)::r else (g,x)::aA f v r
theorem gC(f g:Str)(v:V):∀fs:List (Str × V),(aA f v fs).lookup g=if g=f then some v else fs.lookup g
 |[]=>by
  show List.lookup g [(f,v)]=_;by_cases h:g=f
  ·have hb:(g == f)=true:=beq_iff_eq.mpr h;simp only[List.lookup,hb,aJ h]
  ·have hb:(g == f)=false:=beq_eq_false_iff_ne.mpr h;simp only[List.lookup,hb,aB h]
 |(k,x)::r=>by
  let ih:=gC f g v r;rw[show aA f v ((k,x)::r)=(if k=f then (k,v)::r else (k,x)::aA f v r) from U];by_cases hk:k=f
  ·rw[aJ hk];by_cases h:g=k
   ·have hb:(g == k)=true:=beq_iff_eq.mpr h;simp only[List.lookup,hb,aJ (h.trans hk)]
   have hb:(g == k)=false:=beq_eq_false_iff_ne.mpr h;simp only[List.lookup,hb,aB (λe:g=f=>h (e.trans hk.symm))]
  rw[aB hk];by_cases h:g=k
  ·have hb:(g == k)=true:=beq_iff_eq.mpr h;simp only[List.lookup,hb,aB (λe:g=f=>hk (h.symm.trans e))]
  have hb:(g == k)=false:=beq_eq_false_iff_ne.mpr h;simp only[List.lookup,hb];exact ih
theorem Om(f:Str)(v:V):∀fs:List (Str × V),f∈(aA f v fs).map (·.1)/\∀g,g∈fs.map (·.1)->g∈(aA f v fs).map (·.1)
 |[]=>#[by simp[aA],λg h=>by simp at h]
 |(k,x)::r=>by
  let#[i1,i2]:=Om f v r;rw[show aA f v ((k,x)::r)=(if k=f then (k,v)::r else (k,x)::aA f v r) from U];by_cases hk:k=f
  ·rw[aJ hk];subst hk;exact#[by simp,λg h=>by simpa using h]
  rw[aB hk];apply#[?_,λg h=>?_]
  ·rw[eZ];exact fN _ i1
  rw[eZ] at h ⊢;rcases bW.mp h with e|e
  ·exact bW.mpr (.inl e)
  exact fN _ (i2 g e)
theorem UT(f:Str)(v:V):∀fs:List (Str × V),(aA f v fs).length<=fs.length+1
 |[]=>by simp[aA]
 |(k,x)::r=>by
  let ih:=UT f v r;rw[show aA f v ((k,x)::r)=(if k=f then (k,v)::r else (k,x)::aA f v r) from U];by_cases hk:k=f
  ·rw[aJ hk,jr,jr];omega
  rw[aB hk,jr,jr];omega
theorem fe.some_of{v:V}{o:Option Aa}(r:fe (some v) o):∃u,o\u/\RelV v u:=by
 cases o with
 |none=>exact (show False from r).elim
 |some u=>exact#[u,U,r]
theorem fe.none_of{o:Option Aa}(r:fe none o):o=none:=by
 cases o with
 |none=>rfl
 |some u=>exact (show False from r).elim
theorem gd_{v:V}{u:Aa}(r:RelV v u):PySem.W.handedIn u=true:=by
 cases v with
 |non=>cases (show u=Value.none from r);rfl
 |bl b=>cases (show u=Value.bool b from r);rfl
 |int i=>let#[t,e]:=(show ∃t,u=Value.int i t from r);cases e;rfl
 |str x=>let#[t,e]:=(show ∃t,u=Value.str x t from r);cases e;rfl
 |byt b=>let#[t,e]:=(show ∃t,u=Value.bytes b t from r);cases e;rfl
 |flt b=>let#[t,e]:=(show ∃t,u=Value.float b t from r);cases e;rfl
 |ref a=>cases (show u=Value.ref a from r);rfl
 |ty n=>cases (show u=Value.type n from r);rfl
section
variable{P:Ad}{w:Af}{H H':Hp}{h h':Heap}{a C dx:Addr}{fs fs':List (Str × V)}
theorem Ie(ay:fU P w H h)(e:H a\.ins C dx fs):∃mA,mT h a dx C mA/\(∀f,fe (fs.lookup f) (mA f))/\PySem.Within mA (fs.map (·.1))/\fs.length<=1000/\H dx\.own a:=by
 let#[d,z,ne,ob,mA,n,r,q]:=(show fC P w H h a (.ins C dx fs) from ay a _ e);exact#[mA,#[ob,n,ne],r,q,z,d]
end
structure mX (K:aj) (C:Addr):Prop where
 pg:PySem.W.plainGet K C Str.empty=true
 hd:PySem.W.hasDictIn K C=true
 po:PySem.W.plainOver K C=true
 sa:PySem.W.findIn K (.ref C) "__setattr__"\some (.builtin "object.__setattr__")
theorem mX.get{K:aj}{C:Addr}(c:mX K C)(f:Str):PySem.W.plainGet K C f=true:=c.pg
def mE(K:aj)(C:Addr)(f:Str):Prop:=PySem.W.findIn K (.ref C) f=some none
theorem mE.Ct{K:aj}{C:Addr}{f:Str}(n:mE K C f):PySem.W.takerIn K C f\none:=by
 unfold PySem.W.takerIn;rw[show PySem.W.findIn K (.ref C) f\none from n];rfl
structure Con (K:aj) (C:Addr) (f:Str) (v:V) (u:Aa):Prop where
 at_:PySem.W.findIn K (.ref C) f\some u
 rel:RelV v u
 get:PySem.W.specialIn K u "__get__"\none
 cp:PySem.W.copiedNames.contains f=false
structure Meth (K:aj) (C:Addr) (m:Str) (f:Addr):Prop where
 at_:PySem.W.findIn K (.ref C) m\some (.ref f)
 fn:PySem.W.isFn K (.ref f)=true
 kp:PySem.W.keepIn K (.ref f)=true
section
variable{X:Cx}{pins:List (Addr × Obj)}{σ:St}{H:Hp}{s:Ab}{a C dx:Addr}{fs:List (Str × V)}{f:Str}{v:V}{A:Ag}{E:Aa->Ab->Prop}
theorem fA_{b:Bool}{Q:Aa->Ab->Prop}(I:Inv X pins σ H s)(e:H a\.ins C dx fs)(c:mX X.K C)(n:mE X.K C f)(l:fs.lookup f\v)
  (h:∀u s',Inv X pins σ H s'->RelV v u->Q u s'):wpAny (model X.prog X.w) A (getAttr (.ref a) f b) Q E s:=by
 let#[mA,O,r,_,_,_]:=Ie I.ay e;let#[u,hu,ru]:=fe.some_of (v:=v) (o:=mA f) (by rw[<- l];exact r f);exact _v I.gN O (c.get f) c.hd n hu (gd_ ru) (h u _ (I.tok _) ru)
theorem Ul{m:Str}{g:Addr}{pl:Sem Bool}{Q:Aa × ag->Ab->Prop}(I:Inv X pins σ H s)(e:H a\.ins C dx fs)(c:mX X.K C)(k:Meth X.K C m g)(l:fs.lookup m=none)
  (h:Q (.ref g,[.ref a]) s):wpAny (model X.prog X.w) A (getMethod (.ref a) m pl) Q E s:=by
 let#[mA,O,r,_,_,_]:=Ie I.ay e;have hn:mA m=none:=fe.none_of (by rw[<- l];exact r m);exact hA_ I.gN O (c.get m) k.at_ k.fn hn h
theorem fH_{y:V}{u:Aa}{Q:Unit->Ab->Prop}(I:Inv X pins σ H s)(e:H a\.ins C dx fs)(c:mX X.K C)(n:mE X.K C f)(hl:fs.length<1000)(ry:RelV y u)
  (h:∀s',Inv X pins σ (upd H a (.ins C dx (aA f y fs))) s'->Q () s'):wpAny (model X.prog X.w) A (setAttr (.ref a) f u) Q E s:=by
 let#[mA,O,r,wi,_,ho]:=Ie I.ay e;have hz:(fs.map (·.1)).length<=sizeLine:=by rw[au,cU];omega
 apply ZQ I.gN O c.sa c.po n.Ct c.hd wi hz λh' O' sb=>h _ ?_;have hd:∃o,h'.get? dx\o:=let #[o,_,_,e',_]:=O'.ns;#[o,e'];apply I.write (x:=a) (e:=dx) (by rw[e];exact True.intro) (.inr ho) (λb q hb z=>(sb.2 b hb).trans z) hd ?_;apply#[by rw[ax O.ne];exact ho,?_,O.ne,O'.obj,_,O'.ns,λg=>?_,λg hg=>?_]
 ·have:=UT f y fs;omega
 ·show fe ((aA f y fs).lookup g) (if g=f then some u else mA g);rw[gC];by_cases q:g=f
  ·rw[aJ q,aJ q];exact ry
  rw[aB q,aB q];exact r g
 by_cases q:g=f
 ·rw[q];exact (Om f y fs).1
 apply (Om f y fs).2 g (wi g λz=>hg ?_);show (if g=f then some u else mA g)=none;rw[aB q];exact z
theorem Inv.made(I:Inv X pins σ H s):Inv X pins σ (upd (upd H s.heap.objs.size (.own (s.heap.objs.size+1))) (s.heap.objs.size+1) (.ins C s.heap.objs.size []))
  { s with heap:=(s.heap.push PySem.W.emptyDict).push (PySem.W.instObj C s.heap.objs.size) }:=by
 have e1:(s.heap.push PySem.W.emptyDict).get? s.heap.objs.size\PySem.W.emptyDict:=cy s.heap U
 have e2:((s.heap.push PySem.W.emptyDict).push (PySem.W.instObj C s.heap.objs.size)).get? (s.heap.objs.size+1)\PySem.W.instObj C s.heap.objs.size:=by
  have:=cy (s.heap.push PySem.W.emptyDict) (o:=PySem.W.instObj C s.heap.objs.size) U;rwa [mj] at this
 have e3:(s.heap.push PySem.W.emptyDict).Ns s.heap.objs.size (λ_=>none):=#[PySem.W.emptyDict,#[],_,e1,U,(λe he=>absurd he Z2),λ_=>rfl];let I1:=I.laid (a:=s.heap.objs.size) (o:=.own (s.heap.objs.size+1)) (h':=s.heap.push PySem.W.emptyDict) (t':=s.toks) (λb u q=>aS _ q) (bc _) #[_,e1];apply I1.laid (a:=s.heap.objs.size+1) (o:=.ins C s.heap.objs.size []) (t':=s.toks) (λb u q=>aS _ q) (Nat.le_of_eq (mj _ _)) ?_;have ne:s.heap.objs.size≠s.heap.objs.size+1:=dC (Nat.lt_succ_self _);apply#[by rw[ax ne,az],gE _,ne,e2,λ_=>none,(Heap.Ns1.of_empty e3).at λo q=>aS _ q,λ_=>True.intro,λy hy=>absurd U hy]
theorem ZJ{prog:Ad}{w:Af}{env:Env}{e:Expr}{f:Str}{pos:Pos}{s:Ab}{Q:Aa->Ab->Prop}(hb:attributeBase e f env (eval e env)=eval e env)
  (h:wpAny (model prog w) A (eval e env) (λo aK=>wpAny (model prog w) A (getAttr o f true) Q E aK) E s):wpAny (model prog w) A (eval (.Attribute e f pos) env) Q E s:=
 Attribute_any_ h (by rw[arm_eval_Attribute,hb])
end
inductive wZ (K:aj) (f:Str) (Q:VK) (x:V) (H1:Hp):Prop
 |mk:∀a C dx fs v,x=.ref a->H1 a\.ins C dx fs->mX K C->mE K C f->fs.lookup f\v->Q v H1->wZ K f Q x H1
def JX(K:aj)(ta:TE)(f:Str):TE:=λσ H Q=>ta σ H λx H1=>wZ K f Q x H1
inductive xc (K:aj) (f:Str) (D:Ends) (σ:St) (y:V) (x:V) (H2:Hp):Prop
 |mk:∀a C dx fs,x=.ref a->H2 a\.ins C dx fs->mX K C->mE K C f->fs.length<1000->D.nx σ (upd H2 a (.ins C dx (aA f y fs)))->xc K f D σ y x H2
def J_(K:aj)(ta tv:TE)(f:Str):TS:=λD σ H=>tv σ H λy H1=>ta σ H1 λx H2=>xc K f D σ y x H2
section
variable{X:Cx}{o e value:Expr}{f:Str}{pos pos' Cs:Pos}{ta tv:TE}
theorem gd(he:PE X e ta)(hb:attributeBase e f X.env (eval e X.env)=eval e X.env):PE X (.Attribute e f pos) (JX X.K ta f):=by
 intro pins s σ H Q I h;apply ZJ hb (aQ (he pins s σ H _ I h) λu s1 ⟨x,H1,I1,rx,a,C,dx,fs,v,ex,ea,c,n,l,q⟩=>?_);subst ex;obtain rfl:u=Value.ref a:=rx;exact fA_ I1 ea c n l λu' s2 I2 ru=>#[v,H1,I2,ru,q]
theorem uM(ha:PE X o ta)(hv:PE X value tv)(hs:swapsWith value (some (.Attribute o f pos')) pos.line X.env=pure false):PS X (.Assign [.Attribute o f pos'] value pos) (J_ X.K ta tv f):=by
 intro pins s σ H D I h;apply plainObj_wpAny_Assign_Attribute (aQ (hv pins s σ H _ I h) λu s1 ⟨y,H1,I1,ry,q⟩=>aQ (ha pins s1 σ H1 _ I1 q) λov s2 ⟨x,H2,I2,rx,a,C,dx,fs,ex,ea,c,n,l,q2⟩=>?_) hs;subst ex;obtain rfl:ov=Value.ref a:=rx;exact fH_ I2 ea c n l ry λs3 I3=>#[σ,_,I3,q2]
end
section
variable{X:Cx}{pins:List (Addr × Obj)}{σ:St}{H:Hp}{s:Ab}{A:Ag}{E:Aa->Ab->Prop}{Q:Aa->Ab->Prop}{c:Aa}{b:Bool}
inductive fP (K:aj) (H:Hp):V->Aa->Prop where
 |non:fP K H .non (.type "NoneType")
 |bl (x:Bool):fP K H (.bl x) (.type "bool")
 |int (i:Int):fP K H (.int i) (.type "int")
 |str (x:Str):fP K H (.str x) (.type "str")
 |flt (x:UInt64):fP K H (.flt x) (.type "float")
 |lst {a:Addr} {xs:ai} (e:H a\.lst xs):fP K H (.ref a) (.type "list")
 |frz {a:Addr} {o:Obj} {xs:ai} (e:H a\.frz o (.lst xs)):fP K H (.ref a) (.type "list")
 |tup {a:Addr} {xs:ai} (e:H a\.tup xs):fP K H (.ref a) (.type "tuple")
 |dK {a:Addr} {kvs:List (Key × V)} (e:H a\.dK kvs):fP K H (.ref a) (.type "dict")
 |dT {a:Addr} {kvs:List (av × V)} (e:H a\.dT kvs):fP K H (.ref a) (.type "dict")
 |ins {a C dx:Addr} {fs:List (Str × V)} (e:H a\.ins C dx fs) (cl:mX K C) (ha:PySem.W.findIn K (.ref C) "__class__"\some (.builtin "object.__class__"))
   (hn:PySem.W.specialIn K (.builtin "object.__class__") "__get__"\some (.builtin "getset_descriptor.__get__")) (GT:PySem.W.takesIn K (.builtin "object.__class__")\true)
   (hm:PySem.W.mroIn K C (.type "object")\true):fP K H (.ref a) (.ref C)
theorem Ua{x:V}{u t:Aa}(I:Inv X pins σ H s)(rx:RelV x u)(ty:fP X.K H x t)(e:PySem.W.kitOne X.K t c\b)(h:∀tk,Q (.bool b) { s with toks:=tk }) :
  wpAny (model X.prog X.w) A (call (.builtin "isinstance") [u,c]) Q E s:=by
 cases ty with
 |non=>cases (show u=Value.none from rx);exact tj PySem.W.kitx_none I.gN True.intro e nofun h
 |bl y=>cases (show u=Value.bool y from rx);exact tj PySem.W.kitx_bool I.gN True.intro e nofun h
 |int i=>let#[t,q]:=(show ∃t,u=Value.int i t from rx);cases q;exact tj PySem.W.kitx_int I.gN True.intro e nofun h
 |str y=>let#[t,q]:=(show ∃t,u=Value.str y t from rx);cases q;exact tj PySem.W.kitx_str I.gN True.intro e nofun h
 |flt y=>let#[t,q]:=(show ∃t,u=Value.float y t from rx);cases q;exact tj PySem.W.kitx_float I.gN True.intro e nofun h
 |@lst a xs ea=>
  cases (show u=Value.ref a from rx);let#[_,_,n,_,h1]:=(show fC X.prog X.w H s.heap a (.lst xs) from I.ay a _ ea);exact tj PySem.W.kitx_list I.gN #[_,h1,U] e nofun h
 |@frz a ob xs ea=>
  cases (show u=Value.ref a from rx);let#[_,_,_,n,_,h1]:=(show fC X.prog X.w H s.heap a (.frz ob (.lst xs)) from I.ay a _ ea);exact tj PySem.W.kitx_list I.gN #[_,h1,U] e nofun h
 |@tup a xs ea=>
  cases (show u=Value.ref a from rx);let#[_,_,_,p,_]:=(show fC X.prog X.w H s.heap a (.tup xs) from I.ay a _ ea);let#[o,h1,h2,_]:=p;exact tj PySem.W.kitx_tuple I.gN #[o,h1,h2] e nofun h
 |@dK a kvs ea=>
  cases (show u=Value.ref a from rx);let#[_,_,vs,_,p]:=(show fC X.prog X.w H s.heap a (.dK kvs) from I.ay a _ ea);let#[o,es,ep,h1,h2,_]:=p;exact tj PySem.W.kitx_dict I.gN #[o,h1,h2.1] e nofun h
 |@dT a kvs ea=>
  cases (show u=Value.ref a from rx);let#[_,_,xs,_,o,es,ep,h1,h2,_]:=(show fC X.prog X.w H s.heap a (.dT kvs) from I.ay a _ ea);exact tj PySem.W.kitx_dict I.gN #[o,h1,h2.1] e nofun h
 |@ins a C dx fs ea cl ha hn GT hm=>
  cases (show u=Value.ref a from rx);let#[mA,O,_]:=Ie I.ay ea;let#[od,J,_]:=O.look;exact tj (PySem.W.kitx_own (cl.get _) cl.hd ha hn GT hm) I.gN J e nofun h
end
end L2
namespace L2
open PySem PySem.Spec PyProof.Rows
structure aP (k:Nat) (A:Ag):Prop where
 hd:A.handled=none
 dp:A.depth+3 * k+5<recursionLimit
 un:A.units+16 * k+200<cLine
theorem aP.mono{j k:Nat}{A:Ag}(r:aP k A)(h:j<=k):aP j A:=#[r.hd,by have:=r.dp;omega,by have:=r.un;omega]
theorem aP.deeper{k:Nat}{A:Ag}(r:aP (k+1) A)(env:Env):aP k (A.deeper env):=
 #[r.hd,by have:=r.dp;show A.depth+1+3 * k+5<_;omega,by have:=r.un;show A.units+3+16 * k+200<_;omega]
theorem aP.in1{k:Nat}{A:Ag}(r:aP (k+1) A):aP k A.in1:=
 #[r.hd,by have:=r.dp;show A.depth+3 * k+5<_;omega,by have:=r.un;show A.units+1+16 * k+200<_;omega]
theorem fu_{A:Ag}{C:Addr}{us:ag}{kw:List (Str × Aa)}:(A.under (.builtin "type.__call__" #[.ref C::us,kw])).depth=A.depth+1:=by
 first|rfl|simp[Around.under,Code.weight,Code.isCreation,Code.isGuard,Code.isCaller,Code.frames,Code.isFrame,guardIds]
theorem fJ_{A:Ag}{C:Addr}{us:ag}{kw:List (Str × Aa)}:(A.under (.builtin "type.__call__" #[.ref C::us,kw])).units=A.units+1:=by
 first|rfl|simp[Around.under,Code.cUnits,Code.frames,Code.isFrame]
theorem aP.make{k:Nat}{A:Ag}(r:aP (k+1) A)(C:Addr)(us:ag)(kw:List (Str × Aa)):aP k (A.under (.builtin "type.__call__" #[.ref C::us,kw])):=
 #[r.hd,by have:=r.dp;rw[fu_];omega,by have:=r.un;rw[fJ_];omega]
theorem aP.depth{k:Nat}{A:Ag}(r:aP k A):A.depth<recursionLimit:=by have:=r.dp;omega
theorem aP.units{k:Nat}{A:Ag}(r:aP k A):A.units+64<cLine:=by have:=r.un;omega
def oO:TA:=λ_ H Q=>Q [] H
def jt(ta:TE)(tr:TA):TA:=λσ H Q=>ta σ H λx H1=>tr σ H1 λxs H2=>Q (x::xs) H2
section
variable{X:Cx}{e:Expr}{es:List Expr}{te:TE}{t:TA}{pos:Pos}
theorem bF:PA X [] oO:=λ_ _ _ _ H Q I h=>Calls.spliced_nil #[[],H,I,.nil,h]
theorem iQ(ha:PE X e te)(hr:PA X es t)(hs:starEach (e::es) X.env=(false,eval e X.env)::starEach es X.env:=by rfl):PA X (e::es) (jt te t):=by
 intro pos pins s σ H Q I h;rw[hs];show wpAny _ _ (spliced ((false,eval e X.env)::backTo pos (starEach es X.env))) _ _ s;apply Calls.spliced_cons (aQ (ha pins s σ H _ I h) λu s1 ⟨x,H1,I1,r1,q1⟩=>?_);exact aQ (hr pos pins s1 σ H1 _ I1 q1) λus s2 ⟨xs,H2,I2,r2,q2⟩=>#[x::xs,H2,I2,.cons r1 r2,q2]
def Cw(t:TA):TE:=λσ H Q=>t σ H λxs H1=>xs.length<=sizeLine/\∀p,H1 p=none->Q (.ref p) (upd H1 p (.tup xs))
def JT(t:TA):TE:=λσ H Q=>t σ H λxs H1=>xs.length<=sizeLine/\∀p,H1 p=none->Q (.ref p) (upd H1 p (.lst xs))
theorem iC{x1}(h:PA X es t):PE X (.Tuple es x1 pos) (Cw t):=by
 intro pins s σ H Q I hq;apply wpAny_Tuple_spliced (aQ (h pos pins s σ H _ I hq) λus s1 ⟨xs,H1,I1,r,z,q⟩=>#[by rw[<- r.length];exact z,?_]);have hf:H1 s1.heap.objs.size=none:=I1.ay.fresh (bc _);apply#[.ref s1.heap.objs.size,upd H1 s1.heap.objs.size (.tup xs),I1.laid (t':=s1.toks) (λb u e=>aS _ e) (bc _) ?_,U,q _ hf];exact#[z,us,r,#[_,cy _ U,U,_,U],_,cy _ U,U]
theorem fF(h:PA X es t):PE X (.List es pos) (JT t):=by
 intro pins s σ H Q I hq;apply wpAny_List_spliced (aQ (h pos pins s σ H _ I hq) λus s1 ⟨xs,H1,I1,r,z,q⟩=>#[by rw[<- r.length];exact z,?_]);have hf:H1 s1.heap.objs.size=none:=I1.ay.fresh (bc _);apply#[.ref s1.heap.objs.size,upd H1 s1.heap.objs.size (.lst xs),I1.laid (t':=s1.toks) (λb u e=>aS _ e) (bc _) ?_,U,q _ hf];exact#[z,us,0,r,cy _ U]
end
abbrev Sp:=ai->Hp->VK->XK->Prop
abbrev kK:=List Env->Hp->Ab->XK->Aa->Ab->Prop
structure iD (P:Ad) (w:Af) (K:aj) (mg:Str->Option Aa) (base:Heap) (A:Ag) (outer:List Env) (s:Ab) (H:Hp):Prop where
 frames:A.frames\outer
 mod:Mod K mg base
 bs:∀b o,base.get? b\o->s.heap.get? b\o/\H b=none
 tL:base.objs.size<=s.heap.objs.size
 f_:s.heap.FunFrames base outer
 vU:∀b∈o_ outer,H b=none
 ay:fU P w H s.heap
 bare:AllBare s.gens
def CE(outer:List Env)(P:Ad)(w:Af)(H:Hp)(s:Ab)(Q:VK)(u:Aa)(s':Ab):Prop:=
 ∃v H',s'.os=s.os/\AllBare s'.gens/\Un (o_ outer) [] H H' s.heap s'.heap/\fU P w H' s'.heap/\RelV v u/\Q v H'
def CR(CX:kK)(outer:List Env)(P:Ad)(w:Af)(H:Hp)(s:Ab)(Q:VK)(E:XK)(r:Result)(s':Ab):Prop:=
 match r with
 |.ok (.ret u)=>CE outer P w H s Q u s'
 |.ok _=>False
 |.error e=>CX outer H s E e s'
structure aq (P:Ad) (w:Af) (K:aj) (mg:Str->Option Aa) (base:Heap) (CX:kK) (k:Nat) (f:Addr) (fd:Ae) (ps:ae) (sp:Sp):Prop where
 len:∀vs H Q E,sp vs H Q E->vs.length=ps.length
 run:∀(A:Ag) (outer:List Env) (s:Ab) (H:Hp) (args:Args) (us:ag) (vs:ai) (Q:VK) (E:XK),aP k A->iD P w K mg base A outer s H->BindsTo s fd args (ps.zip us)->Vals vs us->sp vs H Q E->
  codeAny (model P w) A (.call (.ref f) args) (CR CX outer P w H s Q E) s
theorem aq.imp{P:Ad}{w:Af}{K:aj}{mg:Str->Option Aa}{base:Heap}{CX:kK}{k:Nat}{f:Addr}{fd:Ae}{ps:ae}{sp A9:Sp}(F:aq P w K mg base CX k f fd ps sp)
  (h:∀vs H Q E,A9 vs H Q E->sp vs H Q E):aq P w K mg base CX k f fd ps A9:=
 #[λvs H Q E q=>F.len vs H Q E (h _ _ _ _ q),λA outer s H args us vs Q E hr he hb hv hs=>F.run A outer s H args us vs Q E hr he hb hv (h _ _ _ _ hs)]
theorem iD.make{P:Ad}{w:Af}{K:aj}{mg:Str->Option Aa}{base:Heap}{A:Ag}{outer:List Env}{s:Ab}{H:Hp}(e:iD P w K mg base A outer s H)(C:Addr)(us:ag)(kw:List (Str × Aa)) :
  iD P w K mg base (A.under (.builtin "type.__call__" #[.ref C::us,kw])) outer s H:=#[by first|exact e.frames|(simpa [Around.under,Code.envs,Code.isFrame,pushEnvs] using e.frames),e.mod,e.bs,e.tL,e.f_,e.vU,e.ay,e.bare]
section
variable{X:Cx}{pins:List (Addr × Obj)}{σ:St}{H:Hp}{s s':Ab}
theorem Inv.Ao(I:Inv X pins σ H s):iD X.prog X.w X.K X.mg X.base X.A X.stack s H:=
 #[I.ok.frames,I.ok.mod,I.bs,gm I.ok.tL I.sz,I.stack,I.nu,I.ay,I.bare]
theorem Inv.after{Q:VK}{u:Aa}(I:Inv X pins σ H s)(h:CE X.stack X.prog X.w H s Q u s'):EP X pins σ Q u s':=by
 let#[v,H',os,bare,un,ay,r,q]:=h;let#[hh,g,d,t,W9]:=s';obtain rfl:W9=s.os:=os;exact#[v,H',I.call (h':=hh) (g':=g) (d':=d) (t':=t) (ch:=[]) un ay bare (λb z=>absurd z Z2),r,q]
end
def w9(sp:Sp)(gP:ai)(E:XK)(t:TA):TE:=λσ H Q=>t σ H λvs H1=>sp (vs++gP) H1 Q E
inductive qu (C:Addr) (m:Str) (sp:Sp) (gP:ai) (E:XK) (t:TA) (σ:St) (Q:VK) (x:V) (H1:Hp):Prop
 |mk:∀a dx fs,x=.ref a->H1 a\.ins C dx fs->fs.lookup m=none->(t σ H1 λvs H2=>sp (x::(vs++gP)) H2 Q E)->qu C m sp gP E t σ Q x H1
def nh(C:Addr)(m:Str)(sp:Sp)(gP:ai)(E:XK)(ta:TE)(t:TA):TE:=λσ H Q=>ta σ H λx H1=>qu C m sp gP E t σ Q x H1
def wX(C:Addr)(sp:Sp)(gP:ai)(E:XK)(t:TA):TE:=λσ H Q=>t σ H λvs H1=>∀x dx,H1 x=none->H1 dx=none->dx≠x->
 sp (.ref x::(vs++gP)) (upd (upd H1 dx (.own x)) x (.ins C dx [])) (λv H2=>v=.non/\Q (.ref x) H2) E
def pX(K:aj)(fd:Ae)(ps:ae)(ds:ag):Prop:=
 ∀(s:Ab) (us:ag),K.In s.heap->(us++ds).length=ps.length->BindsTo s fd #[us,[]] (ps.zip (us++ds))
theorem pX.all{K:aj}{fd:Ae}{ps:ae}(h:∀us:ag,us.length=ps.length->bindArgs fd #[us,[]]=pure (ps.zip us)):pX K fd ps []:=λs us _ hl=>by
 rw[List.append_nil] at hl ⊢;exact .of_eq (h us hl)
def wG(CX:kK)(X:Cx)(E:XK):Prop:=∀(pins:List (Addr × Obj)) (σ:St) (H:Hp) (s:Ab) (e:Aa) (s':Ab),Inv X pins σ H s->CX X.stack H s E e s'->X.xe e s'
section
variable{X:Cx}{CX:kK}{k:Nat}{f C:Addr}{fd:Ae}{ps:ae}{sp:Sp}{gP:ai}{ds:ag}{E:XK}{x m:Str}{p pos apos:Pos}{e o:Expr}{es:List Expr}{ta:TE}{t:TA}
theorem Mi{pins:List (Addr × Obj)}{σ:St}{H:Hp}{s:Ab}{Q:VK}{us:ag}{vs:ai}(F:aq X.prog X.w X.K X.mg X.base CX k f fd ps sp)(hr:aP k X.A)(hb:pX X.K fd ps ds)(hd:Vals gP ds)(hx:wG CX X E)
  (I:Inv X pins σ H s) (r:Vals vs us) (h:sp (vs++gP) H Q E):wpAny (model X.prog X.w) X.A (call (.ref f) us) (EP X pins σ Q) X.xe s:=by
 have r2:Vals (vs++gP) (us++ds):=r.append hd;have hl:(us++ds).length=ps.length:=by rw[<- r2.length];exact F.len _ _ _ _ h
 apply wpAny_call (codeAny_mono (F.run X.A X.stack s H #[us,[]] (us++ds) (vs++gP) Q E hr I.Ao (hb s us I.gN hl) r2 h) λr s' hq=>?_);cases r with
 |error e=>exact hx pins σ H s e s' I hq
 |ok fl=>
  cases fl with
  |ret u=>exact I.after hq
  |next=>exact False.elim hq
  |brk=>exact False.elim hq
  |cont=>exact False.elim hq
theorem ZR(F:aq X.prog X.w X.K X.mg X.base CX k f fd ps sp)(hr:aP k X.A)(hg:Gl X x)(hm:X.mg x\.ref f)(hk:PySem.W.keepIn X.K (.ref f)=true)(hb:pX X.K fd ps ds)(hd:Vals gP ds)(hx:wG CX X E)
  (ha:PA X (e::es) t) (sP:(x == ("__debug__":Str))=false:=by decide) (he:starEach (e::es) X.env=(false,eval e X.env)::starEach es X.env:=by rfl) (iq:(backTo pos (starEach es X.env)).any (·.1)=false:=by rfl) :
  PE X (.Call (.Name x p) (e::es) [] pos) (w9 sp gP E t):=by
 intro pins s σ H Q I h;apply wpAny_Call_Name_kw (MK I hg hm ?_ sP);apply PySem.W.callWith_K (h₀:=X.base) I.ok.mod.DV hk (aQ (ha pos pins s σ H _ I h) λus s1 ⟨vs,H1,I1,r,q⟩=>#[I1.gN,?_]) he iq;exact Mi F hr hb hd hx I1 r q
theorem Zb{pl:Sem Bool}(he:PE X o ta)(c:mX X.K C)(hm:Meth X.K C m f)(F:aq X.prog X.w X.K X.mg X.base CX k f fd ps sp)(hr:aP k X.A)(hb:pX X.K fd ps ds)(hd:Vals gP ds)(hx:wG CX X E)(ha:PA X (e::es) t)
  (lZ:starEach (e::es) X.env=(false,eval e X.env)::starEach es X.env:=by rfl) (iq:(backTo pos (starEach es X.env)).any (·.1)=false:=by rfl)
  (ht:eval (.Call (.Attribute o m apos) (e::es) [] pos) X.env=(do
   let ov <- eval o X.env
   standAt apos.atName
   let (f,first) <- holding [ov] (getMethod ov m pl)
   callWith pos f first (backTo pos (starEach (e::es) X.env)) (backToKw pos (keywordEach [] X.env))):=by rfl) :
  PE X (.Call (.Attribute o m apos) (e::es) [] pos) (nh C m sp gP E ta t):=by
 intro pins s σ H Q I h;apply PySem.W.methodCall_KW (pl:=pl) (aQ (he pins s σ H _ I h) λu s1 ⟨x,H1,I1,rx,a,dx,fs,ex,ea,l,q⟩=>?_) ht;subst ex;obtain rfl:u=Value.ref a:=rx;apply Ul I1 ea c hm l ?_;apply PySem.W.callWith_K (first:=[.ref a]) (h₀:=X.base) I.ok.mod.DV hm.kp (aQ (ha pos pins s1 σ H1 _ I1 q) λus s2 ⟨vs,H2,I2,r,q2⟩=>#[I2.gN,?_]) lZ iq;exact Mi (us:=.ref a::us) (vs:=.ref a::vs) F hr hb hd hx I2 (.cons U r) q2
theorem _G{pl:Sem Bool}(he:PE X o ta)(c:mX X.K C)(hm:Meth X.K C m f)(F:aq X.prog X.w X.K X.mg X.base CX k f fd ps sp)(hr:aP k X.A)(hb:pX X.K fd ps ds)(hd:Vals gP ds)(hx:wG CX X E)
  (ht:eval (.Call (.Attribute o m apos) [] [] pos) X.env=(do
   let ov <- eval o X.env
   standAt apos.atName
   let (f,first) <- holding [ov] (getMethod ov m pl)
   callWith pos f first (backTo pos (starEach [] X.env)) (backToKw pos (keywordEach [] X.env))):=by rfl) :
  PE X (.Call (.Attribute o m apos) [] [] pos) (nh C m sp gP E ta oO):=by
 intro pins s σ H Q I h;apply PySem.W.methodCall_KW (pl:=pl) (aQ (he pins s σ H _ I h) λu s1 ⟨x,H1,I1,rx,a,dx,fs,ex,ea,l,q⟩=>?_) ht;subst ex;obtain rfl:u=Value.ref a:=rx;apply Ul I1 ea c hm l ?_;exact PySem.W.callWith_K0 (first:=[.ref a]) I1.gN hm.kp (Mi (us:=[.ref a]) (vs:=[.ref a]) F hr hb hd hx I1 (.cons U .nil) q)
structure Mk (K:aj) (C f:Addr):Prop where
 makes:PySem.W.makesIn K C=true
 init:PySem.W.findIn K (.ref C) "__init__"\some (.ref f)
 fn:PySem.W.isFn K (.ref f)=true
 kp:PySem.W.keepIn K (.ref C)=true
theorem _J{pins:List (Addr × Obj)}{σ:St}{H:Hp}{s:Ab}{Q:VK}{us:ag}{vs:ai}(M:Mk X.K C f)(F:aq X.prog X.w X.K X.mg X.base CX k f fd ps sp)(hr:aP (k+1) X.A)(hb:pX X.K fd ps ds)(hd:Vals gP ds)
  (hx:wG CX X E) (I:Inv X pins σ H s) (r:Vals vs us)
  (h:∀x dx,H x=none->H dx=none->dx≠x->sp (.ref x::(vs++gP)) (upd (upd H dx (.own x)) x (.ins C dx [])) (λv H2=>v=.non/\Q (.ref x) H2) E) :
  wpAny (model X.prog X.w) X.A (call (.ref C) us) (EP X pins σ Q) X.xe s:=by
 let hq:=h (s.heap.objs.size+1) s.heap.objs.size (I.ay.fresh (Nat.le_succ _)) (I.ay.fresh (bc _)) (dC (Nat.lt_succ_self _));let I2:=Inv.made (C:=C) I;have r2:Vals (V.ref (s.heap.objs.size+1)::(vs++gP)) (Value.ref (s.heap.objs.size+1)::(us++ds)):=.cons U (r.append hd)
 have hl:(Value.ref (s.heap.objs.size+1)::us++ds).length=ps.length:=by
  let e:=r2.length;rw[F.len _ _ _ _ hq] at e;exact e.symm
 apply wpAny_call (_L (f:=f) I.gN M.makes M.init (beq_iff_eq.mp M.fn) (codeAny_mono (F.run _ X.stack _ _ #[Value.ref (s.heap.objs.size+1)::us,[]] (Value.ref (s.heap.objs.size+1)::(us++ds)) _ _ E (hr.make C us [])
  (I2.Ao.make C us []) (hb _ (Value.ref (s.heap.objs.size+1)::us) I2.gN hl) r2 hq) λr s' hq'=>?_))
 cases r with
 |error e=>exact hx pins σ _ _ e s' I2 hq'
 |ok fl=>
  cases fl with
  |ret u=>
   let#[v,H',I3,rv,ev,q3]:=I2.after hq';subst ev;exact#[rv,#[V.ref (s.heap.objs.size+1),H',I3,U,q3]]
  |next=>exact False.elim hq'
  |brk=>exact False.elim hq'
  |cont=>exact False.elim hq'
theorem Y6(M:Mk X.K C f)(F:aq X.prog X.w X.K X.mg X.base CX k f fd ps sp)(hr:aP (k+1) X.A)(hg:Gl X x)(hm:X.mg x\.ref C)(hb:pX X.K fd ps ds)(hd:Vals gP ds)(hx:wG CX X E)
  (ha:PA X (e::es) t) (sP:(x == ("__debug__":Str))=false:=by decide) (he:starEach (e::es) X.env=(false,eval e X.env)::starEach es X.env:=by rfl) (iq:(backTo pos (starEach es X.env)).any (·.1)=false:=by rfl) :
  PE X (.Call (.Name x p) (e::es) [] pos) (wX C sp gP E t):=by
 intro pins s σ H Q I h;apply wpAny_Call_Name_kw (MK I hg hm ?_ sP);apply PySem.W.callWith_K (h₀:=X.base) I.ok.mod.DV M.kp (aQ (ha pos pins s σ H _ I h) λus s1 ⟨vs,H1,I1,r,q⟩=>#[I1.gN,?_]) he iq;exact _J M F hr hb hd hx I1 r q
end
def PK(X:Cx)(Bg:List Keyword)(t:TA):Prop:=
 ∀(pos:Pos) (pins:List (Addr × Obj)) (s:Ab) (σ:St) (H:Hp) (Q:ai->Hp->Prop),Inv X pins σ H s->t σ H Q->wpAny (model X.prog X.w) X.A (evalAll ((backToKw pos (keywordEach Bg X.env)).map (·.2))) (AP X pins σ Q) X.xe s
section
variable{X:Cx}{CX:kK}{k:Nat}{f C:Addr}{fd:Ae}{ps ks:ae}{sp:Sp}{E:XK}{x m:Str}{p pos apos KS:Pos}{e o:Expr}{es:List Expr}{Bg:List Keyword}{te ta:TE}{t tk:TA}{nm:Option Str}
theorem Yt:PK X [] oO:=λ_ _ _ _ H Q I h=>wpAny_evalAll_nil #[[],H,I,.nil,h]
theorem _q(ha:PE X e te)(hr:PK X Bg t):PK X (#[nm,e,KS]::Bg) (jt te t):=by
 intro pos pins s σ H Q I h;show wpAny _ _ (evalAll ((do let v <- eval e X.env;standAt pos;pure v)::(backToKw pos (keywordEach Bg X.env)).map (·.2))) _ _ s;apply wpAny_evalAll_cons (af (aQ (ha pins s σ H _ I h) λu s1 ⟨x,H1,I1,r1,q1⟩=>af (wpAny_standAt (aC ?_))));exact aQ (hr pos pins s1 σ H1 _ I1 q1) λus s2 ⟨xs,H2,I2,r2,q2⟩=>#[x::xs,H2,I2,.cons r1 r2,q2]
structure Pe (K:aj) (fd:Ae) (ps ks:ae) (g:ag->ag->ag) (gV:ai->ai->ai):Prop where
 to:∀(s:Ab) (us ws:ag),K.In s.heap->(g us ws).length=ps.length->BindsTo s fd #[us,ks.zip ws] (ps.zip (g us ws))
 rel:∀{vs:ai} {us:ag} {zs:ai} {ws:ag},Vals vs us->Vals zs ws->Vals (gV vs zs) (g us ws)
variable{g:ag->ag->ag}{gV:ai->ai->ai}
end
structure bN (N P:ae) (sc:Scope):Prop where
 kind:sc.kind=.function
 co:sc.isCoroutine=false
 gen:sc.isGenerator=false
 nd:N.Nodup
 pre:N.take P.length=P
 par:∀x∈P,sc.names.lookup x\.local∨sc.names.lookup x\.cell
 y6:∀y∈sc.names,y.2≠.free
theorem Uc{kindOf:Str->Option NameKind}{x:Str}:∀{binds:List (Str × Aa)} {m:Str->Option Aa},(∀v,(x,v)∉binds)->bindL kindOf binds m x=m x
 |[],_,_=>rfl
 |(n,v)::r,m,h=>by
  unfold bindL;rw[Uc λw hw=>h w (fN _ hw)];split
  ·have:x≠n:=by rintro rfl;exact h v gB
   simp[this]
  rfl
theorem Ue{kindOf:Str->Option NameKind}{x:Str}:∀{binds:List (Str × Aa)} {m:Str->Option Aa},(∀v,(x,v)∉binds)->bindC kindOf binds m x=m x
 |[],_,_=>rfl
 |(n,v)::r,m,h=>by
  unfold bindC;rw[Ue λw hw=>h w (fN _ hw)];split
  ·rfl
  have:x≠n:=by rintro rfl;exact h v gB
  simp[this]
theorem Tc{kindOf:Str->Option NameKind}{x:Str}{v:Aa}:∀{P:ae} {vs:ag} {i:Nat} {m:Str->Option Aa},P.Nodup->P[i]? = some x->vs[i]? = some v->kindOf x\.local->
  bindL kindOf (P.zip vs) m x\v
 |[],_,_,_,_,h,_,_=>by simp at h
 |_::_,[],_,_,_,_,h,_=>by simp at h
 |p::P,w::vs,0,m,nd,h1,h2,hk=>by
  simp at h1 h2;subst h1;subst h2;show bindL kindOf ((p,w)::P.zip vs) m p=_;unfold bindL;rw[Uc λv hv=>(jq.mp nd).1 (List.of_mem_zip hv).1,aJ hk];simp
 |p::P,w::vs,i+1,m,nd,h1,h2,hk=>by
  show bindL kindOf ((p,w)::P.zip vs) m x=_;unfold bindL;exact Tc (i:=i) (jq.mp nd).2 ⇑h1 ⇑h2 hk
theorem TH{kindOf:Str->Option NameKind}{x:Str}{v:Aa}:∀{P:ae} {vs:ag} {i:Nat} {m:Str->Option Aa},P.Nodup->P[i]? = some x->vs[i]? = some v->kindOf x≠some .local->
  bindC kindOf (P.zip vs) m x\v
 |[],_,_,_,_,h,_,_=>by simp at h
 |_::_,[],_,_,_,_,h,_=>by simp at h
 |p::P,w::vs,0,m,nd,h1,h2,hk=>by
  simp at h1 h2;subst h1;subst h2;show bindC kindOf ((p,w)::P.zip vs) m p=_;unfold bindC;rw[Ue λv hv=>(jq.mp nd).1 (List.of_mem_zip hv).1,aB hk];simp
 |p::P,w::vs,i+1,m,nd,h1,h2,hk=>by
  show bindC kindOf ((p,w)::P.zip vs) m x=_;unfold bindC;exact TH (i:=i) (jq.mp nd).2 ⇑h1 ⇑h2 hk
def start(N:ae)(vs:ai):St:=vs.map some++List.replicate (N.length - vs.length) none
def iZ(CX:kK)(P:Ad)(w:Af)(K:aj)(mg:Str->Option Aa)(base:Heap)(N:ae)(qual:Str)(scope:Scope)(f:Addr)(cd:Aa)(A:Ag)(outer:List Env)(s:Ab)(H:Hp)(E:XK):Cx where
 prog:=P
 w:=w
 K:=K
 mg:=mg
 base:=base
 A:=A.deeper (envOfC qual scope s.heap.objs.size f cd)
 N:=N
 dc:=s
 jZ:=H
 env:=envOfC qual scope s.heap.objs.size f cd
 outer:=outer
 stack:=envOfC qual scope s.heap.objs.size f cd::outer
 ex:=[]
 calm:=true
 fn:=λ_=>true
 pn:=[]
 xe:=λe s'=>wpAny (model P w) (A.deeper (envOfC qual scope s.heap.objs.size f cd)) (leaving (envOfC qual scope s.heap.objs.size f cd) e) (λ_ pM=>CX outer H s E e pM) (λe' pM=>CX outer H s E e' pM) s'
theorem Tx{sc:Scope}{n:Nat}{x:Str}(h:sc.names.lookup x\.cell):∃c,(cellsFrom n sc.names []).lookup x\c:=by
 let q:=PySem.W.cellsFrom_some sc.names n [] (.inl h);exact Option.isSome_iff_exists.mp q
theorem gY_{CX:kK}{P:Ad}{w:Af}{K:aj}{mg:Str->Option Aa}{base:Heap}{N ps:ae}{qual:Str}{scope:Scope}{f:Addr}{cd:Aa}{A:Ag}{outer:List Env}{s s1:Ab}{H:Hp}{E:XK}{us:ag}{vs:ai}
  (S:bN N ps scope) (hd:A.handled=none) (e0:iD P w K mg base A outer s H) (hl:vs.length=ps.length) (r:Vals vs us)
  (x:InCallC s s.heap.objs.size (bindL (envOfC qual scope s.heap.objs.size f cd).kindOf (ps.zip us) λ_=>none) (cellsFrom (s.heap.objs.size+1) scope.names []) (bindC (envOfC qual scope s.heap.objs.size f cd).kindOf (ps.zip us) λ_=>none) s1) :
  Inv (iZ CX P w K mg base N qual scope f cd A outer s H E) [] (start N vs) H s1:=by
 have iq:ps.length<=N.length:=by have:=eG List.length S.pre;rw[dR] at this;omega
 let#[h1,tk,rfl,hk]:=x.done;have vy:∀b:Addr,b∉(iZ CX P w K mg base N qual scope f cd A outer s H E).ex:=λb z=>absurd (show b∈([]:ao) from z) Z2
 apply#[#[e0.mod,S.kind,U,U,bc _,λy z c h1 h2=>?_,λy hy=>?_,λy c _ h=>?_,λ_=>hd,Around.frames_deeper e0.frames,.inr #[U,U],λb z=>absurd z (vy b),e0.bs,e0.tL,λb _ _=>vy b,λb z=>absurd z (vy b),e0.f_,e0.vU],
  rfl,e0.bare,Un.kept hk,#[_,x.toInCall.ns,λi y v h1 h2 h3=>?_],λy c h=>#[_,x.cell y c h],e0.ay.fresh (bc _),λy c h=>?_,λp hp=>absurd (show p∈([]:List (Addr × Obj)) from hp) Z2,e0.ay.kept hk,?_]
 ·exact name_of_addr x.apart (p9 h1) (p9 h2)
 ·have hy:scope.names.lookup y\.cell∨scope.names.lookup y\.free:=hy;rcases hy with hy|hy
  ·exact Tx hy
  exact absurd U (S.y6 _ (p9 hy))
 ·exact Nat.le_of_lt (x.above y c (p9 h))
 ·have hi:i<vs.length:=by
   unfold start at h2;by_cases hi:i<vs.length
   ·exact hi
   rw[yb ⇑hi] at h2;rw[List.getElem?_replicate] at h2;split at h2<;>cases h2
  have ha:vs[i]? = some v:=by
   unfold start at h2;rw[wK ⇑hi,dF] at h2;cases e:vs[i]? with
   |none=>rw[e] at h2;cases h2
   |some a=>rw[e] at h2;cases h2;rfl
  let#[u,hu,rv]:=r.get ha
  have hp:ps[i]? = some y:=by
   rw[<- S.pre,List.getElem?_take_of_lt Z1];exact h1
  have GC:ps.Nodup:=by rw[<- S.pre];exact S.nd.sublist (List.take_sublist _ _)
  apply#[u,rv,?_];rcases S.par y (cz hp) with k|k
  ·exact .inl #[k,Tc GC hp hu k]
  let#[c,e]:=Tx (n:=s.heap.objs.size+1) k;apply .inr #[.inl k,c,e,?_];let q:=x.cell y c e;rw[TH GC hp hu (by show scope.names.lookup y≠_;rw[k];decide)] at q;exact q
 ·exact e0.ay.fresh (Nat.le_of_lt (x.above y c (p9 h)))
 unfold start;show _=N.length;rw[eM,au,BZ];omega
theorem QH{CX:kK}{P:Ad}{w:Af}{K:aj}{mg:Str->Option Aa}{base:Heap}{k:Nat}{f:Addr}{name qual:Str}{params:Arguments}{body:List Stmt}{scope:Scope}{dV kV doc pm aM ct oc:Aa}{an od:Option Addr}
  {jx:Array (Option Aa)} {N ps:ae} {sp:Sp} (lk:K.lookup f=some #[oc,od,.func (PySem.W.fnOf name qual params body scope dV kV doc pm an aM ct),jx]) (iw:PySem.W.codeIn K aM qual=true) (S:bN N ps scope)
  (len:∀vs H Q E,sp vs H Q E->vs.length=ps.length)
  (fX:∀(A:Ag) (outer:List Env) (s:Ab) (H:Hp) (vs:ai) (Q:VK) (E:XK),aP k (A.deeper (envOfC qual scope s.heap.objs.size f aM))->sp vs H Q E->
   ∃t,jX (iZ CX P w K mg base N qual scope f aM A outer s H E) body t/\t { nx:=λ_ H'=>Q .non H',rt:=Q } (start N vs) H) :
  aq P w K mg base CX (k+1) f (PySem.W.fnOf name qual params body scope dV kV doc pm an aM ct) ps sp:=by
 apply#[len,λA outer s H args us vs Q E hr e0 hb r ki=>?_];let hl:=len _ _ _ _ ki;have KX:K.In s.heap:=e0.mod.DV.keeps λb o e=>(e0.bs b o e).1;have lim:s.heap.NoLimit:=e0.mod.nolimit.keeps λb o e=>(e0.bs b o e).1
 have Ey:∀y∈ps.zip us,scope.names.lookup y.1\.local∨(scope.names.lookup y.1\.cell/\((cellsFrom (s.heap.objs.size+1) scope.names []).lookup y.1).isSome=true):=λ⟨n,v⟩ hy=>by
  rcases S.par n (List.of_mem_zip hy).1 with q|q
  ·exact .inl q
  exact .inr #[q,PySem.W.cellsFrom_some _ _ _ (.inl q)]
 apply codeAny_call_function hr.depth (KX _ _ lk) U S.co S.gen U (PySem.W.codeRec_of KX iw) (hb _ _ _ _ ?_);apply wpAny_newFunctionEnv_cells S.kind Ey λenv he s1 x=>?_;subst he;apply#[lim.keeps x.toInCall.keep,codeAny_func ?_];let#[t,ht,hq]:=fX A outer s H vs Q E (hr.deeper _) ki;have I:Inv (iZ CX P w K mg base N qual scope f aM A outer s H E) [] (start N vs) H s1:=gY_ S hr.hd e0 hl r x;apply wpAny_mono (ht [] s1 (start N vs) H _ I hq) (λfl s' hs=>?_) λe s' hs=>hs
 have fin:∀{aV:St} {H':Hp} {v:V} {u:Aa},Inv (iZ CX P w K mg base N qual scope f aM A outer s H E) [] aV H' s'->RelV v u->Q v H'->CE outer P w H s Q u s':=
  λ{aV H' v u} J rv q=>#[v,H',J.os,J.bare,J.base,J.ay,rv,q]
 cases fl with
 |ret u=>
  let#[v,aV,H',J,rv,q]:=hs;exact fin J rv q
 |next=>
  let#[aV,H',J,q]:=hs;exact fin (v:=V.non) (u:=Value.none) J U q
 |brk=>
  let#[_,_,_,q]:=hs;exact False.elim q
 |cont=>
  let#[_,_,_,q]:=hs;exact False.elim q
end L2
local macro_rules|`(!$f:ident $a*)=>if [`bu,`j_,`bQ,`aq,`jY].contains f.getId then let i:=Lean.mkIdent;`($f $(i `P) $(i `w) $(i `K) $(i `mg) $(i `base) $a*)else Lean.Macro.throwUnsupported
namespace L2
open PySem PySem.Spec PyProof.Rows
section
variable{X:Cx}{x:Str}{p pos:Pos}{e:Expr}{es:List Expr}{t:TA}{id T:String}{r:ai->Hp->VK->Prop}
def PF(r:ai->Hp->VK->Prop)(t:TA):TE:=λσ H Q=>t σ H λvs H1=>r vs H1 Q
theorem cZ(hc:gG X (.builtin id) r)(hg:Gl X x)(hm:X.mg x=none)(hv:bootBuiltins x\.builtin id)(ha:PA X (e::es) t)(hn:x≠"__name__":=by decide)(sP:(x == ("__debug__":Str))=false:=by decide)
  (he:starEach (e::es) X.env=(false,eval e X.env)::starEach es X.env:=by rfl) (iq:(backTo pos (starEach es X.env)).any (·.1)=false:=by rfl):PE X (.Call (.Name x p) (e::es) [] pos) (PF r t):=by
 intro pins s σ H Q I h;apply wpAny_Call_Name_kw (wB I hg hm hv ?_ hn sP);exact PyProof.Rows.callWith_builtin1 (aQ (ha pos pins s σ H _ I h) λus s1 ⟨vs,H1,I1,r1,q1⟩=>hc pins s1 σ H1 vs us Q I1 r1 q1) he iq
theorem jn(hc:gG X (.type T) r)(hg:Gl X x)(hm:X.mg x=none)(hv:bootBuiltins x\.type T)(ha:PA X (e::es) t)(hn:x≠"__name__":=by decide)(sP:(x == ("__debug__":Str))=false:=by decide)
  (he:starEach (e::es) X.env=(false,eval e X.env)::starEach es X.env:=by rfl) (iq:(backTo pos (starEach es X.env)).any (·.1)=false:=by rfl):PE X (.Call (.Name x p) (e::es) [] pos) (PF r t):=by
 intro pins s σ H Q I h;apply wpAny_Call_Name_kw (wB I hg hm hv ?_ hn sP);exact BK (aQ (ha pos pins s σ H _ I h) λus s1 ⟨vs,H1,I1,r1,q1⟩=>hc pins s1 σ H1 vs us Q I1 r1 q1) he iq
end
end L2
namespace HT
open PySem PyProof.Rows
section
open PySem.SeqAt
open PySem.AutoSeq1 (wpAny_loadPart')
open PySem.MeetsSeq PySem.MeetsSeq2 PySem.MeetsSeq3
end
section
variable{prog:Ad}{w:Af}{A:Ag}{E:Aa->Ab->Prop}{s:Ab}
theorem wc{t b:Addr}{vs ws:ag}{Q:Aa->Ab->Prop}(ht:IsTup s.heap t vs.toArray)(hb:IsTup s.heap b ws.toArray)(hv:vs≠[])
  (h1:ws=[]->Q (.ref t) s) (h2:ws≠[]->Q (.ref s.heap.objs.size) { s with heap:=s.heap.push { cls:=.type "tuple",data:=.seq (vs++ws).toArray } })
  (hsz:vs.length+ws.length<=sizeLine):wpAny (model prog w) A (binaryOp .Add (.ref t) (.ref b)) Q E s:=by
 let#[#[cls,dd,data,sl],ho,hc,n,hd]:=id ht;let#[#[NR,Ig,data2,Gk],fA,ko,n2,hd2]:=id hb;simp only at hc hd ko hd2;subst hc hd ko hd2;have e:vs.toArray++ws.toArray=(vs++ws).toArray:=by simp
 by_cases hw:ws=[]
 ·exact concat_meets #[_,ho,U] #[_,fA,U] noFill_tuple_add seq_tuple_add PySem.F.slot_tuple_add PySem.F.entry_tuple_add (PySem.F.args_tuple_add_2 _ _)
   (tuple_addW1 t b vs.toArray ws.toArray n n2 dd Ig sl Gk ⇑hv (by simp[hw])) #[ho,fA,h1 hw]
 apply concat_meets #[_,ho,U] #[_,fA,U] noFill_tuple_add seq_tuple_add PySem.F.slot_tuple_add PySem.F.entry_tuple_add (PySem.F.args_tuple_add_2 _ _)
  (tuple_addW2 t b vs.toArray ws.toArray n n2 dd Ig sl Gk ⇑hv ⇑hw (by rw[cQ,cQ];exact hsz)) #[ho,fA,?_]
 rw[e];exact h2 hw
def cK(n d:Nat):Option Int->Nat
 |none=>d
 |some v=>if v<0 then (v+(n:Int)).toNat else min v.toNat n
theorem eU(n d:Nat):cK n d none=d:=rfl
theorem d9(n d k:Nat):cK n d (some (k:Int))=min k n:=by
 show (if (k:Int)<0 then ((k:Int)+(n:Int)).toNat else min (k:Int).toNat n)=min k n;rw[aB Z1,yf]
theorem YF(n d:Nat)(hd:d<=n)(o:Option Int):cK n d o<=n:=by
 cases o with
 |none=>exact hd
 |some v=>
  show (if v<0 then (v+(n:Int)).toNat else min v.toNat n)<=n;by_cases hv:v<0
  ·rw[aJ hv];omega
  rw[aB hv];exact Nat.min_le_right _ _
theorem RM(v:Int)(n d:Nat):(if v<0 then max (v+(n:Int)) 0 else min v (n:Int))=((cK n d (some v):Nat):Int):=by
 show (if v<0 then max (v+(n:Int)) 0 else min v (n:Int))=(((if v<0 then (v+(n:Int)).toNat else min v.toNat n):Nat):Int);by_cases hv:v<0
 ·simp only[aJ hv];omega
 simp only[aB hv];omega
theorem fQ_(lo hi:Option Int)(n:Nat):Builtin.Slice.sliceAdjust lo hi 1 (n:Int)=(((cK n 0 lo:Nat):Int),((cK n n hi:Nat):Int)):=by
 have h1:¬((1:Int)<0):=by omega
 unfold Builtin.Slice.sliceAdjust;simp only[h1,if_false];apply Prod.ext ?_ ?_
 ·cases lo with
  |none=>rfl
  |some v=>exact RM v n 0
 cases hi with
 |none=>rfl
 |some v=>exact RM v n n
theorem fN_(i j:Nat):Builtin.Slice.slicePlaces (i:Int) (j:Int) 1=j - i:=by
 unfold Builtin.Slice.slicePlaces;have h1:(1:Int) > 0:=by omega
 simp only[h1,if_true,Int.ediv_one];split<;>omega
theorem Uw{v:Aa}{o:Option Int}{Q:Option Int->Ab->Prop}(p:IsPart v o)(h:Q o s):wpAny (model prog w) A (Builtin.Slice.slicePartIndex v) Q E s:=by
 cases p with
 |none=>exact slicePart_none h
 |int i t=>exact slicePart_int h
theorem ck_{sl:Addr}{vl vu:Aa}{lo hi:Option Int}{n:Nat}{Q:Int × Int × Nat->Ab->Prop}(hs:s.heap.IsSliceOf sl vl vu .none)(pl:IsPart vl lo)(pu:IsPart vu hi)
  (h:Q (((cK n 0 lo:Nat):Int),1,cK n n hi - cK n 0 lo) s):wpAny (model prog w) A (Builtin.Slice.sliceApplied (.ref sl) (pure (n:Int))) Q E s:=by
 let#[os,Ei,RJ,sO]:=id hs;unfold Builtin.Slice.sliceApplied Builtin.Slice.sliceFields;apply af (af (fM Ei sO (x:=vl) U (af (fM Ei sO (x:=vu) U (af (fM Ei sO (x:=.none) U (aC ?_)))))));apply af (slicePart_none ?_);show wpAny _ _ (if ((1:Int) == 0)=true then _ else _) _ _ s;rw[aB (by decide)];apply af (Uw pl (af (Uw pu (af (aC ?_)))));show wpAny _ _ (match Builtin.Slice.sliceAdjust lo hi 1 (n:Int) with|(lo,hi)=>pure (lo,(1:Int),Builtin.Slice.slicePlaces lo hi 1)) _ _ s;rw[fQ_ lo hi n];show wpAny _ _ (pure (((cK n 0 lo:Nat):Int),(1:Int),Builtin.Slice.slicePlaces ((cK n 0 lo:Nat):Int) ((cK n n hi:Nat):Int) 1)) _ _ s;rw[fN_];exact aC h
theorem _H(xs:Array Aa)(i k:Nat):((List.range k).filterMap λ(m:Nat)=>xs[((i:Int)+(m:Int) * 1).toNat]?).toArray=((xs.toList.drop i).take k).toArray:=by
 have e:(λ(m:Nat)=>xs[((i:Int)+(m:Int) * 1).toNat]?)=λm=>xs[i+m]?:=by
  funext m
  have:((i:Int)+(m:Int) * 1).toNat=i+m:=by omega
  rw[this]
 rw[e];have:=pick_run xs i k;rw[List.filterMap_map] at this;have e2:((λx=>xs[x]?) ∘ λx=>i+x)=λm=>xs[i+m]?:=rfl;rw[e2] at this;rw[this]
theorem fZ{t sl:Addr}{items:Array Aa}{vl vu:Aa}{lo hi:Option Int}{Q:Aa->Ab->Prop}(ht:IsTup s.heap t items)(hs:s.heap.IsSliceOf sl vl vu .none)(pl:IsPart vl lo)(pu:IsPart vu hi)
  (hw:¬(cK items.size 0 lo=0/\cK items.size items.size hi=items.size))
  (h:Q (.ref s.heap.objs.size) { s with heap:=s.heap.push { cls:=.type "tuple",data:=.seq ((items.toList.drop (cK items.size 0 lo)).take (cK items.size items.size hi - cK items.size 0 lo)).toArray } })
  (hsz:items.size<=sizeLine):wpAny (model prog w) A (getItem (.ref t) (.ref sl)) Q E s:=by
 have oa:sizeOk (.seq ((items.toList.drop (cK items.size 0 lo)).take (cK items.size items.size hi - cK items.size 0 lo)).toArray):=by
  show ((items.toList.drop (cK items.size 0 lo)).take (cK items.size items.size hi - cK items.size 0 lo)).toArray.size<=sizeLine;rw[cQ,dR,List.length_drop,pE];omega
 have hj:cK items.size items.size hi<=items.size:=YF _ _ (bc _) hi;let#[os,Ei,RJ,sO]:=id hs;have LS:s.TypeIs (.ref sl) "slice":=#[os,Ei,RJ];unfold getItem
 try with_reducible apply iK ?_
 first|refine af (aC ?_)|skip
 apply af (wpAny_sequenceKey ht.typeIs (by decide) ?_)
 apply af (uC (name:=Str.ofString "__getitem__") ht.typeIs PyProof.Rows.slot_tuple_getitem
  (s_ PyProof.Rows.slot_tuple_getitem ht.typeIs entry_tuple_getitem ?_ (args_tuple_getitem _ _)))
 show wpAny _ _ (Builtin.Tuple.tupleItemsOf (.ref t) >>= _) _ _ s;apply af (tupleItemsOf_ ht ?_);apply af (wpAny_typeOf LS ?_);rw[aJ (by decide)];apply af (ck_ hs pl pu ?_)
 have km:¬((((cK items.size 0 lo:Nat):Int) == 0&&(1:Int) == 1&&(cK items.size items.size hi - cK items.size 0 lo) == items.size)=true):=by
  intro q;rw[Bool.and_eq_true,Bool.and_eq_true] at q;have q1:((cK items.size 0 lo:Nat):Int)=0:=eq_of_beq q.1.1;have q2:cK items.size items.size hi - cK items.size 0 lo=items.size:=eq_of_beq q.2;exact hw #[by omega,by omega]
 show wpAny _ _ (if (((cK items.size 0 lo:Nat):Int) == 0&&(1:Int) == 1&&(cK items.size items.size hi - cK items.size 0 lo) == items.size)=true then _ else _) _ _ s;rw[aB km,_H]
 first
  |exact af (m:=Builtin.Tuple.tupleExact _) (p0 (aC ⟨_,rfl,aC h⟩) oa)
  |exact af (m:=Builtin.Tuple.tupleExact _) (p0 (af (aC (aC ⟨_,rfl,aC h⟩))) oa)
  |exact af (af (m:=Builtin.Tuple.tupleExact _) (p0 (aC (aC ⟨_,rfl,aC h⟩)) oa))
  |exact af (af (m:=Builtin.Tuple.tupleExact _) (p0 (aC ⟨_,rfl,aC h⟩) oa))
end
end HT
namespace L2
open PySem PySem.Spec PyProof.Rows
abbrev TO:=St->Hp->(Option Int->Hp->Prop)->Prop
def PO(X:Cx)(e:Option Expr)(t:TO):Prop:=
 ∀(pins:List (Addr × Obj)) (s:Ab) (σ:St) (H:Hp) (Q:Option Int->Hp->Prop),Inv X pins σ H s->t σ H Q->
  wpAny (model X.prog X.w) X.A (evalPart e X.env) (λu s'=>∃o H',Inv X pins σ H' s'/\IsPart u o/\Q o H') X.xe s
def u0:TO:=λ_ H Q=>Q none H
inductive qr (Q:Option Int->Hp->Prop) (x:V) (H1:Hp):Prop
 |mk:∀i,x=.int i->Q (some i) H1->qr Q x H1
def Cy(t:TE):TO:=λσ H Q=>t σ H λx H1=>qr Q x H1
section
variable{X:Cx}{e:Expr}{te:TE}{lo hi:Option Expr}{tl th:TO}{pos p2:Pos}
theorem AQ:PO X none u0:=by
 intro pins s σ H Q I h;rw[evalPart_none];exact aC #[none,H,I,.none,h]
theorem AR(h:PE X e te):PO X (some e) (Cy te):=by
 intro pins s σ H Q I hw;rw[evalPart_some];apply aQ (h pins s σ H _ I hw) λu s1 ⟨x,H1,I1,r1,q1⟩=>?_;let#[i,rfl,q]:=q1;let#[t,rfl]:=r1;exact#[some i,H1,I1,.int i t,q]
def Pa(X:Cx)(r:V->Option Int->Option Int->Hp->VK->Prop):Prop:=
 ∀(pins:List (Addr × Obj)) (s:Ab) (σ:St) (H:Hp) (x:V) (v vl vu:Aa) (lo hi:Option Int) (sl:Addr) (Q:VK),Inv X pins σ H s->RelV x v->s.heap.IsSliceOf sl vl vu .none->IsPart vl lo->IsPart vu hi->r x lo hi H Q->
  ∃T id,typeLookup (.type T) "__getitem__"=pure (some (.builtin id))/\s.TypeIs v T/\wpAny (model X.prog X.w) X.A (getItem v (.ref sl)) (EP X pins σ Q) X.xe s
def V6(r:V->Option Int->Option Int->Hp->VK->Prop)(te:TE)(tl th:TO):TE:=λσ H Q=>te σ H λx H1=>tl σ H1 λl H2=>th σ H2 λu H3=>r x l u H3 Q
theorem AI{r:V->Option Int->Option Int->Hp->VK->Prop}(hr:Pa X r)(he:PE X e te)(hl:PO X lo tl)(hu:PO X hi th):PE X (.Subscript e (.Slice lo hi none p2) pos) (V6 r te tl th):=by
 intro pins s σ H Q I h;apply Subscript_ (aQ (he pins s σ H _ I h) λv s1 ⟨x,H1,I1,r1,q1⟩=>?_);apply wpAny_Slice (aQ (hl pins s1 σ H1 _ I1 q1) λvl s2 ⟨l,H2,I2,pl,q2⟩=>aQ (hu pins s2 σ H2 _ I2 q2) λvu s3 ⟨u,H3,I3,pu,q3⟩=>?_);rw[evalPart_none];apply aC ?_;have I4:Inv X pins σ H3 { s3 with heap:=s3.heap.push { cls:=.type "slice",data:=.fields (List.toArray [vl,vu,.none]) } }:=I3.kept (t':=s3.toks) λb ob q=>aS _ q;let#[T,id,hT,ht,hg]:=hr pins { s3 with heap:=s3.heap.push { cls:=.type "slice",data:=.fields (List.toArray [vl,vu,.none]) } } σ H3 x v vl vu l u s3.heap.objs.size Q I4 r1 (Heap.IsSliceOf.new ..) pl pu q3;show wpAny (model X.prog X.w) X.A (subscriptTail e (.Slice lo hi none p2) v (.ref s3.heap.objs.size)) (EP X pins σ Q) X.xe { s3 with heap:=s3.heap.push { cls:=.type "slice",data:=.fields (List.toArray [vl,vu,.none]) } };exact tail_any (ops:=[.ref s3.heap.objs.size,v]) ht hT hg (by with_unfolding_all rfl)
def dX(xs:ai)(lo hi:Option Int):ai:=(xs.drop (HT.cK xs.length 0 lo)).take (HT.cK xs.length xs.length hi - HT.cK xs.length 0 lo)
theorem OQ(xs:ai)(lo hi:Option Int):(dX xs lo hi).length<=xs.length:=by
 unfold dX;rw[dR,List.length_drop];omega
inductive C_ (K:aj) (x:V) (lo:Option Int) (hi:Option Int) (H:Hp) (Q:VK):Prop
 |mk:∀a xs,x=.ref a->fH K H a xs->¬(HT.cK xs.length 0 lo=0/\HT.cK xs.length xs.length hi=xs.length)->(∀p,H p=none->Q (.ref p) (upd H p (.tup (dX xs lo hi))))->C_ K x lo hi H Q
theorem HU:Pa X (C_ X.K):=by
 intro pins s σ H x v vl vu lo hi sl Q I rx hs pl pu h;let#[a,xs,rfl,hx,hw,q]:=h;cases rx;let#[its,r,ht,hz]:=I.tuple hx;have hlen:its.toArray.size=xs.length:=by rw[cQ];exact r.length.symm
 apply⟨"tuple",_,PyProof.Rows.slot_tuple_getitem.lookup,ht.typeIs,?_⟩;apply HT.fZ ht hs pl pu (by rw[hlen];exact hw) ?_ (by rw[hlen];exact hz);rw[hlen];apply⟨.ref s.heap.objs.size,_,I.laid (t':=s.toks) (o:=.tup (dX xs lo hi)) (λb ob q=>aS _ q) (bc _) ?_,rfl,q _ (I.ay.fresh (bc _))⟩;exact⟨gm (OQ xs lo hi) hz,_,(r.drop (HT.cK xs.length 0 lo)).take (HT.cK xs.length xs.length hi - HT.cK xs.length 0 lo),IsTup.new _ _,_,cy _ rfl,rfl⟩
theorem Vals.nU{xs:ai}{us:ag}(r:Vals xs us):us=[] ↔ xs=[]:=by
 cases r with
 |nil=>simp
 |cons _ _=>simp
end
end L2
namespace L2
open PySem PySem.Spec PyProof.Rows
def vG(n:Nat)(i:Int):Option Nat:=if 0<=i then (if i<n then some i.toNat else none) else if -(n:Int)<=i then some (i+n).toNat else none
def iL{α:Type}(xs:List α)(i:Int):Option α:=(vG xs.length i).bind λj=>xs[j]?
theorem Sf{n:Nat}{i:Int}{j:Nat}(h:vG n i\j):seqIndex? i n\j/\j<n/\-(n:Int)<=i/\i<n:=by
 unfold vG at h;by_cases h0:0<=i
 ·rw[aJ h0] at h;by_cases h1:i<n
  ·rw[aJ h1] at h;have e:i.toNat=j:=cu h;exact#[by rw[seqIndex_of h0 h1,e],by omega,by omega,h1]
  rw[aB h1] at h;cases h
 rw[aB h0] at h;by_cases h1:-(n:Int)<=i
 ·rw[aJ h1] at h;have e:(i+n).toNat=j:=cu h;exact#[by rw[seqIndex_neg Z1 h1,e],by omega,h1,by omega]
 rw[aB h1] at h;cases h
theorem MD{α:Type}{xs:List α}{i:Int}{v:α}(h:iL xs i\v):∃j,seqIndex? i xs.length\j/\xs[j]? = some v/\j<xs.length/\-(xs.length:Int)<=i/\i<xs.length:=by
 unfold iL at h;cases e:vG xs.length i with
 |none=>rw[e] at h;cases h
 |some j=>
  rw[e] at h;let#[h1,h2,h3,h4]:=Sf e;exact#[j,h1,h,h2,h3,h4]
theorem d8{α:Type}{xs:List α}{j:Nat}{v:α}(h:xs[j]? = some v):iL xs (j:Int)\v:=by
 have hj:j<xs.length:=(b_.mp h).1
 have e:vG xs.length (j:Int)\j:=by
  unfold vG;rw[aJ Z1,aJ Z1];simp
 unfold iL;rw[e];exact h
def wM(b:Expr):Prop:=∀o i,subscripted b false o i=operate [o,i] (getItem o i)
def B2(X:Cx)(r:R2):Prop:=
 ∀(value slice:Expr) (pins:List (Addr × Obj)) (s:Ab) (σ:St) (H:Hp) (x y:V) (v u:Aa) (Q:VK),Inv X pins σ H s->RelV x v->RelV y u->r x y H Q->
  subscripted slice false v u=operate [v,u] (getItem v u)->wpAny (model X.prog X.w) X.A (subscriptTail value slice v u) (EP X pins σ Q) X.xe s
def U9(X:Cx)(id:String)(r:V->ai->Hp->VK->Prop):Prop:=
 ∀(pins:List (Addr × Obj)) (s:Ab) (σ:St) (H:Hp) (x:V) (xs:ai) (v:Aa) (us:ag) (Q:VK),Inv X pins σ H s->RelV x v->Vals xs us->r x xs H Q->
  wpAny (model X.prog X.w) X.A (call (.builtin id) (v::us)) (EP X pins σ Q) X.xe s
section
variable{X:Cx}{a b:Expr}{ta tb:TE}{pos:Pos}
theorem bz{r:R2}(hr:B2 X r)(ha:PE X a ta)(hb:PE X b tb)(hs:wM b:=by exact λ_ _=>rfl):PE X (.Subscript a b pos) (Gf r ta tb):=by
 intro pins s σ H Q I h;exact Subscript_ (AJ ha hb I h λv u s2 x y H2 I2 rx ry q=>hr a b pins s2 σ H2 x y v u Q I2 rx ry q (hs _ _))
inductive rO (K:aj) (x:V) (y:V) (H:Hp) (Q:VK):Prop
 |mk:∀p xs i v,x=.ref p->y=.int i->dZ K H p xs->iL xs i\v->Q v H->rO K x y H Q
inductive oU (K:aj) (x:V) (y:V) (H:Hp) (Q:VK):Prop
 |mk:∀p xs i v,x=.ref p->y=.int i->fH K H p xs->iL xs i\v->Q v H->oU K x y H Q
inductive De (x:V) (y:V) (H:Hp) (Q:VK):Prop
 |mk:∀z i c,x=.str z->y=.int i->z.length<=sizeLine->iL z.cps.toList i\c->Q (.str ⟨(List.toArray [c])⟩) H->De x y H Q
theorem h_:B2 X (rO X.K):=by
 intro value slice pins s σ H x y v u Q I rx ry h hs;let#[p,xs,i,z,rfl,rfl,hq,he,q]:=h;cases rx;let#[t,rfl]:=ry;let#[its,r,pl,hz]:=I.list hq;let#[j,h1,h2,h3,h4,h5]:=MD he;let#[w,ew,jd]:=r.get h2;let hl:=r.length;let hn:=gx;have fin:EP X pins σ Q w s:=⟨z,H,I,jd,q⟩;by_cases h0:0<=i
 ·have hj:i.toNat=j:=by
   rw[seqIndex_of h0 h5] at h1;exact cu h1
  exact item_listR pl.isList h0 Z1 (by rw[hj];simpa using ew) fin hs
 have hj:(i+(its.toArray.size:Int)).toNat=j:=by
  rw[seqIndex_neg Z1 h4] at h1;rw[cQ,<- hl];exact cu h1
 exact subscriptTail_builtinR (x:=w) pl.isList.typeIs slot_list_getitem.lookup
  (wpAny_getItem_list_neg (Q:=λr s'=>r=w/\EP X pins σ Q r s') pl.isList Z1 (by rw[cQ]<;>omega) Z1 (by rw[hj];simpa using ew) ⟨rfl,fin⟩) hs
theorem cw:B2 X (oU X.K):=by
 intro value slice pins s σ H x y v u Q I rx ry h hs;let#[p,xs,i,z,rfl,rfl,hq,he,q]:=h;cases rx;let#[t,rfl]:=ry;let#[its,r,pl,hz]:=I.tuple hq;let#[j,h1,h2,h3,h4,h5]:=MD he;let#[w,ew,jd]:=r.get h2;let hl:=r.length;let hn:=gx;have fin:EP X pins σ Q w s:=⟨z,H,I,jd,q⟩
 exact subscriptTail_builtinR (x:=w) pl.typeIs slot_tuple_getitem.lookup
  (getItem_tuple (j:=j) (Q:=λr s'=>r=w/\EP X pins σ Q r s') pl Z1 Z1 (by rw[cQ,<- hl];exact h1) ⇑ew ⟨rfl,fin⟩) hs
theorem YK:B2 X De:=by
 intro value slice pins s σ H x y v u Q I rx ry h hs;let#[z,i,c,rfl,rfl,hz,he,q]:=h;let#[t,rfl]:=rx;let#[t',rfl]:=ry;let#[j,h1,h2,h3,h4,h5]:=MD he;have hl:z.cps.toList.length=z.length:=by simp[Str.length]
 rw[hl] at h1 h4 h5;let hn:=gx
 exact tail_any (typeIs_str s z t) slot_str_getitem.lookup (getItem_str (c:=c) (by
  have e1:decide (i < -(2 ^ 63:Int))=false:=fD Z1;have e2:decide (i ≥ 2 ^ 63)=false:=fD Z1;rw[e1,e2,Bool.or_false]) (by rw[h1];simpa using h2) ⟨.str ⟨(List.toArray [c])⟩,H,I.tok _,⟨_,rfl⟩,q⟩) hs
theorem fM_(its:ag)(n j:Nat)(u:Aa):Obj.mapSeq (·.setIfInBounds j u) { cls:=.type "list",data:=.seq its.toArray n }={ cls:=.type "list",data:=.seq (its.set j u).toArray n }:=by
 simp[Obj.mapSeq]
theorem Inv.lst{pins:List (Addr × Obj)}{σ:St}{H:Hp}{s:Ab}{p:Addr}{xs:ai}(I:Inv X pins σ H s)(h:H p\.lst xs) :
  ∃(its:ag) (n:Nat),Vals xs its/\s.heap.get? p=some { cls:=.type "list",data:=.seq its.toArray n }/\xs.length<=sizeLine:=by
 let#[z,its,n,r,e]:=I.ay p _ h;exact⟨its,n,r,e,z⟩
theorem Inv.zi{pins:List (Addr × Obj)}{σ:St}{H:Hp}{s:Ab}{p:Addr}{xs ys:ai}{its its':ag}{n n':Nat}{f:Obj->Obj}(I:Inv X pins σ H s)(h:H p\.lst xs)
  (ho:s.heap.get? p=some { cls:=.type "list",data:=.seq its.toArray n }) (hf:f { cls:=.type "list",data:=.seq its.toArray n }={ cls:=.type "list",data:=.seq its'.toArray n' }) (r:Vals ys its') (hz:ys.length<=sizeLine) (t:Nat) :
  Inv X pins σ (upd H p (.lst ys)) { s with heap:=s.heap.update p f,toks:=t }:=by
 have e:(s.heap.update p f).get? p=some { cls:=.type "list",data:=.seq its'.toArray n' }:=by
  rw[Heap.get?_update_self f ho (by rw[hf]<;>rfl),hf]
 apply I.write (x:=p) (e:=p) (by rw[h];trivial) (.inl rfl) (λb u hb q=>(p_ _ _ (bG hb)).trans q) ⟨_,e⟩ ?_;exact⟨hz,its',n',r,e⟩
inductive xh (o:V) (i:V) (v:V) (H:Hp) (Q:Hp->Prop):Prop
 |mk:∀p xs k j,o=.ref p->i=.int k->H p\.lst xs->vG xs.length k\j->Q (upd H p (.lst (xs.set j v)))->xh o i v H Q
theorem Tn:FY X xh:=by
 intro pins s σ H o i v ov iv u Q I ro ri rv h;let#[p,xs,k,j,rfl,rfl,hp,hj,q]:=h;cases ro;let#[t,rfl]:=ri;let#[its,n,r,ho,hz]:=I.lst hp;let#[h1,h2,h3,h4]:=Sf hj;let hl:=r.length;let hn:=gx
 have I':Inv X pins σ (upd H p (.lst (xs.set j v))) { s with heap:=s.heap.update p (Obj.mapSeq (·.setIfInBounds j u)) }:=
  I.zi hp ho (fM_ its n j u) (r.set rv j) (by rw[List.length_set];exact hz) s.toks
 by_cases h0:0<=k
 ·have hk:k.toNat=j:=by
   rw[seqIndex_of h0 h4] at h1;exact cu h1
  exact PySem.W.ki_setAt ho h0 Z1 (by rw[cQ,<- hl];exact h4) (by rw[hk];exact⟨_,I',q⟩)
 have hk:(k+(its.toArray.size:Int)).toNat=j:=by
  rw[seqIndex_neg Z1 h3] at h1;rw[cQ,<- hl];exact cu h1
 exact PySem.W.ki_setBack ho Z1 (by rw[cQ,<- hl];exact h3) Z1 (by rw[hk];exact⟨_,I',q⟩)
theorem e8_(lo hi:Option Int)(n:Nat):(sliceBounds lo hi none n).1=((HT.cK n 0 lo:Nat):Int)/\(sliceBounds lo hi none n).2.1=((HT.cK n n hi:Nat):Int)/\(sliceBounds lo hi none n).2.2=1:=by
 apply⟨?_,?_,rfl⟩
 ·cases lo with
  |none=>simp[sliceBounds,HT.cK]
  |some i=>
   simp only[sliceBounds,HT.cK,Option.getD_none,show (1:Int) > 0 by decide,if_true];by_cases h:i<0
   ·simp only[h,if_true]<;>omega
   simp only[h,if_false]<;>omega
 cases hi with
 |none=>simp[sliceBounds,HT.cK]
 |some i=>
  simp only[sliceBounds,HT.cK,Option.getD_none,show (1:Int) > 0 by decide,if_true];by_cases h:i<0
  ·simp only[h,if_true]<;>omega
  simp only[h,if_false]<;>omega
theorem dw_(its:ag)(lo hi:Option Int):slicePick its.toArray lo hi none=((its.drop (HT.cK its.length 0 lo)).take (HT.cK its.length its.length hi - HT.cK its.length 0 lo)).toArray:=by
 let#[h1,h2,h3]:=e8_ lo hi its.toArray.size;unfold slicePick;rw[h1,h2,h3];simp only[sliceRange_one,pick_run,cQ]<;>rfl
inductive Da (K:aj) (x:V) (lo:Option Int) (hi:Option Int) (H:Hp) (Q:VK):Prop
 |mk:∀a xs,x=.ref a->dZ K H a xs->(∀p,H p=none->Q (.ref p) (upd H p (.lst (dX xs lo hi))))->Da K x lo hi H Q
theorem MJ:Pa X (Da X.K):=by
 intro pins s σ H x v vl vu lo hi sl Q I rx hs pl pu h;let#[a,xs,rfl,hx,q]:=h;cases rx;let#[its,r,ht,hz]:=I.list hx;let hlen:=r.length;apply⟨"list",_,slot_list_getitem.lookup,ht.isList.typeIs,?_⟩;apply wpAny_getItem_list_slice ht.isList hs pl pu .none Z2 ?_ (by rw[cQ]<;>omega)
 rw[dw_,<- hlen];apply⟨.ref s.heap.objs.size,_,I.laid (t':=s.toks) (o:=.lst (dX xs lo hi)) (λb ob q=>aS _ q) (bc _) ?_,rfl,q _ (I.ay.fresh (bc _))⟩;exact⟨gm (OQ xs lo hi) hz,_,0,(r.drop (HT.cK xs.length 0 lo)).take (HT.cK xs.length xs.length hi - HT.cK xs.length 0 lo),cy _ rfl⟩
def uD:V->Bool
 |.non=>true
 |.bl _=>true
 |.int _=>true
 |.str _=>true
 |_=>false
def sY:V->V->Bool
 |.non,.non=>true
 |.bl a,.bl b=>a == b
 |.bl a,.int b=>(if a then 1 else 0) == b
 |.int a,.bl b=>a == (if b then 1 else 0)
 |.int a,.int b=>a == b
 |.str a,.str b=>a == b
 |_,_=>false
theorem HR{A:Ag}{s:Ab}{y x:V}{u v:Aa}(ry:RelV y u)(rx:RelV x v)(fy:uD y=true)(fx:uD x=true):SeqAt.EqAt A s u v (sY y x):=by
 cases y with
 |non=>
  cases ry;cases x with
  |non=>cases rx;exact SeqAt.EqAt.same _
  |bl b=>cases rx;exact SeqAt.EqAt.none_bool b
  |int b=>let#[t,rfl]:=rx;exact SeqAt.EqAt.none_int b t
  |str b=>let#[t,rfl]:=rx;exact SeqAt.EqAt.none_str b t
  |_=>exact absurd (show false=true from fx) gc
 |bl a=>
  cases ry;cases x with
  |non=>cases rx;exact SeqAt.EqAt.bool_none a
  |bl b=>cases rx;exact SeqAt.EqAt.bool_bool a b
  |int b=>let#[t,rfl]:=rx;exact SeqAt.EqAt.bool_int a b t
  |str b=>let#[t,rfl]:=rx;exact SeqAt.EqAt.bool_str a b t
  |_=>exact absurd (show false=true from fx) gc
 |int a=>
  let#[t',rfl]:=ry;cases x with
  |non=>cases rx;exact SeqAt.EqAt.int_none a t'
  |bl b=>cases rx;exact SeqAt.EqAt.int_bool a t' b
  |int b=>let#[t,rfl]:=rx;exact SeqAt.EqAt.int_int a t' b t
  |str b=>let#[t,rfl]:=rx;exact SeqAt.EqAt.int_str a t' b t
  |_=>exact absurd (show false=true from fx) gc
 |str a=>
  let#[t',rfl]:=ry;cases x with
  |non=>cases rx;exact SeqAt.EqAt.str_none a t'
  |bl b=>cases rx;exact SeqAt.EqAt.str_bool a t' b
  |int b=>let#[t,rfl]:=rx;exact SeqAt.EqAt.str_int a t' b t
  |str b=>let#[t,rfl]:=rx;exact SeqAt.EqAt.str_str a t' b t
  |_=>exact absurd (show false=true from fx) gc
 |_=>exact absurd (show false=true from fy) gc
def vV(x:V)(u:Aa):Bool:=match u with
 |.none=>sY .non x
 |.bool b=>sY (.bl b) x
 |.int i _=>sY (.int i) x
 |.str z _=>sY (.str z) x
 |_=>false
theorem QO{x y:V}{u:Aa}(r:RelV y u)(f:uD y=true):vV x u=sY y x:=by
 cases y with
 |non=>cases r;rfl
 |bl b=>cases r;rfl
 |int i=>let#[t,rfl]:=r;rfl
 |str z=>let#[t,rfl]:=r;rfl
 |_=>exact absurd (show false=true from f) gc
theorem MN{x:V}:∀{xs:ai} {us:ag},Vals xs us->xs.all uD=true->us.any (vV x)=xs.any λy=>sY y x
 |_,_,.nil,_=>rfl
 |y::xs,u::us,.cons r t,f=>by
  rw[List.all_cons,Bool.and_eq_true] at f;rw[List.any_cons,List.any_cons,QO r f.1,MN t f.2]
theorem NC{A:Ag}{s:Ab}{x:V}{v:Aa}(rx:RelV x v)(fx:uD x=true):∀{xs:ai} {us:ag},Vals xs us->xs.all uD=true->∀u∈us,SeqAt.EqAt A s u v (vV x u)
 |_,_,.nil,_=>λu hu=>by cases hu
 |y::xs,u::us,.cons r t,f=>λu' hu=>by
  rw[List.all_cons,Bool.and_eq_true] at f;rcases bW.mp hu with rfl|hu
  ·rw[QO r f.1];exact HR r rx f.1 fx
  exact NC rx fx t f.2 u' hu
def GR(x:V)(xs:ai):Bool:=xs.any λy=>sY y x
inductive P3 (K:aj) (neg:Bool) (x:V) (y:V) (H:Hp) (Q:VK):Prop
 |mk:∀p xs,y=.ref p->(dZ K H p xs∨fH K H p xs)->uD x=true->xs.all uD=true->Q (.bl (if neg then !GR x xs else GR x xs)) H->P3 K neg x y H Q
theorem dY_:dN X (compareOp .NotIn) (P3 X.K true):=by
 intro pins s σ H x y v u Q I rx ry h;let#[p,xs,rfl,hq,fx,fs,q]:=h;cases ry;rcases hq with hq|hq
 ·let#[its,r,pl,hz]:=I.list hq;apply SeqAt.notIn_listAt (vV x) pl.isList (λw hw=>NC rx fx r fs w ⇑hw) ⟨.bl _,H,I,rfl,?_⟩;rw[show its.toArray.any (vV x)=its.any (vV x) by simp,MN r fs];exact q
 let#[its,r,pl,hz]:=I.tuple hq;apply SeqAt.notIn_tupleAt (vV x) pl (λw hw=>NC rx fx r fs w ⇑hw) ⟨.bl _,H,I,rfl,?_⟩;rw[show its.toArray.any (vV x)=its.any (vV x) by simp,MN r fs];exact q
inductive OR (K:aj) (xs:ai) (H:Hp) (Q:VK):Prop
 |mk:∀p ys,xs=[.ref p]->(dZ K H p ys∨fH K H p ys)->Q (.int ys.length) H->OR K xs H Q
theorem ic:gG X (.builtin "len") (OR X.K):=by
 intro pins s σ H xs us Q I r h;let#[p,ys,rfl,hq,q]:=h;let#[u,rfl,rx]:=vals1 r;cases rx;let hn:=gx;rcases hq with hq|hq
 ·let#[its,r',pl,hz]:=I.list hq;let hlen:=r'.length;exact Calls.call_len_list pl.isList (by simp only[cQ]<;>omega) ⟨.int ys.length,H,I.tok _,⟨s.toks+1,by rw[cQ,hlen]⟩,q⟩
 let#[its,r',pl,hz]:=I.tuple hq;let hlen:=r'.length;exact len_tuple pl (by simp only[cQ]<;>omega) ⟨.int ys.length,H,I.tok _,⟨s.toks+1,by rw[cQ,hlen]⟩,q⟩
inductive UG (xs:ai) (H:Hp) (Q:VK):Prop
 |mk:∀z,xs=[.str z]->z.length<=sizeLine->Q (.int z.length) H->UG xs H Q
theorem dR_:gG X (.builtin "len") UG:=by
 intro pins s σ H xs us Q I r h;let#[z,rfl,hz,q]:=h;let#[u,rfl,t,rfl]:=vals1 r;let hn:=gx;exact len_str Z1 ⟨.int z.length,H,I.tok _,⟨_,rfl⟩,q⟩
inductive U1 (K:aj) (xs:ai) (H:Hp) (Q:VK):Prop
 |mk:∀p ys,xs=[.ref p]->(dZ K H p ys∨fH K H p ys)->(∀l,H l=none->Q (.ref l) (upd H l (.lst ys)))->U1 K xs H Q
theorem ec_:gG X (.type "list") (U1 X.K):=by
 intro pins s σ H xs us Q I r h;let#[p,ys,rfl,hq,q]:=h;let#[u,rfl,rx]:=vals1 r;cases rx
 have fin:∀(its:ag),Vals ys its->ys.length<=sizeLine->∀(h':Heap) (c':Nat),(∀b o',s.heap.get? b\o'->h'.get? b\o')->
   h'.get? s.heap.objs.size=some { cls:=.type "list",dict:=none,data:=.seq its.toArray c',slots:=#[] }->EP X pins σ Q (.ref s.heap.objs.size) { s with heap:=h' }:=λits r' hz h' c' kp e=>
  #[.ref s.heap.objs.size,_,I.laid (t':=s.toks) kp (bc _) (show fC X.prog X.w _ h' _ (.lst ys) from #[hz,its,c',r',e]),U,q _ (I.ay.fresh (bc _))]
 rcases hq with hq|hq
 ·let#[its,r',pl,hz]:=I.list hq;let hlen:=r'.length;let#[o,ho,hc,n,hd]:=pl.isList;exact call_list_seq p (.inl U) ho hc hd (λh' c' kp e=>fin its r' hz h' c' kp e) (by simp only[cQ]<;>omega)
 let#[its,r',pl,hz]:=I.tuple hq;let hlen:=r'.length;let#[o,ho,hc,n,hd]:=pl;exact call_list_seq p (.inr U) ho hc hd (λh' c' kp e=>fin its r' hz h' c' kp e) (by simp only[cQ]<;>omega)
inductive U0 (K:aj) (xs:ai) (H:Hp) (Q:VK):Prop
 |mk:∀p ys,xs=[.ref p]->((dZ K H p ys/\∀l,H l=none->Q (.ref l) (upd H l (.tup ys)))∨(fH K H p ys/\Q (.ref p) H))->U0 K xs H Q
theorem OM:gG X (.type "tuple") (U0 X.K):=by
 intro pins s σ H xs us Q I r h;let#[p,ys,rfl,h]:=h;let#[u,rfl,rx]:=vals1 r;cases rx;rcases h with⟨hq,q⟩|⟨hq,q⟩
 ·let#[its,r',pl,hz]:=I.list hq;let hlen:=r'.length;apply call_tuple_list pl.isList (λh' kp=>?_) (by simp only[cQ]<;>omega)
  have I1:Inv X pins σ H { s with heap:=h' }:=I.kept (t':=s.toks) kp
  have I2:Inv X pins σ (upd H h'.objs.size (.tup ys)) { s with heap:=h'.push { cls:=.type "tuple",data:=.seq its.toArray } }:=
   I1.laid (t':=s.toks) (λb o e=>aS _ e) (bc _) (show fC X.prog X.w _ _ _ (.tup ys) from ⟨hz,its,r',IsTup.new _ _,_,cy _ rfl,rfl⟩)
  exact⟨.ref h'.objs.size,_,I2,rfl,q _ (I1.ay.fresh (bc _))⟩
 let#[its,r',pl,hz]:=I.tuple hq;exact call_tuple_same pl ⟨.ref p,H,I,rfl,q⟩
def JG(K:aj)(T:String)(x:V)(H:Hp):Prop:=match x with
 |.str _=>T="str"
 |.int _=>T="int"
 |.ref p=>(T="list"/\∃xs,dZ K H p xs)∨(T="tuple"/\∃o,K.lookup p\o/\o.cls=.type "tuple"/\o.dict=none) ∨
   (T="dict"/\((∃kvs,H p\.dK kvs)∨∃kvs,H p\.dT kvs))∨(T="set"/\∃S n,H p\.set S n)
 |_=>False
theorem Q9{pins:List (Addr × Obj)}{σ:St}{H:Hp}{s:Ab}{T:String}{x:V}{v:Aa}(I:Inv X pins σ H s)(r:RelV x v)(ty:JG X.K T x H) :
  s.TypeIs v T/\∀a,v=.ref a->∃ob,s.heap.get? a\ob/\ob.dict=none:=by
 cases x with
 |str z=>
  let#[t,rfl]:=r;cases (show T="str" from ty);exact#[typeIs_str s z t,λ_ e=>nomatch e]
 |int i=>
  let#[t,rfl]:=r;cases (show T="int" from ty);exact#[typeIs_int s i t,λ_ e=>nomatch e]
 |ref p=>
  cases r;rcases ty with⟨rfl,xs,hq⟩|⟨rfl,o,hk,hc,hd⟩|⟨rfl,hk⟩|⟨rfl,S,n,hk⟩
  ·let#[its,_,pl,_]:=I.list hq;apply#[pl.isList.typeIs,λa e=>?_];cases e;let#[o,n,e,c,hd,_]:=pl;exact#[o,e,hd]
  ·apply#[#[o,I.gN p o hk,hc],λa e=>?_];cases e;exact#[o,I.gN _ o hk,hd]
  ·have z:∃o,s.heap.get? p\o/\o.ExactDict:=by
    rcases hk with⟨kvs,hk⟩|⟨kvs,hk⟩
    ·let#[_,_,_,_,o,_,_,e,ex,_]:=I.ay p _ hk;exact#[o,e,ex]
    let#[_,_,_,_,o,_,_,e,ex,_]:=I.ay p _ hk;exact#[o,e,ex]
   let#[o,e,ex]:=z;apply#[#[o,e,ex.1],λa e2=>?_];cases e2;exact#[o,e,ex.2.1]
  ·let#[o,_,_,_,e,ex,_]:=I.ay p _ hk;apply#[#[o,e,ex.1],λa e2=>?_];cases e2;exact#[o,e,ex.2.1]
 |_=>exact False.elim ty
def JZ(K:aj)(T:String)(r:V->ai->Hp->VK->Prop)(to:TE):TE:=λσ H Q=>to σ H λx H1=>JG K T x H1/\r x [] H1 Q
def V9(K:aj)(T:String)(r:V->ai->Hp->VK->Prop)(to:TE)(t:TA):TE:=λσ H Q=>to σ H λx H1=>JG K T x H1/\t σ H1 λxs H2=>r x xs H2 Q
variable{o e:Expr}{es:List Expr}{to:TE}{t:TA}{name:Str}{apos bZ:Pos}{T id:String}{r:V->ai->Hp->VK->Prop}
theorem YO(pa:PlainAttrs T)(slot:Slot T name id)(K5:typeOf (.builtin id)=pure (.type "method_descriptor"))(hm:U9 X id r)(ho:PE X o to)
  (g_:attributeBase o name X.env (eval o X.env)=eval o X.env:=by rfl) (g9:(apos.endLine == bZ.line)=true:=by rfl):PE X (.Call (.Attribute o name apos) [] [] bZ) (JZ X.K T r to):=by
 intro pins s σ H Q I h;apply wpAny_Call_method0_late g_ g9 (aQ (ho pins s σ H _ I h) λv s1 ⟨x,H1,I1,r1,ty,q1⟩=>?_);let#[h1,h2]:=Q9 I1 r1 ty;exact#[T,id,pa,slot,K5,h1,h2,Calls.callWith_builtin U (PySem.evalArgs_none (hm pins s1 σ H1 x [] v [] Q I1 r1 .nil q1))]
theorem ow(pa:PlainAttrs T)(slot:Slot T name id)(K5:typeOf (.builtin id)=pure (.type "method_descriptor"))(hm:U9 X id r)(ho:PE X o to)(ha:PA X (e::es) t)
  (g_:attributeBase o name X.env (eval o X.env)=eval o X.env:=by rfl)
  (LB:((backTo bZ (starEach (e::es) X.env)).all (λx=>!x.1)&&(backToKw bZ (keywordEach [] X.env)).all (λx=>x.1.isSome)
   && decide ((e::es).length+([]:List Keyword).length+(if ([]:List Keyword).isEmpty then 0 else 1)<30))=true:=by rfl)
  (g9:(apos.endLine == bZ.line)=true:=by rfl) (hs:starEach (e::es) X.env=(false,eval e X.env)::starEach es X.env:=by rfl) (zB:(backTo bZ (starEach es X.env)).any (·.1)=false:=by rfl) :
  PE X (.Call (.Attribute o name apos) (e::es) [] bZ) (V9 X.K T r to t):=by
 intro pins s σ H Q I h;apply wpAny_Call_method_late g_ LB g9 U (aQ (ho pins s σ H _ I h) λv s1 ⟨x,H1,I1,r1,ty,q1⟩=>?_);let#[h1,h2]:=Q9 I1 r1 ty;apply#[T,id,pa,slot,K5,h1,h2,?_];let hA:=ha bZ pins s1 σ H1 _ I1 q1;rw[hs] at hA ⊢;apply Calls.callWith_builtin (by show (false || (backTo bZ (starEach es X.env)).any (·.1))=false;rw[zB]<;>rfl) (Calls.evalArgs_plain ?_)
 exact aQ hA λus s2 ⟨vs,H2,I2,r2,q2⟩=>hm pins s2 σ H2 x vs v us Q I2 r1 r2 q2
end
end L2
namespace L2
open PySem PySem.Spec PyProof.Rows
def Jo(X:Cx)(id:String)(r:V->ai->Hp->VK->Prop):Prop:=
 ∀(pins:List (Addr × Obj)) (s:Ab) (σ:St) (H:Hp) (x:V) (xs:ai) (v:Aa) (us:ag) (Q:VK),Inv X pins σ H s->RelV x v->Vals xs us->r x xs H Q->
  wpAny (model X.prog X.w) X.A (call (.builtin id) (v::us)) (EP X pins σ Q) X.xe s
theorem Vals.one:∀{x:V} {us:ag},Vals [x] us->∃u,us=[u]/\RelV x u
 |_,_,.cons r .nil=>#[_,U,r]
theorem Vals.two:∀{x y:V} {us:ag},Vals [x,y] us->∃u v,us=[u,v]/\RelV x u/\RelV y v
 |_,_,_,.cons r (.cons q .nil)=>#[_,_,U,r,q]
theorem Vals.zero:∀{us:ag},Vals [] us->us=[]
 |_,.nil=>rfl
theorem Vals.reverse{xs:ai}{us:ag}(h:Vals xs us):Vals xs.reverse us.reverse:=by
 induction h with
 |nil=>exact .nil
 |cons r t ih=>rw[List.reverse_cons,List.reverse_cons];exact Vals.append ih (.cons r .nil)
section
variable{X:Cx}{pins:List (Addr × Obj)}{σ:St}{H:Hp}{s:Ab}{l b:Addr}{xs ys zs:ai}
theorem Inv.vD{its its':ag}{n:Nat}{f:Array Aa->Array Aa}{t':Nat}(I:Inv X pins σ H s)(hH:H l\.lst xs)
  (e:s.heap.get? l=some { cls:=.type "list",data:=.seq its.toArray n }) (hf:f its.toArray=its'.toArray) (hv:Vals ys its') (hz:ys.length<=sizeLine) :
  Inv X pins σ (upd H l (.lst ys)) { s with heap:=s.heap.update l (Obj.mapSeq f),toks:=t' }:=by
 let q:=PySem.IsL.update e f;rw[hf] at q;apply I.write (x:=l) (e:=l) (by rw[hH];exact trivial) (.inl U) (λb' u hb hu=>(p_ s.heap (Obj.mapSeq f) (bG hb)).trans hu) #[_,q] ?_;exact#[hz,its',_,hv,q]
theorem Inv.zj{its:ag}{t':Nat}(I:Inv X pins σ H s)(hv:Vals ys its)(hz:ys.length<=sizeLine) :
  Inv X pins σ (upd H s.heap.objs.size (.lst ys)) { s with heap:=s.heap.push { cls:=.type "list",data:=.seq its.toArray },toks:=t' }:=
 I.laid (λ_ _ q=>aS _ q) (bc _) #[hz,its,0,hv,cy _ U]
theorem Inv.fresh(I:Inv X pins σ H s):H s.heap.objs.size=none:=I.ay.fresh (bc _)
theorem Inv.jB(I:Inv X pins σ H s)(hH:H l\.lst xs):xs.length<=sizeLine/\∃(its:ag) (n:Nat),Vals xs its/\xs.length=its.length/\s.heap.get? l=some { cls:=.type "list",data:=.seq its.toArray n }:=by
 let#[z,its,n,r,e]:=I.ay l _ hH;exact#[z,its,n,r,r.length,e]
theorem rW{n:Nat}(h:n<=sizeLine):Builtin.List.listTooLong n=false:=by
 unfold Builtin.List.listTooLong;exact fD Z1
end
section
variable{X:Cx}
inductive nK (x:V) (vs:ai) (H:Hp) (Q:VK):Prop
 |mk:∀l xs y,x=.ref l->vs=[y]->H l\.lst xs->xs.length<sizeLine->Q .non (upd H l (.lst (xs++[y])))->nK x vs H Q
theorem tR:Jo X "list.append" nK:=by
 intro pins s σ H x vs v us Q I rx rv h;let#[l,xs,y,rfl,rfl,hH,hz,q]:=h;cases rx;let#[u,rfl,ru]:=rv.one;let#[z,its,n,r,hl,e]:=I.jB hH;apply call_meets F.slot_list_append ⟨_,e,rfl⟩ F.entry_list_append (F.args_list_append_2 _ _) (PySem.list_append l its.toArray n u (by rw[cQ];omega)) ⟨e,?_⟩;apply⟨.non,_,I.vD (its':=its++[u]) hH e Z2 (r.append (.cons ru .nil)) ?_,rfl,q⟩;rw[eM,js];omega
inductive nI (x:V) (vs:ai) (H:Hp) (Q:VK):Prop
 |mk:∀l b xs zs,x=.ref l->vs=[.ref b]->H l\.lst xs->H b\.lst zs->xs.length+zs.length<=sizeLine->Q .non (upd H l (.lst (xs++zs)))->nI x vs H Q
theorem T7:Jo X "list.extend" nI:=by
 intro pins s σ H x vs v us Q I rx rv h;let#[l,b,xs,zs,rfl,rfl,hH,hB,hz,q]:=h;cases rx;let#[u,rfl,ru]:=rv.one;cases ru;let#[z,its,n,r,hl,e]:=I.jB hH;let#[z2,ip,n2,r2,jh,e2]:=I.jB hB;have hsz:its.toArray.size+ip.toArray.size<=sizeLine:=by rw[cQ,cQ];omega
 have Ep:¬(!its.toArray.isEmpty&&Builtin.List.listTooLong (its.toArray.size+ip.toArray.size))=true:=by
  rw[rW hsz,Bool.and_false];exact gc
 apply call_meets F.slot_list_extend ⟨_,e,rfl⟩ F.entry_list_extend (F.args_list_extend_2 _ _)
  (AutoSeq1.list_extend_list_list_0 l its.toArray n b ip.toArray n2 Ep (by rw[cQ];omega) Z1) ⟨e,e2,?_⟩
 apply⟨.non,_,I.vD (its':=its++ip) hH e Z2 (r.append r2) ?_,rfl,q⟩;rw[eM];omega
inductive Us (x:V) (vs:ai) (H:Hp) (Q:VK):Prop
 |mk:∀l xs,x=.ref l->vs=[]->H l\.lst xs->Q .non (upd H l (.lst xs.reverse))->Us x vs H Q
theorem fz_:Jo X "list.reverse" Us:=by
 intro pins s σ H x vs v us Q I rx rv h;let#[l,xs,rfl,rfl,hH,q]:=h;cases rx;let _V:=rv.zero;subst _V;let#[z,its,n,r,hl,e]:=I.jB hH;apply call_meets F.slot_list_reverse ⟨_,e,rfl⟩ F.entry_list_reverse (F.args_list_reverse_1 _) (AutoSeq1.list_reverse_list_0 l its.toArray n (by rw[cQ];omega)) ⟨e,?_⟩;apply⟨.non,_,I.vD (its':=its.reverse) hH e Z2 r.reverse ?_,rfl,q⟩;rw[List.length_reverse];omega
inductive Dg (x:V) (y:V) (H:Hp) (Q:VK):Prop
 |mk:∀l b xs zs,x=.ref l->y=.ref b->H l\.lst xs->H b\.lst zs->xs.length+zs.length<=sizeLine->(∀p,H p=none->Q (.ref p) (upd H p (.lst (xs++zs))))->Dg x y H Q
theorem Yk:dN X (binaryOp .Add) Dg:=by
 intro pins s σ H x y v u Q I rx ry h;let#[l,b,xs,zs,rfl,rfl,hH,hB,hz,q]:=h;cases rx;cases ry;let#[z,its,n,r,hl,e]:=I.jB hH;let#[z2,ip,n2,r2,jh,e2]:=I.jB hB;apply PySem.P.add_list e e2 ?_ (by rw[cQ,cQ];omega);have ea:its.toArray++ip.toArray=(its++ip).toArray:=by simp
 rw[ea];exact⟨.ref _,_,I.zj (t':=s.toks) (r.append r2) (by rw[eM];omega),rfl,q _ I.fresh⟩
end
section
variable{prog:Ad}{w:Af}{A:Ag}{E:Aa->Ab->Prop}{s:Ab}
end
section
variable{X:Cx}
end
end L2
namespace L2
open PySem PySem.Spec PyProof.Rows
section
variable{κ:Type}[DecidableEq κ]
def aZ(kvs:List (κ × V))(k:κ):aE:=(kvs.find? λkv=>decide (kv.1=k)).map (·.2)
def putK(kvs:List (κ × V))(k:κ)(v:V):List (κ × V):=
 if (kvs.any λkv=>decide (kv.1=k))=true then kvs.map (λkv=>if kv.1=k then (kv.1,v) else kv) else kvs++[(k,v)]
theorem AK{p:κ × V}{r:List (κ × V)}{k:κ}(e:p.1=k):aZ (p::r) k\p.2:=by simp[aZ,yd,e]
theorem AH{p:κ × V}{r:List (κ × V)}{k:κ}(e:¬p.1=k):aZ (p::r) k=aZ r k:=by simp[aZ,yd,e]
theorem BS(k:κ):∀kvs:List (κ × V),(kvs.any λkv=>decide (kv.1=k))=(aZ kvs k).isSome
 |[]=>rfl
 |p::r=>by
  rw[List.any_cons];by_cases e:p.1=k
  ·simp only[AK e,cJ e,Bool.true_or,Option.isSome_some]
  rw[AH e,fD e,Bool.false_or];exact BS k r
theorem OO(kvs:List (κ × V))(k:κ)(v:V):(putK kvs k v).length<=kvs.length+1:=by
 unfold putK;split
 ·rw[au];omega
 rw[eM,jr,List.length_nil];omega
theorem wH{kvs:List (κ × V)}{k:κ}(v:V)(h:aZ kvs k=none):putK kvs k v=kvs++[(k,v)]:=by
 unfold putK;rw[BS,h];exact aB (by decide)
theorem fe.dU{o:aE}{u:Option Aa}(r:fe o u):o.isSome=u.isSome:=by
 cases o with
 |none=>cases u with
  |none=>rfl
  |some _=>exact (show False from r).elim
 |some _=>cases u with
  |none=>exact (show False from r).elim
  |some _=>rfl
theorem KV.val{kvs:List (κ × V)}{vs:List (κ × Aa)}(r:KV kvs vs)(k:κ):fe (aZ kvs k) (valueAt vs k):=by
 unfold KV at r
 induction r with
 |nil=>exact True.intro
 |@cons p q ps qs h t ih=>
  let#[h1,h2]:=h;by_cases e:p.1=k
  ·have e':q.1=k:=h1.symm.trans e;have b:valueAt (q::qs) k\q.2:=by simp[valueAt,yd,e']
   rw[AK e,b];exact h2
  have e':¬q.1=k:=λz=>e (h1.trans z);have b:valueAt (q::qs) k=valueAt qs k:=by simp[valueAt,yd,e']
  rw[AH e,b];exact ih
theorem KV.any{kvs:List (κ × V)}{vs:List (κ × Aa)}(r:KV kvs vs)(k:κ):(kvs.any λkv=>decide (kv.1=k))=vs.any λkv=>decide (kv.1=k):=by
 unfold KV at r
 induction r with
 |nil=>rfl
 |cons h t ih=>rw[List.any_cons,List.any_cons,ih,h.1]
theorem KV.yX{kvs:List (κ × V)}{vs:List (κ × Aa)}(r:KV kvs vs)(k:κ){y:V}{u:Aa}(ry:RelV y u) :
  KV (kvs.map λkv=>if kv.1=k then (kv.1,y) else kv) (vs.map λkv=>if kv.1=k then (kv.1,u) else kv):=by
 unfold KV at r ⊢
 induction r with
 |nil=>exact .nil
 |@cons p q ps qs h t ih=>
  rw[eZ,eZ];apply .cons ?_ ih;let#[h1,h2]:=h;by_cases e:p.1=k
  ·rw[aJ e,aJ (h1.symm.trans e)];exact#[h1,ry]
  rw[aB e,aB (λz=>e (h1.trans z))];exact#[h1,h2]
theorem KV.put{kvs:List (κ × V)}{vs:List (κ × Aa)}(r:KV kvs vs)(k:κ){y:V}{u:Aa}(ry:RelV y u):KV (putK kvs k y) (stored vs k u):=by
 unfold putK stored;rw[r.any k];by_cases e:(vs.any λkv=>decide (kv.1=k))=true
 ·rw[aJ e,aJ e];exact r.yX k ry
 rw[aB e,aB e];exact Paired.snoc r #[U,ry]
theorem KV.keys{kvs:List (κ × V)}{vs:List (κ × Aa)}(r:KV kvs vs):kvs.map (·.1)=vs.map (·.1):=by
 unfold KV at r
 induction r with
 |nil=>rfl
 |cons h t ih=>rw[eZ,eZ,ih,h.1]
theorem KV.length{kvs:List (κ × V)}{vs:List (κ × Aa)}(r:KV kvs vs):kvs.length=vs.length:=bj r
end
theorem Ar{P:Ad}{w:Af}{k:Key}{u:Aa}(r:RelV (kV k) u):(ft P w).is k u=true:=by
 cases k with
 |inl i=>let#[t,e]:=(show ∃t,u=Value.int i t from r);subst e;exact ej_ P w i t
 |inr x=>let#[t,e]:=(show ∃t,u=Value.str x t from r);subst e;exact eD_ P w x t
theorem Ud{P:Ad}{w:Af}:∀{ks:av} {us:ag},Vals (ks.map kV) us->ItemsAre (ft P w) ks us
 |[],_,r=>by rw[List.map_nil] at r;cases r;exact .nil
 |k::ks,_,r=>by
  rw[eZ] at r;cases r with
  |cons h t=>exact .cons (Ar h) (Ud t)
abbrev KT(H:Hp):List (av × V)->List (av × Addr × Aa)->Prop:=Paired λp q=>p.1=q.1/\H q.2.1\.tup (p.1.map kV)/\RelV p.2 q.2.2
theorem KT.val{H:Hp}{kvs:List (av × V)}{xs:List (av × Addr × Aa)}(r:KT H kvs xs)(k:av):fe (aZ kvs k) ((atKey xs k).map (·.2)):=by
 induction r with
 |nil=>exact True.intro
 |@cons p q ps qs h t ih=>
  let#[h1,_,h2]:=h;by_cases e:p.1=k
  ·have e':q.1=k:=h1.symm.trans e;have b:atKey (q::qs) k\q.2:=by simp[atKey,yd,e']
   rw[AK e,b];exact h2
  have e':¬q.1=k:=λz=>e (h1.trans z);have b:atKey (q::qs) k=atKey qs k:=by simp[atKey,yd,e']
  rw[AH e,b];exact ih
theorem KT.yX{H:Hp}{kvs:List (av × V)}{xs:List (av × Addr × Aa)}(r:KT H kvs xs)(k:av){y:V}{u:Aa}(ry:RelV y u) :
  KT H (kvs.map λkv=>if kv.1=k then (kv.1,y) else kv) (xs.map (putAt k u)):=by
 induction r with
 |nil=>exact .nil
 |@cons p q ps qs h t ih=>
  rw[eZ,eZ];apply .cons ?_ ih;let#[h1,h2,h3]:=h;unfold putAt;by_cases e:p.1=k
  ·rw[aJ e,aJ (h1.symm.trans e)];exact#[h1,h2,ry]
  rw[aB e,aB (λz=>e (h1.trans z))];exact#[h1,h2,h3]
theorem KT.put{H:Hp}{kvs:List (av × V)}{xs:List (av × Addr × Aa)}(r:KT H kvs xs)(k:av){b:Addr}{y:V}{u:Aa}(hb:H b\.tup (k.map kV))(ry:RelV y u) :
  KT H (putK kvs k y) (storedH xs k b u):=by
 have e:(kvs.any λkv=>decide (kv.1=k))=(atKey xs k).isSome:=by
  rw[BS,(r.val k).dU,Option.isSome_map]
 unfold putK storedH;rw[e];by_cases q:(atKey xs k).isSome=true
 ·rw[aJ q,aJ q];exact r.yX k ry
 rw[aB q,aB q];exact Paired.snoc r #[U,hb,ry]
theorem KT.keeps{H H':Hp}{kvs:List (av × V)}{xs:List (av × Addr × Aa)}(r:KT H kvs xs)(ht:∀b ys,H b\.tup ys->H' b\.tup ys):KT H' kvs xs:=
 Paired.aU r λ_ _ z=>#[z.1,ht _ _ z.2.1,z.2.2]
section
variable{P:Ad}{w:Af}{H:Hp}{h:Heap}{a:Addr}
theorem QC{u:HO}(ok:fU P w H h)(e:Rd H a u):fC P w H h a u:=e.ok ok
theorem jM{kvs:List (Key × V)}(ok:fU P w H h)(e:Rd H a (.dK kvs)):kvs.length<=sizeLine/\(a == sysModules)=false/\∃vs,KV kvs vs/\h.DictOf (ft P w) a vs:=
 show fC P w H h a (.dK kvs) from QC ok e
theorem EY{kvs:List (Key × V)}(ok:fU P w H h)(e:H a\.dK kvs):kvs.length<=sizeLine/\(a == sysModules)=false/\∃vs,KV kvs vs/\h.DictOf (ft P w) a vs:=jM ok (.inl e)
theorem BG{ks:av}(ok:fU P w H h)(e:H a\.tup (ks.map kV)):(tupleKind (ft P w)).is h ks a:=by
 let#[_,its,r,#[o,h1,h2,n,h3],_]:=(show fC P w H h a (.tup (ks.map kV)) from ok a _ e);exact#[o,its.toArray,n,h1,h2,h3,by simpa using Ud r]
theorem Bq{kvs:List (av × V)}(ok:fU P w H h)(e:Rd H a (.dT kvs)):kvs.length<=sizeLine/\(a == sysModules)=false /\
  ∃xs,KT H kvs xs/\h.DictOfH (tupleKind (ft P w)) a xs:=by
 let#[z,y,xs,r,o,es,ep,h1,h2,h3,h4,h5]:=(show fC P w H h a (.dT kvs) from QC ok e);apply#[z,y,xs,r,o,es,ep,h1,h2,h3,h4,λx hx=>?_,h5]
 have all:∀{l:List (av × V)} {m:List (av × Addr × Aa)},KT H l m->∀x∈m,(tupleKind (ft P w)).is h x.1 x.2.1:=by
  intro l m q
  induction q with
  |nil=>intro x hx;exact nomatch hx
  |@cons p q ps qs hq t ih=>
   intro x hx;rcases bW.mp hx with e|hx
   ·subst e;exact BG ok (by rw[<- hq.1];exact hq.2.1)
   exact ih x hx
 exact all r x hx
theorem QI{kvs:List (av × V)}(ok:fU P w H h)(e:H a\.dT kvs):kvs.length<=sizeLine/\(a == sysModules)=false /\
  ∃xs,KT H kvs xs/\h.DictOfH (tupleKind (ft P w)) a xs:=Bq ok (.inl e)
end
def dP(H:Hp)(a:Addr)(y:V)(r:aE):Prop:=
 (∃kvs k,Rd H a (.dK kvs)/\y=kV k/\r=aZ kvs k)∨∃kvs k b,Rd H a (.dT kvs)/\y=.ref b/\H b\.tup (k.map kV)/\r=aZ kvs k
def pH(H:Hp)(a:Addr)(y v:V)(H':Hp):Prop:=
 (∃kvs k,H a\.dK kvs/\y=kV k/\kvs.length<sizeLine/\H'=upd H a (.dK (putK kvs k v))) ∨
 ∃kvs k b,H a\.dT kvs/\y=.ref b/\H b\.tup (k.map kV)/\kvs.length<sizeLine/\H'=upd H a (.dT (putK kvs k v))
theorem dP.k{H:Hp}{a:Addr}{kvs:List (Key × V)}{k:Key}(e:H a\.dK kvs):dP H a (kV k) (aZ kvs k):=.inl #[kvs,k,.inl e,U,U]
theorem dP.t{H:Hp}{a b:Addr}{kvs:List (av × V)}{k:av}(e:H a\.dT kvs)(eb:H b\.tup (k.map kV)):dP H a (.ref b) (aZ kvs k):=.inr #[kvs,k,b,.inl e,U,eb,U]
theorem pH.k{H:Hp}{a:Addr}{kvs:List (Key × V)}{k:Key}{v:V}(e:H a\.dK kvs)(hl:kvs.length<sizeLine):pH H a (kV k) v (upd H a (.dK (putK kvs k v))):=.inl #[kvs,k,e,U,hl,U]
theorem pH.t{H:Hp}{a b:Addr}{kvs:List (av × V)}{k:av}{v:V}(e:H a\.dT kvs)(eb:H b\.tup (k.map kV))(hl:kvs.length<sizeLine) :
  pH H a (.ref b) v (upd H a (.dT (putK kvs k v))):=.inr #[kvs,k,b,e,U,eb,hl,U]
section
variable{X:Cx}{pins:List (Addr × Obj)}{σ:St}{H:Hp}{s:Ab}{a:Addr}{y v:V}{u r:Aa}{o:aE}{A:Ag}{E:Aa->Ab->Prop}
theorem Inv.big(I:Inv X pins σ H s):sysModules<s.heap.objs.size:=by
 have h:mainGlobals<s.heap.objs.size:=(I.mod.glob.keeps I.bk).lt;exact Nat.lt_trans (by decide) h
theorem g5_{Q:Aa->Ab->Prop}(hu:A.units+1<cLine)(I:Inv X pins σ H s)(g:dP H a y (some v))(ry:RelV y u)(h:∀w' s',Inv X pins σ H s'->RelV v w'->Q w' s') :
  wpAny (model X.prog X.w) A (getItem (.ref a) u) Q E s:=by
 rcases g with⟨kvs,k,e,ey,l⟩|⟨kvs,k,b,e,ey,eb,l⟩
 ·subst ey;let#[z,hd,vs,rel,dd]:=jM I.ay e;let#[w',hw,jd]:=fe.some_of (v:=v) (o:=valueAt vs k) (by rw[l];exact rel.val k);exact wpAny_getItem_of (Ar ry) dd.mapOf hw (h w' _ (I.tok _) jd)
 subst ey;cases (show u=Value.ref b from ry);let#[z,hd,xs,rel,dd]:=Bq I.ay e;let#[w',hw,jd]:=fe.some_of (v:=v) (o:=(atKey xs k).map (·.2)) (by rw[l];exact rel.val k);let#[p,hp,kj]:=B0.mp hw;apply wpAny_getItem_heap (tupleKind_room_in1 hu) (BG I.ay eb) dd hp ?_;rw[kj];exact h w' _ (I.tok _) jd
theorem Na{Q:Aa->Ab->Prop}(hu:A.units+1<cLine)(I:Inv X pins σ H s)(g:dP H a y o)(ry:RelV y u)(h:∀s',Inv X pins σ H s'->Q (.bool o.isSome) s') :
  wpAny (model X.prog X.w) A (compareOp .In u (.ref a)) Q E s:=by
 rcases g with⟨kvs,k,e,ey,l⟩|⟨kvs,k,b,e,ey,eb,l⟩
 ·subst ey;let#[z,hd,vs,rel,dd]:=jM I.ay e;apply wpAny_in_of (Ar ry) hd dd.mapOf ?_;rw[<- (rel.val k).dU,<- l];exact h _ (I.tok _)
 subst ey;cases (show u=Value.ref b from ry);let#[z,hd,xs,rel,dd]:=Bq I.ay e;apply wpAny_in_heap (tupleKind_room_in1 hu) (BG I.ay eb) hd dd ?_;let q:=(rel.val k).dU;rw[Option.isSome_map] at q;rw[<- q,<- l];exact h _ (I.tok _)
theorem Zm{Q:Aa->Ab->Prop}(hu:A.units+1<cLine)(I:Inv X pins σ H s)(g:dP H a y o)(ry:RelV y u)(h:∀s',Inv X pins σ H s'->Q (.bool (!o.isSome)) s') :
  wpAny (model X.prog X.w) A (compareOp .NotIn u (.ref a)) Q E s:=by
 rcases g with⟨kvs,k,e,ey,l⟩|⟨kvs,k,b,e,ey,eb,l⟩
 ·subst ey;let#[z,hd,vs,rel,dd]:=jM I.ay e;apply wpAny_notIn_of (Ar ry) hd dd.mapOf ?_;rw[<- (rel.val k).dU,<- l];exact h _ (I.tok _)
 subst ey;cases (show u=Value.ref b from ry);let#[z,hd,xs,rel,dd]:=Bq I.ay e;apply wpAny_notIn_heap (tupleKind_room_in1 hu) (BG I.ay eb) hd dd ?_;let q:=(rel.val k).dU;rw[Option.isSome_map] at q;rw[<- q,<- l];exact h _ (I.tok _)
theorem Mz{h':Heap}{t':Nat}{ob:HO}(I:Inv X pins σ H s)(mu:F1 (H a))(hs:Heap.SameBut a s.heap h')(he:∃q,h'.get? a\q)(new:fC X.prog X.w (upd H a ob) h' a ob) :
  Inv X pins σ (upd H a ob) { s with heap:=h',toks:=t' }:=
 I.write (x:=a) (e:=a) mu (.inl U) (λb q hb z=>(hs.2 b hb).trans z) he new
theorem Hl{P:Ad}{w:Af}{H':Hp}{h':Heap}{kvs:List (Key × V)}{vs:List (Key × Aa)}(z:kvs.length<=sizeLine)(hd:(a == sysModules)=false)(rel:KV kvs vs)(dd:h'.DictOf (ft P w) a vs) :
  fC P w H' h' a (.dK kvs):=#[z,hd,vs,rel,dd]
theorem hk_{H':Hp}{Q:Unit->Ab->Prop}(hu:A.units+1<cLine)(I:Inv X pins σ H s)(g:pH H a y v H')(ry:RelV y u)(rv:RelV v r)(h:∀s',Inv X pins σ H' s'->Q () s') :
  wpAny (model X.prog X.w) A (setItem (.ref a) u r) Q E s:=by
 rcases g with⟨kvs,k,e,ey,l,eH⟩|⟨kvs,k,b,e,ey,eb,l,eH⟩
 ·subst ey eH;let#[z,hd,vs,rel,dd]:=EY I.ay e;have hz:vs.length<=sizeLine:=by rw[<- rel.length];exact z
  have hl:(putK kvs k v).length<=sizeLine:=by have:=OO kvs k v;omega
  apply wpAny_setItem_pairs (hsz:=hz) (Ar ry) dd λh' xW hs=>h _ ?_;have he:∃q,h'.get? a\q:=let #[q,_,_,hq,_]:=xW;#[q,hq];exact Mz I (by rw[e];exact True.intro) hs he (Hl hl hd (rel.put k rv) xW)
 subst ey eH;cases (show u=Value.ref b from ry);let#[z,hd,xs,rel,dd]:=QI I.ay e;have hz:xs.length<=sizeLine:=by rw[<- bj rel];exact z
 have hl:(putK kvs k v).length<=sizeLine:=by have:=OO kvs k v;omega
 apply wpAny_setItem_heap (hsz:=hz) (tupleKind_room_in1 hu) (BG I.ay eb) dd λh' xW hs=>h _ ?_;let#[q,es,ep,hq,h2,h3,h4,_,h5]:=xW;apply Mz I (by rw[e];exact True.intro) hs #[q,hq] #[hl,hd,_,(rel.put k eb rv).keeps λc ys ec=>?_,q,es,ep,hq,h2,h3,h4,h5];rw[ax (bK ec e nofun)];exact ec
end
section
variable{X:Cx}{pins:List (Addr × Obj)}{σ:St}{H:Hp}{s:Ab}{a:Addr}{kvs:List (Key × V)}{k:Key}{u:Aa}{A:Ag}{E:Aa->Ab->Prop}
theorem Yy{Q:Aa->Ab->Prop}(I:Inv X pins σ H s)(e:Rd H a (.dK kvs))(h:∀t s',Inv X pins σ H s'->Q (.int kvs.length t) s'):wpAny (model X.prog X.w) A (call (.builtin "len") [.ref a]) Q E s:=by
 let#[z,hd,vs,rel,dd]:=jM I.ay e;apply call_len_dict hd dd (by rw[<- rel.length];rw[cU] at z;omega) ?_;rw[<- rel.length];exact h _ _ (I.tok _)
end
def F0(i:Expr):Prop:=∀ov iv,subscripted i false ov iv=operate [ov,iv] (getItem ov iv)
theorem ZE{prog:Ad}{w:Af}{A:Ag}{E:Aa->Ab->Prop}{s:Ab}{env:Env}{value slice:Expr}{pos:Pos}{T id:String}{Q:Aa->Ab->Prop}
  (hl:typeLookup (.type T) "__getitem__"=pure (some (.builtin id))) (hs:F0 slice)
  (h:wpAny (model prog w) A (eval value env) (λo aK=>wpAny (model prog w) A (eval slice env) (λi ju=>ju.TypeIs o T/\wpAny (model prog w) A (getItem o i) Q E ju) E aK) E s) :
  wpAny (model prog w) A (eval (.Subscript value slice pos) env) Q E s:=by
 apply Subscript_ (wpAny_mono h (λo aK K1=>wpAny_mono K1 (λi ju zw=>?_) λ_ _ x=>x) λ_ _ x=>x);let#[hT,zw]:=zw;unfold subscriptTail;apply af ?_;rw[getitemInPython_of_ne hT.not_modules];apply af (wpAny_specialOf hT hl ?_)
 have fin:wpAny (model prog w) A (subscripted slice false o i) (λr CJ=>wpAny (model prog w) A (letTemporaryGo value o r >>= λ_=>pure r) Q E CJ) E ju:=by
  rw[hs o i];exact wpAny_operating (wpAny_mono zw (λr CJ K0=>af (wpAny_letTemporaryGo (aC K0))) λ_ _ x=>x)
 first
  |exact aC (af fin)
  |exact af (aC (af fin))
  |exact af fin
theorem em_{X:Cx}{pins:List (Addr × Obj)}{σ:St}{H:Hp}{s:Ab}{a:Addr}{y:V}{o:aE}(I:Inv X pins σ H s)(g:dP H a y o):s.TypeIs (.ref a) "dict":=by
 rcases g with⟨kvs,k,e,_,_⟩|⟨kvs,k,b,e,_,_,_⟩
 ·let#[_,_,vs,_,dd]:=jM I.ay e;exact dd.typeIs
 let#[_,_,xs,_,dd]:=Bq I.ay e;exact dd.typeIs
inductive qw (Q:VK) (x:V) (y:V) (H2:Hp):Prop
 |mk:∀a v,x=.ref a->dP H2 a y (some v)->Q v H2->qw Q x y H2
def CF(td ty:TE):TE:=λσ H Q=>td σ H λx H1=>ty σ H1 λy H2=>qw Q x y H2
inductive w4 (Q:VK) (y:V) (x:V) (H2:Hp):Prop
 |mk:∀a o,x=.ref a->dP H2 a y o->Q (.bl o.isSome) H2->w4 Q y x H2
def JY(ty td:TE):TE:=λσ H Q=>ty σ H λy H1=>td σ H1 λx H2=>w4 Q y x H2
inductive Uq (Q:VK) (y:V) (x:V) (H2:Hp):Prop
 |mk:∀a o,x=.ref a->dP H2 a y o->Q (.bl (!o.isSome)) H2->Uq Q y x H2
def u4(ty td:TE):TE:=λσ H Q=>ty σ H λy H1=>td σ H1 λx H2=>Uq Q y x H2
inductive rH (D:Ends) (σ:St) (v:V) (x:V) (y:V) (H3:Hp):Prop
 |mk:∀a H4,x=.ref a->pH H3 a y v H4->D.nx σ H4->rH D σ v x y H3
def C4(td ty tv:TE):TS:=λD σ H=>tv σ H λv H1=>td σ H1 λx H2=>ty σ H2 λy H3=>rH D σ v x y H3
section
variable{X:Cx}{o i e value:Expr}{pos pos' Cs:Pos}{td ty tv:TE}
theorem jo(hu:X.A.units+1<cLine)(ho:PE X o td)(hi:PE X i ty)(hs:F0 i:=by exact λ_ _=>rfl):PE X (.Subscript o i pos) (CF td ty):=by
 intro pins s σ H Q I h;apply ZE PySem.F.slot_dict_getitem.lookup hs (aQ (ho pins s σ H _ I h) λu s1 ⟨x,H1,I1,rx,q1⟩=>aQ (hi pins s1 σ H1 _ I1 q1) λiv s2 ⟨y,H2,I2,ry,a,v,ex,g,q2⟩=>?_);subst ex;obtain rfl:u=Value.ref a:=rx;exact#[em_ I2 g,g5_ hu I2 g ry λw' s3 I3 jd=>#[v,H2,I3,jd,q2]]
theorem BF(hu:X.A.units+1<cLine)(hi:PE X i ty)(ho:PE X o td):PC X .In i o (JY ty td):=by
 intro pins s σ H Q I h;apply aQ (hi pins s σ H _ I h) λiv s1 ⟨y,H1,I1,ry,q1⟩=>aQ (ho pins s1 σ H1 _ I1 q1) λu s2 ⟨x,H2,I2,rx,a,ov,ex,g,q2⟩=>?_;subst ex;obtain rfl:u=Value.ref a:=rx;exact Na hu I2 g ry λs3 I3=>#[.bl ov.isSome,H2,I3,U,q2]
theorem Je(hu:X.A.units+1<cLine)(hi:PE X i ty)(ho:PE X o td):PC X .NotIn i o (u4 ty td):=by
 intro pins s σ H Q I h;apply aQ (hi pins s σ H _ I h) λiv s1 ⟨y,H1,I1,ry,q1⟩=>aQ (ho pins s1 σ H1 _ I1 q1) λu s2 ⟨x,H2,I2,rx,a,ov,ex,g,q2⟩=>?_;subst ex;obtain rfl:u=Value.ref a:=rx;exact Zm hu I2 g ry λs3 I3=>#[.bl (!ov.isSome),H2,I3,U,q2]
theorem uJ(hu:X.A.units+1<cLine)(ho:PE X o td)(hi:PE X i ty)(hv:PE X value tv)(hs:swapsWith value (some (.Subscript o i pos')) pos.line X.env=pure false) :
  PS X (.Assign [.Subscript o i pos'] value pos) (C4 td ty tv):=by
 intro pins s σ H D I h;apply wpAny_Assign_Subscript (aQ (hv pins s σ H _ I h) λr s1 ⟨v,H1,I1,rv,q1⟩=>aQ (ho pins s1 σ H1 _ I1 q1) λu s2 ⟨x,H2,I2,rx,q2⟩=>aQ (hi pins s2 σ H2 _ I2 q2) λiv s3 ⟨y,H3,I3,ry,a,H4,ex,g,q3⟩=>?_) hs;subst ex;obtain rfl:u=Value.ref a:=rx;exact hk_ hu I3 g ry rv λs4 I4=>#[σ,H4,I4,q3]
end
theorem _C{P:Ad}{w:Af}{H:Hp}(h:Heap)(hb:sysModules<h.objs.size):fC P w H (h.push { cls:=.type "dict",data:=.dict #[] }) h.objs.size (.dK []):=
 #[gE _,beq_eq_false_iff_ne.mpr (bG (dC hb)),[],.nil,Heap.DictOf.new h]
theorem SV{P:Ad}{w:Af}{H:Hp}(h:Heap)(hb:sysModules<h.objs.size):fC P w H (h.push { cls:=.type "dict",data:=.dict #[] }) h.objs.size (.dT []):=
 #[gE _,beq_eq_false_iff_ne.mpr (bG (dC hb)),[],.nil,_,#[],0,cy _ U,#[U,U,U],U,U,List.nodup_nil]
def yx:TE:=λ_ H Q=>∀p,H p=none->Q (.ref p) (upd H p (.dK []))
def yw:TE:=λ_ H Q=>∀p,H p=none->Q (.ref p) (upd H p (.dT []))
section
variable{X:Cx}{pos:Pos}
theorem FO:PE X (.Dict [] [] pos) yx:=λpins s σ H Q I h=>
 wpAny_Dict_empty #[.ref s.heap.objs.size,_,I.laid (a:=s.heap.objs.size) (o:=.dK []) (t':=s.toks) (λ_ _ q=>aS _ q) (bc _) (_C s.heap I.big),U,h _ (I.ay.fresh (bc _))]
theorem hG_:PE X (.Dict [] [] pos) yw:=λpins s σ H Q I h=>
 wpAny_Dict_empty #[.ref s.heap.objs.size,_,I.laid (a:=s.heap.objs.size) (o:=.dT []) (t':=s.toks) (λ_ _ q=>aS _ q) (bc _) (SV s.heap I.big),U,h _ (I.ay.fresh (bc _))]
end
def wb(kvs more:List (Key × V)):List (Key × V):=more.foldl (λacc kv=>putK acc kv.1 kv.2) kvs
theorem ON:∀(more kvs:List (Key × V)),(wb kvs more).length<=kvs.length+more.length
 |[],kvs=>by show kvs.length<=kvs.length+0;omega
 |p::r,kvs=>by
  let h1:=ON r (putK kvs p.1 p.2);let h2:=OO kvs p.1 p.2;show (wb (putK kvs p.1 p.2) r).length<=_;rw[jr];omega
structure M1 (X:Cx) (o:Expr) (m:Str) (apos:Pos) (e:Expr) (bZ:Pos):Prop where
 base:attributeBase o m X.env (eval o X.env)=eval o X.env
 few:((backTo bZ (starEach [e] X.env)).all (λx=>!x.1)&&(backToKw bZ (keywordEach [] X.env)).all (λx=>x.1.isSome)
  && decide (([e]:List Expr).length+([]:List Keyword).length+(if ([]:List Keyword).isEmpty then 0 else 1)<30))=true
 line:(apos.endLine == bZ.line)=true
 trees:backTo bZ (starEach [e] X.env)=[(false,eval e X.env)]
structure M2 (X:Cx) (o:Expr) (m:Str) (apos:Pos) (e f:Expr) (bZ:Pos):Prop where
 base:attributeBase o m X.env (eval o X.env)=eval o X.env
 few:((backTo bZ (starEach [e,f] X.env)).all (λx=>!x.1)&&(backToKw bZ (keywordEach [] X.env)).all (λx=>x.1.isSome)
  && decide (([e,f]:List Expr).length+([]:List Keyword).length+(if ([]:List Keyword).isEmpty then 0 else 1)<30))=true
 line:(apos.endLine == bZ.line)=true
 trees:backTo bZ (starEach [e,f] X.env)=[(false,eval e X.env),(false,eval f X.env)]
def IsD(H:Hp)(a:Addr):Prop:=(∃kvs,Rd H a (.dK kvs))∨∃kvs,Rd H a (.dT kvs)
theorem Q4{X:Cx}{pins:List (Addr × Obj)}{σ:St}{H:Hp}{s:Ab}{a:Addr}(I:Inv X pins σ H s)(d:IsD H a) :
  s.TypeIs (.ref a) "dict"/\(∀b,Value.ref a=.ref b->∃ob,s.heap.get? b\ob/\ob.dict=none)/\(a == sysModules)=false:=by
 rcases d with⟨kvs,e⟩|⟨kvs,e⟩
 ·let#[_,hd,vs,_,dd]:=jM I.ay e;apply#[dd.typeIs,λb q=>?_,hd];cases q;let#[ob,_,_,h1,h2,_]:=dd;exact#[ob,h1,h2.2.1]
 let#[_,hd,xs,_,dd]:=Bq I.ay e;apply#[dd.typeIs,λb q=>?_,hd];cases q;let#[ob,_,_,h1,h2,_]:=dd;exact#[ob,h1,h2.2.1]
section
variable{X:Cx}{pins:List (Addr × Obj)}{σ:St}{H:Hp}{s:Ab}{a:Addr}{y d:V}{u r:Aa}{o:aE}{A:Ag}{E:Aa->Ab->Prop}
end
section
variable{X:Cx}{o e f:Expr}{apos bZ:Pos}{td ty tx:TE}
end
section
variable{X:Cx}{pins:List (Addr × Obj)}{σ:St}{H:Hp}{s:Ab}{a:Addr}{kvs:List (Key × V)}{A:Ag}{E:Aa->Ab->Prop}
theorem hO_{Q:Aa->Ab->Prop}(I:Inv X pins σ H s)(e:Rd H a (.dK kvs))(h:∀p s',H p=none->Inv X pins σ (upd H p (.dK kvs)) s'->Q (.ref p) s'):wpAny (model X.prog X.w) A (call (.type "dict") [.ref a]) Q E s:=by
 let#[z,hd,vs,rel,dd]:=jM I.ay e;apply kt_call_dict hd dd (by rw[<- rel.length];exact z) λh' xW hs=>?_;apply h _ _ (I.ay.fresh (bc _)) (I.laid (a:=s.heap.objs.size) (o:=.dK kvs) (t':=s.toks) (λb q hq=>?_) (bc _) (Hl z (beq_eq_false_iff_ne.mpr (bG (dC I.big))) rel xW));exact (hs.2 b (dC (bp hq))).trans (aS _ hq)
end
section
variable{X:Cx}{pins:List (Addr × Obj)}{σ:St}{H:Hp}{s:Ab}{a:Addr}{y:V}{u:Aa}{A:Ag}{E:Aa->Ab->Prop}
end
end L2
namespace U_
open PySem PySem.W PySem.Calls PyProof.Rows
theorem cK_{P:Params}{h:Heap}:∀(ns:List Int) (vs:ag),WellAll P h vs (ns.map WData.int)->IntsAre vs ns:=by
 intro ns
 induction ns with
 |nil=>
  intro vs w;rw[List.map_nil] at w;cases w;exact .nil
 |cons n ns ih=>
  intro vs w;rw[eZ] at w;cases w with
  |cons a b=>
   cases a;exact .cons _ _ (ih _ b)
theorem gT_{l:OpenLaw}{n:Nat}(hn:l.most\n){P:Params}{h:Heap}{args:List WData}{vals:ag}
  (vN:l.row.toRowW.claim.pre args=true) (K4:WellAll P h vals args) :
  ∃a vs ns,vals=[Value.ref a]/\args=[WData.list (ns.map WData.int)]/\h.get? a=some { cls:=.type "list",data:=.seq vs.toArray }/\IntsAre vs ns/\ns.length<=n:=by
 have hsh:WShape.hasAll [] args [.list .int]=true:=(pre_splitW vN).1;have hc:l.pre.holds [] { args:=args }=true:=(pre_splitW vN).2;let#[d,r,rfl,h1,h2]:=hasAllW_cons hsh;obtain rfl:=hasAllW_nil h2;let#[xs,rfl,h3]:=hasW_list h1;let#[ns,rfl]:=items_int h3
 have hlen:ns.length<=n:=by
  unfold OpenLaw.pre at hc
  have h4:(WTm.not (.lt (.lit (.int (n:Int))) (.len (.arg 0)))).holds [] { args:=[.list (ns.map .int)] }=true:=by
   let h4:=(holds_andW hc).1;rw[hn] at h4;exact h4
  let h5:=condW_of h4 (w_not (w_lt w_lit (w_len_list (w_arg U))));rw[au] at h5;apply Nat.le_of_not_lt λq=>?_;have q':(n:Int)<((ns.length:Nat):Int):=by omega
  first
   |(rw[cJ q'] at h5;exact absurd h5 (by decide))
   |(simp at h5;omega)
 cases K4 with
 |cons w1 w2=>
  cases w2;cases w1 with
  |list ho zW=>exact#[_,_,ns,U,U,ho,cK_ ns _ zW,hlen]
theorem hj_(l:OpenLaw)(args:List WData):l.row.toRowW.claim.post args (.bool true) args=true:=
 postW_of (r:=l.row.toRowW) (X:=(true == true))
  (show WShape.has [] (.bool true) .bool=true by first|rfl|decide|simp[WShape.has,WShape.arms,WShape.armsAll])
  (show (WTm.eq .res (.lit (.bool true))).value [] { args:=args,res:=some (.bool true),after:=args }=some (.bool (true == true)) from w_eq_bool (w_res U) w_lit) U
theorem jS{l:OpenLaw}{n:Nat}{q:Ad}{loose:ae}{XP:(Str->Option Aa)->Heap->Prop}{YP:Af->Heap->Prop}{d:DefRec}
  (hn:l.most\n) (EH:d.params.defaults=[])
  (call:∀(w:Af) (dc aK:Ab) (mg mb:Str->Option Aa) (fa:Addr) (o:Obj) (pm cd doc:Aa) (a:Addr) (vs:ag) (ns:List Int),
   Ground q loose [] XP w dc mg mb aK.heap->YP w aK.heap->
   aK.heap.get? fa\o->o.data=.func (docDef d.name d.params d.body d.scope pm cd doc)->aK.heap.CodeRec cd d.name->mg d.name\.ref fa->
   aK.heap.get? a=some { cls:=.type "list",data:=.seq vs.toArray }->IntsAre vs ns->ns.length<=n->aK.gens=#[]->
   codeAny (model l.prog w) callerA (.call (.ref fa) #[[.ref a],[]]) (λr s'=>r=.ok (.ret (.bool true))/\OldK aK.heap s'.heap/\s'.os=aK.os/\AllBare s'.gens) aK) :
  WalkO q loose XP YP l.row.toRowW d [] (λf vs=>PySem.call f vs):=by
 intro w dc aK mg mb G Y fa o pm cd doc dV kV ho hd iw hD hmg hg args vals as vN hlay hrd K4 Rw;obtain rfl:dV=.none:=Dflts.none hD EH;obtain rfl:kV=.none:=Dflts.noKw hD;let#[a,vs,ns,rfl,rfl,zD,hints,hlen]:=gT_ hn vN K4;apply enter_call (codeAny_mono (call w dc aK mg mb fa o pm cd doc a vs ns G Y ho (fd_plain hd) iw hmg zD hints hlen hg) λr s' hq=>?_);let#[rfl,h2,h3,h4]:=hq;exact#[.inl #[.bool true,.bool true,[],U,λ_=>rfl,.bool true,hj_ l _,λ_=>#[List.Pairwise.nil,λ_ hm=>(nomatch hm)]],h2,h3,h4]
section
variable{prog:Ad}{w:Af}{A:Ag}{E:Aa->Ab->Prop}{s:Ab}{K:Frag}
end
end U_
namespace L2
open PySem PySem.Spec PyProof.Rows
theorem TC:∀{vs:ag} {ns:List Int},IntsAre vs ns->Vals (ns.map V.int) vs
 |_,_,.nil=>.nil
 |_,_,.cons n t h=>.cons #[t,U] (TC h)
end L2
namespace L2
open PySem PySem.Spec PyProof.Rows
end L2
namespace L2
open PySem PySem.Spec PyProof.Rows
def ml(s:Stmt)(j:Nat):Stmt:=match s with
 |.ClassDef _ _ _ body _ _ _ _ _ _ _=>body.getD j (.Pass #[0,0,0,0])
 |_=>.Pass #[0,0,0,0]
def hU(s:Stmt):Arguments:=match s with
 |.FunctionDef _ a _ _ _ _ _ _ _ _=>a
 |_=>{ posonlyargs:=[],args:=[],vararg:=none,kwonlyargs:=[],kw_defaults:=[],kwarg:=none,defaults:=[] }
def gz(s:Stmt):List Stmt:=match s with
 |.FunctionDef _ _ b _ _ _ _ _ _ _=>b
 |_=>[]
def aX(s:Stmt):Scope:=match s with
 |.FunctionDef _ _ _ _ _ _ sc _ _ _=>sc
 |_=>{ kind:=.function,names:=[],isGenerator:=false,isCoroutine:=false }
abbrev a9:kK:=λ_ _ _ _ _ _=>False
abbrev E0:XK:=λ_ _ _=>False
theorem nO{X:Cx}:wG a9 X E0:=λ_ _ _ _ _ _ _ h=>h.elim
structure br (K:aj) (x qual:Str) (st:Stmt) (f:Addr) (fd:Ae):Prop where
 ex:∃(oc:Aa) (od:Option Addr) (kV doc pm:Aa) (an:Option Addr) (aM ct:Aa) (jx:Array (Option Aa)),
  fd=PySem.W.fnOf x qual (hU st) (gz st) (aX st) .none kV doc pm an aM ct/\K.lookup f=some #[oc,od,.func fd,jx]/\PySem.W.codeIn K aM qual=true
 kp:PySem.W.keepIn K (.ref f)=true
section v
theorem br.ok{x qual:Str}{st:Stmt}{f:Addr}{fd:Ae}{N ps:ae}{k:Nat}{sp:Sp}(F:br K x qual st f fd)(S:bN N ps (aX st))(len:∀vs H Q E,sp vs H Q E->vs.length=ps.length)
  (fX:∀(aM:Aa) (A:Ag) (outer:List Env) (s:Ab) (H:Hp) (vs:ai) (Q:VK) (E:XK),aP k (A.deeper (envOfC qual (aX st) s.heap.objs.size f aM))->sp vs H Q E->
   ∃t,jX (iZ a9 P w K mg base N qual (aX st) f aM A outer s H E).xr (gz st) t/\t { nx:=λ_ H'=>Q .non H',rt:=Q } (start N vs) H):!aq a9 (k+1) f fd ps sp:=by
 let#[oc,od,kV,doc,pm,an,aM,ct,jx,rfl,lk,iw]:=F.ex;apply QH lk iw S len λA outer s H vs Q E hr ki=>?_;let#[t,h,q]:=fX aM A outer s H vs Q E hr ki;exact#[t,h.xr,q]
theorem br.bT{x qual:Str}{st:Stmt}{f:Addr}{fd:Ae}{N ps:ae}{k:Nat}{sp:Sp}(F:br K x qual st f fd)(S:bN N ps (aX st)) (fX:∀(aM:Aa) (A:Ag) (outer:List Env) (s:Ab) (H:Hp) (vs:ai) (Q:VK) (E:XK),aP k (A.deeper (envOfC qual (aX st) s.heap.objs.size f aM))->sp vs H Q E->
   ∃t,jX (iZ a9 P w K mg base N qual (aX st) f aM A outer s H E).xr (gz st) t/\t { nx:=λ_ H'=>Q .non H',rt:=Q } (start N vs) H) (len:∀vs H Q E,sp vs H Q E->vs.length=ps.length:=by intro vs H Q E h;first|(cases h;subst_vars;rfl)|(let#[rfl,_]:=h;rfl)|(let#[_,rfl,_]:=h;rfl)|(let#[_,_,rfl,_]:=h;rfl)|(let#[_,_,_,rfl,_]:=h;rfl)|(let#[_,_,_,_,rfl,_]:=h;rfl)|(let#[_,_,_,_,_,_,_,_,_,rfl,_]:=h;rfl)):!aq a9 (k+1) f fd ps sp:=F.ok S len fX
theorem br.binds{x qual:Str}{st:Stmt}{f:Addr}{fd:Ae}{ps:ae}(F:br K x qual st f fd)
  (h:∀(kV doc pm:Aa) (an:Option Addr) (aM ct:Aa) (us:ag),us.length=ps.length->bindArgs (PySem.W.fnOf x qual (hU st) (gz st) (aX st) .none kV doc pm an aM ct) #[us,[]]=pure (ps.zip us)):pX K fd ps []:=by
 let#[oc,od,kV,doc,pm,an,aM,ct,jx,rfl,lk,iw]:=F.ex;exact .all (h kV doc pm an aM ct)
theorem QV{x qual:Str}{st:Stmt}{f:Addr}{oc:Aa}{od an:Option Addr}{jx:Array (Option Aa)}{kV doc pm aM ct:Aa}(l:K.lookup f=some #[oc,od,.func (PySem.W.fnOf x qual (hU st) (gz st) (aX st) .none kV doc pm an aM ct),jx])
  (c:PySem.W.codeIn K aM qual=true) (k:PySem.W.keepIn K (.ref f)=true):br K x qual st f (PySem.W.fnOf x qual (hU st) (gz st) (aX st) .none kV doc pm an aM ct):=#[#[oc,od,kV,doc,pm,an,aM,ct,jx,U,l,c],k]
end
theorem fO{A:Ag}{k:Nat}(hr:aP k A):A.units+1<cLine:=Nat.lt_of_le_of_lt (Nat.add_le_add_left (by decide:1<=64) _) hr.units
section
variable{X:Cx}
theorem pv(i:Nat){x:Str}{pos:Pos}(hN:X.N[i]? = some x:=by rfl)(hv:O7 X.env.scope x:=by first|exact Or.inl U|exact Or.inr (Or.inl U)|exact Or.inr (Or.inr U))(hd:(x == ("__debug__":Str))=false:=by decide)
  (iw:(x == ("__classdict__":Str))=false:=by decide):PE X (.Name x pos) (oN i):=Zi hN hv hd iw
inductive UP (xs:ai) (H:Hp) (Q:VK):Prop
 |mk:∀a kvs,xs=[V.ref a]->H a\.dK kvs->Q (.int kvs.length) H->UP xs H Q
theorem hi_:gG X (.builtin "len") UP:=by
 intro pins s σ H xs us Q I r h;let#[a,kvs,rfl,ha,q]:=h;let#[u,rfl,ru]:=vals1 r;cases ru;exact Yy I (.inl ha) λt s' I'=>#[.int kvs.length,H,I',#[t,U],q]
end
theorem aL{A B:Prop}(h:B):if false=true then A else B:=by
 rw[aB gc];exact h
theorem dD{A B:Prop}(h:A):if true=true then A else B:=by
 rw[aJ U];exact h
theorem bY{c A B:Prop}[Decidable c](h1:c->A)(h2:¬c->B):if c then A else B:=by
 by_cases h:c
 ·rw[aJ h];exact h1 h
 rw[aB h];exact h2 h
theorem Av{c A B:Prop}[Decidable c](hc:c)(h:B):if (!decide c)=true then A else B:=by
 rw[cJ hc];exact aL h
def aa(H H':Hp):Prop:=∀b o,H b\o->H' b\o
theorem aa.refl(H:Hp):aa H H:=λ_ _ h=>h
theorem aa.trans{H H1 H2:Hp}(a:aa H H1)(b:aa H1 H2):aa H H2:=λc o h=>b c o (a c o h)
theorem aa.free{H H':Hp}(e:aa H H'){l:Addr}(h:H' l=Option.none):H l=Option.none:=by
 cases q:H l with
 |none=>rfl
 |some o=>
  rw[e l o q] at h;cases h
section
variable{κ:Type}[DecidableEq κ]
theorem Zl{kvs:List (κ × V)}{k:κ}{v:V}(h:aZ kvs k\v):k∈kvs.map (·.1):=by
 have q:(kvs.any λkv=>decide (kv.1=k))=true:=by
  rw[BS,h]
  all_goals rfl
 let#[p,hp,e]:=List.any_eq_true.mp q;exact bw.mpr #[p,hp,ph e]
end
end L2
local macro_rules|`(%[$x,*|$_])=>do return (<-x.getElems.foldrM (λe (a:Lean.Term)=>if e.raw.isNatLit?.isSome then`(L2.iQ (L2.pv $e) $a)else`(L2.iQ $e $a)) (<-`(L2.bF)))
namespace L2
open PySem PySem.Spec PyProof.Rows
def i7(env:Env):List (Str × NameKind)->List (Str × Addr)->List (Str × Addr)
 |[],cs=>cs
 |(n,k)::r,cs=>i7 env r (if k == .free then (n,(env.cells.lookup n).getD 0)::cs else cs)
theorem OI{env:Env}(f:Str × NameKind->List (Str × Addr)->Sem (ForInStep (List (Str × Addr))))
  (hf:∀n k cs,f (n,k) cs=if (k == .free)=true then (do let a <- cellOf env n;pure (.yield ((n,a)::cs))) else pure (.yield cs)) :
  ∀(names:List (Str × NameKind)) (cs:List (Str × Addr)),(∀x∈names,x.2=.free->∃c,env.cells.lookup x.1\c)->forIn names cs f=(pure (i7 env names cs):Sem _)
 |[],cs,_=>by rw[uS];rfl
 |(n,k)::r,cs,h=>by
  rw[qb,hf];have hr:∀x∈r,x.2=.free->∃c,env.cells.lookup x.1\c:=λx hx=>h x (fN _ hx);unfold i7;by_cases hk:(k == NameKind.free)=true
  ·let#[c,hc]:=h (n,k) gB ⇑hk;have hc:env.cells.lookup n\c:=hc;rw[aJ hk,aJ hk];have e:cellOf env n=pure c:=by unfold cellOf;rw[hc]
   rw[e];simp only[pure_bind];rw[OI f hf r _ hr,hc];rfl
  rw[aB hk,aB hk];simp only[pure_bind];exact OI f hf r _ hr
theorem UZ{scope:Scope}{env:Env}(h:∀x∈scope.names,x.2=.free->∃c,env.cells.lookup x.1\c):closureFor scope env=pure (i7 env scope.names []):=by
 simp only[closureFor];rw[OI (env:=env) _ (λn k cs=>by by_cases hk:(k == NameKind.free)=true<;>simp[hk]) scope.names [] h]
 simp only[pure_bind]
theorem Ut{env:Env}:∀{names:List (Str × NameKind)} {cs:List (Str × Addr)} {x:Str} {c:Addr},(x,c)∈i7 env names cs->(x,c)∈cs∨((x,NameKind.free)∈names/\c=(env.cells.lookup x).getD 0)
 |[],cs,x,c,h=>.inl h
 |(n,k)::r,cs,x,c,h=>by
  unfold i7 at h;rcases Ut h with h|⟨h,e⟩
  ·by_cases hk:(k == NameKind.free)=true
   ·rw[aJ hk] at h;rcases bW.mp h with q|q
    ·cases q;have:k=.free:=⇑hk
     subst this;exact .inr #[gB,U]
    exact .inl q
   rw[aB hk] at h;exact .inl h
  exact .inr #[fN _ h,e]
theorem Ox{env:Env}:∀{names:List (Str × NameKind)} {cs:List (Str × Addr)} {x:Str},(x,NameKind.free)∈names∨(∃c,(x,c)∈cs)->∃c,(x,c)∈i7 env names cs
 |[],cs,x,h=>by
  rcases h with h|h
  ·cases h
  ·exact h
 |(n,k)::r,cs,x,h=>by
  unfold i7;apply Ox ?_;rcases h with h|⟨c,h⟩
  ·rcases bW.mp h with e|h
   ·cases e;exact .inr #[(env.cells.lookup n).getD 0,by rw[aJ (by decide)];exact gB]
   exact .inl h
  apply .inr #[c,?_];split
  ·exact fN _ h
  exact h
theorem OJ:∀(names:List (Str × NameKind)) (n:Nat) (acc cl:List (Str × Addr)),cellsFrom n names (acc++cl)=cellsFrom n names acc++cl
 |[],_,_,_=>rfl
 |(x,k)::r,n,acc,cl=>by
  unfold cellsFrom;split
  ·exact OJ r (n+1) ((x,n)::acc) cl
  exact OJ r n acc cl
theorem OL:∀{names:List (Str × NameKind)} {n:Nat} {acc:List (Str × Addr)} {x:Str} {c:Addr},(x,c)∈cellsFrom n names acc->(x,c)∈acc∨(x,NameKind.cell)∈names
 |[],_,_,_,_,h=>.inl h
 |(y,k)::r,n,acc,x,c,h=>by
  unfold cellsFrom at h;by_cases hk:(k == NameKind.cell)=true
  ·rw[aJ hk] at h;rcases OL h with h|h
   ·rcases bW.mp h with e|h
    ·cases e;have:k=.cell:=⇑hk
     subst this;exact .inr gB
    exact .inl h
   exact .inr (fN _ h)
  rw[aB hk] at h;rcases OL h with h|h
  ·exact .inl h
  exact .inr (fN _ h)
theorem OH{α:Type}:∀{l:List (Str × α)} {x:Str} {c:α},(x,c)∈l->∃c',l.lookup x\c'
 |(k,v)::r,x,c,h=>by
  rw[qc];cases hb:x == k with
  |true=>exact#[v,U]
  |false=>
   rcases bW.mp h with e|h
   ·cases e;simp at hb
   exact OH h
def jJ(scope:Scope)(C:Addr)(env:Env):Env:=
 { scope:=relabel scope env,locals:=C,globals:=env.globals,cells:=cellsFrom (C+1) scope.names (i7 env scope.names []),qual:=env.qual,func:=none,code:=env.code,frame:=env.frame,builtins:=env.builtins }
theorem UR{M:Model}{A:Ag}{E:Aa->Ab->Prop}{s:Ab}{scope:Scope}{cl:List (Str × Addr)}{env:Env}{Q:Env->Ab->Prop}
  (h:Q { scope:=scope,locals:=s.heap.objs.size,globals:=env.globals,cells:=cellsFrom (s.heap.objs.size+1) scope.names cl,qual:=env.qual,func:=none,code:=env.code,frame:=env.frame,builtins:=env.builtins }
   { s with heap:=pushCells (s.heap.push { cls:=.type "dict",data:=.dict #[] }) scope.names }) :
  wpAny M A (newFunctionEnv scope env.globals cl [] env.qual none .none (some env)) Q E s:=by
 simp only[newFunctionEnv,Option.isSome_some,if_true];apply af (wpAny_alloc ?_);apply af (wpAny_layCells _ (λname kind cells=>by cases hkc:kind == NameKind.cell<;>simp[hkc]) _ _ _ _ ?_)
 rw[show ({ s with heap:=s.heap.push { cls:=.type "dict",data:=.dict #[] } }:Ab).heap.objs.size=s.heap.objs.size+1 from mj ..];rw[uS];exact af (aC (aC h))
def IZ(PN:ae)(ps:Scope)(N:ae)(own:Nat)(fr:List Nat)(scope:Scope):Bool:=
 decide (scope.kind=.function)&&decide N.Nodup&&decide (own+fr.length=N.length)
 && (scope.names.all λy=>decide (scope.names.lookup y.1\y.2))
 && (scope.names.all λy=>if y.2=.free then decide (ps.names.lookup y.1\.cell) || decide (ps.names.lookup y.1\.free) else true)
 && ((fr.map λj=>PN[j]?) == (N.drop own).map some)
 && ((N.drop own).all λx=>decide (scope.names.lookup x\.free))
structure mV (PN:ae) (ps:Scope) (N:ae) (own:Nat) (fr:List Nat) (scope:Scope):Prop where
 kind:scope.kind=.function
 nd:N.Nodup
 len:own+fr.length=N.length
 look:∀y∈scope.names,scope.names.lookup y.1\y.2
 par:∀y∈scope.names,y.2=.free->ps.names.lookup y.1\.cell∨ps.names.lookup y.1\.free
 o_:(fr.map λj=>PN[j]?)=(N.drop own).map some
 frk:∀x∈N.drop own,scope.names.lookup x\.free
theorem mV.of{PN:ae}{ps:Scope}{N:ae}{own:Nat}{fr:List Nat}{scope:Scope}(h:IZ PN ps N own fr scope=true):mV PN ps N own fr scope:=by
 unfold IZ at h;simp only[Bool.and_eq_true,decide_eq_true_eq,List.all_eq_true,beq_iff_eq] at h;let#[#[#[#[#[#[h1,h2],h3],h4],h5],h6],h7]:=h;apply#[h1,h2,h3,h4,λy hy e=>?_,h6,h7];let q:=h5 y hy;rw[aJ e] at q;simpa using q
def AX(own:Nat)(fr:List Nat)(σ:St):St:=List.replicate own none++fr.map λj=>(σ[j]?).join
def ib(X:Cx)(N:ae)(scope:Scope)(fp:ao)(s:Ab)(H:Hp):Cx where
 prog:=X.prog
 w:=X.w
 K:=X.K
 mg:=X.mg
 base:=X.base
 A:=X.A
 N:=N
 dc:=s
 jZ:=H
 env:=jJ scope s.heap.objs.size X.env
 outer:=X.stack
 stack:=X.stack
 ex:=fp
 fn:=λx=>decide (scope.names.lookup x\.local) || decide (scope.names.lookup x\.cell)
 calm:=X.calm
 pn:=[]
 xe:=λ_ _=>False
theorem UC{ps:Scope}{env:Env}(he:env.scope=ps){x:Str}:∀{names:List (Str × NameKind)} {k:NameKind},names.lookup x\k->
  (names.map λ(n,k)=>if (k == NameKind.free&&env.scope.kind == .function&&env.kindOf n == some .cell) then (n,NameKind.cell) else (n,k)).lookup x =
   some (if (k == NameKind.free&&env.scope.kind == .function&&env.kindOf x == some .cell) then .cell else k)
 |(n,k')::r,k,h=>by
  rw[qc] at h;rw[eZ];cases hb:x == n with
  |true=>
   rw[hb] at h;cases h;have e:x=n:=⇑hb
   subst e;dsimp only;split<;>simp[qc]
  |false=>
   rw[hb] at h;let ih:=UC he (env:=env) h;dsimp only;split<;>(rw[qc,hb];exact ih)
theorem Ow{env:Env}{x:Str}:∀{names:List (Str × NameKind)} {k:NameKind},(names.map λ(n,k)=>if (k == NameKind.free&&env.scope.kind == .function&&env.kindOf n == some .cell) then (n,NameKind.cell) else (n,k)).lookup x\k->∃k',names.lookup x\k'/\(k'=k∨(k'=.free/\k=.cell))
 |(n,k')::r,k,h=>by
  rw[eZ] at h;rw[qc];dsimp only at h;cases hb:x == n with
  |true=>
   apply#[k',U,?_];by_cases hc:(k' == NameKind.free&&env.scope.kind == .function&&env.kindOf n == some .cell)=true
   ·rw[aJ hc,qc,hb] at h;cases h;simp only[Bool.and_eq_true,beq_iff_eq] at hc;exact .inr #[hc.1.1,U]
   ·rw[aB hc,qc,hb] at h;cases h;exact .inl U
  |false=>
   have h':(r.map λ(n,k)=>if (k == NameKind.free&&env.scope.kind == .function&&env.kindOf n == some .cell) then (n,NameKind.cell) else (n,k)).lookup x\k:=by
    split at h<;>(rw[qc,hb] at h;exact h)
   exact Ow h'
theorem du_{α:Type}{x:Str}{c:α}:∀{l r:List (Str × α)},(l++r).lookup x\c->(x,c)∈l∨(x,c)∈r:=λh=>dM.mp (p9 h)
section
variable{X:Cx}{pins:List (Addr × Obj)}{σ:St}{H:Hp}{s:Ab}{N:ae}{own:Nat}{fr:List Nat}{scope:Scope}{fp:ao}
theorem Ta(I:Inv X pins σ H s)(S:mV X.N X.env.scope N own fr scope){x:Str}{c:Addr}(h:(x,c)∈i7 X.env scope.names []):X.env.cells.lookup x\c/\(x,NameKind.free)∈scope.names:=by
 rcases Ut h with h|⟨h,e⟩
 ·cases h
 let#[c',hc]:=I.ok.has x (S.par _ h U);apply#[?_,h];rw[e,hc];rfl
theorem Inv.block(I:Inv X pins σ H s)(S:mV X.N X.env.scope N own fr scope)(G4:∀b∈fp,dk X pins H b)(hfo:∀b∈fp,∃o,s.heap.get? b\o) :
  Inv (ib X N scope fp s H) [] (AX own fr σ) H { s with heap:=pushCells (s.heap.push { cls:=.type "dict",data:=.dict #[] }) scope.names }:=by
 have kept:∀b o,s.heap.get? b\o->(pushCells (s.heap.push { cls:=.type "dict",data:=.dict #[] }) scope.names).get? b\o:=λb o e=>pushCells_keeps _ _ b o (aS _ e);let II:=cellsFrom_ok scope.names (s.heap.push { cls:=.type "dict",data:=.dict #[] }) (s.heap.objs.size+1) [] #[λ_ _ hm=>(nomatch hm),List.Pairwise.nil] (by rw[mj];exact bc _);rw[mj] at II;have ecs:cellsFrom (s.heap.objs.size+1) scope.names (i7 X.env scope.names [])=cellsFrom (s.heap.objs.size+1) scope.names []++i7 X.env scope.names []:=OJ _ _ [] _
 have g7:∀{x c},(cellsFrom (s.heap.objs.size+1) scope.names (i7 X.env scope.names [])).lookup x\c->((x,c)∈cellsFrom (s.heap.objs.size+1) scope.names []/\(x,NameKind.cell)∈scope.names/\s.heap.objs.size+1<=c)∨(X.env.cells.lookup x\c/\(x,NameKind.free)∈scope.names):=λ{x c} h=>by
  rw[ecs] at h;rcases du_ h with h|h
  ·apply .inl #[h,?_,(II.empty _ _ h).2];rcases OL h with q|q
   ·cases q
   exact q
  exact .inr (Ta I S h)
 have Dm:∀{x c},X.env.cells.lookup x\c->c<s.heap.objs.size:=λ{x c} h=>by
  let#[v,hv]:=I.cell x c h;exact hv.lt
 have hb:∀b∈fp,b<s.heap.objs.size:=λb hb=>let #[o,e]:=hfo b hb;bp e
 apply#[#[I.ok.mod,S.kind,I.ok.glob,I.ok.blt,bc _,λx y c h1 h2=>?_,λx hx=>?_,λx c hf h=>?_,I.ok.hd,I.ok.frames,.inl U,λb ur=>#[dC (hb b ur),λx c h=>?_],I.bs,?_,λb o e ur=>?_,λb ur hs=>?_,I.stack,I.nu],
  rfl,I.bare,Un.kept kept,#[_,(Heap.Ns.new s.heap (.type "dict")).keeps (pushCells_keeps _ _),λi x v h1 h2 h3=>?_],λx c h=>?_,I.ay.fresh (bc _),λx c h=>?_,λp hp=>absurd (show p∈([]:List (Addr × Obj)) from hp) Z2,I.ay.kept kept,?_]
 ·-- inj
  rcases g7 h1 with⟨m1,k1,l1⟩|⟨m1,k1⟩<;>rcases g7 h2 with⟨m2,k2,l2⟩|⟨m2,k2⟩
  ·exact name_of_addr II.apart m1 m2
  ·exact absurd (Dm m2) (Nat.not_lt.mpr (Nat.le_of_succ_le l1))
  ·exact absurd (Dm m1) (Nat.not_lt.mpr (Nat.le_of_succ_le l2))
  exact I.ok.inj x y c m1 m2
 ·-- has
  have key:(x,NameKind.cell)∈scope.names∨(x,NameKind.free)∈scope.names:=by
   rcases hx with hx|hx
   ·let#[k',e,q]:=Ow (env:=X.env) (show _\NameKind.cell from hx);let m:=p9 e;rcases q with q|⟨q,_⟩
    ·exact .inl (q▸m)
    exact .inr (q▸m)
   let#[k',e,q]:=Ow (env:=X.env) (show _\NameKind.free from hx);let m:=p9 e;rcases q with q|⟨_,q⟩
   ·exact .inr (q▸m)
   cases q
  show ∃c,(cellsFrom (s.heap.objs.size+1) scope.names (i7 X.env scope.names [])).lookup x\c
  have:((cellsFrom (s.heap.objs.size+1) scope.names (i7 X.env scope.names [])).lookup x).isSome=true:=by
   apply PySem.W.cellsFrom_some _ _ _ ?_;rcases key with q|q
   ·exact .inl (S.look _ q)
   let#[c,m]:=Ox (env:=X.env) (names:=scope.names) (cs:=[]) (x:=x) (.inl q);let#[c',e]:=OH m;exact .inr (by rw[e];rfl)
  exact Option.isSome_iff_exists.mp this
 ·-- BJ
  rcases g7 h with⟨_,_,l⟩|⟨_,k⟩
  ·exact Nat.le_of_succ_le l
  let e:=S.look _ k;have hf:(decide (scope.names.lookup x\.local) || decide (scope.names.lookup x\.cell))=true:=hf;rw[show scope.names.lookup x\.free from e] at hf;exact absurd hf (by decide)
 ·rcases g7 h with⟨_,_,l⟩|⟨q,_⟩
  ·exact i_ (ja (hb b ur) (Nat.le_of_succ_le l))
  exact (G4 b ur).2.2.2.2.1 x c q
 ·exact gm I.ok.tL I.sz
 ·rcases (G4 b ur).2.2.2.1 with q|q
  ·exact I.ok.rY b o e q
  exact absurd (ja (bp e) I.ok.tL) Z1
 ·rcases bW.mp (I.kQ b hs) with q|q
  ·exact (G4 b ur).2.1 q
  exact (G4 b ur).2.2.1 q
 ·-- names
  have hi:own<=i:=by
   apply Nat.le_of_not_lt λdW=>?_;unfold AX at h2;rw[wK (by rw[BZ];exact dW),List.getElem?_replicate,aJ dW] at h2;cases h2
  have hG:(fr.map λj=>(σ[j]?).join)[i - own]? = some (some v):=by
   unfold AX at h2;rw[yb (by rw[BZ];exact hi),BZ] at h2;exact h2
  have h1:N[i]? = some x:=h1;have hx:(N.drop own)[i - own]? = some x:=by rw[List.getElem?_drop,show own+(i - own)=i by omega];exact h1
  rw[dF] at hG;cases ej:fr[i - own]? with
  |none=>rw[ej] at hG;cases hG
  |some j=>
   rw[ej] at hG;have hG:(σ[j]?).join\v:=cu hG
   have sH:σ[j]? = some (some v):=by
    cases q:σ[j]? with
    |none=>rw[q] at hG;cases hG
    |some o=>rw[q] at hG;exact eG some hG
   have hN:X.N[j]? = some x:=by
    let q:=eG (λl=>l[i - own]?) S.o_;simp only[dF,ej,hx,Option.map_some] at q;exact cu q
   let kf:=S.frk x (cz hx);let mf:=p9 kf;let#[m,hm,hv]:=I.loc;let pk:=S.par _ mf U;let#[u,ru,lk]:=hv j x v hN sH (pk.elim (λq=>.inr (.inl q)) λq=>.inr (.inr q));apply#[u,ru,?_];have P9:X.env.kindOf x\.cell∨X.env.kindOf x\.free:=pk;rcases lk with⟨k,_⟩|⟨_,c,hc,oi⟩
   ·rw[k] at P9;rcases P9 with q|q<;>cases q
   let#[c',m1]:=Ox (env:=X.env) (names:=scope.names) (cs:=[]) (x:=x) (.inl mf);let e1:=(Ta I S m1).1;rw[hc] at e1;cases e1;apply .inr #[?_,c,?_,oi.keeps kept]
   ·let q:=UC (env:=X.env) U kf;show (relabel scope X.env).names.lookup x\.cell∨(relabel scope X.env).names.lookup x\.free;unfold relabel;rw[q];split
    ·exact .inl U
    exact .inr U
   let#[c2,e2]:=Option.isSome_iff_exists.mp (PySem.W.cellsFrom_some (x:=x) scope.names (s.heap.objs.size+1) (i7 X.env scope.names []) (.inr (by let#[c',e]:=OH m1;rw[e];rfl)));show (cellsFrom (s.heap.objs.size+1) scope.names (i7 X.env scope.names [])).lookup x\c;rcases g7 e2 with⟨_,q,_⟩|⟨q,_⟩
   ·have:=S.look _ q;rw[show scope.names.lookup x\.free from kf] at this;cases this
   rw[hc] at q;cases q;exact e2
 ·-- cells
  rcases g7 h with⟨q,_,_⟩|⟨q,_⟩
  ·exact#[_,(II.empty _ _ q).1]
  let#[v,hv]:=I.cell x c q;exact#[v,hv.keeps kept]
 ·rcases g7 h with⟨q,_,l⟩|⟨q,_⟩
  ·exact I.ay.fresh Z1
  exact I.eg x c q
 show (AX own fr σ).length=N.length;unfold AX;rw[eM,BZ,au];exact S.len
end
def FX(X:Cx)(ifs:List Expr)(t:TT):Prop:=
 ∀(pins:List (Addr × Obj)) (s:Ab) (σ:St) (H:Hp) (Q:Bool->Hp->Prop),Inv X pins σ H s->t σ H Q->
  wpAny (model X.prog X.w) X.A (forIn ifs true λc r=>if r=true then do let ok <- isTrue c X.env (eval c X.env);pure (ForInStep.yield ok) else pure (ForInStep.yield r)) (TP X pins σ Q) X.xe s
def qk:TT:=λ_ H Q=>Q true H
theorem fV{σ:St}{H:Hp}{A B:Hp->Prop}(h:A H):qk σ H λb H4=>if b=true then A H4 else B H4:=by
 unfold qk;exact dD h
theorem mI{X:Cx}:FX X [] qk:=λ_ _ _ H _ I h=>wpAny_tests_nil #[H,I,h]
theorem H_{X:Cx}{c:Expr}{t:TT}(h:PT X c t):FX X [c] t:=λpins s σ H Q I q=>wpAny_tests_one (h pins s σ H Q I q)
def BC(J:It)(g:TG)(tc:TT)(te:TE)(oK:St)(D:Addr)(H1:Hp)(Q:VK):Prop:=∃W:Nat->Nat->St->Hp->Prop,
 (∃m,W 0 m oK (upd H1 D (.lst [])))/\∀i m aV H',W i m aV H'->(J.stop i H'/\Q (.ref D) H') ∨
  (J.go i H'/\∃Nx:St->Hp->Prop,(∀gn H2,Nx gn H2->∃m',m'<m/\W (i+1) m' gn H2) /\
   ∀x H2,J.uU i H' x H2->g x aV H2 λka H3=>tc ka H3 λb H4=>if b=true then te ka H4 λy H5=>∃out,H5 D\.lst out/\out.length<sizeLine/\Nx ka (upd H5 D (.lst (out++[y]))) else Nx ka H4)
def w6(wi:TI)(own:Nat)(fr:List Nat)(g:TG)(tc:TT)(te:TE):TE:=λσ H Q=>wi σ H λJ H1=>∀D,H1 D=none->BC J g tc te (AX own fr σ) D H1 Q
section
variable{X:Cx}{tg iter elt:Expr}{ifs:List Expr}{scope:Scope}{pos:Pos}{wi:TI}{g:TG}{tc:TT}{te:TE}{N:ae}
theorem SA{R:Result->Ab->Prop}{own:Nat}{fr:List Nat}{pins:List (Addr × Obj)}{σ:St}{H1:Hp}{s2:Ab}{it:Addr}{fp:ao}{tn:Nat->Heap->Prop}{J:It}{D:Addr}{Q:VK}
  (S:mV X.N X.env.scope N own fr scope) (hc:X.calm=true) (hg:∀fp s H,PG (ib X N scope fp s H) tg g) (ht:∀fp s H,FX (ib X N scope fp s H) ifs tc) (he:∀fp s H,PE (ib X N scope fp s H) elt te)
  (I3:Inv X pins σ (upd H1 D (.lst [])) s2) (T:Turn X.prog X.w X.K tg J fp it tn) (st:tn 0 s2.heap) (f2:∀b∈fp,dk X pins (upd H1 D (.lst [])) b)
  (k:BC J g tc te (AX own fr σ) D H1 Q)
  (hR:∀H' s',Inv X pins σ H' s'->(∃m,s'.heap.Ns s2.heap.objs.size m)->H' s2.heap.objs.size=none->Q (.ref D) H'->R (.ok .next) s') :
  codeAny (model X.prog X.w) X.A (.compStart (.ListComp elt [#[tg,iter,ifs,0]] scope pos) 0 (.ref it) (.ref D) (jJ scope s2.heap.objs.size X.env)) R
   { s2 with heap:=pushCells (s2.heap.push { cls:=.type "dict",data:=.dict #[] }) scope.names }:=by
 let#[W,#[m0,w0],turn]:=k;let I4:=I3.block (N:=N) S f2 (λb hb=>let #[o,e,_]:=T.obj _ _ st b hb;#[o,e]);have kept:∀b o,s2.heap.get? b\o->(pushCells (s2.heap.push { cls:=.type "dict",data:=.dict #[] }) scope.names).get? b\o:=λb o e=>pushCells_keeps _ _ b o (aS _ e);have iP:tn 0 (pushCells (s2.heap.push { cls:=.type "dict",data:=.dict #[] }) scope.names):=T.keep _ _ _ st λb hb o e=>kept b o e
 have fx:∀{H':Hp},(∀b∈fp,H' b=none)->∀b∈fp,dk (ib X N scope fp s2 (upd H1 D (.lst []))) [] H' b:=λhn b hb=>
  #[hn b hb,(I4.ok.Hn b hb).1,I4.ok.sU b hb,.inl hb,(I4.ok.Hn b hb).2,λp hp=>absurd (show p∈([]:List (Addr × Obj)) from hp) Z2]
 have loop:codeAny (model X.prog X.w) X.A (.compLoop (.ListComp elt [#[tg,iter,ifs,0]] scope pos) 0 (.ref it) (.ref D) (jJ scope s2.heap.objs.size X.env)) R
   { s2 with heap:=pushCells (s2.heap.push { cls:=.type "dict",data:=.dict #[] }) scope.names }:=by
  apply codeAny_loop U (λn s'=>∃i aV H',Inv (ib X N scope fp s2 (upd H1 D (.lst []))) [] aV H' s'/\tn i s'.heap/\(∀b∈fp,H' b=none)/\W i n aV H') (λn s' hI=>?_) m0 #[0,_,_,I4,iP,λb hb=>(f2 b hb).1,w0];let#[i,aV,H',I5,iO,pb,w5]:=hI;show wpAny _ X.A ((compTurn (.ListComp elt [#[tg,iter,ifs,0]] scope pos) 0 (.ref it) (.ref D) (jJ scope s2.heap.objs.size X.env)).onRaise (λx=>do noteFrame x (jJ scope s2.heap.objs.size X.env);theTreesLotGoes x)) _ _ s';apply wpAny_noted (wpAny_mono (E:=λ_ _=>False) ?_ (λ_ _ q=>q) λ_ _ q=>q.elim);rw[compTurn_list];apply af (wpAny_standAt (af ?_));rcases turn i n aV H' w5 with⟨stop,q⟩|⟨go,Nx,hN,step⟩
  ·apply aQ (T.done (ib X N scope fp s2 (upd H1 D (.lst []))) U U U hc i [] s' aV H' _ I5 (fx pb) iO stop) λr s6 ⟨hr,I6⟩=>?_;subst hr;apply aC (hR H' s6 (I3.Fs I6.os I6.base I6.ay I6.bare λb hb=>?_) ?_ I6.free q)
   ·exact#[(f2 b hb).2.2.2.1,(f2 b hb).2.1,(f2 b hb).2.2.2.2.1,(f2 b hb).2.2.2.2.2]
   let#[m,hm,_]:=I6.loc;exact#[m,hm]
  apply aQ (T.item (ib X N scope fp s2 (upd H1 D (.lst []))) U U U hc i [] s' aV H' _ I5 (fx pb) iO go) λr s6 ⟨u,hr,h6⟩=>?_;subst hr;apply af (aQ h6 λ_ s7 ⟨x,H7,I7,r7,y7,kR,E6⟩=>?_);let I7':=I7.pinned (fx E6) (T.obj _ _ kR)
  have back:∀{ua:St} {H8:Hp} {s8:Ab},Inv (ib X N scope fp s2 (upd H1 D (.lst []))) ([]++wI fp s7.heap) ua H8 s8->Nx ua H8->∃m,m<n/\∃i aV H',Inv (ib X N scope fp s2 (upd H1 D (.lst []))) [] aV H' s8/\tn i s8.heap/\(∀b∈fp,H' b=none)/\W i m aV H':=λ{ua H8 s8} I8 n8=>by
   let#[m',hm,w8]:=hN ua H8 n8;apply#[m',hm,i+1,ua,H8,I8.eR,T.keep _ _ _ kR λb hb o e=>(I8.pin (b,o) (mP _ (mP _ (Jk hb e)))).1,λb hb=>?_,w8];let#[o,e,d]:=T.obj _ _ kR b hb;exact (I8.pin (b,o) (mP _ (mP _ (Jk hb e)))).2.1
  apply af (aQ (hg fp s2 (upd H1 D (.lst [])) _ s7 aV H7 x u _ I7' r7 (step x H7 y7)) λ_ s8 ⟨ua,H8,I8,q8⟩=>?_);apply af (aQ (ht fp s2 (upd H1 D (.lst [])) _ s8 ua H8 _ I8 q8) λb s9 ⟨H9,I9,q9⟩=>?_);cases b with
  |false=>
   simp only[qd,if_false] at q9 ⊢;exact aC #[U,back I9 q9]
  |true=>
   simp only[if_true] at q9 ⊢;apply af (af (aQ (he fp s2 (upd H1 D (.lst [])) _ s9 ua H9 _ I9 q9) λy C8 ⟨yv,H10,I10,WS,out,hD,hz,Kj⟩=>?_));apply af (aQ (tR (X:=ib X N scope fp s2 (upd H1 D (.lst []))) _ C8 ua H10 (.ref D) [yv] (.ref D) [y] (λ_ H'=>Nx ua H') I10 U (.cons WS .nil) #[D,out,yv,U,U,hD,hz,Kj]) λ_ s11 ⟨_,Ph,I11,_,Ki⟩=>?_);exact aC (aC #[U,back I11 Ki])
 exact codeAny_compStart_list loop (T.self _ 0 _ _ _ iP loop)
theorem kD(N:ae)(own:Nat)(fr:List Nat)(hi:PI X tg iter wi)(hg:∀fp s H,PG (ib X N scope fp s H) tg g)(ht:∀fp s H,FX (ib X N scope fp s H) ifs tc)(he:∀fp s H,PE (ib X N scope fp s H) elt te)
  (S:IZ X.N X.env.scope N own fr scope=true:=by kernel_rfl) (hc:X.calm=true:=by rfl) (hs:∀x,foldedSetIterable iter X.env x=pure x:=by intro _;rfl) :
  PE X (.ListComp elt [#[tg,iter,ifs,0]] scope pos) (w6 wi own fr g tc te):=by
 intro pins s σ H Q I h;let S':=mV.of S;rw[eval_ListComp];have sQ:closureFor scope X.env=pure (i7 X.env scope.names []):=UZ λx hx e=>I.ok.has x.1 (S'.par x hx e);apply wpAny_comprehension_free (use:=none) U hs sQ S'.kind (λx hx e=>by rw[S'.look x hx,e]) (aQ (hi pins s σ H _ I h) λv s1 h1=>aQ h1 λGO s2 h2=>?_);let#[it,fp,tn,J,H1,rfl,I2,T,gq,f2,k]:=h2;apply p0 (UR ?_);have hD:H1 s2.heap.objs.size=none:=I2.fresh;let I3:=I2.zj (ys:=[]) (its:=[]) (t':=s2.toks) .nil (gE _);have kept:∀b o,s2.heap.get? b\o->(s2.heap.push { cls:=.type "list",data:=.seq ([]:ag).toArray }).get? b\o:=λb o e=>aS _ e;apply SA (own:=own) (fr:=fr) (Q:=Q) S' hc hg ht he I3 T (T.keep _ _ _ gq λb hb o e=>kept b o e) (λb hb=>?_) (k _ hD) ?_
 ·apply#[?_,(f2 b hb).2];let#[o,e,_]:=T.obj _ _ gq b hb;rw[ax (dC (bp e))];exact (f2 b hb).1
 rintro H' s' I' ⟨m,hm⟩ hn q;apply#[m,hm,λh' hs'=>#[.ref s2.heap.objs.size,H',?_,U,q]]
 exact I'.turned (t':=s'.toks) (λb o hb e=>hs'.extBut b o hb e) hn (i_ I3.lt) (.inr I3.sz) (λx c LM e=>by
  let#[v,hv]:=I3.cell x c LM
  exact absurd hv.lt (by rw[e];exact tT _)) λp hp e=>by
   have:=(I3.pin p hp).1;rw[e] at this;exact absurd (bp this) (tT _)
def CH(i:Nat)(te:TE):TS:=λD σ H=>te σ H λx H1=>D.nx (σ.set i (some x)) H1
theorem MM{i:Nat}{x:Str}{px:Pos}(N:ae)(own:Nat)(fr:List Nat)(hN:X.N.Nodup)(G2:X.N[i]? = some x)(hx:Loc X.env.scope x)
  (hi:PI X tg iter wi) (hg:∀fp s H,PG (ib X N scope fp s H) tg g) (ht:∀fp s H,FX (ib X N scope fp s H) ifs tc) (he:∀fp s H,PE (ib X N scope fp s H) elt te) {pos':Pos}
  (S:IZ X.N X.env.scope N own fr scope=true:=by kernel_rfl) (hc:X.calm=true:=by rfl) (hs:∀x,foldedSetIterable iter X.env x=pure x:=by intro _;rfl)
  (hf:X.fn x=true∨X.env.scope.names.lookup x\.local:=by first|exact .inl U|exact .inr U|assumption)
  (hsw:swapsWith (.ListComp elt [#[tg,iter,ifs,0]] scope pos) (some (.Name x px)) pos'.line X.env=pure true:=by rfl) :
  PS X (.Assign [.Name x px] (.ListComp elt [#[tg,iter,ifs,0]] scope pos) pos') (CH i (w6 wi own fr g tc te)):=by
 intro pins s σ H E I h;let S':=mV.of S;rw[exec_Assign_Name_used _ _ _ _ hsw];apply af (wpAny_standAt (af ?_));show wpAny _ X.A (do let _ <- comprehension (.ListComp elt [#[tg,iter,ifs,0]] scope pos) scope X.env _ (newList []) false (eval iter X.env) (some (assign (.Name x px) X.env))) _ _ s;have sQ:closureFor scope X.env=pure (i7 X.env scope.names []):=UZ λx hx e=>I.ok.has x.1 (S'.par x hx e)
 apply af (wpAny_mono (wpAny_comprehension_free (use:=some (assign (.Name x px) X.env)) (Q:=λ_ s'=>SP X pins E .next s') U hs sQ S'.kind (λx hx e=>by rw[S'.look x hx,e]) (aQ (hi pins s σ H _ I h) λv s1 h1=>aQ h1 λGO s2 h2=>?_))
  (λ_ s' hq=>aC (aC hq)) λ_ _ e=>e)
 let#[it,fp,tn,J,H1,rfl,I2,T,gq,f2,k]:=h2;apply p0 (UR ?_);have hD:H1 s2.heap.objs.size=none:=I2.fresh;let I3:=I2.zj (ys:=[]) (its:=[]) (t':=s2.toks) .nil (gE _);have kept:∀b o,s2.heap.get? b\o->(s2.heap.push { cls:=.type "list",data:=.seq ([]:ag).toArray }).get? b\o:=λb o e=>aS _ e;apply SA (own:=own) (fr:=fr) (Q:=λx H1=>E.nx (σ.set i (some x)) H1) S' hc hg ht he I3 T (T.keep _ _ _ gq λb hb o e=>kept b o e) (λb hb=>?_) (k _ hD) ?_
 ·apply#[?_,(f2 b hb).2];let#[o,e,_]:=T.obj _ _ gq b hb;rw[ax (dC (bp e))];exact (f2 b hb).1
 rintro H' s' I' ⟨m,hm⟩ hn q
 have uB:∀y c,X.env.cells.lookup y\c->c≠(s2.heap.push { cls:=.type "list",data:=.seq ([]:ag).toArray }).objs.size:=λy c LM e=>by
  let#[v,hv]:=I3.cell y c LM;exact absurd hv.lt (by rw[e];exact tT _)
 show wpAny _ X.A (assign (.Name x px) X.env (.ref s2.heap.objs.size)) _ _ s';apply wpAny_assign_Name (Ug (v:=V.ref s2.heap.objs.size) I' hN G2 hx U (λpM I'' ⟨a,vK,ha⟩=>?_) hf)
 have hCa:(s2.heap.push { cls:=.type "list",data:=.seq ([]:ag).toArray }).objs.size≠a:=by
  rcases ha with e|e
  ·rw[e];exact i_ I3.lt
  exact (uB x a e).symm
 apply#[m,hm.sameBut vK hCa,λh' hs'=>#[_,H',?_,q]]
 exact I''.turned (t':=pM.toks) (λb o hb e=>hs'.extBut b o hb e) hn (i_ I3.lt) (.inr I3.sz) uB λp hp e=>by
   have:=(I3.pin p hp).1;rw[e] at this;exact absurd (bp this) (tT _)
end
def F4(g:TG)(own:Nat)(fv:List aE)(dec:V->Hp->List aE->Prop):Prop:=
 ∀(x:V) (o:List aE) (H:Hp) (k:mU) (o3:List aE),o.length=own->dec x H o3->k (o3++fv) H->g x (o++fv) H k
theorem fY{fv:List aE}:F4 (ku 0) 1 fv (λx _ o3=>o3=[some x]):=λx o H k o3 hl e h=>by
 subst e
 match o,hl with
 |[a],_=>exact h
inductive Fm (K:aj) (x:V) (H:Hp) (o3:List aE):Prop
 |mk:∀p u v,x=.ref p->fH K H p [u,v]->o3=[some u,some v]->Fm K x H o3
inductive Fl (K:aj) (x:V) (H:Hp) (o3:List aE):Prop
 |mk:∀p u v w,x=.ref p->fH K H p [u,v,w]->o3=[some u,some v,some w]->Fl K x H o3
theorem Ah{K:aj}{fv:List aE}:F4 (gO K 2 (pV (ku 0) (pV (ku 1) sT))) 2 fv (Fm K):=λx o H k o3 hl e h=>by
 let#[p,u,v,rfl,hp,rfl]:=e
 match o,hl with
 |[a,b],_=>exact#[p,[u,v],U,hp,U,u,[v],U,v,[],U,U,h]
theorem L_{K:aj}{fv:List aE}:F4 (gO K 3 (pV (ku 0) (pV (ku 1) (pV (ku 2) sT)))) 3 fv (Fl K):=λx o H k o3 hl e h=>by
 let#[p,u,v,w,rfl,hp,rfl]:=e
 match o,hl with
 |[a,b,c],_=>exact#[p,[u,v,w],U,hp,U,u,[v,w],U,v,[w],U,w,[],U,U,h]
theorem Mu{J:It}{g:TG}{tc:TT}{te:TE}{own:Nat}{fv:List aE}{dec:V->Hp->List aE->Prop}{D:Addr}{H:Hp}{Q:VK}{oK:St}(sH:oK=List.replicate own none++fv)(G:F4 g own fv dec)(n:Nat)(Pv:Nat->ai->Hp->Prop)
  (h0:Pv 0 [] (upd H D (.lst []))) (Ef:∀out H',Pv n out H'->J.stop n H'/\Q (.ref D) H')
  (Lv:∀i out H',i<n->Pv i out H'->J.go i H'/\∀x H2,J.uU i H' x H2->∃o3,dec x H2 o3/\o3.length=own/\∀Nx:Hp->Prop,(∀rT H2,Pv (i+1) rT H2->Nx H2)->
   tc (o3++fv) H2 λb H4=>if b=true then te (o3++fv) H4 λy H5=>∃iR,H5 D\.lst iR/\iR.length<sizeLine/\Nx (upd H5 D (.lst (iR++[y]))) else Nx H4) :
  BC J g tc te oK D H Q:=by
 subst sH;apply#[λi m aV H'=>m=n - i/\i<=n/\(∃o:List aE,aV=o++fv/\o.length=own)/\∃out,Pv i out H',#[n,by simp,gE _,#[_,U,BZ],_,h0],?_];rintro i m aV H' ⟨rfl,hi,⟨o,rfl,ho⟩,out,p⟩;by_cases dW:i<n
 ·let#[go,k]:=Lv i out H' dW p;apply .inr #[go,λgn H2=>(∃o:List aE,gn=o++fv/\o.length=own)/\∃out,Pv (i+1) out H2,λgn H2 q=>#[n - (i+1),by omega,U,dW,q],λx H2 y=>?_];let#[o3,d,l3,q]:=k x H2 y;exact G x o H2 _ o3 ho d (q (λH2=>(∃o:List aE,o3++fv=o++fv/\o.length=own)/\∃out,Pv (i+1) out H2) λrT H2 z=>#[#[o3,U,l3],rT,z])
 have e:i=n:=by omega
 subst e;exact .inl (Ef out H' p)
theorem kI{K:aj}{a:Addr}{xs:ai}{g:TG}{tc:TT}{te:TE}{own:Nat}{fv:List aE}{dec:V->Hp->List aE->Prop}{D:Addr}{H:Hp}{Q:VK}{oK:St}(sH:oK=List.replicate own none++fv)(G:F4 g own fv dec)(Pv:Nat->ai->Hp->Prop)
  (h0:Pv 0 [] (upd H D (.lst []))) (hl:∀i out H',i<=xs.length->Pv i out H'->dZ K H' a xs) (hd:∀out H',Pv xs.length out H'->Q (.ref D) H')
  (Lv:∀i x out H',xs[i]? = some x->Pv i out H'->∃o3,dec x H' o3/\o3.length=own/\∀Nx:Hp->Prop,(∀rT H2,Pv (i+1) rT H2->Nx H2)->
   tc (o3++fv) H' λb H4=>if b=true then te (o3++fv) H4 λy H5=>∃iR,H5 D\.lst iR/\iR.length<sizeLine/\Nx (upd H5 D (.lst (iR++[y]))) else Nx H4) :
  BC (yi K a) g tc te oK D H Q:=by
 apply Mu sH G xs.length Pv h0 (λout H' p=>#[#[xs,hl _ _ _ (bc _) p,bc _],hd out H' p]) λi out H' hi p=>?_;let q:=hl i out H' (Nat.le_of_lt hi) p;apply#[#[xs,xs[i],q,by simp[hi]],λx H2 y=>?_];let#[e,y]:=y;subst e;exact Lv i x out _ (y xs q) p
end L2
namespace kJ
open PySem PySem.W PyProof.Rows
def Ok{α:Type}(f:Nat->Nat->Bool)(n:Nat):KasT α->(α->Prop)->Prop
 |.ret a,Q=>Q a
 |.ask i j k,Q=>i<n/\j<n/\Ok f n (k (f i j)) Q
theorem Ok.bind{α β:Type}{f:Nat->Nat->Bool}{n:Nat}{g:α->KasT β}{Q:β->Prop}:∀{t:KasT α} {R:α->Prop},Ok f n t R->(∀a,R a->Ok f n (g a) Q)->Ok f n (t.bind g) Q
 |.ret a,R,h,k=>k a h
 |.ask i j t,R,h,k=>#[h.1,h.2.1,Ok.bind h.2.2 k]
theorem Ok.imp{α:Type}{f:Nat->Nat->Bool}{n:Nat}{Q R:α->Prop}(k:∀a,Q a->R a):∀{t:KasT α},Ok f n t Q->Ok f n t R
 |.ret a,h=>k a h
 |.ask i j t,h=>#[h.1,h.2.1,Ok.imp k h.2.2]
theorem Ok.wp{α:Type}{f:Nat->Nat->Bool}{n:Nat}{cmp:Nat->Nat->(Bool->Ab->Prop)->Ab->Prop}{s:Ab}(hc:∀i j C,i<n->j<n->C (f i j) s->cmp i j C s){Q:α->Prop}{G:α->Ab->Prop}(k:∀a,Q a->G a s) :
  ∀{t:KasT α},Ok f n t Q->t.kasWp cmp G s
 |.ret a,h=>k a h
 |.ask i j t,h=>hc i j _ h.1 h.2.1 (Ok.wp hc k h.2.2)
structure Ord (f:Nat->Nat->Bool):Prop where
 fJ:∀i,f i i=false
 trans:∀{i j k},f j i=false->f k j=false->f k i=false
 Gc:∀{i j},f i j=true->f j i=false
section
variable{f:Nat->Nat->Bool}(O:Ord f){N:Nat}
abbrev at'(p:Array Nat)(i:Nat):Nat:=p.getD i 0
def Up(f:Nat->Nat->Bool)(p:Array Nat)(k:Nat):Prop:=∀i j,i<=j->j<k->f (at' p j) (at' p i)=false
def Down(f:Nat->Nat->Bool)(p:Array Nat)(k:Nat):Prop:=∀i j,i<=j->j<k->f (at' p i) (at' p j)=false
def pG(f:Nat->Nat->Bool)(p:Array Nat)(lo k:Nat):Prop:=∀i,lo<=i->i<k->f (at' p i) (at' p (k - 1))=false/\f (at' p (k - 1)) (at' p i)=false
def Good(N:Nat)(p:Array Nat):Prop:=p.Perm (List.range N).toArray
theorem Good.size{p:Array Nat}(h:Good N p):p.size=N:=by
 have:=h.size_eq;simpa using this
theorem Good.lt{p:Array Nat}(h:Good N p)(hN:0<N)(i:Nat):at' p i<N:=by
 unfold at';by_cases hi:i<p.size
 ·have e:p.getD i 0=p[i]:=by simp[Array.getD,hi]
  rw[e];have m:p[i]∈(List.range N).toArray:=h.mem_iff.mp (Array.getElem_mem hi);simpa using m
 have e:p.getD i 0=0:=by simp[Array.getD,hi]
 rw[e];exact hN
theorem Good.rev{p:Array Nat}(h:Good N p)(i j:Nat):Good N (kas_rev p i j):=(mirror_perm _ _ _ _).trans h
theorem Good.bub{p:Array Nat}(h:Good N p)(i j:Nat):Good N (bubble p i j):=(bubble_perm _ _ _).trans h
theorem Fy{p q:Array Nat}{i j:Nat}(h:p[i]? = q[j]?):at' p i=at' q j:=by
 unfold at';rw[Array.getD_eq_getD_getElem?,Array.getD_eq_getD_getElem?,h]
theorem Az{p:Array Nat}{i j:Nat}(hj:j<=p.size)(k:Nat):at' (kas_rev p i j) k=if i<=k/\k<j then at' p (i+j - 1 - k) else at' p k:=by
 let e:=getElem?_mirror_all (i:=i) hj k;unfold kas_rev;split
 ·rename_i c
  rw[aJ c] at e;exact Fy e
 rename_i c
 rw[aB c] at e;exact Fy e
theorem Q0{p:Array Nat}{k l:Nat}(hk:k<p.size)(hl:l<=k)(i:Nat):at' (bubble p k (k - l)) i=if i=l then at' p k else if l<i/\i<=k then at' p (i - 1) else at' p i:=by
 let e:=getElem?_bubble hk (k - l) Z1 i;rw[show k - (k - l)=l by omega] at e;by_cases c:i=l
 ·rw[aJ c] at e ⊢;exact Fy e
 rw[aB c] at e ⊢;split
 ·rename_i d
  rw[aJ d] at e;exact Fy e
 rename_i d
 rw[aB d] at e;exact Fy e
include O
theorem Up.more{p:Array Nat}{n:Nat}(h:Up f p n)(h1:1<=n)(c:f (at' p n) (at' p (n - 1))=false):Up f p (n+1):=λi j oh hj=>by
 by_cases e:j<n
 ·exact h i j oh e
 have e:j=n:=by omega
 subst e;by_cases e2:i=j
 ·subst e2;exact O.fJ _
 exact O.trans (h i (j - 1) Z1 Z1) c
theorem Down.more{p:Array Nat}{n:Nat}(h:Down f p n)(h1:1<=n)(c:f (at' p (n - 1)) (at' p n)=false):Down f p (n+1):=λi j oh hj=>by
 by_cases e:j<n
 ·exact h i j oh e
 have e:j=n:=by omega
 subst e;by_cases e2:i=j
 ·subst e2;exact O.fJ _
 exact O.trans c (h i (j - 1) Z1 Z1)
theorem LJ{p:Array Nat}(g:Good N p)(hN:0<N):∀(m n:Nat),1<=n->Up f p n->Ok f N (kas_asc p m n) λr=>n<=r/\r<=n+m/\Up f p r/\(r<n+m->f (at' p r) (at' p (r - 1))=true)
 |0,n,_,h=>#[bc _,bc _,h,λq=>absurd q Z1]
 |m+1,n,h1,h=>by
  apply#[g.lt hN _,g.lt hN _,?_];dsimp only;by_cases c:f (at' p n) (at' p (n - 1))=true
  ·rw[aJ c];exact#[bc _,by omega,h,λ_=>c]
  rw[aB c];apply (LJ g hN m (n+1) Z1 (h.more O h1 ⇑c)).imp λr ⟨a,b,u,z⟩=>#[by omega,by omega,u,λq=>z Z1]
theorem pG.rev{p:Array Nat}{lo k:Nat}(h:pG f p lo k)(hk:k<=p.size)(i:Nat):f (at' (kas_rev p lo k) i) (at' p i)=false/\f (at' p i) (at' (kas_rev p lo k) i)=false:=by
 rw[Az hk];split
 ·rename_i c
  let#[a1,a2]:=h i c.1 c.2;let#[b1,b2]:=h (lo+k - 1 - i) Z1 Z1;exact#[O.trans a2 b1,O.trans b2 a1]
 exact#[O.fJ _,O.fJ _]
theorem Down.rev{p:Array Nat}{lo k n:Nat}(h:Down f p n)(l:pG f p lo k)(hk:k<=p.size):Down f (kas_rev p lo k) n:=λi j oh hj=>by
 let#[a1,_]:=l.rev O hk i;let#[_,b2]:=l.rev O hk j;exact O.trans (O.trans b2 (h i j oh hj)) a1
theorem Ib(hN:0<N):∀(m:Nat) (p:Array Nat) (n q:Nat),Good N p->1<=n->q+1<=n->n+m<=N->Down f p n->pG f p (n - (q+1)) n->
  Ok f N (kas_desc m p n q) λr=>Good N r.1/\n<=r.2.1/\r.2.1<=n+m/\Down f r.1 r.2.1/\r.2.2+1<=r.2.1/\pG f r.1 (r.2.1 - (r.2.2+1)) r.2.1
 |0,p,n,q,g,h1,hq,hn,d,l=>#[g,bc _,bc _,d,hq,l]
 |m+1,p,n,q,g,h1,hq,hn,d,l=>by
  apply#[g.lt hN _,g.lt hN _,?_];dsimp only;by_cases c:f (at' p n) (at' p (n - 1))=true
  ·rw[aJ c];have d2:Down f p (n+1):=d.more O h1 (O.Gc c)
   have one:∀p':Array Nat,pG f p' (n+1 - (0+1)) (n+1):=λp' i h2 h3=>by
    have e:i=n+1 - 1:=by omega
    subst e;exact#[O.fJ _,O.fJ _]
   by_cases Rl:q > 0
   ·rw[aJ Rl];have hk:n<=p.size:=by rw[g.size];omega
    exact (Ib hN m _ (n+1) 0 (g.rev _ _) Z1 Z1 Z1 (d2.rev O l hk) (one _)).imp λr ⟨a,b,b2,z⟩=>#[a,by omega,by omega,z]
   rw[aB Rl];exact (Ib hN m _ (n+1) 0 g Z1 Z1 Z1 d2 (one _)).imp λr ⟨a,b,b2,z⟩=>#[a,by omega,by omega,z]
  rw[aB c];apply#[g.lt hN _,g.lt hN _,?_];dsimp only;have c:f (at' p n) (at' p (n - 1))=false:=⇑c
  by_cases e:f (at' p (n - 1)) (at' p n)=true
  ·rw[aJ e];exact#[g,bc _,by show n<=n+(m+1);omega,d,hq,l]
  rw[aB e];have e:f (at' p (n - 1)) (at' p n)=false:=⇑e
  apply (Ib hN m p (n+1) (q+1) g Z1 Z1 Z1 (d.more O h1 e) λi h2 h3=>?_).imp λr ⟨a,b,b2,z⟩=>#[a,by omega,by omega,z];show f (at' p i) (at' p n)=false/\f (at' p n) (at' p i)=false;by_cases ei:i=n
  ·subst ei;exact#[O.fJ _,O.fJ _]
  let#[a1,a2]:=l i Z1 Z1;exact#[O.trans e a1,O.trans a2 c]
def Nq(f:Nat->Nat->Bool)(N df:Nat)(r:Nat × Array Nat):Prop:=Good N r.2/\1<=r.1/\r.1<=df/\Up f r.2 r.1
theorem Ii(hN:0<N){p:Array Nat}{n df:Nat}(g:Good N p)(h1:1<=n)(hn:n<=df)(hr:df<=N)(d:Down f p n):Ok f N (kas_tail3 n df p) (Nq f N df):=by
 unfold kas_tail3
 have u:Up f (kas_rev p 0 n) n:=λi j oh hj=>by
  rw[Az (by rw[g.size];omega),Az (by rw[g.size];omega),aJ Z1,aJ Z1];exact d _ _ Z1 Z1
 exact (LJ O (g.rev _ _) hN (df - n) n h1 u).bind λm ⟨a,b,u,_⟩=>#[g.rev _ _,by show 1<=m;omega,by show m<=df;omega,u]
theorem Uy(hN:0<N){p:Array Nat}{n df:Nat}(g:Good N p)(hn:n+1<=df)(hr:df<=N)(d:Down f p (n+1)):Ok f N (kas_descPart n df p) (Nq f N df):=by
 unfold kas_descPart;apply (Ib O hN (df - (n+1)) p (n+1) 0 g Z1 Z1 Z1 d λi h2 h3=>?_).bind λr ⟨g',a,b,d',hq,l⟩=>?_
 ·have e:i=n+1 - 1:=by omega
  subst e;exact#[O.fJ _,O.fJ _]
 split
 ·exact Ii O hN (g'.rev _ _) Z1 Z1 hr (d'.rev O l (by rw[g'.size];omega))
 exact Ii O hN g' Z1 Z1 hr d'
theorem _m(hN:0<N){p:Array Nat}{df:Nat}(g:Good N p)(h1:1<=df)(hr:df<=N):Ok f N (kas_count df p) (Nq f N df):=by
 unfold kas_count;apply (LJ O g hN (df - 1) 1 (bc _) λi j oh hj=>?_).bind λn ⟨a,b,u,st⟩=>?_
 ·have e:i=j:=by omega
  subst e;exact O.fJ _
 by_cases e:(n == df)=true
 ·rw[aJ e];exact#[g,a,by show n<=df;omega,u]
 rw[aB e];have e:n≠df:=⇑e
 let c:=st Z1;by_cases h2:n > 1
 ·rw[aJ h2];apply#[g.lt hN _,g.lt hN _,?_];dsimp only;by_cases c2:f (at' p 0) (at' p (n - 1))=true
  ·rw[aJ c2];exact#[g,a,by show n<=df;omega,u]
  rw[aB c2];have c2:f (at' p 0) (at' p (n - 1))=false:=⇑c2
  apply Uy O hN (g.rev _ _) Z1 hr λi j oh hj=>?_;by_cases ej:j<n
  ·rw[Az (by rw[g.size];omega),Az (by rw[g.size];omega),aJ Z1,aJ Z1];exact u _ _ Z1 Z1
  have ej:j=n:=by omega
  subst ej;by_cases ei:i=j
  ·subst ei;exact O.fJ _
  rw[Az (by rw[g.size];omega),Az (by rw[g.size];omega),aJ Z1,aB Z1];exact O.trans (O.trans (O.Gc c) c2) (u 0 _ Z1 Z1)
 rw[aB h2];have e1:n=1:=by omega
 subst e1;apply Uy O hN g Z1 hr λi j oh hj=>?_;by_cases ei:i=j
 ·subst ei;exact O.fJ _
 have q1:i=0:=by omega
 have q2:j=1:=by omega
 subst q1;subst q2;exact O.Gc c
theorem Nw(hN:0<N){p:Array Nat}{k:Nat}(g:Good N p)(u:Up f p k):∀(m l r:Nat),r - l<=m->l<=r->r<=k->(∀i,i<l->f (at' p k) (at' p i)=false)->(∀i,r<=i->i<k->f (at' p k) (at' p i)=true)->
  Ok f N (kas_place p k m l r) λx=>x<=k/\(∀i,i<x->f (at' p k) (at' p i)=false)/\∀i,x<=i->i<k->f (at' p k) (at' p i)=true
 |0,l,r,hm,hl,hr,h1,h2=>by
  have e:l=r:=by omega
  subst e;exact#[hr,h1,h2]
 |m+1,l,r,hm,hl,hr,h1,h2=>by
  unfold kas_place;by_cases e:l ≥ r
  ·rw[aJ e];have e:l=r:=by omega
   subst e;exact#[hr,h1,h2]
  rw[aB e];apply#[g.lt hN _,g.lt hN _,?_];dsimp only;by_cases c:f (at' p k) (at' p ((l+r) / 2))=true
  ·rw[aJ c];apply Nw hN g u m l _ Z1 Z1 Z1 h1 λi h3 h4=>?_;by_cases ei:f (at' p k) (at' p i)=true
   ·exact ei
   have ei:f (at' p k) (at' p i)=false:=⇑ei
   have:=O.trans (u _ i h3 h4) ei;rw[c] at this;cases this
  rw[aB c];have c:f (at' p k) (at' p ((l+r) / 2))=false:=⇑c
  exact Nw hN g u m _ r Z1 Z1 hr (λi h3=>O.trans (u i _ Z1 Z1) c) h2
theorem QX(hN:0<N):∀(m:Nat) (p:Array Nat) (k:Nat),Good N p->k+m=N->Up f p k->Ok f N (kas_bin m p k) λr=>Good N r/\Up f r N
 |0,p,k,g,e,u=>by
  have e:k=N:=by omega
  subst e;exact#[g,u]
 |m+1,p,k,g,e,u=>by
  unfold kas_bin;apply (Nw O hN g u k 0 k Z1 Z1 (bc _) (λi h=>absurd h Z1) λi h1 h2=>absurd h2 Z1).bind λl ⟨hl,h1,h2⟩=>?_;have hk:k<p.size:=by rw[g.size];omega
  apply QX hN m _ (k+1) (g.bub _ _) Z1 λi j oh hj=>?_;rw[Q0 hk hl,Q0 hk hl];by_cases ej:j=l
  ·rw[aJ ej];by_cases ei:i=l
   ·rw[aJ ei];exact O.fJ _
   rw[aB ei,aB Z1];exact h1 i Z1
  rw[aB ej];by_cases S3:l<j/\j<=k
  ·rw[aJ S3];by_cases ei:i=l
   ·rw[aJ ei];exact O.Gc (h2 (j - 1) Z1 Z1)
   rw[aB ei];by_cases S4:l<i/\i<=k
   ·rw[aJ S4];exact u _ _ Z1 Z1
   rw[aB S4];exact u _ _ Z1 Z1
  rw[aB S3];rw[aB (show ¬i=l by omega),aB (show ¬(l<i/\i<=k) by omega)];exact u _ _ Z1 Z1
theorem Sx(hN:0<N):Ok f N (kas_sort N) λp=>Good N p/\Up f p N:=by
 unfold kas_sort;apply (_m O hN (p:=(List.range N).toArray) (Array.Perm.refl _) hN (bc _)).bind λr ⟨g,h1,h2,u⟩=>?_;split
 ·rename_i c
  rw[show max r.1 1=r.1 by omega];exact QX O hN _ _ _ g Z1 u
 rename_i c
 have e:r.1=N:=by omega
 exact#[g,e▸u]
end
end kJ
namespace kJ
open PySem PySem.W PyProof.Rows
section
variable{prog:Ad}{w:Af}{A:Ag}{E:Aa->Ab->Prop}{s:Ab}
def t_(prog:Ad)(w:Af)(A:Ag)(f:Nat->Nat->Bool)(vs:ag)(s:Ab):Prop:=
 ∃κ,(∀Q:SortKind->Ab->Prop,Q κ s->wpAny (model prog w) A (keyKind' vs.toArray) Q (λ_ _=>False) s)/\∀i j C,i<vs.length->j<vs.length->C (f i j) s->kas_ask prog w A κ vs i j C s
def FF(a:Addr)(h h':Heap):Prop:=∀b o,b≠a->h.get? b\o->h'.get? b\o
def mw(p:Array Nat)(vs:ag):ag:=p.toList.map λi=>vs.getD i Value.none
theorem Ux(vs:ag):mw (List.range vs.length).toArray vs=vs:=by
 unfold mw;apply List.ext_getElem? ?_;intro i;simp only[dF];by_cases h:i<vs.length
 ·simp[h]
 simp[Nat.le_of_not_lt h]
theorem _E{a:Addr}{vs:ag}{n:Nat}{f:Nat->Nat->Bool}{P:Fin->Ab->Prop}(O:Ord f)(ho:s.heap.get? a\seqObj "list" vs.toArray n)(cX:vs.length<64)
  (zU:2<=vs.length->∀h',FF a s.heap h'->t_ prog w A f vs { s with heap:=h' })
  (h:∀(p:Array Nat) (h':Heap) (e:Nat),Good vs.length p->Up f p vs.length->h'.get? a\seqObj "list" (mw p vs).toArray e->FF a s.heap h'->P (.done (.ret .none)) { s with heap:=h' }) :
  wpAny (model prog w) A (Builtin.«list.sort» #[[.ref a],[]]) P E s:=by
 have haz:a<s.heap.objs.size:=bp ho;obtain⟨e1,uk⟩:∃e1,(s.heap.update a (Obj.mapSeq λ_=>(#[]:Array Aa))).get? a\seqObj "list" #[] e1:=#[_,get?_update_seq ho (λ_=>#[])]
 have GL:vs.length<=sizeLine:=by
  have:=cU;omega
 rw[list_sort_plain];apply af (listItems_at ho U (af (listUpdate_at ho U (af (seqEpoch_at uk U (af (wpAny_newTuple (af (wpAny_newList (iK ?_) (gE _))) GL)))) ⇑GL (gE _))))
 have keep:∀g:Array Aa->Array Aa,FF a s.heap ((((s.heap.update a (Obj.mapSeq λ_=>(#[]:Array Aa))).push (seqObj "tuple" vs.toArray 0)).push (seqObj "list" #[] 0)).update a (Obj.mapSeq g)):=λg b o hb e=>by
  apply (p_ _ _ (bG hb)).trans (aS _ (aS _ ?_));exact (p_ _ _ (bG hb)).trans e
 have DX:FF a s.heap (((s.heap.update a (Obj.mapSeq λ_=>(#[]:Array Aa))).push (seqObj "tuple" vs.toArray 0)).push (seqObj "list" #[] 0)):=λb o hb e=>
  aS _ (aS _ ((p_ _ _ (bG hb)).trans e))
 have Bk:(((s.heap.update a (Obj.mapSeq λ_=>(#[]:Array Aa))).push (seqObj "tuple" vs.toArray 0)).push (seqObj "list" #[] 0)).get? a\seqObj "list" #[] e1:=aS _ (aS _ uk);show wpAny (model prog w) A _ P E { s with heap:=((s.heap.update a (Obj.mapSeq λ_=>(#[]:Array Aa))).push (seqObj "tuple" vs.toArray 0)).push (seqObj "list" #[] 0) };dsimp only;by_cases h2:vs.toArray.size<2
 ·rw[aJ h2,aJ h2];apply af (aC ?_);rw[StateT.run_pure]
  have vW:((vs.toArray.zip vs.toArray).map λx:Keyed=>x.2)=(mw (List.range vs.length).toArray vs).toArray:=by
   rw[Ux];apply Array.ext' ?_;simp[List.map_snd_zip]
  apply af (aC (af (seqEpoch_at Bk U (af (listUpdate_at Bk U ?_ (gE _) ?_)))))
  ·simp only[bne_self_eq_false,qd,if_false];apply aC (h (List.range vs.length).toArray _ _ (Array.Perm.refl _) (λi j oh hj=>?_) ((get?_update_seq Bk _).trans (eG (λz=>some (seqObj "list" z _)) vW)) (keep _))
   have e:i=j:=by
    simp only[cQ] at h2;omega
   subst e;exact O.fJ _
  have e:((vs.toArray.zip vs.toArray).map λx:Keyed=>x.2).size<=sizeLine+1:=by
   simp only[Array.size_map,Array.size_zip,cQ];omega
  exact e
 rw[aB h2,aB h2]
 have hG:2<=vs.length:=by
  simp only[cQ] at h2;omega
 let#[κ,hk,hc]:=zU hG _ DX;apply af (wpAny_mono (hk (λk s'=>k=κ/\s'=_) #[U,U]) (λk s' Ex=>?_) λ_ _ x=>x.elim);let#[rfl,rfl]:=Ex
 apply af (wpAny_mono (kat_run (ks:=vs) (vs:=vs) (G:=λp s'=>s'={ s with heap:=((s.heap.update a (Obj.mapSeq λ_=>(#[]:Array Aa))).push (seqObj "tuple" vs.toArray 0)).push (seqObj "list" #[] 0) }/\Good vs.length p/\Up f p vs.length)
  (Q:=λfI s'=>∃p:Array Nat,arrOf fI=p.map (kas_item (vs.toArray.zip vs.toArray))/\failedOf fI=none/\s'={ s with heap:=((s.heap.update a (Obj.mapSeq λ_=>(#[]:Array Aa))).push (seqObj "tuple" vs.toArray 0)).push (seqObj "list" #[] 0) }/\Good vs.length p/\Up f p vs.length)
  rfl hG cX (λp fI s' _ q1 q2 q3=>#[p,q1,q2,q3]) (Ok.wp hc (λp q=>#[U,q]) (Sx O Z1))) ?_ λ_ _ x=>x)
 rintro⟨⟨⟩,fI⟩ s' ⟨p,LO,hf,hs',g,u⟩;have hs':s'={ s with heap:=((s.heap.update a (Obj.mapSeq λ_=>(#[]:Array Aa))).push (seqObj "tuple" vs.toArray 0)).push (seqObj "list" #[] 0) }:=hs';subst hs'
 have vW:((arrOf fI).map λx:Keyed=>x.2)=(mw p vs).toArray:=by
  rw[LO];apply Array.ext' ?_;unfold mw;simp only[Array.map_map,Array.toList_map,List.toList_toArray];apply uP λi _=>?_;show (kas_item (vs.toArray.zip vs.toArray) i).2=_;unfold kas_item;by_cases hi:i<vs.length
  ·simp[Array.getD,hi]
  simp[Array.getD,hi,Nat.le_of_not_lt hi]
 have esz:((arrOf fI).map λx:Keyed=>x.2).size=vs.length:=by
  rw[vW];unfold mw;simp only[cQ,au,pE];exact g.size
 apply af (seqEpoch_at Bk U (af (listUpdate_at Bk U ?_ (gE _) (by rw[esz];omega))));rw[hf];simp only[bne_self_eq_false,qd,if_false];exact aC (h p _ _ g u ((get?_update_seq Bk _).trans (eG (λz=>some (seqObj "list" z _)) vW)) (keep _))
theorem T1{x:Aa}{f:Nat->Nat->Bool}{Q:Aa->Ab->Prop}(O:Ord f)
  (l_:wpAny (model prog w) A.in1 (collect x) (λvs s1=>vs.length<64/\(2<=vs.length->∀h':Heap,(∀b o,s1.heap.get? b\o->h'.get? b\o)->t_ prog w A.in1.in1 f vs { s1 with heap:=h' }) /\
   ∀(p:Array Nat) (h':Heap) (e:Nat),Good vs.length p->Up f p vs.length->h'.get? s1.heap.objs.size\seqObj "list" (mw p vs).toArray e->(∀b o,s1.heap.get? b\o->h'.get? b\o)->Q (.ref s1.heap.objs.size) { s1 with heap:=h' }) E s) :
  wpAny (model prog w) A (call (.builtin "sorted") [x]) Q E s:=by
 apply Calls.call_function_entry kind_sorted plain_sorted entry_sorted (args_sorted1 _) ?_;unfold Builtin.«sorted»;apply af (m:=checkCount "sorted" 1 1 _) (aC (af (wpAny_mono l_ (λvs s1 q=>?_) λ_ _ z=>z)));let#[cX,zU,hQ]:=q;apply af (wpAny_newList ?_ (by have:=cU;omega));have hn:(s1.heap.push (seqObj "list" vs.toArray 0)).get? s1.heap.objs.size\seqObj "list" vs.toArray 0:=cy _ U
 have old:∀h',FF s1.heap.objs.size (s1.heap.push (seqObj "list" vs.toArray 0)) h'->∀b o,s1.heap.get? b\o->h'.get? b\o:=λh' k b o e=>
  k b o (dC (bp e)) (aS _ e)
 apply af (iK (s_ slot_list_sort #[_,hn,U] entry_list_sort (_E O hn cX (λh2 h' k=>zU h2 h' (old h' k)) λp h' e g u q k=>#[_,U,?_]) (args_list_sort _)));exact aC #[_,U,hQ p h' e g u q (old h' k)]
end
end kJ
namespace L2
open PySem PySem.Spec PyProof.Rows PySem.W kJ
def je:Key->Key->Bool
 |.inl i,.inl j=>decide (i<j)
 |.inl _,.inr _=>true
 |.inr _,.inl _=>false
 |.inr x,.inr y=>decide (x.cps.toList<y.cps.toList)
def bH:av->av->Bool
 |[],[]=>false
 |[],_::_=>true
 |_::_,[]=>false
 |a::r,b::q=>if a=b then bH r q else je a b
theorem ZO:∀a:Key,je a a=false
 |.inl i=>by simp[je]
 |.inr x=>by simp[je,List.lt_irrefl]
theorem Uh:∀{a b:Key},je a b=true->je b a=false
 |.inl i,.inl j,h=>by
  simp only[je,decide_eq_true_eq,decide_eq_false_iff_not] at *;omega
 |.inl _,.inr _,_=>rfl
 |.inr _,.inl _,h=>by cases h
 |.inr x,.inr y,h=>by
  simp only[je,decide_eq_true_eq,decide_eq_false_iff_not] at *;exact λq=>List.lt_irrefl _ (List.lt_trans h q)
theorem Sd:∀{a b:Key},je a b=false->je b a=false->a=b
 |.inl i,.inl j,h,h2=>by
  simp only[je,decide_eq_false_iff_not] at *;rw[show i=j by omega]
 |.inl _,.inr _,h,_=>by cases h
 |.inr _,.inl _,_,h=>by cases h
 |.inr x,.inr y,h,h2=>by
  simp only[je,decide_eq_false_iff_not] at *;rw[ext_toList (List.le_antisymm (List.not_lt.mp h2) (List.not_lt.mp h))]
theorem fU_:∀{a b c:Key},je a b=true->je b c=true->je a c=true
 |.inl i,.inl j,.inl k,h,h2=>by
  simp only[je,decide_eq_true_eq] at *;omega
 |.inl _,.inl _,.inr _,_,_=>rfl
 |.inl _,.inr _,.inr _,_,_=>rfl
 |.inl _,.inr _,.inl _,_,h=>by cases h
 |.inr _,.inl _,_,h,_=>by cases h
 |.inr _,.inr _,.inl _,_,h=>by cases h
 |.inr x,.inr y,.inr z,h,h2=>by
  simp only[je,decide_eq_true_eq] at *;exact List.lt_trans h h2
theorem MT:∀a:av,bH a a=false
 |[]=>rfl
 |a::r=>by
  unfold bH;rw[aJ U];exact MT r
theorem NV:∀{a b:av},bH a b=true->bH b a=false
 |[],[],h=>by cases h
 |[],_::_,_=>rfl
 |_::_,[],h=>by cases h
 |a::r,b::q,h=>by
  unfold bH at h ⊢;by_cases e:a=b
  ·rw[aJ e] at h;rw[aJ e.symm];exact NV h
  rw[aB e] at h;rw[aB (bG e)];exact Uh h
theorem MY:∀{a b:av},bH a b=false->bH b a=false->a=b
 |[],[],_,_=>rfl
 |[],_::_,h,_=>by cases h
 |_::_,[],_,h=>by cases h
 |a::r,b::q,h,h2=>by
  unfold bH at h h2;by_cases e:a=b
  ·rw[aJ e] at h;rw[aJ e.symm] at h2;rw[e,MY h h2]
  rw[aB e] at h;rw[aB (bG e)] at h2;exact absurd (Sd h h2) e
theorem UE:∀{a b c:av},bH a b=true->bH b c=true->bH a c=true
 |[],_,[],h,h2=>by
  rename_i b
  cases b with
  |nil=>cases h
  |cons _ _=>cases h2
 |[],_,_::_,_,_=>rfl
 |_::_,[],_,h,_=>by cases h
 |_::_,_::_,[],_,h=>by cases h
 |a::r,b::q,c::t,h,h2=>by
  unfold bH at h h2 ⊢;by_cases e:a=b
  ·subst e;rw[aJ U] at h;by_cases e2:a=c
   ·rw[aJ e2] at h2 ⊢;exact UE h h2
   rw[aB e2] at h2 ⊢;exact h2
  rw[aB e] at h;by_cases e2:b=c
  ·subst e2;rw[aB e];exact h
  rw[aB e2] at h2;let h3:=fU_ h h2;rw[aB (λq=>by rw[q,ZO] at h3;cases h3)];exact h3
theorem T3{a b c:av}(h:bH b a=false)(h2:bH c b=false):bH c a=false:=by
 cases e:bH c a with
 |false=>rfl
 |true=>
  by_cases e1:bH a b=true
  ·have:=UE e e1;rw[h2] at this;cases this
  have e1:bH a b=false:=⇑e1
  have:=MY e1 h;subst this;rw[h2] at e;cases e
def B5(ks:List av):Prop:=ks.Pairwise λa b=>bH b a=false
theorem Uk:∀{a b:List av},a.Perm b->B5 a->B5 b->a=b
 |[],b,p,_,_=>by
  have:=p.length_eq;cases b with
  |nil=>rfl
  |cons _ _=>cases this
 |x::r,[],p,_,_=>by
  have:=p.length_eq;cases this
 |x::r,y::q,p,h1,h2=>by
  let#[a1,a2]:=List.pairwise_cons.mp h1;let#[b1,b2]:=List.pairwise_cons.mp h2
  have e:x=y:=by
   rcases bW.mp (p.mem_iff.mp gB) with m|m
   ·exact m
   rcases bW.mp (p.mem_iff.mpr gB) with m2|m2
   ·exact m2.symm
   exact MY (b1 _ m) (a1 _ m2)
  subst e;rw[Uk ((List.perm_cons _).mp p) a2 b2]
def a_(ks:List av):List av:=ks.mergeSort λa b=>!bH b a
theorem tS(ks:List av):(a_ ks).Perm ks:=List.mergeSort_perm _ _
theorem fO_(ks:List av):B5 (a_ ks):=by
 have:=List.pairwise_mergeSort (le:=λa b=>!bH b a) (λa b c h1 h2=>by
  simp only[Bool.not_eq_true'] at *;exact T3 h1 h2) (λa b=>by
  simp only[Bool.or_eq_true,Bool.not_eq_true'];by_cases e:bH b a=true
  ·exact .inr (NV e)
  exact .inl ⇑e) ks
 exact this.imp λh=>by simpa using h
theorem N3{ks iS:List av}(p:iS.Perm ks)(h:B5 iS):iS=a_ ks:=Uk (p.trans (tS ks).symm) h (fO_ ks)
theorem FU{α:Type}{p:Array Nat}{n:Nat}(g:Good n p)(F:Nat->α):(p.toList.map F).Perm ((List.range n).map F):=by
 have e:p.toList.Perm (List.range n):=by
  have:=Array.perm_iff_toList_perm.mp g;simpa using this
 exact e.map F
theorem ML{p:Array Nat}{ks:List av}{f:Nat->Nat->Bool}(hf:∀i j,i<ks.length->j<ks.length->f i j=bH (ks.getD i []) (ks.getD j []))(g:Good ks.length p)(u:Up f p ks.length):B5 (p.toList.map λi=>ks.getD i []):=by
 unfold B5;rw[wL,List.pairwise_iff_getElem];intro i j hi hj oh;let hs:=g.size;rw[pE] at hi hj;have RC:j<ks.length:=by omega
 let q:=u i j (Nat.le_of_lt oh) RC;have hN:0<ks.length:=by omega
 rw[hf _ _ (g.lt hN _) (g.lt hN _)] at q;have e1:at' p i=p.toList[i]:=by simp[at',Array.getD,hi]
 have e2:at' p j=p.toList[j]:=by simp[at',Array.getD,hj]
 rw[e1,e2] at q;exact q
theorem MU(ks:List av):Ord λi j=>bH (ks.getD i []) (ks.getD j []):=#[λ_=>MT _,λh h2=>T3 h h2,λh=>NV h]
theorem FV{α:Type}(d:α)(l:List α):((List.range l.length).map λi=>l.getD i d)=l:=by
 apply List.ext_getElem? ?_;intro i;simp only[dF];by_cases h:i<l.length
 ·simp[h]
 simp[Nat.le_of_not_lt h]
theorem NA{ys:ai}{vs:ag}(r:Vals ys vs){p:Array Nat}(g:Good vs.length p):Vals (p.toList.map λi=>ys.getD i .non) (mw p vs):=by
 unfold mw
 have key:∀l:List Nat,(∀i∈l,i<vs.length)->Vals (l.map λi=>ys.getD i .non) (l.map λi=>vs.getD i Value.none):=λl=>by
  induction l with
  |nil=>exact λ_=>.nil
  |cons i l ih=>
   intro h;apply .cons ?_ (ih λj hj=>h j (fN _ hj));let hi:=h i gB;have hy:i<ys.length:=by rw[r.length];exact hi
   let#[u,hu,ru]:=r.get (aY hy);have e1:ys.getD i .non=ys[i]:=by simp[hy]
   have e2:vs.getD i Value.none=u:=by simp[hu]
   show RelV (ys.getD i .non) (vs.getD i Value.none);rw[e1,e2];exact ru
 apply key p.toList λi hi=>?_;have m:i∈(List.range vs.length).toArray:=g.mem_iff.mp ⇑hi;simpa using m
theorem Sw:∀{ss:ae} {vs:ag},Vals (ss.map V.str) vs->StrsAre vs ss
 |[],_,.nil=>.nil
 |x::r,_,.cons h t=>by
  let#[tk,rfl]:=h;exact .cons x tk (Sw t)
def iA(ss:ae):ae:=(a_ (ss.map λx=>[Sum.inr x])).map λk=>match k with
 |[.inr x]=>x
 |_=>⟨#[]⟩
def bM(x:Str):av:=[Sum.inr x]
theorem Ui{prog:Ad}{w:Af}{A:Ag}{s:Ab}{ss:ae}{vs:ag}(r:StrsAre vs ss)(h2:2<=vs.length):t_ prog w A (λi j=>bH ((ss.map bM).getD i []) ((ss.map bM).getD j [])) vs s:=by
 apply#[oneType',λQ q=>?_,λi j C hi hj hC=>?_]
 ·match vs,h2 with
  |v₁::VI::t,_=>
   rw[keyKind_strs r];exact aC q
 unfold kas_ask;rw[keyLt'_oneType]
 have look:∀k,k<vs.length->∃x t,vs.getD k Value.none=.str x t/\(ss.map bM).getD k []=[Sum.inr x]:=λk hk=>by
  let e:=r.strs;let#[x,t,q]:=r.all vs[k] (mO hk);apply#[x,t,by simp[hk,q],?_]
  have Rz:k<ss.length:=by
   rw[<- e,au];exact hk
  have e2:ss[k]=x:=by
   have e3:(vs.map strOf)[k]? = ss[k]?:=by rw[e]
   rw[dF,aY hk,aY Rz,q] at e3;exact (cu e3).symm
  simp[Rz,e2,bM]
 let#[x,t,e1,e2]:=look i hi;let#[y,u,e3,e4]:=look j hj;rw[e1,e3];dsimp only at hC;rw[e2,e4] at hC;apply oneLt_str ?_;unfold bH at hC;by_cases e:x=y
 ·subst e;rw[aJ U] at hC;have:decide (x.cps.toList<x.cps.toList)=false:=by simp[List.lt_irrefl]
  rw[this];exact hC
 rw[aB (λq=>e (iy q))] at hC;exact hC
def xy:Key->Bool
 |.inl _=>false
 |.inr _=>true
theorem gw_{prog:Ad}{w:Af}{A:Ag}{E:Aa->Ab->Prop}{s:Ab}{c:Bool}{a b:Key}{p q:Aa}{Q:Bool->Ab->Prop}(ra:RelV (kV a) p)(rb:RelV (kV b) q)(hk:xy a=xy b)(h:Q (je a b) s) :
  wpAny (model prog w) A (oneLt' c p q) Q E s:=by
 cases a with
 |inl i=>
  cases b with
  |inr y=>cases hk
  |inl j=>
   let#[t,rfl]:=ra;let#[u,rfl]:=rb;cases c with
   |true=>exact oneLt_int h
   |false=>exact kat_one _ _ (lt_int (show PySem.W.BoolBack Q (.bool _) s from h))
 |inr x=>
  cases b with
  |inl j=>cases hk
  |inr y=>
   let#[t,rfl]:=ra;let#[u,rfl]:=rb;cases c with
   |true=>exact oneLt_str h
   |false=>exact kat_one _ _ (PyProof.Rows.lt_str (show PySem.W.BoolBack Q (.bool _) s from h))
theorem Y3{a b:Key}(hk:xy a=xy b):sY (kV a) (kV b)=decide (a=b):=by
 cases a with
 |inl i=>
  cases b with
  |inr y=>cases hk
  |inl j=>
   show (i == j)=_;by_cases e:i=j
   ·subst e;simp
   ·rw[fD (λq=>e (Sum.inl.inj q))];simpa using e
 |inr x=>
  cases b with
  |inl j=>cases hk
  |inr y=>
   show (x == y)=_;by_cases e:x=y
   ·subst e;simp
   rw[fD (λq=>e (iy q))];simpa using e
theorem SM(a:Key):uD (kV a)=true:=by cases a<;>rfl
theorem UM{prog:Ad}{w:Af}{A:Ag}{s:Ab}{Q:Bool->Ab->Prop}:∀{k1 k2:av} {us vs:ag} (i:Nat),Vals (k1.map kV) us->Vals (k2.map kV) vs->k1.map xy=k2.map xy->Q (bH k1 k2) s->KatLex prog w A true false Q (us.zip vs) i s
 |[],[],_,_,i,.nil,.nil,_,h=>h
 |[],_::_,_,_,_,_,_,h,_=>by cases h
 |_::_,[],_,_,_,_,_,h,_=>by cases h
 |a::k1,b::k2,u::us,v::vs,i,.cons ra r1,.cons rb r2,hk,h=>by
  let#[e1,e2]:=List.cons.inj hk;apply kat_cons ?_;apply HR ra rb (SM a) (SM b) prog w _ _ ?_;rw[Y3 e1];unfold bH at h;by_cases e:a=b
  ·rw[aJ e] at h;rw[cJ e];exact kat_yes (UM (i+1) r1 r2 e2 h)
  rw[aB e] at h;rw[fD e];exact kat_no (gw_ ra rb e1 h)
def bS(K:aj)(H:Hp):ai->List av->Prop:=Paired λy k=>∃a,y=V.ref a/\H a\.tup (k.map kV)
def Alike(ks:List av)(sh:List Bool):Prop:=sh≠[]/\∀k∈ks,k.map xy=sh
theorem h1_{X:Cx}{pins:List (Addr × Obj)}{σ:St}{H:Hp}{s s':Ab}{A:Ag}{ys:ai}{ks:List av}{sh:List Bool}{vs:ag}(I:Inv X pins σ H s)(r:Vals ys vs)(t:bS X.K H ys ks)(al:Alike ks sh)(h2:2<=vs.length)
  (kp:∀b o,s.heap.get? b\o->s'.heap.get? b\o):t_ X.prog X.w A (λi j=>bH (ks.getD i []) (ks.getD j [])) vs s':=by
 have look:∀k,k<vs.length->∃a its,vs.getD k Value.none=.ref a/\Vals ((ks.getD k []).map kV) its/\IsTup s'.heap a its.toArray/\ks.getD k []∈ks:=λk hk=>by
  have hy:k<ys.length:=by rw[r.length];exact hk
  have Bl:k<ks.length:=by rw[<- bj t];exact hy
  let#[u,hu,ru]:=r.get (aY hy)
  have gen:∀{ys:ai} {ks:List av} (k:Nat) (hy:k<ys.length) (Bl:k<ks.length),bS X.K H ys ks->∃a,ys[k]=V.ref a/\H a\.tup (ks[k].map kV):=λ{ys ks} k hy Bl t=>by
   induction t generalizing k with
   |nil=>exact absurd hy Z2
   |cons h t ih=>
    cases k with
    |zero=>exact h
    |succ k=>exact ih k ⇑hy ⇑Bl
  let#[a,e,sq]:=gen k hy Bl t;let#[its,ri,ti,_]:=I.tuple (fH.of sq);rw[e] at ru;cases ru;have e2:ks.getD k []=ks[k]:=by simp[Bl]
  apply#[a,its,by simp[hu],by rw[e2];exact ri,ti.keeps kp,?_];rw[e2];exact mO Bl
 let#[l5,EO]:=al
 obtain⟨c,CY,rfl⟩:∃c CY,sh=c::CY:=by
  cases sh with
  |nil=>exact absurd U l5
  |cons c CY=>exact#[c,CY,U]
 apply#[tuples' true,λQ q=>?_,λi j C hi hj hC=>?_]
 ·have Ak:∀l:ag,(∀v∈l,∃(a:Addr) (its:ag) (k:av),v=.ref a/\Vals (k.map kV) its/\IsTup s'.heap a its.toArray/\k.map xy=c::CY)->∃fs,KatTups s'.heap l fs/\fs.length=l.length/\∀v∈fs,Looks (model X.prog X.w) s'.heap (typeOf v) (.type (if c then "str" else "int")):=λl=>by
   induction l with
   |nil=>exact λ_=>#[[],.nil,U,λ_ h=>nomatch h]
   |cons v l ih=>
    intro h;let#[fs,h1,h2,h3]:=ih λv hv=>h v (fN _ hv);let#[a,its,k,rfl,rv,#[o,ho,hc,n,hd],hk]:=h v gB
    match k,its,rv,hk with
    |k0::k,u::its,.cons r0 _,hk=>
     apply#[u::fs,.cons ho hc hd Z2 h1,by simp[h2],λv hv=>?_];rcases bW.mp hv with e|hv
     ·subst e;let e0:=(List.cons.inj hk).1;cases k0 with
      |inl i=>
       let#[t,rfl]:=r0;rw[<- e0];exact .now
      |inr x=>
       let#[t,rfl]:=r0;rw[<- e0];exact .now
     exact h3 v hv
  let#[fs,h1,h3,h4]:=Ak vs λv hv=>by
   let#[k,hk,rfl]:=gJ hv;let#[a,its,e,rv,ti,m]:=look k hk;apply#[a,its,_,?_,rv,ti,EO _ m];rw[<- e];simp[hk]
  apply kat_kind h1 Z1 h4 (by cases c<;>decide) ?_
  have e:((Value.type (if c then "str" else "int")) != Value.type "tuple")=true:=by cases c<;>decide
  rw[e];exact q
 unfold kas_ask;let#[a,its,e1,r1,#[o,ho,_,n,hd],m1]:=look i hi;let#[b,ip,e2,r2,#[o2,fA,_,n2,hd2],m2]:=look j hj;rw[e1,e2];apply kat_lt ho hd fA hd2 ?_;let l1:=r1.length;let l2:=r2.length;let l3:=eG List.length ((EO _ m1).trans (EO _ m2).symm);simp only[au] at l1 l2 l3;rw[show decide (its.toArray.size<ip.toArray.size)=false by simp;omega];exact UM 0 r1 r2 ((EO _ m1).trans (EO _ m2).symm) hC
end L2
namespace dO
open PySem PySem.W PyProof.Rows
section
variable{prog:Ad}{w:Af}{A:Ag}{E:Aa->Ab->Prop}{s:Ab}
def Raw(h:Heap)(d:Addr)(es:Array DictEntry)(ep:Nat):Prop:=∃o,h.get? d\o/\o.ExactDict/\o.data=.dict es ep
theorem Raw.eS{h h':Heap}{d:Addr}{es:Array DictEntry}{ep:Nat}(x:Raw h d es ep)(k:∀o,h.get? d\o->h'.get? d\o):Raw h' d es ep:=let #[o,e,r]:=x;#[o,k o e,r]
theorem Raw.ty{d:Addr}{es:Array DictEntry}{ep:Nat}(x:Raw s.heap d es ep):s.TypeIs (.ref d) "dict":=let #[o,e,c,_]:=x;#[o,e,c.1]
theorem hR_{d:Addr}{es:Array DictEntry}{ep:Nat}{Q:Aa->Ab->Prop}(hd:(d == sysModules)=false)(x:Raw s.heap d es ep)
  (q:Q (.ref s.heap.objs.size) { s with heap:=s.heap.push { cls:=.type "dict_keyiterator",data:=.fields (List.toArray [.ref d,.int 0 0,.int es.size 0,.int ep 0]) } }) :
  wpAny (model prog w) A (pyIter (.ref d)) Q E s:=by
 let#[o,ho,hc,jF]:=id x;apply wpAny_pyIter_slot x.ty F.slot_dict_iter (s_ F.slot_dict_iter x.ty F.entry_dict_iter ?_ (F.args_dict_iter_1 _));unfold Builtin.«dict.__iter__» Builtin.Dict.dictSlotNone;apply af (af (wpAny_notOrdered_dict x.ty (show wpAny _ _ (pure (Value.ref d)) _ _ s from aC (show wpAny _ _ (Builtin.Dict.showsAll d >>= _) _ _ s from ?_))));unfold Builtin.Dict.showsAll;rw[aB (by rw[hd];decide)];apply af (aC (af (wpAny_dictEntries ho jF (af (wpAny_dictEpoch ho jF (af (p0 (aC #[_,U,"dict_keyiterator",_,#[_,cy _ U,U],F.slot_dict_keyiterator_next.lookup,?_]))))))));exact q
theorem _P{it d:Addr}{i ep:Nat}{es:Array DictEntry}{Q:Option Aa->Ab->Prop}(hit:s.heap.IsKeyIter it d i es.size ep)(x:Raw s.heap d es ep)(hi:i<es.size)
  (q:∀h',h'.IsKeyIter it d (i+1) es.size ep->Heap.SameBut it s.heap h'->Q (some es[i].key) { s with heap:=h' }):wpAny (model prog w) A (pyNext (.ref it)) Q E s:=by
 let#[o,ho,hc,hd]:=id hit;let#[od,Ek,iw,pS]:=id x;unfold pyNext;apply af (wpAny_attempt (uC (name:=Str.ofString "__next__") hit.typeIs F.slot_dict_keyiterator_next (s_ F.slot_dict_keyiterator_next hit.typeIs F.entry_dict_keyiterator_next ?_ (F.args_dict_keyiterator_next_1 _))));apply af (aC (af (af ?_)))
 first|refine af (wpAny_typeNameOfWhole_keyiter hit.typeIs (aC (af (wpAny_fieldsOf ho hd ?_))))|refine af (wpAny_typeNameOf_keyiter hit.typeIs (aC (af (wpAny_fieldsOf ho hd ?_))))
 simp only[show Builtin.Dict_items.ownsTuple "dict_keyiterator"=false by decide,qd,if_false];apply (show wpAny _ _ (if (Value.ref d == Value.none)=true then _ else _) _ _ s from ?_);rw[aB (λz=>by cases z)];apply af (aC (af (wpAny_dictEntries Ek pS ?_)));rw[aB Z2];apply af (aC (af (wpAny_dictEpoch Ek pS ?_)));rw[aB Z2];apply aC ?_;simp only[show ¬((i:Int)<0) from by omega,if_false,yf,Array.getElem?_eq_getElem hi];apply af ?_
 first|refine af (wpAny_typeNameOfWhole_keyiter hit.typeIs (aC (af (wpAny_isOneOf_keyiter hit.typeIs ?_))))|refine af (wpAny_typeNameOf_keyiter hit.typeIs (aC (af (wpAny_isOneOf_keyiter hit.typeIs ?_))))
 apply (show wpAny _ _ (setField (.ref it) 1 (rawInt ((i:Int)+1)) >>= _) _ _ s from af (wpAny_setField ho hd Z2 ?_))
 have turned:(s.heap.update it (Obj.mapFields (·.setIfInBounds 1 (rawInt ((i:Int)+1))))).IsKeyIter it d (i+1) es.size ep:=
  #[_,Heap.get?_update_self _ ho (Obj.isFreed_of_fields (Obj.data_mapFields hd _)),(Obj.cls_mapFields ..).trans hc,by rw[Obj.data_mapFields hd];simp[rawInt]]
 apply af (iK (af (wpAny_isOneOf_keyiter (s:={ s with heap:=s.heap.update it (Obj.mapFields (·.setIfInBounds 1 (rawInt ((i:Int)+1)))) }) turned.typeIs ?_)));exact (show wpAny _ _ (pure es[i].key) _ _ _ from aC (aC #[_,U,aC (q _ turned (Heap.SameBut.update ..))]))
theorem ZW{it d:Addr}{ep:Nat}{es:Array DictEntry}{Q:Option Aa->Ab->Prop}(hh:A.handled=none)(hit:s.heap.IsKeyIter it d es.size es.size ep)(x:Raw s.heap d es ep)
  (q:∀h',Heap.ExtBut it s.heap h'->Q none { s with heap:=h' }):wpAny (model prog w) A (pyNext (.ref it)) Q E s:=by
 let#[o,ho,hc,hd]:=id hit;let#[od,Ek,iw,pS]:=id x;unfold pyNext;apply af (wpAny_attempt (uC (name:=Str.ofString "__next__") hit.typeIs F.slot_dict_keyiterator_next (s_ F.slot_dict_keyiterator_next hit.typeIs F.entry_dict_keyiterator_next ?_ (F.args_dict_keyiterator_next_1 _))));apply af (aC (af (af ?_)))
 first|refine af (wpAny_typeNameOfWhole_keyiter hit.typeIs (aC (af (wpAny_fieldsOf ho hd ?_))))|refine af (wpAny_typeNameOf_keyiter hit.typeIs (aC (af (wpAny_fieldsOf ho hd ?_))))
 simp only[show Builtin.Dict_items.ownsTuple "dict_keyiterator"=false by decide,qd,if_false];apply (show wpAny _ _ (if (Value.ref d == Value.none)=true then _ else _) _ _ s from ?_);rw[aB (λz=>by cases z)];apply af (aC (af (wpAny_dictEntries Ek pS ?_)));rw[aB Z2];apply af (aC (af (wpAny_dictEpoch Ek pS ?_)));rw[aB Z2];apply aC ?_;simp only[show ¬((es.size:Int)<0) from by omega,if_false,yf,Array.getElem?_eq_none (bc _)];apply af ?_
 first|refine af (wpAny_typeNameOfWhole_keyiter hit.typeIs (aC ?g))|refine af (wpAny_typeNameOf_keyiter hit.typeIs (aC ?g))
 apply (show wpAny _ _ (setField (.ref it) 0 .none >>= _) _ _ s from af (wpAny_setField ho hd Z2 (show wpAny _ _ (newExc (.type "StopIteration") [] >>= _) _ _ _ from af ?_)));simp only[newExc,newTuple];apply af (p0 (af (m:=firstArgMember _ _) (wpAny_of_eq (a:=Value.none) (by first|rfl|(simp only[firstArgMember];rfl)) (p0 ?_ (by size_fits)))) (by size_fits));simp only[raiseNew];apply af (wpAny_handled ?_);rw[show A.in1.handled=none from hh];apply af (aC (wpAny_throw ?_));exact af (wpAny_isInstance (T:="StopIteration") (b:=true) #[_,cy _ U,U] isSubtype_stop (aC (q _ (((Heap.SameBut.update ..).extBut.push _).push _))))
theorem gy_(hh:A.handled=none)(I d:Addr)(l5:d≠I)(es:Array DictEntry)(ep:Nat) :
  Walks prog w A I [I,d] [I] es.size (λi v=>∃h:i<es.size,v=es[i].key) (λi h=>h.IsKeyIter I d i es.size ep/\Raw h d es ep) where
 sub:=λb hb=>by simp only[eD] at hb;simp[hb]
 frame:=λ_ _ _ st k=>#[st.1.at λo e=>k I Z2 o e,st.2.eS λo e=>k d Z2 o e]
 item:=λi s Q E hi st hQ=>_P st.1 st.2 hi λh' zN hs'=>hQ _ h' s.toks #[hi,U] #[zN,st.2.eS λo e=>hs'.extBut d o l5 e] λb o hb e=>hs'.extBut b o (λh=>hb (by simp[h])) e
 done:=λs Q E st hQ=>ZW hh st.1 st.2 λh' he'=>hQ h' s.toks λb o hb e=>he' b o (λh=>hb (by simp[h])) e
 self:=λ_ _ _ _ st hQ=>wpAny_pyIter_keyiter st.1 hQ
theorem Zt{d:Addr}{es:Array DictEntry}{ep:Nat}(lo:(d == sysModules)=false):KdlSrc prog w "dict" d d es.size (λi v=>∃h:i<es.size,v=es[i].key) (λh=>Raw h d es ep) where
 type:=λs x=>x.ty
 there:=λh x=>let #[o,e,_]:=x;#[bp e,bp e]
 keep:=λh h' x k=>x.eS λo e=>k d (.inl U) o e
 notList:=by decide
 notTuple:=by decide
 hint:=λ_ _ s _ x q=>kdl_hint_dict x.ty q
 iter:=λA s hh x=>#[_,_,λE Q q=>hR_ lo x q,gy_ hh _ d (let #[o,e,_]:=x;dC (bp e)) es ep,#[#[_,cy _ U,U,U],x.eS λo e=>aS _ e]]
end
end dO
namespace dO
open PySem PySem.W PyProof.Rows
theorem d0_:typeLookup (.type "list") "keys"=pure none:=by rw[typeLookup_type,builtinLookup_eq_fast];kernel_rfl
theorem hh_{prog:Ad}{w:Af}{A:Ag}{s:Ab}{a:Addr}{xs:Array Aa}{k:Nat}{tk:Tok}{R:Result->Ab->Prop}(hx:s.heap.get? a\seqObj "list" xs k)(h:raisesAttr (.ref a) "keys" A R s) :
  codeAny (model prog w) A (.call (.builtin "list.__getattribute__") #[[.ref a,.str "keys" tk],[]]) R s:=by
 apply codeAny_call_builtin F.slot_list_getattribute.plain am_entry_list_getattribute (F.slot_list_getattribute.check _ _ _ _ _ _ _ _ #[_,hx,U] (F.args_list_getattribute_2 _ _) ?_);exact meets_getattribute_miss_list a xs k #[] "keys" tk d0_ (by decide) (by size_fits) prog w A R s #[hx,h]
theorem y8{prog:Ad}{w:Af}{A:Ag}{E:Aa->Ab->Prop}{s:Ab}{a:Addr}{xs:Array Aa}{k:Nat}{Q:Option Aa->Ab->Prop}(hx:s.heap.get? a\seqObj "list" xs k)(hA:A.handled=none)
  (h:∀h' tk,(∀b o,s.heap.get? b\o->h'.get? b\o)->Q none { s with heap:=h',toks:=tk }):wpAny (model prog w) A (getAttr? (.ref a) "keys") Q E s:=by
 let#[hp,g,d,tk,os]:=s;have ty:∀ij,(#[hp,g,d,ij,os]:Ab).TypeIs (.ref a) "list":=λ_=>#[_,hx,U];let f1:=sub_AttributeError;let f2:=F.slot_list_getattribute.lookup;let f3:=F.slot_list_getattribute.bind (.ref a);let f4:=am_list_getattr_none;unfold getAttr? getAttrBy? getAttrBy
 repeat (any_goals (first|assumption|exact ty _|wp_step))
 apply hh_ hx #[hA,λh' ij e hx'=>?_];let#[t',u',he]:=hx'.there;show wpAny _ _ (getattributeRaised _ _ _ _ _ _ _) _ _ _;unfold getattributeRaised
 repeat (any_goals (first|assumption|wp_step))
 exact h _ _ hx'.keeps
end dO
namespace dO
open PySem PySem.W PyProof.Rows
theorem Jd:entryFor table "dict.update.loop"\Builtin.«dict.update.loop»:=entryFor_of_tree (by kernel_rfl)
theorem x_:plainId "dict.update.loop"=true:=by decide +kernel
theorem HP(d it:Addr)(i:Int)(tk:Tok):Builtin.«dict.update.loop» #[[.ref d,.ref it,.int i tk,.none],[]]=(do
  let r <- pyNext (.ref it)
  match r with
  |none=>do Builtin.Dict.addKeywords d [];ret .none
  |some item=>do
   holding [item] (do
    let pair <- (Builtin.Dict.pairItems item).tryCatch λe=>do
     if !(<- isInstance e (.type "TypeError")) then throw e
     rule "dict.update.element-no-sequence"
     raiseError "TypeError" s!"cannot convert dictionary update sequence element #{i} to a sequence"
    match pair with
    |[k,v]=>holding [k,v] (dictSet d k v)
    |l=>do
     rule "dict.update.element-length"
     raiseError "ValueError" s!"dictionary update sequence element #{i} has length {l.length}; 2 is required")
   again (.builtin "dict.update.loop" #[[.ref d,.ref it,rawInt (i+1),.none],[]])):=by
 unfold Builtin.«dict.update.loop»;apply eG (λf=>pyNext (.ref it) >>= f) (funext λr=>?_);cases r<;>rfl
section
variable{prog:Ad}{w:Af}{K:Type}[DecidableEq K]{knd:PySem.KeyKind prog w K}{A:Ag}
def Nh(knd:PySem.KeyKind prog w K)(h:Heap):ag->List (K × Aa)->Prop:=Paired λv p=>∃a key,v=.ref a/\IsTup h a (List.toArray [key,p.2])/\knd.is p.1 key=true
def eW(kvs:List (K × Aa))(ps:List (K × Aa)):List (K × Aa):=ps.foldl (λacc p=>stored acc p.1 p.2) kvs
theorem T5(kvs:List (K × Aa))(k:K)(v:Aa):(stored kvs k v).length<=kvs.length+1:=by
 unfold stored;split
 ·simp
 simp
theorem Uz{h:Heap}{b it l:Addr}{i:Nat}{ys:Array Aa}(t:IsTup h b ys)(q:h.IsListIter it l i):b≠it:=λz=>by
 let#[o,ho,hc,_]:=t;let#[o2,fA,ko,_]:=q;subst z;rw[ho] at fA;cases fA;rw[hc] at ko;exact absurd ko (by decide)
theorem ef_{h:Heap}{b d:Addr}{ys:Array Aa}{kvs:List (K × Aa)}(t:IsTup h b ys)(q:h.DictOf knd d kvs):b≠d:=λz=>by
 let#[o,ho,hc,_]:=t;let#[o2,es,ep,fA,ko,_]:=q;subst z;rw[ho] at fA;cases fA;let xM:=ko.1;rw[hc] at xM;exact absurd xM (by decide)
theorem FH{h h':Heap}{d:Addr}{kvs:List (K × Aa)}(q:h.DictOf knd d kvs)(k:∀o,h.get? d\o->h'.get? d\o):h'.DictOf knd d kvs:=by
 let#[o,es,ep,ho,r]:=q;exact#[o,es,ep,k _ ho,r]
theorem ht_{it l d a:Addr}{i:Nat}{its:ag}{key x:Aa}{k:K}{kvs:List (K × Aa)}{s:Ab}{R:Result->Ab->Prop}{tk:Tok}(zQ:d≠it)(hi:its.toArray[i]? = some (.ref a))(ht:IsTup s.heap a (List.toArray [key,x]))(hk:knd.is k key=true)
  (hit:s.heap.IsListIter it l i) (hl:s.heap.IsList l its.toArray) (hd:s.heap.DictOf knd d kvs) (hz:kvs.length<=1000)
  (hR:∀h2,h2.DictOf knd d (stored kvs k x)->(∀b o,b≠d->b≠it->s.heap.get? b\o->h2.get? b\o)->h2.IsListIter it l (i+1)->codeAny (model prog w) A (.builtin "dict.update.loop" #[[.ref d,.ref it,rawInt ((i:Int)+1),.none],[]]) R { s with heap:=h2,toks:=s.toks+1 }) :
  codeAny (model prog w) A (.builtin "dict.update.loop" #[[.ref d,.ref it,.int i tk,.none],[]]) R s:=by
 apply codeAny_builtin Jd ?_;rw[xX x_ _,HP];apply af (wpAny_pyNext_list_item hit hl hi λh1 vO vL=>?_);let#[ot,hot,EI,nt,hdt]:=id ht;have Eh:h1.get? a\ot:=vL.extBut _ _ (Uz ht hit) hot;apply af (iK (af (wpAny_tryCatch ?_)));unfold Builtin.Dict.pairItems;apply af (wpAny_typeOf (T:="tuple") #[ot,Eh,EI] ?_);rw[aJ (by decide)];unfold seqItems?;apply af (af (wpAny_load Eh ?_));rw[hdt];apply aC (aC ?_);apply (show wpAny _ _ (holding [key,x] (dictSet d key x)) _ _ _ from iK (wpAny_dictSet_pairs hk (FH hd λo q=>vL.extBut _ _ zQ q) (λh2 hd2 vK=>?_) (by have:=cU;omega)));exact aC #[plainId_quiet x_ _,hR h2 hd2 (λb o h3 h4 q=>vK.extBut _ _ h3 (vL.extBut _ _ h4 q)) (vO.extBut vK.extBut (bG zQ))]
theorem _t{it l d:Addr}{i:Nat}{its:ag}{kvs:List (K × Aa)}{s:Ab}{R:Result->Ab->Prop}{tk:Tok}(zQ:d≠it)(hh:A.handled=none)(hi:its.toArray[i]? = none)
  (hit:s.heap.IsListIter it l i) (hl:s.heap.IsList l its.toArray) (hd:s.heap.DictOf knd d kvs)
  (hR:∀h',h'.DictOf knd d kvs->(∀b o,b≠it->s.heap.get? b\o->h'.get? b\o)->R (.ok (.ret .none)) { s with heap:=h' }) :
  codeAny (model prog w) A (.builtin "dict.update.loop" #[[.ref d,.ref it,.int i tk,.none],[]]) R s:=by
 apply codeAny_builtin Jd ?_;rw[xX x_ _,HP];apply af (wpAny_pyNext_list_end hh hit hl hi λh' he=>?_);exact af (m:=Builtin.Dict.addKeywords d []) (aC (aC (hR h' (FH hd λo q=>he _ _ zQ q) λb o hb q=>he b o hb q)))
theorem YL{it l d:Addr}(EC:l≠it)(zQ:d≠it)(G5:d≠l)(hh:A.handled=none){its:ag}(rest:ag):∀(ps:List (K × Aa)) (i:Nat) (kvs:List (K × Aa)) (s:Ab) (R:Result->Ab->Prop) (tk:Tok),its.drop i=rest->Nh knd s.heap rest ps->
  s.heap.IsListIter it l i->s.heap.IsList l its.toArray->s.heap.DictOf knd d kvs->kvs.length+ps.length<=1000->
  (∀h' ij,h'.DictOf knd d (eW kvs ps)->(∀b o,b≠d->b≠it->s.heap.get? b\o->h'.get? b\o)->R (.ok (.ret .none)) { s with heap:=h',toks:=ij })->
  codeAny (model prog w) A (.builtin "dict.update.loop" #[[.ref d,.ref it,.int i tk,.none],[]]) R s:=by
 induction rest with
 |nil=>
  intro ps i kvs s R tk e hp hit hl hd hz hR;cases hp
  have hi:its.toArray[i]? = none:=by
   have:=eG List.length e;simp only[List.length_drop,List.length_nil] at this;simp;omega
  exact _t zQ hh hi hit hl hd λh' iW kp=>hR h' s.toks iW λb o _ hb q=>kp b o hb q
 |cons v rest ih=>
  intro ps i kvs s R tk e hp hit hl hd hz hR;cases hp with
  |@cons _ p _ ps h0 hr=>
  let#[a,key,hv,ht,hk]:=h0;let#[k,x]:=p;subst hv
  have hi:its.toArray[i]? = some (.ref a):=by
   have q:(its.drop i)[0]? = some (.ref a):=by rw[e];rfl
   rw[List.getElem?_drop] at q;simpa using q
  have e':its.drop (i+1)=rest:=by
   rw[<- List.drop_drop,e];rfl
  simp only[jr] at hz;apply ht_ zQ hi ht hk hit hl hd Z1 λh2 hd2 kp zM=>?_;have c1:((i:Int)+1)=((i+1:Nat):Int):=by omega
  rw[c1];apply ih ps (i+1) (stored kvs k x) _ R 0 e' (L2.Paired.aU hr λv p ⟨b,ky,e1,t1,k1⟩=>#[b,ky,e1,?_,k1]) zM (hl.at λo q=>kp _ _ (bG G5) EC q) hd2 (by have:=T5 kvs k x;omega) λh' ij iW KU=>hR h' ij iW λb o h3 h4 q=>KU b o h3 h4 (kp b o h3 h4 q);let#[o,ho,r]:=id t1;exact#[o,kp _ _ (ef_ t1 hd) (Uz t1 hit) ho,r]
theorem e2_{E:Aa->Ab->Prop}{s:Ab}{l:Addr}{its:ag}{n:Nat}{ps:List (K × Aa)}{Q:Aa->Ab->Prop}(hh:A.handled=none)(ho:s.heap.get? l\seqObj "list" its.toArray n)(hp:Nh knd s.heap its ps)(hz:ps.length<=1000)
  (h:∀h' ij,h'.DictOf knd s.heap.objs.size (eW [] ps)->(∀b o,s.heap.get? b\o->h'.get? b\o)->Q (.ref s.heap.objs.size) { s with heap:=h',toks:=ij }) :
  wpAny (model prog w) A (call (.type "dict") [.ref l]) Q E s:=by
 apply callType_codes (Q₁:=λobj aK=>obj=.ref s.heap.objs.size/\aK={ s with heap:=s.heap.push { cls:=.type "dict",data:=.dict #[] } }) F.kt_called_dict (F.kt_typeCall_dict_1 _) F.entry_dict_init (kt_code_dict_new _ #[U,U]) ?_;rintro obj aK ⟨rfl,rfl⟩;have iU:(s.heap.push { cls:=.type "dict",data:=.dict #[] }).DictOf knd s.heap.objs.size []:=Heap.DictOf.new s.heap;have eY:(s.heap.push { cls:=.type "dict",data:=.dict #[] }).get? l\seqObj "list" its.toArray n:=aS _ ho;apply#[iU.typeIs,F.args_dict_init_2 _ _,?_];unfold Builtin.«dict.__init__» Builtin.Dict.selfAndRest;apply af (af (wpAny_notOrdered_dict iU.typeIs ?_));apply (show wpAny _ _ (pure (s.heap.objs.size,[Value.ref l])) _ _ _ from aC ?_);apply (show wpAny _ _ (Builtin.Dict.updateFrom "dict.__init__" s.heap.objs.size (.ref l) [] .none) _ _ _ from ?_);unfold Builtin.Dict.updateFrom;apply af (wpAny_typeOf (T:="list") #[_,eY,U] ?_);rw[aJ (by decide)];apply af (y8 eY hh λh2 V3 k2=>?_);simp only[Option.isNone_none,if_true];have jh:h2.get? l\seqObj "list" its.toArray n:=k2 _ _ eY;apply af (wpAny_rule (af (wpAny_pyIter_list #[_,jh,U,_,U] ?_)));apply aC #[plainId_quiet x_ _,?_];have all:∀{b o},s.heap.get? b\o->(h2.push { cls:=.type "list_iterator",data:=.fields (List.toArray [.ref l,.int 0 0]) }).get? b\o:=λq=>aS _ (k2 _ _ (aS _ q))
 have hd2:h2.DictOf knd s.heap.objs.size []:=by
  let#[o,es,ep,ho,r]:=iU;exact#[o,es,ep,k2 _ _ ho,r]
 have CK:s.heap.objs.size<h2.objs.size:=by
  let#[o,es,ep,ho,r]:=hd2;exact bp ho
 have lz:l<s.heap.objs.size:=bp ho
 apply YL (A:=A.in1) (knd:=knd) (its:=its) (it:=h2.objs.size) (l:=l) (d:=s.heap.objs.size) (dC (Nat.lt_trans lz CK)) (dC CK) (i_ lz) hh its ps 0 [] _ _ 0 U (L2.Paired.aU hp λv p ⟨b,ky,e1,t1,k1⟩=>#[b,ky,e1,t1.keeps λb o q=>all q,k1])
  #[_,cy _ U,U,U] #[_,aS _ jh,U,_,U] (by
   let#[o,es,ep,ho,r]:=hd2;exact#[o,es,ep,aS _ ho,r]) ⇑hz λh' ij iW kp=>#[U,h h' ij iW λb o q=>?_]
 have bl:b<s.heap.objs.size:=bp q;exact kp b o (dC bl) (dC (Nat.lt_trans bl CK)) (all q)
end
end dO
theorem zl{n:Nat}(h:decide (n<=16777216)=true:=by rfl):n<=PySem.sizeLine:=by
 rw[PySem.sizeLine_eq];exact ph h
namespace L2
open PySem PySem.Spec PyProof.Rows PySem.W kJ dO
theorem bS.same{K:aj}{H H':Hp}{ys:ai}{ks:List av}(t:bS K H ys ks)(e:aa H H'):bS K H' ys ks:=Paired.aU t λy k ⟨a,z,q⟩=>#[a,z,e _ _ q]
theorem aa.new{H:Hp}{l:Addr}{o:HO}(h:H l=none):aa H (upd H l o):=λb u e=>by rw[ax (bq e h)];exact e
section
variable{X:Cx}{pins:List (Addr × Obj)}{σ:St}{H H':Hp}{s:Ab}{h':Heap}{t':Nat}
theorem Inv.many(I:Inv X pins σ H s)(k:∀b o,s.heap.get? b\o->h'.get? b\o)(hold:aa H H')(iU:∀b,H b=none->b<s.heap.objs.size->H' b=none)
  (hob:∀b o,H' b\o->H b=none->∃xs its,o=.tup xs/\xs.length<=sizeLine/\Vals xs its/\IsTup h' b its.toArray/\∃o,h'.get? b\o/\o.dict=none):Inv X pins σ H' { s with heap:=h',toks:=t' }:=by
 apply I.un #[λb o q _ _ _=>k b o q,λb o q _ _ _=>#[o.slots,k b o q],λb o q n _=>iU b n (bp q),λb o q _=>#[o,k b o q],λb xs q=>hold b _ q,λb o u q=>hold b _ q,λb ps q=>#[#[],by rw[Array.append_empty];exact hold b _ q]] λb o q=>?_;cases e:H b with
 |some u=>
  let e2:=hold b u e;rw[q] at e2;cases e2;exact (I.ay b o e).eS (λc v _ z=>k c v z) (λc z=>hold c _ z) λc xs z=>hold c _ z
 |none=>
  let#[xs,its,rfl,z,r,t]:=hob b o q e;exact#[z,its,r,t]
end
section
variable{X:Cx}{pins:List (Addr × Obj)}{σ:St}{H:Hp}{s:Ab}{A:Ag}{E:Aa->Ab->Prop}
theorem hW_{p:Addr}{ys:ai}{R:ag->Ab->Prop}(I:Inv X pins σ H s)(h:dZ X.K H p ys)(hz:ys.length<=100000)(q:∀vs s1,Inv X pins σ H s1->Vals ys vs->R vs s1):wpAny (model X.prog X.w) A (collect (.ref p)) R E s:=by
 let#[its,r,pl,_]:=I.list h;let hl:=r.length;apply collect_list pl.isList (q its _ ?_ r) (by have:=cU;omega);apply I.kept (t':=s.toks) λb u e=>?_;have lt:b<s.heap.objs.size:=bp e;rw[Heap.get?_update_ne _ _ _ _ (dC lt)];exact aS _ e
theorem Jj{P:Nat->Aa->Prop}{acc:Array Aa}{ys:ai}(h:ItemsOf P acc ys.length)(hp:∀(j:Nat) v,P j v->∀y,ys[j]? = some y->RelV y v):Vals ys acc.toList:=by
 have gen:∀(ys:ai) (vs:ag),ys.length=vs.length->(∀(j:Nat) y v,ys[j]? = some y->vs[j]? = some v->RelV y v)->Vals ys vs:=λys=>by
  induction ys with
  |nil=>
   intro vs hl _;cases vs with
   |nil=>exact .nil
   |cons _ _=>cases hl
  |cons y ys ih=>
   intro vs hl h;cases vs with
   |nil=>cases hl
   |cons v vs=>exact .cons (h 0 y v U U) (ih vs ⇑hl λj y v a b=>h (j+1) y v ⇑a ⇑b)
 apply gen ys acc.toList (by rw[pE];exact h.1.symm) λj y v a b=>hp j v (h.2 j v ?_) y a;rw[<- Array.getElem?_toList];exact b
theorem QP{d:Addr}{kvs:List (Key × V)}(I:Inv X pins σ H s)(h:Rd H d (.dK kvs)):∃(P:Nat->Aa->Prop) (OK:Heap->Prop),KdlSrc X.prog X.w "dict" d d (kvs.map λkv=>kV kv.1).length P OK/\OK s.heap/\∀(j:Nat) v,P j v->∀y,(kvs.map λkv=>kV kv.1)[j]? = some y->RelV y v:=by
 let#[z,hd,vs,rel,dd]:=jM I.ay h;let#[ep,dat]:=dd.dictAt;let hl:=rel.length;apply#[λi v=>∃k x,vs[i]? = some (k,x)/\(ft X.prog X.w).is k v=true,λh=>h.DictAt (ft X.prog X.w) d vs ep,(by rw[au,hl];exact kdl_dict (knd:=ft X.prog X.w) (kvs:=vs) (ep:=ep) hd),dat,λj v ⟨k,x,e,hk⟩ y hy=>?_];rw[dF] at hy;have ek:kvs.map (·.1)=vs.map (·.1):=rel.keys;have e2:(kvs.map (·.1))[j]? = (vs.map (·.1))[j]?:=by rw[ek]
 rw[dF,dF,e] at e2;cases e3:kvs[j]? with
 |none=>rw[e3] at e2;cases e2
 |some kv=>
  rw[e3] at e2 hy;have e4:kv.1=k:=cu e2;have e5:kV kv.1=y:=cu hy;rw[<- e5,e4];have hk:wk k v=true:=hk;rcases qf hk with⟨i,t,rfl,rfl⟩|⟨x,t,rfl,rfl⟩
  ·exact#[t,U]
  exact#[t,U]
theorem Q7{d:Addr}{kvs:List (Key × V)}{R:ag->Ab->Prop}(hh:A.handled=none)(I:Inv X pins σ H s)(h:Rd H d (.dK kvs))(q:∀vs s1,Inv X pins σ H s1->Vals (kvs.map λkv=>kV kv.1) vs->R vs s1):wpAny (model X.prog X.w) A (collect (.ref d)) R E s:=by
 let#[P,OK,S,ok,hp]:=QP I h;apply kdu_collect S hh ok ?_ λh' tk acc k a=>q _ _ (I.kept k) (Jj a hp);rw[au];exact (jM I.ay h).1
theorem Yd{d:Addr}{kvs:List (av × V)}(I:Inv X pins σ H s)(h:Rd H d (.dT kvs)):∃(ys:ai) (P:Nat->Aa->Prop) (OK:Heap->Prop),bS X.K H ys (kvs.map (·.1))/\ys.length<=sizeLine/\KdlSrc X.prog X.w "dict" d d ys.length P OK/\OK s.heap/\∀(j:Nat) v,P j v->∀y,ys[j]? = some y->RelV y v:=by
 let#[z,hd,xs,rel,o,es,ep,ho,hc,jF,vP,nd]:=h.ok I.ay
 have l1:es.size=xs.length:=by
  have:=eG List.length vP;simpa using this
 let l2:=bj rel;apply#[xs.map λx=>V.ref x.2.1,λi v=>∃h:i<es.size,v=es[i].key,λh=>Raw h d es ep,?_,by rw[au];omega,(by rw[au,<- l1];exact Zt (es:=es) (ep:=ep) hd),#[o,ho,hc,jF],λj v ⟨hj,e⟩ y hy=>?_]
 ·have gen:∀{kvs:List (av × V)} {xs:List (av × Addr × Aa)},KT H kvs xs->bS X.K H (xs.map λx=>V.ref x.2.1) (kvs.map (·.1)):=λ{kvs xs} r=>by
   induction r with
   |nil=>exact .nil
   |cons h _ ih=>exact .cons #[_,U,h.2.1] ih
  exact gen rel
 rw[dF] at hy;have hx:j<xs.length:=by omega
 rw[aY hx] at hy;have e1:V.ref xs[j].2.1=y:=cu hy
 have e2:es[j]=entryOfKey (tupleKind (ft X.prog X.w)) xs[j]:=by
  have e3:es.toList[j]? = (xs.map (entryOfKey (tupleKind (ft X.prog X.w))))[j]?:=by rw[vP]
  rw[dF,aY hx,Array.getElem?_toList,Array.getElem?_eq_getElem hj] at e3;exact cu e3
 rw[<- e1,e,e2];rfl
theorem Yr{d:Addr}{kvs:List (av × V)}{R:ag->Ab->Prop}(hh:A.handled=none)(I:Inv X pins σ H s)(h:Rd H d (.dT kvs))(q:∀ys vs s1,Inv X pins σ H s1->Vals ys vs->bS X.K H ys (kvs.map (·.1))->R vs s1):wpAny (model X.prog X.w) A (collect (.ref d)) R E s:=by
 let#[ys,P,OK,t,z,S,ok,hp]:=Yd I h;exact kdu_collect S hh ok z λh' tk acc k a=>q ys _ _ (I.kept k) (Jj a hp) t
def tK(v d:Addr):HO:=.ext λh=>h.IsItemsView v d
def uG(v d:Addr):HO:=.ext λh=>h.IsValuesView v d
def kr(K:aj)(H:Hp):ai->List (Key × V)->Prop:=Paired λy p=>∃a,y=V.ref a/\H a\.tup [kV p.1,p.2]
theorem gX_{v d:Addr}{kvs:List (Key × V)}{R:ag->Ab->Prop}(hh:A.handled=none)(I:Inv X pins σ H s)(hv:H v\tK v d)(h:Rd H d (.dK kvs))(q:∀H1 ys vs s1,Inv X pins σ H1 s1->aa H H1->Vals ys vs->kr X.K H1 ys kvs->R vs s1) :
  wpAny (model X.prog X.w) A (collect (.ref v)) R E s:=by
 let#[z,hd,vs,rel,dd]:=jM I.ay h;let#[ep,dat]:=dd.dictAt;let#[iv,_,_]:=I.ay v _ hv;let hl:=rel.length;apply kdx_collect (knd:=ft X.prog X.w) (kvs:=vs) (ep:=ep) hh iv dat Z1 λh' tk as k la G=>?_;have up:∀b,b∈as->s.heap.objs.size<b:=G.above
 have at1:∀(j:Nat) b p,as[j]? = some b->kvs[j]? = some p->∃its,Vals [kV p.1,p.2] its/\IsTup h' b its.toArray/\∃o,h'.get? b\o/\o.dict=none:=λj b p hj hp=>by
  let#[key,kk,x,e1,e2,e3]:=G.pairs j b hj
  have gen:∀{kvs:List (Key × V)} {vs:List (Key × Aa)},KV kvs vs->∀(j:Nat),vs[j]? = some (kk,x)->kvs[j]? = some p->p.1=kk/\RelV p.2 x:=λ{kvs vs} r=>by
   induction r with
   |nil=>intro j e;simp at e
   |@cons p' q _ _ h _ ih=>
    intro j e e';cases j with
    |zero=>
     have e:q=(kk,x):=⇑e
     have e':p'=p:=⇑e'
     subst e';rw[e] at h;exact h
    |succ j=>exact ih j ⇑e ⇑e'
  let#[g1,g2]:=gen rel j e1 hp;apply#[[key,x],.cons ?_ (.cons g2 .nil),#[_,e3,U,_,U],_,e3,U];rw[g1];have e2:wk kk key=true:=e2;rcases qf e2 with⟨i,t,rfl,rfl⟩|⟨x,t,rfl,rfl⟩
  ·exact#[t,U]
  exact#[t,U]
 have look:∀{as:ao} {kvs:List (Key × V)},as.Pairwise (· < ·)->∀(j:Nat) b p,as[j]? = some b->kvs[j]? = some p->(as.zip kvs).lookup b\p:=λ{as}=>by
  induction as with
  |nil=>intro kvs _ j b p e;simp at e
  |cons a as ih=>
   intro kvs pw j b p e e';cases kvs with
   |nil=>simp at e'
   |cons q kvs=>
    let#[p1,p2]:=List.pairwise_cons.mp pw;show ((a,q)::as.zip kvs).lookup b\p;cases j with
    |zero=>
     have e:a=b:=⇑e
     have e':q=p:=⇑e'
     subst e;subst e';rw[List.lookup_cons_self]
    |succ j=>
     have e:as[j]? = some b:=⇑e
     have e':kvs[j]? = some p:=⇑e'
     let lt:=p1 b (cz e);rw[qc,show (b == a)=false by simp only[beq_eq_false_iff_ne];exact i_ lt];exact ih p2 j b p e e'
 have lk:as.length=kvs.length:=by omega
 let H1:Hp:=λb=>if b∈as then ((as.zip kvs).lookup b).map λp=>HO.tup [kV p.1,p.2] else H b
 have EZ:∀(j:Nat) b p,as[j]? = some b->kvs[j]? = some p->H1 b\.tup [kV p.1,p.2]:=λj b p e e'=>by
  show (if b∈as then _ else _)=_;rw[aJ (cz e),look G.rise j b p e e'];rfl
 have oo:∀b,b∉as->H1 b=H b:=λb hb=>aB hb;have old:∀b,b<s.heap.objs.size->b∉as:=λb hb m=>absurd (up b m) Z1;apply q H1 (as.map V.ref) _ _ (I.many (t':=tk) k (λb o e=>by rw[oo b (old b (I.ay.lt e))];exact e) (λb e hb=>by rw[oo b (old b hb)];exact e) λb o e e0=>?_) (λb o e=>by rw[oo b (old b (I.ay.lt e))];exact e) ?_ ?_
 ·by_cases m:b∈as
  ·let#[j,hj]:=List.mem_iff_getElem?.mp m
   have jl:j<kvs.length:=by
    have:=(b_.mp hj).1;omega
   let e':=EZ j b kvs[j] hj (aY jl);rw[e] at e';cases e';let#[its,r,t]:=at1 j b _ hj (aY jl);exact#[_,its,U,zl,r,t]
  rw[oo b m,e0] at e;cases e
 ·have gen:∀as:ao,Vals (as.map V.ref) (as.map Value.ref):=λas=>by
   induction as with
   |nil=>exact .nil
   |cons a as ih=>exact .cons U ih
  exact gen as
 have gen:∀(BV:ao) (fL:List (Key × V)),BV.length=fL.length->(∀(j:Nat) b p,BV[j]? = some b->fL[j]? = some p->H1 b\.tup [kV p.1,p.2])->kr X.K H1 (BV.map V.ref) fL:=λBV=>by
  induction BV with
  |nil=>
   intro fL hl _;cases fL with
   |nil=>exact .nil
   |cons _ _=>cases hl
  |cons a BV ih=>
   intro fL hl h;cases fL with
   |nil=>cases hl
   |cons p fL=>exact .cons #[a,U,h 0 a p U U] (ih fL ⇑hl λj b p e e'=>h (j+1) b p ⇑e ⇑e')
 exact gen as kvs lk EZ
end
end L2
namespace L2
open PySem PySem.Spec PyProof.Rows PySem.W kJ dO
theorem SI{a b:ae}(h:a.map bM=b.map bM):a=b:=by
 induction a generalizing b with
 |nil=>
  cases b with
  |nil=>rfl
  |cons _ _=>cases h
 |cons x a ih=>
  cases b with
  |nil=>cases h
  |cons y b=>
   let#[h1,h2]:=List.cons.inj h;have h1:[(Sum.inr x:Key)]=[Sum.inr y]:=h1;cases h1;rw[ih h2]
theorem Oy(ss:ae):(iA ss).map bM=a_ (ss.map bM):=by
 have all:∀k∈a_ (ss.map bM),∃x,k=bM x:=λk hk=>by
  let#[x,_,e]:=bw.mp ((tS _).mem_iff.mp hk);exact#[x,e.symm]
 have gen:∀l:List av,(∀k∈l,∃x,k=bM x)->(l.map λk=>match k with | [.inr x]=>x|_=>(⟨#[]⟩:Str)).map bM=l:=λl=>by
  induction l with
  |nil=>exact λ_=>rfl
  |cons k l ih=>
   intro h;let#[x,rfl]:=h k gB;rw[eZ,eZ,ih λk hk=>h k (fN _ hk)];rfl
 exact gen _ all
theorem FI(ss:ae):(iA ss).Perm ss:=by
 have p:((iA ss).map bM).Perm (ss.map bM):=by rw[Oy];exact tS _
 have back:∀l:ae,(l.map bM).map (λk=>match k with | [.inr x]=>x|_=>(⟨#[]⟩:Str))=l:=λl=>by
  rw[cY]
  induction l with
  |nil=>rfl
  |cons x l ih=>rw[eZ,ih];rfl
 let q:=p.map (λk=>match k with | [.inr x]=>x|_=>(⟨#[]⟩:Str));rwa [back,back] at q
section
variable{X:Cx}{pins:List (Addr × Obj)}{σ:St}{H:Hp}{s:Ab}
theorem e3_{u:Aa}{ss:ae}{Q:VK}(cX:ss.length<64)(l_:wpAny (model X.prog X.w) X.A.in1 (collect u) (λvs s1=>∃H1,Inv X pins σ H1 s1/\Vals (ss.map V.str) vs/\∀l,H1 l=none->Q (.ref l) (upd H1 l (.lst ((iA ss).map V.str)))) X.xe s) :
  wpAny (model X.prog X.w) X.A (call (.builtin "sorted") [u]) (EP X pins σ Q) X.xe s:=by
 apply T1 (MU (ss.map bM)) (aQ l_ λvs s1 ⟨H1,I1,r,q⟩=>?_);have hl:vs.length=ss.length:=by rw[<- r.length,au]
 apply#[by omega,λh2 h' _=>Ui (Sw r) h2,λp h' e g up hD kp=>?_];have g':Good (ss.map bM).length p:=by rw[au,<- hl];exact g
 let asc:=ML (ks:=ss.map bM) (λi j _ _=>rfl) g' (by rw[au,<- hl];exact up)
 have perm:(p.toList.map λi=>(ss.map bM).getD i []).Perm (ss.map bM):=by
  have:=FU g' λi=>(ss.map bM).getD i [];rwa [FV] at this
 let es:=N3 perm asc
 have inr:∀i∈p.toList,i<ss.length:=λi hi=>by
  have m:i∈(List.range vs.length).toArray:=g.mem_iff.mp ⇑hi;rw[hl] at m;simpa using m
 have e1:(p.toList.map λi=>ss.getD i ⟨#[]⟩)=iA ss:=by
  apply SI ?_;rw[Oy,<- es,cY];apply uP λi hi=>?_;have:=inr i hi;simp[this]
 let rv:=NA r g
 have e2:(p.toList.map λi=>(ss.map V.str).getD i .non)=(iA ss).map V.str:=by
  rw[<- e1,cY];apply uP λi hi=>?_;have:=inr i hi;simp[this]
 rw[e2] at rv;apply#[.ref s1.heap.objs.size,_,I1.laid (t':=s1.toks) kp (bc _) (show fC X.prog X.w _ h' _ (.lst ((iA ss).map V.str)) from #[?_,mw p vs,e,rv,hD]),U,q _ (I1.ay.fresh (bc _))];rw[au,(FI ss).length_eq];have:=cU;omega
theorem hZ_{K:aj}{H:Hp}{ys:ai}{ks:List av}(t:bS K H ys ks):∀l:List Nat,(∀i∈l,i<ys.length)->bS K H (l.map λi=>ys.getD i .non) (l.map λi=>ks.getD i []):=λl=>by
 induction l with
 |nil=>exact λ_=>.nil
 |cons i l ih=>
  intro h;apply .cons ?_ (ih λj hj=>h j (fN _ hj));let hi:=h i gB
  have gen:∀{ys:ai} {ks:List av} (i:Nat),i<ys.length->bS K H ys ks->∃a,ys.getD i .non=V.ref a/\H a\.tup ((ks.getD i []).map kV):=λ{ys ks} i hy t=>by
   induction t generalizing i with
   |nil=>exact absurd hy Z2
   |cons h t ih=>
    cases i with
    |zero=>exact h
    |succ i=>exact ih i ⇑hy
  exact gen i hi t
theorem UD{u:Aa}{ks:List av}{sh:List Bool}{Q:VK}(cX:ks.length<64)(al:Alike ks sh)
  (l_:wpAny (model X.prog X.w) X.A.in1 (collect u) (λvs s1=>∃H1 ys,Inv X pins σ H1 s1/\Vals ys vs/\bS X.K H1 ys ks/\∀l zs,H1 l=none->bS X.K H1 zs (a_ ks)->zs.Perm ys->Q (.ref l) (upd H1 l (.lst zs))) X.xe s) :
  wpAny (model X.prog X.w) X.A (call (.builtin "sorted") [u]) (EP X pins σ Q) X.xe s:=by
 apply T1 (MU ks) (aQ l_ λvs s1 ⟨H1,ys,I1,r,t,q⟩=>?_);let l1:=r.length;let l2:=bj t;have hl:vs.length=ks.length:=by omega
 apply#[by omega,λh2 h' k=>h1_ I1 r t al h2 k,λp h' e g up hD kp=>?_];have g':Good ks.length p:=by rw[<- hl];exact g
 let asc:=ML (ks:=ks) (λi j _ _=>rfl) g' (by rw[<- hl];exact up)
 have perm:(p.toList.map λi=>ks.getD i []).Perm ks:=by
  have:=FU g' λi=>ks.getD i [];rwa [FV] at this
 let es:=N3 perm asc
 have inr:∀i∈p.toList,i<ys.length:=λi hi=>by
  have m:i∈(List.range vs.length).toArray:=g.mem_iff.mp ⇑hi;rw[<- l1] at m;simpa using m
 let tz:=hZ_ t p.toList inr;rw[es] at tz;let rv:=NA r g
 have pz:(p.toList.map λi=>ys.getD i .non).Perm ys:=by
  have:=FU (n:=ys.length) (by rw[l1];exact g) λi=>ys.getD i .non;rwa [FV] at this
 apply#[.ref s1.heap.objs.size,_,I1.laid (t':=s1.toks) kp (bc _) (show fC X.prog X.w _ h' _ (.lst (p.toList.map λi=>ys.getD i .non)) from #[?_,mw p vs,e,rv,hD]),U,q _ _ (I1.ay.fresh (bc _)) tz pz];rw[pz.length_eq];have:=cU;omega
end
section
variable{X:Cx}
inductive nD (K:aj) (xs:ai) (H:Hp) (Q:VK):Prop
 |mk:∀d kvs sh,xs=[.ref d]->H d\.dT kvs->Alike (kvs.map (·.1)) sh->kvs.length<64->(∀l zs,H l=none->bS K H zs (a_ (kvs.map (·.1)))->Q (.ref l) (upd H l (.lst zs)))->nD K xs H Q
theorem eq_(hc:X.calm=true):gG X (.builtin "sorted") (nD X.K):=by
 intro pins s σ H xs us Q I r h;let#[d,kvs,sh,rfl,hd,al,cX,q]:=h;let#[u,rfl,ru]:=vals1 r;cases ru;exact UD (by rw[au];exact cX) al (Yr (I.ok.hd hc) I (.inl hd) λys vs s1 I1 r1 t=>⟨H,ys,I1,r1,t,λl zs n t' _=>q l zs n t'⟩)
inductive nE (xs:ai) (H:Hp) (Q:VK):Prop
 |mk:∀d kvs ss,xs=[.ref d]->H d\.dK kvs->kvs.map (·.1)=ss.map Sum.inr->ss.length<64->(∀l,H l=none->Q (.ref l) (upd H l (.lst ((iA ss).map V.str))))->nE xs H Q
theorem ee_(hc:X.calm=true):gG X (.builtin "sorted") nE:=by
 intro pins s σ H xs us Q I r h;let#[d,kvs,ss,rfl,hd,ek,cX,q]:=h;let#[u,rfl,ru]:=vals1 r;cases ru;apply e3_ cX (Q7 (I.ok.hd hc) I (.inl hd) λvs s1 I1 r1=>⟨H,I1,?_,q⟩)
 have e:(kvs.map λkv=>kV kv.1)=ss.map V.str:=by
  rw[show (kvs.map λkv=>kV kv.1)=(kvs.map (·.1)).map kV by rw[cY];rfl,ek,cY];rfl
 rwa [e] at r1
inductive rK (K:aj) (xs:ai) (H:Hp) (Q:VK):Prop
 |mk:∀(v d:Addr) (kvs:List (Key × V)) (ks:List (Key × Key)) (sh:List Bool),xs=[.ref v]->H v\tK v d->H d\.dK kvs->kvs=ks.map (λk:Key × Key=>(k.1,kV k.2))->Alike (ks.map λk=>[k.1,k.2]) sh->ks.length<64->(∀l H1 zs,aa H H1->H1 l=none->bS K H1 zs (a_ (ks.map λk=>[k.1,k.2]))->Q (.ref l) (upd H1 l (.lst zs)))->rK K xs H Q
theorem fI_(hc:X.calm=true):gG X (.builtin "sorted") (rK X.K):=by
 intro pins s σ H xs us Q I r h;let#[v,d,kvs,ks,sh,rfl,hv,hd,ek,al,cX,q]:=h;let#[u,rfl,ru]:=vals1 r;cases ru;apply UD (by rw[au];exact cX) al (gX_ (I.ok.hd hc) I hv (.inl hd) λH1 ys vs s1 I1 sm r1 t=>⟨H1,ys,I1,r1,?_,λl zs n t' _=>q l H1 zs sm n t'⟩);subst ek
 have gen:∀(ks:List (Key × Key)) (ys:ai),kr X.K H1 ys (ks.map (λk:Key × Key=>(k.1,kV k.2)))->bS X.K H1 ys (ks.map λk=>[k.1,k.2]):=λks=>by
  induction ks with
  |nil=>
   intro ys t;cases t;exact .nil
  |cons k ks ih=>
   intro ys t;cases t with
   |cons h t=>exact .cons h (ih _ t)
 exact gen ks ys t
inductive rN (xs:ai) (H:Hp) (Q:VK):Prop
 |mk:∀d kvs,xs=[.ref d]->Rd H d (.dK kvs)->(∀l,H l=none->Q (.ref l) (upd H l (.lst (kvs.map λkv=>kV kv.1))))->rN xs H Q
theorem NY(hc:X.calm=true):gG X (.type "list") rN:=by
 intro pins s σ H xs us Q I r h;let#[d,kvs,rfl,hd,q]:=h;let#[u,rfl,ru]:=vals1 r;cases ru;let#[P,OK,S,ok,hp]:=QP I hd;let z:=(jM I.ay hd).1;apply kdl_call S (I.ok.hd hc) ok (by rw[au];exact z) λh' tk acc c k hD a=>?_;apply#[.ref s.heap.objs.size,_,I.laid (t':=tk) k (bc _) (show fC X.prog X.w _ h' _ (.lst (kvs.map λkv=>kV kv.1)) from #[by rw[au];exact z,acc.toList,c,Jj a hp,by rw[Array.toArray_toList];exact hD]),U,q _ I.fresh]
theorem KV.eW{κ:Type}[DecidableEq κ]:∀{more:List (κ × V)} {rs:List (κ × Aa)} {kvs:List (κ × V)} {vs:List (κ × Aa)},KV more rs->KV kvs vs->KV (more.foldl (λacc kv=>putK acc kv.1 kv.2) kvs) (dO.eW vs rs):=λ{more rs kvs vs} h=>by
 induction h generalizing kvs vs with
 |nil=>exact λh=>h
 |@cons p q _ _ h _ ih=>
  intro h2;let#[k,y]:=p;let#[k',u]:=q;let#[h1,h3]:=h;have h1:k=k':=h1;subst h1;exact ih (h2.put k h3)
inductive nJ (K:aj) (xs:ai) (H:Hp) (Q:VK):Prop
 |mk:∀p ys kvs,xs=[.ref p]->H p\.lst ys->kr K H ys kvs->kvs.length<=1000->(∀l,H l=none->Q (.ref l) (upd H l (.dK (wb [] kvs))))->nJ K xs H Q
theorem AZ(hc:X.calm=true):gG X (.type "dict") (nJ X.K):=by
 intro pins s σ H xs us Q I r h;let#[p,ys,kvs,rfl,hp,t,hz,q]:=h;let#[u,rfl,ru]:=vals1 r;cases ru;let#[z,its,n,rv,hl,ho]:=I.jB hp
 have gen:∀{ys:ai} {its:ag} {kvs:List (Key × V)},Vals ys its->kr X.K H ys kvs->∃ps,KV kvs ps/\Nh (ft X.prog X.w) s.heap its ps:=λ{ys its kvs} rv t=>by
  induction t generalizing its with
  |nil=>
   cases rv;exact#[[],.nil,.nil]
  |@cons y p ys kvs h t ih=>
   cases rv with
   |cons r0 rv=>
    let#[ps,h1,h2]:=ih rv;let#[a,e,sq]:=h;subst e;cases r0;let#[tv,rt,it,_]:=I.tuple (fH.of sq);let#[key,x,e2,rk,rx]:=vals2 rt;subst e2;apply#[(p.1,x)::ps,Paired.cons (show p.1=p.1/\RelV p.2 x from #[U,rx]) h1,Paired.cons (show ∃a' DW,Value.ref a=.ref a'/\IsTup s.heap a' (List.toArray [DW,x])/\(ft X.prog X.w).is p.1 DW=true from #[a,key,U,it,Ar rk]) h2]
 let#[ps,h1,h2]:=gen rv t;let lp:=KV.length h1;apply e2_ (knd:=ft X.prog X.w) (I.ok.hd hc) ho h2 Z1 λh' tk hd kp=>?_;apply#[.ref s.heap.objs.size,_,I.laid (t':=tk) kp (bc _) (Hl ?_ (beq_eq_false_iff_ne.mpr (bG (dC I.big))) (KV.eW h1 .nil) hd),U,q _ I.fresh];have:=ON kvs [];have:=cU;simp only[List.length_nil] at *;show (wb [] kvs).length<=sizeLine;omega
theorem SJ:∀{bs:List Bool} {vs:ag},Vals (bs.map V.bl) vs->vs=bs.map Value.bool
 |[],_,.nil=>rfl
 |b::bs,_,.cons h t=>by
  cases h;rw[SJ t];rfl
inductive Dh (K:aj) (g:List Bool->Bool) (xs:ai) (H:Hp) (Q:VK):Prop
 |mk:∀p bs,xs=[.ref p]->dZ K H p (bs.map V.bl)->Q (.bl (g bs)) H->Dh K g xs H Q
theorem hC_(hc:X.calm=true):gG X (.builtin "all") (Dh X.K λbs=>bs.all id):=by
 intro pins s σ H xs us Q I r h;let#[p,bs,rfl,hp,q]:=h;let#[u,rfl,ru]:=vals1 r;cases ru;let#[its,rv,pl,z]:=I.list hp;obtain rfl:=SJ rv;let hl:=pl.isList;have lt:p<s.heap.objs.size:=by let#[_,e,_]:=hl;exact bp e
 apply call_all_walk (wpAny_pyIter_list hl ⟨s.heap.objs.size,[s.heap.objs.size,p],[s.heap.objs.size],(bs.map Value.bool).toArray.size,_,_,λi=>(bs[i]?).getD true,rfl,Walks.list (A:=X.A.in1) (I.ok.hd hc) _ p (dC lt) _,⟨⟨_,cy _ rfl,rfl,rfl⟩,hl.push _⟩,λi v s' Q' E' hP hQ=>?_,λh' tk hk=>?_⟩)
 ·have hP:(bs.map Value.bool).toArray[i]? = some v:=hP;simp only[List.getElem?_toArray,dF] at hP;cases e:bs[i]? with
  |none=>rw[e] at hP;cases hP
  |some b=>
   have hQ:Q' ((bs[i]?).getD true) s':=hQ;rw[e] at hP hQ;cases hP;exact uA hQ
 have e:((List.range (bs.map Value.bool).toArray.size).all λi=>(bs[i]?).getD true)=bs.all id:=by
  rw[cQ,au];exact LSm.range_all bs
 rw[e];exact#[.bl _,H,I.kept (LSm.kept_iter hk),U,q]
theorem RW:∀{ns:List Int} {vs:ag},Vals (ns.map V.int) vs->IntsAre vs ns
 |[],_,.nil=>.nil
 |n::ns,_,.cons h t=>by
  let#[tk,rfl]:=h;exact .cons _ _ (RW t)
end
end L2
namespace Jp
open PySem PySem.SeqAt PyProof.Rows
open AutoSeq1 (wpAny_loadPart')
open MeetsSeq MeetsSeq2 MeetsSeq3 SeqRoads2
theorem YC(l b:Addr)(xs ys:Array Aa)(n m:Nat)(dl db:Option Addr)(sl sb:Array (Option Aa))(hs:xs.size=ys.size)(e:Nat->Bool)(k:Nat) :
  ∀i:Nat,xs.size - i=k->Meets (Builtin.«list.__eq__.loop» #[[.ref l,.ref b,rawInt i,rawInt 3],[]])
   (λA R s=>(s.heap.get? l=some { cls:=.type "list",dict:=dl,data:=.seq xs n,slots:=sl }/\s.heap.get? b=some { cls:=.type "list",dict:=db,data:=.seq ys m,slots:=sb }) /\
    (∀j (h1:j<xs.size) (h2:j<ys.size),EqAt A.in1 s xs[j] ys[j] (e j))/\R (.ok (.ret (.bool (!((List.range xs.size).drop i).all e)))) s):=by
 induction k with
 |zero=>
  intro i hk prog w A R s ⟨⟨gl,gb⟩,he,h⟩;let#[hp,g,d,tk,os]:=s
  wp_walk using pA gl,pA gb
  rw[show xs[((i:Nat):Int).toNat]? = none by simp;omega,show ys[((i:Nat):Int).toNat]? = none by simp;omega];rw[show (List.range xs.size).drop i=[] by simp;omega] at h
  wp_walk using pA gl,pA gb
  apply (show R (.ok (.ret (.bool (xs.size != ys.size)))) _ from ?_);rw[show (xs.size != ys.size)=false by simp[hs]];exact h
 |succ k ih=>
  intro i hk prog w A R s ⟨⟨gl,gb⟩,he,h⟩;let#[hp,g,d,tk,os]:=s
  wp_walk using pA gl,pA gb
  have z1:i<xs.size:=by omega
  have z2:i<ys.size:=by omega
  have q1:xs[((i:Nat):Int).toNat]? = some xs[i]:=by simp[z1]
  have q2:ys[((i:Nat):Int).toNat]? = some ys[i]:=by simp[z2]
  rw[show (List.range xs.size).drop i=i::(List.range xs.size).drop (i+1) by simp[List.drop_eq_getElem_cons,z1],List.all_cons] at h;rw[q1,q2];apply af (he i z1 z2 prog w _ _ ?_);cases c:e i with
  |true=>
   rw[c] at h
   wp_walk
   rw[show ((i:Int)+1)=((i+1:Nat):Int) by omega];apply#[plainId_quiet plain_eq_loop _,codeAny_builtin entry_eq_loop ?_];rw[xX plain_eq_loop _];exact ih (i+1) Z1 prog w A R _ #[#[gl,gb],he,by simpa using h]
  |false=>
   rw[c] at h
   wp_walk using pA gl,pA gb
   rw[q1,q2]
   wp_walk
   simpa using h
theorem _g(l b:Addr)(xs ys:Array Aa)(n m:Nat)(dl db:Option Addr)(sl sb:Array (Option Aa))(hs:xs.size=ys.size)(e:Nat->Bool) :
  Meets (Builtin.«list.__ne__» #[[.ref l,.ref b],[]])
   (λA R s=>(s.heap.get? l=some { cls:=.type "list",dict:=dl,data:=.seq xs n,slots:=sl }/\s.heap.get? b=some { cls:=.type "list",dict:=db,data:=.seq ys m,slots:=sb }) /\
    (∀j (h1:j<xs.size) (h2:j<ys.size),EqAt A.in1 s xs[j] ys[j] (e j))/\R (.ok (.ret (.bool (!(List.range xs.size).all e)))) s):=by
 intro prog w A R s ⟨⟨gl,gb⟩,he,h⟩;let#[hp,g,d,tk,os]:=s;let f3:=AutoSeq1.sub_list_list;have no:¬(xs.size != ys.size)=true:=by simp[hs]
 wp_walk using pA gl,pA gb
 apply#[plainId_quiet plain_eq_loop _,codeAny_builtin entry_eq_loop ?_];rw[xX plain_eq_loop _];exact YC l b xs ys n m dl db sl sb hs e _ 0 U prog w A R _ #[#[gl,gb],he,by simpa using h]
theorem hX_(l b:Addr)(xs ys:Array Aa)(n m:Nat)(dl db:Option Addr)(sl sb:Array (Option Aa))(hs:(xs.size != ys.size)=true) :
  Meets (Builtin.«list.__ne__» #[[.ref l,.ref b],[]])
   (λA R s=>(s.heap.get? l=some { cls:=.type "list",dict:=dl,data:=.seq xs n,slots:=sl }/\s.heap.get? b=some { cls:=.type "list",dict:=db,data:=.seq ys m,slots:=sb })/\R (.ok (.ret (.bool true))) s):=
 .of_wp λprog w A R s ⟨⟨gl,gb⟩,h⟩=>by
  let#[hp,g,d,tk,os]:=s;let f3:=AutoSeq1.sub_list_list
  wp_walk using pA gl,pA gb
  exact#[_,U,h]
section
variable{prog:Ad}{w:Af}{A:Ag}{E:Aa->Ab->Prop}{s:Ab}
theorem oZ{l b:Addr}{xs ys:Array Aa}{e:Nat->Bool}{Q:Aa->Ab->Prop}(hl:s.heap.IsList l xs)(hb:s.heap.IsList b ys)(hs:xs.size=ys.size)(hu:A.units<cLine)
  (he:∀j (h1:j<xs.size) (h2:j<ys.size),EqAt A.in1 s xs[j] ys[j] (e j)) (h:Q (.bool (!(List.range xs.size).all e)) s):wpAny (model prog w) A (compareOp .NotEq (.ref l) (.ref b)) Q E s:=by
 let#[#[c1,d1,t1,l1],o1,k1,n1,z1]:=id hl;let#[#[c2,d2,t2,l2],o2,k2,n2,z2]:=id hb;simp only at k1 z1 k2 z2;subst k1 z1 k2 z2;exact richCompare_meets_room (op:=.NotEq) #[_,o1,U] #[_,o2,U] F.slot_list_ne F.entry_list_ne (F.args_list_ne_2 _ _) (_g l b xs ys n1 n2 d1 d2 l1 l2 hs e) #[#[o1,o2],he,show Value.bool (!(List.range xs.size).all e)≠Value.notImplemented/\Q (.bool (!(List.range xs.size).all e)) s from #[(λx=>nomatch x),h]] hu
theorem gY{l b:Addr}{xs ys:Array Aa}{Q:Aa->Ab->Prop}(hl:s.heap.IsList l xs)(hb:s.heap.IsList b ys)(hs:(xs.size != ys.size)=true)(hu:A.units<cLine)(h:Q (.bool true) s):wpAny (model prog w) A (compareOp .NotEq (.ref l) (.ref b)) Q E s:=by
 let#[#[c1,d1,t1,l1],o1,k1,n1,z1]:=id hl;let#[#[c2,d2,t2,l2],o2,k2,n2,z2]:=id hb;simp only at k1 z1 k2 z2;subst k1 z1 k2 z2;exact richCompare_meets_room (op:=.NotEq) #[_,o1,U] #[_,o2,U] F.slot_list_ne F.entry_list_ne (F.args_list_ne_2 _ _) (hX_ l b xs ys n1 n2 d1 d2 l1 l2 hs) #[#[o1,o2],show Value.bool true≠Value.notImplemented/\Q (.bool true) s from #[(λx=>nomatch x),h]] hu
end
end Jp
namespace L2
open PySem PySem.Spec PyProof.Rows PySem.W kJ dO
abbrev Rp(D:Type):=Hp->V->D->Prop
structure j9 (X:Cx) (n:Nat) {D:Type} [DecidableEq D] (R:Rp D):Prop where
 eq:∀{pins:List (Addr × Obj)} {σ:St} {H:Hp} {s:Ab} {A:Ag} {x y:V} {u v:Aa} {d e:D},Inv X pins σ H s->RelV x u->RelV y v->R H x d->R H y e->A.units+n<cLine->SeqAt.EqAt A s u v (decide (d=e))
 one:∀{pins:List (Addr × Obj)} {σ:St} {H:Hp} {s:Ab} {x:V} {d e:D},Inv X pins σ H s->R H x d->R H x e->d=e
def rS:Rp Str:=λ_ x d=>x=.str d
def rZ:Rp Int:=λ_ x d=>x=.int d
def r2(K:aj){D1 D2:Type}(R1:Rp D1)(R2:Rp D2):Rp (D1 × D2):=λH x d=>∃a u v,x=.ref a/\fH K H a [u,v]/\R1 H u d.1/\R2 H v d.2
def rL(K:aj){D:Type}(R:Rp D):Rp (List D):=λH x ds=>∃a xs,x=.ref a/\dZ K H a xs/\Paired (R H) xs ds
section
variable{X:Cx}
theorem ix:j9 X 0 rS where
 eq:=λ{pins σ H s A x y u v d e} I ru rv hx hy hu=>by
  have hx:x=.str d:=hx;have hy:y=.str e:=hy;subst hx;subst hy;let q:=HR (A:=A) (s:=s) ru rv U U
  have e2:sY (.str d) (.str e)=decide (d=e):=by
   show (d == e)=_;by_cases h:d=e
   ·subst h;simp
   simp[h]
  rwa [e2] at q
 one:=λ{pins σ H s x d e} I hx hy=>by
  have hx:x=.str d:=hx;have hy:x=.str e:=hy;rw[hx] at hy;exact V.str.inj hy
theorem NP:j9 X 0 rZ where
 eq:=λ{pins σ H s A x y u v d e} I ru rv hx hy hu=>by
  have hx:x=.int d:=hx;have hy:y=.int e:=hy;subst hx;subst hy;let q:=HR (A:=A) (s:=s) ru rv U U
  have e2:sY (.int d) (.int e)=decide (d=e):=by
   show (d == e)=_;by_cases h:d=e
   ·subst h;simp
   simp[h]
  rwa [e2] at q
 one:=λ{pins σ H s x d e} I hx hy=>by
  have hx:x=.int d:=hx;have hy:x=.int e:=hy;rw[hx] at hy;exact V.int.inj hy
theorem AW{h:Heap}{a:Addr}{its:Array Aa}(t:IsTup h a its):h.IsTuple a its:=t
theorem Fp{n m:Nat}{D1 D2:Type}[DecidableEq D1][DecidableEq D2]{R1:Rp D1}{R2:Rp D2}(c1:j9 X n R1)(c2:j9 X m R2):j9 X (max n m+1) (r2 X.K R1 R2) where
 one:=λ{pins σ H s x d e} I hx hy=>by
  let#[a,u,v,rfl,t,q1,q2]:=hx;let#[b,u',v',e0,t',xp,xo]:=hy;cases e0;let e1:=I.dS t t';cases e1;exact Prod.ext (c1.one I q1 xp) (c2.one I q2 xo)
 eq:=λ{pins σ H s A x y u v d e} I ru rv hx hy hu=>by
  let hx':=hx;let Rc:=hy;let#[a,x1,x2,rfl,t,q1,q2]:=hx;let#[b,y1,y2,rfl,t',xp,xo]:=hy;cases ru;cases rv;by_cases xO:a=b
  ·subst xO;let e1:=I.dS t t';cases e1;have:d=e:=Prod.ext (c1.one I q1 xp) (c2.one I q2 xo);rw[cJ this];exact SeqAt.EqAt.same _
  let#[its,r,it,_]:=I.tuple t;let#[its',r',DY,_]:=I.tuple t';let#[u1,u2,rfl,r1,r2]:=vals2 r;let#[w1,w2,rfl,WT,WO]:=vals2 r'
  let key:=SeqAt.EqAt.of_refs xO (SeqAt.RcAt.tuples (A:=A) (s:=s) (e:=λj=>if j=0 then decide (d.1=e.1) else decide (d.2=e.2)) (AW it) (AW DY) Z1 λj h1 h2=>by
   match j,h1,h2 with
   |0,_,_=>exact c1.eq I r1 WT q1 xp (by show A.units+1+n<cLine;omega)
   |1,_,_=>exact c2.eq I r2 WO q2 xo (by show A.units+1+m<cLine;omega))
  have e3:((List.range (min [u1,u2].toArray.size [w1,w2].toArray.size)).all (λj=>if j=0 then decide (d.1=e.1) else decide (d.2=e.2))&&[u1,u2].toArray.size == [w1,w2].toArray.size)=decide (d=e):=by
   show (decide (d.1=e.1)&&(decide (d.2=e.2)&&true)&&true)=_;by_cases h1:d.1=e.1
   ·by_cases h2:d.2=e.2
    ·have:d=e:=Prod.ext h1 h2;simp[this]
    have:¬d=e:=λz=>h2 (by rw[z]);simp[h1,h2,this]
   have:¬d=e:=λz=>h1 (by rw[z]);simp[h1,this]
  rw[e3] at key;exact key
theorem eP{α β:Type}{F:α->β->Prop}:∀{l:List α} {m:List β},Paired F l m->∀(i:Nat) (h1:i<l.length) (h2:i<m.length),F l[i] m[i]
 |_,_,.cons h t,0,_,_=>h
 |_,_,.cons h t,i+1,h1,h2=>eP t i ⇑h1 ⇑h2
theorem UF{D:Type}[DecidableEq D]:∀{ds es:List D},ds.length=es.length->((List.range ds.length).all λj=>decide (ds[j]? = es[j]?))=decide (ds=es):=λ{ds es} hl=>by
 by_cases h:ds=es
 ·subst h;simp
 rw[fD h]
 have:∃i,i<ds.length/\ds[i]?≠es[i]?:=by
  apply Classical.byContradiction λhn=>h ?_;apply List.ext_getElem? ?_;intro i;by_cases hi:i<ds.length
  ·exact Classical.byContradiction λq=>hn #[i,hi,q]
  rw[List.getElem?_eq_none Z1,List.getElem?_eq_none Z1]
 let#[i,hi,q]:=this;rw[List.all_eq_false];exact#[i,by simpa using hi,by simpa using q]
theorem Tw{D:Type}[DecidableEq D]{n:Nat}{R:Rp D}(c:j9 X n R){pins:List (Addr × Obj)}{σ:St}{H:Hp}{s:Ab}{A:Ag}(I:Inv X pins σ H s){xs ys:ai}{us vs:ag}{ds es:List D}(ru:Vals xs us)(rv:Vals ys vs)(hx:Paired (R H) xs ds)(hy:Paired (R H) ys es)(hu:A.units+n<cLine) :
  ∀j (h1:j<us.toArray.size) (h2:j<vs.toArray.size),SeqAt.EqAt A s us.toArray[j] vs.toArray[j] (decide (ds[j]? = es[j]?)):=λj h1 h2=>by
 let l1:=ru.length;let l2:=rv.length;let l3:=bj hx;let l4:=bj hy;simp only[cQ] at h1 h2;let q:=c.eq (A:=A) I (eP ru j Z1 h1) (eP rv j Z1 h2) (eP hx j Z1 Z1) (eP hy j Z1 Z1) hu
 have e:decide (ds[j]? = es[j]?)=decide (ds[j]' Z1=es[j]' Z1):=by
  rw[aY Z1,aY Z1];by_cases z:ds[j]' Z1=es[j]' Z1
  ·simp[z]
  simp[z]
 rw[e];exact q
def vn{D:Type}[DecidableEq D](R:Rp D)(neg:Bool):V->V->Hp->VK->Prop:=λx y H Q=>∃d e,R H x d/\R H y e/\Q (.bl (if neg then !decide (d=e) else decide (d=e))) H
theorem Yg{n:Nat}{D:Type}[DecidableEq D]{R:Rp D}(c:j9 X n R)(hu:X.A.units+n+1<cLine):dN X (compareOp .Eq) (vn (rL X.K R) false):=by
 intro pins s σ H x y v u Q I rx ry h;let#[d,e,#[a,xs,rfl,t,q],#[b,ys,rfl,t',q'],hq]:=h;cases rx;cases ry;let#[us,r,pl,_]:=I.list t;let#[vs,r',vp,_]:=I.list t';let l1:=r.length;let l2:=r'.length;let l3:=bj q;let l4:=bj q';by_cases hl:d.length=e.length
 ·apply SeqAt.eq_listAt pl.isList vp.isList (by simp only[cQ];omega) Z1 (Tw c I r r' q q' (A:=X.A.in1) (by show X.A.units+1+n<cLine;omega)) #[.bl _,H,I,U,?_];rw[show us.toArray.size=d.length by simp only[cQ];omega,UF hl];exact hq
 apply SeqAt.eq_list_lengthsAt pl.isList vp.isList (by simp only[cQ,bne_iff_ne];omega) Z1 #[.bl _,H,I,U,?_];have hq:Q (.bl (decide (d=e))) H:=hq;rwa [fD (λz=>hl (by rw[z]))] at hq
theorem Yb{n:Nat}{D:Type}[DecidableEq D]{R:Rp D}(c:j9 X n R)(hu:X.A.units+n+1<cLine):dN X (compareOp .NotEq) (vn (rL X.K R) true):=by
 intro pins s σ H x y v u Q I rx ry h;let#[d,e,#[a,xs,rfl,t,q],#[b,ys,rfl,t',q'],hq]:=h;cases rx;cases ry;let#[us,r,pl,_]:=I.list t;let#[vs,r',vp,_]:=I.list t';let l1:=r.length;let l2:=r'.length;let l3:=bj q;let l4:=bj q';have hq:Q (.bl (!decide (d=e))) H:=hq;by_cases hl:d.length=e.length
 ·apply Jp.oZ pl.isList vp.isList (by simp only[cQ];omega) Z1 (Tw c I r r' q q' (A:=X.A.in1) (by show X.A.units+1+n<cLine;omega)) #[.bl _,H,I,U,?_];rw[show us.toArray.size=d.length by simp only[cQ];omega,UF hl];exact hq
 apply Jp.gY pl.isList vp.isList (by simp only[cQ,bne_iff_ne];omega) Z1 #[.bl _,H,I,U,?_];rwa [fD (λz=>hl (by rw[z]))] at hq
def yY(K:aj){D:Type}[DecidableEq D](R:Rp D)(neg:Bool):V->V->Hp->VK->Prop:=λx y H Q=>∃d es,R H x d/\rL K R H y es/\Q (.bl (if neg then !decide (d∈es) else decide (d∈es))) H
theorem Ms{D:Type}[DecidableEq D]{n:Nat}{R:Rp D}(c:j9 X n R){pins:List (Addr × Obj)}{σ:St}{H:Hp}{s:Ab}{A:Ag}(I:Inv X pins σ H s){x:V}{u:Aa}{d:D}(ru:RelV x u)(hx:R H x d)(hu:A.units+n<cLine):∀{ys:ai} {vs:ag} {es:List D},Vals ys vs->Paired (R H) ys es->
  ∃f:Aa->Bool,(∀w∈vs,SeqAt.EqAt A s w u (f w))/\vs.any f=decide (d∈es):=λ{ys vs es} rv hy=>by
 let f:Aa->Bool:=λw=>@decide (∃y e,RelV y w/\R H y e/\e=d) (Classical.propDecidable _)
 have sound:∀y w e,RelV y w->R H y e->f w=decide (e=d):=λy w e h1 h2=>by
  by_cases z:e=d
  ·rw[cJ z];exact @cJ _ (Classical.propDecidable _) #[y,e,h1,h2,z]
  rw[fD z];apply @fD _ (Classical.propDecidable _) λ⟨y',e',g1,g2,g3⟩=>z ?_;have:y'=y:=RelV.inj g1 h1;subst this;rw[<- g3];exact c.one I h2 g2
 apply#[f,?_,?_]
 ·induction rv generalizing es with
  |nil=>exact λw hw=>nomatch hw
  |cons h t ih=>
   cases hy with
   |cons g t'=>
    intro w hw;rcases bW.mp hw with rfl|hw
    ·rw[sound _ _ _ h g];exact c.eq I h ru g hx hu
    exact ih t' w hw
 induction rv generalizing es with
 |nil=>
  cases hy;simp
 |cons h t ih=>
  cases hy with
  |@cons _ e _ es g t'=>
   rw[List.any_cons,ih t',sound _ _ _ h g];by_cases z:e=d
   ·subst z;simp
   by_cases z2:d∈es
   ·simp[z2]
   have:¬d∈e::es:=λq=>by
    rcases bW.mp q with q|q
    ·exact z q.symm
    exact z2 q
   rw[fD z,fD z2,fD this];rfl
theorem Mg{n:Nat}{D:Type}[DecidableEq D]{R:Rp D}(c:j9 X n R)(hu:X.A.units+n+1<cLine):dN X (compareOp .In) (yY X.K R false):=by
 intro pins s σ H x y v u Q I rx ry h;let#[d,es,hx,#[a,ys,rfl,t,q],hq]:=h;cases ry;let#[us,r,pl,_]:=I.list t;let#[f,h1,h2]:=Ms c I (A:=X.A.in1) rx hx (by show X.A.units+1+n<cLine;omega) r q;apply SeqAt.in_listAt f pl.isList (λw hw=>h1 w ⇑hw) #[.bl _,H,I,U,?_];rw[show us.toArray.any f=us.any f by simp,h2];exact hq
theorem Uj{n:Nat}{D:Type}[DecidableEq D]{R:Rp D}(c:j9 X n R)(hu:X.A.units+n+1<cLine):dN X (compareOp .NotIn) (yY X.K R true):=by
 intro pins s σ H x y v u Q I rx ry h;let#[d,es,hx,#[a,ys,rfl,t,q],hq]:=h;cases ry;let#[us,r,pl,_]:=I.list t;let#[f,h1,h2]:=Ms c I (A:=X.A.in1) rx hx (by show X.A.units+1+n<cLine;omega) r q;apply SeqAt.notIn_listAt f pl.isList (λw hw=>h1 w ⇑hw) #[.bl _,H,I,U,?_];rw[show us.toArray.any f=us.any f by simp,h2];exact hq
end
end L2
namespace L2
open PySem PySem.Spec PyProof.Rows PySem.W kJ dO
section
variable{X:Cx}
inductive Df (K:aj) (xs:ai) (H:Hp) (Q:VK):Prop
 |mk:∀x T t b,xs=[x,.ty T]->fP K H x t->PySem.W.kitOne K t (.type T)\b->Q (.bl b) H->Df K xs H Q
theorem mN:gG X (.builtin "isinstance") (Df X.K):=by
 intro pins s σ H xs us Q I r h;let#[x,T,t,b,rfl,ty,e,q]:=h;let#[u,w',rfl,ru,jd]:=vals2 r;cases (show w'=Value.type T from jd);exact Ua I ru ty e λtk=>#[.bl b,H,I.tok tk,U,q]
inductive UI (x:V) (y:V) (H:Hp) (Q:VK):Prop
 |mk:∀i j,x=.str i->y=.str j->Q (.bl (!decide (j.cps.toList<i.cps.toList))) H->UI x y H Q
theorem TB:dN X (compareOp .LtE) UI:=by
 intro pins s σ H x y v u Q I rx ry h;let#[i,j,rfl,rfl,q]:=h;let#[t,rfl]:=rx;let#[t',rfl]:=ry;exact PySem.P.le_str ⟨.bl _,H,I,rfl,q⟩
theorem Zk{prog:Ad}{w':Af}{A:Ag}{E:Aa->Ab->Prop}{s:Ab}(l:Addr)(its:Array Aa)(n:Nat)(k:Int)(t:Tok)(w:Aa)(h1:¬(!Builtin.List.listFitsIndex k)=true)(h2:its.size<=sizeLine){Q:Aa->Ab->Prop}
 (e:s.heap.get? l=some { cls:=.type "list",data:=.seq its n }) (f:Array Aa->Array Aa) (hf:f=λxs:Array Aa=>let k:=if k<0 then (k+((xs.size:Nat):Int)).toNat else min k.toNat xs.size;(xs.extract 0 k).push w++xs.extract k)
 (q:Q .none { s with heap:=s.heap.update l (Obj.mapSeq f) }):wpAny (model prog w') A (call (.builtin "list.insert") [.ref l,.int k t,w]) Q E s:=by
 subst hf;let hm:=@PySem.AutoListH.list_insert_list_int_val_1 l its n k t w h1 h2;have ty:s.TypeIs (.ref l) "list":=⟨_,e,rfl⟩;exact wpAny_call (codeAny_call_builtin F.slot_list_insert.plain F.entry_list_insert (F.slot_list_insert.check _ _ _ _ _ _ _ _ ty (F.args_list_insert_3 _ _ _) (hm prog w' A (wants Q E) s ⟨e,q⟩)))
inductive nF (x:V) (vs:ai) (H:Hp) (Q:VK):Prop
 |mk:∀(l:Addr) (k:Nat) (xs:ai) (y:V),x=.ref l->vs=[.int k,y]->H l\.lst xs->k<=xs.length->xs.length<100000->Q .non (upd H l (.lst (xs.take k++y::xs.drop k)))->nF x vs H Q
theorem T_:Jo X "list.insert" nF:=by
 intro pins s σ H x vs v us Q I rx rv h;let#[l,k,xs,y,rfl,rfl,hH,hk,hz,q]:=h;cases rx;let#[u,w,rfl,#[t,rfl],jd]:=rv.two;let#[z,its,n,r,hl,e]:=I.jB hH;let sz:=cU
 have fit:Builtin.List.listFitsIndex (k:Int)=true:=by
  unfold Builtin.List.listFitsIndex;rw[cJ Z1,cJ Z1];rfl
 apply Zk l its.toArray n (k:Int) t w (by rw[fit];exact gc) (by rw[cQ];omega) e _ rfl ?_;apply⟨.non,_,I.vD (its':=its.take k++w::its.drop k) (f:=λxs=>let k':=if (k:Int)<0 then ((k:Int)+((xs.size:Nat):Int)).toNat else min (k:Int).toNat xs.size;(xs.extract 0 k').push w++xs.extract k') hH e ?_ (Vals.append (r.take k) (.cons jd (r.drop k))) ?_,rfl,q⟩
 ·have e1:(if (k:Int)<0 then ((k:Int)+((its.toArray.size:Nat):Int)).toNat else min (k:Int).toNat its.toArray.size)=k:=by
   rw[aB Z1];simp;omega
  dsimp only;rw[e1];apply Array.ext' ?_;simp[uQ]
 rw[eM,jr,dR,List.length_drop];omega
inductive qo (mk:Addr->Addr->HO) (Q:VK) (x:V) (H1:Hp):Prop
 |mk:∀d kvs,x=.ref d->H1 d\.dK kvs->(∀v,H1 v=none->Q (.ref v) (upd H1 v (mk v d)))->qo mk Q x H1
def wU(mk:Addr->Addr->HO)(td:TE):TE:=λσ H Q=>td σ H λx H1=>qo mk Q x H1
theorem Ss{pins:List (Addr × Obj)}{σ:St}{H:Hp}{s:Ab}{d:Addr}{cls:String}(I:Inv X pins σ H s)(φ:Heap->Prop)(_K:φ (s.heap.push { cls:=.type cls,data:=.fields (List.toArray [.ref d]) }))(hs:∀h1 h2:Heap,φ h1->(∀o,h1.get? s.heap.objs.size\o->h2.get? s.heap.objs.size\o)->φ h2) :
  Inv X pins σ (upd H s.heap.objs.size (.ext φ)) { s with heap:=s.heap.push { cls:=.type cls,data:=.fields (List.toArray [.ref d]) } }:=
 I.laid (t':=s.toks) (λ_ _ q=>aS _ q) (bc _) #[_K,#[_,cy _ U],hs]
theorem IL{o:Expr}{td:TE}{apos bZ:Pos}(ho:PE X o td)(g_:attributeBase o "items" X.env (eval o X.env)=eval o X.env:=by rfl)(g9:(apos.endLine == bZ.line)=true:=by rfl):PE X (.Call (.Attribute o "items" apos) [] [] bZ) (wU tK td):=by
 intro pins s σ H Q I h;apply wpAny_Call_method0_late g_ g9 (aQ (ho pins s σ H _ I h) λv s1 ⟨x,H1,I1,r1,d,kvs,e,hd,q⟩=>?_);subst e;cases r1;let#[t1,t2,t3]:=Q4 I1 (.inl #[kvs,.inl hd]);let#[_,_,vs,rel,dd]:=EY I1.ay hd;apply#["dict","dict.items",PySem.F.plainAttrs_dict,PySem.F.slot_dict_items,PySem.F.type_dict_items,t1,t2,Calls.callWith_builtin U (PySem.evalArgs_none ?_)];apply call_meetsIn PySem.F.slot_dict_items t1 PySem.F.entry_dict_items (PySem.F.args_dict_items_1 _) (meets_dict_items (ft X.prog X.w) d t3) #[#[vs,dd],?_];exact#[.ref _,_,Ss I1 _ #[_,cy _ U,U,U] λh1 h2 ⟨o,e,r⟩ k=>#[o,k o e,r],U,q _ I1.fresh]
theorem N9{o:Expr}{td:TE}{apos bZ:Pos}(ho:PE X o td)(g_:attributeBase o "values" X.env (eval o X.env)=eval o X.env:=by rfl)(g9:(apos.endLine == bZ.line)=true:=by rfl):PE X (.Call (.Attribute o "values" apos) [] [] bZ) (wU uG td):=by
 intro pins s σ H Q I h;apply wpAny_Call_method0_late g_ g9 (aQ (ho pins s σ H _ I h) λv s1 ⟨x,H1,I1,r1,d,kvs,e,hd,q⟩=>?_);subst e;cases r1;let#[t1,t2,t3]:=Q4 I1 (.inl #[kvs,.inl hd]);let#[_,_,vs,rel,dd]:=EY I1.ay hd;apply#["dict","dict.values",PySem.F.plainAttrs_dict,PySem.F.slot_dict_values,PySem.F.type_dict_values,t1,t2,Calls.callWith_builtin U (PySem.evalArgs_none ?_)];apply call_meetsIn PySem.F.slot_dict_values t1 PySem.F.entry_dict_values (PySem.F.args_dict_values_1 _) (meets_dict_values (ft X.prog X.w) d t3) #[#[vs,dd],?_];exact#[.ref _,_,Ss I1 _ #[_,cy _ U,U,U] λh1 h2 ⟨o,e,r⟩ k=>#[o,k o e,r],U,q _ I1.fresh]
end
section
variable{X:Cx}{pins:List (Addr × Obj)}{σ:St}{H:Hp}{s:Ab}{d:Addr}{kvs:List (Key × V)}
theorem Inv.freeze(I:Inv X pins σ H s)(h:H d\.dK kvs):∃o,s.heap.get? d\o/\Inv X pins σ (upd H d (.frz o (.dK kvs))) s:=by
 let#[z,hd,vs,rel,dd]:=EY I.ay h;let#[o,es,ep,ho,r]:=id dd;have other:∀{b u},H b\u->u≠.dK kvs->upd H d (.frz o (.dK kvs)) b\u:=λ{b u} e ne=>by rw[ax (bK e h ne)];exact e
 apply#[o,ho,I.un (h':=s.heap) (t':=s.toks) #[λb u q _ _ _=>q,λb u q _ _ _=>#[u.slots,q],λb u q n _=>?_,λb u q _=>#[u,q],λb xs q=>other q Z2,λb u v q=>other q Z2,λb ps q=>#[#[],by rw[Array.append_empty];exact other q Z2]] λb u q=>?_]
 ·by_cases e:b=d
  ·subst e;rw[h] at n;cases n
  rw[ax e];exact n
 by_cases e:b=d
 ·subst e;rw[az] at q;cases q;exact#[ho,z,hd,vs,rel,dd]
 rw[ax e] at q;exact (I.ay b u q).eS (λc v _ z=>z) (λc z=>other z Z2) λc xs z=>other z Z2
theorem Inv.qj{o:Obj}(I:Inv X pins σ H s)(h:H d\.frz o (.dK kvs))(h0:∀o u,X.jZ d≠some (.frz o u)):Inv X pins σ (upd H d (.dK kvs)) s:=by
 have other:∀{b u},H b\u->(∀o v,u≠.frz o v)->upd H d (.dK kvs) b\u:=λ{b u} e ne=>by rw[ax (bK e h (ne _ _))];exact e
 have nQ:∀{b},H b=none->upd H d (.dK kvs) b=none:=λ{b} e=>by
  rw[ax (λz=>by subst z;rw[h] at e;cases e)];exact e
 apply#[I.ok,I.os,I.bare,#[I.base.keep,I.base.slot,λb u q n hx=>nQ (I.base.free b u q n hx),I.base.there,λb xs q=>other (I.base.gW b xs q) Z2,λb u v q=>?_,λb ps q=>?_],I.loc,I.cell,nQ I.free,λx c e=>nQ (I.eg x c e),λp hp=>?_,λb u q=>?_,I.len]
 ·have:=I.base.hJ b u v q;rw[ax (λz=>by subst z;exact h0 _ _ q)];exact this
 ·let#[more,e]:=I.base.ik b ps q;exact#[more,other e Z2]
 ·let#[a1,a2,a3]:=I.pin p hp;exact#[a1,nQ a2,a3]
 by_cases e:b=d
 ·subst e;rw[az] at q;cases q;let#[ho,z,hd,vs,rel,dd]:=I.ay b _ h;exact#[z,hd,vs,rel,dd]
 rw[ax e] at q;exact (I.ay b u q).eS (λc v _ z=>z) (λc z=>other z Z2) λc xs z=>other z Z2
end
theorem T6{X:Cx}{pins:List (Addr × Obj)}{σ:St}{H:Hp}{s:Ab}{d:Addr}{kvs:List (Key × V)}{o:Obj}{es:Array DictEntry}{ep:Nat}(I:Inv X pins σ H s)(h:H d\.frz o (.dK kvs))(ho:o.data=.dict es ep):∃vs,KV kvs vs/\s.heap.DictAt (ft X.prog X.w) d vs ep:=by
 let#[e,z,hd,vs,rel,o',Ho,Hq,e',c',d',r]:=I.ay d _ h;rw[e] at e';cases e';rw[ho] at d';cases d';exact#[vs,rel,o,es,e,c',ho,r]
theorem Mf{κ:Type}{kvs:List (κ × V)}{vs:List (κ × Aa)}(r:KV kvs vs):∀(i:Nat) {k:κ} {x:V},kvs[i]? = some (k,x)->∃u,vs[i]? = some (k,u)/\RelV x u:=by
 induction r with
 |nil=>intro i k x e;simp at e
 |@cons p q _ _ h _ ih=>
  intro i k x e;cases i with
  |zero=>
   have e:p=(k,x):=⇑e
   subst e;apply#[q.2,?_,h.2];rw[List.getElem?_cons_zero];have h1:k=q.1:=h.1;rw[h1]
  |succ i=>exact ih i ⇑e
def Pg(x:Str):It:=#[λi _=>i<x.cps.size,λi H v H'=>H'=H/\∃c,x.cps[i]? = some c/\v=.str ⟨(List.toArray [c])⟩,λi _=>x.cps.size<=i]
theorem fx_{P:Ad}{w:Af}{K:aj}{tg:Expr}(it:Addr)(x:Str)(t:Tok):Turn P w K tg (Pg x) [it] it (λi h=>i<=x.cps.size/\h.IsStrIter it "str_ascii_iterator" x t i) where
 mem:=by simp
 obj:=λi h st b hb=>by
  obtain rfl:b=it:=⇑hb
  let#[o,e,c,d]:=st.2;exact#[o,e,λv z=>by rw[d] at z;cases z]
 keep:=λi h h' st k=>#[st.1,let #[o,ho,r]:=st.2;#[o,k it Z2 o ho,r]]
 item:=by
  intro X hP hw hK hc i pins s σ H E I hf st hg;subst hP hw hK;have hg:i<x.cps.size:=hg;let#[f0,f1,f2,f3,f4,f5]:=hf it Z2;apply wpAny_pyNext_ascii_item st.2 (c:=x.cps[i]) (by simp[hg]) λh' fI sb=>?_;have I1:Inv X pins σ H { s with heap:=h',toks:=s.toks+1 }:=I.turned (t':=s.toks+1) (λb o hb e=>(sb.2 b hb).trans e) f0 f1 f3 f4 f5;let#[o',e,c,dd]:=id fI;exact#[_,U,GS (s:={ s with heap:=h',toks:=s.toks+1 }) e c dd (by decide) #[.str ⟨(List.toArray [x.cps[i]])⟩,H,I1,#[_,U],#[U,_,by simp[hg],U],#[hg,fI],λb hb=>(hf b hb).1]]
 done:=by
  intro X hP hw hK hc i pins s σ H E I hf st hg;subst hP hw hK;have hg:x.cps.size<=i:=hg;let#[f0,f1,f2,f3,f4,f5]:=hf it Z2;exact wpAny_pyNext_ascii_end (I.ok.hd hc) st.2 (by simp[hg]) λh' eb=>#[U,I.turned (t':=s.toks) (λb o hb e=>eb b o hb e) f0 f1 f3 f4 f5]
 self:=λ_ _ _ _ _ st h=>wpAny_pyIter_striter_ascii st.2 h
theorem gv_{P:Ad}{w:Af}{K:aj}{tg:Expr}(it:Addr)(x:Str)(t:Tok):Turn P w K tg (Pg x) [it] it (λi h=>i<=x.cps.size/\h.IsStrIter it "str_iterator" x t i) where
 mem:=by simp
 obj:=λi h st b hb=>by
  obtain rfl:b=it:=⇑hb
  let#[o,e,c,d]:=st.2;exact#[o,e,λv z=>by rw[d] at z;cases z]
 keep:=λi h h' st k=>#[st.1,let #[o,ho,r]:=st.2;#[o,k it Z2 o ho,r]]
 item:=by
  intro X hP hw hK hc i pins s σ H E I hf st hg;subst hP hw hK;have hg:i<x.cps.size:=hg;let#[f0,f1,f2,f3,f4,f5]:=hf it Z2;apply wpAny_pyNext_wide_item st.2 (c:=x.cps[i]) (by simp[hg]) λh' fI sb=>?_;have I1:Inv X pins σ H { s with heap:=h',toks:=s.toks+1 }:=I.turned (t':=s.toks+1) (λb o hb e=>(sb.2 b hb).trans e) f0 f1 f3 f4 f5;let#[o',e,c,dd]:=id fI;exact#[_,U,GS (s:={ s with heap:=h',toks:=s.toks+1 }) e c dd (by decide) #[.str ⟨(List.toArray [x.cps[i]])⟩,H,I1,#[_,U],#[U,_,by simp[hg],U],#[hg,fI],λb hb=>(hf b hb).1]]
 done:=by
  intro X hP hw hK hc i pins s σ H E I hf st hg;subst hP hw hK;have hg:x.cps.size<=i:=hg;let#[f0,f1,f2,f3,f4,f5]:=hf it Z2;exact wpAny_pyNext_wide_end (I.ok.hd hc) st.2 (by simp[hg]) λh' eb=>#[U,I.turned (t':=s.toks) (λb o hb e=>eb b o hb e) f0 f1 f3 f4 f5]
 self:=λ_ _ _ _ _ st h=>wpAny_pyIter_striter_wide st.2 h
inductive xA (R:It->Hp->Prop) (v:V) (H1:Hp):Prop
 |mk:∀x,v=.str x->R (Pg x) H1->xA R v H1
def KZ(tl:TE):TI:=λσ H R=>tl σ H λv H1=>xA R v H1
theorem Ys{X:Cx}{tg l:Expr}{tl:TE}(hl:PE X l tl):PI X tg l (KZ tl):=by
 intro pins s σ H R I h;apply aQ (hl pins s σ H _ I h) λv s1 ⟨y,H1,I1,r1,x,e,q⟩=>?_;subst e;let#[t,rfl]:=r1
 have fp:∀b∈[s1.heap.objs.size],dk X pins H1 b:=λb hb=>by
  obtain rfl:b=s1.heap.objs.size:=⇑hb
  exact I1.jI (bc _) (I1.ay.fresh (bc _))
 cases ha:x.cps.all (· < 128)
 ·apply wpAny_pyIter_wide ha ?_;exact#[s1.heap.objs.size,[s1.heap.objs.size],_,_,H1,U,I1.kept (t':=s1.toks) λb o e=>aS _ e,gv_ _ x t,#[gE _,_,cy _ U,U,U],fp,q]
 apply wpAny_pyIter_ascii ha ?_;exact#[s1.heap.objs.size,[s1.heap.objs.size],_,_,H1,U,I1.kept (t':=s1.toks) λb o e=>aS _ e,fx_ _ x t,#[gE _,_,cy _ U,U,U],fp,q]
end L2
namespace L2
open PySem PySem.Spec PyProof.Rows PySem.W kJ dO
theorem Xc{X:Cx}{f:Aa->Aa->Sem Aa}{K:aj}(r:aj->R2)(h:dN X f (r X.K))(hK:X.K=K:=by rfl):dN X f (r K):=by
 subst hK;exact h
theorem Fq{X:Cx}{f:Aa}{K:aj}(r:aj->ai->Hp->VK->Prop)(h:gG X f (r X.K))(hK:X.K=K:=by rfl):gG X f (r K):=by
 subst hK;exact h
theorem zp{X:Cx}{K:aj}(r:aj->R2)(h:B2 X (r X.K))(hK:X.K=K:=by rfl):B2 X (r K):=by
 subst hK;exact h
theorem FG{X:Cx}{N:ae}{scope:Scope}{fp:ao}{s:Ab}{H:Hp}{es:List Expr}{k:Nat}{pos:Pos}{t:A2}{n:Nat}(h:FZ (ib X N scope fp s H) es t)(hc:X.calm=true:=by rfl)
  (hn:(assignEach es (ib X N scope fp s H).env).length=n:=by rfl) (lZ:(assignEach es (ib X N scope fp s H).env).findIdx? (·.1)=none:=by rfl):PG (ib X N scope fp s H) (.Tuple es k pos) (gO X.K n t):=kz (X:=ib X N scope fp s H) hc h hn lZ
end L2
abbrev Aw:PySem.Str:="ways_by_name"
abbrev xU:PySem.Str:="_law_script"
abbrev wm:PySem.Str:="_law_piece"
abbrev vZ:PySem.Str:="_law_digit"
abbrev xS:PySem.Str:="_law_strength"
abbrev BB:PySem.Str:="greatest_divisor"
abbrev uE:PySem.Str:="_law_found"
abbrev Bt:PySem.Str:="neighbours_by_hand"
abbrev Bv:PySem.Str:="multiple_of_strengths"
abbrev mz:PySem.Str:="_law_pieces_here"
abbrev uF:PySem.Str:="strength_by_hand"
abbrev pZ:PySem.Str:="ahead_by_hands"
abbrev pU:PySem.Str:="weight_by_name"
abbrev jP:PySem.Str:="_law_hands_here"
abbrev hZ:PySem.Str:="_law_state"
abbrev jQ:PySem.Str:="exits_by_place"
abbrev Bx:List PySem.Str:=[jP,mz,"_law_keys","_law_limit"]
abbrev oy:List PySem.Str:=["goods","placed"]
abbrev jV:List PySem.Str:=[jP,mz,"_law_spot"]
abbrev gg:List PySem.Str:=["thing"]
abbrev mr:List PySem.Str:=["one","other"]
abbrev oz:List PySem.Str:=["self","thing"]
abbrev xV:List PySem.Str:=[hZ,"_law_base"]
abbrev oH:List PySem.Str:=[hZ,jP,mz]
abbrev Bz:List PySem.Str:=["_law_name_here",xS]
abbrev xT:List PySem.Str:=["name","weight","ways"]
abbrev tX:List PySem.Str:=[jP,mz,"_law_spot","_law_limit"]
abbrev tW:List PySem.Str:=[mz,"_law_ties_here","_law_spot","_law_most"]
abbrev tV:List PySem.Str:=[mz,"_law_ties_here","_law_spot"]
abbrev wg:List PySem.Str:=["self","hand"]
abbrev oG:List PySem.Str:=["goods","stand","limit","most"]
abbrev tU:List PySem.Str:=[hZ,"_law_ties_here","_law_most"]
abbrev jU:List PySem.Str:=["thing","least","most"]
abbrev jT:List PySem.Str:=["self","one","other"]
abbrev Bw:List PySem.Str:=["thing","least"]
abbrev oF:List PySem.Str:=["goods","hands","limit"]
abbrev oE:List PySem.Str:=["self","goods","placed"]
abbrev pf:List PySem.Str:=["self"]
abbrev Bu:List PySem.Str:=["self","hands"]
namespace Ev
open PySem L2
def top(i:Nat):Stmt:=PySem.Challenge.pw_evenpieces_k69_stands_reached.main.body.getD i (.Pass #[0,0,0,0])
abbrev yU:Stmt:=top 12
abbrev lF:Stmt:=top 14
abbrev qY:Stmt:=top 15
abbrev NI:Stmt:=top 16
abbrev qW:Stmt:=top 17
abbrev MS:Stmt:=top 18
abbrev rC:Stmt:=top 47
abbrev yT:Stmt:=top 48
abbrev qR:Stmt:=top 49
abbrev qX:Stmt:=top 50
abbrev oS:Stmt:=top 51
def zh(a b:Str):Bool:=decide (a.cps.toList<b.cps.toList)
def aH(a b:Str):Str × Str:=if zh a b=true then (a,b) else (b,a)
section v
theorem bU{N p:List Str}{c:Scope}(h:bN N p c:=by exact#[U,U,U,by decide +kernel,U,by decide +kernel,by decide +kernel]):bN N p c:=h
theorem qJ:bN mr mr (aX NI):=bU
def Ir:Sp:=λvs H Q _=>∃a b,vs=[.str a,.str b]/\∀t,H t=none->Q (.ref t) (upd H t (.tup [.str (aH a b).1,.str (aH a b).2]))
theorem hl_{f:Addr}{fd:Ae}(F:br K "lesser_first" "lesser_first" NI f fd):!aq a9 1 f fd mr Ir:=by
 exists F.bT qJ;let#[a,b,rfl,k]:=h;apply#[_,aF (bx (_b (fh gN_ (pv 0) (pv 1)) (iC %[0,1|0]) (iC %[1,0|0]))),?_];apply#[_,U,_,U,a,b,U,U,_,U,?_];apply bY (λc=>?_) (λc=>?_)
 ·apply#[_,U,_,U,zl,λt ht=>?_];have:=k t ht;rwa [show aH a b=(a,b) from aJ c] at this
 apply#[_,U,_,U,zl,λt ht=>?_];have:=k t ht;rwa [show aH a b=(b,a) from aB c] at this
theorem u7:bN jU jU (aX lF):=bU
def Ng:Sp:=λvs H Q _=>∃i a b:Int,vs=[.int i,.int a,.int b]/\Q (.bl (decide (a<=i)&&decide (i<=b))) H
structure Bi (mg:Str->Option Aa):Prop where
 kh:mg "isinstance"=none
 int:mg "int"=none
 bool:mg "bool"=none
 str:mg "str"=none
 tuple:mg "tuple"=none
 list:mg "list"=none
 dict:mg "dict"=none
 len:mg "len"=none
 all:mg "all"=none
 sorted:mg "sorted"=none
 max:mg "max"=none
 range:mg "range"=none
 any:mg "any"=none
 enum:mg "enumerate"=none
structure bu (P:Ad) (w:Af) (K:aj) (mg:Str->Option Aa) (base:Heap) (k:Nat) (x:Str) (ps:ae) (sp:Sp):Prop where
 ex:∃f fd,aq P w K mg base a9 k f fd ps sp/\mg x\.ref f/\PySem.W.keepIn K (.ref f)=true/\pX K fd ps []
theorem bg{n_:Nat}{X:Cx}{k:Nat}{x:Str}{ps:ae}{sp:Sp}{p pos:Pos}{e:Expr}{es:List Expr}{t:TA}(c:bu X.prog X.w X.K X.mg X.base k x ps sp)(hr:aP n_ X.A)(ha:PA X (e::es) t)(hg:Gl X x:=by rfl)(sP:(x == ("__debug__":Str))=false:=by decide)
  (he:starEach (e::es) X.env=(false,eval e X.env)::starEach es X.env:=by rfl) (iq:(backTo pos (starEach es X.env)).any (·.1)=false:=by rfl) (hk:k<=n_:=by decide):PE X (.Call (.Name x p) (e::es) [] pos) (w9 sp [] E0 t):=by
 let#[f,fd,F,m,kp,b]:=c.ex;exact ZR F (hr.mono hk) hg m kp b .nil nO ha sP he iq
theorem C1:bN gg gg (aX yU):=bU
def nz:Sp:=λvs H Q _=>∃i:Int,vs=[.int i]/\Q (.bl true) H
theorem YJ{f:Addr}{fd:Ae}(F:br K "is_whole" "is_whole" yU f fd)(B:Bi mg):!aq a9 1 f fd gg nz:=by
 exists F.bT C1;let#[i,rfl,k]:=h;apply#[_,aF (bx (tJ (cZ mN (by rfl) B.kh kC %[0,mJ (v:=.ty "int") (by rfl) B.int L9 U|0]) (uO (QR (cZ mN (by rfl) B.kh kC %[0,mJ (v:=.ty "bool") (by rfl) B.bool PyProof.Rows.Boot.«bool» rfl|0]))))),?_];exact#[_,U,_,_,_,_,U,.int i,U,_,U,dD #[_,U,_,_,_,_,U,.int i,U,_,U,k]]
theorem _D{f:Addr}{fd:Ae}(F:br K "is_whole_within" "is_whole_within" lF f fd)(cI:!bu 1 "is_whole" gg nz):!aq a9 2 f fd jU Ng:=by
 exists F.bT u7;let#[i,a,b,rfl,k]:=h;apply#[_,aF (bx (tJ (bg cI hr %[0|0]) (uO (To vX vX (pv 1) (pv 0) (pv 2))))),?_];apply#[_,U,i,U,_,U,dD ?_];apply#[_,U,_,U,_,_,U,U,_,U,?_];apply bY (λc=>?_) (λc=>?_)
 ·apply#[_,U,_,_,U,U,?_];rw[c] at k;exact k
 rw[show decide (a<=i)=false by simpa using c] at k;exact k
def oX(c:Nat):Bool:=decide (97<=c)&&decide (c<=122)
def iz(x:Str):Bool:=decide (1<=x.length)&&decide (x.length<=8)&&x.cps.toList.all oX
theorem yJ:bN gg gg (aX qY):=bU
def Hx:Sp:=λvs H Q _=>∃x:Str,vs=[.str x]/\x.length<=100000/\∀H',aa H H'->Q (.bl (iz x)) H'
theorem YZ{c:Nat}:(!decide ((⟨(List.toArray [c])⟩:Str).cps.toList<("a":Str).cps.toList))=decide (97<=c):=by
 have e:("a":Str).cps.toList=[97]:=by decide +kernel
 rw[e];show (!decide ([c] < [97]))=decide (97<=c);by_cases h:97<=c
 ·have:¬[c] < [97]:=by simp[List.cons_lt_cons_iff];omega
  simp[this,h]
 have:[c] < [97]:=by simp[List.cons_lt_cons_iff];omega
 simp[this,h]
theorem _r{c:Nat}:(!decide (("z":Str).cps.toList<(⟨(List.toArray [c])⟩:Str).cps.toList))=decide (c<=122):=by
 have e:("z":Str).cps.toList=[122]:=by decide +kernel
 rw[e];show (!decide ([122] < [c]))=decide (c<=122);by_cases h:c<=122
 ·have:¬[122] < [c]:=by simp[List.cons_lt_cons_iff];omega
  simp[this,h]
 have:[122] < [c]:=by simp[List.cons_lt_cons_iff];omega
 simp[this,h]
theorem ZC{f:Addr}{fd:Ae}(F:br K "is_name" "is_name" qY f fd)(B:Bi mg){t8:Tok}(m8:mg "MOST_LETTERS"\.int 8 t8):!aq a9 1 f fd gg Hx:=by
 exists F.bT yJ;let#[x,rfl,hz,k]:=h;let sz:=cU
 apply#[_,aw (cg (tq (fi (e_ (cZ mN (by rfl) B.kh kC %[0,mJ (v:=.ty "str") (by rfl) B.str HQ U|0])))
   (uN (fi (Tq vX vX aD (cZ dR_ (by rfl) B.len gH %[0|0]) (BM (v:=.int 8) (by rfl) m8 #[t8,U]))))).pt (aF (bx gI)) cm)
  (aF (bx (cZ (hC_ U) (by rfl) B.all PyProof.Rows.Boot.«all» (iQ
   (kD ["letter"] 1 [] (Ys (pv 0)) (λfp s H=>gh (i:=0) (show (["letter"]:ae).Nodup by decide +kernel) U (Or.inl U)) (λfp s H=>mI) (λfp s H=>To TB TB xZ (pv 0) xZ)) bF)))),?_]
 apply#[_,U,_,_,_,_,U,.str x,U,_,U,?_];apply aL ?_;apply#[_,U,x,U,by omega,_,_,U,U,_,U,?_]
 have fin:(decide (1<=x.length)&&decide (x.length<=8))=false->∀H',aa H H'->Q (.bl false) H':=λe H' sm=>by
  have:=k H' sm;rwa [show iz x=false by unfold iz;rw[e];rfl] at this
 apply bY (λc=>?_) (λc=>?_)
 ·have c1:1<=x.length:=by
   have:(1:Int)<=(x.length:Int):=⇑c
   omega
  apply#[_,_,U,U,_,U,?_];apply bY (λc2=>?_) (λc2=>?_)
  ·-- too long
   have c3:¬x.length<=8:=by
    have:¬((x.length:Int)<=8):=⇑c2
    omega
   exact fin (by rw[fD c3,Bool.and_false]) H (aa.refl H)
  have c3:x.length<=8:=by
   have:(x.length:Int)<=8:=⇑c2
   omega
  apply#[_,U,x,U,λD hD=>?_];apply Mu (own:=1) (fv:=[]) U fY x.cps.size (λi out H'=>H'=upd H D (.lst out)/\out=((x.cps.toList.take i).map oX).map V.bl) #[U,by simp] (λout H' ⟨e1,e2⟩=>?_) (λi out H' hi ⟨e1,e2⟩=>?_)
  ·apply#[bc _,D,x.cps.toList.map oX,U,.of ?_,?_]
   ·rw[e1,az,e2,uQ Z2]
   have:=k H' (by rw[e1];exact aa.new hD);rwa [show iz x=(x.cps.toList.map oX).all id by unfold iz;rw[cJ c1,cJ c3,List.all_map];rfl] at this
  apply#[hi,λv H2 y=>?_];let#[eH,c,hc,rfl]:=y;subst eH;apply#[_,U,U,λNx hN=>fV ?_]
  have lo:out.length<sizeLine:=by
   rw[e2];have hs:x.length=x.cps.size:=rfl;simp only[au,dR,pE];omega
  have nx:Nx (upd H2 D (.lst (out++[V.bl (oX c)]))):=hN (out++[V.bl (oX c)]) _ #[by rw[e1,Za],by
   rw[e2,tQ];simp[hc]]
  have U4:H2 D\.lst out:=by rw[e1,az]
  apply#[_,U,_,_,U,U,_,U,?_];rw[YZ];apply bY (λc2=>?_) (λc2=>?_)
  ·apply#[_,_,U,U,out,U4,lo,?_];rw[_r];rwa [show oX c=decide (c<=122) by unfold oX;rw[c2];rfl] at nx
  apply#[out,U4,lo,?_];rwa [show oX c=false by unfold oX;rw[show decide (97<=c)=false by simpa using c2];rfl] at nx
 have c1:¬1<=x.length:=by
  have:¬((1:Int)<=(x.length:Int)):=⇑c
  omega
 exact#[_,U,dD (fin (by rw[fD c1];rfl) H (aa.refl H))]
end
end Ev
namespace Ev
open PySem L2
def kT(t:Str × Str):av:=[.inr t.1,.inr t.2]
def vY(t:Str × Str):Prop:=iz t.1=true/\iz t.2=true/\t.1≠t.2
theorem I_{x:Str}(h:iz x=true):x.length<=8:=by
 unfold iz at h;simp only[Bool.and_eq_true,decide_eq_true_eq] at h;exact h.1.2
theorem GX{H:Hp}{p:Addr}{t:Str × Str}(h:H p\.tup ((kT t).map kV)):H p\.tup [.str t.1,.str t.2]:=h
section v
theorem yI:bN gg gg (aX qW):=bU
def qA:Sp:=λvs H Q _=>∃(p:Addr) (a b:Str),vs=[.ref p]/\H p\.tup [.str a,.str b]/\a.length<=100000/\b.length<=100000/\∀H',aa H H'->Q (.bl (iz a&&iz b&&!decide (a=b))) H'
theorem ZM{f:Addr}{fd:Ae}(F:br K "is_pair_of_names" "is_pair_of_names" qW f fd)(B:Bi mg)(cN:!bu 1 "is_name" gg Hx):!aq a9 2 f fd gg qA:=by
 exists F.bT yI;let#[p,a,b,rfl,hp,la,lb,k]:=h
 apply#[_,aw (cg (tq (fi (e_ (cZ mN (by rfl) B.kh kC %[0,mJ (v:=.ty "tuple") (by rfl) B.tuple wJ U|0])))
   (uN (fh tG (cZ ic (by rfl) B.len gH %[0|0]) aD))).pt (aF (bx gI)) cm)
  (aF (bx (tJ (bg cN hr %[bz cw (pv 0) aD|0]) (tJ (bg cN hr %[bz cw (pv 0) aD|0])
   (uO (wA tG (bz cw (pv 0) aD) (bz cw (pv 0) aD))))))),?_]
 apply#[_,U,_,_,_,_,U,.tup hp,U,_,U,aL ?_];apply#[_,U,p,_,U,.inr (.of hp),U,_,U,?_];apply Av (show V.int ((2:Nat):Int)=V.int 2 from U) ?_;apply#[_,U,p,_,_,_,U,U,.of hp,U,a,U,la,λH1 s1=>#[_,U,?_]];let xD:=s1 _ _ hp;apply bY (λc=>?_) (λc=>?_)
 ·apply#[_,U,p,_,_,_,U,U,.of xD,U,b,U,lb,λH2 s2=>#[_,U,?_]];let kj:=s2 _ _ xD;let kk:=k H2 (s1.trans s2);apply bY (λc2=>?_) (λc2=>?_)
  ·apply#[_,U,p,_,_,_,U,U,.of kj,U,_,U,p,_,_,_,U,U,.of kj,U,U,?_];rw[c,c2] at kk
   have e:decide (V.str a=V.str b)=decide (a=b):=by
    by_cases z:a=b
    ·simp[z]
    simp[z]
   show Q (.bl (!decide (V.str a=V.str b))) H2;rw[e];exact kk
  rw[c,show iz b=false by simpa using c2] at kk;exact kk
 let kk:=k H1 s1;rw[show iz a=false by simpa using c] at kk;exact kk
theorem IH:bN ["ties","found","pair","tie"] ["ties"] (aX MS):=bU
def N5(K:aj):Sp:=λvs H Q _=>∃(l:Addr) (ys:ai) (ts:Xb),vs=[.ref l]/\H l\.lst ys/\bS K H ys (ts.map kT)/\(∀t∈ts,vY t)/\(ts.map λt=>kT (aH t.1 t.2)).Nodup/\ts.length<64 /\
 ∀l' zs H',aa H H'->H l'=none->H' l'\.lst zs->bS K H' zs (a_ (ts.map λt=>kT (aH t.1 t.2)))->Q (.ref l') H'
theorem oB{α β γ:Type}{F:α->γ->Prop}{g:β->γ}{ys:List α}{ts:List β}(t:Paired F ys (ts.map g)){i:Nat}{y:α}(h:ys[i]? = some y):∃x,ts[i]? = some x/\F y (g x):=by
 have hi:i<ys.length:=(b_.mp h).1;let hl:=bj t;rw[au] at hl;have:=eP t i hi (by rw[au];omega);rw[List.getElem_map] at this;apply#[ts[i],aY Z1,?_];rw[(b_.mp h).2] at this;exact this
theorem uR{κ:Type}[DecidableEq κ]{kvs:List (κ × V)}{k:κ}(h:k∉kvs.map (·.1)):aZ kvs k=none:=by
 cases e:aZ kvs k with
 |none=>rfl
 |some v=>exact absurd (Zl e) h
theorem yc{α β:Type}(g:α->β){ts:List α}{i:Nat}{x:α}(h:ts[i]? = some x):(ts.take (i+1)).map g=(ts.take i).map g++[g x]:=by
 rw[tQ,h,fg];rfl
theorem FJ{α β:Type}{g:α->β}{ts:List α}{i:Nat}{x:α}(h:(ts.map g).Nodup)(hx:ts[i]? = some x):g x∉(ts.take i).map g:=by
 intro m;have hi:i<ts.length:=(b_.mp hx).1;let#[y,hy,e]:=bw.mp m;let#[j,hj,e2]:=gJ hy;rw[dR] at hj;rw[List.getElem_take] at e2;rw[qe,wL,List.pairwise_iff_getElem] at h;apply h j i Z1 hi Z1 ?_;rw[e2,e,(b_.mp hx).2]
theorem gq_{f:Addr}{fd:Ae}(F:br K "sorted_ties" "sorted_ties" MS f fd)(B:Bi mg)(cP:!bu 2 "is_pair_of_names" gg qA)(cL:!bu 1 "lesser_first" mr Ir):!aq a9 3 f fd ["ties"] (N5 K):=by
 exists F.bT IH;let#[l,ys,ts,rfl,hl,tu,good,nd,cX,k]:=h;let hu:=fO hr;let sz:=cU
 apply#[_,aw (cg (fi (e_ (cZ mN (by rfl) B.kh kC %[0,mJ (v:=.ty "list") (by rfl) B.list AS U|0]))) gj cm)
  (aw (bo 1 IH.nd hG_)
  (aw (ed dH U (dE (pv 0)) (cq 2 IH.nd)
   (aw (cg (fi (e_ (bg cP hr %[2|0]))) gj cm)
   (aw (bo 3 IH.nd (bg cL hr %[bz cw (pv 2) aD,bz cw (pv 2) aD|0]))
   (aw (cg (tN (BF hu (pv 3) (pv 1))) gj cm)
   (aF (uJ hu (pv 1) (pv 3) gI U))))))
  (aF (bx (cZ (eq_ U) (by rfl) B.sorted Jh %[1|0]))))),?_]
 apply#[_,U,_,_,_,_,U,.lst hl,U,_,U,aL ?_];intro d hd;have s0:aa H (upd H d (.dT [])):=aa.new hd;apply#[_,U,l,U,#[_,.of (s0 _ _ hl)],gi (K:=K) (a:=l) (xs:=ys) (λi σ H2=>∃(v3 v4:aE),σ=[some (.ref l),some (.ref d),v3,v4]/\aa H H2/\H2 d\.dT ((ts.take i).map λt=>(kT (aH t.1 t.2),V.bl true))) #[none,none,U,s0,az] (λi σ H2 _ ⟨_,_,_,s2,_⟩=>.of (s2 _ _ hl)) ?_ ?_]
 ·rintro i y σ H2 hy ⟨v3,v4,rfl,s2,hd2⟩;let#[t,ht,a,rfl,ha]:=oB tu hy;let#[g1,g2,g3]:=good t (cz ht);let oj:=s2 _ _ (GX ha);apply#[_,U,a,t.1,t.2,U,oj,by have:=I_ g1;omega,by have:=I_ g2;omega,λH3 s3=>#[_,U,?_]];let jH:=s3 _ _ oj;let l9:=s3 _ _ hd2;rw[g1,g2,fD g3];apply aL ?_;apply#[_,U,a,_,_,_,U,U,.of jH,U,_,U,a,_,_,_,U,U,.of jH,U,t.1,t.2,U,λb hb=>?_];have s4:aa H3 (upd H3 b (.tup [.str (aH t.1 t.2).1,.str (aH t.1 t.2).2])):=aa.new hb;let RI:=s4 _ _ l9;have RN:upd H3 b (.tup [.str (aH t.1 t.2).1,.str (aH t.1 t.2).2]) b\.tup ((kT (aH t.1 t.2)).map kV):=az
  have uh:aZ ((ts.take i).map λt=>(kT (aH t.1 t.2),V.bl true)) (kT (aH t.1 t.2))=none:=uR (by
   rw[cY];exact FJ (g:=λt=>kT (aH t.1 t.2)) nd ht)
  apply#[_,U,_,U,d,_,U,.t (k:=kT (aH t.1 t.2)) RI RN,_,U,?_];rw[uh];apply aL ?_;apply#[_,U,_,U,d,_,U,.t (k:=kT (aH t.1 t.2)) RI RN (by rw[au,dR];omega),?_];apply#[_,_,U,λc o e=>?_,?_]
  ·rw[ax (bq e hd)];exact s4 _ _ (s3 _ _ (s2 _ _ e))
  rw[az,wH _ uh,yc _ ht]
 rintro σ H2 ⟨v3,v4,rfl,s2,hd2⟩;let le:=bj tu;rw[au] at le;rw[le,eI] at hd2;apply#[_,U,d,_,[true,true],U,hd2,#[by decide,λk hk=>?_],by rw[au];exact cX,λl' zs hn tz=>?_]
 ·rw[cY] at hk;let#[t,_,rfl]:=bw.mp hk;rfl
 rw[cY] at tz;exact k l' zs _ (s2.trans (aa.new hn)) (s2.free hn) az (tz.same (aa.new hn))
theorem gb_{K:aj}{H:Hp}{ys:ai}{ks:List av}{a:Addr}{k:av}(t:bS K H ys ks)(h:H a\.tup (k.map kV)):bS K H (ys++[.ref a]) (ks++[k]):=Paired.snoc t #[a,U,h]
theorem fR{H H1:Hp}{D:Addr}{o:HO}(h:aa H H1)(hD:H D=none):aa H (upd H1 D o):=λb u e=>by rw[ax (bq e hD)];exact h b u e
theorem IE{K:aj}{H:Hp}{ys:ai}{ks:List av}{D:Addr}{o:HO}{xs:ai}(t:bS K H ys ks)(hD:H D\.lst xs):bS K (upd H D o) ys ks:=Paired.aU t λy k ⟨a,z,q⟩=>#[a,z,by rw[ax (bK q hD nofun)];exact q]
end
end Ev
namespace Ev
open PySem L2
def kH(h:Str × Int):av:=[.inr h.1,.inl h.2]
def ou(h:Str × Int):Prop:=iz h.1=true/\1<=h.2/\h.2<=1000
def zo:av->Key × V
 |[k,v]=>(k,kV v)
 |_=>(.inl 0,.non)
def dA(hs:Xa):List (Key × V):=(a_ (hs.map kH)).map zo
theorem sI{H:Hp}{p:Addr}{t:Str × Int}(h:H p\.tup ((kH t).map kV)):H p\.tup [.str t.1,.int t.2]:=h
theorem Uv:∀(more kvs:List (Key × V)),(kvs.map (·.1)++more.map (·.1)).Nodup->wb kvs more=kvs++more
 |[],kvs,_=>by
  show kvs=kvs++[];rw[List.append_nil]
 |p::more,kvs,h=>by
  show wb (putK kvs p.1 p.2) more=kvs++p::more
  have hn:aZ kvs p.1=none:=uR λm=>by
   rw[eZ,List.nodup_append] at h;exact h.2.2 p.1 m p.1 gB U
  rw[wH _ hn,Uv more (kvs++[(p.1,p.2)])]
  ·simp
  simpa using h
theorem ya{more:List (Key × V)}(h:(more.map (·.1)).Nodup):wb [] more=more:=by
 rw[Uv more [] ⇑h];rfl
theorem Ur(hs:Xa):((dA hs).map (·.1)).Perm (hs.map λh=>Sum.inr h.1):=by
 unfold dA;rw[cY];let p:=(tS (hs.map kH)).map λk=>(zo k).1;rw[cY] at p;exact p
theorem UB{hs:Xa}(h:(hs.map (·.1)).Nodup):((dA hs).map (·.1)).Nodup:=by
 apply (Ur hs).nodup_iff.mpr ?_;have:(hs.map λh=>(Sum.inr h.1:Key))=(hs.map (·.1)).map Sum.inr:=by rw[cY];rfl
 rw[this,qe,wL];exact h.imp λn e=>n (iy e)
theorem mF{k:Nat}{A:Ag}(hr:aP k A)(n:Nat)(h:n+1<=64:=by decide):A.units+n+1<cLine:=by
 have:=hr.units;omega
section v
theorem yQ:bN gg gg (aX rC):=bU
def qC:Sp:=λvs H Q _=>∃(p:Addr) (a:Str) (n:Int),vs=[.ref p]/\H p\.tup [.str a,.int n]/\a.length<=100000/\∀H',aa H H'->Q (.bl (iz a&&(decide (1<=n)&&decide (n<=1000)))) H'
theorem Zu{f:Addr}{fd:Ae}(F:br K "is_hand_with_strength" "is_hand_with_strength" rC f fd)(B:Bi mg)(cN:!bu 1 "is_name" gg Hx)(cW:!bu 2 "is_whole_within" jU Ng){tk:Tok}(mS:mg "MOST_STRENGTH"\.int 1000 tk) :
  aq P w K mg base a9 3 f fd gg qC:=by
 exists F.bT yQ;let#[p,a,n,rfl,hp,la,k]:=h
 apply#[_,aw (cg (tq (fi (e_ (cZ mN (by rfl) B.kh kC %[0,mJ (v:=.ty "tuple") (by rfl) B.tuple wJ U|0])))
   (uN (fh tG (cZ ic (by rfl) B.len gH %[0|0]) aD))).pt (aF (bx gI)) cm)
  (aF (bx (tJ (bg cN hr %[bz cw (pv 0) aD|0]) (uO (bg cW hr %[bz cw (pv 0) aD,aD,BM (v:=.int 1000) (by rfl) mS #[tk,U]|0]))))),?_]
 apply#[_,U,_,_,_,_,U,.tup hp,U,_,U,aL ?_];apply#[_,U,p,_,U,.inr (.of hp),U,_,U,?_];apply Av (show V.int ((2:Nat):Int)=V.int 2 from U) ?_;apply#[_,U,p,_,_,_,U,U,.of hp,U,a,U,la,λH1 s1=>#[_,U,?_]];let xD:=s1 _ _ hp;let kk:=k H1 s1;apply bY (λc=>?_) (λc=>?_)
 ·apply#[_,U,p,_,_,_,U,U,.of xD,U,n,1,1000,U,?_];rw[c] at kk;exact kk
 rw[show iz a=false by simpa using c] at kk;exact kk
theorem qH:bN ["hands","found","hand"] ["hands"] (aX yT):=bU
def xa(K:aj):Sp:=λvs H Q _=>∃(l:Addr) (ys:ai) (hs:Xa),vs=[.ref l]/\H l\.lst ys/\bS K H ys (hs.map kH)/\(∀h∈hs,ou h)/\(hs.map (·.1)).Nodup/\1<=hs.length/\hs.length<=8 /\
 ∀d H',aa H H'->H d=none->H' d\.dK (dA hs)->Q (.ref d) H'
theorem Yc{f:Addr}{fd:Ae}(F:br K "checked_strengths" "checked_strengths" yT f fd)(B:Bi mg)(cH:!bu 3 "is_hand_with_strength" gg qC){tk:Tok}(mH:mg "MOST_HANDS"\.int 8 tk):!aq a9 4 f fd ["hands"] (xa K):=by
 exists F.bT qH;let#[l,ys,hs,rfl,hl,tu,good,nd,h1,h8,k]:=h;let hu:=fO hr;let sz:=cU;let le:=bj tu;rw[au] at le
 apply#[_,aw (cg (tq (fi (e_ (cZ mN (by rfl) B.kh kC %[0,mJ (v:=.ty "list") (by rfl) B.list AS U|0])))
   (uN (fi (Tq vX vX aD (cZ ic (by rfl) B.len gH %[0|0]) (BM (v:=.int 8) (by rfl) mH #[tk,U]))))).pt gj cm)
  (aw (bo 1 qH.nd FO)
  (aw (ed dH U (dE (pv 0)) (cq 2 qH.nd)
   (aw (cg (fi (e_ (bg cH hr %[2|0]))) gj cm)
   (aw (cg (tN (BF hu (bz cw (pv 2) aD) (pv 1))) gj cm)
   (aF (uJ hu (pv 1) (bz cw (pv 2) aD) (bz cw (pv 2) aD) U)))))
  (aF (bx (jn (AZ U) (by rfl) B.dict uH %[cZ (fI_ U) (by rfl) B.sorted Jh %[IL (pv 1)|0]|0]))))),?_]
 apply#[_,U,_,_,_,_,U,.lst hl,U,_,U,aL ?_];apply#[_,U,l,_,U,.inl (.of hl),_,_,U,U,_,U,?_];rw[cJ (show (1:Int)<=(ys.length:Int) by omega)];apply dD #[_,_,U,U,_,U,?_];rw[cJ (show (ys.length:Int)<=8 by omega)];apply aL ?_;intro d hd;have s0:aa H (upd H d (.dK [])):=aa.new hd;apply#[_,U,l,U,#[_,.of (s0 _ _ hl)],gi (K:=K) (a:=l) (xs:=ys) (λi σ H2=>∃(v2:aE),σ=[some (.ref l),some (.ref d),v2]/\aa H H2/\H2 d\.dK ((hs.take i).map λh=>(Sum.inr h.1,V.int h.2))) #[none,U,s0,az] (λi σ H2 _ ⟨_,_,s2,_⟩=>.of (s2 _ _ hl)) ?_ ?_]
 ·rintro i y σ H2 hy ⟨v2,rfl,s2,hd2⟩;let#[t,ht,a,rfl,ha]:=oB tu hy;let#[g1,g2,g3]:=good t (cz ht);let oj:=s2 _ _ (sI ha);apply#[_,U,a,t.1,t.2,U,oj,by have:=I_ g1;omega,λH3 s3=>#[_,U,?_]];let jH:=s3 _ _ oj;let l9:=s3 _ _ hd2;rw[g1,cJ g2,cJ g3];apply aL ?_
  have uh:aZ ((hs.take i).map λh=>((Sum.inr h.1:Key),V.int h.2)) (Sum.inr t.1)=none:=uR (by
   rw[cY];let q:=FJ (g:=λh:Str × Int=>h.1) nd ht;intro m;let#[h,hh,e]:=bw.mp m;exact q (bw.mpr #[h,hh,iy e]))
  apply#[_,U,a,_,_,_,U,U,.of jH,U,_,U,d,_,U,.k (k:=Sum.inr t.1) l9,_,U,?_];rw[uh];apply aL ?_;apply#[_,U,a,_,_,_,U,U,.of jH,U,_,U,_,U,a,_,_,_,U,U,.of jH,U,d,_,U,.k (k:=Sum.inr t.1) l9 (by rw[au,dR];omega),?_];apply#[_,U,λc o e=>?_,?_]
  ·rw[ax (bq e hd)];exact s3 _ _ (s2 _ _ e)
  rw[az,wH _ uh,yc _ ht]
 rintro σ H2 ⟨v2,rfl,s2,hd2⟩;rw[le,eI] at hd2;apply#[_,U,d,_,U,hd2,λv hv=>?_];have s3:aa H2 (upd H2 v (tK v d)):=aa.new hv;apply#[v,d,_,hs.map λh=>(Sum.inr h.1,Sum.inl h.2),[true,false],U,az,s3 _ _ hd2,by rw[cY];rfl,#[by decide,λq hq=>?_],by rw[au];omega,λl' H4 zs s4 hn tz=>?_]
 ·rw[cY] at hq;let#[h,_,rfl]:=bw.mp hq;rfl
 have ez:((hs.map λh=>((Sum.inr h.1:Key),(Sum.inl h.2:Key))).map λk=>[k.1,k.2])=hs.map kH:=by rw[cY];rfl
 rw[ez] at tz
 have pz:kr K (upd H4 l' (.lst zs)) zs (dA hs):=by
  have shape:∀k∈a_ (hs.map kH),∃a b,k=[a,b]:=λk hk=>by
   let#[h,_,e]:=bw.mp ((tS _).mem_iff.mp hk);exact#[_,_,e.symm]
  have gen:∀(ks:List av) (zs:ai),(∀k∈ks,∃a b,k=[a,b])->bS K (upd H4 l' (.lst zs)) zs ks->kr K (upd H4 l' (.lst zs)) zs (ks.map zo):=λks=>by
   intro zs;generalize upd H4 l' (.lst zs)=HH;intro sh t
   induction t with
   |nil=>exact .nil
   |cons h t ih=>
    let#[a,b,rfl]:=sh _ gB;exact .cons h (ih λk hk=>sh k (fN _ hk))
  exact gen _ _ shape (tz.same (aa.new hn))
 apply#[l',zs,_,U,az,pz,?_,λd' iW=>?_]
 ·have:=(Ur hs).length_eq;simp only[au] at this;omega
 rw[ya (UB nd)];have C5:aa H (upd H4 l' (.lst zs)):=(s2.trans (s3.trans s4)).trans (aa.new hn);exact k d' _ (C5.trans (aa.new iW)) (C5.free iW) az
theorem Il:bN ["ties","strengths","found","one","other"] ["ties","strengths"] (aX qR):=bU
inductive kU (K:aj) (vs:ai) (H:Hp) (Q:VK) (E:XK):Prop
 |mk:∀(l d:Addr) (ys:ai) (ts:Xb) (kvs:List (Key × V)),vs=[.ref l,.ref d]->H l\.lst ys->bS K H ys (ts.map kT)->(∀t∈ts,vY t)->(ts.map λt=>kT (aH t.1 t.2)).Nodup->ts.length<64->H d\.dK kvs->(∀t∈ts,(aZ kvs (Sum.inr t.1)).isSome=true/\(aZ kvs (Sum.inr t.2)).isSome=true)->(∀l' zs H',aa H H'->H l'=none->H' l'\.lst zs->bS K H' zs (a_ (ts.map λt=>kT (aH t.1 t.2)))->Q (.ref l') H')->kU K vs H Q E
theorem BN(a b:Str):aH a b=(a,b)∨aH a b=(b,a):=by
 unfold aH;split
 ·exact .inl rfl
 exact .inr rfl
theorem ZK{f:Addr}{fd:Ae}(F:br K "checked_ties" "checked_ties" qR f fd)(B:Bi mg)(cS:!bu 3 "sorted_ties" ["ties"] (N5 K)):!aq a9 4 f fd ["ties","strengths"] (kU K):=by
 exists F.bT Il;let#[l,d,ys,ts,kvs,rfl,hl,tu,good,nd,cX,hd,there,k]:=h;let hu:=fO hr
 apply#[_,aw (bo 2 Il.nd (bg cS hr %[0|0]))
  (aw (cg (tN (Hk (pv 2))) gj cm)
  (aw (ed dH U (dE (pv 2)) (kz U (dG (cq 3 Il.nd) (dG (cq 4 Il.nd) iM)))
   (aF (cg (tq (tN (Je hu (pv 3) (pv 1))) (uN (tN (Je hu (pv 4) (pv 1))))).pt gj cm)))
  (aF (bx (pv 2))))),?_]
 apply#[_,U,l,ys,ts,U,hl,tu,good,nd,cX,λl' zs H1 s1 hf eY tz=>?_];apply#[_,U,_,U,aL ?_];apply#[_,U,l',U,#[_,.of eY],gi (K:=K) (a:=l') (xs:=zs) (λi σ H2=>∃(v3 v4:aE),σ=[some (.ref l),some (.ref d),some (.ref l'),v3,v4]/\H2=H1) #[none,none,U,U] (λi σ H2 _ ⟨_,_,_,e⟩=>by subst e;exact .of eY) ?_ ?_]
 ·rintro i y σ H2 hy ⟨v3,v4,rfl,rfl⟩;let ez:=bj tz;have hi:i<zs.length:=(b_.mp hy).1;let#[a,e,ha]:=eP tz i hi Z1;rw[(b_.mp hy).2] at e;subst e;let#[t,ht,e]:=bw.mp ((tS _).mem_iff.mp (mO (show i<(a_ (ts.map λt=>kT (aH t.1 t.2))).length by omega)));rw[<- e] at ha;let#[t1,t2]:=there t ht
  have both:(aZ kvs (Sum.inr (aH t.1 t.2).1)).isSome=true/\(aZ kvs (Sum.inr (aH t.1 t.2).2)).isSome=true:=by
   rcases BN t.1 t.2 with q|q
   ·rw[q];exact#[t1,t2]
   rw[q];exact#[t2,t1]
  let uo:=s1 _ _ hd;apply#[a,_,U,.of (GX ha),U,_,_,U,_,_,U,U,?_];apply#[_,U,_,U,d,_,U,.k (k:=Sum.inr (aH t.1 t.2).1) uo,_,U,?_];rw[both.1];apply aL ?_;apply#[_,U,_,U,d,_,U,.k (k:=Sum.inr (aH t.1 t.2).2) uo,_,U,?_];rw[both.2];apply aL ?_;exact#[_,_,U,U]
 rintro σ H2 ⟨v3,v4,rfl,rfl⟩;exact#[_,U,k l' zs _ s1 hf eY tz]
def near(ns:ae)(ts:Xb)(n:Str):ae:=ns.filter λo=>decide (aH n o∈ts)
theorem lC:bN ["names","ties","found","hand"] ["names","ties"] (aX qX):=bU
def tM(ns:ae)(as:ao):List (Key × V):=(ns.zip as).map λp=>(Sum.inr p.1,V.ref p.2)
inductive kX (K:aj) (vs:ai) (H:Hp) (Q:VK) (E:XK):Prop
 |mk:∀(l1 l2:Addr) (ns:ae) (zs:ai) (ts:Xb),vs=[.ref l1,.ref l2]->H l1\.lst (ns.map V.str)->H l2\.lst zs->bS K H zs (ts.map kT)->ns.Nodup->ns.length<=1000->l1≠l2->(∀d as H',aa H H'->H d=none->as.length=ns.length->H' d\.dK (tM ns as)->(∀(i:Nat) n a,ns[i]? = some n->as[i]? = some a->H a=none/\H' a\.lst ((near ns ts n).map V.str))->Q (.ref d) H')->kX K vs H Q E
theorem Mx{K:aj}{H:Hp}:∀{ts:Xb} {zs:ai},bS K H zs (ts.map kT)->Paired (r2 K rS rS H) zs ts
 |[],_,.nil=>.nil
 |t::ts,_,.cons ⟨a,e,h⟩ r=>.cons #[a,_,_,e,.of (GX h),U,U] (Mx r)
theorem mG{ns:ae}{i:Nat}{x:V}(h:(ns.map V.str)[i]? = some x):∃n,ns[i]? = some n/\x=.str n:=by
 rw[dF] at h;cases e:ns[i]? with
 |none=>rw[e] at h;cases h
 |some n=>rw[e] at h;exact#[n,U,(cu h).symm]
theorem Jb{α:Type}(p:α->Bool){l:List α}{i:Nat}{x:α}(h:l[i]? = some x):(l.take (i+1)).filter p=(l.take i).filter p++(if p x then [x] else []):=PySem.take_succ_filter p l i x h
theorem Y8{f:Addr}{fd:Ae}(F:br K "neighbours_of_all" "neighbours_of_all" qX f fd)(cL:!bu 1 "lesser_first" mr Ir):!aq a9 2 f fd ["names","ties"] (kX K):=by
 exists F.bT lC;let#[l1,l2,ns,zs,ts,rfl,eY,jh,tz,nd,h8,l5,k]:=h;let hu:=fO hr;let hu3:=hr.units;let sz:=cU
 apply#[_,aw (bo 2 lC.nd FO)
  (aw (ed dH U (dE (pv 0)) (cq 3 lC.nd)
   (aF (uJ hu (pv 2) (pv 3) (kD ["other","hand","ties"] 1 [3,1] (dE (pv 0)) (λfp s H=>gh (i:=0) (show (["other","hand","ties"]:ae).Nodup by decide +kernel) U (Or.inl U))
    (λfp s H=>H_ (fh (Xc (K:=K) (λK=>yY K (r2 K rS rS) false) (Mg (Fp ix ix) (mF hr _))) (bg cL hr %[1,0|0]) (pv 2) (by with_unfolding_all rfl))) (λfp s H=>pv 0)) U)))
  (aF (bx (pv 2)))),?_]
 intro d hd;have s0:aa H (upd H d (.dK [])):=aa.new hd
 apply#[_,U,l1,U,#[_,.of (s0 _ _ eY)],gi (K:=K) (a:=l1) (xs:=ns.map V.str) (λi σ H2=>∃(v3:aE) (as:ao),σ=[some (.ref l1),some (.ref l2),some (.ref d),v3]/\aa H H2/\as.length=i/\H2 d\.dK (tM (ns.take i) as) /\
  ∀(j:Nat) n a,ns[j]? = some n->as[j]? = some a->H a=none/\a≠d/\H2 a\.lst ((near ns ts n).map V.str)) #[none,[],U,s0,U,az,λj n a _ e=>by simp at e] (λi σ H2 _ ⟨_,_,_,s2,_⟩=>.of (s2 _ _ eY)) ?_ ?_]
 ·rintro i y σ H2 hy ⟨v3,as,rfl,s2,la,hd2,lists⟩;let#[n,hn,rfl]:=mG hy;have hi:i<ns.length:=(b_.mp hn).1
  have lk:(tM (ns.take i) as).length=i:=by
   unfold tM;rw[au,List.length_zip,dR];omega
  apply#[_,U,l1,U,#[_,.of (s2 _ _ eY)],λD hD=>?_];apply kI (own:=1) (fv:=[some (.str n),some (.ref l2)]) (xs:=ns.map V.str) U fY (λj out H'=>aa H2 H'/\H' D\.lst out/\out=((ns.take j).filter λo=>decide (aH n o∈ts)).map V.str) #[aa.new hD,az,U] (λj out H' _ ⟨sm,_,_⟩=>.of (sm _ _ (s2 _ _ eY))) (λout H' ⟨sm,dJ,eo⟩=>?_) (λj x out H' hx ⟨sm,dJ,eo⟩=>?_)
  ·rw[au,eI] at eo
   have uh:aZ (tM (ns.take i) as) (Sum.inr n)=none:=uR λm=>by
    unfold tM at m;rw[cY] at m;let#[p,hp,e]:=bw.mp m;have e:p.1=n:=iy e;let q:=FJ (g:=id) (by rw[List.map_id];exact nd) hn;rw[List.map_id] at q;exact q (e▸(List.of_mem_zip hp).1)
   have Ql:D≠d:=λz=>by subst z;rw[hD] at hd2;cases hd2
   apply#[_,U,_,U,d,_,U,.k (k:=Sum.inr n) (sm _ _ hd2) Z1,?_];apply#[_,as++[D],U,λc o e=>?_,by rw[eM,la];rfl,?_,λj n' a Em ha=>?_]
   ·rw[ax (bq e hd)];exact sm _ _ (s2 _ _ e)
   ·rw[az,wH _ uh];congr 2;unfold tM;rw[tQ,hn,List.zip_append (by rw[dR];omega),fg];rfl
   by_cases hj:j<as.length
   ·rw[wK hj] at ha;let#[q1,q2,q3]:=lists j n' a Em ha;apply#[q1,q2,?_];rw[ax q2];exact sm _ _ q3
   have RA:j=i:=by
    have:=(b_.mp ha).1;rw[eM] at this;simp only[js] at this;omega
   subst RA;rw[yb Z1,la,Nat.sub_self] at ha;have ha:D=a:=⇑ha
   subst ha;rw[hn] at Em;cases Em;apply#[s2.free hD,Ql,?_];rw[ax Ql,dJ,eo];rfl
  let#[o,ho,rfl]:=mG hx;apply#[_,U,U,λNx hN=>?_];apply#[_,U,_,U,n,o,U,λt ht=>?_];have s3:aa H' (upd H' t (.tup [.str (aH n o).1,.str (aH n o).2])):=aa.new ht;let VT:=((tz.same s2).same sm).same s3
  have lo:out.length<sizeLine:=by
   rw[eo,au];have:=BY (λo=>decide (aH n o∈ts)) (ns.take j);rw[dR] at this;omega
  apply#[_,U,aH n o,ts,#[t,_,_,U,.of az,U,U],#[l2,zs,U,.of (s3 _ _ (sm _ _ (s2 _ _ jh))),Mx VT],_,U,?_];apply bY (λc=>?_) (λc=>?_)
  ·apply#[_,U,out,s3 _ _ dJ,lo,hN _ _ #[fR (sm.trans s3) hD,az,?_]];have c:decide (aH n o∈ts)=true:=⇑c
   rw[Jb _ ho,aJ c,fg,eo];rfl
  apply hN _ _ #[sm.trans s3,s3 _ _ dJ,?_];have c:¬decide (aH n o∈ts)=true:=⇑c
  rw[Jb _ ho,aB c,List.append_nil,eo]
 rintro σ H2 ⟨v3,as,rfl,s2,la,hd2,lists⟩;rw[au] at la hd2;rw[eI] at hd2;exact#[_,U,k d as _ s2 hd la hd2 λj n a h1 h2=>#[(lists j n a h1 h2).1,(lists j n a h1 h2).2.2]]
end
end Ev
namespace Ev
open PySem L2
abbrev rB:Stmt:=ml oS 0
abbrev vj:Stmt:=ml oS 1
abbrev lP:Stmt:=ml oS 2
abbrev Ol:Stmt:=ml oS 3
abbrev lJ:Stmt:=ml oS 4
abbrev qS:Stmt:=ml oS 5
def E4:av->Str
 |.inr a::_=>a
 |_=>⟨#[]⟩
def JH:av->Str × Str
 |[.inr a,.inr b]=>(a,b)
 |_=>(⟨#[]⟩,⟨#[]⟩)
def aO(hs:Xa):ae:=(a_ (hs.map kH)).map E4
def bR(ts:Xb):Xb:=(a_ (ts.map λt=>kT (aH t.1 t.2))).map JH
theorem Oi(ts:Xb):(bR ts).map kT=a_ (ts.map λt=>kT (aH t.1 t.2)):=by
 unfold bR;rw[cY]
 have all:∀k∈a_ (ts.map λt=>kT (aH t.1 t.2)),∃t:Str × Str,k=kT t:=λk hk=>by
  let#[t,_,e]:=bw.mp ((tS _).mem_iff.mp hk);exact#[_,e.symm]
 generalize a_ (ts.map λt=>kT (aH t.1 t.2))=l at all
 induction l with
 |nil=>rfl
 |cons k l ih=>
  let#[t,rfl]:=all k gB;rw[eZ,ih λk hk=>all k (fN _ hk)];rfl
theorem Uo(hs:Xa):∀k∈a_ (hs.map kH),∃h:Str × Int,h∈hs/\k=kH h:=λk hk=>by
 let#[t,ht,e]:=bw.mp ((tS _).mem_iff.mp hk);exact#[t,ht,e.symm]
theorem SX(hs:Xa):((dA hs).map λkv=>kV kv.1)=(aO hs).map V.str:=by
 unfold dA aO;rw[cY,cY];apply uP λk hk=>?_;let#[h,_,rfl]:=Uo hs k hk;rfl
theorem Tt(hs:Xa):(dA hs).map (·.1)=(aO hs).map Sum.inr:=by
 unfold dA aO;rw[cY,cY];apply uP λk hk=>?_;let#[h,_,rfl]:=Uo hs k hk;rfl
theorem fE(hs:Xa):(aO hs).Perm (hs.map (·.1)):=by
 unfold aO;let p:=(tS (hs.map kH)).map E4;rw[cY] at p;exact p
theorem Jg{κ:Type}[DecidableEq κ]{kvs:List (κ × V)}{k:κ}(h:k∈kvs.map (·.1)):(aZ kvs k).isSome=true:=by
 rw[<- BS];let#[p,hp,e]:=bw.mp h;exact List.any_eq_true.mpr #[p,hp,cJ e]
theorem Ia{hs:Xa}{n:Str}:(aZ (dA hs) (Sum.inr n)).isSome=decide (n∈hs.map (·.1)):=by
 by_cases h:n∈hs.map (·.1)
 ·rw[cJ h];apply Jg ?_;rw[Tt];exact bw.mpr #[n,(fE hs).mem_iff.mpr h,U]
 rw[fD h,uR]
 ·rfl
 rw[Tt];intro m;let#[x,hx,e]:=bw.mp m;cases e;exact h ((fE hs).mem_iff.mp hx)
theorem sf:¬((uF:Str)="sorted_pairs"):=by decide +kernel
theorem Dw:¬((uF:Str)=Bt):=by decide +kernel
def fq(d1 l2 d3:Addr):List (Str × V):=aA Bt (.ref d3) (aA "sorted_pairs" (.ref l2) (aA uF (.ref d1) []))
theorem Hf(d1 l2 d3:Addr):(fq d1 l2 d3).lookup (uF:Str)\.ref d1:=by
 unfold fq;rw[gC,aB Dw,gC,aB sf,gC,aJ U]
theorem Q5(d1 l2 d3:Addr):(fq d1 l2 d3).lookup (Bt:Str)\.ref d3:=by
 unfold fq;rw[gC,aJ U]
theorem qa(d1 l2 d3:Addr){m:Str}(h1:¬m=uF)(h2:¬m="sorted_pairs")(h3:¬m=Bt):(fq d1 l2 d3).lookup m=none:=by
 unfold fq;rw[gC,aB h3,gC,aB h2,gC,aB h1]
 all_goals rfl
structure hW (K:aj) (C:Addr) (H:Hp) (p:Addr) (hs:Xa) (ts:Xb) (fp:ao):Prop where
 ex:∃(dx d1 l2 d3:Addr) (zs:ai) (as:ao),fp=p::d1::l2::d3::as/\H p\.ins C dx (fq d1 l2 d3)/\H d1\.dK (dA hs)/\H l2\.lst zs/\bS K H zs ((bR ts).map kT)/\H d3\.dK (tM (aO hs) as)/\as.length=(aO hs).length /\
  ∀(i:Nat) n a,(aO hs)[i]? = some n->as[i]? = some a->H a\.lst ((near (aO hs) (bR ts) n).map V.str)
theorem hW.keep{K:aj}{C:Addr}{H H':Hp}{p:Addr}{hs:Xa}{ts:Xb}{fp:ao}(W:hW K C H p hs ts fp)(k:∀b∈fp,∀o,H b\o->H' b\o)(kt:∀b xs,H b\.tup xs->H' b\.tup xs):hW K C H' p hs ts fp:=by
 let#[dx,d1,l2,d3,zs,as,rfl,h1,h2,h3,h4,h5,h6,h7]:=W.ex;apply#[dx,d1,l2,d3,zs,as,U,k _ Z2 _ h1,k _ Z2 _ h2,k _ Z2 _ h3,Paired.aU h4 λy q ⟨a,e,z⟩=>#[a,e,kt _ _ z],k _ Z2 _ h5,h6,λi n a e1 e2=>k _ ?_ _ (h7 i n a e1 e2)];have:=cz e2;simp[this]
theorem hW.same{K:aj}{C:Addr}{H H':Hp}{p:Addr}{hs:Xa}{ts:Xb}{fp:ao}(W:hW K C H p hs ts fp)(s:aa H H'):hW K C H' p hs ts fp:=W.keep (λb _ o e=>s b o e) λb xs e=>s b _ e
structure Good (hs:Xa) (ts:Xb):Prop where
 ay:∀h∈hs,ou h
 o5:(hs.map (·.1)).Nodup
 h1:1<=hs.length
 h8:hs.length<=8
 tok:∀t∈ts,vY t
 Ge:(ts.map λt=>kT (aH t.1 t.2)).Nodup
 w_:ts.length<64
 uX:∀t∈ts,t.1∈hs.map (·.1)/\t.2∈hs.map (·.1)
theorem Good.r_{hs:Xa}{ts:Xb}(G:Good hs ts):(aO hs).Nodup:=(fE hs).nodup_iff.mpr G.o5
theorem Good.gX{hs:Xa}{ts:Xb}(G:Good hs ts):(aO hs).length=hs.length:=by
 rw[(fE hs).length_eq,au]
structure Txt (K:aj) (mg:Str->Option Aa) (C:Addr):Prop where
 cl:mX K C
 nS:mE K C uF
 nP:mE K C "sorted_pairs"
 nN:mE K C Bt
section v
theorem lE:bN ["self","hands","ties","strengths","checked"] ["self","hands","ties"] (aX rB):=bU
inductive Hu (K:aj) (C:Addr) (vs:ai) (H:Hp) (Q:VK) (E:XK):Prop
 |mk:∀(p dx lh lt:Addr) (ys zs:ai) (hs:Xa) (ts:Xb),vs=[.ref p,.ref lh,.ref lt]->H p\.ins C dx []->H lh\.lst ys->bS K H ys (hs.map kH)->H lt\.lst zs->bS K H zs (ts.map kT)->Good hs ts->(∀fp H',(∀b o,H b\o->b≠p->H' b\o)->hW K C H' p hs ts fp->(∀b∈fp,b=p∨H b=none)->Q .non H')->Hu K C vs H Q E
theorem YU{f C:Addr}{fd:Ae}(F:br K "__init__" "Web.__init__" rB f fd)(T:Txt K mg C)(B:Bi mg)(cS:!bu 4 "checked_strengths" ["hands"] (xa K))(cT:!bu 4 "checked_ties" ["ties","strengths"] (kU K))(cN:!bu 2 "neighbours_of_all" ["names","ties"] (kX K)) :
  aq P w K mg base a9 5 f fd ["self","hands","ties"] (Hu K C):=by
 exists F.bT lE;let#[p,dx,lh,lt,ys,zs,hs,ts,rfl,hp,eX,th,dW,tt,G,k]:=h
 apply#[_,aw (bo 3 lE.nd (bg cS hr %[1|0]))
  (aw (bo 4 lE.nd (bg cT hr %[2,3|0]))
  (aw (uM (pv 0) (pv 3) U) (aw (uM (pv 0) (pv 4) U)
  (aF (uM (pv 0) (bg cN hr %[jn (NY U) (by rfl) B.list AS %[3|0],4|0]) U))))),?_]
 apply#[_,U,lh,ys,hs,U,eX,th,G.ay,G.o5,G.h1,G.h8,λd1 H1 s1 f1 uo=>?_];apply#[_,U,_,U,lt,d1,zs,ts,_,U,s1 _ _ dW,tt.same s1,G.tok,G.Ge,G.w_,uo,λt ht=>?_,λl2 Js H2 s2 f2 jh tz=>?_]
 ·rw[Ia,Ia];exact#[cJ (G.uX t ht).1,cJ (G.uX t ht).2]
 let zR:=s2 _ _ uo;let kj:=s2 _ _ (s1 _ _ hp);have p1:p≠d1:=bK kj zR nofun;have p2:p≠l2:=bK kj jh nofun;apply#[_,U,_,U,p,C,dx,[],U,kj,T.cl,T.nS,by show 0<1000;decide,?_];apply#[_,U,_,U,p,C,dx,_,U,az,T.cl,T.nP,by show 1<1000;decide,?_]
 let H3:Hp:=upd (upd H2 p (.ins C dx (aA uF (.ref d1) []))) p (.ins C dx (aA "sorted_pairs" (.ref l2) (aA uF (.ref d1) [])))
 have h3:∀{b o},H2 b\o->b≠p->H3 b\o:=λe ne=>by
  show upd (upd H2 p _) p _ _=_;rw[ax ne,ax ne];exact e
 have L7:H3 p\.ins C dx (aA "sorted_pairs" (.ref l2) (aA uF (.ref d1) [])):=az
 have Dq:∀{b},H3 b=none->H2 b=none:=λ{b} e=>by
  by_cases z:b=p
  ·subst z;rw[L7] at e;cases e
  have e:upd (upd H2 p _) p _ b=none:=e;rw[ax z,ax z] at e;exact e
 have Py:bS K H3 Js ((bR ts).map kT):=by
  rw[Oi];exact Paired.aU tz λy q ⟨a,e,z⟩=>#[a,e,h3 z (bK z kj nofun)]
 apply#[_,U,d1,_,U,.inl (h3 zR p1.symm),λl1 eY=>?_];rw[SX];have s4:aa H3 (upd H3 l1 (.lst ((aO hs).map V.str))):=aa.new eY;have Ky:l1≠l2:=(bq (H:=H3) (h3 jh p2.symm) eY).symm;apply#[_,U,l1,l2,aO hs,Js,bR ts,U,az,s4 _ _ (h3 jh p2.symm),Py.same s4,G.r_,by rw[G.gX];have:=G.h8;omega,Ky,λd3 as H5 s5 f5 la l9 lists=>?_];let Le:=s5 _ _ (s4 _ _ L7);apply#[_,U,p,C,dx,_,U,Le,T.cl,T.nN,by show 2<1000;decide,?_]
 have up:∀{b o},H2 b\o->b≠p->upd H5 p (.ins C dx (fq d1 l2 d3)) b\o:=λe ne=>by
  rw[ax ne];exact s5 _ _ (s4 _ _ (h3 e ne))
 have pb:∀{b},upd H3 l1 (.lst ((aO hs).map V.str)) b=none->H b=none:=λe=>s1.free (s2.free (Dq (s4.free e)));have LK:d3≠p:=(bq (s4 _ _ L7) f5).symm;apply k (p::d1::l2::d3::as) _ (λb o e ne=>up (s2 _ _ (s1 _ _ e)) ne) #[dx,d1,l2,d3,Js,as,U,az,up zR p1.symm,up jh p2.symm,?_,?_,la,λi n a e1 e2=>?_] λb hb=>?_
 ·exact Paired.aU (Py.same (s4.trans s5)) λy q ⟨a,e,z⟩=>#[a,e,by rw[ax (bK z Le nofun)];exact z]
 ·rw[ax LK];exact l9
 ·let#[q1,q2]:=lists i n a e1 e2;rw[ax (bK q2 Le nofun)];exact q2
 simp only[bW] at hb;rcases hb with rfl|rfl|rfl|rfl|hb
 ·exact .inl U
 ·exact .inr f1
 ·exact .inr (s1.free f2)
 ·exact .inr (pb f5)
 let#[i,hi,e]:=gJ hb;have e1:as[i]? = some b:=by rw[aY hi,e]
 have hn:i<(aO hs).length:=by omega
 exact .inr (pb (lists i _ b (aY hn) e1).1)
end
end Ev
namespace Ev
open PySem L2
structure bQ (P:Ad) (w:Af) (K:aj) (mg:Str->Option Aa) (base:Heap) (C:Addr) (k:Nat) (m:Str) (ps:ae) (sp:Sp):Prop where
 ex:∃f fd,aq P w K mg base a9 k f fd ps sp/\Meth K C m f/\pX K fd ps []
theorem i6{X:Cx}{C:Addr}{k:Nat}{m:Str}{ps:ae}{sp:Sp}{pos apos:Pos}{o e:Expr}{es:List Expr}{ta:TE}{t:TA}{pl:Sem Bool}(c:bQ X.prog X.w X.K X.mg X.base C k m ps sp)(cl:mX X.K C)(hr:aP k X.A)(he:PE X o ta)(ha:PA X (e::es) t)
  (lZ:starEach (e::es) X.env=(false,eval e X.env)::starEach es X.env:=by rfl) (iq:(backTo pos (starEach es X.env)).any (·.1)=false:=by rfl)
  (ht:eval (.Call (.Attribute o m apos) (e::es) [] pos) X.env=(do
   let ov <- eval o X.env
   standAt apos.atName
   let (f,first) <- holding [ov] (getMethod ov m pl)
   callWith pos f first (backTo pos (starEach (e::es) X.env)) (backToKw pos (keywordEach [] X.env))):=by rfl) :
  PE X (.Call (.Attribute o m apos) (e::es) [] pos) (nh C m sp [] E0 ta t):=by
 let#[f,fd,F,hm,b]:=c.ex;exact Zb he cl hm F hr b .nil nO ha lZ iq ht
theorem AA{X:Cx}{C:Addr}{k:Nat}{m:Str}{ps:ae}{sp:Sp}{pos apos:Pos}{o:Expr}{ta:TE}{pl:Sem Bool}(c:bQ X.prog X.w X.K X.mg X.base C k m ps sp)(cl:mX X.K C)(hr:aP k X.A)(he:PE X o ta)
  (ht:eval (.Call (.Attribute o m apos) [] [] pos) X.env=(do
   let ov <- eval o X.env
   standAt apos.atName
   let (f,first) <- holding [ov] (getMethod ov m pl)
   callWith pos f first (backTo pos (starEach [] X.env)) (backToKw pos (keywordEach [] X.env))):=by rfl) :
  PE X (.Call (.Attribute o m apos) [] [] pos) (nh C m sp [] E0 ta oO):=by
 let#[f,fd,F,hm,b]:=c.ex;exact _G he cl hm F hr b .nil nO ht
theorem fo_{hs:Xa}(nd:(hs.map (·.1)).Nodup){x:Str}{n:Int}(h:(x,n)∈hs):aZ (dA hs) (Sum.inr x)\.int n:=by
 have m:((Sum.inr x:Key),V.int n)∈dA hs:=by
  unfold dA;apply bw.mpr #[kH (x,n),(tS _).mem_iff.mpr (bw.mpr #[_,h,U]),U]
 let nk:=UB nd;generalize dA hs=kvs at m nk
 induction kvs with
 |nil=>cases m
 |cons p r ih=>
  let#[n1,n2]:=jq.mp nk;rcases bW.mp m with e|m
  ·rw[<- e];exact AK U
  rw[AH (λe:p.1=Sum.inr x=>n1 (bw.mpr #[_,m,e.symm]))];exact ih m n2
theorem h8_{ns:ae}{as:ao}(nd:ns.Nodup)(la:as.length=ns.length){i:Nat}{n:Str}(hn:ns[i]? = some n):∃a,as[i]? = some a/\aZ (tM ns as) (Sum.inr n)\.ref a:=by
 induction ns generalizing as i with
 |nil=>simp at hn
 |cons x ns ih=>
  cases as with
  |nil=>cases la
  |cons b as=>
   let#[n1,n2]:=jq.mp nd;cases i with
   |zero=>
    have e:x=n:=⇑hn
    subst e;exact#[b,U,AK U]
   |succ i=>
    have hn:ns[i]? = some n:=⇑hn
    let#[a,h1,h2]:=ih n2 ⇑la hn;apply#[a,by simpa using h1,?_];show aZ ((Sum.inr x,V.ref b)::tM ns as) (Sum.inr n)=_;rw[AH λe=>n1 (by rw[show x=n from iy e];exact cz hn)];exact h2
section v
theorem xb:bN oz oz (aX vj):=bU
inductive jw (K:aj) (C:Addr) (vs:ai) (H:Hp) (Q:VK) (E:XK):Prop
 |mk:∀(p:Addr) (x:Str) (hs:Xa) (ts:Xb) (fp:ao),vs=[.ref p,.str x]->hW K C H p hs ts fp->Q (.bl (decide (x∈hs.map (·.1)))) H->jw K C vs H Q E
theorem Yv{f C:Addr}{fd:Ae}(F:br K "has_hand" "Web.has_hand" vj f fd)(T:Txt K mg C)(B:Bi mg):!aq a9 1 f fd oz (jw K C):=by
 exists F.bT xb;let#[p,x,hs,ts,fp,rfl,W,k]:=h;let hu:=fO hr;let#[dx,d1,l2,d3,zs,as,rfl,h1,h2,h3,h4,h5,h6,h7]:=W.ex;apply#[_,aF (bx (tJ (cZ mN (by rfl) B.kh kC %[1,mJ (v:=.ty "str") (by rfl) B.str HQ U|0]) (uO (HS (BF hu (pv 1) (gd (pv 0) U)))))),?_];apply#[_,U,_,_,_,_,U,.str x,U,_,U,dD ?_];apply#[_,U,_,U,p,C,dx,_,_,U,h1,T.cl,T.nS,Hf _ _ _,d1,_,U,.k (k:=Sum.inr x) h2,?_];rw[Ia];exact k
theorem vi:bN pf pf (aX lP):=bU
inductive FA (K:aj) (C:Addr) (vs:ai) (H:Hp) (Q:VK) (E:XK):Prop
 |mk:∀(p:Addr) (hs:Xa) (ts:Xb) (fp:ao),vs=[.ref p]->hW K C H p hs ts fp->(∀l,H l=none->Q (.ref l) (upd H l (.lst ((aO hs).map V.str))))->FA K C vs H Q E
theorem _N{f C:Addr}{fd:Ae}(F:br K "hands" "Web.hands" lP f fd)(T:Txt K mg C)(B:Bi mg):!aq a9 1 f fd pf (FA K C):=by
 exists F.bT vi;let#[p,hs,ts,fp,rfl,W,k]:=h;let#[dx,d1,l2,d3,zs,as,rfl,h1,h2,h3,h4,h5,h6,h7]:=W.ex;apply#[_,aF (bx (jn (NY U) (by rfl) B.list AS %[gd (pv 0) U|0])),?_];apply#[_,U,p,C,dx,_,_,U,h1,T.cl,T.nS,Hf _ _ _,d1,_,U,.inl h2,λl hl=>?_];rw[SX];exact k l hl
theorem eu':bN wg wg (aX Ol):=bU
inductive Ji (K:aj) (C:Addr) (vs:ai) (H:Hp) (Q:VK) (E:XK):Prop
 |mk:∀(p:Addr) (x:Str) (n:Int) (hs:Xa) (ts:Xb) (fp:ao),vs=[.ref p,.str x]->hW K C H p hs ts fp->(hs.map (·.1)).Nodup->(x,n)∈hs->Q (.int n) H->Ji K C vs H Q E
theorem eC_{f C:Addr}{fd:Ae}(F:br K "strength" "Web.strength" Ol f fd)(T:Txt K mg C)(cH:!bQ C 1 "has_hand" oz (jw K C)):!aq a9 2 f fd wg (Ji K C):=by
 apply F.bT eu' λaM A outer s H vs Q E hr h=>?_;let#[p,x,n,hs,ts,fp,rfl,W,nd,hx,k]:=h;let hu:=fO hr;let#[dx,d1,l2,d3,zs,as,rfl,h1,h2,h3,h4,h5,h6,h7]:=id W.ex;apply#[_,aw (cg (fi (e_ (i6 cH T.cl hr (pv 0) %[1|0]))) gj cm) (aF (bx (jo hu (gd (pv 0) U) (pv 1)))),?_];apply#[_,U,p,dx,_,U,h1,qa _ _ _ Z0 Z0 Z0,_,U,p,x,hs,ts,_,U,W,_,U,?_];rw[cJ (bw.mpr #[_,hx,U])];apply aL ?_;apply#[_,U,p,C,dx,_,_,U,h1,T.cl,T.nS,Hf _ _ _,_,U,d1,_,U,?_,k];rw[<- fo_ nd hx];exact .k (k:=Sum.inr x) h2
theorem u9:bN wg wg (aX lJ):=bU
inductive Np (K:aj) (C:Addr) (vs:ai) (H:Hp) (Q:VK) (E:XK):Prop
 |mk:∀(p:Addr) (x:Str) (hs:Xa) (ts:Xb) (fp:ao),vs=[.ref p,.str x]->hW K C H p hs ts fp->(aO hs).Nodup->x∈hs.map (·.1)->(∀l,H l=none->Q (.ref l) (upd H l (.lst ((near (aO hs) (bR ts) x).map V.str))))->Np K C vs H Q E
theorem QQ{H:Hp}{hs:Xa}{ts:Xb}{as:ao}{x:Str}(nd:(aO hs).Nodup)(hx:x∈hs.map (·.1))(la:as.length=(aO hs).length)
  (h7:∀(i:Nat) n a,(aO hs)[i]? = some n->as[i]? = some a->H a\.lst ((near (aO hs) (bR ts) n).map V.str)):∃a,aZ (tM (aO hs) as) (Sum.inr x)\.ref a/\H a\.lst ((near (aO hs) (bR ts) x).map V.str):=by
 let#[i,hi,e]:=gJ ((fE hs).mem_iff.mpr hx);have hn:(aO hs)[i]? = some x:=by rw[aY hi,e]
 let#[a,h1,h2]:=h8_ nd la hn;exact⟨a,h2,h7 i x a hn h1⟩
theorem _p{f C:Addr}{fd:Ae}(F:br K "neighbours" "Web.neighbours" lJ f fd)(T:Txt K mg C)(B:Bi mg)(cH:!bQ C 1 "has_hand" oz (jw K C)):!aq a9 2 f fd wg (Np K C):=by
 exists F.bT u9;let#[p,x,hs,ts,fp,rfl,W,nd,hx,k]:=h;let hu:=fO hr;let#[dx,d1,l2,d3,zs,as,rfl,h1,h2,h3,h4,h5,h6,h7]:=id W.ex;let#[a,e1,ha]:=QQ nd hx h6 h7;apply#[_,aw (cg (fi (e_ (i6 cH T.cl hr (pv 0) %[1|0]))) gj cm) (aF (bx (jn ec_ (by rfl) B.list AS %[jo hu (gd (pv 0) U) (pv 1)|0]))),?_];apply#[_,U,p,dx,_,U,h1,qa _ _ _ Z0 Z0 Z0,_,U,p,x,hs,ts,_,U,W,_,U,?_];rw[cJ hx];apply aL ?_;apply#[_,U,p,C,dx,_,_,U,h1,T.cl,T.nN,Q5 _ _ _,_,U,d3,.ref a,U,?_,a,_,U,.inl (.of ha),k];rw[<- e1];exact .k (k:=Sum.inr x) h5
theorem yG:bN jT jT (aX qS):=bU
theorem M5{H:Hp}:∀ns:ae,Paired (rS H) (ns.map V.str) ns
 |[]=>.nil
 |_::ns=>.cons U (M5 ns)
end
end Ev
namespace L2
open PySem PySem.Spec PyProof.Rows PySem.W
theorem Inv.iN{X:Cx}{pins:List (Addr × Obj)}{σ:St}{H:Hp}{s:Ab}{h':Heap}{t':Nat}{fp:ao}{T:Addr}{xs:ai}{its:ag}(I:Inv X pins σ H s)(k:∀b o,b∉fp->s.heap.get? b\o->h'.get? b\o)(hf:∀b∈fp,dk X pins H b)
  (hT:s.heap.objs.size<=T) (hz:xs.length<=sizeLine) (r:Vals xs its) (ht:IsTup h' T its.toArray/\∃o,h'.get? T\o/\o.dict=none):Inv X pins σ (upd H T (.tup xs)) { s with heap:=h',toks:=t' }:=by
 have fT:H T=none:=I.ay.fresh hT;have nf:∀b u,H b\u->b∉fp:=λb u e hb=>by rw[(hf b hb).1] at e;cases e
 have old:∀{b u},H b\u->upd H T (.tup xs) b\u:=λe=>by rw[ax (bq e fT)];exact e
 apply I.step (g':=s.gens) (d':=s.drawn) (ch:=fp) (λb hb=>?_) (λb o _ _ hc e _=>k b o hc e) (λb o _ _ hc e _=>#[o.slots,k b o hc e]) (λb o _ e n=>?_)
  (λb o hc e=>#[o,k b o hc e]) (λb ys e=>old e) (λb o u e=>old e) (λb ps e=>#[#[],by rw[Array.append_empty];exact old e]) (λm hm=>?_) (λb u e=>?_) I.bare
 ·let#[f0,f1,f2,f3,f4,f5]:=hf b hb;exact#[f3,f1,f4,f5]
 ·rw[ax (λz=>by subst z;exact absurd (bp e) (Nat.not_lt.mpr hT))];exact n
 ·let#[o,es,ep,ho,r]:=hm;exact#[o,es,ep,k _ o (λhb=>(hf _ hb).2.1 U) ho,r]
 by_cases z:b=T
 ·subst z;rw[az] at e;cases e;exact#[hz,its,r,ht]
 rw[ax z] at e;apply (I.ay b u e).eS (λc v hc q=>k c v ?_ q) (λ_ q=>old q) λ_ _ q=>old q;rcases hc with z|z
 ·rw[z];exact nf b u e
 exact nf c _ z
theorem Inv.gT{X:Cx}{pins:List (Addr × Obj)}{σ:St}{H:Hp}{s:Ab}{h':Heap}{t':Nat}{fp:ao}(I:Inv X pins σ H s)(k:∀b o,b∉fp->s.heap.get? b\o->h'.get? b\o)(hf:∀b∈fp,dk X pins H b):Inv X pins σ H { s with heap:=h',toks:=t' }:=by
 have nf:∀b u,H b\u->b∉fp:=λb u e hb=>by rw[(hf b hb).1] at e;cases e
 apply I.step (g':=s.gens) (d':=s.drawn) (ch:=fp) (λb hb=>?_) (λb o _ _ hc e _=>k b o hc e) (λb o _ _ hc e _=>#[o.slots,k b o hc e]) (λb o _ e n=>n)
  (λb o hc e=>#[o,k b o hc e]) (λb ys e=>e) (λb o u e=>e) (λb ps e=>#[#[],by rw[Array.append_empty];exact e]) (λm hm=>?_) (λb u e=>?_) I.bare
 ·let#[f0,f1,f2,f3,f4,f5]:=hf b hb;exact#[f3,f1,f4,f5]
 ·let#[o,es,ep,ho,r]:=hm;exact#[o,es,ep,k _ o (λhb=>(hf _ hb).2.1 U) ho,r]
 apply (I.ay b u e).eS (λc v hc q=>k c v ?_ q) (λ_ q=>q) λ_ _ q=>q;rcases hc with z|z
 ·rw[z];exact nf b u e
 exact nf c _ z
end L2
namespace L2
open PySem PySem.Spec PyProof.Rows
section
variable{M:Model}{A:Ag}{E:Aa->Ab->Prop}{s:Ab}{base:Heap}{env:Env}{outer:List Env}{L e:Addr}{cls cx fl:Aa}{Q:Unit->Ab->Prop}
end
end L2
namespace L2
open PySem PySem.Spec PyProof.Rows
section
variable{P:Ad}{w:Af}{H H':Hp}{B h0 h h1:Heap}{l:List Env}
end
section
variable{X:Cx}{pins:List (Addr × Obj)}{σ:St}{H H':Hp}{s s1:Ab}{B h:Heap}{a:Addr}{cls a0:Aa}{E:XK}
end
section
variable{P:Ad}{w:Af}{K:aj}{mg:Str->Option Aa}{base:Heap}{N:ae}{qual:Str}{scope:Scope}{f:Addr}{cd:Aa}{A:Ag}{outer:List Env}{s:Ab}{H:Hp}{E:XK}
end
section
variable{X:Cx}{x:Str}{C:Addr}{bm:ag}{B newId zq:String}{np bZ pos:Pos}{e₀:Expr}{t:TA}{E:XK}
end
section v
end
end L2
namespace L2
open PySem PySem.Spec PySem.Calls PyProof.Rows PySem.W Builtin Builtin.ObjectAttr Builtin.Getset_descriptor
structure Pi (K:aj) (C:Addr):Prop where
 cl:(clsIn K C).isSome=true
 ga:findIn K (.ref C) "__getattribute__"\some (.builtin "BaseException.__getattribute__")
 ha:findIn K (.ref C) "__getattr__"\none
 ca:findIn K (.ref C) "__class__"\some (.builtin "object.__class__")
 gt:specialIn K (.builtin "object.__class__") "__get__"\some (.builtin "getset_descriptor.__get__")
 tk:takesIn K (.builtin "object.__class__")\true
 mo:mroIn K C (.type "object")\true
 mb:mroIn K C (.type "BaseException")\true
section
variable{prog:Ad}{w:Af}{A:Ag}{E:Aa->Ab->Prop}{s:Ab}{K:aj}{x C:Addr}
end
section
variable{X:Cx}
inductive xm (K:aj) (xs:ai) (H:Hp) (Q:VK):Prop
 |mk:∀x C t b,xs=[x,.ref C]->fP K H x t->PySem.W.kitOne K t (.ref C)\b->Q (.bl b) H->xm K xs H Q
theorem hn_:gG X (.builtin "isinstance") (xm X.K):=by
 intro pins s σ H xs us Q I r h;let#[x,C,t,b,rfl,ty,e,q]:=h;let#[u,w',rfl,ru,jd]:=vals2 r;cases (show w'=Value.ref C from jd);exact Ua I ru ty e λtk=>#[.bl b,H,I.tok tk,U,q]
end
end L2
namespace L2
open PySem PySem.Spec PyProof.Rows
section
variable{X:Cx}{pins:List (Addr × Obj)}{σ:St}{H:Hp}{s:Ab}{a:Addr}
end
section
variable{X:Cx}{st:Stmt}{e c:Expr}{te:XS->TE}{t u:XS->TS}{pos:Pos}{a b:List Stmt}{tc:TT}
end
section
variable{X:Cx}{k:Nat}{f C:Addr}{fd:Ae}{ps:ae}{sp:Sp}{gP:ai}{ds:ag}{ES:XS}{x m:Str}{p pos apos:Pos}{e o:Expr}{es:List Expr}{ta:TE}{t:TA}
end
section
variable{X:Cx}{i:Nat}{x n:Str}{D C:Addr}{np zA pos:Pos}{AG:Stmt}{qz body:List Stmt}{tb:XS->TS}{ts:TS}
end
end L2
namespace L2
open PySem
end L2
namespace Ev
open PySem L2
abbrev lT:Stmt:=top 54
abbrev NF:Stmt:=top 55
abbrev Ou:Stmt:=top 56
abbrev Fj:Stmt:=top 57
abbrev lS:Stmt:=top 60
abbrev J9:Stmt:=top 20
abbrev J8:Stmt:=top 21
abbrev rG:Stmt:=top 22
abbrev rA:Stmt:=top 23
abbrev rh:Stmt:=top 24
abbrev Nj:Stmt:=top 13
abbrev Nv:Stmt:=top 26
abbrev M_:Stmt:=top 27
abbrev rg:Stmt:=top 28
abbrev Nb:Stmt:=top 29
abbrev qT:Stmt:=top 30
abbrev Oq:Stmt:=top 31
abbrev rJ:Stmt:=top 34
abbrev lR:Stmt:=top 35
abbrev qV:Stmt:=top 36
abbrev Nz:Stmt:=top 37
abbrev qZ:Stmt:=top 38
abbrev Hv:Stmt:=top 39
abbrev q_:Stmt:=top 40
abbrev Nf:Stmt:=top 41
abbrev rp:Stmt:=top 42
abbrev OE:Stmt:=top 43
abbrev lM:Stmt:=top 61
abbrev NB:Stmt:=top 62
abbrev lK:Stmt:=top 63
abbrev M9:Stmt:=top 64
abbrev Nd:Stmt:=top 65
abbrev NK:Stmt:=top 66
abbrev lO:Stmt:=top 67
abbrev NH:Stmt:=top 68
abbrev Nn:Stmt:=top 69
abbrev M3:Stmt:=top 70
abbrev lI:Stmt:=top 71
abbrev fo:Stmt:=top 72
def bC(l:Addr)(H H':Hp):Prop:=∀b o,H b\o->b≠l->H' b\o
theorem bC.refl(l:Addr)(H:Hp):bC l H H:=λ_ _ e _=>e
theorem bC.trans{l:Addr}{H H1 H2:Hp}(h:bC l H H1)(h2:bC l H1 H2):bC l H H2:=λb o e n=>h2 b o (h b o e n) n
theorem bC.of{l:Addr}{H H1:Hp}(h:aa H H1):bC l H H1:=λb o e _=>h b o e
theorem bC.upd{l:Addr}{H:Hp}{o:HO}:bC l H (upd H l o):=λb u e n=>by rw[ax n];exact e
def dQ(H:Hp)(l:Addr):Prop:=(∃n:Int,H l\.lst [.int n])∨∃n m c:Int,H l\.lst [.int n,.int m,.int c]
theorem dQ.some{H:Hp}{l:Addr}(h:dQ H l):∃xs,H l\.lst xs:=by
 rcases h with⟨n,e⟩|⟨n,m,c,e⟩
 ·exact#[_,e]
 exact#[_,e]
theorem bC.free{l b:Addr}{H H':Hp}(h:bC l H H')(s:dQ H' l)(e:H' b=none):H b=none:=by
 cases z:H b with
 |none=>rfl
 |some o=>
  by_cases q:b=l
  ·subst q;let#[xs,e2]:=s.some;rw[e] at e2;cases e2
  rw[h b o z q] at e;cases e
theorem d8{α:Type}{xs:List α}{i:Int}(h0:0<=i)(h1:i<xs.length):iL xs i=xs[i.toNat]?:=by
 unfold iL vG;rw[aJ h0,aJ h1];rfl
section v
def AO:Sp:=λvs H Q _=>∃(l:Addr) (b:Int),vs=[.ref l,.int b]/\0<b/\b<1073741824/\dQ H l/\∀r H',0<=r->r<b->bC l H H'->dQ H' l->Q (.int r) H'
theorem small(x:Int):-(2 ^ 64)<x % 2147483647/\x % 2147483647<2 ^ 64:=by
 let h1:=Int.emod_nonneg x (b:=2147483647) (by decide);let h2:=Int.emod_lt_of_pos x (b:=2147483647) (by decide);exact#[by omega,by omega]
end
end Ev
namespace Ev
open PySem L2
theorem _o:("abcdefghijklmnopqrstuvwxyz":Str).cps.toList=[97,98,99,100,101,102,103,104,105,106,107,108,109,110,111,112,113,114,115,116,117,118,119,120,121,122]:=by decide +kernel
theorem Yj{r:Int}(h0:0<=r)(h1:r<26):∃c,iL ("abcdefghijklmnopqrstuvwxyz":Str).cps.toList r\c/\oX c=true:=by
 rw[_o,d8 h0 ⇑h1];have hn:r.toNat<26:=by omega
 apply#[_,aY ⇑hn,?_];have all:∀c∈[97,98,99,100,101,102,103,104,105,106,107,108,109,110,111,112,113,114,115,116,117,118,119,120,121,122],oX c=true:=by decide +kernel
 exact all _ (mO _)
end Ev
namespace Ev
open PySem L2
def pW{α:Type}(l:List α)(k:Nat)(x:α):List α:=l.take k++x::l.drop k
theorem FN{α:Type}(l:List α)(k:Nat)(x:α):(pW l k x).Perm (x::l):=by
 unfold pW;apply List.perm_middle.trans ?_;rw[List.take_append_drop]
theorem S_{α β:Type}(g:α->β)(l:List α)(k:Nat)(x:α):(pW l k x).map g=pW (l.map g) k (g x):=by
 unfold pW;rw[fg,eZ,List.map_take,List.map_drop]
theorem OA{α β:Type}{F:α->β->Prop}:∀{ys:List α} {ks:List β} (k:Nat) {y:α} {q:β},Paired F ys ks->F y q->Paired F (pW ys k y) (pW ks k q)
 |[],_,k,_,_,.nil,h=>by
  unfold pW;simp only[List.take_nil,List.drop_nil,List.nil_append];exact .cons h .nil
 |y::ys,_,0,_,_,.cons a t,h=>.cons h (.cons a t)
 |y::ys,_,k+1,_,_,.cons a t,h=>.cons a (OA k t h)
theorem NN{α:Type}(l:List α)(k:Nat)(x:α):(pW l k x).length=l.length+1:=(FN l k x).length_eq
theorem zM{α:Type}{a b:α}{r:Int}(h0:0<=r)(h1:r<2):iL [a,b] r\a∨iL [a,b] r\b:=by
 have:r=0∨r=1:=by omega
 rcases this with rfl|rfl
 ·exact .inl U
 exact .inr U
theorem Lr{α:Type}{p:α->Prop}{a b c d:α}{r:Int}(h0:0<=r)(h1:r<4)(ha:p a)(hb:p b)(hc:p c)(hd:p d):∃x,iL [a,b,c,d] r\x/\p x:=by
 have:r=0∨r=1∨r=2∨r=3:=by omega
 rcases this with rfl|rfl|rfl|rfl
 ·exact#[_,U,ha]
 ·exact#[_,U,hb]
 ·exact#[_,U,hc]
 exact#[_,U,hd]
section
theorem jR{K:aj}{H H':Hp}{l:Addr}{ys:ai}{ks:List av}(t:bS K H ys ks)(b:bC l H H'){xs:ai}(hl:H l\.lst xs):bS K H' ys ks:=Paired.aU t λy k ⟨a,z,q⟩=>#[a,z,b _ _ q (bK q hl nofun)]
theorem TK{K:aj}{H:Hp}{D:Addr}{ns:ae}(h:H D\.lst (ns.map V.str)):rL K rS H (.ref D) ns:=#[D,_,U,.of h,M5 ns]
end
end Ev
namespace Ev
open PySem L2
theorem fq_{K:aj}{a D:Addr}{ys:ai}{hs:Xa}{H:Hp}{Q:VK}{oK:St}(sH:oK=[none,none])(ha:H a\.lst ys)(tu:bS K H ys (hs.map kH))(h8:hs.length<=1000)(hD:H D=none)
  (q:∀H',aa H H'->H' D\.lst ((hs.map (·.1)).map V.str)->Q (.ref D) H'):BC (yi K a) (gO K 2 (pV (ku 0) (pV (ku 1) sT))) qk (oN 0) oK D H Q:=by
 let sz:=cU;let le:=bj tu;rw[au] at le;apply kI (own:=2) (fv:=[]) (xs:=ys) sH Ah (λi out H'=>aa H H'/\H' D\.lst out/\out=((hs.take i).map (·.1)).map V.str) #[aa.new hD,az,U] (λi out H' _ ⟨sm,_,_⟩=>.of (sm _ _ ha)) (λout H4 ⟨sm,o8,eo⟩=>?_) (λj y out H' hy ⟨sm,dJ,eo⟩=>?_)
 ·rw[le,eI] at eo;subst eo;exact q _ sm o8
 let#[h,hh,p,rfl,hp]:=oB tu hy;apply#[_,#[p,_,_,U,.of (sm _ _ (sI hp)),U],U,λNx hN=>fV ?_];apply#[_,U,out,dJ,?_,hN _ _ #[fR sm hD,az,?_]]
 ·rw[eo,au,au,dR];omega
 rw[yc _ hh,fg,eo];rfl
def kO(t:Str × Str):av:=kT (aH t.1 t.2)
structure TI (ns:ae) (k j:Nat) (ts:Xb):Prop where
 at':∀t∈ts,∃(a b:Nat) (x y:Str),b<a/\(a<k∨(a=k/\b<j))/\ns[a]? = some x/\ns[b]? = some y/\(t=(x,y)∨t=(y,x))
 nd:(ts.map kO).Nodup
 len:ts.length<=7 * k+j
theorem TI.skip{ns:ae}{k j:Nat}{ts:Xb}(h:TI ns k j ts):TI ns k (j+1) ts:=
 #[λt ht=>let #[a,b,x,y,h1,h2,h3,h4,h5]:=h.at' t ht;#[a,b,x,y,h1,by omega,h3,h4,h5],h.nd,by have:=h.len;omega]
theorem TI.next{ns:ae}{k:Nat}{ts:Xb}(h:TI ns k k ts)(h7:k<=7):TI ns (k+1) 0 ts:=
 #[λt ht=>let #[a,b,x,y,h1,h2,h3,h4,h5]:=h.at' t ht;#[a,b,x,y,h1,by omega,h3,h4,h5],h.nd,by have:=h.len;omega]
theorem Hg{a b:Str × Str}(h:kT a=kT b):a=b:=by
 unfold kT at h;let#[h1,h2]:=List.cons.inj h;let#[h2,_]:=List.cons.inj h2;exact Prod.ext (iy h1) (iy h2)
theorem FB{ns:ae}(nd:ns.Nodup){i j:Nat}{x:Str}(h:ns[i]? = some x)(h2:ns[j]? = some x):i=j:=by
 let#[hi,e1]:=b_.mp h;let#[hj,e2]:=b_.mp h2;exact (List.getElem_inj nd).mp (e1.trans e2.symm)
theorem QZ{a b c d:Str}(h:kO (a,b)=kO (c,d)):(a=c/\b=d)∨(a=d/\b=c):=by
 let h:=Hg h;dsimp only at h;rcases BN a b with e|e<;>rcases BN c d with e2|e2<;>rw[e,e2] at h<;>let h1:=(Prod.mk.inj h).1<;>let h2:=(Prod.mk.inj h).2
 ·exact .inl #[h1,h2]
 ·exact .inr #[h1,h2]
 ·exact .inr #[h2,h1]
 exact .inl #[h2,h1]
theorem TI.add{ns:ae}{k j:Nat}{ts:Xb}(h:TI ns k j ts)(nd:ns.Nodup){x y:Str}{t:Str × Str}(hj:j<k)(hx:ns[k]? = some x)(hy:ns[j]? = some y)(ht:t=(x,y)∨t=(y,x))(q:Nat):TI ns k (j+1) (pW ts q t):=by
 apply#[λu hu=>?_,?_,by have:=h.len;rw[NN];omega]
 ·rcases bW.mp ((FN _ _ _).mem_iff.mp hu) with rfl|hu
  ·exact#[k,j,x,y,hj,.inr #[U,by omega],hx,hy,ht]
  exact h.skip.at' u hu
 apply ((FN ts q t).map kO).nodup_iff.mpr ?_;rw[eZ];apply jq.mpr #[λm=>?_,h.nd];let#[u,hu,e]:=bw.mp m;let#[a,b,c,d,h1,h2,h3,h4,h5]:=h.at' u hu
 have key:(c=x/\d=y)∨(c=y/\d=x):=by
  rcases h5 with rfl|rfl<;>rcases ht with rfl|rfl<;>rcases QZ e with⟨q1,q2⟩|⟨q1,q2⟩<;>simp_all
 rcases key with⟨rfl,rfl⟩|⟨rfl,rfl⟩
 ·have:=FB nd h3 hx;have:=FB nd h4 hy;omega
 have:=FB nd h3 hy;have:=FB nd h4 hx;omega
theorem TI.good{ns:ae}{k j:Nat}{ts:Xb}(h:TI ns k j ts)(nd:ns.Nodup)(ok:∀n∈ns,iz n=true):∀t∈ts,vY t/\t.1∈ns/\t.2∈ns:=λt ht=>by
 let#[a,b,x,y,h1,h2,h3,h4,h5]:=h.at' t ht;let mx:=cz h3;let my:=cz h4
 have ne:x≠y:=λe=>by
  subst e;have:=FB nd h3 h4;omega
 rcases h5 with rfl|rfl
 ·exact#[#[ok _ mx,ok _ my,ne],mx,my]
 exact#[#[ok _ my,ok _ mx,ne.symm],my,mx]
theorem _W(ns:ae)(k:Nat):dX (ns.map V.str) none (some (k:Int))=(ns.take k).map V.str:=by
 unfold dX;rw[HT.eU,HT.d9,List.drop_zero,Nat.sub_zero,List.map_take,au];by_cases h:k<=ns.length
 ·rw[Nat.min_eq_left h]
 rw[Nat.min_eq_right Z1,uQ (by rw[au];omega),uQ (by rw[au];omega)]
theorem dQ.same{H H':Hp}{l:Addr}(h:dQ H l)(s:aa H H'):dQ H' l:=by
 rcases h with⟨n,e⟩|⟨n,m,c,e⟩
 ·exact .inl #[n,s _ _ e]
 exact .inr #[n,m,c,s _ _ e]
end Ev
namespace Ev
open PySem L2
theorem hg_{a b:Str}(h:zh a b=true):zh b a=false:=Uh (a:=Sum.inr a) (b:=Sum.inr b) h
theorem _x{a b:Str}(h:zh a b=false)(h2:zh b a=false):a=b:=iy (Sd (a:=Sum.inr a) (b:=Sum.inr b) h h2)
theorem NM(a b:Str):aH a b=aH b a:=by
 unfold aH;by_cases h:zh a b=true
 ·rw[aJ h,aB (by rw[hg_ h];decide)]
 by_cases h2:zh b a=true
 ·rw[aB h,aJ h2]
 have:=_x ⇑h ⇑h2;subst this;rw[aB h]
theorem Iy{ts:Xb}{x:Str × Str}:x∈bR ts ↔ ∃t∈ts,aH t.1 t.2=x:=by
 have e:kT x∈(bR ts).map kT ↔ x∈bR ts:=#[λh=>by
  let#[y,hy,e]:=bw.mp h;rw[<- Hg e];exact hy,λh=>bw.mpr #[x,h,U]]
 rw[<- e,Oi,(tS _).mem_iff,bw];exact#[λ⟨t,ht,q⟩=>#[t,ht,Hg q],λ⟨t,ht,q⟩=>#[t,ht,by rw[q]]]
theorem ZF(a b:Str):kO (a,b)=kO (b,a):=by
 show kT (aH a b)=kT (aH b a);rw[NM]
end Ev
namespace Ev
open PySem L2
section v
theorem Ih:bN [hZ,"_law_base",uE,"_law_number"] xV (aX lS):=bU
theorem _l{f:Addr}{fd:Ae}(F:br K vZ vZ lS f fd)(B:Bi mg):!aq a9 1 f fd xV AO:=by
 exists F.bT Ih;let#[l,b,rfl,h0,h1,st,k]:=h
 apply#[_,aw (cg (fh E3 (cZ ic (by rfl) B.len gH %[0|0]) aD)
   (aF (kG (ow mq PySem.F.slot_list_extend PySem.F.type_list_extend T7 (pv 0) %[fF %[bJ Ay (bz h_ (pv 0) aD) aD,aD|0]|0]))) cm)
  (aw (cg (fh GQ (bz h_ (pv 0) aD) aD)
   (aw (bo 2 Ih.nd (bJ Ay (bz h_ (pv 0) aD) (pv 1)))
   (aw (Ml (bJ Fn (bz h_ (pv 0) aD) (pv 1)) (Q3 (pv 0) aD Tn))
   (aF (bx (pv 2))))) cm)
  (aw (Ml (bJ ie (bz h_ (pv 0) aD) aD) (Q3 (pv 0) aD Tn))
  (aw (bo 3 Ih.nd (bJ Ay (bJ iB (bJ ie (bJ ie (bz h_ (pv 0) aD) (bJ iB aD (bz h_ (pv 0) aD))) aD) aD) aD))
  (aw (bo 3 Ih.nd (bJ Ay (bJ iB (pv 3) (bJ ie (bJ Fn (pv 3) aD) aD)) aD))
  (aF (bx (bJ Ay (bJ Ay (bJ iB (pv 3) (bJ ie (bJ Fn (pv 3) aD) aD)) aD) (pv 1)))))))),?_]
 rcases st with⟨n,o7⟩|⟨n,m,c,hl⟩
 case' inl=>
  apply#[_,U,l,_,U,.inl (.of o7),U,_,U,dD ?_];apply#[_,U,.inl #[U,_,.of o7],_,U,l,_,_,_,U,U,.of o7,U,_,_,U,U,by show (0:Int)<2147483647;decide,zl,λq hq=>?_];apply#[l,q,_,_,U,U,aa.new hq _ _ o7,az,by show 1+2<=sizeLine;decide,?_];have bt:bC l H (upd (upd H q (.lst [.int (n % 2147483647),.int 0])) l (.lst ([.int n]++[.int (n % 2147483647),.int 0]))):=(bC.of (aa.new hq)).trans bC.upd;have hl:(upd (upd H q (.lst [.int (n % 2147483647),.int 0])) l (.lst ([.int n]++[.int (n % 2147483647),.int 0]))) l\.lst [.int n,.int (n % 2147483647),.int 0]:=az;generalize (upd (upd H q (.lst [.int (n % 2147483647),.int 0])) l (.lst ([.int n]++[.int (n % 2147483647),.int 0])))=H1 at bt hl ⊢
 case' inr=>
  apply#[_,U,l,_,U,.inl (.of hl),U,_,U,aL ?_];let bt:=bC.refl l H
 all_goals
  apply#[_,U,l,_,_,_,U,U,.of hl,U,_,_,U,U,_,U,?_];apply bY (λc=>?_) (λc=>?_)
  ·apply#[_,U,l,_,_,_,U,U,.of hl,U,_,U,_,_,U,U,h0,?_];apply#[_,U,l,_,_,_,U,U,.of hl,U,_,U,_,_,U,U,#[h0,h1],_,U,l,_,_,0,U,U,hl,U,?_];exact#[_,U,k _ _ (Int.emod_nonneg _ Z1) (Int.emod_lt_of_pos _ h0) (bt.trans bC.upd) (.inr #[_,_,_,az])]
  apply#[_,U,l,_,_,_,U,U,.of hl,U,_,_,U,U,_,U,l,_,_,2,U,U,hl,U,?_];apply#[_,U,l,_,_,_,U,U,.of az,U,_,U,l,_,_,_,U,U,.of az,U,_,_,U,U,.inl #[by decide,by decide],_,_,U,U,_,_,U,U,_,_,U,U,.inr #[by decide,by decide],_,_,U,U,by show (0:Int)<2147483647;decide,?_];apply#[_,U,_,U,_,_,U,U,#[by decide,by decide],_,_,U,U,_,_,U,U,.inl (small _),_,_,U,U,by show (0:Int)<2147483647;decide,?_];apply#[_,U,_,U,_,_,U,U,#[by decide,by decide],_,_,U,U,_,_,U,U,.inl (small _),_,_,U,U,by show (0:Int)<2147483399;decide,_,U,_,_,U,U,h0,?_];exact k _ _ (Int.emod_nonneg _ Z1) (Int.emod_lt_of_pos _ h0) (bt.trans bC.upd) (.inr #[_,_,_,az])
theorem IT:bN [hZ,uE,"_law_k"] [hZ] (aX lM):=bU
def Nm:Sp:=λvs H Q _=>∃(l:Addr),vs=[.ref l]/\dQ H l/\∀x H',iz x=true->bC l H H'->dQ H' l->Q (.str x) H'
theorem hL_{f:Addr}{fd:Ae}(F:br K "_law_name" "_law_name" lM f fd)(B:Bi mg)(cD:!bu 1 vZ xV AO):!aq a9 2 f fd [hZ] Nm:=by
 exists F.bT IT;let#[l,rfl,st,k]:=h;let sz:=cU
 apply#[_,aw (bo 1 IT.nd xZ)
  (aw (ed dH U (AL (by rfl) B.range %[bJ ie aD (bg cD hr %[0,aD|0])|0]) (cq 2 IT.nd)
   (aF (bo 1 IT.nd (bJ fD_ (pv 1) (bz YK xZ (bg cD hr %[0,aD|0]))))))
  (aF (bx (pv 1)))),?_]
 apply#[_,U,l,8,U,by decide,by decide,st,λr H1 r0 r8 b1 u5=>?_];apply#[_,_,U,U,_,U,by show (-(2 ^ 62):Int)<=1+r;omega,by show 1+r<(2 ^ 62:Int);omega,?_];apply BO (lo:=0) (n:=(1+r).toNat) (λi σ H2=>∃(x:Str) (v:aE),σ=[some (.ref l),some (.str x),v]/\x.length=i/\x.cps.toList.all oX=true/\bC l H H2/\dQ H2 l) #["",none,U,U,U,b1,u5] ?_ ?_
 ·rintro i σ H2 hi ⟨x,v,rfl,hx,ho,b2,gq⟩;apply#[_,U,_,U,l,26,U,by decide,by decide,gq,λq H3 q0 WV b3 iE=>?_];let#[c,hc,oc]:=Yj q0 WV;apply#[_,_,_,U,U,by decide +kernel,hc,_,_,U,U,?_,_,_,U,?_,?_,b2.trans b3,iE]
  ·have:(⟨(List.toArray [c])⟩:Str).length=1:=rfl;omega
  ·have e:(x++(⟨(List.toArray [c])⟩:Str)).cps.toList=x.cps.toList++[c]:=PySem.W.KT.app_list _ _;have:(x++(⟨(List.toArray [c])⟩:Str)).length=(x++(⟨(List.toArray [c])⟩:Str)).cps.toList.length:=by rw[pE];rfl
   rw[this,e,eM,pE];show x.length+1=i+1;omega
  have e:(x++(⟨(List.toArray [c])⟩:Str)).cps.toList=x.cps.toList++[c]:=PySem.W.KT.app_list _ _;rw[e,List.all_append,ho];simp[oc]
 rintro σ H2 ⟨x,v,rfl,hx,ho,b2,gq⟩;apply#[_,U,k x H2 ?_ b2 gq];unfold iz;rw[ho,cJ (show 1<=x.length by omega),cJ (show x.length<=8 by omega)];rfl
theorem FT:bN [hZ,"_law_most",uE,"_law_k","_law_name_here",xS] [hZ,"_law_most"] (aX NB):=bU
def Um(K:aj):Sp:=λvs H Q _=>∃(l:Addr) (m:Nat),vs=[.ref l,.int m]/\1<=m/\m<=8/\dQ H l/\∀(a:Addr) (ys:ai) (hs:Xa) (H':Hp),bC l H H'->dQ H' l->H a=none->H' a\.lst ys->bS K H' ys (hs.map kH)->(∀h∈hs,ou h)->(hs.map (·.1)).Nodup->1<=hs.length->hs.length<=m->Q (.ref a) H'
theorem h0_{f:Addr}{fd:Ae}(F:br K "_law_hands" "_law_hands" NB f fd)(B:Bi mg)(cD:!bu 1 vZ xV AO)(cN:!bu 2 "_law_name" [hZ] Nm):!aq a9 3 f fd [hZ,"_law_most"] (Um K):=by
 exists F.bT FT;let#[l,m,rfl,m1,m8,st,k]:=h;let sz:=cU
 apply#[_,aw (bo 2 FT.nd (fF bF))
  (aw (ed dH U (AL (by rfl) B.range %[bJ ie aD (bg cD hr %[0,1|0])|0]) (cq 3 FT.nd)
   (aw (bo 4 FT.nd (bg cN hr %[0|0]))
   (aF (cg (fh (Uj ix (mF hr 0)) (pv 4) (kD ["_law_one",xS] 2 [] (dE (pv 2)) (λfp s H=>FG (n:=2) (dG (gh (i:=0) (show (["_law_one",xS]:ae).Nodup by decide +kernel) U (Or.inl U)) (dG (gh (i:=1) (show (["_law_one",xS]:ae).Nodup by decide +kernel) U (Or.inl U)) iM)))
     (λfp s H=>mI) (λfp s H=>pv 0)) (by with_unfolding_all rfl))
    (aw (bo 5 FT.nd (bz h_ (fF %[aD,bJ ie aD (bg cD hr %[0,aD|0]),bJ ie aD (bg cD hr %[0,aD|0]),aD|0]) (bg cD hr %[0,aD|0])))
    (aF (kG (ow mq PySem.F.slot_list_insert PySem.F.type_list_insert T_ (pv 2) %[bg cD hr %[0,bJ ie (cZ ic (by rfl) B.len gH %[2|0]) aD|0],iC %[4,5|0]|0]))))
    cm))))
  (aF (bx (pv 2)))),?_]
 apply#[zl,λa ha=>?_];let#[Pq,o7]:=st.some;have gy:l≠a:=bq o7 ha
 have Wh:dQ (upd H a (.lst [])) l:=by
  unfold dQ;rw[ax gy];exact st
 apply#[_,U,_,U,l,m,U,by omega,by omega,Wh,λr H1 r0 r8 b1 u5=>?_];apply#[_,_,U,U,_,U,by show (-(2 ^ 62):Int)<=1+r;omega,by show 1+r<(2 ^ 62:Int);omega,?_]
 apply BO (lo:=0) (n:=(1+r).toNat) (λi σ H2=>∃(v3 v4 v5:aE) (ys:ai) (hs:Xa),σ=[some (.ref l),some (.int m),some (.ref a),v3,v4,v5]/\bC l H H2/\dQ H2 l/\H2 a\.lst ys/\bS K H2 ys (hs.map kH)/\(∀h∈hs,ou h)/\(hs.map (·.1)).Nodup/\hs.length<=i/\(1<=i->1<=hs.length))
  #[none,none,none,[],[],U,(bC.of (aa.new ha)).trans b1,u5,b1 _ _ az gy.symm,.nil,by simp,.nil,bc _,by omega] ?_ ?_
 ·rintro i σ H2 hi ⟨v3,v4,v5,ys,hs,rfl,b2,gq,oj,tu,good,nd,le,ge⟩;have i8:i<8:=by omega
  apply#[_,U,l,U,gq,λx H3 nx b3 iE=>?_];let jH:=b3 _ _ oj gy.symm;let#[Vq,jh]:=gq.some;let PD:=jR tu b3 jh;apply#[_,U,_,U,a,U,#[_,.of jH],λD hD=>?_];let Qx:=bj tu;rw[au] at Qx;apply kI (own:=2) (fv:=[]) (xs:=ys) U Ah (λi out H'=>aa H3 H'/\H' D\.lst out/\out=((hs.take i).map (·.1)).map V.str) #[aa.new hD,az,U] (λi out H' _ ⟨sm,_,_⟩=>.of (sm _ _ jH)) (λout H4 ⟨sm,o8,eo⟩=>?_) (λj y out H' hy ⟨sm,dJ,eo⟩=>?_)
  ·rw[Qx,eI] at eo;subst eo;let jG:=sm _ _ jH;have b4:bC l H H4:=(b2.trans b3).trans (bC.of sm)
   have iP:dQ H4 l:=by
    rcases iE with⟨n,e⟩|⟨n,m,c,e⟩
    ·exact .inl #[n,sm _ _ e]
    exact .inr #[n,m,c,sm _ _ e]
   let yo:=PD.same sm;apply#[x,_,U,TK o8,_,U,?_];apply bY (λc=>?_) (λc=>?_)
   ·have Kw:x∉hs.map (·.1):=⇑c
    apply#[_,U,l,9,U,by decide,by decide,iP,λr1 H5 q0 q1 b5 iO=>#[_,_,U,U,?_]];apply#[_,U,l,1000,U,by decide,by decide,iO,λr2 H6 q2 q3 b6 ke=>#[_,_,U,U,?_]];apply#[zl,λp hp=>?_];let#[Pp,pR]:=ke.some;have lp:l≠p:=bq pR hp
    have kR:dQ (upd H6 p (.lst [.int 1,.int (1+r1),.int (1+r2),.int 1000])) l:=by
     unfold dQ;rw[ax lp];exact ke
    apply#[_,U,l,4,U,by decide,by decide,kR,λr3 H8 q4 q5 b8 CM=>?_];let hp8:=b8 _ _ (show upd H6 p (.lst [.int 1,.int (1+r1),.int (1+r2),.int 1000]) p=_ from az) lp.symm;let#[y,hy,n,en,n1,n2]:=Lr (p:=λy:V=>∃n:Int,y=.int n/\1<=n/\n<=1000) (a:=V.int 1) (b:=.int (1+r1)) (c:=.int (1+r2)) (d:=.int 1000) q4 q5 #[1,U,by decide,by decide] #[_,U,by omega,by omega] #[_,U,by omega,by omega] #[1000,U,by decide,by decide];subst en;apply#[p,_,_,_,U,U,.of hp8,hy,?_];have OU:bC l H4 H8:=((b5.trans b6).trans (bC.of (aa.new hp))).trans b8;let#[Vo,Et]:=iP.some;let LR:=OU _ _ jG gy.symm;let VZ:=jR yo OU Et;apply#[_,U,.inl #[U,_,.of LR],_,U,_,U,a,_,U,.inl (.of LR),_,_,U,U,l,_,U,by show (0:Int)<(ys.length:Int)+1;omega,by show (ys.length:Int)+1<1073741824;omega,CM,λr4 H9 q6 q7 b9 A8=>?_];have q7:r4<(ys.length:Int)+1:=q7;let#[xs8,hl8]:=CM.some;let LQ:=b9 _ _ LR gy.symm;let VY:=jR VZ b9 hl8;apply#[_,U,_,U,zl,λt ht=>?_];let jv:=aa.new (o:=.tup [.str x,.int n]) ht;apply#[a,r4.toNat,ys,.ref t,U,by rw[Int.toNat_of_nonneg q6],jv _ _ LQ,by omega,by omega,?_]
    have hl9:∃xs,upd H9 t (.tup [.str x,.int n]) l\.lst xs:=by
     let#[xs,e]:=A8.some;exact#[xs,jv _ _ e]
    have tt:upd H9 t (.tup [.str x,.int n]) t\.tup ((kH (x,n)).map kV):=az;have ta:t≠a:=(bq LQ ht).symm;apply#[_,_,_,_,pW hs r4.toNat (x,n),U,?_,?_,az,?_,?_,?_,?_,?_]
    ·intro b o e ne;rw[ax (bq e ha)];exact jv _ _ (b9 _ _ (OU _ _ (b4 _ _ e ne) ne) ne)
    ·unfold dQ;rw[ax gy,ax (bq (A8.some.choose_spec) ht)];exact A8
    ·rw[S_];exact IE (OA _ (VY.same jv) #[t,U,tt]) (jv _ _ LQ)
    ·intro h hh;rcases bW.mp ((FN _ _ _).mem_iff.mp hh) with rfl|hh
     ·exact#[nx,n1,n2]
     exact good h hh
    ·apply ((FN hs _ _).map _).nodup_iff.mpr ?_;rw[eZ];exact jq.mpr #[Kw,nd]
    ·rw[NN];omega
    intro _;rw[NN];omega
   apply#[_,_,_,_,hs,U,b4,iP,jG,yo,good,nd,by omega,λ_=>?_];have Vm:x∈hs.map (·.1):=⇑c
   have:=List.length_pos_of_mem Vm;rw[au] at this;omega
  let#[h,hh,p,rfl,hp]:=oB PD hy;apply#[_,#[p,_,_,U,.of (sm _ _ (sI hp)),U],U,λNx hN=>fV ?_];apply#[_,U,out,dJ,?_,hN _ _ #[fR sm hD,az,?_]]
  ·rw[eo,au,au,dR];omega
  rw[yc _ hh,fg,eo];rfl
 rintro σ H2 ⟨v3,v4,v5,ys,hs,rfl,b2,gq,oj,tu,good,nd,le,ge⟩;exact#[_,U,k a ys hs H2 b2 gq ha oj tu good nd (ge Z1) Z1]
theorem AN:bN [hZ,jP,"_law_names","_law_few",uE,"_law_k","_law_other","_law_tie"] [hZ,jP] (aX lK):=bU
inductive Nc (K:aj) (vs:ai) (H:Hp) (Q:VK) (E:XK):Prop
 |mk:∀(l lh:Addr) (ys:ai) (hs:Xa),vs=[.ref l,.ref lh]->dQ H l->H lh\.lst ys->bS K H ys (hs.map kH)->(∀n∈hs.map (·.1),iz n=true)->(hs.map (·.1)).Nodup->hs.length<=8->lh≠l->(∀(a:Addr) (zs:ai) (ts:Xb) (H':Hp),bC l H H'->dQ H' l->H a=none->H' a\.lst zs->bS K H' zs (ts.map kT)->(∀t∈ts,vY t/\t.1∈hs.map (·.1)/\t.2∈hs.map (·.1))->(ts.map kO).Nodup->ts.length<64->Q (.ref a) H')->Nc K vs H Q E
theorem hE_{f:Addr}{fd:Ae}(F:br K "_law_ties" "_law_ties" lK f fd)(B:Bi mg)(cD:!bu 1 vZ xV AO):!aq a9 2 f fd [hZ,jP] (Nc K):=by
 exists F.bT AN;let#[l,lh,ys,hs,rfl,st,eX,tu,Xd,nd,h8,l5,k]:=h;let sz:=cU
 apply#[_,aw (MM (i:=2) Bz 2 [] AN.nd U (Or.inl U) (dE (pv 1)) (λfp s H=>FG (n:=2) (dG (gh (i:=0) (show (Bz:ae).Nodup by decide +kernel) U (Or.inl U)) (dG (gh (i:=1) (show (Bz:ae).Nodup by decide +kernel) U (Or.inl U)) iM)))
     (λfp s H=>mI) (λfp s H=>pv 0))
  (aw (bo 3 AN.nd (bJ ie aD (bg cD hr %[0,aD|0])))
  (aw (bo 4 AN.nd (fF bF))
  (aw (ed dH U (AL (by rfl) B.range %[cZ ic (by rfl) B.len gH %[2|0]|0]) (cq 5 AN.nd)
   (aF (ed dH U (dE (AI MJ (pv 2) AQ (AR (pv 5)))) (cq 6 AN.nd)
    (aF (cg (fh QJ (bg cD hr %[0,aD|0]) (pv 3))
     (aw (bo 7 AN.nd (bz h_ (fF %[iC %[bz h_ (pv 2) (pv 5),6|0],iC %[6,bz h_ (pv 2) (pv 5)|0]|0]) (bg cD hr %[0,aD|0])))
     (aF (kG (ow mq PySem.F.slot_list_insert PySem.F.type_list_insert T_ (pv 4) %[bg cD hr %[0,bJ ie (cZ ic (by rfl) B.len gH %[4|0]) aD|0],7|0]))))
     cm)))))
  (aF (bx (pv 4)))))),?_]
 apply#[_,U,lh,U,#[_,.of eX],λln xF=>?_];apply fq_ U eX tu Z1 xF λH1 s1 hn1=>?_
 let ns:ae:=hs.map (·.1)
 have n8:ns.length<=8:=by show (hs.map (·.1)).length<=8;rw[au];exact h8
 let u5:=st.same s1;apply#[_,U,l,3,U,by decide,by decide,u5,λr H2 r0 r3 b2 gq=>#[_,_,U,U,?_]];let#[Vu,eY]:=u5.some
 have GJ:ln≠l:=λe=>by
  subst e;let#[xs,e2]:=st.some;rw[xF] at e2;cases e2
 let xE:=b2 _ _ hn1 GJ;apply#[zl,λa ha=>?_];let#[Vq,jh]:=gq.some;have gy:l≠a:=bq jh ha;have XX:ln≠a:=bq xE ha;have s3:aa H2 (upd H2 a (.lst [])):=aa.new ha
 have om:H a=none:=by
  cases z:H a with
  |none=>rfl
  |some o=>
   have:=b2 _ _ (s1 _ _ z) gy.symm;rw[ha] at this;cases this
 apply#[_,U,ln,_,U,.inl (.of (s3 _ _ xE)),_,U,by show (-(2 ^ 62):Int)<=((ns.map V.str).length:Int);omega,by show (((hs.map (·.1)).map V.str).length:Int)<2 ^ 62;rw[au,au];omega,?_]
 let Iv:Nat->Nat->Hp->Prop:=λkk j H'=>∃zs ts,bC l H H'/\dQ H' l/\H' ln\.lst (ns.map V.str)/\H' a\.lst zs/\bS K H' zs (ts.map kT)/\TI ns kk j ts
 have le:(ns.map V.str).length=ns.length:=au _
 apply BO (lo:=0) (n:=((ns.map V.str).length:Int).toNat) (λi σ H'=>∃(v5 v6 v7:aE),σ=[some (.ref l),some (.ref lh),some (.ref ln),some (.int (1+r)),some (.ref a),v5,v6,v7]/\Iv i 0 H')
  #[none,none,none,U,[],[],((bC.of s1).trans b2).trans (bC.of s3),gq.same s3,s3 _ _ xE,az,.nil,#[by simp,.nil,gE _]] ?_ ?_
 ·rintro i σ H4 hi ⟨v5,v6,v7,rfl,Vc,V2,b4,iP,zI,jG,yo,V4⟩;rw[Int.zero_add];have hi:i<ns.length:=by omega
  apply#[_,U,_,U,_,U,ln,_,U,.of zI,λp hp=>?_];rw[_W];have s5:aa H4 (upd H4 p (.lst ((ns.take i).map V.str))):=aa.new hp
  have lp:l≠p:=by
   let#[xs,e]:=iP.some;exact bq e hp
  have pln:ln≠p:=bq zI hp;have pa:p≠a:=(bq jG hp).symm
  apply#[p,U,#[_,.of az],gi (K:=K) (a:=p) (xs:=(ns.take i).map V.str) (λj σ H'=>∃(v6 v7:aE),σ=[some (.ref l),some (.ref lh),some (.ref ln),some (.int (1+r)),some (.ref a),some (.int i),v6,v7]/\H' p\.lst ((ns.take i).map V.str)/\Iv i j H')
   #[_,_,U,az,Vc,V2,b4.trans (bC.of s5),iP.same s5,s5 _ _ zI,s5 _ _ jG,yo.same s5,V4] (λj σ H' _ ⟨_,_,_,q,_⟩=>.of q) ?_ ?_]
  ·rintro j y σ H6 hy ⟨v6,v7,rfl,Ro,uT,A6,b6,ke,zH,vR,uf,ug⟩;let#[o,ho,rfl]:=mG hy
   have hj:j<i:=by
    have:=(b_.mp ho).1;rw[dR] at this;omega
   have ho:ns[j]? = some o:=by
    rw[List.getElem?_take_of_lt hj] at ho;exact ho
   have hx:ns[i]? = some ns[i]:=aY hi
   have EL:iL (ns.map V.str) (i:Int)\.str ns[i]:=by
    rw[d8 Z1 (by rw[au];omega),yf,dF,hx];rfl
   apply#[_,U,l,4,U,by decide,by decide,ke,λr2 H7 q0 q1 b7 kR=>#[_,U,_,_,U,U,_,U,?_]];let#[Pp,pR]:=ke.some;let zG:=b7 _ _ zH GJ;let RP:=b7 _ _ vR gy.symm;let Rn:=b7 _ _ Ro lp.symm;let PB:=jR uf b7 pR;apply bY (λc=>?_) (λc=>?_)
   ·apply#[_,U,_,U,ln,_,_,_,U,U,.of zG,EL,_,U,zl,λt1 uj=>?_];let s8:=aa.new (o:=.tup [.str ns[i],.str o]) uj;apply#[_,U,_,U,_,U,ln,_,_,_,U,U,.of (s8 _ _ zG),EL,zl,λt2 Bh=>?_];let s9:=aa.new (o:=.tup [.str o,.str ns[i]]) Bh;apply#[zl,λlx o6=>?_];let C8:=aa.new (o:=.lst [.ref t1,.ref t2]) o6;let s7:=(s8.trans s9).trans C8;let jv:=kR.same s7;apply#[_,U,l,2,U,by decide,by decide,jv,λr3 Ph q2 q3 Jl CN=>?_]
    have KF:lx≠l:=by
     let#[xs,e]:=(kR.same (s8.trans s9)).some;exact (bq e o6).symm
    let En:=Jl _ _ (show upd (upd (upd H7 t1 (.tup [.str ns[i],.str o])) t2 (.tup [.str o,.str ns[i]])) lx (.lst [.ref t1,.ref t2]) lx=_ from az) KF;let#[Vt,Ew]:=jv.some;let Ed:=C8 _ _ (s9 _ _ (show upd H7 t1 (.tup [.str ns[i],.str o]) t1=_ from az));let Eb:=C8 _ _ (show upd (upd H7 t1 (.tup [.str ns[i],.str o])) t2 (.tup [.str o,.str ns[i]]) t2=_ from az);let Ec:=Jl _ _ Ed (bK Ed Ew nofun);let Ea:=Jl _ _ Eb (bK Eb Ew nofun)
    have pick:∃(t:Addr) (tt:Str × Str),iL [V.ref t1,V.ref t2] r3\.ref t/\Ph t\.tup ((kT tt).map kV)/\(tt=(ns[i],o)∨tt=(o,ns[i])):=by
     rcases zM (a:=V.ref t1) (b:=V.ref t2) q2 q3 with e|e
     ·exact#[t1,(ns[i],o),e,Ec,.inl U]
     exact#[t2,(o,ns[i]),e,Ea,.inr U]
    let#[t,tt,et,ht,etc]:=pick;apply#[lx,_,_,_,U,U,.of En,et,?_];have tO:bC l H7 Ph:=(bC.of s7).trans Jl;let#[xs7,zK]:=kR.some;let zX:=tO _ _ RP gy.symm;let Ll:=tO _ _ zG GJ;let Lg:=tO _ _ Rn lp.symm;let JK:=jR PB tO zK;let lz:=bj uf;rw[au] at lz;let tl:=ug.len;apply#[_,U,.inl #[U,_,.of zX],_,U,_,U,a,_,U,.inl (.of zX),_,_,U,U,l,_,U,by show (0:Int)<(uT.length:Int)+1;omega,by show (uT.length:Int)+1<1073741824;omega,CN,λr4 H12 q4 q5 BU J4=>?_];have q5:r4<(uT.length:Int)+1:=q5;let#[Vr,Eu]:=CN.some;let ET:=BU _ _ zX gy.symm;let Lk:=BU _ _ Ll GJ;let Lf:=BU _ _ Lg lp.symm;let K9:=BU _ _ ht (bK ht Eu nofun);let JJ:=jR JK BU Eu;apply#[_,U,a,r4.toNat,uT,.ref t,U,by rw[Int.toNat_of_nonneg q4],ET,by omega,by omega,?_];apply#[_,_,U,by rw[ax pa];exact Lf,_,pW A6 r4.toNat tt,?_,?_,by rw[ax XX];exact Lk,az,?_,ug.add nd hj hx ho etc _]
    ·intro b o e ne;rw[ax (bq e om)];exact BU _ _ (tO _ _ (b7 _ _ (b6 _ _ e ne) ne) ne) ne
    ·unfold dQ;rw[ax gy];exact J4
    rw[S_];exact IE (OA _ JJ #[t,U,K9]) ET
   exact#[_,_,U,Rn,uT,A6,b6.trans b7,kR,zG,RP,PB,ug.skip]
  rintro σ H6 ⟨v6,v7,rfl,Ro,uT,A6,b6,ke,zH,vR,uf,ug⟩;rw[au,dR,Nat.min_eq_left Z1] at ug;exact#[_,_,_,U,uT,A6,b6,ke,zH,vR,uf,ug.next Z1]
 rintro σ H6 ⟨v5,v6,v7,rfl,uT,A6,b6,ke,zH,vR,uf,ug⟩;have:=ug.len;exact#[_,U,k a uT A6 H6 b6 ke om vR uf (ug.good nd Xd) ug.nd Z1]
end
end Ev
namespace HT
open PySem PySem.Spec PyProof.Rows
section
variable{prog:Ad}{w:Af}{A:Ag}{E:Aa->Ab->Prop}{s:Ab}
end
end HT
namespace L2
open PySem PySem.Spec PyProof.Rows
section
variable{X:Cx}{e st:Expr}{te ts:TE}{pos p2:Pos}
end
end L2
namespace Ev
open PySem L2
theorem Od(ys:ai)(k:Nat):dX ys none (some (k:Int))=ys.take k:=by
 unfold dX;rw[HT.eU,HT.d9,List.drop_zero,Nat.sub_zero];by_cases h:k<=ys.length
 ·rw[Nat.min_eq_left h]
 rw[Nat.min_eq_right Z1,uQ (bc _),uQ Z1]
theorem T8(ys:ai)(k:Nat):dX ys (some (k:Int)) none=ys.drop k:=by
 unfold dX;rw[HT.d9,HT.eU];by_cases h:k<=ys.length
 ·rw[Nat.min_eq_left h,uQ (by rw[List.length_drop];omega)]
 rw[Nat.min_eq_right Z1,List.drop_eq_nil_of_le (bc _),List.drop_eq_nil_of_le Z1,List.take_nil]
theorem UH{α β:Type}{F:α->β->Prop}:∀{ys:List α} {ks:List β} (n:Nat),Paired F ys ks->Paired F (ys.take n) (ks.take n)
 |_,_,0,_=>.nil
 |_,_,_+1,.nil=>.nil
 |_,_,n+1,.cons a t=>.cons a (UH n t)
theorem gU{α β:Type}{F:α->β->Prop}:∀{ys Po:List α} {ks iS:List β},Paired F ys ks->Paired F Po iS->Paired F (ys++Po) (ks++iS)
 |_,_,_,_,.nil,h=>h
 |_,_,_,_,.cons a t,h=>.cons a (gU t h)
theorem EB{α:Type}{p:α->Prop}{a b c:α}{r:Int}(h0:0<=r)(h1:r<3)(ha:p a)(hb:p b)(hc:p c):∃x,iL [a,b,c] r\x/\p x:=by
 have:r=0∨r=1∨r=2:=by omega
 rcases this with rfl|rfl|rfl
 ·exact#[_,U,ha]
 ·exact#[_,U,hb]
 exact#[_,U,hc]
structure Fh (ts ws:Xb):Prop where
 good:∀w∈ws,vY w
 nd:(ws.map kO).Nodup
 fW:∀w∈ws,kO w∈ts.map kO
 len:ws.length<=ts.length
theorem YW{ts us ws:Xb}(good:∀t∈ts,vY t)(nd:(ts.map kO).Nodup)(sub:us.Sublist ts)(p:Paired (λw u=>w=u∨w=(u.2,u.1)) ws us):Fh ts ws:=by
 have e:ws.map kO=us.map kO:=by
  clear sub
  induction p with
  |nil=>rfl
  |cons h _ ih=>
   rw[eZ,eZ,ih];rcases h with rfl|rfl
   ·rfl
   exact eG (·::_) (ZF _ _)
 apply#[λw hw=>?_,?_,λw hw=>?_,?_]
 ·let#[i,hi,ew]:=gJ hw;let hl:=bj p;let q:=eP p i hi Z1;rw[ew] at q;let g:=good _ (sub.subset (mO (show i<us.length by omega)));rcases q with q|q
  ·rw[q];exact g
  rw[q];exact#[g.2.1,g.1,g.2.2.symm]
 ·rw[e];exact (sub.map kO).nodup nd
 ·have:kO w∈ws.map kO:=bw.mpr #[w,hw,U];rw[e] at this;exact (sub.map kO).subset this
 rw[bj p];exact sub.length_le
def bV(K:aj)(H:Hp)(v:V):Option (Xb)->Prop
 |none=>v=.non
 |some ws=>∃a ys,v=.ref a/\H a\.lst ys/\bS K H ys (ws.map kT)
theorem bV.same{K:aj}{H H':Hp}{v:V}{o:Option (Xb)}(h:bV K H v o)(s:aa H H'):bV K H' v o:=by
 cases o with
 |none=>exact h
 |some ws=>
  let#[a,ys,e,ha,t]:=h;exact#[a,ys,e,s _ _ ha,t.same s]
end Ev
namespace Ev
open PySem L2
abbrev Pc:=Str × Int × Option (Xb)
def jb(K:aj)(H:Hp)(y:V)(p:Pc):Prop:=∃t v,y=.ref t/\H t\.tup [.str p.1,.int p.2.1,v]/\bV K H v p.2.2
abbrev jO(K:aj)(H:Hp)(ys:ai)(ps:List Pc):Prop:=Paired (jb K H) ys ps
structure j7 (ts:Xb) (p:Pc):Prop where
 nm:iz p.1=true
 w1:1<=p.2.1
 w2:p.2.1<=1000000000
 ws:∀ws,p.2.2\ws->Fh ts ws
theorem Zo{K:aj}{H:Hp}{a l:Addr}{ys:ai}{ks:List av}(t:bS K H ys ks)(ha:H a\.lst ys)(st:dQ H l):a≠l:=λe=>by
 subst e;rcases st with⟨n,e⟩|⟨n,m,c,e⟩
 all_goals
  rw[ha] at e;have e:ys=_:=HO.lst.inj (cu e);subst e;cases t with
  |cons h _=>
   let#[b,z,_]:=h;cases z
theorem bV.but{K:aj}{H H':Hp}{l:Addr}{v:V}{o:Option (Xb)}(h:bV K H v o)(b:bC l H H')(st:dQ H l):bV K H' v o:=by
 cases o with
 |none=>exact h
 |some ws=>
  let#[a,ys,e,ha,t]:=h;let#[xs,hl]:=st.some;exact#[a,ys,e,b _ _ ha (Zo t ha st),jR t b hl]
theorem jb.but{K:aj}{H H':Hp}{l:Addr}{y:V}{p:Pc}(h:jb K H y p)(b:bC l H H')(st:dQ H l):jb K H' y p:=by
 let#[t,v,e,ht,hv]:=h;let#[xs,hl]:=st.some;exact#[t,v,e,b _ _ ht (bK ht hl nofun),hv.but b st]
theorem jb.same{K:aj}{H H':Hp}{y:V}{p:Pc}(h:jb K H y p)(s:aa H H'):jb K H' y p:=by
 let#[t,v,e,ht,hv]:=h;exact#[t,v,e,s _ _ ht,hv.same s]
theorem bV.put{K:aj}{H:Hp}{D:Addr}{xs:ai}{v:V}{o:Option (Xb)}{u:HO}(h:bV K H v o)(hD:H D\.lst xs)(ne:v≠.ref D):bV K (upd H D u) v o:=by
 cases o with
 |none=>exact h
 |some ws=>
  let#[a,ys,e,ha,t]:=h;subst e;exact#[a,ys,U,by rw[ax λz=>ne (by rw[z])];exact ha,IE t hD]
end Ev
abbrev aN:=List Ev.Pc
namespace Ev
open PySem L2
def jW(K:aj)(H:Hp)(v:V):Option Str->Prop
 |some x=>v=.str x
 |none=>∃t,fP K H v t/\PySem.W.kitOne K t (.type "str")\false
def DZ(ns:ae):Option Str->Bool
 |some x=>decide (x∈ns)
 |none=>false
def Bs(hs:Xa)(ts:Xb):Option Str->Option Str->Bool
 |some x,some y=>decide (x∈hs.map (·.1))&&(decide (y∈hs.map (·.1))&&decide (y∈near (aO hs) (bR ts) x))
 |_,_=>false
theorem NW(hs:Xa)(ts:Xb)(x y:Str):Bs hs ts (some x) (some y)=(decide (x∈hs.map (·.1))&&(decide (y∈hs.map (·.1))&&decide (y∈near (aO hs) (bR ts) x))):=rfl
section v
inductive k9 (K:aj) (C:Addr) (vs:ai) (H:Hp) (Q:VK) (E:XK):Prop
 |mk:∀(p:Addr) (v:V) (x:Option Str) (hs:Xa) (ts:Xb) (fp:ao),vs=[.ref p,v]->hW K C H p hs ts fp->jW K H v x->Q (.bl (DZ (hs.map (·.1)) x)) H->k9 K C vs H Q E
theorem Zq{f C:Addr}{fd:Ae}(F:br K "has_hand" "Web.has_hand" vj f fd)(T:Txt K mg C)(B:Bi mg):!aq a9 1 f fd oz (k9 K C):=by
 exists F.bT xb;let#[p,v,x,hs,ts,fp,rfl,W,sv,k]:=h;let hu:=fO hr;let#[dx,d1,l2,d3,zs,as,rfl,h1,h2,h3,h4,h5,h6,h7]:=W.ex;apply#[_,aF (bx (tJ (cZ mN (by rfl) B.kh kC %[1,mJ (v:=.ty "str") (by rfl) B.str HQ U|0]) (uO (HS (BF hu (pv 1) (gd (pv 0) U)))))),?_];cases x with
 |some x=>
  cases (show v=.str x from sv);apply#[_,U,_,_,_,_,U,.str x,U,_,U,dD ?_];apply#[_,U,_,U,p,C,dx,_,_,U,h1,T.cl,T.nS,Hf _ _ _,d1,_,U,.k (k:=Sum.inr x) h2,?_];rw[Ia];exact k
 |none=>
  let#[t,ty,e]:=sv;exact#[_,U,_,_,_,_,U,ty,e,_,U,aL k]
inductive IV (K:aj) (C:Addr) (vs:ai) (H:Hp) (Q:VK) (E:XK):Prop
 |mk:∀(p:Addr) (v u:V) (x y:Option Str) (hs:Xa) (ts:Xb) (fp:ao),vs=[.ref p,v,u]->hW K C H p hs ts fp->(aO hs).Nodup->jW K H v x->jW K H u y->Q (.bl (Bs hs ts x y)) H->IV K C vs H Q E
theorem hM_{f C:Addr}{fd:Ae}(F:br K "are_tied" "Web.are_tied" qS f fd)(T:Txt K mg C)(cH:!bQ C 1 "has_hand" oz (k9 K C)):!aq a9 2 f fd jT (IV K C):=by
 exists F.bT yG;let#[p,v,u,x,y,hs,ts,fp,rfl,W,nd,sv,su,k]:=h;let hu:=fO hr;let#[dx,d1,l2,d3,zs,as,rfl,h1,h2,h3,h4,h5,h6,h7]:=id W.ex;have km:(fq d1 l2 d3).lookup ("has_hand":Str)=none:=qa _ _ _ Z0 Z0 Z0;apply#[_,aF (bx (tJ (i6 cH T.cl hr (pv 0) %[1|0]) (tJ (i6 cH T.cl hr (pv 0) %[2|0]) (uO (wA (Mg ix (mF hr 0)) (pv 2) (jo hu (gd (pv 0) U) (pv 1)) (by with_unfolding_all rfl)))))),?_];apply#[_,U,p,dx,_,U,h1,km,_,U,p,v,x,hs,ts,_,U,W,sv,_,U,?_];cases x with
 |none=>exact aL k
 |some x=>
  cases (show v=.str x from sv);apply bY (λc=>?_) (λc=>?_)
  ·have hx:x∈hs.map (·.1):=ph c;let#[a,e1,ha]:=QQ nd hx h6 h7;apply#[_,U,p,dx,_,U,h1,km,_,U,p,u,y,hs,ts,_,U,W,su,_,U,?_];cases y with
   |none=>exact aL k
   |some y=>
    cases (show u=.str y from su);rw[NW,cJ hx,Bool.true_and] at k;apply bY (λc2=>?_) (λc2=>?_)
    ·have hy:y∈hs.map (·.1):=ph c2;rw[cJ hy,Bool.true_and] at k;apply#[_,U,_,U,p,C,dx,_,_,U,h1,T.cl,T.nN,Q5 _ _ _,_,U,d3,.ref a,U,?_,y,_,U,#[a,_,U,.of ha,M5 _],k];rw[<- e1];exact .k (k:=Sum.inr x) h5
    have hy:¬y∈hs.map (·.1):=λz=>c2 (cJ z);rw[fD hy,Bool.false_and] at k;exact k
  have hx:¬x∈hs.map (·.1):=λz=>c (cJ z);cases y with
  |none=>exact k
  |some y=>
   rw[NW,fD hx,Bool.false_and] at k;exact k
theorem hQ_{hs:Xa}{ts ws:Xb}(G:Good hs ts)(W:Fh ts ws){t:Str × Str}(ht:t∈bR ws):Bs hs ts (some t.1) (some t.2)=true:=by
 let#[x,hx,ex]:=Iy.mp ht;let#[u,hu,eu]:=bw.mp (W.fW x hx);have eo:aH u.1 u.2=t:=(Hg eu).trans ex
 have both:t.1∈hs.map (·.1)/\t.2∈hs.map (·.1)/\aH t.1 t.2=t:=by
  let#[g1,g2]:=G.uX u hu;rcases BN u.1 u.2 with e|e
  ·rw[<- eo,e];exact#[g1,g2,e]
  rw[<- eo,e];exact#[g2,g1,(NM _ _).trans e]
 let#[m1,m2,m3]:=both;have m4:t.2∈near (aO hs) (bR ts) t.1:=mL.mpr #[(fE hs).mem_iff.mpr m2,cJ (by rw[m3];exact Iy.mpr #[u,hu,eo])];rw[NW,cJ m1,cJ m2,cJ m4];rfl
theorem IU:bN ["web","ways","found","one","other"] ["web","ways"] (aX lT):=bU
inductive Ny (K:aj) (C:Addr) (vs:ai) (H:Hp) (Q:VK) (E:XK):Prop
 |mk:∀(p:Addr) (v:V) (o:Option (Xb)) (hs:Xa) (ts:Xb) (fp:ao),vs=[.ref p,v]->hW K C H p hs ts fp->Good hs ts->bV K H v o->(∀ws,o\ws->Fh ts ws)->(∀v' H',aa H H'->bV K H' v' (o.map bR)->(∀a,v'=.ref a->H a=none)->Q v' H')->Ny K C vs H Q E
theorem _j{f C:Addr}{fd:Ae}(F:br K "checked_ways" "checked_ways" lT f fd)(T:Txt K mg C)(cS:!bu 3 "sorted_ties" ["ties"] (N5 K))(cT:!bQ C 2 "are_tied" jT (IV K C)):!aq a9 4 f fd ["web","ways"] (Ny K C):=by
 exists F.bT IU;let#[p,v,o,hs,ts,fp,rfl,W,G,wy,gw,k]:=h;let hu:=fO hr;have iT:aP 2 _:=hr.mono (by decide)
 apply#[_,aw (cg (tN (Hk (pv 1))) (aF (bx AB)) cm)
  (aw (bo 2 IU.nd (bg cS hr %[1|0]))
  (aw (cg (tN (Hk (pv 2))) gj cm)
  (aw (ed dH U (dE (pv 2)) (kz U (dG (cq 3 IU.nd) (dG (cq 4 IU.nd) iM)))
   (aF (cg (fi (e_ (i6 cT T.cl iT (pv 0) %[3,4|0]))) gj cm)))
  (aF (bx (pv 2)))))),?_]
 cases o with
 |none=>
  cases (show v=.non from wy);exact#[_,U,_,U,dD (k .non H (aa.refl H) U (λa z=>by cases z))]
 |some ws=>
  let#[a,ys,rfl,ha,tu]:=wy;let Wo:=gw ws U;apply#[_,U,_,U,aL ?_];apply#[_,U,a,ys,ws,U,ha,tu,Wo.good,Wo.nd,by have:=Wo.len;have:=G.w_;omega,λl' zs H1 s1 hf eY tz=>?_];apply#[_,U,_,U,aL ?_];let W1:=W.same s1;let#[dx,d1,l2,d3,wQ,as,rfl,h1,h2,h3,h4,h5,h6,h7]:=id W1.ex;have km:(fq d1 l2 d3).lookup ("are_tied":Str)=none:=qa _ _ _ Z0 Z0 Z0;rw[<- Oi] at tz;apply#[_,U,l',U,#[_,.of eY],gi (K:=K) (a:=l') (xs:=zs) (λi σ H2=>∃(v3 v4:aE),σ=[some (.ref p),some (.ref a),some (.ref l'),v3,v4]/\H2=H1) #[none,none,U,U] (λi σ H2 _ ⟨_,_,_,e⟩=>by subst e;exact .of eY) ?_ ?_]
  ·rintro i y σ H2 hy ⟨v3,v4,rfl,rfl⟩;let#[t,ht,q,rfl,hq]:=oB tz hy;apply#[q,_,U,.of (GX hq),U,_,_,U,_,_,U,U,?_];apply#[_,U,p,dx,_,U,h1,km,_,U,_,U,p,_,_,some t.1,some t.2,hs,ts,_,U,W1,G.r_,U,U,_,U,?_];rw[hQ_ G Wo (cz ht)];apply aL ?_;exact#[_,_,U,U]
  rintro σ H2 ⟨v3,v4,rfl,rfl⟩;exact#[_,U,k (.ref l') _ s1 #[l',zs,U,eY,tz] (λc z=>by cases z;exact hf)]
def pN(p:Pc):Pc:=(p.1,p.2.1,p.2.2.map bR)
def pY(K:aj)(H0 H:Hp)(y:V)(p:Pc):Prop:=∃t v,y=.ref t/\H t\.tup [.str p.1,.int p.2.1,v]/\bV K H v p.2.2/\∀a,v=.ref a->H0 a=none
theorem pY.same{K:aj}{H0 H H':Hp}{y:V}{p:Pc}(h:pY K H0 H y p)(s:aa H H'):pY K H0 H' y p:=by
 let#[t,v,e,ht,hv,hn]:=h;exact#[t,v,e,s _ _ ht,hv.same s,hn]
theorem bV.up{K:aj}{H:Hp}{D:Addr}{u:HO}{v:V}{o:Option (Xb)}(h:bV K H v o)(n1:∀xs,H D≠some (.lst xs))(n2:∀xs,H D≠some (.tup xs)):bV K (upd H D u) v o:=by
 cases o with
 |none=>exact h
 |some ws=>
  let#[a,ys,e,ha,t]:=h;exact#[a,ys,e,by rw[ax (λz:a=D=>n1 ys (z▸ha))];exact ha,Paired.aU t λy k ⟨b,z,q⟩=>#[b,z,by rw[ax (λz:b=D=>n2 _ (z▸q))];exact q]]
theorem pY.up{K:aj}{H0 H:Hp}{D:Addr}{u:HO}{y:V}{p:Pc}(h:pY K H0 H y p)(n1:∀xs,H D≠some (.lst xs))(n2:∀xs,H D≠some (.tup xs)):pY K H0 (upd H D u) y p:=by
 let#[t,v,e,ht,hv,hn]:=h;exact#[t,v,e,by rw[ax (λz:t=D=>n2 _ (z▸ht))];exact ht,hv.up n1 n2,hn]
theorem M0{ps:aN}{cs:ai}(nd:(ps.map (·.1)).Nodup)(hl:cs.length=ps.length):∀{j:Nat} {q:Pc} {c:V},ps[j]? = some q->cs[j]? = some c->aZ ((ps.zip cs).map λq=>((Sum.inr q.1.1:Key),q.2)) (Sum.inr q.1)\c:=by
 induction ps generalizing cs with
 |nil=>
  intro j q c h;simp at h
 |cons p ps ih=>
  intro j q c h1 h2;cases cs with
  |nil=>cases hl
  |cons b cs=>
   rw[eZ] at nd;let#[n1,n2]:=jq.mp nd;cases j with
   |zero=>
    have e1:p=q:=⇑h1
    have e2:b=c:=⇑h2
    subst e1 e2;exact AK U
   |succ j=>
    have h1:ps[j]? = some q:=⇑h1
    have h2:cs[j]? = some c:=⇑h2
    show aZ ((Sum.inr p.1,b)::((ps.zip cs).map λq=>((Sum.inr q.1.1:Key),q.2))) (Sum.inr q.1)=_;rw[AH λe=>n1 (by rw[show p.1=q.1 from iy e];exact bw.mpr #[q,cz h1,U])];exact ih n2 ⇑hl h1 h2
theorem qQ:bN ["web","piece"] ["web","piece"] (aX NF):=bU
inductive M7 (K:aj) (C:Addr) (vs:ai) (H:Hp) (Q:VK) (E:XK):Prop
 |mk:∀(p:Addr) (y:V) (q:Pc) (hs:Xa) (ts:Xb) (fp:ao),vs=[.ref p,y]->hW K C H p hs ts fp->Good hs ts->jb K H y q->j7 ts q->(∀y' H',aa H H'->pY K H H' y' (pN q)->Q y' H')->M7 K C vs H Q E
theorem g1_{f C:Addr}{fd:Ae}(F:br K "checked_piece" "checked_piece" NF f fd)(B:Bi mg)(cN:!bu 1 "is_name" gg Hx)(cW:!bu 2 "is_whole_within" jU Ng)(cC:!bu 4 "checked_ways" ["web","ways"] (Ny K C)){tk:Tok}(mW:mg "MOST_WEIGHT"\.int 1000000000 tk) :
  aq P w K mg base a9 5 f fd ["web","piece"] (M7 K C):=by
 exists F.bT qQ;let#[p,y,q,hs,ts,fp,rfl,W,G,#[t,v,rfl,ht,wy],gp,k]:=h
 apply#[_,aw (cg (tq (fi (e_ (cZ mN (by rfl) B.kh kC %[1,mJ (v:=.ty "tuple") (by rfl) B.tuple wJ U|0])))
   (uN (fh tG (cZ ic (by rfl) B.len gH %[1|0]) aD))).pt gj cm)
  (aw (cg (fi (e_ (bg cN hr %[bz cw (pv 1) aD|0]))) gj cm)
  (aw (cg (fi (e_ (bg cW hr %[bz cw (pv 1) aD,aD,BM (v:=.int 1000000000) (by rfl) mW #[tk,U]|0]))) gj cm)
  (aF (bx (iC %[bz cw (pv 1) aD,bz cw (pv 1) aD,bg cC hr %[0,bz cw (pv 1) aD|0]|0]))))),?_]
 apply#[_,U,_,_,_,_,U,.tup ht,U,_,U,aL ?_];apply#[_,U,t,_,U,.inr (.of ht),U,_,U,?_];apply Av (show V.int ((3:Nat):Int)=V.int 3 from U) ?_;apply#[_,U,t,_,_,_,U,U,.of ht,U,q.1,U,by have:=I_ gp.nm;omega,λH1 s1=>#[_,U,?_]];rw[gp.nm];apply aL ?_;let uj:=s1 _ _ ht;apply#[_,U,t,_,_,_,U,U,.of uj,U,q.2.1,1,1000000000,U,_,U,?_];rw[cJ gp.w1,cJ gp.w2];apply aL ?_;apply#[_,U,t,_,_,_,U,U,.of uj,U,_,U,t,_,_,_,U,U,.of uj,U,_,U,_,U,t,_,_,_,U,U,.of uj,U,p,v,q.2.2,hs,ts,fp,U,W.same s1,G,wy.same s1,gp.ws,λv' H2 s2 Vw hf=>?_];apply#[zl,λt' Ee=>?_];exact k (.ref t') _ (s1.trans (s2.trans (aa.new Ee))) #[t',v',U,az,Vw.same (aa.new Ee),λa z=>s1.free (hf a z)]
theorem IP:bN ["web","pieces","found","piece","checked"] ["web","pieces"] (aX Ou):=bU
structure Qs (ps qs:aN):Prop where
 y9:qs.map (·.1)=iA (ps.map (·.1))
 mem:∀q∈qs,∃p∈ps,q=pN p
inductive Oh (K:aj) (C:Addr) (vs:ai) (H:Hp) (Q:VK) (E:XK):Prop
 |mk:∀(p l:Addr) (ys:ai) (ps:aN) (hs:Xa) (ts:Xb) (fp:ao),vs=[.ref p,.ref l]->hW K C H p hs ts fp->Good hs ts->H l\.lst ys->jO K H ys ps->(∀q∈ps,j7 ts q)->(ps.map (·.1)).Nodup->ps.length<64->(∀l' zs qs H',aa H H'->H' l'\.lst zs->Paired (pY K H H') zs qs->Qs ps qs->Q (.ref l') H')->Oh K C vs H Q E
theorem aI{H:Hp}{a:Addr}{o:HO}(n:H a=none):aa H (upd H a o)/\upd H a o a\o:=⟨aa.new n,az⟩
theorem fC_{f C:Addr}{fd:Ae}(F:br K "checked_pieces" "checked_pieces" Ou f fd)(B:Bi mg)(cP:!bu 5 "checked_piece" ["web","piece"] (M7 K C)):!aq a9 6 f fd ["web","pieces"] (Oh K C):=by
 exists F.bT IP;let#[p,l,ys,ps,hs,ts,fp,rfl,W,G,hl,pc,gp,nd,cX,k]:=h;let hu:=fO hr;let sz:=cU;let le:=bj pc
 apply#[_,aw (cg (fi (e_ (cZ mN (by rfl) B.kh kC %[1,mJ (v:=.ty "list") (by rfl) B.list AS U|0]))) gj cm)
  (aw (bo 2 IP.nd FO)
  (aw (ed dH U (dE (pv 1)) (cq 3 IP.nd)
   (aw (bo 4 IP.nd (bg cP hr %[0,3|0]))
   (aw (cg (tN (BF hu (bz cw (pv 4) aD) (pv 2))) gj cm)
   (aF (uJ hu (pv 2) (bz cw (pv 4) aD) (pv 4) U)))))
  (aF (bx (kD ["name","found"] 1 [2] (dE (cZ (ee_ U) (by rfl) B.sorted Jh %[2|0])) (λfp s H=>gh (i:=0) (show (["name","found"]:ae).Nodup by decide +kernel) U (Or.inl U)) (λfp s H=>mI)
   (λfp s H=>jo hu (pv 1) (pv 0))))))),?_]
 apply#[_,U,_,_,_,_,U,.lst hl,U,_,U,aL ?_];intro d hd;have s0:aa H (upd H d (.dK [])):=aa.new hd;apply#[_,U,l,U,#[_,.of (s0 _ _ hl)],gi (K:=K) (a:=l) (xs:=ys) (λi σ H2=>∃(v3 v4:aE) (cs:ai),σ=[some (.ref p),some (.ref l),some (.ref d),v3,v4]/\aa H H2/\Paired (pY K H H2) cs ((ps.take i).map pN)/\H2 d\.dK (((ps.take i).zip cs).map λq=>(Sum.inr q.1.1,q.2))) #[none,none,[],U,s0,.nil,az] (λi σ H2 _ ⟨_,_,_,_,s2,_⟩=>.of (s2 _ _ hl)) ?_ ?_]
 ·rintro i y σ H2 hy ⟨v3,v4,cs,rfl,s2,pn,hd2⟩;have hi:i<ys.length:=(b_.mp hy).1;have hq:ps[i]? = some (ps[i]' Z1):=aY Z1;let py:=eP pc i hi Z1;rw[(b_.mp hy).2] at py;generalize ps[i]' Z1=q at hq py;apply#[_,U,_,U,p,y,q,hs,ts,fp,U,W.same s2,G,py.same s2,gp q (cz hq),λy' H3 s3 pw=>?_];let#[t,v,rfl,ht,wy,hf]:=pw;let l9:=s3 _ _ hd2;let lc:=bj pn;rw[au,dR] at lc
  have keys:((((ps.take i).zip cs).map λq=>((Sum.inr q.1.1:Key),q.2)).map (·.1))=((ps.take i).map (·.1)).map Sum.inr:=by
   rw[cY];have:((λx:Key × V=>x.1) ∘ λq:Pc × V=>((Sum.inr q.1.1:Key),q.2))=(λp:Pc=>(Sum.inr p.1:Key)) ∘ Prod.fst:=rfl;rw[this,<- cY,List.map_fst_zip (by rw[dR];omega),cY];rfl
  have uh:aZ (((ps.take i).zip cs).map λq=>((Sum.inr q.1.1:Key),q.2)) (Sum.inr q.1)=none:=uR (by
   rw[keys];intro m;let#[x,hx,e]:=bw.mp m;cases e;exact FJ (g:=λp:Pc=>p.1) nd hq hx)
  apply#[_,U,t,_,_,_,U,U,.of ht,U,_,U,d,_,U,.k (k:=Sum.inr q.1) l9,_,U,?_];rw[uh];apply aL ?_;apply#[_,U,_,U,_,U,t,_,_,_,U,U,.of ht,U,d,_,U,.k (k:=Sum.inr q.1) l9 (by rw[au,List.length_zip,dR];omega),?_];let Wr:=s2.trans s3;have n1:∀xs,H3 d≠some (.lst xs):=λxs z=>by rw[l9] at z;cases z
  have n2:∀xs,H3 d≠some (.tup xs):=λxs z=>by rw[l9] at z;cases z
  apply#[_,_,cs++[.ref t],U,λc o e=>?_,?_,?_]
  ·rw[ax (bq e hd)];exact Wr _ _ e
  ·rw[tQ,hq,fg];exact gU (Paired.aU pn λy q h=>(h.same s3).up n1 n2) (.cons (pY.up #[t,v,U,ht,wy,λa z=>s2.free (hf a z)] n1 n2) .nil)
  rw[az,wH _ uh,tQ,hq,List.zip_append (by rw[dR];omega),fg];rfl
 rintro σ H2 ⟨v3,v4,cs,rfl,s2,pn,hd2⟩;rw[le,eI] at pn hd2;let lc:=bj pn;rw[au] at lc
 have keys:(((ps.zip cs).map λq=>((Sum.inr q.1.1:Key),q.2)).map (·.1))=(ps.map (·.1)).map Sum.inr:=by
  rw[cY];have:((λx:Key × V=>x.1) ∘ λq:Pc × V=>((Sum.inr q.1.1:Key),q.2))=(λp:Pc=>(Sum.inr p.1:Key)) ∘ Prod.fst:=rfl;rw[this,<- cY,List.map_fst_zip Z1,cY];rfl
 apply#[_,U,d,_,ps.map (·.1),U,hd2,keys,by rw[au];exact cX,λls Lm=>?_];let#[s3,um]:=aI (o:=.lst ((iA (ps.map (·.1))).map V.str)) Lm;apply#[ls,U,#[_,.of um],λD hD=>?_];generalize upd H2 ls (.lst ((iA (ps.map (·.1))).map V.str))=H3 at s3 um hD ⊢;have XN:(iA (ps.map (·.1))).length=ps.length:=by rw[(FI _).length_eq,au]
 apply kI (own:=1) (fv:=[some (.ref d)]) (xs:=(iA (ps.map (·.1))).map V.str) U fY (λi out H'=>∃qs:aN,aa H3 H'/\H' D\.lst out/\Paired (pY K H H2) out qs/\qs.map (·.1)=(iA (ps.map (·.1))).take i/\∀q∈qs,∃p∈ps,q=pN p) #[[],aa.new hD,az,.nil,U,by simp] (λi out H' _ ⟨_,sm,_⟩=>.of (sm _ _ um)) (λzs H4 ⟨qs,s4,o8,pq,en,mem⟩=>?_) (λi x out H' hx ⟨qs,sm,dJ,pq,en,mem⟩=>?_)
 ·rw[au,eI] at en;exact k D zs qs H4 (s2.trans (s3.trans s4)) o8 (Paired.aU pq λy q h=>h.same (s3.trans s4)) #[en,mem]
 let#[n,hn,rfl]:=mG hx;have hm:n∈ps.map (·.1):=(FI _).mem_iff.mp (cz hn);let#[q,hq,eq]:=bw.mp hm;let#[j,hj,ej]:=gJ hq;have hqj:ps[j]? = some q:=by rw[aY hj,ej]
 have RK:cs[j]? = some (cs[j]' Z1):=aY Z1;let hv:=M0 nd lc hqj RK;let pj:=eP pn j Z1 (by rw[au];omega);rw[List.getElem_map,ej] at pj;generalize cs[j]' Z1=c at RK hv pj;rw[eq] at hv;let lo:=bj pq;let lq:=eG List.length en;rw[au,dR] at lq;have hi:i<(iA (ps.map (·.1))).length:=(b_.mp hn).1;apply#[_,U,U,λNx hN=>fV ?_];apply#[_,U,_,U,d,c,U,?_,out,dJ,by omega,hN _ _ #[qs++[pN q],fR sm hD,az,?_,?_,?_]]
 ·rw[<- hv];exact .k (k:=Sum.inr n) (sm _ _ (s3 _ _ hd2))
 ·exact gU pq (.cons pj .nil)
 ·rw[fg,en,tQ,hn,<- eq];rfl
 intro q' hq';rcases dM.mp hq' with hq'|hq'
 ·exact mem q' hq'
 obtain rfl:q'=pN q:=⇑hq'
 exact#[q,hq,U]
end
end Ev
namespace Ev
open PySem L2
abbrev lQ:Stmt:=ml Fj 0
abbrev rF:Stmt:=ml Fj 1
abbrev Ni:Stmt:=ml Fj 2
abbrev M6:Stmt:=ml Fj 3
abbrev rD:Stmt:=ml Fj 5
def cO(p dw dy:Addr):List (Str × V):=aA Aw (.ref dy) (aA pU (.ref dw) (aA "web" (.ref p) []))
theorem g12:¬(("web":Str)=pU):=by decide +kernel
theorem g13:¬(("web":Str)=Aw):=by decide +kernel
theorem g23:¬((pU:Str)=Aw):=by decide +kernel
theorem x8(p dw dy:Addr):(cO p dw dy).lookup ("web":Str)\.ref p:=by
 unfold cO;rw[gC,aB g13,gC,aB g12,gC,aJ U]
theorem MF(p dw dy:Addr):(cO p dw dy).lookup (pU:Str)\.ref dw:=by
 unfold cO;rw[gC,aB g23,gC,aJ U]
theorem Zx(p dw dy:Addr):(cO p dw dy).lookup (Aw:Str)\.ref dy:=by
 unfold cO;rw[gC,aJ U]
theorem wF(p dw dy:Addr){m:Str}(h1:¬m="web")(h2:¬m=pU)(h3:¬m=Aw):(cO p dw dy).lookup m=none:=by
 unfold cO;rw[gC,aB h3,gC,aB h2,gC,aB h1]
 all_goals rfl
def kP(qs:aN):List (Key × V):=qs.map λq=>(Sum.inr q.1,V.int q.2.1)
def uV(qs:aN)(vs:ai):List (Key × V):=(qs.zip vs).map λx=>(Sum.inr x.1.1,x.2)
theorem SU(qs:aN):(kP qs).map (·.1)=(qs.map (·.1)).map Sum.inr:=by
 unfold kP;rw[cY,cY];rfl
theorem _F{qs:aN}{vs:ai}(h:vs.length=qs.length):(uV qs vs).map (·.1)=(qs.map (·.1)).map Sum.inr:=by
 unfold uV;rw[cY];have:((λx:Key × V=>x.1) ∘ λq:Pc × V=>((Sum.inr q.1.1:Key),q.2))=(λp:Pc=>(Sum.inr p.1:Key)) ∘ Prod.fst:=rfl;rw[this,<- cY,List.map_fst_zip Z1,cY];rfl
structure gA (K:aj) (CG CW:Addr) (H:Hp) (g p:Addr) (hs:Xa) (ts:Xb) (qs:aN) (fp:ao):Prop where
 ex:∃(dx dw dy:Addr) (vs:ai) (di:ao),H g\.ins CG dx (cO p dw dy)/\hW K CW H p hs ts di/\H dw\.dK (kP qs)/\H dy\.dK (uV qs vs)/\Paired (λv (q:Pc)=>bV K H v q.2.2) vs qs /\
  g∈fp/\dw∈fp/\dy∈fp/\(∀b∈di,b∈fp)/\∀v∈vs,∀a,v=.ref a->a∈fp
theorem OP{α β:Type}{F G:α->β->Prop}:∀{l:List α} {m:List β},Paired F l m->(∀a∈l,∀b,F a b->G a b)->Paired G l m
 |_,_,.nil,_=>.nil
 |_,_,.cons h t,f=>.cons (f _ gB _ h) (OP t λa ha=>f a (fN _ ha))
theorem bV.keep{K:aj}{H H':Hp}{v:V}{o:Option (Xb)}(h:bV K H v o)(k:∀a,v=.ref a->∀u,H a\u->H' a\u)(kt:∀b xs,H b\.tup xs->H' b\.tup xs):bV K H' v o:=by
 cases o with
 |none=>exact h
 |some ws=>
  let#[a,ys,e,ha,t]:=h;exact#[a,ys,e,k a e _ ha,Paired.aU t λy q ⟨b,z,hb⟩=>#[b,z,kt _ _ hb]]
theorem gA.keep{K:aj}{CG CW:Addr}{H H':Hp}{g p:Addr}{hs:Xa}{ts:Xb}{qs:aN}{fp:ao}(G:gA K CG CW H g p hs ts qs fp)(k:∀b∈fp,∀o,H b\o->H' b\o)(kt:∀b xs,H b\.tup xs->H' b\.tup xs):gA K CG CW H' g p hs ts qs fp:=by
 let#[dx,dw,dy,vs,di,h1,h2,h3,h4,h5,m1,m2,m3,m4,m5]:=G.ex;exact#[dx,dw,dy,vs,di,k _ m1 _ h1,h2.keep (λb hb o e=>k b (m4 b hb) o e) kt,k _ m2 _ h3,k _ m3 _ h4,OP h5 λv hv q h=>h.keep (λa z u e=>k a (m5 v hv a z) u e) kt,m1,m2,m3,m4,m5]
theorem gA.same{K:aj}{CG CW:Addr}{H H':Hp}{g p:Addr}{hs:Xa}{ts:Xb}{qs:aN}{fp:ao}(G:gA K CG CW H g p hs ts qs fp)(s:aa H H'):gA K CG CW H' g p hs ts qs fp:=G.keep (λb _ o e=>s b o e) λb xs e=>s b _ e
structure gf (K:aj) (CG:Addr):Prop where
 cl:mX K CG
 nW:mE K CG "web"
 nG:mE K CG pU
 nY:mE K CG Aw
structure F3 (K:aj) (C:Addr):Prop where
 ha:PySem.W.findIn K (.ref C) "__class__"\some (.builtin "object.__class__")
 hn:PySem.W.specialIn K (.builtin "object.__class__") "__get__"\some (.builtin "getset_descriptor.__get__")
 tk:PySem.W.takesIn K (.builtin "object.__class__")\true
 mo:PySem.W.mroIn K C (.type "object")\true
theorem _I(K:aj)(c:Aa):PySem.W.kitOne K c c\true:=by
 unfold PySem.W.kitOne;rw[aJ (beq_self_eq_true c)]
theorem Ti{K:aj}{H0 H:Hp}:∀{zs:ai} {qs:aN},Paired (pY K H0 H) zs qs->∃vs:ai,vs.length=qs.length/\Paired (λz (x:Pc × V)=>∃t,z=.ref t/\H t\.tup [.str x.1.1,.int x.1.2.1,x.2]) zs (qs.zip vs)/\Paired (λv (q:Pc)=>bV K H v q.2.2) vs qs/\∀v∈vs,∀a,v=.ref a->H0 a=none
 |_,_,.nil=>#[[],U,.nil,.nil,by simp]
 |_,_,.cons ⟨t,v,e,ht,wy,hn⟩ r=>by
  let#[vs,h1,h2,h3,h4]:=Ti r;apply#[v::vs,by simp[h1],.cons #[t,e,ht] h2,.cons wy h3,λu hu=>?_];rcases bW.mp hu with rfl|hu
  ·exact hn
  exact h4 u hu
theorem SO{K:aj}{l D:Addr}{zs:ai}{xs:List (Pc × V)}{H:Hp}{Q:VK}{oK:St}{j:Nat}(sel:Pc × V->V)(hj:∀x:Pc × V,[some (V.str x.1.1),some (V.int x.1.2.1),some x.2][j]? = some (some (sel x)))(sH:oK=[none,none,none])(hl:H l\.lst zs)
  (pz:Paired (λz (x:Pc × V)=>∃t,z=.ref t/\H t\.tup [.str x.1.1,.int x.1.2.1,x.2]) zs xs) (oq:xs.length<=1000) (hD:H D=none)
  (q:∀H' out,aa H H'->H' D\.lst out->kr K H' out (xs.map λx=>(Sum.inr x.1.1,sel x))->Q (.ref D) H') :
  BC (yi K l) (gO K 3 (pV (ku 0) (pV (ku 1) (pV (ku 2) sT)))) qk (Cw (jt (oN 0) (jt (oN j) oO))) oK D H Q:=by
 let sz:=cU;let le:=bj pz;apply kI (own:=3) (fv:=[]) (xs:=zs) sH L_ (λi out H'=>aa H H'/\H' D\.lst out/\kr K H' out ((xs.take i).map λx=>(Sum.inr x.1.1,sel x))) #[aa.new hD,az,.nil] (λi out H' _ ⟨sm,_,_⟩=>.of (sm _ _ hl)) (λout H4 ⟨sm,o8,eo⟩=>?_) (λi y out H' hy ⟨sm,dJ,eo⟩=>?_)
 ·rw[le,eI] at eo;exact q _ _ sm o8 eo
 have hi:i<zs.length:=(b_.mp hy).1;have hx:xs[i]? = some (xs[i]' Z1):=aY Z1;let#[t,et,ht]:=eP pz i hi Z1;rw[(b_.mp hy).2] at et;subst et;generalize xs[i]' Z1=x at hx ht;let lo:=bj eo;rw[au,dR] at lo;apply#[_,#[t,_,_,_,U,.of (sm _ _ ht),U],U,λNx hN=>fV ?_];apply#[_,U,_,hj x,zl,λp hp=>?_];let s2:=aa.new (o:=.tup [.str x.1.1,sel x]) hp;apply#[out,s2 _ _ dJ,by omega,hN _ _ #[fR (sm.trans s2) hD,az,?_]];rw[yc _ hx];have pD:∀{b:Addr} {ys:ai},upd H' p (.tup [.str x.1.1,sel x]) b\.tup ys->b≠D:=λhb=>bK hb (s2 _ _ dJ) nofun;apply gU (Paired.aU eo λy kv ⟨b,z,hb⟩=>#[b,z,by rw[ax (pD (s2 _ _ hb))];exact s2 _ _ hb]) (.cons #[p,U,?_] .nil);have kj:upd H' p (.tup [.str x.1.1,sel x]) p\.tup [.str x.1.1,sel x]:=az;rw[ax (pD kj)];exact kj
section v
theorem nC:bN ["self","web","pieces","checked"] ["self","web","pieces"] (aX lQ):=bU
inductive I0 (K:aj) (CG CW:Addr) (vs:ai) (H:Hp) (Q:VK) (E:XK):Prop
 |mk:∀(g dx p l:Addr) (ys:ai) (ps:aN) (hs:Xa) (ts:Xb) (di:ao),vs=[.ref g,.ref p,.ref l]->H g\.ins CG dx []->hW K CW H p hs ts di->g∉di->Good hs ts->H l\.lst ys->jO K H ys ps->(∀q∈ps,j7 ts q)->(ps.map (·.1)).Nodup->ps.length<64->(∀qs fp H',(∀b o,H b\o->b≠g->H' b\o)->gA K CG CW H' g p hs ts qs fp->Qs ps qs->(∀b∈fp,b=g∨b∈di∨H b=none)->Q .non H')->I0 K CG CW vs H Q E
theorem hH_{f CG CW:Addr}{fd:Ae}(F:br K "__init__" "Goods.__init__" lQ f fd)(T:gf K CG)(TW:Txt K mg CW)(IW:F3 K CW)(B:Bi mg)(KA:mg "Web"\.ref CW)(cP:!bu 6 "checked_pieces" ["web","pieces"] (Oh K CW)):!aq a9 7 f fd ["self","web","pieces"] (I0 K CG CW):=by
 exists F.bT nC;let#[g,dx,p,l,ys,ps,hs,ts,di,rfl,hg,W,gw,G,hl,pc,gp,nd,cX,k]:=h
 apply#[_,aw (cg (fi (e_ (cZ hn_ (by rfl) B.kh kC %[1,BM (v:=.ref CW) (by rfl) KA U|0]))) gj cm)
  (aw (bo 3 nC.nd (bg cP hr %[1,2|0]))
  (aw (uM (pv 0) (pv 1) U)
  (aw (uM (pv 0) (jn (AZ U) (by rfl) B.dict uH %[kD xT 3 [] (dE (pv 3)) (λfp s H=>FG (n:=3) (dG (gh (i:=0) (show (xT:ae).Nodup by decide +kernel) U (Or.inl U)) (dG (gh (i:=1) (show (xT:ae).Nodup by decide +kernel) U (Or.inl U)) (dG (gh (i:=2) (show (xT:ae).Nodup by decide +kernel) U (Or.inl U)) iM)))) (λfp s H=>mI) (λfp s H=>iC %[0,1|0])|0]) U)
  (aF (uM (pv 0) (jn (AZ U) (by rfl) B.dict uH %[kD xT 3 [] (dE (pv 3)) (λfp s H=>FG (n:=3) (dG (gh (i:=0) (show (xT:ae).Nodup by decide +kernel) U (Or.inl U)) (dG (gh (i:=1) (show (xT:ae).Nodup by decide +kernel) U (Or.inl U)) (dG (gh (i:=2) (show (xT:ae).Nodup by decide +kernel) U (Or.inl U)) iM)))) (λfp s H=>mI) (λfp s H=>iC %[0,2|0])|0]) U))))),?_]
 let#[mh,d1,l2,d3,wQ,as,ef,w1,_]:=id W.ex;apply#[_,U,_,_,_,_,U,.ins w1 TW.cl IW.ha IW.hn IW.tk IW.mo,_I _ _,_,U,aL ?_];apply#[_,U,_,U,p,l,ys,ps,hs,ts,di,U,W,G,hl,pc,gp,nd,cX,λlc zs qs H1 s1 xG pn Qq=>?_];let#[vs,lv,pz,Vv,Co]:=Ti pn;let EE:=s1 _ _ hg
 have lq:qs.length=ps.length:=by
  have:=eG List.length Qq.y9;rw[au,(FI _).length_eq,au] at this;exact this
 have WU:(qs.map (·.1)).Nodup:=by
  rw[Qq.y9];exact (FI _).nodup_iff.mpr nd
 apply#[_,U,_,U,g,CG,dx,[],U,EE,T.cl,T.nW,by show 0<1000;decide,?_];have up1:∀{b o},H1 b\o->b≠g->upd H1 g (.ins CG dx (aA "web" (.ref p) [])) b\o:=λe ne=>by rw[ax ne];exact e
 have Ly:upd H1 g (.ins CG dx (aA "web" (.ref p) [])) g\.ins CG dx (aA "web" (.ref p) []):=az
 have Mo:∀{b},upd H1 g (.ins CG dx (aA "web" (.ref p) [])) b=none->H1 b=none:=λ{b} e=>by
  by_cases z:b=g
  ·rw[z,az] at e;cases e
  rw[ax z] at e;exact e
 generalize upd H1 g (.ins CG dx (aA "web" (.ref p) []))=H2 at up1 Ly Mo ⊢;have GK:lc≠g:=bK xG EE nofun;have W0:Paired (λz (x:Pc × V)=>∃t,z=.ref t/\H2 t\.tup [.str x.1.1,.int x.1.2.1,x.2]) zs (qs.zip vs):=Paired.aU pz λz x ⟨t,e,ht⟩=>#[t,e,up1 ht (bK ht EE nofun)];have ng:(qs.zip vs).length<=1000:=by rw[List.length_zip];omega
 apply#[_,U,lc,U,#[_,.of (up1 xG GK)],λD hD=>?_];apply SO (λx=>.int x.1.2.1) (λx=>rfl) U (up1 xG GK) W0 ng hD λH3 out s3 xP Qg=>?_;apply#[D,out,_,U,xP,Qg,by rw[au];exact ng,λdw LG=>?_]
 have MI:((qs.zip vs).map λx:Pc × V=>((Sum.inr x.1.1:Key),V.int x.1.2.1))=kP qs:=by
  unfold kP;have:(λx:Pc × V=>((Sum.inr x.1.1:Key),V.int x.1.2.1))=(λq:Pc=>((Sum.inr q.1:Key),V.int q.2.1)) ∘ Prod.fst:=rfl;rw[this,<- cY,List.map_fst_zip Z1]
 have nV:(qs.map (·.1)).map (Sum.inr:Str->Key) |>.Nodup:=by
  rw[qe,wL];exact WU.imp λn e=>n (iy e)
 rw[MI,ya (by rw[SU];exact nV)];let s4:=aa.new (o:=.dK (kP qs)) LG;let RH:=s4 _ _ (s3 _ _ Ly);apply#[_,U,g,CG,dx,_,U,RH,T.cl,T.nG,by show 1<1000;decide,?_];let Gp:=s3.trans s4;have EG:upd H3 dw (.dK (kP qs)) dw\.dK (kP qs):=az;have TQ:dw≠g:=(bq (s3 _ _ Ly) LG).symm;have pT:∀{b},upd H3 dw (.dK (kP qs)) b=none->H2 b=none:=λe=>Gp.free e;have dwn:H2 dw=none:=s3.free LG;generalize upd H3 dw (.dK (kP qs))=H4 at s4 RH Gp EG pT ⊢;have JF:∀{b o},H4 b\o->b≠g->upd H4 g (.ins CG dx (aA pU (.ref dw) (aA "web" (.ref p) []))) b\o:=λe ne=>by rw[ax ne];exact e
 have Lx:upd H4 g (.ins CG dx (aA pU (.ref dw) (aA "web" (.ref p) []))) g\.ins CG dx (aA pU (.ref dw) (aA "web" (.ref p) [])):=az
 have pb:∀{b},upd H4 g (.ins CG dx (aA pU (.ref dw) (aA "web" (.ref p) []))) b=none->H4 b=none:=λ{b} e=>by
  by_cases z:b=g
  ·rw[z,az] at e;cases e
  rw[ax z] at e;exact e
 generalize upd H4 g (.ins CG dx (aA pU (.ref dw) (aA "web" (.ref p) [])))=H5 at JF Lx pb ⊢;have uW:∀{b o},H1 b\o->b≠g->H5 b\o:=λe ne=>JF (Gp _ _ (up1 e ne)) ne;have WZ:Paired (λz (x:Pc × V)=>∃t,z=.ref t/\H5 t\.tup [.str x.1.1,.int x.1.2.1,x.2]) zs (qs.zip vs):=Paired.aU pz λz x ⟨t,e,ht⟩=>#[t,e,uW ht (bK ht EE nofun)];apply#[_,U,lc,U,#[_,.of (uW xG GK)],λD2 Ac=>?_];apply SO (λx=>x.2) (λx=>rfl) U (uW xG GK) WZ ng Ac λH6 iR s6 hD6 W8=>?_;apply#[D2,iR,_,U,hD6,W8,by rw[au];exact ng,λdy LF=>?_];rw[show ((qs.zip vs).map λx:Pc × V=>((Sum.inr x.1.1:Key),x.2))=uV qs vs from U,ya (by rw[_F lv];exact nV)];let s7:=aa.new (o:=.dK (uV qs vs)) LF;let Gn:=s6.trans s7;let RG:=Gn _ _ Lx;apply#[_,U,g,CG,dx,_,U,RG,T.cl,T.nY,by show 2<1000;decide,?_];have EF:upd H6 dy (.dK (uV qs vs)) dy\.dK (uV qs vs):=az;have dyg:dy≠g:=(bq (s6 _ _ Lx) LF).symm;have dyn:H5 dy=none:=s6.free LF;generalize upd H6 dy (.dK (uV qs vs))=H7 at s7 Gn RG EF ⊢
 have fin:∀{b o},H1 b\o->b≠g->upd H7 g (.ins CG dx (cO p dw dy)) b\o:=λe ne=>by
  rw[ax ne];exact Gn _ _ (uW e ne)
 have Cr:∀b xs,H1 b\.tup xs->upd H7 g (.ins CG dx (cO p dw dy)) b\.tup xs:=λb xs e=>fin e (bK e EE nofun);have nH:∀{b},H1 b=none->H b=none:=λe=>s1.free e;apply k qs (g::dw::dy::(di++vs.filterMap λv=>match v with | .ref a=>some a|_=>none)) _ (λb o e ne=>fin (s1 _ _ e) ne) #[dx,dw,dy,vs,di,az,?_,?_,?_,?_,by simp,by simp,by simp,λb hb=>by simp[hb],λv hv a z=>?_] Qq λb hb=>?_
 ·exact W.keep (λb hb o e=>fin (s1 _ _ e) (λz=>gw (z▸hb))) λb xs e=>Cr b xs (s1 _ _ e)
 ·rw[ax TQ];exact Gn _ _ (JF EG TQ)
 ·rw[ax dyg];exact EF
 ·exact OP Vv λv hv q h=>h.keep (λa z u e=>fin e (λzz=>by
   subst zz;have:=Co v hv _ z;rw[hg] at this;cases this)) λb xs e=>Cr b xs e
 ·apply fN _ (fN _ (fN _ (mP _ (yg.mpr #[v,hv,?_]))));rw[z]
 simp only[bW,dM,yg] at hb;rcases hb with rfl|rfl|rfl|hb|⟨v,hv,e⟩
 ·exact .inl U
 ·exact .inr (.inr (nH (Mo dwn)))
 ·exact .inr (.inr (nH (Mo (Gp.free (pb dyn)))))
 ·exact .inr (.inl hb)
 cases v with
 |ref a=>
  cases e;exact .inr (.inr (Co _ hv _ U))
 |_=>cases e
end
end Ev
namespace L2
open PySem
end L2
namespace Ev
open PySem L2
theorem el_{kvs:List (Key × V)}{ns:ae}(h:kvs.map (·.1)=ns.map Sum.inr)(x:Str):(aZ kvs (Sum.inr x)).isSome=decide (x∈ns):=by
 by_cases hx:x∈ns
 ·rw[cJ hx];apply Jg ?_;rw[h];exact bw.mpr #[x,hx,U]
 rw[fD hx,uR]
 ·rfl
 rw[h];intro m;let#[y,hy,e]:=bw.mp m;cases e;exact hx hy
theorem YH{qs:aN}(nd:(qs.map (·.1)).Nodup){q:Pc}(hq:q∈qs):aZ (kP qs) (Sum.inr q.1)\.int q.2.1:=by
 let#[j,hj,e]:=gJ hq;have:=M0 (ps:=qs) (cs:=qs.map λq=>V.int q.2.1) nd (by rw[au]) (j:=j) (q:=q) (c:=.int q.2.1) (by rw[aY hj,e]) (by rw[dF,aY hj,e];rfl)
 have e2:((qs.zip (qs.map λq=>V.int q.2.1)).map λq=>((Sum.inr q.1.1:Key),q.2))=kP qs:=by
  unfold kP;rw[List.zip_map_right,cY]
  have:qs.zip qs=qs.map λq=>(q,q):=by
   clear nd hq this hj e j
   induction qs with
   |nil=>rfl
   |cons a l ih=>rw[List.zip_cons_cons,ih,eZ]
  rw[this,cY];rfl
 rwa [e2] at this
theorem YR{qs:aN}{vs:ai}(nd:(qs.map (·.1)).Nodup){K:aj}{H:Hp}(h:Paired (λv (q:Pc)=>bV K H v q.2.2) vs qs){q:Pc}(hq:q∈qs):∃v∈vs,aZ (uV qs vs) (Sum.inr q.1)\v/\bV K H v q.2.2:=by
 let#[j,hj,e]:=gJ hq;let hl:=bj h;have hv:j<vs.length:=by omega
 let p:=eP h j hv hj;rw[e] at p;exact#[vs[j],mO hv,M0 nd Z1 (by rw[aY hj,e]) (aY hv),p]
def Bp(hs:Xa)(ts:Xb)(o:Option (Xb))(x y:Option Str):Bool:=
 Bs hs ts x y&&match o,x,y with
  |none,_,_=>true
  |some ws,some a,some b=>decide (aH a b∈ws)
  |_,_,_=>false
section v
theorem yR:bN oz oz (aX rF):=bU
inductive Fi (K:aj) (CG CW:Addr) (vs:ai) (H:Hp) (Q:VK) (E:XK):Prop
 |mk:∀(g p:Addr) (v:V) (x:Option Str) (hs:Xa) (ts:Xb) (qs:aN) (fp:ao),vs=[.ref g,v]->gA K CG CW H g p hs ts qs fp->jW K H v x->Q (.bl (DZ (qs.map (·.1)) x)) H->Fi K CG CW vs H Q E
theorem Y1{f CG CW:Addr}{fd:Ae}(F:br K "has_piece" "Goods.has_piece" rF f fd)(T:gf K CG)(B:Bi mg):!aq a9 1 f fd oz (Fi K CG CW):=by
 exists F.bT yR;let#[g,p,v,x,hs,ts,qs,fp,rfl,G,sv,k]:=h;let hu:=fO hr;let#[dx,dw,dy,vs,di,h1,h2,h3,h4,h5,m1,m2,m3,m4,m5]:=G.ex;apply#[_,aF (bx (tJ (cZ mN (by rfl) B.kh kC %[1,mJ (v:=.ty "str") (by rfl) B.str HQ U|0]) (uO (HS (BF hu (pv 1) (gd (pv 0) U)))))),?_];cases x with
 |some x=>
  cases (show v=.str x from sv);apply#[_,U,_,_,_,_,U,.str x,U,_,U,dD ?_];apply#[_,U,_,U,g,CG,dx,_,_,U,h1,T.cl,T.nG,MF _ _ _,dw,_,U,.k (k:=Sum.inr x) h3,?_];rw[el_ (SU qs)];exact k
 |none=>
  let#[t,ty,e]:=sv;exact#[_,U,_,_,_,_,U,ty,e,_,U,aL k]
theorem qN:bN pf pf (aX Ni):=bU
inductive BP (K:aj) (CG CW:Addr) (vs:ai) (H:Hp) (Q:VK) (E:XK):Prop
 |mk:∀(g p:Addr) (hs:Xa) (ts:Xb) (qs:aN) (fp:ao),vs=[.ref g]->gA K CG CW H g p hs ts qs fp->(∀l,H l=none->Q (.ref l) (upd H l (.lst ((qs.map (·.1)).map V.str))))->BP K CG CW vs H Q E
theorem gL_{f CG CW:Addr}{fd:Ae}(F:br K "names" "Goods.names" Ni f fd)(T:gf K CG)(B:Bi mg):!aq a9 1 f fd pf (BP K CG CW):=by
 exists F.bT qN;let#[g,p,hs,ts,qs,fp,rfl,G,k]:=h;let#[dx,dw,dy,vs,di,h1,h2,h3,h4,h5,m1,m2,m3,m4,m5]:=G.ex;apply#[_,aF (bx (jn (NY U) (by rfl) B.list AS %[gd (pv 0) U|0])),?_];apply#[_,U,g,CG,dx,_,_,U,h1,T.cl,T.nG,MF _ _ _,dw,_,U,.inl h3,λl hl=>?_]
 have e:((kP qs).map λkv=>kV kv.1)=(qs.map (·.1)).map V.str:=by
  unfold kP;rw[cY,cY];rfl
 rw[e];exact k l hl
structure Ref (K:aj) (mg:Str->Option Aa) (x:Str) (C:Addr):Prop where
 mg:mg x\.ref C
 ex:PySem.W.excIn K C [.type "ValueError",.type "Exception",.type "BaseException",.type "object"] "ValueError.__new__"=true
theorem oR:bN ["self","piece"] ["self","piece"] (aX M6):=bU
inductive Oc (K:aj) (CG CW CP:Addr) (vs:ai) (H:Hp) (Q:VK) (E:XK):Prop
 |mk:∀(g p:Addr) (v:V) (x:Option Str) (hs:Xa) (ts:Xb) (qs:aN) (fp:ao),vs=[.ref g,v]->gA K CG CW H g p hs ts qs fp->(qs.map (·.1)).Nodup->jW K H v x->((∃q∈qs,x\q.1/\Q (.int q.2.1) H)∨False)->Oc K CG CW CP vs H Q E
theorem fG_{f CG CW CP:Addr}{fd:Ae}(F:br K "weight" "Goods.weight" M6 f fd)(T:gf K CG)(cH:!bQ CG 1 "has_piece" oz (Fi K CG CW)):!aq a9 2 f fd ["self","piece"] (Oc K CG CW CP):=by
 exists F.bT oR;let#[g,p,v,x,hs,ts,qs,fp,rfl,G,nd,sv,k]:=h;let hu:=fO hr;let#[dx,dw,dy,vs,di,h1,h2,h3,h4,h5,m1,m2,m3,m4,m5]:=id G.ex;have km:(cO p dw dy).lookup ("has_piece":Str)=none:=wF _ _ _ Z0 Z0 Z0;apply#[_,aw (cg (fi (e_ (i6 cH T.cl hr (pv 0) %[1|0]))) gj cm) (aF (bx (jo hu (gd (pv 0) U) (pv 1)))),?_];apply#[_,U,g,dx,_,U,h1,km,_,U,g,p,v,x,hs,ts,qs,fp,U,G,sv,_,U,?_];rcases k with⟨q,hq,rfl,k⟩|k
 ·cases (show v=.str q.1 from sv);rw[show DZ (qs.map (·.1)) (some q.1)=true from cJ (bw.mpr #[q,hq,U])];apply aL ?_;apply#[_,U,g,CG,dx,_,_,U,h1,T.cl,T.nG,MF _ _ _,_,U,dw,_,U,?_,k];rw[<- YH nd hq];exact .k (k:=Sum.inr q.1) h3
 exact k.elim
theorem qO:bN ["self","piece","one","other","ties"] ["self","piece","one","other"] (aX rD):=bU
inductive k_ (K:aj) (CG CW CP:Addr) (vs:ai) (H:Hp) (Q:VK) (E:XK):Prop
 |mk:∀(g p:Addr) (v u1 u2:V) (x y1 y2:Option Str) (hs:Xa) (ts:Xb) (qs:aN) (fp:ao),vs=[.ref g,v,u1,u2]->gA K CG CW H g p hs ts qs fp->(qs.map (·.1)).Nodup->(aO hs).Nodup->jW K H v x->((∃q∈qs,x\q.1/\jW K H u1 y1/\jW K H u2 y2/\∀H',aa H H'->Q (.bl (Bp hs ts q.2.2 y1 y2)) H')∨False)->k_ K CG CW CP vs H Q E
theorem Zy{f CG CW CP:Addr}{fd:Ae}(F:br K "may_go" "Goods.may_go" rD f fd)(T:gf K CG)(TW:Txt K mg CW)(cH:!bQ CG 1 "has_piece" oz (Fi K CG CW))(cT:!bQ CW 2 "are_tied" jT (IV K CW))(cL:!bu 1 "lesser_first" mr Ir) :
  aq P w K mg base a9 3 f fd ["self","piece","one","other"] (k_ K CG CW CP):=by
 exists F.bT qO;let#[g,p,v,u1,u2,x,y1,y2,hs,ts,qs,fp,rfl,G,nd,r_,sv,k]:=h;let hu:=fO hr;have jf:aP 1 _:=hr.mono (by decide);let#[dx,dw,dy,vs,di,h1,h2,h3,h4,h5,m1,m2,m3,m4,m5]:=id G.ex;have km:(cO p dw dy).lookup ("has_piece":Str)=none:=wF _ _ _ Z0 Z0 Z0;let#[mh,d1,l2,d3,wQ,as,ef,w1,_]:=id h2.ex;have zE:(fq d1 l2 d3).lookup ("are_tied":Str)=none:=qa _ _ _ Z0 Z0 Z0
 apply#[_,aw (cg (fi (e_ (i6 cH T.cl jf (pv 0) %[1|0]))) gj cm)
  (aw (cg (fi (e_ (i6 cT TW.cl hr (gd (pv 0) U) %[2,3|0]))) (aF (bx gI)) cm)
  (aw (bo 4 qO.nd (jo hu (gd (pv 0) U) (pv 1)))
  (aF (bx (Yw (HS (Hk (pv 4))) (uO (wA (Mg (Fp ix ix) (mF hr _)) (bg cL hr %[2,3|0]) (pv 4) (by with_unfolding_all rfl)))))))),?_]
 apply#[_,U,g,dx,_,U,h1,km,_,U,g,p,v,x,hs,ts,qs,fp,U,G,sv,_,U,?_];rcases k with⟨q,hq,rfl,s1,s2,k⟩|k
 ·cases (show v=.str q.1 from sv);rw[show DZ (qs.map (·.1)) (some q.1)=true from cJ (bw.mpr #[q,hq,U])];apply aL ?_;apply#[_,U,g,CG,dx,_,_,U,h1,T.cl,T.nW,x8 _ _ _,p,mh,_,U,w1,zE,_,U,_,U,p,u1,u2,y1,y2,hs,ts,di,U,h2,r_,s1,s2,_,U,?_];cases tb:Bs hs ts y1 y2 with
  |false=>
   apply dD ?_;have:=k H (aa.refl H);unfold Bp at this;rw[tb,Bool.false_and] at this;exact this
  |true=>
   apply aL ?_;let#[u,vJ,eu,wy]:=YR nd h5 hq;apply#[_,U,g,CG,dx,_,_,U,h1,T.cl,T.nY,Zx _ _ _,_,U,dy,u,U,?_,?_]
   ·rw[<- eu];exact .k (k:=Sum.inr q.1) h4
   apply#[_,U,_,U,?_];unfold Bp at k;rw[tb] at k;cases e:q.2.2 with
   |none=>
    rw[e] at wy k;cases (show u=.non from wy);exact dD (k H (aa.refl H))
   |some ws=>
    rw[e] at wy k;let#[a,ys,rfl,ha,tu]:=wy;cases y1 with
    |none=>cases tb
    |some a1=>
     cases y2 with
     |none=>cases tb
     |some a2=>
      cases (show u1=.str a1 from s1);cases (show u2=.str a2 from s2);apply aL #[_,U,_,U,a1,a2,U,λt ht=>?_];have s3:aa H (upd H t (.tup [.str (aH a1 a2).1,.str (aH a1 a2).2])):=aa.new ht;apply#[_,U,aH a1 a2,ws,#[t,_,_,U,.of az,U,U],#[a,ys,U,.of (s3 _ _ ha),Mx (tu.same s3)],?_];let z:=k _ s3;rw[Bool.true_and] at z;rw[aB gc];show Q (.bl _) _;have z:Q (.bl (decide (aH a1 a2∈ws))) (upd H t (.tup [.str (aH a1 a2).1,.str (aH a1 a2).2])):=z;generalize upd H t (.tup [.str (aH a1 a2).1,.str (aH a1 a2).2])=Hz at z ⊢;by_cases hm:aH a1 a2∈ws
      ·simpa [hm] using z
      simpa [hm] using z
 exact k.elim
end
end Ev
namespace L2
open PySem PySem.Spec PyProof.Rows PySem.W
theorem Zg{P:Ad}{w:Af}{k:Key}{key:Aa}(h:(ft P w).is k key=true):RelV (kV k) key:=by
 have e2:wk k key=true:=h;rcases qf e2 with⟨i,t,rfl,rfl⟩|⟨x,t,rfl,rfl⟩
 ·exact#[t,U]
 exact#[t,U]
def Itm(d:Addr)(o:Obj)(kvs:List (Key × V)):It:=#[λi H=>H d\.frz o (.dK kvs)/\i<kvs.length,λi H y H'=>∃t k x,y=.ref t/\H t=none/\kvs[i]? = some (k,x)/\H'=upd H t (.tup [kV k,x]),λi H=>H d\.frz o (.dK kvs)/\kvs.length<=i]
theorem fh_{P:Ad}{w:Af}{K:aj}{elts:List Expr}{kk:Nat}{pos:Pos}(d it:Addr)(o:Obj)(kvs:List (Key × V)){es:Array DictEntry}{ep:Nat}(ho:o.data=.dict es ep):Turn P w K (.Tuple elts kk pos) (Itm d o kvs) [it] it (λi h=>∃ok ov,IsItemIter h it d i kvs.length ep ok ov) where
 mem:=by simp
 obj:=λi h st b hb=>by
  obtain rfl:b=it:=⇑hb
  let#[ok,ov,q]:=st;exact#[_,q,λv z=>by cases z]
 keep:=λi h h' st k=>by
  let#[ok,ov,q]:=st;exact#[ok,ov,k it Z2 _ q]
 item:=by
  intro X hP hw hK hc i pins s σ H E I hf st hg;subst hP hw hK;let#[hd,hi]:=hg;let#[vs,rel,dat]:=T6 I hd ho;obtain⟨⟨k,x⟩,hx⟩:∃p,kvs[i]? = some p:=#[kvs[i],by simp[hi]];let#[u,hu,ru]:=Mf rel i hx;let#[ok,ov,st]:=st;have ZU:it<s.heap.objs.size:=bp st;rw[rel.length] at st;apply wpAny_pyNext_items_item st dat hu λkey h' hk out ht sz kp=>?_;apply#[_,U,wpAny_letOwnedTupleGo_items (s:={ s with heap:=h' }) out λh2 gq sb=>?_];have nT:s.heap.objs.size≠it:=i_ ZU;have I1:Inv X pins σ (upd H s.heap.objs.size (.tup [kV k,x])) { s with heap:=h2 }:=I.iN (t':=s.toks) (fp:=[it]) (its:=[key,u]) (λb o hb q=>(sb.2 b ⇑hb).trans (kp b o ⇑hb q)) hf (bc _) (zl) (.cons (Zg hk) (.cons ru .nil)) #[#[_,(sb.2 _ nT).trans ht,U,_,U],_,(sb.2 _ nT).trans ht,U];apply#[.ref _,_,I1,U,#[_,k,x,U,I.ay.fresh (bc _),hx,U],#[_,_,by rw[rel.length];exact gq],λb hb=>?_];have e:b=it:=⇑hb
  rw[ax (λz=>nT (z.symm.trans e))];exact (hf b hb).1
 done:=by
  intro X hP hw hK hc i pins s σ H E I hf st hg;subst hP hw hK;let#[hd,hi]:=hg;let#[vs,rel,dat]:=T6 I hd ho;let#[f0,f1,f2,f3,f4,f5]:=hf it Z2;let#[ok,ov,st]:=st;rw[rel.length] at st hi;exact wpAny_pyNext_items_end (I.ok.hd hc) st dat (by simp;omega) λh' eb=>#[U,I.turned (t':=s.toks) (λb o hb e=>eb b o hb e) f0 f1 f3 f4 f5]
 self:=λA i s Q E st h=>by
  let#[ok,ov,q]:=st;exact kcp_self q h
inductive nZ (R:It->Hp->Prop) (x:V) (H1:Hp):Prop
 |mk:∀v d kvs,x=.ref v->H1 v\tK v d->H1 d\.dK kvs->(∀o,R (Itm d o kvs) (upd H1 d (.frz o (.dK kvs))))->nZ R x H1
def zr(tv:TE):TI:=λσ H R=>tv σ H λx H1=>nZ R x H1
theorem NG{X:Cx}{elts:List Expr}{kk:Nat}{p2:Pos}{e:Expr}{tv:TE}(he:PE X e tv):PI X (.Tuple elts kk p2) e (zr tv):=by
 intro pins s σ H R I h;apply aQ (he pins s σ H _ I h) λu s1 ⟨x,H1,I1,r1,v,d,kvs,ex,hv,hd,q⟩=>?_;subst ex;cases r1;let#[iv,_,_]:=I1.ay v _ hv;let#[o,ho,I2]:=I1.freeze hd;let#[z,_,vs,rel,o',es,ep,og,c',dt,r]:=EY I1.ay hd;rw[ho] at og;cases og;apply wpAny_pyIter_items (knd:=ft X.prog X.w) (kvs:=vs) (ep:=ep) iv #[o,es,ho,c',dt,r] ?_;apply#[s1.heap.objs.size,[s1.heap.objs.size],_,_,_,U,I2.kept (t':=s1.toks) λb o e=>aS _ e,fh_ d _ o kvs dt,?_,λb hb=>?_,q o]
 ·rw[rel.length];exact#[.none,.none,cy _ U]
 obtain rfl:b=s1.heap.objs.size:=⇑hb
 exact I2.jI (bc _) (I2.ay.fresh (bc _))
theorem NL{d:Addr}{o:Obj}{kvs:List (Key × V)}{g:TG}{tb:TS}{D:Ends}{σ:St}{H:Hp}(Pv:bO)(h0:Pv 0 σ H)(hl:∀i σ H,i<=kvs.length->Pv i σ H->H d\.frz o (.dK kvs))
  (hs:∀i k x σ H,kvs[i]? = some (k,x)->Pv i σ H->∀t,H t=none->g (.ref t) σ (upd H t (.tup [kV k,x])) λgn H2=>tb { D with nx:=Pv (i+1),ct:=Pv (i+1),bk:=D.nx } gn H2) (hd:∀σ H,Pv kvs.length σ H->D.nx σ H) :
  ∃W:Nat->Nat->St->Hp->Prop,(∃m,W 0 m σ H)/\∀i m σ H,W i m σ H->
   ((Itm d o kvs).stop i H/\D.nx σ H)∨((Itm d o kvs).go i H/\∃N:St->Hp->Prop,(∀aV H',N aV H'->∃m',m'<m/\W (i+1) m' aV H')/\∀x H',(Itm d o kvs).uU i H x H'->g x σ H' λgn H2=>tb { D with nx:=N,ct:=N,bk:=D.nx } gn H2):=by
 apply#[λi m σ H=>m=kvs.length - i/\i<=kvs.length/\Pv i σ H,#[kvs.length,by simp,gE _,h0],?_];rintro i m σ H ⟨rfl,hi,p⟩;let q:=hl i σ H hi p;by_cases dW:i<kvs.length
 ·apply .inr #[#[q,dW],Pv (i+1),λaV H' p'=>#[kvs.length - (i+1),by omega,U,dW,p'],λx H' y=>?_];let#[t,k,x,rfl,ht,hx,rfl]:=y;exact hs i k x σ H hx p t ht
 have e:i=kvs.length:=by omega
 subst e;exact .inl #[#[q,bc _],hd σ H p]
inductive qp (t:TS) (D:Ends) (σ:St) (H:Hp):Prop
 |mk:∀d kvs,H d\.dK kvs->t { nx:=λmY H1=>∃o,H1 d\.frz o (.dK kvs)/\D.nx mY (upd H1 d (.dK kvs)),rt:=λv H1=>∃o,H1 d\.frz o (.dK kvs)/\D.rt v (upd H1 d (.dK kvs)) } σ H->qp t D σ H
theorem Si{X:Cx}{st:Stmt}{t:TS}(h:PS X st t):PS X st (qp t):=by
 intro pins s σ H D I q;let#[d,kvs,hd,q]:=q
 have nf:∀o u,X.jZ d≠some (.frz o u):=λo u z=>by
  have:=I.base.hJ _ _ _ z;rw[hd] at this;cases this
 apply aQ (h pins s σ H _ I q) λf s' p=>?_;cases f with
 |next=>
  let#[mY,H1,I1,o,hf,q1]:=p;exact#[mY,_,I1.qj hf nf,q1]
 |brk=>
  let#[mY,H1,I1,q1]:=p;exact False.elim q1
 |cont=>
  let#[mY,H1,I1,q1]:=p;exact False.elim q1
 |ret u=>
  let#[v,mY,H1,I1,r,o,hf,q1]:=p;exact#[v,mY,_,I1.qj hf nf,r,q1]
end L2
namespace Ev
open PySem L2
structure Fz (d:Addr) (o:Obj) (kvs:List (Key × V)) (H H':Hp):Prop where
 at_:H' d\.frz o (.dK kvs)
 sm:∀b u,b≠d->H b\u->H' b\u
section
variable{d:Addr}{o:Obj}{kvs:List (Key × V)}{H H' H2:Hp}
theorem Fz.start:Fz d o kvs H (upd H d (.frz o (.dK kvs))):=#[az,λb u ne e=>by rw[ax ne];exact e]
theorem Fz.step(f:Fz d o kvs H H')(s:aa H' H2):Fz d o kvs H H2:=#[s _ _ f.at_,λb u ne e=>s _ _ (f.sm b u ne e)]
theorem Fz.qj(f:Fz d o kvs H H')(hd:H d\.dK kvs):aa H (upd H' d (.dK kvs)):=λb u e=>by
 by_cases z:b=d
 ·subst z;rw[hd] at e;cases e;exact az
 rw[ax z];exact f.sm b u z e
theorem Fz.xQ{K:aj}{CG CW g p:Addr}{hs:Xa}{ts:Xb}{qs:aN}{fp:ao}(f:Fz d o kvs H H')(hd:H d\.dK kvs)(G:gA K CG CW H g p hs ts qs fp)(nd:d∉fp):gA K CG CW H' g p hs ts qs fp:=
 G.keep (λb hb u e=>f.sm b u (λz=>nd (z▸hb)) e) λb xs e=>f.sm b _ (bK e hd nofun) e
end
def d_(ns:ae)(g:Str->V):List (Key × V):=ns.map λn=>(Sum.inr n,g n)
theorem BQ(ns:ae)(g:Str->V):(d_ ns g).map (·.1)=ns.map Sum.inr:=by
 unfold d_;rw[cY];rfl
theorem mK(ns:ae)(g:Str->V):(d_ ns g).length=ns.length:=au _
theorem wz{ns:ae}{g:Str->V}{n:Str}(h:n∈ns):aZ (d_ ns g) (Sum.inr n)\g n:=by
 induction ns with
 |nil=>cases h
 |cons m ns ih=>
  by_cases e:m=n
  ·subst e;exact AK U
  have:aZ (d_ (m::ns) g) (Sum.inr n)=aZ (d_ ns g) (Sum.inr n):=AH λz=>e (iy z);rw[this];rcases bW.mp h with z|z
  ·exact absurd z.symm e
  exact ih z
theorem Jf{ns:ae}{g k:Str->V}(h:∀n∈ns,g n=k n):d_ ns g=d_ ns k:=uP λn hn=>by rw[h n hn]
theorem Sh{ns:ae}{g:Str->V}{n:Str}{v:V}(h:n∈ns):putK (d_ ns g) (Sum.inr n) v=d_ ns λm=>if m=n then v else g m:=by
 unfold putK;rw[aJ]
 ·unfold d_;rw[cY];apply uP λm _=>?_;by_cases e:m=n
  ·subst e;simp
  have:¬((Sum.inr m:Key)=Sum.inr n):=λz=>e (iy z);simp[e]
 apply List.any_eq_true.mpr #[(Sum.inr n,g n),bw.mpr #[n,h,U],by simp]
theorem Rq{ns:ae}{g:Str->V}{n:Str}{v:V}(h:n∉ns):putK (d_ ns g) (Sum.inr n) v=d_ (ns++[n]) λm=>if m=n then v else g m:=by
 rw[wH _ (uR (by
  rw[BQ];intro m;let#[x,hx,e]:=bw.mp m;exact h (iy e▸hx)))]
 unfold d_;rw[fg];congr 1
 ·apply uP λm hm=>?_;have e:¬m=n:=λz=>h (z▸hm);simp[e]
 simp
theorem Mm{ns:ae}{g:Str->V}{i:Nat}{k:Key}{x:V}(h:(d_ ns g)[i]? = some (k,x)):∃n,ns[i]? = some n/\k=Sum.inr n/\x=g n:=by
 unfold d_ at h;rw[dF] at h;cases e:ns[i]? with
 |none=>rw[e] at h;cases h
 |some n=>
  rw[e] at h;let h:=cu h;exact#[n,U,(eG Prod.fst h).symm,(eG Prod.snd h).symm]
theorem Tf{ns:ae}(nd:ns.Nodup){i:Nat}{n:Str}(h:ns[i]? = some n):n∉ns.take i:=by
 let q:=FJ (g:=id) (ts:=ns) (by rw[List.map_id];exact nd) h;rwa [List.map_id] at q
theorem uI{ns:ae}{i:Nat}{n:Str}(h:ns[i]? = some n):ns.take (i+1)=ns.take i++[n]:=by
 rw[tQ,h];rfl
abbrev fw(ns:ae)(f:bh):List (Key × V):=d_ ns λn=>.str (f n)
def eF(q:Pc):Str × Int:=(q.1,q.2.1)
def ld(f:bh)(ws:Xa)(h:Str):Int:=((ws.filter λx=>decide (f x.1=h)).map (·.2)).sum
theorem Sj(f:bh)(ws:Xa)(x:Str × Int)(h:Str):ld f (ws++[x]) h=if h=f x.1 then ld f ws h+x.2 else ld f ws h:=by
 unfold ld;rw[List.filter_append];by_cases e:f x.1=h
 ·rw[aJ e.symm,fg,List.sum_append];simp[e]
 rw[aB λz=>e z.symm];simp[e]
theorem SB:∀{l:List Int},(∀x∈l,0<=x)->0<=l.sum
 |[],_=>by simp
 |x::l,h=>by
  rw[List.sum_cons];have:=h x gB;have:=SB (l:=l) λy hy=>h y (fN _ hy);omega
theorem Yl{f:bh}{ws:Xa}{h:Str}(p:∀x∈ws,0<=x.2):0<=ld f ws h:=SB λx hx=>by
 let#[y,hy,rfl]:=bw.mp hx;exact p y (mL.mp hy).1
theorem h5_{α:Type}{ps:List (Str × α)}(nd:(ps.map (·.1)).Nodup){a b:Str × α}(ha:a∈ps)(hb:b∈ps)(e:a.1=b.1):a=b:=by
 induction ps with
 |nil=>cases ha
 |cons p ps ih=>
  rw[eZ,jq] at nd;rcases bW.mp ha with za|ha
  ·rcases bW.mp hb with zb|hb
   ·rw[za,zb]
   rw[za] at e;exact absurd (show p.1∈ps.map (·.1) from bw.mpr #[b,hb,e.symm]) nd.1
  rcases bW.mp hb with zb|hb
  ·rw[zb] at e;exact absurd (show p.1∈ps.map (·.1) from bw.mpr #[a,ha,e]) nd.1
  exact ih nd.2 ha hb
def strOf(hs:Xa)(n:Str):Int:=((hs.find? λh=>decide (h.1=n)).map (·.2)).getD 0
theorem Jc{hs:Xa}{n:Str}(h:n∈hs.map (·.1)):(n,strOf hs n)∈hs:=by
 unfold strOf;let#[x,hx,e]:=bw.mp h;cases q:hs.find? λh=>decide (h.1=n) with
 |none=>
  have:=List.find?_eq_none.mp q x hx;simp[e] at this
 |some y=>
  let m:=List.mem_of_find?_eq_some q;have:=List.find?_some q;have e2:y.1=n:=⇑this
  show (n,y.2)∈hs;rw[<- e2];exact m
theorem IJ{hs:Xa}(nd:(hs.map (·.1)).Nodup){n:Str}{s:Int}(h:(n,s)∈hs):strOf hs n=s:=by
 let m:=Jc (bw.mpr #[_,h,U]:n∈hs.map (·.1));exact eG Prod.snd (h5_ nd m h U)
def fr(a b:Int):Int × Int:=(a / (Int.gcd a b:Int),b / (Int.gcd a b:Int))
theorem _k{a b:Int}(ha:0<=a)(h:0<b):Int.gcd b (a % b)=Int.gcd a b:=by
 let#[m,rfl]:=AY ha;let#[n,rfl]:=AY (gS h);rw[<- Int.natCast_emod];show Nat.gcd n (m % n)=Nat.gcd m n;rw[Nat.gcd_comm n,<- Nat.gcd_rec,Nat.gcd_comm]
section v
theorem oQ:bN ["one","other","rest","divisor","left"] mr (aX J9):=bU
def u6:Sp:=λvs H Q _=>∃a b:Int,vs=[.int a,.int b]/\0<=a/\0<b/\Q (.int (Int.gcd a b)) H
theorem YA{f:Addr}{fd:Ae}(F:br K BB BB J9 f fd):!aq a9 1 f fd mr u6:=by
 exists F.bT oQ;let#[a,b,rfl,ha,hb,k]:=h;refine' #[_,aw ?s1 (aw ?s2 (aw ?s3 ?s4)),?kk]
 case s1=>exact bo 2 oQ.nd (pv 0)
 case s2=>exact bo 3 oQ.nd (pv 1)
 case s3=>exact FP dH (fh tG (pv 2) aD) (aw (bo 4 oQ.nd (bJ Ay (pv 3) (pv 2))) (aw (bo 3 oQ.nd (pv 2)) (aF (bo 2 oQ.nd (pv 4)))))
 case s4=>exact aF (bx (pv 3))
 apply#[_,U,_,U,?_];apply hK_ (λσ H'=>H'=H/\∃(r d:Int) (v4:aE),σ=[some (.int a),some (.int b),some (.int r),some (.int d),v4]/\0<=r/\0<d/\Int.gcd r d=Int.gcd a b) (λσ _=>match σ with | [_,_,some (.int r),_,_]=>r.toNat|_=>0) #[U,a,b,none,U,ha,hb,U] ?_ ?_
 ·rintro σ H' ⟨rfl,r,d,v4,rfl,jg,hd,e⟩;apply#[_,U,U,_,U,?_];apply bY (λc=>?_) (λc=>?_)
  ·have jf:0<r:=by
    have:r≠0:=by
     intro z;subst z;simp at c
    omega
   apply#[_,U,_,U,_,_,U,U,jf,_,U,_,U,?_];let h1:=Int.emod_nonneg d (Int.ne_of_gt jf);let h2:=Int.emod_lt_of_pos d jf;apply#[#[U,_,_,_,U,h1,jf,?_],?_]
   ·rw[<- e,Int.gcd_comm (d % r) r,_k (gS hd) jf,Int.gcd_comm]
   show (d % r).toNat<r.toNat;omega
  have jf:r=0:=⇑c
  subst jf;apply#[_,U,?_]
  have e2:(Int.gcd a b:Int)=d:=by
   rw[<- e,Int.gcd_zero_left];omega
  rw[<- e2];exact k
 intro σ H' Q1 Q2 hq h;let#[x,e,h1,c,h2,h3]:=h;exact#[x,e,h1,c,h2,hq _ _ h3]
end
end Ev
namespace Ev
open PySem L2
theorem YD{a b:Int}(hb:0<b)(md:b<=1000):0<(Int.gcd a b:Int)/\(Int.gcd a b:Int)<1073741824:=by
 have h1:0<Int.gcd a b:=Int.gcd_pos_of_ne_zero_right a Z1;have h2:(Int.gcd a b:Int) ∣ b:=Int.gcd_dvd_right a b;let h3:=Int.le_of_dvd hb h2;omega
section v
structure Nu (hs:Xa) (qs:aN) (ns:ae) (f:bh):Prop where
 perm:ns.Perm (qs.map (·.1))
 at_:∀n∈ns,f n∈hs.map (·.1)
theorem IB:bN ["goods","stand","piece","hand","names"] ["goods","stand"] (aX Nv):=bU
inductive IA (K:aj) (CG CW:Addr) (vs:ai) (H:Hp) (Q:VK) (E:XK):Prop
 |mk:∀(g p d:Addr) (hs:Xa) (ts:Xb) (qs:aN) (fp:ao) (ns:ae) (f:bh),vs=[.ref g,.ref d]->gA K CG CW H g p hs ts qs fp->d∉fp->H d\.dK (fw ns f)->Nu hs qs ns f->(qs.map (·.1)).Nodup->qs.length<64->(∀d' H',aa H H'->H d'=none->H' d'\.dK (fw (qs.map (·.1)) f)->Q (.ref d') H')->IA K CG CW vs H Q E
theorem hs_{f CG CW:Addr}{fd:Ae}(F:br K "checked_stand" "checked_stand" Nv f fd)(B:Bi mg)(T:gf K CG)(TW:Txt K mg CW)(cH:!bQ CG 1 "has_piece" oz (Fi K CG CW))(cW:!bQ CW 1 "has_hand" oz (jw K CW))(cN:!bQ CG 1 "names" pf (BP K CG CW)) :
  aq P w K mg base a9 2 f fd ["goods","stand"] (IA K CG CW):=by
 exists F.bT IB;let#[g,p,d,hs,ts,qs,fp,ns,f,rfl,G,wa,hd,so,nd,cX,k]:=h;let hu:=fO hr;let sz:=cU;refine' #[_,?r0,?kk]
 case' r0=>refine' aw ?s1 ?r1
 case s1=>exact cg (fi (e_ (cZ mN (by rfl) B.kh kC %[1,mJ (v:=.ty "dict") (by rfl) B.dict uH U|0]))) gj cm
 case' r1=>refine' aw ?s2 ?r2
 case' s2=>refine' Si (ed dH U ?i2 ?g2 ?b2)
 case i2=>exact NG (IL (pv 1))
 case g2=>exact kz U (dG (cq 2 IB.nd) (dG (cq 3 IB.nd) iM))
 case b2=>exact aw (cg (fi (e_ (i6 cH T.cl hr (pv 0) %[2|0]))) gj cm) (aF (cg (fi (e_ (i6 cW TW.cl hr (gd (pv 0) U) %[3|0]))) gj cm))
 case' r2=>refine' aw ?s3 ?r3
 case s3=>exact bo 4 IB.nd (AA cN T.cl hr (pv 0))
 case' r3=>refine' aw ?s4 (aF ?s5)
 case s4=>exact cg (fh tG (cZ hi_ (by rfl) B.len gH %[1|0]) (cZ ic (by rfl) B.len gH %[4|0])) gj cm
 case s5=>exact bx (jn (AZ U) (by rfl) B.dict uH %[kD ["piece","stand"] 1 [1] (dE (pv 4)) (λfp s H=>gh (i:=0) (show (["piece","stand"]:ae).Nodup by decide +kernel) U (Or.inl U)) (λfp s H=>mI) (λfp s H=>iC %[0,jo hu (pv 1) (pv 0)|0])|0])
 have XU:ns.length=qs.length:=by rw[so.perm.length_eq,au]
 apply#[_,U,_,_,_,_,U,.dK hd,U,_,U,aL ?_];apply#[d,_,hd,?_];apply#[_,U,d,_,U,hd,λv hv=>?_];let#[s1,xC]:=aI (o:=tK v d) hv;let G1:=G.same s1;let uo:=s1 _ _ hd;generalize upd H v (tK v d)=H1 at s1 xC G1 uo ⊢;apply#[v,d,_,U,xC,uo,λo=>?_];apply NL (λi σ H'=>∃(v2 v3:aE),σ=[some (.ref g),some (.ref d),v2,v3,none]/\Fz d o (fw ns f) H1 H') #[none,none,U,Fz.start] (λi σ H' _ ⟨_,_,_,z⟩=>z.at_) ?_ ?_
 ·rintro i ky x σ H2 hx ⟨v2,v3,rfl,fz⟩ t ht;let#[n,hn,rfl,rfl]:=Mm hx;let nm:=cz hn;let s2:=aa.new (o:=.tup [.str n,.str (f n)]) ht;let Aj:=fz.step s2;have e2:upd H2 t (.tup [.str n,.str (f n)]) t\.tup [.str n,.str (f n)]:=az;show gO _ _ _ _ _ (upd H2 t (.tup [.str n,.str (f n)])) _;generalize upd H2 t (.tup [.str n,.str (f n)])=H3 at s2 Aj e2 ⊢;apply#[t,_,U,.of e2,U,_,_,U,_,_,U,U,?_];let G3:=Aj.xQ uo G1 wa;let#[dx,dw,dy,vs,di,h1,h2,h3,h4,h5,m1,m2,m3,m4,m5]:=id G3.ex;let#[mh,d1,l2,d3,wQ,as,ef,w1,_]:=id h2.ex;have km:(cO p dw dy).lookup ("has_piece":Str)=none:=wF _ _ _ Z0 Z0 Z0;have zE:(fq d1 l2 d3).lookup ("has_hand":Str)=none:=qa _ _ _ Z0 Z0 Z0;apply#[_,U,g,dx,_,U,h1,km,_,U,g,p,.str n,some n,hs,ts,qs,fp,U,G3,U,_,U,?_];rw[show DZ (qs.map (·.1)) (some n)=true from cJ (so.perm.mem_iff.mp nm)];apply aL ?_;apply#[_,U,g,CG,dx,_,_,U,h1,T.cl,T.nW,x8 _ _ _,p,mh,_,U,w1,zE,_,U,p,f n,hs,ts,di,U,h2,_,U,?_];rw[cJ (so.at_ n nm)];exact aL #[_,_,U,Aj]
 rintro σ H2 ⟨v2,v3,rfl,fz⟩;apply#[o,fz.at_,?_];let s2:=s1.trans (fz.qj uo);have hd2:upd H2 d (.dK (fw ns f)) d\.dK (fw ns f):=az;generalize upd H2 d (.dK (fw ns f))=H3 at s2 hd2 ⊢;let G3:=G.same s2;let#[dx,dw,dy,vs,di,h1,h2,h3,h4,h5,m1,m2,m3,m4,m5]:=id G3.ex;apply#[_,U,g,dx,_,U,h1,wF _ _ _ Z0 Z0 Z0,g,p,hs,ts,qs,fp,U,G3,λln xF=>?_];let#[s3,e3]:=aI (o:=.lst ((qs.map (·.1)).map V.str)) xF;let l9:=s3 _ _ hd2;generalize upd H3 ln (.lst ((qs.map (·.1)).map V.str))=H4 at s3 e3 l9 ⊢;apply#[_,U,d,_,U,l9,_,U,ln,_,U,.inl (.of e3),U,_,U,?_];rw[mK,au,au,XU];simp only[bne_self_eq_false,decide_true,Bool.not_true];apply aL ?_;let pL:=s2.trans s3;apply#[_,U,ln,U,#[_,.of e3],λD hD=>?_];apply kI (own:=1) (fv:=[some (.ref d)]) (xs:=(qs.map (·.1)).map V.str) U fY (λi out H'=>aa H4 H'/\H' D\.lst out/\kr K H' out (fw ((qs.map (·.1)).take i) f)) #[aa.new hD,az,.nil] (λi out H' _ ⟨sm,_,_⟩=>.of (sm _ _ e3)) (λout H5 ⟨sm,iX,pa⟩=>?_) (λi y out H' hy ⟨sm,dJ,pa⟩=>?_)
 ·rw[au,eI] at pa;apply#[D,out,_,U,iX,pa,by rw[mK,au];omega,λd' iW=>?_]
  have nV:((fw (qs.map (·.1)) f).map (·.1)).Nodup:=by
   rw[BQ,qe,wL];exact nd.imp λn e=>n (iy e)
  rw[ya nV];exact k d' _ ((pL.trans sm).trans (aa.new iW)) (pL.free (sm.free iW)) az
 let#[n,hn,rfl]:=mG hy;have hi:i<(qs.map (·.1)).length:=(b_.mp hn).1;rw[au] at hi;have nm:n∈ns:=so.perm.mem_iff.mpr (cz hn);apply#[_,U,U,λNx hN=>fV ?_];apply#[_,U,_,U,_,U,d,.str (f n),U,?_,zl,λt ht=>?_]
 ·rw[<- wz (g:=λn=>V.str (f n)) nm];exact .k (k:=Sum.inr n) (sm _ _ l9)
 let s5:=aa.new (o:=.tup [.str n,.str (f n)]) ht;let lo:=bj pa;rw[mK,dR,au] at lo;apply#[out,s5 _ _ dJ,by omega,hN _ _ #[fR (sm.trans s5) hD,az,?_]];have D_:upd H' t (.tup [.str n,.str (f n)]) t\.tup [.str n,.str (f n)]:=az;have pD:∀{b:Addr} {ys:ai},upd H' t (.tup [.str n,.str (f n)]) b\.tup ys->b≠D:=λhb=>bK hb (s5 _ _ dJ) nofun;rw[uI hn];show kr K _ _ (((qs.map (·.1)).take i++[n]).map _);rw[fg];exact gU (Paired.aU pa λy kv ⟨b,z,hb⟩=>#[b,z,by rw[ax (pD (s5 _ _ hb))];exact s5 _ _ hb]) (.cons #[t,U,by rw[ax (pD D_)];exact D_] .nil)
end
end Ev
namespace Ev
open PySem L2
theorem hW.has{K:aj}{C:Addr}{H:Hp}{p:Addr}{hs:Xa}{ts:Xb}{fp:ao}(W:hW K C H p hs ts fp){b:Addr}(hb:b∈fp):∃o,H b\o:=by
 let#[dx,d1,l2,d3,zs,as,rfl,h1,h2,h3,h4,h5,h6,h7]:=W.ex;simp only[bW] at hb;rcases hb with rfl|rfl|rfl|rfl|hb
 ·exact#[_,h1]
 ·exact#[_,h2]
 ·exact#[_,h3]
 ·exact#[_,h5]
 let#[i,hi,e]:=gJ hb;exact#[_,h7 i ((aO hs)[i]' Z1) b (aY Z1) (by rw[<- e];exact aY hi)]
theorem gA.slim{K:aj}{CG CW:Addr}{H:Hp}{g p:Addr}{hs:Xa}{ts:Xb}{qs:aN}{fp:ao}(G:gA K CG CW H g p hs ts qs fp):∃uv,gA K CG CW H g p hs ts qs uv/\∀b∈uv,∃o,H b\o:=by
 let#[dx,dw,dy,vs,di,h1,h2,h3,h4,h5,m1,m2,m3,m4,m5]:=G.ex;apply#[g::dw::dy::(di++vs.filterMap λv=>match v with | .ref a=>some a|_=>none),#[dx,dw,dy,vs,di,h1,h2,h3,h4,h5,by simp,by simp,by simp,λb hb=>by simp[hb],λv hv a z=>?_],λb hb=>?_]
 ·have:a∈vs.filterMap λv=>match v with | .ref a=>some a|_=>none:=yg.mpr #[v,hv,by rw[z]];simp only[bW,dM];exact .inr (.inr (.inr (.inr this)))
 simp only[bW,dM] at hb;rcases hb with rfl|rfl|rfl|hb|hb
 ·exact#[_,h1]
 ·exact#[_,h3]
 ·exact#[_,h4]
 ·exact h2.has hb
 let#[v,hv,e]:=yg.mp hb;let#[i,hi,ev]:=gJ hv;let le:=bj h5;let w:=eP h5 i hi Z1;rw[ev] at w;cases o:(qs[i]' Z1).2.2 with
 |none=>
  rw[o] at w;rw[show v=.non from w] at e;cases e
 |some ws=>
  rw[o] at w;let#[a,ys,ea,ha,_]:=w;rw[ea] at e;cases e;exact#[_,ha]
section
variable{d d2:Addr}{o:Obj}{kvs:List (Key × V)}{H H' H1:Hp}{u:HO}
theorem Fz.yA(s:aa H H1):Fz d o kvs H (upd H1 d (.frz o (.dK kvs))):=#[az,λb u ne e=>by rw[ax ne];exact s _ _ e]
theorem Fz.put(f:Fz d o kvs H H')(hn:H d2=none)(ne:d2≠d):Fz d o kvs H (upd H' d2 u):=#[by rw[ax ne.symm];exact f.at_,λb u nb e=>by rw[ax (bq e hn)];exact f.sm b u nb e]
end
section v
theorem IR:bN ["goods","placed","hand","found","piece"] oy (aX M_):=bU
structure BL (K:aj) (CG CW:Addr) (H:Hp) (g p d:Addr) (hs:Xa) (ts:Xb) (qs:aN) (fp:ao) (f:bh):Prop where
 G:gA K CG CW H g p hs ts qs fp
 Gd:Good hs ts
 wa:d∉fp
 hd:H d\.dK (fw (qs.map (·.1)) f)
 at_:∀n∈qs.map (·.1),f n∈hs.map (·.1)
 nd:(qs.map (·.1)).Nodup
 cX:qs.length<64
abbrev Qy(hs:Xa)(qs:aN)(f:bh):List (Key × V):=d_ (aO hs) λh=>.int (ld f (qs.map eF) h)
inductive Ot (K:aj) (CG CW:Addr) (vs:ai) (H:Hp) (Q:VK) (E:XK):Prop
 |mk:∀(g p d:Addr) (hs:Xa) (ts:Xb) (qs:aN) (fp:ao) (f:bh),vs=[.ref g,.ref d]->BL K CG CW H g p d hs ts qs fp f->(∀d' H',aa H H'->H d'=none->H' d'\.dK (Qy hs qs f)->Q (.ref d') H')->Ot K CG CW vs H Q E
theorem fv_{f CG CW CP:Addr}{fd:Ae}(F:br K "loads_at" "loads_at" M_ f fd)(B:Bi mg)(T:gf K CG)(TW:Txt K mg CW)(cH:!bQ CW 1 "hands" pf (FA K CW))(cW:!bQ CG 2 "weight" ["self","piece"] (Oc K CG CW CP)) :
  aq P w K mg base a9 3 f fd oy (Ot K CG CW):=by
 exists F.bT IR;let#[g,p,d,hs,ts,qs,fp,f,rfl,Pl,k]:=h;let hu:=fO hr;let sz:=cU;have jf:aP 1 _:=hr.mono (by decide);refine' #[_,?r0,?kk]
 case' r0=>refine' aw ?s1 ?r1
 case s1=>exact bo 3 IR.nd (jn (AZ U) (by rfl) B.dict uH %[kD ["hand"] 1 [] (dE (AA cH TW.cl jf (gd (pv 0) U))) (λfp s H=>gh (i:=0) (show (["hand"]:ae).Nodup by decide +kernel) U (Or.inl U)) (λfp s H=>mI) (λfp s H=>iC %[0,aD|0])|0])
 case' r1=>refine' aw ?s2 ?r2
 case' s2=>refine' Si (ed dH U ?i2 ?g2 (aF ?b2))
 case i2=>exact NG (IL (pv 1))
 case g2=>exact kz U (dG (cq 4 IR.nd) (dG (cq 2 IR.nd) iM))
 case b2=>exact uJ hu (pv 3) (pv 2) (bJ ie (jo hu (pv 3) (pv 2)) (i6 cW T.cl hr (pv 0) %[4|0])) U
 case r2=>exact aF (bx (pv 3))
 let nl:=Pl.Gd.gX;let h8:=Pl.Gd.h8;let#[dx,dw,dy,vs,di,h1,h2,h3,h4,h5,m1,m2,m3,m4,m5]:=id Pl.G.ex;let#[mh,d1,l2,d3,wQ,as,ef,w1,_]:=id h2.ex;have zE:(fq d1 l2 d3).lookup ("hands":Str)=none:=qa _ _ _ Z0 Z0 Z0;apply#[_,U,g,CG,dx,_,_,U,h1,T.cl,T.nW,x8 _ _ _,p,mh,_,U,w1,zE,p,hs,ts,di,U,h2,λlh eX=>?_];let#[s1,e1]:=aI (o:=.lst ((aO hs).map V.str)) eX;generalize upd H lh (.lst ((aO hs).map V.str))=H1 at s1 e1 ⊢;apply#[lh,U,#[_,.of e1],λD hD=>?_];apply kI (own:=1) (fv:=[]) (xs:=(aO hs).map V.str) U fY (λi out H'=>aa H1 H'/\H' D\.lst out/\kr K H' out (d_ ((aO hs).take i) λ_=>.int 0)) #[aa.new hD,az,.nil] (λi out H' _ ⟨sm,_,_⟩=>.of (sm _ _ e1)) (λout H5 ⟨sm,iX,pa⟩=>?_) (λi y out H' hy ⟨sm,dJ,pa⟩=>?_);rotate_left 1
 ·let#[n,hn,rfl]:=mG hy;have hi:i<(aO hs).length:=(b_.mp hn).1;apply#[_,U,U,λNx hN=>fV ?_];apply#[_,U,zl,λt ht=>?_];let s5:=aa.new (o:=.tup [.str n,.int 0]) ht;let lo:=bj pa;rw[mK,dR] at lo;apply#[out,s5 _ _ dJ,by omega,hN _ _ #[fR (sm.trans s5) hD,az,?_]];have D_:upd H' t (.tup [.str n,.int 0]) t\.tup [.str n,.int 0]:=az;have pD:∀{b:Addr} {ys:ai},upd H' t (.tup [.str n,.int 0]) b\.tup ys->b≠D:=λhb=>bK hb (s5 _ _ dJ) nofun;rw[uI hn];show kr K _ _ (((aO hs).take i++[n]).map _);rw[fg];exact gU (Paired.aU pa λy kv ⟨b,z,hb⟩=>#[b,z,by rw[ax (pD (s5 _ _ hb))];exact s5 _ _ hb]) (.cons #[t,U,by rw[ax (pD D_)];exact D_] .nil)
 rw[au,eI] at pa;apply#[D,out,_,U,iX,pa,by rw[mK];omega,λd2 hd2=>?_]
 have nV:((d_ (aO hs) λ_=>V.int 0).map (·.1)).Nodup:=by
  rw[BQ,qe,wL];exact Pl.Gd.r_.imp λn e=>n (iy e)
 rw[ya nV];let s2:=(s1.trans sm).trans (aa.new (o:=.dK (d_ (aO hs) λ_=>V.int 0)) hd2);have e2:upd H5 d2 (.dK (d_ (aO hs) λ_=>V.int 0)) d2\.dK (d_ (aO hs) λ_=>V.int 0):=az;have n2:H d2=none:=s1.free (sm.free hd2);show uZ _ _ _ _ (upd H5 d2 (.dK (d_ (aO hs) λ_=>V.int 0)));generalize upd H5 d2 (.dK (d_ (aO hs) λ_=>V.int 0))=H6 at s2 e2 ⊢;have NJ:d2≠d:=(bq Pl.hd n2).symm;apply#[d,_,s2 _ _ Pl.hd,?_];apply#[_,U,d,_,U,s2 _ _ Pl.hd,λv hv=>?_];let#[s3,xC]:=aI (o:=tK v d) hv;let e3:=s3 _ _ e2;let eV:=s2.trans s3;generalize upd H6 v (tK v d)=H7 at s3 xC e3 eV ⊢;apply#[v,d,_,U,xC,eV _ _ Pl.hd,λo=>?_];apply NL (λi σ H'=>∃(v2 v4:aE),σ=[some (.ref g),some (.ref d),v2,some (.ref d2),v4]/\Fz d o (fw (qs.map (·.1)) f) H H'/\H' d2\.dK (d_ (aO hs) λh=>.int (ld f ((qs.take i).map eF) h))) #[none,none,U,Fz.yA eV,by rw[ax NJ];exact e3] (λi σ H' _ ⟨_,_,_,z,_⟩=>z.at_) ?_ ?_
 ·rintro i ky x σ H8 hx ⟨v2,v4,rfl,fz,e8⟩ t ht;let#[n,hn,rfl,rfl]:=Mm hx
  have hi:i<qs.length:=by
   have:=(b_.mp hn).1;rwa [au] at this
  have hq:qs[i]? = some (qs[i]'hi):=aY hi
  have en:n=(qs[i]'hi).1:=by
   rw[dF,hq] at hn;exact (cu hn).symm
  have fm:f n∈aO hs:=(fE hs).mem_iff.mpr (Pl.at_ n (cz hn));generalize qs[i]'hi=q at hq en;let s8:=aa.new (o:=.tup [.str n,.str (f n)]) ht;let Aj:=fz.step s8;let e9:=s8 _ _ e8;have et:upd H8 t (.tup [.str n,.str (f n)]) t\.tup [.str n,.str (f n)]:=az;show gO _ _ _ _ _ (upd H8 t (.tup [.str n,.str (f n)])) _;generalize upd H8 t (.tup [.str n,.str (f n)])=H9 at s8 Aj e9 et ⊢;apply#[t,_,U,.of et,U,_,_,U,_,_,U,U,?_];let G9:=Aj.xQ Pl.hd Pl.G Pl.wa;let#[dx,dw,dy,vs,di,h1,h2,h3,h4,h5,m1,m2,m3,m4,m5]:=id G9.ex;have km:(cO p dw dy).lookup ("weight":Str)=none:=wF _ _ _ Z0 Z0 Z0;apply#[_,U,_,U,d2,.int (ld f ((qs.take i).map eF) (f n)),U,?_,_,U,g,dx,_,U,h1,km,_,U,g,p,.str n,some n,hs,ts,qs,fp,U,G9,Pl.nd,U,.inl #[q,cz hq,eG some en,?_]]
  ·rw[<- wz (g:=λh=>V.int (ld f ((qs.take i).map eF) h)) fm];exact .k (k:=Sum.inr (f n)) e9
  apply#[_,_,U,U,_,U,_,U,d2,_,U,.k (k:=Sum.inr (f n)) e9 (by rw[mK];omega),?_];apply#[_,_,U,Aj.put n2 NJ,?_];rw[az,Sh fm];congr 2;apply Jf λm _=>?_
  have e5:(qs.take (i+1)).map eF=(qs.take i).map eF++[eF q]:=by
   rw[tQ,hq,fg];rfl
  rw[e5,Sj];show (if m=f n then V.int (ld f ((qs.take i).map eF) (f n)+q.2.1) else V.int (ld f ((qs.take i).map eF) m))=V.int (if m=f q.1 then _ else _);rw[<- en];by_cases z:m=f n
  ·rw[aJ z,aJ z,z];rfl
  rw[aB z,aB z]
 rintro σ H8 ⟨v2,v4,rfl,fz,e8⟩;apply#[o,fz.at_,?_];rw[mK,au,eI] at e8;exact#[_,U,k d2 _ (fz.qj Pl.hd) n2 (by rw[ax NJ];exact e8)]
end
end Ev
namespace Ev
open PySem L2
structure Std (K:aj) (CG CW:Addr) (H:Hp) (g p d:Addr) (hs:Xa) (ts:Xb) (qs:aN) (fp:ao) (ns:ae) (f:bh):Prop where
 G:gA K CG CW H g p hs ts qs fp
 Gd:Good hs ts
 wa:d∉fp
 hd:H d\.dK (fw ns f)
 ok:Nu hs qs ns f
 nd:(qs.map (·.1)).Nodup
 cX:qs.length<64
 wp:∀q∈qs,0<=q.2.1
end Ev
namespace Ev
open PySem L2
theorem CZ{t u:TS}{D:Ends}{σ:St}{H:Hp}(R:mU)(later:∀σ H,R σ H->u D σ H)(now:∀N:St->Hp->Prop,(∀σ H,R σ H->N σ H)->t { D with nx:=N } σ H):uZ t u D σ H:=now (u D) later
structure j_ (P:Ad) (w:Af) (K:aj) (mg:Str->Option Aa) (base:Heap) (C:Addr) (k:Nat) (x:Str) (ps:ae) (sp:Sp):Prop where
 ex:∃f fd,aq P w K mg base a9 k f fd ps sp/\Mk K C f/\mg x\.ref C/\pX K fd ps []
theorem GP{n_:Nat}{X:Cx}{C:Addr}{k:Nat}{x:Str}{ps:ae}{sp:Sp}{p pos:Pos}{e:Expr}{es:List Expr}{t:TA}(c:j_ X.prog X.w X.K X.mg X.base C k x ps sp)(hr:aP n_ X.A)(ha:PA X (e::es) t)(hg:Gl X x:=by rfl)(sP:(x == ("__debug__":Str))=false:=by decide)
  (he:starEach (e::es) X.env=(false,eval e X.env)::starEach es X.env:=by rfl) (iq:(backTo pos (starEach es X.env)).any (·.1)=false:=by rfl) (hk:(k+1)<=n_:=by decide):PE X (.Call (.Name x p) (e::es) [] pos) (wX C sp [] E0 t):=by
 let#[f,fd,F,M,m,b]:=c.ex;exact Y6 M F (hr.mono hk) hg m b .nil nO ha sP he iq
end Ev
namespace L2
open PySem PySem.Spec PyProof.Rows PySem.W
section
variable{X:Cx}
inductive rQ (xs:ai) (H:Hp) (Q:VK):Prop
 |mk:∀a kvs,xs=[.ref a]->Rd H a (.dK kvs)->(∀p,H p=none->Q (.ref p) (upd H p (.dK kvs)))->rQ xs H Q
theorem fR_:gG X (.type "dict") rQ:=by
 intro pins s σ H xs us Q I r h;let#[a,kvs,rfl,hd,q]:=h;let#[u,rfl,ru]:=vals1 r;cases ru;exact hO_ I hd λp s' hp I'=>#[.ref p,_,I',U,q p hp]
inductive rM (K:aj) (x:V) (y:V) (H:Hp) (Q:VK):Prop
 |mk:∀a b xs,x=.ref a->y=.ref b->dZ K H a xs->dZ K H b []->Q (.bl (!xs.isEmpty)) H->rM K x y H Q
theorem MW(hu:X.A.units+0+1<cLine):dN X (compareOp .NotEq) (rM X.K):=by
 intro pins s σ H x y v u Q I rx ry h;let#[a,b,xs,rfl,rfl,t,t',hq]:=h;cases xs with
 |nil=>exact Yb ix hu pins s σ H (.ref a) (.ref b) v u Q I rx ry #[[],[],#[a,[],U,t,.nil],#[b,[],U,t',.nil],hq]
 |cons z zs=>
  cases rx;cases ry;let#[us,r,pl,_]:=I.list t;let#[vs,r',vp,_]:=I.list t';let l1:=r.length;let l2:=r'.length;exact Jp.gY pl.isList vp.isList (by simp only[cQ,bne_iff_ne];simp at l1 l2;omega) Z1 #[.bl true,H,I,U,hq]
end
end L2
namespace Ev
open PySem L2
theorem SC{A:Ag}{s:Ab}{ns:ae}{f g:bh}{vb:List (Key × Aa)}(rb:KV (fw ns g) vb):∀(ms:ae) (va:List (Key × Aa)),KV (fw ms f) va->(∀m∈ms,m∈ns)->PySem.W.KeqHits A s vb va (ms.all λn=>decide (f n=g n))
 |[],va,r,_=>by
  cases r;exact .nil
 |m::ms,va,r,h=>by
  cases r with
  |@cons _ q _ VJ h1 r=>
   let hm:=h m gB;let#[y,hy,ry]:=fe.some_of (v:=.str (g m)) (o:=valueAt vb (Sum.inr m)) (by rw[<- wz (g:=λn=>V.str (g n)) hm];exact rb.val _);let#[k,v]:=q;let#[e1,e2]:=h1;have e1:(Sum.inr m:Key)=k:=e1;subst e1;let#[t,rfl]:=(show ∃t,v=Value.str (f m) t from e2);let#[u,rfl]:=(show ∃t,y=Value.str (g m) t from ry);let q:=SeqAt.EqAt.str_str (A:=A) (s:=s) (f m) t (g m) u;rw[show (f m == g m)=decide (f m=g m) by by_cases z:f m=g m<;>simp[z]] at q
   exact .hit hy q (SC rb ms VJ r λx hx=>h x (fN _ hx))
def gM(a n:Int):Int:=a / (Int.gcd a n:Int) * n
theorem ZA{a n:Int}(ha:0<a)(hn:0<n):gM a n=(Int.lcm a n:Int):=by
 let#[p,rfl]:=AY (gS ha);let#[q,rfl]:=AY (gS hn);show ((p:Int) / ((Nat.gcd p q:Nat):Int)) * (q:Int)=((Nat.lcm p q:Nat):Int);rw[<- Int.natCast_ediv,<- Int.natCast_mul,Nat.div_mul_right_comm (Nat.gcd_dvd_left p q)];rfl
def jD(ns:List Int):Int:=ns.foldl gM 1
theorem IG:∀(ns:List Int) (a:Int),0<a->(∀n∈ns,0<n)->0<ns.foldl gM a/\∀x:Int,0<=x->(ns.foldl gM a ∣ x ↔ a ∣ x/\∀n∈ns,n ∣ x)
 |[],a,ha,_=>#[ha,λx _=>by simp]
 |n::ns,a,ha,h=>by
  let hn:=h n gB;let e:=ZA ha hn
  have p:0<gM a n:=by
   rw[e];have:=Nat.lcm_pos (m:=a.natAbs) (n:=n.natAbs) Z1 Z1;have:0<Int.lcm a n:=this;omega
  let#[h1,h2]:=IG ns (gM a n) p λm hm=>h m (fN _ hm);apply#[h1,λx hx=>(h2 x hx).trans ?_];let#[z,rfl]:=AY hx;rw[e,Int.natCast_dvd_natCast,Int.lcm_dvd_iff];constructor
  ·rintro⟨⟨q1,q2⟩,q3⟩
   exact#[q1,λm hm=>by
    rcases bW.mp hm with rfl|hm
    ·exact q2
    exact q3 m hm]
  rintro⟨q1,q2⟩;exact#[#[q1,q2 n gB],λm hm=>q2 m (fN _ hm)]
theorem MV{ns:List Int}(h:∀n∈ns,0<n):0<jD ns:=(IG ns 1 (by decide) h).1
theorem ZY{ns:List Int}(h:∀n∈ns,0<n){n:Int}(hn:n∈ns):n ∣ jD ns:=
 (((IG ns 1 (by decide) h).2 _ (gS (MV h))).mp (Int.dvd_refl _)).2 n hn
theorem Zz(f:bh)(x:Str × Int)(ws:Xa)(h:Str):ld f (x::ws) h=(if f x.1=h then x.2 else 0)+ld f ws h:=by
 unfold ld;by_cases e:f x.1=h
 ·simp[e]
 simp[e]
end Ev
namespace Ev
open PySem L2
theorem QF{f:bh}{h:Str}:∀{ws:Xa},(∀x∈ws,0<=x.2/\x.2<=1000000000)->ld f ws h<=1000000000 * ws.length
 |[],_=>by
  unfold ld;simp
 |x::ws,p=>by
  let h1:=p x gB;let h2:=QF (f:=f) (h:=h) (ws:=ws) λy hy=>p y (fN _ hy);rw[Zz,jr];by_cases z:f x.1=h
  ·rw[aJ z];omega
  rw[aB z];omega
def bP(hs:Xa):Int:=jD ((aO hs).map (strOf hs))
theorem wC{hs:Xa}{ts:Xb}(G:Good hs ts){n:Str}(h:n∈aO hs):1<=strOf hs n/\strOf hs n<=1000:=(G.ay _ (Jc ((fE hs).mem_iff.mp h))).2
section v
theorem u_:bN ["numbers","found","number"] ["numbers"] (aX J8):=bU
def CS(K:aj):Sp:=λvs H Q _=>∃(l:Addr) (ns:List Int),vs=[.ref l]/\dZ K H l (ns.map V.int)/\(∀n∈ns,1<=n/\n<=1000)/\Q (.int (jD ns)) H
theorem hJ_{ns:List Int}{i:Nat}{n:Int}(h:ns[i]? = some n):jD (ns.take (i+1))=gM (jD (ns.take i)) n:=by
 unfold jD;rw[tQ,h,List.foldl_append];rfl
theorem ez_{ns:List Int}{i:Nat}{y:V}(h:(ns.map V.int)[i]? = some y):∃n,ns[i]? = some n/\y=.int n:=by
 rw[dF] at h;cases e:ns[i]? with
 |none=>rw[e] at h;cases h
 |some n=>rw[e] at h;exact#[n,U,(cu h).symm]
theorem Yx{f:Addr}{fd:Ae}(F:br K "least_multiple" "least_multiple" J8 f fd)(cG:!bu 1 BB mr u6):!aq a9 2 f fd ["numbers"] (CS K):=by
 exists F.bT u_;let#[l,ns,rfl,hl,b,k]:=h;refine' #[_,aw ?s1 (aw ?s2 (aF ?s3)),?kk]
 case s1=>exact bo 1 u_.nd aD
 case s2=>exact ed dH U (dE (pv 0)) (cq 2 u_.nd) (aF (bo 1 u_.nd (bJ iB (bJ Fn (pv 1) (bg cG hr %[1,2|0])) (pv 2))))
 case s3=>exact bx (pv 1)
 apply#[_,U,l,U,#[_,hl],gi (K:=K) (a:=l) (xs:=ns.map V.int) (λi σ H'=>H'=H/\∃(v2:aE),σ=[some (.ref l),some (.int (jD (ns.take i))),v2]) #[U,none,U] (λi σ H' _ ⟨e,_⟩=>by rw[e];exact hl) ?_ ?_]
 ·rintro i y σ H' hy ⟨rfl,v2,rfl⟩;let#[n,hn,rfl]:=ez_ hy;let bn:=b n (cz hn)
  let p:=MV (ns:=ns.take i) λm hm=>by
   have:=b m (List.take_subset _ _ hm);omega
  apply#[_,U,_,U,_,U,_,_,U,gS p,by omega,_,_,U,U,YD Z1 bn.2,_,U,_,_,U,U,.inr #[by omega,by omega],U,some (.int n),?_];rw[hJ_ hn];rfl
 rintro σ H' ⟨rfl,v2,rfl⟩;apply#[_,U,?_];rw[au,eI];exact k
theorem yM:bN ["web"] ["web"] (aX rg):=bU
inductive Fg (K:aj) (C:Addr) (vs:ai) (H:Hp) (Q:VK) (E:XK):Prop
 |mk:∀(p:Addr) (hs:Xa) (ts:Xb) (fp:ao),vs=[.ref p]->hW K C H p hs ts fp->Good hs ts->(∀H',aa H H'->Q (.int (bP hs)) H')->Fg K C vs H Q E
theorem YS{f CW:Addr}{fd:Ae}(F:br K Bv Bv rg f fd)(TW:Txt K mg CW)(cL:!bu 2 "least_multiple" ["numbers"] (CS K))(cH:!bQ CW 1 "hands" pf (FA K CW))(cS:!bQ CW 2 "strength" wg (Ji K CW)):!aq a9 3 f fd ["web"] (Fg K CW):=by
 exists F.bT yM;let#[p,hs,ts,fp,rfl,W,G,k]:=h;let sz:=cU;let nl:=G.gX;let h8:=G.h8;refine' #[_,aF (bx (bg cL hr %[kD ["hand","web"] 1 [0] (dE (AA cH TW.cl (hr.mono (by decide)) (pv 0))) (λfp s H=>gh (i:=0) (show (["hand","web"]:ae).Nodup by decide +kernel) U (Or.inl U)) (λfp s H=>mI) (λfp s H=>?e1)|0])),?kk]
 case e1=>exact i6 cS TW.cl hr (pv 1) %[0|0]
 let#[mh,d1,l2,d3,wQ,as,ef,w1,_]:=id W.ex;apply#[_,U,p,mh,_,U,w1,qa _ _ _ Z0 Z0 Z0,p,hs,ts,fp,U,W,λlh eX=>?_];let#[s1,e1]:=aI (o:=.lst ((aO hs).map V.str)) eX;generalize upd H lh (.lst ((aO hs).map V.str))=H1 at s1 e1 ⊢;apply#[lh,U,#[_,.of e1],λD hD=>?_];apply kI (own:=1) (fv:=[some (.ref p)]) (xs:=(aO hs).map V.str) U fY (λi out H'=>aa H1 H'/\H' D\.lst out/\out=(((aO hs).take i).map (strOf hs)).map V.int) #[aa.new hD,az,U] (λi out H' _ ⟨sm,_,_⟩=>.of (sm _ _ e1)) (λout H5 ⟨sm,iX,eo⟩=>?_) (λi y out H' hy ⟨sm,dJ,eo⟩=>?_)
 ·rw[au,eI] at eo;rw[eo] at iX;apply#[D,_,U,.of iX,λn hn=>?_,k H5 (s1.trans sm)];let#[m,hm,rfl]:=bw.mp hn;exact wC G hm
 let#[n,hn,rfl]:=mG hy;have hi:i<(aO hs).length:=(b_.mp hn).1;apply#[_,U,U,λNx hN=>fV ?_];let W':=(W.same s1).same sm;let#[mh,d1,l2,d3,wQ,as,ef,w1,_]:=id W'.ex;apply#[_,U,p,mh,_,U,w1,qa _ _ _ Z0 Z0 Z0,_,U,p,n,strOf hs n,hs,ts,fp,U,W',G.o5,Jc ((fE hs).mem_iff.mp (cz hn)),?_];apply#[out,dJ,by rw[eo,au,au,dR];omega,hN _ _ #[fR sm hD,az,?_]];rw[uI hn,fg,fg,eo];rfl
theorem FS:bN ["goods","placed","multiple","found","hand","load"] oy (aX Nb):=bU
def d0(hs:Xa)(qs:aN)(f:bh)(h:Str):Int:=ld f (qs.map eF) h * (bP hs / strOf hs h)
inductive MZ (K:aj) (CG CW:Addr) (vs:ai) (H:Hp) (Q:VK) (E:XK):Prop
 |mk:∀(g p d:Addr) (hs:Xa) (ts:Xb) (qs:aN) (fp:ao) (f:bh),vs=[.ref g,.ref d]->BL K CG CW H g p d hs ts qs fp f->(∀q∈qs,0<=q.2.1/\q.2.1<=1000000000)->(∀d' H',aa H H'->H d'=none->H' d'\.dK (d_ (aO hs) λh=>.int (d0 hs qs f h))->Q (.ref d') H')->MZ K CG CW vs H Q E
theorem Br{qs:aN}(wp:∀q∈qs,0<=q.2.1/\q.2.1<=1000000000)(cX:qs.length<64)(f:bh)(h:Str):0<=ld f (qs.map eF) h/\ld f (qs.map eF) h<=64000000000:=by
 have p:∀x∈qs.map eF,0<=x.2/\x.2<=1000000000:=λx hx=>by
  let#[q,hq,rfl]:=bw.mp hx;exact wp q hq
 let h1:=QF (f:=f) (h:=h) p;rw[au] at h1;exact#[Yl λx hx=>(p x hx).1,by omega]
theorem hr_{f CG CW:Addr}{fd:Ae}(F:br K "levels_at" "levels_at" Nb f fd)(T:gf K CG)(TW:Txt K mg CW)(cL:!bu 3 "loads_at" oy (Ot K CG CW))(cM:!bu 3 Bv ["web"] (Fg K CW))(cS:!bQ CW 2 "strength" wg (Ji K CW)) :
  aq P w K mg base a9 4 f fd oy (MZ K CG CW):=by
 exists F.bT FS;let#[g,p,d,hs,ts,qs,fp,f,rfl,Pl,wp,k]:=h;let hu:=fO hr;let sz:=cU;have iT:aP 2 _:=hr.mono (by decide);refine' #[_,?r0,?kk]
 case' r0=>refine' aw ?s0 (aw ?s1 (aw ?s2 ?r2))
 case s0=>exact bo 2 FS.nd (bg cM hr %[gd (pv 0) U|0])
 case s1=>exact bo 3 FS.nd FO
 case' s2=>refine' ed dH U ?i2 ?g2 (aF ?b2)
 case i2=>exact NG (IL (bg cL hr %[0,1|0]))
 case g2=>exact kz U (dG (cq 4 FS.nd) (dG (cq 5 FS.nd) iM))
 case b2=>exact uJ hu (pv 3) (pv 4) (bJ iB (pv 5) (bJ Fn (pv 2) (i6 cS TW.cl iT (gd (pv 0) U) %[4|0]))) U
 case r2=>exact aF (bx (pv 3))
 let nl:=Pl.Gd.gX;let h8:=Pl.Gd.h8;let#[dx,dw,dy,vs,di,h1,h2,_]:=id Pl.G.ex;apply#[_,U,g,CG,dx,_,_,U,h1,T.cl,T.nW,x8 _ _ _,p,hs,ts,di,U,h2,Pl.Gd,λH0 s0=>?_];intro d2 hd2;let s1:=s0.trans (aa.new (o:=.dK []) hd2);have e1:upd H0 d2 (.dK []) d2\.dK []:=az;have n2:H d2=none:=s0.free hd2;show uZ _ _ _ _ (upd H0 d2 (.dK []));generalize upd H0 d2 (.dK [])=H1 at s1 e1 ⊢;have Pl1:BL K CG CW H1 g p d hs ts qs fp f:=#[Pl.G.same s1,Pl.Gd,Pl.wa,s1 _ _ Pl.hd,Pl.at_,Pl.nd,Pl.cX];apply#[_,U,_,U,g,p,d,hs,ts,qs,fp,f,U,Pl1,λdl H2 s2 G5 e2=>?_];apply#[dl,_,U,e2,λv hv=>?_];let#[s3,xC]:=aI (o:=tK v dl) hv;let e3:=s3 _ _ e2;let Kc:=s2.trans s3;generalize upd H2 v (tK v dl)=H3 at s3 xC e3 Kc ⊢;have Xu:H dl=none:=s1.free G5;have Uu:d2≠dl:=bq e1 G5;apply#[v,dl,_,U,xC,e3,λo=>?_];apply NL (λi σ H'=>∃(v4 v5:aE),σ=[some (.ref g),some (.ref d),some (.int (bP hs)),some (.ref d2),v4,v5]/\aa H H'/\H' dl\.frz o (.dK (Qy hs qs f))/\H' d2\.dK (d_ ((aO hs).take i) λh=>.int (d0 hs qs f h))) #[none,none,U,fR (s1.trans Kc) Xu,az,by rw[ax Uu];exact Kc _ _ e1] (λi σ H' _ ⟨_,_,_,_,z,_⟩=>z) ?_ ?_
 ·rintro i ky x σ H8 hx ⟨v4,v5,rfl,s8,f8,e8⟩ t ht;let#[n,hn,rfl,rfl]:=Mm hx;have hi:i<(aO hs).length:=(b_.mp hn).1;have nm:n∈hs.map (·.1):=(fE hs).mem_iff.mp (cz hn);let sm:=Jc nm;let sg:=wC Pl.Gd (cz hn);let lo:=Br wp Pl.cX f n;let ss:=aa.new (o:=.tup [.str n,.int (ld f (qs.map eF) n)]) ht;let s9:=s8.trans ss;let e9:=ss _ _ e8;let f9:=ss _ _ f8;have et:upd H8 t (.tup [.str n,.int (ld f (qs.map eF) n)]) t\.tup [.str n,.int (ld f (qs.map eF) n)]:=az;show gO _ _ _ _ _ (upd H8 t (.tup [.str n,.int (ld f (qs.map eF) n)])) _;generalize upd H8 t (.tup [.str n,.int (ld f (qs.map eF) n)])=H9 at ss s9 e9 f9 et ⊢;apply#[t,_,U,.of et,U,_,_,U,_,_,U,U,?_];let G9:=Pl.G.same s9;let#[dx,dw,dy,vs,di,h1,h2,h3,h4,h5,m1,m2,m3,m4,m5]:=id G9.ex;let#[mh,d1,l2,d3,wQ,as,ef,w1,_]:=id h2.ex;have zE:(fq d1 l2 d3).lookup ("strength":Str)=none:=qa _ _ _ Z0 Z0 Z0;apply#[_,U,_,U,_,U,g,CG,dx,_,_,U,h1,T.cl,T.nW,x8 _ _ _,p,mh,_,U,w1,zE,_,U,p,n,strOf hs n,hs,ts,di,U,h2,Pl.Gd.o5,sm,?_];apply#[_,_,U,U,#[by omega,by omega],_,_,U,U,.inl #[by omega,by omega],_,U,_,U,d2,_,U,.k (k:=Sum.inr n) e9 (by rw[mK,dR];omega),?_];apply#[_,_,U,fR s9 n2,by rw[ax Uu.symm];exact f9,?_];rw[az,uI hn,Rq (Tf Pl.Gd.r_ hn)];congr 2;apply Jf λm _=>?_;by_cases z:m=n
  ·subst z;simp[d0]
  simp[z]
 rintro σ H8 ⟨v4,v5,rfl,s8,f8,e8⟩;rw[mK,eI] at e8;exact#[_,U,k d2 H8 s8 n2 e8]
end
end Ev
namespace L2
open PySem PySem.Spec PyProof.Rows PySem.W
section
variable{prog:Ad}{w:Af}{A:Ag}
theorem TZ{d it:Addr}{vs:List (Key × Aa)}{ep:Nat}(hh:A.handled=none)(l5:d≠it):Walks prog w A it [it,d] [it] vs.length (λi v=>∃k,vs[i]? = some (k,v)) (λi h=>h.IsValIter it d i vs.length ep/\h.DictAt (ft prog w) d vs ep) where
 sub:=λb hb=>by simp at hb;simp[hb]
 frame:=λi h h' st k=>#[st.1.at λo e=>k it Z2 o e,by
  let#[o,es,ho,r]:=st.2;exact#[o,es,k d Z2 o ho,r]]
 item:=by
  intro i s Q E hi st h;obtain⟨⟨k,v⟩,hx⟩:∃p,vs[i]? = some p:=#[vs[i],by simp[hi]];apply wpAny_pyNext_values_item st.1 st.2 hx λh' fI sb=>?_;apply h v h' s.toks #[k,hx] #[fI,?_] λb o hb e=>(sb.2 b ⇑hb).trans e;let#[o,es,ho,r]:=st.2;exact#[o,es,(sb.2 d l5).trans ho,r]
 done:=by
  intro s Q E st h;exact wpAny_pyNext_values_end hh st.1 st.2 Z2 λh' eb=>h h' s.toks λb o hb e=>eb b o ⇑hb e
 self:=λ_ _ _ _ st h=>wpAny_pyIter_valiter st.1 h
end
theorem Ij{ns:List (Key × Int)}{vs:List (Key × Aa)}(r:KV (ns.map λx=>(x.1,V.int x.2)) vs){i:Nat}{k:Key}{v:Aa}(h:vs[i]? = some (k,v)):∃n t,(ns.map (·.2))[i]? = some n/\v=.int n t:=by
 let hl:=r.length;rw[au] at hl
 have hi:i<ns.length:=by
  have:=(b_.mp h).1;omega
 let#[u,hu,ru]:=Mf r i (k:=(ns[i]'hi).1) (x:=V.int (ns[i]'hi).2) (by rw[dF,aY hi];rfl);rw[h] at hu;let e:=eG Prod.snd (cu hu);let#[t,rfl]:=(show ∃t,u=Value.int (ns[i]'hi).2 t from ru);exact#[_,t,by rw[dF,aY hi];rfl,e]
inductive xk (xs:ai) (H:Hp) (Q:VK):Prop
 |mk:∀(v d:Addr) (ns:List (Key × Int)),xs=[.ref v]->H v\uG v d->Rd H d (.dK (ns.map λx=>(x.1,V.int x.2)))->0<ns.length->(∀m,m∈ns.map (·.2)->(∀a∈ns.map (·.2),a<=m)->Q (.int m) H)->xk xs H Q
inductive xj (xs:ai) (H:Hp) (Q:VK):Prop
 |mk:∀(v d:Addr) (ns:List (Key × Int)),xs=[.ref v]->H v\uG v d->Rd H d (.dK (ns.map λx=>(x.1,V.int x.2)))->0<ns.length->(∀m,m∈ns.map (·.2)->(∀a∈ns.map (·.2),m<=a)->Q (.int m) H)->xj xs H Q
theorem gU_{X:Cx}(hc:X.calm=true):gG X (.builtin "max") xk:=by
 intro pins s σ H xs us Q I r h;let#[v,d,ns,rfl,hv,hd,h0,q]:=h;let#[u,rfl,ru]:=vals1 r;cases ru;let#[z,l5,vs,rel,dd]:=jM I.ay hd;let#[ep,dat]:=dd.dictAt;let#[iv,_,_]:=I.ay v _ hv;let hl:=rel.length;rw[au] at hl
 have Fk:d<s.heap.objs.size:=by
  let#[o,es,ho,_]:=dat;exact bp ho
 apply call_max_walk (wpAny_pyIter_values (knd:=ft X.prog X.w) (kvs:=vs) (ep:=ep) iv dat ?_);apply⟨s.heap.objs.size,[s.heap.objs.size,d],[s.heap.objs.size],vs.length,λi v=>∃k,vs[i]? = some (k,v),_,_,rfl,TZ (ep:=ep) (I.ok.hd hc) (dC Fk),⟨⟨_,cy _ rfl,rfl,rfl⟩,?_⟩,λb hb=>?_,by omega,CmpOf.ints_gt (λi=>((ns.map (·.2))[i]?).getD 0) (λi v ⟨k,hv⟩=>?_),λv' h' tk hP k=>?_⟩
 ·let#[o,es,ho,r]:=dat;exact⟨o,es,aS _ ho,r⟩
 ·have hb:b=s.heap.objs.size∨b=d:=⇑hb
  show b<(s.heap.objs.push _).size;rw[Array.size_push];rcases hb with e|e
  ·rw[e];exact Nat.lt_succ_self _
  rw[e];exact Nat.lt_succ_of_lt Fk
 ·let#[n,t,e1,e2]:=Ij rel hv;apply⟨t,?_⟩;rw[e1];exact e2
 let#[k',D6]:=hP;let#[n,t,e1,rfl]:=Ij rel D6;let#[b1,b2]:=argBest_gt (λi=>((ns.map (·.2))[i]?).getD 0) (vs.length - 1);rw[e1] at b2;apply⟨.int n,H,I.kept (t':=tk) (λb o e=>k b o (λm=>?_) (aS _ e)),⟨t,rfl⟩,q n (cz e1) λa ha=>?_⟩
 ·have m:b=s.heap.objs.size:=⇑m
  exact absurd m (dC (bp e))
 let#[j,hj,ej]:=gJ ha;have:=b2 j (by rw[au] at hj;omega);rw[aY hj,ej] at this;exact this
theorem hp_{X:Cx}(hc:X.calm=true):gG X (.builtin "min") xj:=by
 intro pins s σ H xs us Q I r h;let#[v,d,ns,rfl,hv,hd,h0,q]:=h;let#[u,rfl,ru]:=vals1 r;cases ru;let#[z,l5,vs,rel,dd]:=jM I.ay hd;let#[ep,dat]:=dd.dictAt;let#[iv,_,_]:=I.ay v _ hv;let hl:=rel.length;rw[au] at hl
 have Fk:d<s.heap.objs.size:=by
  let#[o,es,ho,_]:=dat;exact bp ho
 apply call_min_walk (wpAny_pyIter_values (knd:=ft X.prog X.w) (kvs:=vs) (ep:=ep) iv dat ?_);apply⟨s.heap.objs.size,[s.heap.objs.size,d],[s.heap.objs.size],vs.length,λi v=>∃k,vs[i]? = some (k,v),_,_,rfl,TZ (ep:=ep) (I.ok.hd hc) (dC Fk),⟨⟨_,cy _ rfl,rfl,rfl⟩,?_⟩,λb hb=>?_,by omega,CmpOf.ints_lt (λi=>((ns.map (·.2))[i]?).getD 0) (λi v ⟨k,hv⟩=>?_),λv' h' tk hP k=>?_⟩
 ·let#[o,es,ho,r]:=dat;exact⟨o,es,aS _ ho,r⟩
 ·have hb:b=s.heap.objs.size∨b=d:=⇑hb
  show b<(s.heap.objs.push _).size;rw[Array.size_push];rcases hb with e|e
  ·rw[e];exact Nat.lt_succ_self _
  rw[e];exact Nat.lt_succ_of_lt Fk
 ·let#[n,t,e1,e2]:=Ij rel hv;apply⟨t,?_⟩;rw[e1];exact e2
 let#[k',D6]:=hP;let#[n,t,e1,rfl]:=Ij rel D6;let#[b1,b2]:=argBest_lt (λi=>((ns.map (·.2))[i]?).getD 0) (vs.length - 1);rw[e1] at b2;apply⟨.int n,H,I.kept (t':=tk) (λb o e=>k b o (λm=>?_) (aS _ e)),⟨t,rfl⟩,q n (cz e1) λa ha=>?_⟩
 ·have m:b=s.heap.objs.size:=⇑m
  exact absurd m (dC (bp e))
 let#[j,hj,ej]:=gJ ha;have:=b2 j (by rw[au] at hj;omega);rw[aY hj,ej] at this;exact this
end L2
namespace Jq
open PySem PySem.Spec PyProof.Rows PySem.W
section
variable{prog:Ad}{w:Af}{A:Ag}
theorem Tr{h:Heap}{S:Addr}{old new:ag}{n:Nat}(hS:h.get? S=some { cls:=.type "list",data:=.seq old.toArray n }):∃n',(h.update S (Obj.mapSeq λ_=>new.toArray)).get? S=some { cls:=.type "list",data:=.seq new.toArray n' }:=⟨_,get?_update_seq hS (λ_=>new.toArray)⟩
def Kp(it S:Addr)(h h':Heap):Prop:=∀b o,b≠it->b≠S->h.get? b\o->h'.get? b\o
end
end Jq
namespace L2
open PySem PySem.Spec PyProof.Rows PySem.W
end L2
namespace L2
open PySem PySem.Spec PyProof.Rows PySem.W
theorem SS{X:Cx}:dN X (binaryOp .FloorDiv) (rI (λ_ j=>0<j/\j<2 ^ 100) λi j=>.int (i / j)):=Bd λi j _ _ _ _ _ hc q=>by
 have h1:(0:Int)<j:=hc.1;have h2:j<2 ^ 100:=hc.2;apply floordiv_int Z1 (by rw[Int.fdiv_eq_ediv_of_nonneg i Z1];exact q) (.inl (PyProof.noPylong_of_log2 ?_));have:j.natAbs.log2<100:=(Nat.log2_lt Z1).mpr Z1;omega
end L2
namespace Ev
open PySem L2
theorem QU{La Lb Sa Sb ca cb M:Int}(h1:ca * Sa=M)(h2:cb * Sb=M):(La * Sb - Lb * Sa) * M=Sa * Sb * (La * ca - Lb * cb):=by
 have e1:La * Sb * M=Sa * Sb * (La * ca):=by rw[<- h1];grind
 have e2:Lb * Sa * M=Sa * Sb * (Lb * cb):=by rw[<- h2];grind
 rw[Int.sub_mul,Int.mul_sub,e1,e2]
end Ev
namespace Ev
open PySem L2
theorem Zw{a n:Int}(ha:0<a)(hn:0<n)(h2:n<=1000):gM a n<=a * 1000:=by
 unfold gM
 have g:0<(Int.gcd a n:Int):=by
  have:=Int.gcd_pos_of_ne_zero_right a (show n≠0 by omega);omega
 have k1:a / (Int.gcd a n:Int)<=a:=Int.ediv_le_self _ (gS ha);have k0:0<=a / (Int.gcd a n:Int):=Int.ediv_nonneg (gS ha) (gS g);exact Int.mul_le_mul k1 h2 (gS hn) (gS ha)
theorem Q_:∀(ns:List Int) (a:Int),0<a->(∀n∈ns,0<n/\n<=1000)->ns.foldl gM a<=a * 1000 ^ ns.length
 |[],a,_,_=>by simp
 |n::ns,a,ha,h=>by
  let hn:=h n gB
  have p:0<gM a n:=by
   have:=(IG [n] a ha ⇑(hn.1)).1;exact this
  let k1:=Q_ ns (gM a n) p λm hm=>h m (fN _ hm);let k2:=Zw ha hn.1 hn.2;have e:(0:Int)<=1000 ^ ns.length:=Int.pow_nonneg (by decide);rw[List.foldl_cons,jr,Int.pow_succ];apply Int.le_trans k1 ?_;have:=BX k2 e;have e2:a * 1000 * 1000 ^ ns.length=a * (1000 ^ ns.length * 1000):=by grind
  rw[e2] at this;exact this
theorem tI{hs:Xa}{ts:Xb}(G:Good hs ts):0<bP hs/\bP hs<2 ^ 100/\∀n∈aO hs,bP hs / strOf hs n * strOf hs n=bP hs:=by
 have pos:∀m∈(aO hs).map (strOf hs),0<m/\m<=1000:=λm hm=>by
  let#[x,hx,rfl]:=bw.mp hm;have:=wC G hx;omega
 have oW:∀m∈(aO hs).map (strOf hs),0<m:=λm hm=>(pos m hm).1;apply#[MV oW,?_,λn hn=>Int.ediv_mul_cancel (ZY oW (bw.mpr #[_,hn,U]))];let k:=Q_ _ 1 (by decide) pos;rw[au,G.gX,Int.one_mul] at k;let h8:=G.h8
 have k2:(1000:Int) ^ hs.length<=1000 ^ 8:=by
  have:(1000:Nat) ^ hs.length<=1000 ^ 8:=Nat.pow_le_pow_right (by decide) h8
  exact_mod_cast this
 have:bP hs<=1000 ^ 8:=Int.le_trans k k2;have e:(1000:Int) ^ 8<2 ^ 100:=by decide
 omega
theorem Yz{hs:Xa}{ts:Xb}(G:Good hs ts){qs:aN}(wp:∀q∈qs,0<=q.2.1/\q.2.1<=1000000000)(cX:qs.length<64){f:bh}{n:Str}(hn:n∈aO hs):0<=d0 hs qs f n:=
 Int.mul_nonneg (Br wp cX f n).1 (Int.ediv_nonneg (gS (tI G).1) (by have:=wC G hn;omega))
def jN(hs:Xa)(qs:aN)(f:bh)(r:Int):Prop:=∃x∈aO hs,∃y∈aO hs,r=d0 hs qs f x - d0 hs qs f y/\∀z∈aO hs,d0 hs qs f z<=d0 hs qs f x/\d0 hs qs f y<=d0 hs qs f z
section v
theorem qP:bN ["top","below","divisor"] ["top","below"] (aX rG):=bU
def lg:Sp:=λvs H Q _=>∃a b:Int,vs=[.int a,.int b]/\0<=a/\0<b/\b<2 ^ 100/\∀t,H t=none->Q (.ref t) (upd H t (.tup [.int (fr a b).1,.int (fr a b).2]))
theorem ZD{f:Addr}{fd:Ae}(F:br K "fraction_of" "fraction_of" rG f fd)(cG:!bu 1 BB mr u6):!aq a9 2 f fd ["top","below"] lg:=by
 exists F.bT qP;let#[a,b,rfl,ha,hb,md,k]:=h
 have g:0<(Int.gcd a b:Int)/\(Int.gcd a b:Int)<2 ^ 100:=by
  have h1:0<Int.gcd a b:=Int.gcd_pos_of_ne_zero_right a Z1;let h3:=Int.le_of_dvd hb (Int.gcd_dvd_right a b);omega
 apply#[_,aw (bo 2 qP.nd (bg cG hr %[0,1|0])) (aF (bx (iC %[bJ SS (pv 0) (pv 2),bJ SS (pv 1) (pv 2)|0]))),?_];apply#[_,U,_,U,a,b,U,ha,hb,?_];exact#[_,U,_,U,_,_,U,U,g,_,U,_,U,_,_,U,U,g,zl,k]
theorem qI:bN ["goods","placed","levels"] oy (aX qT):=bU
inductive HN (K:aj) (CG CW:Addr) (vs:ai) (H:Hp) (Q:VK) (E:XK):Prop
 |mk:∀(g p d:Addr) (hs:Xa) (ts:Xb) (qs:aN) (fp:ao) (f:bh),vs=[.ref g,.ref d]->BL K CG CW H g p d hs ts qs fp f->(∀q∈qs,0<=q.2.1/\q.2.1<=1000000000)->(∀r H',aa H H'->jN hs qs f r->Q (.int r) H')->HN K CG CW vs H Q E
theorem Ze{f CG CW:Addr}{fd:Ae}(F:br K "rise_at" "rise_at" qT f fd)(B:Bi mg)(zc:mg "min"=none)(cV:!bu 4 "levels_at" oy (MZ K CG CW)):!aq a9 5 f fd oy (HN K CG CW):=by
 exists F.bT qI;let#[g,p,d,hs,ts,qs,fp,f,rfl,Pl,wp,k]:=h;let nl:=Pl.Gd.gX;let h1:=Pl.Gd.h1;refine' #[_,aw ?s1 (aF ?s2),?kk]
 case s1=>exact bo 2 qI.nd (bg cV hr %[0,1|0])
 case s2=>exact bx (bJ BE (cZ (gU_ U) (by rfl) B.max PyProof.Rows.Boot.«max» %[N9 (pv 2)|0]) (cZ (hp_ U) (by rfl) zc PyProof.Rows.Boot.«min» %[N9 (pv 2)|0]))
 apply#[_,U,_,U,g,p,d,hs,ts,qs,fp,f,U,Pl,wp,λdv H1 s1 n1 e1=>?_]
 have em:((aO hs).map λh=>((Sum.inr h:Key),d0 hs qs f h)).map (·.2)=(aO hs).map (d0 hs qs f):=by
  rw[cY];rfl
 have MI:d_ (aO hs) (λh=>V.int (d0 hs qs f h))=((aO hs).map λh=>((Sum.inr h:Key),d0 hs qs f h)).map λx=>(x.1,V.int x.2):=by
  rw[cY];rfl
 rw[MI] at e1;apply#[_,U,dv,_,U,e1,λv hv=>?_];let#[s2,ev]:=aI (o:=uG v dv) hv;generalize upd H1 v (uG v dv)=H2 at s2 ev ⊢;apply#[v,dv,(aO hs).map λh=>((Sum.inr h:Key),d0 hs qs f h),U,ev,.of (s2 _ _ e1),by rw[au];omega,λm hm mx=>?_];rw[em] at hm mx;apply#[_,U,dv,_,U,s2 _ _ e1,λv2 _U=>?_];let#[s3,SZ]:=aI (o:=uG v2 dv) _U;generalize upd H2 v2 (uG v2 dv)=H3 at s3 SZ ⊢;apply#[v2,dv,(aO hs).map λh=>((Sum.inr h:Key),d0 hs qs f h),U,SZ,.of (s3 _ _ (s2 _ _ e1)),by rw[au];omega,λm2 Ru mn=>?_];rw[em] at Ru mn;let#[x,hx,rfl]:=bw.mp hm;let#[y,hy,rfl]:=bw.mp Ru;exact#[_,_,U,U,k _ H3 (s1.trans (s2.trans s3)) #[x,hx,y,hy,U,λz hz=>#[mx _ (bw.mpr #[z,hz,U]),mn _ (bw.mpr #[z,hz,U])]]]
theorem eo':bN oy oy (aX Oq):=bU
inductive NU (K:aj) (CG CW:Addr) (vs:ai) (H:Hp) (Q:VK) (E:XK):Prop
 |mk:∀(g p d:Addr) (hs:Xa) (ts:Xb) (qs:aN) (fp:ao) (f:bh),vs=[.ref g,.ref d]->BL K CG CW H g p d hs ts qs fp f->(∀q∈qs,0<=q.2.1/\q.2.1<=1000000000)->(∀t r H',aa H H'->jN hs qs f r->H' t\.tup [.int (fr r (bP hs)).1,.int (fr r (bP hs)).2]->Q (.ref t) H')->NU K CG CW vs H Q E
theorem eg_{f CG CW:Addr}{fd:Ae}(F:br K "spread_at" "spread_at" Oq f fd)(T:gf K CG)(cR:!bu 5 "rise_at" oy (HN K CG CW))(cM:!bu 3 Bv ["web"] (Fg K CW))(cF:!bu 2 "fraction_of" ["top","below"] lg):!aq a9 6 f fd oy (NU K CG CW):=by
 apply F.bT eo' λaM A outer s H vs Q E hr h=>?_;let#[g,p,d,hs,ts,qs,fp,f,rfl,Pl,wp,k]:=h;let mo:=tI Pl.Gd;apply#[_,aF (bx (bg cF hr %[bg cR hr %[0,1|0],bg cM hr %[gd (pv 0) U|0]|0])),?_];apply#[_,U,_,U,g,p,d,hs,ts,qs,fp,f,U,Pl,wp,λr H1 s1 ir=>?_];let G1:=Pl.G.same s1;let#[dx,dw,dy,vs,di,h1,h2,_]:=id G1.ex;apply#[_,U,g,CG,dx,_,_,U,h1,T.cl,T.nW,x8 _ _ _,p,hs,ts,di,U,h2,Pl.Gd,λH2 s2=>?_]
 have r0:0<=r:=by
  let#[x,hx,y,hy,rfl,b]:=ir;have:=(b y hy).1;omega
 exact#[r,bP hs,U,r0,mo.1,mo.2.1,λt ht=>k t r _ ((s1.trans s2).trans (aa.new ht)) ir az]
end
end Ev
namespace dO
open PySem PySem.W PyProof.Rows
section
variable{prog:Ad}{w:Af}{A:Ag}{E:Aa->Ab->Prop}{s:Ab}
inductive Src (h:Heap) (it l:Addr) (i:Nat) (xs:Array Aa):Prop
 |lst (a:h.IsListIter it l i) (b:h.IsList l xs):Src h it l i xs
 |tup (a:h.IsTupleIter it l i) (b:h.IsTuple l xs):Src h it l i xs
theorem Src.keep{h h':Heap}{it l:Addr}{i:Nat}{xs:Array Aa}(x:Src h it l i xs)(k1:∀o,h.get? it\o->h'.get? it\o)(k2:∀o,h.get? l\o->h'.get? l\o):Src h' it l i xs:=by
 cases x with
 |lst a b=>exact .lst (a.at k1) (b.at k2)
 |tup a b=>exact .tup (a.at k1) (by let#[o,e,r]:=b;exact#[o,k2 o e,r])
theorem oA{h:Heap}{l:Addr}{xs ys:Array Aa}(a:h.IsList l xs)(b:h.IsTuple l ys):False:=by
 let#[o,e,c,_]:=a;let#[u,f,d,_]:=b;rw[e] at f;cases f;rw[c] at d;simp at d
theorem Src.QS{h:Heap}{it l:Addr}{i:Nat}{xs ys:Array Aa}(x:Src h it l i xs)(b:h.IsList l ys):h.IsListIter it l i:=by
 cases x with
 |lst a _=>exact a
 |tup _ c=>exact (oA b c).elim
theorem Src.xx{h:Heap}{it l:Addr}{i:Nat}{xs ys:Array Aa}(x:Src h it l i xs)(b:h.IsTuple l ys):h.IsTupleIter it l i:=by
 cases x with
 |tup a _=>exact a
 |lst _ c=>exact (oA c b).elim
theorem Src.lt{h:Heap}{it l:Addr}{i:Nat}{xs:Array Aa}(x:Src h it l i xs):it<h.objs.size/\l<h.objs.size:=by
 cases x with
 |lst a b=>let#[o,e,_]:=a;let#[u,f,_]:=b;exact#[bp e,bp f]
 |tup a b=>let#[o,e,_]:=a;let#[u,f,_]:=b;exact#[bp e,bp f]
theorem nextT{it t:Addr}{i:Nat}{xs:Array Aa}{x:Aa}{Q:Aa->Ab->Prop}(hit:s.heap.IsTupleIter it t i)(ht:s.heap.IsTuple t xs)(hx:xs[i]? = some x)
  (hQ:∀h',h'.IsTupleIter it t (i+1)->Heap.SameBut it s.heap h'->Q x { s with heap:=h' }):wpAny (model prog w) A (Builtin.SmallTypes.nextOf (.ref it)) Q E s:=by
 let#[o,ho,hc,hd]:=id hit;let#[u,hu,_,n,hv]:=ht;unfold Builtin.SmallTypes.nextOf;apply af (uC (name:=Str.ofString "__next__") hit.typeIs F.slot_tuple_iterator_next (s_ F.slot_tuple_iterator_next hit.typeIs F.entry_tuple_iterator_next ?_ (F.args_tuple_iterator_next_1 _)));apply (show wpAny _ _ (field (.ref it) 0 >>= _) _ _ s from af (fM ho hd (x:=.ref t) U ?_));apply (show wpAny _ _ (if (Value.ref t == Value.none)=true then _ else _) _ _ s from ?_);rw[aB (show ¬((Value.ref t == Value.none)=true) from gc)];apply (show wpAny _ _ (field (.ref it) 1 >>= _) _ _ s from af (fM ho hd (x:=.int i 0) U ?_));apply (show wpAny _ _ (seqItems? (.ref t) >>= _) _ _ s from af (jL hu hv ?_));simp only[yf,hx];apply af (wpAny_setField ho hd Z2 (aC #[x,U,aC (hQ _ #[_,Heap.get?_update_self _ ho (Obj.isFreed_of_fields (Obj.data_mapFields hd _)),(Obj.cls_mapFields ..).trans hc,?_] (Heap.SameBut.update ..))]));rw[Obj.data_mapFields hd];simp[rawInt]
theorem Src.next{it l:Addr}{i:Nat}{xs:Array Aa}{x:Aa}{Q:Aa->Ab->Prop}(z:Src s.heap it l i xs)(ne:l≠it)(hx:xs[i]? = some x)
  (hQ:∀h',Src h' it l (i+1) xs->Heap.SameBut it s.heap h'->Q x { s with heap:=h' }):wpAny (model prog w) A (Builtin.SmallTypes.nextOf (.ref it)) Q E s:=by
 cases z with
 |lst a b=>exact wpAny_nextOf_list_item a b hx λh' a' sb=>hQ h' (.lst a' (b.extBut sb.extBut ne)) sb
 |tup a b=>exact nextT a b hx λh' a' sb=>hQ h' (.tup a' (b.extBut sb.extBut ne)) sb
abbrev Zp(h:Heap)(z TI TO:Addr)(f0:Aa)(f1:Bool):Prop:=h.get? z=some { cls:=.type "zip",dict:=none,data:=.fields (List.toArray [f0,.bool f1,.bool false,.ref TI,.ref TO]),slots:=#[] }
abbrev fj(h:Heap)(T:Addr)(xs:Array Aa):Prop:=h.get? T=some { cls:=.type "tuple",data:=.seq xs }
theorem FE{T:Addr}{xs:Array Aa}{x:Aa}{k:Nat}{Q:Unit->Ab->Prop}(hT:fj s.heap T xs)(h3:xs.size<=3)(h:∀h',fj h' T (xs.setIfInBounds k x)->Heap.SameBut T s.heap h'->Q () { s with heap:=h' }):wpAny (model prog w) A (updateSeq T (·.setIfInBounds k x)) Q E s:=by
 apply wpAny_updateSeq hT U (h _ ?_ (Heap.SameBut.update ..)) (hz:=gm h3 (by decide)) (_hz':=by rw[Array.size_setIfInBounds];exact gm h3 (by decide));show Heap.get? _ _=_;rw[Heap.get?_update_self _ hT U];simp[Obj.mapSeq]
structure oC (h:Heap) (z TI TO i1 i2 i3 l1 l2 l3:Addr) (k:Nat) (xs ys zs:Array Aa):Prop where
 nd:[z,TO,i1,i2,i3].Nodup
 ti:TI∉[z,TO,i1,i2,i3]
 ls:∀l∈[l1,l2,l3],l∉[z,TO,i1,i2,i3]
 hI:fj h TI (List.toArray [.ref i1,.ref i2,.ref i3])
 hO:∃a b c,fj h TO (List.toArray [a,b,c])
 s1:Src h i1 l1 k xs
 s2:Src h i2 l2 k ys
 s3:Src h i3 l3 k zs
theorem gg_{z TI TO i1 i2 i3 l1 l2 l3:Addr}{k:Nat}{xs ys zs:Array Aa}{x y v:Aa}{Q:Aa->Ab->Prop}(D:oC s.heap z TI TO i1 i2 i3 l1 l2 l3 k xs ys zs)(hz:Zp s.heap z TI TO .none false)(hx:xs[k]? = some x)(hy:ys[k]? = some y)(hv:zs[k]? = some v)
  (hQ:∀h',Zp h' z TI TO (rawInt s.heap.objs.size) false->oC h' z TI TO i1 i2 i3 l1 l2 l3 (k+1) xs ys zs->fj h' s.heap.objs.size (List.toArray [x,y,v])->(∀c o,c∉[z,TO,i1,i2,i3]->s.heap.get? c\o->h'.get? c\o)->Q (.ref s.heap.objs.size) { s with heap:=h' }) :
  wpAny (model prog w) A (Builtin.«zip.__next__» #[[.ref z],[]]) (λfin s'=>∃v,fin=.done (.ret v)/\Q v s') E s:=by
 let#[nd,ti,ls,hI,#[a,b,c,hO],s1,s2,s3]:=D;simp only[jq,bW,gK,or_false,not_or,not_false_eq_true,List.nodup_nil,and_true] at nd ti ls;let#[#[zO,z1,z2,z3],#[O1,O2,O3],#[sf,Dw],n23]:=nd;let L1:=ls l1 (.inl U);let L2:=ls l2 (.inr (.inl U));let L3:=ls l3 (.inr (.inr U));apply (show wpAny _ _ (field (.ref z) 2 >>= _) _ _ _ from af (fM hz U (x:=.bool false) U ?_));apply (show wpAny _ _ (field (.ref z) 3 >>= _) _ _ _ from af (fM hz U (x:=.ref TI) U ?_));apply af (jL hI U ?_);apply (show wpAny _ _ (Builtin.SmallTypes.ownedTupleIsFree (.ref z) >>= _) _ _ _ from af ?_);unfold Builtin.SmallTypes.ownedTupleIsFree;apply af (fM hz U (x:=.none) U (aC ?_));simp only[if_true];apply af (wpAny_rule (af (fM hz U (x:=.ref TO) U (af (p7 hz Z2 λh1 iH e1=>af ?_)))));replace iH:Zp h1 z TI TO .ellipsis false:=iH;have LZ:fj h1 TO (List.toArray [a,b,c]):=e1.extBut _ _ (bG zO) hO;let s1:=s1.keep (e1.extBut _ · (bG z1)) (e1.extBut _ · L1.1);let s2:=s2.keep (e1.extBut _ · (bG z2)) (e1.extBut _ · L2.1);let s3:=s3.keep (e1.extBut _ · (bG z3)) (e1.extBut _ · L3.1);simp only[List.zipIdx_cons,List.zipIdx_nil,qb,uS];apply af (af (wpAny_onRaise (show wpAny _ _ (Builtin.SmallTypes.nextOf (.ref i1) >>= _) _ _ _ from af (s1.next L1.2.2.1 hx λh2 s1 e2=>aC ?_))));have EW:fj h2 TO (List.toArray [a,b,c]):=e2.extBut _ _ O1 LZ;let s2:=s2.keep (e2.extBut _ · (bG sf)) (e2.extBut _ · L2.2.2.1);let s3:=s3.keep (e2.extBut _ · (bG Dw)) (e2.extBut _ · L3.2.2.1);apply af (jL EW U (af (FE EW (bc 3) λh3 z_ e3=>af (wpAny_letGo (aC ?_)))));replace z_:fj h3 TO (List.toArray [x,b,c]):=z_;let s1:=s1.keep (e3.extBut _ · (bG O1)) (e3.extBut _ · L1.2.1);let s2:=s2.keep (e3.extBut _ · (bG O2)) (e3.extBut _ · L2.2.1);let s3:=s3.keep (e3.extBut _ · (bG O3)) (e3.extBut _ · L3.2.1);apply af (af (wpAny_onRaise (show wpAny _ _ (Builtin.SmallTypes.nextOf (.ref i2) >>= _) _ _ _ from af (s2.next L2.2.2.2.1 hy λh4 s2 e4=>aC ?_))));have EV:fj h4 TO (List.toArray [x,b,c]):=e4.extBut _ _ O2 z_;let s1:=s1.keep (e4.extBut _ · sf) (e4.extBut _ · L1.2.2.2.1);let s3:=s3.keep (e4.extBut _ · (bG n23)) (e4.extBut _ · L3.2.2.2.1);apply af (jL EV U (af (FE EV (bc 3) λh5 LY e5=>af (wpAny_letGo (aC ?_)))));replace LY:fj h5 TO (List.toArray [x,y,c]):=LY;let s1:=s1.keep (e5.extBut _ · (bG O1)) (e5.extBut _ · L1.2.1);let s2:=s2.keep (e5.extBut _ · (bG O2)) (e5.extBut _ · L2.2.1);let s3:=s3.keep (e5.extBut _ · (bG O3)) (e5.extBut _ · L3.2.1);apply af (af (wpAny_onRaise (show wpAny _ _ (Builtin.SmallTypes.nextOf (.ref i3) >>= _) _ _ _ from af (s3.next L3.2.2.2.2 hv λh6 s3 e6=>aC ?_))));have RS:fj h6 TO (List.toArray [x,y,c]):=e6.extBut _ _ O3 LY;let s1:=s1.keep (e6.extBut _ · Dw) (e6.extBut _ · L1.2.2.2.2);let s2:=s2.keep (e6.extBut _ · n23) (e6.extBut _ · L2.2.2.2.2);apply af (jL RS U (af (FE RS (bc 3) λh7 vS e7=>af (wpAny_letGo (aC (aC ?_))))));replace vS:fj h7 TO (List.toArray [x,y,v]):=vS;let s1:=s1.keep (e7.extBut _ · (bG O1)) (e7.extBut _ · L1.2.1);let s2:=s2.keep (e7.extBut _ · (bG O2)) (e7.extBut _ · L2.2.1);let s3:=s3.keep (e7.extBut _ · (bG O3)) (e7.extBut _ · L3.2.1);have all:∀{c o},c≠TO->c≠i1->c≠i2->c≠i3->h1.get? c\o->h7.get? c\o:=λc2 c3 c4 c5 q=>e7.extBut _ _ c2 (e6.extBut _ _ c5 (e5.extBut _ _ c2 (e4.extBut _ _ c4 (e3.extBut _ _ c2 (e2.extBut _ _ c3 q)))));have zx:Zp h7 z TI TO .ellipsis false:=all zO z1 z2 z3 iH;have L0:fj h7 TI (List.toArray [.ref i1,.ref i2,.ref i3]):=all ti.2.1 ti.2.2.1 ti.2.2.2.1 ti.2.2.2.2 (e1.extBut _ _ ti.1 hI);have sz:h7.objs.size=s.heap.objs.size:=by rw[e7.1,e6.1,e5.1,e4.1,e3.1,e2.1,e1.1]
 apply af (jL vS U (af (wpAny_newTuple ?_)));apply (show wpAny _ _ (Builtin.SmallTypes.ownedTupleHandOut (.ref z) (.ref h7.objs.size) >>= _) _ _ _ from af ?_);unfold Builtin.SmallTypes.ownedTupleHandOut;have K3:Zp (h7.push { cls:=.type "tuple",data:=.seq (List.toArray [x,y,v]) }) z TI TO .ellipsis false:=aS _ zx;apply af (p7 K3 Z2 λh9 K2 e9=>p7 (show Zp h9 z TI TO (rawInt h7.objs.size) false from K2) Z2 λhA vI eA=>aC #[_,U,?_]);have up:∀{c o},c≠z->h7.get? c\o->hA.get? c\o:=λc1 q=>eA.extBut _ _ c1 (e9.extBut _ _ c1 (aS _ q));have hT:fj hA h7.objs.size (List.toArray [x,y,v]):=eA.extBut _ _ (i_ (bp zx)) (e9.extBut _ _ (i_ (bp zx)) (cy _ U));show Q (.ref h7.objs.size) _;rw[sz] at hT ⊢;have vI:Zp hA z TI TO (rawInt h7.objs.size) false:=vI;rw[sz] at vI;apply hQ hA vI #[?_,?_,?_,up ti.1 L0,#[_,_,_,up (bG zO) vS],s1.keep (λ_=>up (bG z1)) (λ_=>up L1.1),s2.keep (λ_=>up (bG z2)) (λ_=>up L2.1),s3.keep (λ_=>up (bG z3)) (λ_=>up L3.1)] hT λc o hc q=>?_
 ·simp[zO,z1,z2,z3,O1,O2,O3,sf,Dw,n23]
 ·simp[ti]
 ·simpa using ls
 simp only[bW,gK,or_false,not_or] at hc;exact up hc.1 (all hc.2.1 hc.2.2.1 hc.2.2.2.1 hc.2.2.2.2 (e1.extBut _ _ hc.1 q))
end
end dO
namespace dO
open PySem PySem.W PyProof.Rows
section
variable{prog:Ad}{w:Af}{A:Ag}{E:Aa->Ab->Prop}{s:Ab}
theorem ended{it l:Addr}{i:Nat}{xs:Array Aa}{Q:Aa->Ab->Prop}(hh:A.handled=none)(a:s.heap.IsListIter it l i)(b:s.heap.IsList l xs)(hx:xs[i]? = none)
  (hE:∀h' e,Heap.ExtBut it s.heap h'->(∃o,h'.get? e\o/\o.cls=.type "StopIteration")->E (.ref e) { s with heap:=h' }):wpAny (model prog w) A (Builtin.SmallTypes.nextOf (.ref it)) Q E s:=wpAny_nextOf_list_end hh a b hx hE
theorem _T{z TI TO i1 i2 i3 l1:Addr}{k:Nat}{xs:Array Aa}{Q:Fin->Ab->Prop}(hh:A.handled=none)(n1:i1≠z)(n2:l1≠z)(hI:fj s.heap TI (List.toArray [.ref i1,.ref i2,.ref i3]))(a1:s.heap.IsListIter i1 l1 k)(b1:s.heap.IsList l1 xs)(hz:Zp s.heap z TI TO .none false)(hx:xs[k]? = none)
  (hE:∀h' e,(∀c o,c≠z->c≠i1->s.heap.get? c\o->h'.get? c\o)->(∃o,h'.get? e\o/\o.cls=.type "StopIteration")->E (.ref e) { s with heap:=h' }):wpAny (model prog w) A (Builtin.«zip.__next__» #[[.ref z],[]]) Q E s:=by
 apply (show wpAny _ _ (field (.ref z) 2 >>= _) _ _ _ from af (fM hz U (x:=.bool false) U ?_));apply (show wpAny _ _ (field (.ref z) 3 >>= _) _ _ _ from af (fM hz U (x:=.ref TI) U ?_));apply af (jL hI U ?_);apply (show wpAny _ _ (Builtin.SmallTypes.ownedTupleIsFree (.ref z) >>= _) _ _ _ from af ?_);unfold Builtin.SmallTypes.ownedTupleIsFree;apply af (fM hz U (x:=.none) U (aC ?_));simp only[if_true];apply af (wpAny_rule (af (fM hz U (x:=.ref TO) U (af (p7 hz Z2 λh1 iH e1=>af ?_)))));replace iH:Zp h1 z TI TO .ellipsis false:=iH;simp only[List.zipIdx_cons,List.zipIdx_nil,qb,uS];apply af (af (wpAny_onRaise (show wpAny _ _ (Builtin.SmallTypes.nextOf (.ref i1) >>= _) _ _ _ from af (ended hh (a1.extBut e1.extBut n1) (b1.extBut e1.extBut n2) hx λh2 e e2 he=>?_))));let#[oe,zC,EJ]:=he;have D5:Zp h2 z TI TO .ellipsis false:=e2 _ _ (bG n1) iH;have LC:e≠z:=λx=>by subst x;rw[D5] at zC;cases zC;simp at EJ
 exact p7 D5 Z2 λh3 _ e3=>hE h3 e (λc o c1 c3 x=>e3.extBut _ _ c1 (e2 _ _ c3 (e1.extBut _ _ c1 x))) #[oe,e3.extBut _ _ LC zC,EJ]
theorem hq_{z TI TO i1 i2 i3 l1 l2 l3:Addr}{k:Nat}{xs ys zs:Array Aa}{x y v:Aa}{Q:Option Aa->Ab->Prop}(D:oC s.heap z TI TO i1 i2 i3 l1 l2 l3 k xs ys zs)(hz:Zp s.heap z TI TO .none false)(hx:xs[k]? = some x)(hy:ys[k]? = some y)(hv:zs[k]? = some v)
  (hQ:∀h',Zp h' z TI TO (rawInt s.heap.objs.size) false->oC h' z TI TO i1 i2 i3 l1 l2 l3 (k+1) xs ys zs->fj h' s.heap.objs.size (List.toArray [x,y,v])->(∀c o,c∉[z,TO,i1,i2,i3]->s.heap.get? c\o->h'.get? c\o)->Q (some (.ref s.heap.objs.size)) { s with heap:=h' }) :
  wpAny (model prog w) A (pyNext (.ref z)) Q E s:=by
 have hT:s.TypeIs (.ref z) "zip":=#[_,hz,U];unfold pyNext;exact af (wpAny_attempt (uC (name:=Str.ofString "__next__") hT F.slot_zip_next (s_ F.slot_zip_next hT F.entry_zip_next (gg_ D hz hx hy hv λh' a1 a2 a3 a4=>aC (hQ h' a1 a2 a3 a4)) (F.args_zip_next_1 _))))
theorem dA_{z TI TO i1 i2 i3 l1:Addr}{k:Nat}{xs:Array Aa}{Q:Option Aa->Ab->Prop}(hh:A.handled=none)(n1:i1≠z)(n2:l1≠z)(hI:fj s.heap TI (List.toArray [.ref i1,.ref i2,.ref i3]))(a1:s.heap.IsListIter i1 l1 k)(b1:s.heap.IsList l1 xs)(hz:Zp s.heap z TI TO .none false)(hx:xs[k]? = none)
  (hQ:∀h',(∀c o,c≠z->c≠i1->s.heap.get? c\o->h'.get? c\o)->Q none { s with heap:=h' }):wpAny (model prog w) A (pyNext (.ref z)) Q E s:=by
 have hT:s.TypeIs (.ref z) "zip":=#[_,hz,U];unfold pyNext;apply af (wpAny_attempt (uC (name:=Str.ofString "__next__") hT F.slot_zip_next (s_ F.slot_zip_next hT F.entry_zip_next (_T hh n1 n2 hI a1 b1 hz hx λh' e hk he=>?_) (F.args_zip_next_1 _))));let#[o,ho,hc]:=he;exact af (wpAny_isInstance (T:="StopIteration") (b:=true) #[o,ho,hc] isSubtype_stop (aC (hQ _ hk)))
theorem dy_(a b c:Aa):checkTypeCall "zip" #[[a,b,c],[]]=pure ():=by kernel_rfl
theorem dN_(a b c:Aa):checkBuiltinCall "zip.__new__" #[[.type "zip",a,b,c],[]]=pure ():=by kernel_rfl
theorem fE_(a b c d:Aa):argsOk "object.__init__" #[[a,b,c,d],[]]:=by
 unfold argsOk;rw[signature?_of (id:="object.__init__") (n:=['_','_','t','i','n','i','_','_']) (o:=['t','c','e','j','b','o']) (by kernel_rfl) F.owner_object];kernel_rfl
abbrev m_(h:Heap)(l:Addr):Heap:=h.push { cls:=.type "list_iterator",data:=.fields (List.toArray [.ref l,.int 0 0]) }
abbrev oM(h:Heap)(l:Addr):Heap:=h.push { cls:=.type "tuple_iterator",data:=.fields (List.toArray [.ref l,.int 0 0]) }
abbrev Cb(h:Heap)(l1 l2 l3:Addr):Heap:=oM (oM (m_ h l1) l2) l3
abbrev Ca(h:Heap)(l1 l2 l3:Addr):Heap:=(Cb h l1 l2 l3).push { cls:=.type "tuple",data:=.seq (List.toArray [.ref h.objs.size,.ref (m_ h l1).objs.size,.ref (oM (m_ h l1) l2).objs.size]) }
abbrev B_(h:Heap)(l1 l2 l3:Addr):Heap:=(Ca h l1 l2 l3).push { cls:=.type "tuple",data:=.seq (List.toArray [.none,.none,.none]) }
abbrev ym(h:Heap)(l1 l2 l3:Addr):Heap:=(B_ h l1 l2 l3).push { cls:=.type "zip",data:=.fields (List.toArray [.none,.bool false,.bool false,.ref (Cb h l1 l2 l3).objs.size,.ref (Ca h l1 l2 l3).objs.size]) }
theorem ft_(l1 l2 l3:Addr)(xs ys zs:Array Aa):Meets (Builtin.«zip.__new__» #[[.type "zip",.ref l1,.ref l2,.ref l3],[]]) (λ_ R s=>s.heap.IsList l1 xs/\s.heap.IsTuple l2 ys/\s.heap.IsTuple l3 zs /\
   R (.ok (.ret (.ref (B_ s.heap l1 l2 l3).objs.size))) { s with heap:=ym s.heap l1 l2 l3 }):=
 .of_wp λprog w A R s h=>by
  let#[hp,g,d,tk,os]:=s;let#[a1,a2,a3,h]:=h;let zy:=sub_zip;have b1:Heap.IsList (Shared.heap #[hp,g,d,tk,os]) l1 xs:=a1;have b2:Heap.IsTuple (Shared.heap #[hp.push { cls:=.type "list_iterator",data:=.fields (List.toArray [.ref l1,.int 0 0]) },g,d,tk,os]) l2 ys:=Heap.IsTuple.push a2 _;have b3:Heap.IsTuple (Shared.heap #[(hp.push { cls:=.type "list_iterator",data:=.fields (List.toArray [.ref l1,.int 0 0]) }).push { cls:=.type "tuple_iterator",data:=.fields (List.toArray [.ref l2,.int 0 0]) },g,d,tk,os]) l3 zs:=Heap.IsTuple.push (Heap.IsTuple.push a3 _) _
  wp_walk using wpAny_pyIter_list b1,wpAny_pyIter_tuple b2,wpAny_pyIter_tuple b3
  exact#[_,U,h]
end
end dO
namespace L2
open PySem PySem.Spec PyProof.Rows PySem.W dO
def F2(K:aj)(a b c:Addr):It:=
 #[λi H=>∃xs ys zs x y z,dZ K H a xs/\fH K H b ys/\fH K H c zs/\xs[i]? = some x/\ys[i]? = some y/\zs[i]? = some z,
  λi H v H'=>∃t x y z,v=.ref t/\H t=none/\(∀xs,dZ K H a xs->xs[i]? = some x)/\(∀xs,fH K H b xs->xs[i]? = some y)/\(∀xs,fH K H c xs->xs[i]? = some z)/\H'=upd H t (.tup [x,y,z]),λi H=>∃xs,dZ K H a xs/\xs.length=i]
theorem gr_{P:Ad}{w:Af}{K:aj}{elts:List Expr}{k:Nat}{pos:Pos}(a b c z TI TO i1 i2 i3:Addr)(nd:[z,TO,i1,i2,i3].Nodup)(ti:TI∉[z,TO,i1,i2,i3])(ls:∀l∈[a,b,c],l∉[z,TO,i1,i2,i3]) :
  Turn P w K (.Tuple elts k pos) (F2 K a b c) [z,TI,TO,i1,i2,i3] z (λi h=>Zp h z TI TO .none false/\fj h TI (List.toArray [.ref i1,.ref i2,.ref i3])/\(∃x y v,fj h TO (List.toArray [x,y,v]))/\h.IsListIter i1 a i/\h.IsTupleIter i2 b i/\h.IsTupleIter i3 c i) where
 mem:=by simp
 obj:=λi h st q hq=>by
  let#[h1,h2,#[x,y,v,h3],#[o1,e1,c1,d1],#[o2,e2,c2,d2],#[o3,e3,c3,d3]]:=st;simp only[bW,gK,or_false] at hq;rcases hq with rfl|rfl|rfl|rfl|rfl|rfl
  ·exact#[_,h1,λv z=>by cases z]
  ·exact#[_,h2,λv z=>by cases z]
  ·exact#[_,h3,λv z=>by cases z]
  ·exact#[o1,e1,λv z=>by rw[d1] at z;cases z]
  ·exact#[o2,e2,λv z=>by rw[d2] at z;cases z]
  exact#[o3,e3,λv z=>by rw[d3] at z;cases z]
 keep:=λi h h' st kk=>by
  let#[h1,h2,#[x,y,v,h3],s1,s2,s3]:=st;exact#[kk _ Z2 _ h1,kk _ Z2 _ h2,#[x,y,v,kk _ Z2 _ h3],s1.at λo q=>kk _ Z2 o q,s2.at λo q=>kk _ Z2 o q,s3.at λo q=>kk _ Z2 o q]
 item:=by
  intro X hP hw hK hc i pins s σ H E I hf st hg;subst hP hw hK;let#[xs,ys,zs,x,y,v,q1,q2,q3,x1,x2,x3]:=hg;let GD:=nd;have z1:z≠i1:=by simp at nd;exact nd.1.2.1
  have z2:z≠i2:=by simp at nd;exact nd.1.2.2.1
  have Ve:z≠i3:=by simp at nd;exact nd.1.2.2.2
  have zO:TO≠z:=by simp at nd;exact bG nd.1.1
  have tz:TI≠z:=by simp at ti;exact ti.1
  let#[h1,h2,h3,s1,s2,s3]:=st;let#[u1,r1,p1,_]:=I.list q1;let#[u2,r2,p2,_]:=I.tuple q2;let#[u3,r3,p3,_]:=I.tuple q3;let#[w1,_S,Wy]:=r1.get x1;let#[w2,_R,Wx]:=r2.get x2;let#[w3,_Q,Ww]:=r3.get x3;apply hq_ (l1:=a) (l2:=b) (l3:=c) (xs:=u1.toArray) (ys:=u2.toArray) (zs:=u3.toArray) (x:=w1) (y:=w2) (v:=w3) #[nd,ti,ls,h2,h3,.lst s1 p1.isList,.tup s2 p2,.tup s3 p3] h1 ⇑_S ⇑_R ⇑_Q λh' z' D' xx kk=>?_;have lt:∀{d o},s.heap.get? d\o->s.heap.objs.size≠d:=λe=>i_ (bp e);obtain⟨T,eT⟩:∃T,T=s.heap.objs.size:=#[_,U];have hT:s.heap.objs.size<=T:=Nat.le_of_eq eT.symm;rw[<- eT] at z' xx ⊢;apply#[_,U,wpAny_letOwnedTupleGo_zip (s:={ s with heap:=h' }) z' λL8 z3 e3=>?_]
  have nT:∀{q},q∈[z,TI,TO,i1,i2,i3]->T≠q:=λ{q} hq e=>by
   let#[x,y,v,h3]:=h3;rw[e] at eT;let#[o1,e1,_]:=s1;let#[o2,e2,_]:=s2;let#[o3,e3,_]:=s3;simp only[bW,gK,or_false] at hq;rcases hq with rfl|rfl|rfl|rfl|rfl|rfl
   ·exact lt h1 eT.symm
   ·exact lt h2 eT.symm
   ·exact lt h3 eT.symm
   ·exact lt e1 eT.symm
   ·exact lt e2 eT.symm
   exact lt e3 eT.symm
  have yj:∀{q o},q≠z->h'.get? q\o->L8.get? q\o:=λhq e=>e3.extBut _ _ hq e;have vH:fj L8 T (List.toArray [w1,w2,w3]):=yj (nT Z2) xx;have I1:Inv X pins σ (upd H T (.tup [x,y,v])) { s with heap:=L8 }:=I.iN (t':=s.toks) (fp:=[z,TI,TO,i1,i2,i3]) (its:=[w1,w2,w3]) (λq o hq e=>yj (λhz=>hq (by simp[hz])) (kk q o (λhm=>hq (by simp at hm ⊢;rcases hm with h|h|h|h|h<;>simp[h])) e)) hf hT (zl) (.cons Wy (.cons Wx (.cons Ww .nil))) #[#[_,vH,U,_,U],_,vH,U]
  apply#[.ref T,_,I1,U,#[T,x,y,v,U,I.ay.fresh hT,λys hy=>by rw[I.jC hy q1];exact x1,λys hy=>by rw[I.dS hy q2];exact x2,λys hy=>by rw[I.dS hy q3];exact x3,U],?_,λq hq=>?_]
  ·let#[_,_,_,j2,#[f1,f2,f3,j3],j4,j5,j6]:=D';apply#[z3,yj tz j2,#[f1,f2,f3,yj zO j3],?_,?_,?_]
   ·exact (j4.QS (p1.isList.at λo e=>kk a o (ls a Z2) e)).at λo e=>yj (bG z1) e
   ·exact (j5.xx (by let#[o,e,r]:=p2;exact#[o,kk b o (ls b Z2) e,r])).at λo e=>yj (bG z2) e
   exact (j6.xx (by let#[o,e,r]:=p3;exact#[o,kk c o (ls c Z2) e,r])).at λo e=>yj (bG Ve) e
  rw[ax (λz:q=T=>nT hq z.symm)];exact (hf q hq).1
 done:=by
  intro X hP hw hK hc i pins s σ H E I hf st hg;subst hP hw hK;let#[xs,hq,hx]:=hg;let#[its,rv,p,hz]:=I.list hq;let#[h1,h2,h3,s1,s2,s3]:=st;have:=rv.length;simp only[jq,bW,gK,or_false,not_or,not_false_eq_true,List.nodup_nil,and_true] at nd ti;exact dA_ (I.ok.hd hc) (bG nd.1.2.1) (by have:=ls a Z2;simp at this;exact this.1) h2 s1 p.isList h1 (by simp;omega) λh' kk=>#[U,I.gT (t':=s.toks) (fp:=[z,TI,TO,i1,i2,i3]) (λq o hq e=>kk q o (λh=>hq (by simp[h])) (λh=>hq (by simp[h])) e) hf]
 self:=λA i s Q E st h=>wpAny_pyIter_zip st.1 h
end L2
namespace dO
open PySem PySem.W PyProof.Rows
section
variable{prog:Ad}{w:Af}{A:Ag}{E:Aa->Ab->Prop}{s:Ab}
theorem alive{a:Addr}{o:Obj}{Q:Option Obj->Ab->Prop}(ho:s.heap.get? a\o)(h:Q (some o) s):wpAny (model prog w) A (loadIfAlive a) Q E s:=fun Γ p _=>by
 unfold loadIfAlive;rw[Sem.wp_loadIfAlive,ho];exact (aC (M:=model prog w) (A:=A) h) Γ p (by assumption)
structure mR (h:Heap) (z TI TO i1 i2 l1 l2:Addr) (k:Nat) (xs ys:Array Aa):Prop where
 nd:[z,TO,i1,i2].Nodup
 ti:TI∉[z,TO,i1,i2]
 ls:∀l∈[l1,l2],l∉[z,TO,i1,i2]
 hI:fj h TI (List.toArray [.ref i1,.ref i2])
 hO:∃a b,fj h TO (List.toArray [a,b])
 s1:Src h i1 l1 k xs
 s2:Src h i2 l2 k ys
 hz:Zp h z TI TO .none false∨∃T o f1,T∉[z,TO,i1,i2]/\h.get? T\o/\Zp h z TI TO (rawInt T) f1
theorem gG_{z TI TO i1 i2 l1 l2:Addr}{k:Nat}{xs ys:Array Aa}{x y:Aa}{Q:Aa->Ab->Prop}(D:mR s.heap z TI TO i1 i2 l1 l2 k xs ys)(hx:xs[k]? = some x)(hy:ys[k]? = some y)
  (hQ:∀h',mR h' z TI TO i1 i2 l1 l2 (k+1) xs ys->fj h' s.heap.objs.size (List.toArray [x,y])->(∀c o,c∉[z,TO,i1,i2]->s.heap.get? c\o->h'.get? c\o)->Q (.ref s.heap.objs.size) { s with heap:=h' }) :
  wpAny (model prog w) A (Builtin.«zip.__next__» #[[.ref z],[]]) (λfin s'=>∃v,fin=.done (.ret v)/\Q v s') E s:=by
 let#[GD,JL,KH,hI,#[a,b,hO],s1,s2,hz]:=D;let nd:=GD;let ti:=JL;let ls:=KH;simp only[jq,bW,gK,or_false,not_or,not_false_eq_true,List.nodup_nil,and_true] at nd ti ls;let#[#[zO,z1,z2],#[O1,O2],sf]:=nd;let L1:=ls l1 (.inl U);let L2:=ls l2 (.inr U);have new:∀{c o},s.heap.get? c\o->s.heap.objs.size≠c:=λe=>i_ (bp e)
 have nT:s.heap.objs.size∉[z,TO,i1,i2]:=by
  simp only[bW,gK,or_false,not_or];apply#[?_,new hO,i_ s1.lt.1,i_ s2.lt.1];rcases hz with hz|⟨T,o,f1,hT,e,hz⟩
  ·exact new hz
  exact new hz
 rcases hz with hz|⟨T,o,f1,hT,eT,hz⟩
 ·apply (show wpAny _ _ (field (.ref z) 2 >>= _) _ _ _ from af (fM hz U (x:=.bool false) U ?_));apply (show wpAny _ _ (field (.ref z) 3 >>= _) _ _ _ from af (fM hz U (x:=.ref TI) U ?_));apply af (jL hI U ?_);apply (show wpAny _ _ (Builtin.SmallTypes.ownedTupleIsFree (.ref z) >>= _) _ _ _ from af ?_);unfold Builtin.SmallTypes.ownedTupleIsFree;apply af (fM hz U (x:=.none) U (aC ?_));simp only[if_true];apply af (wpAny_rule (af (fM hz U (x:=.ref TO) U (af (p7 hz Z2 λh1 iH e1=>af ?_)))));replace iH:Zp h1 z TI TO .ellipsis false:=iH;have LZ:fj h1 TO (List.toArray [a,b]):=e1.extBut _ _ (bG zO) hO;let s1:=s1.keep (e1.extBut _ · (bG z1)) (e1.extBut _ · L1.1);let s2:=s2.keep (e1.extBut _ · (bG z2)) (e1.extBut _ · L2.1);simp only[List.zipIdx_cons,List.zipIdx_nil,qb,uS];apply af (af (wpAny_onRaise (show wpAny _ _ (Builtin.SmallTypes.nextOf (.ref i1) >>= _) _ _ _ from af (s1.next L1.2.2.1 hx λh2 s1 e2=>aC ?_))));have EW:fj h2 TO (List.toArray [a,b]):=e2.extBut _ _ O1 LZ;let s2:=s2.keep (e2.extBut _ · (bG sf)) (e2.extBut _ · L2.2.2.1);apply af (jL EW U (af (FE EW (Nat.le_succ 2) λh3 z_ e3=>af (wpAny_letGo (aC ?_)))));replace z_:fj h3 TO (List.toArray [x,b]):=z_;let s1:=s1.keep (e3.extBut _ · (bG O1)) (e3.extBut _ · L1.2.1);let s2:=s2.keep (e3.extBut _ · (bG O2)) (e3.extBut _ · L2.2.1);apply af (af (wpAny_onRaise (show wpAny _ _ (Builtin.SmallTypes.nextOf (.ref i2) >>= _) _ _ _ from af (s2.next L2.2.2.2 hy λh4 s2 e4=>aC ?_))));have EV:fj h4 TO (List.toArray [x,b]):=e4.extBut _ _ O2 z_;let s1:=s1.keep (e4.extBut _ · sf) (e4.extBut _ · L1.2.2.2);apply af (jL EV U (af (FE EV (Nat.le_succ 2) λh7 vS e7=>af (wpAny_letGo (aC (aC ?_))))));replace vS:fj h7 TO (List.toArray [x,y]):=vS;let s1:=s1.keep (e7.extBut _ · (bG O1)) (e7.extBut _ · L1.2.1);let s2:=s2.keep (e7.extBut _ · (bG O2)) (e7.extBut _ · L2.2.1);have all:∀{c o},c≠TO->c≠i1->c≠i2->h1.get? c\o->h7.get? c\o:=λc2 c3 c4 q=>e7.extBut _ _ c2 (e4.extBut _ _ c4 (e3.extBut _ _ c2 (e2.extBut _ _ c3 q)));have zx:Zp h7 z TI TO .ellipsis false:=all zO z1 z2 iH;have L0:fj h7 TI (List.toArray [.ref i1,.ref i2]):=all ti.2.1 ti.2.2.1 ti.2.2.2 (e1.extBut _ _ ti.1 hI);have sz:h7.objs.size=s.heap.objs.size:=by rw[e7.1,e4.1,e3.1,e2.1,e1.1]
  apply af (jL vS U (af (wpAny_newTuple ?_)));apply (show wpAny _ _ (Builtin.SmallTypes.ownedTupleHandOut (.ref z) (.ref h7.objs.size) >>= _) _ _ _ from af ?_);unfold Builtin.SmallTypes.ownedTupleHandOut;have K3:Zp (h7.push { cls:=.type "tuple",data:=.seq (List.toArray [x,y]) }) z TI TO .ellipsis false:=aS _ zx;apply af (p7 K3 Z2 λh9 K2 e9=>p7 (show Zp h9 z TI TO (rawInt h7.objs.size) false from K2) Z2 λhA vI eA=>aC #[_,U,?_]);have up:∀{c o},c≠z->h7.get? c\o->hA.get? c\o:=λc1 q=>eA.extBut _ _ c1 (e9.extBut _ _ c1 (aS _ q));have hT:fj hA h7.objs.size (List.toArray [x,y]):=eA.extBut _ _ (i_ (bp zx)) (e9.extBut _ _ (i_ (bp zx)) (cy _ U));show Q (.ref h7.objs.size) _;have vI:Zp hA z TI TO (rawInt h7.objs.size) false:=vI;rw[sz] at hT vI ⊢;apply hQ hA #[GD,JL,KH,up ti.1 L0,#[_,_,up (bG zO) vS],s1.keep (λ_=>up (bG z1)) (λ_=>up L1.1),s2.keep (λ_=>up (bG z2)) (λ_=>up L2.1),.inr #[_,_,_,nT,hT,vI]] hT λc o hc q=>?_;simp only[bW,gK,or_false,not_or] at hc;exact up hc.1 (all hc.2.1 hc.2.2.1 hc.2.2.2 (e1.extBut _ _ hc.1 q))
 apply (show wpAny _ _ (field (.ref z) 2 >>= _) _ _ _ from af (fM hz U (x:=.bool false) U ?_));apply (show wpAny _ _ (field (.ref z) 3 >>= _) _ _ _ from af (fM hz U (x:=.ref TI) U ?_));apply af (jL hI U ?_);apply (show wpAny _ _ (Builtin.SmallTypes.ownedTupleIsFree (.ref z) >>= _) _ _ _ from af ?_)
 have free:∀{Q:Bool->Ab->Prop},(∀h',Zp h' z TI TO (rawInt T) true->(∀c o,c≠z->s.heap.get? c\o->h'.get? c\o)->h'.objs.size=s.heap.objs.size->Q false { s with heap:=h' })->wpAny (model prog w) A (Builtin.SmallTypes.ownedTupleIsFree (.ref z)) Q E s:=λ{Q} h=>by
  unfold Builtin.SmallTypes.ownedTupleIsFree;apply af (fM hz U (x:=rawInt T) U ?_);apply (show wpAny _ _ (loadIfAlive (((T:Nat):Int)).toNat >>= _) _ _ _ from ?_);rw[yf];apply af (alive eT ?_);simp only[Option.isNone_some,qd,if_false];apply af (fM hz U (x:=.bool f1) U ?_);cases f1 with
  |true=>
   apply wpAny_ite_false (by decide) (aC ?_);exact h _ hz (λc o _ q=>q) U
  |false=>
   apply wpAny_ite_true (by decide) ?_;apply af (p7 hz Z2 λh1 iH e1=>aC ?_);exact h h1 iH (λc o hc q=>e1.extBut _ _ hc q) e1.1
 apply free λh1 iH k1 We=>?_;simp only[qd,if_false];let s1:=s1.keep (k1 _ · (bG z1)) (k1 _ · L1.1);let s2:=s2.keep (k1 _ · (bG z2)) (k1 _ · L2.1);apply af ?_;simp only[List.forIn_toArray,qb,uS];apply af (af (iK (show wpAny _ _ (Builtin.SmallTypes.nextOf (.ref i1) >>= _) _ _ _ from af (s1.next L1.2.2.1 hx λh2 s1 e2=>aC (aC ?_)))));let s2:=s2.keep (e2.extBut _ · (bG sf)) (e2.extBut _ · L2.2.2.1);apply af (af (iK (show wpAny _ _ (Builtin.SmallTypes.nextOf (.ref i2) >>= _) _ _ _ from af (s2.next L2.2.2.2 hy λh4 s2 e4=>aC (aC (aC ?_))))));let s1:=s1.keep (e4.extBut _ · sf) (e4.extBut _ · L1.2.2.2);have sz:h4.objs.size=s.heap.objs.size:=by rw[e4.1,e2.1,We]
 apply (show wpAny _ _ (newTuple [x,y] >>= _) _ _ _ from af (wpAny_newTuple (aC #[_,U,?_])));have all:∀{c o},c≠i1->c≠i2->h1.get? c\o->h4.get? c\o:=λc3 c4 q=>e4.extBut _ _ c4 (e2.extBut _ _ c3 q);have up:∀{c o},h4.get? c\o->(h4.push { cls:=.type "tuple",data:=.seq (List.toArray [x,y]) }).get? c\o:=λq=>aS _ q;have zY:fj (h4.push { cls:=.type "tuple",data:=.seq (List.toArray [x,y]) }) h4.objs.size (List.toArray [x,y]):=cy _ U;show Q (.ref h4.objs.size) _;rw[sz] at zY ⊢;simp only[bW,gK,or_false,not_or] at hT;apply hQ _ #[GD,JL,KH,up (all ti.2.2.1 ti.2.2.2 (k1 _ _ ti.1 hI)),#[_,_,up (all O1 O2 (k1 _ _ (bG zO) hO))],s1.keep (λ_=>up) (λ_=>up),s2.keep (λ_=>up) (λ_=>up),.inr #[T,_,true,by simp[hT],up (all hT.2.2.1 hT.2.2.2 (k1 _ _ hT.1 eT)),up (all z1 z2 iH)]] zY λc o hc q=>?_;simp only[bW,gK,or_false,not_or] at hc;exact up (all hc.2.2.1 hc.2.2.2 (k1 _ _ hc.1 q))
end
end dO
namespace dO
open PySem PySem.W PyProof.Rows
section
variable{prog:Ad}{w:Af}{A:Ag}{E:Aa->Ab->Prop}{s:Ab}
theorem _O{z TI TO i1 i2 l1 l2:Addr}{k:Nat}{xs ys:Array Aa}{Q:Fin->Ab->Prop}(hh:A.handled=none)(D:mR s.heap z TI TO i1 i2 l1 l2 k xs ys)(b0:s.heap.IsList l1 xs)(hx:xs[k]? = none)
  (hE:∀h' e,(∀c o,c∉[z,TO,i1,i2]->s.heap.get? c\o->h'.get? c\o)->(∃o,h'.get? e\o/\o.cls=.type "StopIteration")->E (.ref e) { s with heap:=h' }):wpAny (model prog w) A (Builtin.«zip.__next__» #[[.ref z],[]]) Q E s:=by
 let#[nd,ti,ls,hI,#[a,b,hO],s1,s2,hz]:=D;let a0:=s1.QS b0;simp only[jq,bW,gK,or_false,not_or,not_false_eq_true,List.nodup_nil,and_true] at nd ti ls;let#[#[zO,z1,z2],#[O1,O2],sf]:=nd;let L1:=ls l1 (.inl U);have go:∀(h1:Heap),(∀c o,c≠z->s.heap.get? c\o->h1.get? c\o)->∀(E':Aa->Ab->Prop) (Q':Aa->Ab->Prop),(∀h' e,Heap.ExtBut i1 h1 h'->(∃o,h'.get? e\o/\o.cls=.type "StopIteration")->E' (.ref e) { s with heap:=h' })->wpAny (model prog w) A (Builtin.SmallTypes.nextOf (.ref i1)) Q' E' { s with heap:=h1 }:=λh1 k1 E' Q' h=>ended hh (s:={ s with heap:=h1 }) (a0.at λo q=>k1 _ o (bG z1) q) (b0.at λo q=>k1 _ o L1.1 q) hx h;rcases hz with hz|⟨T,o,f1,hT,eT,hz⟩
 ·apply (show wpAny _ _ (field (.ref z) 2 >>= _) _ _ _ from af (fM hz U (x:=.bool false) U ?_));apply (show wpAny _ _ (field (.ref z) 3 >>= _) _ _ _ from af (fM hz U (x:=.ref TI) U ?_));apply af (jL hI U ?_);apply (show wpAny _ _ (Builtin.SmallTypes.ownedTupleIsFree (.ref z) >>= _) _ _ _ from af ?_);unfold Builtin.SmallTypes.ownedTupleIsFree;apply af (fM hz U (x:=.none) U (aC ?_));simp only[if_true];apply af (wpAny_rule (af (fM hz U (x:=.ref TO) U (af (p7 hz Z2 λh1 iH e1=>af ?_)))));replace iH:Zp h1 z TI TO .ellipsis false:=iH;simp only[List.zipIdx_cons,List.zipIdx_nil,qb,uS];apply af (af (wpAny_onRaise (show wpAny _ _ (Builtin.SmallTypes.nextOf (.ref i1) >>= _) _ _ _ from af (go h1 (λc o hc q=>e1.extBut _ _ hc q) _ _ λh2 e e2 he=>?_))));let#[oe,zC,EJ]:=he;have D5:Zp h2 z TI TO .ellipsis false:=e2 _ _ z1 iH;have LC:e≠z:=λx=>by subst x;rw[D5] at zC;cases zC;simp at EJ
  exact p7 D5 Z2 λh3 _ e3=>hE h3 e (λc o hc x=>by
   simp only[bW,gK,or_false,not_or] at hc;exact e3.extBut _ _ hc.1 (e2 _ _ hc.2.2.1 (e1.extBut _ _ hc.1 x))) #[oe,e3.extBut _ _ LC zC,EJ]
 apply (show wpAny _ _ (field (.ref z) 2 >>= _) _ _ _ from af (fM hz U (x:=.bool false) U ?_));apply (show wpAny _ _ (field (.ref z) 3 >>= _) _ _ _ from af (fM hz U (x:=.ref TI) U ?_));apply af (jL hI U ?_);apply (show wpAny _ _ (Builtin.SmallTypes.ownedTupleIsFree (.ref z) >>= _) _ _ _ from af ?_)
 have free:∀{Q:Bool->Ab->Prop},(∀h',(∀c o,c≠z->s.heap.get? c\o->h'.get? c\o)->Q false { s with heap:=h' })->wpAny (model prog w) A (Builtin.SmallTypes.ownedTupleIsFree (.ref z)) Q E s:=λ{Q} h=>by
  unfold Builtin.SmallTypes.ownedTupleIsFree;apply af (fM hz U (x:=rawInt T) U ?_);apply (show wpAny _ _ (loadIfAlive (((T:Nat):Int)).toNat >>= _) _ _ _ from ?_);rw[yf];apply af (alive eT ?_);simp only[Option.isNone_some,qd,if_false];apply af (fM hz U (x:=.bool f1) U ?_);cases f1 with
  |true=>exact wpAny_ite_false (by decide) (aC (h _ λc o _ q=>q))
  |false=>exact wpAny_ite_true (by decide) (af (p7 hz Z2 λh1 iH e1=>aC (h h1 λc o hc q=>e1.extBut _ _ hc q)))
 apply free λh1 k1=>?_;simp only[qd,if_false];apply af ?_;simp only[List.forIn_toArray,qb,uS];apply af (af (iK (show wpAny _ _ (Builtin.SmallTypes.nextOf (.ref i1) >>= _) _ _ _ from af (go h1 k1 _ _ λh2 e e2 he=>hE h2 e (λc o hc x=>?_) he))));simp only[bW,gK,or_false,not_or] at hc;exact e2 _ _ hc.2.2.1 (k1 _ _ hc.1 x)
theorem mR.ty{z TI TO i1 i2 l1 l2:Addr}{k:Nat}{xs ys:Array Aa}(D:mR s.heap z TI TO i1 i2 l1 l2 k xs ys):s.TypeIs (.ref z) "zip":=by
 rcases D.hz with hz|⟨T,o,f1,hT,eT,hz⟩
 ·exact#[_,hz,U]
 exact#[_,hz,U]
theorem g4_{z TI TO i1 i2 l1 l2:Addr}{k:Nat}{xs ys:Array Aa}{x y:Aa}{Q:Option Aa->Ab->Prop}(D:mR s.heap z TI TO i1 i2 l1 l2 k xs ys)(hx:xs[k]? = some x)(hy:ys[k]? = some y)
  (hQ:∀h',mR h' z TI TO i1 i2 l1 l2 (k+1) xs ys->fj h' s.heap.objs.size (List.toArray [x,y])->(∀c o,c∉[z,TO,i1,i2]->s.heap.get? c\o->h'.get? c\o)->Q (some (.ref s.heap.objs.size)) { s with heap:=h' }):wpAny (model prog w) A (pyNext (.ref z)) Q E s:=by
 unfold pyNext;exact af (wpAny_attempt (uC (name:=Str.ofString "__next__") D.ty F.slot_zip_next (s_ F.slot_zip_next D.ty F.entry_zip_next (gG_ D hx hy λh' a2 a3 a4=>aC (hQ h' a2 a3 a4)) (F.args_zip_next_1 _))))
theorem dH_{z TI TO i1 i2 l1 l2:Addr}{k:Nat}{xs ys:Array Aa}{Q:Option Aa->Ab->Prop}(hh:A.handled=none)(D:mR s.heap z TI TO i1 i2 l1 l2 k xs ys)(b0:s.heap.IsList l1 xs)(hx:xs[k]? = none)
  (hQ:∀h',(∀c o,c∉[z,TO,i1,i2]->s.heap.get? c\o->h'.get? c\o)->Q none { s with heap:=h' }):wpAny (model prog w) A (pyNext (.ref z)) Q E s:=by
 unfold pyNext;apply af (wpAny_attempt (uC (name:=Str.ofString "__next__") D.ty F.slot_zip_next (s_ F.slot_zip_next D.ty F.entry_zip_next (_O hh D b0 hx λh' e hk he=>?_) (F.args_zip_next_1 _))));let#[o,ho,hc]:=he;exact af (wpAny_isInstance (T:="StopIteration") (b:=true) #[o,ho,hc] isSubtype_stop (aC (hQ _ hk)))
abbrev B9(h:Heap)(l1 l2:Addr):Heap:=oM (m_ h l1) l2
abbrev B8(h:Heap)(l1 l2:Addr):Heap:=(B9 h l1 l2).push { cls:=.type "tuple",data:=.seq (List.toArray [.ref h.objs.size,.ref (m_ h l1).objs.size]) }
abbrev B7(h:Heap)(l1 l2:Addr):Heap:=(B8 h l1 l2).push { cls:=.type "tuple",data:=.seq (List.toArray [.none,.none]) }
abbrev yl(h:Heap)(l1 l2:Addr):Heap:=(B7 h l1 l2).push { cls:=.type "zip",data:=.fields (List.toArray [.none,.bool false,.bool false,.ref (B9 h l1 l2).objs.size,.ref (B8 h l1 l2).objs.size]) }
theorem fL_(l1 l2:Addr)(xs ys:Array Aa):Meets (Builtin.«zip.__new__» #[[.type "zip",.ref l1,.ref l2],[]]) (λ_ R s=>s.heap.IsList l1 xs/\s.heap.IsTuple l2 ys/\R (.ok (.ret (.ref (B7 s.heap l1 l2).objs.size))) { s with heap:=yl s.heap l1 l2 }):=
 .of_wp λprog w A R s h=>by
  let#[hp,g,d,tk,os]:=s;let#[a1,a2,h]:=h;let zy:=sub_zip;have b1:Heap.IsList (Shared.heap #[hp,g,d,tk,os]) l1 xs:=a1;have b2:Heap.IsTuple (Shared.heap #[hp.push { cls:=.type "list_iterator",data:=.fields (List.toArray [.ref l1,.int 0 0]) },g,d,tk,os]) l2 ys:=Heap.IsTuple.push a2 _
  wp_walk using wpAny_pyIter_list b1,wpAny_pyIter_tuple b2
  exact#[_,U,h]
theorem mR.yZ{h:Heap}{z TI TO i1 i2 l1 l2:Addr}{k:Nat}{xs ys:Array Aa}(D:mR h z TI TO i1 i2 l1 l2 k xs ys){h':Heap}(up:∀c o,h.get? c\o->h'.get? c\o):mR h' z TI TO i1 i2 l1 l2 k xs ys:=by
 let#[nd,ti,ls,hI,#[a,b,hO],s1,s2,hz]:=D;apply#[nd,ti,ls,up _ _ hI,#[a,b,up _ _ hO],s1.keep (up _) (up _),s2.keep (up _) (up _),?_];rcases hz with hz|⟨T,o,f1,hT,eT,hz⟩
 ·exact .inl (up _ _ hz)
 exact .inr #[T,o,f1,hT,up _ _ eT,up _ _ hz]
theorem gj_{l1 l2:Addr}{xs ys:Array Aa}{Q:Aa->Ab->Prop}(a1:s.heap.IsList l1 xs)(a2:s.heap.IsTuple l2 ys)
  (h:∀h' z TI TO i1 i2,mR h' z TI TO i1 i2 l1 l2 0 xs ys->Zp h' z TI TO .none false->(∀b∈[z,TO,i1,i2],s.heap.objs.size<=b)->(∀c o,s.heap.get? c\o->h'.get? c\o)->Q (.ref z) { s with heap:=h' }):wpAny (model prog w) A (call (.type "zip") [.ref l1,.ref l2]) Q E s:=by
 apply callType_new F.called_zip (by decide) (F.typeCall_zip_2 _ _) (F.newCall_zip_2 _ _) (λobj=>F.args_object_init_3 obj _ _) F.entry_zip_new (fL_ l1 l2 xs ys) #[a1,a2,?_];have z1:(m_ s.heap l1).objs.size=s.heap.objs.size+1:=mj ..;have z2:(B9 s.heap l1 l2).objs.size=s.heap.objs.size+2:=by rw[mj,z1]
 have z3:(B8 s.heap l1 l2).objs.size=s.heap.objs.size+3:=by rw[mj,z2]
 have z4:(B7 s.heap l1 l2).objs.size=s.heap.objs.size+4:=by rw[mj,z3]
 have g5:(yl s.heap l1 l2).get? (B7 s.heap l1 l2).objs.size\_:=cy _ U;have g4:(yl s.heap l1 l2).get? (B8 s.heap l1 l2).objs.size\_:=aS _ (cy _ U);have g3:(yl s.heap l1 l2).get? (B9 s.heap l1 l2).objs.size\_:=aS _ (aS _ (cy _ U));have g2:(yl s.heap l1 l2).get? (m_ s.heap l1).objs.size\_:=aS _ (aS _ (aS _ (cy _ U)));have g1:(yl s.heap l1 l2).get? s.heap.objs.size\_:=aS _ (aS _ (aS _ (aS _ (cy _ U))));have up:∀c o,s.heap.get? c\o->(yl s.heap l1 l2).get? c\o:=λc o x=>aS _ (aS _ (aS _ (aS _ (aS _ x))));have ui:l1<s.heap.objs.size:=by let#[_,e,_]:=a1;exact bp e
 have KG:l2<s.heap.objs.size:=by let#[_,e,_]:=a2;exact bp e
 show _/\_;apply#[#[_,g5,U],h _ (B7 s.heap l1 l2).objs.size (B9 s.heap l1 l2).objs.size (B8 s.heap l1 l2).objs.size s.heap.objs.size (m_ s.heap l1).objs.size #[?_,?_,?_,g3,#[_,_,g4],.lst #[_,g1,U,U] (a1.at λo e=>up _ o e),.tup #[_,g2,U,U] (by let#[o,e,r]:=a2;exact#[o,up _ o e,r]),.inl g5] g5 ?_ up]
 ·rw[z1,z3,z4];generalize s.heap.objs.size=n;simp
 ·rw[z1,z2,z3,z4];generalize s.heap.objs.size=n;simp
 ·intro l hl hm
  have lt:l<s.heap.objs.size:=by
   simp only[bW,gK,or_false] at hl;rcases hl with rfl|rfl
   ·exact ui
   exact KG
  simp only[bW,gK,or_false] at hm;rcases hm with rfl|rfl|rfl|rfl
  ·rw[z4] at lt;exact absurd lt (Nat.not_lt.mpr (tP _ _))
  ·rw[z3] at lt;exact absurd lt (Nat.not_lt.mpr (tP _ _))
  ·exact tT _ lt
  rw[z1] at lt;exact absurd lt (Nat.not_lt.mpr (tP _ _))
 intro b hb;simp only[bW,gK,or_false] at hb;rcases hb with rfl|rfl|rfl|rfl
 ·rw[z4];exact tP _ _
 ·rw[z3];exact tP _ _
 ·exact bc _
 rw[z1];exact tP _ _
end
end dO
namespace dO
open PySem PySem.W PyProof.Rows
theorem dk_:typeLookup (.type "zip") "keys"=pure none:=by rw[typeLookup_type,builtinLookup_eq_fast];kernel_rfl
theorem cl_:typeLookup (.type "zip") "__getattr__"=pure none:=by rw[typeLookup_type,builtinLookup_eq_fast];kernel_rfl
theorem dW_:entryFor table "zip.__getattribute__"\Builtin.«object.__getattribute__»:=entryFor_alias (id':="object.__getattribute__") (by kernel_rfl) Z0 Z0 (by kernel_rfl)
theorem cZ_(a:Addr)(fs:Array Aa)(u:Tok):Meets (Builtin.«object.__getattribute__» #[[.ref a,.str "keys" u],[]]) (λA R s=>s.heap.get? a=some { cls:=.type "zip",dict:=none,data:=.fields fs,slots:=#[] }/\raisesAttr (.ref a) "keys" A R s):=
 Meets.of_wp λprog w A R s hs=>by
  let#[hp,g,d,tk,os]:=s;let#[hx,hs]:=hs;have hT:(#[hp,g,d,tk,os]:Ab).TypeIs (.ref a) "zip":=#[_,hx,U];let hm:=dk_;unfold Builtin.«object.__getattribute__»
  repeat (any_goals (first|assumption|wp_step))
  repeat (any_goals (first|assumption|wp_step))
  exact wpAny_raiseAttrError hs.1 hs.2 (attrMsg_fits Z0 (by size_fits))
section
variable{prog:Ad}{w:Af}{A:Ag}{E:Aa->Ab->Prop}{s:Ab}
theorem fs_{a:Addr}{fs:Array Aa}{tk:Tok}{R:Result->Ab->Prop}(hx:s.heap.get? a=some { cls:=.type "zip",dict:=none,data:=.fields fs,slots:=#[] })(h:raisesAttr (.ref a) "keys" A R s) :
  codeAny (model prog w) A (.call (.builtin "zip.__getattribute__") #[[.ref a,.str "keys" tk],[]]) R s:=by
 apply codeAny_call_builtin F.slot_zip_getattribute.plain dW_ (F.slot_zip_getattribute.check _ _ _ _ _ _ _ _ #[_,hx,U] (F.args_zip_getattribute_2 _ _) ?_);exact cZ_ a fs tk prog w A R s #[hx,h]
theorem vx{a:Addr}{fs:Array Aa}{Q:Option Aa->Ab->Prop}(hx:s.heap.get? a=some { cls:=.type "zip",dict:=none,data:=.fields fs,slots:=#[] })(hA:A.handled=none)
  (h:∀h' tk,(∀b o,s.heap.get? b\o->h'.get? b\o)->Q none { s with heap:=h',toks:=tk }):wpAny (model prog w) A (getAttr? (.ref a) "keys") Q E s:=by
 let#[hp,g,d,tk,os]:=s;have ty:∀ij,(#[hp,g,d,ij,os]:Ab).TypeIs (.ref a) "zip":=λ_=>#[_,hx,U];let f1:=sub_AttributeError;let f2:=F.slot_zip_getattribute.lookup;let f3:=F.slot_zip_getattribute.bind (.ref a);let f4:=cl_;unfold getAttr? getAttrBy? getAttrBy
 repeat (any_goals (first|assumption|exact ty _|wp_step))
 apply fs_ hx #[hA,λh' ij e hx'=>?_];let#[t',u',he]:=hx'.there;apply (show wpAny _ _ (getattributeRaised _ _ _ _ _ _ _) _ _ _ from ?_);unfold getattributeRaised
 repeat (any_goals (first|assumption|wp_step))
 exact h _ _ hx'.keeps
end
section
variable{prog:Ad}{w:Af}{K:Type}[DecidableEq K]{knd:PySem.KeyKind prog w K}{A:Ag}
theorem ZP{z TI TO i1 i2 l1 l2 d:Addr}(hd:d∉[z,TO,i1,i2])(hh:A.handled=none){xs ys:ag}(rest:List K):∀(i:Nat) (kvs:List (K × Aa)) (s:Ab) (R:Result->Ab->Prop) (tk:Tok),i+rest.length=xs.length->i+rest.length=ys.length->
  (∀(j:Nat) k,rest[j]? = some k->∃v,xs[i+j]? = some v/\knd.is k v=true)->mR s.heap z TI TO i1 i2 l1 l2 i xs.toArray ys.toArray->s.heap.IsList l1 xs.toArray->s.heap.DictOf knd d kvs->kvs.length+rest.length<=1000->
  (∀h' ij,h'.DictOf knd d (eW kvs (rest.zip (ys.drop i)))->(∀b o,b≠d->b∉[z,TO,i1,i2]->s.heap.get? b\o->h'.get? b\o)->R (.ok (.ret .none)) { s with heap:=h',toks:=ij })->
  codeAny (model prog w) A (.builtin "dict.update.loop" #[[.ref d,.ref z,.int i tk,.none],[]]) R s:=by
 induction rest with
 |nil=>
  intro i kvs s R tk e1 e2 hk D b0 pS hz hR;apply codeAny_builtin Jd ?_;rw[xX x_ _,HP];apply af (dH_ hh D b0 (by simp at e1 ⊢;omega) λh' kp=>?_);exact af (m:=Builtin.Dict.addKeywords d []) (aC (aC (hR h' s.toks (FH pS λo q=>kp _ _ hd q) λb o _ hb q=>kp b o hb q)))
 |cons k rest ih=>
  intro i kvs s R tk e1 e2 hk D b0 pS hz hR;simp only[jr] at e1 e2 hz;let#[v,hv,kv]:=hk 0 k U;have hy:ys[i]? = some ys[i]:=aY Z1;apply codeAny_builtin Jd ?_;rw[xX x_ _,HP];apply af (g4_ D (x:=v) (y:=ys[i]) ⇑hv ⇑hy λh1 D1 hT kp=>?_);apply af (iK (af (wpAny_tryCatch ?_)));unfold Builtin.Dict.pairItems;apply af (wpAny_typeOf (T:="tuple") #[_,hT,U] ?_);rw[aJ (by decide)];unfold seqItems?;apply af (af (wpAny_load hT (aC (aC ?_))));apply (show wpAny _ _ (holding [v,ys[i]] (dictSet d v ys[i])) _ _ _ from iK (wpAny_dictSet_pairs kv (FH pS λo q=>kp _ _ hd q) (λh2 hd2 vK=>?_) (by have:=cU;omega)));have c1:((i:Int)+1)=((i+1:Nat):Int):=by omega
  have ndT:s.heap.objs.size≠d:=by
   let#[o,es,ep,ho,_]:=pS;exact i_ (bp ho)
  apply aC #[plainId_quiet x_ _,?_];have ee:∀{c o},c≠d->h1.get? c\o->h2.get? c\o:=λhc q=>vK.extBut _ _ hc q;let#[nd,ti,ls,hI,#[a,b,hO],s1,s2,Rb]:=D1;have dn:∀{c},c∈[z,TO,i1,i2]->c≠d:=λhc e=>hd (by rw[<- e];exact hc)
  have sd:∀{c xs},h1.IsTuple c xs->c≠d:=λ{c xs} q e=>by
   let#[o,ho,hc,_]:=q;let#[o2,es,ep,fA,ko,_]:=pS;let fA:=kp _ _ hd fA;subst e;rw[ho] at fA;cases fA;let xM:=ko.1;rw[hc] at xM;exact absurd xM (by decide)
  have se:∀{c xs},h1.IsList c xs->c≠d:=λ{c xs} q e=>by
   let#[o,ho,hc,_]:=q;let#[o2,es,ep,fA,ko,_]:=pS;let fA:=kp _ _ hd fA;subst e;rw[ho] at fA;cases fA;let xM:=ko.1;rw[hc] at xM;exact absurd xM (by decide)
  have ld:∀{it l k zs},Src h1 it l k zs->l≠d:=λq=>by
   cases q with
   |lst _ b=>exact se b
   |tup _ b=>exact sd b
  have D2:mR h2 z TI TO i1 i2 l1 l2 (i+1) xs.toArray ys.toArray:=by
   apply#[nd,ti,ls,ee (sd #[_,hI,U,_,U]) hI,#[a,b,ee (dn Z2) hO],s1.keep (λ_=>ee (dn Z2)) (λ_=>ee (ld s1)),s2.keep (λ_=>ee (dn Z2)) (λ_=>ee (ld s2)),?_];rcases Rb with hz|⟨T,o,f1,zY,eT,hz⟩
   ·exact .inl (ee (dn Z2) hz)
   by_cases c:T=d
   ·let#[o2,es,ep,fA,_]:=hd2;exact .inr #[T,o2,f1,zY,by rw[c];exact fA,ee (dn Z2) hz]
   exact .inr #[T,o,f1,zY,ee c eT,ee (dn Z2) hz]
  rw[c1]
  apply ih (i+1) (stored kvs k ys[i]) _ R 0 Z1 Z1 (λj k' hj=>?_) D2 (b0.at λo q=>ee (se (b0.at λo q=>kp _ _ (ls _ Z2) q)) (kp _ _ (ls _ Z2) q)) hd2 (by have:=T5 kvs k ys[i];omega) λh' ij iW KU=>hR h' ij (by
   have e:ys.drop i=ys[i]::ys.drop (i+1):=List.drop_eq_getElem_cons Z1;rw[e];exact iW) λb o h3 h4 q=>KU b o h3 h4 (ee h3 (kp b o h4 q))
  let#[v,e,r]:=hk (j+1) k' hj;exact#[v,by rw[<- e];congr 1;omega,r]
theorem fy_{E:Aa->Ab->Prop}{s:Ab}{z TI TO i1 i2 l1 l2:Addr}{xs ys:ag}{ks:List K}{Q:Aa->Ab->Prop}(hh:A.handled=none)(D:mR s.heap z TI TO i1 i2 l1 l2 0 xs.toArray ys.toArray)(hz:Zp s.heap z TI TO .none false)(b0:s.heap.IsList l1 xs.toArray)(e1:ks.length=xs.length)(e2:ks.length=ys.length)(hk:∀(j:Nat) k,ks[j]? = some k->∃v,xs[j]? = some v/\knd.is k v=true)(oq:ks.length<=1000)
  (h:∀h' ij,h'.DictOf knd s.heap.objs.size (eW [] (ks.zip ys))->(∀b o,b∉[z,TO,i1,i2]->s.heap.get? b\o->h'.get? b\o)->Q (.ref s.heap.objs.size) { s with heap:=h',toks:=ij }) :
  wpAny (model prog w) A (call (.type "dict") [.ref z]) Q E s:=by
 apply callType_codes (Q₁:=λobj aK=>obj=.ref s.heap.objs.size/\aK={ s with heap:=s.heap.push { cls:=.type "dict",data:=.dict #[] } }) F.kt_called_dict (F.kt_typeCall_dict_1 _) F.entry_dict_init (kt_code_dict_new _ #[U,U]) ?_;rintro obj aK ⟨rfl,rfl⟩;have iU:(s.heap.push { cls:=.type "dict",data:=.dict #[] }).DictOf knd s.heap.objs.size []:=Heap.DictOf.new s.heap;have z1:Zp (s.heap.push { cls:=.type "dict",data:=.dict #[] }) z TI TO .none false:=aS _ hz;apply#[iU.typeIs,F.args_dict_init_2 _ _,?_];unfold Builtin.«dict.__init__» Builtin.Dict.selfAndRest;apply af (af (wpAny_notOrdered_dict iU.typeIs ?_));apply (show wpAny _ _ (pure (s.heap.objs.size,[Value.ref z])) _ _ _ from aC ?_);apply (show wpAny _ _ (Builtin.Dict.updateFrom "dict.__init__" s.heap.objs.size (.ref z) [] .none) _ _ _ from ?_);unfold Builtin.Dict.updateFrom;apply af (wpAny_typeOf (T:="zip") #[_,z1,U] ?_);rw[aJ (by decide)];apply af (vx z1 hh λh2 V3 k2=>?_);simp only[Option.isNone_none,if_true];have z2:IsZip h2 z TI TO .none:=k2 _ _ z1;apply af (wpAny_rule (af (wpAny_pyIter_zip z2 ?_)));apply aC #[plainId_quiet x_ _,?_];have all:∀c o,s.heap.get? c\o->h2.get? c\o:=λc o q=>k2 _ _ (aS _ q)
 have lt:∀{b},b∈[z,TO,i1,i2]->b<s.heap.objs.size:=λ{b} hb=>by
  let#[nd,ti,ls,hI,#[a,b,hO],s1,s2,Rb]:=D;simp only[bW,gK,or_false] at hb;rcases hb with rfl|rfl|rfl|rfl
  ·exact bp hz
  ·exact bp hO
  ·exact s1.lt.1
  exact s2.lt.1
 apply ZP (A:=A.in1) (knd:=knd) (d:=s.heap.objs.size) (xs:=xs) (ys:=ys) (λhm=>tT _ (lt hm)) hh ks 0 [] _ _ 0 Z1 Z1 (λj k hj=>by simpa using hk j k hj) (D.yZ all) (b0.at λo q=>all _ _ q) (FH iU λo q=>k2 _ _ q) ⇑oq λh' ij iW kp=>#[U,h h' ij ⇑iW λb o hb q=>kp b o (dC (bp q)) hb (all _ _ q)]
end
end dO
namespace dO
open PySem PySem.W PyProof.Rows
section
variable{prog:Ad}{w:Af}{A:Ag}{E:Aa->Ab->Prop}{s:Ab}
theorem gH_{l1 l2 l3:Addr}{xs ys zs:Array Aa}{Q:Aa->Ab->Prop}(a1:s.heap.IsList l1 xs)(a2:s.heap.IsTuple l2 ys)(a3:s.heap.IsTuple l3 zs)
  (h:∀h' z TI TO i1 i2 i3,[z,TO,i1,i2,i3].Nodup->TI∉[z,TO,i1,i2,i3]->(∀b∈[z,TI,TO,i1,i2,i3],s.heap.objs.size<=b)->Zp h' z TI TO .none false->fj h' TI (List.toArray [.ref i1,.ref i2,.ref i3])->fj h' TO (List.toArray [.none,.none,.none])->h'.IsListIter i1 l1 0->h'.IsTupleIter i2 l2 0->h'.IsTupleIter i3 l3 0->(∀c o,s.heap.get? c\o->h'.get? c\o)->Q (.ref z) { s with heap:=h' }):wpAny (model prog w) A (call (.type "zip") [.ref l1,.ref l2,.ref l3]) Q E s:=by
 apply callType_new F.called_zip (by decide) (dy_ _ _ _) (dN_ _ _ _) (λobj=>fE_ obj _ _ _) F.entry_zip_new (ft_ l1 l2 l3 xs ys zs) #[a1,a2,a3,?_];have z1:(m_ s.heap l1).objs.size=s.heap.objs.size+1:=mj ..;have z2:(oM (m_ s.heap l1) l2).objs.size=s.heap.objs.size+2:=by rw[mj,z1]
 have z3:(Cb s.heap l1 l2 l3).objs.size=s.heap.objs.size+3:=by rw[mj,z2]
 have z4:(Ca s.heap l1 l2 l3).objs.size=s.heap.objs.size+4:=by rw[mj,z3]
 have z5:(B_ s.heap l1 l2 l3).objs.size=s.heap.objs.size+5:=by rw[mj,z4]
 have g6:(ym s.heap l1 l2 l3).get? (B_ s.heap l1 l2 l3).objs.size\_:=cy _ U;have g5:(ym s.heap l1 l2 l3).get? (Ca s.heap l1 l2 l3).objs.size\_:=aS _ (cy _ U);have g4:(ym s.heap l1 l2 l3).get? (Cb s.heap l1 l2 l3).objs.size\_:=aS _ (aS _ (cy _ U));have g3:(ym s.heap l1 l2 l3).get? (oM (m_ s.heap l1) l2).objs.size\_:=aS _ (aS _ (aS _ (cy _ U)));have g2:(ym s.heap l1 l2 l3).get? (m_ s.heap l1).objs.size\_:=aS _ (aS _ (aS _ (aS _ (cy _ U))));have g1:(ym s.heap l1 l2 l3).get? s.heap.objs.size\_:=aS _ (aS _ (aS _ (aS _ (aS _ (cy _ U)))));show _/\_;apply#[#[_,g6,U],h _ (B_ s.heap l1 l2 l3).objs.size (Cb s.heap l1 l2 l3).objs.size (Ca s.heap l1 l2 l3).objs.size s.heap.objs.size (m_ s.heap l1).objs.size (oM (m_ s.heap l1) l2).objs.size ?_ ?_ ?_ g6 g4 g5 #[_,g1,U,U] #[_,g2,U,U] #[_,g3,U,U] λc o x=>aS _ (aS _ (aS _ (aS _ (aS _ (aS _ x)))))]
 ·rw[z1,z2,z4,z5];generalize s.heap.objs.size=n;simp
 ·rw[z1,z2,z3,z4,z5];generalize s.heap.objs.size=n;simp
 intro b hb;simp only[bW,gK,or_false] at hb;rcases hb with rfl|rfl|rfl|rfl|rfl|rfl
 ·rw[z5];exact tP _ _
 ·rw[z3];exact tP _ _
 ·rw[z4];exact tP _ _
 ·exact bc _
 ·rw[z1];exact tP _ _
 rw[z2];exact tP _ _
end
end dO
namespace L2
open PySem PySem.Spec PySem.Calls PyProof.Rows PySem.W dO
inductive sk (K:aj) (R:It->Hp->Prop) (vs:ai) (H1:Hp):Prop
 |mk:∀a b c xs ys zs,vs=[.ref a,.ref b,.ref c]->dZ K H1 a xs->fH K H1 b ys->fH K H1 c zs->R (F2 K a b c) H1->sk K R vs H1
def D0(K:aj)(ta:TA):TI:=λσ H R=>ta σ H λvs H1=>sk K R vs H1
theorem Zs{X:Cx}{elts:List Expr}{kk:Nat}{p2:Pos}{a:Expr}{es:List Expr}{ta:TA}{p pos:Pos}(hg:Gl X "zip")(hm:X.mg "zip"=none)(ha:PA X (a::es) ta)(hs:starEach (a::es) X.env=(false,eval a X.env)::starEach es X.env:=by rfl)(iq:(backTo pos (starEach es X.env)).any (·.1)=false:=by rfl):PI X (.Tuple elts kk p2) (.Call (.Name "zip" p) (a::es) [] pos) (D0 X.K ta):=by
 intro pins s σ H R I h;apply Call_ (wB I hg hm boot_zip (BK (aQ (ha pos pins s σ H _ I h) λus s1 ⟨vs,H1,I1,r1,q1⟩=>?_) hs iq));let#[a,b,c,xs,ys,zs,e,q1,q2,q3,q]:=q1;subst e;cases r1 with
 |cons ra rr=>
 cases rr with
 |cons rb rr=>
 cases rr with
 |cons rc rr=>
 cases rr;cases ra;cases rb;cases rc;let#[u1,_,p1,_]:=I1.list q1;let#[u2,_,p2,_]:=I1.tuple q2;let#[u3,_,p3,_]:=I1.tuple q3;have ui:a<s1.heap.objs.size:=by let#[_,e,_]:=p1.isList;exact bp e
 have KG:b<s1.heap.objs.size:=by let#[_,e,_]:=p2;exact bp e
 have XM:c<s1.heap.objs.size:=by let#[_,e,_]:=p3;exact bp e
 apply gH_ p1.isList p2 p3 λh' z TI TO i1 i2 i3 nd ti new hz hI hO Ws s2 s3 kp=>?_;apply wpAny_pyIter_zip hz ?_;apply#[z,[z,TI,TO,i1,i2,i3],_,_,H1,U,I1.kept (t':=s1.toks) kp,gr_ a b c z TI TO i1 i2 i3 nd ti λl hl hm=>?_,#[hz,hI,#[_,_,_,hO],Ws,s2,s3],λd hd=>I1.jI (new d hd) (I1.ay.fresh (new d hd)),q];have hm:s1.heap.objs.size<=l:=new l (by simp at hm ⊢;rcases hm with h|h|h|h|h<;>simp[h])
 simp only[bW,gK,or_false] at hl;rcases hl with rfl|rfl|rfl
 ·exact Nat.not_lt.mpr hm ui
 ·exact Nat.not_lt.mpr hm KG
 exact Nat.not_lt.mpr hm XM
theorem _a{K:aj}{a b c:Addr}{xs ys zs:ai}{g:TG}{tb:TS}{D:Ends}{σ:St}{H:Hp}(l2:ys.length=xs.length)(l3:zs.length=xs.length)(Pv:bO)(h0:Pv 0 σ H)(hl:∀i σ H,i<=xs.length->Pv i σ H->dZ K H a xs/\fH K H b ys/\fH K H c zs)
  (hs:∀i x y z σ H,xs[i]? = some x->ys[i]? = some y->zs[i]? = some z->Pv i σ H->∀t,H t=none->g (.ref t) σ (upd H t (.tup [x,y,z])) λgn H2=>tb { D with nx:=Pv (i+1),ct:=Pv (i+1),bk:=D.nx } gn H2) (hd:∀σ H,Pv xs.length σ H->D.nx σ H) :
  ∃W:Nat->Nat->St->Hp->Prop,(∃m,W 0 m σ H)/\∀i m σ H,W i m σ H->
   ((F2 K a b c).stop i H/\D.nx σ H)∨((F2 K a b c).go i H/\∃N:St->Hp->Prop,(∀aV H',N aV H'->∃m',m'<m/\W (i+1) m' aV H')/\∀x H',(F2 K a b c).uU i H x H'->g x σ H' λgn H2=>tb { D with nx:=N,ct:=N,bk:=D.nx } gn H2):=by
 apply#[λi m σ H=>m=xs.length - i/\i<=xs.length/\Pv i σ H,#[xs.length,by simp,gE _,h0],?_];rintro i m σ H ⟨rfl,hi,p⟩;let#[q1,q2,q3]:=hl i σ H hi p;by_cases dW:i<xs.length
 ·apply .inr #[#[xs,ys,zs,xs[i],ys[i]' Z1,zs[i]' Z1,q1,q2,q3,by simp[dW],by simp[l2,dW],by simp[l3,dW]],Pv (i+1),λaV H' p'=>#[xs.length - (i+1),by omega,U,dW,p'],λv H' y=>?_];let#[t,x,y,z,rfl,ht,y1,y2,y3,rfl]:=y;exact hs i x y z σ H (y1 xs q1) (y2 ys q2) (y3 zs q3) p t ht
 have e:i=xs.length:=by omega
 subst e;exact .inl #[#[xs,q1,U],hd σ H p]
inductive TX (K:aj) (Q:VK) (vs:ai) (H1:Hp):Prop
 |mk:∀(l t:Addr) (ns:ae) (ys:ai),vs=[.ref l,.ref t]->dZ K H1 l (ns.map V.str)->fH K H1 t ys->ys.length=ns.length->ns.length<=1000->(∀d,H1 d=none->Q (.ref d) (upd H1 d (.dK (wb [] ((ns.zip ys).map λp=>(Sum.inr p.1,p.2))))))->TX K Q vs H1
def qv(K:aj)(ta:TA):TE:=λσ H Q=>ta σ H λvs H1=>TX K Q vs H1
theorem Ra:∀{ns:ae} {ys:ai} {us:ag},Vals ys us->KV ((ns.zip ys).map λp=>((Sum.inr p.1:Key),p.2)) ((ns.map Sum.inr).zip us)
 |[],_,_,_=>by simp only[List.zip_nil_left,List.map_nil];exact Paired.nil
 |_::_,_,_,.nil=>by simp only[List.zip_nil_right,List.map_nil];exact Paired.nil
 |n::ns,y::ys,u::us,.cons r t=>.cons #[U,r] (Ra t)
theorem fP_{X:Cx}{a:Expr}{es:List Expr}{ta:TA}{p1 p2 oW oV:Pos}(gD:Gl X "dict")(mD:X.mg "dict"=none)(gZ:Gl X "zip")(mZ:X.mg "zip"=none)(ha:PA X (a::es) ta)(hc:X.calm=true:=by rfl)
  (h1:starEach (a::es) X.env=(false,eval a X.env)::starEach es X.env:=by rfl) (h2:starEach [.Call (.Name "zip" p2) (a::es) [] oV] X.env=(false,eval (.Call (.Name "zip" p2) (a::es) [] oV) X.env)::starEach [] X.env:=by rfl)
  (h3:(backTo oW (starEach [] X.env)).any (·.1)=false:=by rfl) (h4:(backTo oV (starEach es X.env)).any (·.1)=false:=by rfl):PE X (.Call (.Name "dict" p1) [.Call (.Name "zip" p2) (a::es) [] oV] [] oW) (qv X.K ta):=by
 intro pins s σ H Q I h;apply wpAny_Call_Name_kw (wB I gD mD uH ?_ (by decide) (by decide));apply BK ?_ h2 h3;rw[h2];apply (show wpAny _ _ (spliced ((false,eval (.Call (.Name "zip" p2) (a::es) [] oV) X.env)::backTo oW (starEach [] X.env))) _ _ s from Calls.spliced_cons ?_);apply wpAny_Call_Name_kw (wB I gZ mZ boot_zip ?_ (by decide) (by decide));apply BK (aQ (ha oV pins s σ H _ I h) λus s1 ⟨vs,H1,I1,r1,q1⟩=>?_) h1 h4;let#[l,t,ns,ys,e,sq,Wi,ly,oq,q]:=q1;subst e;cases r1 with
 |cons ra rr=>
 cases rr with
 |cons rb rr=>
 cases rr;cases ra;cases rb;let#[u1,v1,p1,_]:=I1.list sq;let#[u2,v2,p2,_]:=I1.tuple Wi;let e1:=v1.length;let e2:=v2.length;rw[au] at e1;apply gj_ p1.isList p2 λh' z TI TO i1 i2 D hz new kp=>?_;have I2:Inv X pins σ H1 { s1 with heap:=h' }:=I1.kept (t':=s1.toks) kp;apply Calls.spliced_nil ?_;apply fy_ (knd:=ft X.prog X.w) (s:={ s1 with heap:=h' }) (ks:=ns.map Sum.inr) (I1.ok.hd hc) D hz (p1.isList.at λo e=>kp _ _ e) (by rw[au];omega) (by rw[au];omega) (λj k hj=>?_) (by rw[au];exact oq) λhG tk hd Yh=>?_
 ·rw[dF,B0] at hj;let#[n,hn,rfl]:=hj;let#[u,hu,ru]:=v1.get (i:=j) (x:=V.str n) (by rw[dF,hn];rfl);exact#[u,hu,Ar (k:=Sum.inr n) ru]
 have hk:∀b o,s1.heap.get? b\o->hG.get? b\o:=λb o e=>Yh b o (λhm=>Nat.not_lt.mpr (new b hm) (bp e)) (kp _ _ e);have fresh:s1.heap.objs.size<=h'.objs.size:=Nat.le_of_lt (Nat.lt_of_le_of_lt (new z Z2) (bp hz));let big:=I2.big;apply#[.ref h'.objs.size,_,I1.laid (t':=tk) hk fresh (Hl ?_ (beq_eq_false_iff_ne.mpr (bG (dC big))) (KV.eW (Ra v2) .nil) hd),U,q _ (I1.ay.fresh fresh)];show (wb [] ((ns.zip ys).map λp=>((Sum.inr p.1:Key),p.2))).length<=sizeLine;have:=ON ((ns.zip ys).map λp=>((Sum.inr p.1:Key),p.2)) [];rw[au,List.length_zip] at this;have:=cU;simp only[List.length_nil] at *;omega
end L2
namespace dO
open PySem PySem.W PyProof.Rows
section
variable{prog:Ad}{w:Af}{A:Ag}{E:Aa->Ab->Prop}{s:Ab}
theorem N7(hh:A.handled=none)(it l:Addr)(ne:l≠it)(xs:Array Aa):Draws prog w A it [it,l] xs.size (λi v=>xs[i]? = some v) λi h=>h.IsTupleIter it l i/\h.IsTuple l xs where
 live:=λi h ⟨⟨o,e,_⟩,_⟩=>#[o,e]
 frame:=λi h h' ⟨a,b⟩ k=>#[a.at λo e=>k it Z2 o e,by let#[o,e,r]:=b;exact#[o,k l Z2 o e,r]]
 item:=λi s Q E hi ⟨a,b⟩ h=>nextT a b (Array.getElem?_eq_getElem hi) λh' a' sb=>h _ h' s.toks (Array.getElem?_eq_getElem hi) #[a',b.extBut sb.extBut ne] sb
 done:=λs Q E ⟨a,b⟩ hE=>by
  let#[o,ho,hc,hd]:=id a;let#[u,hu,_,n,hv]:=b;have hx:xs[xs.size]? = none:=Array.getElem?_eq_none (bc _);unfold Builtin.SmallTypes.nextOf;apply af (uC (name:=Str.ofString "__next__") a.typeIs F.slot_tuple_iterator_next (s_ F.slot_tuple_iterator_next a.typeIs F.entry_tuple_iterator_next ?_ (F.args_tuple_iterator_next_1 _)));apply (show wpAny _ _ (field (.ref it) 0 >>= _) _ _ s from af (fM ho hd (x:=.ref l) U ?_));apply (show wpAny _ _ (if (Value.ref l == Value.none)=true then _ else _) _ _ s from ?_);rw[aB (show ¬((Value.ref l == Value.none)=true) from gc)];apply (show wpAny _ _ (field (.ref it) 1 >>= _) _ _ s from af (fM ho hd (x:=.int xs.size 0) U ?_));apply (show wpAny _ _ (seqItems? (.ref l) >>= _) _ _ s from af (jL hu hv ?_));simp only[yf,hx];apply af (wpAny_rule (af (wpAny_setField ho hd Z2 ?_)));apply (show wpAny _ _ (newExc (.type "StopIteration") [] >>= _) _ _ _ from af ?_);simp only[newExc,newTuple];apply af (p0 ?_ (by size_fits));apply af (m:=firstArgMember _ _) (wpAny_of_eq (a:=Value.none) (by first|rfl|(simp only[firstArgMember];rfl)) ?_);apply p0 ?_ (by size_fits);simp only[raiseNew];apply af (wpAny_handled ?_)
  first|rw[show A.in1.handled=none from hh]|rw[hh]
  apply af (aC (wpAny_throw ?_));exact hE _ _ (((Heap.SameBut.update ..).extBut.push _).push _) #[_,cy _ U,U]
theorem ek_(l:Addr)(xs:Array Aa):Meets (Builtin.«enumerate.__new__» #[[.type "enumerate",.ref l],[]]) (λ_ R s=>s.heap.IsTuple l xs /\
   R (.ok (.ret (.ref (oM s.heap l).objs.size))) { s with heap:=(oM s.heap l).push { cls:=.type "enumerate",data:=.fields (List.toArray [.none,.bool false,.ref s.heap.objs.size,rawInt 0,.none,.none]) } }):=
 .of_wp λprog w A R s h=>by
  let#[hp,g,d,tk,os]:=s;let#[a,h]:=h;let zy:=sub_enumerate;let#[o,ho,hc,n,hd]:=id a;have hL:Heap.IsTuple (Shared.heap #[hp,g,d,tk,os]) l xs:=a
  wp_walk using AutoSeq1.wpAny_loadPart' ho
  apply wpAny_stack_any λst=>aC ?_;split
  ·rename_i c _ _ _ _ _
   cases (c == Value.type "enumerate")
   ·wp_walk using AutoSeq1.wpAny_loadPart' ho,wpAny_pyIter_tuple hL
    exact#[_,U,h]
   wp_walk using AutoSeq1.wpAny_loadPart' ho,wpAny_pyIter_tuple hL
   exact#[_,U,h]
  wp_walk using AutoSeq1.wpAny_loadPart' ho,wpAny_pyIter_tuple hL
  exact#[_,U,h]
end
end dO
namespace dO
open PySem PySem.W PyProof.Rows
section
variable{prog:Ad}{w:Af}{A:Ag}{E:Aa->Ab->Prop}{s:Ab}
theorem fB_{l:Addr}{xs:Array Aa}{Q:Aa->Ab->Prop}(hL:s.heap.IsTuple l xs)
  (h:∀h',IsEnum h' (s.heap.objs.size+1) s.heap.objs.size 0 .none->h'.IsTupleIter s.heap.objs.size l 0->(∀b o,s.heap.get? b\o->h'.get? b\o)->Q (.ref (s.heap.objs.size+1)) { s with heap:=h' }) :
  wpAny (model prog w) A (call (.type "enumerate") [.ref l]) Q E s:=by
 apply callType_new F.called_enumerate (by decide) (F.typeCall_enumerate_1 _) (F.newCall_enumerate_1 _) (λobj=>F.args_object_init_2 obj _) F.entry_enumerate_new (ek_ l xs) #[hL,?_];have hz:(oM s.heap l).objs.size=s.heap.objs.size+1:=mj ..;have g2:((oM s.heap l).push { cls:=.type "enumerate",data:=.fields (List.toArray [.none,.bool false,.ref s.heap.objs.size,rawInt 0,.none,.none]) }).get? (oM s.heap l).objs.size\_:=cy _ U;have g1:((oM s.heap l).push { cls:=.type "enumerate",data:=.fields (List.toArray [.none,.bool false,.ref s.heap.objs.size,rawInt 0,.none,.none]) }).get? s.heap.objs.size\_:=aS _ (cy _ U);show _/\_;rw[hz] at g2 ⊢;exact#[#[_,g2,U],h _ g2 #[_,g1,U,U] λb o x=>aS _ (aS _ x)]
end
end dO
namespace L2
open PySem PySem.Spec PyProof.Rows PySem.W dO
def t7(K:aj)(a:Addr):It:=
 #[λi H=>∃xs x,fH K H a xs/\xs[i]? = some x,λi H y H'=>∃t x,y=.ref t/\H t=none/\(∀xs,fH K H a xs->xs[i]? = some x)/\H'=upd H t (.tup [.int i,x]),λi H=>∃xs,fH K H a xs/\xs.length=i]
theorem fm_{P:Ad}{w:Af}{K:aj}{elts:List Expr}{k:Nat}{pos:Pos}(a e it:Addr)(h1:e≠it)(h2:a≠e)(h3:a≠it):Turn P w K (.Tuple elts k pos) (t7 K a) [e,it] e (λi h=>(∃old,IsEnum h e it i old)/\h.IsTupleIter it a i) where
 mem:=by simp
 obj:=λi h st b hb=>by
  let#[#[old,q],o,e2,c,d]:=st;rcases bW.mp hb with rfl|hb
  ·exact#[_,q,λv z=>by cases z]
  obtain rfl:b=it:=⇑hb
  exact#[o,e2,λv z=>by rw[d] at z;cases z]
 keep:=λi h h' st kk=>by
  let#[#[old,q],gq]:=st;exact#[#[old,kk e Z2 _ q],gq.at λo q2=>kk it Z2 o q2]
 item:=by
  intro X hP hw hK hc i pins s σ H E I hf st hg;subst hP hw hK;let#[xs,x,hq,hx]:=hg;let#[its,rv,p,hz]:=I.tuple hq;let#[u,hu,ru]:=rv.get hx;have p:s.heap.IsTuple a its.toArray:=p;let W:=WalksT.enumerateD (A:=X.A) (N7 (prog:=X.prog) (w:=X.w) (A:=X.A.in1) (I.ok.hd hc) it a h3 its.toArray) e h1 (by simp[h1,bG h2]) Z2
  have hi:i<its.toArray.size:=by
   simp only[cQ];exact (b_.mp hu).1
  let#[old,he]:=st.1;apply wpAny_pyNext_enum_itemD (N7 (prog:=X.prog) (w:=X.w) (A:=X.A.in1) (I.ok.hd hc) it a h3 its.toArray) he #[st.2,p] hi h1 (by simp[h1,bG h2]) λx' h' t hx' ho fI LU hsz hk=>?_
  have ex:x'=u:=by
   rw[List.getElem?_toArray,hu] at hx';exact (cu hx').symm
  subst ex;have LD:e<s.heap.objs.size:=bp he;have Lu:it<s.heap.objs.size:=by let#[_,x,_]:=st.2;exact bp x
  have mid:(∃x,IsEnumOut h' e it ((i:Int)+1) x s.heap.objs.size)/\(h'.IsTupleIter it a (i+1)/\h'.IsTuple a its.toArray)/\s.heap.objs.size≠e/\s.heap.objs.size≠it:=#[#[_,ho],fI,i_ LD,i_ Lu];have kk:∀b o,b∉[e,it]->s.heap.get? b\o->h'.get? b\o:=λb o hb x=>hk b o (λe'=>hb (by simp[e'])) (λe'=>hb (by simp[e'])) x;have xx:h'.IsTuple s.heap.objs.size (List.toArray [.int i t,x']):=#[_,LU,U,_,U];obtain⟨T,eT⟩:∃T,T=s.heap.objs.size:=#[_,U];obtain⟨tk,GT⟩:∃tk,tk=t+1:=#[_,U];rw[<- eT] at xx mid LU ⊢;have hT:s.heap.objs.size<=T:=Nat.le_of_eq eT.symm;rw[<- GT];apply#[_,U,W.go elts k pos i T { s with heap:=h',toks:=tk } _ _ mid λhG fI KW=>?_];have nT:T∉[e,it]:=W.apart i T h' mid
  have vH:hG.IsTuple T (List.toArray [.int i t,x']):=by
   let#[o,q,r]:=xx;exact#[o,KW T o nT q,r]
  have I1:Inv X pins σ (upd H T (.tup [.int i,x])) { s with heap:=hG,toks:=tk }:=I.iN (t':=tk) (fp:=[e,it]) (its:=[.int i t,x']) (λb o hb q=>KW b o hb (kk b o hb q)) hf hT (zl) (.cons #[t,U] (.cons ru .nil)) #[vH,_,KW T _ nT LU,U];apply#[.ref T,_,I1,U,#[T,x,U,I.ay.fresh hT,λys hy=>by rw[I.dS hy hq];exact hx,U],#[?_,fI.2.1],λb hb=>?_]
  ·let#[old,q]:=fI.1;exact#[old,by simpa using q]
  rw[ax (λz:b=T=>nT (by rw[<- z];exact hb))];exact (hf b hb).1
 done:=by
  intro X hP hw hK hc i pins s σ H E I hf st hg;subst hP hw hK;let#[xs,hq,hx]:=hg;let#[its,rv,p,hz]:=I.tuple hq;have p:s.heap.IsTuple a its.toArray:=p;let W:=WalksT.enumerateD (A:=X.A) (N7 (prog:=X.prog) (w:=X.w) (A:=X.A.in1) (I.ok.hd hc) it a h3 its.toArray) e h1 (by simp[h1,bG h2]) Z2
  have hn:its.toArray.size=i:=by
   have:=rv.length;simp only[cQ];omega
  apply W.done s _ _ (by rw[hn];exact#[st.1,st.2,p]) λh' tk kk=>#[U,I.gT (t':=tk) (fp:=[e,it]) kk hf]
 self:=λA i s Q E st h=>by
  let#[old,q]:=st.1;exact wpAny_pyIter_enum q h
inductive n5 (K:aj) (R:It->Hp->Prop) (vs:ai) (H1:Hp):Prop
 |mk:∀a,vs=[.ref a]->(∃xs,fH K H1 a xs)->R (t7 K a) H1->n5 K R vs H1
def zu(K:aj)(ta:TA):TI:=λσ H R=>ta σ H λvs H1=>n5 K R vs H1
theorem hD_{X:Cx}{elts:List Expr}{kk:Nat}{p2:Pos}{a:Expr}{ta:TA}{p pos:Pos}(hg:Gl X "enumerate")(hm:X.mg "enumerate"=none)(ha:PA X [a] ta)(hs:starEach [a] X.env=[(false,eval a X.env)]:=by rfl):PI X (.Tuple elts kk p2) (.Call (.Name "enumerate" p) [a] [] pos) (zu X.K ta):=by
 intro pins s σ H R I h;apply Call_ (wB I hg hm boot_enumerate (BK (aQ (ha pos pins s σ H _ I h) λus s1 ⟨vs,H1,I1,r1,q1⟩=>?_) hs U));let#[l,e,#[xs,hq],q]:=q1;subst e;cases r1 with
 |cons r rr=>
  cases rr;cases r;let#[its,rv,pl,hz]:=I1.tuple hq;have pl:s1.heap.IsTuple l its.toArray:=pl;have ll:l<s1.heap.objs.size:=by let#[_,e,_]:=pl;exact bp e
  apply fB_ pl λh' he hi kp=>?_;apply wpAny_pyIter_enum he ?_;apply#[s1.heap.objs.size+1,[s1.heap.objs.size+1,s1.heap.objs.size],_,_,H1,U,I1.kept (t':=s1.toks) kp,fm_ l _ _ (Nat.succ_ne_self _) (dC (Nat.lt_succ_of_lt ll)) (dC ll),#[#[_,he],hi],λb hb=>?_,q]
  have e:s1.heap.objs.size<=b:=by
   rcases bW.mp hb with rfl|hb
   ·exact Nat.le_succ _
   obtain rfl:b=s1.heap.objs.size:=⇑hb
   exact bc _
  exact I1.jI e (I1.ay.fresh e)
theorem gA_{K:aj}{a:Addr}{xs:ai}{g:TG}{tb:TS}{D:Ends}{σ:St}{H:Hp}(Pv:bO)(h0:Pv 0 σ H)(hl:∀i σ H,i<=xs.length->Pv i σ H->fH K H a xs)
  (hs:∀i x σ H,xs[i]? = some x->Pv i σ H->∀t,H t=none->g (.ref t) σ (upd H t (.tup [.int i,x])) λgn H2=>tb { D with nx:=Pv (i+1),ct:=Pv (i+1),bk:=D.nx } gn H2) (hd:∀σ H,Pv xs.length σ H->D.nx σ H) :
  ∃W:Nat->Nat->St->Hp->Prop,(∃m,W 0 m σ H)/\∀i m σ H,W i m σ H->
   ((t7 K a).stop i H/\D.nx σ H)∨((t7 K a).go i H/\∃N:St->Hp->Prop,(∀aV H',N aV H'->∃m',m'<m/\W (i+1) m' aV H')/\∀x H',(t7 K a).uU i H x H'->g x σ H' λgn H2=>tb { D with nx:=N,ct:=N,bk:=D.nx } gn H2):=by
 apply#[λi m σ H=>m=xs.length - i/\i<=xs.length/\Pv i σ H,#[xs.length,by simp,gE _,h0],?_];rintro i m σ H ⟨rfl,hi,p⟩;let q:=hl i σ H hi p;by_cases dW:i<xs.length
 ·apply .inr #[#[xs,xs[i],q,by simp[dW]],Pv (i+1),λaV H' p'=>#[xs.length - (i+1),by omega,U,dW,p'],λx H' y=>?_];let#[t,x,rfl,ht,y,rfl]:=y;exact hs i x σ H (y xs q) p t ht
 have e:i=xs.length:=by omega
 subst e;exact .inl #[#[xs,q,U],hd σ H p]
def yu(tk tv:TE):TE:=λσ H Q=>∀p,H p=none->tk σ (upd H p (.dT [])) λx H1=>tv σ H1 λy H2=>H2 p\.dT []/\∃b k,x=.ref b/\H2 b\.tup (k.map kV)/\Q (.ref p) (upd H2 p (.dT [(k,y)]))
theorem SY{X:Cx}{pos:Pos}{k v:Expr}{tk tv:TE}(hu:X.A.units+1<cLine)(hk:PE X k tk)(hv:PE X v tv):PE X (.Dict [some k] [v] pos) (yu tk tv):=by
 intro pins s σ H Q I q;let hn:=I.ay.fresh (bc s.heap.objs.size);let I1:=I.laid (a:=s.heap.objs.size) (o:=.dT []) (h':=s.heap.push { cls:=.type "dict",data:=.dict #[] }) (t':=s.toks) (λ_ _ q=>aS _ q) (bc _) (SV s.heap I.big);let shape:=zip_pairTrees [some k] [v] X.env pos U U;rw[arm_eval_Dict,shape,dictDisplay_pairs (pairTrees [some k] [v] X.env pos) (by intro e;exact absurd (eG List.length e) (by rw[pairTrees_length [some k] [v] X.env pos U U];exact Nat.one_ne_zero)) (by rw[pairTrees_length [some k] [v] X.env pos U U];exact (by decide:1<17))];apply af (wpAny_standAt (af ?_));unfold subDict;apply af (wpAny_alloc (af (iK ?_)));rw[aJ (by rw[pairTrees_length [some k] [v] X.env pos U U];exact (by decide:1<=15))];apply af (pairTrees_cons_walk (aQ (hk pins _ σ _ _ I1 (q _ hn)) λu s2 ⟨x,H2,I2,rx,q2⟩=>aQ (hv pins s2 σ H2 _ I2 q2) λr s3 ⟨y,H3,I3,ry,e,b,kk,ex,eb,q3⟩=>pairTrees_nil_walk ?_));subst ex;cases rx;let#[z,hd,xs,rel,dd]:=QI I3.ay e;cases rel;apply iK ?_;apply af ?_;simp only[qb,uS];apply af (af (wpAny_dictSet_heap (hsz:=by simp) (show (tupleKind (ft X.prog X.w)).room X.A from Nat.lt_of_succ_lt hu) (BG I3.ay eb) dd λh' xW hs=>aC (aC (aC (aC (aC ?_))))));let#[ob,es,ep,hq,h2,h3,h4,_,h5]:=xW;apply#[.ref s.heap.objs.size,_,Mz (ob:=.dT [(kk,y)]) I3 (by rw[e];exact True.intro) hs #[ob,hq] #[zl,hd,_,(KT.put (H:=H3) (kvs:=[]) (xs:=[]) .nil kk eb ry).keeps λc ys ec=>?_,ob,es,ep,hq,h2,h3,h4,h5],U,q3];rw[ax (bK ec e nofun)];exact ec
end L2
namespace L2
open PySem PySem.Spec PyProof.Rows
section
variable{X:Cx}
end
end L2
namespace L2
open PySem PySem.Spec PyProof.Rows PySem.Builtin PySem.Builtin.Str
theorem SW:∀{ss:ae} {us:ag},Vals (ss.map V.str) us->StrsAre us ss
 |[],_,.nil=>.nil
 |x::ss,_,.cons r rs=>by
  let#[t,rfl]:=r;exact .cons x t (SW rs)
section
variable{X:Cx}
end
end L2
namespace L2
open PySem PySem.Spec PyProof.Rows PySem.W
section
variable{X:Cx}
end
end L2
namespace L2
open PySem PySem.Spec PyProof.Rows PySem.W
section
variable{X:Cx}
end
end L2
namespace dO
open PySem PySem.W PyProof.Rows
section
variable{prog:Ad}{w:Af}{A:Ag}{E:Aa->Ab->Prop}{s:Ab}
end
end dO
namespace L2
open PySem PySem.Spec PyProof.Rows PySem.W dO
section
variable{X:Cx}{o i e value:Expr}{pos pos' Cs:Pos}{td ty tv:TE}
end
section
variable{X:Cx}
end
end L2
namespace L2
open PySem PySem.Spec PyProof.Rows PySem.W dO
section
variable{X:Cx}
end
section
variable{X:Cx}{CX:kK}{k:Nat}{f C:Addr}{fd:Ae}{ps ks:ae}{sp:Sp}{E:XK}{m:Str}{pos apos:Pos}{e o:Expr}{es:List Expr}{Bg:List Keyword}{ta:TE}{t tk:TA}{g:ag->ag->ag}{gV:ai->ai->ai}
end
structure FunD (K:aj) (x qual:Str) (st:Stmt) (f:Addr) (fd:Ae):Prop where
 ex:∃(oc:Aa) (od:Option Addr) (T:Addr) (kV doc pm:Aa) (an:Option Addr) (aM ct:Aa) (jx:Array (Option Aa)) (o:Obj) (n:Nat),
  fd=PySem.W.fnOf x qual (hU st) (gz st) (aX st) (.ref T) kV doc pm an aM ct/\K.lookup f=some #[oc,od,.func fd,jx]/\PySem.W.codeIn K aM qual=true/\K.lookup T\o/\o.data=.seq (List.toArray [.none]) n
end L2
namespace L2
open PySem PySem.Spec PyProof.Rows PySem.W dO
open AutoSeq1 (wpAny_loadPart')
theorem cY_{prog:Ad}{w:Af}(r:Addr)(o:Obj)(hc:o.cls=.type "dict_values")(φ:ag->Ab->Prop) :
  MeetsIn prog w (Builtin.«tuple.__new__» #[[.type "tuple",.ref r],[]]) (λA R s=>s.heap.get? r\o/\A.handled=none/\(∀(A':Ag) (E':Aa->Ab->Prop) (Rr:ag->Ab->Prop),A'.handled=none->(∀vs s1,φ vs s1->Rr vs s1)->wpAny (model prog w) A' (collect (.ref r)) Rr E' s)/\∀vs s1,φ vs s1->vs.length<=sizeLine/\R (.ok (.ret (.ref s1.heap.objs.size))) { s1 with heap:=s1.heap.push { cls:=.type "tuple",data:=.seq vs.toArray } }):=
 .of_wp λA R s h=>by
  let#[hp,g,d,tk,os]:=s;let#[ht,hh,col,h]:=h;let zy:=sub_tuple_self;let RD:=init_tuple_lookup;let hmh:=madeHere_tuple;have hT:Shared.TypeIs #[hp,g,d,tk,os] (.ref r) "dict_values":=#[o,ht,hc];have NO:∀{Rr:ag->Ab->Prop} {E':Aa->Ab->Prop},(∀vs s1,φ vs s1->Rr vs s1)->wpAny (model prog w) A.in1 (collect (.ref r)) Rr E' #[hp,g,d,tk,os]:=λh=>col A.in1 _ _ hh h
  wp_walk using pA ht,wpAny_typeOf hT,NO
  intro vs s1 hv;let#[hz,h]:=h vs s1 hv;apply (show wpAny _ _ (Builtin.Tuple.tupleExact vs.toArray >>= λv=>ret v) _ _ _ from ?_);unfold Builtin.Tuple.tupleExact;apply af (p0 ?_ (by show vs.toArray.size<=sizeLine;simpa using hz));exact aC #[_,U,h]
section
variable{X:Cx}
inductive xg (xs:ai) (H:Hp) (Q:VK):Prop
 |mk:∀v d kvs,xs=[.ref v]->H v\uG v d->H d\.dK kvs->(∀l,H l=none->Q (.ref l) (upd H l (.tup (kvs.map (·.2)))))->xg xs H Q
theorem fT_(hc:X.calm=true):gG X (.type "tuple") xg:=by
 intro pins s σ H xs us Q I r h;let#[v,d,kvs,rfl,hv,hd,q]:=h;let#[u,rfl,ru]:=vals1 r;cases ru;let#[z,hdn,vs,rel,dd]:=jM I.ay (.inl hd);let#[ep,dat]:=dd.dictAt;let#[iv,_,_]:=I.ay v _ hv;let hl:=rel.length;let#[o,ho,oc,_]:=id iv
 have col:∀(A':Ag) (E':Aa->Ab->Prop) (Rr:ag->Ab->Prop),A'.handled=none->(∀ws s1,(Inv X pins σ H s1/\Vals (kvs.map (·.2)) ws)->Rr ws s1)->wpAny (model X.prog X.w) A' (collect (.ref v)) Rr E' s:=λA' E' Rr hh q=>by
  apply kdu_collect (kdl_values (knd:=ft X.prog X.w) (kvs:=vs) (ep:=ep)) hh #[iv,dat] Z1 λh' tk acc k a=>q _ _ #[I.kept k,?_];have a':ItemsOf (λi v=>∃k,vs[i]? = some (k,v)) acc (kvs.map (·.2)).length:=by rw[au,hl];exact a
  apply Jj a' λj v ⟨k,e⟩ y hy=>?_;rw[dF] at hy;cases e3:kvs[j]? with
  |none=>rw[e3] at hy;cases hy
  |some kv=>
   rw[e3] at hy;let#[u,hu,ru]:=Mf rel j (k:=kv.1) (x:=kv.2) e3;rw[e] at hu;let hu:=cu hu;have g2:v=u:=eG Prod.snd hu;cases (cu hy:kv.2=y);rw[g2];exact ru
 apply callType_newIn F.called_tuple (by decide) (F.typeCall_tuple_1 _) (F.newCall_tuple_1 _) (λobj=>F.args_object_init_2 obj _) F.entry_tuple_new
  (cY_ v o oc λws s1=>Inv X pins σ H s1/\Vals (kvs.map (·.2)) ws) #[ho,I.ok.hd hc,col,λws s1 ⟨I1,r1⟩=>#[?_,#[_,cy _ U,U],?_]]
 ·rw[<- r1.length,au];exact z
 exact#[.ref s1.heap.objs.size,_,I1.laid (t':=s1.toks) (λb o e=>aS _ e) (bc _) (show fC X.prog X.w _ _ _ (.tup (kvs.map (·.2))) from #[by rw[au];exact z,ws,r1,IsTup.new _ _,_,cy _ U,U]),U,q _ (I1.ay.fresh (bc _))]
end
end L2
namespace L2
open PySem PySem.Spec PyProof.Rows PySem.W dO
theorem Z8{prog:Ad}{w:Af}{A:Ag}{E:Aa->Ab->Prop}{s:Ab}{t b:Addr}{ws:ag}{Q:Aa->Ab->Prop}(ht:IsTup s.heap t #[])(hb:IsTup s.heap b ws.toArray)(h:Q (.ref b) s):wpAny (model prog w) A (binaryOp .Add (.ref t) (.ref b)) Q E s:=by
 let#[#[cls,dd,data,sl],ho,hc,n,hd]:=id ht;let#[#[NR,Ig,data2,Gk],fA,ko,n2,hd2]:=id hb;simp only at hc hd ko hd2;subst hc hd ko hd2;exact concat_meets #[_,ho,U] #[_,fA,U] noFill_tuple_add seq_tuple_add PySem.F.slot_tuple_add PySem.F.entry_tuple_add (PySem.F.args_tuple_add_2 _ _) (tuple_addW0 t b #[] ws.toArray n n2 dd Ig sl Gk U) #[ho,fA,h]
inductive xn (x:V) (y:V) (H:Hp) (Q:VK):Prop
 |mk:∀a b xs ys,x=.ref a->y=.ref b->H a\.tup xs->H b\.tup ys->xs.length+ys.length<=sizeLine->(∀p H',aa H H'->H' p\.tup (xs++ys)->Q (.ref p) H')->xn x y H Q
theorem HW{X:Cx}:dN X (binaryOp .Add) xn:=by
 intro pins s σ H x y v u Q I rx ry h;let#[a,b,xs,ys,rfl,rfl,ha,hb,hz,q]:=h;cases rx;cases ry;let#[its,r1,p1,_]:=I.tuple (.of ha);let#[ip,r2,p2,_]:=I.tuple (.of hb);by_cases z:its=[]
 ·subst z;let e:=r1.nU.mp rfl;exact Z8 p1 p2 ⟨.ref b,H,I,rfl,q _ _ (aa.refl H) (by rw[e];exact hb)⟩
 apply HT.wc p1 p2 z (λz2=>⟨.ref a,H,I,rfl,q _ _ (aa.refl H) ?_⟩) (λz2=>?_) (by rw[<- r1.length,<- r2.length];exact hz)
 ·rw[r2.nU.mp z2,List.append_nil];exact ha
 apply⟨.ref s.heap.objs.size,_,I.laid (t':=s.toks) (o:=.tup (xs++ys)) (λb ob q=>aS _ q) (bc _) ?_,rfl,q _ _ (aa.new (I.ay.fresh (bc _))) az⟩;exact⟨by rw[eM];exact hz,_,r1.append r2,IsTup.new _ _,_,cy _ rfl,rfl⟩
end L2
namespace dO
open PySem PySem.W PyProof.Rows
theorem fi_{prog:Ad}{w:Af}(d:Addr)(es:Array DictEntry)(ep:Nat)(hd:(d == sysModules)=false):MeetsIn prog w (Builtin.«dict.__len__» ⟨[.ref d],[]⟩) (λ_ R s=>Raw s.heap d es ep/\R (.ok (.ret (.int es.size s.toks))) { s with toks:=s.toks+1 }):=
 .of_wp λA R s ⟨hm,h⟩=>by
  let#[o,ho,hc,jF]:=hm;apply (show wpAny _ _ (dictSize d >>= _) _ _ s from ?_);unfold dictSize;apply af (af (wpAny_dictEntries ho jF (aC ?_)));apply (show wpAny _ _ (Builtin.Dict.pendingCount d >>= _) _ _ s from af (wpAny_pendingCount_other hd ?_));apply wpAny_ret_mkInt ?_;rw[Nat.add_zero];exact h
theorem h2_{prog:Ad}{w:Af}{A:Ag}{E:Aa->Ab->Prop}{s:Ab}{d:Addr}{es:Array DictEntry}{ep:Nat}{Q:Aa->Ab->Prop}(hd:(d == sysModules)=false)(hm:Raw s.heap d es ep)(hfit:(es.size:Int)<2 ^ 63)
  (h:Q (.int es.size (s.toks+1)) { s with toks:=s.toks+1+1 }):wpAny (model prog w) A (call (.builtin "len") [.ref d]) Q E s:=by
 apply Calls.call_function_entry kind_len plain_len entry_len (args_len1 _) ?_;unfold Builtin.«len»;apply af (m:=oneArg "len" _) (aC ?_);apply af (m:=callSpecial? (.ref d) (Str.ofString "__len__")) (uC (name:=Str.ofString "__len__") hm.ty F.slot_dict_len (call_meetsIn F.slot_dict_len hm.ty F.entry_dict_len (F.args_dict_len_1 _) (fi_ d es ep hd) #[hm,?_]));apply (show wpAny _ _ _ _ _ { s with toks:=s.toks+1 } from af (iK (aC ?_)));apply af (wpAny_letGo ?_);apply (show wpAny _ _ (if ((es.size:Nat):Int)<0 then _ else _) _ _ _ from ?_);rw[aB Z1];apply (show wpAny _ _ (if ((es.size:Nat):Int) ≥ 2 ^ 63 then _ else _) _ _ _ from ?_);rw[aB Z1];exact af (wpAny_mkInt (aC #[_,U,h]))
end dO
namespace L2
open PySem PySem.Spec PyProof.Rows PySem.W dO
inductive UL (xs:ai) (H:Hp) (Q:VK):Prop
 |mk:∀a kvs,xs=[V.ref a]->H a\.dT kvs->Q (.int kvs.length) H->UL xs H Q
theorem TF{X:Cx}:gG X (.builtin "len") UL:=by
 intro pins s σ H xs us Q I r h;let#[a,kvs,rfl,ha,q]:=h;let#[u,rfl,ru]:=vals1 r;cases ru;let#[z,hd,xs,rel,o,es,ep,ho,hc,jF,vP,nd]:=I.ay a _ ha
 have l1:es.size=xs.length:=by
  have:=eG List.length vP;simpa using this
 let l2:=bj rel;let sz:=cU;apply h2_ (es:=es) (ep:=ep) hd ⟨o,ho,hc,jF⟩ Z1 ⟨.int kvs.length,H,I.tok _,⟨_,by rw[l2,<- l1]⟩,q⟩
end L2
namespace Ev
open PySem L2
abbrev ak:=ae
def sK(s:ak):av:=s.map Sum.inr
abbrev sV(s:ak):ai:=s.map V.str
theorem rq(s:ak):(sK s).map kV=sV s:=by
 unfold sK;rw[cY];rfl
theorem Mb{a b:ak}(h:sK a=sK b):a=b:=by
 unfold sK at h;exact List.map_inj_right (λx y e=>iy e) |>.mp h
inductive Wk (N:ak->ak->Prop) (s0:ak):Nat->ak->Prop
 |z:Wk N s0 0 s0
 |s {k:Nat} {a b:ak}:Wk N s0 k a->N a b->Wk N s0 (k+1) b
def Ds(N:ak->ak->Prop)(s0:ak)(k:Nat)(s:ak):Prop:=Wk N s0 k s/\∀j,j<k->¬Wk N s0 j s
section
variable{N:ak->ak->Prop}{s0:ak}
theorem Wk.ds:∀{k:Nat} {s:ak},Wk N s0 k s->∃j,j<=k/\Ds N s0 j s:=λ{k s} h=>by
 induction k using Nat.strongRecOn with
 |_ k ih=>
  by_cases c:∃j,j<k/\Wk N s0 j s
  ·let#[j,hj,hw]:=c;let#[i,hi,d]:=ih j hj hw;exact#[i,by omega,d]
  exact#[k,bc _,h,λj hj hw=>c #[j,hj,hw]]
theorem Ds.prev{k:Nat}{s:ak}(h:Ds N s0 (k+1) s):∃a,Ds N s0 k a/\N a s:=by
 let#[hw,hn]:=h;cases hw with
 |@s _ a _ ha xO=>exact#[a,#[ha,λj hj hw=>hn (j+1) Z1 (.s hw xO)],xO]
theorem Ds.down:∀{k:Nat} {s:ak},Ds N s0 k s->∀i,i<=k->∃t,Ds N s0 i t
 |0,s,h,i,hi=>#[s,by rw[show i=0 by omega];exact h]
 |k+1,s,h,i,hi=>by
  by_cases c:i=k+1
  ·exact#[s,by rw[c];exact h]
  let#[a,ha,_]:=h.prev;exact ha.down i Z1
theorem Ds.inj{j k:Nat}{s:ak}(h:Ds N s0 j s)(h2:Ds N s0 k s):j=k:=by
 rcases Nat.lt_trichotomy j k with c|c|c
 ·exact absurd h.1 (h2.2 j c)
 ·exact c
 exact absurd h2.1 (h.2 k c)
structure Bf (N:ak->ak->Prop) (s0:ak) (k:Nat) (ks nw:List ak):Prop where
 nd:ks.Nodup
 nn:nw.Nodup
 all:∀s,s∈ks ↔ ∃j,j<=k/\Wk N s0 j s
 new:∀s,s∈nw ↔ Ds N s0 k s
structure Wd (old seen ks fd:List ak):Prop where
 nd:ks.Nodup
 nf:fd.Nodup
 all:∀s,s∈ks ↔ s∈old∨s∈seen
 new:∀s,s∈fd ↔ s∈seen/\s∉old
theorem Wd.start{old:List ak}(nd:old.Nodup):Wd old [] old []:=#[nd,.nil,by simp,by simp]
theorem Wd.skip{old seen ks fd:List ak}{a:ak}(h:Wd old seen ks fd)(ha:a∈ks):Wd old (seen++[a]) ks fd:=by
 apply#[h.nd,h.nf,λs=>?_,λs=>?_]
 ·rw[h.all,dM,eD];apply#[λx=>x.imp id .inl,λx=>?_];rcases x with x|x|rfl
  ·exact .inl x
  ·exact .inr x
  exact (h.all _).mp ha
 rw[h.new,dM,eD];apply#[λ⟨x,y⟩=>#[.inl x,y],λ⟨x,y⟩=>#[?_,y]];rcases x with x|rfl
 ·exact x
 exact ((h.all _).mp ha).resolve_left y
theorem Wd.add{old seen ks fd:List ak}{a:ak}(h:Wd old seen ks fd)(ha:a∉ks):Wd old (seen++[a]) (ks++[a]) (fd++[a]):=by
 have no:a∉old:=λx=>ha ((h.all _).mpr (.inl x));have nf:a∉fd:=λx=>ha ((h.all _).mpr (.inr ((h.new _).mp x).1));apply#[?_,?_,λs=>?_,λs=>?_]
 ·rw[List.nodup_append];exact#[h.nd,by simp,λx hx y hy e=>ha (by rw[<- eD.mp hy,<- e];exact hx)]
 ·rw[List.nodup_append];exact#[h.nf,by simp,λx hx y hy e=>nf (by rw[<- eD.mp hy,<- e];exact hx)]
 ·rw[dM,dM,h.all];constructor
  ·rintro ((x|x)|x)
   ·exact .inl x
   ·exact .inr (.inl x)
   exact .inr (.inr x)
  rintro (x|x|x)
  ·exact .inl (.inl x)
  ·exact .inl (.inr x)
  exact .inr x
 rw[dM,dM,h.new,eD];constructor
 ·rintro (⟨x,y⟩|rfl)
  ·exact#[.inl x,y]
  exact#[.inr U,no]
 rintro⟨x|x,y⟩
 ·exact .inl #[x,y]
 exact .inr x
theorem Bf.start:Bf N s0 0 [s0] [s0]:=by
 have w0:∀s,Wk N s0 0 s ↔ s=s0:=λs=>#[λh=>by cases h;rfl,λh=>by rw[h];exact .z];apply#[by simp,by simp,λs=>?_,λs=>?_]
 ·rw[eD,<- w0];exact#[λh=>#[0,bc _,h],λ⟨j,hj,h⟩=>by rw[show j=0 by omega] at h;exact h]
 rw[eD,<- w0];exact#[λh=>#[h,λj hj=>by omega],λh=>h.1]
theorem Bf.next{k:Nat}{ks nw seen iS fd:List ak}(B:Bf N s0 k ks nw)(W:Wd ks seen iS fd)(hs:∀s,s∈seen ↔ ∃a∈nw,N a s):Bf N s0 (k+1) iS fd:=by
 have key:∀s,Wk N s0 (k+1) s->(∃j,j<=k/\Wk N s0 j s)∨s∈seen:=λs h=>by
  cases h with
  |@s _ a _ ha xO=>
   by_cases c:∃j,j<k/\Wk N s0 j a
   ·let#[j,hj,hw]:=c;exact .inl #[j+1,by omega,.s hw xO]
   exact .inr ((hs s).mpr #[a,(B.new a).mpr #[ha,λj hj hw=>c #[j,hj,hw]],xO])
 have sw:∀s,s∈seen->Wk N s0 (k+1) s:=λs h=>by
  let#[a,ha,hn]:=(hs s).mp h;exact .s ((B.new a).mp ha).1 hn
 apply#[W.nd,W.nf,λs=>?_,λs=>?_]
 ·rw[W.all,B.all];constructor
  ·rintro (⟨j,hj,h⟩|h)
   ·exact#[j,by omega,h]
   exact#[k+1,bc _,sw s h]
  rintro⟨j,hj,h⟩;by_cases c:j=k+1
  ·rw[c] at h;exact key s h
  exact .inl #[j,by omega,h]
 rw[W.new,B.all];constructor
 ·rintro⟨h,n⟩;exact#[sw s h,λj hj hw=>n #[j,by omega,hw]]
 rintro⟨h,n⟩;have no:¬∃j,j<=k/\Wk N s0 j s:=λ⟨j,hj,hw⟩=>n j Z1 hw;exact#[(key s h).resolve_left no,no]
theorem Bf.last{k:Nat}{ks:List ak}(B:Bf N s0 k ks []){j:Nat}{s:ak}(h:Ds N s0 j s):j<k:=by
 by_cases c:j<k
 ·exact c
 let#[t,ht]:=h.down k Z1;exact absurd ((B.new t).mpr ht) Z2
end
def pC(ns:ae):Nat->List ak
 |0=>[[]]
 |n+1=>ns.flatMap λh=>(pC ns n).map (h::·)
theorem Th(ns:ae):∀n,(pC ns n).length=ns.length ^ n
 |0=>rfl
 |n+1=>by
  unfold pC;rw[List.length_flatMap];have:(ns.map λh=>((pC ns n).map (h::·)).length)=ns.map λ_=>ns.length ^ n:=uP λh _=>by rw[au,Th ns n]
  rw[this,List.map_const',List.sum_replicate_nat,Nat.pow_succ,Nat.mul_comm]
theorem Ts{ns:ae}:∀{n:Nat} {s:ak},s.length=n->(∀h∈s,h∈ns)->s∈pC ns n
 |0,s,e,_=>by rw[List.length_eq_zero_iff.mp e];exact eD.mpr U
 |n+1,[],e,_=>by cases e
 |n+1,h::s,e,hm=>by
  unfold pC;rw[List.mem_flatMap];exact#[h,hm h Z2,bw.mpr #[s,Ts ⇑e (λx hx=>hm x (by simp[hx])),U]]
theorem BR{ns:ae}{n:Nat}{l:List ak}(nd:l.Nodup)(h:∀s∈l,s.length=n/\∀x∈s,x∈ns):l.length<=ns.length ^ n:=by
 rw[<- Th];exact List.Nodup.length_le_of_subset nd λs hs=>Ts (h s hs).1 (h s hs).2
def sW(hs:Xa)(ts:Xb)(q:Pc)(h:Str):ae:=(near (aO hs) (bR ts) h).filter λo=>Bp hs ts q.2.2 (some h) (some o)
structure Mv (hs:Xa) (ts:Xb) (qs:aN) (a b:ak) (m:Str × Str × Str):Prop where
 ex:∃(k:Nat) (q:Pc) (h h':Str),qs[k]? = some q/\a[k]? = some h/\h'∈sW hs ts q h/\b=a.set k h'/\m=(q.1,h,h')
def Nx(hs:Xa)(ts:Xb)(qs:aN)(a b:ak):Prop:=∃m,Mv hs ts qs a b m
structure Vs (hs:Xa) (qs:aN) (a:ak):Prop where
 len:a.length=qs.length
 fW:∀h∈a,h∈aO hs
theorem Nx.vs{hs:Xa}{ts:Xb}{qs:aN}{a b:ak}(h:Nx hs ts qs a b)(v:Vs hs qs a):Vs hs qs b:=by
 let#[m,k,q,x,y,h1,h2,h3,rfl,_]:=h;apply#[by rw[List.length_set];exact v.len,λz hz=>?_];rcases List.mem_or_eq_of_mem_set hz with h|rfl
 ·exact v.fW z h
 exact (mL.mp (mL.mp h3).1).1
theorem Wk.vs{hs:Xa}{ts:Xb}{qs:aN}{s0:ak}(v:Vs hs qs s0):∀{k:Nat} {s:ak},Wk (Nx hs ts qs) s0 k s->Vs hs qs s:=λh=>by
 induction h with
 |z=>exact v
 |s _ n ih=>exact n.vs ih
inductive A0 (hs:Xa) (ts:Xb) (qs:aN):ak->List (Str × Str × Str)->ak->Prop
 |nil {a:ak}:A0 hs ts qs a [] a
 |cons {a b c:ak} {m:Str × Str × Str} {ms:List (Str × Str × Str)}:Mv hs ts qs a b m->A0 hs ts qs b ms c->A0 hs ts qs a (m::ms) c
def My(hs:Xa)(qs:aN)(f:bh)(a b:Int):Prop:=∀x∈aO hs,∀y∈aO hs,b * (d0 hs qs f x - d0 hs qs f y)<=a * bP hs
theorem Sy{hs:Xa}{qs:aN}{f:bh}{r a b:Int}(R:jN hs qs f r)(hb:0<b):My hs qs f a b ↔ b * r<=a * bP hs:=by
 let#[x,hx,y,hy,rfl,up]:=R;constructor
 ·exact λh=>h x hx y hy
 intro h z hz u hu;let h1:=(up z hz).1;let h2:=(up u hu).2;have:b * (d0 hs qs f z - d0 hs qs f u)<=b * (d0 hs qs f x - d0 hs qs f y):=FW Z1 Z1;omega
theorem hT_{r M a b:Int}(hr:0<=r)(hM:0<M):a * (fr r M).2<(fr r M).1 * b ↔ a * M<r * b:=by
 have g0:0<(Int.gcd r M:Int):=by
  have:Int.gcd r M≠0:=λe=>by
   have:=Int.gcd_eq_zero_iff.mp e;omega
  omega
 have e1:(fr r M).1 * (Int.gcd r M:Int)=r:=Int.ediv_mul_cancel (Int.gcd_dvd_left ..);have e2:(fr r M).2 * (Int.gcd r M:Int)=M:=Int.ediv_mul_cancel (Int.gcd_dvd_right ..);have h1:a * (fr r M).2 * (Int.gcd r M:Int)=a * M:=by rw[Int.mul_assoc,e2]
 have h2:(fr r M).1 * b * (Int.gcd r M:Int)=r * b:=by rw[Int.mul_right_comm,e1]
 rw[<- h1,<- h2];exact#[λh=>Int.mul_lt_mul_of_pos_right h g0,λh=>Int.lt_of_mul_lt_mul_right h (gS g0)]
def Al(ns:ae)(s:ak):bh:=λn=>((ns.zip s).lookup n).getD n
theorem Hj{ns:ae}{s:ak}(nd:ns.Nodup){k:Nat}{n h:Str}(hn:ns[k]? = some n)(hh:s[k]? = some h):Al ns s n=h:=by
 unfold Al
 have:(ns.zip s).lookup n\h:=by
  induction ns generalizing s k with
  |nil=>cases hn
  |cons m ns ih=>
   cases s with
   |nil=>cases hh
   |cons x s=>
    cases k with
    |zero=>
     cases cu hn;cases cu hh;simp[List.lookup]
    |succ k=>
     have hn:ns[k]? = some n:=⇑hn
     have hh:s[k]? = some h:=⇑hh
     have ne:(n == m)=false:=by
      rw[beq_eq_false_iff_ne];intro e;subst e;exact (jq.mp nd).1 (cz hn)
     rw[List.zip_cons_cons,qc,ne];exact ih (jq.mp nd).2 hn hh
 rw[this];rfl
theorem QW{ns:ae}{s:ak}(nd:ns.Nodup)(hl:s.length=ns.length):((ns.zip (sV s)).map λp=>((Sum.inr p.1:Key),p.2))=fw ns (Al ns s):=by
 apply List.ext_getElem? ?_;intro k;unfold fw d_;rw[dF,dF];by_cases c:k<ns.length
 ·have h1:ns[k]? = some ns[k]:=aY c;have h2:s[k]? = some (s[k]' Z1):=aY Z1
  have h3:(ns.zip (sV s))[k]? = some (ns[k],V.str (s[k]' Z1)):=by
   rw[List.getElem?_zip_eq_some];exact#[h1,by rw[dF,h2];rfl]
  rw[h3,h1,Option.map_some,Option.map_some];dsimp only;rw[Hj nd h1 h2]
 rw[List.getElem?_eq_none (by rw[List.length_zip];omega),List.getElem?_eq_none Z1];rfl
end Ev
namespace L2
open PySem PySem.Spec PyProof.Rows PySem.W
theorem Tj{i:Int}(h:-(2 ^ 250)<i/\i<2 ^ 250):Builtin.Int.intBits i<=250:=by
 rw[intBits_le_iff];omega
def F7(i j:Int):Prop:=(-(2 ^ 250)<i/\i<2 ^ 250)/\(-(2 ^ 250)<j/\j<2 ^ 250)
theorem Su{X:Cx}:dN X (binaryOp .Mult) (rI F7 λi j=>.int (i * j)):=Bd λi j _ _ _ _ _ hc q=>mul_int q (by
 let h1:=Tj hc.1;let h2:=Tj hc.2;let e:=bitsLine_eq;unfold IntMulOk Builtin.Int.intTooBig;have z:¬((Builtin.Int.intBits i:Int)+(Builtin.Int.intBits j:Int) > (bitsLine:Int)):=by omega
 simp[z])
end L2
namespace Ev
open PySem L2
section v
theorem qG:bN Bw Bw (aX Nj):=bU
def IF:Sp:=λvs H Q _=>∃i a:Int,vs=[.int i,.int a]/\Q (.bl (decide (a<=i))) H
theorem gM_{f0:Addr}{fd:Ae}(F:br K "is_whole_from" "is_whole_from" Nj f0 fd)(cI:!bu 1 "is_whole" gg nz):!aq a9 2 f0 fd Bw IF:=by
 exists F.bT qG;let#[i,a,rfl,k]:=h;apply#[_,aF (bx (tJ (bg cI hr %[0|0]) (uO (wA vX (pv 1) (pv 0))))),?_];exact#[_,U,i,U,_,U,dD #[_,U,_,U,_,_,U,U,k]]
structure we (l:Int × Int):Prop where
 b1:1<=l.2
 b2:l.2<2 ^ 200
 a1:-(2 ^ 200)<l.1
 a2:l.1<2 ^ 200
 g:Int.gcd l.1 l.2=1
abbrev ia(H:Hp)(t:Addr)(x:Int × Int):Prop:=H t=some (.tup [.int x.1,.int x.2])
theorem yP:bN gg gg (aX rA):=bU
def qB:Sp:=λvs H Q _=>∃(t:Addr) (l:Int × Int),vs=[.ref t]/\ia H t l/\we l/\Q (.bl true) H
theorem Y9{f:Addr}{fd:Ae}(F:br K "is_fraction" "is_fraction" rA f fd)(B:Bi mg)(KD:mg "abs"=none)(cI:!bu 1 "is_whole" gg nz)(cF:!bu 2 "is_whole_from" Bw IF)(cG:!bu 1 BB mr u6):!aq a9 3 f fd gg qB:=by
 exists F.bT yP;let#[t,l,rfl,ht,lo,k]:=h;refine' #[_,aw ?s1 (aw ?s2 (aF ?s3)),?kk]
 case s1=>exact cg (tq (fi (e_ (cZ mN (by rfl) B.kh kC %[0,mJ (v:=.ty "tuple") (by rfl) B.tuple wJ U|0]))) (uN (fh tG (cZ ic (by rfl) B.len gH %[0|0]) aD))).pt (aF (bx gI)) cm
 case s2=>exact cg (tq (fi (e_ (bg cI hr %[bz cw (pv 0) aD|0]))) (uN (fi (e_ (bg cF hr %[bz cw (pv 0) aD,aD|0]))))).pt (aF (bx gI)) cm
 case s3=>exact bx (wA E3 (bg cG hr %[cZ _B (by rfl) KD PyProof.Rows.Boot.«abs» %[bz cw (pv 0) aD|0],bz cw (pv 0) aD|0]) aD)
 apply#[_,U,_,_,_,_,U,.tup ht,U,_,U,aL ?_];apply#[_,U,t,_,U,.inr (.of ht),U,_,U,?_];apply Av (show V.int ((2:Nat):Int)=V.int 2 from U) ?_;apply#[_,U,t,_,_,_,U,U,.of ht,U,l.1,U,_,U,aL ?_];apply#[_,U,t,_,_,_,U,U,.of ht,U,l.2,1,U,_,U,?_];rw[cJ lo.b1];apply aL ?_;apply#[_,U,t,_,_,_,U,U,.of ht,U,l.1,U,_,U,t,_,_,_,U,U,.of ht,U,_,l.2,U,?_,lo.b1,?_]
 ·split<;>omega
 have e:Int.gcd (if l.1<0 then -l.1 else l.1) l.2=1:=by
  split
  ·rw[Int.neg_gcd];exact lo.g
  exact lo.g
 rw[e];exact#[U,k]
theorem yN:bN mr mr (aX rh):=bU
def Sm(x:Int × Int):Prop:=(-(2 ^ 250)<x.1/\x.1<2 ^ 250)/\(-(2 ^ 250)<x.2/\x.2<2 ^ 250)
inductive k6 (vs:ai) (H:Hp) (Q:VK) (E:XK):Prop
 |mk:∀(t u:Addr) (x y:Int × Int),vs=[.ref t,.ref u]->ia H t x->ia H u y->Sm x->Sm y->Q (.bl (decide (x.1 * y.2<y.1 * x.2))) H->k6 vs H Q E
theorem YX{f:Addr}{fd:Ae}(F:br K "is_less" "is_less" rh f fd):!aq a9 1 f fd mr k6:=by
 exists F.bT yN;let#[t,u,x,y,rfl,ht,hu,sx,sy,k]:=h;refine' #[_,aF ?s1,?kk]
 case s1=>exact bx (wA QJ (bJ Su (bz cw (pv 0) aD) (bz cw (pv 1) aD)) (bJ Su (bz cw (pv 1) aD) (bz cw (pv 0) aD)))
 apply#[_,U,t,_,_,_,U,U,.of ht,U,_,U,u,_,_,_,U,U,.of hu,U,_,_,U,U,#[sx.1,sy.2],?_];exact#[_,U,u,_,_,_,U,U,.of hu,U,_,U,t,_,_,_,U,U,.of ht,U,_,_,U,U,#[sy.1,sx.2],_,_,U,U,k]
theorem yS:bN gg gg (aX rJ):=bU
def qD:Sp:=λvs H Q _=>∃(t:Addr) (l:Int × Int),vs=[.ref t]/\ia H t l/\we l/\Q .non H
theorem Y2{f:Addr}{fd:Ae}(F:br K "check_limit" "check_limit" rJ f fd)(cF:!bu 3 "is_fraction" gg qB):!aq a9 4 f fd gg qD:=by
 exists F.bT yS;let#[t,l,rfl,ht,lo,k]:=h;apply#[_,aF (cg (fi (e_ (bg cF hr %[0|0]))) gj cm),?_];exact#[_,U,t,l,U,ht,lo,_,U,aL k]
structure Gs (K:aj) (CG CW:Addr) (H:Hp) (g p:Addr) (hs:Xa) (ts:Xb) (qs:aN) (fp:ao):Prop where
 G:gA K CG CW H g p hs ts qs fp
 Gd:Good hs ts
 nd:(qs.map (·.1)).Nodup
 cX:qs.length<64
 wp:∀q∈qs,0<=q.2.1/\q.2.1<=1000000000
theorem Gs.same{CG CW:Addr}{H H':Hp}{g p:Addr}{hs:Xa}{ts:Xb}{qs:aN}{fp:ao}(G:Gs K CG CW H g p hs ts qs fp)(s:aa H H'):Gs K CG CW H' g p hs ts qs fp:=#[G.G.same s,G.Gd,G.nd,G.cX,G.wp]
theorem Gs.placed{CG CW:Addr}{H H':Hp}{g p d:Addr}{hs:Xa}{ts:Xb}{qs:aN}{fp:ao}{f:bh}(G:Gs K CG CW H g p hs ts qs fp)(s:aa H H')(hn:H d=none)(hd:H' d\.dK (fw (qs.map (·.1)) f))(at_:∀n∈qs.map (·.1),f n∈hs.map (·.1)):∃uv,BL K CG CW H' g p d hs ts qs uv f:=by
 let#[uv,G',h]:=G.G.slim;apply#[uv,G'.same s,G.Gd,λhm=>?_,hd,at_,G.nd,G.cX];let#[o,e]:=h d hm;rw[hn] at e;cases e
theorem Vs.at_{hs:Xa}{qs:aN}{s:ak}(v:Vs hs qs s)(nd:(qs.map (·.1)).Nodup):∀n∈qs.map (·.1),Al (qs.map (·.1)) s n∈hs.map (·.1):=λn hn=>by
 let#[k,hk,e]:=gJ hn;have hl:k<s.length:=by rw[v.len];simpa using hk
 rw[Hj nd (k:=k) (by rw[aY hk,e]) (aY hl)];exact (fE hs).mem_iff.mp (v.fW _ (mO hl))
abbrev fS(qs:aN)(s:ak):bh:=Al (qs.map (·.1)) s
theorem yH:bN ["goods","hands"] ["goods","hands"] (aX qV):=bU
inductive Io (K:aj) (CG CW:Addr) (vs:ai) (H:Hp) (Q:VK) (E:XK):Prop
 |mk:∀(g p t:Addr) (hs:Xa) (ts:Xb) (qs:aN) (fp:ao) (s:ak),vs=[.ref g,.ref t]->Gs K CG CW H g p hs ts qs fp->H t\.tup (sV s)->s.length=qs.length->(∀d H',aa H H'->H d=none->H' d\.dK (fw (qs.map (·.1)) (fS qs s))->Q (.ref d) H')->Io K CG CW vs H Q E
theorem _s{f CG CW:Addr}{fd:Ae}(F:br K "placed_by" "placed_by" qV f fd)(B:Bi mg)(mZ:mg "zip"=none)(T:gf K CG)(cN:!bQ CG 1 "names" pf (BP K CG CW)):!aq a9 2 f fd ["goods","hands"] (Io K CG CW):=by
 exists F.bT yH;let#[g,p,t,hs,ts,qs,fp,s,rfl,G,ht,hl,k]:=h;let cX:=G.cX;apply#[_,aF (bx (fP_ (by rfl) B.dict (by rfl) mZ %[AA cN T.cl (hr.mono (by decide)) (pv 0),1|0])),?_];let#[dx,dw,dy,vs,di,h1,_]:=id G.G.ex;apply#[_,U,g,dx,_,U,h1,wF _ _ _ Z0 Z0 Z0,g,p,hs,ts,qs,fp,U,G.G,λl eY=>?_];let#[s1,e1]:=aI (o:=.lst ((qs.map (·.1)).map V.str)) eY;generalize upd H l (.lst ((qs.map (·.1)).map V.str))=H1 at s1 e1 ⊢;apply#[_,U,l,t,qs.map (·.1),sV s,U,.of e1,.of (s1 _ _ ht),by rw[au,au];exact hl,by rw[au];omega,λd hd=>?_];rw[QW G.nd (by rw[au];exact hl)]
 have nV:((fw (qs.map (·.1)) (fS qs s)).map (·.1)).Nodup:=by
  rw[BQ,qe,wL];exact G.nd.imp λn e=>n (iy e)
 rw[ya nV];exact k d _ (s1.trans (aa.new hd)) (s1.free hd) az
theorem HY{hs:Xa}{ts:Xb}{qs:aN}{f:bh}{r:Int}(G:Good hs ts)(wp:∀q∈qs,0<=q.2.1/\q.2.1<=1000000000)(cX:qs.length<64)(R:jN hs qs f r):0<=r/\r<2 ^ 140:=by
 let#[x,hx,y,hy,rfl,up]:=R;let h1:=(up y hy).1;let h2:=Yz G wp cX (f:=f) hy
 have h3:d0 hs qs f x<=64000000000 * bP hs:=by
  unfold d0;let l1:=Br wp cX f x;let mo:=tI G;let so:=wC G hx;have q:bP hs / strOf hs x<=bP hs:=Int.ediv_le_self _ (gS mo.1);have q0:0<=bP hs / strOf hs x:=Int.ediv_nonneg (gS mo.1) Z1;exact Int.le_trans (FW q l1.1) (BX l1.2 (gS mo.1))
 let mo:=tI G;omega
theorem QM{r M:Int}(hr:0<=r)(iT:r<2 ^ 140)(hM:0<M)(hM2:M<2 ^ 100):0<=(fr r M).1/\(fr r M).1<2 ^ 140/\1<=(fr r M).2/\(fr r M).2<2 ^ 100/\Int.gcd (fr r M).1 (fr r M).2=1:=by
 have g0:0<Int.gcd r M:=by
  rcases Nat.eq_zero_or_pos (Int.gcd r M) with e|e
  ·have:=Int.gcd_eq_zero_iff.mp e;omega
  exact e
 have g1:0<(Int.gcd r M:Int):=by omega
 have e2:(fr r M).2 * (Int.gcd r M:Int)=M:=Int.ediv_mul_cancel (Int.gcd_dvd_right ..);have p1:0<=(fr r M).1:=Int.ediv_nonneg hr (gS g1);have p2:(fr r M).1<=r:=Int.ediv_le_self _ hr;have p3:(fr r M).2<=M:=Int.ediv_le_self _ (gS hM)
 have p4:1<=(fr r M).2:=by
  by_cases c:1<=(fr r M).2
  ·exact c
  have:(fr r M).2 * (Int.gcd r M:Int)<=0 * (Int.gcd r M:Int):=BX Z1 (gS g1);omega
 exact#[p1,by omega,p4,by omega,Int.gcd_ediv_gcd_ediv_gcd g0]
noncomputable def ji (hs:Xa) (qs:aN) (s:ak) (l:Int × Int):Bool:=@decide (My hs qs (fS qs s) l.1 l.2) (Classical.propDecidable _)
theorem MG{hs:Xa}{qs:aN}{s:ak}{l:Int × Int}:ji hs qs s l=true ↔ My hs qs (fS qs s) l.1 l.2:=by
 unfold ji;exact @decide_eq_true_iff _ (Classical.propDecidable _)
theorem qM:bN oF oF (aX Nz):=bU
inductive MX (K:aj) (CG CW:Addr) (vs:ai) (H:Hp) (Q:VK) (E:XK):Prop
 |mk:∀(g p t lt:Addr) (hs:Xa) (ts:Xb) (qs:aN) (fp:ao) (s:ak) (l:Int × Int),vs=[.ref g,.ref t,.ref lt]->Gs K CG CW H g p hs ts qs fp->H t\.tup (sV s)->Vs hs qs s->ia H lt l->we l->(∀H',aa H H'->Q (.bl (ji hs qs s l)) H')->MX K CG CW vs H Q E
theorem g3_{f CG CW:Addr}{fd:Ae}(F:br K "is_even" "is_even" Nz f fd)(cL:!bu 1 "is_less" mr k6)(cS:!bu 6 "spread_at" oy (NU K CG CW))(cP:!bu 2 "placed_by" ["goods","hands"] (Io K CG CW)):!aq a9 7 f fd oF (MX K CG CW):=by
 exists F.bT qM;let#[g,p,t,lt,hs,ts,qs,fp,s,l,rfl,G,ht,v,hl,lo,k]:=h;apply#[_,aF (bx (QR (bg cL hr %[2,bg cS hr %[0,bg cP hr %[0,1|0]|0]|0]))),?_];apply#[_,U,_,U,_,U,_,U,g,p,t,hs,ts,qs,fp,s,U,G,ht,v.len,λd H1 s1 n1 e1=>?_];let#[Hd,Pl]:=G.placed s1 n1 e1 (v.at_ G.nd);apply#[g,p,d,hs,ts,qs,Hd,fS qs s,U,Pl,G.wp,λu r H2 s2 R e2=>?_];let rl:=HY G.Gd G.wp G.cX R;let mo:=tI G.Gd;let fb:=QM rl.1 rl.2 mo.1 mo.2.1;apply#[lt,u,l,fr r (bP hs),U,s2 _ _ (s1 _ _ hl),e2,?_,?_,?_]
 ·have:=lo.a1;have:=lo.a2;have:=lo.b1;have:=lo.b2;exact#[#[by omega,by omega],by omega,by omega]
 ·exact#[#[by omega,by omega],by omega,by omega]
 let kk:=k H2 (s1.trans s2)
 have e:(!decide (l.1 * (fr r (bP hs)).2<(fr r (bP hs)).1 * l.2))=ji hs qs s l:=by
  rw[Bool.eq_iff_iff,MG,Sy R (by have:=lo.b1;omega),Bool.not_eq_true',decide_eq_false_iff_not,hT_ rl.1 mo.1,Int.not_lt,Int.mul_comm]
 apply#[_,U,?_];rw[e];exact kk
end
end Ev
namespace Ev
open PySem L2
structure B4 (H:Hp) (d:Addr) (hs:Xa) (ts:Xb) (ns:ae) (q:Pc) (ad:Str->Addr):Prop where
 at_:H d\.dK (d_ ns λh=>.ref (ad h))
 is:∀h∈ns,H (ad h)\.lst ((sW hs ts q h).map V.str)
def F5(H:Hp)(d:Addr)(hs:Xa)(ts:Xb)(q:Pc):Prop:=∃ad,B4 H d hs ts (aO hs) q ad
theorem B4.same{H H':Hp}{d:Addr}{hs:Xa}{ts:Xb}{ns:ae}{q:Pc}{ad:Str->Addr}(h:B4 H d hs ts ns q ad)(s:aa H H'):B4 H' d hs ts ns q ad:=#[s _ _ h.at_,λx hx=>s _ _ (h.is x hx)]
theorem F5.same{H H':Hp}{d:Addr}{hs:Xa}{ts:Xb}{q:Pc}(h:F5 H d hs ts q)(s:aa H H'):F5 H' d hs ts q:=by
 let#[ad,h]:=h;exact#[ad,h.same s]
def wO(H:Hp)(l d:Addr)(hs:Xa)(ts:Xb)(q:Pc):Prop:=∃ad,B4 H d hs ts (aO hs) q ad/\∀x∈aO hs,ad x≠l
theorem wO.same{H H':Hp}{l d:Addr}{hs:Xa}{ts:Xb}{q:Pc}(h:wO H l d hs ts q)(s:aa H H'):wO H' l d hs ts q:=by
 let#[ad,h,n]:=h;exact#[ad,h.same s,n]
def oJ(H:Hp)(l:Addr)(hs:Xa)(ts:Xb)(qs:aN):Prop:=∃ds:ao,H l\.lst (ds.map V.ref)/\Paired (λd q=>F5 H d hs ts q) ds qs
theorem oJ.same{H H':Hp}{l:Addr}{hs:Xa}{ts:Xb}{qs:aN}(h:oJ H l hs ts qs)(s:aa H H'):oJ H' l hs ts qs:=by
 let#[ds,h1,h2]:=h;exact#[ds,s _ _ h1,Paired.aU h2 λd q x=>x.same s]
section v
theorem BH:bN ["goods","web","found","piece","exits","one"] ["goods"] (aX lR):=bU
inductive Nt (K:aj) (CG CW:Addr) (vs:ai) (H:Hp) (Q:VK) (E:XK):Prop
 |mk:∀(g p:Addr) (hs:Xa) (ts:Xb) (qs:aN) (fp:ao),vs=[.ref g]->Gs K CG CW H g p hs ts qs fp->(∀l H',aa H H'->H l=none->oJ H' l hs ts qs->Q (.ref l) H')->Nt K CG CW vs H Q E
theorem _n{f CG CW CP:Addr}{fd:Ae}(F:br K "exits_of" "exits_of" lR f fd)(T:gf K CG)(TW:Txt K mg CW)(cN:!bQ CG 1 "names" pf (BP K CG CW))(cH:!bQ CW 1 "hands" pf (FA K CW))(cE:!bQ CW 2 "neighbours" wg (Np K CW))(cM:!bQ CG 3 "may_go" ["self","piece","one","other"] (k_ K CG CW CP)):!aq a9 4 f fd ["goods"] (Nt K CG CW):=by
 exists F.bT BH;let#[g,p,hs,ts,qs,fp,rfl,G,k]:=h;let hu:=fO hr;let sz:=cU;let cX:=G.cX;let nl:=G.Gd.gX;let h8:=G.Gd.h8;let r_:=G.Gd.r_;have jf:aP 1 _:=hr.mono (by decide);have iT:aP 2 _:=hr.mono (by decide);have Bj:aP 3 _:=hr.mono (by decide);refine' #[_,aw ?s1 (aw ?s2 (aw ?s3 (aF ?s4))),?kk]
 case s1=>exact bo 1 BH.nd (gd (pv 0) U)
 case s2=>exact bo 2 BH.nd (fF bF)
 case' s3=>refine' ed dH U ?i3 ?g3 (aw ?b1 (aw ?b2 (aF ?b3)))
 case i3=>exact dE (AA cN T.cl jf (pv 0))
 case g3=>exact cq 3 BH.nd
 case b1=>exact bo 4 BH.nd FO
 case' b2=>refine' ed dH U ?i4 ?g4 (aF ?b4)
 case i4=>exact dE (AA cH TW.cl jf (pv 1))
 case g4=>exact cq 5 BH.nd
 case' b4=>refine' uJ hu (pv 4) (pv 5) (kD ["other","goods","one","piece"] 1 [0,5,3] (dE (i6 cE TW.cl iT (pv 1) %[5|0])) (λfp s H=>?g5) (λfp s H=>?c5) (λfp s H=>?e5)) U
 case g5=>exact gh (i:=0) (show (["other","goods","one","piece"]:ae).Nodup by decide +kernel) U (Or.inl U)
 case c5=>exact H_ (e_ (i6 cM T.cl Bj (pv 1) %[3,2,0|0]))
 case e5=>exact pv 0
 case b3=>exact kG (ow mq uK uL tR (pv 2) %[4|0])
 case s4=>exact bx (pv 2)
 let#[dx,dw,dy,vs,di,h1,h2,_]:=id G.G.ex;have gno:(cO p dw dy).lookup ("names":Str)=none:=wF _ _ _ Z0 Z0 Z0;have gnm:(cO p dw dy).lookup ("may_go":Str)=none:=wF _ _ _ Z0 Z0 Z0;apply#[_,U,g,CG,dx,_,_,U,h1,T.cl,T.nW,x8 _ _ _,?_];apply#[zl,λl hl=>?_];let#[s1,e1]:=aI (o:=.lst []) hl;generalize upd H l (.lst [])=H1 at s1 e1 ⊢;apply#[_,U,g,dx,_,U,s1 _ _ h1,gno,g,p,hs,ts,qs,fp,U,G.G.same s1,λln xF=>?_];let#[s2,e2]:=aI (o:=.lst ((qs.map (·.1)).map V.str)) xF;have nln:H ln=none:=s1.free xF;have XW:ln≠l:=(bq e1 xF).symm;let el:=s2 _ _ e1;let jc:=s1.trans s2;generalize upd H1 ln (.lst ((qs.map (·.1)).map V.str))=H2 at s2 e2 el jc ⊢
 let Iv:bO:=λi σ H'=>∃(v3 v4 v5:aE) (ds:ao),σ=[some (.ref g),some (.ref p),some (.ref l),v3,v4,v5]/\aa H H'/\H' ln\.lst ((qs.map (·.1)).map V.str)/\H' l\.lst (ds.map V.ref)/\Paired (λd q=>wO H' l d hs ts q) ds (qs.take i)
 apply#[ln,U,#[_,.of e2],gi (K:=K) (a:=ln) (xs:=(qs.map (·.1)).map V.str) Iv #[none,none,none,[],U,jc,e2,el,.nil] (λi σ H' _ ⟨_,_,_,_,_,_,q,_⟩=>.of q) ?_ ?_]
 ·rintro i y σ H3 hy ⟨v3,v4,v5,ds,rfl,eV,e3,uz,pd⟩;let#[n,hn,rfl]:=mG hy;rw[dF,B0] at hn;let#[q,hq,rfl]:=hn;let qm:=cz hq;have hi:i<qs.length:=(b_.mp hq).1;intro d hd;let s4:=aa.new (o:=.dK []) hd;have e4:upd H3 d (.dK []) d\.dK (d_ [] λh=>.ref d):=az;have dn:H d=none:=eV.free hd;let pL:=eV.trans s4;let iJ:=s4 _ _ uz;let S1:=s4 _ _ e3;let Di:=Paired.aU (G:=λa q=>wO (upd H3 d (.dK [])) l a hs ts q/\a≠d) pd λa q x=>#[x.same s4,by let#[ad,x,_]:=x;exact bq x.at_ hd];have dl:d≠l:=(bq uz hd).symm;have dln:d≠ln:=(bq e3 hd).symm;generalize upd H3 d (.dK [])=H4 at s4 e4 pL iJ S1 Di ⊢;let W4:=h2.same pL;let#[mh,d1,l2,d3,wQ,as,ef,w1,_]:=id h2.ex;have VA:(fq d1 l2 d3).lookup ("hands":Str)=none:=qa _ _ _ Z0 Z0 Z0;have VB:(fq d1 l2 d3).lookup ("neighbours":Str)=none:=qa _ _ _ Z0 Z0 Z0;apply#[_,U,p,mh,_,U,pL _ _ w1,VA,p,hs,ts,di,U,W4,λlh eX=>?_];let#[s5,e5]:=aI (o:=.lst ((aO hs).map V.str)) eX;let pK:=pL.trans s5;have Rt:H lh=none:=pL.free eX;have X1:lh≠d:=(bq e4 eX).symm;let BD:=s5 _ _ e4;let sZ:=s5 _ _ iJ;let S0:=s5 _ _ S1;let Qa:=Paired.aU (G:=λa q=>wO (upd H4 lh (.lst ((aO hs).map V.str))) l a hs ts q/\a≠d) Di λa q x=>#[x.1.same s5,x.2];generalize upd H4 lh (.lst ((aO hs).map V.str))=H5 at s5 e5 pK BD sZ S0 Qa ⊢
  let Iw:bO:=λj σ H'=>∃(v5:aE) (ad:Str->Addr),σ=[some (.ref g),some (.ref p),some (.ref l),some (.str q.1),some (.ref d),v5]/\aa H H'/\H' ln\.lst ((qs.map (·.1)).map V.str)/\H' l\.lst (ds.map V.ref)/\H' lh\.lst ((aO hs).map V.str)/\Paired (λa q=>wO H' l a hs ts q/\a≠d) ds (qs.take i)/\B4 H' d hs ts ((aO hs).take j) q ad/\∀x∈(aO hs).take j,ad x≠l
  apply#[lh,U,#[_,.of e5],gi (K:=K) (a:=lh) (xs:=(aO hs).map V.str) Iw #[_,_,U,pK,S0,sZ,e5,Qa,#[BD,by simp],by simp] (λj σ H' _ ⟨_,_,_,_,_,_,z,_⟩=>.of z) ?_ ?_]
  ·rintro j y σ H6 hy ⟨JC,ad,rfl,gr,MH,uw,e6,Gv,ex,Hm⟩;let#[h,hh,rfl]:=mG hy;let hm:=cz hh;have hj:j<(aO hs).length:=(b_.mp hh).1;let l7:=(fE hs).mem_iff.mp hm;let Lj:=Tf r_ hh;let W6:=h2.same gr;apply#[_,U,p,mh,_,U,gr _ _ w1,VB,_,U,p,h,hs,ts,di,U,W6,r_,l7,λlx o6=>?_];let#[s7,e7]:=aI (o:=.lst ((near (aO hs) (bR ts) h).map V.str)) o6;generalize upd H6 lx (.lst ((near (aO hs) (bR ts) h).map V.str))=H7 at s7 e7 ⊢;have Xn:(near (aO hs) (bR ts) h).length<=8:=gm (BY ..) Z1;apply#[lx,U,#[_,.of e7],λD hD=>?_];apply kI (own:=1) (fv:=[some (.ref g),some (.str h),some (.str q.1)]) (xs:=(near (aO hs) (bR ts) h).map V.str) U fY (λi out H'=>aa H7 H'/\H' D\.lst out/\out=(((near (aO hs) (bR ts) h).take i).filter λo=>Bp hs ts q.2.2 (some h) (some o)).map V.str) #[aa.new hD,az,U] (λi out H' _ ⟨sm,_,_⟩=>.of (sm _ _ e7)) (λout H8 ⟨sm,hD8,eo⟩=>?_) (λi' y out H' hy ⟨sm,dJ,eo⟩=>?_)
   ·rw[au,eI] at eo;let Ba:=s7.trans sm;let E_:=ex.same Ba;have Dn:H6 D=none:=s7.free hD;apply#[_,U,_,U,d,_,U,.k (k:=Sum.inr h) E_.at_ (by rw[mK,dR];omega),?_];have Dd:D≠d:=λz=>by rw[z,ex.at_] at Dn;cases Dn
    apply#[_,λx=>if x=h then D else ad x,U,fR (gr.trans Ba) dn,by rw[ax dln.symm];exact Ba _ _ MH,by rw[ax dl.symm];exact Ba _ _ uw,by rw[ax X1];exact Ba _ _ e6,Paired.aU Gv λa q ⟨⟨O5,x,xl⟩,ne⟩=>#[#[O5,?_,xl],ne],#[?_,λx hx=>?_],λx hx=>?_]
    ·let x:=x.same Ba;exact#[by rw[ax ne];exact x.at_,λz hz=>by rw[ax (bK (x.is z hz) E_.at_ (by intro e;cases e))];exact x.is z hz]
    ·rw[az,uI hh,Rq Lj];exact eG (λz=>some (HO.dK z)) (Jf λn _=>by split<;>rfl)
    ·rw[uI hh] at hx;rcases dM.mp hx with hx|hx
     ·have:x≠h:=λe=>Lj (by rw[<- e];exact hx);rw[aB this,ax (bK (E_.is x hx) E_.at_ (by intro e;cases e))];exact E_.is x hx
     rw[eD.mp hx,aJ U,ax Dd,hD8,eo];rfl
    rw[uI hh] at hx;rcases dM.mp hx with hx|hx
    ·have:x≠h:=λe=>Lj (by rw[<- e];exact hx);show (if x=h then D else ad x)≠l;rw[aB this];exact Hm x hx
    rw[eD.mp hx];show (if h=h then D else ad h)≠l;rw[aJ U];exact λz=>by rw[z,uw] at Dn;cases Dn
   let#[o,ho,rfl]:=mG hy;apply#[_,U,U,λNx hN=>?_];let G':=G.G.same (((gr.trans s7)).trans sm);let o9:=(gr.trans s7).trans sm _ _ h1;apply#[_,U,g,dx,_,U,o9,gnm,_,U,_,U,_,U,g,p,.str q.1,.str h,.str o,some q.1,some h,some o,hs,ts,qs,fp,U,G',G.nd,r_,U,.inl #[q,qm,U,U,U,λH9 s9=>#[_,U,?_]]]
   have lo:out.length<=8:=by
    rw[eo,au];exact gm (BY ..) (gm (by rw[dR];exact Nat.min_le_right ..) Xn)
   apply bY (λc=>?_) (λc=>?_)
   ·apply#[_,U,out,s9 _ _ dJ,by omega,hN _ _ #[fR (sm.trans s9) hD,az,?_]];rw[Jb _ ho,fg,<- eo];rw[aJ c];rfl
   apply hN out _ #[sm.trans s9,s9 _ _ dJ,?_];rw[Jb _ ho,fg,<- eo,aB c];simp
  rintro σ H6 ⟨JC,ad,rfl,gr,MH,uw,e6,Gv,ex,Hm⟩;rw[au,eI] at ex Hm;let lp:=bj Gv;rw[dR] at lp;apply#[_,U,.inl #[U,_,.of uw],_,U,l,_,_,U,U,uw,by rw[au];omega,?_];have pl:∀{a q},wO H6 l a hs ts q->wO (upd H6 l (.lst (ds.map V.ref++[.ref d]))) l a hs ts q:=λ{a q} ⟨O5,x,xl⟩=>#[O5,#[by rw[ax (bK x.at_ uw (by intro e;cases e))];exact x.at_,λz hz=>by rw[ax (xl z hz)];exact x.is z hz],xl];apply#[_,_,_,ds++[d],U,fR gr hl,by rw[ax XW];exact MH,?_,?_]
  ·rw[az,fg];rfl
  rw[kE,hq];exact gU (Paired.aU Gv λa q x=>pl x.1) (.cons (pl #[ad,ex,Hm]) .nil)
 rintro σ H3 ⟨v3,v4,v5,ds,rfl,eV,e3,uz,pd⟩;rw[au,au,eI] at pd;exact#[_,U,k l H3 eV hl #[ds,uz,Paired.aU pd λa q ⟨ad,x,_⟩=>#[ad,x]]]
end
end Ev
namespace Ev
open PySem L2
abbrev lH:Stmt:=ml Hv 0
abbrev lG:Stmt:=ml Hv 1
abbrev MR:Stmt:=ml Hv 2
abbrev qU:Stmt:=ml Hv 3
theorem S5(f:Str)(u v:V):∀fs:List (Str × V),aA f v (aA f u fs)=aA f v fs
 |[]=>by
  show aA f v [(f,u)]=[(f,v)];show (if f=f then _ else _)=_;rw[aJ U]
 |(g,x)::r=>by
  by_cases c:g=f
  ·rw[show aA f u ((g,x)::r)=(g,u)::r from aJ c,show aA f v ((g,u)::r)=(g,v)::r from aJ c,show aA f v ((g,x)::r)=(g,v)::r from aJ c]
  rw[show aA f u ((g,x)::r)=(g,x)::aA f u r from aB c,show aA f v ((g,x)::aA f u r)=(g,x)::aA f v (aA f u r) from aB c,show aA f v ((g,x)::r)=(g,x)::aA f v r from aB c,S5 f u v r]
def bX(x a n:Addr):List (Str × V):=aA "newest" (.ref n) (aA pZ (.ref a) (aA jQ (.ref x) []))
theorem WR:¬((jQ:Str)=pZ):=by decide +kernel
theorem WQ:¬((jQ:Str)="newest"):=by decide +kernel
theorem WN:¬((pZ:Str)="newest"):=by decide +kernel
theorem ZI(x a n:Addr):(bX x a n).lookup (jQ:Str)\.ref x:=by
 unfold bX;rw[gC,aB WQ,gC,aB WR,gC,aJ U]
theorem Ik(x a n:Addr):(bX x a n).lookup (pZ:Str)\.ref a:=by
 unfold bX;rw[gC,aB WN,gC,aJ U]
theorem BI(x a n:Addr):(bX x a n).lookup ("newest":Str)\.ref n:=by
 unfold bX;rw[gC,aJ U]
theorem IM(x a n:Addr){m:Str}(h1:¬m=jQ)(h2:¬m=pZ)(h3:¬m="newest"):(bX x a n).lookup m=none:=by
 unfold bX;rw[gC,aB h3,gC,aB h2,gC,aB h1]
 all_goals rfl
structure mQ (K:aj) (CR:Addr):Prop where
 cl:mX K CR
 nX:mE K CR jQ
 nA:mE K CR pZ
 nN:mE K CR "newest"
def gR(H:Hp):ai->List ak->Prop:=Paired λy s=>∃t,y=.ref t/\H t\.tup (sV s)
theorem gR.keep{H H':Hp}{ys:ai}{l:List ak}(h:gR H ys l)(k:∀b xs,H b\.tup xs->H' b\.tup xs):gR H' ys l:=Paired.aU h λy s ⟨t,e,ht⟩=>#[t,e,k _ _ ht]
def U7(H:Hp)(v:V):Option ak->Prop
 |none=>v=.non
 |some q=>∃b,v=.ref b/\H b\.tup (sV q)
def fQ(H:Hp):List (av × V)->List (ak × Option ak)->Prop:=Paired λkv e=>kv.1=sK e.1/\U7 H kv.2 e.2
theorem fQ.keep{H H':Hp}{kvs:List (av × V)}{pa:List (ak × Option ak)}(h:fQ H kvs pa)(k:∀b xs,H b\.tup xs->H' b\.tup xs):fQ H' kvs pa:=Paired.aU h λkv e ⟨h1,h2⟩=>#[h1,by
 cases z:e.2 with
 |none=>rw[z] at h2;exact h2
 |some q=>
  rw[z] at h2;let#[b,e1,hb]:=h2;exact#[b,e1,k _ _ hb]]
theorem fQ.keys{H:Hp}:∀{kvs:List (av × V)} {pa:List (ak × Option ak)},fQ H kvs pa->kvs.map (·.1)=(pa.map (·.1)).map sK
 |_,_,.nil=>rfl
 |_,_,.cons h t=>by
  rw[eZ,eZ,eZ,h.1,fQ.keys t]
theorem fQ.none{H:Hp}{kvs:List (av × V)}{pa:List (ak × Option ak)}(h:fQ H kvs pa){s:ak}(hs:s∉pa.map (·.1)):aZ kvs (sK s)=none:=uR (by
 rw[h.keys];intro hm;let#[x,hx,e]:=bw.mp hm;rw[<- Mb e] at hs;exact hs hx)
theorem fQ.isSome{H:Hp}{kvs:List (av × V)}{pa:List (ak × Option ak)}(h:fQ H kvs pa)(s:ak):(aZ kvs (sK s)).isSome=decide (s∈pa.map (·.1)):=by
 by_cases c:s∈pa.map (·.1)
 ·rw[cJ c];exact Jg (by rw[h.keys];exact bw.mpr #[s,c,U])
 rw[fD c,h.none c];rfl
theorem fQ.get{H:Hp}:∀{kvs:List (av × V)} {pa:List (ak × Option ak)},fQ H kvs pa->(pa.map (·.1)).Nodup->∀{e:ak × Option ak},e∈pa->∃v,aZ kvs (sK e.1)\v/\U7 H v e.2
 |_,_,.nil,_,_,he=>by cases he
 |_,_,.cons (a:=kv) (b:=e0) h t,nd,e,he=>by
  rw[eZ,jq] at nd;rcases bW.mp he with rfl|he
  ·exact#[kv.2,by unfold aZ;rw[yd];simp[h.1],h.2]
  let#[v,h1,h2]:=fQ.get t nd.2 he;apply#[v,?_,h2]
  have ne:¬kv.1=sK e.1:=λz=>by
   rw[h.1] at z;exact nd.1 (by rw[Mb z];exact bw.mpr #[e,he,U])
  unfold aZ at h1 ⊢;rw[yd];simp[ne,h1]
theorem wH{kvs:List (av × V)}{k:av}{v:V}(h:aZ kvs k=none):putK kvs k v=kvs++[(k,v)]:=by
 unfold putK;rw[BS,h];rfl
def pF(N:ak->ak->Prop)(s0:ak)(pa:List (ak × Option ak)):Prop:=∀e∈pa,(e.1=s0/\e.2=none)∨∃q d,e.2\q/\Ds N s0 d q/\Ds N s0 (d+1) e.1/\N q e.1
structure v_ (CR:Addr) (H:Hp) (r a x n:Addr) (hs:Xa) (ts:Xb) (qs:aN) (pa:List (ak × Option ak)) (nw:List ak):Prop where
 ins:∃dx,H r\.ins CR dx (bX x a n)
 ex:oJ H x hs ts qs
 ah:∃kvs,H a\.dT kvs/\fQ H kvs pa
 ne:∃ys,H n\.lst ys/\gR H ys nw
theorem v_.same{CR:Addr}{H H':Hp}{r a x n:Addr}{hs:Xa}{ts:Xb}{qs:aN}{pa:List (ak × Option ak)}{nw:List ak}(R:v_ CR H r a x n hs ts qs pa nw)(s:aa H H'):v_ CR H' r a x n hs ts qs pa nw:=by
 let#[#[dx,h1],h2,#[kvs,h3,h4],#[ys,h5,h6]]:=R;exact#[#[dx,s _ _ h1],h2.same s,#[kvs,s _ _ h3,h4.keep λb xs e=>s _ _ e],#[ys,s _ _ h5,h6.keep λb xs e=>s _ _ e]]
section v
theorem nB:bN ["self","goods","placed","first"] oE (aX lH):=bU
inductive IY (K:aj) (CG CW CR:Addr) (vs:ai) (H:Hp) (Q:VK) (E:XK):Prop
 |mk:∀(r dx g p d:Addr) (hs:Xa) (ts:Xb) (qs:aN) (fp:ao) (f:bh),vs=[.ref r,.ref g,.ref d]->H r\.ins CR dx []->Gs K CG CW H g p hs ts qs fp->H d\.dK (fw (qs.map (·.1)) f)->(∀a x n H',(∀b o,H b\o->b≠r->H' b\o)->H a=none->v_ CR H' r a x n hs ts qs [((qs.map (·.1)).map f,none)] [(qs.map (·.1)).map f]->Q .non H')->IY K CG CW CR vs H Q E
theorem ZX{f CG CW CR:Addr}{fd:Ae}(F:br K "__init__" "Reach.__init__" lH f fd)(T:mQ K CR)(B:Bi mg)(cE:!bu 4 "exits_of" ["goods"] (Nt K CG CW)):!aq a9 5 f fd oE (IY K CG CW CR):=by
 exists F.bT nB;let#[r,dx,g,p,d,hs,ts,qs,fp,f,rfl,jg,G,hd,k]:=h;let hu:=fO hr;refine' #[_,aw ?s1 (aw ?s2 (aw ?s3 (aF ?s4))),?kk]
 case s1=>exact bo 3 nB.nd (jn (fT_ U) (by rfl) B.tuple wJ %[N9 (pv 2)|0])
 case s2=>exact uM (pv 0) (bg cE hr %[1|0]) U
 case s3=>exact uM (pv 0) (SY hu (pv 3) AB) U
 case s4=>exact uM (pv 0) (fF %[3|0]) U
 apply#[_,U,d,_,U,hd,λv hv=>?_];let#[s1,e1]:=aI (o:=uG v d) hv;generalize upd H v (uG v d)=H1 at s1 e1 ⊢;apply#[v,d,_,U,e1,s1 _ _ hd,λt ht=>?_]
 have ev:(fw (qs.map (·.1)) f).map (·.2)=sV ((qs.map (·.1)).map f):=by
  simp only[fw,d_,sV,cY];rfl
 rw[ev];obtain⟨s0,Rk⟩:∃s0,s0=(qs.map (·.1)).map f:=#[_,U];rw[<- Rk];rw[<- Rk] at k;let#[s2,e2]:=aI (o:=.tup (sV s0)) ht;let jc:=s1.trans s2;generalize upd H1 t (.tup (sV s0))=H2 at s2 e2 jc ⊢;apply#[_,U,g,p,hs,ts,qs,fp,U,G.same jc,λx H3 s3 nx ex=>?_];let eV:=jc.trans s3;apply#[_,U,r,CR,dx,[],U,eV _ _ jg,T.cl,T.nX,by show 0<1000;decide,?_];have Ga:∀{b o},H3 b\o->b≠r->upd H3 r (.ins CR dx (aA jQ (.ref x) [])) b\o:=λe ne=>by rw[ax ne];exact e
 have r4:upd H3 r (.ins CR dx (aA jQ (.ref x) [])) r\.ins CR dx (aA jQ (.ref x) []):=az
 have pT:∀{b},upd H3 r (.ins CR dx (aA jQ (.ref x) [])) b=none->H3 b=none:=λ{b} e=>by
  by_cases z:b=r
  ·rw[z,az] at e;cases e
  rw[ax z] at e;exact e
 generalize upd H3 r (.ins CR dx (aA jQ (.ref x) []))=H4 at Ga r4 pT ⊢;let Bj:=eV _ _ jg;have tr:t≠r:=bK (s3 _ _ e2) Bj nofun;have e4:H4 t\.tup (sV s0):=Ga (s3 _ _ e2) tr;intro a ha;let#[s5,e5]:=aI (o:=.dT []) ha;have an:H a=none:=eV.free (pT ha);have ar:a≠r:=(bq r4 ha).symm;generalize upd H4 a (.dT [])=H5 at s5 e5 ⊢;apply#[_,U,e5,t,sK s0,U,by rw[rq];exact s5 _ _ e4,_,U,?_];have ta:t≠a:=bK (s5 _ _ e4) e5 nofun;have JE:∀{b o},H5 b\o->b≠a->upd H5 a (.dT [(sK s0,.non)]) b\o:=λe ne=>by rw[ax ne];exact e
 have e6:upd H5 a (.dT [(sK s0,.non)]) a\.dT [(sK s0,.non)]:=az
 have Hc:∀{b},upd H5 a (.dT [(sK s0,.non)]) b=none->H5 b=none:=λ{b} e=>by
  by_cases z:b=a
  ·rw[z,az] at e;cases e
  rw[ax z] at e;exact e
 generalize upd H5 a (.dT [(sK s0,.non)])=H6 at JE e6 Hc ⊢;apply#[r,CR,dx,_,U,JE (s5 _ _ r4) ar.symm,T.cl,T.nA,by show 1<1000;decide,?_];have JD:∀{b o},H6 b\o->b≠r->upd H6 r (.ins CR dx (aA pZ (.ref a) (aA jQ (.ref x) []))) b\o:=λe ne=>by rw[ax ne];exact e
 have r7:upd H6 r (.ins CR dx (aA pZ (.ref a) (aA jQ (.ref x) []))) r\.ins CR dx (aA pZ (.ref a) (aA jQ (.ref x) [])):=az
 have E6:∀{b},upd H6 r (.ins CR dx (aA pZ (.ref a) (aA jQ (.ref x) []))) b=none->H6 b=none:=λ{b} e=>by
  by_cases z:b=r
  ·rw[z,az] at e;cases e
  rw[ax z] at e;exact e
 generalize upd H6 r (.ins CR dx (aA pZ (.ref a) (aA jQ (.ref x) [])))=H7 at JD r7 E6 ⊢
 have e47:∀{b o},H3 b\o->b≠r->H7 b\o:=λ{b o} e ne=>by
  let e4':=s5 _ _ (Ga e ne)
  have ba:b≠a:=λz=>by
   have:=Ga e ne;rw[z,ha] at this;cases this
  exact JD (JE e4' ba) ne
 apply#[_,U,zl,λn hn=>?_];let#[s8,e8]:=aI (o:=.lst [.ref t]) hn;have nr:n≠r:=(bq r7 hn).symm;generalize upd H7 n (.lst [.ref t])=H8 at s8 e8 ⊢;apply#[_,U,r,CR,dx,_,U,s8 _ _ r7,T.cl,T.nN,by show 2<1000;decide,?_];have F_:∀{b o},H8 b\o->b≠r->upd H8 r (.ins CR dx (bX x a n)) b\o:=λe ne=>by rw[ax ne];exact e
 have r9:upd H8 r (.ins CR dx (bX x a n)) r\.ins CR dx (bX x a n):=az;show Q .non (upd H8 r (.ins CR dx (bX x a n)));generalize upd H8 r (.ins CR dx (bX x a n))=H9 at F_ r9 ⊢;have Fe:∀{b o},H3 b\o->b≠r->H9 b\o:=λe ne=>F_ (s8 _ _ (e47 e ne)) ne;apply k a x n H9 (λb o e ne=>Fe (eV _ _ e) ne) an #[#[dx,r9],?_,#[_,F_ (s8 _ _ (JD e6 ar)) ar,.cons #[U,U] .nil],#[_,F_ e8 nr,.cons #[t,U,Fe (s3 _ _ e2) tr] .nil]];let#[ds,x1,x2]:=ex
 have Kq:∀{b o},H3 b\o->(∀C dx fs,o≠.ins C dx fs)->b≠r:=λe no z=>by
  rw[z,Bj] at e;cases e;exact no _ _ _ U
 exact#[ds,Fe x1 (Kq x1 (by intro _ _ _ z;cases z)),Paired.aU x2 λd q ⟨ad,y1,y2⟩=>#[ad,Fe y1 (Kq y1 (by intro _ _ _ z;cases z)),λh hh=>Fe (y2 h hh) (Kq (y2 h hh) (by intro _ _ _ z;cases z))]]
end
end Ev
namespace Ev
open PySem L2
theorem Ub{s:ak}{i:Nat}(h:i<s.length)(o:Str):(sV s).take i++[V.str o]++(sV s).drop (i+1)=sV (s.set i o):=by
 show (s.map V.str).take i++[V.str o]++(s.map V.str).drop (i+1)=(s.set i o).map V.str;rw[List.set_eq_take_append_cons_drop,aJ h,fg,eZ,List.map_take,List.map_drop,List.append_assoc];rfl
def Jn(hs:Xa)(ts:Xb)(qs:aN)(s:ak)(i:Nat)(b:ak):Prop:=∃(k:Nat) (q:Pc) (h h':Str),k<i/\qs[k]? = some q/\s[k]? = some h/\h'∈sW hs ts q h/\b=s.set k h'
theorem ZH{hs:Xa}{ts:Xb}{qs:aN}{s b:ak}:Jn hs ts qs s s.length b ↔ Nx hs ts qs s b:=by
 constructor
 ·rintro⟨k,q,h,h',_,h1,h2,h3,h4⟩;exact#[_,k,q,h,h',h1,h2,h3,h4,U]
 rintro⟨m,k,q,h,h',h1,h2,h3,h4,_⟩;exact#[k,q,h,h',(b_.mp h2).1,h1,h2,h3,h4]
theorem oJ.at_{H:Hp}{l:Addr}{hs:Xa}{ts:Xb}{qs:aN}(h:oJ H l hs ts qs){k:Nat}{q:Pc}(hq:qs[k]? = some q):∃(ds:ao) (d:Addr),H l\.lst (ds.map V.ref)/\(ds.map V.ref)[k]? = some (.ref d)/\F5 H d hs ts q:=by
 let#[ds,h1,h2]:=h;have hk:k<qs.length:=(b_.mp hq).1;let hl:=bj h2;have:=eP h2 k Z1 hk;rw[aY hk] at hq;cases hq;exact#[ds,ds[k]' Z1,h1,by rw[dF,aY Z1];rfl,this]
section v
theorem FC:bN ["self","hands","found","place","one","other"] Bu (aX lG):=bU
inductive Nr (CR:Addr) (vs:ai) (H:Hp) (Q:VK) (E:XK):Prop
 |mk:∀(r dx t x a n:Addr) (hs:Xa) (ts:Xb) (qs:aN) (s:ak),vs=[.ref r,.ref t]->H r\.ins CR dx (bX x a n)->oJ H x hs ts qs->H t\.tup (sV s)->Vs hs qs s->(aO hs).length<=8->qs.length<64->(∀l ys L H',aa H H'->H l=none->H' l\.lst ys->gR H' ys L->(∀b,b∈L ↔ Nx hs ts qs s b)->L.length<=512->Q (.ref l) H')->Nr CR vs H Q E
theorem hN_{f CR:Addr}{fd:Ae}(F:br K "one_move_on" "Reach.one_move_on" lG f fd)(T:mQ K CR)(B:Bi mg):!aq a9 1 f fd Bu (Nr CR):=by
 exists F.bT FC;let#[r,dx,t,x,a,n,hs,ts,qs,s,rfl,hrr,ex,ht,v,n8,P4,k]:=h;let hu:=fO hr;let sz:=cU;let vl:=v.len;refine' #[_,aw ?s1 (aw ?s2 (aF ?s3)),?kk]
 case s1=>exact bo 2 FC.nd (fF bF)
 case' s2=>refine' ed dH U ?i2 ?g2 (aF ?b2)
 case i2=>exact hD_ (by rfl) B.enum %[1|0]
 case g2=>exact kz U (dG (cq 3 FC.nd) (dG (cq 4 FC.nd) iM))
 case' b2=>refine' ed dH U ?i3 ?g3 (aF ?b3)
 case i3=>exact dE (jo hu (bz h_ (gd (pv 0) U) (pv 3)) (pv 4))
 case g3=>exact cq 5 FC.nd
 case b3=>exact kG (ow mq uK uL tR (pv 2) %[bJ HW (bJ HW (AI HU (pv 1) AQ (AR (pv 3))) (iC %[5|0])) (AI HU (pv 1) (AR (bJ ie (pv 3) aD)) AQ)|0])
 case s3=>exact bx (pv 2)
 apply#[zl,λl hl=>?_];let#[s1,e1]:=aI (o:=.lst []) hl;generalize upd H l (.lst [])=H1 at s1 e1 ⊢;apply#[_,U,t,U,#[_,.of (s1 _ _ ht)],?_]
 let Iv:bO:=λi σ H'=>∃(v3 v4 v5:aE) (ys:ai) (L:List ak),σ=[some (.ref r),some (.ref t),some (.ref l),v3,v4,v5]/\aa H H'/\H' l\.lst ys/\gR H' ys L/\(∀b,b∈L ↔ Jn hs ts qs s i b)/\L.length<=8 * i
 apply gA_ (xs:=sV s) Iv #[none,none,none,[],[],U,s1,e1,.nil,λb=>by simp[Jn],by simp] (λi σ H' _ ⟨_,_,_,_,_,_,sm,_⟩=>.of (sm _ _ ht)) ?_ ?_
 ·rintro i y σ H2 hy ⟨v3,v4,v5,ys,L,rfl,s2,e2,sp,mem,len⟩ tt K6;let#[h,hh,rfl]:=mG hy;have hi:i<s.length:=(b_.mp hh).1;have hq:qs[i]? = some (qs[i]' Z1):=aY Z1;obtain⟨q,eq⟩:∃q,q=qs[i]' Z1:=#[_,U];rw[<- eq] at hq;let hm:=v.fW h (cz hh);let#[s3,e3]:=aI (o:=.tup [.int i,.str h]) K6;let eV:=s2.trans s3;let uz:=s3 _ _ e2;let qE:=sp.keep λb xs e=>s3 _ _ e;show gO _ _ _ _ _ (upd H2 tt (.tup [.int i,.str h])) _;generalize upd H2 tt (.tup [.int i,.str h])=H3 at s3 e3 eV uz qE ⊢;apply#[tt,_,U,.of e3,U,_,_,U,_,_,U,U,?_];let#[ds,d,x1,x2,ad,x3,x4]:=ex.at_ hq;apply#[_,U,r,CR,dx,_,_,U,eV _ _ hrr,T.cl,T.nX,ZI _ _ _,_,U,x,_,i,.ref d,U,U,.of (eV _ _ x1),L2.d8 x2,_,U,d,.ref (ad h),U,?_,ad h,U,#[_,.of (eV _ _ (x4 h hm))],?_]
  ·have:=dP.k (k:=.inr h) (eV _ _ x3);rw[wz (g:=λn=>V.ref (ad n)) hm] at this;exact this
  let Iw:bO:=λj σ H'=>∃(v5:aE) (ys:ai) (L:List ak),σ=[some (.ref r),some (.ref t),some (.ref l),some (.int i),some (.str h),v5]/\aa H H'/\H' l\.lst ys/\gR H' ys L/\(∀b,b∈L ↔ Jn hs ts qs s i b∨∃o∈(sW hs ts q h).take j,b=s.set i o)/\L.length<=8 * i+j
  have el8:(sW hs ts q h).length<=8:=gm (BY ..) (gm (BY ..) n8);apply gi (K:=K) (a:=ad h) (xs:=(sW hs ts q h).map V.str) Iw #[_,ys,L,U,eV,uz,qE,λb=>by rw[mem];simp,by omega] (λj σ H' _ ⟨_,_,_,_,sm,_⟩=>.of (sm _ _ (x4 h hm))) ?_ ?_
  ·rintro j y σ H4 hy ⟨JC,ys,L,rfl,s4,iJ,iF,fK,lY⟩;let#[o,ho,rfl]:=mG hy;have hj:j<(sW hs ts q h).length:=(b_.mp ho).1;let vC:=bj iF;let pQ:=s4 _ _ ht;apply#[_,U,.inl #[U,_,.of iJ],?_];apply#[_,U,_,U,_,U,t,_,U,.of pQ,?_,λp1 xD=>?_]
   ·rw[HT.eU,HT.d9,au];omega
   rw[Od];let#[s5,e5]:=aI (o:=.tup ((sV s).take i)) xD;generalize upd H4 p1 (.tup ((sV s).take i))=H5 at s5 e5 ⊢;apply#[_,U,zl,λp2 kj=>?_];let#[s6,e6]:=aI (o:=.tup [.str o]) kj;generalize upd H5 p2 (.tup [.str o])=H6 at s6 e6 ⊢;apply#[p1,p2,_,_,U,U,s6 _ _ e5,e6,by rw[dR,au,js];omega,λp3 H7 s7 e7=>?_];let xf:=(s5.trans s6).trans s7;apply#[_,U,_,U,_,_,U,U,_,U,t,_,U,.of (xf _ _ pQ),?_,λp4 Eg=>?_]
   ·rw[show ((i:Int)+1)=((i+1:Nat):Int) by omega,HT.d9,au];omega
   rw[show ((i:Int)+1)=((i+1:Nat):Int) by omega,T8];let#[s8,e8]:=aI (o:=.tup ((sV s).drop (i+1))) Eg;generalize upd H7 p4 (.tup ((sV s).drop (i+1)))=H8 at s8 e8 ⊢;apply#[p3,p4,_,_,U,U,s8 _ _ e7,e8,by rw[eM,dR,au,js,List.length_drop,au];omega,λp5 H9 s9 e9=>?_];rw[Ub hi] at e9;let yV:=(xf.trans s8).trans s9;let Ap:=yV _ _ iJ;apply#[l,_,_,U,U,Ap,by omega,?_]
   have kt:∀b xs,H9 b\.tup xs->upd H9 l (.lst (ys++[.ref p5])) b\.tup xs:=λb xs e=>by
    rw[ax (bK e Ap nofun)];exact e
   apply#[_,_,L++[s.set i o],U,fR (s4.trans yV) hl,az,gU ((iF.keep λb xs e=>yV _ _ e).keep kt) (.cons #[p5,U,kt _ _ e9] .nil),λb=>?_,by rw[eM,js];omega];rw[dM,fK,eD,uI ho];constructor
   ·rintro ((x|⟨z,hz,e⟩)|e)
    ·exact .inl x
    ·exact .inr #[z,dM.mpr (.inl hz),e]
    exact .inr #[o,by simp,e]
   rintro (x|⟨z,hz,e⟩)
   ·exact .inl (.inl x)
   rcases dM.mp hz with hz|hz
   ·exact .inl (.inr #[z,hz,e])
   rw[eD.mp hz] at e;exact .inr e
  rintro σ H4 ⟨JC,ys,L,rfl,s4,iJ,iF,fK,lY⟩;rw[au] at fK lY;apply#[_,_,_,ys,L,U,s4,iJ,iF,λb=>?_,by omega];rw[fK,eI];constructor
  ·rintro (⟨k',q',h',o',k1,k2⟩|⟨o,ho,e⟩)
   ·exact#[k',q',h',o',by omega,k2]
   exact#[i,q,h,o,by omega,hq,hh,ho,e]
  rintro⟨k',q',h',o',k1,k2,k3,k4,k5⟩;by_cases c:k'=i
  ·subst c;rw[hq] at k2;rw[hh] at k3;cases k2;cases k3;exact .inr #[o',k4,k5]
  exact .inl #[k',q',h',o',by omega,k2,k3,k4,k5]
 rintro σ H2 ⟨v3,v4,v5,ys,L,rfl,s2,e2,sp,mem,len⟩;rw[au] at mem len;exact#[_,U,k l ys L H2 s2 hl e2 sp (λb=>(mem b).trans ZH) Z1]
end
end Ev
namespace Ev
open PySem L2
def pI(r a:Addr)(H H':Hp):Prop:=∀b o,H b\o->b≠r->b≠a->H' b\o
theorem bC.gW{a:Addr}{H H':Hp}{o:HO}(b:bC a H H')(ha:H a\o)(no:∀xs,o≠.tup xs):∀c xs,H c\.tup xs->H' c\.tup xs:=λc xs e=>b _ _ e λz=>by
 rw[z,ha] at e;cases e;exact no _ U
theorem oJ.but{a:Addr}{H H':Hp}{l:Addr}{hs:Xa}{ts:Xb}{qs:aN}{kvs:List (av × V)}(h:oJ H l hs ts qs)(b:bC a H H')(ha:H a\.dT kvs):oJ H' l hs ts qs:=by
 have k:∀{c o},H c\o->o≠.dT kvs->H' c\o:=λe ne=>b _ _ e λz=>by
  rw[z,ha] at e;cases e;exact ne U
 let#[ds,h1,h2]:=h;exact#[ds,k h1 nofun,Paired.aU h2 λd q ⟨ad,x1,x2⟩=>#[ad,k x1 nofun,λy hy=>k (x2 y hy) nofun]]
section v
theorem IK:bN ["self","most","found","hands","after"] ["self","most"] (aX MR):=bU
def More(N:ak->ak->Prop)(s0:ak)(m:Nat):Prop:=∃l:List ak,l.Nodup/\(∀s∈l,∃j,Wk N s0 j s)/\m<l.length
inductive Iz (CR:Addr) (vs:ai) (H:Hp) (Q:VK) (E:XK):Prop
 |mk:∀(r x a n:Addr) (hs:Xa) (ts:Xb) (qs:aN) (pa:List (ak × Option ak)) (nw:List ak) (s0:ak) (k m:Nat),vs=[.ref r,.int m]->v_ CR H r a x n hs ts qs pa nw->Bf (Nx hs ts qs) s0 k (pa.map (·.1)) nw->pF (Nx hs ts qs) s0 pa->(∀s∈nw,Vs hs qs s)->(aO hs).length<=8->qs.length<64->m<=1000000->pa.length<=1000000->(∀H',pI r a H H'->More (Nx hs ts qs) s0 m->Q (.bl false) H')->(∀n' lU lV H',pI r a H H'->H n'=none->v_ CR H' r a x n' hs ts qs lU lV->Bf (Nx hs ts qs) s0 (k+1) (lU.map (·.1)) lV->pF (Nx hs ts qs) s0 lU->lU.length=pa.length+lV.length->(lU.length<=m∨lV=[])->Q (.bl true) H')->Iz CR vs H Q E
theorem gp_{f CR:Addr}{fd:Ae}(F:br K "widen" "Reach.widen" MR f fd)(T:mQ K CR)(B:Bi mg)(cM:!bQ CR 1 "one_move_on" Bu (Nr CR)):!aq a9 2 f fd ["self","most"] (Iz CR):=by
 exists F.bT IK;let#[r,x,a,n,hs,ts,qs,pa,nw,s0,k,m,rfl,R,bf,po,vv,n8,P4,m6,p6,kF,kT]:=h;let hu:=fO hr;let sz:=cU;refine' #[_,aw ?s1 (aw ?s2 (aw ?s3 (aF ?s4))),?kk]
 case s1=>exact bo 2 IK.nd (fF bF)
 case' s2=>refine' ed dH U ?i2 ?g2 (aF ?b2)
 case i2=>exact dE (gd (pv 0) U)
 case g2=>exact cq 3 IK.nd
 case' b2=>refine' ed dH U ?i3 ?g3 (aF ?b3)
 case i3=>exact dE (i6 cM T.cl hr (pv 0) %[3|0])
 case g3=>exact cq 4 IK.nd
 case' b3=>refine' cg (tN (Je hu (pv 4) (gd (pv 0) U))) (aw ?c1 (aw ?c2 (aF ?c3))) cm
 case c1=>exact cg (fh QK (cZ TF (by rfl) B.len gH %[gd (pv 0) U|0]) (pv 1)) (aF (bx gI)) cm
 case c2=>exact uJ hu (gd (pv 0) U) (pv 4) (pv 3) U
 case c3=>exact kG (ow mq uK uL tR (pv 2) %[4|0])
 case s3=>exact uM (pv 0) (pv 2) U
 case s4=>exact bx gI
 let#[#[dx,jg],ex,#[kvs,om,O4],#[Jt,GZ,J7]]:=R;apply#[zl,λl hl=>?_];let#[s1,e1]:=aI (o:=.lst []) hl;generalize upd H l (.lst [])=H1 at s1 e1 ⊢;apply#[_,U,r,CR,dx,_,_,U,s1 _ _ jg,T.cl,T.nN,BI _ _ _,n,U,#[_,.of (s1 _ _ GZ)],?_];have uX:∀{b:Addr} {H':Hp},bC a H H'->∀c xs,H c\.tup xs->H' c\.tup xs:=λbt=>bC.gW bt om (by intro xs z;cases z);have Ke:r≠a:=bK jg om nofun;have Xm:n≠a:=bK GZ om nofun
 let J:List ak->Hp->Prop:=λseen H'=>∃(kvs:List (av × V)) (lU:List (ak × Option ak)) (fs:ai) (fd:List ak),bC a H H'/\H' a\.dT kvs/\fQ H' kvs lU/\H' l\.lst fs/\gR H' fs fd/\Wd (pa.map (·.1)) seen (lU.map (·.1)) fd/\pF (Nx hs ts qs) s0 lU/\lU.length=pa.length+fd.length/\(lU.length<=m∨fd=[])
 let Iv:bO:=λi σ H'=>∃(v3 v4:aE) (seen:List ak),σ=[some (.ref r),some (.int m),some (.ref l),v3,v4]/\J seen H'/\(∀b,b∈seen ↔ ∃h∈nw.take i,Nx hs ts qs h b)
 let XY:=bj J7;apply gi (K:=K) (a:=n) (xs:=Jt) Iv #[none,none,[],U,#[kvs,pa,[],[],bC.of s1,s1 _ _ om,O4.keep λb xs e=>s1 _ _ e,e1,.nil,Wd.start bf.nd,po,by simp,.inr U],by simp] (λi σ H' _ ⟨_,_,_,_,⟨_,_,_,_,bt,_⟩,_⟩=>.of (bt _ _ GZ Xm)) ?_ ?_
 ·rintro i y σ H2 hy ⟨v3,v4,seen,rfl,⟨DU,Km,SF,Mr,wq,oj,O0,Hr,yF,Jw,Kl,ln2,Ko⟩,mem⟩;have hi:i<Jt.length:=(b_.mp hy).1
  obtain⟨h,hh,t,rfl,ht⟩:∃h,nw[i]? = some h/\∃t,y=.ref t/\H t\.tup (sV h):=by
   have:=eP J7 i hi Z1;rw[aY hi] at hy;cases hy;exact#[nw[i]' Z1,aY Z1,this]
  let hm:=cz hh;let sO:=(bf.new h).mp hm;let Bh:=uX (b:=a) wq _ _ ht;let iT:=wq _ _ jg Ke;apply#[_,U,r,dx,_,U,iT,IM _ _ _ Z0 Z0 Z0,_,U,r,dx,t,x,a,n,hs,ts,qs,h,U,iT,ex.but wq om,Bh,vv h hm,n8,P4,λl3 qh L H3 s3 pO e3 qE lW KN=>?_];have QB:l3≠l:=λz=>by rw[z,Hr] at pO;cases pO
  have GM:l3≠a:=λz=>by rw[z,oj] at pO;cases pO
  have l3n:H l3=none:=by
   cases z:H l3 with
   |none=>rfl
   |some o=>
    have:=wq _ _ z GM;rw[pO] at this;cases this
  let KJ:=bj qE
  let Iw:bO:=λj σ H'=>∃(v4:aE) (dB:List ak),σ=[some (.ref r),some (.int m),some (.ref l),some (.ref t),v4]/\H' l3\.lst qh/\gR H' qh L/\H' t\.tup (sV h)/\J dB H'/\(∀b,b∈dB ↔ b∈seen∨b∈L.take j)
  apply#[l3,U,#[_,.of e3],?_];apply gi (K:=K) (a:=l3) (xs:=qh) Iw ?_ ?_ ?_ ?_
  ·exact#[_,seen,U,e3,qE,s3 _ _ Bh,#[DU,Km,SF,Mr,wq.trans (bC.of s3),s3 _ _ oj,O0.keep λb xs e=>s3 _ _ e,s3 _ _ Hr,yF.keep λb xs e=>s3 _ _ e,Jw,Kl,ln2,Ko],λb=>#[.inl,λz=>z.elim id λw=>absurd w (gK)]]
  ·rintro j σ H' _ ⟨_,_,_,e,_⟩;exact .of e
  ·rintro j y σ H4 hy ⟨VP,dB,rfl,e4,iF,pQ,⟨g8,Dj,SE,SL,Ja,jG,BW,iJ,yD,Ck,P7,XT,W_⟩,fK⟩;have hj:j<qh.length:=(b_.mp hy).1
   obtain⟨b,hb,u,rfl,Rf⟩:∃b,L[j]? = some b/\∃u,y=.ref u/\H4 u\.tup (sV b):=by
    have:=eP iF j hj Z1;rw[aY hj] at hy;cases hy;exact#[L[j]' Z1,aY Z1,this]
   let GV:=Ja _ _ jg Ke;have bL:Nx hs ts qs h b:=(lW b).mp (cz hb)
   have tk:∀c,c∈L.take (j+1) ↔ c∈L.take j∨c=b:=λc=>by
    rw[kE,hb];simp
   have hK:H4 u\.tup ((sK b).map kV):=by rw[rq];exact Rf
   apply#[_,U,_,U,r,CR,dx,_,_,U,GV,T.cl,T.nA,Ik _ _ _,a,_,U,.t jG hK,_,U,?_];rw[BW.isSome];by_cases c:b∈Dj.map (·.1)
   ·rw[cJ c];apply aL ?_;apply#[_,dB++[b],U,e4,iF,pQ,#[g8,Dj,SE,SL,Ja,jG,BW,iJ,yD,Ck.skip c,P7,XT,W_],λz=>?_];rw[dM,fK,tk,eD,or_assoc]
   rw[fD c];apply dD ?_;let lk:=bj BW;let lf:=bj yD;apply#[_,U,r,CR,dx,_,_,U,GV,T.cl,T.nA,Ik _ _ _,a,_,U,jG,_,U,_,_,U,U,_,U,?_]
   have OY:∀z∈Dj.map (·.1),∃j,Wk (Nx hs ts qs) s0 j z:=λz hz=>by
    rcases (Ck.all z).mp hz with y|y
    ·let#[j,_,w]:=(bf.all z).mp y;exact#[j,w]
    rcases (fK z).mp y with y|y
    ·let#[h',sM,nx]:=(mem z).mp y;exact#[_,.s ((bf.new h').mp (List.mem_of_mem_take sM)).1 nx]
    exact#[_,.s sO.1 ((lW z).mp (List.mem_of_mem_take y))]
   apply bY (λc2=>?_) (λc2=>?_)
   ·apply kF H4 (λc o e n1 n2=>Ja _ _ e n2) #[Dj.map (·.1)++[b],?_,λz hz=>?_,?_]
    ·rw[List.nodup_append];exact#[Ck.nd,by simp,λx hx y hy e=>c (by rw[<- eD.mp hy,<- e];exact hx)]
    ·rcases dM.mp hz with hz|hz
     ·exact OY z hz
     rw[eD.mp hz];exact#[_,.s sO.1 bL]
    have:(m:Int)<=(g8.length:Int):=ph c2;rw[eM,au,js];omega
   have lt:g8.length<m:=by
    have:¬(m:Int)<=(g8.length:Int):=of_decide_eq_false ⇑c2;omega
   apply#[_,U,_,U,r,CR,dx,_,_,U,GV,T.cl,T.nA,Ik _ _ _,_,U,a,_,U,.t jG hK Z1,?_];rw[wH (BW.none c)];have UW:bC a H (upd H4 a (.dT (g8++[(sK b,.ref t)]))):=Ja.trans bC.upd;have k5:∀{c o},H4 c\o->c≠a->upd H4 a (.dT (g8++[(sK b,.ref t)])) c\o:=λe ne=>by rw[ax ne];exact e
   have t5:∀c xs,H4 c\.tup xs->upd H4 a (.dT (g8++[(sK b,.ref t)])) c\.tup xs:=λc xs e=>k5 e (bK e jG nofun);have e5:upd H4 a (.dT (g8++[(sK b,.ref t)])) a\.dT (g8++[(sK b,.ref t)]):=az;have la:l≠a:=bK iJ jG nofun;generalize upd H4 a (.dT (g8++[(sK b,.ref t)]))=H5 at UW k5 t5 e5 ⊢;let sZ:=k5 iJ la;apply#[_,U,.inl #[U,_,.of sZ],_,U,l,_,_,U,U,sZ,by omega,?_]
   have t6:∀c xs,H5 c\.tup xs->upd H5 l (.lst (SE++[.ref u])) c\.tup xs:=λc xs e=>by
    rw[ax (bK e sZ nofun)];exact e
   let A7:=λc xs e=>t6 c xs (t5 c xs e);have kb:¬∃j,j<=k/\Wk (Nx hs ts qs) s0 j b:=λz=>c ((Ck.all b).mpr (.inl ((bf.all b).mpr z)));apply#[_,dB++[b],U,by rw[ax QB];exact k5 e4 GM,iF.keep A7,A7 _ _ pQ,#[_,Dj++[(b,some h)],_,SL++[b],λc o e ne=>?_,by rw[ax la.symm];exact e5,gU (BW.keep A7) (.cons #[U,t,U,A7 _ _ pQ] .nil),az,gU (yD.keep A7) (.cons #[u,U,A7 _ _ Rf] .nil),?_,?_,?_,?_],λz=>?_]
   ·rw[ax (bq e hl)];exact UW _ _ e ne
   ·rw[fg];exact Ck.add c
   ·intro e he;rcases dM.mp he with he|he
    ·exact P7 e he
    rw[eD.mp he];exact .inr #[h,k,U,sO,#[.s sO.1 bL,λj hj w=>kb #[j,by omega,w]],bL]
   ·rw[eM,eM,js,js];omega
   ·left
    rw[eM,js];omega
   rw[dM,fK,tk,eD,or_assoc]
  rintro σ H4 ⟨VP,dB,rfl,e4,iF,pQ,jj,fK⟩;apply#[_,_,dB,U,jj,λb=>?_];rw[fK,mem,show qh.length=L.length from KJ,eI,lW,kE,hh];simp only[Option.toList_some,dM,eD];constructor
  ·rintro (⟨h',sM,nx⟩|nx)
   ·exact#[h',.inl sM,nx]
   exact#[h,.inr U,nx]
  rintro⟨h',sM|rfl,nx⟩
  ·exact .inl #[h',sM,nx]
  exact .inr nx
 rintro σ H2 ⟨v3,v4,seen,rfl,⟨DU,Km,SF,Mr,wq,oj,O0,Hr,yF,Jw,Kl,ln2,Ko⟩,mem⟩;let iT:=wq _ _ jg Ke;apply#[_,U,_,U,r,CR,dx,_,U,iT,T.cl,T.nN,?_,?_]
 ·show 3<1000;decide
 have ef:aA "newest" (V.ref l) (bX x a n)=bX x a l:=S5 _ _ _ _;rw[ef];have k3:∀{c o},H2 c\o->c≠r->upd H2 r (.ins CR dx (bX x a l)) c\o:=λe ne=>by rw[ax ne];exact e
 have ni:∀{c o},H2 c\o->(∀C dx fs,o≠.ins C dx fs)->upd H2 r (.ins CR dx (bX x a l)) c\o:=λe no=>k3 e λz=>by
  rw[z,iT] at e;cases e;exact no _ _ _ U
 let#[ds,x1,x2]:=ex.but wq om;apply kT l Km Mr _ (λc o e n1 n2=>by rw[ax n1];exact wq _ _ e n2) hl #[#[dx,az],#[ds,ni x1 (by intro _ _ _ z;cases z),Paired.aU x2 λd q ⟨ad,y1,y2⟩=>#[ad,ni y1 (by intro _ _ _ z;cases z),λh hh=>ni (y2 h hh) (by intro _ _ _ z;cases z)]],#[_,ni oj (by intro _ _ _ z;cases z),O0.keep λb xs e=>ni e (by intro _ _ _ z;cases z)],#[_,ni Hr (by intro _ _ _ z;cases z),yF.keep λb xs e=>ni e (by intro _ _ _ z;cases z)]] (bf.next Jw λb=>?_) Kl ln2 Ko;rw[mem,XY,eI]
end
end Ev
namespace Ev
open PySem L2
def Cn(N:ak->ak->Prop):List ak->Prop
 |[]=>True
 |[_]=>True
 |a::b::r=>N a b/\Cn N (b::r)
structure Row (N:ak->ak->Prop) (a s:ak) (k:Nat) (row:List ak):Prop where
 cn:Cn N row
 hd:row.head? = some a
 lt:row.getLast? = some s
 len:row.length=k+1
theorem Row.one{N:ak->ak->Prop}{s:ak}:Row N s s 0 [s]:=#[trivial,U,U,U]
theorem Row.more{N:ak->ak->Prop}{a b s:ak}{k:Nat}{row:List ak}(h:Row N b s k row)(n:N a b):Row N a s (k+1) (a::row):=by
 cases row with
 |nil=>cases h.hd
 |cons c r=>
  have e:c=b:=cu h.hd;subst e;exact#[#[n,h.cn],U,by rw[List.getLast?_cons_cons];exact h.lt,by rw[jr,h.len]]
theorem TY{α β:Type}{F:α->β->Prop}:∀{l:List α} {m:List β},Paired F l m->Paired F l.reverse m.reverse
 |_,_,.nil=>.nil
 |_,_,.cons h t=>by
  rw[List.reverse_cons,List.reverse_cons];exact gU (TY t) (.cons h .nil)
section v
theorem Im:bN ["self","hands","row","there"] Bu (aX qU):=bU
inductive kW (CR:Addr) (vs:ai) (H:Hp) (Q:VK) (E:XK):Prop
 |mk:∀(r x a n t:Addr) (hs:Xa) (ts:Xb) (qs:aN) (pa:List (ak × Option ak)) (nw:List ak) (s0 s:ak) (k:Nat),vs=[.ref r,.ref t]->v_ CR H r a x n hs ts qs pa nw->H t\.tup (sV s)->Ds (Nx hs ts qs) s0 k s->(pa.map (·.1)).Nodup->(∀j z,j<=k->Wk (Nx hs ts qs) s0 j z->z∈pa.map (·.1))->pF (Nx hs ts qs) s0 pa->k<1000000->(∀l ys row H',aa H H'->H l=none->H' l\.lst ys->gR H' ys row->Row (Nx hs ts qs) s0 s k row->Q (.ref l) H')->kW CR vs H Q E
theorem _u{f CR:Addr}{fd:Ae}(F:br K "row_to" "Reach.row_to" qU f fd)(T:mQ K CR):!aq a9 1 f fd Bu (kW CR):=by
 exists F.bT Im;let#[r,x,a,n,t,hs,ts,qs,pa,nw,s0,s,k,rfl,R,ht,ds,nd,all,po,p6,kk]:=h;let hu:=fO hr;let sz:=cU;refine' #[_,aw ?s1 (aw ?s2 (aw ?s3 (aw ?s4 (aF ?s5)))),?kk]
 case s1=>exact bo 2 Im.nd (fF bF)
 case s2=>exact bo 3 Im.nd (pv 1)
 case' s3=>refine' FP dH ?c1 (aw ?b1 (aF ?b2))
 case c1=>exact tN (ZG (pv 3))
 case b1=>exact kG (ow mq uK uL tR (pv 2) %[3|0])
 case b2=>exact bo 3 Im.nd (jo hu (gd (pv 0) U) (pv 3))
 case s4=>exact kG (YO mq PySem.F.slot_list_reverse PySem.F.type_list_reverse fz_ (pv 2))
 case s5=>exact bx (pv 2)
 let#[#[dx,jg],ex,#[kvs,om,O4],#[Jt,GZ,J7]]:=R;apply#[zl,λl hl=>?_];let#[s1,e1]:=aI (o:=.lst []) hl;generalize upd H l (.lst [])=H1 at s1 e1 ⊢;apply#[_,U,?_]
 let Iv:bO:=λm σ H'=>∃(v:V) (ys:ai) (wr:List ak),σ=[some (.ref r),some (.ref t),some (.ref l),some v]/\aa H H'/\H' l\.lst ys/\gR H' ys wr.reverse/\wr.length<=k+1/\((v=.non/\m=0/\Row (Nx hs ts qs) s0 s k wr)∨∃u z,v=.ref u/\H u\.tup (sV z)/\m+wr.length=k+1/\0<m/\Ds (Nx hs ts qs) s0 (m - 1) z/\((wr=[]/\z=s)∨∃b,Nx hs ts qs z b/\∃j,wr.length=j+1/\Row (Nx hs ts qs) b s j wr))
 apply#[Iv,#[k+1,.ref t,[],[],U,s1,e1,.nil,by simp,.inr #[t,s,U,ht,by simp,by omega,by simpa using ds,.inl #[U,U]]],?_];rintro m σ H2 ⟨v,ys,wr,rfl,s2,e2,yF,lw,cs⟩;let vC:=bj yF;rw[List.length_reverse] at vC;rcases cs with⟨rfl,rfl,row⟩|⟨u,z,rfl,hz,lm,m0,dz,cs⟩
 ·apply#[_,U,_,U,aL ?_];apply#[_,U,.inl #[U,_,.of e2],l,_,U,U,e2,?_]
  have t3:∀c xs,H2 c\.tup xs->upd H2 l (.lst ys.reverse) c\.tup xs:=λc xs e=>by
   rw[ax (bK e e2 nofun)];exact e
  let qE:=TY (yF.keep t3);rw[List.reverse_reverse] at qE;exact#[_,U,kk l _ wr _ (fR s2 hl) hl az qE row]
 apply#[_,U,_,U,dD #[λaV H'=>∃m',m'<m/\Iv m' aV H',λ_ _ h=>h,?_]];apply#[_,U,.inl #[U,_,.of e2],_,U,l,_,_,U,U,e2,by omega,?_]
 have t3:∀c xs,H2 c\.tup xs->upd H2 l (.lst (ys++[.ref u])) c\.tup xs:=λc xs e=>by
  rw[ax (bK e e2 nofun)];exact e
 have s3:aa H (upd H2 l (.lst (ys++[.ref u]))):=fR s2 hl;have e3:upd H2 l (.lst (ys++[.ref u])) l\.lst (ys++[.ref u]):=az;let qE:=gU (yF.keep t3) (.cons #[u,U,s3 _ _ hz] .nil:gR (upd H2 l (.lst (ys++[.ref u]))) [.ref u] [z]);generalize upd H2 l (.lst (ys++[.ref u]))=H3 at s3 e3 qE ⊢;have Vd:z∈pa.map (·.1):=all _ z Z1 dz.1;let#[e,he,rfl]:=bw.mp Vd;let#[v',gv,Gu]:=O4.get nd he;apply#[_,U,r,CR,dx,_,_,U,s3 _ _ jg,T.cl,T.nA,Ik _ _ _,_,U,a,v',U,?_,?_]
 ·rw[<- gv];exact .t (s3 _ _ om) (by rw[rq];exact s3 _ _ hz)
 have jd:∃j,(e.1::wr).length=j+1/\Row (Nx hs ts qs) e.1 s j (e.1::wr):=by
  rcases cs with⟨rfl,rfl⟩|⟨b,nb,j,lj,rj⟩
  ·exact#[0,U,.one]
  exact#[j+1,by rw[jr,lj],rj.more nb]
 have CU:gR H3 (ys++[.ref u]) (e.1::wr).reverse:=by rw[List.reverse_cons];exact qE
 have lc:(e.1::wr).length=wr.length+1:=jr;rcases po e he with⟨e0,en⟩|⟨q,d,eq,dq,de,nq⟩
 ·rw[en] at Gu
  have HX:m - 1=0:=by
   rw[e0] at dz;exact dz.inj #[.z,λj hj=>by omega]
  let#[j,lj,rj]:=jd;apply#[0,by omega,v',_,e.1::wr,U,s3,e3,CU,by omega,.inl #[Gu,U,?_]];rw[<- e0];have:j=k:=by omega
  rw[<- this];exact rj
 rw[eq] at Gu;let#[b,rfl,hb]:=Gu;let dm:=dz.inj de;apply#[m - 1,by omega,_,_,e.1::wr,U,s3,e3,CU,by omega,.inr #[b,q,U,hb,by omega,by omega,?_,.inr #[e.1,nq,jd]]];rw[show m - 1 - 1=d by omega];exact dq
end
end Ev
namespace Ev
open PySem L2
theorem Yf{hs:Xa}{ts:Xb}(G:Good hs ts){q:Pc}{h h':Str}(m:h'∈sW hs ts q h):h≠h':=by
 intro e;subst e;let m2:=(mL.mp (mL.mp m).1).2;let#[t,ht,et]:=Iy.mp (ph m2);let g:=(G.tok t ht).2.2;have e1:aH h h=(h,h):=by rcases BN h h with e|e<;>exact e
 rw[e1] at et;rcases BN t.1 t.2 with e|e
 ·rw[e] at et;exact g ((eG Prod.fst et).trans (eG Prod.snd et).symm)
 rw[e] at et;exact g ((eG Prod.snd et).trans (eG Prod.fst et).symm)
def oI(H:Hp):ai->List (Str × Str × Str)->Prop:=Paired λy m=>∃t,y=.ref t/\H t\.tup [.str m.1,.str m.2.1,.str m.2.2]
theorem Q8{hs:Xa}{ts:Xb}{qs:aN}:∀{ms:List (Str × Str × Str)} {row:List ak} {a s:ak},row.length=ms.length+1->(∀(j:Nat) m,ms[j]? = some m->∃x y,row[j]? = some x/\row[j+1]? = some y/\Mv hs ts qs x y m)->row.head? = some a->row.getLast? = some s->A0 hs ts qs a ms s
 |[],[],_,_,hl,_,_,_=>by cases hl
 |[],[x],a,s,_,_,h1,h2=>by
  cases cu h1;cases cu h2;exact .nil
 |[],_::_::_,_,_,hl,_,_,_=>by simp at hl
 |m::ms,[],_,_,hl,_,_,_=>by cases hl
 |m::ms,[x],_,_,hl,_,_,_=>by simp at hl
 |m::ms,x::y::r,a,s,hl,hm,h1,h2=>by
  cases cu h1;let#[x',y',e1,e2,mv]:=hm 0 m U;cases cu e1;cases cu e2;apply .cons mv (Q8 ⇑hl (λj m' hj=>hm (j+1) m' hj) U ?_);rw[List.getLast?_cons_cons] at h2;exact h2
section v
theorem Ht:bN ["goods","hands","after","piece","one","other"] ["goods","hands","after"] (aX qZ):=bU
inductive kY (K:aj) (CG CW:Addr) (vs:ai) (H:Hp) (Q:VK) (E:XK):Prop
 |mk:∀(g p t u:Addr) (hs:Xa) (ts:Xb) (qs:aN) (fp:ao) (a b:ak) (m:Str × Str × Str),vs=[.ref g,.ref t,.ref u]->Gs K CG CW H g p hs ts qs fp->H t\.tup (sV a)->H u\.tup (sV b)->a.length=qs.length->Mv hs ts qs a b m->(∀x H',aa H H'->H' x\.tup [.str m.1,.str m.2.1,.str m.2.2]->Q (.ref x) H')->kY K CG CW vs H Q E
theorem Zd{f CG CW:Addr}{fd:Ae}(F:br K "move_between" "move_between" qZ f fd)(mZ:mg "zip"=none)(T:gf K CG)(cN:!bQ CG 1 "names" pf (BP K CG CW)):!aq a9 2 f fd ["goods","hands","after"] (kY K CG CW):=by
 exists F.bT Ht;let#[g,p,t,u,hs,ts,qs,fp,a,b,m,rfl,G,ht,hu,la,mv,k]:=h;have jf:aP 1 _:=hr.mono (by decide);refine' #[_,aw ?s1 (aF ?s2),?kk]
 case' s1=>refine' ed dH U ?i1 ?g1 (aF ?b1)
 case i1=>exact Zs (by rfl) mZ %[AA cN T.cl jf (pv 0),1,2|0]
 case g1=>exact kz U (dG (cq 3 Ht.nd) (dG (cq 4 Ht.nd) (dG (cq 5 Ht.nd) iM)))
 case b1=>exact cg (fh tG (pv 4) (pv 5)) (aF (bx (iC %[3,4,5|0]))) cm
 case s2=>exact bx AB
 let#[k0,q,h,h',q1,q2,q3,rfl,rfl]:=mv;let ne:=Yf G.Gd q3;have hk:k0<qs.length:=(b_.mp q1).1;let#[dx,dw,dy,vs,di,h1,_]:=id G.G.ex;apply#[_,U,g,dx,_,U,h1,wF _ _ _ Z0 Z0 Z0,g,p,hs,ts,qs,fp,U,G.G,λl hl=>?_];let#[s1,e1]:=aI (o:=.lst ((qs.map (·.1)).map V.str)) hl;generalize upd H l (.lst ((qs.map (·.1)).map V.str))=H1 at s1 e1 ⊢;apply#[_,U,_,U,l,t,u,_,_,_,U,.of e1,.of (s1 _ _ ht),.of (s1 _ _ hu),?_]
 let Iv:bO:=λi σ H'=>∃(v3 v4 v5:aE),σ=[some (.ref g),some (.ref t),some (.ref u),v3,v4,v5]/\aa H1 H'/\i<=k0
 apply _a (by rw[au,au,au];exact la) (by rw[au,au,au,List.length_set];exact la) Iv #[none,none,none,U,aa.refl _,gE _] (λi σ H' _ ⟨_,_,_,_,sm,_⟩=>#[.of (sm _ _ e1),.of (sm _ _ (s1 _ _ ht)),.of (sm _ _ (s1 _ _ hu))]) ?_ ?_
 ·rintro i x y z σ H2 hx hy hz ⟨v3,v4,v5,rfl,s2,le⟩ tt K6;let#[n,hn,rfl]:=mG hx;let#[o1,uk,rfl]:=mG hy;let#[o2,fA,rfl]:=mG hz;let#[s3,e3]:=aI (o:=.tup [.str n,.str o1,.str o2]) K6;show gO _ _ _ _ _ (upd H2 tt (.tup [.str n,.str o1,.str o2])) _;generalize upd H2 tt (.tup [.str n,.str o1,.str o2])=H3 at s3 e3 ⊢;apply#[tt,_,U,.of e3,U,_,_,U,_,_,U,_,_,U,U,?_];apply#[_,U,_,U,U,_,U,?_];by_cases c:i=k0
  ·subst c;rw[q2] at uk;cases uk;rw[List.getElem?_set_self Z1] at fA;cases fA;rw[dF,q1] at hn;cases hn;rw[fD (λz:V.str h=V.str h'=>ne (V.str.inj z))];apply dD #[_,U,_,U,_,U,zl,λx hx=>?_];exact k x _ (((s1.trans s2).trans s3).trans (aa.new hx)) az
  rw[List.getElem?_set_ne (bG c),uk] at fA;cases fA;rw[cJ U];exact aL #[_,_,_,U,s2.trans s3,by omega]
 rintro σ H2 ⟨v3,v4,v5,rfl,s2,le⟩;rw[au,au] at le;omega
theorem yK:bN ["goods","row"] ["goods","row"] (aX q_):=bU
inductive kZ (K:aj) (CG CW:Addr) (vs:ai) (H:Hp) (Q:VK) (E:XK):Prop
 |mk:∀(g p l:Addr) (ys:ai) (hs:Xa) (ts:Xb) (qs:aN) (fp:ao) (a s:ak) (n:Nat) (row:List ak),vs=[.ref g,.ref l]->Gs K CG CW H g p hs ts qs fp->H l\.lst ys->gR H ys row->Row (Nx hs ts qs) a s n row->(∀z∈row,z.length=qs.length)->n<1000000->(∀x zs ms H',aa H H'->H x=none->H' x\.lst zs->oI H' zs ms->A0 hs ts qs a ms s->ms.length=n->Q (.ref x) H')->kZ K CG CW vs H Q E
theorem QE{N:ak->ak->Prop}:∀{row:List ak},Cn N row->∀{j:Nat} {x y:ak},row[j]? = some x->row[j+1]? = some y->N x y
 |[],_,_,_,_,h,_=>by cases h
 |[_],_,j,_,_,_,h=>by simp at h
 |a::b::r,c,0,x,y,h1,h2=>by
  cases cu h1;cases cu h2;exact c.1
 |a::b::r,c,j+1,x,y,h1,h2=>QE c.2 ⇑h1 ⇑h2
theorem Mc{H:Hp}{ys:ai}{l:List ak}(h:gR H ys l){j:Nat}{s:ak}(hs:l[j]? = some s):∃t,ys[j]? = some (.ref t)/\H t\.tup (sV s):=by
 have hj:j<l.length:=(b_.mp hs).1;let hl:=bj h;let#[t,e,ht]:=eP h j Z1 hj;rw[aY hj] at hs;cases hs;exact#[t,by rw[aY Z1,e],ht]
theorem Zr{f CG CW:Addr}{fd:Ae}(F:br K "moves_along" "moves_along" q_ f fd)(B:Bi mg)(cB:!bu 2 "move_between" ["goods","hands","after"] (kY K CG CW)):!aq a9 3 f fd ["goods","row"] (kZ K CG CW):=by
 exists F.bT yK;let#[g,p,l,ys,hs,ts,qs,fp,a,s,n,row,rfl,G,hl,sp,Gr,vl,n6,k]:=h;let sz:=cU;let vC:=bj sp;let lr:=Gr.len;refine' #[_,aF (bx (kD ["k","goods","row"] 1 [0,1] (AL (by rfl) B.range %[bJ BE (cZ ic (by rfl) B.len gH %[1|0]) aD|0]) (λfp s H=>?g1) (λfp s H=>mI) (λfp s H=>?e1))),?kk]
 case g1=>exact gh (i:=0) (show (["k","goods","row"]:ae).Nodup by decide +kernel) U (Or.inl U)
 case e1=>exact bg cB hr %[1,bz (zp (K:=K) rO h_) (pv 2) (pv 0),bz (zp (K:=K) rO h_) (pv 2) (bJ ie (pv 0) aD)|0]
 apply#[_,U,l,_,U,.inl (.of hl),_,_,U,U,_,U,by show (-(2 ^ 62):Int)<=(ys.length:Int) - 1;omega,by show (ys.length:Int) - 1<2 ^ 62;omega,λD hD=>?_];apply Mu (own:=1) (fv:=[some (.ref g),some (.ref l)]) U fY n (λi out H'=>aa H H'/\H' D\.lst out/\∃ms,oI H' out ms/\ms.length=i/\∀(j:Nat) m,ms[j]? = some m->∃x y,row[j]? = some x/\row[j+1]? = some y/\Mv hs ts qs x y m) #[aa.new hD,az,[],.nil,U,by simp] (λout H' ⟨sm,dJ,ms,mv,lm,tr⟩=>?_) (λi out H' hi ⟨sm,dJ,ms,mv,lm,tr⟩=>?_)
 ·apply#[?_,k D out ms H' sm hD dJ mv (Q8 Z1 tr Gr.hd Gr.lt) lm];show ((ys.length:Int) - 1).toNat<=n;omega
 apply#[by show i<((ys.length:Int) - 1).toNat;omega,?_];rintro x H2 ⟨rfl,rfl⟩;rw[Int.zero_add];apply#[_,U,U,λNx' hN=>fV ?_];have h1:row[i]? = some (row[i]' Z1):=aY Z1;have h2:row[i+1]? = some (row[i+1]' Z1):=aY Z1;obtain⟨x1,e1⟩:∃x,x=row[i]' Z1:=#[_,U];obtain⟨x2,e2⟩:∃x,x=row[i+1]' Z1:=#[_,U];rw[<- e1] at h1;rw[<- e2] at h2;let#[t1,y1,uj]:=Mc sp h1;let#[t2,y2,Bh]:=Mc sp h2;let#[m,mm]:=QE Gr.cn h1 h2;apply#[_,U,_,U,_,U,l,_,i,.ref t1,U,U,.of (sm _ _ hl),L2.d8 y1,_,U,_,U,_,_,U,U,l,_,((i:Int)+1),.ref t2,U,U,.of (sm _ _ hl),?_,g,p,t1,t2,hs,ts,qs,fp,x1,x2,m,U,G.same sm,sm _ _ uj,sm _ _ Bh,vl _ (cz h1),mm,λz H3 s3 e3=>?_]
 ·rw[show ((i:Int)+1)=((i+1:Nat):Int) by omega];exact L2.d8 y2
 let lo:=bj mv;apply#[out,s3 _ _ dJ,by omega,hN _ _ #[fR (sm.trans s3) hD,az,ms++[m],?_,by rw[eM,lm];rfl,λj m' hj=>?_]]
 ·have tD:∀{c xs},H3 c\.tup xs->upd H3 D (.lst (out++[.ref z])) c\.tup xs:=λe=>by
   rw[ax (bK e (s3 _ _ dJ) nofun)];exact e
  exact gU (Paired.aU mv λy m ⟨t,e,ht⟩=>#[t,e,tD (s3 _ _ ht)]) (.cons #[z,U,tD e3] .nil)
 by_cases c:j<ms.length
 ·rw[wK c] at hj;exact tr j m' hj
 have:j=ms.length:=by
  have:=(b_.mp hj).1;rw[eM,js] at this;omega
 subst this;rw[yb (bc _),Nat.sub_self] at hj;cases cu hj;rw[lm];exact#[x1,x2,h1,h2,mm]
end
end Ev
namespace Ev
open PySem L2
theorem QL{hs:Xa}{ts:Xb}{qs:aN}:∀{row:List ak} {a:ak},Cn (Nx hs ts qs) row->row.head? = some a->Vs hs qs a->∀z∈row,Vs hs qs z
 |[],_,_,_,_,_,hz=>by cases hz
 |[x],a,_,h,v,z,hz=>by
  cases cu h;rw[eD.mp hz];exact v
 |x::y::r,a,c,h,v,z,hz=>by
  cases cu h;rcases bW.mp hz with rfl|hz
  ·exact v
  exact QL c.2 U (c.1.vs v) z hz
section v
theorem Ip:bN ["goods","stand","limit","most","placed","reach","hands"] oG (aX Nf):=bU
structure By (H:Hp) (d:Addr) (hs:Xa) (qs:aN) (fp:ao) (s0:ak) (ns:ae) (f:bh):Prop where
 hd:H d\.dK (fw ns f)
 wa:d∉fp
 ok:Nu hs qs ns f
 s0:s0=(qs.map (·.1)).map f
inductive Iq (K:aj) (CG CW:Addr) (vs:ai) (H:Hp) (Q:VK) (E:XK):Prop
 |mk:∀(g p d lt:Addr) (hs:Xa) (ts:Xb) (qs:aN) (fp:ao) (s0:ak) (ns:ae) (f:bh) (l:Int × Int) (m:Nat),vs=[.ref g,.ref d,.ref lt,.int m]->Gs K CG CW H g p hs ts qs fp->By H d hs qs fp s0 ns f->ia H lt l->we l->1<=m->m<1000000->(∀t x ys ms s H',aa H H'->H x=none->H' t\.tup [.str "moves",.ref x]->H' x\.lst ys->oI H' ys ms->A0 hs ts qs s0 ms s->Ds (Nx hs ts qs) s0 ms.length s->ji hs qs s l=true->(∀j z,j<ms.length->Ds (Nx hs ts qs) s0 j z->ji hs qs z l=false)->Q (.ref t) H')->(∀t H',aa H H'->H' t\.tup [.str "none"]->(∀j z,Ds (Nx hs ts qs) s0 j z->ji hs qs z l=false)->Q (.ref t) H')->(∀t H',aa H H'->H' t\.tup [.str "more"]->More (Nx hs ts qs) s0 m->Q (.ref t) H')->Iq K CG CW vs H Q E
theorem By.vs{H:Hp}{d:Addr}{hs:Xa}{qs:aN}{fp:ao}{s0:ak}{ns:ae}{f:bh}(S:By H d hs qs fp s0 ns f):Vs hs qs s0:=by
 apply⟨by rw[S.s0,au,au],λh hh=>?_⟩;rw[S.s0] at hh;let#[n,hn,rfl]:=bw.mp hh;exact (fE hs).mem_iff.mpr (S.ok.at_ n (S.ok.perm.mem_iff.mpr hn))
theorem gP_{f0 CG CW CR:Addr}{fd:Ae}(F:br K "fewest_moves" "fewest_moves" Nf f0 fd)(B:Bi mg)(T:mQ K CR)(cL:!bu 4 "check_limit" gg qD)(cS:!bu 2 "checked_stand" ["goods","stand"] (IA K CG CW))(cF:!bu 2 "is_whole_from" Bw IF)(cR:!j_ CR 5 "Reach" oE (IY K CG CW CR))(cE:!bu 7 "is_even" oF (MX K CG CW))(cA:!bu 3 "moves_along" ["goods","row"] (kZ K CG CW))(cT:!bQ CR 1 "row_to" Bu (kW CR))(cW:!bQ CR 2 "widen" ["self","most"] (Iz CR)):!aq a9 8 f0 fd oG (Iq K CG CW):=by
 exists F.bT Ip;let#[g,p,d,lt,hs,ts,qs,fp,s0,ns,f,l,m,rfl,G,S,hl,lo,m1,m6,kM,kN,kO]:=h;let hu:=fO hr;let sz:=cU;have n8:(aO hs).length<=8:=by rw[G.Gd.gX];exact G.Gd.h8
 have jf:aP 1 _:=hr.mono (by decide);have iT:aP 2 _:=hr.mono (by decide);have GV:aP 4 _:=hr.mono (by decide);refine' #[_,aw ?s1 (aw ?s2 (aw ?s3 (aw ?s4 (aw ?s5 (aF ?s6))))),?kk]
 case s1=>exact kG (bg cL hr %[2|0])
 case s2=>exact bo 4 Ip.nd (bg cS hr %[0,1|0])
 case s3=>exact cg (fi (e_ (bg cF hr %[3,aD|0]))) gj cm
 case s4=>exact bo 5 Ip.nd (GP cR hr %[0,4|0])
 case' s5=>refine' FP dH ?c5 (aw ?b1 (aF ?b2))
 case c5=>exact fh (MW (mF hr 0)) (gd (pv 5) U) (fF bF)
 case' b1=>refine' ed dH U ?i1 ?g1 (aF ?e1)
 case i1=>exact dE (gd (pv 5) U)
 case g1=>exact cq 6 Ip.nd
 case e1=>exact cg (e_ (bg cE hr %[0,6,2|0])) (aF (bx (iC %[xZ,bg cA hr %[0,i6 cT T.cl jf (pv 5) %[6|0]|0]|0]))) cm
 case b2=>exact cg (fi (e_ (i6 cW T.cl iT (pv 5) %[3|0]))) (aF (bx (jn OM (by rfl) B.tuple wJ %[fF %[xZ|0]|0]))) cm
 case s6=>exact bx (jn OM (by rfl) B.tuple wJ %[fF %[xZ|0]|0])
 apply#[_,U,lt,l,U,hl,lo,?_];apply#[_,U,_,U,g,p,d,hs,ts,qs,fp,ns,f,U,G.G,S.wa,S.hd,S.ok,G.nd,G.cX,λd1 H1 s1 n1 e1=>?_];apply#[_,U,m,1,U,_,U,?_];rw[cJ (show (1:Int)<=(m:Int) by omega)];apply aL ?_;apply#[_,U,_,U,λr dx jg zP ne=>?_];have s2:aa H1 (upd (upd H1 dx (.own r)) r (.ins CR dx [])):=(aa.new zP).trans (aa.new (by rw[ax ne.symm];exact jg));have e2:upd (upd H1 dx (.own r)) r (.ins CR dx []) r\.ins CR dx []:=az;have rn:H r=none:=s1.free jg;generalize upd (upd H1 dx (.own r)) r (.ins CR dx [])=H2 at s2 e2 ⊢;let jc:=s1.trans s2;apply#[r,dx,g,p,d1,hs,ts,qs,fp,f,U,e2,G.same jc,s2 _ _ e1,λa x n H3 k3 an R3=>#[U,?_]];have sX:(qs.map (·.1)).map f=s0:=S.s0.symm;rw[sX] at R3;have OX:H a=none:=jc.free an;have eV:aa H H3:=λb o e=>k3 b o (jc _ _ e) (bq e rn);let v0:=S.vs
 let N:ak->ak->Prop:=Nx hs ts qs
 let Iv:bO:=λq σ H'=>∃(v6:aE) (n:Addr) (pa:List (ak × Option ak)) (nw:List ak) (k:Nat),σ=[some (.ref g),some (.ref d),some (.ref lt),some (.int m),some (.ref d1),some (.ref r),v6]/\aa H H'/\v_ CR H' r a x n hs ts qs pa nw/\Bf N s0 k (pa.map (·.1)) nw/\pF N s0 pa/\pa.length<=m/\(nw≠[]->k+1<=pa.length)/\(∀j z,j<k->Ds N s0 j z->ji hs qs z l=false)/\q=(m - pa.length)+(if nw=[] then 0 else 1)
 apply#[Iv,#[_,_,n,[(s0,none)],[s0],0,U,eV,R3,Bf.start,?_,by simpa using m1,by simp,λj z hj=>by omega,U],?_]
 ·intro e he;rw[eD.mp he];exact .inl #[U,U]
 rintro q σ H4 ⟨v6,n,pa,nw,k,rfl,s4,R,bf,po,pm,kp,ev,rfl⟩;let#[#[HZ,vM],ex4,#[g8,jG,BW],#[A5,zI,iF]]:=id R;let l4:=bj iF;have Cp:∀z∈nw,Vs hs qs z:=λz hz=>((bf.new z).mp hz).1.vs v0;apply#[_,U,r,CR,HZ,_,_,U,vM,T.cl,T.nN,BI _ _ _,zl,λb hb=>?_];let#[s5,e5]:=aI (o:=.lst []) hb;generalize upd H4 b (.lst [])=H5 at s5 e5 ⊢;apply#[n,b,A5,U,U,.of (s5 _ _ zI),.of e5,_,U,?_];let pK:=s4.trans s5;by_cases c:nw=[]
 ·have ye:A5=[]:=List.length_eq_zero_iff.mp (by rw[l4,c];rfl);rw[ye];apply aL ?_;apply#[zl,λl1 eY=>?_];let#[s6,e6]:=aI (o:=.lst [.str "none"]) eY;generalize upd H5 l1 (.lst [.str "none"])=H6 at s6 e6 ⊢;apply#[l1,_,U,.inl #[.of e6,λt ht=>?_]];apply kN t _ ((pK.trans s6).trans (aa.new ht)) az λj z dz=>?_;rw[c] at bf;exact ev j z (bf.last dz) dz
 have ye:A5.isEmpty=false:=by
  cases A5 with
  |nil=>
   cases nw with
   |nil=>exact absurd U c
   |cons _ _=>cases l4
  |cons _ _=>rfl
 rw[ye];let kpa:=kp c;apply dD #[λaV H'=>∃q',q'<(m - pa.length)+(if nw=[] then 0 else 1)/\Iv q' aV H',λ_ _ h=>h,?_];rw[aB c];apply#[_,U,r,CR,HZ,_,_,U,s5 _ _ vM,T.cl,T.nN,BI _ _ _,n,U,#[_,.of (s5 _ _ zI)],?_]
 let Iw:bO:=λi σ H'=>∃(v6:aE),σ=[some (.ref g),some (.ref d),some (.ref lt),some (.int m),some (.ref d1),some (.ref r),v6]/\aa H4 H'/\∀(j:Nat) z,j<i->nw[j]? = some z->ji hs qs z l=false
 apply gi (K:=K) (a:=n) (xs:=A5) Iw ?_ ?_ ?_ ?_
 ·exact#[_,U,s5,λj z hj=>by omega]
 ·rintro i σ H' _ ⟨_,_,sm,_⟩;exact .of (sm _ _ zI)
 ·rintro i y σ H6 hy ⟨VO,rfl,s6,Mw⟩;have hi:i<A5.length:=(b_.mp hy).1;have hz:nw[i]? = some (nw[i]' Z1):=aY Z1;obtain⟨z,ez⟩:∃z,z=nw[i]' Z1:=#[_,U];rw[<- ez] at hz;let#[t,yt,ht]:=Mc iF hz;rw[hy] at yt;cases yt;let zm:=cz hz;let zd:=(bf.new z).mp zm;let gr:=s4.trans s6;apply#[_,U,_,U,_,U,g,p,t,lt,hs,ts,qs,fp,z,l,U,G.same gr,s6 _ _ ht,Cp z zm,gr _ _ hl,lo,λH7 s7=>#[_,U,?_]];let xf:=s6.trans s7;let oT:=s4.trans xf;apply bY (λcc=>?_) (λcc=>?_)
  ·apply#[_,U,_,U,r,HZ,_,U,xf _ _ vM,IM _ _ _ Z0 Z0 Z0,_,U,r,x,a,n,t,hs,ts,qs,pa,nw,s0,z,k,U,R.same xf,xf _ _ ht,zd,bf.nd,λj u hj wu=>(bf.all u).mpr #[j,hj,wu],po,by omega,λl8 Vj row H8 s8 n8' e8 Wl Kd=>?_];apply#[g,p,l8,Vj,hs,ts,qs,fp,s0,z,k,row,U,(G.same oT).same s8,e8,Wl,Kd,λu vJ=>(QL Kd.cn Kd.hd v0 u vJ).len,by omega,λx9 zs ms H9 s9 n9 e9 mv tr lm=>#[zl,λt9 K8=>?_]];let Wq:=s8.trans s9;let Gq:=oT.trans Wq;let sA:=aa.new (o:=.tup [.str "moves",.ref x9]) K8;apply kM t9 x9 zs ms z _ (Gq.trans sA) (oT.free (s8.free n9)) az (sA _ _ e9) (Paired.aU mv λy m ⟨t,e,ht⟩=>#[t,e,sA _ _ ht]) tr (by rw[lm];exact zd) cc λj u hj du=>ev j u Z1 du
  apply#[_,U,xf,λj u hj vJ=>?_];by_cases c2:j=i
  ·subst c2;rw[hz] at vJ;cases vJ;simpa using cc
  exact Mw j u Z1 vJ
 rintro σ H6 ⟨VO,rfl,s6,Mw⟩;let gr:=s4.trans s6
 have evk:∀j z,j<k+1->Ds N s0 j z->ji hs qs z l=false:=λj z hj dz=>by
  by_cases c2:j=k
  ·subst c2;let#[i,hi,e]:=gJ ((bf.new z).mpr dz);exact Mw i z Z1 (by rw[aY hi,e])
  exact ev j z Z1 dz
 have sN:∀{H7:Hp},pI r a H6 H7->aa H H7:=λb7 b o e=>b7 b o (gr _ _ e) (bq e rn) (bq e OX);apply#[_,U,r,HZ,_,U,s6 _ _ vM,IM _ _ _ Z0 Z0 Z0,_,U,r,x,a,n,hs,ts,qs,pa,nw,s0,k,m,U,R.same s6,bf,po,Cp,n8,G.cX,by omega,by omega,λH7 b7 more=>#[_,U,dD ?_],λn' lU lV H7 b7 nn R7 FK Kk sj Kn=>#[_,U,aL ?_]]
 ·apply#[zl,λl1 eY=>?_];let#[s8,e8]:=aI (o:=.lst [.str "more"]) eY;generalize upd H7 l1 (.lst [.str "more"])=H8 at s8 e8 ⊢;apply#[l1,_,U,.inl #[.of e8,λt ht=>?_]];exact kO t _ (((sN b7).trans s8).trans (aa.new ht)) az more
 apply#[_,?_,_,n',lU,lV,k+1,U,sN b7,R7,FK,Kk,?_,?_,evk,U]
 ·split
  ·rename_i c3
   rw[c3] at sj;simp at sj;omega
  rename_i c3
  have:1<=lV.length:=by
   cases lV with
   |nil=>exact absurd U c3
   |cons _ _=>simp
  rcases Kn with o|o
  ·omega
  exact absurd o c3
 ·rcases Kn with o|o
  ·exact o
  rw[o] at sj;simp at sj;omega
 intro c3
 have:1<=lV.length:=by
  cases lV with
  |nil=>exact absurd U c3
  |cons _ _=>simp
 omega
end
end Ev
namespace Ev
open PySem L2
structure j8 (ts:Xb) (p:Pc):Prop where
 g:j7 ts p
 sub:∀ws,p.2.2\ws->∀w∈ws,w∈ts
theorem UK:∀us:Xb,Paired (λw u=>w=u∨w=(u.2,u.1)) us us
 |[]=>.nil
 |u::us=>.cons (.inl U) (UK us)
section v
theorem AV:bN [hZ,"_law_ties_here","_law_most",uE,"_law_k","_law_name_here","_law_some","_law_weight","_law_ways"] tU (aX M9):=bU
inductive Os (K:aj) (vs:ai) (H:Hp) (Q:VK) (E:XK):Prop
 |mk:∀(l lt:Addr) (m:Nat) (zs:ai) (ts:Xb),vs=[.ref l,.ref lt,.int m]->m<=8->dQ H l->H lt\.lst zs->bS K H zs (ts.map kT)->lt≠l->ts.length<64->(∀t∈ts,vY t)->(ts.map kO).Nodup->(∀(a:Addr) (ys:ai) (ps:aN) (H':Hp),bC l H H'->dQ H' l->H a=none->H' a\.lst ys->jO K H' ys ps->(∀p∈ps,j8 ts p)->(ps.map (·.1)).Nodup->ps.length<=m->Q (.ref a) H')->Os K vs H Q E
theorem fr_{f:Addr}{fd:Ae}(F:br K "_law_pieces" "_law_pieces" M9 f fd)(B:Bi mg)(cD:!bu 1 vZ xV AO)(cN:!bu 2 "_law_name" [hZ] Nm):!aq a9 3 f fd tU (Os K):=by
 exists F.bT AV;let#[l,lt,m,zs,ts,rfl,m8,st,dW,tu,zg,cX,good,nd,k]:=h;let sz:=cU;let lz:=bj tu;rw[au] at lz;refine' #[_,aw ?s1 (aw ?s2 (aF ?s3)),?kk]
 case s1=>exact bo 3 AV.nd (fF bF)
 case' s2=>refine' ed dH U ?i2 ?g2 (aw ?b1 (aF ?b2))
 case i2=>exact AL (by rfl) B.range %[bg cD hr %[0,bJ ie (pv 2) aD|0]|0]
 case g2=>exact cq 4 AV.nd
 case b1=>exact bo 5 AV.nd (bg cN hr %[0|0])
 case' b2=>refine' cg (fh (Uj ix (mF hr 0)) (pv 5) (kD [wm] 1 [] (dE (pv 3)) (λfp s H=>?g3) (λfp s H=>mI) (λfp s H=>?e3)) (by with_unfolding_all rfl)) (aw ?c1 (aw ?c2 (aw ?c3 (aF ?c4)))) cm
 case g3=>exact gh (i:=0) (show ([wm]:ae).Nodup by decide +kernel) U (Or.inl U)
 case e3=>exact bz (zp (K:=K) oU cw) (pv 0) aD
 case c1=>exact bo 6 AV.nd (fF %[bJ ie aD (bg cD hr %[0,aD|0]),bJ ie aD (bg cD hr %[0,aD|0]),bJ ie aD (bg cD hr %[0,bJ Ye aD aD|0])|0])
 case c2=>exact bo 7 AV.nd (bz h_ (pv 6) (bg cD hr %[0,aD|0]))
 case' c3=>refine' MM (i:=8) ["_law_tie",hZ] 1 [0] AV.nd U (Or.inl U) (dE (pv 1)) (λfp s H=>?g4) (λfp s H=>?t4) (λfp s H=>?e4)
 case g4=>exact gh (i:=0) (show (["_law_tie",hZ]:ae).Nodup by decide +kernel) U (Or.inl U)
 case t4=>exact H_ (fh GQ (bg cD hr %[1,aD|0]) aD)
 case e4=>exact pv 0
 case c4=>exact kG (ow mq uK uL tR (pv 3) %[iC %[5,7,bz h_ (fF %[AB,AB,8|0]) (bg cD hr %[0,aD|0])|0]|0])
 case s3=>exact bx (pv 3)
 apply#[zl,λa ha=>?_];let#[Pq,o7]:=st.some;have gy:l≠a:=bq o7 ha;let#[s1,e1]:=aI (o:=.lst []) ha;let u5:=st.same s1;generalize upd H a (.lst [])=H1 at s1 e1 u5 ⊢;apply#[_,U,_,U,_,_,U,U,l,(m:Int)+1,U,by omega,by omega,u5,λr H2 r0 rm b2 gq=>?_];apply#[_,U,by show (-(2 ^ 62):Int)<=r;omega,by show r<(2 ^ 62:Int);omega,?_]
 let Iv:bO:=λi σ H'=>∃(v4 v5 v6 v7 v8:aE) (ys:ai) (ps:aN),σ=[some (.ref l),some (.ref lt),some (.int m),some (.ref a),v4,v5,v6,v7,v8]/\bC l H H'/\dQ H' l/\H' a\.lst ys/\Paired (λy p=>∃t v,y=.ref t/\H' t\.tup [.str p.1,.int p.2.1,v]/\bV K H' v p.2.2/\v≠.ref a) ys ps/\(∀p∈ps,j8 ts p)/\(ps.map (·.1)).Nodup/\ps.length<=i
 apply BO (lo:=0) (n:=r.toNat) Iv #[none,none,none,none,none,[],[],U,(bC.of s1).trans b2,gq,b2 _ _ e1 gy.symm,.nil,by simp,.nil,bc _] ?_ ?_
 ·rintro i σ H3 hi ⟨v4,v5,v6,v7,v8,ys,ps,rfl,b3,iE,jH,Gy,gp,vo,le⟩;let ly:=bj Gy;apply#[_,U,l,U,iE,λx H4 nx b4 iP=>?_];let#[Vp,um]:=iE.some;let jG:=b4 _ _ jH gy.symm
  have Gw:∀{Ha Hb:Hp},bC l Ha Hb->dQ Ha l->∀{y p},(∃t v,y=V.ref t/\Ha t\.tup [.str p.1,.int p.2.1,v]/\bV K Ha v p.2.2/\v≠.ref a)->∃t v,y=V.ref t/\Hb t\.tup [.str (p:Pc).1,.int p.2.1,v]/\bV K Hb v p.2.2/\v≠.ref a:=by
   intro Ha Hb bb sb y p h;let#[t,v,e,ht,wy,na]:=h;let#[xs,e2]:=sb.some;exact#[t,v,e,bb _ _ ht (bK ht e2 nofun),wy.but bb sb,na]
  let Qf:=Paired.aU Gy λy p h=>Gw b4 iE h;apply#[_,U,_,U,a,U,#[_,.of jG],λD hD=>?_];apply kI (own:=1) (fv:=[]) (xs:=ys) U fY (λi out H'=>aa H4 H'/\H' D\.lst out/\out=((ps.take i).map (·.1)).map V.str) #[aa.new hD,az,U] (λi out H' _ ⟨sm,_,_⟩=>.of (sm _ _ jG)) (λout H5 ⟨s5,iX,eo⟩=>?_) (λj y out H' hy ⟨sm,dJ,eo⟩=>?_);rotate_left 1
  ·have hj:j<ys.length:=(b_.mp hy).1;let#[t,v,e,ht,_]:=eP Qf j hj Z1;rw[aY hj] at hy;cases hy;rw[e];have hp:ps[j]? = some (ps[j]' Z1):=aY Z1;apply#[_,U,U,λNx hN=>fV ?_];apply#[_,U,t,_,0,_,U,U,.of (sm _ _ ht),L2.d8 (j:=0) U,out,dJ,?_,hN _ _ #[fR sm hD,az,?_]]
   ·rw[eo,au,au,dR];omega
   rw[yc _ hp,fg,eo];rfl
  rw[ly,eI] at eo;subst eo;have b5:bC l H H5:=(b3.trans b4).trans (bC.of s5);let iO:=iP.same s5;let ER:=s5 _ _ jG;let Qe:=Paired.aU Qf λy p h=>Gw (bC.of s5) iP h;apply#[x,_,U,TK iX,_,U,?_];apply bY (λc=>?_) (λc=>?_)
  ·have Kw:x∉ps.map (·.1):=⇑c
   apply#[_,U,l,3,U,by decide,by decide,iO,λr1 H6 q0 q1 b6 ke=>#[_,_,U,U,?_]];apply#[_,U,l,9,U,by decide,by decide,ke,λr2 H7 q2 q3 b7 kR=>#[_,_,U,U,?_]];apply#[_,U,_,_,U,U,#[by decide,by decide,by decide],l,_,U,by decide,by decide,kR,λr3 H8 q4 q5 b8 CM=>#[_,_,U,U,?_]];have q5:r3<1000000000:=q5;apply#[zl,λp hp=>?_];let#[s9,e9]:=aI (o:=.lst [.int (1+r1),.int (1+r2),.int (1+r3)]) hp;let A8:=CM.same s9
   have pl:p≠l:=by
    let#[xs,e]:=CM.some;exact (bq e hp).symm
   have U2:bC l H5 (upd H8 p (.lst [.int (1+r1),.int (1+r2),.int (1+r3)])):=((b6.trans b7).trans b8).trans (bC.of s9);generalize upd H8 p (.lst [.int (1+r1),.int (1+r2),.int (1+r3)])=H9 at s9 e9 A8 U2 ⊢;apply#[_,U,_,U,l,3,U,by decide,by decide,A8,λr4 HA q6 q7 bA J3=>?_];let#[y,hy,wt,ew,w1,w2]:=EB (p:=λy:V=>∃n:Int,y=.int n/\1<=n/\n<=1000000000) (a:=V.int (1+r1)) (b:=.int (1+r2)) (c:=.int (1+r3)) q6 q7 #[_,U,by omega,by omega] #[_,U,by omega,by omega] #[_,U,by omega,by omega];subst ew;apply#[p,_,_,_,U,U,.of (bA _ _ e9 pl),hy,?_];let OT:=U2.trans bA;have Rx:bC l H HA:=b5.trans OT;let Eo:=Rx _ _ dW zg;let VX:=jR tu Rx o7;apply#[_,U,lt,U,#[_,.of Eo],λD2 Ac=>?_]
   have Pj:D2≠l:=by
    let#[xs,e]:=J3.some;exact (bq e Ac).symm
   apply kI (own:=1) (fv:=[some (.ref l)]) (xs:=zs) U fY (λi out H'=>∃us:Xb,bC l HA H'/\dQ H' l/\H' D2\.lst out/\bS K H' out (us.map kT)/\us.Sublist (ts.take i)) #[[],bC.of (aa.new Ac),J3.same (aa.new Ac),az,.nil,List.nil_sublist _] (λi out H' _ ⟨_,b,_⟩=>.of (b _ _ Eo zg)) (λVk HB ⟨us,bB,Gj,G_,VW,sub⟩=>?_) (λi x out H' hx ⟨us,b,stx,hDx,Pz,sub⟩=>?_);rotate_left 1
   ·let#[t,ht,p,rfl,hp]:=oB VX hx;apply#[_,U,U,λNx hN=>?_];apply#[_,U,l,3,U,by decide,by decide,stx,λr2 H4 q0 q1 b4 iP=>#[_,_,U,U,_,U,?_]];let#[Vn,o6]:=stx.some;let yo:=jR Pz b4 o6;let o8:=b4 _ _ hDx Pj;let#[Vu,e1]:=J3.some;have iq:p≠l:=bK hp e1 nofun;apply bY (λc2=>?_) (λc2=>?_)
    ·let lo:=bj Pz;rw[au] at lo;let ls:=sub.length_le;rw[dR] at ls;let Eg:=b4 _ _ (b _ _ hp iq) iq;apply#[_,U,out,o8,by omega,hN _ _ #[us++[t],λb' o e ne=>?_,?_,az,?_,?_]]
     ·rw[ax (bq e Ac)];exact b4 _ _ (b _ _ e ne) ne
     ·unfold dQ;rw[ax Pj.symm];exact iP
     ·rw[fg];exact IE (gb_ yo Eg) o8
     rw[tQ,ht];exact sub.append (List.Sublist.refl _)
    apply hN _ _ #[us,b.trans b4,iP,o8,yo,sub.trans ?_];rw[tQ];exact List.sublist_append_left _ _
   rw[lz,eI] at sub;let OS:=OT.trans bB;let RO:=OS _ _ ER gy.symm;let W7:=Paired.aU Qe λy p h=>Gw OS iO h
   have D2a:D2≠a:=λz=>by
    have:=OT _ _ ER gy.symm;rw[<- z,Ac] at this;cases this
   apply#[_,U,.inl #[U,_,.of RO],_,U,_,U,_,U,zl,λlx o6=>?_];let#[sC,eC]:=aI (o:=.lst [.non,.non,.ref D2]) o6;let stC:=Gj.same sC
   have KF:lx≠l:=by
    let#[xs,e]:=Gj.some;exact (bq e o6).symm
   generalize upd HB lx (.lst [.non,.non,.ref D2])=HC at sC eC stC ⊢;apply#[_,U,l,3,U,by decide,by decide,stC,λr5 HD q8 q9 bD Wg=>?_];have FQ:bC l HB HD:=(bC.of sC).trans bD;let VU:=jR VW FQ (Gj.some.choose_spec);let hDD:=FQ _ _ G_ Pj;let#[v,hv,o,wy,fresh,gw,gs]:=EB (p:=λv:V=>∃o,bV K HD v o/\v≠.ref a/\(∀ws,o\ws->Fh ts ws)/\∀ws,o\ws->∀w∈ws,w∈ts) (a:=V.non) (b:=.non) (c:=.ref D2) q8 q9 #[none,U,nofun,(λws z=>by cases z),(λws z=>by cases z)] #[none,U,nofun,(λws z=>by cases z),(λws z=>by cases z)] #[some us,#[D2,Vk,U,hDD,VU],(λz=>D2a (V.ref.inj z)),(λws z=>by cases z;exact YW good nd sub (UK us)),(λws z w hw=>by cases z;exact sub.subset hw)];apply#[lx,_,_,_,U,U,.of (bD _ _ eC KF),hv,zl,λt ht=>?_];let haD:=FQ _ _ RO gy.symm;let#[sE,eE]:=aI (o:=.tup [.str x,.int wt,v]) ht;let Bc:=Paired.aU W7 λy p h=>Gw (FQ.trans (bC.of sE)) Gj h;let PJ:=Wg.same sE;let Pr:=wy.same sE;let bE:=(b5.trans OS).trans (FQ.trans (bC.of sE));let Bo:=sE _ _ haD;generalize upd HD t (.tup [.str x,.int wt,v])=HE at sE eE Bc PJ Pr bE Bo ⊢;apply#[a,_,_,U,U,Bo,by omega,?_];apply#[_,_,_,_,_,_,ps++[(x,wt,o)],U,λb' o' e ne=>?_,?_,az,?_,?_,?_,?_]
   ·rw[ax (bq e ha)];exact bE _ _ e ne
   ·unfold dQ;rw[ax gy];exact PJ
   ·exact gU (Paired.aU Bc λy p ⟨t',v,e,Ee,wy,na⟩=>#[t',v,e,by rw[ax (bK Ee Bo nofun)];exact Ee,wy.put Bo na,na]) (.cons #[t,v,U,by rw[ax (bK eE Bo nofun)];exact eE,Pr.put Bo fresh,fresh] .nil)
   ·intro q hq;rcases dM.mp hq with hq|hq
    ·exact gp q hq
    rw[eD.mp hq];exact#[#[nx,w1,w2,gw],gs]
   ·rw[fg,List.nodup_append];exact#[vo,by simp,λa1 h1 a2 h2 e=>Kw (by rw[<- (eD.mp h2:a2=x),<- e];exact h1)]
   rw[eM,js];omega
  exact#[_,_,_,_,_,ys,ps,U,b5,iO,ER,Qe,gp,vo,by omega]
 rintro σ H3 ⟨v4,v5,v6,v7,v8,ys,ps,rfl,b3,iE,jH,Gy,gp,vo,le⟩;exact#[_,U,k a ys ps H3 b3 iE ha jH (Paired.aU Gy λy p ⟨t,v,e,ht,wy,_⟩=>#[t,v,e,ht,wy]) gp vo Z1]
end
end Ev
namespace Ev
open PySem L2
section v
theorem qK:bN oH oH (aX Nd):=bU
inductive Oz (K:aj) (vs:ai) (H:Hp) (Q:VK) (E:XK):Prop
 |mk:∀(l lh lp:Addr) (yh yp:ai) (hs:Xa) (ps:aN),vs=[.ref l,.ref lh,.ref lp]->dQ H l->H lh\.lst yh->bS K H yh (hs.map kH)->lh≠l->1<=hs.length->hs.length<=8->H lp\.lst yp->jO K H yp ps->lp≠l->(ps.map (·.1)).Nodup->ps.length<=8->(∀d f H',bC l H H'->dQ H' l->H d=none->H' d\.dK (fw (ps.map (·.1)) f)->(∀n∈ps.map (·.1),f n∈hs.map (·.1))->Q (.ref d) H')->Oz K vs H Q E
theorem fW_{f:Addr}{fd:Ae}(F:br K "_law_stand" "_law_stand" Nd f fd)(B:Bi mg)(cD:!bu 1 vZ xV AO):!aq a9 2 f fd oH (Oz K):=by
 exists F.bT qK;let#[l,lh,lp,yh,yp,hs,ps,rfl,st,eX,th,vE,h1,h8,iI,pc,DQ,nd,p8,k]:=h;let sz:=cU;let kg:=bj th;rw[au] at kg;let DL:=bj pc;refine' #[_,aF (bx (jn (AZ U) (by rfl) B.dict uH %[kD [wm,jP,hZ] 1 [1,0] (dE (pv 2)) (λfp s H=>?g1) (λfp s H=>mI) (λfp s H=>?e1)|0])),?kk]
 case g1=>exact gh (i:=0) (show ([wm,jP,hZ]:ae).Nodup by decide +kernel) U (Or.inl U)
 case e1=>exact iC %[bz (zp (K:=K) oU cw) (pv 0) aD,bz (zp (K:=K) oU cw) (bz (zp (K:=K) rO h_) (pv 1) (bg cD hr %[2,cZ (Fq (K:=K) OR ic) (by rfl) B.len gH %[1|0]|0])) aD|0]
 let#[Pq,o7]:=st.some;apply#[_,U,lp,U,#[_,.of iI],λD hD=>?_];have Dl:D≠l:=(bq o7 hD).symm;apply kI (own:=1) (fv:=[some (.ref lh),some (.ref l)]) (xs:=yp) U fY (λi out H'=>∃hh:ak,bC l H H'/\dQ H' l/\H' D\.lst out/\hh.length=i/\(∀h∈hh,h∈hs.map (·.1))/\kr K H' out ((((ps.map (·.1)).take i).zip (sV hh)).map λp=>(Sum.inr p.1,p.2))) #[[],bC.of (aa.new hD),st.same (aa.new hD),az,U,by simp,by simp;exact .nil] (λi out H' _ ⟨_,b,_⟩=>.of (b _ _ iI DQ)) (λout H5 ⟨hh,b5,iO,iX,KL,mem,pa⟩=>?_) (λi y out H' hy ⟨hh,b,stx,dJ,X2,mem,pa⟩=>?_)
 ·rw[DL] at KL;have lt:(ps.map (·.1)).take yp.length=ps.map (·.1):=by rw[DL];exact uQ Z2
  rw[lt] at pa;have ln:(ps.map (·.1)).length=ps.length:=au _;rw[QW nd (by rw[ln];exact KL)] at pa;apply#[D,out,_,U,iX,pa,by rw[mK,ln];omega,λd hd=>?_]
  have nV:((fw (ps.map (·.1)) (Al (ps.map (·.1)) hh)).map (·.1)).Nodup:=by
   rw[BQ,qe,wL];exact nd.imp λn e=>n (iy e)
  rw[ya nV];apply k d (Al (ps.map (·.1)) hh) _ (b5.trans (bC.of (aa.new hd))) (iO.same (aa.new hd)) (b5.free iO hd) az λn hn=>?_;let#[j,hj,e]:=gJ hn;have zL:j<hh.length:=by rw[KL,<- ln];exact hj
  rw[Hj nd (k:=j) (by rw[aY hj,e]) (aY zL)];exact mem _ (mO zL)
 have hi:i<yp.length:=(b_.mp hy).1;let#[t,v,e,ht,_]:=eP pc i hi Z1;rw[aY hi] at hy;cases hy;rw[e];have hp:ps[i]? = some (ps[i]' Z1):=aY Z1;obtain⟨pz,ep⟩:∃p,p=ps[i]' Z1:=#[_,U];rw[<- ep] at hp ht;have tl:t≠l:=bK ht o7 nofun;apply#[_,U,U,λNx hN=>fV ?_];apply#[_,U,t,_,0,_,U,U,.of (b _ _ ht tl),L2.d8 (j:=0) U,_,U,_,U,_,U,lh,_,U,.inl (.of (b _ _ eX vE)),l,(yh.length:Int),U,by omega,by omega,stx,λr H2 r0 r1 b2 gq=>?_];let#[r,rfl]:=AY r0;have GW:r<yh.length:=by omega
 let#[u,eu,hu]:=eP th r GW (by rw[au];omega);let bb:=b.trans b2;have hh':(hs.map kH)[r]'(by rw[au];omega)=kH (hs[r]' Z1):=List.getElem_map ..;rw[hh'] at hu;let _Y:=sI (bb _ _ hu (bK hu o7 nofun));apply#[lh,_,r,.ref u,U,U,.of (bb _ _ eX vE),L2.d8 (by rw[aY GW,eu]),u,_,0,_,U,U,.of _Y,L2.d8 (j:=0) U,zl,λz hz=>?_];let#[s3,e3]:=aI (o:=.tup [.str pz.1,.str (hs[r]' Z1).1]) hz;let iE:=gq.same s3;let xP:=s3 _ _ (b2 _ _ dJ Dl);generalize upd H2 z (.tup [.str pz.1,.str (hs[r]' Z1).1])=H3 at s3 e3 iE xP ⊢;let lo:=bj pa;rw[au,List.length_zip,dR,au,au] at lo
 have tD:∀{c xs},H3 c\.tup xs->upd H3 D (.lst (out++[.ref z])) c\.tup xs:=λe=>by
  rw[ax (bK e xP nofun)];exact e
 let#[Vn,o6]:=stx.some;apply#[out,xP,by omega,hN _ _ #[hh++[(hs[r]' Z1).1],λc o e ne=>?_,?_,az,by rw[eM,X2];rfl,λh hm=>?_,?_]]
 ·rw[ax (bq e hD)];exact s3 _ _ (bb _ _ e ne)
 ·unfold dQ;rw[ax Dl.symm];exact iE
 ·rcases dM.mp hm with hm|hm
  ·exact mem h hm
  rw[eD.mp hm];exact bw.mpr #[_,mO Z1,U]
 have ez:((ps.map (·.1)).take (i+1)).zip (sV (hh++[(hs[r]' Z1).1]))=((ps.map (·.1)).take i).zip (sV hh)++[(pz.1,V.str (hs[r]' Z1).1)]:=by
  rw[uI (n:=pz.1) (by rw[dF,hp];rfl)];show _=_;rw[show sV (hh++[(hs[r]' Z1).1])=sV hh++[V.str (hs[r]' Z1).1] from fg,List.zip_append (by rw[dR,au,au];omega)];rfl
 rw[ez,fg];apply gU (Paired.aU pa λy p ⟨c,e,hc⟩=>#[c,e,tD (s3 _ _ (b2 _ _ hc (bK hc o6 nofun)))]) (.cons #[z,U,tD e3] .nil)
theorem Ov:bN [jP,mz,"_law_spot",uE,"_law_k"] jV (aX NK):=bU
def dI(ss:aN)(s:ak)(h:Str):Int:=ld (fS ss s) (ss.map eF) h
inductive FR (K:aj) (vs:ai) (H:Hp) (Q:VK) (E:XK):Prop
 |mk:∀(lh lp t:Addr) (yh yp:ai) (hs:Xa) (ss:aN) (s:ak),vs=[.ref lh,.ref lp,.ref t]->H lh\.lst yh->bS K H yh (hs.map kH)->(hs.map (·.1)).Nodup->hs.length<=8->H lp\.lst yp->jO K H yp ss->(ss.map (·.1)).Nodup->ss.length<=8->H t\.tup (sV s)->s.length=ss.length->(∀h∈s,h∈hs.map (·.1))->(∀d H',aa H H'->H d=none->H' d\.dK (d_ (hs.map (·.1)) λh=>.int (dI ss s h))->Q (.ref d) H')->FR K vs H Q E
theorem gB_{f:Addr}{fd:Ae}(F:br K "_law_loads" "_law_loads" NK f fd)(B:Bi mg):!aq a9 1 f fd jV (FR K):=by
 exists F.bT Ov;let#[lh,lp,t,yh,yp,hs,ss,s,rfl,eX,th,o5,h8,iI,pc,nd,p8,ht,ls,fW,k]:=h;let hu:=fO hr;let sz:=cU;let kg:=bj th;rw[au] at kg;let DL:=bj pc;refine' #[_,aw ?s1 (aw ?s2 (aF ?s3)),?kk]
 case' s1=>refine' bo 3 Ov.nd (jn (AZ U) (by rfl) B.dict uH %[kD Bz 2 [] (dE (pv 0)) (λfp s H=>?g1) (λfp s H=>mI) (λfp s H=>?e1)|0])
 case g1=>exact FG (n:=2) (dG (gh (i:=0) (show (Bz:ae).Nodup by decide +kernel) U (Or.inl U)) (dG (gh (i:=1) (show (Bz:ae).Nodup by decide +kernel) U (Or.inl U)) iM))
 case e1=>exact iC %[0,aD|0]
 case' s2=>refine' ed dH U ?i2 ?g2 (aF ?b2)
 case i2=>exact AL (by rfl) B.range %[cZ ic (by rfl) B.len gH %[1|0]|0]
 case g2=>exact cq 4 Ov.nd
 case b2=>exact uJ hu (pv 3) (bz cw (pv 2) (pv 4)) (bJ ie (jo hu (pv 3) (bz cw (pv 2) (pv 4))) (bz cw (bz h_ (pv 1) (pv 4)) aD)) U
 case s3=>exact bx (pv 3)
 apply#[_,U,lh,U,#[_,.of eX],λD hD=>?_];apply kI (own:=2) (fv:=[]) (xs:=yh) U Ah (λi out H'=>aa H H'/\H' D\.lst out/\kr K H' out (d_ ((hs.map (·.1)).take i) λ_=>.int 0)) #[aa.new hD,az,.nil] (λi out H' _ ⟨sm,_,_⟩=>.of (sm _ _ eX)) (λout H5 ⟨sm,iX,pa⟩=>?_) (λi y out H' hy ⟨sm,dJ,pa⟩=>?_);rotate_left 1
 ·let#[h,hh,p,rfl,hp]:=oB th hy;apply#[_,#[p,_,_,U,.of (sm _ _ (sI hp)),U],U,λNx hN=>fV ?_];apply#[_,U,zl,λz hz=>?_];let#[s3,e3]:=aI (o:=.tup [.str h.1,.int 0]) hz;generalize upd H' z (.tup [.str h.1,.int 0])=H3 at s3 e3 ⊢;have hi:i<hs.length:=(b_.mp hh).1;let lo:=bj pa;rw[mK,dR,au] at lo
  have tD:∀{c xs},H3 c\.tup xs->upd H3 D (.lst (out++[.ref z])) c\.tup xs:=λe=>by
   rw[ax (bK e (s3 _ _ dJ) nofun)];exact e
  apply#[out,s3 _ _ dJ,by omega,hN _ _ #[fR (sm.trans s3) hD,az,?_]];rw[uI (n:=h.1) (by rw[dF,hh];rfl)];show kr K _ _ (((hs.map (·.1)).take i++[h.1]).map _);rw[fg];exact gU (Paired.aU pa λy p ⟨c,e,hc⟩=>#[c,e,tD (s3 _ _ hc)]) (.cons #[z,U,tD e3] .nil)
 have lt:(hs.map (·.1)).take yh.length=hs.map (·.1):=uQ (by rw[au];omega);rw[lt] at pa;apply#[D,out,_,U,iX,pa,by rw[mK,au];omega,λd hd=>?_]
 have nV:((d_ (hs.map (·.1)) λ_=>V.int 0).map (·.1)).Nodup:=by
  rw[BQ,qe,wL];exact o5.imp λn e=>n (iy e)
 rw[ya nV];let#[s6,e6]:=aI (o:=.dK (d_ (hs.map (·.1)) λ_=>V.int 0)) hd;have dn:H d=none:=sm.free hd;let gr:=sm.trans s6;generalize upd H5 d (.dK (d_ (hs.map (·.1)) λ_=>V.int 0))=H6 at s6 e6 gr ⊢;apply#[_,U,lp,_,U,.inl (.of (gr _ _ iI)),_,U,by show (-(2 ^ 62):Int)<=(yp.length:Int);omega,by show (yp.length:Int)<2 ^ 62;omega,?_]
 let Iv:bO:=λi σ H'=>∃(v4:aE),σ=[some (.ref lh),some (.ref lp),some (.ref t),some (.ref d),v4]/\aa H H'/\H' d\.dK (d_ (hs.map (·.1)) λh=>.int (ld (fS ss s) ((ss.take i).map eF) h))
 apply BO (lo:=0) (n:=((yp.length:Nat):Int).toNat) Iv #[none,U,gr,e6] ?_ ?_
 ·rintro i σ H7 hi ⟨v4,rfl,s7,e7⟩;rw[Int.zero_add];have hi:i<ss.length:=by omega
  let#[u,v,eu,vJ,_]:=eP pc i Z1 hi;have GU:s[i]? = some (s[i]' Z1):=aY Z1;obtain⟨h,eh⟩:∃h,h=s[i]' Z1:=#[_,U];obtain⟨q,eq⟩:∃q,q=ss[i]:=#[_,U];have hq:ss[i]? = some q:=by rw[eq];exact aY hi
  rw[<- eh] at GU;rw[<- eq] at vJ;have hm:h∈hs.map (·.1):=fW h (cz GU);have EL:iL (sV s) (i:Int)\.str h:=L2.d8 (by rw[dF,GU];rfl);let Ri:=s7 _ _ ht;have ff:fS ss s q.1=h:=Hj nd (k:=i) (by rw[dF,hq];rfl) GU;apply#[_,U,_,U,_,U,t,_,i,_,U,U,.of Ri,EL,d,.int (ld (fS ss s) ((ss.take i).map eF) h),U,?_,?_]
  ·have:=dP.k (k:=.inr h) e7;rw[wz (g:=λh=>V.int (ld (fS ss s) ((ss.take i).map eF) h)) hm] at this;exact this
  apply#[_,U,_,U,lp,_,i,.ref u,U,U,.of (s7 _ _ iI),L2.d8 (by rw[aY Z1,eu]),u,_,1,_,U,U,.of (s7 _ _ vJ),L2.d8 (j:=1) U,_,_,U,U,?_];apply#[_,U,_,U,_,U,t,_,i,_,U,U,.of Ri,EL,d,_,U,.k (k:=Sum.inr h) e7 (by rw[mK,au];omega),?_];apply#[_,U,fR s7 dn,?_];rw[az,Sh hm];apply eG (λz=>some (HO.dK z)) (Jf λn _=>?_);rw[yc _ hq,Sj];show (if n=h then _ else _)=V.int (if n=fS ss s q.1 then _ else _);rw[ff];by_cases c:n=h
  ·rw[aJ c,aJ c,c];rfl
  rw[aB c,aB c]
 rintro σ H7 ⟨v4,rfl,s7,e7⟩;have:ss.take ((yp.length:Nat):Int).toNat=ss:=uQ Z1;rw[this] at e7;exact#[_,U,k d H7 s7 dn e7]
end
end Ev
namespace Ev
open PySem L2
structure eN (ts:Xb) (ss qs:aN):Prop where
 qs:qs=ss.map pN
 dr:∀p∈ss,j8 ts p
 nd:(ss.map (·.1)).Nodup
theorem eN.y9{ts:Xb}{ss qs:aN}(S:eN ts ss qs):qs.map (·.1)=ss.map (·.1):=by
 rw[S.qs,cY];rfl
theorem eN.ws{ts:Xb}{ss qs:aN}(S:eN ts ss qs):qs.map eF=ss.map eF:=by
 rw[S.qs,cY];rfl
theorem eN.wp{ts:Xb}{ss qs:aN}(S:eN ts ss qs):∀q∈qs,0<=q.2.1/\q.2.1<=1000000000:=λq hq=>by
 rw[S.qs] at hq;let#[p,hp,rfl]:=bw.mp hq;let g:=(S.dr p hp).g;let h1:=g.w1;let h2:=g.w2;exact#[by show 0<=p.2.1;omega,h2]
theorem eN.len{ts:Xb}{ss qs:aN}(S:eN ts ss qs):qs.length=ss.length:=by rw[S.qs,au]
theorem AF{ts:Xb}{ss qs:aN}(S:eN ts ss qs)(s:ak)(h:Str):dI ss s h=ld (fS qs s) (qs.map eF) h:=by
 unfold dI fS;rw[S.y9,S.ws]
theorem Tp{hs:Xa}{ts:Xb}{ss qs:aN}(G:Good hs ts)(S:eN ts ss qs)(s:ak)(l:Int × Int):ji hs qs s l=true ↔ ∀a∈hs,∀b∈hs,¬(l.1 * a.2 * b.2<l.2 * (dI ss s a.1 * b.2 - dI ss s b.1 * a.2)):=by
 rw[MG];let mo:=tI G
 have one:∀a∈hs,∀b∈hs,(¬(l.1 * a.2 * b.2<l.2 * (dI ss s a.1 * b.2 - dI ss s b.1 * a.2)) ↔ l.2 * (d0 hs qs (fS qs s) a.1 - d0 hs qs (fS qs s) b.1)<=l.1 * bP hs):=λa ha b hb=>by
  have am:a.1∈aO hs:=(fE hs).mem_iff.mpr (bw.mpr #[a,ha,U]);have bm:b.1∈aO hs:=(fE hs).mem_iff.mpr (bw.mpr #[b,hb,U]);have ea:strOf hs a.1=a.2:=IJ G.o5 ha;have eb:strOf hs b.1=b.2:=IJ G.o5 hb;let sa:=wC G am;let sb:=wC G bm;let ma:=mo.2.2 _ am;let mb:=mo.2.2 _ bm;rw[ea] at sa ma;rw[eb] at sb mb;let OZ:=QU (La:=ld (fS qs s) (qs.map eF) a.1) (Lb:=ld (fS qs s) (qs.map eF) b.1) ma mb
  have e1:d0 hs qs (fS qs s) a.1=ld (fS qs s) (qs.map eF) a.1 * (bP hs / a.2):=by
   unfold d0;rw[ea]
  have e2:d0 hs qs (fS qs s) b.1=ld (fS qs s) (qs.map eF) b.1 * (bP hs / b.2):=by
   unfold d0;rw[eb]
  rw[AF S,AF S,e1,e2,Int.not_lt];have Jm:0<a.2 * b.2:=Int.mul_pos Z1 Z1
  have k1:l.2 * (ld (fS qs s) (qs.map eF) a.1 * b.2 - ld (fS qs s) (qs.map eF) b.1 * a.2) * bP hs=a.2 * b.2 * (l.2 * (ld (fS qs s) (qs.map eF) a.1 * (bP hs / a.2) - ld (fS qs s) (qs.map eF) b.1 * (bP hs / b.2))):=by
   rw[Int.mul_assoc,OZ]
   grind
  have k2:l.1 * a.2 * b.2 * bP hs=a.2 * b.2 * (l.1 * bP hs):=by grind
  constructor
  ·intro h;have:=BX h (gS mo.1);rw[k1,k2] at this;exact Int.le_of_mul_le_mul_left this Jm
  intro h;have:=FW h (gS Jm);rw[<- k1,<- k2] at this;exact Int.le_of_mul_le_mul_right this mo.1
 constructor
 ·intro h a ha b hb;exact (one a ha b hb).mpr (h _ ((fE hs).mem_iff.mpr (bw.mpr #[a,ha,U])) _ ((fE hs).mem_iff.mpr (bw.mpr #[b,hb,U])))
 intro h x hx y hy;let#[a,ha,rfl]:=bw.mp ((fE hs).mem_iff.mp hx);let#[b,hb,rfl]:=bw.mp ((fE hs).mem_iff.mp hy);exact (one a ha b hb).mp (h a ha b hb)
section v
theorem AM:bN [jP,mz,"_law_spot","_law_limit",uE,"_law_one",xS,"_law_other","_law_more","_law_over"] tX (aX lO):=bU
inductive Nk (K:aj) (vs:ai) (H:Hp) (Q:VK) (E:XK):Prop
 |mk:∀(lh lp t lt:Addr) (yh yp:ai) (hs:Xa) (ts:Xb) (ss qs:aN) (s:ak) (l:Int × Int),vs=[.ref lh,.ref lp,.ref t,.ref lt]->H lh\.lst yh->bS K H yh (hs.map kH)->Good hs ts->H lp\.lst yp->jO K H yp ss->eN ts ss qs->ss.length<=8->H t\.tup (sV s)->Vs hs qs s->ia H lt l->we l->(∀H',aa H H'->Q (.bl (ji hs qs s l)) H')->Nk K vs H Q E
theorem hB_{f:Addr}{fd:Ae}(F:br K "_law_even" "_law_even" lO f fd)(cL:!bu 1 "_law_loads" jV (FR K)):!aq a9 2 f fd tX (Nk K):=by
 exists F.bT AM;let#[lh,lp,t,lt,yh,yp,hs,ts,ss,qs,s,l,rfl,eX,th,G,iI,pc,S,s8,ht,v,hl,lo,k]:=h;let hu:=fO hr;let kg:=bj th;rw[au] at kg;have fW:∀h∈s,h∈hs.map (·.1):=λh hh=>(fE hs).mem_iff.mp (v.fW h hh);refine' #[_,aw ?s1 (aw ?s2 (aF ?s3)),?kk]
 case s1=>exact bo 4 AM.nd (bg cL hr %[0,1,2|0])
 case' s2=>refine' ed dH U (dE (pv 0)) ?g2 (aF ?b2)
 case g2=>exact kz U (dG (cq 5 AM.nd) (dG (cq 6 AM.nd) iM))
 case' b2=>refine' ed dH U (dE (pv 0)) ?g3 (aw ?c1 (aF ?c2))
 case g3=>exact kz U (dG (cq 7 AM.nd) (dG (cq 8 AM.nd) iM))
 case c1=>exact bo 9 AM.nd (bJ BE (bJ iB (jo hu (pv 4) (pv 5)) (pv 8)) (bJ iB (jo hu (pv 4) (pv 7)) (pv 6)))
 case c2=>exact cg (fh GQ (bJ iB (bz cw (pv 3) aD) (pv 9)) (bJ iB (bJ iB (bz cw (pv 3) aD) (pv 6)) (pv 8))) (aF (bx gI)) cm
 case s3=>exact bx gI
 apply#[_,U,_,U,_,U,lh,lp,t,yh,yp,hs,ss,s,U,eX,th,G.o5,G.h8,iI,pc,S.nd,s8,ht,by rw[v.len,S.len],fW,λd H1 s1 n1 e1=>?_];let wR:=th.same s1
 have xw:∀n,0<=dI ss s n/\dI ss s n<=64000000000:=λn=>by
  rw[AF S];exact Br S.wp (by rw[S.len];omega) _ _
 let X:(Str × Int)->(Str × Int)->Prop:=λa b=>l.1 * a.2 * b.2<l.2 * (dI ss s a.1 * b.2 - dI ss s b.1 * a.2)
 let Iv:bO:=λi σ H'=>∃(v5 v6 v7 v8 v9:aE),σ=[some (.ref lh),some (.ref lp),some (.ref t),some (.ref lt),some (.ref d),v5,v6,v7,v8,v9]/\H'=H1/\∀a∈hs.take i,∀b∈hs,¬X a b
 apply#[_,U,lh,U,#[_,.of (s1 _ _ eX)],?_];apply gi (K:=K) (a:=lh) (xs:=yh) Iv ?_ ?_ ?_ ?_
 ·exact#[none,none,none,none,none,U,U,by simp]
 ·rintro i σ H' _ ⟨_,_,_,_,_,_,rfl,_⟩;exact .of (s1 _ _ eX)
 ·rintro i y σ H2 hy ⟨v5,v6,v7,v8,v9,rfl,rfl,no⟩;let#[a,ha,p,rfl,hp]:=oB wR hy;let am:=cz ha;have an:a.1∈hs.map (·.1):=bw.mpr #[a,am,U];let ga:=G.ay a am;apply#[p,_,U,.of (sI hp),U,_,_,U,_,_,U,U,?_]
  let Iw:bO:=λj σ H'=>∃(v7 v8 v9:aE),σ=[some (.ref lh),some (.ref lp),some (.ref t),some (.ref lt),some (.ref d),some (.str a.1),some (.int a.2),v7,v8,v9]/\H'=H2/\∀b∈hs.take j,¬X a b
  apply#[_,U,lh,U,#[_,.of (s1 _ _ eX)],?_];apply gi (K:=K) (a:=lh) (xs:=yh) Iw ?_ ?_ ?_ ?_
  ·exact#[_,_,_,U,U,by simp]
  ·rintro j σ H' _ ⟨_,_,_,_,rfl,_⟩;exact .of (s1 _ _ eX)
  ·rintro j y σ H3 hy ⟨v7,v8,v9,rfl,rfl,nR⟩;let#[b,hb,q,rfl,hq]:=oB wR hy;let bm:=cz hb;have bn:b.1∈hs.map (·.1):=bw.mpr #[b,bm,U];let gb:=G.ay b bm;let la:=xw a.1;let lb:=xw b.1;let Sq:=ga.2.1;let E2:=ga.2.2;let So:=gb.2.1;let E1:=gb.2.2
   have dg:∀{n},n∈hs.map (·.1)->dP H3 d (.str n) (some (.int (dI ss s n))):=λ{n} hn=>by
    have:=dP.k (k:=.inr n) e1;rw[wz (g:=λh=>V.int (dI ss s h)) hn] at this;exact this
   apply#[q,_,U,.of (sI hq),U,_,_,U,_,_,U,U,?_];apply#[_,U,_,U,d,_,U,dg an,_,U,_,_,U,U,.inr #[by omega,by omega],_,U,_,U,d,_,U,dg bn,_,U,_,_,U,U,.inr #[by omega,by omega],_,_,U,U,?_];have m1:0<=dI ss s a.1 * b.2/\dI ss s a.1 * b.2<=64000000000 * 1000:=#[Int.mul_nonneg la.1 Z1,Int.mul_le_mul la.2 E1 Z1 (by decide)];have m2:0<=dI ss s b.1 * a.2/\dI ss s b.1 * a.2<=64000000000 * 1000:=#[Int.mul_nonneg lb.1 Z1,Int.mul_le_mul lb.2 E2 Z1 (by decide)];apply#[_,U,lt,_,1,_,U,U,.of (s1 _ _ hl),L2.d8 (j:=1) U,_,U,_,_,U,U,.inr #[by omega,by omega],?_];apply#[_,U,lt,_,0,_,U,U,.of (s1 _ _ hl),L2.d8 (j:=0) U,_,U,_,_,U,U,.inr #[by omega,by omega],_,U,_,_,U,U,.inr #[by omega,by omega],_,_,U,U,_,U,?_];apply bY (λc=>?_) (λc=>?_)
   ·have hx:X a b:=ph c;let kk:=k H3 s1
    have:ji hs qs s l=false:=by
     rw[<- Bool.not_eq_true,Tp G S];exact λh=>h a am b bm hx
    rw[this] at kk;exact kk
   have hx:¬X a b:=λh=>absurd h (Int.not_lt.mpr ⇑c);apply#[_,_,_,U,U,λz hz=>?_];rw[kE,hb] at hz;rcases dM.mp hz with hz|hz
   ·exact nR z hz
   have:z=b:=⇑hz
   rw[this];exact hx
  rintro σ H3 ⟨v7,v8,v9,rfl,rfl,nR⟩;rw[kg,eI] at nR;apply#[_,_,_,_,_,U,U,λz hz=>?_];rw[kE,ha] at hz;rcases dM.mp hz with hz|hz
  ·exact no z hz
  have:z=a:=⇑hz
  rw[this];exact nR
 rintro σ H2 ⟨v5,v6,v7,v8,v9,rfl,rfl,no⟩;rw[kg,eI] at no;let kk:=k H2 s1;rw[(Tp G S s l).mpr no] at kk;exact kk
end
end Ev
namespace L2
open PySem PySem.Spec PyProof.Rows PySem.W kJ dO
def Kg(K:aj){D:Type}[DecidableEq D](R:Rp D)(neg:Bool):V->V->Hp->VK->Prop:=λx y H Q=>∃(d:D) (es:List D) (a:Addr) (ys:ai),R H x d/\y=.ref a/\fH K H a ys/\Paired (R H) ys es/\Q (.bl (if neg then !decide (d∈es) else decide (d∈es))) H
theorem Yi{X:Cx}{n:Nat}{D:Type}[DecidableEq D]{R:Rp D}(c:j9 X n R)(hu:X.A.units+n+1<cLine):dN X (compareOp .In) (Kg X.K R false):=by
 intro pins s σ H x y v u Q I rx ry h;let#[d,es,a,ys,hx,rfl,t,q,hq]:=h;cases ry;let#[us,r,pl,_]:=I.tuple t;let#[f,h1,h2]:=Ms c I (A:=X.A.in1) rx hx (by show X.A.units+1+n<cLine;omega) r q;apply SeqAt.in_tupleAt f (AW pl) (λw hw=>h1 w ⇑hw) #[.bl _,H,I,U,?_];rw[show us.toArray.any f=us.any f by simp,h2];exact hq
end L2
namespace Ev
open PySem L2
def iG(t:Str × Str)(h:Str):Str:=if t.1=h then t.2 else t.1
theorem Nl{ts:Xb}{a b:Str}:aH a b∈bR ts ↔ (a,b)∈ts∨(b,a)∈ts:=by
 rw[Iy];constructor
 ·rintro⟨⟨x,y⟩,ht,e⟩;rcases QZ (a:=x) (b:=y) (c:=a) (d:=b) (by show kT (aH x y)=kT (aH a b);rw[<- e]) with⟨rfl,rfl⟩|⟨rfl,rfl⟩
  ·exact .inl ht
  exact .inr ht
 rintro (h|h)
 ·exact#[_,h,U]
 exact#[_,h,NM _ _]
def gL(ts:Xb)(p:Pc):Xb:=p.2.2.getD ts
theorem Y7{ws:Xb}(g:∀t∈ws,vY t){h h':Str}:(∃t∈ws,(h=t.1∨h=t.2)/\h'=iG t h) ↔ (h,h')∈ws∨(h',h)∈ws:=by
 constructor
 ·rintro⟨⟨x,y⟩,ht,e,rfl⟩;let ne:=(g _ ht).2.2;rcases e with rfl|rfl
  ·left
   rw[show iG (h,y) h=y from aJ U];exact ht
  right
  rw[show iG (x,h) h=x from aB ne];exact ht
 rintro (ht|ht)
 ·exact#[_,ht,.inl U,(aJ U).symm]
 exact#[_,ht,.inr U,(aB (g _ ht).2.2).symm]
theorem YT{hs:Xa}{ts:Xb}(G:Good hs ts){p:Pc}(d:j8 ts p){h h':Str}(hm:h∈aO hs):h'∈sW hs ts (pN p) h ↔ ∃t∈gL ts p,(h=t.1∨h=t.2)/\h'=iG t h:=by
 have gw:∀t∈gL ts p,t∈ts:=λt ht=>by
  unfold gL at ht;cases e:p.2.2 with
  |none=>
   rw[e] at ht;exact ht
  |some ws=>
   rw[e] at ht;exact d.sub ws e t ht
 rw[Y7 λt ht=>G.tok t (gw t ht)]
 have jA:∀{o},o∈near (aO hs) (bR ts) h ↔ (h,o)∈ts∨(o,h)∈ts:=λ{o}=>by
  unfold near;rw[mL,decide_eq_true_iff,Nl];apply#[λz=>z.2,λz=>#[?_,z]];rcases z with z|z
  ·exact (fE hs).mem_iff.mpr (G.uX _ z).2
  exact (fE hs).mem_iff.mpr (G.uX _ z).1
 unfold sW;rw[mL,jA];let l7:=(fE hs).mem_iff.mp hm;constructor
 ·rintro⟨h1,h2⟩;cases e:p.2.2 with
  |none=>
   unfold gL;rw[e];exact h1
  |some ws=>
   have e2:(pN p).2.2\bR ws:=by
    show p.2.2.map bR=_;rw[e];rfl
   rw[e2] at h2;let h3:=(Bool.and_eq_true_iff.mp h2).2;have h4:aH h h'∈bR ws:=ph h3;unfold gL;rw[e];exact Nl.mp h4
 intro z;have zt:(h,h')∈ts∨(h',h)∈ts:=z.imp (gw _) (gw _);apply#[zt,?_]
 have Ls:h'∈hs.map (·.1):=by
  rcases zt with y|y
  ·exact (G.uX _ y).2
  exact (G.uX _ y).1
 have td:Bs hs ts (some h) (some h')=true:=by
  show (decide _&&(decide _&&decide _))=true;rw[cJ l7,cJ Ls,cJ (jA.mpr zt)];rfl
 unfold Bp;rw[td,Bool.true_and];cases e:p.2.2 with
 |none=>
  have e2:(pN p).2.2=none:=by
   show p.2.2.map bR=_;rw[e];rfl
  rw[e2]
 |some ws=>
  have e2:(pN p).2.2\bR ws:=by
   show p.2.2.map bR=_;rw[e];rfl
  rw[e2];unfold gL at z;rw[e] at z;exact cJ (Nl.mpr z)
abbrev Me:=(Str × Str × Str) × ak
def As(H:Hp):ai->List Me->Prop:=Paired λy e=>∃t m u,y=.ref t/\H t\.tup [.ref m,.ref u]/\H m\.tup [.str e.1.1,.str e.1.2.1,.str e.1.2.2]/\H u\.tup (sV e.2)
theorem As.keep{H H':Hp}{ys:ai}{L:List Me}(h:As H ys L)(k:∀b xs,H b\.tup xs->H' b\.tup xs):As H' ys L:=Paired.aU h λy e ⟨t,m,u,e1,e2,e3,e4⟩=>#[t,m,u,e1,k _ _ e2,k _ _ e3,k _ _ e4]
def Pd(hs:Xa)(ts:Xb)(qs:aN)(s:ak)(i:Nat)(e:Me):Prop:=∃(k:Nat) (q:Pc) (h h':Str),k<i/\qs[k]? = some q/\s[k]? = some h/\h'∈sW hs ts q h/\e=((q.1,h,h'),s.set k h')
theorem _w{hs:Xa}{ts:Xb}{qs:aN}{s:ak}{e:Me}:Pd hs ts qs s qs.length e ↔ Mv hs ts qs s e.2 e.1:=by
 constructor
 ·rintro⟨k,q,h,h',_,h1,h2,h3,rfl⟩;exact#[k,q,h,h',h1,h2,h3,U,U]
 rintro⟨k,q,h,h',h1,h2,h3,h4,h5⟩;exact#[k,q,h,h',(b_.mp h1).1,h1,h2,h3,Prod.ext h5 h4]
section v
theorem wo:bN [mz,"_law_ties_here","_law_spot",uE,"_law_k","_law_name_here","_law_weight","_law_ways","_law_tie","_law_other","_law_later"] tV (aX NH):=bU
inductive M8 (K:aj) (vs:ai) (H:Hp) (Q:VK) (E:XK):Prop
 |mk:∀(lp lt t:Addr) (yp zs:ai) (hs:Xa) (ts:Xb) (ss qs:aN) (s:ak),vs=[.ref lp,.ref lt,.ref t]->H lp\.lst yp->jO K H yp ss->H lt\.lst zs->bS K H zs (ts.map kT)->Good hs ts->eN ts ss qs->ss.length<=8->H t\.tup (sV s)->Vs hs qs s->(∀l ys L H',aa H H'->H l=none->H' l\.lst ys->As H' ys L->(∀e,e∈L ↔ Mv hs ts qs s e.2 e.1)->L.length<=512->Q (.ref l) H')->M8 K vs H Q E
theorem h6_{f:Addr}{fd:Ae}(F:br K "_law_moves" "_law_moves" NH f fd)(B:Bi mg):!aq a9 1 f fd tV (M8 K):=by
 exists F.bT wo;let#[lp,lt,t,yp,zs,hs,ts,ss,qs,s,rfl,iI,pc,dW,tu,G,S,s8,ht,v,k]:=h;let sz:=cU;let DL:=bj pc;let vl:=v.len;let sl:=S.len;let w_:=G.w_;let lz:=bj tu;rw[au] at lz;refine' #[_,aw ?s1 (aw ?s2 (aF ?s3)),?kk]
 case s1=>exact bo 3 wo.nd (fF bF)
 case' s2=>refine' ed dH U ?i2 ?g2 (aw ?b1 (aF ?b2))
 case i2=>exact AL (by rfl) B.range %[cZ ic (by rfl) B.len gH %[0|0]|0]
 case g2=>exact cq 4 wo.nd
 case b1=>exact Ml (bz h_ (pv 0) (pv 4)) (kz U (dG (cq 5 wo.nd) (dG (cq 6 wo.nd) (dG (cq 7 wo.nd) iM))))
 case' b2=>refine' ed dH U (dE (bz h_ (fF %[7,1|0]) (jn TL (by rfl) B.int L9 %[wA YI (pv 7) AB|0]))) ?g3 (aF ?b3)
 case g3=>exact cq 8 wo.nd
 case' b3=>refine' cg (fh (Yi ix (mF hr 0)) (bz cw (pv 2) (pv 4)) (pv 8) (by with_unfolding_all rfl)) (aw ?c1 (aw ?c2 (aF ?c3))) cm
 case c1=>exact bo 9 wo.nd (bz h_ (fF %[bz cw (pv 8) aD,bz cw (pv 8) aD|0]) (jn TL (by rfl) B.int L9 %[wA E3 (bz cw (pv 8) aD) (bz cw (pv 2) (pv 4))|0]))
 case c2=>exact bo 10 wo.nd (bJ HW (bJ HW (AI HU (pv 2) AQ (AR (pv 4))) (iC %[9|0])) (AI HU (pv 2) (AR (bJ ie (pv 4) aD)) AQ))
 case c3=>exact kG (ow mq uK uL tR (pv 3) %[iC %[iC %[5,bz cw (pv 2) (pv 4),9|0],10|0]|0])
 case s3=>exact bx (pv 3)
 apply#[zl,λl hl=>?_];let#[s1,e1]:=aI (o:=.lst []) hl;generalize upd H l (.lst [])=H1 at s1 e1 ⊢;apply#[_,U,lp,_,U,.inl (.of (s1 _ _ iI)),_,U,by show (-(2 ^ 62):Int)<=(yp.length:Int);omega,by show (yp.length:Int)<2 ^ 62;omega,?_]
 let Iv:bO:=λi σ H'=>∃(v4 v5 v6 v7 v8 v9 v10:aE) (ys:ai) (L:List Me),σ=[some (.ref lp),some (.ref lt),some (.ref t),some (.ref l),v4,v5,v6,v7,v8,v9,v10]/\aa H H'/\H' l\.lst ys/\As H' ys L/\(∀e,e∈L ↔ Pd hs ts qs s i e)/\L.length<=64 * i
 apply BO (lo:=0) (n:=((yp.length:Nat):Int).toNat) Iv ?_ ?_ ?_
 ·exact#[none,none,none,none,none,none,none,[],[],U,s1,e1,.nil,λe=>#[λz=>absurd z gK,λ⟨_,_,_,_,z,_⟩=>absurd z (Nat.not_lt_zero _)],gE _]
 ·rintro i σ H2 hi ⟨v4,v5,v6,v7,v8,v9,v10,ys,L,rfl,s2,e2,me,mem,len⟩;have hi:i<yp.length:=by omega
  let#[tp,wv,ep,hp,wy]:=eP pc i hi Z1;have Ld:ss[i]? = some (ss[i]' Z1):=aY Z1;obtain⟨p,epp⟩:∃p,p=ss[i]' Z1:=#[_,U];rw[<- epp] at hp wy Ld;have hq:qs[i]? = some (pN p):=by rw[S.qs,dF,Ld];rfl
  have Rj:i<s.length:=by omega
  obtain⟨h,eh⟩:∃h,h=s[i]:=#[_,U];have hh:s[i]? = some h:=by rw[aY Rj,eh]
  have hV:(sV s)[i]? = some (.str h):=by rw[dF,hh];rfl
  let hm:=v.fW h (cz hh);let dp:=S.dr p (cz Ld);let ex:=λ{h'}=>YT G dp (h':=h') hm;rw[show (0:Int)+(i:Nat)=(i:Int) by omega];apply#[_,U,_,U,lp,_,i,_,U,U,.of (s2 _ _ iI),L2.d8 (by rw[aY hi,ep]),?_];apply#[tp,_,U,.of (s2 _ _ hp),U,_,_,U,_,_,U,_,_,U,U,?_]
  obtain⟨la,B6,j,hj,gy,tl,GL⟩:∃(la:Addr) (B6:ai) (j:Nat),(if decide (wv=V.non)=true then (1:Int) else 0)=(j:Int)/\[wv,V.ref lt][j]? = some (.ref la)/\(H la\.lst B6/\bS K H B6 ((gL ts p).map kT))/\(gL ts p).length<64:=by
   unfold gL;cases e:p.2.2 with
   |none=>
    rw[e] at wy;have wy:wv=.non:=wy;subst wy;exact#[lt,zs,1,U,U,#[dW,tu],w_]
   |some ws=>
    rw[e] at wy;let#[a,ys,rfl,ha,ta]:=wy;let wl:=(dp.g.ws ws e).len;exact#[a,ys,0,U,U,#[ha,ta],by show ws.length<64;omega]
  let#[Es,tl]:=tl;apply#[_,U,_,U,zl,λlx o6=>?_];let#[s3,e3]:=aI (o:=.lst [wv,.ref lt]) o6;let eV:=s2.trans s3;let uz:=s3 _ _ e2;let Qn:=me.keep λb xs e=>s3 _ _ e;generalize upd H2 lx (.lst [wv,.ref lt])=H3 at s3 e3 eV uz Qn ⊢;apply#[_,U,U,.inr #[_,U,?_]];rw[hj];apply#[lx,_,j,_,U,U,.of e3,L2.d8 gy,la,U,#[_,.of (eV _ _ Es)],?_];let GG:=bj tl;rw[au] at GG
  let Iw:bO:=λj σ H'=>∃(v8 v9 v10:aE) (ys:ai) (L:List Me),σ=[some (.ref lp),some (.ref lt),some (.ref t),some (.ref l),some (.int i),some (.str p.1),some (.int p.2.1),some wv,v8,v9,v10]/\aa H H'/\H' l\.lst ys/\As H' ys L/\(∀e,e∈L ↔ Pd hs ts qs s i e∨∃u∈(gL ts p).take j,(h=u.1∨h=u.2)/\e=((p.1,h,iG u h),s.set i (iG u h)))/\L.length<=64 * i+j
  apply gi (K:=K) (a:=la) (xs:=B6) Iw ?_ ?_ ?_ ?_
  ·exact#[_,_,_,ys,L,U,eV,uz,Qn,λe=>(mem e).trans #[.inl,λz=>z.elim id λ⟨_,z,_⟩=>absurd z gK],by omega]
  ·rintro j σ H' _ ⟨_,_,_,_,_,_,sm,_⟩;exact .of (sm _ _ Es)
  ·rintro j y σ H4 hy ⟨v8,v9,v10,ys,L,rfl,s4,iJ,Dy,fK,lY⟩;let#[u,hu,c,rfl,hc]:=oB tl hy;have G6:H4 c\.tup [.str u.1,.str u.2]:=s4 _ _ hc;let pQ:=s4 _ _ ht;have zL:j<B6.length:=(b_.mp hy).1;let vC:=bj Dy
   have tk:∀z,z∈(gL ts p).take (j+1) ↔ z∈(gL ts p).take j∨z=u:=λz=>by
    rw[kE,hu];simp
   apply#[_,U,_,U,t,_,i,_,U,U,.of pQ,L2.d8 hV,_,U,h,[u.1,u.2],c,_,U,U,.of G6,.cons U (.cons U .nil),_,U,?_];apply bY (λcd=>?_) (λcd=>?_)
   ·have l7:h=u.1∨h=u.2:=⇑cd
    have ho:[V.str u.1,V.str u.2][(if u.1=h then 1 else 0:Nat)]? = some (.str (iG u h)):=by
     unfold iG;by_cases z:u.1=h
     ·rw[aJ z,aJ z];rfl
     rw[aB z,aB z];rfl
    have hz:(if decide (V.str u.1=V.str h)=true then (1:Int) else 0)=((if u.1=h then 1 else 0:Nat):Int):=by
     by_cases z:u.1=h
     ·rw[aJ z,z];simp
     rw[aB z,aB (by intro y;exact z (V.str.inj (ph y)))];rfl
    apply#[_,U,c,_,0,_,U,U,.of G6,L2.d8 (j:=0) U,_,U,c,_,1,_,U,U,.of G6,L2.d8 (j:=1) U,zl,λlo Rw=>?_];let#[sA,eA]:=aI (o:=.lst [.str u.1,.str u.2]) Rw;generalize upd H4 lo (.lst [.str u.1,.str u.2])=HA at sA eA ⊢;apply#[_,U,c,_,0,_,U,U,.of (sA _ _ G6),L2.d8 (j:=0) U,_,U,_,U,t,_,i,_,U,U,.of (sA _ _ pQ),L2.d8 hV,U,.inr #[_,U,?_]];rw[hz];apply#[lo,_,_,_,U,U,.of eA,L2.d8 ho,?_];let Rh:=sA _ _ pQ;apply#[_,U,_,U,_,U,t,_,U,.of Rh,?_,λp1 xD=>?_]
    ·rw[HT.eU,HT.d9,au];omega
    rw[Od];let#[s5,e5]:=aI (o:=.tup ((sV s).take i)) xD;generalize upd HA p1 (.tup ((sV s).take i))=H5 at s5 e5 ⊢;apply#[_,U,zl,λp2 kj=>?_];let#[s6,e6]:=aI (o:=.tup [.str (iG u h)]) kj;generalize upd H5 p2 (.tup [.str (iG u h)])=H6 at s6 e6 ⊢;apply#[p1,p2,_,_,U,U,s6 _ _ e5,e6,by rw[dR,au,js];omega,λp3 H7 s7 e7=>?_];let PR:=(s5.trans s6).trans s7;apply#[_,U,_,U,_,_,U,U,_,U,t,_,U,.of (PR _ _ Rh),?_,λp4 Eg=>?_]
    ·rw[show ((i:Int)+1)=((i+1:Nat):Int) by omega,HT.d9,au];omega
    rw[show ((i:Int)+1)=((i+1:Nat):Int) by omega,T8];let#[pJ,e8]:=aI (o:=.tup ((sV s).drop (i+1))) Eg;generalize upd H7 p4 (.tup ((sV s).drop (i+1)))=H8 at pJ e8 ⊢;apply#[p3,p4,_,_,U,U,pJ _ _ e7,e8,by rw[eM,dR,au,js,List.length_drop,au];omega,λp5 H9 s9 e9=>?_];rw[Ub Rj] at e9;let yV:=sA.trans ((PR.trans pJ).trans s9);let Ap:=yV _ _ iJ;apply#[_,U,.inl #[U,_,.of Ap],_,U,_,U,_,U,t,_,i,_,U,U,.of (yV _ _ pQ),L2.d8 hV,_,U,zl,λm sM=>?_];let#[sB,eB]:=aI (o:=.tup [.str p.1,.str h,.str (iG u h)]) sM;generalize upd H9 m (.tup [.str p.1,.str h,.str (iG u h)])=HB at sB eB ⊢;apply#[_,U,zl,λx hx=>?_];let#[sC,eC]:=aI (o:=.tup [.ref m,.ref p5]) hx;generalize upd HB x (.tup [.ref m,.ref p5])=HC at sC eC ⊢;let PU:=sB.trans sC;let Ka:=yV.trans PU;let S2:=Ka _ _ iJ;apply#[l,_,_,U,U,S2,by omega,?_]
    have kt:∀b xs,HC b\.tup xs->upd HC l (.lst (ys++[.ref x])) b\.tup xs:=λb xs e=>by
     rw[ax (bK e S2 nofun)];exact e
    apply#[_,_,_,_,L++[((p.1,h,iG u h),s.set i (iG u h))],U,fR (s4.trans Ka) hl,az,gU ((Dy.keep λb xs e=>Ka _ _ e).keep kt) (.cons #[x,m,p5,U,kt _ _ eC,kt _ _ (sC _ _ eB),kt _ _ (PU _ _ e9)] .nil),λe=>?_,by rw[eM,js];omega];rw[dM,fK,eD];constructor
    ·rintro ((z|⟨z,xB,r⟩)|z)
     ·exact .inl z
     ·exact .inr #[z,(tk z).mpr (.inl xB),r]
     exact .inr #[u,(tk u).mpr (.inr U),l7,z]
    rintro (z|⟨z,xB,r⟩)
    ·exact .inl (.inl z)
    rcases (tk z).mp xB with xB|rfl
    ·exact .inl (.inr #[z,xB,r])
    exact .inr r.2
   have km:¬(h=u.1∨h=u.2):=⇑cd
   apply#[_,_,_,ys,L,U,s4,iJ,Dy,λe=>(fK e).trans #[λz=>z.imp id λ⟨x,hx,r⟩=>#[x,(tk x).mpr (.inl hx),r],λz=>z.imp id λ⟨x,hx,r⟩=>?_],by omega];rcases (tk x).mp hx with hx|rfl
   ·exact#[x,hx,r]
   exact absurd r.1 km
  rintro σ H4 ⟨v8,v9,v10,ys,L,rfl,s4,iJ,Dy,fK,lY⟩;apply#[_,_,_,_,_,_,_,ys,L,U,s4,iJ,Dy,λe=>(fK e).trans ?_,by omega];rw[GG,eI];constructor
  ·rintro (⟨k',q',h1,h2,z1,z2⟩|⟨x,hx,r,rfl⟩)
   ·exact#[k',q',h1,h2,by omega,z2]
   exact#[i,_,h,_,by omega,hq,hh,ex.mpr #[x,hx,r,U],U]
  rintro⟨k',q',h1,h2,z1,z2,z3,z4,z5⟩;by_cases ck:k'=i
  ·subst ck;rw[hq] at z2;cases cu z2;rw[hh] at z3;cases cu z3;let#[x,hx,r,rfl]:=ex.mp z4;exact .inr #[x,hx,r,z5]
  exact .inl #[k',q',h1,h2,by omega,z2,z3,z4,z5]
 rintro σ H2 ⟨v4,v5,v6,v7,v8,v9,v10,ys,L,rfl,s2,e2,me,mem,len⟩;have:((yp.length:Nat):Int).toNat=qs.length:=by omega
 rw[this] at mem len;exact#[_,U,k l ys L H2 s2 hl e2 me (λe=>(mem e).trans _w) Z1]
end
end Ev
namespace Ev
open PySem L2
theorem hF_{α:Type}{xs:List α}(h:0<xs.length):iL xs (-1)=xs[xs.length - 1]?:=by
 unfold iL vG;rw[aB (by decide),aJ Z1];show xs[((xs.length:Int) + -1).toNat]? = _;congr 1;omega
def kn(ks:List ak):List (av × V):=ks.map λs=>(sK s,.bl true)
theorem Se(ks:List ak):(kn ks).map (·.1)=ks.map sK:=by
 unfold kn;rw[cY];rfl
theorem Sz{ks:List ak}{s:ak}(hs:s∉ks):aZ (kn ks) (sK s)=none:=uR (by
 rw[Se];intro hm;let#[x,hx,e]:=bw.mp hm;rw[<- Mb e] at hs;exact hs hx)
theorem Zf(ks:List ak)(s:ak):(aZ (kn ks) (sK s)).isSome=decide (s∈ks):=by
 by_cases c:s∈ks
 ·rw[cJ c];exact Jg (by rw[Se];exact bw.mpr #[s,c,U])
 rw[fD c,Sz c];rfl
theorem Ym{ks:List ak}{s:ak}(hs:s∉ks):putK (kn ks) (sK s) (.bl true)=kn (ks++[s]):=by
 rw[wH (Sz hs)];unfold kn;rw[fg];rfl
theorem xY{K:aj}{H H':Hp}{ys:ai}{ps:aN}(h:jO K H ys ps)(s:aa H H'):jO K H' ys ps:=Paired.aU h λy p ⟨t,v,e,ht,wy⟩=>#[t,v,e,s _ _ ht,wy.same s]
def eO(H:Hp):ai->List (List ak)->Prop:=Paired λy L=>∃a zs,y=.ref a/\H a\.lst zs/\gR H zs L
theorem eO.keep{H H':Hp}:∀{ys:ai} {LL:List (List ak)},eO H ys LL->(∀a,V.ref a∈ys->∀xs,H a\.lst xs->H' a\.lst xs)->(∀b xs,H b\.tup xs->H' b\.tup xs)->eO H' ys LL
 |_,_,.nil,_,_=>.nil
 |_,_,.cons ⟨a,zs,e,h1,h2⟩ t,kl,kt=>.cons #[a,zs,e,kl a (by rw[e];exact gB) _ h1,h2.keep kt] (eO.keep t (λa m=>kl a (fN _ m)) kt)
theorem eO.same{H H':Hp}{ys:ai}{LL:List (List ak)}(h:eO H ys LL)(s:aa H H'):eO H' ys LL:=h.keep (λ_ _ _ e=>s _ _ e) λ_ _ e=>s _ _ e
structure gF (N:ak->ak->Prop) (s0:ak) (LL:List (List ak)):Prop where
 is:∀(j:Nat) L,LL[j]? = some L->L.Nodup/\∀s,s∈L ↔ Ds N s0 j s
 last:∃n,LL.length=n+1/\LL[n]? = some []
 ne:∀(j:Nat) L,j+1<LL.length->LL[j]? = some L->L≠[]
theorem gF.mem{N:ak->ak->Prop}{s0:ak}{LL:List (List ak)}(h:gF N s0 LL){j:Nat}{s:ak}(d:Ds N s0 j s):∃L,LL[j]? = some L/\s∈L:=by
 let#[n,hn,hl]:=h.last
 have hj:j<n:=by
  by_cases c:j<n
  ·exact c
  let#[t,ht]:=d.down n Z1;exact absurd (((h.is n _ hl).2 t).mpr ht) gK
 have hx:LL[j]? = some (LL[j]' Z1):=aY Z1;exact#[_,hx,((h.is j _ hx).2 s).mpr d]
theorem gF.flat{N:ak->ak->Prop}{s0:ak}{LL:List (List ak)}(h:gF N s0 LL):LL.flatten.Nodup:=by
 rw[qe,List.pairwise_flatten];apply#[λL hL=>?_,?_]
 ·let#[j,hj,e]:=gJ hL;exact qe.mp (h.is j L (by rw[aY hj,e])).1
 rw[List.pairwise_iff_getElem];intro i j hi hj lt;intro s h1 t h2 e;subst e;let d1:=((h.is i _ (aY hi)).2 s).mp h1;let d2:=((h.is j _ (aY hj)).2 s).mp h2;have:=d1.inj d2;omega
theorem gF.all{N:ak->ak->Prop}{s0:ak}{LL:List (List ak)}(h:gF N s0 LL)(s:ak):s∈LL.flatten ↔ ∃j,Wk N s0 j s:=by
 rw[List.mem_flatten];constructor
 ·rintro⟨L,hL,hs⟩;let#[j,hj,e]:=gJ hL;exact#[j,(((h.is j L (by rw[aY hj,e])).2 s).mp hs).1]
 rintro⟨j,w⟩;let#[i,_,d]:=w.ds;let#[L,hL,hs]:=h.mem d;exact#[L,cz hL,hs]
theorem gF.vw{N:ak->ak->Prop}{s0:ak}{LL:List (List ak)}(h:gF N s0 LL){m:Nat}(hm:LL.flatten.length<=m):¬More N s0 m:=λ⟨l,nd,al,lt⟩=>by
 have:=List.Nodup.length_le_of_subset nd λs hs=>(h.all s).mpr (al s hs);omega
section v
theorem AU:bN [mz,"_law_ties_here","_law_spot","_law_most","_law_known","_law_layers_here","_law_layer","_law_one","_law_move","_law_later"] tW (aX Nn):=bU
inductive N4 (K:aj) (vs:ai) (H:Hp) (Q:VK) (E:XK):Prop
 |mk:∀(lp lt t:Addr) (m:Nat) (yp zs:ai) (hs:Xa) (ts:Xb) (ss qs:aN) (s:ak),vs=[.ref lp,.ref lt,.ref t,.int m]->H lp\.lst yp->jO K H yp ss->H lt\.lst zs->bS K H zs (ts.map kT)->Good hs ts->eN ts ss qs->ss.length<=8->H t\.tup (sV s)->Vs hs qs s->(aO hs).length ^ qs.length<=m->m<=1000000->(∀l ys LL H',aa H H'->H l=none->H' l\.lst ys->eO H' ys LL->(∀b,V.ref b∈ys->H b=none)->gF (Nx hs ts qs) s LL->LL.flatten.length<=m->Q (.ref l) H')->N4 K vs H Q E
theorem hf_{f:Addr}{fd:Ae}(F:br K "_law_layers" "_law_layers" Nn f fd)(B:Bi mg)(cM:!bu 1 "_law_moves" tV (M8 K)):!aq a9 2 f fd tW (N4 K):=by
 exists F.bT AU;let#[lp,lt,t,m,yp,zs,hs,ts,ss,qs,s,rfl,iI,pc,dW,tu,G,S,s8,ht,v,bm,m6,k]:=h;let hu:=fO hr;let sz:=cU;refine' #[_,aw ?s1 (aw ?s2 (aw ?s3 (aF ?s4))),?kk]
 case s1=>exact bo 4 AU.nd (SY hu (pv 2) gI)
 case s2=>exact bo 5 AU.nd (fF %[fF %[2|0]|0])
 case' s3=>refine' FP dH (PW.pt (Ma ?w1 (MB ?w2))) (aw ?b1 (aw ?b2 (aF ?b3)))
 case w1=>exact fh (MW (mF hr 0)) (bz h_ (pv 5) (QD Q6 aD)) (fF bF)
 case w2=>exact fh vX (cZ TF (by rfl) B.len gH %[4|0]) (pv 3)
 case b1=>exact bo 6 AU.nd (fF bF)
 case' b2=>refine' ed dH U (dE (bz h_ (pv 5) (QD Q6 aD))) ?g2 (aF ?c1)
 case g2=>exact cq 7 AU.nd
 case' c1=>refine' ed dH U (dE (bg cM hr %[0,1,7|0])) ?g3 (aF ?c2)
 case g3=>exact kz U (dG (cq 8 AU.nd) (dG (cq 9 AU.nd) iM))
 case' c2=>refine' cg (tN (Je hu (pv 9) (pv 4))) (aw ?d1 (aF ?d2)) cm
 case d1=>exact uJ hu (pv 4) (pv 9) gI U
 case d2=>exact kG (ow mq uK uL tR (pv 6) %[9|0])
 case b3=>exact kG (ow mq uK uL tR (pv 5) %[6|0])
 case s4=>exact bx (pv 5)
 intro d hd;have hK:∀{H':Hp},H' t\.tup (sV s)->H' t\.tup ((sK s).map kV):=λe=>by rw[rq];exact e
 apply#[_,U,az,t,sK s,U,by rw[ax (bq ht hd)];exact hK ht,?_];have s1:aa H (upd (upd H d (.dT [])) d (.dT [(sK s,.bl true)])):=fR (aa.new hd) hd;have e1:upd (upd H d (.dT [])) d (.dT [(sK s,.bl true)]) d\.dT (kn [s]):=az;generalize upd (upd H d (.dT [])) d (.dT [(sK s,.bl true)])=H1 at s1 e1 ⊢;apply#[_,U,zl,λa0 om=>?_];let#[s2,e2]:=aI (o:=.lst [.ref t]) om;have a0n:H a0=none:=s1.free om;let S8:=s2 _ _ e1;let jc:=s1.trans s2;generalize upd H1 a0 (.lst [.ref t])=H2 at s2 e2 S8 jc ⊢;apply#[zl,λl hl=>?_];let#[s3,e3]:=aI (o:=.lst [.ref a0]) hl;have ln:H l=none:=jc.free hl;have a0l:a0≠l:=bq e2 hl;let S7:=s3 _ _ S8;let Te:=s3 _ _ e2;let eV:=jc.trans s3;generalize upd H2 l (.lst [.ref a0])=H3 at s3 e3 S7 Te eV ⊢
 let N:ak->ak->Prop:=Nx hs ts qs
 let Wv:bO:=λn σ H'=>∃(v6 v7 v8 v9:aE) (k:Nat) (ys:ai) (LL:List (List ak)) (ks nw:List ak),σ=[some (.ref lp),some (.ref lt),some (.ref t),some (.int m),some (.ref d),some (.ref l),v6,v7,v8,v9]/\aa H H'/\H' d\.dT (kn ks)/\H' l\.lst ys/\eO H' ys LL/\(∀b,V.ref b∈ys->H b=none/\b≠l)/\LL.length=k+1/\LL[k]? = some nw/\(∀(j:Nat) L,LL[j]? = some L->L.Nodup/\∀s',s'∈L ↔ Ds N s j s')/\Bf N s k ks nw/\(∀s'∈ks,Vs hs qs s')/\n=(aO hs).length ^ qs.length - ks.length+(if nw=[] then 0 else 1)/\k+(if nw=[] then 0 else 1)<=ks.length/\∀(j:Nat) L,j<k->LL[j]? = some L->L≠[]
 apply#[Wv,#[_,none,none,none,none,0,[.ref a0],[[s]],[s],[s],U,eV,S7,e3,.cons #[a0,_,U,Te,.cons #[t,U,eV _ _ ht] .nil] .nil,?_,U,U,?_,Bf.start,?_,U,?_,λj L z=>absurd z (Nat.not_lt_zero _)],?_]
 ·intro b hb;cases V.ref.inj (eD.mp hb);exact#[a0n,a0l]
 ·intro j L hj;cases j with
  |zero=>
   cases cu hj;exact#[by simp,(Bf.start (N:=N) (s0:=s)).new]
  |succ j=>cases hj
 ·intro s' hs';rw[eD.mp hs'];exact v
 ·simp
 rintro n σ H4 ⟨v6,v7,v8,v9,kk,ys,LL,ks,nw,rfl,s4,ed4,iJ,zf,pT,lY,vB,QT,FM,Jx,hn,kle,ne4⟩;let kB:=BR (ns:=aO hs) (n:=qs.length) FM.nd λs' hs'=>#[(Jx s' hs').len,(Jx s' hs').fW];let DR:=bj zf;have hk:kk<ys.length:=by omega
 let#[an,yn,Tb,han,iF]:=eP zf kk hk Z1;rw[aY Z1] at vB;rw[cu vB] at iF
 have xH:iL ys (-1)\.ref an:=by
  rw[hF_ Z1,show ys.length - 1=kk by omega,aY hk,Tb]
 have anm:V.ref an∈ys:=by rw[<- Tb];exact mO hk
 let GH:=bj iF;apply#[_,U,_,U,l,ys,_,_,U,U,.of iJ,xH,zl,λle hle=>?_];let#[s5,e5]:=aI (o:=.lst []) hle;let pK:=s4.trans s5;let Hw:=s5 _ _ ed4;let sZ:=s5 _ _ iJ;let GI:=zf.same s5;let sR:=s5 _ _ han;let CT:=iF.keep λb xs e=>s5 _ _ e;generalize upd H4 le (.lst [])=H5 at s5 e5 pK Hw sZ GI sR CT ⊢;apply#[an,le,yn,U,U,.of sR,.of e5,_,U,?_];by_cases cn:nw=[]
 ·have Ju:yn=[]:=by
   rw[cn] at GH;exact List.length_eq_zero_iff.mp GH
  rw[Ju];apply aL (aL #[_,U,?_]);rw[cn] at FM;have ok:gF (Nx hs ts qs) s LL:=#[QT,#[kk,lY,by rw[aY Z1];exact vB.trans (by rw[cn])],λj L z=>ne4 j L Z1];apply k l ys LL H5 pK ln sZ GI (λb hb=>(pT b hb).1) ok (gm (BR ok.flat λs' hs'=>?_) bm);let#[j,wj]:=(ok.all s').mp hs';exact#[(wj.vs v).len,(wj.vs v).fW]
 have Ju:yn.isEmpty=false:=by
  cases yn with
  |nil=>exact absurd (List.length_eq_zero_iff.mp GH.symm) cn
  |cons _ _=>rfl
 rw[Ju];apply dD #[_,U,d,_,U,Hw,_,U,_,_,U,U,_,U,?_];have lk:(kn ks).length=ks.length:=au _;rw[aB cn] at hn kle;have ct:decide (((kn ks).length:Int)<=(m:Int))=true:=cJ Z1;rw[ct];apply dD #[λaV H'=>∃m',m'<n/\Wv m' aV H',λ_ _ h=>h,?_];apply#[zl,λla gy=>?_];let#[s6,e6]:=aI (o:=.lst []) gy;have Qz:H la=none:=pK.free gy;have KQ:la≠l:=(bq sZ gy).symm;have ana:an≠la:=bq sR gy;have OW:an≠l:=(pT an anm).2;have and_:an≠d:=bK sR Hw nofun
 have fra:∀b,V.ref b∈ys->b≠la:=λb hb=>by
  let#[i,hi,ei]:=gJ hb;let#[a',zs',e',h',_]:=eP GI i hi Z1;rw[ei] at e';cases e';exact bq h' gy
 let gr:=pK.trans s6;let S6:=s6 _ _ Hw;let uw:=s6 _ _ sZ;let Be:=GI.same s6;let zV:=s6 _ _ sR;let PP:=CT.keep λb xs e=>s6 _ _ e;generalize upd H5 la (.lst [])=H6 at s6 e6 gr S6 uw Be zV PP ⊢
 let J:List ak->Hp->Prop:=λseen H'=>∃(iS fd:List ak) (fs:ai),aa H H'/\H' d\.dT (kn iS)/\H' l\.lst ys/\eO H' ys LL/\H' an\.lst yn/\gR H' yn nw/\H' la\.lst fs/\gR H' fs fd/\Wd ks seen iS fd/\(∀s'∈iS,Vs hs qs s')/\iS.length=ks.length+fd.length
 let Iv:bO:=λi σ H'=>∃(v7 v8 v9:aE) (seen:List ak),σ=[some (.ref lp),some (.ref lt),some (.ref t),some (.int m),some (.ref d),some (.ref l),some (.ref la),v7,v8,v9]/\J seen H'/\(∀b,b∈seen ↔ ∃h∈nw.take i,N h b)
 apply#[_,U,_,U,l,ys,_,_,U,U,.of uw,xH,an,U,#[_,.of zV],?_];apply gi (K:=K) (a:=an) (xs:=yn) Iv ?_ ?_ ?_ ?_
 ·exact#[_,_,_,[],U,#[ks,[],[],gr,S6,uw,Be,zV,PP,e6,.nil,Wd.start FM.nd,Jx,U],λb=>#[λz=>absurd z gK,λ⟨_,z,_⟩=>absurd z gK]]
 ·rintro i σ H' _ ⟨_,_,_,_,_,⟨_,_,_,_,_,_,_,e,_⟩,_⟩;exact .of e
 ·rintro i y σ H7 hy ⟨VN,VM,VL,seen,rfl,⟨GN,pe,SD,oT,Fc,Aq,DM,EN,J6,HM,yC,Cj,Cm,Qw⟩,mem⟩;have hi:i<yn.length:=(b_.mp hy).1
  obtain⟨h,hh,u,rfl,_X⟩:∃h,nw[i]? = some h/\∃u,y=.ref u/\H7 u\.tup (sV h):=by
   have:=eP J6 i hi Z1;rw[aY hi] at hy;cases hy;exact#[nw[i]' Z1,aY Z1,this]
  let hm:=cz hh;let sO:=(FM.new h).mp hm;have vh:Vs hs qs h:=sO.1.vs v;apply#[_,U,_,U,_,U,lp,lt,u,yp,zs,hs,ts,ss,qs,h,U,oT _ _ iI,xY pc oT,oT _ _ dW,tu.same oT,G,S,s8,_X,vh,λl3 qh L H8 pJ pO e8 Qm lW KN=>?_];have QB:l3≠l:=λz=>by rw[z,Aq] at pO;cases pO
  have GM:l3≠la:=λz=>by rw[z,HM] at pO;cases pO
  have l3d:l3≠d:=λz=>by rw[z,Fc] at pO;cases pO
  let KJ:=bj Qm
  let Iw:bO:=λj σ H'=>∃(v8 v9:aE) (dB:List ak),σ=[some (.ref lp),some (.ref lt),some (.ref t),some (.int m),some (.ref d),some (.ref l),some (.ref la),some (.ref u),v8,v9]/\H' l3\.lst qh/\As H' qh L/\J dB H'/\(∀b,b∈dB ↔ b∈seen∨∃e∈L.take j,b=e.2)
  apply#[l3,U,#[_,.of e8],?_];apply gi (K:=K) (a:=l3) (xs:=qh) Iw ?_ ?_ ?_ ?_
  ·exact#[_,_,seen,U,e8,Qm,#[GN,pe,SD,oT.trans pJ,pJ _ _ Fc,pJ _ _ Aq,DM.same pJ,pJ _ _ EN,J6.keep λb xs e=>pJ _ _ e,pJ _ _ HM,yC.keep λb xs e=>pJ _ _ e,Cj,Cm,Qw],λb=>#[.inl,λz=>z.elim id λ⟨_,w,_⟩=>absurd w (gK)]]
  ·rintro j σ H' _ ⟨_,_,_,_,e,_⟩;exact .of e
  ·rintro j y σ H9 hy ⟨JB,JA,dB,rfl,e9,GF,⟨pP,SK,Mn,Gq,Fb,Ap,Qp,EM,PM,Td,yB,Jv,F9,Qv⟩,vA⟩;have hj:j<qh.length:=(b_.mp hy).1
   obtain⟨e,he,tt,mm,uu,rfl,K8,_,Re⟩:∃e,L[j]? = some e/\∃t m u,y=.ref t/\H9 t\.tup [.ref m,.ref u]/\H9 m\.tup [.str e.1.1,.str e.1.2.1,.str e.1.2.2]/\H9 u\.tup (sV e.2):=by
    have:=eP GF j hj Z1;rw[aY hj] at hy;cases hy;exact#[L[j]' Z1,aY Z1,this]
   have bL:N h e.2:=#[e.1,(lW e).mp (cz he)]
   have tk:∀c,(∃e∈L.take (j+1),c=e.2) ↔ (∃e∈L.take j,c=e.2)∨c=e.2:=λc=>by
    rw[kE,he];constructor
    ·rintro⟨x,hx,r⟩;rcases dM.mp hx with hx|hx
     ·exact .inl #[x,hx,r]
     have:x=e:=⇑hx
     rw[this] at r;exact .inr r
    rintro (⟨x,hx,r⟩|r)
    ·exact#[x,dM.mpr (.inl hx),r]
    exact#[e,by simp,r]
   have RU:H9 uu\.tup ((sK e.2).map kV):=by rw[rq];exact Re
   apply#[tt,_,U,.of K8,U,_,_,U,_,_,U,U,?_];apply#[_,U,_,U,d,_,U,.t Fb RU,_,U,?_];rw[Zf];by_cases c:e.2∈pP
   ·rw[cJ c];apply aL ?_;apply#[_,_,dB++[e.2],U,e9,GF,#[pP,SK,Mn,Gq,Fb,Ap,Qp,EM,PM,Td,yB,Jv.skip c,F9,Qv],λz=>?_];rw[dM,vA,tk,eD,or_assoc]
   rw[fD c];apply dD ?_;let kB9:=BR (ns:=aO hs) (n:=qs.length) Jv.nd λs' hs'=>#[(F9 s' hs').len,(F9 s' hs').fW];let lf:=bj yB;have X0:(kn pP).length=pP.length:=au _;apply#[_,U,_,U,d,_,U,.t Fb RU Z1,?_];rw[Ym c];have kA:∀{c o},H9 c\o->c≠d->upd H9 d (.dT (kn (pP++[e.2]))) c\o:=λe ne=>by rw[ax ne];exact e
   have tA:∀c xs,H9 c\.tup xs->upd H9 d (.dT (kn (pP++[e.2]))) c\.tup xs:=λc xs e=>kA e (bK e Fb nofun);have lA:∀c xs,H9 c\.lst xs->upd H9 d (.dT (kn (pP++[e.2]))) c\.lst xs:=λc xs e=>kA e (bK e Fb nofun);have sA:aa H (upd H9 d (.dT (kn (pP++[e.2])))):=fR Gq hd;have eA:upd H9 d (.dT (kn (pP++[e.2]))) d\.dT (kn (pP++[e.2])):=az;generalize upd H9 d (.dT (kn (pP++[e.2])))=HA at kA tA lA sA eA ⊢;let HG:=lA _ _ Td;apply#[_,U,.inl #[U,_,.of HG],_,U,la,_,_,U,U,HG,by omega,?_];have lB:∀c xs,c≠la->H9 c\.lst xs->upd HA la (.lst (Mn++[.ref uu])) c\.lst xs:=λc xs ne e=>by rw[ax ne];exact lA _ _ e
   have tB:∀c xs,H9 c\.tup xs->upd HA la (.lst (Mn++[.ref uu])) c\.tup xs:=λc xs e=>by
    rw[ax (bK (tA _ _ e) HG nofun)];exact tA _ _ e
   have X3:d≠la:=bK eA HG nofun;apply#[_,_,dB++[e.2],U,lB _ _ GM e9,GF.keep tB,#[pP++[e.2],SK++[e.2],_,fR sA Qz,by rw[ax X3];exact eA,lB _ _ KQ.symm Ap,Qp.keep (λb hb xs e=>lB _ _ (fra b hb) e) tB,lB _ _ ana EM,PM.keep tB,az,gU (yB.keep tB) (.cons #[uu,U,tB _ _ Re] .nil),Jv.add c,λs' hs'=>?_,?_],λz=>?_]
   ·rcases dM.mp hs' with hs'|hs'
    ·exact F9 s' hs'
    rw[eD.mp hs'];exact bL.vs vh
   ·rw[eM,eM,Qv];rfl
   rw[dM,vA,tk,eD,or_assoc]
  rintro σ H9 ⟨JB,JA,dB,rfl,e9,GF,jj,vA⟩;apply#[_,_,_,dB,U,jj,λb=>?_];rw[vA,mem,show qh.length=L.length from KJ,eI,kE,hh];simp only[Option.toList_some,dM,eD];constructor
  ·rintro (⟨h',sM,nx⟩|⟨e,he,rfl⟩)
   ·exact#[h',.inl sM,nx]
   exact#[h,.inr U,e.1,(lW e).mp he]
  rintro⟨h',sM|rfl,nx⟩
  ·exact .inl #[h',sM,nx]
  let#[mm,nx]:=nx;exact .inr #[(mm,b),(lW (mm,b)).mpr nx,U]
 rintro σ H7 ⟨VN,VM,VL,seen,rfl,⟨GN,pe,SD,oT,Fc,Aq,DM,EN,J6,HM,yC,Cj,Cm,Qw⟩,mem⟩;rw[GH,eI] at mem;let UY:=FM.next Cj mem;apply#[_,U,.inl #[U,_,.of Aq],_,U,l,_,_,U,U,Aq,by omega,?_];have lB:∀c xs,c≠l->H7 c\.lst xs->upd H7 l (.lst (ys++[.ref la])) c\.lst xs:=λc xs ne e=>by rw[ax ne];exact e
 have tB:∀c xs,H7 c\.tup xs->upd H7 l (.lst (ys++[.ref la])) c\.tup xs:=λc xs e=>by
  rw[ax (bK e Aq nofun)];exact e
 let kB7:=BR (ns:=aO hs) (n:=qs.length) Cj.nd λs' hs'=>#[(Cm s' hs').len,(Cm s' hs').fW];have dl:d≠l:=bK Fc Aq nofun
 have gl:(LL++[pe])[kk+1]? = some pe:=by
  rw[yb Z1,show kk+1 - LL.length=0 by omega];rfl
 have fl:pe=[]->pe.length=0:=λz=>by rw[z];rfl
 have He:pe≠[]->0<pe.length:=λz=>List.length_pos_iff.mpr z;apply#[(aO hs).length ^ qs.length - GN.length+(if pe=[] then 0 else 1),?_,_,_,_,_,kk+1,_,LL++[pe],GN,pe,U,fR oT ln,by rw[ax dl];exact Fc,az,gU (DM.keep (λb hb xs e=>lB _ _ (pT b hb).2 e) tB) (.cons #[la,_,U,lB _ _ KQ HM,yC.keep tB] .nil),?_,by rw[eM,lY];rfl,gl,?_,UY,Cm,U,?_,?_]
 ·by_cases z:pe=[]
  ·rw[aJ z];have:=fl z;omega
  rw[aB z];have:=He z;omega
 ·intro b hb;rcases dM.mp hb with hb|hb
  ·exact pT b hb
  cases V.ref.inj (eD.mp hb);exact#[Qz,KQ]
 ·intro j L hL;by_cases c:j<LL.length
  ·rw[wK c] at hL;exact QT j L hL
  let zL:=(b_.mp hL).1;rw[eM,js] at zL;have:j=kk+1:=by omega
  subst this;rw[gl] at hL;cases cu hL;exact#[Cj.nf,UY.new]
 ·by_cases z:pe=[]
  ·rw[aJ z];omega
  rw[aB z];have:=He z;omega
 intro j L hj hL;rw[wK Z1] at hL;by_cases c:j<kk
 ·exact ne4 j L c hL
 have:j=kk:=by omega
 subst this;rw[aY Z1,cu vB] at hL;rw[<- cu hL];exact cn
end
end Ev
namespace L2
open PySem PySem.Spec PyProof.Rows PySem.W kJ dO
section
variable{X:Cx}
inductive rP (K:aj) (x:V) (y:V) (H:Hp) (Q:VK):Prop
 |mk:∀a b xs,x=.ref a->y=.ref b->dZ K H a xs->dZ K H b []->Q (.bl xs.isEmpty) H->rP K x y H Q
theorem hV_(hu:X.A.units+0+1<cLine):dN X (compareOp .Eq) (rP X.K):=by
 intro pins s σ H x y v u Q I rx ry h;let#[a,b,xs,rfl,rfl,t,t',hq]:=h;cases xs with
 |nil=>exact Yg ix hu pins s σ H (.ref a) (.ref b) v u Q I rx ry #[[],[],#[a,[],U,t,.nil],#[b,[],U,t',.nil],hq]
 |cons z zs=>
  cases rx;cases ry;let#[us,r,pl,_]:=I.list t;let#[vs,r',vp,_]:=I.list t';let l1:=r.length;let l2:=r'.length;exact SeqAt.eq_list_lengthsAt pl.isList vp.isList (by simp only[cQ,bne_iff_ne];simp at l1 l2;omega) Z1 #[.bl false,H,I,U,hq]
end
end L2
namespace Ev
open PySem L2
structure B1 (K:aj) (H:Hp) (lh lp lt ll:Addr) (hs:Xa) (ts:Xb) (ss qs:aN) (l:Int × Int):Prop where
 hh:∃yh,H lh\.lst yh/\bS K H yh (hs.map kH)
 hp:∃yp,H lp\.lst yp/\jO K H yp ss
 ht:∃zs,H lt\.lst zs/\bS K H zs (ts.map kT)
 hl:ia H ll l
 lo:we l
 G:Good hs ts
 S:eN ts ss qs
 s8:ss.length<=8
theorem B1.same{K:aj}{H H':Hp}{lh lp lt ll:Addr}{hs:Xa}{ts:Xb}{ss qs:aN}{l:Int × Int}(h:B1 K H lh lp lt ll hs ts ss qs l)(s:aa H H'):B1 K H' lh lp lt ll hs ts ss qs l:=by
 let#[#[yh,a1,a2],#[yp,b1,b2],#[zs,c1,c2],d,e,f,g,i]:=h;exact#[#[yh,s _ _ a1,a2.same s],#[yp,s _ _ b1,xY b2 s],#[zs,s _ _ c1,c2.same s],s _ _ d,e,f,g,i]
end Ev
namespace Ev
open PySem L2
def Tld(H:Hp)(t:Addr)(hs:Xa)(ts:Xb)(qs:aN)(s0:ak)(l:Int × Int):Prop:=
 (∃(x:Addr) (ys:ai) (ms:List (Str × Str × Str)) (s:ak),H t\.tup [.str "moves",.ref x]/\H x\.lst ys/\oI H ys ms/\A0 hs ts qs s0 ms s/\Ds (Nx hs ts qs) s0 ms.length s/\ji hs qs s l=true/\∀j z,j<ms.length->Ds (Nx hs ts qs) s0 j z->ji hs qs z l=false)∨(H t\.tup [.str "none"]/\∀j z,Ds (Nx hs ts qs) s0 j z->ji hs qs z l=false)
end Ev
namespace Ev
open PySem L2
theorem gA.but{K:aj}{CG CW:Addr}{H H':Hp}{l g p:Addr}{hs:Xa}{ts:Xb}{qs:aN}{fp:ao}(G:gA K CG CW H g p hs ts qs fp)(b:bC l H H')(st:dQ H l)(nl:l∉fp):gA K CG CW H' g p hs ts qs fp:=by
 let#[xs,e]:=st.some;exact G.keep (λc hc o ho=>b _ _ ho λz=>nl (by rw[<- z];exact hc)) (λc zs hz=>b _ _ hz (bK hz e nofun))
theorem gA.CV{K:aj}{CG CW:Addr}{H:Hp}{g p:Addr}{hs:Xa}{ts:Xb}{qs:aN}{fp:ao}(G:gA K CG CW H g p hs ts qs fp):∃uv,gA K CG CW H g p hs ts qs uv/\(∀b∈uv,∃o,H b\o)/\∀c∈uv,c∈fp:=by
 let#[dx,dw,dy,vs,di,h1,h2,h3,h4,h5,m1,m2,m3,m4,m5]:=G.ex;have fW:∀{b:Addr} {o:HO},b∈fp->H b\o->b∈fp.filter λb=>(H b).isSome:=λm e=>mL.mpr #[m,by rw[e];rfl];apply#[fp.filter λb=>(H b).isSome,#[dx,dw,dy,vs,di,h1,h2,h3,h4,h5,fW m1 h1,fW m2 h3,fW m3 h4,λb hb=>?_,λv hv a z=>?_],λb hb=>?_,λb hb=>(mL.mp hb).1]
 ·let#[o,e]:=h2.has hb;exact fW (m4 b hb) e
 ·let#[i,hi,ev]:=gJ hv;let le:=bj h5;let w:=eP h5 i hi Z1;rw[ev,z] at w;cases o:(qs[i]' Z1).2.2 with
  |none=>
   rw[o] at w;cases (show V.ref a=.non from w)
  |some ws=>
   rw[o] at w;let#[a',ys,e,h,_]:=w;cases e;exact fW (m5 v hv a z) h
 exact Option.isSome_iff_exists.mp (mL.mp hb).2
theorem fl_{hs:Xa}{ts:Xb}{qs:aN}{f:bh}{r:Int}(G:Good hs ts)(wp:∀q∈qs,0<=q.2.1/\q.2.1<=1000000000)(cX:qs.length<64)(R:jN hs qs f r):we (fr r (bP hs)):=by
 let rl:=HY G wp cX R;let mo:=tI G;let fb:=QM rl.1 rl.2 mo.1 mo.2.1;let#[f1,f2,f3,f4,f5]:=fb;apply#[f3,?_,?_,?_,f5]<;>omega
end Ev
namespace Ev
open PySem L2
structure tZ (N:ak->ak->Prop) (s0:ak) (c:Nat) (LL:List (List ak)):Prop where
 is:∀(j:Nat) L,LL[j]? = some L->L.Nodup/\∀s,s∈L ↔ Ds N s0 j s
 len:LL.length<=c+1
 all:∀j z,j<=c->Ds N s0 j z->j<LL.length
theorem tZ.mem{N:ak->ak->Prop}{s0:ak}{c:Nat}{LL:List (List ak)}(h:tZ N s0 c LL)(s:ak):s∈LL.flatten ↔ ∃j,j<=c/\Ds N s0 j s:=by
 rw[List.mem_flatten];constructor
 ·rintro⟨L,hL,hs⟩;let#[j,hj,e]:=gJ hL;have:=h.len;exact#[j,by omega,((h.is j L (by rw[aY hj,e])).2 s).mp hs]
 rintro⟨j,hj,d⟩;let hl:=h.all j s hj d;exact#[_,mO hl,((h.is j _ (aY hl)).2 s).mpr d]
theorem Sg{N:ak->ak->Prop}{s0:ak}{LL:List (List ak)}(is:∀(j:Nat) L,LL[j]? = some L->L.Nodup/\∀s,s∈L ↔ Ds N s0 j s):LL.flatten.Nodup:=by
 rw[qe,List.pairwise_flatten];apply#[λL hL=>?_,?_]
 ·let#[j,hj,e]:=gJ hL;exact qe.mp (is j L (by rw[aY hj,e])).1
 rw[List.pairwise_iff_getElem];intro i j hi hj lt;intro s h1 t h2 e;subst e;let d1:=((is i _ (aY hi)).2 s).mp h1;let d2:=((is j _ (aY hj)).2 s).mp h2;have:=d1.inj d2;omega
theorem oJ.OG{r a:Addr}{H H':Hp}{l CR dx:Addr}{fs:List (Str × V)}{hs:Xa}{ts:Xb}{qs:aN}{kvs:List (av × V)}(h:oJ H l hs ts qs)(b:pI r a H H')(hr:H r\.ins CR dx fs)(ha:H a\.dT kvs):oJ H' l hs ts qs:=by
 have k:∀{c o},H c\o->o≠.dT kvs->o≠.ins CR dx fs->H' c\o:=λe n1 n2=>b _ _ e (λz=>by
  rw[z,hr] at e;cases e;exact n2 U) λz=>by
  rw[z,ha] at e;cases e;exact n1 U
 let#[ds,h1,h2]:=h;exact#[ds,k h1 nofun nofun,Paired.aU h2 λd q ⟨ad,x1,x2⟩=>#[ad,k x1 nofun nofun,λy hy=>k (x2 y hy) nofun nofun]]
section v
theorem lD:bN ["goods","placed","count","reach","layers"] ["goods","placed","count"] (aX rp):=bU
inductive k7 (K:aj) (CG CW:Addr) (vs:ai) (H:Hp) (Q:VK) (E:XK):Prop
 |mk:∀(g p d:Addr) (hs:Xa) (ts:Xb) (qs:aN) (fp:ao) (f:bh) (s0:ak) (c:Nat),vs=[.ref g,.ref d,.int c]->Gs K CG CW H g p hs ts qs fp->H d\.dK (fw (qs.map (·.1)) f)->s0=(qs.map (·.1)).map f->Vs hs qs s0->(aO hs).length ^ qs.length<=3000->c<=1000000->(∀l ys LL H',aa H H'->H l=none->H' l\.lst ys->eO H' ys LL->(∀b,V.ref b∈ys->H b≠some (.lst []))->tZ (Nx hs ts qs) s0 c LL->Q (.ref l) H')->k7 K CG CW vs H Q E
theorem ZN{f0 CG CW CR:Addr}{fd:Ae}(F:br K "layers_within" "layers_within" rp f0 fd)(B:Bi mg)(T:mQ K CR){tk:Tok}(mM:mg "MOST_STANDS"\.int 3000 tk)(cR:!j_ CR 5 "Reach" oE (IY K CG CW CR))(cW:!bQ CR 2 "widen" ["self","most"] (Iz CR)):!aq a9 7 f0 fd ["goods","placed","count"] (k7 K CG CW):=by
 exists F.bT lD;let#[g,p,d,hs,ts,qs,fp,f,s0,c,rfl,G,hd,sX,v0,bm,c6,k]:=h;let hu:=fO hr;let sz:=cU;have n8:(aO hs).length<=8:=by rw[G.Gd.gX];exact G.Gd.h8
 have iT:aP 2 _:=hr.mono (by decide);refine' #[_,aw ?s1 (aw ?s2 (aw ?s3 (aF ?s4))),?kk]
 case s1=>exact bo 3 lD.nd (GP cR hr %[0,1|0])
 case s2=>exact bo 4 lD.nd (fF %[gd (pv 3) U|0])
 case' s3=>refine' FP dH (PW.pt (Ma ?w1 (MB ?w2))) (aw ?b1 (aF ?b2))
 case w1=>exact fh vX (cZ ic (by rfl) B.len gH %[4|0]) (pv 2)
 case w2=>exact fh (MW (mF hr 0)) (gd (pv 3) U) (fF bF)
 case b1=>exact cg (fi (e_ (i6 cW T.cl iT (pv 3) %[BM (v:=.int 3000) (by rfl) mM #[tk,U]|0]))) gj cm
 case b2=>exact kG (ow mq uK uL tR (pv 4) %[gd (pv 3) U|0])
 case s4=>exact bx (pv 4)
 apply#[_,U,_,U,λr dx jg zP ne=>?_];have s2:aa H (upd (upd H dx (.own r)) r (.ins CR dx [])):=(aa.new zP).trans (aa.new (by rw[ax ne.symm];exact jg));have e2:upd (upd H dx (.own r)) r (.ins CR dx []) r\.ins CR dx []:=az;generalize upd (upd H dx (.own r)) r (.ins CR dx [])=H2 at s2 e2 ⊢;apply#[r,dx,g,p,d,hs,ts,qs,fp,f,U,e2,G.same s2,s2 _ _ hd,λa x n H3 k3 an R3=>#[U,?_]];rw[<- sX] at R3;have OX:H a=none:=s2.free an;have eV:aa H H3:=λb o e=>k3 b o (s2 _ _ e) (bq e jg);let#[#[dx3,L6],_,_,#[Ci,hn3,_]]:=id R3;apply#[_,U,r,CR,dx3,_,_,U,L6,T.cl,T.nN,BI _ _ _,zl,λl hl=>?_];have ln:H l=none:=eV.free hl;have lr:l≠r:=(bq L6 hl).symm
 have la:l≠a:=by
  let#[_,_,#[kvs,ha,_],_]:=R3;exact (bq ha hl).symm
 have nl:n≠l:=bq hn3 hl;let#[s4,e4]:=aI (o:=.lst [.ref n]) hl;let pL:=eV.trans s4;let R4:=R3.same s4;generalize upd H3 l (.lst [.ref n])=H4 at s4 e4 pL R4 ⊢
 let N:ak->ak->Prop:=Nx hs ts qs
 have small:∀l:List ak,l.Nodup->(∀z∈l,∃j,Wk N s0 j z)->l.length<=3000:=λl nd h=>gm (BR nd λz hz=>by
  let#[j,w]:=h z hz;exact#[(w.vs v0).len,(w.vs v0).fW]) bm
 let Iv:bO:=λq σ H'=>∃(n:Addr) (pa:List (ak × Option ak)) (nw:List ak) (kk:Nat) (ys:ai) (LL:List (List ak)),σ=[some (.ref g),some (.ref d),some (.int c),some (.ref r),some (.ref l)]/\aa H H'/\v_ CR H' r a x n hs ts qs pa nw/\Bf N s0 kk (pa.map (·.1)) nw/\pF N s0 pa/\H' l\.lst ys/\eO H' ys LL/\(∀b,V.ref b∈ys->b≠l/\H b≠some (.lst []))/\n≠l/\LL.length=kk+1/\(∀(j:Nat) L,LL[j]? = some L->L.Nodup/\∀s,s∈L ↔ Ds N s0 j s)/\kk<=c/\pI r a H3 H'/\q=c - kk
 apply#[Iv,#[_,n,[(s0,none)],[s0],0,[.ref n],[[s0]],U,pL,R4,Bf.start,?_,e4,?_,?_,nl,U,?_,gE _,λb o e _ _=>s4 _ _ e,U],?_]
 ·intro e he;rw[eD.mp he];exact .inl #[U,U]
 ·let#[_,_,_,#[ys,hn,sp]]:=R4;exact .cons #[n,ys,U,hn,sp] .nil
 ·intro b hb;cases V.ref.inj (eD.mp hb);apply#[nl,λe=>?_];let#[_,_,_,#[ys,hn,sp]]:=R4;rw[pL _ _ e] at hn;cases hn;cases sp
 ·intro j L hL;cases j with
  |zero=>
   cases cu hL;exact#[by simp,(Bf.start (N:=N) (s0:=s0)).new]
  |succ j=>cases hL
 rintro q σ H5 ⟨n,pa,nw,kk,ys,LL,rfl,s5,R,bf,po,xI,ly,xR,nl,X6,is,kc,b3,rfl⟩;let DR:=bj ly
 have Qg:pa.length<=3000:=by
  have:=small (pa.map (·.1)) bf.nd λz hz=>by
   let#[j,_,w]:=(bf.all z).mp hz;exact#[j,w]
  rwa [au] at this
 let#[#[TN,R8],_,_,#[Ci,Rt,Wj]]:=id R;let Qr:=bj Wj;apply#[_,U,l,_,U,.inl (.of xI),_,U,_,_,U,U,_,U,?_];have lay:tZ N s0 kk LL:=#[is,by omega,λj z hj _=>by omega];apply bY (λcc=>?_) (λcc=>?_)
 ·have cc:(ys.length:Int)<=(c:Int):=ph cc;apply#[_,U,r,CR,TN,_,_,U,R8,T.cl,T.nN,BI _ _ _,zl,λb hb=>?_];let#[s6,e6]:=aI (o:=.lst []) hb;let R6:=R.same s6;let Be:=ly.same s6;let pR:=s6 _ _ xI;let zH:=s6 _ _ Rt;let RZ:=s6 _ _ R8;let gr:=s5.trans s6;generalize upd H5 b (.lst [])=H6 at s6 e6 R6 Be pR zH RZ gr ⊢;apply#[n,b,Ci,U,U,.of zH,.of e6,_,U,?_];by_cases cn:nw=[]
  ·have ye:Ci=[]:=List.length_eq_zero_iff.mp (by rw[Qr,cn];rfl);rw[ye];apply aL ?_;rw[cn] at bf;apply#[_,U,k l ys LL H6 gr ln pR Be (λb hb=>(xR b hb).2) #[is,by omega,λj z _ dz=>by have:=bf.last dz;omega]]
  have ye:Ci.isEmpty=false:=by
   cases Ci with
   |nil=>
    cases nw with
    |nil=>exact absurd U cn
    |cons _ _=>cases Qr
   |cons _ _=>rfl
  rw[ye];apply dD #[λaV H'=>∃q',q'<c - kk/\Iv q' aV H',λ_ _ h=>h,?_];apply#[_,U,r,TN,_,U,RZ,IM _ _ _ Z0 Z0 Z0,r,x,a,n,hs,ts,qs,pa,nw,s0,kk,3000,U,R6,bf,po,λz hz=>((bf.new z).mp hz).1.vs v0,n8,G.cX,by decide,by omega,λH7 b7 more=>?_,λn' lU lV H7 b7 nn R7 FK Kk sj Kn=>#[_,U,aL ?_]]
  ·let#[L,nd,al,lt]:=more;have:=small L nd al;omega
  let#[#[TM,L5],_,_,#[Cg,zG,CO]]:=id R7;have rn:∀{c o},H c\o->c≠r:=λe=>bq e jg;have an':∀{c o},H c\o->c≠a:=λe=>bq e OX;let#[#[dx6,EX],_,#[X_,R5,_],_]:=id R6;have DN:∀{c xs},H6 c\.lst xs->H7 c\.lst xs:=λe=>b7 _ _ e (bK e EX nofun) (bK e R5 nofun);have JI:∀{c xs},H6 c\.tup xs->H7 c\.tup xs:=λe=>b7 _ _ e (bK e EX nofun) (bK e R5 nofun);have oT:aa H H7:=λc o e=>b7 c o (gr _ _ e) (rn e) (an' e);let DM:=Be.keep (λ_ _ _ e=>DN e) (λ_ _ e=>JI e);let zK:=DN pR;have GE:n'≠l:=λz=>by rw[z,pR] at nn;cases nn
  have Xz:H n'=none:=gr.free nn;apply#[_,U,.inl #[U,_,.of zK],_,U,r,CR,TM,_,_,U,L5,T.cl,T.nN,BI _ _ _,l,_,_,U,U,zK,by omega,?_];have P0:aa H (upd H7 l (.lst (ys++[.ref n']))):=fR oT ln;have e8:upd H7 l (.lst (ys++[.ref n'])) l\.lst (ys++[.ref n']):=az;have k8:∀{c o},H7 c\o->c≠l->upd H7 l (.lst (ys++[.ref n'])) c\o:=λe ne=>by rw[ax ne];exact e
  generalize upd H7 l (.lst (ys++[.ref n']))=H8 at P0 e8 k8 ⊢;have U3:pI r a H3 H8:=λc o e n1 n2=>k8 (b7 _ _ (s6 _ _ (b3 _ _ e n1 n2)) n1 n2) (bq e hl);have t8:∀{c xs},H7 c\.tup xs->H8 c\.tup xs:=λe=>k8 e (bK e zK nofun)
  have gl:(LL++[lV])[kk+1]? = some lV:=by
   rw[yb Z1,show kk+1 - LL.length=0 by omega];rfl
  apply#[c - (kk+1),by omega,n',lU,lV,kk+1,ys++[.ref n'],LL++[lV],U,P0,?_,FK,Kk,e8,?_,?_,GE,by rw[eM,X6];rfl,?_,by omega,?_,U]
  ·let#[_,ex3,#[Ya,h3a,_],_]:=id R3;let#[_,_,#[KR,RX,ah7],_]:=R7;exact#[#[TM,k8 L5 (bK L5 zK nofun)],ex3.OG U3 L6 h3a,#[KR,k8 RX (bK RX zK nofun),ah7.keep λ_ _ e=>t8 e],#[Cg,k8 zG GE,CO.keep λ_ _ e=>t8 e]]
  ·apply gU (DM.keep (λb hb xs e=>k8 e (xR b hb).1) λ_ _ e=>t8 e) (.cons #[n',Cg,U,k8 zG GE,CO.keep λ_ _ e=>t8 e] .nil)
  ·intro b hb;rcases dM.mp hb with hb|hb
   ·exact xR b hb
   cases V.ref.inj (eD.mp hb);exact#[GE,λe=>by rw[Xz] at e;cases e]
  ·intro j L hL;by_cases cj:j<LL.length
   ·rw[wK cj] at hL;exact is j L hL
   let zL:=(b_.mp hL).1;rw[eM,js] at zL;have:j=kk+1:=by omega
   subst this;rw[gl] at hL;cases cu hL;exact#[FK.nn,FK.new]
  exact U3
 have cc:¬(ys.length:Int)<=(c:Int):=⇑cc
 have ek:kk=c:=by omega
 apply aL #[_,U,k l ys LL H5 s5 ln xI ly (λb hb=>(xR b hb).2) #[is,by omega,λj z hj _=>by omega]]
end
end Ev
namespace L2
open PySem PySem.Spec PyProof.Rows PySem.W
section
variable{X:Cx}
inductive Dc (K:aj) (xs:ai) (H:Hp) (Q:VK):Prop
 |mk:∀(p:Addr) (ns:List Int),xs=[.ref p]->dZ K H p (ns.map V.int)->0<ns.length->(∀m,m∈ns->(∀a∈ns,m<=a)->Q (.int m) H)->Dc K xs H Q
theorem Z_(hc:X.calm=true):gG X (.builtin "min") (Dc X.K):=by
 intro pins s σ H xs us Q I r h;let#[p,ns,rfl,hp,hn,q]:=h;let#[u,rfl,ru]:=vals1 r;cases ru;let#[its,rv,pl,z]:=I.list hp;let hi:=RW rv;let#[xs,e]:=hi.allInts.items;let hl:=pl.isList;have zF:ns=xs.toList.map (·.1):=by rw[<- hi.numsOf,<- nums_intItems,<- e]
 have hsz:0<xs.size:=by
  let h3:=hn;rw[zF] at h3;simpa using h3
 rw[e] at hl;apply min_intList (I.ok.hd hc) hl hsz λv h' tk hv hk=>?_;let#[t,rfl]:=intItems_at hv;let#[h1,h2]:=argBest_lt (numAt xs) (xs.size - 1);apply#[.int _,H,I.kept hk,#[t,U],q _ ?_ λa ha=>?_]
 ·rw[zF,numAt_eq];exact getD_mem (by rw[au,pE];omega)
 rw[zF] at ha;let#[j,hj,rfl]:=mem_getD ha;rw[au,pE] at hj;rw[<- numAt_eq];exact h2 j Z1
end
end L2
namespace Ev
open PySem L2
structure tY (N:ak->ak->Prop) (s0:ak) (hs:Xa) (qs:aN) (c n:Nat) (r:Int):Prop where
 ex:∃l:List ak,l.Nodup/\(∀s,s∈l ↔ ∃j,j<=c/\Ds N s0 j s)/\n=l.length
 at_:∃z j,j<=c/\Ds N s0 j z/\jN hs qs (fS qs z) r
 lo:∀z j r',j<=c->Ds N s0 j z->jN hs qs (fS qs z) r'->r<=r'
theorem gO_{hs:Xa}{qs:aN}{f:bh}{r r':Int}(a:jN hs qs f r)(b:jN hs qs f r'):r=r':=by
 let#[x,hx,y,hy,rfl,up]:=a;let#[x',hx',y',Rc,rfl,Px]:=b;let h1:=(up x' hx').1;let h2:=(up y' Rc).2;let h3:=(Px x hx).1;let h4:=(Px y hy).2;omega
theorem ds0{N:ak->ak->Prop}{s0:ak}:Ds N s0 0 s0:=#[.z,λj hj=>absurd hj (Nat.not_lt_zero _)]
section v
theorem IQ:bN ["goods","stand","count","placed","rises","layer"] ["goods","stand","count"] (aX OE):=bU
inductive Oe (K:aj) (CG CW:Addr) (vs:ai) (H:Hp) (Q:VK) (E:XK):Prop
 |mk:∀(g p d:Addr) (hs:Xa) (ts:Xb) (qs:aN) (fp:ao) (s0:ak) (ns:ae) (f:bh) (c:Nat),vs=[.ref g,.ref d,.int c]->Gs K CG CW H g p hs ts qs fp->By H d hs qs fp s0 ns f->(aO hs).length ^ qs.length<=3000->c<=1000000->(∀t u n r H',aa H H'->H' t\.tup [.int (n:Nat),.ref u]->ia H' u (fr r (bP hs))->tY (Nx hs ts qs) s0 hs qs c n r->Q (.ref t) H')->Oe K CG CW vs H Q E
theorem fw_{f0 CG CW:Addr}{fd:Ae}(F:br K "reached_by" "reached_by" OE f0 fd)(B:Bi mg)(T:gf K CG)(zc:mg "min"=none)(cS:!bu 2 "checked_stand" ["goods","stand"] (IA K CG CW))(cF:!bu 2 "is_whole_from" Bw IF)(cL:!bu 7 "layers_within" ["goods","placed","count"] (k7 K CG CW))(cR:!bu 5 "rise_at" oy (HN K CG CW))(cP:!bu 2 "placed_by" ["goods","hands"] (Io K CG CW))(cM:!bu 3 Bv ["web"] (Fg K CW))(IX:!bu 2 "fraction_of" ["top","below"] lg):!aq a9 8 f0 fd ["goods","stand","count"] (Oe K CG CW):=by
 exists F.bT IQ;let#[g,p,d,hs,ts,qs,fp,s0,ns,f,c,rfl,G,S,bm,c6,k]:=h;let sz:=cU;refine' #[_,aw ?s1 (aw ?s2 (aw ?s3 (aw ?s4 (aF ?s5)))),?kk]
 case s1=>exact bo 3 IQ.nd (bg cS hr %[0,1|0])
 case s2=>exact cg (fi (e_ (bg cF hr %[2,aD|0]))) gj cm
 case s3=>exact bo 4 IQ.nd (fF bF)
 case' s4=>refine' ed dH U (dE (bg cL hr %[0,3,2|0])) ?g4 (aF ?b4)
 case g4=>exact cq 5 IQ.nd
 case' b4=>refine' kG (ow mq PySem.F.slot_list_extend PySem.F.type_list_extend T7 (pv 4) %[kD ["hands","goods"] 1 [0] (dE (pv 5)) (λfp s H=>?g5) (λfp s H=>mI) (λfp s H=>?e5)|0])
 case g5=>exact gh (i:=0) (show (["hands","goods"]:ae).Nodup by decide +kernel) U (Or.inl U)
 case e5=>exact bg cR hr %[1,bg cP hr %[1,0|0]|0]
 case s5=>exact bx (iC %[cZ ic (by rfl) B.len gH %[4|0],bg IX hr %[cZ (Z_ U) (by rfl) zc PyProof.Rows.Boot.«min» %[4|0],bg cM hr %[gd (pv 0) U|0]|0]|0])
 let mo:=tI G.Gd;let v0:=S.vs;apply#[_,U,_,U,g,p,d,hs,ts,qs,fp,ns,f,U,G.G,S.wa,S.hd,S.ok,G.nd,G.cX,λd1 H1 s1 n1 e1=>?_];apply#[_,U,c,0,U,_,U,?_];rw[cJ (show (0:Int)<=(c:Int) by omega)];apply aL ?_;apply#[zl,λlr Rv=>?_];have XR:H lr=none:=s1.free Rv;let#[s2,e2]:=aI (o:=.lst []) Rv;let jc:=s1.trans s2;generalize upd H1 lr (.lst [])=H2 at s2 e2 jc ⊢;apply#[_,U,_,U,_,U,g,p,d1,hs,ts,qs,fp,f,s0,c,U,G.same jc,s2 _ _ e1,S.s0,v0,bm,c6,λlL ys LL H3 s3 nL e3 ly xR up=>?_];let DR:=bj ly;let nd:=Sg up.is;let mem:=up.mem
 have small:∀l:List ak,l.Nodup->(∀z∈l,z∈LL.flatten)->l.length<=3000:=λl nd h=>gm (BR nd λz hz=>by
  let#[j,_,w]:=(mem z).mp (h z hz);exact#[(w.1.vs v0).len,(w.1.vs v0).fW]) bm
 have KI:∀b,V.ref b∈ys->b≠lr:=λb hb z=>by
  rw[z] at hb;exact xR _ hb e2
 let eV:=jc.trans s3;have XQ:lL≠lr:=λz=>by rw[z,e2] at nL;cases nL
 let Iv:bO:=λi σ H'=>∃(v5:aE) (rs:List Int),σ=[some (.ref g),some (.ref d),some (.int c),some (.ref d1),some (.ref lr),v5]/\aa H H'/\H' lr\.lst (rs.map V.int)/\H' lL\.lst ys/\eO H' ys LL/\Paired (λr z=>jN hs qs (fS qs z) r) rs (LL.take i).flatten
 apply#[lL,U,#[_,.of e3],?_];apply gi (K:=K) (a:=lL) (xs:=ys) Iv ?_ ?_ ?_ ?_
 ·exact#[none,[],U,eV,s3 _ _ e2,e3,ly,.nil]
 ·rintro i σ H' _ ⟨_,_,_,_,_,e,_⟩;exact .of e
 ·rintro i y σ H4 hy ⟨v5,rs,rfl,s4,l6,RT,zf,pr⟩;have hi:i<ys.length:=(b_.mp hy).1
  obtain⟨L,hL,a,zs,rfl,ha,sp⟩:∃L,LL[i]? = some L/\∃a zs,y=.ref a/\H4 a\.lst zs/\gR H4 zs L:=by
   have:=eP zf i hi Z1;rw[aY hi] at hy;cases hy;exact#[LL[i]' Z1,aY Z1,this]
  let vC:=bj sp;have hz:∀z∈L,Vs hs qs z:=λz hz=>(((up.is i L hL).2 z).mp hz).1.vs v0;let Qt:=bj pr
  have tk:(LL.take (i+1)).flatten=(LL.take i).flatten++L:=by
   rw[kE,hL,List.flatten_append];simp
  have CL:∀j,(LL.take j).flatten.Sublist LL.flatten:=λj=>by
   have:=List.sublist_append_left (LL.take j).flatten (LL.drop j).flatten;rwa [<- List.flatten_append,List.take_append_drop] at this
  have sub:∀j,(LL.take j).flatten.length<=3000:=λj=>small _ (nd.sublist (CL j)) λz hz=>(CL j).subset hz;let sb:=sub (i+1);rw[tk,eM] at sb;apply#[_,U,.inl #[U,_,.of l6],_,U,a,U,#[_,.of ha],λD hD=>?_];have lrD:lr≠D:=bq l6 hD;apply kI (own:=1) (fv:=[some (.ref g)]) (xs:=zs) U fY (λj out H'=>aa H4 H'/\∃vk:List Int,H' D\.lst (vk.map V.int)/\out=vk.map V.int/\Paired (λr z=>jN hs qs (fS qs z) r) vk (L.take j)) #[aa.new hD,[],az,U,.nil] (λj out H' _ ⟨sm,_⟩=>.of (sm _ _ ha)) (λout H5 ⟨s5,vk,iX,eo,Bb⟩=>?_) (λj y out H' hy ⟨sm,vk,dJ,eo,Bb⟩=>?_);rotate_left 1
  ·have hj:j<zs.length:=(b_.mp hy).1
   obtain⟨z,xB,t,rfl,ht⟩:∃z,L[j]? = some z/\∃t,y=.ref t/\H4 t\.tup (sV z):=by
    have:=eP sp j hj Z1;rw[aY hj] at hy;cases hy;exact#[L[j]' Z1,aY Z1,this]
   let vz:=hz z (cz xB);let P1:=s4.trans sm;apply#[_,U,U,λNx hN=>fV ?_];apply#[_,U,_,U,_,U,g,p,t,hs,ts,qs,fp,z,U,G.same P1,sm _ _ ht,vz.len,λd5 H6 s6 n6 e6=>?_];let#[Hd,Pl]:=(G.same P1).placed s6 n6 e6 (vz.at_ G.nd);apply#[g,p,d5,hs,ts,qs,Hd,fS qs z,U,Pl,G.wp,λr H7 s7 R=>?_];let PV:=s6.trans s7;let l2:=bj Bb;rw[dR] at l2;apply#[out,by rw[eo];exact PV _ _ dJ,by rw[eo,au];omega,hN (out++[.int r]) _ #[fR (sm.trans PV) hD,vk++[r],?_,?_,?_]]
   ·rw[az,eo,fg];rfl
   ·rw[eo,fg];rfl
   rw[kE,xB];exact gU Bb (.cons R .nil)
  rw[vC,eI] at Bb;subst eo;let l2:=bj Bb;apply#[lr,D,_,_,U,U,s5 _ _ l6,iX,by rw[au,au];omega,?_];rw[<- fg]
  have kL:∀c xs,c≠lr->H4 c\.lst xs->upd H5 lr (.lst ((rs++vk).map V.int)) c\.lst xs:=λc xs ne e=>by
   rw[ax ne];exact s5 _ _ e
  have kT:∀c xs,H4 c\.tup xs->upd H5 lr (.lst ((rs++vk).map V.int)) c\.tup xs:=λc xs e=>by
   rw[ax (bK e l6 nofun)];exact s5 _ _ e
  apply#[_,rs++vk,U,fR (s4.trans s5) XR,az,kL _ _ XQ RT,zf.keep (λb hb xs e=>kL _ _ (KI b hb) e) kT,?_];rw[tk];exact gU pr Bb
 rintro σ H4 ⟨v5,rs,rfl,s4,l6,RT,zf,pr⟩;rw[DR,eI] at pr;let Qt:=bj pr;let sm:=small _ nd λz hz=>hz;have Wt:s0∈LL.flatten:=(mem s0).mpr #[0,gE _,ds0];let pos:=List.length_pos_of_mem Wt;let#[dx,dw,dy,vs,di,h1,h2,_]:=id (G.same s4).G.ex;apply#[_,U,lr,_,U,.inl (.of l6),_,U,lr,rs,U,.of l6,by omega,λm hm VQ=>?_];apply#[_,U,g,CG,dx,_,_,U,h1,T.cl,T.nW,x8 _ _ _,p,hs,ts,di,U,h2,G.Gd,λH5 s5=>?_];let#[i,hi,em]:=gJ hm;let hR:=eP pr i hi Z1;rw[em] at hR;let r0:=(HY G.Gd G.wp G.cX hR).1;apply#[m,bP hs,U,r0,mo.1,mo.2.1,λu hu=>#[zl,λt ht=>?_]];let#[s6,e6]:=aI (o:=.tup [.int (fr m (bP hs)).1,.int (fr m (bP hs)).2]) hu;generalize upd H5 u (.tup [.int (fr m (bP hs)).1,.int (fr m (bP hs)).2])=H6 at s6 e6 ht ⊢;let s7:=aa.new (o:=.tup [.int ((rs.map V.int).length:Nat),.ref u]) ht;apply k t u (rs.map V.int).length m _ (((s4.trans s5).trans s6).trans s7) az (s7 _ _ e6) #[#[LL.flatten,nd,mem,by rw[au];exact Qt],?_,λz j r' hj dz R'=>?_]
 ·let#[j,hj,dj]:=(mem _).mp (mO (by omega:i<LL.flatten.length));exact#[_,j,hj,dj,hR]
 let#[i',G2,ez]:=gJ ((mem z).mpr #[j,hj,dz]);let q:=eP pr i' Z1 G2;rw[ez] at q;rw[gO_ R' q];exact VQ _ (mO _)
end
end Ev
namespace Ev
open PySem L2
theorem ZL{X Y M c d r:Int}(hM:0<M)(hc:0<c)(hX:X * M=c * d)(hY:Y * M=c * r):(X=Y ↔ d=r)/\(Y<=X ↔ r<=d):=by
 apply#[#[λh=>?_,λh=>?_],#[λh=>?_,λh=>?_]]
 ·rw[h,hY] at hX;exact (Int.eq_of_mul_eq_mul_left Z1 hX).symm
 ·rw[h,<- hY] at hX;exact Int.eq_of_mul_eq_mul_right Z1 hX
 ·have:=BX h (gS hM);rw[hX,hY] at this;exact Int.le_of_mul_le_mul_left this hc
 have:=FW h (gS hc);rw[<- hX,<- hY] at this;exact Int.le_of_mul_le_mul_right this hM
theorem Hh{r M:Int}(hr:0<=r)(hM:0<M):(fr r M).1 * M=r * (fr r M).2/\0<(fr r M).2:=by
 have g0:0<(Int.gcd r M:Int):=by
  have:Int.gcd r M≠0:=λe=>by
   have:=Int.gcd_eq_zero_iff.mp e;omega
  omega
 have e1:(fr r M).1 * (Int.gcd r M:Int)=r:=Int.ediv_mul_cancel (Int.gcd_dvd_left ..);have e2:(fr r M).2 * (Int.gcd r M:Int)=M:=Int.ediv_mul_cancel (Int.gcd_dvd_right ..);constructor
 ·have:(fr r M).1 * ((fr r M).2 * (Int.gcd r M:Int))=(fr r M).1 * (Int.gcd r M:Int) * (fr r M).2:=by grind
  rw[e2,e1] at this;exact this
 by_cases c:0<(fr r M).2
 ·exact c
 have:(fr r M).2 * (Int.gcd r M:Int)<=0 * (Int.gcd r M:Int):=BX Z1 (gS g0);omega
theorem Zh{r r' M:Int}(hr:0<=r)(GW:0<=r')(hM:0<M):fr r M=fr r' M ↔ r=r':=by
 constructor
 ·intro e;let h1:=Hh hr hM;let h2:=Hh GW hM;rw[<- e] at h2;have:r * (fr r M).2=r' * (fr r M).2:=by rw[<- h1.1,h2.1]
  exact Int.eq_of_mul_eq_mul_right Z1 this
 intro e;rw[e]
theorem G8{hs:Xa}{ts:Xb}{qs:aN}{z:ak}{r r':Int}(G:Good hs ts)(r0:0<=r)(R':jN hs qs (fS qs z) r'):ji hs qs z (fr r (bP hs))=true ↔ r'<=r:=by
 let f:=Hh r0 (tI G).1;rw[MG,Sy R' f.2,f.1,Int.mul_comm r];exact#[λh=>Int.le_of_mul_le_mul_left h f.2,λh=>FW h (gS f.2)]
theorem ME{hs:Xa}{ts:Xb}(G:Good hs ts)(qs:aN)(f:bh):∃r,jN hs qs f r:=by
 have ne:aO hs≠[]:=λe=>by
  have:=G.gX;have:=G.h1;rw[e] at *;simp at *;omega
 have mx:∀(F:Str->Int) (l:ae),l≠[]->∃x∈l,∀z∈l,F z<=F x:=λF l=>by
  induction l with
  |nil=>exact λh=>absurd U h
  |cons a l ih=>
   intro _;by_cases c:l=[]
   ·exact#[a,by simp,λz hz=>by
     rw[c] at hz;rw[eD.mp hz];exact Int.le_refl _]
   let#[x,hx,up]:=ih c;by_cases d:F a<=F x
   ·apply#[x,fN _ hx,λz hz=>?_];rcases bW.mp hz with rfl|hz
    ·exact d
    exact up z hz
   apply#[a,gB,λz hz=>?_];rcases bW.mp hz with rfl|hz
   ·exact Int.le_refl _
   have:=up z hz;omega
 let#[x,hx,ux]:=mx (d0 hs qs f) _ ne;let#[y,hy,uy]:=mx (λn=>-d0 hs qs f n) _ ne;exact#[_,x,hx,y,hy,U,λz hz=>#[ux z hz,by have:=uy z hz;omega]]
theorem QN{hs:Xa}{ts:Xb}{ss qs:aN}(G:Good hs ts)(S:eN ts ss qs)(s:ak){r:Int}(r0:0<=r){a b:Str × Int}(ha:a∈hs)(hb:b∈hs):((fr r (bP hs)).2 * (dI ss s a.1 * b.2 - dI ss s b.1 * a.2)=(fr r (bP hs)).1 * a.2 * b.2 ↔ d0 hs qs (fS qs s) a.1 - d0 hs qs (fS qs s) b.1=r)/\((fr r (bP hs)).1 * a.2 * b.2<=(fr r (bP hs)).2 * (dI ss s a.1 * b.2 - dI ss s b.1 * a.2) ↔ r<=d0 hs qs (fS qs s) a.1 - d0 hs qs (fS qs s) b.1):=by
 let mo:=tI G;let f:=Hh r0 mo.1;have am:a.1∈aO hs:=(fE hs).mem_iff.mpr (bw.mpr #[a,ha,U]);have bm:b.1∈aO hs:=(fE hs).mem_iff.mpr (bw.mpr #[b,hb,U]);have ea:strOf hs a.1=a.2:=IJ G.o5 ha;have eb:strOf hs b.1=b.2:=IJ G.o5 hb;let sa:=wC G am;let sb:=wC G bm;let ma:=mo.2.2 _ am;let mb:=mo.2.2 _ bm;rw[ea] at sa ma;rw[eb] at sb mb;let OZ:=QU (La:=ld (fS qs s) (qs.map eF) a.1) (Lb:=ld (fS qs s) (qs.map eF) b.1) ma mb
 have e1:d0 hs qs (fS qs s) a.1=ld (fS qs s) (qs.map eF) a.1 * (bP hs / a.2):=by
  unfold d0;rw[ea]
 have e2:d0 hs qs (fS qs s) b.1=ld (fS qs s) (qs.map eF) b.1 * (bP hs / b.2):=by
  unfold d0;rw[eb]
 rw[AF S,AF S,e1,e2];have Jm:0<a.2 * b.2:=Int.mul_pos Z1 Z1;apply ZL mo.1 (Int.mul_pos Jm f.2) (c:=a.2 * b.2 * (fr r (bP hs)).2) ?_ ?_
 ·rw[Int.mul_assoc (fr r (bP hs)).2,OZ]
  grind
 have:(fr r (bP hs)).1 * a.2 * b.2 * bP hs=a.2 * b.2 * ((fr r (bP hs)).1 * bP hs):=by grind
 rw[this,f.1]
 grind
section v
theorem wx:bN [jP,mz,"_law_keys","_law_limit","_law_good","_law_spot",uE,"_law_one",xS,"_law_other","_law_more","_law_over"] Bx (aX M3):=bU
inductive Oj (K:aj) (vs:ai) (H:Hp) (Q:VK) (E:XK):Prop
 |mk:∀(lh lp lt lk u:Addr) (yk:ai) (l:List ak) (hs:Xa) (ts:Xb) (ss qs:aN) (r:Int),vs=[.ref lh,.ref lp,.ref lk,.ref u]->B1 K H lh lp lt u hs ts ss qs (fr r (bP hs))->H lk\.lst yk->gR H yk l->(∀z∈l,Vs hs qs z)->l.length<=3000->0<=r->(∃z∈l,jN hs qs (fS qs z) r)->(∀H',aa H H'->Q (.bl true) H')->Oj K vs H Q E
theorem fn_{f:Addr}{fd:Ae}(F:br K "_law_is_least" "_law_is_least" M3 f fd)(cL:!bu 1 "_law_loads" jV (FR K))(cE:!bu 2 "_law_even" tX (Nk K)):!aq a9 3 f fd Bx (Oj K):=by
 exists F.bT wx;let#[lh,lp,lt,lk,u,yk,l,hs,ts,ss,qs,r,rfl,Pt,Er,sp,vl,l3,r0,#[z0,_M,R0],k]:=h;let hu:=fO hr;let sz:=cU;refine' #[_,aw ?s1 (aw ?s2 (aw ?s3 (aF ?s4))),?kk]
 case' s1=>refine' MM (i:=4) ["_law_spot",jP,"_law_limit",mz] 1 [0,3,1] wx.nd U (Or.inl U) (dE (pv 2)) (λfp s H=>?g1) (λfp s H=>?t1) (λfp s H=>?e1)
 case g1=>exact gh (i:=0) (show (["_law_spot",jP,"_law_limit",mz]:ae).Nodup by decide +kernel) U (Or.inl U)
 case t1=>exact H_ (e_ (bg cE hr %[1,3,0,2|0]))
 case e1=>exact pv 0
 case s2=>exact cg (fh (hV_ (mF hr 0)) (pv 4) (fF bF)) (aF (bx gI)) cm
 case' s3=>refine' ed dH U (dE (pv 4)) ?g3 (aw ?a1 (aF ?a2))
 case g3=>exact cq 5 wx.nd
 case a1=>exact bo 6 wx.nd (bg cL hr %[0,1,5|0])
 case' a2=>refine' ed dH U (dE (pv 0)) ?g4 (aF ?b2)
 case g4=>exact kz U (dG (cq 7 wx.nd) (dG (cq 8 wx.nd) iM))
 case' b2=>refine' ed dH U (dE (pv 0)) ?g5 (aw ?c1 (aF ?c2))
 case g5=>exact kz U (dG (cq 9 wx.nd) (dG (cq 10 wx.nd) iM))
 case c1=>exact bo 11 wx.nd (bJ BE (bJ iB (jo hu (pv 6) (pv 7)) (pv 10)) (bJ iB (jo hu (pv 6) (pv 9)) (pv 8)))
 case c2=>exact cg (fh E3 (bJ iB (bz cw (pv 3) aD) (pv 11)) (bJ iB (bJ iB (bz cw (pv 3) aD) (pv 8)) (pv 10))) (aF (bx gI)) cm
 case s4=>exact bx gI
 let G:=Pt.G;let S:=Pt.S;let s8:=Pt.s8;let vC:=bj sp
 let fl:ak->Bool:=λz=>ji hs qs z (fr r (bP hs))
 apply#[_,U,lk,U,#[_,.of Er],λD hD=>?_];apply kI (own:=1) (fv:=[some (.ref lh),some (.ref u),some (.ref lp)]) (xs:=yk) U fY (λj out H'=>aa H H'/\H' D\.lst out/\gR H' out ((l.take j).filter fl)) #[aa.new hD,az,.nil] (λj out H' _ ⟨sm,_,_⟩=>.of (sm _ _ Er)) (λout H4 ⟨s4,o8,iF⟩=>?_) (λj y out H' hy ⟨sm,dJ,J5⟩=>?_);rotate_left 1
 ·have hj:j<yk.length:=(b_.mp hy).1
  obtain⟨z,hz,t,rfl,ht⟩:∃z,l[j]? = some z/\∃t,y=V.ref t/\H t\.tup (sV z):=by
   have:=eP sp j hj Z1;rw[aY hj] at hy;cases hy;exact#[l[j]' Z1,aY Z1,this]
  let zv:=vl z (cz hz);let Pb:=Pt.same sm;let#[#[yh,a1,a2],#[yp,b1,b2]]:=And.intro Pb.hh Pb.hp;apply#[_,U,U,λNx hN=>?_];apply#[_,U,_,U,_,U,_,U,lh,lp,t,u,yh,yp,hs,ts,ss,qs,z,fr r (bP hs),U,a1,a2,G,b1,b2,S,s8,sm _ _ ht,zv,Pb.hl,Pt.lo,λH3 s3=>#[_,U,?_]]
  have tk:((l.take (j+1)).filter fl)=((l.take j).filter fl)++if fl z=true then [z] else []:=by
   rw[kE,hz,List.filter_append];by_cases c:fl z=true
   ·simp[c]
   simp[c]
  apply bY (λc=>?_) (λc=>?_)
  ·let lo:=bj J5;let lf:=BY fl (l.take j);rw[dR] at lf;let xP:=s3 _ _ dJ;apply#[_,U,out,xP,by omega,hN _ _ #[fR (sm.trans s3) hD,az,?_]]
   have kt:∀b xs,H' b\.tup xs->upd H3 D (.lst (out++[.ref t])) b\.tup xs:=λb xs e=>by
    rw[ax (bK (s3 _ _ e) xP nofun)];exact s3 _ _ e
   rw[tk,aJ c];exact gU (J5.keep kt) (.cons #[t,U,kt _ _ (sm _ _ ht)] .nil)
  apply hN out _ #[sm.trans s3,s3 _ _ dJ,?_];rw[tk,aB c,List.append_nil];exact J5.keep λb xs e=>s3 _ _ e
 rw[vC,eI] at iF;have F8:z0∈l.filter fl:=mL.mpr #[_M,(G8 G r0 R0).mpr (Int.le_refl _)];let DO:=bj iF;apply#[_,U,zl,λle hle=>?_];let#[s5,e5]:=aI (o:=.lst []) hle;let pK:=s4.trans s5;let iX:=s5 _ _ o8;have CT:gR (upd H4 le (.lst [])) out (l.filter fl):=iF.keep λb xs e=>s5 _ _ e;generalize upd H4 le (.lst [])=H5 at s5 e5 pK iX CT ⊢
 have oe:out.isEmpty=false:=by
  cases out with
  |nil=>
   have:=List.length_pos_of_mem F8;simp at DO;omega
  |cons _ _=>rfl
 apply#[D,le,out,U,U,.of iX,.of e5,?_];rw[oe];apply#[_,U,aL ?_]
 let X:ak->(Str × Int)->(Str × Int)->Prop:=λz a b=>(fr r (bP hs)).2 * (dI ss z a.1 * b.2 - dI ss z b.1 * a.2)=(fr r (bP hs)).1 * a.2 * b.2
 let lo:=Pt.lo
 let Iu:bO:=λi σ H'=>∃(v5 v6 v7 v8 v9 va vb:aE),σ=[some (.ref lh),some (.ref lp),some (.ref lk),some (.ref u),some (.ref D),v5,v6,v7,v8,v9,va,vb]/\aa H5 H'/\∀z∈(l.filter fl).take i,∀a∈hs,∀b∈hs,¬X z a b
 apply#[_,U,D,U,#[_,.of iX],?_];apply gi (K:=K) (a:=D) (xs:=out) Iu ?_ ?_ ?_ ?_
 ·exact#[_,_,_,_,_,_,_,U,aa.refl _,by simp]
 ·rintro i σ H' _ ⟨_,_,_,_,_,_,_,_,sm,_⟩;exact .of (sm _ _ iX)
 ·rintro i y σ H6 hy ⟨v5,v6,v7,v8,v9,va,vb,rfl,s6,no⟩;have hi:i<out.length:=(b_.mp hy).1
  obtain⟨z,hz,t,rfl,ht⟩:∃z,(l.filter fl)[i]? = some z/\∃t,y=V.ref t/\H5 t\.tup (sV z):=by
   have:=eP CT i hi Z1;rw[aY hi] at hy;cases hy;exact#[(l.filter fl)[i]' Z1,aY Z1,this]
  let zv:=vl z (mL.mp (cz hz)).1;let gr:=pK.trans s6;let A3:=Pt.same gr;let#[#[yh,eX,th],#[yp,iI,pc]]:=And.intro A3.hh A3.hp;let kg:=bj th;rw[au] at kg;have fW:∀h∈z,h∈hs.map (·.1):=λh hh=>(fE hs).mem_iff.mp (zv.fW h hh);apply#[_,U,_,U,_,U,lh,lp,t,yh,yp,hs,ss,z,U,eX,th,G.o5,G.h8,iI,pc,S.nd,s8,s6 _ _ ht,by rw[zv.len,S.len],fW,λd H1 s1 n1 e1=>?_];let wR:=th.same s1;let iV:=s1 _ _ eX;let eY:=(A3.same s1).hl
  have xw:∀n,0<=dI ss z n/\dI ss z n<=64000000000:=λn=>by
   rw[AF S];exact Br S.wp (by rw[S.len];omega) _ _
  let Iv:bO:=λi σ H'=>∃(v7 v8 v9 va vb:aE),σ=[some (.ref lh),some (.ref lp),some (.ref lk),some (.ref u),some (.ref D),some (.ref t),some (.ref d),v7,v8,v9,va,vb]/\H'=H1/\∀a∈hs.take i,∀b∈hs,¬X z a b
  apply#[_,U,lh,U,#[_,.of iV],?_];apply gi (K:=K) (a:=lh) (xs:=yh) Iv ?_ ?_ ?_ ?_
  ·exact#[_,_,_,_,_,U,U,by simp]
  ·rintro i σ H' _ ⟨_,_,_,_,_,_,rfl,_⟩;exact .of iV
  ·rintro i y σ H2 hy ⟨v7,v8,v9,va,vb,rfl,rfl,oY⟩;let#[a,ha,p,rfl,hp]:=oB wR hy;let am:=cz ha;have an:a.1∈hs.map (·.1):=bw.mpr #[a,am,U];let ga:=G.ay a am;apply#[p,_,U,.of (sI hp),U,_,_,U,_,_,U,U,?_]
   let Iw:bO:=λj σ H'=>∃(v9 va vb:aE),σ=[some (.ref lh),some (.ref lp),some (.ref lk),some (.ref u),some (.ref D),some (.ref t),some (.ref d),some (.str a.1),some (.int a.2),v9,va,vb]/\H'=H2/\∀b∈hs.take j,¬X z a b
   apply#[_,U,lh,U,#[_,.of iV],?_];apply gi (K:=K) (a:=lh) (xs:=yh) Iw ?_ ?_ ?_ ?_
   ·exact#[_,_,_,U,U,by simp]
   ·rintro j σ H' _ ⟨_,_,_,_,rfl,_⟩;exact .of iV
   ·rintro j y σ H3 hy ⟨v9,va,vb,rfl,rfl,nR⟩;let#[b,hb,q,rfl,hq]:=oB wR hy;let bm:=cz hb;have bn:b.1∈hs.map (·.1):=bw.mpr #[b,bm,U];let gb:=G.ay b bm;let la:=xw a.1;let lb:=xw b.1;let Sq:=ga.2.1;let E2:=ga.2.2;let So:=gb.2.1;let E1:=gb.2.2
    have dg:∀{n},n∈hs.map (·.1)->dP H3 d (.str n) (some (.int (dI ss z n))):=λ{n} hn=>by
     have:=dP.k (k:=.inr n) e1;rw[wz (g:=λh=>V.int (dI ss z h)) hn] at this;exact this
    apply#[q,_,U,.of (sI hq),U,_,_,U,_,_,U,U,?_];apply#[_,U,_,U,d,_,U,dg an,_,U,_,_,U,U,.inr #[by omega,by omega],_,U,_,U,d,_,U,dg bn,_,U,_,_,U,U,.inr #[by omega,by omega],_,_,U,U,?_];have m1:0<=dI ss z a.1 * b.2/\dI ss z a.1 * b.2<=64000000000 * 1000:=#[Int.mul_nonneg la.1 Z1,Int.mul_le_mul la.2 E1 Z1 (by decide)];have m2:0<=dI ss z b.1 * a.2/\dI ss z b.1 * a.2<=64000000000 * 1000:=#[Int.mul_nonneg lb.1 Z1,Int.mul_le_mul lb.2 E2 Z1 (by decide)];apply#[_,U,u,_,1,_,U,U,.of eY,L2.d8 (j:=1) U,_,U,_,_,U,U,.inr #[by omega,by omega],?_];apply#[_,U,u,_,0,_,U,U,.of eY,L2.d8 (j:=0) U,_,U,_,_,U,U,.inr #[by omega,by omega],_,U,_,_,U,U,.inr #[by omega,by omega],U,_,U,?_];apply bY (λc=>?_) (λc=>?_)
    ·exact k H3 (gr.trans s1)
    have hx:¬X z a b:=λh=>c (cJ (eG V.int h));apply#[_,_,_,U,U,λx hx'=>?_];rw[kE,hb] at hx';rcases dM.mp hx' with hx'|hx'
    ·exact nR x hx'
    have:x=b:=⇑hx'
    rw[this];exact hx
   rintro σ H3 ⟨v9,va,vb,rfl,rfl,nR⟩;rw[kg,eI] at nR;apply#[_,_,_,_,_,U,U,λx hx=>?_];rw[kE,ha] at hx;rcases dM.mp hx with hx|hx
   ·exact oY x hx
   have:x=a:=⇑hx
   rw[this];exact nR
  rintro σ H2 ⟨v7,v8,v9,va,vb,rfl,rfl,oY⟩;rw[kg,eI] at oY;apply#[_,_,_,_,_,_,_,U,s6.trans s1,λx hx=>?_];rw[kE,hz] at hx;rcases dM.mp hx with hx|hx
  ·exact no x hx
  have:x=z:=⇑hx
  rw[this];exact oY
 rintro σ H6 ⟨v5,v6,v7,v8,v9,va,vb,rfl,s6,no⟩;rw[DO,eI] at no;let#[x,hx,y,hy,er,_]:=R0;let#[a,ha,rfl]:=bw.mp ((fE hs).mem_iff.mp hx);let#[b,hb,rfl]:=bw.mp ((fE hs).mem_iff.mp hy);exact absurd ((QN G S z0 r0 ha hb).1.mpr er.symm) (no z0 F8 a ha b hb)
end
end Ev
namespace Ev
open PySem L2
theorem Sl:∀bs:List Bool,(bs.map V.bl).all uD=true
 |[]=>rfl
 |b::r=>by
  rw[eZ,List.all_cons,Sl r];rfl
theorem X8{bs:List Bool}(h:true∈bs):GR (.bl true) (bs.map V.bl)=true:=by
 unfold GR;rw[List.any_eq_true];exact#[_,bw.mpr #[true,h,U],U]
section v
theorem wD:bN [jP,mz,"_law_keys","_law_limit","_law_spot",uE,"_law_over","_law_one",xS,"_law_other","_law_more","_law_above"] Bx (aX lI):=bU
inductive ND (K:aj) (vs:ai) (H:Hp) (Q:VK) (E:XK):Prop
 |mk:∀(lh lp lt lk u:Addr) (yk:ai) (l:List ak) (hs:Xa) (ts:Xb) (ss qs:aN) (r:Int),vs=[.ref lh,.ref lp,.ref lk,.ref u]->B1 K H lh lp lt u hs ts ss qs (fr r (bP hs))->H lk\.lst yk->gR H yk l->(∀z∈l,Vs hs qs z)->l.length<=3000->0<=r->(∀z∈l,∀r',jN hs qs (fS qs z) r'->r<=r')->(∀H',aa H H'->Q (.bl true) H')->ND K vs H Q E
theorem _c{f:Addr}{fd:Ae}(F:br K "_law_none_below" "_law_none_below" lI f fd)(cL:!bu 1 "_law_loads" jV (FR K)):!aq a9 2 f fd Bx (ND K):=by
 exists F.bT wD;let#[lh,lp,lt,lk,u,yk,l,hs,ts,ss,qs,r,rfl,Pt,Er,sp,vl,l3,r0,least,k]:=h;let hu:=fO hr;let sz:=cU;refine' #[_,aw ?s3 (aF ?s4),?kk]
 case' s3=>refine' ed dH U (dE (pv 2)) ?g3 (aw ?a1 (aw ?a0 (aw ?a2 (aF ?a3))))
 case g3=>exact cq 4 wD.nd
 case a1=>exact bo 5 wD.nd (bg cL hr %[0,1,4|0])
 case a0=>exact bo 6 wD.nd (fF bF)
 case' a2=>refine' ed dH U (dE (pv 0)) ?g4 (aF ?b2)
 case g4=>exact kz U (dG (cq 7 wD.nd) (dG (cq 8 wD.nd) iM))
 case' b2=>refine' ed dH U (dE (pv 0)) ?g5 (aw ?c1 (aF ?c2))
 case g5=>exact kz U (dG (cq 9 wD.nd) (dG (cq 10 wD.nd) iM))
 case c1=>exact bo 11 wD.nd (bJ BE (bJ iB (jo hu (pv 5) (pv 7)) (pv 10)) (bJ iB (jo hu (pv 5) (pv 9)) (pv 8)))
 case c2=>exact kG (ow mq uK uL tR (pv 6) %[wA QK (bJ iB (bz cw (pv 3) aD) (pv 11)) (bJ iB (bJ iB (bz cw (pv 3) aD) (pv 8)) (pv 10))|0])
 case a3=>exact cg (fh dY_ gI (pv 6) (by with_unfolding_all rfl)) (aF (bx gI)) cm
 case s4=>exact bx gI
 let G:=Pt.G;let S:=Pt.S;let s8:=Pt.s8;let vC:=bj sp;let lo:=Pt.lo
 let X:ak->(Str × Int)->(Str × Int)->Prop:=λz a b=>(fr r (bP hs)).1 * a.2 * b.2<=(fr r (bP hs)).2 * (dI ss z a.1 * b.2 - dI ss z b.1 * a.2)
 let Iu:bO:=λi σ H'=>∃(v4 v5 v6 v7 v8 v9 va vb:aE),σ=[some (.ref lh),some (.ref lp),some (.ref lk),some (.ref u),v4,v5,v6,v7,v8,v9,va,vb]/\aa H H'
 apply#[_,U,lk,U,#[_,.of Er],?_];apply gi (K:=K) (a:=lk) (xs:=yk) Iu ?_ ?_ ?_ ?_
 ·exact#[_,_,_,_,_,_,_,_,U,aa.refl _]
 ·rintro i σ H' _ ⟨_,_,_,_,_,_,_,_,_,sm⟩;exact .of (sm _ _ Er)
 ·rintro i y σ H6 hy ⟨v4,v5,v6,v7,v8,v9,va,vb,rfl,s6⟩;have hi:i<yk.length:=(b_.mp hy).1
  obtain⟨z,hz,t,rfl,ht⟩:∃z,l[i]? = some z/\∃t,y=V.ref t/\H t\.tup (sV z):=by
   have:=eP sp i hi Z1;rw[aY hi] at hy;cases hy;exact#[l[i]' Z1,aY Z1,this]
  let zm:=cz hz;let zv:=vl z zm;let A3:=Pt.same s6;let#[#[yh,eX,th],#[yp,iI,pc]]:=And.intro A3.hh A3.hp;let kg:=bj th;rw[au] at kg;let h8:=G.h8;have fW:∀h∈z,h∈hs.map (·.1):=λh hh=>(fE hs).mem_iff.mp (zv.fW h hh);apply#[_,U,_,U,_,U,lh,lp,t,yh,yp,hs,ss,z,U,eX,th,G.o5,G.h8,iI,pc,S.nd,s8,s6 _ _ ht,by rw[zv.len,S.len],fW,λd H0 s1 n1 e0=>?_];apply#[zl,λla Kv=>?_];let#[s2,e2]:=aI (o:=.lst []) Kv;let e1:=s2 _ _ e0;let C7:=s1.trans s2;have X4:H la=none:=(s6.trans s1).free Kv;generalize upd H0 la (.lst [])=H1 at s2 e2 e1 C7 ⊢;let wR:=th.same C7;let iV:=C7 _ _ eX;let eY:=(A3.same C7).hl;have dla:d≠la:=bK e1 e2 nofun;have zk:lh≠la:=bq eX (s1.free Kv);have VS:u≠la:=bK eY e2 nofun
  have xw:∀n,0<=dI ss z n/\dI ss z n<=64000000000:=λn=>by
   rw[AF S];exact Br S.wp (by rw[S.len];omega) _ _
  let J:Nat->List Bool->Hp->Prop:=λn bs H'=>(∀c o,H1 c\o->c≠la->H' c\o)/\H' la\.lst (bs.map V.bl)/\bs.length=n
  let Iv:bO:=λi σ H'=>∃(v7 v8 v9 va vb:aE) (bs:List Bool),σ=[some (.ref lh),some (.ref lp),some (.ref lk),some (.ref u),some (.ref t),some (.ref d),some (.ref la),v7,v8,v9,va,vb]/\J (i * hs.length) bs H'/\∀a∈hs.take i,∀b∈hs,X z a b->true∈bs
  apply#[_,U,lh,U,#[_,.of iV],?_];apply gi (K:=K) (a:=lh) (xs:=yh) Iv ?_ ?_ ?_ ?_
  ·exact#[_,_,_,_,_,[],U,#[λ_ _ e _=>e,e2,by simp],by simp]
  ·rintro i σ H' _ ⟨_,_,_,_,_,_,_,⟨j1,_,_⟩,_⟩;exact .of (j1 _ _ iV zk)
  ·rintro i y σ H2 hy ⟨v7,v8,v9,va,vb,bs,rfl,jj,oY⟩;have G2:i<yh.length:=(b_.mp hy).1;let#[a,ha,p,rfl,hp]:=oB wR hy;let am:=cz ha;have an:a.1∈hs.map (·.1):=bw.mpr #[a,am,U];let ga:=G.ay a am;have P5:∀{c xs} {H':Hp},(∀c o,H1 c\o->c≠la->H' c\o)->H1 c\.tup xs->H' c\.tup xs:=λj e=>j _ _ e (bK e e2 nofun);apply#[p,_,U,.of (P5 jj.1 (sI hp)),U,_,_,U,_,_,U,U,?_]
   let Iw:bO:=λj σ H'=>∃(v9 va vb:aE) (bs:List Bool),σ=[some (.ref lh),some (.ref lp),some (.ref lk),some (.ref u),some (.ref t),some (.ref d),some (.ref la),some (.str a.1),some (.int a.2),v9,va,vb]/\J (i * hs.length+j) bs H'/\(∀a∈hs.take i,∀b∈hs,X z a b->true∈bs)/\∀b∈hs.take j,X z a b->true∈bs
   apply#[_,U,lh,U,#[_,.of (jj.1 _ _ iV zk)],?_];apply gi (K:=K) (a:=lh) (xs:=yh) Iw ?_ ?_ ?_ ?_
   ·exact#[_,_,_,bs,U,jj,oY,by simp]
   ·rintro j σ H' _ ⟨_,_,_,_,_,⟨j1,_,_⟩,_⟩;exact .of (j1 _ _ iV zk)
   ·rintro j y σ H3 hy ⟨v9,va,vb,bs,rfl,⟨j1,j2,j3⟩,oY,nR⟩;have RC:j<yh.length:=(b_.mp hy).1;let#[b,hb,q,rfl,hq]:=oB wR hy;let bm:=cz hb;have bn:b.1∈hs.map (·.1):=bw.mpr #[b,bm,U];let gb:=G.ay b bm;let QA:=xw a.1;let lb:=xw b.1;let Sq:=ga.2.1;let E2:=ga.2.2;let So:=gb.2.1;let E1:=gb.2.2
    have dg:∀{n},n∈hs.map (·.1)->dP H3 d (.str n) (some (.int (dI ss z n))):=λ{n} hn=>by
     have:=dP.k (k:=.inr n) (j1 _ _ e1 dla);rw[wz (g:=λh=>V.int (dI ss z h)) hn] at this;exact this
    let um:=j1 _ _ eY VS;apply#[q,_,U,.of (P5 j1 (sI hq)),U,_,_,U,_,_,U,U,?_];apply#[_,U,_,U,d,_,U,dg an,_,U,_,_,U,U,.inr #[by omega,by omega],_,U,_,U,d,_,U,dg bn,_,U,_,_,U,U,.inr #[by omega,by omega],_,_,U,U,?_];have m1:0<=dI ss z a.1 * b.2/\dI ss z a.1 * b.2<=64000000000 * 1000:=#[Int.mul_nonneg QA.1 Z1,Int.mul_le_mul QA.2 E1 Z1 (by decide)];have m2:0<=dI ss z b.1 * a.2/\dI ss z b.1 * a.2<=64000000000 * 1000:=#[Int.mul_nonneg lb.1 Z1,Int.mul_le_mul lb.2 E2 Z1 (by decide)];apply#[_,U,.inl #[U,_,.of j2],?_];apply#[_,U,u,_,1,_,U,U,.of um,L2.d8 (j:=1) U,_,U,_,_,U,U,.inr #[by omega,by omega],?_];apply#[_,U,u,_,0,_,U,U,.of um,L2.d8 (j:=0) U,_,U,_,_,U,U,.inr #[by omega,by omega],_,U,_,_,U,U,.inr #[by omega,by omega],_,_,U,U,?_];have il:i * hs.length<=8 * 8:=Nat.mul_le_mul Z1 h8;apply#[la,_,_,U,U,j2,by rw[au];omega,?_];obtain⟨v,ev⟩:∃v:Bool,v=decide ((fr r (bP hs)).1 * a.2 * b.2<=(fr r (bP hs)).2 * (dI ss z a.1 * b.2 - dI ss z b.1 * a.2)):=#[_,U];apply#[_,_,_,bs++[v],U,#[λc o e ne=>by rw[ax ne];exact j1 c o e ne,?_,by rw[eM,j3];rfl],λa' ha' b' ur h=>List.mem_append_left _ (oY a' ha' b' ur h),λx hx' h=>?_]
    ·rw[az,ev,fg];rfl
    rw[kE,hb] at hx';rcases dM.mp hx' with hx'|hx'
    ·exact List.mem_append_left _ (nR x hx' h)
    have:x=b:=⇑hx'
    rw[this] at h;rw[ev,cJ h];simp
   rintro σ H3 ⟨v9,va,vb,bs,rfl,jj,oY,nR⟩;rw[kg,eI] at nR;rw[kg] at jj;apply#[_,_,_,_,_,bs,U,by rw[Nat.succ_mul];exact jj,λx hx b hb h=>?_];rw[kE,ha] at hx;rcases dM.mp hx with hx|hx
   ·exact oY x hx b hb h
   have:x=a:=⇑hx
   rw[this] at h;exact nR b hb h
  rintro σ H2 ⟨v7,v8,v9,va,vb,bs,rfl,⟨j1,j2,j3⟩,oY⟩;rw[kg,eI] at oY;let#[r',R']:=ME G qs (fS qs z);let le:=least z zm r' R';let#[x,hx,y,hy,er,_]:=R';let#[a,ha,rfl]:=bw.mp ((fE hs).mem_iff.mp hx);let#[b,hb,rfl]:=bw.mp ((fE hs).mem_iff.mp hy);let tm:=oY a ha b hb ((QN G S z r0 ha hb).2.mpr Z1);apply#[_,U,la,_,U,.inl (.of j2),U,Sl bs,?_];rw[X8 tm];apply#[_,U,aL ?_];apply#[_,_,_,_,_,_,_,_,U,λc o e=>?_];have:=C7 _ _ (s6 _ _ e);exact j1 c o this (bq e X4)
 rintro σ H6 ⟨v4,v5,v6,v7,v8,v9,va,vb,rfl,s6⟩;exact k _ s6
end
end Ev
namespace L2
open PySem PySem.Spec PyProof.Rows
section
variable{M:Model}{A:Ag}{E:Aa->Ab->Prop}{s:Ab}
end
section
variable{X:Cx}{E:XK}
end
section v
section
variable{N:ae}{qual:Str}{scope:Scope}{f:Addr}{cd:Aa}{A:Ag}{outer:List Env}{s:Ab}{H:Hp}{E:XK}
end
end
end L2
namespace L2
open PySem PySem.Spec PySem.Calls PyProof.Rows PySem.W
section
variable{M:Model}{A:Ag}{E:Aa->Ab->Prop}{s:Ab}{base:Heap}{env:Env}{outer:List Env}{L e:Addr}{cls a0:Aa}{Q:Unit->Ab->Prop}
end
end L2
namespace L2
open PySem PySem.Spec PySem.Calls PyProof.Rows PySem.W
section
variable{prog:Ad}{w:Af}{A:Ag}{E:Aa->Ab->Prop}{h:Heap}{g:Array GenState}{d:Drawn}{t:Nat}{os:OsState}{nm q:Str}{C N f:Addr}{bs bm UX:ag}{LI:Bool}{sn:ae}{sub:ag}{ab:Bool}{col:Option Bool}{dd:Option Addr}{k0 k1 k2 k3 k5:Option Aa}{B newId zq:String}{K:aj}{rest:ag}
end
end L2
namespace L2
open PySem PySem.Spec PySem.Calls PyProof.Rows PySem.W Builtin Builtin.ObjectAttr
def Am(C CE:Addr):ag:=[.ref C,.ref CE,.type "ValueError",.type "Exception",.type "BaseException",.type "object"]
section
variable{prog:Ad}{w:Af}{A:Ag}{E:Aa->Ab->Prop}{s:Ab}{K:aj}{x C CE:Addr}{ox:Obj}{od:Option Obj}{name:Str}{tk:Tok}{v:Aa}{cd:ClassData}
end
end L2
namespace L2
open PySem PySem.Spec PySem.Calls PyProof.Rows PySem.W
section
variable{M:Model}{A:Ag}{E:Aa->Ab->Prop}{s:Ab}{env:Env}{nm q:Str}{C N:Addr}{bs bm:ag}{LI:Bool}{sn:ae}{sub:ag}{ab:Bool}{col:Option Bool}{dd:Option Addr}{k0 k1 k2 k3 k5:Option Aa}{newId:String}
end
end L2
namespace L2
open PySem PySem.Spec PySem.Calls PyProof.Rows PySem.W
def An(K:aj)(C:Addr)(UX:ag)(newId:String):Bool:=
 match K.lookup C with
 |some ⟨.type "type",_,.cls cd,sl⟩=>
  match cd.mro,sl.toList with
  |.ref C'::bm,[_,_,_,_,some (.builtin n),_]=>C' == C&&n == newId&&!cd.hasDel&&tailIn K UX bm&&nsOkIn K cd.ns
  |_,_=>false
 |_=>false
def NQ(K:aj)(C CE:Addr):Bool:=
 match clsIn K C with
 |some cd=>cd.mro == Am C CE&&cd.hasDict
 |none=>false
structure ExO (K:aj) (C CE:Addr):Prop where
 kx:Pi K C
 ex:An K C bmV "ValueError.__new__"=true
 es:findIn K (.ref C) "__setattr__"\some (.builtin "object.__setattr__")
 cl:NQ K C CE=true
structure ExF (K:aj) (C:Addr) (f:Str):Prop where
 tk:takerIn K C f\none
 fd:findIn K (.ref C) f\none
structure ExB (K:aj) (CE:Addr):Prop where
 sp:specialIn K (.ref CE) "__getattribute__"\some (.builtin "type.__getattribute__")
 rd:readsIn K CE (.type "type")=true
 fc:findCls K (.ref CE) (.type "type") "__init__"\.val (.builtin "ValueError.__init__")
section
variable{P:Ad}{w:Af}{H:Hp}{h:Heap}{e C a0 d:Addr}{dd:Option Addr}{fs:List (Str × V)}
end
section
variable{X:Cx}{C CE:Addr}{x f:Str}{p apos pos pos':Pos}{o e value:Expr}{es:List Expr}{ta tv:TE}{t:TA}
end
end L2
namespace L2
open PySem PySem.Spec PySem.Calls PyProof.Rows PySem.W
section
variable{X:Cx}{pins:List (Addr × Obj)}{σ:St}{H H':Hp}{s s1:Ab}{B h:Heap}{a:Addr}{cls a0:Aa}{dd:Option Addr}{E:XK}
end
section
variable{P:Ad}{w:Af}{K:aj}{mg:Str->Option Aa}{base:Heap}{N:ae}{qual:Str}{scope:Scope}{f:Addr}{cd:Aa}{A:Ag}{outer:List Env}{s:Ab}{H:Hp}{E:XK}
end
section
variable{X:Cx}{x:Str}{C f:Addr}{fd:Ae}{ps:ae}{sp:Sp}{k:Nat}{np bZ pos:Pos}{e:Expr}{es:List Expr}{t:TA}{E:XK}
end
end L2
namespace L2
open PySem PySem.Spec PySem.Calls PyProof.Rows PySem.W
section
variable{X:Cx}{i:Nat}{x n:Str}{D C:Addr}{np zA pos:Pos}{AG:Stmt}{qz body:List Stmt}{tb:XK->TS}{ts:TS}{rest:List ExceptHandler}
end
end L2
namespace L2
open PySem PySem.Spec PySem.Calls PyProof.Rows PySem.W
section
variable{P:Ad}{w:Af}{K:aj}{mg:Str->Option Aa}{base:Heap}{N:ae}{qual:Str}{scope:Scope}{f:Addr}{cd:Aa}{A:Ag}{outer:List Env}{s:Ab}{H:Hp}{E:XK}
end
section
variable{X:Cx}{i:Nat}{x x2 n:Str}{D C D2 C2:Addr}{np zA np2 Rm pos:Pos}{AG c₀:Stmt}{qz J2 body:List Stmt}{tb:XK->TS}{ts ts2:TS}
end
section
variable{X:Cx}
end
end L2
namespace L2
open PySem PySem.Spec PySem.Calls PyProof.Rows PySem.W
section
variable{X:Cx}{i:Nat}{x n:Str}{D:Addr}{ok:Addr->Prop}{np zA pos:Pos}{AG:Stmt}{qz body:List Stmt}{tb:XK->TS}{ts:TS}
end
end L2
namespace L2
open PySem PySem.Spec PySem.Calls PyProof.Rows PySem.W
end L2
namespace L2
open PySem PySem.Spec PyProof.Rows
section
variable{X:Cx}
end
section
variable{X:Cx}{k:Nat}{ps:ae}{x:Str}{p pos:Pos}{e:Expr}{es:List Expr}{tn:TE}{t:TA}
end
end L2
namespace L2
open PySem PySem.Spec PyProof.Rows PySem.W
structure ID (ps c_:ae) (scope:Scope):Prop where
 nd:(ps++c_).Nodup
 kind:scope.kind=.function
 co:scope.isCoroutine=false
 gen:scope.isGenerator=false
 par:∀p∈ps,scope.names.lookup p\.local
 fv:∀x∈c_,scope.names.lookup x\.free
 all:∀x,scope.names.lookup x\.free->x∈c_
 r6:∀x∈scope.names,x.2≠.cell
def BA(CX:kK)(P:Ad)(w:Af)(K:aj)(mg:Str->Option Aa)(base:Heap)(N:ae)(qual:Str)(scope:Scope)(f:Addr)(cd:Aa)(cl:List (Str × Addr))(A:Ag)(outer:List Env)(s:Ab)(H:Hp)(E:XK):Cx where
 prog:=P
 w:=w
 K:=K
 mg:=mg
 base:=base
 A:=A.deeper (envX qual scope s.heap.objs.size f cd cl)
 N:=N
 dc:=s
 jZ:=H
 env:=envX qual scope s.heap.objs.size f cd cl
 outer:=outer
 stack:=envX qual scope s.heap.objs.size f cd cl::outer
 ex:=[]
 calm:=true
 fn:=λ_=>false
 pn:=[]
 xe:=λe s'=>wpAny (model P w) (A.deeper (envX qual scope s.heap.objs.size f cd cl)) (leaving (envX qual scope s.heap.objs.size f cd cl) e) (λ_ pM=>CX outer H s E e pM) (λe' pM=>CX outer H s E e' pM) s'
theorem TJ{x:Str}{u:Aa}:∀{l:List (Str × Aa)},(l.map (·.1)).Nodup->(x,u)∈l->l.lookup x\u
 |(y,v)::l,nd,h=>by
  let n:=jq.mp nd;rcases bW.mp h with e|h
  ·cases e;simp[List.lookup]
  have ne:x≠y:=λz=>n.1 (by rw[<- z];exact bw.mpr #[_,h,U]);have:(x == y)=false:=⇑ne
  rw[qc,this];exact TJ n.2 h
theorem RY:∀(ps:ae) (us:ag),((ps.zip us).map (·.1)).Sublist ps
 |[],_=>by simp
 |_::_,[]=>by simp
 |p::ps,u::us=>by
  simp only[List.zip_cons_cons,eZ];exact (RY ps us).cons₂ p
theorem cX_{ps:ae}{us:ag}{i:Nat}{x:Str}{u:Aa}(nd:ps.Nodup)(h1:ps[i]? = some x)(h2:us[i]? = some u):(ps.zip us).reverse.lookup x\u:=by
 apply TJ ?_ (List.mem_reverse.mpr (cz (i:=i) ?_))
 ·rw[List.map_reverse];apply (List.reverse_perm _).nodup_iff.mpr (nd.sublist ?_);exact RY ps us
 rw[List.getElem?_zip_eq_some];exact#[h1,h2]
structure IC (c_:ae) (cl:List (Str × Addr)) (gs:ai) (h:Heap):Prop where
 inj:∀x y c,cl.lookup x\c->cl.lookup y\c->x=y
 has:∀x∈c_,∃c,cl.lookup x\c
 all:∀x c,cl.lookup x\c->∃v,h.IsCell c v
 is:∀(i:Nat) x v,c_[i]? = some x->gs[i]? = some v->∃c u,cl.lookup x\c/\RelV v u/\h.IsCell c (some u)
theorem IsCell.keeps{h h':Heap}{c:Addr}{v:Option Aa}(x:h.IsCell c v)(k:∀o,h.get? c\o->h'.get? c\o):h'.IsCell c v:=let #[o,e,d]:=x;#[o,k o e,d]
theorem Zc{CX:kK}{P:Ad}{w:Af}{K:aj}{mg:Str->Option Aa}{base:Heap}{ps c_:ae}{qual:Str}{scope:Scope}{f:Addr}{cd:Aa}{cl:List (Str × Addr)}{A:Ag}{outer:List Env}{s:Ab}{H:Hp}{E:XK}{us:ag}{vs gs:ai}{h1:Heap}{tk:Nat}
  (S:ID ps c_ scope) (hd:A.handled=none) (e0:iD P w K mg base A outer s H) (hl:vs.length=ps.length) (hg:gs.length=c_.length) (r:Vals vs us) (C:IC c_ cl gs s.heap) (fc:∀x c,cl.lookup x\c->H c=none)
  (ns:h1.Ns s.heap.objs.size λx=>(ps.zip us).reverse.lookup x) (k:∀b o,s.heap.get? b\o->h1.get? b\o) :
  Inv (BA CX P w K mg base (ps++c_) qual scope f cd cl A outer s H E) [] (vs.map some++gs.map some) H { s with heap:=h1,toks:=tk }:=by
 have vy:∀b:Addr,b∉(BA CX P w K mg base (ps++c_) qual scope f cd cl A outer s H E).ex:=λb z=>absurd (show b∈([]:ao) from z) Z2
 apply#[#[e0.mod,S.kind,U,U,bc _,C.inj,λy hy=>?_,λy c h=>(by cases h),λ_=>hd,Around.frames_deeper e0.frames,.inr #[U,U],λb z=>absurd z (vy b),e0.bs,e0.tL,λb _ _=>vy b,λb z=>absurd z (vy b),e0.f_,e0.vU],
  rfl,e0.bare,Un.kept k,#[_,ns,λi y v o9 h2 h3=>?_],λy c h=>?_,e0.ay.fresh (bc _),fc,λp hp=>absurd (show p∈([]:List (Addr × Obj)) from hp) Z2,e0.ay.kept k,?_]
 ·have hy:scope.names.lookup y\.cell∨scope.names.lookup y\.free:=hy;rcases hy with hy|hy
  ·exact absurd U (S.r6 _ (p9 hy))
  exact C.has y (S.all y hy)
 ·have o9:(ps++c_)[i]? = some y:=o9;by_cases hi:i<ps.length
  ·rw[wK hi] at o9;rw[wK (by simpa [hl] using hi),dF] at h2;let#[v',hv,e]:=B0.mp h2;cases e;let#[u,hu,rv]:=r.get hv;apply#[u,rv,.inl #[S.par y (cz o9),?_]];have GC:ps.Nodup:=(List.nodup_append.mp S.nd).1;show (ps.zip us).reverse.lookup y\u;exact cX_ GC o9 hu
  rw[yb Z1] at o9;rw[yb (by simp[hl];omega),dF,au,hl] at h2;let#[v',hv,e]:=B0.mp h2;cases e;let#[c,u,e1,rv,ce]:=C.is _ _ _ o9 hv;exact#[u,rv,.inr #[.inr (S.fv y (cz o9)),c,e1,IsCell.keeps ce λo e=>k _ _ e]]
 ·let#[v,ce]:=C.all y c h;exact#[v,IsCell.keeps ce λo e=>k _ _ e]
 show _=(ps++c_).length;rw[eM,eM,au,au,hl,hg]
theorem _y{CX:kK}{P:Ad}{w:Af}{K:aj}{mg:Str->Option Aa}{base:Heap}{k:Nat}{ps c_:ae}{qual:Str}{params:Arguments}{body:PySem.Expr}{scope:Scope}{f c':Addr}{pm kq:Aa}{cl:List (Str × Addr)}{A:Ag}{outer:List Env}{s:Ab}{H:Hp}{Q:VK}{E:XK}{us:ag}{vs gs:ai}{t:TE}
  (S:ID ps c_ scope) (hr:aP (k+1) A) (e0:iD P w K mg base A outer s H) (hf:s.heap.get? f\kla_obj "<lambda>" qual params body scope cl pm c' kq) (iw:s.heap.CodeRec (.ref c') qual)
  (hb:bindArgs (kla_fn "<lambda>" qual params body scope cl pm (.ref c') kq) #[us,[]]=pure (ps.zip us)) (hl:vs.length=ps.length) (hg:gs.length=c_.length) (r:Vals vs us) (C:IC c_ cl gs s.heap) (fc:∀x c,cl.lookup x\c->H c=none)
  (ht:aP k (A.deeper (envX qual scope s.heap.objs.size f (.ref c') cl))->PE (BA CX P w K mg base (ps++c_) qual scope f (.ref c') cl A outer s H E) body t) (hq:t (vs.map some++gs.map some) H Q) :
  codeAny (model P w) A (.call (.ref f) #[us,[]]) (CR CX outer P w H s Q E) s:=by
 have lim:s.heap.NoLimit:=e0.mod.nolimit.keeps λb o e=>(e0.bs b o e).1;apply kla_callFunE hr.depth hf U S.co S.gen U iw ?_;rw[hb];apply aC (wpAny_newFunctionEnv S.r6 (λx hx=>?_) (λh1 ns sb=>?_) S.kind)
 ·exact S.par x.1 (List.of_mem_zip hx).1
 have k1:∀b o,s.heap.get? b\o->h1.get? b\o:=λb o e=>sb.extBut b o (dC (bp e)) (aS _ e);apply#[lim.keeps k1,?_];show codeAny _ _ (.expr body (envX qual scope s.heap.objs.size f (.ref c') cl)) _ _;let I:=Zc (CX:=CX) (qual:=qual) (f:=f) (cd:=.ref c') (E:=E) (tk:=s.toks+(ps.zip us).length) S hr.hd e0 hl hg r C fc ns k1;apply kla_codeExpr (wpAny_mono (ht (hr.deeper _) [] _ _ H _ I hq) (λv s' hs=>?_) λe s' hs=>hs);let#[x,H',J,rv,q]:=hs;exact#[x,H',J.os,J.bare,J.base,J.ay,rv,q]
end L2
namespace L2
open PySem PySem.Spec PyProof.Rows PySem.W
def jE(f:Addr)(qual:Str)(params:Arguments)(body:PySem.Expr)(scope:Scope)(cl:List (Str × Addr))(c':Addr):HO:=.ext λh=>∃pm kq,h.get? f\kla_obj "<lambda>" qual params body scope cl pm c' kq
def Au(c':Addr)(qual:Str):HO:=.ext λh=>∃o vs t,h.get? c'\o/\o.data=.fields vs/\vs[1]? = some (.str qual t)
inductive wY (P:Addr) (qual:Str) (params:Arguments) (body:PySem.Expr) (scope:Scope) (pos:Pos) (cl:List (Str × Addr)) (H:Hp) (Q:VK):Prop
 |mk:∀ps,H P\.tbl ps->TriplesOk ps.toList->((codeAmong pos ps.toList=none/\∀c' f,H c'=none->H f=none->c'≠f->Q (.ref f) (upd (upd (upd H P (.tbl (ps++(List.toArray [rawInt pos.line,rawInt pos.col,.ref c'])))) c' (Au c' qual)) f (jE f qual params body scope cl c')))∨∃c',codeAmong pos ps.toList\.ref c'/\∀f,H f=none->Q (.ref f) (upd H f (jE f qual params body scope cl c')))->wY P qual params body scope pos cl H Q
def CC(P:Addr)(qual:Str)(params:Arguments)(body:PySem.Expr)(scope:Scope)(pos:Pos)(cl:List (Str × Addr)):TE:=λ_ H Q=>wY P qual params body scope pos cl H Q
theorem Zj{X:Cx}{params:Arguments}{body:PySem.Expr}{scope:Scope}{pos:Pos}{cl:List (Str × Addr)}{c P:Addr}(LH:defaultsOf params X.env=([],[]))(vQ:closureFor scope X.env=pure cl)(xK:X.env.code=.ref c)(C:CodeHd X.base c P)(xN:X.base.BuiltinsAt X.mg P) :
  PE X (.Lambda params body scope pos) (CC P (X.env.qual++"<lambda>") params body scope pos cl):=by
 intro pins s σ H Q I h;let#[ps,hP,ht,h]:=h;have RR:s.heap.get? P\tabObj ps:=I.ay P _ hP
 have RF:H mainGlobals=none:=by
  let#[o,_,_,e,_]:=I.mod.glob;exact (I.bs _ _ e).2
 apply kla_eval LH ?_;rcases h with⟨hn,q⟩|⟨c',hf,q⟩
 ·apply kla_makeFunction vQ I.ok.glob (I.mod.glob.keeps I.bk) xK (C.keeps I.bk) RR ht hn (λz=>by rw[z,hP] at RF;cases RF) (xN.keeps I.bk) λc' kq h' tk hx Lw dW K_ Rg=>?_;have fz:s.heap.objs.size<=h'.objs.size:=gm Lw (Nat.le_of_lt dW);have nc:H c'=none:=I.ay.fresh Lw;have nf:H h'.objs.size=none:=I.ay.fresh fz;have cf:c'≠h'.objs.size:=dC dW;have Pc:P≠c':=bq hP nc;have Pf:P≠h'.objs.size:=bq hP nf
  have old:∀{b u},H b\u->b≠P->upd (upd (upd H P (.tbl (ps++(List.toArray [rawInt pos.line,rawInt pos.col,.ref c'])))) c' (Au c' (X.env.qual++"<lambda>"))) h'.objs.size (jE h'.objs.size (X.env.qual++"<lambda>") params body scope cl c') b\u:=λ{b u} e n=>by
   rw[ax (bq e nf),ax (bq e nc),ax n];exact e
  have rV:∀{b u},H b\u->(∀ps,u≠.tbl ps)->b≠P:=λ{b u} e n z=>by
   rw[z,hP] at e;cases e;exact n _ U
  have kp:∀b o,b≠P->s.heap.get? b\o->(h'.push (kla_obj "<lambda>" (X.env.qual++"<lambda>") params body scope cl ((X.mg "__name__").getD .none) c' kq)).get? b\o:=λb o n e=>aS _ (hx b o n e);apply#[.ref h'.objs.size,_,I.un (t':=tk) #[λb o e n _ _=>kp b o (λz=>by rw[z,hP] at n;cases n) e,λb o e n _ _=>#[o.slots,kp b o (λz=>by rw[z,hP] at n;cases n) e],λb o e n _=>?_,λb o e _=>?_,λb xs e=>old e (rV e Z2),λb o u e=>old e (rV e Z2),λb qs e=>?_] (λb u e=>?_),U,q c' h'.objs.size nc nf cf]
  ·let lt:=bp e;rw[ax (dC (ja lt fz)),ax (dC (ja lt Lw)),ax (λz=>by rw[z,hP] at n;cases n)];exact n
  ·by_cases z:b=P
   ·subst z;exact#[_,aS _ Rg]
   exact#[o,kp b o z e]
  ·by_cases z:b=P
   ·subst z;rw[hP] at e;cases e;exact#[_,by rw[ax Pf,ax Pc,az]]
   exact#[#[],by rw[Array.append_empty];exact old e z]
  by_cases z1:b=h'.objs.size
  ·subst z1;rw[az] at e;cases e;exact#[#[_,_,cy _ U],#[_,cy _ U],λh1 h2 ⟨pm,cv,e1⟩ k=>#[pm,cv,k _ e1]]
  rw[ax z1] at e;by_cases z2:b=c'
  ·subst z2;rw[az] at e;cases e;let#[c2,oc,vs,t,ec,El,hd,hv]:=K_;cases ec;exact#[#[oc,vs,t,aS _ El,hd,hv],#[_,aS _ El],λh1 h2 ⟨o,vs,t,e1,r⟩ k=>#[o,vs,t,k _ e1,r]]
  rw[ax z2] at e;by_cases z3:b=P
  ·subst z3;rw[az] at e;cases e;exact aS _ Rg
  rw[ax z3] at e;apply (I.ay b u e).eS (λd v hd e1=>kp d v ?_ e1) (λd e1=>old e1 (rV e1 Z2)) λd xs e1=>old e1 (rV e1 Z2);rcases hd with rfl|hd
  ·exact z3
  exact rV hd Z2
 apply kla_makeFunctionHit vQ I.ok.glob (I.mod.glob.keeps I.bk) xK (C.keeps I.bk) RR ht hf (xN.keeps I.bk) λkq h' tk hk hsz=>?_;have nf:H h'.objs.size=none:=I.ay.fresh hsz;apply#[.ref h'.objs.size,_,I.laid (t':=tk) (λb o e=>aS _ (hk b o e)) hsz ?_,U,q _ nf];exact#[#[_,_,cy _ U],#[_,cy _ U],λh1 h2 ⟨pm,cv,e1⟩ k=>#[pm,cv,k _ e1]]
end L2
namespace L2
open PySem PySem.Spec PyProof.Rows PySem.W
theorem vq{P:Ad}{w:Af}{K:aj}{mg:Str->Option Aa}{base:Heap}{N:ae}{qual:Str}{scope:Scope}{f:Addr}{cd:Aa}{cl:List (Str × Addr)}{A:Ag}{outer:List Env}{s:Ab}{H:Hp}{E:XK}:wG a9 (BA a9 P w K mg base N qual scope f cd cl A outer s H E) E:=λ_ _ _ _ _ _ _ h=>h.elim
section
variable{cs:List (Addr × Obj)}{H H':Hp}{b:Addr}{o:Obj}{u:HO}
variable{P:Ad}{w:Af}{h:Heap}
end
section
variable{X:Cx}{pins:List (Addr × Obj)}{σ:St}{H:Hp}{s s':Ab}{cs:List (Addr × Obj)}
def jY(P:Ad)(w:Af)(K:aj)(mg:Str->Option Aa)(base:Heap)(k:Nat)(qual:Str)(params:Arguments)(body:PySem.Expr)(scope:Scope)(ps c_:ae)(sp:ai->ai->Hp->VK->XK->Prop):Prop:=
 ∀(A:Ag) (outer:List Env) (s:Ab) (H:Hp) (f c':Addr) (pm kq:Aa) (cl:List (Str × Addr)) (us:ag) (vs gs:ai) (Q:VK) (E:XK),aP k A->iD P w K mg base A outer s H->s.heap.get? f\kla_obj "<lambda>" qual params body scope cl pm c' kq->s.heap.CodeRec (.ref c') qual->
  vs.length=ps.length->gs.length=c_.length->Vals vs us->IC c_ cl gs s.heap->(∀x c,cl.lookup x\c->H c=none)->sp vs gs H Q E->codeAny (model P w) A (.call (.ref f) #[us,[]]) (CR a9 outer P w H s Q E) s
theorem DT{P:Ad}{w:Af}{K:aj}{mg:Str->Option Aa}{base:Heap}{k:Nat}{qual:Str}{params:Arguments}{body:PySem.Expr}{scope:Scope}{ps c_:ae}{sp:ai->ai->Hp->VK->XK->Prop}(S:ID ps c_ scope)
  (hb:∀pm c' kq cl us,us.length=ps.length->bindArgs (kla_fn "<lambda>" qual params body scope cl pm (.ref c') kq) #[us,[]]=pure (ps.zip us))
  (fX:∀(A:Ag) (outer:List Env) (s:Ab) (H:Hp) (f:Addr) (cd:Aa) (cl:List (Str × Addr)) (vs gs:ai) (Q:VK) (E:XK),aP k (A.deeper (envX qual scope s.heap.objs.size f cd cl))->sp vs gs H Q E->wG a9 (BA a9 P w K mg base (ps++c_) qual scope f cd cl A outer s H E) E->
   ∃t,PE (BA a9 P w K mg base (ps++c_) qual scope f cd cl A outer s H E) body t/\t (vs.map some++gs.map some) H Q):!jY (k+1) qual params body scope ps c_ sp:=by
 intro A outer s H f c' pm kq cl us vs gs Q E hr e0 hf iw hl hg r C fc ki;let#[t,ht,hq]:=fX A outer s H f (.ref c') cl vs gs Q E (hr.deeper _) ki vq;exact _y S hr e0 hf iw (hb pm c' kq cl us (by rw[<- r.length];exact hl)) hl hg r C fc (λ_=>ht) hq
end
end L2
namespace L2
open PySem PySem.Spec PyProof.Rows PySem.W
structure Jr (c_:ae) (cl:List (Str × Addr)) (cs:List (Addr × Obj)) (gs:ai):Prop where
 len:gs.length=c_.length
 inj:∀x y c,cl.lookup x\c->cl.lookup y\c->x=y
 has:∀x∈c_,∃c,cl.lookup x\c
 all:∀x c,cl.lookup x\c->∃o v,cs.lookup c\o/\o.data=.cell v
 is:∀(i:Nat) x v,c_[i]? = some x->gs[i]? = some v->∃c o u,cl.lookup x\c/\cs.lookup c\o/\o.data=.cell (some u)/\RelV v u
section
variable{X:Cx}{k:Nat}{x:Str}{p pos:Pos}{tn:TE}{qual:Str}{params:Arguments}{body:PySem.Expr}{scope:Scope}{c_ ps:ae}{A9:ai->ai->Hp->VK->XK->Prop}{E:XK}
end
section
variable{X:Cx}{k:Nat}{x:Str}{p pos:Pos}{e:PySem.Expr}{es:List PySem.Expr}{ta:TA}{c_ ps:ae}{sp:Sp}{f:Addr}{fd:Ae}{cl:List (Str × Addr)}{is:List Nat}
end
end L2
namespace L2
open PySem PySem.Spec PyProof.Rows PySem.W
theorem hc_{P:Ad}{w:Af}{K:aj}{mg mb:Str->Option Aa}{CX:kK}{k:Nat}{fa a:Addr}{ts:ao}{fd:Ae}{x:Str}{sp:Sp}{aK:Ab}{vs:ag}{ns:List Int}
  (hT:∀T∈ts,K.lookup T=none) (eT:∀T∈ts,aK.heap.get? T\tabObj #[]) (EI:∀T∈ts,isCodeTable aK.heap T)
  (KX:K.In aK.heap) (zF:aK.heap.Ns mainGlobals mg) (hb:aK.heap.Ns builtinsNs mb) (hbb:∀x:Str,x≠"__name__"->mb x=bootBuiltins x) (Lo:aK.heap.NoLimit) (hg:aK.gens=#[])
  (ha:aK.heap.get? a=some { cls:=.type "list",data:=.seq vs.toArray }) (hi:IntsAre vs ns) (hl:ns.length<=sizeLine) (hr:aP k callerA)
  (xN:∃bm ob,mg "__builtins__"\.ref bm/\bm≠builtinsNs/\aK.heap.get? bm\ob/\ob.cls=.type "module"/\ob.dict\builtinsNs/\ob.data=.plain)
  (F:∀base:Heap,K.In base->base.Ns mainGlobals mg->(∀T∈ts,base.BuiltinsAt mg T)->!aq CX k fa fd [x] sp) (EK:∀(s:Ab) (u:Aa),BindsTo s fd #[[u],[]] [(x,u)])
  (ki:∀H:Hp,(∀T∈ts,H T\.tbl #[])->dZ K H a (ns.map V.int)->sp [.ref a] H (λv _=>v=.bl true) λ_ _ _=>False)
  (L4:∀H e s',CX [] H aK (λ_ _ _=>False) e s'->False) :
  codeAny (model P w) callerA (.call (.ref fa) #[[.ref a],[]]) (λr s'=>r=.ok (.ret (.bool true))/\OldK aK.heap s'.heap/\s'.os=aK.os/\AllBare s'.gens) aK:=by
 let rv:=TC hi;let KM:=hi.length
 have aT:∀{b},b∈ts->b≠a:=λ{b} hb z=>by
  have:=eT b hb;rw[z,ha] at this;cases this
 have core:∀H:Hp,(∀b,H b=none∨(b∈ts/\H b\.tbl #[])∨(b∉ts/\∃o xs,H b\.frz o (.lst xs)))->(∀T∈ts,H T\.tbl #[])->dZ K H a (ns.map V.int)->fU P w H aK.heap->(∀b,H b≠none->b=a∨b∈ts)->(H a≠none->K.lookup a=none)->
   codeAny (model P w) callerA (.call (.ref fa) #[[.ref a],[]]) (λr s'=>r=.ok (.ret (.bool true))/\OldK aK.heap s'.heap/\s'.os=aK.os/\AllBare s'.gens) aK:=by
  intro H hO hHT hS ay hA hK;have i9:∀{b:Addr} {o:Obj},aK.heap.get? b\o->H b=none->(iu aK.heap H).get? b\o:=λe n=>_A e n
  have vy:∀{b:Addr} {o:Obj} {es:Array DictEntry} {ep:Nat},aK.heap.get? b\o->o.data=.dict es ep->H b=none:=λ{b o es ep} e d=>by
   cases q:H b with
   |none=>rfl
   |some u=>
    rcases hA b (by rw[q];simp) with e'|e'
    ·subst e';rw[ha] at e;cases e;have d':Data.seq vs.toArray _=Data.dict es ep:=d;cases d'
    rw[eT b e'] at e;cases e;cases d
  have Gz:∀{b:Addr} {m:Str->Option Aa},aK.heap.Ns b m->(iu aK.heap H).Ns b m:=λ{b m} ⟨o,es,ep,e,d,r⟩=>#[o,es,ep,i9 e (vy e d),d,r]
  have RV:K.In (iu aK.heap H):=λb o e=>i9 (KX b o e) (by
   cases q:H b with
   |none=>rfl
   |some u=>
    rcases hA b (by rw[q];simp) with e'|e'
    ·subst e';rw[hK (by rw[q];simp)] at e;cases e
    rw[hT b e'] at e;cases e)
  have hB:∀T∈ts,(iu aK.heap H).BuiltinsAt mg T:=λT LS=>by
   let#[bm,ob,h1,h2,h3,h4,h5,h6]:=xN
   have n1:bm≠mainGlobals:=λz=>by
    let#[o,es,ep,e,d,_]:=zF;rw[z,e] at h3;cases h3;rw[d] at h6;cases h6
   have n2:∀{b},b∈ts->bm≠b:=λ{b} hb z=>by
    rw[z,eT b hb] at h3;cases h3;cases h6
   apply#[bm,ob,h1,h2,n1,n2 LS,i9 h3 ?_,h4,h5,h6];cases q:H bm with
   |none=>rfl
   |some u=>
    rcases hA bm (by rw[q];simp) with e'|e'
    ·subst e';rw[ha] at h3;cases h3;cases h6
    exact absurd U (n2 e')
  have hM:Mod K mg (iu aK.heap H):=#[RV,Gz zF,#[mb,Gz hb,hbb],let #[mc,h1,h2]:=Lo;#[mc,Gz h1,h2]];have e0:iD P w K mg (iu aK.heap H) callerA [] aK H:=#[U,hM,λb o e=>Zv e,Nat.le_of_eq (gQ_ _ _),trivial,λb hb=>absurd (show b∈([]:ao) from hb) Z2,ay,.of_eq hg];apply codeAny_mono ((F _ RV (Gz zF) hB).run callerA [] aK H #[[.ref a],[]] [.ref a] [.ref a] _ _ hr e0 (EK aK (.ref a)) (.cons U .nil) (ki H hHT hS)) λr s' h=>?_;cases r with
  |error e=>exact (L4 H e s' h).elim
  |ok fl=>
   cases fl with
   |next=>exact False.elim h
   |brk=>exact False.elim h
   |cont=>exact False.elim h
   |ret u=>
    let#[v,H',os,bare,un,Ej,r',q]:=h;have q':v=.bl true:=q;subst q';obtain rfl:u=Value.bool true:=r'
    have main:∀b o,aK.heap.get? b\o->s'.heap.get? b\o∨(b∈ts/\o=tabObj #[]/\∃more,s'.heap.get? b\tabObj (#[]++more)):=λb o e=>by
     cases q:H b with
     |none=>exact .inl (un.keep b o e q (by intro z;exact absurd (show b∈([]:ao) from z) Z2) Z2)
     |some u=>
      rcases hO b with z|⟨zT,z⟩|⟨_,ob,xs,z⟩
      ·rw[q] at z;cases z
      ·rw[eT b zT] at e;cases e;let#[more,z]:=un.ik b _ z;exact .inr #[zT,U,more,Ej b _ z]
      let z2:=un.hJ b ob _ z;let#[e1,_]:=ay b _ z;let#[e2,_]:=Ej b _ z2;rw[e] at e1;cases e1;exact .inl e2
    apply#[U,#[λb o e=>?_,λb o e=>?_],os,bare]
    ·rcases main b o e with z|⟨zT,rfl,more,z⟩
     ·exact .inl z
     exact .inr (.inl #[EI b zT,U,_,_,U,z])
    rcases main b o e with z|⟨_,_,more,z⟩
    ·exact#[_,z]
    exact#[_,z]
 cases hk:K.lookup a with
 |some o=>
  let e:=KX a o hk;rw[ha] at e;cases e;apply core (λb=>if b∈ts then some (.tbl #[]) else none) (λb=>?_) (λT h=>aJ h) (.inr #[_,vs.toArray,_,hk,U,U,U,by rw[cQ,KM];exact hl,by simpa using rv]) (λb u z=>?_) (λb z=>?_) λz=>absurd (aB λq=>aT q U) z
  ·by_cases hb:b∈ts
   ·exact .inr (.inl #[hb,aJ hb])
   exact .inl (aB hb)
  ·by_cases hb:b∈ts
   ·let z':=(aJ hb).symm.trans z;cases z';exact eT b hb
   let z':=(aB hb).symm.trans z;cases z'
  ·by_cases hb:b∈ts
   ·exact .inr hb
   ·exact absurd (aB hb) z
 |none=>
  have T2:∀{b:Addr},b∈ts->(λb=>if b∈ts then some (.tbl #[]) else if b=a then some (HO.frz { cls:=.type "list",data:=.seq vs.toArray } (.lst (ns.map V.int))) else none) b\.tbl #[]:=λ{b} hb=>aJ hb;apply core (λb=>if b∈ts then some (.tbl #[]) else if b=a then some (.frz { cls:=.type "list",data:=.seq vs.toArray } (.lst (ns.map V.int))) else none) (λb=>?_) (λT h=>aJ h) (.inl (.inr #[{ cls:=.type "list",data:=.seq vs.toArray },(aB λq=>aT q U).trans (aJ U)])) (λb u z=>?_) (λb z=>?_) λ_=>hk
  ·by_cases md:b∈ts
   ·exact .inr (.inl #[md,aJ md])
   by_cases hb:b=a
   ·exact .inr (.inr #[md,_,_,(aB md).trans (aJ hb)])
   exact .inl ((aB md).trans (aB hb))
  ·by_cases md:b∈ts
   ·let z':=(aJ md).symm.trans z;cases z';exact eT b md
   by_cases hb:b=a
   ·let z':=((aB md).trans (aJ hb)).symm.trans z;cases z';subst hb;exact#[ha,by rw[au];exact hl,vs,_,rv,ha]
   let z':=((aB md).trans (aB hb)).symm.trans z;cases z'
  by_cases md:b∈ts
  ·exact .inr md
  by_cases hb:b=a
  ·exact .inl hb
  exact absurd ((aB md).trans (aB hb)) z
theorem fp_{K:aj}{T:Addr}(h:T∉K.map (·.1)):K.lookup T=none:=by
 induction K with
 |nil=>rfl
 |cons p K ih=>
  let#[b,o]:=p;simp only[eZ,bW,not_or] at h;rw[qc,show (T == b)=false by simpa using h.1];exact ih h.2
theorem qi{l:PySem.W.OpenLaw}{n k:Nat}{q:Ad}{loose:ae}{XP:(Str->Option Aa)->Heap->Prop}{d:DefRec}{K:Params->aj}{as ts:ao}{Hy:∀P:Params,as=(K P).map (·.1)}{CX:Af->kK}{sp:Af->Sp}{x:Str}
  (hn:l.most\n) (xE:n<=sizeLine) (EH:d.params.defaults=[]) (hr:aP k callerA)
  (K7:(ts.all λT=>!as.contains T)=true)
  (F:∀(w:Af) (mg:Str->Option Aa) (fa:Addr) (h:Heap),(K w.params).In h->h.Ns mainGlobals mg->mg d.name\.ref fa->
   ∃fd:Ae,(∀(s:Ab) (u:Aa),BindsTo s fd #[[u],[]] [(x,u)])/\(∀T∈ts,isCodeTable h T) /\
    ∀base:Heap,(K w.params).In base->base.Ns mainGlobals mg->(∀T∈ts,base.BuiltinsAt mg T)->aq l.prog w (K w.params) mg base (CX w) k fa fd [x] (sp w))
  (ki:∀(w:Af) (H:Hp) (a:Addr) (ns:List Int),ns.length<=n->(∀T∈ts,H T\.tbl #[])->dZ (K w.params) H a (ns.map V.int)->sp w [.ref a] H (λv _=>v=.bl true) λ_ _ _=>False)
  (L4:∀(w:Af) (H:Hp) (s:Ab) (e:Aa) (s':Ab),CX w [] H s (λ_ _ _=>False) e s'->False) :
  PySem.W.WalkO q loose XP (kmHook K as Hy ts).says l.row.toRowW d [] (λf vs=>PySem.call f vs):=by
 apply U_.jS hn EH λw dc aK mg mb fa o pm cd doc a vs ns G Y ho hd iw hmg zD hints hlen hg=>?_;have KX:(K w.params).In aK.heap:=km_in_of Y;have eT:∀T∈ts,aK.heap.get? T\tabObj #[]:=Y.2;let#[fd,hb,EI,hF]:=F w mg fa _ KX G.T.g hmg;apply hc_ (λT h=>fp_ ?_) eT EI KX G.T.g G.T.b G.T.builtins G.T.nolimit hg zD hints (gm hlen xE) hr G.T.bmain hF hb (λH hO hS=>ki w H a ns hlen hO hS) λH e s'=>L4 w H aK e s';have:=List.all_eq_true.mp K7 T h;rw[<- Hy w.params];simpa using this
end L2
namespace L2
open PySem PySem.Spec PyProof.Rows
section
variable{X:Cx}
end
open PySem.W in
def mB:List (Pos × Addr)->ag
 |[]=>[]
 |(p,c)::es=>rawInt p.line::rawInt p.col::.ref c::mB es
def mC(H:Hp)(T:Addr)(qual:Str):Prop:=∃es:List (Pos × Addr),H T\.tbl (mB es).toArray/\∀e∈es,H e.2\Au e.2 qual
theorem mC.same{H H':Hp}{T:Addr}{qual:Str}(s:aa H H')(h:mC H T qual):mC H' T qual:=by
 let#[es,a,b]:=h;exact#[es,s _ _ a,λe he=>s _ _ (b e he)]
theorem SN:∀es:List (Pos × Addr),TriplesOk (mB es)
 |[]=>trivial
 |(p,c)::es=>by
  have:=SN es;simp[mB,TriplesOk,rawInt,this]
theorem T9:∀(es:List (Pos × Addr)) (p:Pos) (c:Addr),mB (es++[(p,c)])=mB es++[rawInt p.line,rawInt p.col,.ref c]
 |[],p,c=>rfl
 |(p',c')::es,p,c=>by
  show rawInt p'.line::rawInt p'.col::.ref c'::mB (es++[(p,c)])=_;rw[T9 es p c];rfl
theorem UV(pos:Pos):∀es:List (Pos × Addr),codeAmong pos (mB es)=none∨∃e∈es,codeAmong pos (mB es)\.ref e.2
 |[]=>.inl U
 |(p,c)::es=>by
  by_cases h:codeAmong pos (mB ((p,c)::es))\.ref c
  ·exact .inr #[(p,c),gB,h]
  have e:codeAmong pos (mB ((p,c)::es))=codeAmong pos (mB es):=by
   show codeAmong pos (rawInt p.line::rawInt p.col::.ref c::mB es)=_;have h:¬codeAmong pos (rawInt p.line::rawInt p.col::.ref c::mB es)=some (.ref c):=h;simp only[codeAmong,rawInt] at h ⊢;split at h
   ·exact absurd U h
   rename_i q
   rw[aB q]
  rcases UV pos es with q|⟨x,hx,q⟩
  ·exact .inl (e.trans q)
  exact .inr #[x,fN _ hx,e.trans q]
end L2
namespace L2
open PySem PySem.Spec PyProof.Rows PySem.W kJ
section
variable{X:Cx}{pins:List (Addr × Obj)}{σ:St}{H:Hp}{s:Ab}
theorem Inv.yq{h':Heap}{t':Nat}{fp:ao}{T:Addr}{ys:ai}{its:ag}{n:Nat}(I:Inv X pins σ H s)(k:∀b o,b∉fp->s.heap.get? b\o->h'.get? b\o)(hf:∀b∈fp,dk X pins H b)
  (hT:T∈fp) (hz:ys.length<=sizeLine) (r:Vals ys its) (ht:h'.get? T=some { cls:=.type "list",data:=.seq its.toArray n }):Inv X pins σ (upd H T (.lst ys)) { s with heap:=h',toks:=t' }:=by
 have fT:H T=none:=(hf T hT).1;have nf:∀b u,H b\u->b∉fp:=λb u e hb=>by rw[(hf b hb).1] at e;cases e
 have old:∀{b u},H b\u->upd H T (.lst ys) b\u:=λe=>by rw[ax (bq e fT)];exact e
 apply I.step (g':=s.gens) (d':=s.drawn) (ch:=fp) (λb hb=>?_) (λb o _ _ hc e _=>k b o hc e) (λb o _ _ hc e _=>#[o.slots,k b o hc e]) (λb o hc e n=>?_)
  (λb o hc e=>#[o,k b o hc e]) (λb ys e=>old e) (λb o u e=>old e) (λb ps e=>#[#[],by rw[Array.append_empty];exact old e]) (λm hm=>?_) (λb u e=>?_) I.bare
 ·let#[f0,f1,f2,f3,f4,f5]:=hf b hb;exact#[f3,f1,f4,f5]
 ·rw[ax (λz=>hc (by rw[z];exact hT))];exact n
 ·let#[o,es,ep,ho,r]:=hm;exact#[o,es,ep,k _ o (λhb=>(hf _ hb).2.1 U) ho,r]
 by_cases z:b=T
 ·subst z;rw[az] at e;cases e;exact#[hz,its,n,r,ht]
 rw[ax z] at e;apply (I.ay b u e).eS (λc v hc q=>k c v ?_ q) (λ_ q=>old q) λ_ _ q=>old q;rcases hc with z|z
 ·rw[z];exact nf b u e
 exact nf c _ z
theorem dk.at{H':Hp}{b:Addr}(f:dk X pins H b)(n:H' b=none):dk X pins H' b:=#[n,f.2]
end
section
variable{X:Cx}{pins:List (Addr × Obj)}{σ:St}{H:Hp}{s:Ab}{B:Ag}
theorem YV{xs zs:ai}{kf:V->av}{p:Array Nat}(g:Good xs.length p)(up:Up (λi j=>bH ((xs.map kf).getD i []) ((xs.map kf).getD j [])) p xs.length)(ez:zs=p.toList.map λi=>xs.getD i .non):zs.Perm xs/\zs.map kf=a_ (xs.map kf):=by
 have gk:Good (xs.map kf).length p:=by rw[au];exact g
 let asc:=ML (ks:=xs.map kf) (λi j _ _=>rfl) gk (by rw[au];exact up)
 have perm:(p.toList.map λi=>(xs.map kf).getD i []).Perm (xs.map kf):=by
  have:=FU gk λi=>(xs.map kf).getD i [];rwa [FV] at this
 let es:=N3 perm asc;apply#[?_,?_]
 ·have:=FU (n:=xs.length) g λi=>xs.getD i .non;rw[FV] at this;rw[ez];exact this
 rw[<- es,ez,cY];apply uP λi hi=>?_;have m:i∈(List.range xs.length).toArray:=g.mem_iff.mp ⇑hi;have m:i<xs.length:=⇑m
 show kf (xs.getD i .non)=(xs.map kf).getD i [];simp[List.getD,m]
end
end L2
namespace L2
open PySem PySem.Spec PyProof.Rows PySem.W kJ
section
variable{X:Cx}{pins:List (Addr × Obj)}{σ:St}{H:Hp}{s:Ab}
theorem Inv.tw{c_:ae}{cl:List (Str × Addr)}{is:List Nat}{gs:ai}(I:Inv X pins σ H s)(l7:∀q∈cl,X.env.cells.lookup q.1\q.2)(vQ:∀x∈c_,∃c,cl.lookup x\c)(Ez:∀x∈c_,X.env.scope.names.lookup x\.cell)(hN:is.map (λi=>X.N[i]?)=c_.map some)
  (Bm:is.map (λi=>σ[i]?)=gs.map (λv=>some (some v))):gs.length=c_.length/\IC c_ cl gs s.heap/\∀x c,cl.lookup x\c->H c=none:=by
 have lk:∀{x c},cl.lookup x\c->(x,c)∈cl:=λe=>p9 e;apply#[?_,#[λa b c h1 h2=>I.ok.inj a b c (l7 _ (lk h1)) (l7 _ (lk h2)),vQ,λa c h1=>I.cell a c (l7 _ (lk h1)),λj a v h1 h2=>?_],λx c e=>I.eg x c (l7 _ (lk e))]
 ·let a:=eG List.length Bm;let b:=eG List.length hN;simp only[au] at a b;omega
 let#[c,hc]:=vQ a (cz h1);have e1:(is.map λi=>X.N[i]?)[j]? = some (some a):=by rw[hN,dF,h1];rfl
 have e2:(is.map λi=>σ[i]?)[j]? = some (some (some v)):=by rw[Bm,dF,h2];rfl
 rw[dF] at e1 e2;let#[i,hi,e1]:=B0.mp e1;rw[hi] at e2;have e2:σ[i]? = some (some v):=cu e2;let#[m,_,hl]:=I.loc;let kd:=Ez a (cz h1);let#[u,ru,lo]:=hl i a v e1 e2 (.inr (.inl kd));rcases lo with⟨z,_⟩|⟨_,c2,e3,o,e4,e5⟩
 ·have z:X.env.scope.names.lookup a\.local:=z;rw[kd] at z;cases z
 rw[l7 _ (lk hc)] at e3;cases e3;exact#[c,u,hc,ru,o,e4,e5]
end
def O_(K:aj)(H:Hp)(x:V)(xs:ai):Prop:=(∃l,x=.ref l/\dZ K H l xs)∨∃d kvs,x=.ref d/\H d\.dK kvs/\xs=kvs.map λkv=>kV kv.1
end L2
namespace L2
open PySem PySem.Spec PyProof.Rows PySem.W kJ
theorem ga_{xs zs:ai}{kf:V->Str}(h:(zs.map λx=>bM (kf x))=a_ (xs.map λx=>bM (kf x))):zs.map kf=iA (xs.map kf):=by
 apply SI ?_;rw[Oy,cY,cY];exact h
theorem fk_{prog:Ad}{w:Af}{A:Ag}{s:Ab}{xs:ai}{kf:V->Str}{vs:ag}(r:StrsAre vs (xs.map kf))(h2:2<=vs.length):t_ prog w A (λi j=>bH ((xs.map λx=>bM (kf x)).getD i []) ((xs.map λx=>bM (kf x)).getD j [])) vs s:=by
 have:=Ui (prog:=prog) (w:=w) (A:=A) (s:=s) r h2;rw[cY] at this;exact this
section
variable{X:Cx}{pins:List (Addr × Obj)}{σ:St}{H:Hp}{s:Ab}
def Hs(X:Cx)(σ:St)(B:Ag)(fv:Aa)(H0:Hp)(kf:V->Str)(xs:ai):Prop:=
 ∀(pins:List (Addr × Obj)) (H:Hp) (s:Ab) (x:V) (u:Aa),Inv X pins σ H s->aa H0 H->x∈xs->RelV x u->
  wpAny (model X.prog X.w) B (call fv [u]) (EP X pins σ λv H'=>aa H H'/\v=.str (kf x)) (λ_ _=>False) s
theorem ZZ{B:Ag}{fv:Aa}{a kS:Addr}{e1:Nat}{H0:Hp}{kf:V->Str}{all:ai}{Q:PUnit->Ab->Prop}{E:Aa->Ab->Prop}{body:Aa->PUnit->Sem (ForInStep PUnit)}(l5:a≠kS)(jK:Hs X σ B fv H0 kf all)
  (hb:∀(u:Aa) (s:Ab) (Qb:ForInStep PUnit->Ab->Prop),wpAny (model X.prog X.w) B (call fv [u]) (λk s'=>wpAny (model X.prog X.w) B (Builtin.List.listUpdate (.ref kS) (·.push k)) (λ_ pM=>Qb (.yield ⟨⟩) pM) E s') (λ_ _=>False) s->wpAny (model X.prog X.w) B (body u ⟨⟩) Qb E s) :
  ∀(xs:ai) (us:ag) (ks:ai) (kvs:ag) (kk:ae) (H:Hp) (s:Ab) (c:Nat),Vals xs us->(∀x∈xs,x∈all)->Inv X pins σ H s->aa H0 H->dk X pins H a->dk X pins H kS->s.heap.get? a\seqObj "list" #[] e1->s.heap.get? kS\seqObj "list" kvs.toArray c->
   Vals ks kvs->ks=kk.map V.str->kvs.length+us.length<64->
   (∀H' s' fL c',Inv X pins σ H' s'->aa H0 H'->dk X pins H' a->dk X pins H' kS->s'.heap.get? a\seqObj "list" #[] e1->s'.heap.get? kS\seqObj "list" fL.toArray c'->fL.length=kvs.length+us.length->(∃iS,Vals iS fL/\iS=(kk++xs.map kf).map V.str)->Q ⟨⟩ s')->
   wpAny (model X.prog X.w) B (forIn us PUnit.unit body) Q E s:=by
 intro xs
 induction xs with
 |nil=>
  intro us ks kvs kk H s c rv _ I sm fa fk ha hk r t _ q;cases rv;rw[uS];exact aC (q H s kvs c I sm fa fk ha hk Z2 #[ks,r,by simpa using t])
 |cons x xs ih=>
  intro us ks kvs kk H s c rv hx I sm fa fk ha hk r t hz q
  obtain⟨u,us,rfl,ru,rr⟩:∃u Pw,us=u::Pw/\RelV x u/\Vals xs Pw:=by
   cases rv with
   |cons h t=>exact#[_,_,U,h,t]
  rw[qb];rw[jr] at hz;apply af (hb u s _ ?_)
  have hf:∀b∈[a,kS],dk X pins H b:=λb hb=>by
   rcases bW.mp hb with rfl|hb
   ·exact fa
   obtain rfl:b=kS:=⇑hb
   exact fk
  let I1:=I.pinned (fp:=[a,kS]) hf (λb hb=>by
   rcases bW.mp hb with rfl|hb
   ·exact#[_,ha,λv z=>by cases z]
   obtain rfl:b=kS:=⇑hb
   exact#[_,hk,λv z=>by cases z])
  apply wpAny_mono (jK _ H s x u I1 sm (hx x gB) ru) (λk s1 ⟨v,H1,J,rv,Wu,ev⟩=>?_) λ_ _ z=>z
  have pa:(a,seqObj "list" #[] e1)∈wI [a,kS] s.heap:=by
   unfold wI;exact yg.mpr #[a,by simp,by rw[ha];rfl]
  have pk:(kS,seqObj "list" kvs.toArray c)∈wI [a,kS] s.heap:=by
   unfold wI;exact yg.mpr #[kS,by simp,by rw[hk];rfl]
  let#[EU,Xw,_]:=J.pin _ (mP _ (mP _ pa));let#[G0,Xt,_]:=J.pin _ (mP _ (mP _ pk));have EU:s1.heap.get? a\seqObj "list" #[] e1:=EU;have G0:s1.heap.get? kS\seqObj "list" kvs.toArray c:=G0;let J0:=J.eR;let fa1:=fa.at (H':=H1) Xw;let SH:=fk.at (H':=H1) Xt;have GL:kvs.length<64:=by omega
  apply listUpdate_at G0 U ?_ (by rw[cQ,cU];omega) (gm (Nat.le_of_eq (Array.size_push ..)) (by rw[cQ,cU];omega));have iG:∀b o,b∉[kS]->s1.heap.get? b\o->(s1.heap.update kS (Obj.mapSeq (·.push k))).get? b\o:=λb o hb e=>(p_ _ _ (λz=>hb (by simp[z]))).trans e;have ea:kvs.toArray.push k=(kvs++[k]).toArray:=by simp
  obtain⟨c2,ko⟩:∃c2,(s1.heap.update kS (Obj.mapSeq (·.push k))).get? kS\seqObj "list" (kvs++[k]).toArray c2:=#[_,by rw[<- ea];exact get?_update_seq G0 (·.push k)]
  have I2:Inv X pins σ H1 { s1 with heap:=s1.heap.update kS (Obj.mapSeq (·.push k)) }:=J0.gT (t':=s1.toks) (fp:=[kS]) iG (λb hb=>by
   obtain rfl:b=kS:=⇑hb
   exact SH)
  subst ev;apply ih us (ks++[.str (kf x)]) (kvs++[k]) (kk++[kf x]) H1 _ c2 rr (λy hy=>hx y (fN _ hy)) I2 (sm.trans Wu) fa1 SH ?_ ko (r.append (.cons rv .nil)) ?_ (by rw[eM,js];omega) λH' s' fL c' a1 a2 a3 a4 a5 a6 a7 a8=>?_
  ·exact iG a _ ⇑l5 EU
  ·rw[fg,<- t];rfl
  apply q H' s' fL c' a1 a2 a3 a4 a5 a6 (by rw[a7,eM,js,jr];omega) ?_;let#[iS,b1,b2]:=a8;exact#[iS,b1,by simpa using b2]
end
section
variable{X:Cx}{pins:List (Addr × Obj)}{σ:St}{H:Hp}{s:Ab}{B:Ag}
theorem fS_{f a:Addr}{xs:ai}{us:ag}{n:Nat}{P:PySem.Fin->Ab->Prop}{E:Aa->Ab->Prop}{kf:V->Str}(I:Inv X pins σ H s)(fa:dk X pins H a)(ho:s.heap.get? a\seqObj "list" us.toArray n)(r:Vals xs us)(cX:us.length<64)(jK:Hs X σ B (.ref f) H kf xs)
  (h:∀zs H' s',Inv X pins σ (upd H' a (.lst zs)) s'->aa H H'->H' a=none->zs.Perm xs->zs.map kf=iA (xs.map kf)->P (.done (.ret .none)) s'):wpAny (model X.prog X.w) B (ksk_tree a (.ref f) false) P E s:=by
 let lx:=r.length;obtain⟨e1,uk⟩:∃e1,(s.heap.update a (Obj.mapSeq λ_=>(#[]:Array Aa))).get? a\seqObj "list" #[] e1:=#[_,get?_update_seq ho λ_=>#[]];have iG:∀b o,b∉[a]->s.heap.get? b\o->(s.heap.update a (Obj.mapSeq λ_=>(#[]:Array Aa))).get? b\o:=λb o hb e=>(p_ _ _ (λz=>hb (by simp[z]))).trans e
 have I1:Inv X pins σ H { s with heap:=s.heap.update a (Obj.mapSeq λ_=>(#[]:Array Aa)) }:=I.gT (t':=s.toks) (fp:=[a]) iG (λb hb=>by
  obtain rfl:b=a:=⇑hb
  exact fa)
 unfold ksk_tree;apply af (listItems_at ho U ?_);apply af (listUpdate_at ho U ?_ (by rw[cQ,cU];omega) (gE _));apply af (seqEpoch_at uk U ?_);apply af (wpAny_newTuple ?_ (by show us.length<=_;rw[cU];omega));apply af (wpAny_newList ?_ (gE _));apply iK ?_;have I2:Inv X pins σ H { s with heap:=(s.heap.update a (Obj.mapSeq λ_=>(#[]:Array Aa))).push (seqObj "tuple" us.toArray 0) }:=I1.kept (t':=s.toks) λb u e=>aS _ e;have I3:Inv X pins σ H { s with heap:=((s.heap.update a (Obj.mapSeq λ_=>(#[]:Array Aa))).push (seqObj "tuple" us.toArray 0)).push (seqObj "list" #[] 0) }:=I2.kept (t':=s.toks) λb u e=>aS _ e;have fk:dk X pins H ((s.heap.update a (Obj.mapSeq λ_=>(#[]:Array Aa))).push (seqObj "tuple" us.toArray 0)).objs.size:=I2.jI (bc _) (I2.ay.fresh (bc _));have jH:(((s.heap.update a (Obj.mapSeq λ_=>(#[]:Array Aa))).push (seqObj "tuple" us.toArray 0)).push (seqObj "list" #[] 0)).get? a\seqObj "list" #[] e1:=aS _ (aS _ uk);have Lq:(((s.heap.update a (Obj.mapSeq λ_=>(#[]:Array Aa))).push (seqObj "tuple" us.toArray 0)).push (seqObj "list" #[] 0)).get? ((s.heap.update a (Obj.mapSeq λ_=>(#[]:Array Aa))).push (seqObj "tuple" us.toArray 0)).objs.size\seqObj "list" #[] 0:=cy _ U;have l5:a≠((s.heap.update a (Obj.mapSeq λ_=>(#[]:Array Aa))).push (seqObj "tuple" us.toArray 0)).objs.size:=dC (bp (aS (seqObj "tuple" us.toArray 0) uk));show wpAny (model X.prog X.w) B (ksk_rest a (.ref f) false us.toArray e1 (.ref ((s.heap.update a (Obj.mapSeq λ_=>(#[]:Array Aa))).push (seqObj "tuple" us.toArray 0)).objs.size)) P E { s with heap:=((s.heap.update a (Obj.mapSeq λ_=>(#[]:Array Aa))).push (seqObj "tuple" us.toArray 0)).push (seqObj "list" #[] 0) };generalize ((s.heap.update a (Obj.mapSeq λ_=>(#[]:Array Aa))).push (seqObj "tuple" us.toArray 0)).objs.size=kS at fk Lq l5 ⊢;generalize ((s.heap.update a (Obj.mapSeq λ_=>(#[]:Array Aa))).push (seqObj "tuple" us.toArray 0)).push (seqObj "list" #[] 0)=h3 at I3 jH Lq ⊢;clear I2 I1 iG;unfold ksk_rest;apply af (wpAny_rule ?_);rw[List.forIn_toArray];apply af (ZZ (pins:=pins) (E:=E) (e1:=e1) l5 jK (λu s4 Qb hq=>?_) xs us [] [] [] H _ 0 r (λx hx=>hx) I3 (aa.refl H) fa fk jH Lq .nil U ⇑cX λH5 s5 kvs c5 I5 Wm SQ fk5 ER Ry lk ⟨ks,rk,tk⟩=>?_)
 ·apply af (wpAny_attempt (wpAny_mono hq (λk pM hk=>?_) λ_ _ hF=>hF.elim));exact af (wpAny_mono hk (λ_ s6 h6=>aC h6) λ_ _ z=>z)
 rw[List.nil_append] at tk;rw[List.length_nil,Nat.zero_add] at lk;apply af (listItems_at Ry U ?_)
 have tail:∀(p:Array Nat) (st:SortSt),Good xs.length p->Up (λi j=>bH ((xs.map λx=>bM (kf x)).getD i []) ((xs.map λx=>bM (kf x)).getD j [])) p xs.length->(arrOf st).map (·.2)=(mw p us).toArray->failedOf st=none->wpAny (model X.prog X.w) B (ksk_tail a false e1 (.ref kS) st) P E s5:=λp st g up Lh LA=>by
  have gu:Good us.length p:=by rw[<- lx];exact g
  have hz:(mw p us).length=us.length:=by
   unfold mw;rw[au,pE];exact gu.size
  let s1:=Heap.SameBut.update s5.heap kS (Obj.mapSeq λ_=>(#[]:Array Aa));have vR:(s5.heap.update kS (Obj.mapSeq λ_=>(#[]:Array Aa))).get? a\seqObj "list" #[] e1:=(p_ _ _ (bG l5)).trans ER;unfold ksk_tail;dsimp only;rw[Lh];apply af (listUpdate_at Ry U ?_ (by rw[cQ,cU];omega) (gE _));apply af (wpAny_letGo ?_);apply af (seqEpoch_at vR U ?_);simp only[qd,if_false];apply af (listUpdate_at vR U ?_ (gE _) (by rw[cQ,hz,cU];omega));rw[LA];simp only[bne_self_eq_false,qd,if_false]
  have zl:(p.toList.map λi=>xs.getD i .non).length<=sizeLine:=by
   rw[au,pE,g.size,cU];omega
  let#[pz,ek]:=YV (kf:=λx=>bM (kf x)) (zs:=p.toList.map λi=>xs.getD i .non) g up U;let ek:=ga_ ek;apply aC (h _ H5 _ (I5.yq (t':=s5.toks) (fp:=[a,kS]) (T:=a) (λb o hb e=>?_) (λb hb=>?_) Z2 zl (NA r gu) (get?_update_seq vR _)) Wm SQ.1 pz ek)
  ·have n1:b≠a:=λz=>hb (by simp[z]);have n2:b≠kS:=λz=>hb (by simp[z]);exact (p_ _ _ (bG n1)).trans ((p_ _ _ (bG n2)).trans e)
  rcases bW.mp hb with rfl|hb
  ·exact SQ
  obtain rfl:b=kS:=⇑hb
  exact fk5
 unfold ksk_end;dsimp only;simp only[qd,if_false];by_cases h2:us.toArray.size<2
 ·rw[aJ h2,aJ h2];apply af (aC ?_);rw[StateT.run_pure];apply af (aC (tail (List.range xs.length).toArray _ (Array.Perm.refl _) (λi j oh hj=>?_) ?_ U))
  ·have e:i=j:=by
    simp only[cQ] at h2;omega
   subst e;exact MT _
  show ((kvs.toArray.zip us.toArray).map λx:Keyed=>x.2)=_;rw[show xs.length=us.length from lx,Ux];apply Array.ext' ?_;simp[List.map_snd_zip,lk]
 rw[aB h2,aB h2]
 have hG:2<=us.length:=by
  simp only[cQ] at h2;omega
 let#[κ,hk,hc]:=fk_ (prog:=X.prog) (w:=X.w) (A:=B) (s:=s5) (kf:=kf) (xs:=xs) (SW (tk▸rk)) Z1;apply af (wpAny_mono (hk (λk s'=>k=κ/\s'=s5) #[U,U]) (λk s7 Ex=>?_) λ_ _ x=>x.elim);let#[rfl,rfl]:=Ex;have O:Ord (λi j=>bH ((xs.map λx=>bM (kf x)).getD i []) ((xs.map λx=>bM (kf x)).getD j [])):=MU _
 apply af (wpAny_mono (kat_run (ks:=kvs) (vs:=us) (G:=λp s'=>s'=s7/\Good us.length p/\Up (λi j=>bH ((xs.map λx=>bM (kf x)).getD i []) ((xs.map λx=>bM (kf x)).getD j [])) p us.length)
  (Q:=λfI s'=>∃p:Array Nat,arrOf fI=p.map (kas_item (kvs.toArray.zip us.toArray))/\failedOf fI=none/\s'=s7/\Good us.length p/\Up (λi j=>bH ((xs.map λx=>bM (kf x)).getD i []) ((xs.map λx=>bM (kf x)).getD j [])) p us.length)
  lk hG cX (λp fI s' _ q1 q2 q3=>#[p,q1,q2,q3]) (Ok.wp (n:=us.length) (λi j C hi hj=>hc i j C Z1 Z1) (λp q=>#[U,q]) (Sx O Z1))) ?_ λ_ _ x=>x)
 rintro⟨⟨⟩,fI⟩ s' ⟨p,LO,hf,hs',g,u⟩;subst hs';rw[<- lx] at g u;exact tail p fI g u (kat_snds lk LO) hf
end
section
variable{X:Cx}{pins:List (Addr × Obj)}{σ:St}{H:Hp}{s:Ab}
theorem hS_{B:Ag}{k:Nat}{qual:Str}{params:Arguments}{body:PySem.Expr}{scope:Scope}{p:Str}{c_:ae}{sp:ai->ai->Hp->VK->XK->Prop}{f c':Addr}{cl:List (Str × Addr)}{is:List Nat}{gs xs:ai}{kf:V->Str}{H0:Hp}(F:jY X.prog X.w X.K X.mg X.base k qual params body scope [p] c_ sp)(hr:aP k B)(hB:B.frames=X.A.frames)
  (hf:H0 f\jE f qual params body scope cl c') (hc:H0 c'\Au c' qual) (l7:∀q∈cl,X.env.cells.lookup q.1\q.2) (vQ:∀x∈c_,∃c,cl.lookup x\c) (Ez:∀x∈c_,X.env.scope.names.lookup x\.cell) (hN:is.map (λi=>X.N[i]?)=c_.map some) (Bm:is.map (λi=>σ[i]?)=gs.map (λv=>some (some v)))
  (ki:∀H x,aa H0 H->x∈xs->sp [x] gs H (λv H'=>aa H H'/\v=.str (kf x)) (λ_ _ _=>False)):Hs X σ B (.ref f) H0 kf xs:=by
 intro pins H s x u I sm hx ru;let#[#[pm,kq,ef],_]:=I.ay f _ (sm _ _ hf);let#[#[oc,Jz,t,ec,d1,d2],_]:=I.ay c' _ (sm _ _ hc);let#[hg,C,fc]:=I.tw l7 vQ Ez hN Bm;let e0:=I.Ao;apply wpAny_call (codeAny_mono (F B X.stack s H f c' pm kq cl [u] [x] gs _ _ hr #[hB.trans e0.frames,e0.mod,e0.bs,e0.tL,e0.f_,e0.vU,e0.ay,e0.bare] ef #[c',oc,Jz,t,U,ec,d1,d2] U hg (.cons ru .nil) C fc (ki H x sm hx)) λr s' hq=>?_);cases r with
 |error e=>
  let#[a,cls,H',B,a0,dd,rfl,os,bare,un,ay,fl,i,hE]:=hq
 |ok fl=>
  cases fl with
  |ret u=>exact I.after hq
  |next=>exact False.elim hq
  |brk=>exact False.elim hq
  |cont=>exact False.elim hq
theorem qF{f:Addr}{x:Aa}{xs:ai}{kf:V->Str}{Q:VK}{E:Aa->Ab->Prop}(I:Inv X pins σ H s)(cX:xs.length<64)(jK:Hs X σ X.A.in1.in1 (.ref f) H kf xs)
  (l_:∀R:ag->Ab->Prop,(∀vs s1,Inv X pins σ H s1->Vals xs vs->R vs s1)->wpAny (model X.prog X.w) X.A.in1 (collect x) R E s)
  (q:∀l zs H',aa H H'->H' l=none->H l=none->zs.Perm xs->zs.map kf=iA (xs.map kf)->Q (.ref l) (upd H' l (.lst zs))):wpAny (model X.prog X.w) X.A (call (.builtin "sorted") [x] [(Str.ofString "key",.ref f)]) (EP X pins σ Q) E s:=by
 apply call_function_entry_kw kind_sorted plain_sorted entry_sorted (ksk_s1 _ _) ?_;unfold Builtin.«sorted»;apply af (m:=checkCount "sorted" 1 1 _) (aC ?_);apply af (l_ _ λvs s1 I1 r=>?_);let lv:=r.length;apply af (wpAny_newList ?_ (by rw[cU];omega));have GY:(s1.heap.push (seqObj "list" vs.toArray 0)).get? s1.heap.objs.size\seqObj "list" vs.toArray 0:=cy _ U;have I2:Inv X pins σ H { s1 with heap:=s1.heap.push (seqObj "list" vs.toArray 0) }:=I1.kept (t':=s1.toks) λb u e=>aS _ e;have fa:dk X pins H s1.heap.objs.size:=I1.jI (bc _) (I1.ay.fresh (bc _));have nl:H s1.heap.objs.size=none:=I1.ay.fresh (bc _);apply af (iK (wpAny_call_entry_kw slot_list_sort #[_,GY,U] entry_list_sort ?body (ksk_l1 _ _)))
 case body=>
  show wpAny (model X.prog X.w) X.A.in1.in1 (Builtin.«list.sort» #[[.ref s1.heap.objs.size],[(Str.ofString "key",.ref f)]]) _ _ _;rw[ksk_t1];apply fS_ (s:={ s1 with heap:=s1.heap.push (seqObj "list" vs.toArray 0) }) I2 fa GY r Z1 jK λzs H' s' I' sm na pz ek=>?_;exact#[_,U,aC #[_,U,.ref _,_,I',U,q _ zs H' sm na nl pz ek]]
end
inductive S9 (K:aj) (qual:Str) (params:Arguments) (body:PySem.Expr) (scope:Scope) (cl:List (Str × Addr)) (is:List Nat) (sp:ai->ai->Hp->VK->XK->Prop) (σ:St) (H:Hp) (Q:VK) (vs:ai) (ws:ai) (H2:Hp):Prop
 |mk:∀x f c' xs kf gs,vs=[x]->ws=[.ref f]->H2 f\jE f qual params body scope cl c'->H2 c'\Au c' qual->O_ K H2 x xs->xs.length<64->is.map (λi=>σ[i]?)=gs.map (λv=>some (some v))->(∀H x,aa H2 H->x∈xs->sp [x] gs H (λv H'=>aa H H'/\v=.str (kf x)) (λ_ _ _=>False))->(∀l zs H',aa H2 H'->H' l=none->H2 l=none->zs.Perm xs->zs.map kf=iA (xs.map kf)->Q (.ref l) (upd H' l (.lst zs)))->S9 K qual params body scope cl is sp σ H Q vs ws H2
def uY(K:aj)(qual:Str)(params:Arguments)(body:PySem.Expr)(scope:Scope)(cl:List (Str × Addr))(is:List Nat)(sp:ai->ai->Hp->VK->XK->Prop)(t tk:TA):TE:=λσ H Q=>t σ H λvs H1=>tk σ H1 λws H2=>S9 K qual params body scope cl is sp σ H Q vs ws H2
theorem ha_{X:Cx}{e:PySem.Expr}{t tk:TA}{p pos kp si:Pos}{k:Nat}{params:Arguments}{body:PySem.Expr}{scope:Scope}{px:Str}{c_:ae}{qual:Str}{sp:ai->ai->Hp->VK->XK->Prop}{cl:List (Str × Addr)}{is:List Nat}(hc:X.calm=true)(hg:Gl X "sorted")(hm:X.mg "sorted"=none)(ha:PA X [e] t)(hkw:PK X [#[some "key",.Lambda params body scope si,kp]] tk)
  (F:jY X.prog X.w X.K X.mg X.base k qual params body scope [px] c_ sp) (hr:aP (k+2) X.A) (l7:∀q∈cl,X.env.cells.lookup q.1\q.2) (vQ:∀x∈c_,∃c,cl.lookup x\c) (Ez:∀x∈c_,X.env.scope.names.lookup x\.cell) (hN:is.map (λi=>X.N[i]?)=c_.map some)
  (he:starEach [e] X.env=[(false,eval e X.env)]:=by rfl) (zW:(backToKw pos (keywordEach [#[some "key",.Lambda params body scope si,kp]] X.env)).all (·.1.isSome)=true:=by rfl) (Ex:(backToKw pos (keywordEach [#[some "key",.Lambda params body scope si,kp]] X.env)).filterMap (·.1)=[Str.ofString "key"]:=by rfl)
  (hkn:(backToKw pos (keywordEach [#[some "key",.Lambda params body scope si,kp]] X.env)).any (·.1.isNone)=false:=by rfl):PE X (.Call (.Name "sorted" p) [e] [#[some "key",.Lambda params body scope si,kp]] pos) (uY X.K qual params body scope cl is sp t tk):=by
 intro pins s σ H Q I h;apply wpAny_Call_Name_kw (wB I hg hm Jh ?_);let hA:=ha pos pins s σ H _ I h;rw[he] at hA ⊢;apply callWith_builtin_kwB (first:=[]) U hkn (evalArgs_kwB zW (aQ hA λus s1 ⟨vs,H1,I1,r1,q1⟩=>?_));apply aQ (hkw pos pins s1 σ H1 _ I1 q1) λws s2 ⟨zs,H2,I2,rz,x,f,c',xs,kf,gs,ev,ez,hf,iw,src,cX,Bm,ki,q⟩=>?_;subst ev ez;let#[u,rfl,ru]:=Vals.one r1;let#[fv,rfl,rf]:=Vals.one rz;cases rf;rw[Ex];have hd:X.A.in1.handled=none:=I.ok.hd hc;apply qF I2 cX (hS_ F hr.in1.in1 U hf iw l7 vQ Ez hN Bm ki) (λR hR=>?_) q;rcases src with⟨l,rfl,hl⟩|⟨d,kvs,rfl,hd2,rfl⟩
 ·cases ru;exact hW_ I2 hl Z1 hR
 cases ru;exact Q7 hd I2 (.inl hd2) hR
end L2
namespace L2
open PySem PySem.Spec PyProof.Rows
structure wN (K:aj) (x qual:Str) (st:Stmt) (f c:Addr) (fd:Ae):Prop where
 ex:∃(oc:Aa) (od:Option Addr) (kV doc pm:Aa) (an:Option Addr) (ct:Aa) (jx:Array (Option Aa)),
  fd=PySem.W.fnOf x qual (hU st) (gz st) (aX st) .none kV doc pm an (.ref c) ct/\K.lookup f=some #[oc,od,.func fd,jx]/\PySem.W.codeIn K (.ref c) qual=true
 kp:PySem.W.keepIn K (.ref f)=true
theorem wN.ok{P:Ad}{w:Af}{K:aj}{mg:Str->Option Aa}{base:Heap}{x qual:Str}{st:Stmt}{f c:Addr}{fd:Ae}{N ps:ae}{k:Nat}{sp:Sp}(F:wN K x qual st f c fd)(S:bN N ps (aX st))(len:∀vs H Q E,sp vs H Q E->vs.length=ps.length)
  (fX:∀(A:Ag) (outer:List Env) (s:Ab) (H:Hp) (vs:ai) (Q:VK) (E:XK),aP k (A.deeper (envOfC qual (aX st) s.heap.objs.size f (.ref c)))->sp vs H Q E->
   ∃t,jX (iZ a9 P w K mg base N qual (aX st) f (.ref c) A outer s H E).xr (gz st) t/\t { nx:=λ_ H'=>Q .non H',rt:=Q } (start N vs) H):!aq a9 (k+1) f fd ps sp:=by
 let#[oc,od,kV,doc,pm,an,ct,jx,rfl,lk,iw]:=F.ex;apply QH lk iw S len λA outer s H vs Q E hr ki=>?_;let#[t,h,q]:=fX A outer s H vs Q E hr ki;exact#[t,h.xr,q]
end L2
namespace Ev
open PySem L2
def NT(H G:Hp):Prop:=∀b o,H b\o->(∀vs,o≠.tbl vs)->G b\o
theorem NT.of{H G:Hp}(s:aa H G):NT H G:=λb o e _=>s b o e
theorem NT.refl(H:Hp):NT H H:=NT.of (aa.refl H)
theorem NT.trans{H G J:Hp}(s:NT H G)(t:NT G J):NT H J:=λb o e n=>t b o (s b o e n) n
theorem bC.nt{T:Addr}{H G:Hp}{vs:Array Aa}(b:bC T H G)(hT:H T\.tbl vs):NT H G:=λc o e n=>b c o e (λz=>by
 rw[z,hT] at e;exact n _ (cu e).symm)
theorem NT.tup{H G:Hp}(s:NT H G){a:Addr}{xs:ai}(h:H a\.tup xs):G a\.tup xs:=s _ _ h nofun
theorem NT.lst{H G:Hp}(s:NT H G){a:Addr}{xs:ai}(h:H a\.lst xs):G a\.lst xs:=s _ _ h nofun
theorem NT.dK{H G:Hp}(s:NT H G){a:Addr}{xs:List (Key × V)}(h:H a\.dK xs):G a\.dK xs:=s _ _ h nofun
theorem Yu{H:Hp}{T:Addr}{qual q':Str}{a a':Arguments}{b b':Expr}{sc Gm:Scope}{ps:Pos}{cl:List (Str × Addr)}{σ:St}{Q:VK}(h:mC H T qual)(e1:q'=qual)(e2:a'=a)(e3:b'=b)(e4:Gm=sc)(q:∀f c' H1,bC T H H1->mC H1 T qual->H1 f\jE f qual a b sc cl c'->H1 c'\Au c' qual->Q (.ref f) H1):CC T q' a' b' Gm ps cl σ H Q:=by
 subst e1 e2 e3 e4;let#[es,h,vP]:=h;apply#[_,h,SN es,?_];rcases UV ps es with e|⟨e,he,q1⟩
 ·apply .inl #[e,λc' f n1 n2 n3=>?_];have Xy:T≠c':=bq h n1;have Xx:T≠f:=bq h n2
  have B:bC T H (upd (upd (upd H T (.tbl ((mB es).toArray++(List.toArray [rawInt ps.line,rawInt ps.col,.ref c'])))) c' (Au c' q')) f (jE f q' a' b' Gm cl c')):=λb o e n=>by
   rw[ax (bq e n2),ax (bq e n1),ax n];exact e
  apply q f c' _ B #[es++[(ps,c')],?_,λx hx=>?_] az ?_
  ·rw[ax Xx,ax Xy,az,T9];simp
  ·rcases dM.mp hx with hx|hx
   ·exact B _ _ (vP x hx) (λz=>by have:=vP x hx;rw[z,h] at this;cases this)
   rw[eD.mp hx];show upd _ f _ c'=_;rw[ax n3,az]
  rw[ax n3,az]
 apply .inr #[e.2,q1,λf hf=>?_];let s:=aa.new (o:=jE f q' a' b' Gm cl e.2) hf;exact q f e.2 _ (bC.of s) #[es,s _ _ h,λx hx=>s _ _ (vP x hx)] az (s _ _ (vP e he))
theorem Y4{H:Hp}{T:Addr}{qual:Str}(h:mC H T qual):∃vs,H T\.tbl vs:=by
 let#[es,e,_]:=h;exact#[_,e]
def vF:Expr->Scope
 |.Lambda _ _ s _=>s
 |_=>aX fo
def KO:Expr->Expr
 |.Lambda _ b _ _=>b
 |e=>e
def KP:Expr->Arguments
 |.Lambda a _ _ _=>a
 |_=>hU fo
def X9:Expr->Expr
 |.Call _ _ (k::_) _=>k.value
 |e=>e
def y4(l:List Stmt)(i:Nat):Stmt:=l.getD i (.Pass #[0,0,0,0])
theorem YM{ps:aN}(nd:(ps.map (·.1)).Nodup){a b:Pc}(ha:a∈ps)(hb:b∈ps)(e:a.1=b.1):a=b:=by
 let#[i,hi,rfl]:=gJ ha;let#[j,hj,rfl]:=gJ hb;have:i=j:=(List.getElem?_inj (l:=ps.map (·.1)) (by rw[au];exact hi) nd).mp (by rw[dF,dF,aY hi,aY hj,Option.map_some,Option.map_some,e]);subst this;rfl
theorem YE{ts:Xb}{ps ss qs:aN}(Q:Qs ps qs)(nd:(ps.map (·.1)).Nodup)(p:ss.Perm ps)(e:ss.map (·.1)=iA (ps.map (·.1)))(dr:∀q∈ps,j8 ts q):eN ts ss qs:=by
 have en:qs.map (·.1)=ss.map (·.1):=by rw[Q.y9,e]
 have le:qs.length=ss.length:=by rw[<- au (as:=qs) (f:=λq:Pc=>q.1),en,au]
 apply#[?_,λq hq=>dr q (p.mem_iff.mp hq),?_]
 ·apply List.ext_getElem (by rw[au,le]) ?_;intro j h1 h2;rw[List.getElem_map];have hs:j<ss.length:=by omega
  let#[x,hx,ex]:=Q.mem qs[j] (mO h1);have n1:(qs.map (·.1))[j]? = some qs[j].1:=by rw[dF,aY h1];rfl
  have n2:(ss.map (·.1))[j]? = some (ss[j]).1:=by rw[dF,aY hs];rfl
  rw[en,n2] at n1;have n3:(ss[j]).1=qs[j].1:=cu n1;have n4:qs[j].1=x.1:=by rw[ex];rfl
  rw[ex,YM nd hx (p.mem_iff.mp (mO hs)) (n4.symm.trans n3.symm)]
 exact (p.map (·.1)).nodup_iff.mpr nd
theorem ew_{α β:Type}{F:α->β->Prop}{zs ys:List α}(p:zs.Perm ys):∀{ps:List β},Paired F ys ps->∃ss,ss.Perm ps/\Paired F zs ss:=by
 induction p with
 |nil=>exact λ{ps} h=>#[ps,.refl _,h]
 |cons x _ ih=>
  intro ps h;cases h with
  |cons h t=>
   let#[ss,q,r]:=ih t;exact#[_,q.cons _,.cons h r]
 |swap x y l=>
  intro ps h;cases h with
  |cons h t=>
   cases t with
   |cons h2 t=>exact#[_,.swap _ _ _,.cons h2 (.cons h t)]
 |trans _ _ _i _h=>
  intro ps h;let#[ss,q,r]:=_h h;let#[s2,q2,r2]:=_i r;exact#[s2,q2.trans q,r2]
def Ku(H:Hp):V->Str
 |.ref t=>match H t with
  |some (.tup (.str n::_))=>n
  |_=>⟨#[]⟩
 |_=>⟨#[]⟩
theorem MA{K:aj}{H:Hp}:∀{ys:ai} {ps:aN},jO K H ys ps->ys.map (Ku H)=ps.map (·.1)
 |_,_,.nil=>rfl
 |_,_,.cons (b:=p) ⟨t,v,e,ht,_⟩ r=>by
  rw[eZ,eZ,MA (K:=K) r,e]
  have:Ku H (.ref t)=p.1:=by
   show (match H t with|some (.tup (.str n::_))=>n|_=>(⟨#[]⟩:Str))=p.1;rw[ht]
  rw[this]
end Ev
namespace Ev
open PySem L2
def E7:Stmt->List Stmt
 |.For _ _ b _ _=>b
 |_=>[]
def OV:Stmt->Expr
 |.Assign _ e _=>e
 |_=>.Constant .none 0 #[0,0,0,0]
def o4:Expr:=X9 (OV (y4 (E7 (y4 (gz fo) 0)) 5))
abbrev qL:Str:="law.<locals>.<lambda>"
theorem E5:∀y∈(vF o4).names,y.2=.free->y.1∈([]:ae):=by decide +kernel
theorem yO:ID [wm] [] (vF o4):=#[by decide +kernel,U,U,U,by decide +kernel,by decide +kernel,λx h=>E5 (x,.free) (p9 h) U,by decide +kernel]
inductive ny (vs:ai) (gs:ai) (H:Hp) (Q:VK):Prop
 |mk:∀(t:Addr) (n:Str) (r:ai),vs=[.ref t]->gs=[]->H t\.tup (.str n::r)->Q (.str n) H->ny vs gs H Q
def yE:ai->ai->Hp->VK->XK->Prop:=λvs gs H Q _=>ny vs gs H Q
theorem NS{L f:Addr}{cd:Aa}:closureFor (vF o4) (PyProof.Rows.envOfC "law" (aX fo) L f cd)=pure []:=by rfl
section v
theorem Y0:!jY 1 qL (KP o4) (KO o4) (vF o4) [wm] [] yE:=by
 apply DT yO (λpm c' kq cl us hl=>?_) (λA outer s H f cd cl vs gs Q E hr h hp=>?_)
 ·match us,hl with
  |[_],_=>rfl
 let#[t,n,r,rfl,rfl,ht,k]:=h;apply#[_,bz cw (pv 0) aD,?_];exact#[_,U,t,_,0,_,U,U,.of ht,L2.d8 (j:=0) U,k]
end
end Ev
namespace L2
open PySem PySem.Spec PyProof.Rows PySem.W kJ dO Ev
inductive xi (x:V) (y:V) (H:Hp) (Q:VK):Prop
 |mk:∀(a b:Addr) (ms ns:ae) (f:bh),x=.ref a->y=.ref b->H a\.dK (fw ms f)->H b\.dK (fw ns f)->ms.length=ns.length->(∀m∈ms,m∈ns)->Q (.bl false) H->xi x y H Q
theorem Y_{X:Cx}(hu:X.A.units<cLine):dN X (compareOp .NotEq) xi:=by
 intro pins s σ H x y v u Q I rx ry h;let#[a,b,ms,ns,f,rfl,rfl,ha,hb,le,sub,q]:=h;cases rx;cases ry;let#[za,na,va,ra,da]:=jM I.ay (.inl ha);let#[zb,nb,vb,rb,db]:=jM I.ay (.inl hb);let la:=ra.length;let lb:=rb.length;rw[mK] at la lb;apply PySem.W.keq_ne na nb da db hu (r:=ms.all λn=>decide (f n=f n)) (λ_=>SC rb ms va ra sub) ⟨.bl _,H,I,rfl,?_⟩;rw[<- la,<- lb,le];have al:(ms.all λn=>decide (f n=f n))=true:=by simp
 rw[al];simpa using q
end L2
namespace Ev
open PySem L2
section
variable{K:aj}{CG CW:Addr}
theorem X7{H:Hp}{R:Addr->Hp->Prop}{E:XK}{lh lt:Addr}{yh yt:ai}{hs:Xa}{ts:Xb}(G:Good hs ts)(h1:H lh\.lst yh)(h2:bS K H yh (hs.map kH))(h3:H lt\.lst yt)(h4:bS K H yt (ts.map kT))
  (k:∀p fp H',aa H H'->hW K CW H' p hs ts fp->(∀b∈fp,H b=none)->R p H'):∀x dx,H x=none->H dx=none->dx≠x->Hu K CW (.ref x::([.ref lh,.ref lt]++[])) (upd (upd H dx (.own x)) x (.ins CW dx [])) (λv H2=>v=.non/\R x H2) E:=by
 intro p dx hp zP ne;have s4:aa H (upd (upd H dx (.own p)) p (.ins CW dx [])):=(aa.new zP).trans (aa.new (by rw[ax ne.symm];exact hp));apply⟨p,dx,lh,lt,yh,yt,hs,ts,rfl,az,s4 _ _ h1,h2.same s4,s4 _ _ h3,h4.same s4,G,λdi H5 kp W fr=>⟨rfl,?_⟩⟩;apply k p di H5 (λb o e=>kp b o (s4 _ _ e) (bq e hp)) W λb hb=>?_;rcases fr b hb with rfl|z
 ·exact hp
 exact s4.free z
theorem hU_{H:Hp}{R:Addr->Hp->Prop}{E:XK}{p lp:Addr}{yp:ai}{hs:Xa}{ts:Xb}{ps:aN}{di:ao}(W:hW K CW H p hs ts di)(G:Good hs ts)(h1:H lp\.lst yp)(h2:jO K H yp ps)(gp:∀q∈ps,j7 ts q)(nd:(ps.map (·.1)).Nodup)(len:ps.length<64)
  (k:∀g qs fp H',aa H H'->gA K CG CW H' g p hs ts qs fp->Qs ps qs->(∀b∈fp,b∈di∨H b=none)->R g H'):∀x dx,H x=none->H dx=none->dx≠x->I0 K CG CW (.ref x::([.ref p,.ref lp]++[])) (upd (upd H dx (.own x)) x (.ins CG dx [])) (λv H2=>v=.non/\R x H2) E:=by
 intro g dx hg zP ne;have s4:aa H (upd (upd H dx (.own g)) g (.ins CG dx [])):=(aa.new zP).trans (aa.new (by rw[ax ne.symm];exact hg))
 have gw:g∉di:=λm=>by
  let#[o,e]:=W.has m;rw[hg] at e;cases e
 apply#[g,dx,p,lp,yp,ps,hs,ts,di,U,az,W.same s4,gw,G,s4 _ _ h1,Paired.aU h2 λ_ _ q=>q.same s4,gp,nd,len,λqs fp H5 kp GA Qq fr=>#[U,?_]];apply k g qs fp H5 (λb o e=>kp b o (s4 _ _ e) (bq e hg)) GA Qq λb hb=>?_;rcases fr b hb with rfl|z|z
 ·exact .inr hg
 ·exact .inl z
 exact .inr (s4.free z)
end
theorem Kx{σ:St}{H:Hp}{k:ai->Hp->Prop}(h:k [] H):oO σ H k:=h
theorem Fo{te:TE}{t:TA}{σ:St}{H:Hp}{k:ai->Hp->Prop}(h:te σ H λx H1=>t σ H1 λxs H2=>k (x::xs) H2):jt te t σ H k:=h
theorem Mt:∀{LL:List (List ak)},(∀(j:Nat) L,j+1<LL.length->LL[j]? = some L->L≠[])->LL.length<=LL.flatten.length+1
 |[],_=>by simp
 |[L],_=>by simp
 |L::L2::r,h=>by
  let ih:=Mt (LL:=L2::r) λj M hj hM=>h (j+1) M ⇑hj ⇑hM;have h0:L≠[]:=h 0 L Z2 U;have:=List.length_pos_iff.mpr h0;rw[List.flatten_cons,eM];rw[jr (a:=L)];omega
theorem mC.OF{H G:Hp}{T l:Addr}{q:Str}{xs:ai}(h:mC H T q)(b:bC l H G)(hl:H l\.lst xs):mC G T q:=by
 let#[es,e,c]:=h;exact#[es,b _ _ e (bK e hl nofun),λx hx=>b _ _ (c x hx) (bK (c x hx) hl nofun)]
structure Dr (K:aj) (H:Hp) (l lh lt lp d:Addr) (hs:Xa) (ts:Xb) (ps:aN) (f:bh):Prop where
 st:dQ H l
 hh:∃yh,H lh\.lst yh/\bS K H yh (hs.map kH)
 ht:∃zs,H lt\.lst zs/\bS K H zs (ts.map kT)
 hp:∃yp,H lp\.lst yp/\jO K H yp ps
 hd:H d\.dK (fw (ps.map (·.1)) f)
 n1:lh≠l
 n2:lt≠l
 n3:lp≠l
theorem Dr.but{K:aj}{H H':Hp}{l lh lt lp d:Addr}{hs:Xa}{ts:Xb}{ps:aN}{f:bh}(h:Dr K H l lh lt lp d hs ts ps f)(b:bC l H H')(st:dQ H' l):Dr K H' l lh lt lp d hs ts ps f:=by
 let#[a0,#[yh,a1,a2],#[zs,b1,b2],#[yp,c1,c2],d1,n1,n2,n3]:=h;let#[xs,e]:=a0.some;exact#[st,#[yh,b _ _ a1 n1,jR a2 b e],#[zs,b _ _ b1 n2,jR b2 b e],#[yp,b _ _ c1 n3,Paired.aU c2 λy p q=>q.but b a0],b _ _ d1 (bK d1 e nofun),n1,n2,n3]
theorem Dr.same{K:aj}{H H':Hp}{l lh lt lp d:Addr}{hs:Xa}{ts:Xb}{ps:aN}{f:bh}(h:Dr K H l lh lt lp d hs ts ps f)(s:aa H H'):Dr K H' l lh lt lp d hs ts ps f:=h.but (bC.of s) (h.st.same s)
theorem bS.nt{K:aj}{H G:Hp}{ys:ai}{ks:List av}(h:bS K H ys ks)(s:NT H G):bS K G ys ks:=Paired.aU h λy k ⟨a,z,q⟩=>#[a,z,s.tup q]
theorem bV.nt{K:aj}{H G:Hp}{v:V}{o:Option (Xb)}(h:bV K H v o)(s:NT H G):bV K G v o:=by
 cases o with
 |none=>exact h
 |some ws=>
  let#[a,ys,e,ha,t]:=h;exact#[a,ys,e,s.lst ha,bS.nt t s]
theorem Dr.nt{K:aj}{H H':Hp}{l lh lt lp d:Addr}{hs:Xa}{ts:Xb}{ps:aN}{f:bh}(h:Dr K H l lh lt lp d hs ts ps f)(s:NT H H'):Dr K H' l lh lt lp d hs ts ps f:=by
 let#[a0,#[yh,a1,a2],#[zs,b1,b2],#[yp,c1,c2],d1,n1,n2,n3]:=h;apply#[?_,#[yh,s.lst a1,bS.nt a2 s],#[zs,s.lst b1,bS.nt b2 s],#[yp,s.lst c1,Paired.aU c2 λy p ⟨t,v,e,ht,w⟩=>#[t,v,e,s.tup ht,w.nt s]],s.dK d1,n1,n2,n3];rcases a0 with⟨n,e⟩|⟨n,m,c,e⟩
 ·exact .inl #[n,s.lst e]
 exact .inr #[n,m,c,s.lst e]
theorem ZS{K:aj}{H H':Hp}{a:Addr}{xs:ai}(s:aa H H')(h:dZ K H a xs):dZ K H' a xs:=by
 rcases h with (h|⟨o,h⟩)|h
 ·exact .inl (.inl (s _ _ h))
 ·exact .inl (.inr #[o,s _ _ h])
 exact .inr h
theorem bC.same{l:Addr}{H H1 H2:Hp}(b:bC l H1 H2)(n:H l=none)(s:aa H H1):aa H H2:=λc o e=>b c o (s c o e) (bq e n)
section v
theorem bu.imp{k:Nat}{x:Str}{ps:ae}{sp A9:Sp}(c:!bu k x ps sp)(h:∀vs H Q E,A9 vs H Q E->sp vs H Q E):!bu k x ps A9:=by
 let#[f,fd,F,m]:=c.ex;exact#[f,fd,F.imp h,m]
end
def O9(H H':Hp)(t:Addr)(hs:Xa)(ts:Xb)(qs:aN)(s0:ak)(l:Int × Int):Prop:=Tld H' t hs ts qs s0 l/\((∃x ys,H x=none/\H' t\.tup [.str "moves",.ref x]/\H' x\.lst ys/\ys.length<=1000000)∨H' t\.tup [.str "none"])
inductive lu (K:aj) (CG CW:Addr) (vs:ai) (H:Hp) (Q:VK) (E:XK):Prop
 |mk:∀(g p d lt:Addr) (hs:Xa) (ts:Xb) (qs:aN) (fp:ao) (s0:ak) (ns:ae) (f:bh) (l:Int × Int) (m:Nat),vs=[.ref g,.ref d,.ref lt,.int m]->Gs K CG CW H g p hs ts qs fp->By H d hs qs fp s0 ns f->ia H lt l->we l->1<=m->m<1000000->(∀j z,Ds (Nx hs ts qs) s0 j z->j<1000000)->(∀t H',aa H H'->(O9 H H' t hs ts qs s0 l∨(H' t\.tup [.str "more"]/\More (Nx hs ts qs) s0 m))->Q (.ref t) H')->lu K CG CW vs H Q E
theorem Mq{K:aj}{CG CW:Addr}(vs:ai)(H:Hp)(Q:VK)(E:XK)(h:lu K CG CW vs H Q E):Iq K CG CW vs H Q E:=by
 let#[g,p,d,lt,hs,ts,qs,fp,s0,ns,f,l,m,e,a,b,c,o,m1,m2,dl,k]:=h;exact⟨g,p,d,lt,hs,ts,qs,fp,s0,ns,f,l,m,e,a,b,c,o,m1,m2,λt x ys ms s H' sm nx h1 h2 h3 h4 h5 h6 h7=>k _ _ sm (.inl ⟨.inl ⟨x,ys,ms,s,h1,h2,h3,h4,h5,h6,h7⟩,.inl ⟨x,ys,nx,h1,h2,by have:=bj h3;have:=dl _ _ h5;omega⟩⟩),λt H' sm h1 h2=>k _ _ sm (.inl ⟨.inr ⟨h1,h2⟩,.inr h1⟩),λt H' sm h1 h2=>k _ _ sm (.inr ⟨h1,h2⟩)⟩
end Ev
namespace L2
open PySem PySem.Spec PyProof.Rows PySem.W kJ dO
theorem Y5{X:Cx}{n m:Nat}{D1 D2:Type}[DecidableEq D1][DecidableEq D2]{R1:Rp D1}{R2:Rp D2}(c1:j9 X n R1)(c2:j9 X m R2)(h1:X.A.units+n+1<cLine)(h2:X.A.units+m+1<cLine):dN X (compareOp .Eq) (vn (r2 X.K R1 R2) false):=by
 intro pins s σ H x y v u Q I rx ry h;let#[d,e,#[a,x1,x2,rfl,t,q1,q2],#[b,y1,y2,rfl,t',xp,xo],hq]:=h;cases rx;cases ry;let#[its,r,it,_]:=I.tuple t;let#[its',r',DY,_]:=I.tuple t';let#[u1,u2,rfl,e1,e2]:=vals2 r;let#[w1,w2,rfl,MQ,MP]:=vals2 r';apply SeqAt.eq_tupleAt (e:=λj=>if j=0 then decide (d.1=e.1) else decide (d.2=e.2)) (AW it) (AW DY) Z1 (λj g1 g2=>?_) ⟨.bl _,H,I,rfl,?_⟩
 ·match j,g1,g2 with
  |0,_,_=>exact c1.eq I e1 MQ q1 xp (by show X.A.units+1+n<cLine;omega)
  |1,_,_=>exact c2.eq I e2 MP q2 xo (by show X.A.units+1+m<cLine;omega)
 have hq:Q (.bl (decide (d=e))) H:=hq
 have e3:((List.range (min [u1,u2].toArray.size [w1,w2].toArray.size)).all (λj=>if j=0 then decide (d.1=e.1) else decide (d.2=e.2))&&[u1,u2].toArray.size == [w1,w2].toArray.size)=decide (d=e):=by
  show (decide (d.1=e.1)&&(decide (d.2=e.2)&&true)&&true)=_;by_cases h1:d.1=e.1
  ·by_cases h2:d.2=e.2
   ·have:d=e:=Prod.ext h1 h2;simp[this]
   have:¬d=e:=λz=>h2 (by rw[z]);simp[h1,h2,this]
  have:¬d=e:=λz=>h1 (by rw[z]);simp[h1,this]
 rw[e3];exact hq
theorem _z{X:Cx}{n m:Nat}{D1 D2:Type}[DecidableEq D1][DecidableEq D2]{R1:Rp D1}{R2:Rp D2}(c1:j9 X n R1)(c2:j9 X m R2)(h1:X.A.units+n+1<cLine)(h2:X.A.units+m+1<cLine):dN X (compareOp .NotEq) (vn (r2 X.K R1 R2) true):=by
 intro pins s σ H x y v u Q I rx ry h;let#[d,e,#[a,x1,x2,rfl,t,q1,q2],#[b,y1,y2,rfl,t',xp,xo],hq]:=h;cases rx;cases ry;let#[its,r,it,_]:=I.tuple t;let#[its',r',DY,_]:=I.tuple t';let#[u1,u2,rfl,e1,e2]:=vals2 r;let#[w1,w2,rfl,MQ,MP]:=vals2 r';apply SeqAt.RcNeAt.tuples (e:=λj=>if j=0 then decide (d.1=e.1) else decide (d.2=e.2)) (AW it) (AW DY) Z1 (λj g1 g2=>?_) X.prog X.w _ _ #[.bl _,H,I,U,?_]
 ·match j,g1,g2 with
  |0,_,_=>exact c1.eq I e1 MQ q1 xp (by show X.A.units+1+n<cLine;omega)
  |1,_,_=>exact c2.eq I e2 MP q2 xo (by show X.A.units+1+m<cLine;omega)
 have hq:Q (.bl (!decide (d=e))) H:=hq
 have e3:((List.range (min [u1,u2].toArray.size [w1,w2].toArray.size)).all (λj=>if j=0 then decide (d.1=e.1) else decide (d.2=e.2))&&[u1,u2].toArray.size == [w1,w2].toArray.size)=decide (d=e):=by
  show (decide (d.1=e.1)&&(decide (d.2=e.2)&&true)&&true)=_;by_cases h1:d.1=e.1
  ·by_cases h2:d.2=e.2
   ·have:d=e:=Prod.ext h1 h2;simp[this]
   have:¬d=e:=λz=>h2 (by rw[z]);simp[h1,h2,this]
  have:¬d=e:=λz=>h1 (by rw[z]);simp[h1,this]
 rw[e3];exact hq
end L2
namespace Ev
open PySem L2
abbrev lN:ae:=[xU,"_law_cell",hZ,jP,"_law_ties_here","_law_drawn","_law_stand_here",mz,"_law_goods","_law_layers_here","_law_handed","_law_counts","_law_first","_law_count","_law_keys","_law_told","_law_row"]
theorem jm:bN lN [xU] (aX fo):=bU
structure Dn (K:aj) (CG CW:Addr) (H:Hp) (lh lt lz d g0 pw lL dh:Addr) (hs:Xa) (ts:Xb) (ss qs:aN) (fp:ao) (ns:ae) (f:bh) (s0:ak) (yL:ai) (LL:List (List ak)):Prop where
 hh:∃yh,H lh\.lst yh/\bS K H yh (hs.map kH)
 ht:∃zs,H lt\.lst zs/\bS K H zs (ts.map kT)
 hp:∃yp,H lz\.lst yp/\jO K H yp ss
 G:Good hs ts
 S:eN ts ss qs
 s8:ss.length<=8
 Gg:Gs K CG CW H g0 pw hs ts qs fp
 hd:H d\.dK (fw ns f)
 St:By H dh hs qs fp s0 ns f
 hL:H lL\.lst yL
 ly:eO H yL LL
 ok:gF (Nx hs ts qs) s0 LL
 fl:LL.flatten.length<=300
 pw:(aO hs).length ^ qs.length<=300
theorem Dn.same{K:aj}{CG CW:Addr}{H H':Hp}{lh lt lz d g0 pw lL dh:Addr}{hs:Xa}{ts:Xb}{ss qs:aN}{fp:ao}{ns:ae}{f:bh}{s0:ak}{yL:ai}{LL:List (List ak)}(h:Dn K CG CW H lh lt lz d g0 pw lL dh hs ts ss qs fp ns f s0 yL LL)(s:aa H H'):Dn K CG CW H' lh lt lz d g0 pw lL dh hs ts ss qs fp ns f s0 yL LL:=by
 let#[#[yh,a1,a2],#[zs,c1,c2],#[yp,b1,b2],G,S,s8,Gg,hd,St,hL,ly,ok,fl,pw]:=h;exact#[#[yh,s _ _ a1,a2.same s],#[zs,s _ _ c1,c2.same s],#[yp,s _ _ b1,xY b2 s],G,S,s8,Gg.same s,s _ _ hd,#[s _ _ St.hd,St.wa,St.ok,St.s0],s _ _ hL,ly.same s,ok,fl,pw]
theorem Ic{N:ak->ak->Prop}{s0:ak}{LL:List (List ak)}(h:gF N s0 LL)(c:Nat):(LL.take (c+1)).flatten.Nodup/\∀s,s∈(LL.take (c+1)).flatten ↔ ∃j,j<=c/\Ds N s0 j s:=by
 have is:∀(j:Nat) L,(LL.take (c+1))[j]? = some L->L.Nodup/\∀s,s∈L ↔ Ds N s0 j s:=λj L e=>by
  rw[List.getElem?_take] at e;split at e
  ·exact h.is j L e
  cases e
 apply#[Sg is,(tZ.mem (c:=c) #[is,by rw[dR];omega,λj z hj dz=>?_])];let#[L,hL,_]:=h.mem dz;have:=(b_.mp hL).1;rw[dR];omega
theorem hP_{N:ak->ak->Prop}{s0:ak}{hs:Xa}{qs:aN}{LL:List (List ak)}(h:gF N s0 LL){c n:Nat}{r:Int}(R:tY N s0 hs qs c n r):n=(LL.take (c+1)).flatten.length:=by
 let#[l,nd,mem,e]:=R.ex;let#[Xv,Dx]:=Ic h c;let h1:=List.Nodup.length_le_of_subset nd λs hs=>(Dx s).mpr ((mem s).mp hs);let h2:=List.Nodup.length_le_of_subset Xv λs hs=>(mem s).mpr ((Dx s).mp hs);omega
theorem Sr{H:Hp}:∀{ys:ai} {LL:List (List ak)},eO H ys LL->∃(as:ao) (rows:List ai),ys=as.map V.ref/\Paired (λa r=>H a\.lst r) as rows/\gR H rows.flatten LL.flatten
 |_,_,.nil=>#[[],[],U,.nil,.nil]
 |_,_,.cons ⟨a,zs,e,h1,h2⟩ t=>by
  let#[as,rows,e2,p,q]:=Sr t;exact#[a::as,zs::rows,by rw[e,e2];rfl,.cons h1 p,gU h2 q]
theorem eO.take{H:Hp}{ys:ai}{LL:List (List ak)}(h:eO H ys LL)(n:Nat):eO H (ys.take n) (LL.take n):=UH n h
structure F6 (P:Ad) (w:Af) (K:aj) (mg:Str->Option Aa) (base:Heap) (CG CW:Addr):Prop where
 cF:!bu 8 "fewest_moves" oG (Iq K CG CW)
 cR:!bu 8 "reached_by" ["goods","stand","count"] (Oe K CG CW)
 cI:!bu 3 "_law_is_least" Bx (Oj K)
 cN:!bu 2 "_law_none_below" Bx (ND K)
end Ev
namespace Jq
open PySem PySem.Spec PyProof.Rows PySem.W
section
variable{prog:Ad}{w:Af}{A:Ag}
abbrev Ff(it S:Addr):Code:=.builtin "sum.loop" #[[.ref it,.ref S,rawInt 2,rawInt 0],[]]
theorem Yp{it S l t:Addr}{i n:Nat}{its:Array Aa}{s:Ab}{R:Result->Ab->Prop}(hh:A.handled=none)(hS:s.heap.get? S=some { cls:=.type "list",data:=.seq (List.toArray [.ref t]) n })(hit:s.heap.IsListIter it l i)(hl:s.heap.IsList l its)(hi:its[i]? = none)
  (h:∀h',Heap.ExtBut it s.heap h'->R (.ok (.ret (.ref t))) { s with heap:=h' }):codeAny (model prog w) A (Ff it S) R s:=by
 apply codeAny_builtin F.entry_sum_loop ?_;rw[xX F.plain_sum_loop _];apply af (jL hS U ?_);apply af (wpAny_tryCatch (wpAny_pyNext_list_end hh hit hl hi λh' he=>?_));exact aC (h h' he)
theorem YY{it S l t a:Addr}{i n m1 m2:Nat}{its xs ys:Array Aa}{s:Ab}{R:Result->Ab->Prop}(zZ:S≠it)(D9:t≠it)(LP:a≠it)(hS:s.heap.get? S=some { cls:=.type "list",data:=.seq (List.toArray [.ref t]) n })(hit:s.heap.IsListIter it l i)(hl:s.heap.IsList l its)(hi:its[i]? = some (.ref a))
  (ht:s.heap.get? t=some { cls:=.type "list",data:=.seq xs m1 }) (ha:s.heap.get? a=some { cls:=.type "list",data:=.seq ys m2 }) (hz:xs.size+ys.size<=sizeLine)
  (h:∀(r:Addr) (h':Heap) (n':Nat),h'.get? S=some { cls:=.type "list",data:=.seq (List.toArray [.ref r]) n' }->h'.IsListIter it l (i+1)->s.heap.objs.size<=r->h'.get? r=some { cls:=.type "list",data:=.seq (xs++ys) }->r≠S->r≠it->Kp it S s.heap h'->codeAny (model prog w) A (Ff it S) R { s with heap:=h' }):codeAny (model prog w) A (Ff it S) R s:=by
 apply codeAny_builtin F.entry_sum_loop ?_;rw[xX F.plain_sum_loop _];apply af (jL hS U ?_);apply af (wpAny_tryCatch (wpAny_pyNext_list_item hit hl hi λh1 vO vL=>?_));let RQ:=vL.extBut _ _ zZ hS;let uj:=vL.extBut _ _ D9 ht;let EU:=vL.extBut _ _ LP ha;apply af (wpAny_attempt (iK (P.add_list (n:=m1) (n2:=m2) uj EU ?_ hz)));have LX:(h1.push { cls:=.type "list",data:=.seq (xs++ys) }).get? S=some { cls:=.type "list",data:=.seq (List.toArray [.ref t]) n }:=aS _ RQ;have iT:(h1.push { cls:=.type "list",data:=.seq (xs++ys) }).get? h1.objs.size=some { cls:=.type "list",data:=.seq (xs++ys) }:=cy _ U;have k2:∀b o,h1.get? b\o->(h1.push { cls:=.type "list",data:=.seq (xs++ys) }).get? b\o:=λb o e=>aS _ e;have hr:s.heap.objs.size<=h1.objs.size:=Nat.le_of_eq vL.1.symm;have Lc:h1.objs.size≠S:=bG (dC (bp RQ))
 have hri:h1.objs.size≠it:=by
  let#[o,e,_]:=vO;exact bG (dC (bp e))
 show wpAny (model prog w) A.in1 _ _ _ { s with heap:=h1.push { cls:=.type "list",data:=.seq (xs++ys) } };generalize h1.push { cls:=.type "list",data:=.seq (xs++ys) }=h2 at LX iT k2 ⊢;let#[n3,LW]:=Tr (old:=[.ref t]) (new:=[.ref h1.objs.size]) LX
 have k3:∀b o,b≠S->h2.get? b\o->(h2.update S (Obj.mapSeq λ_=>[Value.ref h1.objs.size].toArray)).get? b\o:=λb o hb e=>by
  rw[p_ _ _ (bG hb)];exact e
 apply af (wpAny_updateSeq LX U (af (wpAny_letGo ?_)) (zl) (by show 1<=sizeLine+1;decide));show wpAny (model prog w) A.in1 _ _ _ { s with heap:=h2.update S (Obj.mapSeq λ_=>[Value.ref h1.objs.size].toArray) };generalize h2.update S (Obj.mapSeq λ_=>[Value.ref h1.objs.size].toArray)=h3 at LW k3 ⊢;let#[n4,hS4]:=Tr (old:=[.ref h1.objs.size]) (new:=[.ref h1.objs.size]) LW
 have k4:∀b o,b≠S->h3.get? b\o->(h3.update S (Obj.mapSeq λ_=>[Value.ref h1.objs.size].toArray)).get? b\o:=λb o hb e=>by
  rw[p_ _ _ (bG hb)];exact e
 apply af (wpAny_updateSeq LW U (aC #[plainId_quiet F.plain_sum_loop _,?_]) (zl) (by show 1<=sizeLine+1;decide));apply h h1.objs.size _ n4 hS4 (vO.at λo e=>k4 _ _ zZ.symm (k3 _ _ zZ.symm (k2 _ _ e))) hr (k4 _ _ Lc (k3 _ _ Lc iT)) Lc hri λb o b1 b2 e=>k4 _ _ b2 (k3 _ _ b2 (k2 _ _ (vL.extBut _ _ b1 e)))
theorem YB{it S l:Addr}(zZ:S≠it)(LV:S≠l)(EC:l≠it)(hh:A.handled=none){as:ao}{its:Array Aa}(hits:its=(as.map Value.ref).toArray):∀(k i:Nat) (t:Addr) (xs:Array Aa) (rows:List ag) (n m1:Nat) (s:Ab) (R:Result->Ab->Prop),as.length - i=k->i<=as.length->
  Paired (λa r=>a≠it/\a≠S/\∃m,s.heap.get? a=some { cls:=.type "list",data:=.seq (List.toArray r) m }) (as.drop i) rows->t≠it->t≠S->xs.size+rows.flatten.length<=sizeLine->
  s.heap.IsListIter it l i->s.heap.IsList l its->s.heap.get? S=some { cls:=.type "list",data:=.seq (List.toArray [.ref t]) n }->s.heap.get? t=some { cls:=.type "list",data:=.seq xs m1 }->
  (∀(r:Addr) (m:Nat) h',h'.get? r=some { cls:=.type "list",data:=.seq (xs++rows.flatten.toArray) m }->(r=t/\m=m1/\rows=[]∨s.heap.objs.size<=r)->Kp it S s.heap h'->R (.ok (.ret (.ref r))) { s with heap:=h' })->codeAny (model prog w) A (Ff it S) R s:=by
 intro k
 induction k with
 |zero=>
  intro i t xs rows n m1 s R hk hi hp D9 htS hz hit hl hS ht hR;have ei:i=as.length:=by omega
  subst ei;rw[List.drop_length] at hp;cases hp;apply Yp hh hS hit hl (by rw[hits];simp) λh' he=>hR t m1 h' ?_ (.inl #[U,U,U]) λb o b1 _ e=>he b o b1 e;rw[he _ _ D9 ht];simp
 |succ k ih=>
  intro i t xs rows n m1 s R hk hi hp D9 htS hz hit hl hS ht hR;have dW:i<as.length:=by omega
  rw[List.drop_eq_getElem_cons dW] at hp;cases hp with
  |@cons a r _ rows h hp=>
   let#[LP,haS,m2,ha]:=h;rw[List.flatten_cons,eM] at hz;apply YY zZ D9 LP hS hit hl (by rw[hits];simp[dW]) ht ha (by simp only[cQ];omega) λq h' n' hS' zN hq hq' hqS hqi kk=>?_;apply ih (i+1) q (xs++r.toArray) rows n' 0 _ R Z1 Z1 (L2.Paired.aU hp λa r ⟨h1,h2,m,e⟩=>#[h1,h2,m,kk _ _ h1 h2 e]) hqi hqS (by simp only[Array.size_append,cQ];omega) zN ?_ hS' hq' λr2 m h2 e o k2=>hR r2 m h2 ?_ (.inr ?_) λb o' b1 b2 e'=>k2 b o' b1 b2 (kk b o' b1 b2 e')
   ·let#[o,e,r]:=hl;exact#[o,kk _ _ EC LV.symm e,r]
   ·rw[e,List.flatten_cons];simp
   rcases o with⟨rfl,_⟩|o
   ·exact hq
   exact gm hq (Nat.le_of_lt (ja (bp hq') o))
theorem oP{l st:Addr}(hh:A.handled=none){as:ao}{rows:List ag}{m0:Nat}{s:Ab}{Q E:Aa->Ab->Prop}(hl:s.heap.IsList l (as.map Value.ref).toArray)(lZ:s.heap.get? st=some { cls:=.type "list",data:=.seq #[] m0 })
  (hp:Paired (λa r=>∃m,s.heap.get? a=some { cls:=.type "list",data:=.seq (List.toArray r) m }) as rows) (hz:rows.flatten.length<=sizeLine)
  (h:∀(r:Addr) (m:Nat) h',h'.get? r=some { cls:=.type "list",data:=.seq rows.flatten.toArray m }->(r=st/\m=m0/\rows=[]∨s.heap.objs.size<=r)->(∀b o,s.heap.get? b\o->h'.get? b\o)->Q (.ref r) { s with heap:=h' }) :
  wpAny (model prog w) A (call (.builtin "sum") [.ref l,.ref st]) Q E s:=by
 apply wpAny_call (codeAny_call_builtin F.plain_sum F.entry_sum ?_);have hck:checkBuiltinCall "sum" #[[.ref l,.ref st],[]]=pure ():=by rfl
 show wpAny (model prog w) A.in1 (checkBuiltinCall "sum" #[[.ref l,.ref st],[]]) _ _ s;rw[hck];apply aC ?_
 have hb:Builtin.sum #[[.ref l,.ref st],[]]=(do
   let it <- pyIter (.ref l)
   forIn [("str","strings","''"),("bytes","bytes","b''"),("bytearray","bytearray","b''")] PUnit.unit λ(x:String × String × String) (_:PUnit)=>do
    let y <- isInstance (.ref st) (.type x.1)
    if y=true then do
     rule "sum.start-refused"
     raiseErrorMade "TypeError" (toString "sum() can't sum "++toString x.2.1++toString " [use "++toString x.2.2++toString ".join(seq) instead]")
     pure (ForInStep.yield PUnit.unit)
    else pure (ForInStep.yield PUnit.unit)
   let b <- newList [.ref st]
   again (.builtin "sum.loop" #[[it,b,rawInt 2,rawInt 0],[]])):=by rfl
 rw[hb];have ll:l<s.heap.objs.size:=by let#[_,e,_]:=hl;exact bp e
 apply af (wpAny_pyIter_list hl ?_)
 have ED:s.heap.objs.size<(s.heap.push { cls:=.type "list_iterator",data:=.fields (List.toArray [.ref l,.int 0 0]) }).objs.size:=by
  have:(s.heap.push { cls:=.type "list_iterator",data:=.fields (List.toArray [.ref l,.int 0 0]) }).get? s.heap.objs.size\_:=cy _ U;exact bp this
 have hit:(s.heap.push { cls:=.type "list_iterator",data:=.fields (List.toArray [.ref l,.int 0 0]) }).IsListIter s.heap.objs.size l 0:=#[_,cy _ U,U,U];let eY:=hl.push { cls:=.type "list_iterator",data:=.fields (List.toArray [.ref l,.int 0 0]) };have k1:∀b o,s.heap.get? b\o->(s.heap.push { cls:=.type "list_iterator",data:=.fields (List.toArray [.ref l,.int 0 0]) }).get? b\o:=λb o e=>aS _ e;show wpAny (model prog w) A.in1 _ _ _ { s with heap:=s.heap.push { cls:=.type "list_iterator",data:=.fields (List.toArray [.ref l,.int 0 0]) } };generalize s.heap.push { cls:=.type "list_iterator",data:=.fields (List.toArray [.ref l,.int 0 0]) }=g1 at ED hit eY k1 ⊢;have ty:({ s with heap:=g1 }:Ab).TypeIs (.ref st) "list":=#[_,k1 _ _ lZ,U];apply af ?_;rw[qb];apply af (af (wpAny_isInstance ty (b:=false) U ?_));rw[aB gc];apply aC ?_;show wpAny (model prog w) A.in1 (forIn [("bytes","bytes","b''"),("bytearray","bytearray","b''")] PUnit.unit _) _ _ _;rw[qb];apply af (af (wpAny_isInstance ty (b:=false) U ?_));rw[aB gc];apply aC ?_;show wpAny (model prog w) A.in1 (forIn [("bytearray","bytearray","b''")] PUnit.unit _) _ _ _;rw[qb];apply af (af (wpAny_isInstance ty (b:=false) U ?_));rw[aB gc];apply aC ?_;show wpAny (model prog w) A.in1 (pure PUnit.unit) _ _ _;apply aC (af (wpAny_newList (aC #[plainId_quiet F.plain_sum_loop _,?_]) (zl)));have hS:(g1.push { cls:=.type "list",data:=.seq (List.toArray [.ref st]) }).get? g1.objs.size=some { cls:=.type "list",data:=.seq (List.toArray [.ref st]) 0 }:=cy _ U;have k2:∀b o,g1.get? b\o->(g1.push { cls:=.type "list",data:=.seq (List.toArray [.ref st]) }).get? b\o:=λb o e=>aS _ e;let jh:=eY.push { cls:=.type "list",data:=.seq (List.toArray [.ref st]) };show codeAny (model prog w) A (Ff s.heap.objs.size g1.objs.size) _ { s with heap:=g1.push { cls:=.type "list",data:=.seq (List.toArray [.ref st]) } };generalize g1.push { cls:=.type "list",data:=.seq (List.toArray [.ref st]) }=g2 at hS k2 jh ⊢;have k3:∀b o,s.heap.get? b\o->g2.get? b\o:=λb o e=>k2 _ _ (k1 _ _ e);have zZ:g1.objs.size≠s.heap.objs.size:=bG (dC ED);have LV:g1.objs.size≠l:=bG (dC (Nat.lt_trans ll ED));have EC:l≠s.heap.objs.size:=dC ll;have ui:∀b o,s.heap.get? b\o->b≠s.heap.objs.size/\b≠g1.objs.size:=λb o e=>#[dC (bp e),dC (Nat.lt_trans (bp e) ED)];have CK:s.heap.objs.size<=g2.objs.size:=Nat.le_of_lt (Nat.lt_trans ED (bp hS));apply YB zZ LV EC hh U as.length 0 st #[] rows 0 m0 _ _ U (gE _) (L2.Paired.aU hp λa r ⟨m,e⟩=>#[(ui _ _ e).1,(ui _ _ e).2,m,k3 _ _ e]) (ui _ _ lZ).1 (ui _ _ lZ).2 ⇑hz (hit.at λo e=>k2 _ _ e) jh hS (k3 _ _ lZ) λr m h' e o kk=>h r m h' ⇑e ?_ λb o' e'=>kk b o' (ui _ _ e').1 (ui _ _ e').2 (k3 _ _ e');rcases o with o|o
 ·exact .inl o
 exact .inr (gm CK o)
end
end Jq
namespace L2
open PySem PySem.Spec PyProof.Rows PySem.W
inductive C9 (K:aj) (xs:ai) (H:Hp) (Q:VK):Prop
 |mk:∀(l st:Addr) (as:ao) (rows:List ai),xs=[.ref l,.ref st]->dZ K H l (as.map V.ref)->H st\.lst []->Paired (λa r=>H a\.lst r) as rows->rows.flatten.length<=sizeLine->(∀(r:Addr) (H':Hp),aa H H'->H' r\.lst rows.flatten->Q (.ref r) H')->C9 K xs H Q
theorem R_:∀{as:ao} {vs:ag},Vals (as.map V.ref) vs->vs=as.map Value.ref
 |[],_,.nil=>rfl
 |a::as,_,.cons r t=>by
  cases r;rw[R_ t];rfl
theorem SR{X:Cx}{pins:List (Addr × Obj)}{σ:St}{H:Hp}{s:Ab}(I:Inv X pins σ H s):∀{as:ao} {rows:List ai},Paired (λa r=>H a\.lst r) as rows->∃vs:List ag,Paired (λa r=>∃m,s.heap.get? a=some { cls:=.type "list",data:=.seq (List.toArray r) m }) as vs/\Vals rows.flatten vs.flatten
 |[],_,.nil=>#[[],.nil,.nil]
 |a::as,_,.cons h t=>by
  let#[vs,p,v]:=SR I t;let#[_,its,n,r,e]:=I.ay a _ h;exact#[its::vs,.cons #[n,e] p,by rw[List.flatten_cons,List.flatten_cons];exact r.append v]
theorem fX_{X:Cx}(hc:X.calm=true):gG X (.builtin "sum") (C9 X.K):=by
 intro pins s σ H xs us Q I rr h;let#[l,st,as,rows,rfl,hl,lZ,hp,hz,q]:=h;let#[u,v,rfl,ru,rv]:=Vals.two rr;cases ru;cases rv;let#[its,rl,pl,z]:=I.list hl;obtain rfl:=R_ rl;let#[vs,pv,vv]:=SR I hp;let#[_,ZT,n0,r0,e0]:=I.ay st _ lZ;cases r0;apply Jq.oP (I.ok.hd hc) pl.isList e0 pv (by rw[<- vv.length];exact hz) λra m h' hr o kk=>?_;rcases o with⟨rfl,rfl,e⟩|o
 ·have er:rows=[]:=by
   cases hp with
   |nil=>rfl
   |cons _ _=>cases pv;cases e
  subst er;exact#[.ref ra,H,I.kept (t':=s.toks) kk,U,q ra H (aa.refl H) lZ]
 exact#[.ref ra,_,I.laid (o:=.lst rows.flatten) (t':=s.toks) kk o #[hz,_,m,vv,hr],U,q ra _ (aa.new (I.ay.fresh o)) az]
end L2
namespace Ev
open PySem L2
abbrev fB:List Stmt:=E7 (y4 (gz fo) 0)
section v
theorem Ii{fl CG CW:Addr}{cd:Aa}{A:Ag}{outer:List Env}{s:Ab}{Hi:Hp}{E:XK}(hr:aP 9 (A.deeper (PyProof.Rows.envOfC "law" (aX fo) s.heap.objs.size fl cd)))(B:Bi mg)(y_:mg "sum"=none)(C:F6 P w K mg base CG CW):∃t,jX (iZ a9 P w K mg base lN "law" (aX fo) fl cd A outer s Hi E).xr (fB.drop 10) t /\
  ∀(D:Ends) (H:Hp) (w1 w2 w3 w5 w7:V) (Cq ue ud uc ub:aE) (lh lt lz d g0 pw lL dh lc:Addr) (hs:Xa) (ts:Xb) (ss qs:aN) (fp:ao) (ns:ae) (f:bh) (s0:ak) (yL:ai) (LL:List (List ak)) (c:Nat),Dn K CG CW H lh lt lz d g0 pw lL dh hs ts ss qs fp ns f s0 yL LL->c<=1000->H lc\.lst [.int 0,.int 1,.int 2,.int 3000,.int c,.int 1]->
   (∀Cq ue ud uc ub H',aa H H'->D.nx [some w1,some w2,some w3,some (.ref lh),some (.ref lt),some w5,some (.ref d),some (.ref lz),some (.ref g0),some (.ref lL),some (.ref dh),some (.ref lc),Cq,ue,ud,uc,ub] H')->
   t D [some w1,some w2,some w3,some (.ref lh),some (.ref lt),some w5,some (.ref d),some (.ref lz),some (.ref g0),some (.ref lL),some (.ref dh),some (.ref lc),Cq,ue,ud,uc,ub] H:=by
 let hu:=fO hr;let sz:=cU;have cF2:!bu 8 "fewest_moves" oG (lu K CG CW):=C.cF.imp Mq;have hz:∀{X:Cx},j9 X 0 rZ:=NP;refine' #[_,aw ?Kj (aw ?Ki (aw ?WY (aw ?WX (aF ?WW)))),?kk]
 case Kj=>exact bo 12 jm.nd AB
 case' Ki=>refine' ed dH U (dE (pv 11)) (cq 13 jm.nd) (aw ?d1 (aw ?d2 (aw ?d3 (aw ?d4 (aw ?d5 (aw ?d6 (aF ?d7)))))))
 case d1=>exact bo 14 jm.nd (cZ (fX_ U) (by rfl) y_ PyProof.Rows.Boot.«sum» %[AI MJ (pv 9) AQ (AR (bJ ie (pv 13) aD)),fF bF|0])
 case d2=>exact bo 15 jm.nd (bg C.cR hr %[8,10,13|0])
 case d3=>exact cg (tq (fi (e_ (cZ mN (by rfl) B.kh kC %[15,mJ (v:=.ty "tuple") (by rfl) B.tuple wJ U|0]))) (tq (fh tG (cZ ic (by rfl) B.len gH %[15|0]) aD) (uN (fh (Y_ (Nat.lt_of_succ_lt (mF hr 0))) (pv 10) (pv 6))))).pt (aF (bx gI)) cm
 case d4=>exact cg (fh tG (bz cw (pv 15) aD) (cZ ic (by rfl) B.len gH %[14|0])) (aF (bx gI)) cm
 case d5=>exact cg (fi (e_ (bg C.cI hr %[3,7,14,bz cw (pv 15) aD|0]))) (aF (bx gI)) cm
 case d6=>exact cg (fi (e_ (bg C.cN hr %[3,7,14,bz cw (pv 15) aD|0]))) (aF (bx gI)) cm
 case d7=>exact cg (fh E3 (pv 13) aD) (aF (bo 12 jm.nd (bz cw (pv 15) aD))) cm
 case WY=>exact bo 16 jm.nd (bg cF2 hr %[8,10,12,aD|0])
 case WX=>exact cg (tq (fh tG (bz cw (pv 16) aD) xZ) (uN (fh (_z hz hz (mF hr 0) (mF hr 0)) (bz cw (bg C.cR hr %[8,10,cZ ic (by rfl) B.len gH %[bz cw (pv 16) aD|0]|0]) aD) (pv 12)))).pt (aF (bx gI)) cm
 case WW=>exact cg (Ma (fh GQ (cZ ic (by rfl) B.len gH %[bz cw (pv 16) aD|0]) aD) (MB (fh (Y5 hz hz (mF hr 0) (mF hr 0)) (bz cw (bg C.cR hr %[8,10,bJ BE (cZ ic (by rfl) B.len gH %[bz cw (pv 16) aD|0]) aD|0]) aD) (pv 12)))).pt (aF (bx gI)) cm
 intro D H w1 w2 w3 w5 w7 Cq ue ud uc ub lh lt lz d g0 pw lL dh lc hs ts ss qs fp ns f s0 yL LL c Z c6 xG k;let#[r9,R9]:=ME Z.G qs (fS qs s0);let sS:=Z.S;have Jy:Vs hs qs s0:=Z.St.vs;let mo:=tI Z.G;let l8:=Z.s8;let Qu:=Z.S.len;have rR:(aO hs).length ^ qs.length<=3000:=gm Z.pw (by decide)
 have Pu:∀n,∀z∈(LL.take (n+1)).flatten,Vs hs qs z:=λn z hz=>by
  let#[j,_,dz]:=((Ic Z.ok n).2 z).mp hz;exact dz.1.vs Jy
 have Mp:∀n,(LL.take (n+1)).flatten.length<=300:=λn=>by
  have:=List.sublist_append_left (LL.take (n+1)).flatten (LL.drop (n+1)).flatten;rw[<- List.flatten_append,List.take_append_drop] at this;exact gm this.length_le Z.fl
 have DS:∀{z:ak} {r},jN hs qs (fS qs z) r->we (fr r (bP hs)):=λR=>fl_ Z.G Z.S.wp Z1 R;have Kh:∀{z:ak} {r},jN hs qs (fS qs z) r->0<=r:=λR=>(HY Z.G Z.S.wp Z1 R).1;let DR:=bj Z.ly
 let fst:V->Hp->Prop:=λv H'=>∃(u:Addr) (n:Nat) (r:Int),v=.ref u/\ia H' u (fr r (bP hs))/\tY (Nx hs ts qs) s0 hs qs 3000 n r
 let Iw:bO:=λi σ H'=>∃(v:V) (ue ud uc ub:aE),σ=[some w1,some w2,some w3,some (.ref lh),some (.ref lt),some w5,some (.ref d),some (.ref lz),some (.ref g0),some (.ref lL),some (.ref dh),some (.ref lc),some v,ue,ud,uc,ub]/\aa H H'/\(4<=i->fst v H')
 apply CZ (R:=λσ H'=>Iw 0 σ H') ?_ (λN hN=>?_);rotate_left 1
 ·exact hN _ _ #[_,_,_,_,_,U,aa.refl _,λh=>absurd h (by decide)]
 intro σ H2 h0;apply CZ (R:=λσ H'=>Iw 6 σ H') ?_ (λN hN=>?_);rotate_left 1
 ·let h0':=h0;let#[v,ue,ud,uc,ub,rfl,s2,_]:=h0';apply#[_,U,lc,U,#[_,.of (s2 _ _ xG)],?_];apply gi (K:=K) (a:=lc) (xs:=[.int 0,.int 1,.int 2,.int 3000,.int c,.int 1]) Iw ?_ ?_ ?_ ?_
  ·exact h0
  ·rintro i σ H' _ ⟨_,_,_,_,_,_,sm,_⟩;exact .of (sm _ _ xG)
  ·rintro i y σ H3 hy ⟨v,ue,ud,uc,ub,rfl,s3,fv⟩
   obtain⟨m,rfl,m6,mi⟩:∃m:Nat,y=.int m/\m<=3000/\(i=3->m=3000):=by
    match i,hy with
    |0,hy=>exact#[0,(cu hy).symm,by decide,by decide]
    |1,hy=>exact#[1,(cu hy).symm,by decide,by decide]
    |2,hy=>exact#[2,(cu hy).symm,by decide,by decide]
    |3,hy=>exact#[3000,(cu hy).symm,by decide,λ_=>rfl]
    |4,hy=>exact#[c,(cu hy).symm,by omega,by omega]
    |5,hy=>exact#[1,(cu hy).symm,by decide,by decide]
    |_+6,hy=>cases hy
   let Z3:=Z.same s3;apply#[_,U,_,U,_,_,U,U,_,U,lL,_,U,.of Z3.hL,λl2 Xr=>?_];rw[show (some ((m:Int)+1))=some ((m+1:Nat):Int) from U,Od];let#[s4,e4]:=aI (o:=.lst (yL.take (m+1))) Xr;generalize upd H3 l2 (.lst (yL.take (m+1)))=H4 at s4 e4 ⊢;apply#[zl,λl0 Xs=>?_];let#[s5,e5]:=aI (o:=.lst []) Xs;let yW:=s4.trans s5;let BD:=s5 _ _ e4;generalize upd H4 l0 (.lst [])=H5 at s5 e5 yW BD ⊢;let#[as,rows,ea,pr,P6]:=Sr ((Z3.ly.same yW).take (m+1));rw[ea] at BD;have XO:rows.flatten.length=(LL.take (m+1)).flatten.length:=bj P6;apply#[l2,l0,as,rows,U,.of BD,e5,pr,by have:=Mp m;omega,λlk H6 s6 e6=>?_];let PY:=yW.trans s6;let Z6:=Z3.same PY;have PL:gR H6 rows.flatten (LL.take (m+1)).flatten:=P6.keep λ_ _ e=>s6 _ _ e;apply#[_,U,_,U,_,U,g0,pw,dh,hs,ts,qs,fp,s0,ns,f,m,U,Z6.Gg,Z6.St,rR,by omega,λt u n r H7 s7 e7 f7 R=>?_];let PX:=PY.trans s7;let Z7:=Z3.same PX;let MO:=s7 _ _ e6;let CQ:=PL.keep λ_ _ e=>s7 _ _ e;let en:=hP_ Z.ok R;let#[z0,j0,RB,HX,R0]:=R.at_;let r0:=Kh R0;have U6:B1 K H7 lh lz lt u hs ts ss qs (fr r (bP hs)):=#[Z7.hh,Z7.hp,Z7.ht,f7,DS R0,Z.G,Z.S,l8];let F8:=((Ic Z.ok m).2 z0).mpr #[j0,RB,HX];let DP:=bj PL;apply#[_,U,_,_,_,_,U,.tup e7,U,_,U,aL ?_];apply#[_,U,t,_,U,.inr (.of e7),U,_,U,?_];apply Av (show V.int ((2:Nat):Int)=V.int 2 from U) ?_;apply#[_,U,_,U,dh,d,ns,ns,f,U,U,Z7.St.hd,Z7.hd,U,λ_ h=>h,#[_,U,aL ?_]];apply#[_,U,t,_,0,_,U,U,.of e7,L2.d8 (j:=0) U,_,U,lk,_,U,.inl (.of MO),U,_,U,?_];apply Av (by rw[en,DP]) ?_;apply#[_,U,_,U,_,U,_,U,t,_,1,_,U,U,.of e7,L2.d8 (j:=1) U,lh,lz,lt,lk,u,_,_,hs,ts,ss,qs,r,U,U6,MO,CQ,Pu m,gm (Mp m) (by decide),r0,#[z0,F8,R0],λH8 s8=>#[_,U,aL ?_]];apply#[_,U,_,U,_,U,_,U,t,_,1,_,U,U,.of (s8 _ _ e7),L2.d8 (j:=1) U,lh,lz,lt,lk,u,_,_,hs,ts,ss,qs,r,U,U6.same s8,s8 _ _ MO,CQ.keep λ_ _ e=>s8 _ _ e,Pu m,gm (Mp m) (by decide),r0,λz hz r' R'=>?_,λH9 s9=>#[_,U,aL ?_]]
   ·let#[j,hj,dz]:=((Ic Z.ok m).2 z).mp hz;exact R.lo z j r' hj dz R'
   let Kb:=PX.trans (s8.trans s9);apply#[_,U,U,_,U,?_];apply bY (λc3=>?_) (λc3=>?_)
   ·have m3:m=3000:=by
     have:=V.int.inj (ph c3);omega
    apply#[_,U,t,_,1,_,U,U,.of (s9 _ _ (s8 _ _ e7)),L2.d8 (j:=1) U,?_];apply#[_,_,_,_,_,U,s3.trans Kb,λ_=>#[u,n,r,U,s9 _ _ (s8 _ _ f7),?_]];rw[<- m3];exact R
   have m3:i≠3:=λe=>c3 (cJ (by rw[mi e];rfl));apply#[_,_,_,_,_,U,s3.trans Kb,λh4=>?_];let#[u',n',r',e',f',R']:=fv Z1;exact#[u',n',r',e',Kb _ _ f',R']
  rintro σ H3 h;exact hN _ _ h
 clear h0;intro σ H3 ⟨v,ue,ud,uc,ub,sH,s3,fv⟩;subst sH;let#[u,n,r,rfl,fu,R]:=fv (by decide);let Z3:=Z.same s3;let#[z0,j0,RB,HX,R0]:=R.at_;let r0:=Kh R0;let XZ:=Mt Z.ok.ne;let fl:=Z.fl
 have TV:∀j z,Ds (Nx hs ts qs) s0 j z->j<1000:=λj z dz=>by
  let#[L,hL,_]:=Z.ok.mem dz;have:=(b_.mp hL).1;omega
 apply#[_,U,_,U,_,U,g0,pw,dh,u,hs,ts,qs,fp,s0,ns,f,fr r (bP hs),300,U,Z3.Gg,Z3.St,fu,DS R0,by decide,by decide,λj z dz=>by have:=TV j z dz;omega,λt H4 s4 td=>?_];rcases td with⟨td,_⟩|⟨_,XA⟩;rotate_left 1
 ·exact absurd XA (Z.ok.vw fl)
 rcases td with⟨x,ys,ms,sE,h1,h2,h3,h4,h5,h6,h7⟩|⟨_,h2⟩;rotate_left 1
 ·have:=h2 j0 z0 HX;rw[(G8 Z.G r0 R0).mpr (Int.le_refl _)] at this;cases this
 let XI:=bj h3;let lms:=TV _ _ h5;let Z4:=Z3.same s4;let#[rE,RE]:=ME Z.G qs (fS qs sE);have rE1:rE<=r:=(G8 Z.G r0 RE).mp h6;let rE2:=R.lo sE ms.length rE Z1 h5 RE;apply#[_,U,t,_,0,_,U,U,.of h1,L2.d8 (j:=0) U,U,_,U,?_];apply Av U ?_;apply#[_,U,_,U,_,U,t,_,1,_,U,U,.of h1,L2.d8 (j:=1) U,x,_,U,.inl (.of h2),g0,pw,dh,hs,ts,qs,fp,s0,ns,f,ys.length,U,Z4.Gg,Z4.St,rR,by omega,λt2 u2 n2 r2 H5 s5 e5 f5 R2=>?_];rw[XI] at R2
 have e2:r2=r:=by
  let#[z2,j2,RA,dz2,Rz2]:=R2.at_;let a1:=R.lo z2 j2 r2 Z1 dz2 Rz2;let a2:=R2.lo sE ms.length rE (bc _) h5 RE;omega
 subst e2;apply#[t2,_,1,_,U,U,.of e5,L2.d8 (j:=1) U,_,U,fr r2 (bP hs),fr r2 (bP hs),#[u2,_,_,U,.of f5,U,U],#[u,_,_,U,.of (s5 _ _ (s4 _ _ fu)),U,U],#[_,U,?_]];apply bY (λc=>?_) (λ_=>?_)
 ·simp at c
 let yW:=s4.trans s5;let Z5:=Z4.same s5;let o9:=s5 _ _ h1;let hG:=s5 _ _ h2;apply#[_,U,t,_,1,_,U,U,.of o9,L2.d8 (j:=1) U,x,_,U,.inl (.of hG),_,_,U,U,_,U,?_];apply bY (λc=>?_) (λ_=>?_);rotate_left 1
 ·exact k _ _ _ _ _ _ (s3.trans yW)
 have bZ:0<ys.length:=by
  have:=ph c;omega
 apply#[_,U,_,U,_,U,t,_,1,_,U,U,.of o9,L2.d8 (j:=1) U,x,_,U,.inl (.of hG),_,_,U,U,g0,pw,dh,hs,ts,qs,fp,s0,ns,f,ys.length - 1,?_,Z5.Gg,Z5.St,rR,by omega,λt3 u3 n3 r3 H6 s6 e6 f6 R3=>?_]
 ·rw[show ((ys.length:Int) - 1)=((ys.length - 1:Nat):Int) by omega];rfl
 let#[z3,j3,hj3,dz3,U5]:=R3.at_;let WM:=Kh U5
 have ne3:¬fr r3 (bP hs)=fr r2 (bP hs):=λe=>by
  let e3:=(Zh WM r0 mo.1).mp e;let h:=h7 j3 z3 Z1 dz3;rw[(G8 Z.G r0 U5).mpr Z1] at h;cases h
 apply#[t3,_,1,_,U,U,.of e6,L2.d8 (j:=1) U,_,U,fr r3 (bP hs),fr r2 (bP hs),#[u3,_,_,U,.of f6,U,U],#[u,_,_,U,.of (s6 _ _ (yW _ _ fu)),U,U],#[_,U,?_]];apply bY (λc=>?_) (λ_=>?_)
 ·exact absurd (ph c) ne3
 exact k _ _ _ _ _ _ (s3.trans (yW.trans s6))
end
end Ev
namespace Ev
open PySem L2
structure Pk (P:Ad) (w:Af) (K:aj) (mg:Str->Option Aa) (base:Heap) (CG CW:Addr):Prop where
 cD:!bu 1 vZ xV AO
 cH:!bu 3 "_law_hands" [hZ,"_law_most"] (Um K)
 cT:!bu 2 "_law_ties" [hZ,jP] (Nc K)
 cP:!bu 3 "_law_pieces" tU (Os K)
 cS:!bu 2 "_law_stand" oH (Oz K)
 cW:!j_ CW 5 "Web" ["self","hands","ties"] (Hu K CW)
 cG:!j_ CG 7 "Goods" ["self","web","pieces"] (I0 K CG CW)
 cL:!bu 2 "_law_layers" tW (N4 K)
def nv(K:aj)(T:Addr):Sp:=λvs H Q _=>∃(a:Addr) (ns:List Int),vs=[.ref a]/\H T\.tbl #[]/\dZ K H a (ns.map V.int)/\ns.length<=63/\∀H',Q (.bl true) H'
section v
theorem Yo{fl c0 CG CW T:Addr}{fd:Ae}(F:wN K "law" "law" fo fl c0 fd)(B:Bi mg)(y_:mg "sum"=none)(hC:PySem.W.CodeHd base c0 T)(xN:base.BuiltinsAt mg T)(C:Pk P w K mg base CG CW)(C2:F6 P w K mg base CG CW):!aq a9 10 fl fd [xU] (nv K T):=by
 apply F.ok jm (λvs H Q E h=>?_) (λA outer s H vs Q E hr h=>?_)
 ·let#[a,ns,rfl,_]:=h;rfl
 let#[ls,ns,rfl,hT,Lm,h63,k]:=h;let sz:=cU;let hu:=fO hr;have Bj:aP 3 _:=hr.mono (by decide);let#[tl,_Z,later]:=Ii (Hi:=H) (E:=E) (outer:=outer) hr B y_ C2;refine' #[_,aw ?s1 (aF (bx gI)),?kk]
 case' s1=>refine' ed dH U (dE (bJ Yk (fF %[aD|0]) (AI MJ (pv 0) AQ (AR aD)))) (cq 1 jm.nd) ?b0
 case' b0=>refine' aw ?q0 ?c1
 case' c1=>refine' aw ?q1 ?c2
 case' c2=>refine' aw ?q2 ?c3
 case' c3=>refine' aw ?q3 ?c4
 case' c4=>refine' aw ?q4 ?c5
 case' c5=>refine' aw ?q5 ?c6
 case' c6=>refine' aw ?q6 ?c7
 case' c7=>refine' aw ?q7 ?c8
 case' c8=>refine' aw ?q8 ?c9
 case' c9=>refine' aw ?q9 ?c10
 case c10=>exact _Z
 case q0=>exact bo 2 jm.nd (fF %[1|0])
 case q1=>exact bo 3 jm.nd (bg C.cH hr %[2,aD|0])
 case q2=>exact bo 4 jm.nd (bg C.cT hr %[2,3|0])
 case q3=>exact bo 5 jm.nd (bg C.cP hr %[2,4,aD|0])
 case q4=>exact bo 6 jm.nd (bg C.cS hr %[2,3,5|0])
 case q5=>exact bo 7 jm.nd (ha_ (px:=wm) (c_:=[]) (cl:=[]) (is:=[]) (k:=1) U (by rfl) B.sorted %[5|0] (_q (Zj (P:=T) (c:=c0) U NS U hC xN) Yt) Y0 Bj (λ_ h=>by cases h) (λ_ h=>by cases h) (λ_ h=>by cases h) U)
 case q6=>exact bo 8 jm.nd (GP C.cG hr %[GP C.cW hr %[3,4|0],5|0])
 case' q7=>refine' bo 9 jm.nd (bg C.cL hr %[7,4,jn OM (by rfl) B.tuple wJ %[kD [wm,"_law_stand_here"] 1 [6] (dE (pv 7)) (λfp s H=>?g6) (λfp s H=>mI) (λfp s H=>?e6)|0],aD|0])
 case g6=>exact gh (i:=0) (show ([wm,"_law_stand_here"]:ae).Nodup by decide +kernel) U (Or.inl U)
 case e6=>exact jo hu (pv 1) (bz (zp (K:=K) oU cw) (pv 0) aD)
 case q8=>exact bo 10 jm.nd (jn fR_ (by rfl) B.dict uH %[6|0])
 case q9=>exact bo 11 jm.nd (fF %[aD,aD,aD,aD,bg C.cD hr %[2,cZ ic (by rfl) B.len gH %[9|0]|0],aD|0])
 have sX:mC H T qL:=#[[],hT,λe he=>by cases he];apply#[zl,λa1 n1=>?_];let#[s1,k1]:=aI (o:=.lst [.int 0]) n1;generalize upd H a1 (.lst [.int 0])=H1 at s1 k1 ⊢;apply#[_,U,_,U,ls,_,U,ZS s1 Lm,λa2 n2=>?_];let#[s2,k2]:=aI (o:=.lst (dX (ns.map V.int) none (some 3))) n2;generalize upd H1 a2 (.lst (dX (ns.map V.int) none (some 3)))=H2 at s2 k2 ⊢;let lc:=OQ (ns.map V.int) none (some 3);rw[au] at lc;apply#[a1,a2,_,_,U,U,s2 _ _ k1,k2,by show 1+(dX (ns.map V.int) none (some 3)).length<=sizeLine;omega,λa3 n3=>?_];let#[s3,k3]:=aI (o:=.lst ([.int 0]++dX (ns.map V.int) none (some 3))) n3;generalize upd H2 a3 (.lst ([.int 0]++dX (ns.map V.int) none (some 3)))=H0 at s3 k3 ⊢;have Cv:mC H0 T qL:=sX.same ((s1.trans s2).trans s3)
 have allI:∀y∈[V.int 0]++dX (ns.map V.int) none (some 3),∃n,y=.int n:=λy hy=>by
  rcases dM.mp hy with hy|hy
  ·exact#[0,eD.mp hy]
  have hy:y∈ns.map V.int:=by
   unfold dX at hy;exact List.mem_of_mem_drop (List.mem_of_mem_take hy)
  let#[n,_,rfl]:=bw.mp hy;exact#[n,U]
 let Iv:bO:=λi σ H2=>∃(v1 v2 v3 v4 v5 v6 v7 v8 v9 va vb vc vd ve vf vg:aE),σ=[some (.ref ls),v1,v2,v3,v4,v5,v6,v7,v8,v9,va,vb,vc,vd,ve,vf,vg]/\NT H0 H2/\mC H2 T qL
 apply#[a3,U,#[_,.of k3],?_];apply gi (K:=K) (a:=a3) (xs:=[.int 0]++dX (ns.map V.int) none (some 3)) Iv ?_ ?_ ?_ ?_
 ·exact#[none,none,none,none,none,none,none,none,none,none,none,none,none,none,none,none,U,NT.refl H0,Cv]
 ·rintro i σ H' _ ⟨_,_,_,_,_,_,_,_,_,_,_,_,_,_,_,_,_,nt,_⟩;exact .of (nt.lst k3)
 rotate_left 1
 ·rintro σ H' ⟨_,_,_,_,_,_,_,_,_,_,_,_,_,_,_,_,rfl,_,_⟩;exact k H'
 rintro i y σ H2 hy ⟨v1,v2,v3,v4,v5,v6,v7,v8,v9,va,vb,vc,vd,ve,vf,vg,rfl,Xj,JP⟩;let#[n,rfl]:=allI y (cz hy);clear hy s1 k1 s2 k2 n1 n2 n3 s3 sX Cv k;apply#[_,U,zl,λl nl=>?_];let s3:=aa.new (o:=.lst [.int n]) nl;have iE:dQ (upd H2 l (.lst [.int n])) l:=.inl #[n,az];generalize upd H2 l (.lst [.int n])=H3 at s3 iE ⊢;apply#[_,U,l,3,U,by decide,by decide,iE,λlh yh hs H4 b4 iP pT eX tu g nd h1 h8=>?_];let#[Vp,um]:=iE.some;have vE:lh≠l:=(bq um pT).symm;apply#[_,U,_,U,l,lh,yh,hs,U,iP,eX,tu,λx hx=>?_,nd,by omega,vE,λlt yt ts H5 b5 iO pb dW tt tok Ge w_=>?_]
 ·let#[h,hh,rfl]:=bw.mp hx;exact (g h hh).1
 let#[Vo,Et]:=iP.some;have zg:lt≠l:=(bq Et pb).symm;have W:Good hs ts:=#[g,nd,h1,by omega,λt ht=>(tok t ht).1,Ge,w_,λt ht=>(tok t ht).2];apply#[_,U,_,U,l,lt,4,yt,ts,U,by decide,iO,dW,tt,zg,w_,W.tok,Ge,λlp yp ps H6 b6 ke Hc iI pc dp vo p3=>?_];let#[xs5,xI]:=iO.some;have DQ:lp≠l:=(bq xI Hc).symm;let uf:=jR (jR tu b5 Et) b6 xI;let zJ:=b6 _ _ (b5 _ _ eX vE) vE;apply#[_,U,_,U,_,U,l,lh,lp,yh,yp,hs,ps,U,ke,zJ,uf,vE,h1,by omega,iI,pc,DQ,vo,by omega,λd f H7 b7 kR E6 hd fm=>?_];let#[Pp,pR]:=ke.some;have D7:Dr K H7 l lh lt lp d hs ts ps f:=#[kR,#[yh,b7 _ _ zJ vE,jR uf b7 pR],#[yt,b7 _ _ (b6 _ _ dW zg) zg,jR (jR tt b6 xI) b7 pR],#[yp,b7 _ _ iI DQ,Paired.aU pc λy p q=>q.but b7 ke],hd,vE,zg,DQ];have PZ:aa H2 H7:=(((b4.trans b5).trans b6).trans b7).same nl s3;have Cu:mC H7 T qL:=JP.same PZ;clear b4 b5 b6 b7 iE iP iO ke kR pT pb Hc E6 um Et xI pR tu uf eX zJ dW tt iI pc hd s3;apply#[_,U,Kx (Fo ?_)];apply Yu Cu U U U U λHe c' H8 b8 JO LA G7=>?_;let#[tv,hT7]:=Y4 Cu;have Do:NT H7 H8:=b8.nt hT7;let D8:=D7.nt Do;let#[Vl,Ln,Gx]:=D8.hp;let DL:=bj Gx;apply#[.ref lp,He,c',Vl,Ku H8,[],U,U,LA,G7,.inl #[lp,U,.of Ln],by omega,U,λH' x sm hx=>?_,λlz zs H9 s9 Xg Xh pz ek=>?_]
 ·let#[j,hj,rfl]:=gJ hx;let#[t,v,e,ht,_]:=eP Gx j hj Z1;rw[e];apply#[t,_,_,U,U,sm _ _ ht,aa.refl _,?_];show V.str _=V.str (match H8 t with|some (.tup (.str n::_))=>n|_=>(⟨#[]⟩:Str));rw[ht]
 let#[ss,sp,Qc]:=ew_ pz Gx
 have esn:ss.map (·.1)=iA (ps.map (·.1)):=by
  rw[<- MA Qc,<- MA Gx];exact ek
 have sA:aa H8 (upd H9 lz (.lst zs)):=s9.trans (aa.new Xg);have eA:upd H9 lz (.lst zs) lz\.lst zs:=az;generalize upd H9 lz (.lst zs)=HA at sA eA ⊢;have Qd:jO K HA zs ss:=xY Qc sA;let DA:=D8.same sA;let JN:=JO.same sA;have Xi:NT H2 HA:=((NT.of PZ).trans Do).trans (NT.of sA)
 have GG:lz≠l:=by
  let#[xs,e]:=D8.st.some;exact (bq e Xh).symm
 have nV:(ss.map (·.1)).Nodup:=(sp.map (·.1)).nodup_iff.mpr vo;have XN:ss.length=ps.length:=sp.length_eq;let XG:=bj Qd;let#[#[yhC,hhC,VV],#[ztC,htC,V1],#[ypC,hpC,W5]]:=And.intro DA.hh (And.intro DA.ht DA.hp);apply#[_,U,_,U,?_];apply X7 W hhC VV htC V1 (λpw di HD sD Wb frw=>?_);apply#[_,U,?_];apply hU_ Wb W (sD _ _ hpC) (xY W5 sD) (λq hq=>(dp q hq).g) vo Z1 (λg0 qs Hd HE sE GA Qq frg=>?_);let#[fp,GA,has,sub]:=GA.CV;have S:eN ts ss qs:=YE Qq vo sp esn dp;let Qu:=S.len
 have lfp:l∉fp:=λm=>by
  let#[xs,e]:=DA.st.some;rcases frg l (sub l m) with z|z
  ·have:=frw l z;rw[e] at this;cases this
  rw[sD _ _ e] at z;cases z
 let C6:=sD.trans sE;let DE:=DA.same C6;have JM:mC HE T qL:=JN.same C6;let HV:=C6 _ _ eA;let Bc:=xY Qd C6;have Qi:qs.map (·.1)=ss.map (·.1):=S.y9;apply#[_,U,_,U,_,U,lz,U,#[_,.of HV],λD hD=>?_];apply kI (own:=1) (fv:=[some (.ref d)]) (xs:=zs) U fY (λi out H'=>aa HE H'/\H' D\.lst out/\out=((ss.take i).map λp=>f p.1).map V.str) #[aa.new hD,az,U] (λi out H' _ ⟨sm,_,_⟩=>.of (sm _ _ HV)) (λout HB ⟨sB,G_,eo⟩=>?_) (λj y out H' hy ⟨sm,dJ,eo⟩=>?_);rotate_left 1
 ·have hj:j<zs.length:=(b_.mp hy).1
  obtain⟨q,hq,t,v,rfl,ht,_⟩:∃q,ss[j]? = some q/\jb K HE y q:=by
   have:=eP Bc j hj Z1;rw[aY hj] at hy;cases hy;exact#[ss[j]' Z1,aY Z1,this]
  have qm:q.1∈ps.map (·.1):=bw.mpr #[q,sp.mem_iff.mp (cz hq),U]
  have dg:dP H' d (.str q.1) (some (.str (f q.1))):=by
   have:=dP.k (k:=.inr q.1) (sm _ _ DE.hd);rw[wz (g:=λn=>V.str (f n)) qm] at this;exact this
  apply#[_,U,U,λNx hN=>fV ?_];apply#[_,U,_,U,t,_,0,_,U,U,.of (sm _ _ ht),L2.d8 (j:=0) U,d,_,U,dg,out,dJ,?_,hN _ _ #[fR sm hD,az,?_]]
  ·rw[eo,au,au,dR];omega
  rw[yc _ hq,fg,eo];rfl
 rw[XG,eI] at eo;subst eo;obtain⟨s0,sX⟩:∃s0:ak,s0=ss.map λp=>f p.1:=#[_,U];rw[<- sX] at G_;apply#[D,_,U,.inl #[.of G_,λt0 Xk=>?_]];let#[sC,eC]:=aI (o:=.tup (sV s0)) Xk;let C3:=sB.trans sC;generalize upd HB t0 (.tup (sV s0))=HC at sC eC C3 ⊢;let DC:=DE.same C3
 have Jy:Vs hs qs s0:=by
  apply#[by rw[sX,au,Qu],λh hh=>?_];rw[sX] at hh;let#[q,hq,rfl]:=bw.mp hh;exact (fE hs).mem_iff.mpr (fm _ (bw.mpr #[q,sp.mem_iff.mp hq,U]))
 have Xq:(aO hs).length<=3:=by rw[W.gX];omega
 have Qh:(aO hs).length ^ qs.length<=300:=by
  have a1:(aO hs).length ^ qs.length<=3 ^ qs.length:=Nat.pow_le_pow_left Xq _;have a2:(3:Nat) ^ qs.length<=3 ^ 4:=Nat.pow_le_pow_right (by decide) Z1;omega
 let#[#[Vb,htE,V0],_]:=And.intro DC.ht DC.hp;let eAC:=C3 _ _ HV;apply#[lz,lt,t0,300,zs,Vb,hs,ts,ss,qs,s0,U,eAC,xY Bc C3,htE,V0,W,S,by omega,eC,Jy,Qh,by decide,λlL yL LL HF sF Xp eL Qo frL ok E8=>?_];let DF:=DC.same sF
 have X5:lL≠l:=by
  let#[xs,e]:=DC.st.some;exact (bq e Xp).symm
 have xR:∀b,V.ref b∈yL->b≠l:=λb hb=>by
  let#[xs,e]:=DC.st.some;exact (bq e (frL b hb)).symm
 let XZ:=Mt ok.ne;let DR:=bj Qo;apply#[_,U,d,_,U,.inl DF.hd,λdh Kz=>?_];let#[sJ,eJ]:=aI (o:=.dK (fw (ps.map (·.1)) f)) Kz;generalize upd HF dh (.dK (fw (ps.map (·.1)) f))=HJ at sJ eJ ⊢;let PQ:=C3.trans sF
 have M4:dh∉fp:=λm=>by
  let#[o,e]:=has dh m;rw[PQ _ _ e] at Kz;cases Kz
 let A_:=PQ.trans sJ;let DJ:=DE.same A_;let XJ:=Qo.same sJ;let Tv:=sJ _ _ eL
 have Xl:1<=yL.length:=by
  let#[n,hn,_]:=ok.last;omega
 apply#[_,U,_,U,lL,_,U,.inl (.of Tv),l,yL.length,U,by omega,by omega,DJ.st,λr HI q0 q1 bI stI=>?_]
 have tl:∀{c xs},HJ c\.tup xs->HI c\.tup xs:=λe=>by
  let#[xs,e2]:=DJ.st.some;exact bI _ _ e (bK e e2 nofun)
 let DI:=DJ.but bI stI;let#[c,rfl]:=AY q0;apply#[zl,λlc Xo=>?_];let#[sK,eK]:=aI (o:=.lst [.int 0,.int 1,.int 2,.int 3000,.int (c:Nat),.int 1]) Xo;generalize upd HI lc (.lst [.int 0,.int 1,.int 2,.int 3000,.int (c:Nat),.int 1])=HK at sK eK ⊢;let DK:=DI.same sK;have W2:(ps.map (·.1)).Perm (qs.map (·.1)):=by rw[Qi];exact (sp.map (·.1)).symm
 have MC:s0=(qs.map (·.1)).map f:=by rw[sX,Qi,cY];rfl
 have XH:HI lz\.lst zs:=bI _ _ (A_ _ _ HV) GG;have W3:jO K HI zs ss:=Paired.aU (xY Bc A_) λy p q=>q.but bI DJ.st;have GgI:Gs K CG CW HI g0 pw hs ts qs fp:=#[(GA.same A_).but bI DJ.st lfp,W,by rw[S.y9];exact nV,by omega,S.wp]
 have dhI:HI dh\.dK (fw (ps.map (·.1)) f):=by
  let#[xs,e2]:=DJ.st.some;exact bI _ _ eJ (bK eJ e2 nofun)
 have Zn:Dn K CG CW HI lh lt lz d g0 pw lL dh hs ts ss qs fp (ps.map (·.1)) f s0 yL LL:=#[DI.hh,DI.ht,#[zs,XH,W3],W,S,by omega,GgI,DI.hd,#[dhI,M4,#[W2,fm],MC],bI _ _ Tv X5,XJ.keep (λa m xs e=>bI _ _ e (xR a m)) (λc xs e=>tl e),ok,E8,Qh];apply later _ HK (.ref ls) (.int n) (.ref l) (.ref lp) .non _ _ _ _ _ lh lt lz d g0 pw lL dh lc hs ts ss qs fp (ps.map (·.1)) f s0 yL LL c (Zn.same sK) Z1 eK (λCq ue ud uc ub HL sL=>?_);have nt:NT H2 HL:=λb o e no=>(sK.trans sL) _ _ (bI _ _ (A_ _ _ (C6 _ _ (Xi _ _ e no))) (bq e nl));let#[xsJ,hlJ]:=DJ.st.some;exact#[_,_,_,_,_,_,_,_,_,_,_,_,_,_,_,_,U,Xj.trans nt,(mC.OF (JM.same A_) bI hlJ).same (sK.trans sL)]
end
end Ev
namespace Ev
open PySem L2
structure Fd (K:aj) (mg:Str->Option Aa) (x:Str) (st:Stmt):Prop where
 ex:∃f fd,br K x x st f fd/\mg x\.ref f/\PySem.W.keepIn K (.ref f)=true
theorem E9{K:aj}{h:Heap}{mg:Str->Option Aa}{x:Str}{st:Stmt}(X:K.In h)(G:h.Ns mainGlobals mg){f:Addr}{oc:Aa}{od an:Option Addr}{jx:Array (Option Aa)}{kV doc pm aM ct:Aa}(a:PySem.W.nsIn K mainGlobals x\some (.ref f))
  (l:K.lookup f=some #[oc,od,.func (PySem.W.fnOf x x (hU st) (gz st) (aX st) .none kV doc pm an aM ct),jx]) (c:PySem.W.codeIn K aM x=true) (k:PySem.W.keepIn K (.ref f)=true):Fd K mg x st:=#[_,_,QV l c k,PySem.W.mg_of X G a,k]
structure Md (K:aj) (C:Addr) (m qual:Str) (st:Stmt):Prop where
 ex:∃f fd,br K m qual st f fd/\Meth K C m f
theorem Dz{K:aj}{C:Addr}{m qual:Str}{st:Stmt}{f:Addr}{oc:Aa}{od an:Option Addr}{jx:Array (Option Aa)}{kV doc pm aM ct:Aa}(a:PySem.W.findIn K (.ref C) m\some (.ref f))(i:PySem.W.isFn K (.ref f)=true)
  (l:K.lookup f=some #[oc,od,.func (PySem.W.fnOf m qual (hU st) (gz st) (aX st) .none kV doc pm an aM ct),jx]) (c:PySem.W.codeIn K aM qual=true) (k:PySem.W.keepIn K (.ref f)=true):Md K C m qual st:=#[_,_,QV l c k,a,i,k]
theorem IS{P:Ad}{w:Af}{K:aj}{mg:Str->Option Aa}{base:Heap}{x:Str}{st:Stmt}{k:Nat}{ps:ae}{sp:Sp}(d:Fd K mg x st)(ok:∀f fd,br K x x st f fd->!aq a9 k f fd ps sp)
  (h:∀(kV doc pm:Aa) (an:Option Addr) (aM ct:Aa) (us:ag),us.length=ps.length->bindArgs (PySem.W.fnOf x x (hU st) (gz st) (aX st) .none kV doc pm an aM ct) #[us,[]]=pure (ps.zip us)):!bu k x ps sp:=by
 let#[f,fd,F,m,kp]:=d.ex;exact#[f,fd,ok f fd F,m,kp,F.binds h]
theorem wd{P:Ad}{w:Af}{K:aj}{mg:Str->Option Aa}{base:Heap}{C:Addr}{m qual:Str}{st:Stmt}{k:Nat}{ps:ae}{sp:Sp}(d:Md K C m qual st)(ok:∀f fd,br K m qual st f fd->!aq a9 k f fd ps sp)
  (h:∀(kV doc pm:Aa) (an:Option Addr) (aM ct:Aa) (us:ag),us.length=ps.length->bindArgs (PySem.W.fnOf m qual (hU st) (gz st) (aX st) .none kV doc pm an aM ct) #[us,[]]=pure (ps.zip us)):!bQ C k m ps sp:=by
 let#[f,fd,F,m]:=d.ex;exact#[f,fd,ok f fd F,m,F.binds h]
theorem NX{P:Ad}{w:Af}{K:aj}{mg:Str->Option Aa}{base:Heap}{C:Addr}{x qual:Str}{st:Stmt}{k:Nat}{ps:ae}{sp:Sp}(d:Md K C "__init__" qual st)(hx:mg x\.ref C)(mk:PySem.W.makesIn K C=true)(kc:PySem.W.keepIn K (.ref C)=true)(ok:∀f fd,br K "__init__" qual st f fd->!aq a9 k f fd ps sp)
  (h:∀(kV doc pm:Aa) (an:Option Addr) (aM ct:Aa) (us:ag),us.length=ps.length->bindArgs (PySem.W.fnOf "__init__" qual (hU st) (gz st) (aX st) .none kV doc pm an aM ct) #[us,[]]=pure (ps.zip us)):!j_ C k x ps sp:=by
 let#[f,fd,F,m]:=d.ex;exact#[f,fd,ok f fd F,#[mk,m.1,m.2,kc],hx,F.binds h]
structure Tg (P:Ad) (w:Af) (b:Heap):Prop where
theorem gQ{P:Ad}{w:Af}{K:aj}{mg:Str->Option Aa}{base:Heap}{x:Str}{st:Stmt}{k:Nat}{ps:ae}{sp:Sp}(q:Tg P w base)(d:Fd K mg x st)(ok:∀f fd,br K x x st f fd->!aq a9 k f fd ps sp)(h:∀(kV doc pm:Aa) (an:Option Addr) (aM ct:Aa) (us:ag),us.length=ps.length->bindArgs (PySem.W.fnOf x x (hU st) (gz st) (aX st) .none kV doc pm an aM ct) #[us,[]]=pure (ps.zip us):=by exact λ_ _ _ _ _ _ us (hl:us.length=1)=>match us,hl with | [_],_=>rfl):!bu k x ps sp:=IS d ok h
theorem dY{P:Ad}{w:Af}{K:aj}{mg:Str->Option Aa}{base:Heap}{x:Str}{st:Stmt}{k:Nat}{ps:ae}{sp:Sp}(q:Tg P w base)(d:Fd K mg x st)(ok:∀f fd,br K x x st f fd->!aq a9 k f fd ps sp)(h:∀(kV doc pm:Aa) (an:Option Addr) (aM ct:Aa) (us:ag),us.length=ps.length->bindArgs (PySem.W.fnOf x x (hU st) (gz st) (aX st) .none kV doc pm an aM ct) #[us,[]]=pure (ps.zip us):=by exact λ_ _ _ _ _ _ us (hl:us.length=2)=>match us,hl with | [_,_],_=>rfl):!bu k x ps sp:=IS d ok h
theorem i0{P:Ad}{w:Af}{K:aj}{mg:Str->Option Aa}{base:Heap}{x:Str}{st:Stmt}{k:Nat}{ps:ae}{sp:Sp}(q:Tg P w base)(d:Fd K mg x st)(ok:∀f fd,br K x x st f fd->!aq a9 k f fd ps sp)(h:∀(kV doc pm:Aa) (an:Option Addr) (aM ct:Aa) (us:ag),us.length=ps.length->bindArgs (PySem.W.fnOf x x (hU st) (gz st) (aX st) .none kV doc pm an aM ct) #[us,[]]=pure (ps.zip us):=by exact λ_ _ _ _ _ _ us (hl:us.length=3)=>match us,hl with | [_,_,_],_=>rfl):!bu k x ps sp:=IS d ok h
theorem tE{P:Ad}{w:Af}{K:aj}{mg:Str->Option Aa}{base:Heap}{x:Str}{st:Stmt}{k:Nat}{ps:ae}{sp:Sp}(q:Tg P w base)(d:Fd K mg x st)(ok:∀f fd,br K x x st f fd->!aq a9 k f fd ps sp)(h:∀(kV doc pm:Aa) (an:Option Addr) (aM ct:Aa) (us:ag),us.length=ps.length->bindArgs (PySem.W.fnOf x x (hU st) (gz st) (aX st) .none kV doc pm an aM ct) #[us,[]]=pure (ps.zip us):=by exact λ_ _ _ _ _ _ us (hl:us.length=4)=>match us,hl with | [_,_,_,_],_=>rfl):!bu k x ps sp:=IS d ok h
theorem Ft{P:Ad}{w:Af}{K:aj}{mg:Str->Option Aa}{base:Heap}{C:Addr}{m qual:Str}{st:Stmt}{k:Nat}{ps:ae}{sp:Sp}(q:Tg P w base)(d:Md K C m qual st)(ok:∀f fd,br K m qual st f fd->!aq a9 k f fd ps sp)(h:∀(kV doc pm:Aa) (an:Option Addr) (aM ct:Aa) (us:ag),us.length=ps.length->bindArgs (PySem.W.fnOf m qual (hU st) (gz st) (aX st) .none kV doc pm an aM ct) #[us,[]]=pure (ps.zip us):=by exact λ_ _ _ _ _ _ us (hl:us.length=1)=>match us,hl with | [_],_=>rfl):!bQ C k m ps sp:=wd d ok h
theorem i5{P:Ad}{w:Af}{K:aj}{mg:Str->Option Aa}{base:Heap}{C:Addr}{m qual:Str}{st:Stmt}{k:Nat}{ps:ae}{sp:Sp}(q:Tg P w base)(d:Md K C m qual st)(ok:∀f fd,br K m qual st f fd->!aq a9 k f fd ps sp)(h:∀(kV doc pm:Aa) (an:Option Addr) (aM ct:Aa) (us:ag),us.length=ps.length->bindArgs (PySem.W.fnOf m qual (hU st) (gz st) (aX st) .none kV doc pm an aM ct) #[us,[]]=pure (ps.zip us):=by exact λ_ _ _ _ _ _ us (hl:us.length=2)=>match us,hl with | [_,_],_=>rfl):!bQ C k m ps sp:=wd d ok h
theorem N0{P:Ad}{w:Af}{K:aj}{mg:Str->Option Aa}{base:Heap}{C:Addr}{m qual:Str}{st:Stmt}{k:Nat}{ps:ae}{sp:Sp}(q:Tg P w base)(d:Md K C m qual st)(ok:∀f fd,br K m qual st f fd->!aq a9 k f fd ps sp)(h:∀(kV doc pm:Aa) (an:Option Addr) (aM ct:Aa) (us:ag),us.length=ps.length->bindArgs (PySem.W.fnOf m qual (hU st) (gz st) (aX st) .none kV doc pm an aM ct) #[us,[]]=pure (ps.zip us):=by exact λ_ _ _ _ _ _ us (hl:us.length=3)=>match us,hl with | [_,_,_],_=>rfl):!bQ C k m ps sp:=wd d ok h
theorem NZ{P:Ad}{w:Af}{K:aj}{mg:Str->Option Aa}{base:Heap}{C:Addr}{m qual:Str}{st:Stmt}{k:Nat}{ps:ae}{sp:Sp}(q:Tg P w base)(d:Md K C m qual st)(ok:∀f fd,br K m qual st f fd->!aq a9 k f fd ps sp)(h:∀(kV doc pm:Aa) (an:Option Addr) (aM ct:Aa) (us:ag),us.length=ps.length->bindArgs (PySem.W.fnOf m qual (hU st) (gz st) (aX st) .none kV doc pm an aM ct) #[us,[]]=pure (ps.zip us):=by exact λ_ _ _ _ _ _ us (hl:us.length=4)=>match us,hl with | [_,_,_,_],_=>rfl):!bQ C k m ps sp:=wd d ok h
theorem N1{P:Ad}{w:Af}{K:aj}{mg:Str->Option Aa}{base:Heap}{C:Addr}{x qual:Str}{st:Stmt}{k:Nat}{ps:ae}{sp:Sp}(q:Tg P w base)(d:Md K C "__init__" qual st)(hx:mg x\.ref C)(mk:PySem.W.makesIn K C=true)(kc:PySem.W.keepIn K (.ref C)=true)(ok:∀f fd,br K "__init__" qual st f fd->!aq a9 k f fd ps sp)(h:∀(kV doc pm:Aa) (an:Option Addr) (aM ct:Aa) (us:ag),us.length=ps.length->bindArgs (PySem.W.fnOf "__init__" qual (hU st) (gz st) (aX st) .none kV doc pm an aM ct) #[us,[]]=pure (ps.zip us):=by exact λ_ _ _ _ _ _ us (hl:us.length=3)=>match us,hl with | [_,_,_],_=>rfl):!j_ C k x ps sp:=NX d hx mk kc ok h
theorem all_mk{l:W.OpenLaw}{w:Af}{K:aj}{h:Heap}{mg:Str->Option Aa}{fa CW CG CR fl c T:Addr}(X:K.In h)(G:h.Ns mainGlobals mg)(hfa:mg "law"\.ref fa)
  (f0:Fd K mg "is_whole" yU)
  (f1:Fd K mg "is_whole_from" Nj)
  (f2:Fd K mg "is_whole_within" lF)
  (f3:Fd K mg "is_name" qY)
  (f4:Fd K mg "lesser_first" NI)
  (f5:Fd K mg "is_pair_of_names" qW)
  (f6:Fd K mg "sorted_ties" MS)
  (f7:Fd K mg BB J9)
  (f8:Fd K mg "least_multiple" J8)
  (f9:Fd K mg "fraction_of" rG)
  (f10:Fd K mg "is_fraction" rA)
  (f11:Fd K mg "is_less" rh)
  (f12:Fd K mg "is_hand_with_strength" rC)
  (f13:Fd K mg "checked_strengths" yT)
  (f14:Fd K mg "checked_ties" qR)
  (f15:Fd K mg "neighbours_of_all" qX)
  (f16:Fd K mg "checked_ways" lT)
  (f17:Fd K mg "checked_piece" NF)
  (f18:Fd K mg "checked_pieces" Ou)
  (f19:Fd K mg "checked_stand" Nv)
  (f20:Fd K mg "loads_at" M_)
  (f21:Fd K mg Bv rg)
  (f22:Fd K mg "levels_at" Nb)
  (f23:Fd K mg "rise_at" qT)
  (f24:Fd K mg "spread_at" Oq)
  (f25:Fd K mg "check_limit" rJ)
  (f26:Fd K mg "exits_of" lR)
  (f27:Fd K mg "placed_by" qV)
  (f28:Fd K mg "is_even" Nz)
  (f29:Fd K mg "move_between" qZ)
  (f30:Fd K mg "moves_along" q_)
  (f31:Fd K mg "fewest_moves" Nf)
  (f32:Fd K mg "layers_within" rp)
  (f33:Fd K mg "reached_by" OE)
  (f34:Fd K mg vZ lS)
  (f35:Fd K mg "_law_name" lM)
  (f36:Fd K mg "_law_hands" NB)
  (f37:Fd K mg "_law_ties" lK)
  (f38:Fd K mg "_law_pieces" M9)
  (f39:Fd K mg "_law_stand" Nd)
  (f40:Fd K mg "_law_loads" NK)
  (f41:Fd K mg "_law_even" lO)
  (f42:Fd K mg "_law_moves" NH)
  (f43:Fd K mg "_law_layers" Nn)
  (f44:Fd K mg "_law_is_least" M3)
  (f45:Fd K mg "_law_none_below" lI)
  (m0:Md K CW "__init__" "Web.__init__" rB)
  (m1:Md K CW "has_hand" "Web.has_hand" vj)
  (m2:Md K CW "hands" "Web.hands" lP)
  (m3:Md K CW "strength" "Web.strength" Ol)
  (m4:Md K CW "neighbours" "Web.neighbours" lJ)
  (m5:Md K CW "are_tied" "Web.are_tied" qS)
  (m6:Md K CG "__init__" "Goods.__init__" lQ)
  (m7:Md K CG "has_piece" "Goods.has_piece" rF)
  (m8:Md K CG "names" "Goods.names" Ni)
  (m9:Md K CG "weight" "Goods.weight" M6)
  (XF:Md K CG "may_go" "Goods.may_go" rD)
  (XE:Md K CR "__init__" "Reach.__init__" lH)
  (XD:Md K CR "one_move_on" "Reach.one_move_on" lG)
  (XC:Md K CR "widen" "Reach.widen" MR)
  (XB:Md K CR "row_to" "Reach.row_to" qU)
  {Xf QG T4 P8 UA:Aa} {Xe OW:Option Addr} {Wn:Array (Option Aa)} {t8 t9 Wc Wa V_:Tok}
  (al:W.nsIn K mainGlobals "law"\some (.ref fl)) (ll:K.lookup fl=some #[Xf,Xe,.func (W.fnOf "law" "law" (hU fo) (gz fo) (aX fo) .none QG T4 P8 OW (.ref c) UA),Wn]) (cl:W.codeIn K (.ref c) "law"=true) (kl:W.keepIn K (.ref fl)=true) (ch:W.codeHdIn K c T=true) (aW:W.nsIn K mainGlobals "Web"\some (.ref CW)) (aG:W.nsIn K mainGlobals "Goods"\some (.ref CG)) (aR:W.nsIn K mainGlobals "Reach"\some (.ref CR)) (c8_:W.nsIn K mainGlobals "MOST_LETTERS"\some (.int 8 t8)) (c9_:W.nsIn K mainGlobals "MOST_HANDS"\some (.int 8 t9)) (OD:W.nsIn K mainGlobals "MOST_STRENGTH"\some (.int 1000 Wc)) (OC:W.nsIn K mainGlobals "MOST_WEIGHT"\some (.int 1000000000 Wa)) (OB:W.nsIn K mainGlobals "MOST_STANDS"\some (.int 3000 V_)) (Vz:W.plainGet K CW Str.empty=true) (VH:W.hasDictIn K CW=true) (Vy:W.plainOver K CW=true) (Vx:W.findIn K (.ref CW) "__setattr__"\some (.builtin "object.__setattr__")) (VF:W.makesIn K CW=true) (VG:W.keepIn K (.ref CW)=true) (VE:W.findIn K (.ref CW) uF\none) (VD:W.findIn K (.ref CW) "sorted_pairs"\none) (VC:W.findIn K (.ref CW) Bt\none) (gpg:W.plainGet K CG Str.empty=true) (ghd:W.hasDictIn K CG=true) (gpo:W.plainOver K CG=true) (gsa:W.findIn K (.ref CG) "__setattr__"\some (.builtin "object.__setattr__")) (gmk:W.makesIn K CG=true) (gkc:W.keepIn K (.ref CG)=true) (gn0:W.findIn K (.ref CG) "web"\none) (gn1:W.findIn K (.ref CG) pU\none) (gn2:W.findIn K (.ref CG) Aw\none) (WB:W.plainGet K CR Str.empty=true) (WI:W.hasDictIn K CR=true) (WA:W.plainOver K CR=true) (Wz:W.findIn K (.ref CR) "__setattr__"\some (.builtin "object.__setattr__")) (WG:W.makesIn K CR=true) (WH:W.keepIn K (.ref CR)=true) (WE:W.findIn K (.ref CR) jQ\none) (WD:W.findIn K (.ref CR) pZ\none) (WC:W.findIn K (.ref CR) "newest"\none) (_e:W.findIn K (.ref CW) "__class__"\some (.builtin "object.__class__")) (_d:W.specialIn K (.builtin "object.__class__") "__get__"\some (.builtin "getset_descriptor.__get__")) (ZV:W.takesIn K (.builtin "object.__class__")\true) (Z9:W.mroIn K CW (.type "object")\true) (Cd:W.nsIn K mainGlobals "sum"\none) (Cf:W.nsIn K mainGlobals "abs"\none) (Ce:W.nsIn K mainGlobals "min"\none) (Cc:W.nsIn K mainGlobals "zip"\none) (z0:W.nsIn K mainGlobals "isinstance"\none) (z1:W.nsIn K mainGlobals "int"\none) (z2:W.nsIn K mainGlobals "bool"\none) (z3:W.nsIn K mainGlobals "str"\none) (z4:W.nsIn K mainGlobals "tuple"\none) (z5:W.nsIn K mainGlobals "list"\none) (z6:W.nsIn K mainGlobals "dict"\none) (z7:W.nsIn K mainGlobals "len"\none) (z8:W.nsIn K mainGlobals "all"\none) (z9:W.nsIn K mainGlobals "sorted"\none) (Vi:W.nsIn K mainGlobals "max"\none) (Vh:W.nsIn K mainGlobals "range"\none) (Vg:W.nsIn K mainGlobals "any"\none) (Vf:W.nsIn K mainGlobals "enumerate"\none) :
  ∃fd:Ae,(∀(s:Ab) (v:Aa),BindsTo s fd #[[v],[]] [(xU,v)])/\(∀T'∈[T],isCodeTable h T')/\∀base:Heap,K.In base->base.Ns mainGlobals mg->(∀T'∈[T],base.BuiltinsAt mg T')->aq l.prog w K mg base a9 10 fa fd [xU] (nv K T):=by
 let e:=hfa.symm.trans (W.mg_of X G al);cases e;have B:Bi mg:=#[jk X G z0,jk X G z1,jk X G z2,jk X G z3,jk X G z4,jk X G z5,jk X G z6,jk X G z7,jk X G z8,jk X G z9,jk X G Vi,jk X G Vh,jk X G Vg,jk X G Vf];have TW:Txt K mg CW:=#[#[Vz,VH,Vy,Vx],VE,VD,VC];have TG:gf K CG:=#[#[gpg,ghd,gpo,gsa],gn0,gn1,gn2];have TR:mQ K CR:=#[#[WB,WI,WA,Wz],WE,WD,WC];have IW:F3 K CW:=#[_e,_d,ZV,Z9];let Du:=jk X G Cd;let Dv:=jk X G Cf;let xu:=jk X G Ce;let xt:=jk X G Cc;have FL:wN K "law" "law" fo _ c _:=#[#[_,_,_,_,_,_,_,_,U,ll,cl],kl];apply#[W.fnOf "law" "law" (hU fo) (gz fo) (aX fo) .none QG T4 P8 OW (.ref c) UA,λs v=>.of_eq U,λT' zY=>?_,λbase KB _ xN=>?_]
 ·obtain rfl:T'=T:=⇑zY
  let#[o,Jz,file,tf,flags,tg,inF,text,tt,h1,h2,h3,h4,_]:=W.codeHd_of_K X ch;exact#[c,o,Jz,h1,h2,h3,h4]
 have q:Tg l.prog w base:=⟨⟩;let AD:=gQ q f0 λ_ _ F=>YJ F B;let tF:=i0 q f2 λ_ _ F=>_D F AD;let Ax:=dY q f1 λ_ _ F=>gM_ F AD;let tH:=gQ q f3 λ_ _ F=>ZC F B (W.mg_of X G c8_);let AC:=dY q f4 λ_ _ F=>hl_ F;let Fv:=gQ q f5 λ_ _ F=>ZM F B tH;let x5:=gQ q f6 λ_ _ F=>gq_ F B Fv AC;let FD:=gQ q f12 λ_ _ F=>Zu F B tH tF (W.mg_of X G OD);let cStr:=gQ q f13 λ_ _ F=>Yc F B FD (W.mg_of X G c9_);let Fu:=dY q f14 λ_ _ F=>ZK F B x5;let Fw:=dY q f15 λ_ _ F=>Y8 F AC;let N2:=N1 q m0 (W.mg_of X G aW) VF VG λ_ _ F=>YU F TW B cStr Fu Fw;let ze:=i5 (mg:=mg) q m1 λ_ _ F=>Yv F TW B;let DD:=i5 (mg:=mg) q m1 λ_ _ F=>Zq F TW B;let lX:=Ft (mg:=mg) q m2 λ_ _ F=>_N F TW B;let DB:=i5 (mg:=mg) q m3 λ_ _ F=>eC_ F TW ze;let KC:=i5 (mg:=mg) q m4 λ_ _ F=>_p F TW B ze;let xv:=N0 (mg:=mg) q m5 λ_ _ F=>hM_ F TW DD;let On:=dY q f16 λ_ _ F=>_j F TW x5 xv;let cCP:=dY q f17 λ_ _ F=>g1_ F B tH tF On (W.mg_of X G OC);let Oo:=dY q f18 λ_ _ F=>fC_ F B cCP;let AE:=N1 q m6 (W.mg_of X G aG) gmk gkc λ_ _ F=>hH_ F TG TW IW B (W.mg_of X G aW) Oo;let Ai:=i5 (mg:=mg) q m7 λ_ _ F=>Y1 (CW:=CW) F TG B;let iY:=Ft (mg:=mg) q m8 λ_ _ F=>gL_ (CW:=CW) F TG B;let vT:=i5 (mg:=mg) q m9 λ_ _ F=>fG_ (CP:=CW) F TG Ai;let Mj:=NZ (mg:=mg) q XF λ_ _ F=>Zy (CP:=CW) F TG TW Ai xv AC;let Of:=dY q f7 λ_ _ F=>YA F;let cLM:=gQ q f8 λ_ _ F=>Yx F Of;let IX:=dY q f9 λ_ _ F=>ZD F Of;let cIF:=gQ q f10 λ_ _ F=>Y9 F B Dv AD Ax Of;let Fx:=dY q f11 λ_ _ F=>YX F;let UU:=dY q f19 λ_ _ F=>hs_ F B TG TW Ai ze iY;let cLA:=dY q f20 λ_ _ F=>fv_ F B TG TW lX vT;let N8:=gQ q f21 λ_ _ F=>YS F TW cLM lX DB;let cLv:=dY q f22 λ_ _ F=>hr_ F TG TW cLA N8 DB;let x6:=dY q f23 λ_ _ F=>Ze F B xu cLv;let N6:=dY q f24 λ_ _ F=>eg_ F TG x6 N8 IX;let cCL:=gQ q f25 λ_ _ F=>Y2 F cIF;let cEx:=gQ q f26 λ_ _ F=>_n F TG TW iY lX KC Mj;let UO:=dY q f27 λ_ _ F=>_s F B xt TG iY;let cIE:=i0 q f28 λ_ _ F=>g3_ F Fx N6 UO;let UJ:=N1 q XE (W.mg_of X G aR) WG WH λ_ _ F=>ZX F TR B cEx;let WK:=i5 (mg:=mg) q XD λ_ _ F=>hN_ F TR B;let P2:=i5 (mg:=mg) q XC λ_ _ F=>gp_ F TR B WK;let Kf:=i5 (mg:=mg) q XB λ_ _ F=>_u F TR;let cMB:=i0 q f29 λ_ _ F=>Zd F xt TG iY;let cMA:=dY q f30 λ_ _ F=>Zr F B cMB;let Og:=tE q f31 λ_ _ F=>gP_ F B TR cCL UU Ax UJ cIE cMA Kf P2;let pB:=dY q f34 λ_ _ F=>_l F B;let UQ:=gQ q f35 λ_ _ F=>hL_ F B pB;let cLH:=dY q f36 λ_ _ F=>h0_ F B pB UQ;let cLT:=dY q f37 λ_ _ F=>hE_ F B pB;let cLP:=i0 q f38 λ_ _ F=>fr_ F B pB UQ;let cLS:=i0 q f39 λ_ _ F=>fW_ F B pB;let Ob:=i0 q f40 λ_ _ F=>gB_ F B;let cLE:=tE q f41 λ_ _ F=>hB_ F Ob;let Oa:=i0 q f42 λ_ _ F=>h6_ F B;let N_:=tE q f43 λ_ _ F=>hf_ F B Oa;let cLW:=i0 q f32 λ_ _ F=>ZN F B TR (W.mg_of X G OB) UJ P2;let cRB:=i0 q f33 λ_ _ F=>fw_ F B TG xu UU Ax cLW x6 UO N8 IX;let cIL:=tE q f44 λ_ _ F=>fn_ F Ob cLE;let cNB:=tE q f45 λ_ _ F=>_c F Ob;exact Yo FL B Du (W.codeHd_of_K KB ch) (xN T Z2) #[pB,cLH,cLT,cLP,cLS,N2,AE,N_] #[Og,cRB,cIL,cNB]
theorem walk{l:PySem.W.OpenLaw}{q:Ad}{loose:ae}{XP:(Str->Option Aa)->Heap->Prop}{d:DefRec}{K:Params->aj}{as:ao}{T:Addr}{Hy:∀P:Params,as=(K P).map (·.1)}(hn:l.most\63)(EH:d.params.defaults=[])(K7:([T].all λT=>!as.contains T)=true)
  (F:∀(w:Af) (mg:Str->Option Aa) (fa:Addr) (h:Heap),(K w.params).In h->h.Ns mainGlobals mg->mg d.name\.ref fa->
   ∃fd:Ae,(∀(s:Ab) (u:Aa),BindsTo s fd #[[u],[]] [(xU,u)])/\(∀T'∈[T],isCodeTable h T')/\∀base:Heap,(K w.params).In base->base.Ns mainGlobals mg->(∀T'∈[T],base.BuiltinsAt mg T')->aq l.prog w (K w.params) mg base a9 10 fa fd [xU] (nv (K w.params) T)) :
  PySem.W.WalkO q loose XP (PySem.W.kmHook K as Hy [T]).says l.row.toRowW d [] (λf vs=>PySem.call f vs):=
 L2.qi (n:=63) (k:=10) (x:=xU) (CX:=λ_=>a9) (sp:=λw=>nv (K w.params) T) hn (by decide) EH #[U,by decide,by decide] K7 F (λ_ _ a ns hl hT hS=>#[a,ns,U,hT T Z2,hS,hl,λ_=>rfl]) λ_ _ _ _ _ z=>z
end Ev
namespace PySem.W.Fast
universe tw11173100859882641120 tw18069647745293458336 tw835013832172591008 tw3760613333805120448 tw11626629861637267873 tw18097184287701845953 tw3914689087584201922 tw3451048929549144610 tw18243402039072406883 tw14211652187054478915 tw18104161516935862436 tw3254941429634176676 tw11997443017807596453 tw928322130480777 tw7706745069510195114 tw13306515846356620427 tw8878843474666377548 tw8058081455892198925 tw12179936314106502190 tw14117954640636297423 tw14826058482358759151 tw10037674946428375024 tw12718575700168946898 tw13615731564856154835 tw13693695635507364723 tw16243914493779451924 tw15129057655093992500 tw8431599843634544820 tw12717358683452650708 tw17147932363338656148 tw13599415418982366869 tw9102435749521876693 tw4462787266128120279 tw10628145635028144759 tw10212364588337865880 tw3716453022509379160 tw17935485833537383449 tw5748618346311228121 tw18384381361782348031 tw18441803134566362826 tw15196342622074733085 tw9548162829710802955 tw16141794340283074299 tw11173542511221989495 tw13788254489059702167 tw16206164610440546634 tw6811287296755383612 tw2320462789953109391 tw11774896896574844200 tw10861743938579400187 tw16479971320118845743 tw11932204378433299583 tw13060162439336474637 tw17620496939885634058 tw9298336764490959064 tw4832176839904452896 tw15568719506270367869 tw4751519388988902296 tw11541883832413690891 tw161613712286698184 tw18119514086093454828 tw17658138125159813627 tw17055470165212315209 tw10797433620167149379 tw2776693282948551774 tw11483347532728069962 tw8501799221683900404 tw7726414257379381915 tw12936550950693500650 tw3569163276974869649 tw13266291487254302465 tw4839738363246420427 tw8673884170115050606 tw11242413182631037186 tw2535049931018874541 tw6964002185976171238 tw7384333091368071256 tw9608008220686468519 tw13231399403778980131 tw12224500383558378813 tw12999580073477797634 tw3630384925349440957 tw10340663169505941059 tw5608417082684199407 tw17859882244473436935 tw14889812560785908877 tw2017811551045019293 tw9182957561197660384 tw10035430458251401984 tw16317072442445324136 tw7793271529033854645 tw3567451354500680238 tw5076114208868643183 tw2322483705934915905 tw6173564804620772196 tw4960601689140760586 tw17156763564013820783 tw11661213580272749497 tw10558906169764587334 tw6961565844584598688 tw836111320458034579 tw2856606313805587484 tw1003107067032965755 tw15414211001384234220 tw5625032919411497618 tw16832259723121377545 tw4257242722724264830 tw9968639183707233709 tw1766735681079174508 tw10737117677519992828 tw17660719526736483833 tw5279905173894068278 tw15482859830572224155 tw4346423313040133611 tw17561005830042064246 tw633190552629479159 tw4338622995131489608 tw7212961649773557238 tw2159699824297986213 tw7170561340184105958 tw2090198126366284400 tw7867513994535980144 tw9530640066435478140 tw9376791141385662671 tw2066728115715769177 tw1840413262856857175 tw5502779548647203841 tw9415651845181692087 tw979675542187848756 tw10249001378456785272 tw3357166066527629901 tw7368208024556243832 tw14517593547768446874 tw10122367121346002573 tw13276057847444284746 tw12605061834872563967 tw1766677983569937635 tw17603117482040966747 tw1828945271737348613 tw12659592494082118384 tw14733300011716378026 tw4006103426619921692 tw18100295062069141070 tw4542620897841022791 tw14264442942977745429 tw11816149399133600107 tw18101278187314589116 tw5542219547243894613 tw16439443317435060463 tw7634250424222886587 tw13334692925208864032 tw1996434299546619223 tw12226512280488753630 tw10741985368972480316 tw8301506628277203212 tw4196736542311113442 tw913094171178401805 tw10013500728389459028 tw17046259498880791600 tw10664731072474711377 tw12314084181701386123 tw16224171756091671798 tw7421780501319040768 tw14398678487362937434 tw8600946351739359207 tw2827382003121915186 tw4266409277405881245 tw2594814329211223926 tw4647231358034845726 tw9940691560527420186 tw17916715697797165822 tw5704644414791400944 tw12094916551436040648 tw11651835689855478791 tw9893357637805279231 tw13665133867714132670 tw1607686659333571753 tw14756506127333434468 tw502889633018662721 tw1113404752873462436 tw1261830495767837844 tw13727775138067942829 tw9066799951399989544 tw1187883261134939478 tw6404240011753389682 tw14556141725339488143 tw15103672240056914138 tw3241362041313905358 tw7899330427434637295 tw65815148449720925 tw17842584953048185064 tw3976057606965459233 tw11231408600193646505 tw5328396239991279092 tw11127524704944959756 tw72360158035632314 tw1519761163371403668 tw13803733807555688721 tw2013066222098123039 tw14958525173395250594 tw11889173202056359475 tw8364477607505743729 tw13156750751895730596 tw852827190683140893 tw8074754999776576401 tw16125821261836265280 tw14968159532187426351 tw6343510839512699837 tw5186639966591228450 tw7486691988806571357 tw3762466015687572956 tw12273394981263572365 tw6183195971488686265 tw9165055603528398427 tw3273097983614910570 tw1782843257219040346 tw5504439319385146460 tw13937102328537076822 tw4444509968404506924 tw8453912443136358938 tw5086929990289824876 tw10312346265276481799 tw15538982866458428799 tw9086539462599807386 tw7401714052646906330 tw64285270886484572 tw8193732673008680119 tw10836922571397033603 tw5834348105118414778 tw5846222234490501813 tw8209382324787379082 tw17287488305971078580 tw6424764596604766791 tw14322761262527213763 tw18364891097278645334 tw6528207114364324215 tw7608489841864087447 tw17285410628297123621 tw2245182729858544008 tw2504298938538092100 tw4355485759663033529 tw11957713221271440012 tw12276026428276616590 tw220432642512845601 tw3406031439223628826 tw18371997500650562405 tw14514060823612950151 tw5478878294902490257 tw16819803744214072988 tw6254066357004861042 tw15689946906330015609 tw2882451411359498169 tw3498679995806763491 tw16808206299018246452 tw12189834023560155197 tw17003350347224702778 tw17210931605183871099 tw251199329011505278 tw8244082278237143773 tw3309522185508040719 tw16399371372885139670 tw9094517740447379053 tw9642151490685566267 tw5235642886878837844 tw5831762103688594690 tw15612232337375504037 tw7584310428597692345 tw6906192296868044817 tw4599174566242146175 tw5159868363070860198 tw6851168823360094892 tw13665374116499146736 tw9082223872722715335 tw5500638875547609601 tw9674477455650586789 tw17713503929055693841 tw7256458065222506281 tw14899479291320462565 tw6363978332461602362 tw13602426145546611663 tw15647075323793667696 tw10255637600028322016 tw17334713286184819091 tw11146766878373711937 tw705963099526079107 tw10816306486774463394 tw3029820104860935932 tw3055016784867043055 tw14807495849264335561 tw17954358461878108739 tw10929440023314821302 tw6494476633229000084 tw4809569845906458096 tw4086615262314691138 tw18213358407078506052 tw8095855628729511877 tw18186403090235336776 tw12910427858687939549 tw3204932996795783153 tw2801501001307903680 tw6446080041149924101 tw15713000124696335611 tw6615015281639599875 tw5557273574327912248 tw17401835304345024948 tw3914780056576582722 tw7542003522640126305 tw707216412994999537 tw2951551901221745385 tw4078233543725805682 tw4137653129531453315 tw17536966334893505268 tw11224834649689318291 tw18060907031859571910 tw5696601565137550274 tw2458411540913865993 tw2383717882765357213 tw13643901636656558844 tw17372694486974205912 tw12044130885889460842 tw329225654766952603 tw14602631654668272883 tw16251910212096858436 tw18385304222309736522 tw10854707690786461964 tw12783815219087121843 tw4286497507150069967 tw6867832011041114532 tw212252429414603105 tw4409205137245064395 tw5167469656374895045 tw8245101533466148790 tw1638026017335289409 tw321059151728810545 tw9685147473265714433 tw10444953116162726870 tw1854614558293921679 tw6295914709759155912 tw5281662617009401152 tw9018741372678361016 tw18118821975899505196 tw5424434151871514727 tw17013809260684004358 tw16196619157153435935 tw13580299818431426153 tw226285456074760126 tw5200623928766547597 tw11424877944327100461 tw3126491035713382223 tw17329515160472357461 tw16134171864108531092 tw704419082697769617 tw11329120279203490313 tw14299807597643218037 tw9776263292374844757 tw4363962159649463884 tw6290587607086955261 tw6208662018704670489 tw15056880476625172914 tw12331516161784208421 tw8232241414941308253 tw8108265225189630354 tw12792312221382927230 tw13517487238617202147 tw6553160791719771753 tw7944607531504758972 tw15506919063997283084 tw1304042728869429107 tw15358363055676061462 tw8688964106545742509 tw4900074474506593621 tw10031797598752554732 tw8664504074957648206 tw16288121955663805013 tw14057136347683387607 tw14770032355499663611 tw13540561084738509069 tw6033931250624307631 tw13500268572615620704 tw13152984954122531270 tw1984473948991727679 tw11484489273301698900 tw12602835432401678688 tw3083474183933442784 tw15648665976354796800 tw9370517057449338745 tw11100723521400142988 tw947763063276933629 tw18063731103944189753 tw9830464879149827410 tw550906566043979012 tw1887633240870995753 tw16658668329214577429 tw3888840833360035552 tw8541018404559951811 tw13540488280538822832 tw5488392128160067401 tw4666077639089536988 tw920100187792077927 tw10471568668590264405 tw3164310600036661387 tw18274240814082022148 tw14596342196102816401 tw10511073560846181876 tw17768228616806220470 tw6263628157488059651 tw14357551344897406111 tw18421763814326841467 tw17841989158238618786 tw1567569456088356166 tw6599923349662105256 tw12200260392817597963 tw1849903507521754093 tw13207946026607039321 tw17947915319973550106 tw14653319227238374813 tw8673108389609873044 tw3371586448117356404 tw1377907659806545103 tw9389222025199834839 tw15965415136125307032 tw14846972832922253546 tw1265664577623926277 tw2320595306846507578 tw1239235154409346932 tw1413346251589392319 tw16140878823001838716 tw15782581219479135596 tw13333585212533401332 tw1783758706764918993 tw6290487182716066943 tw4621608615243414457 tw10146675426490772587 tw1700773151348365837 tw157009519206717201 tw1541105757180806214 tw18146645639055521562 tw4777847308469889059 tw15632820368462682905 tw5950557638810213727 tw6509464566749218346 tw17983852409487627789 tw15489707868091488980 tw11353279566089655080 tw6002187965255755671 tw15419319466723550527 tw2996190764569550768 tw9957074891796041161 tw2824783110053900811 tw14364386937046949526 tw4518588763719299791 tw17819078716468657413 tw16766707802950423106 tw7664968155572643157 tw16710962646493926125 tw12888787933455742983 tw14680368432293890771 tw16196559216824660767 tw17643220379943581433 tw6205765869205327948 tw14084734077915827921 tw20524634187119094 tw9985304494659926037 tw12873083958673756610 tw12180703702355291590 tw1808834532811509170 tw13564443176922165832 tw1956121711257685475 tw1879184135972536604 tw4557301404703998687 tw10009616738225347882 tw16182739110344285595 tw6930677299501170183 tw313153347802798751 tw17239381874160900532 tw2061279092451997673 tw12333048161661591456 tw18435985025308886490 tw15497444012622387765 tw2109243700848273422 tw4356729808505691661 tw11261553455306385247 tw10694850880947673646 tw2062302020776785365 tw9963153966320664468 tw16187043175306750468 tw5977536161051808312 tw1827017132167237290 tw12091178324412588747 tw10802325326062469867 tw17488737268717949530 tw17583567362923590868 tw13591853573655294426 tw2422000629671357153 tw11029192748254767660 tw17555804266496690998 tw4866434532854777236 tw4066251531921298997 tw2754970715469518930 tw6301561487627717175 tw5255527130368316187 tw7932557238796804106 tw5046164190743028491 tw18302480463625479827 tw9772827175674429780 tw4293970610606549481 tw18148842717689414139 tw18347701163987379930 tw2190583895314684473 tw11506218794768951595 tw37404371154880776 tw6489741353999353816 tw223922550529961602 tw16807375262551762990 tw6671205544745256563 tw8970820893837751926 tw13791933658311364118 tw16479291834526517346 tw1680421607799321424 tw16191142686488406495 tw2227897193942957510 tw16139360432480827584 tw14298130696514035298 tw3060498243228755555 tw744969814346884688 tw15443045669272964465 tw16553786457298165350 tw16450908655706313892 tw17404984898304311007 tw13746460484657346522 tw4300102746924527822 tw4716719869935878659 tw18297611457081171010 tw6924845510273245632 tw5372338367520792835 tw7807502651917877594 tw1520967578061086875 tw14147008742503685052 tw3868973703594635401 tw12739916094069179686 tw1037386180648204179 tw4172839425633706058 tw17675974989457169060 tw12926440812917360270 tw11047464606960681971 tw7591409417634408215 tw836809888954221536 tw6817497037833967913 tw7779528003917209865 tw16360324204202059785 tw5329979576355737633 tw952388228117106974 tw9683359538151086405 tw9167130915462700951 tw11648777830389754134 tw5979961948062851563 tw15757825020432621401 tw3406127652941765868 tw6556431955410000722 tw896049511155792823 tw7597589829135089206 tw9020573825194089609 tw2147423218170233522 tw7224055078696606597 tw15916830856429219274 tw7263627688010511092 tw14142121884216824133 tw13907768574901192212 tw6671699529414378997 tw18118342283229690556 tw16334895995959246176 tw7826261605979594056 tw16025499638035825685 tw4397361272195253685 tw14113494409814862294 tw7225083352435295109 tw18026595096875559066 tw6379584075760383799 tw14648171005920196441 tw4652551970222287857 tw11123317772888361048
end PySem.W.Fast
open PySem PySem.W PyProof.Rows
set_option maxRecDepth 100000 in
local macro_rules|`(%[|$k:num])=>let i:=Lean.mkIdent;if k.getNat==1 then`(Ev.E9 $(i `KX) $(i `G) ?_ ?_ ?_ ?_)else`(Ev.Dz ?_ ?_ ?_ ?_ ?_)
theorem PySem.Challenge.cw_evenpieces_k69_stands_reached_holds : PySem.Challenge.rw_evenpieces_k69_stands_reached.Holds := by
 w_on;o_law;k_head;(case hw=>w_witness2)
 k_fill
 apply Ev.walk (l:=PySem.Challenge.rw_evenpieces_k69_stands_reached) rfl rfl (by rfl) ?F
 case F=>
  intro w mg fa h KX G hmg;refine' Ev.all_mk KX G hmg %[|1] %[|1] %[|1] %[|1] %[|1] %[|1] %[|1] %[|1] %[|1] %[|1] %[|1] %[|1] %[|1] %[|1] %[|1] %[|1] %[|1] %[|1] %[|1] %[|1] %[|1] %[|1] %[|1] %[|1] %[|1] %[|1] %[|1] %[|1] %[|1] %[|1] %[|1] %[|1] %[|1] %[|1] %[|1] %[|1] %[|1] %[|1] %[|1] %[|1] %[|1] %[|1] %[|1] %[|1] %[|1] %[|1] %[|2] %[|2] %[|2] %[|2] %[|2] %[|2] %[|2] %[|2] %[|2] %[|2] %[|2] %[|2] %[|2] %[|2] %[|2] ?_ ?_ ?_ ?_ ?ch ?aW ?aG ?aR ?_ ?_ ?_ ?_ ?_ ?_ ?_ ?_ ?_ ?_ ?_ ?_ ?_ ?_ ?_ ?_ ?_ ?_ ?_ ?_ ?_ ?_ ?_ ?_ ?_ ?_ ?_ ?_ ?_ ?_ ?_ ?_ ?_ ?_ ?_ ?_ ?_ ?_ ?_ ?_ ?_ ?_ ?_ ?_ ?_ ?_ ?_ ?_ ?_ ?_ ?_ ?_ ?_ ?_
  (case aW=>k_is);(case aG=>k_is);(case aR=>k_is)
  any_goals k_is
  (case ch=>kernel_rfl)

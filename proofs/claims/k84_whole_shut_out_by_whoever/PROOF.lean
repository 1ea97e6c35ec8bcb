import PyProof.Rows.All
import Wide.All
import OpenK.AllK
import Wide.FinOn
import Lean
import PyProof.EqAt
import PyProof.EqKinds
import PyProof.TupleCall
import PyProof.TupleOfSeq
import PyProof.NeKinds
import KE.KLam
import KE.KSortTup
import PySem.Challenge.RW_evenpieces_k84_whole_shut_out_by_whoever
set_option maxHeartbeats 0
set_option Elab.async false
set_option linter.all false
noncomputable section
local macro_rules|`(def $x:declId $s:optDeclSig $v:declVal)=>`(noncomputable def $x:declId $s:optDeclSig $v:declVal)
local macro_rules|`(abbrev $x:declId $s:optDeclSig $v:declVal)=>`(noncomputable abbrev $x:declId $s:optDeclSig $v:declVal)
local macro_rules|`(universe $x*)=>return Lean.mkNullNode (←x.mapM λa=>do return(←`(theorem $a:ident:True:=⟨⟩)).raw)
abbrev Xa:=List (PySem.Str × Int)
abbrev Xb:=List (PySem.Str × PySem.Str)
set_option compiler.extract_closed false
set_option maxRecDepth 100000
theorem af:type_of% @PySem.wpAny_bind:=@PySem.wpAny_bind
theorem aQ:type_of% @PySem.Heap.get?_push_of_some:=@PySem.Heap.get?_push_of_some
abbrev Aa:=PySem.Value
abbrev Ab:=PySem.Shared
theorem aF:type_of% @PySem.wpAny_pure:=@PySem.wpAny_pure
theorem cJ:type_of% @PySem.Heap.get?_push_size:=@PySem.Heap.get?_push_size
theorem bH:type_of% @PySem.Paired.length:=@PySem.Paired.length
theorem bx:type_of% @PySem.Heap.lt_size:=@PySem.Heap.lt_size
theorem cX:type_of% @Option.some.inj:=@Option.some.inj
abbrev Ad:=PySem.Program
theorem cw:type_of% @decide_eq_true:=@decide_eq_true
theorem dN:type_of% @PySem.PassesOwn.never:=@PySem.PassesOwn.never
theorem aC:type_of% @if_neg:=@if_neg
theorem cq:type_of% @PySem.sizeLine_eq:=@PySem.sizeLine_eq
abbrev Ae:=PySem.FuncData
theorem aI:type_of% @if_pos:=@if_pos
theorem ft:type_of% @decide_eq_false:=@decide_eq_false
abbrev Af:=PySem.World
abbrev Ag:=PySem.Around
theorem gE:type_of% @PySem.boot_len:=@PySem.boot_len
theorem oy:type_of% @PySem.F.plainAttrs_list:=@PySem.F.plainAttrs_list
theorem bN:type_of% @Ne.symm:=@Ne.symm
theorem jP:type_of% @PySem.W.mg_none_of:=@PySem.W.mg_none_of
theorem fG:type_of% @PySem.wpAny_field:=@PySem.wpAny_field
theorem iK:type_of% @PySem.wpAny_holding:=@PySem.wpAny_holding
theorem uU:type_of% @PySem.wpAny_callSpecial?_slot:=@PySem.wpAny_callSpecial?_slot
theorem pE:type_of% @PySem.wpAny_loadPart':=@PySem.wpAny_loadPart'
theorem qf:type_of% @PySem.mem_of_lookup:=@PySem.mem_of_lookup
theorem uO:type_of% @PySem.Heap.get?_update_other:=@PySem.Heap.get?_update_other
theorem eg:type_of% @congrArg:=@congrArg
theorem qb:type_of% @PySem.wpAny_setField_rec:=@PySem.wpAny_setField_rec
theorem qa:type_of% @PySem.wpAny_newObj_type:=@PySem.wpAny_newObj_type
theorem iJ:type_of% @Sum.inr.inj:=@Sum.inr.inj
theorem x5:type_of% @PySem.F.type_list_append:=@PySem.F.type_list_append
theorem xZ:type_of% @PySem.F.slot_list_append:=@PySem.F.slot_list_append
theorem AN:type_of% @PyProof.Rows.callWith_type1:=@PyProof.Rows.callWith_type1
theorem ml:type_of% @PySem.wpAny_seqItems:=@PySem.wpAny_seqItems
theorem mj:type_of% @PySem.Heap.size_push:=@PySem.Heap.size_push
theorem tR:type_of% @PySem.wpAny_truthy_bool:=@PySem.wpAny_truthy_bool
theorem tL:type_of% @of_decide_eq_true:=@of_decide_eq_true
theorem tN:type_of% @PySem.wpAny_call_entry:=@PySem.wpAny_call_entry
theorem xW:type_of% @PySem.Around.under_plainId:=@PySem.Around.under_plainId
theorem tM:type_of% @PySem.W.kia_one:=@PySem.W.kia_one
theorem Z0{p:Prop}[Decidable p](h:decide p=true:=by decide +kernel):p:=of_decide_eq_true h
theorem Z2{p:Prop}(h:p:=by omega):p:=h
theorem Y0{p:Prop}(h:p:=by simp):p:=h
local macro_rules|`(tactic|let $x:ident:=$e)=>`(tactic|have $x:ident:=$e)
local macro_rules|`($a\$b)=>`($a=some $b)
local macro_rules|`(⇑$h)=>`(by simpa using $h)
local macro_rules|`(tactic|exists $e)=>let i:=Lean.mkIdent;`(tactic|refine $e λ$(i `aL) $(i `A) $(i `outer) $(i `s) $(i `H) $(i `vs) $(i `Q) $(i `E) $(i `hr) $(i `h)=>?_)
local macro_rules|`(section v)=>let i:=Lean.mkIdent;return Lean.mkNullNode #[←`(section),←`(variable{$(i `P):ident:$(i `Ad)}{$(i `w):ident:$(i `Af)}{$(i `K):ident:$(i `ai)}{$(i `mg):ident:$(i `Str)->$(i `Option) $(i `Aa)}{$(i `base):ident:$(i `Heap)})]
local macro_rules|`(tactic|apply $e)=>`(tactic|refine $e)
local macro_rules|`(#[$x,$xs,*])=>`(⟨$x,$xs,*⟩)
local macro_rules|`(tactic|let $p:term:=$e)=>let g:=λ(x:Lean.Syntax)=>(if x.isIdent then`(rcasesPat|$(⟨x⟩):ident) else if x.isOfKind ``Lean.Parser.Term.hole then`(rcasesPat|_) else pure ⟨x⟩:Lean.MacroM (Lean.TSyntax `rcasesPat));p.raw.rewriteBottomUpM (λn=>if n.isOfKind `«term#[_,]» then n[1].getSepArgs.mapM (λx=>g x>>=λy=>`(Lean.Parser.Tactic.rcasesPatLo|$y:rcasesPat))>>=λs=>`(rcasesPat|⟨$s,*⟩)>>=λt=>pure t.raw else pure n)>>=λq=>`(tactic|obtain $(⟨q⟩):rcasesPat:=$e)
theorem U{α:Sort _}{a:α}:a=a:=rfl
abbrev ai:=PySem.W.Frag
theorem av:type_of% @List.length_map:=@List.length_map
theorem aY:type_of% @List.getElem?_eq_getElem:=@List.getElem?_eq_getElem
theorem bX:type_of% @List.getElem?_eq_some_iff:=@List.getElem?_eq_some_iff
theorem cZ:type_of% @List.mem_of_getElem?:=@List.mem_of_getElem?
theorem bh:type_of% @Nat.le_refl:=@Nat.le_refl
theorem bG:type_of% @List.mem_map:=@List.mem_map
theorem dh:type_of% @List.size_toArray:=@List.size_toArray
theorem dF:type_of% @List.getElem?_map:=@List.getElem?_map
theorem bZ:type_of% @List.mem_cons:=@List.mem_cons
theorem d5:type_of% @List.length_append:=@List.length_append
theorem dM:type_of% @List.length_take:=@List.length_take
theorem eK:type_of% @List.mem_singleton:=@List.mem_singleton
theorem dJ:type_of% @List.mem_append:=@List.mem_append
theorem cz:type_of% @List.map_map:=@List.map_map
theorem fX:type_of% @List.mem_cons_of_mem:=@List.mem_cons_of_mem
theorem eS:type_of% @List.take_length:=@List.take_length
theorem er:type_of% @List.map_append:=@List.map_append
theorem dG:type_of% @Nat.ne_of_lt:=@Nat.ne_of_lt
theorem gF:type_of% @List.mem_cons_self:=@List.mem_cons_self
theorem gN:type_of% @Bool.false_ne_true:=@Bool.false_ne_true
theorem ib:type_of% @List.getElem_of_mem:=@List.getElem_of_mem
theorem gf:type_of% @List.not_mem_nil:=@List.not_mem_nil
theorem eJ:type_of% @List.map_cons:=@List.map_cons
theorem jV:type_of% @List.length_singleton:=@List.length_singleton
theorem kP:type_of% @List.mem_append_right:=@List.mem_append_right
theorem qo:type_of% @List.nodup_iff_pairwise_ne:=@List.nodup_iff_pairwise_ne
theorem iR:type_of% @List.length_cons:=@List.length_cons
theorem jt:type_of% @Nat.lt_of_lt_of_le:=@Nat.lt_of_lt_of_le
theorem iZ:type_of% @List.nodup_cons:=@List.nodup_cons
theorem kK:type_of% @List.getElem_mem:=@List.getElem_mem
theorem gP:type_of% @Nat.zero_le:=@Nat.zero_le
theorem iu:type_of% @Nat.ne_of_gt:=@Nat.ne_of_gt
theorem u6:type_of% @List.take_of_length_le:=@List.take_of_length_le
theorem iQ:type_of% @Nat.le_trans:=@Nat.le_trans
theorem iP:type_of% @Int.le_of_lt:=@Int.le_of_lt
theorem mL:type_of% @List.mem_filter:=@List.mem_filter
theorem qk:type_of% @Bool.false_eq_true:=@Bool.false_eq_true
theorem ub:type_of% @Array.length_toList:=@Array.length_toList
theorem yi:type_of% @List.getElem?_append_left:=@List.getElem?_append_left
theorem mK:type_of% @List.take_succ:=@List.take_succ
theorem Be:type_of% @List.getElem?_append_right:=@List.getElem?_append_right
theorem u4:type_of% @List.map_congr_left:=@List.map_congr_left
theorem yg:type_of% @Int.eq_ofNat_of_zero_le:=@Int.eq_ofNat_of_zero_le
theorem qi:type_of% @List.lookup_cons:=@List.lookup_cons
theorem ua:type_of% @List.take_add_one:=@List.take_add_one
theorem t_:type_of% @Nat.le_add_right:=@Nat.le_add_right
theorem uY:type_of% @List.pairwise_map:=@List.pairwise_map
theorem wI:type_of% @List.nodup_append:=@List.nodup_append
theorem yf:type_of% @List.mem_filterMap:=@List.mem_filterMap
theorem Cd:type_of% @Option.map_eq_some_iff:=@Option.map_eq_some_iff
theorem ym:type_of% @Int.toNat_natCast:=@Int.toNat_natCast
theorem ue:type_of% @Nat.lt_irrefl:=@Nat.lt_irrefl
theorem u7:type_of% @List.forIn_nil:=@List.forIn_nil
theorem wK:type_of% @List.append_nil:=@List.append_nil
theorem Cc:type_of% @List.length_replicate:=@List.length_replicate
theorem wJ:type_of% @List.forIn_cons:=@List.forIn_cons
theorem Cb:type_of% @List.length_filter_le:=@List.length_filter_le
theorem yl:type_of% @List.length_drop:=@List.length_drop
theorem yk:type_of% @List.find?_cons:=@List.find?_cons
abbrev aj:=List PySem.Value
abbrev bF:=PySem.Str->PySem.Str
abbrev au:=List PySem.Addr
abbrev ae:=List PySem.Str
namespace L2
open PySem PySem.Spec PyProof.Rows
abbrev Key:=Sum Int Str
def wo:Key->Aa->Bool
 |.inl k,v=>Value.isInt k v
 |.inr x,v=>Value.isStrOf x v
def KN(w:Af):Key->Int
 |.inl k=>hashInt k
 |.inr x=>hashStr w x
theorem ql:∀{k:Key} {v:Aa},wo k v=true->(∃i t,k=Sum.inl i/\v=Value.int i t)∨(∃x t,k=Sum.inr x/\v=Value.str x t)
 |.inl i,v,h=>by
  let#[t,e]:=Value.isInt_shape (k:=i) (v:=v) h;exact .inl #[i,t,U,e]
 |.inr x,v,h=>by
  let#[t,e]:=Value.isStrOf_shape (x:=x) (v:=v) h;exact .inr #[x,t,U,e]
theorem gn_(i:Int)(t:Tok):wo (.inl i) (.int i t)=true:=by simp[wo,Value.isInt]
theorem _E(x:Str)(t:Tok):wo (.inr x) (.str x t)=true:=by simp[wo,Value.isStrOf]
theorem Xy(a b:Int):decide ((Sum.inl a:Key)=Sum.inl b)=(a == b):=by
 by_cases e:a=b
 ·subst e;simp
 have h:¬(Sum.inl a:Key)=Sum.inl b:=λq=>e (Sum.inl.inj q);rw[ft h];exact (beq_eq_false_iff_ne.mpr e).symm
theorem Xz(a b:Str):decide ((Sum.inr a:Key)=Sum.inr b)=decide (a=b):=by
 by_cases e:a=b
 ·subst e;simp
 have h:¬(Sum.inr a:Key)=Sum.inr b:=λq=>e (iJ q);rw[ft h,ft e]
theorem XR(a:Int)(b:Str):decide ((Sum.inl a:Key)=Sum.inr b)=false:=ft (λq=>nomatch q)
theorem XU(a:Str)(b:Int):decide ((Sum.inr a:Key)=Sum.inl b)=false:=ft (λq=>nomatch q)
def dX(prog:Ad)(w:Af):PySem.KeyKind prog w Key where
 is:=wo
 hash:=KN w
 inj:=λv a b ha hb=>by
  rcases ql ha with⟨i,t,rfl,rfl⟩|⟨x,t,rfl,rfl⟩
  ·rcases ql hb with⟨j,u,rfl,e⟩|⟨y,u,rfl,e⟩
   ·injection e with e1 _;rw[e1]
   exact nomatch e
  rcases ql hb with⟨j,u,rfl,e⟩|⟨y,u,rfl,e⟩
  ·exact nomatch e
  injection e with e1 _;rw[e1]
 byValue:=λk v h=>by
  rcases ql h with⟨i,t,rfl,rfl⟩|⟨x,t,rfl,rfl⟩<;>rfl
 pyHash:=λhv h=>by
  rcases ql hv with⟨i,t,rfl,rfl⟩|⟨x,t,rfl,rfl⟩
  ·exact wpAny_pyHash_int h
  exact wpAny_pyHash_str h
 eqBool:=λhu hv h=>by
  rcases ql hu with⟨i,t,rfl,rfl⟩|⟨x,t,rfl,rfl⟩
  ·rcases ql hv with⟨j,u,rfl,rfl⟩|⟨y,u,rfl,rfl⟩
   ·rw[Xy] at h;exact wpAny_eqBool_int h
   rw[XR] at h;exact SeqAt.EqAt.int_str i t y u _ _ _ _ h
  rcases ql hv with⟨j,u,rfl,rfl⟩|⟨y,u,rfl,rfl⟩
  ·rw[XU] at h;exact SeqAt.EqAt.str_int x t j u _ _ _ _ h
  rw[Xz] at h;exact wpAny_eqBool_str h
 «strs»:=λk x t v h=>by
  rcases ql h with⟨i,u,rfl,e⟩|⟨y,u,rfl,e⟩
  ·exact nomatch e
  injection e with e1 _
  subst e1;cases v<;>rfl
theorem ev_(prog:Ad)(w:Af)(i:Int)(t:Tok):(dX prog w).is (.inl i) (.int i t)=true:=gn_ i t
theorem eG_(prog:Ad)(w:Af)(x:Str)(t:Tok):(dX prog w).is (.inr x) (.str x t)=true:=_E x t
end L2
abbrev aq:=List L2.Key
namespace L2
open PySem PySem.Spec PyProof.Rows
inductive V where
 |non|bl (b:Bool)|int (i:Int)|str (x:Str)|byt (b:Array UInt8)|flt (b:UInt64)|ref (a:Addr)|ty (n:String)
 deriving DecidableEq
def RelV:V->Aa->Prop
 |.non,u=>u=Value.none
 |.bl b,u=>u=Value.bool b
 |.int i,u=>∃t,u=Value.int i t
 |.str x,u=>∃t,u=Value.str x t
 |.byt b,u=>∃t,u=Value.bytes b t
 |.flt b,u=>∃t,u=Value.float b t
 |.ref a,u=>u=Value.ref a
 |.ty n,u=>u=Value.type n
abbrev Vals:List V->aj->Prop:=Paired RelV
theorem Vals.length{xs:List V}{us:aj}(r:Vals xs us):xs.length=us.length:=bH r
theorem Vals.get:∀{xs:List V} {us:aj} {i:Nat} {x:V},Vals xs us->xs[i]? = some x->∃u,us[i]? = some u/\RelV x u
 |_,_,_,_,.nil,e=>by simp at e
 |_,_,0,_,.cons r _,e=>by simp at e;subst e;exact#[_,U,r]
 |_,_,i+1,x,.cons _ t,e=>by
  let#[u,h1,h2]:=Vals.get (i:=i) (x:=x) t ⇑e;exact#[u,by simpa using h1,h2]
theorem Vals.set{x:V}{u:Aa}(r:RelV x u):∀{xs:List V} {us:aj} (i:Nat),Vals xs us->Vals (xs.set i x) (us.set i u)
 |_,_,_,.nil=>.nil
 |_,_,0,.cons _ t=>.cons r t
 |_,_,i+1,.cons q t=>.cons q (Vals.set r i t)
theorem Vals.append:∀{xs ys:List V} {us ws:aj},Vals xs us->Vals ys ws->Vals (xs++ys) (us++ws)
 |_,_,_,_,.nil,s=>s
 |_,_,_,_,.cons r t,s=>.cons r (Vals.append t s)
theorem Vals.take:∀{xs:List V} {us:aj} (n:Nat),Vals xs us->Vals (xs.take n) (us.take n)
 |_,_,0,_=>.nil
 |_,_,_+1,.nil=>.nil
 |_,_,n+1,.cons r t=>.cons r (Vals.take n t)
theorem Vals.drop:∀{xs:List V} {us:aj} (n:Nat),Vals xs us->Vals (xs.drop n) (us.drop n)
 |_,_,0,r=>r
 |_,_,_+1,.nil=>.nil
 |_,_,n+1,.cons _ t=>Vals.drop n t
def eI:Option V->Option Aa->Prop
 |some v,some u=>RelV v u
 |none,none=>True
 |_,_=>False
def KV{κ:Type}:List (κ × V)->List (κ × Aa)->Prop:=Paired λ(p:κ × V) (q:κ × Aa)=>p.1=q.1/\RelV p.2 q.2
def kV:Key->V
 |.inl i=>.int i
 |.inr x=>.str x
inductive HO where
  |lst (xs:List V)
  |tup (xs:List V)
  |dK (kvs:List (Key × V))|dT (kvs:List (aq × V))
  |set (S:Int->Bool) (n:Nat)
  |ins (C dx:Addr) (fs:List (Str × V))
  |own (x:Addr)
  |xd (fs:List (Str × V))
  |met (f x:Addr)
  |rng (lo hi:Int)
  |frz (o:Obj) (u:HO)
  |tbl (ps:Array Aa)
  |ext (φ:Heap->Prop)
abbrev Hp:=Addr->Option HO
def upd(H:Hp)(a:Addr)(o:HO):Hp:=λb=>if b=a then some o else H b
theorem az{H:Hp}{a:Addr}{o:HO}:upd H a o a\o:=by unfold upd;rw[aI U]
theorem ax{H:Hp}{a b:Addr}{o:HO}(h:b≠a):upd H a o b=H b:=by unfold upd;rw[aC h]
theorem Y_{H:Hp}{a:Addr}{o u:HO}:upd (upd H a o) a u=upd H a u:=by
 funext b;unfold upd;split<;>rfl
theorem bS{H:Hp}{a b:Addr}{o u:HO}(h:H a\o)(h':H b\u)(d:o≠u):a≠b:=by
 intro e;subst e;rw[h] at h';exact d (cX h')
theorem bz{H:Hp}{a b:Addr}{o:HO}(h:H a\o)(h':H b=none):a≠b:=by
 intro e;subst e;rw[h] at h';cases h'
section
variable(P:Ad)(w:Af)
def fj(H:Hp)(h:Heap)(a:Addr):HO->Prop
 |.lst xs=>xs.length<=sizeLine/\∃(its:aj) (n:Nat),Vals xs its/\h.get? a=some { cls:=.type "list",data:=.seq its.toArray n }
 |.tup xs=>xs.length<=sizeLine/\∃its:aj,Vals xs its/\IsTup h a its.toArray/\∃o,h.get? a\o/\o.dict=none
 |.dK kvs=>kvs.length<=sizeLine/\(a == sysModules)=false/\∃vs,KV kvs vs/\h.DictOf (dX P w) a vs
 |.dT kvs=>kvs.length<=sizeLine/\(a == sysModules)=false/\∃xs:List (aq × Addr × Aa),
   Paired (λ(p:aq × V) (q:aq × Addr × Aa)=>p.1=q.1/\H q.2.1\.tup (p.1.map kV)/\RelV p.2 q.2.2) kvs xs /\
   ∃o es ep,h.get? a\o/\o.ExactDict/\o.data=.dict es ep/\es.toList=xs.map (entryOfKey (tupleKind (dX P w)))/\(xs.map (·.1)).Nodup
 |.set S n=>h.SetOf (intKind P w) a S n
 |.ins C dx fs=>H dx\.own a/\fs.length<=1000/\dx≠a/\h.get? a\PySem.W.instObj C dx /\
   ∃mA,h.Ns1 dx mA/\(∀f,eI (fs.lookup f) (mA f))/\PySem.Within mA (fs.map (·.1))
 |.own _=>∃o,h.get? a\o
 |.xd fs=>∃mA,h.Ns1 a mA/\∀f,eI (fs.lookup f) (mA f)
 |.rng lo hi=>∃t u v,h.get? a=some { cls:=.type "range",data:=.fields (List.toArray [.int lo t,.int hi u,.int 1 v]) }
 |.frz o u=>h.get? a\o/\fj H h a u
 |.tbl ps=>h.get? a=some { cls:=.none,data:=.fields ps }
 |.met f x=>h.get? a\PySem.W.methodObj (.ref f) (.ref x)
 |.ext φ=>φ h/\(∃o,h.get? a\o)/\∀h1 h2:Heap,φ h1->(∀o,h1.get? a\o->h2.get? a\o)->φ h2
def fM(H:Hp)(h:Heap):Prop:=∀a o,H a\o->fj P w H h a o
end
section
variable{P:Ad}{w:Af}{H H':Hp}{h h':Heap}{a:Addr}{o:HO}
theorem fj.lt(x:fj P w H h a o):a<h.objs.size:=by
 cases o with
 |lst xs=>let#[_,_,_,_,e]:=x;exact bx e
 |tup xs=>let#[_,_,_,p,_]:=x;exact p.lt
 |dK kvs=>let#[_,_,_,_,o,_,_,e,_]:=x;exact bx e
 |dT kvs=>let#[_,_,_,_,o,_,_,e,_]:=x;exact bx e
 |set S n=>let#[o,_,_,_,e,_]:=x;exact bx e
 |ins C dx fs=>let#[_,_,_,e,_]:=x;exact bx e
 |own y=>let#[_,e]:=x;exact bx e
 |xd fs=>let#[_,#[_,_,_,e,_],_]:=x;exact bx e
 |rng lo hi=>let#[_,_,_,e]:=x;exact bx e
 |frz ob u=>let#[e,_]:=x;exact bx e
 |tbl ps=>exact bx (show h.get? a\_ from x)
 |met f y=>exact bx (show h.get? a\_ from x)
 |ext φ=>let#[_,#[_,e],_]:=x;exact bx e
theorem Paired.aX{α β:Type}{F G:α->β->Prop}:∀{DK:List α} {DJ:List β},Paired F DK DJ->(∀a b,F a b->G a b)->Paired G DK DJ
 |_,_,.nil,_=>.nil
 |_,_,.cons r t,f=>.cons (f _ _ r) (Paired.aX t f)
theorem fj.eO(x:fj P w H h a o)(k:∀b u,(b=a∨H b\.own a)->h.get? b\u->h'.get? b\u)
  (ho:∀b,H b\.own a->H' b\.own a) (ht:∀b xs,H b\.tup xs->H' b\.tup xs):fj P w H' h' a o:=by
 induction o with
 |lst xs=>let#[z,its,n,r,e]:=x;exact#[z,its,n,r,k _ _ (.inl U) e]
 |tup xs=>let#[z,its,r,#[ob,e,c],o2,e2,c2]:=x;exact#[z,its,r,#[ob,k _ _ (.inl U) e,c],o2,k _ _ (.inl U) e2,c2]
 |dK kvs=>let#[z,y,vs,r,ob,es,ep,e,c]:=x;exact#[z,y,vs,r,ob,es,ep,k _ _ (.inl U) e,c]
 |dT kvs=>
  let#[z,y,xs,r,ob,es,ep,e,c]:=x;exact#[z,y,xs,Paired.aX r λp q z=>#[z.1,ht _ _ z.2.1,z.2.2],ob,es,ep,k _ _ (.inl U) e,c]
 |set S n=>let#[ob,es,ep,t,e,c]:=x;exact#[ob,es,ep,t,k _ _ (.inl U) e,c]
 |ins C dx fs=>
  let#[d,z,ne,e,mA,#[od,es,ep,e2,c],r]:=x;exact#[ho _ d,z,ne,k _ _ (.inl U) e,mA,#[od,es,ep,k _ _ (.inr d) e2,c],r]
 |own y=>let#[ob,e]:=x;exact#[ob,k _ _ (.inl U) e]
 |xd fs=>let#[mA,#[od,es,ep,e,c],r]:=x;exact#[mA,#[od,es,ep,k _ _ (.inl U) e,c],r]
 |rng lo hi=>let#[t,u,v,e]:=x;exact#[t,u,v,k _ _ (.inl U) e]
 |frz ob u ih=>let#[e,q]:=x;exact#[k _ _ (.inl U) e,ih q]
 |tbl ps=>
  have e:h.get? a=some { cls:=.none,data:=.fields ps }:=x;show h'.get? a=some { cls:=.none,data:=.fields ps };exact k a _ (.inl U) e
 |met f y=>
  have e:h.get? a\PySem.W.methodObj (.ref f) (.ref y):=x;show h'.get? a\PySem.W.methodObj (.ref f) (.ref y);exact k a _ (.inl U) e
 |ext φ=>let#[p,#[o,e],st]:=x;exact#[st _ _ p λo q=>k _ _ (.inl U) q,#[o,k _ _ (.inl U) e],st]
theorem fM.lt(x:fM P w H h)(e:H a\o):a<h.objs.size:=(x a o e).lt
theorem fM.fresh(x:fM P w H h)(e:h.objs.size<=a):H a=none:=by
 cases q:H a with
 |none=>rfl
 |some u=>exact absurd (jt (x.lt q) e) (ue _)
theorem fM.kept(x:fM P w H h)(k:∀b u,h.get? b\u->h'.get? b\u):fM P w H h':=λa o e=>
 (x a o e).eO (λb u _ q=>k b u q) (λ_ q=>q) λ_ _ q=>q
theorem fM.laid(x:fM P w H h)(k:∀b u,h.get? b\u->h'.get? b\u)(hp:h.objs.size<=a)(new:fj P w (upd H a o) h' a o):fM P w (upd H a o) h':=λb u e=>by
 let hn:=x.fresh hp;by_cases hb:b=a
 ·subst hb;rw[az] at e;cases e;exact new
 rw[ax hb] at e;exact (x b u e).eO (λc v _ q=>k c v q) (λc q=>by rw[ax (bz q hn)];exact q) λc xs q=>by rw[ax (bz q hn)];exact q
end
def Rd(H:Hp)(a:Addr)(u:HO):Prop:=H a=some u∨∃o,H a\.frz o u
theorem Rd.of{H:Hp}{a:Addr}{u:HO}(h:H a\u):Rd H a u:=.inl h
theorem Rd.ok{P:Ad}{w:Af}{H:Hp}{h:Heap}{a:Addr}{u:HO}(r:Rd H a u)(x:fM P w H h):fj P w H h a u:=by
 rcases r with r|⟨o,r⟩
 ·exact x a u r
 let#[_,q]:=x a _ r;exact q
def FS:Option HO->Prop
 |some (.lst _)=>True
 |some (.dK _)=>True
 |some (.dT _)=>True
 |some (.set _ _)=>True
 |some (.ins _ _ _)=>True
 |some (.ext _)=>True
 |_=>False
section
variable{P:Ad}{w:Af}{H:Hp}{h h':Heap}{x e:Addr}{o':HO}
theorem fM.write(ok:fM P w H h)(mu:FS (H x))(he:e=x∨H e\.own x)(k:∀b u,b≠e->h.get? b\u->h'.get? b\u)(BF:∃u,h'.get? e\u)
  (new:fj P w (upd H x o') h' x o'):fM P w (upd H x o') h':=λb u q=>by
 have Du:∀c y,H c\.own y->c≠x:=λc y r z=>by subst z;rw[r] at mu;exact mu
 have Kk:∀c xs,H c\.tup xs->c≠x:=λc xs r z=>by subst z;rw[r] at mu;exact mu
 by_cases hb:b=x
 ·subst hb;rw[az] at q;cases q;exact new
 rw[ax hb] at q;by_cases Am:b=e
 ·have q':H b\.own x:=by
   rcases he with z|z
   ·exact absurd (Am.trans z) hb
   rw[Am];exact z
  rw[q] at q';cases q';let#[v,hv]:=BF;exact#[v,by rw[Am];exact hv]
 apply (ok b u q).eO (λc v hc r=>k c v ?_ r) (λc r=>by rw[ax (Du c b r)];exact r) λc xs r=>by rw[ax (Kk c xs r)];exact r
 rcases hc with rfl|hc
 ·exact Am
 rintro rfl;rcases he with z|z
 ·exact Du c b hc z
 rw[hc] at z;cases z;exact hb U
end
structure Un (fs ex:au) (H H':Hp) (h h':Heap):Prop where
 keep:∀b o,h.get? b\o->H b=none->b∉fs->b∉ex->h'.get? b\o
 slot:∀b o,h.get? b\o->H b=none->b∈fs->b∉ex->∃sl,h'.get? b=some { o with slots:=sl }
 free:∀b o,h.get? b\o->H b=none->b∉ex->H' b=none
 there:∀b o,h.get? b\o->b∉ex->∃o',h'.get? b\o'
 gW:∀b xs,H b\.tup xs->H' b\.tup xs
 hY:∀b o u,H b\.frz o u->H' b\.frz o u
 ix:∀b ps,H b\.tbl ps->∃more,H' b\.tbl (ps++more)
section
variable{fs fs' ex ex':au}{H H1 H2:Hp}{h h1 h2 h':Heap}{a x e:Addr}{o:HO}
theorem Un.any(u:Un fs ex H H1 h h1){b:Addr}{ob:Obj}(q:h.get? b\ob)(n:H b=none)(hx:b∉ex):∃sl,h1.get? b=some { ob with slots:=sl }:=by
 by_cases hb:b∈fs
 ·exact u.slot b ob q n hb hx
 exact#[ob.slots,u.keep b ob q n hb hx]
theorem Un.kept(k:∀b u,h.get? b\u->h'.get? b\u):Un fs ex H H h h':=
 #[λb ob q _ _ _=>k b ob q,λb ob q _ _ _=>#[ob.slots,k b ob q],λ_ _ _ n _=>n,λb ob q _=>#[ob,k b ob q],λ_ _ q=>q,λ_ _ _ q=>q,λ_ ps q=>#[#[],by rw[q];simp]]
theorem Un.refl:Un fs ex H H h h:=Un.kept λ_ _ q=>q
theorem Un.laid(k:∀b u,h.get? b\u->h'.get? b\u)(hp:h.objs.size<=a)(hn:H a=none):Un fs ex H (upd H a o) h h' where
 keep:=λb u q _ _ _=>k b u q
 slot:=λb u q _ _ _=>#[u.slots,k b u q]
 free:=λb u q n _=>by rw[ax (dG (jt (bx q) hp))];exact n
 there:=λb u q _=>#[u,k b u q]
 gW:=λb xs q=>by rw[ax (bz q hn)];exact q
 hY:=λb u xs q=>by rw[ax (bz q hn)];exact q
 ix:=λb ps q=>#[#[],by rw[ax (bz q hn),q];simp]
theorem Un.write(mu:FS (H x))(he:e=x∨H e\.own x)(k:∀b u,b≠e->h.get? b\u->h'.get? b\u)(BF:∃u,h'.get? e\u):Un fs ex H (upd H x o) h h':=by
 have hx:∀b,H b=none->b≠x:=λb n z=>by subst z;rw[n] at mu;exact mu
 have hb:∀b,H b=none->b≠e:=λb n z=>by
  subst z;rcases he with r|r
  ·exact hx b n r
  rw[n] at r;cases r
 have hm:∀b u,H b\u->¬FS (some u)->b≠x:=λb u q nm z=>by subst z;rw[q] at mu;exact nm mu
 apply#[λb u q n _ _=>k b u (hb b n) q,λb u q n _ _=>#[u.slots,k b u (hb b n) q],λb u q n _=>by rw[ax (hx b n)];exact n,λb u q _=>?_,
  λb xs q=>by rw[ax (hm b _ q λz=>z)];exact q,λb u xs q=>by rw[ax (hm b _ q λz=>z)];exact q,λb ps q=>#[#[],by rw[ax (hm b _ q λz=>z),q];simp]]
 by_cases Am:b=e
 ·subst Am;exact BF
 exact#[u,k b u Am q]
end
def F3(h:Heap)(H:Hp):au:=(List.range h.objs.size).filter λa=>(H a).isSome
def iF(h:Heap)(H:Hp):Heap:=PySem.W.hideAll h (F3 h H)
theorem g1_(h:Heap)(H:Hp):(iF h H).objs.size=h.objs.size:=PySem.W.hideAll_size _ _
theorem hZ_{h:Heap}{H:Hp}{b:Addr}{o:Obj}(e:h.get? b\o)(n:H b=none):(iF h H).get? b\o:=
 PySem.W.hideAll_get _ e λhm=>by
  have q:(H b).isSome=true:=(mL.mp hm).2;rw[n] at q;simp at q
theorem Ys{h:Heap}{H:Hp}{b:Addr}{o:Obj}(e:(iF h H).get? b\o):h.get? b\o/\H b=none:=by
 have e':h.get? b\o:=PySem.W.of_hideAll (F3 h H) e;apply#[e',?_];cases q:H b with
 |none=>rfl
 |some x=>
  have hm:b∈F3 h H:=mL.mpr #[List.mem_range.mpr (bx e'),by simp[q]];have z:(iF h H).get? b=none:=PySem.W.hideAll_none (F3 h H) hm;rw[z] at e;cases e
end L2
abbrev ag:=List L2.V
abbrev aE:=Option L2.V
namespace L2
open PySem PySem.Spec PyProof.Rows
structure Mod (K:ai) (mg:Str->Option Aa) (base:Heap):Prop where
 DS:K.In base
 glob:base.Ns mainGlobals mg
 blt:∃mb,base.Ns builtinsNs mb/\∀x:Str,x≠"__name__"->mb x=bootBuiltins x
 nolimit:base.NoLimit
structure Cx where
 prog:Ad
 w:Af
 K:ai
 mg:Str->Option Aa
 base:Heap
 A:Ag
 N:ae
 di:Ab
 j8:Hp
 env:Env
 outer:List Env
 stack:List Env
 ex:au
 fn:Str->Bool
 calm:Bool
 pn:List (Addr × Obj)
 xe:Aa->Ab->Prop
def o9(l:List Env):au:=l.filterMap (·.frame)
abbrev Cx.fs(X:Cx):au:=o9 X.outer
def OM(sc:Scope)(x:Str):Prop:=sc.names.lookup x=some .local∨sc.names.lookup x\.cell∨sc.names.lookup x\.free
def Loc(sc:Scope)(x:Str):Prop:=sc.names.lookup x=some .local∨sc.names.lookup x\.cell
def Look(env:Env)(h:Heap)(m:Str->Option Aa)(x:Str)(u:Aa):Prop:=
 (env.kindOf x\.local/\m x\u)∨((env.kindOf x\.cell∨env.kindOf x\.free)/\∃c,env.cells.lookup x\c/\h.IsCell c (some u))
structure Cx.Ok (X:Cx):Prop where
 mod:Mod X.K X.mg X.base
 kind:X.env.scope.kind=.function
 glob:X.env.globals=mainGlobals
 blt:X.env.builtins=builtinsNs
 above:X.di.heap.objs.size<=X.env.locals
 inj:∀x y c,X.env.cells.lookup x\c->X.env.cells.lookup y\c->x=y
 has:∀x,(X.env.kindOf x\.cell∨X.env.kindOf x\.free)->∃c,X.env.cells.lookup x\c
 B1:∀x c,X.fn x=true->X.env.cells.lookup x\c->X.di.heap.objs.size<=c
 hd:X.calm=true->X.A.handled=none
 frames:X.A.frames\X.stack
 F9:X.stack=X.outer∨(X.stack=X.env::X.outer/\X.env.frame\X.env.locals)
 Hl:∀b∈X.ex,b≠X.env.locals/\∀x c,X.env.cells.lookup x\c->c≠b
 bs:∀b o,X.base.get? b\o->X.di.heap.get? b\o/\X.j8 b=none
 tV:X.base.objs.size<=X.di.heap.objs.size
 si:∀b o,X.base.get? b\o->b∉X.ex
 tG:∀b∈X.ex,b∉X.fs
 fU:X.di.heap.FunFrames X.base X.outer
 vZ:∀b∈X.fs,X.j8 b=none
structure Inv (X:Cx) (pins:List (Addr × Obj)) (σ:List aE) (H:Hp) (s:Ab):Prop where
 ok:X.Ok
 os:s.os=X.di.os
 bare:AllBare s.gens
 base:Un X.fs X.ex X.j8 H X.di.heap s.heap
 loc:∃m,s.heap.Ns X.env.locals m/\∀(i:Nat) (x:Str) (v:V),X.N[i]? = some x->σ[i]? = some (some v)->OM X.env.scope x->∃u,RelV v u/\Look X.env s.heap m x u
 cell:∀x c,X.env.cells.lookup x\c->∃v,s.heap.IsCell c v
 free:H X.env.locals=none
 d7:∀x c,X.env.cells.lookup x\c->H c=none
 pin:∀p∈X.pn++pins,s.heap.get? p.1\p.2/\H p.1=none/\p.1≠X.env.locals/\p.1∉X.fs/\∀v,p.2.data≠.cell v
 aA:fM X.prog X.w H s.heap
 len:σ.length=X.N.length
section
variable{X:Cx}{pins:List (Addr × Obj)}{σ:List aE}{H H':Hp}{s:Ab}{h':Heap}
theorem Cx.Ok.Km(ok:X.Ok){b:Addr}{o:Obj}(e:X.base.get? b\o):b∉X.fs:=λhb=>by
 have:=(ok.fU.mem hb).1;rw[e] at this;cases this
theorem Inv.bs(I:Inv X pins σ H s):∀b o,X.base.get? b\o->s.heap.get? b\o/\H b=none:=λb o e=>
 #[I.base.keep b o (I.ok.bs b o e).1 (I.ok.bs b o e).2 (I.ok.Km e) (I.ok.si b o e),I.base.free b o (I.ok.bs b o e).1 (I.ok.bs b o e).2 (I.ok.si b o e)]
theorem Inv.bk(I:Inv X pins σ H s):∀b o,X.base.get? b\o->s.heap.get? b\o:=λb o e=>(I.bs b o e).1
theorem Inv.mod(I:Inv X pins σ H s):Mod X.K X.mg X.base:=I.ok.mod
theorem Inv.gJ(I:Inv X pins σ H s):X.K.In s.heap:=I.ok.mod.DS.keeps I.bk
theorem Inv.lt(I:Inv X pins σ H s):X.env.locals<s.heap.objs.size:=let #[_,hn,_]:=I.loc;hn.lt
theorem Inv.sz(I:Inv X pins σ H s):X.di.heap.objs.size<=s.heap.objs.size:=iQ I.ok.above (Nat.le_of_lt I.lt)
theorem Inv.Kl(I:Inv X pins σ H s){a:Addr}(h:s.heap.objs.size<=a):a∉X.fs:=λhb=>by
 let#[_,o,ho,_]:=I.ok.fU.mem hb;exact absurd (jt (bx ho) (iQ I.sz h)) (ue _)
theorem Inv.uN(I:Inv X pins σ H s):∀x c,X.env.cells.lookup x\c->c≠X.env.locals:=λx c e z=>by
 let#[v,o,ho,hd]:=I.cell x c e;let#[m,#[o',es,ep,oa,hU,_],_]:=I.loc;rw[z,oa] at ho;cases ho;rw[hU] at hd;cases hd
theorem Inv.fU(I:Inv X pins σ H s):s.heap.FunFrames X.base X.outer:=by
 have all:∀(l:List Env),(∀b∈o9 l,b∈X.fs)->X.di.heap.FunFrames X.base l->s.heap.FunFrames X.base l:=by
  intro l
  induction l with
  |nil=>intro _ _;trivial
  |cons env r ih=>
   intro hs hl;let#[hk,#[L,o,hf,hn,ho,hd],hr]:=hl;have hL:L∈X.fs:=hs L (by unfold o9;rw[List.filterMap_cons,hf];exact gF);let#[sl,e]:=I.base.slot L o ho (I.ok.vZ L hL) hL λz=>I.ok.tG L z hL;exact#[hk,#[L,_,hf,hn,e,hd],ih (λb hb=>hs b (by unfold o9;rw[List.filterMap_cons,hf];exact fX _ hb)) hr]
 exact all X.outer (λ_ hb=>hb) I.ok.fU
theorem Inv.stack(I:Inv X pins σ H s):s.heap.FunFrames X.base X.stack:=by
 rcases I.ok.F9 with e|⟨e,hf⟩
 ·rw[e];exact I.fU
 rw[e];let#[m,hn,_]:=I.loc;apply .cons (by rw[I.ok.kind];decide) hf hn ?_ I.fU;exact Heap.get?_none_of_le (iQ I.ok.tV I.ok.above)
theorem Inv.kU(I:Inv X pins σ H s):∀b∈o9 X.stack,b∈X.env.locals::X.fs:=λb hb=>by
 rcases I.ok.F9 with e|⟨e,hf⟩
 ·rw[e] at hb;exact fX _ hb
 rw[e] at hb;unfold o9 at hb;rw[List.filterMap_cons,hf] at hb;exact hb
theorem Inv.nh(I:Inv X pins σ H s):∀b∈o9 X.stack,H b=none:=λb hb=>by
 rcases bZ.mp (I.kU b hb) with e|hb
 ·rw[e];exact I.free
 let#[_,o,ho,_]:=I.ok.fU.mem hb;exact I.base.free b o ho (I.ok.vZ b hb) λz=>I.ok.tG b z hb
theorem Inv.step{g':Array GenState}{t':Nat}{d':Drawn}{ch:au}(I:Inv X pins σ H s)
  (uI:∀b∈ch,(b∈X.ex∨X.di.heap.objs.size<=b)/\b≠X.env.locals/\(∀x c,X.env.cells.lookup x\c->c≠b)/\∀p∈X.pn++pins,p.1≠b)
  (keep:∀b o,b≠X.env.locals->b∉X.fs->b∉ch->s.heap.get? b\o->H b=none->h'.get? b\o)
  (slot:∀b o,b≠X.env.locals->b∈X.fs->b∉ch->s.heap.get? b\o->H b=none->∃sl,h'.get? b=some { o with slots:=sl }) (free:∀b o,b∉ch->s.heap.get? b\o->H b=none->H' b=none)
  (there:∀b o,b∉ch->s.heap.get? b\o->∃o',h'.get? b\o')
  (gW:∀b xs,H b\.tup xs->H' b\.tup xs) (hY:∀b o u,H b\.frz o u->H' b\.frz o u) (ix:∀b ps,H b\.tbl ps->∃more,H' b\.tbl (ps++more))
  (ns:∀m,s.heap.Ns X.env.locals m->h'.Ns X.env.locals m) (aA:fM X.prog X.w H' h') (hg:AllBare g') :
  Inv X pins σ H' { s with heap:=h',gens:=g',drawn:=d',toks:=t' }:=by
 have P0:∀b o,X.di.heap.get? b\o->b≠X.env.locals:=λb o e=>dG (jt (bx e) I.ok.above)
 have Gx:∀b o,X.di.heap.get? b\o->b∉X.ex->b∉ch:=λb o e hx hb=>by
  rcases (uI b hb).1 with z|z
  ·exact hx z
  exact absurd (jt (bx e) z) (ue _)
 have cellK:∀x c,X.env.cells.lookup x\c->∀v,s.heap.IsCell c v->h'.IsCell c v:=λx c e v ⟨o,ho,hd⟩=>by
  have Dx:c∉ch:=λz=>(uI c z).2.2.1 x c e U;by_cases hc:c∈X.fs
  ·let#[sl,q]:=slot c o (I.uN x c e) hc Dx ho (I.d7 x c e);exact#[_,q,hd]
  exact#[o,keep c o (I.uN x c e) hc Dx ho (I.d7 x c e),hd]
 apply#[I.ok,I.os,hg,#[λb o e n hb hx=>?_,λb o e n hb hx=>?_,λb o e n hx=>?_,λb o e hx=>?_,λb xs e=>gW b xs (I.base.gW b xs e),λb o xs e=>hY b o xs (I.base.hY b o xs e),λb ps e=>?_],?_,λx c e=>?_,?_,λx c e=>?_,λp hp=>?_,aA,I.len]
 ·exact keep b o (P0 b o e) hb (Gx b o e hx) (I.base.keep b o e n hb hx) (I.base.free b o e n hx)
 ·let#[sl,e1]:=I.base.slot b o e n hb hx;let#[VM,e2]:=slot b _ (P0 b o e) hb (Gx b o e hx) e1 (I.base.free b o e n hx);exact#[VM,e2]
 ·let#[o',e1]:=I.base.there b o e hx;exact free b o' (Gx b o e hx) e1 (I.base.free b o e n hx)
 ·let#[o',e1]:=I.base.there b o e hx;exact there b o' (Gx b o e hx) e1
 ·let#[m1,e1]:=I.base.ix b ps e;let#[m2,e2]:=ix b _ e1;exact#[m1++m2,by rw[e2,Array.append_assoc]]
 ·let#[m,hn,hl]:=I.loc;apply#[m,ns m hn,λi x v e1 e2 e3=>?_];let#[u,r,l]:=hl i x v e1 e2 e3;apply#[u,r,?_];rcases l with l|⟨k,c,e,z⟩
  ·exact .inl l
  exact .inr #[k,c,e,cellK x c e _ z]
 ·let#[v,z]:=I.cell x c e;exact#[v,cellK x c e v z]
 ·let#[m,#[o,_,_,ho,_],_]:=I.loc;exact free _ o (λz=>(uI _ z).2.1 U) ho I.free
 ·let#[v,o,ho,hd]:=I.cell x c e;exact free c o (λz=>(uI c z).2.2.1 x c e U) ho (I.d7 x c e)
 let#[e,n,ne,nf,d]:=I.pin p hp;have Dx:p.1∉ch:=λz=>(uI p.1 z).2.2.2 p hp U;exact#[keep p.1 p.2 ne nf Dx e n,free p.1 p.2 Dx e n,ne,nf,d]
theorem Inv.un{t':Nat}(I:Inv X pins σ H s)(u:Un X.fs [] H H' s.heap h')(aA:fM X.prog X.w H' h'):Inv X pins σ H' { s with heap:=h',toks:=t' }:=by
 let#[m,#[o,es,ep,ho,r],_]:=id I.loc;let#[sl,hL]:=u.any ho I.free Y0
 exact I.step (g':=s.gens) (d':=s.drawn) (ch:=[]) (λ_ z=>nomatch z) (λb o _ hb _ e n=>u.keep b o e n hb Y0) (λb o _ hb _ e n=>u.slot b o e n hb Y0) (λb o _ e n=>u.free b o e n Y0) (λb o _ e=>u.there b o e Y0) u.gW u.hY u.ix (λm' hm=>by
  let#[o',Hm,Hq,oa,r']:=hm;rw[ho] at oa;cases oa;exact#[_,Hm,Hq,hL,r']) aA I.bare
theorem Inv.call{g':Array GenState}{t':Nat}{d':Drawn}{ch:au}(I:Inv X pins σ H s)(u:Un (o9 X.stack) ch H H' s.heap h')(aA:fM X.prog X.w H' h')(hg:AllBare g')
  (uI:∀b∈ch,(b∈X.ex∨X.di.heap.objs.size<=b)/\b≠X.env.locals/\(∀x c,X.env.cells.lookup x\c->c≠b)/\∀p∈X.pn++pins,p.1≠b) :
  Inv X pins σ H' { s with heap:=h',gens:=g',drawn:=d',toks:=t' }:=by
 let#[m,#[o,es,ep,ho,r],_]:=id I.loc;let#[sl,hL]:=u.any ho I.free λz=>(uI _ z).2.1 U
 exact I.step (ch:=ch) uI (λb o hL hb hc e n=>u.keep b o e n (λz=>(bZ.mp (I.kU b z)).elim hL hb) hc) (λb o _ _ hc e n=>u.any e n hc) (λb o hc e n=>u.free b o e n hc) (λb o hc e=>u.there b o e hc) u.gW u.hY u.ix (λm' hm=>by
  let#[o',Hm,Hq,oa,r']:=hm;rw[ho] at oa;cases oa;exact#[_,Hm,Hq,hL,r']) aA hg
theorem Inv.turned{t':Nat}{it:Addr}(I:Inv X pins σ H s)(k:∀b o,b≠it->s.heap.get? b\o->h'.get? b\o)(hn:H it=none)(hL:it≠X.env.locals)
  (h1:it∈X.ex∨X.di.heap.objs.size<=it) (h2:∀x c,X.env.cells.lookup x\c->c≠it) (h3:∀p∈X.pn++pins,p.1≠it):Inv X pins σ H { s with heap:=h',toks:=t' }:=by
 have PZ:∀b u,H b\u->b≠it:=λb u e z=>by rw[z,hn] at e;cases e
 apply I.step (g':=s.gens) (d':=s.drawn) (ch:=[it]) (λb hb=>?_) (λb o _ _ hc e _=>k b o (λz=>hc (by simp[z])) e) (λb o _ _ hc e _=>#[o.slots,k b o (λz=>hc (by simp[z])) e]) (λ_ _ _ _ n=>n)
  (λb o hc e=>#[o,k b o (λz=>hc (by simp[z])) e]) (λ_ _ e=>e) (λ_ _ _ e=>e) (λb ps e=>#[#[],by rw[e];simp]) (λm hm=>?_) (λb u e=>?_) I.bare
 ·have e:b=it:=⇑hb
  subst e;exact#[h1,hL,h2,h3]
 ·let#[o,es,ep,ho,r]:=hm;exact#[o,es,ep,k _ o (bN hL) ho,r]
 apply (I.aA b u e).eO (λc v hc q=>k c v ?_ q) (λ_ q=>q) λ_ _ q=>q;rcases hc with z|z
 ·rw[z];exact PZ b u e
 exact PZ c _ z
theorem Inv.tok(I:Inv X pins σ H s)(t:Nat):Inv X pins σ H { s with toks:=t }:=I.un (h':=s.heap) (t':=t) Un.refl I.aA
theorem Inv.kept{t':Nat}(I:Inv X pins σ H s)(k:∀b u,s.heap.get? b\u->h'.get? b\u):Inv X pins σ H { s with heap:=h',toks:=t' }:=I.un (Un.kept k) (I.aA.kept k)
theorem Inv.laid{a:Addr}{o:HO}{t':Nat}(I:Inv X pins σ H s)(k:∀b u,s.heap.get? b\u->h'.get? b\u)(hp:s.heap.objs.size<=a)(new:fj X.prog X.w (upd H a o) h' a o) :
  Inv X pins σ (upd H a o) { s with heap:=h',toks:=t' }:=I.un (Un.laid k hp (I.aA.fresh hp)) (I.aA.laid k hp new)
theorem Inv.write{x e:Addr}{o:HO}{t':Nat}(I:Inv X pins σ H s)(mu:FS (H x))(he:e=x∨H e\.own x)(k:∀b u,b≠e->s.heap.get? b\u->h'.get? b\u)(BF:∃u,h'.get? e\u)
  (new:fj X.prog X.w (upd H x o) h' x o):Inv X pins σ (upd H x o) { s with heap:=h',toks:=t' }:=I.un (Un.write mu he k BF) (I.aA.write mu he k BF new)
theorem Inv.nO{xn:List (Addr × Obj)}(I:Inv X pins σ H s)(h:∀p∈xn,s.heap.get? p.1\p.2/\H p.1=none/\p.1≠X.env.locals/\p.1∉X.fs/\∀v,p.2.data≠.cell v):Inv X xn σ H s:=
 #[I.ok,I.os,I.bare,I.base,I.loc,I.cell,I.free,I.d7,λp hp=>(dJ.mp hp).elim (λz=>I.pin p (List.mem_append_left _ z)) (h p),I.aA,I.len]
theorem Sj{N:ae}(hN:N.Nodup){i j:Nat}{x:Str}(a:N[i]? = some x)(b:N[j]? = some x):i=j:=by
 let#[h1,e1]:=bX.mp a;let#[h2,e2]:=bX.mp b;exact (List.getElem_inj hN).mp (e1.trans e2.symm)
theorem Tw{M:Model}{A:Ag}{E:Aa->Ab->Prop}{i:Nat}{x:Str}{v:V}{u:Aa}{Q:Unit->Ab->Prop}(I:Inv X pins σ H s)(hN:X.N.Nodup)(hi:X.N[i]? = some x)(hx:Loc X.env.scope x)(r:RelV v u)
  (h:∀s',Inv X pins (σ.set i (some v)) H s'->(∃a,Heap.SameBut a s.heap s'.heap/\(a=X.env.locals∨X.env.cells.lookup x\a))->Q () s') (hf:X.fn x=true∨X.env.scope.names.lookup x\.local:=by first|exact .inl U|exact .inr U|assumption):wpAny M A (storeName X.env x u) Q E s:=by
 let#[m,hn,hl]:=id I.loc;have LJ:(X.env.scope.kind == .class || (X.env.scope.kind == .module&&X.env.locals != X.env.globals))=false:=by rw[I.ok.kind];rfl
 have Ey:i<σ.length:=by rw[I.len];exact (bX.mp hi).1
 let uN:=I.uN
 have tracked:∀{a:Addr} {h':Heap},(∃o,s.heap.get? a\o/\H a=none)->Heap.SameBut a s.heap h'->fM X.prog X.w H h':=λ{a h'} ha hs b ob e=>by
  let#[_,_,xG]:=ha;apply (I.aA b ob e).eO (λc w' hc q=>(hs.2 c ?_).trans q) (λ_ q=>q) λ_ _ q=>q;rintro rfl;rcases hc with rfl|hc
  ·rw[xG] at e;cases e
  rw[xG] at hc;cases hc
 rcases hx with hk|hk
 ·apply wpAny_storeName_local hk hn (λh' Ek hs=>?_) LJ;let#[oL,_,_,GU,_]:=id hn;apply h _ #[I.ok,I.os,I.bare,#[λb o e n hb hx=>?_,λb o e n hb hx=>?_,I.base.free,λb o e hx=>?_,I.base.gW,I.base.hY,I.base.ix],#[_,Ek,λj y v' e1 e2 e3=>?_],λy c e=>?_,I.free,I.d7,λp hp=>?_,tracked #[oL,GU,I.free] hs,by simpa using I.len] #[_,hs,.inl U]
  ·exact (hs.2 b (dG (jt (bx e) I.ok.above))).trans (I.base.keep b o e n hb hx)
  ·let#[sl,e1]:=I.base.slot b o e n hb hx;exact#[sl,(hs.2 b (dG (jt (bx e) I.ok.above))).trans e1]
  ·let#[o',e1]:=I.base.there b o e hx;exact#[o',(hs.2 b (dG (jt (bx e) I.ok.above))).trans e1]
  ·by_cases hj:j=i
   ·subst hj;rw[hi] at e1;cases e1;rw[List.getElem?_set_self Ey] at e2;cases e2;exact#[u,r,.inl #[hk,by simp]]
   rw[List.getElem?_set_ne (bN hj)] at e2;let#[u',r',q]:=hl j y v' e1 e2 e3;apply#[u',r',?_];rcases q with⟨k,e⟩|⟨k,c,e,z⟩
   ·apply .inl #[k,?_];have:y≠x:=λe=>hj (Sj hN e1 (e▸hi));simp[this,e]
   exact .inr #[k,c,e,z.sameBut hs (uN y c e)]
  ·let#[w',z]:=I.cell y c e;exact#[w',z.sameBut hs (uN y c e)]
  let#[e,n,ne,nf,d]:=I.pin p hp;exact#[(hs.2 p.1 ne).trans e,n,ne,nf,d]
 have Lw:X.fn x=true:=by
  rcases hf with z|z
  ·exact z
  rw[z] at hk;cases hk
 let#[c,hc]:=I.ok.has x (.inl hk);let#[w',z]:=I.cell x c hc;apply wpAny_storeName_cell I.ok.kind hk hc z (λh' G6 hs=>?_);let#[oc,Ei,Lc]:=id z;apply h { s with heap:=h' } #[I.ok,I.os,I.bare,#[λb o e n hb hx=>?_,λb o e n hb hx=>?_,I.base.free,λb o e hx=>?_,I.base.gW,I.base.hY,I.base.ix],#[m,hn.sameBut hs (bN (uN x c hc)),λj y v' e1 e2 e3=>?_],λy c' e=>?_,I.free,I.d7,λp hp=>?_,tracked #[oc,Ei,I.d7 x c hc] hs,by simpa using I.len] #[c,hs,.inr hc]
 ·exact (hs.2 b (dG (jt (bx e) (I.ok.B1 x c Lw hc)))).trans (I.base.keep b o e n hb hx)
 ·let#[sl,e1]:=I.base.slot b o e n hb hx;exact#[sl,(hs.2 b (dG (jt (bx e) (I.ok.B1 x c Lw hc)))).trans e1]
 ·let#[o',e1]:=I.base.there b o e hx;exact#[o',(hs.2 b (dG (jt (bx e) (I.ok.B1 x c Lw hc)))).trans e1]
 ·by_cases hj:j=i
  ·subst hj;rw[hi] at e1;cases e1;rw[List.getElem?_set_self Ey] at e2;cases e2;exact#[u,r,.inr #[.inl hk,c,hc,G6]]
  rw[List.getElem?_set_ne (bN hj)] at e2;let#[u',r',q]:=hl j y v' e1 e2 e3;apply#[u',r',?_];rcases q with q|⟨k,c',e,z'⟩
  ·exact .inl q
  apply .inr #[k,c',e,z'.sameBut hs ?_];rintro rfl;exact hj (Sj hN e1 (I.ok.inj _ _ _ e hc▸hi))
 ·by_cases Rj:c'=c
  ·subst Rj;exact#[_,G6]
  let#[w2,z2]:=I.cell y c' e;exact#[w2,z2.sameBut hs Rj]
 let#[e,n,ne,nf,d]:=I.pin p hp;apply#[(hs.2 p.1 ?_).trans e,n,ne,nf,d];intro q;rw[q,Ei] at e;have q':oc=p.2:=cX e;exact d w' (by rw[<- q'];exact Lc)
theorem Sf{M:Model}{A:Ag}{E:Aa->Ab->Prop}{i:Nat}{x:Str}{v:V}{u:Aa}{Q:Unit->Ab->Prop}(I:Inv X pins σ H s)(hN:X.N.Nodup)(hi:X.N[i]? = some x)(hx:Loc X.env.scope x)(r:RelV v u)
  (h:∀s',Inv X pins (σ.set i (some v)) H s'->Q () s') (hf:X.fn x=true∨X.env.scope.names.lookup x\.local:=by first|exact .inl U|exact .inr U|assumption):wpAny M A (storeName X.env x u) Q E s:=
 Tw I hN hi hx r (λs' I' _=>h s' I') hf
theorem Inv.Fj{s':Ab}{ch:au}(I:Inv X pins σ H s)(ho:s'.os=s.os)(u:Un (o9 X.stack) ch H H' s.heap s'.heap)(aA:fM X.prog X.w H' s'.heap)(hg:AllBare s'.gens)
  (uI:∀b∈ch,(b∈X.ex∨X.di.heap.objs.size<=b)/\b≠X.env.locals/\(∀x c,X.env.cells.lookup x\c->c≠b)/\∀p∈X.pn++pins,p.1≠b):Inv X pins σ H' s':=by
 let#[h',g',d',t',o']:=s';have e:o'=s.os:=ho;subst e;exact I.call (g':=g') (t':=t') (d':=d') u aA hg uI
end
abbrev XK:=Aa->Option Addr->Hp->Prop
abbrev St:=List aE
abbrev VK:=V->Hp->Prop
abbrev TE:=St->Hp->VK->Prop
abbrev TT:=St->Hp->(Bool->Hp->Prop)->Prop
abbrev TA:=St->Hp->(ag->Hp->Prop)->Prop
structure Ends where
 nx:St->Hp->Prop
 rt:VK
 bk:St->Hp->Prop:=λ_ _=>False
 ct:St->Hp->Prop:=λ_ _=>False
abbrev TS:=Ends->St->Hp->Prop
def EP(X:Cx)(pins:List (Addr × Obj))(σ:St)(Q:VK)(u:Aa)(s':Ab):Prop:=∃v H',Inv X pins σ H' s'/\RelV v u/\Q v H'
def TP(X:Cx)(pins:List (Addr × Obj))(σ:St)(Q:Bool->Hp->Prop)(b:Bool)(s':Ab):Prop:=∃H',Inv X pins σ H' s'/\Q b H'
def AP(X:Cx)(pins:List (Addr × Obj))(σ:St)(Q:ag->Hp->Prop)(us:aj)(s':Ab):Prop:=∃vs H',Inv X pins σ H' s'/\Vals vs us/\Q vs H'
def SP(X:Cx)(pins:List (Addr × Obj))(D:Ends)(f:Flow)(s':Ab):Prop:=
 match f with
 |.next=>∃aZ H',Inv X pins aZ H' s'/\D.nx aZ H'
 |.brk=>∃aZ H',Inv X pins aZ H' s'/\D.bk aZ H'
 |.cont=>∃aZ H',Inv X pins aZ H' s'/\D.ct aZ H'
 |.ret u=>∃v aZ H',Inv X pins aZ H' s'/\RelV v u/\D.rt v H'
def PE(X:Cx)(e:Expr)(t:TE):Prop:=
 ∀(pins:List (Addr × Obj)) (s:Ab) (σ:St) (H:Hp) (Q:VK),Inv X pins σ H s->t σ H Q->wpAny (model X.prog X.w) X.A (eval e X.env) (EP X pins σ Q) X.xe s
def PT(X:Cx)(e:Expr)(t:TT):Prop:=
 ∀(pins:List (Addr × Obj)) (s:Ab) (σ:St) (H:Hp) (Q:Bool->Hp->Prop),Inv X pins σ H s->t σ H Q->wpAny (model X.prog X.w) X.A (isTrue e X.env (eval e X.env)) (TP X pins σ Q) X.xe s
def PW(X:Cx)(e:Expr)(t:TT):Prop:=
 ∀(whole:Sem Aa) (pins:List (Addr × Obj)) (s:Ab) (σ:St) (H:Hp) (Q:Bool->Hp->Prop),Inv X pins σ H s->t σ H Q->wpAny (model X.prog X.w) X.A (isTrue e X.env whole) (TP X pins σ Q) X.xe s
theorem PW.pt{X:Cx}{e:Expr}{t:TT}(h:PW X e t):PT X e t:=h _
def PA(X:Cx)(es:List Expr)(t:TA):Prop:=
 ∀(pos:Pos) (pins:List (Addr × Obj)) (s:Ab) (σ:St) (H:Hp) (Q:ag->Hp->Prop),Inv X pins σ H s->t σ H Q->wpAny (model X.prog X.w) X.A (spliced (backTo pos (starEach es X.env))) (AP X pins σ Q) X.xe s
def PS(X:Cx)(st:Stmt)(t:TS):Prop:=
 ∀(pins:List (Addr × Obj)) (s:Ab) (σ:St) (H:Hp) (D:Ends),Inv X pins σ H s->t D σ H->wpAny (model X.prog X.w) X.A (exec st X.env) (SP X pins D) X.xe s
def j0(X:Cx)(st:List Stmt)(t:TS):Prop:=
 ∀(pins:List (Addr × Obj)) (s:Ab) (σ:St) (H:Hp) (D:Ends),Inv X pins σ H s->t D σ H->wpAny (model X.prog X.w) X.A (execs st X.env) (SP X pins D) X.xe s
theorem aO{α:Type}{t:Sem α}{Q Q':α->Ab->Prop}{M:Model}{A:Ag}{E:Aa->Ab->Prop}{s:Ab}(h:wpAny M A t Q E s)(hQ:∀a s,Q a s->Q' a s):wpAny M A t Q' E s:=wpAny_mono h hQ λ_ _ x=>x
end L2
abbrev iS:=L2.St->L2.Hp->Prop
abbrev bR:=Nat->L2.St->L2.Hp->Prop
namespace L2
open PySem PySem.Spec PyProof.Rows
section
variable{X:Cx}
inductive oK (i:Nat) (σ:St) (H:Hp) (Q:VK):Prop
 |mk:∀v,σ[i]? = some (some v)->Q v H->oK i σ H Q
def tC(v:V):TE:=λ_ H Q=>Q v H
theorem Ye{i:Nat}{x:Str}{pos:Pos}(hN:X.N[i]? = some x)(hv:OM X.env.scope x)(hd:(x == ("__debug__":Str))=false:=by decide)(iG:(x == ("__classdict__":Str))=false:=by decide):PE X (.Name x pos) (oK i):=by
 intro pins s σ H Q I h;let#[v,e,h]:=h;let#[m,hn,hl]:=I.loc;let#[u,r,l]:=hl i x v hN e hv;have fin:EP X pins σ Q u s:=#[v,H,I,r,h];rcases l with⟨hk,hm⟩|⟨hk,c,hc,oh⟩
 ·exact wpAny_Name (wpAny_loadName_local I.ok.kind hk hn hm fin) hd
 rcases hk with hk|hk
 ·exact wpAny_Name (wpAny_loadName_cell I.ok.kind hk hc oh fin) hd
 exact wpAny_Name (wpAny_loadName_free I.ok.kind hk hc oh fin iG) hd
theorem ay{i j pos}:PE X (.Constant (.int i) j pos) (tC (.int i)):=λ_ _ _ H _ I h=>wpAny_Constant_int #[.int i,H,I.tok _,#[_,U],h]
theorem il{b j pos}:PE X (.Constant (.bool b) j pos) (tC (.bl b)):=λ_ _ _ H _ I h=>Constant_bool #[.bl b,H,I,U,h]
theorem tZ{j pos}:PE X (.Constant .none j pos) (tC .non):=λ_ _ _ H _ I h=>Constant_none #[.non,H,I,U,h]
theorem tY{x j pos}:PE X (.Constant (.str x) j pos) (tC (.str x)):=λ_ _ _ H _ I h=>Calls.Constant_str #[.str x,H,I.tok _,#[_,U],h]
def Gl(X:Cx)(x:Str):Prop:=X.env.kindOf x=some .globalImplicit
theorem MF{E:Aa->Ab->Prop}{pins:List (Addr × Obj)}{s:Ab}{σ:St}{H:Hp}{x:Str}{u:Aa}{pos:Pos}{Q:Aa->Ab->Prop}(I:Inv X pins σ H s)(hg:Gl X x)(hm:X.mg x\u)(h:Q u s)
  (hd:(x == ("__debug__":Str))=false:=by decide):wpAny (model X.prog X.w) X.A (eval (.Name x pos) X.env) Q E s:=
 Calls.Name_function_global I.ok.kind hg (Calls.loadGlobal_global (by rw[I.ok.glob];exact I.mod.glob.keeps I.bk) hm h) hd
theorem uV{E:Aa->Ab->Prop}{pins:List (Addr × Obj)}{s:Ab}{σ:St}{H:Hp}{x:Str}{u:Aa}{pos:Pos}{Q:Aa->Ab->Prop}(I:Inv X pins σ H s)(hg:Gl X x)(hm:X.mg x=none)(hv:bootBuiltins x\u)(h:Q u s)
  (hn:x≠"__name__":=by decide) (hd:(x == ("__debug__":Str))=false:=by decide):wpAny (model X.prog X.w) X.A (eval (.Name x pos) X.env) Q E s:=by
 let#[mb,h1,h2]:=I.mod.blt;exact Calls.Name_function_global I.ok.kind hg (Calls.loadGlobal_builtin (by rw[I.ok.glob];exact I.mod.glob.keeps I.bk) hm (by rw[I.ok.blt];exact h1.keeps I.bk) ((h2 x hn).trans hv) h) hd
theorem B4{x:Str}{v:V}{u:Aa}{pos:Pos}(hg:Gl X x)(hm:X.mg x\u)(r:RelV v u)(hd:(x == ("__debug__":Str))=false:=by decide):PE X (.Name x pos) (tC v):=
 λ_ _ _ H _ I h=>MF I hg hm #[v,H,I,r,h] hd
theorem jT{x:Str}{v:V}{u:Aa}{pos:Pos}(hg:Gl X x)(hm:X.mg x=none)(hv:bootBuiltins x\u)(r:RelV v u)(hn:x≠"__name__":=by decide)(hd:(x == ("__debug__":Str))=false:=by decide):PE X (.Name x pos) (tC v):=
 λ_ _ _ H _ I h=>uV I hg hm hv #[v,H,I,r,h] hn hd
variable{a b:Expr}{ta tb:TE}{pos:Pos}
def PC(X:Cx)(op:CmpOp)(a b:Expr)(t:TE):Prop:=
 ∀(pins:List (Addr × Obj)) (s:Ab) (σ:St) (H:Hp) (Q:VK),Inv X pins σ H s->t σ H Q->
  wpAny (model X.prog X.w) X.A (eval a X.env) (λv aJ=>wpAny (model X.prog X.w) X.A (eval b X.env) (λu jv=>wpAny (model X.prog X.w) X.A (compareOp op v u) (EP X pins σ Q) X.xe jv) X.xe aJ) X.xe s
theorem jA(b:Expr){op:CmpOp}(h:op≠.In)(h2:op≠.NotIn):behindInMarks op b=false:=by
 have e1:(op == CmpOp.In)=false:=by cases op<;>first|rfl|exact absurd U h
 have e2:(op == CmpOp.NotIn)=false:=by cases op<;>first|rfl|exact absurd U h2
 cases b<;>simp[behindInMarks,e1,e2]
def JO(ta:TE):TE:=λσ H Q=>ta σ H λx H1=>Q (.bl (decide (x=.non))) H1
def CM(ta:TE):TE:=λσ H Q=>ta σ H λx H1=>Q (.bl (!decide (x=.non))) H1
theorem RelV.jz{x:V}{v:Aa}(r:RelV x v):(v == Value.none)=decide (x=.non):=by
 cases x with
 |non=>cases r;rfl
 |bl _=>cases r;rfl
 |int _=>let#[t,rfl]:=r;rfl
 |str _=>let#[t,rfl]:=r;rfl
 |byt _=>let#[t,rfl]:=r;rfl
 |flt _=>let#[t,rfl]:=r;rfl
 |ref _=>cases r;rfl
 |ty _=>cases r;rfl
theorem Hj{j pos'}(ha:PE X a ta):PC X .Is a (.Constant .none j pos') (JO ta):=by
 intro pins s σ H Q I h;apply aO (ha pins s σ H _ I h) λv s1 ⟨x,H1,I1,r1,q1⟩=>?_;exact Constant_none (is_none_gen #[.bl _,H1,I1,by rw[r1.jz];rfl,q1])
theorem Yz{j pos'}(ha:PE X a ta):PC X .IsNot a (.Constant .none j pos') (CM ta):=by
 intro pins s σ H Q I h;apply aO (ha pins s σ H _ I h) λv s1 ⟨x,H1,I1,r1,q1⟩=>?_;exact Constant_none (isnot_none_gen #[.bl _,H1,I1,by rw[r1.jz];rfl,q1])
inductive Pj (Q:Bool->Hp->Prop) (x:V) (H1:Hp):Prop
 |mk:∀c,x=.bl c->Q c H1->Pj Q x H1
def tB(t:TE):TT:=λσ H Q=>t σ H λx H1=>Pj Q x H1
theorem HP{op:CmpOp}{t:TE}(h:PC X op a b t)(h1:behindInMarks op b=false:=by first|exact jA _ (by decide) (by decide)|rfl):PE X (.Compare a [op] [b] pos) t:=λpins s σ H Q I hw=>wpAny_Compare1 (h pins s σ H Q I hw) h1
theorem qd{op:CmpOp}{t:TE}(h:PC X op a b t)(h1:behindInMarks op b=false:=by first|exact jA _ (by decide) (by decide)|rfl):PT X (.Compare a [op] [b] pos) (tB t):=by
 intro pins s σ H Q I hw;apply wpAny_isTrue_Compare1 (aO (h pins s σ H _ I hw) λv s1 h1=>aO h1 λu s2 h2=>aO h2 λc s3 ⟨x,H1,I1,r1,q1⟩=>?_) h1;let#[d,rfl,q]:=q1;cases r1;exact tR #[H1,I1,q]
theorem d8{e:Expr}{t:TE}(h:PE X e t)(he:∀whole,isTrue e X.env whole=(do let v <- whole;standAt e.pos;holding [v] (truthy v)):=by intro _;rfl):PT X e (tB t):=by
 intro pins s σ H Q I hw;apply isTrue_plain (aO (h pins s σ H _ I hw) λv s1 ⟨x,H1,I1,r1,q1⟩=>?_) (he _);let#[d,rfl,q]:=q1;cases r1;exact tR #[H1,I1,q]
variable{tA F7:TT}{rest:List Expr}
def JT(t u:TT):TT:=λσ H Q=>t σ H λc H1=>if c=true then u σ H1 Q else Q false H1
def Vx(t u:TT):TT:=λσ H Q=>t σ H λc H1=>if c=true then Q true H1 else u σ H1 Q
def JM(t:TT):TT:=λσ H Q=>t σ H λc H1=>Q (!c) H1
theorem Ms(ha:PT X a tA):PW X (.BoolOp .And [a] pos) tA:=by
 intro wh pins s σ H Q I h;apply isTrue_and (aO (ha pins s σ H Q I h) λc s1 e=>?_);cases c with
 |true=>exact isTrue_and_nil e
 |false=>exact e
theorem pC(ha:PT X a tA):PW X (.BoolOp .Or [a] pos) tA:=by
 intro wh pins s σ H Q I h;apply isTrue_or (aO (ha pins s σ H Q I h) λc s1 e=>?_);cases c with
 |false=>exact isTrue_or_nil e
 |true=>exact e
theorem KY(ha:PT X a tA)(hb:PW X (.BoolOp .And (b::rest) pos) F7):PW X (.BoolOp .And (a::b::rest) pos) (JT tA F7):=by
 intro wh pins s σ H Q I h;apply isTrue_and (aO (ha pins s σ H _ I h) λc s1 ⟨H1,I1,q1⟩=>?_);cases c with
 |true=>exact hb wh pins s1 σ H1 Q I1 q1
 |false=>exact#[H1,I1,q1]
theorem pA(ha:PT X a tA)(hb:PW X (.BoolOp .Or (b::rest) pos) F7):PW X (.BoolOp .Or (a::b::rest) pos) (Vx tA F7):=by
 intro wh pins s σ H Q I h;apply isTrue_or (aO (ha pins s σ H _ I h) λc s1 ⟨H1,I1,q1⟩=>?_);cases c with
 |true=>exact#[H1,I1,q1]
 |false=>exact hb wh pins s1 σ H1 Q I1 q1
theorem e_(ha:PT X a tA):PT X (.UnaryOp .Not a pos) (JM tA):=by
 intro pins s σ H Q I h;exact isTrue_not (ha pins s σ H (λc H1=>Q (!c) H1) I h)
inductive qH (tb:TE) (σ:St) (Q:VK) (x:V) (H1:Hp):Prop
 |mk:∀c,x=.bl c->(if c=true then tb σ H1 Q else Q (.bl false) H1)->qH tb σ Q x H1
def CU(ta tb:TE):TE:=λσ H Q=>ta σ H λx H1=>qH tb σ Q x H1
inductive wU (tb:TE) (σ:St) (Q:VK) (x:V) (H1:Hp):Prop
 |mk:∀c,x=.bl c->(if c=true then Q (.bl true) H1 else tb σ H1 Q)->wU tb σ Q x H1
def JL(ta tb:TE):TE:=λσ H Q=>ta σ H λx H1=>wU tb σ Q x H1
inductive qC (Q:VK) (x:V) (H1:Hp):Prop
 |mk:∀c,x=.bl c->Q (.bl (!c)) H1->qC Q x H1
def CL(ta:TE):TE:=λσ H Q=>ta σ H λx H1=>qC Q x H1
theorem qg{op}{t:TE}(h:PE X a t):PE X (.BoolOp op [a] pos) t:=λpins s σ H Q I hw=>BoolOp_one (h pins s σ H Q I hw)
theorem pB(ha:PE X a ta)(hb:PE X (.BoolOp .And (b::rest) pos) tb):PE X (.BoolOp .And (a::b::rest) pos) (CU ta tb):=by
 intro pins s σ H Q I h;apply BoolOp_and (aO (ha pins s σ H _ I h) λv s1 ⟨x,H1,I1,r1,q1⟩=>?_);let#[c,rfl,q1]:=q1;cases r1;apply tR ?_;cases c with
 |true=>exact hb pins s1 σ H1 Q I1 q1
 |false=>exact#[.bl false,H1,I1,U,q1]
theorem XY(ha:PE X a ta)(hb:PE X (.BoolOp .Or (b::rest) pos) tb):PE X (.BoolOp .Or (a::b::rest) pos) (JL ta tb):=by
 intro pins s σ H Q I h;apply BoolOp_or (aO (ha pins s σ H _ I h) λv s1 ⟨x,H1,I1,r1,q1⟩=>?_);let#[c,rfl,q1]:=q1;cases r1;apply tR ?_;cases c with
 |false=>exact hb pins s1 σ H1 Q I1 q1
 |true=>exact#[.bl true,H1,I1,U,q1]
theorem QC(ha:PE X a ta):PE X (.UnaryOp .Not a pos) (CL ta):=by
 intro pins s σ H Q I h;apply UnaryOp_ (aO (ha pins s σ H _ I h) λv s1 ⟨x,H1,I1,r1,q1⟩=>?_);let#[c,rfl,q1]:=q1;cases r1;exact not_of (tR #[.bl (!c),H1,I1,U,q1])
def Vy(t:TT)(ta tb:TE):TE:=λσ H Q=>t σ H λc H1=>if c=true then ta σ H1 Q else tb σ H1 Q
theorem hK_{c:Expr}(hc:PT X c tA)(ha:PE X a ta)(hb:PE X b tb):PE X (.IfExp c a b pos) (Vy tA ta tb):=by
 intro pins s σ H Q I h;apply wpAny_IfExp (aO (hc pins s σ H _ I h) λd s1 ⟨H1,I1,q1⟩=>?_);cases d with
 |true=>exact ha pins s1 σ H1 Q I1 q1
 |false=>exact hb pins s1 σ H1 Q I1 q1
end
end L2
namespace L2
open PySem PySem.Spec PyProof.Rows
def dU(K:ai)(H:Hp)(a:Addr)(xs:ag):Prop:=
 Rd H a (.lst xs) ∨
  ∃(o:Obj) (its:Array Aa) (n:Nat),K.lookup a\o/\o.cls=.type "list"/\o.dict=none/\o.data=.seq its n/\its.size<=sizeLine/\Vals xs its.toList
def eD(K:ai)(H:Hp)(a:Addr)(xs:ag):Prop:=
 Rd H a (.tup xs) ∨
  ∃(o:Obj) (its:Array Aa) (n:Nat),K.lookup a\o/\o.cls=.type "tuple"/\o.data=.seq its n/\its.size<=sizeLine/\Vals xs its.toList
def OL:Aa->aE
 |.none=>some .non
 |.bool b=>some (.bl b)
 |.int i _=>some (.int i)
 |.str x _=>some (.str x)
 |.bytes b _=>some (.byt b)
 |.float b _=>some (.flt b)
 |.ref a=>some (.ref a)
 |.type n=>some (.ty n)
 |_=>none
theorem RelV.abs{x:V}{u:Aa}(r:RelV x u):OL u\x:=by
 cases x with
 |non=>cases r;rfl
 |bl _=>cases r;rfl
 |int _=>let#[t,rfl]:=r;rfl
 |str _=>let#[t,rfl]:=r;rfl
 |byt _=>let#[t,rfl]:=r;rfl
 |flt _=>let#[t,rfl]:=r;rfl
 |ref _=>cases r;rfl
 |ty _=>cases r;rfl
theorem RelV.inj{x y:V}{u:Aa}(r:RelV x u)(q:RelV y u):x=y:=cX (r.abs.symm.trans q.abs)
theorem Vals.inj:∀{xs ys:ag} {us:aj},Vals xs us->Vals ys us->xs=ys
 |_,_,_,.nil,.nil=>rfl
 |_,_,_,.cons r t,.cons r' t'=>by rw[r.inj r',Vals.inj t t']
section
variable{X:Cx}{pins:List (Addr × Obj)}{σ:St}{H:Hp}{s:Ab}{a:Addr}{xs ys:ag}
theorem dU.of{K:ai}(h:H a\.lst xs):dU K H a xs:=.inl (.inl h)
theorem eD.of{K:ai}(h:H a\.tup xs):eD K H a xs:=.inl (.inl h)
theorem Inv.list(I:Inv X pins σ H s)(h:dU X.K H a xs):∃its:aj,Vals xs its/\PlainL s.heap a its.toArray/\xs.length<=sizeLine:=by
 rcases h with h|⟨o,its,n,hk,hc,hd,hs,hz,r⟩
 ·let#[z,its,n,r,e]:=h.ok I.aA;exact#[its,r,#[_,n,e,U,U,U],z]
 apply#[its.toList,r,#[o,n,I.gJ a o hk,hc,hd,by simpa using hs],?_];let e:=r.length;simp only[ub] at e;omega
theorem Inv.tuple(I:Inv X pins σ H s)(h:eD X.K H a xs):∃its:aj,Vals xs its/\IsTup s.heap a its.toArray/\xs.length<=sizeLine:=by
 rcases h with h|⟨o,its,n,hk,hc,hs,hz,r⟩
 ·let#[z,its,r,p,_]:=h.ok I.aA;exact#[its,r,p,z]
 apply#[its.toList,r,#[o,I.gJ a o hk,hc,n,by simpa using hs],?_];let e:=r.length;simp only[ub] at e;omega
theorem Inv.g9(I:Inv X pins σ H s)(h:dU X.K H a xs)(h':dU X.K H a ys):xs=ys:=by
 let#[its,r,#[o,n,e,_,_,d],_]:=I.list h;let#[its',r',#[o',n',e',_,_,d'],_]:=I.list h';rw[e] at e';cases e';rw[d] at d'
 injection d' with d1 _
 have:its=its':=⇑(eg Array.toList d1)
 subst this;exact r.inj r'
theorem Inv.dB(I:Inv X pins σ H s)(h:eD X.K H a xs)(h':eD X.K H a ys):xs=ys:=by
 let#[its,r,#[o,e,_,n,d],_]:=I.tuple h;let#[its',r',#[o',e',_,n',d'],_]:=I.tuple h';rw[e] at e';cases e';rw[d] at d'
 injection d' with d1 _
 have:its=its':=⇑(eg Array.toList d1)
 subst this;exact r.inj r'
end
abbrev Cx.iw(X:Cx)(E:Aa->Ab->Prop):Cx:={ X with xe:=E }
abbrev Cx.xo(X:Cx):Cx:=X.iw λ_ _=>False
theorem Cx.Ok.iw{X:Cx}(ok:X.Ok)(E:Aa->Ab->Prop):(X.iw E).Ok:=
 #[ok.mod,ok.kind,ok.glob,ok.blt,ok.above,ok.inj,ok.has,ok.B1,ok.hd,ok.frames,ok.F9,ok.Hl,ok.bs,ok.tV,ok.si,ok.tG,ok.fU,ok.vZ]
theorem Cx.Ok.eM{X:Cx}{E:Aa->Ab->Prop}(ok:(X.iw E).Ok):X.Ok:=
 #[ok.mod,ok.kind,ok.glob,ok.blt,ok.above,ok.inj,ok.has,ok.B1,ok.hd,ok.frames,ok.F9,ok.Hl,ok.bs,ok.tV,ok.si,ok.tG,ok.fU,ok.vZ]
section
variable{X:Cx}{pins:List (Addr × Obj)}{σ:St}{H:Hp}{s:Ab}{E:Aa->Ab->Prop}
theorem Inv.iw(I:Inv X pins σ H s)(E:Aa->Ab->Prop):Inv (X.iw E) pins σ H s:=#[I.ok.iw E,I.os,I.bare,I.base,I.loc,I.cell,I.free,I.d7,I.pin,I.aA,I.len]
theorem Inv.eM(I:Inv (X.iw E) pins σ H s):Inv X pins σ H s:=#[I.ok.eM,I.os,I.bare,I.base,I.loc,I.cell,I.free,I.d7,I.pin,I.aA,I.len]
theorem SP.eM{D:Ends}{f:Flow}{s':Ab}(h:SP (X.iw E) pins D f s'):SP X pins D f s':=by
 cases f with
 |next=>let#[aZ,H',I,q]:=h;exact#[aZ,H',I.eM,q]
 |brk=>let#[aZ,H',I,q]:=h;exact#[aZ,H',I.eM,q]
 |cont=>let#[aZ,H',I,q]:=h;exact#[aZ,H',I.eM,q]
 |ret u=>let#[v,aZ,H',I,r,q]:=h;exact#[v,aZ,H',I.eM,r,q]
theorem j0.xo{st:List Stmt}{t:TS}(h:j0 X.xo st t):j0 X st t:=λpins s σ H D I hw=>
 wpAny_mono (h pins s σ H D (I.iw _) hw) (λ_ _ q=>q.eM) λ_ _ z=>False.elim z
end
section
variable{X:Cx}{st:Stmt}{rest:List Stmt}{t u:TS}{e:Expr}{te:TE}{pos:Pos}
def wV:TS:=λD σ H=>D.nx σ H
def vo(t u:TS):TS:=λD σ H=>t { D with nx:=u D } σ H
theorem cj:j0 X [] wV:=λ_ _ σ H _ I h=>wpAny_execs_nil #[σ,H,I,h]
theorem aw(h1:PS X st t)(h2:j0 X rest u):j0 X (st::rest) (vo t u):=by
 intro pins s σ H D I h;apply wpAny_execs_cons (aO (h1 pins s σ H { D with nx:=u D } I h) λf s1 q=>?_);cases f with
 |next=>
  let#[aZ,H',I',q]:=q;exact h2 pins s1 aZ H' D I' q
 |ret v=>exact q
 |brk=>exact q
 |cont=>exact q
theorem aH(h1:PS X st t):j0 X [st] t:=by
 intro pins s σ H D I h;apply wpAny_execs_cons (aO (h1 pins s σ H D I h) λf s1 q=>?_);cases f with
 |next=>exact wpAny_execs_nil q
 |ret v=>exact q
 |brk=>exact q
 |cont=>exact q
theorem Inv.quiet{pins:List (Addr × Obj)}{σ:St}{H:Hp}{s:Ab}(I:Inv X pins σ H s):interactive X.env=false:=by simp[interactive,I.ok.kind]
def CQ(te:TE):TS:=λD σ H=>te σ H λ_ H1=>D.nx σ H1
theorem kJ(he:PE X e te)(hs:swapsWith e none pos.line X.env=pure false:=by rfl):PS X (.Expr e pos) (CQ te):=by
 intro pins s σ H D I h;exact wpAny_Expr_any (aO (he pins s σ H _ I h) λv s1 ⟨x,H1,I1,r1,q1⟩=>#[σ,H1,I1,q1]) I.quiet hs
def JK(te:TE):TS:=λD σ H=>te σ H D.rt
theorem bp(he:PE X e te):PS X (.Return (some e) pos) (JK te):=by
 intro pins s σ H D I h;exact wpAny_Return_some (aO (he pins s σ H _ I h) λv s1 ⟨x,H1,I1,r1,q1⟩=>#[x,σ,H1,I1,r1,q1])
def JP(c:TT)(t u:TS):TS:=λD σ H=>c σ H λb H1=>if b=true then t D σ H1 else u D σ H1
theorem cg{c:Expr}{a b:List Stmt}{tc:TT}(hc:PT X c tc)(ha:j0 X a t)(hb:j0 X b u):PS X (.If c a b pos) (JP tc t u):=by
 intro pins s σ H D I h;apply wpAny_If (aO (hc pins s σ H _ I h) λd s1 ⟨H1,I1,q1⟩=>?_);cases d with
 |true=>exact ha pins s1 σ H1 D I1 q1
 |false=>exact hb pins s1 σ H1 D I1 q1
def yA:TS:=λ_ _ _=>False
theorem gg{VF:List Stmt}:j0 X VF yA:=λ_ _ _ _ _ _ h=>h.elim
end
abbrev TG:=V->St->Hp->(St->Hp->Prop)->Prop
abbrev Bj:=ag->St->Hp->(St->Hp->Prop)->Prop
def PG(X:Cx)(target:Expr)(t:TG):Prop:=
 ∀(pins:List (Addr × Obj)) (s:Ab) (σ:St) (H:Hp) (v:V) (u:Aa) (Q:iS),Inv X pins σ H s->RelV v u->t v σ H Q->
  wpAny (model X.prog X.w) X.A (assign target X.env u) (λ_ s'=>∃aZ H',Inv X pins aZ H' s'/\Q aZ H') X.xe s
def FQ(X:Cx)(ts:List Expr)(t:Bj):Prop:=
 ∀(pins:List (Addr × Obj)) (s:Ab) (σ:St) (H:Hp) (vs:ag) (us:aj) (Q:iS),Inv X pins σ H s->Vals vs us->t vs σ H Q->
  wpAny (model X.prog X.w) X.A (assignInOrder ((assignEach ts X.env).map (·.2)) us) (λ_ s'=>∃aZ H',Inv X pins aZ H' s'/\Q aZ H') X.xe s
abbrev Bh:=V->V->V->Hp->(Hp->Prop)->Prop
def FP(X:Cx)(t:Bh):Prop:=
 ∀(pins:List (Addr × Obj)) (s:Ab) (σ:St) (H:Hp) (o i v:V) (ov iv u:Aa) (Q:Hp->Prop),Inv X pins σ H s->RelV o ov->RelV i iv->RelV v u->t o i v H Q->
  wpAny (model X.prog X.w) X.A (setItem ov iv u) (λ_ s'=>∃H',Inv X pins σ H' s'/\Q H') X.xe s
section
variable{X:Cx}{pos:Pos}
def jQ(i:Nat):TG:=λv σ H Q=>Q (σ.set i (some v)) H
theorem fW{i:Nat}{x:Str}(hN:X.N.Nodup)(hi:X.N[i]? = some x)(hx:Loc X.env.scope x)(hf:X.fn x=true∨X.env.scope.names.lookup x\.local:=by first|exact .inl U|exact .inr U|assumption):PG X (.Name x pos) (jQ i):=by
 intro pins s σ H v u Q I r h;exact wpAny_assign_Name (Sf I hN hi hx r (λs' I'=>#[_,H,I',h]) hf)
theorem jr:type_of% PyProof.Rows.Boot.«isinstance»:=PyProof.Rows.Boot.«isinstance»
theorem Hg:type_of% PyProof.Rows.Boot.«int»:=PyProof.Rows.Boot.«int»
theorem Hf:type_of% PyProof.Rows.Boot.«str»:=PyProof.Rows.Boot.«str»
theorem qh:type_of% PyProof.Rows.Boot.«tuple»:=PyProof.Rows.Boot.«tuple»
theorem yc:type_of% PyProof.Rows.Boot.«list»:=PyProof.Rows.Boot.«list»
theorem I_:type_of% PyProof.Rows.Boot.«sorted»:=PyProof.Rows.Boot.«sorted»
theorem uT:type_of% PyProof.Rows.Boot.«dict»:=PyProof.Rows.Boot.«dict»
theorem LX:type_of% PyProof.Rows.Boot.«min»:=PyProof.Rows.Boot.«min»
theorem PM(i:Nat){x:Str}(hN:X.N.Nodup:=by first|(show ([_]:List Str).Nodup;decide +kernel)|(show ([_,_]:List Str).Nodup;decide +kernel)|(show ([_,_,_]:List Str).Nodup;decide +kernel)|(show ([_,_,_,_]:List Str).Nodup;decide +kernel))(hi:X.N[i]? = some x:=by rfl)(hx:Loc X.env.scope x:=by first|exact Or.inl U|exact Or.inr U)(hf:X.fn x=true∨X.env.scope.names.lookup x\.local:=by first|exact .inl U|exact .inr U|assumption):PG X (.Name x pos) (jQ i):=fW hN hi hx hf
theorem cu(i:Nat){x:Str}(hN:X.N.Nodup)(hi:X.N[i]? = some x:=by rfl)(hx:Loc X.env.scope x:=by first|exact Or.inl U|exact Or.inr U)(hf:X.fn x=true∨X.env.scope.names.lookup x\.local:=by first|exact .inl U|exact .inr U|assumption):PG X (.Name x pos) (jQ i):=fW hN hi hx hf
def tw:Bj:=λvs σ H Q=>vs=[]/\Q σ H
inductive pY (t:TG) (u:Bj) (vs:ag) (σ:St) (H:Hp) (Q:iS):Prop
 |mk:∀v r,vs=v::r->(t v σ H λaZ H'=>u r aZ H' Q)->pY t u vs σ H Q
theorem jh:FQ X [] tw:=by
 intro pins s σ H vs us Q I r h;let#[e,h]:=h;subst e;cases r;exact assignInOrder_nil ⟨σ,H,I,h⟩
theorem dO{e:Expr}{es:List Expr}{t:TG}{u:Bj}(h1:PG X e t)(h2:FQ X es u)
  (hs:(assignEach (e::es) X.env).map (·.2)=assign e X.env::(assignEach es X.env).map (·.2):=by rfl):FQ X (e::es) (pY t u):=by
 intro pins s σ H vs us Q I r h;let#[v,vr,e1,h]:=h;subst e1;cases r with
 |cons r rr=>
  rw[hs];apply assignInOrder_cons (aO (h1 pins s σ H _ _ _ I r h) λ_ s1 ⟨mV,H1,I1,q1⟩=>?_);exact h2 pins s1 mV H1 _ _ Q I1 rr q1
inductive fR (K:ai) (n:Nat) (t:Bj) (v:V) (σ:St) (H:Hp) (Q:iS):Prop
 |mk:∀a xs,v=.ref a->eD K H a xs->xs.length=n->t xs σ H Q->fR K n t v σ H Q
theorem mw{es:List Expr}{k:Nat}{t:Bj}{n:Nat}(hc:X.calm=true)(h:FQ X es t)
  (hn:(assignEach es X.env).length=n:=by rfl) (zN:(assignEach es X.env).findIdx? (·.1)=none:=by rfl):PG X (.Tuple es k pos) (fR X.K n t):=by
 intro pins s σ H v u Q I r hw;let#[a,xs,e1,hq,hl,hw]:=hw;subst e1;cases r;let#[its,rv,ht,hz]:=I.tuple hq;apply assign_Tuple_tuple (I.ok.hd hc) ht (by simp[hn,<- hl,rv.length]) zN λh' hx=>?_;have I1:Inv X pins σ H { s with heap:=h' }:=I.kept (t':=s.toks) λb o e=>hx b o (dG (bx e)) e;exact h pins _ σ H xs _ Q I1 ⇑rv hw
def L7(to ti:TE)(t:Bh):TG:=λv σ H Q=>to σ H λo H1=>ti σ H1 λi H2=>t o i v H2 λH3=>Q σ H3
theorem QH{o i:Expr}{to ti:TE}{t:Bh}(ho:PE X o to)(hi:PE X i ti)(hs:FP X t)
  (ha:∀v,assign (.Subscript o i pos) X.env v=(do
   let ov <- holding [v] (eval o X.env)
   let iv <- holding [v,ov] (eval i X.env)
   standAt pos
   holding [v,ov,iv] (setItem ov iv v)
   release [v,ov,iv] []):=by intro _;rfl):PG X (.Subscript o i pos) (L7 to ti t):=by
 intro pins s σ H v u Q I r h;rw[ha];apply af (iK (aO (ho pins s σ H _ I h) λov s1 ⟨x,H1,I1,r1,q1⟩=>?_));apply af (iK (aO (hi pins s1 σ H1 _ I1 q1) λiv s2 ⟨y,H2,I2,r2,q2⟩=>?_));apply af (wpAny_standAt (af (iK (aO (hs pins s2 σ H2 x y v ov iv u _ I2 r1 r2 r q2) λ_ s3 ⟨H3,I3,q3⟩=>?_))));exact wpAny_release #[σ,H3,I3,q3]
def yG(te:TE)(g:TG):TS:=λD σ H=>te σ H λx H1=>g x σ H1 D.nx
theorem HS{tg e:Expr}{te:TE}{g:TG}(he:PE X e te)(hg:PG X tg g)(hs:swapsWithSole [tg] e pos.line X.env=pure false:=by rfl)(hw:swappedStores [tg] e X.env=pure none:=by rfl)
  (h1:(assignEach [tg] X.env).map (·.2)=[assign tg X.env]:=by rfl):PS X (.Assign [tg] e pos) (yG te g):=by
 intro pins s σ H D I h;apply wpAny_Assign_stores (aO (he pins s σ H _ I h) λv s1 ⟨x,H1,I1,r1,q1⟩=>?_) hs hw;rw[h1];exact aO (hg pins s1 σ H1 x v _ I1 r1 q1) λ_ s2 q=>q
theorem Qt{i:Nat}{x:Str}{e:Expr}{te:TE}{pos':Pos}(hN:X.N.Nodup)(hi:X.N[i]? = some x)(hx:Loc X.env.scope x)(he:PE X e te)(hs:swapsWith e (some (.Name x pos')) pos.line X.env=pure false:=by rfl)(hf:X.fn x=true∨X.env.scope.names.lookup x\.local:=by first|exact .inl U|exact .inr U|assumption) :
  PS X (.Assign [.Name x pos'] e pos) (yG te (jQ i)):=by
 intro pins s σ H D I h;apply wpAny_Assign_Name (aO (he pins s σ H _ I h) λv s1 ⟨y,H1,I1,r1,q1⟩=>?_) hs;exact Sf I1 hN hi hx r1 (λs2 I2=>#[_,H1,I2,q1]) hf
theorem bu(i:Nat){x:Str}{e:Expr}{te:TE}{pos':Pos}(hN:X.N.Nodup)(he:PE X e te)(hi:X.N[i]? = some x:=by rfl)(hx:Loc X.env.scope x:=by first|exact Or.inl U|exact Or.inr U)(hs:swapsWith e (some (.Name x pos')) pos.line X.env=pure false:=by rfl)(hf:X.fn x=true∨X.env.scope.names.lookup x\.local:=by first|exact .inl U|exact .inr U|assumption):PS X (.Assign [.Name x pos'] e pos) (yG te (jQ i)):=Qt hN hi hx he hs hf
end
section
variable{X:Cx}{pos:Pos}
def qx(c:TT)(tb:TS):TS:=λD σ H=>∃W:Nat->St->Hp->Prop,(∃m,W m σ H)/\∀m σ H,W m σ H->
 c σ H λb H1=>if b=true then ∃N:St->Hp->Prop,(∀aZ H',N aZ H'->∃m',m'<m/\W m' aZ H')/\tb { D with nx:=N,ct:=N,bk:=D.nx } σ H1 else D.nx σ H1
theorem Iq{c:Expr}{body:List Stmt}{tc:TT}{tb:TS}(hp:PassesOwn (model X.prog X.w) X.A X.env X.xe)(hc:PT X c tc)(hb:j0 X body tb):PS X (.While c body [] pos) (qx tc tb):=by
 intro pins s σ H D I h;let#[W,#[m0,w0],turn]:=h;apply wpAny_While (codeAny_whileLoop (λn s'=>∃aZ H',Inv X pins aZ H' s'/\W n aZ H') ?_ m0 #[σ,H,I,w0]);rintro n s1 ⟨mV,H1,I1,w1⟩;apply wpAny_passesOwn hp (aO (hc pins s1 mV H1 _ I1 (turn n mV H1 w1)) λb s2 ⟨H2,I2,q2⟩=>?_);cases b with
 |true=>
  let#[N,hN,q2]:=q2;rw[aI U];apply wpAny_passesOwn hp (aO (hb pins s2 mV H2 _ I2 q2) λf s3 q3=>?_);cases f with
  |next=>
   let#[kg,H3,I3,n3]:=q3;let#[m',hm,w3]:=hN kg H3 n3;exact#[m',hm,kg,H3,I3,w3]
  |cont=>
   let#[kg,H3,I3,n3]:=q3;let#[m',hm,w3]:=hN kg H3 n3;exact#[m',hm,kg,H3,I3,w3]
  |brk=>exact q3
  |ret v=>exact q3
 |false=>
  rw[aC gN];exact wpAny_execs_nil #[mV,H2,I2,q2]
end
structure It where
 go:Nat->Hp->Prop
 uA:Nat->Hp->V->Hp->Prop
 stop:Nat->Hp->Prop
def dA(X:Cx)(pins:List (Addr × Obj))(H:Hp)(b:Addr):Prop:=
 H b=none/\b≠X.env.locals/\b∉X.fs/\(b∈X.ex∨X.di.heap.objs.size<=b)/\(∀x c,X.env.cells.lookup x\c->c≠b)/\∀p∈X.pn++pins,p.1≠b
theorem Inv.iH{X:Cx}{pins:List (Addr × Obj)}{σ:St}{H H':Hp}{s:Ab}{b:Addr}(I:Inv X pins σ H s)(hb:s.heap.objs.size<=b)(hn:H' b=none):dA X pins H' b:=by
 apply#[hn,iu (jt I.lt hb),I.Kl hb,.inr (iQ I.sz hb),λx c e z=>?_,λp hp z=>?_]
 ·let#[v,q]:=I.cell x c e;exact absurd (jt q.lt (by rw[z];exact hb)) (ue _)
 exact absurd (jt (bx (I.pin p hp).1) (by rw[z];exact hb)) (ue _)
structure Turn (P:Ad) (w:Af) (K:ai) (tg:Expr) (J:It) (fp:au) (it:Addr) (tn:Nat->Heap->Prop):Prop where
 mem:it∈fp
 obj:∀i h,tn i h->∀b∈fp,∃o,h.get? b\o/\∀v,o.data≠.cell v
 keep:∀i h h',tn i h->(∀b∈fp,∀o,h.get? b\o->h'.get? b\o)->tn i h'
 item:∀(X:Cx),X.prog=P->X.w=w->X.K=K->X.calm=true->∀(i:Nat) (pins:List (Addr × Obj)) (s:Ab) (σ:St) (H:Hp) (E:Aa->Ab->Prop),Inv X pins σ H s->(∀b∈fp,dA X pins H b)->tn i s.heap->J.go i H->
  wpAny (model P w) X.A (pyNext (.ref it)) (λr s1=>∃u,r\u /\
   wpAny (model P w) X.A (letOwnedTupleGo tg (.ref it) u) (λ_ s2=>∃x H',Inv X pins σ H' s2/\RelV x u/\J.uA i H x H'/\tn (i+1) s2.heap/\∀b∈fp,H' b=none) E s1) E s
 done:∀(X:Cx),X.prog=P->X.w=w->X.K=K->X.calm=true->∀(i:Nat) (pins:List (Addr × Obj)) (s:Ab) (σ:St) (H:Hp) (E:Aa->Ab->Prop),Inv X pins σ H s->(∀b∈fp,dA X pins H b)->tn i s.heap->J.stop i H->
  wpAny (model P w) X.A (pyNext (.ref it)) (λr s1=>r=none/\Inv X pins σ H s1) E s
 self:∀(A:Ag) (i:Nat) (s:Ab) (Q:Aa->Ab->Prop) (E:Aa->Ab->Prop),tn i s.heap->Q (.ref it) s->wpAny (model P w) A (pyIter (.ref it)) Q E s
abbrev TI:=St->Hp->(It->Hp->Prop)->Prop
def UD(X:Cx)(pins:List (Addr × Obj))(σ:St)(tg:Expr)(R:It->Hp->Prop)(GM:Aa)(s2:Ab):Prop:=
 ∃(it:Addr) (fp:au) (tn:Nat->Heap->Prop) (J:It) (H':Hp),GM=.ref it/\Inv X pins σ H' s2/\Turn X.prog X.w X.K tg J fp it tn/\tn 0 s2.heap/\(∀b∈fp,dA X pins H' b)/\R J H'
def PI(X:Cx)(tg iter:Expr)(wi:TI):Prop:=
 ∀(pins:List (Addr × Obj)) (s:Ab) (σ:St) (H:Hp) (R:It->Hp->Prop),Inv X pins σ H s->wi σ H R->
  wpAny (model X.prog X.w) X.A (eval iter X.env) (λv s1=>wpAny (model X.prog X.w) X.A (pyIter v) (UD X pins σ tg R) X.xe s1) X.xe s
theorem EV{M:Model}{A:Ag}{E:Aa->Ab->Prop}{s:Ab}{tg:Expr}{it:Addr}{u:Aa}{o:Obj}{n:String}{vs:Array Aa}{Q:Unit->Ab->Prop}(ho:s.heap.get? it\o)(hc:o.cls=.type n)(hd:o.data=.fields vs)
  (hn:["enumerate","zip","dict_itemiterator","dict_reverseitemiterator","odict_iterator","itertools.zip_longest","itertools.pairwise"].contains n=false) (hQ:Q () s):wpAny M A (letOwnedTupleGo tg (.ref it) u) Q E s:=by
 unfold letOwnedTupleGo
 cases tg<;>first
  |exact aF hQ
  |(cases u<;>first
    |exact aF hQ
    |(apply af (wpAny_load ho ?_)
      rw[hc,hd];show wpAny M A (if (["enumerate","zip","dict_itemiterator","dict_reverseitemiterator","odict_iterator","itertools.zip_longest","itertools.pairwise"].contains n&&vs[0]? == some (rawInt _))=true then _ else _) Q E s;rw[aC (by intro h;rw[hn,Bool.false_and] at h;cases h)];exact aF hQ))
def yo(K:ai)(a:Addr):It:=
 ⟨λi H=>∃xs x,dU K H a xs/\xs[i]? = some x,λi H x H'=>H'=H/\∀xs,dU K H a xs->xs[i]? = some x,λi H=>∃xs,dU K H a xs/\xs.length<=i⟩
def OU(K:ai)(a:Addr):It:=
 ⟨λi H=>∃xs x,eD K H a xs/\xs[i]? = some x,λi H x H'=>H'=H/\∀xs,eD K H a xs->xs[i]? = some x,λi H=>∃xs,eD K H a xs/\xs.length<=i⟩
def Cf(lo:Int)(n:Nat):It:=⟨λi _=>i<n,λi H x H'=>H'=H/\x=.int (lo+i),λi _=>n<=i⟩
theorem gA_{P:Ad}{w:Af}{K:ai}{tg:Expr}(a it:Addr):Turn P w K tg (yo K a) [it] it (λi h=>h.IsListIter it a i) where
 mem:=by simp
 obj:=λi h st b hb=>by
  have e:b=it:=⇑hb
  subst e;let#[o,e,c,d]:=st;exact#[o,e,λv z=>by rw[d] at z;cases z]
 keep:=λi h h' st k=>st.at λo e=>k it Y0 o e
 item:=by
  intro X hP hw hK hc i pins s σ H E I hf st hg;subst hP hw hK;let#[xs,x,hq,hx]:=hg;let#[its,rv,p,hz]:=I.list hq;let#[u,hu,ru]:=rv.get hx;let#[f0,f1,f2,f3,f4,f5]:=hf it Y0;apply wpAny_pyNext_list_item st p.isList (x:=u) ⇑hu λh' ed sb=>?_;have I1:Inv X pins σ H { s with heap:=h' }:=I.turned (t':=s.toks) (λb o hb e=>(sb.2 b hb).trans e) f0 f1 f3 f4 f5;let#[o,e,c,d]:=id ed;exact#[u,U,EV (s:={ s with heap:=h' }) e c d (by decide) #[x,H,I1,ru,#[U,λys hy=>by rw[I.g9 hy hq];exact hx],ed,λb hb=>(hf b hb).1]]
 done:=by
  intro X hP hw hK hc i pins s σ H E I hf st hg;subst hP hw hK;let#[xs,hq,hx]:=hg;let#[its,rv,p,hz]:=I.list hq;let#[f0,f1,f2,f3,f4,f5]:=hf it Y0;let hl:=rv.length;exact wpAny_pyNext_list_end (I.ok.hd hc) st p.isList (by simp;omega) λh' eb=>#[U,I.turned (t':=s.toks) (λb o hb e=>eb b o hb e) f0 f1 f3 f4 f5]
 self:=λ_ _ _ _ _ st h=>wpAny_pyIter_listiter st h
theorem fM_{P:Ad}{w:Af}{K:ai}{tg:Expr}(a it:Addr):Turn P w K tg (OU K a) [it] it (λi h=>h.IsTupleIter it a i) where
 mem:=by simp
 obj:=λi h st b hb=>by
  have e:b=it:=⇑hb
  subst e;let#[o,e,c,d]:=st;exact#[o,e,λv z=>by rw[d] at z;cases z]
 keep:=λi h h' st k=>st.at λo e=>k it Y0 o e
 item:=by
  intro X hP hw hK hc i pins s σ H E I hf st hg;subst hP hw hK;let#[xs,x,hq,hx]:=hg;let#[its,rv,p,hz]:=I.tuple hq;let#[u,hu,ru]:=rv.get hx;let#[f0,f1,f2,f3,f4,f5]:=hf it Y0;apply wpAny_pyNext_tuple_item st (show s.heap.IsTuple a its.toArray from p) (x:=u) ⇑hu λh' ed sb=>?_;have I1:Inv X pins σ H { s with heap:=h' }:=I.turned (t':=s.toks) (λb o hb e=>(sb.2 b hb).trans e) f0 f1 f3 f4 f5;let#[o,e,c,d]:=id ed;exact#[u,U,EV (s:={ s with heap:=h' }) e c d (by decide) #[x,H,I1,ru,#[U,λys hy=>by rw[I.dB hy hq];exact hx],ed,λb hb=>(hf b hb).1]]
 done:=by
  intro X hP hw hK hc i pins s σ H E I hf st hg;subst hP hw hK;let#[xs,hq,hx]:=hg;let#[its,rv,p,hz]:=I.tuple hq;let#[f0,f1,f2,f3,f4,f5]:=hf it Y0;let hl:=rv.length;exact wpAny_pyNext_tuple_end (I.ok.hd hc) st (show s.heap.IsTuple a its.toArray from p) (by simp;omega) λh' eb=>#[U,I.turned (t':=s.toks) (λb o hb e=>eb b o hb e) f0 f1 f3 f4 f5]
 self:=λ_ _ _ _ _ st h=>wpAny_pyIter_tupleiter st h
theorem fO_{P:Ad}{w:Af}{K:ai}{tg:Expr}(it:Addr)(lo:Int)(n:Nat):Turn P w K tg (Cf lo n) [it] it (λi h=>IsRangeIter h it (lo+(i:Nat) * 1) ((n:Int) - (i:Nat)) 1) where
 mem:=by simp
 obj:=λi h st b hb=>by
  have e:b=it:=⇑hb
  subst e
  exact#[_,st,λv z=>by
   have z':Data.fields _=Data.cell v:=z;cases z']
 keep:=λi h h' st k=>k it Y0 _ st
 item:=by
  intro X hP hw hK hc i pins s σ H E I hf st hg;subst hP hw hK;let#[f0,f1,f2,f3,f4,f5]:=hf it Y0;let W:=Walks.range (prog:=X.prog) (w:=X.w) (I.ok.hd hc) it lo 1 n;apply W.item i s _ _ hg st λv h' tk hv ed kk=>?_;let#[t,rfl]:=hv;have I1:Inv X pins σ H { s with heap:=h',toks:=tk }:=I.turned (λb o hb e=>kk b o ⇑hb e) f0 f1 f3 f4 f5;apply#[_,U,EV (s:={ s with heap:=h',toks:=tk }) (n:="range_iterator") ed U U (by decide) #[.int (lo+i),H,I1,#[t,?_],#[U,U],ed,λb hb=>(hf b hb).1]];rw[Int.mul_one]
 done:=by
  intro X hP hw hK hc i pins s σ H E I hf st hg;subst hP hw hK;let#[f0,f1,f2,f3,f4,f5]:=hf it Y0;exact wpAny_pyNext_range_end (I.ok.hd hc) st (by have:n<=i:=hg;omega) λh' eb=>#[U,I.turned (t':=s.toks) (λb o hb e=>eb b o hb e) f0 f1 f3 f4 f5]
 self:=λ_ _ _ _ _ st h=>wpAny_pyIter_rangeiter st h
end L2
namespace L2
open PySem PySem.Spec PyProof.Rows
section
variable{X:Cx}{tg:Expr}
inductive sO (K:ai) (R:It->Hp->Prop) (x:V) (H1:Hp):Prop
 |mk:∀a,x=.ref a->(∃xs,dU K H1 a xs)->R (yo K a) H1->sO K R x H1
def DZ(K:ai)(tl:TE):TI:=λσ H R=>tl σ H λx H1=>sO K R x H1
inductive xu (K:ai) (R:It->Hp->Prop) (x:V) (H1:Hp):Prop
 |mk:∀a,x=.ref a->(∃xs,eD K H1 a xs)->R (OU K a) H1->xu K R x H1
def KO(K:ai)(tl:TE):TI:=λσ H R=>tl σ H λx H1=>xu K R x H1
theorem dY{l:Expr}{tl:TE}(hl:PE X l tl):PI X tg l (DZ X.K tl):=by
 intro pins s σ H R I h;apply aO (hl pins s σ H _ I h) λv s1 ⟨x,H1,I1,r1,q1⟩=>?_;let#[a,e,#[xs,hq],q]:=q1;subst e;cases r1;let#[its,rv,p,hz]:=I1.list hq;apply wpAny_pyIter_list p.isList ?_;apply#[s1.heap.objs.size,[s1.heap.objs.size],_,_,H1,U,I1.kept (t':=s1.toks) λb o e=>aQ _ e,gA_ a _,#[_,cJ _ U,U,U],λb hb=>?_,q];have e:b=s1.heap.objs.size:=⇑hb
 subst e;exact I1.iH (bh _) (I1.aA.fresh (bh _))
theorem X8{l:Expr}{tl:TE}(hl:PE X l tl):PI X tg l (KO X.K tl):=by
 intro pins s σ H R I h;apply aO (hl pins s σ H _ I h) λv s1 ⟨x,H1,I1,r1,q1⟩=>?_;let#[a,e,#[xs,hq],q]:=q1;subst e;cases r1;let#[its,rv,p,hz]:=I1.tuple hq;apply wpAny_pyIter_tuple (show s1.heap.IsTuple a its.toArray from p) ?_;apply#[s1.heap.objs.size,[s1.heap.objs.size],_,_,H1,U,I1.kept (t':=s1.toks) λb o e=>aQ _ e,fM_ a _,#[_,cJ _ U,U,U],λb hb=>?_,q];have e:b=s1.heap.objs.size:=⇑hb
 subst e;exact I1.iH (bh _) (I1.aA.fresh (bh _))
theorem ZQ{pins:List (Addr × Obj)}{σ:St}{H:Hp}{s:Ab}{R:It->Hp->Prop}{E:Aa->Ab->Prop}{lo hi:Int}{t u v:Tok}{tk:Nat}(I:Inv X pins σ H s)(h1:-(2 ^ 62)<=lo)(h2:lo<2 ^ 62)(h3:-(2 ^ 62)<=hi)(h4:hi<2 ^ 62)
  (q:R (Cf lo (hi - lo).toNat) H):wpAny (model X.prog X.w) X.A (pyIter (.ref s.heap.objs.size)) (UD X pins σ tg R) E { s with heap:=s.heap.push { cls:=.type "range",data:=.fields (List.toArray [.int lo t,.int hi u,.int 1 v]) },toks:=tk }:=by
 apply wpAny_pyIter_range (IsRange.new ..) (small_one h1 h2 h3 h4) ?_;have I1:Inv X pins σ H { s with heap:=s.heap.push { cls:=.type "range",data:=.fields (List.toArray [.int lo t,.int hi u,.int 1 v]) },toks:=tk }:=I.kept λb o e=>aQ _ e
 apply#[(s.heap.push { cls:=.type "range",data:=.fields (List.toArray [.int lo t,.int hi u,.int 1 v]) }).objs.size,[(s.heap.push { cls:=.type "range",data:=.fields (List.toArray [.int lo t,.int hi u,.int 1 v]) }).objs.size],_,_,H,U,
  I1.kept (t':=tk) λb o e=>aQ _ e,fO_ _ lo (hi - lo).toNat,?_,λb hb=>?_,q]
 ·have e1:lo+((0:Nat):Int) * 1=lo:=by simp
  have e2:(((hi - lo).toNat:Nat):Int) - ((0:Nat):Int)=Builtin.Range.rangeSize lo hi 1:=by rw[rangeSize_one];split<;>omega
  show IsRangeIter _ _ (lo+((0:Nat):Int) * 1) ((((hi - lo).toNat:Nat):Int) - ((0:Nat):Int)) 1;rw[e1,e2];exact cJ _ U
 have e:b=(s.heap.push { cls:=.type "range",data:=.fields (List.toArray [.int lo t,.int hi u,.int 1 v]) }).objs.size:=⇑hb
 subst e;exact I1.iH (bh _) (I1.aA.fresh (bh _))
inductive sM (R:It->Hp->Prop) (vs:ag) (H1:Hp):Prop
 |mk:∀j:Int,vs=[.int j]->-(2 ^ 62)<=j->j<2 ^ 62->R (Cf 0 j.toNat) H1->sM R vs H1
def DY(ta:TA):TI:=λσ H R=>ta σ H λvs H1=>sM R vs H1
theorem uZ{a:Expr}{ta:TA}{p pos:Pos}(hg:Gl X "range")(hm:X.mg "range"=none)(ha:PA X [a] ta)(hs:starEach [a] X.env=[(false,eval a X.env)]:=by rfl):PI X tg (.Call (.Name "range" p) [a] [] pos) (DY ta):=by
 intro pins s σ H R I h;apply Call_ (uV I hg hm boot_range (AN (aO (ha pos pins s σ H _ I h) λus s1 ⟨vs,H1,I1,r1,q1⟩=>?_) hs U));let#[j,e,q1,q2,q]:=q1;subst e;cases r1 with
 |cons r rr=>
  cases rr;let#[t,rfl]:=r;exact call_range_1 (ZQ I1 Z2 Z2 q1 q2 ⇑q)
def JQ(wi:TI)(g:TG)(tb:TS):TS:=λD σ H=>wi σ H λJ H1=>∃W:Nat->Nat->St->Hp->Prop,(∃m,W 0 m σ H1)/\∀i m σ H,W i m σ H->
 (J.stop i H/\D.nx σ H)∨(J.go i H/\∃N:St->Hp->Prop,(∀aZ H',N aZ H'->∃m',m'<m/\W (i+1) m' aZ H')/\∀x H',J.uA i H x H'->g x σ H' λfw H2=>tb { D with nx:=N,ct:=N,bk:=D.nx } fw H2)
def wG(fp:au)(h:Heap):List (Addr × Obj):=fp.filterMap λb=>(h.get? b).map λo=>(b,o)
theorem Je{fp:au}{h:Heap}{b:Addr}{o:Obj}(hb:b∈fp)(e:h.get? b\o):(b,o)∈wG fp h:=yf.mpr #[b,hb,by rw[e];rfl]
theorem gS_{fp:au}{h:Heap}{p:Addr × Obj}(hp:p∈wG fp h):p.1∈fp/\h.get? p.1\p.2:=by
 let#[b,hb,e]:=yf.mp hp;cases q:h.get? b with
 |none=>rw[q] at e;cases e
 |some o=>
  rw[q] at e;have e':(b,o)=p:=cX e;subst e';exact#[hb,q]
theorem Inv.pinned{pins:List (Addr × Obj)}{σ:St}{H:Hp}{s:Ab}{fp:au}(I:Inv X pins σ H s)(hf:∀b∈fp,dA X pins H b)(ho:∀b∈fp,∃o,s.heap.get? b\o/\∀v,o.data≠.cell v):Inv X (pins++wG fp s.heap) σ H s:=
 I.nO λp hp=>(dJ.mp hp).elim (λz=>I.pin p (kP _ z)) λz=>by
  let#[hb,e]:=gS_ z;let#[f0,f1,f2,_]:=hf p.1 hb;let#[o,e',d]:=ho p.1 hb;rw[e] at e';cases e';exact#[e,f0,f1,f2,d]
theorem Inv.eN{pins pl:List (Addr × Obj)}{σ:St}{H:Hp}{s:Ab}(I:Inv X (pins++pl) σ H s):Inv X pins σ H s:=I.nO λp hp=>I.pin p (kP _ (List.mem_append_left _ hp))
theorem d4{iter:Expr}{body:List Stmt}{wi:TI}{g:TG}{tb:TS}{pos:Pos}(hp:PassesOwn (model X.prog X.w) X.A X.env X.xe)(hc:X.calm=true)(hi:PI X tg iter wi)(hg:PG X tg g)(hb:j0 X body tb)
  (hs:∀x,foldedSetIterable iter X.env x=pure x:=by intro _;rfl):PS X (.For tg iter body [] pos) (JQ wi g tb):=by
 intro pins s σ H D I h;apply wpAny_For (aO (hi pins s σ H _ I h) λv s1 h1=>aO h1 λGM s2 h2=>?_) hs;let#[it,fp,tn,J,H2,e,I2,T,eV,f2,W,#[m0,w0],turn]:=h2;subst e;have yI:∀{H':Hp},(∀b∈fp,H' b=none)->∀b∈fp,dA X pins H' b:=λhn b hb=>#[hn b hb,(f2 b hb).2];apply codeAny_forLoop_any (λn s'=>∃i aZ H',Inv X pins aZ H' s'/\tn i s'.heap/\(∀b∈fp,H' b=none)/\W i n aZ H') ?_ m0 #[0,σ,H2,I2,eV,λb hb=>(f2 b hb).1,w0];rintro n s3 ⟨i,kg,H3,I3,ic,RR,w3⟩;rcases turn i n kg H3 w3 with⟨stop,qn⟩|⟨go,N,hN,step⟩
 ·apply wpAny_passesOwn hp (aO (T.done X U U U hc i pins s3 kg H3 X.xe I3 (yI RR) ic stop) λr s4 ⟨hr,I4⟩=>?_);subst hr;exact wpAny_execs_nil #[kg,H3,I4,qn]
 apply wpAny_passesOwn hp (aO (T.item X U U U hc i pins s3 kg H3 X.xe I3 (yI RR) ic go) λr s4 ⟨u,hr,h4⟩=>?_);subst hr;apply wpAny_passesOwn hp (aO h4 λ_ s5 ⟨x,H5,I5,r5,y5,gi,o_⟩=>?_);let I5':=I5.pinned (yI o_) (T.obj _ _ gi);apply wpAny_passesOwn hp (aO (hg _ s5 kg H5 x u _ I5' r5 (step x H5 y5)) λ_ s6 ⟨UH,H6,I6,q6⟩=>?_);apply wpAny_passesOwn hp (aO (hb _ s6 UH H6 _ I6 q6) λf s7 q7=>?_)
 have again:∀{qr:St} {H7:Hp},Inv X (pins++wG fp s5.heap) qr H7 s7->N qr H7->∃m,m<n/\∃i aZ H',Inv X pins aZ H' s7/\tn i s7.heap/\(∀b∈fp,H' b=none)/\W i m aZ H':=λ{qr H7} I7 n7=>by
  let#[m',hm,w7]:=hN qr H7 n7;apply#[m',hm,i+1,qr,H7,I7.eN,T.keep _ _ _ gi λb hb o e=>(I7.pin (b,o) (kP _ (kP _ (Je hb e)))).1,λb hb=>?_,w7];let#[o,e,d]:=T.obj _ _ gi b hb;exact (I7.pin (b,o) (kP _ (kP _ (Je hb e)))).2.1
 cases f with
 |next=>let#[qr,H7,I7,n7]:=q7;exact again I7 n7
 |cont=>let#[qr,H7,I7,n7]:=q7;exact again I7 n7
 |brk=>let#[qr,H7,I7,q7]:=q7;exact#[qr,H7,I7.eN,q7]
 |ret v=>let#[x7,qr,H7,I7,r7,q7]:=q7;exact#[x7,qr,H7,I7.eN,r7,q7]
end
theorem ia{K:ai}{a:Addr}{xs:ag}{g:TG}{tb:TS}{D:Ends}{σ:St}{H:Hp}(Pv:bR)(h0:Pv 0 σ H)(hl:∀i σ H,i<=xs.length->Pv i σ H->dU K H a xs)
  (hs:∀i x σ H,xs[i]? = some x->Pv i σ H->g x σ H λfw H2=>tb { D with nx:=Pv (i+1),ct:=Pv (i+1),bk:=D.nx } fw H2) (hd:∀σ H,Pv xs.length σ H->D.nx σ H) :
  ∃W:Nat->Nat->St->Hp->Prop,(∃m,W 0 m σ H)/\∀i m σ H,W i m σ H->
   ((yo K a).stop i H/\D.nx σ H)∨((yo K a).go i H/\∃N:St->Hp->Prop,(∀aZ H',N aZ H'->∃m',m'<m/\W (i+1) m' aZ H')/\∀x H',(yo K a).uA i H x H'->g x σ H' λfw H2=>tb { D with nx:=N,ct:=N,bk:=D.nx } fw H2):=by
 apply#[λi m σ H=>m=xs.length - i/\i<=xs.length/\Pv i σ H,#[xs.length,by simp,gP _,h0],?_];rintro i m σ H ⟨rfl,hi,p⟩;let q:=hl i σ H hi p;by_cases dI:i<xs.length
 ·apply .inr #[#[xs,xs[i],q,by simp[dI]],Pv (i+1),λaZ H' p'=>#[xs.length - (i+1),by omega,U,dI,p'],λx H' y=>?_];let#[e,y]:=y;subst e;exact hs i x σ _ (y xs q) p
 have e:i=xs.length:=by omega
 subst e;exact .inl #[#[xs,q,bh _],hd σ H p]
theorem wF{lo:Int}{n:Nat}{g:TG}{tb:TS}{D:Ends}{σ:St}{H:Hp}(Pv:bR)(h0:Pv 0 σ H)
  (hs:∀i σ H,i<n->Pv i σ H->g (.int (lo+i)) σ H λfw H2=>tb { D with nx:=Pv (i+1),ct:=Pv (i+1),bk:=D.nx } fw H2) (hd:∀σ H,Pv n σ H->D.nx σ H) :
  ∃W:Nat->Nat->St->Hp->Prop,(∃m,W 0 m σ H)/\∀i m σ H,W i m σ H->
   ((Cf lo n).stop i H/\D.nx σ H)∨((Cf lo n).go i H/\∃N:St->Hp->Prop,(∀aZ H',N aZ H'->∃m',m'<m/\W (i+1) m' aZ H')/\∀x H',(Cf lo n).uA i H x H'->g x σ H' λfw H2=>tb { D with nx:=N,ct:=N,bk:=D.nx } fw H2):=by
 apply#[λi m σ H=>m=n - i/\i<=n/\Pv i σ H,#[n,by simp,gP _,h0],?_];rintro i m σ H ⟨rfl,hi,p⟩;by_cases dI:i<n
 ·apply .inr #[dI,Pv (i+1),λaZ H' p'=>#[n - (i+1),by omega,U,dI,p'],λx H' y=>?_];let#[e,y]:=y;subst e y;exact hs i σ _ dI p
 have e:i=n:=by omega
 subst e;exact .inl #[bh _,hd σ H p]
theorem Z4{c:TT}{tb:TS}{D:Ends}{σ:St}{H:Hp}(Pv:iS)(μ:St->Hp->Nat)(h0:Pv σ H)
  (hs:∀σ H,Pv σ H->c σ H λb H1=>if b=true then tb { D with nx:=λaZ H'=>Pv aZ H'/\μ aZ H'<μ σ H,ct:=λaZ H'=>Pv aZ H'/\μ aZ H'<μ σ H,bk:=D.nx } σ H1 else D.nx σ H1)
  (mono:∀σ H Q Q',(∀b H1,Q b H1->Q' b H1)->c σ H Q->c σ H Q'):qx c tb D σ H:=by
 apply#[λm σ H=>m=μ σ H/\Pv σ H,#[_,U,h0],?_];rintro m σ H ⟨rfl,p⟩;apply mono σ H _ _ (λb H1 q=>?_) (hs σ H p);cases b with
 |true=>exact#[_,λaZ H' ⟨p',l⟩=>#[_,l,U,p'],q]
 |false=>exact q
end L2
namespace L2
open PySem PySem.Spec PyProof.Rows
abbrev R2:=V->V->Hp->VK->Prop
def d_(X:Cx)(f:Aa->Aa->Sem Aa)(r:R2):Prop:=
 ∀(pins:List (Addr × Obj)) (s:Ab) (σ:St) (H:Hp) (x y:V) (v u:Aa) (Q:VK),Inv X pins σ H s->RelV x v->RelV y u->r x y H Q->
  wpAny (model X.prog X.w) X.A (f v u) (EP X pins σ Q) X.xe s
def ON(X:Cx)(f:Aa->Sem Aa)(r:V->Hp->VK->Prop):Prop:=
 ∀(pins:List (Addr × Obj)) (s:Ab) (σ:St) (H:Hp) (x:V) (v:Aa) (Q:VK),Inv X pins σ H s->RelV x v->r x H Q->
  wpAny (model X.prog X.w) X.A (f v) (EP X pins σ Q) X.xe s
def gr(X:Cx)(f:Aa)(r:ag->Hp->VK->Prop):Prop:=
 ∀(pins:List (Addr × Obj)) (s:Ab) (σ:St) (H:Hp) (xs:ag) (us:aj) (Q:VK),Inv X pins σ H s->Vals xs us->r xs H Q->
  wpAny (model X.prog X.w) X.A (call f us) (EP X pins σ Q) X.xe s
def F6(r:R2)(ta tb:TE):TE:=λσ H Q=>ta σ H λx H1=>tb σ H1 λy H2=>r x y H2 Q
def Vv(r:V->Hp->VK->Prop)(ta:TE):TE:=λσ H Q=>ta σ H λx H1=>r x H1 Q
inductive rI (C:Int->Int->Prop) (g:Int->Int->V) (x:V) (y:V) (H:Hp) (Q:VK):Prop
 |mk:∀i j,x=.int i->y=.int j->C i j->Q (g i j) H->rI C g x y H Q
inductive vC (g:Int->Int->V) (x:V) (y:V) (H:Hp) (Q:VK):Prop
 |mk:∀i j,x=.int i->y=.int j->Q (g i j) H->vC g x y H Q
inductive rU (g:Int->V) (x:V) (H:Hp) (Q:VK):Prop
 |mk:∀i,x=.int i->Q (g i) H->rU g x H Q
section
variable{X:Cx}{a b c:Expr}{ta tb tc:TE}{pos:Pos}
theorem A2(ha:PE X a ta)(hb:PE X b tb){pins:List (Addr × Obj)}{s:Ab}{σ:St}{H:Hp}{R:V->V->Hp->Prop}(I:Inv X pins σ H s)
  (h:ta σ H λx H1=>tb σ H1 λy H2=>R x y H2) {Q:Aa->Ab->Prop} {f:Aa->Aa->Sem Aa}
  (hf:∀v u s2 x y H2,Inv X pins σ H2 s2->RelV x v->RelV y u->R x y H2->wpAny (model X.prog X.w) X.A (f v u) Q X.xe s2) :
  wpAny (model X.prog X.w) X.A (eval a X.env) (λv aJ=>wpAny (model X.prog X.w) X.A (eval b X.env) (λu jv=>wpAny (model X.prog X.w) X.A (f v u) Q X.xe jv) X.xe aJ) X.xe s:=by
 apply aO (ha pins s σ H _ I h) λv s1 ⟨x,H1,I1,r1,q1⟩=>?_;apply aO (hb pins s1 σ H1 _ I1 q1) λu s2 ⟨y,H2,I2,r2,q2⟩=>?_;exact hf v u s2 x y H2 I2 r1 r2 q2
theorem bP{op:Operator}{r:R2}(ho:d_ X (binaryOp op) r)(ha:PE X a ta)(hb:PE X b tb):PE X (.BinOp a op b pos) (F6 r ta tb):=by
 intro pins s σ H Q I h;exact wpAny_BinOp (A2 ha hb I h λv u s2 x y H2 I2 rx ry q=>ho pins s2 σ H2 x y v u Q I2 rx ry q)
theorem G7{op:UnaryOp}{r:V->Hp->VK->Prop}(ho:ON X (unaryOp op) r)(ha:PE X a ta):PE X (.UnaryOp op a pos) (Vv r ta):=by
 intro pins s σ H Q I h;exact UnaryOp_ (aO (ha pins s σ H _ I h) λv s1 ⟨x,H1,I1,r1,q1⟩=>ho pins s1 σ H1 x v Q I1 r1 q1)
theorem Bw{f:Aa->Aa->Sem Aa}{C:Int->Int->Prop}{g:Int->Int->Int}
  (rule:∀(i j:Int) (t u:Tok) (s:Ab) (Q:Aa->Ab->Prop) (E:Aa->Ab->Prop),C i j->Q (.int (g i j) s.toks) { s with toks:=s.toks+1 }->wpAny (model X.prog X.w) X.A (f (.int i t) (.int j u)) Q E s) :
  d_ X f (rI C λi j=>.int (g i j)):=by
 intro pins s σ H x y v u Q I rx ry h;let#[i,j,rfl,rfl,hc,q]:=h;let#[t,rfl]:=rx;let#[t',rfl]:=ry;exact rule i j t t' s _ _ hc #[.int (g i j),H,I.tok _,#[_,U],q]
theorem Dp{f:Aa->Aa->Sem Aa}{g:Int->Int->Int}
  (rule:∀(i j:Int) (t u:Tok) (s:Ab) (Q:Aa->Ab->Prop) (E:Aa->Ab->Prop),Q (.int (g i j) s.toks) { s with toks:=s.toks+1 }->wpAny (model X.prog X.w) X.A (f (.int i t) (.int j u)) Q E s) :
  d_ X f (vC λi j=>.int (g i j)):=by
 intro pins s σ H x y v u Q I rx ry h;let#[i,j,rfl,rfl,q]:=h;let#[t,rfl]:=rx;let#[t',rfl]:=ry;exact rule i j t t' s _ _ #[.int (g i j),H,I.tok _,#[_,U],q]
theorem vF{f:Aa->Aa->Sem Aa}{g:Int->Int->Bool}
  (rule:∀(i j:Int) (t u:Tok) (s:Ab) (Q:Aa->Ab->Prop) (E:Aa->Ab->Prop),Q (.bool (g i j)) s->wpAny (model X.prog X.w) X.A (f (.int i t) (.int j u)) Q E s) :
  d_ X f (vC λi j=>.bl (g i j)):=by
 intro pins s σ H x y v u Q I rx ry h;let#[i,j,rfl,rfl,q]:=h;let#[t,rfl]:=rx;let#[t',rfl]:=ry;exact rule i j t t' s _ _ #[.bl (g i j),H,I,U,q]
def O5(i j:Int):Prop:=0<j/\j<1073741824
def O4(i j:Int):Prop:=0<=j/\j<=1000000/\i.natAbs<2 ^ 64
def Bm(i j:Int):Prop:=(-(2 ^ 64)<i/\i<2 ^ 64)∨(-(2 ^ 64)<j/\j<2 ^ 64)
theorem Bm.ok{i j:Int}(h:Bm i j):IntMulOk i j:=by
 rcases h with⟨h1,h2⟩|⟨h1,h2⟩
 ·exact .of_left (intBits_le_64 h1 h2)
 exact .of_right (intBits_le_64 h1 h2)
theorem gz:d_ X (binaryOp .Add) (vC λi j=>.int (i+j)):=Dp λ_ _ _ _ _ _ _ q=>add_int q
theorem AO:d_ X (binaryOp .Sub) (vC λi j=>.int (i - j)):=Dp λ_ _ _ _ _ _ _ q=>sub_int q
theorem qc:d_ X (binaryOp .Mult) (rI Bm λi j=>.int (i * j)):=Bw λ_ _ _ _ _ _ _ hc q=>mul_int q hc.ok
theorem Fo:d_ X (binaryOp .FloorDiv) (rI O5 λi j=>.int (i / j)):=Bw λi j _ _ _ _ _ hc q=>by
 have h1:(0:Int)<j:=hc.1;have h2:j<1073741824:=hc.2;exact floordiv_int Z2 (by rw[Int.fdiv_eq_ediv_of_nonneg i Z2];exact q) (.inl (PyProof.noPylong_small Z2))
theorem AX:d_ X (binaryOp .Mod) (rI (λ_ j=>0<j) λi j=>.int (i % j)):=Bw λi j _ _ _ _ _ hc q=>by
 have h1:(0:Int)<j:=hc;exact mod_int' Z2 (by rw[Int.fmod_eq_emod_of_nonneg i Z2];exact q)
theorem XE:d_ X (binaryOp .Pow) (rI O4 λi j=>.int (i ^ j.toNat)):=Bw λ_ _ _ _ _ _ _ hc q=>pow_int_small hc.1 hc.2.1 hc.2.2 q
theorem Vi{f:Aa->Sem Aa}{g:Int->Int}
  (rule:∀(i:Int) (t:Tok) (s:Ab) (Q:Aa->Ab->Prop) (E:Aa->Ab->Prop),Q (.int (g i) s.toks) { s with toks:=s.toks+1 }->wpAny (model X.prog X.w) X.A (f (.int i t)) Q E s) :
  ON X f (rU λi=>.int (g i)):=by
 intro pins s σ H x v Q I rx h;let#[i,rfl,q]:=h;let#[t,rfl]:=rx;exact rule i t s _ _ #[.int (g i),H,I.tok _,#[_,U],q]
theorem HR:ON X (unaryOp .USub) (rU λi=>.int (-i)):=Vi λ_ _ _ _ _ q=>neg_int q
end
def yR:V->V->Bool
 |.non,.non=>true | .non,.int _=>true | .int _,.non=>true | .non,.bl _=>true | .bl _,.non=>true | .non,.str _=>true | .str _,.non=>true
 |.int _,.int _=>true | .bl _,.bl _=>true | .str _,.str _=>true | .byt _,.byt _=>true
 |.int _,.str _=>true | .str _,.int _=>true | .bl _,.str _=>true | .str _,.bl _=>true
 |_,_=>false
def V_:R2:=λx y H Q=>yR x y=true/\Q (.bl (decide (x=y))) H
def V9:R2:=λx y H Q=>yR x y=true/\Q (.bl (!decide (x=y))) H
theorem Rv{i j:Int}:decide (V.int i=V.int j)=(i == j):=by
 rw[Bool.eq_iff_iff];simp
theorem QA{i j:Bool}:decide (V.bl i=V.bl j)=(i == j):=by
 rw[Bool.eq_iff_iff];simp
theorem Rc{i j:Str}:decide (V.str i=V.str j)=(i == j):=by
 rw[Bool.eq_iff_iff];simp
theorem RE{i j:Array UInt8}:decide (V.byt i=V.byt j)=(i.toList == j.toList):=by
 rw[Bool.eq_iff_iff];cases i;cases j;simp
section
variable{X:Cx}{a b c:Expr}{ta tb tc:TE}{pos:Pos}
theorem fo{pins:List (Addr × Obj)}{σ:St}{H:Hp}{s:Ab}{Q:VK}{k k':Bool}(I:Inv X pins σ H s)(q:Q (.bl k) H)(e:k=k'):EP X pins σ Q (.bool k') s:=by
 subst e;exact#[.bl k,H,I,U,q]
theorem BN:d_ X (compareOp .Eq) V_:=by
 intro pins s σ H x y v u Q I rx ry h;let#[hs,q]:=h;cases x with
 |non=>
  cases rx;cases y with
  |non=>cases ry;exact PySem.EqNone.eq_none_none (fo I q Y0)
  |bl j=>cases ry;exact PySem.EqNone.eq_none_bool (fo I q Y0)
  |int j=>let#[t',rfl]:=ry;exact PySem.EqNone.eq_none_int (fo I q Y0)
  |str j=>let#[t',rfl]:=ry;exact PySem.EqNone.eq_none_str (fo I q Y0)
  |_=>exact absurd (show false=true from hs) gN
 |bl i=>
  cases rx;cases y with
  |non=>cases ry;exact PySem.EqNone.eq_bool_none (fo I q Y0)
  |bl j=>cases ry;exact eq_bool (fo I q QA)
  |str j=>let#[t',rfl]:=ry;exact PySem.EqMixed.eq_bool_str (fo I q Y0)
  |_=>exact absurd (show false=true from hs) gN
 |int i=>
  let#[t,rfl]:=rx;cases y with
  |non=>cases ry;exact PySem.EqNone.eq_int_none (fo I q Y0)
  |int j=>let#[t',rfl]:=ry;exact eq_int (fo I q Rv)
  |str j=>let#[t',rfl]:=ry;exact PySem.EqMixed.eq_int_str (fo I q Y0)
  |_=>exact absurd (show false=true from hs) gN
 |str i=>
  let#[t,rfl]:=rx;cases y with
  |non=>cases ry;exact PySem.EqNone.eq_str_none (fo I q Y0)
  |bl j=>cases ry;exact PySem.EqMixed.eq_str_bool (fo I q Y0)
  |int j=>let#[t',rfl]:=ry;exact PySem.EqMixed.eq_str_int (fo I q Y0)
  |str j=>let#[t',rfl]:=ry;exact eq_str (fo I q Rc)
  |_=>exact absurd (show false=true from hs) gN
 |byt i=>
  let#[t,rfl]:=rx;cases y with
  |byt j=>let#[t',rfl]:=ry;exact PySem.W.eq_bytes (fo I q RE)
  |_=>exact absurd (show false=true from hs) gN
 |_=>cases y<;>exact absurd (show false=true from hs) gN
theorem pX:d_ X (compareOp .NotEq) V9:=by
 intro pins s σ H x y v u Q I rx ry h;let#[hs,q]:=h;cases x with
 |non=>
  cases rx;cases y with
  |non=>cases ry;exact PySem.EqNone.ne_none_none (fo I q Y0)
  |bl j=>cases ry;exact PySem.EqNone.ne_none_bool (fo I q Y0)
  |int j=>let#[t',rfl]:=ry;exact PySem.EqNone.ne_none_int (fo I q Y0)
  |str j=>let#[t',rfl]:=ry;exact PySem.EqNone.ne_none_str (fo I q Y0)
  |_=>exact absurd (show false=true from hs) gN
 |bl i=>
  cases rx;cases y with
  |non=>cases ry;exact PySem.EqNone.ne_bool_none (fo I q Y0)
  |bl j=>cases ry;exact ne_bool (fo I q (eg not QA))
  |str j=>let#[t',rfl]:=ry;exact PySem.EqMixed.ne_bool_str (fo I q Y0)
  |_=>exact absurd (show false=true from hs) gN
 |int i=>
  let#[t,rfl]:=rx;cases y with
  |non=>cases ry;exact PySem.EqNone.ne_int_none (fo I q Y0)
  |int j=>let#[t',rfl]:=ry;exact ne_int (fo I q (eg not Rv))
  |str j=>let#[t',rfl]:=ry;exact PySem.EqMixed.ne_int_str (fo I q Y0)
  |_=>exact absurd (show false=true from hs) gN
 |str i=>
  let#[t,rfl]:=rx;cases y with
  |non=>cases ry;exact PySem.EqNone.ne_str_none (fo I q Y0)
  |bl j=>cases ry;exact PySem.EqMixed.ne_str_bool (fo I q Y0)
  |int j=>let#[t',rfl]:=ry;exact PySem.EqMixed.ne_str_int (fo I q Y0)
  |str j=>let#[t',rfl]:=ry;exact ne_str (fo I q (eg not Rc))
  |_=>exact absurd (show false=true from hs) gN
 |byt i=>
  let#[t,rfl]:=rx;cases y with
  |byt j=>let#[t',rfl]:=ry;exact PySem.W.ne_bytes (fo I q (eg not RE))
  |_=>exact absurd (show false=true from hs) gN
 |_=>cases y<;>exact absurd (show false=true from hs) gN
theorem BL:d_ X (compareOp .Lt) (vC λi j=>.bl (decide (i<j))):=vF λ_ _ _ _ _ _ _ q=>lt_int q
theorem xR:d_ X (compareOp .LtE) (vC λi j=>.bl (decide (i<=j))):=vF λ_ _ _ _ _ _ _ q=>le_int q
theorem BM:d_ X (compareOp .Gt) (vC λi j=>.bl (decide (j<i))):=vF λ_ _ _ _ _ _ _ q=>gt_int q
theorem X2:d_ X (compareOp .GtE) (vC λi j=>.bl (decide (j<=i))):=vF λ_ _ _ _ _ _ _ q=>ge_int q
inductive T5 (x:V) (y:V) (H:Hp) (Q:VK):Prop
 |mk:∀i j,x=.str i->y=.str j->Q (.bl (decide (i.cps.toList<j.cps.toList))) H->T5 x y H Q
theorem hg_:d_ X (compareOp .Lt) T5:=by
 intro pins s σ H x y v u Q I rx ry h;let#[i,j,rfl,rfl,q]:=h;let#[t,rfl]:=rx;let#[t',rfl]:=ry;exact lt_str (fo I q rfl)
theorem LY:d_ X (compareOp .Is) (λx y H Q=>y=.non/\Q (.bl (decide (x=.non))) H):=by
 intro pins s σ H x y v u Q I rx ry h;let#[rfl,q]:=h;cases ry;apply is_none_gen (fo I q ?_)
 cases x<;>first
  |(cases rx;rfl)
  |(let#[t,rfl]:=rx;rfl)
theorem Y5:d_ X (compareOp .IsNot) (λx y H Q=>y=.non/\Q (.bl (!decide (x=.non))) H):=by
 intro pins s σ H x y v u Q I rx ry h;let#[rfl,q]:=h;cases ry;apply isnot_none_gen (fo I q ?_)
 cases x<;>first
  |(cases rx;rfl)
  |(let#[t,rfl]:=rx;rfl)
theorem sf(b:Expr){op:CmpOp}(h:op≠.In:=by decide)(h2:op≠.NotIn:=by decide):behindInMarks op b=false:=by
 have e1:(op == CmpOp.In)=false:=by cases op<;>first|rfl|exact absurd rfl h
 have e2:(op == CmpOp.NotIn)=false:=by cases op<;>first|rfl|exact absurd rfl h2
 cases b<;>simp[behindInMarks,e1,e2]
theorem pG{op:CmpOp}{r:R2}(ho:d_ X (compareOp op) r)(ha:PE X a ta)(hb:PE X b tb)(hm:behindInMarks op b=false:=by exact sf _):PE X (.Compare a [op] [b] pos) (F6 r ta tb):=by
 intro pins s σ H Q I h;exact wpAny_Compare1 (A2 ha hb I h λv u s2 x y H2 I2 rx ry q=>ho pins s2 σ H2 x y v u Q I2 rx ry q) hm
inductive qA (Q:Bool->Hp->Prop) (x:V) (H':Hp):Prop
 |mk:∀k,x=.bl k->Q k H'->qA Q x H'
def wR(t:TE):TT:=λσ H Q=>t σ H λx H'=>qA Q x H'
theorem eZ{op:CmpOp}{r:R2}(ho:d_ X (compareOp op) r)(ha:PE X a ta)(hb:PE X b tb)(hm:behindInMarks op b=false:=by exact sf _):PT X (.Compare a [op] [b] pos) (wR (F6 r ta tb)):=by
 intro pins s σ H Q I h
 apply wpAny_isTrue_Compare1 (aO (ha pins s σ H _ I h) λv s1 ⟨x,H1,I1,r1,q1⟩=>aO (hb pins s1 σ H1 _ I1 q1) λu s2 ⟨y,H2,I2,r2,q2⟩=>
  aO (ho pins s2 σ H2 x y v u _ I2 r1 r2 q2) λc s3 ⟨z,H3,I3,r3,k,e,q3⟩=>?_) hm
 subst e;cases r3;exact tR #[H3,I3,q3]
inductive ng (r':R2) (tc:TE) (σ:St) (Q:VK) (y:V) (z:V) (H3:Hp):Prop
 |mk:∀k,z=.bl k->(if k=true then tc σ H3 λw' H4=>r' y w' H4 Q else Q (.bl false) H3)->ng r' tc σ Q y z H3
def qG(r r':R2)(ta tb tc:TE):TE:=λσ H Q=>ta σ H λx H1=>tb σ H1 λy H2=>r x y H2 λz H3=>ng r' tc σ Q y z H3
theorem SU{op zp:CmpOp}{r r':R2}(ho:d_ X (compareOp op) r)(oa:d_ X (compareOp zp) r')(ha:PE X a ta)(hb:PE X b tb)(hc:PE X c tc)
  (hm:lastMarks [op,zp] [b,c]=false:=by with_unfolding_all rfl):PE X (.Compare a [op,zp] [b,c] pos) (qG r r' ta tb tc):=by
 intro pins s σ H Q I h
 apply Compare_chain (aO (ha pins s σ H _ I h) λv s1 ⟨x,H1,I1,r1,q1⟩=>chain_link (aO (hb pins s1 σ H1 _ I1 q1) λu s2 ⟨y,H2,I2,r2,q2⟩=>
  aO (ho pins s2 σ H2 x y v u _ I2 r1 r2 q2) λd s3 ⟨z,H3,I3,r3,k,e,q3⟩=>?_)) hm
 subst e;cases r3;apply tR ?_;cases k with
 |false=>exact ite_ff #[.bl false,H3,I3,U,q3]
 |true=>exact ite_tt (chain_last (aO (hc pins s3 σ H3 _ I3 q3) λw' s4 ⟨z',H4,I4,r4,q4⟩=>oa pins s4 σ H4 y z' u w' Q I4 r2 r4 q4))
theorem SN{op zp:CmpOp}{r r':R2}(ho:d_ X (compareOp op) r)(oa:d_ X (compareOp zp) r')(ha:PE X a ta)(hb:PE X b tb)(hc:PE X c tc)
  (hm:lastMarks [op,zp] [b,c]=false:=by with_unfolding_all rfl):PT X (.Compare a [op,zp] [b,c] pos) (wR (qG r r' ta tb tc)):=by
 intro pins s σ H Q I h
 apply isTrue_chain (aO (ha pins s σ H _ I h) λv s1 ⟨x,H1,I1,r1,q1⟩=>test_link (aO (hb pins s1 σ H1 _ I1 q1) λu s2 ⟨y,H2,I2,r2,q2⟩=>
  aO (ho pins s2 σ H2 x y v u _ I2 r1 r2 q2) λd s3 ⟨z,H3,I3,r3,k,e,q3⟩=>?_)) hm
 subst e;cases r3;apply tR ?_;cases k with
 |false=>
  let#[k',e',q']:=q3;cases e';exact ite_ff #[H3,I3,q']
 |true=>
  apply ite_tt (test_last (aO (hc pins s3 σ H3 _ I3 q3) λw' s4 ⟨z',H4,I4,r4,q4⟩=>aO (oa pins s4 σ H4 y z' u w' _ I4 r2 r4 q4) λd' s5 ⟨z2,H5,I5,r5,k2,e2,q5⟩=>?_));subst e2;cases r5;exact tR #[H5,I5,q5]
theorem gm:(sizeLine:Nat)<2 ^ 63:=by rw[cq];decide
inductive Ug (x:V) (y:V) (H:Hp) (Q:VK):Prop
 |mk:∀i j,x=.str i->y=.str j->i.length+j.length<=sizeLine->Q (.str (i++j)) H->Ug x y H Q
theorem fP_:d_ X (binaryOp .Add) Ug:=by
 intro pins s σ H x y v u Q I rx ry h;let#[i,j,rfl,rfl,hz,q]:=h;let#[t,rfl]:=rx;let#[t',rfl]:=ry;exact add_str (λt' tk=>⟨.str (i++j),H,I.tok _,⟨_,rfl⟩,q⟩) hz
theorem vals1{x:V}{us:aj}(r:Vals [x] us):∃u,us=[u]/\RelV x u:=by
 cases r with
 |cons r1 r2=>cases r2;exact#[_,U,r1]
theorem vals2{x y:V}{us:aj}(r:Vals [x,y] us):∃u w',us=[u,w']/\RelV x u/\RelV y w':=by
 cases r with
 |cons r1 r2=>
  cases r2 with
  |cons r3 r4=>cases r4;exact#[_,_,U,r1,r3]
inductive S_ (xs:ag) (H:Hp) (Q:VK):Prop
 |mk:∀i,xs=[.int i]->Q (.int (if i<0 then -i else i)) H->S_ xs H Q
theorem _h:gr X (.builtin "abs") S_:=by
 intro pins s σ H xs us Q I r h;let#[i,rfl,q]:=h;let#[u,rfl,t,rfl]:=vals1 r;exact call_abs_int λu tk=>#[.int (if i<0 then -i else i),H,I.tok _,#[_,U],q]
inductive TZ (xs:ag) (H:Hp) (Q:VK):Prop
 |mk:∀i j,xs=[.int i,.int j]->Q (.int (if j > i then j else i)) H->TZ xs H Q
theorem h0_(hc:X.calm=true):gr X (.builtin "max") TZ:=by
 intro pins s σ H xs us Q I r h;let#[i,j,rfl,q]:=h;let#[u,w',rfl,#[t,rfl],#[t',rfl]]:=vals2 r;apply max_two_ints (I.ok.hd hc) λh' tk k=>#[_,H,I.kept k,?_,q];by_cases hj:j > i
 ·rw[aI hj,aI hj];exact#[_,U]
 rw[aC hj,aC hj];exact#[_,U]
inductive TY (xs:ag) (H:Hp) (Q:VK):Prop
 |mk:∀i j,xs=[.int i,.int j]->Q (.int (if j<i then j else i)) H->TY xs H Q
theorem Ts(hc:X.calm=true):gr X (.builtin "min") TY:=by
 intro pins s σ H xs us Q I r h;let#[i,j,rfl,q]:=h;let#[u,w',rfl,#[t,rfl],#[t',rfl]]:=vals2 r;apply min_two_ints (I.ok.hd hc) λh' tk k=>#[_,H,I.kept k,?_,q];by_cases hj:j<i
 ·rw[aI hj,aI hj];exact#[_,U]
 rw[aC hj,aC hj];exact#[_,U]
theorem N0:gr X (.type "int") (λxs H Q=>(∃i,xs=[.int i]/\Q (.int i) H)∨∃k,xs=[.bl k]/\Q (.int (if k then 1 else 0)) H):=by
 intro pins s σ H xs us Q I r h;rcases h with⟨i,rfl,q⟩|⟨k,rfl,q⟩
 ·let#[u,rfl,t,rfl]:=vals1 r;exact call_int_int #[.int i,H,I,#[_,U],q]
 let#[u,rfl,r1]:=vals1 r;cases r1;exact call_int_bool #[.int (if k then 1 else 0),H,I.tok _,#[_,U],q]
end
end L2
namespace L2
open PySem PySem.Spec PyProof.Rows
structure mQ (h:Heap) (x dx C:Addr) (mA:Str->Option Aa):Prop where
 obj:h.get? x\PySem.W.instObj C dx
 ns:h.Ns1 dx mA
 ne:dx≠x
theorem ha_{h:Heap}{dx:Addr}{mA:Str->Option Aa}(n:h.Ns1 dx mA):∃od,h.get? dx\od/\∀name,PySem.W.lookIn name od\mA name:=by
 let#[o,es,ep,ho,hd,hk,_,hm]:=n;apply#[o,ho,λname=>?_];let e:=hm name;unfold nsFind findBy at e;rw[<- Array.find?_toList] at e;unfold PySem.W.lookIn;rw[hd];dsimp only;split
 ·rename_i y q
  rw[q] at e;exact eg some e
 rename_i q
 rw[q] at e
 have a:es.toList.any (·.refKey)=false:=by
  rw[List.any_eq_false];intro y hy;let#[z,t,Ll]:=hk y (Array.mem_toList_iff.mp hy);simp[DictEntry.refKey,Ll]
 have a':¬es.toList.any (·.refKey)=true:=by rw[a];exact gN
 rw[aC a'];exact eg some e
theorem mQ.look{h:Heap}{x dx C:Addr}{mA:Str->Option Aa}(I:mQ h x dx C mA):∃od,PySem.W.InstAt h x (PySem.W.instObj C dx) C (some od)/\∀name,PySem.W.lookIn name od\mA name:=
 let #[od,ho,hl]:=ha_ I.ns
 #[od,#[I.obj,U,U,ho],hl]
section
variable{prog:Ad}{w:Af}{A:Ag}{E:Aa->Ab->Prop}{s:Ab}{K:ai}{x dx C f:Addr}{mA:Str->Option Aa}{name:Str}{v:Aa}
theorem YY{expr:Bool}{Q:Aa->Ab->Prop}(X:K.In s.heap)(I:mQ s.heap x dx C mA)(hg:PySem.W.plainGet K C name=true)(hh:PySem.W.hasDictIn K C=true)
  (ha:PySem.W.findIn K (.ref C) name\none) (hv:mA name\v) (D6:PySem.W.handedIn v=true) (h:Q v { s with toks:=s.toks+1 }) :
  wpAny (model prog w) A (getAttr (.ref x) name expr) Q E s:=by
 let#[od,J,hl]:=I.look;exact PySem.W.get_value X J (PySem.W.plainGet_of hg).1 (PySem.W.findObj_own hh ha U (by rw[hl,hv])) D6 h
theorem hI_{pl:Sem Bool}{Q:Aa × aj->Ab->Prop}(X:K.In s.heap)(I:mQ s.heap x dx C mA)(hg:PySem.W.plainGet K C name=true)
  (hf:PySem.W.findIn K (.ref C) name\some (.ref f)) (ht:PySem.W.isFn K (.ref f)=true) (hv:mA name=none) (h:Q (.ref f,[.ref x]) s) :
  wpAny (model prog w) A (getMethod (.ref x) name pl) Q E s:=by
 let#[od,J,hl]:=I.look;exact PySem.W.method_fn X J (PySem.W.plainGet_of hg).1 (PySem.W.plainGet_of hg).2 hf (beq_iff_eq.mp ht) (by show (PySem.W.lookIn name od).map (·.isSome)=some false;rw[hl,hv];rfl) h
theorem Yu{ns:ae}{Q:Unit->Ab->Prop}(X:K.In s.heap)(I:mQ s.heap x dx C mA)
  (hs:PySem.W.findIn K (.ref C) "__setattr__"\some (.builtin "object.__setattr__")) (hp:PySem.W.plainOver K C=true) (ht:PySem.W.takerIn K C name\none) (hh:PySem.W.hasDictIn K C=true)
  (hw:PySem.Within mA ns) (hsz:ns.length<=sizeLine)
  (h:∀h',mQ h' x dx C (λy=>if y=name then some v else mA y)->Heap.SameBut dx s.heap h'->Q () { s with heap:=h',toks:=s.toks+2 }) :
  wpAny (model prog w) A (setAttr (.ref x) name v) Q E s:=by
 let#[od,J,hl]:=I.look;apply PySem.W.set_plain X J hs (PySem.W.osa_open (s:={ s with toks:=s.toks+1 }) (r:=none) X J hp ht λb=>?_);let#[cd,hc,hU]:=PySem.W.any_some hh;have hx:s.heap.get? x=some #[.ref C,some dx,.plain,#[]]:=I.obj;apply af (aF (af (af (wpAny_loadPart hx (af (PySem.W.Looks.here (s:={ s with toks:=s.toks+1 }) (PySem.W.looks_clsIn X hc) ?_))))));rw[hU];apply aF (a:=some dx) (af (aF (af ?_)));apply wpAny_nsSet1 (s:={ s with toks:=s.toks+1 }) I.ns λh' xC pS=>?_;let#[oD,esD,epD,_J,hdD,hcD]:=xC.count (PySem.Within.cons name v hw);apply af (wpAny_lookBehind _J (by rw[hdD];exact pastItsLine_dict (iQ hcD (by rw[iR];omega))) ?_);exact aF (h _ #[(pS.2 _ (bN I.ne)).trans I.obj,xC,I.ne] pS)
theorem hR_{R:Result->Ab->Prop}{vs:aj}{kw:List (Str × Aa)}(X:K.In s.heap)(hm:PySem.W.makesIn K C=true)
  (hi:PySem.W.findIn K (.ref C) "__init__"\some (.ref f)) (hf:PySem.W.typeIn K (.ref f)\.type "function")
  (h:codeAny (model prog w) (A.under (.builtin "type.__call__" #[.ref C::vs,kw])) (.call (.ref f) #[.ref (s.heap.objs.size+1)::vs,kw]) (PySem.W.InitBack (s.heap.objs.size+1) R)
   { s with heap:=(s.heap.push PySem.W.emptyDict).push (PySem.W.instObj C s.heap.objs.size) }) :
  codeAny (model prog w) A (.call (.ref C) #[vs,kw]) R s:=by
 let#[hh,g,d,t,os]:=s;exact PySem.W.make_core (PySem.W.makes_of X hm) (PySem.W.looks_findIn X hi) (λself=>PySem.W.bind_fn X self hf) (.inl U) h
end
def aB(f:Str)(v:V):List (Str × V)->List (Str × V)
 |[]=>[(f,v)]
 |(g,x)::r=>if g=f then (g,v)::r else (g,x)::aB f v r
theorem gy(f g:Str)(v:V):∀fs:List (Str × V),(aB f v fs).lookup g=if g=f then some v else fs.lookup g
 |[]=>by
  show List.lookup g [(f,v)]=_;by_cases h:g=f
  ·have hb:(g == f)=true:=beq_iff_eq.mpr h;simp only[List.lookup,hb,aI h]
  ·have hb:(g == f)=false:=beq_eq_false_iff_ne.mpr h;simp only[List.lookup,hb,aC h]
 |(k,x)::r=>by
  let ih:=gy f g v r;rw[show aB f v ((k,x)::r)=(if k=f then (k,v)::r else (k,x)::aB f v r) from U];by_cases hk:k=f
  ·rw[aI hk];by_cases h:g=k
   ·have hb:(g == k)=true:=beq_iff_eq.mpr h;simp only[List.lookup,hb,aI (h.trans hk)]
   have hb:(g == k)=false:=beq_eq_false_iff_ne.mpr h;simp only[List.lookup,hb,aC (λe:g=f=>h (e.trans hk.symm))]
  rw[aC hk];by_cases h:g=k
  ·have hb:(g == k)=true:=beq_iff_eq.mpr h;simp only[List.lookup,hb,aC (λe:g=f=>hk (h.symm.trans e))]
  have hb:(g == k)=false:=beq_eq_false_iff_ne.mpr h;simp only[List.lookup,hb];exact ih
theorem N_(f:Str)(v:V):∀fs:List (Str × V),f∈(aB f v fs).map (·.1)/\∀g,g∈fs.map (·.1)->g∈(aB f v fs).map (·.1)
 |[]=>#[by simp[aB],λg h=>by simp at h]
 |(k,x)::r=>by
  let#[i1,i2]:=N_ f v r;rw[show aB f v ((k,x)::r)=(if k=f then (k,v)::r else (k,x)::aB f v r) from U];by_cases hk:k=f
  ·rw[aI hk];subst hk;exact#[by simp,λg h=>by simpa using h]
  rw[aC hk];apply#[?_,λg h=>?_]
  ·rw[eJ];exact fX _ i1
  rw[eJ] at h ⊢;rcases bZ.mp h with e|e
  ·exact bZ.mpr (.inl e)
  exact fX _ (i2 g e)
theorem Uj(f:Str)(v:V):∀fs:List (Str × V),(aB f v fs).length<=fs.length+1
 |[]=>by simp[aB]
 |(k,x)::r=>by
  let ih:=Uj f v r;rw[show aB f v ((k,x)::r)=(if k=f then (k,v)::r else (k,x)::aB f v r) from U];by_cases hk:k=f
  ·rw[aI hk,iR,iR];omega
  rw[aC hk,iR,iR];omega
theorem eI.some_of{v:V}{o:Option Aa}(r:eI (some v) o):∃u,o\u/\RelV v u:=by
 cases o with
 |none=>exact (show False from r).elim
 |some u=>exact#[u,U,r]
theorem eI.none_of{o:Option Aa}(r:eI none o):o=none:=by
 cases o with
 |none=>rfl
 |some u=>exact (show False from r).elim
theorem gQ_{v:V}{u:Aa}(r:RelV v u):PySem.W.handedIn u=true:=by
 cases v with
 |non=>cases (show u=Value.none from r);rfl
 |bl b=>cases (show u=Value.bool b from r);rfl
 |int i=>let#[t,e]:=(show ∃t,u=Value.int i t from r);cases e;rfl
 |str x=>let#[t,e]:=(show ∃t,u=Value.str x t from r);cases e;rfl
 |byt b=>let#[t,e]:=(show ∃t,u=Value.bytes b t from r);cases e;rfl
 |flt b=>let#[t,e]:=(show ∃t,u=Value.float b t from r);cases e;rfl
 |ref a=>cases (show u=Value.ref a from r);rfl
 |ty n=>cases (show u=Value.type n from r);rfl
section
variable{P:Ad}{w:Af}{H H':Hp}{h h':Heap}{a C dx:Addr}{fs fs':List (Str × V)}
theorem HV(aA:fM P w H h)(e:H a\.ins C dx fs):∃mA,mQ h a dx C mA/\(∀f,eI (fs.lookup f) (mA f))/\PySem.Within mA (fs.map (·.1))/\fs.length<=1000/\H dx\.own a:=by
 let#[d,z,ne,ob,mA,n,r,q]:=(show fj P w H h a (.ins C dx fs) from aA a _ e);exact#[mA,#[ob,n,ne],r,q,z,d]
end
structure mU (K:ai) (C:Addr):Prop where
 pg:PySem.W.plainGet K C Str.empty=true
 hd:PySem.W.hasDictIn K C=true
 po:PySem.W.plainOver K C=true
 sa:PySem.W.findIn K (.ref C) "__setattr__"\some (.builtin "object.__setattr__")
theorem mU.get{K:ai}{C:Addr}(c:mU K C)(f:Str):PySem.W.plainGet K C f=true:=c.pg
def mq(K:ai)(C:Addr)(f:Str):Prop:=PySem.W.findIn K (.ref C) f=some none
theorem mq.CF{K:ai}{C:Addr}{f:Str}(n:mq K C f):PySem.W.takerIn K C f\none:=by
 unfold PySem.W.takerIn;rw[show PySem.W.findIn K (.ref C) f\none from n];rfl
structure Con (K:ai) (C:Addr) (f:Str) (v:V) (u:Aa):Prop where
 at_:PySem.W.findIn K (.ref C) f\some u
 rel:RelV v u
 get:PySem.W.specialIn K u "__get__"\none
 cp:PySem.W.copiedNames.contains f=false
structure Meth (K:ai) (C:Addr) (m:Str) (f:Addr):Prop where
 at_:PySem.W.findIn K (.ref C) m\some (.ref f)
 fn:PySem.W.isFn K (.ref f)=true
 kp:PySem.W.keepIn K (.ref f)=true
section
variable{X:Cx}{pins:List (Addr × Obj)}{σ:St}{H:Hp}{s:Ab}{a C dx:Addr}{fs:List (Str × V)}{f:Str}{v:V}{A:Ag}{E:Aa->Ab->Prop}
theorem fV_{b:Bool}{Q:Aa->Ab->Prop}(I:Inv X pins σ H s)(e:H a\.ins C dx fs)(c:mU X.K C)(n:mq X.K C f)(l:fs.lookup f\v)
  (h:∀u s',Inv X pins σ H s'->RelV v u->Q u s'):wpAny (model X.prog X.w) A (getAttr (.ref a) f b) Q E s:=by
 let#[mA,O,r,_,_,_]:=HV I.aA e;let#[u,hu,ru]:=eI.some_of (v:=v) (o:=mA f) (by rw[<- l];exact r f);exact YY I.gJ O (c.get f) c.hd n hu (gQ_ ru) (h u _ (I.tok _) ru)
theorem TF{m:Str}{g:Addr}{pl:Sem Bool}{Q:Aa × aj->Ab->Prop}(I:Inv X pins σ H s)(e:H a\.ins C dx fs)(c:mU X.K C)(k:Meth X.K C m g)(l:fs.lookup m=none)
  (h:Q (.ref g,[.ref a]) s):wpAny (model X.prog X.w) A (getMethod (.ref a) m pl) Q E s:=by
 let#[mA,O,r,_,_,_]:=HV I.aA e;have hn:mA m=none:=eI.none_of (by rw[<- l];exact r m);exact hI_ I.gJ O (c.get m) k.at_ k.fn hn h
theorem fQ_{y:V}{u:Aa}{Q:Unit->Ab->Prop}(I:Inv X pins σ H s)(e:H a\.ins C dx fs)(c:mU X.K C)(n:mq X.K C f)(hl:fs.length<1000)(ry:RelV y u)
  (h:∀s',Inv X pins σ (upd H a (.ins C dx (aB f y fs))) s'->Q () s'):wpAny (model X.prog X.w) A (setAttr (.ref a) f u) Q E s:=by
 let#[mA,O,r,wi,_,ho]:=HV I.aA e;have hz:(fs.map (·.1)).length<=sizeLine:=by rw[av,cq];omega
 apply Yu I.gJ O c.sa c.po n.CF c.hd wi hz λh' O' sb=>h _ ?_;have hd:∃o,h'.get? dx\o:=let #[o,_,_,e',_]:=O'.ns;#[o,e'];apply I.write (x:=a) (e:=dx) (by rw[e];exact True.intro) (.inr ho) (λb q hb z=>(sb.2 b hb).trans z) hd ?_;apply#[by rw[ax O.ne];exact ho,?_,O.ne,O'.obj,_,O'.ns,λg=>?_,λg hg=>?_]
 ·have:=Uj f y fs;omega
 ·show eI ((aB f y fs).lookup g) (if g=f then some u else mA g);rw[gy];by_cases q:g=f
  ·rw[aI q,aI q];exact ry
  rw[aC q,aC q];exact r g
 by_cases q:g=f
 ·rw[q];exact (N_ f y fs).1
 apply (N_ f y fs).2 g (wi g λz=>hg ?_);show (if g=f then some u else mA g)=none;rw[aC q];exact z
theorem Inv.made(I:Inv X pins σ H s):Inv X pins σ (upd (upd H s.heap.objs.size (.own (s.heap.objs.size+1))) (s.heap.objs.size+1) (.ins C s.heap.objs.size []))
  { s with heap:=(s.heap.push PySem.W.emptyDict).push (PySem.W.instObj C s.heap.objs.size) }:=by
 have e1:(s.heap.push PySem.W.emptyDict).get? s.heap.objs.size\PySem.W.emptyDict:=cJ s.heap U
 have e2:((s.heap.push PySem.W.emptyDict).push (PySem.W.instObj C s.heap.objs.size)).get? (s.heap.objs.size+1)\PySem.W.instObj C s.heap.objs.size:=by
  have:=cJ (s.heap.push PySem.W.emptyDict) (o:=PySem.W.instObj C s.heap.objs.size) U;rwa [mj] at this
 have e3:(s.heap.push PySem.W.emptyDict).Ns s.heap.objs.size (λ_=>none):=#[PySem.W.emptyDict,#[],_,e1,U,(λe he=>absurd he Y0),λ_=>rfl];let I1:=I.laid (a:=s.heap.objs.size) (o:=.own (s.heap.objs.size+1)) (h':=s.heap.push PySem.W.emptyDict) (t':=s.toks) (λb u q=>aQ _ q) (bh _) #[_,e1];apply I1.laid (a:=s.heap.objs.size+1) (o:=.ins C s.heap.objs.size []) (t':=s.toks) (λb u q=>aQ _ q) (Nat.le_of_eq (mj _ _)) ?_;have ne:s.heap.objs.size≠s.heap.objs.size+1:=dG (Nat.lt_succ_self _);apply#[by rw[ax ne,az],gP _,ne,e2,λ_=>none,(Heap.Ns1.of_empty e3).at λo q=>aQ _ q,λ_=>True.intro,λy hy=>absurd U hy]
theorem Yr{prog:Ad}{w:Af}{env:Env}{e:Expr}{f:Str}{pos:Pos}{s:Ab}{Q:Aa->Ab->Prop}(hb:attributeBase e f env (eval e env)=eval e env)
  (h:wpAny (model prog w) A (eval e env) (λo aJ=>wpAny (model prog w) A (getAttr o f true) Q E aJ) E s):wpAny (model prog w) A (eval (.Attribute e f pos) env) Q E s:=
 Attribute_any_ h (by rw[arm_eval_Attribute,hb])
end
inductive wY (K:ai) (f:Str) (Q:VK) (x:V) (H1:Hp):Prop
 |mk:∀a C dx fs v,x=.ref a->H1 a\.ins C dx fs->mU K C->mq K C f->fs.lookup f\v->Q v H1->wY K f Q x H1
def CO(K:ai)(ta:TE)(f:Str):TE:=λσ H Q=>ta σ H λx H1=>wY K f Q x H1
inductive xc (K:ai) (f:Str) (D:Ends) (σ:St) (y:V) (x:V) (H2:Hp):Prop
 |mk:∀a C dx fs,x=.ref a->H2 a\.ins C dx fs->mU K C->mq K C f->fs.length<1000->D.nx σ (upd H2 a (.ins C dx (aB f y fs)))->xc K f D σ y x H2
def J3(K:ai)(ta tv:TE)(f:Str):TS:=λD σ H=>tv σ H λy H1=>ta σ H1 λx H2=>xc K f D σ y x H2
section
variable{X:Cx}{o e value:Expr}{f:Str}{pos pos' CD:Pos}{ta tv:TE}
theorem gG(he:PE X e ta)(hb:attributeBase e f X.env (eval e X.env)=eval e X.env):PE X (.Attribute e f pos) (CO X.K ta f):=by
 intro pins s σ H Q I h;apply Yr hb (aO (he pins s σ H _ I h) λu s1 ⟨x,H1,I1,rx,a,C,dx,fs,v,ex,ea,c,n,l,q⟩=>?_);subst ex;obtain rfl:u=Value.ref a:=rx;exact fV_ I1 ea c n l λu' s2 I2 ru=>#[v,H1,I2,ru,q]
theorem uW(ha:PE X o ta)(hv:PE X value tv)(hs:swapsWith value (some (.Attribute o f pos')) pos.line X.env=pure false):PS X (.Assign [.Attribute o f pos'] value pos) (J3 X.K ta tv f):=by
 intro pins s σ H D I h;apply plainObj_wpAny_Assign_Attribute (aO (hv pins s σ H _ I h) λu s1 ⟨y,H1,I1,ry,q⟩=>aO (ha pins s1 σ H1 _ I1 q) λov s2 ⟨x,H2,I2,rx,a,C,dx,fs,ex,ea,c,n,l,q2⟩=>?_) hs;subst ex;obtain rfl:ov=Value.ref a:=rx;exact fQ_ I2 ea c n l ry λs3 I3=>#[σ,_,I3,q2]
end
section
variable{X:Cx}{pins:List (Addr × Obj)}{σ:St}{H:Hp}{s:Ab}{A:Ag}{E:Aa->Ab->Prop}{Q:Aa->Ab->Prop}{c:Aa}{b:Bool}
inductive fI (K:ai) (H:Hp):V->Aa->Prop where
 |non:fI K H .non (.type "NoneType")
 |bl (x:Bool):fI K H (.bl x) (.type "bool")
 |int (i:Int):fI K H (.int i) (.type "int")
 |str (x:Str):fI K H (.str x) (.type "str")
 |flt (x:UInt64):fI K H (.flt x) (.type "float")
 |lst {a:Addr} {xs:ag} (e:H a\.lst xs):fI K H (.ref a) (.type "list")
 |frz {a:Addr} {o:Obj} {xs:ag} (e:H a\.frz o (.lst xs)):fI K H (.ref a) (.type "list")
 |tup {a:Addr} {xs:ag} (e:H a\.tup xs):fI K H (.ref a) (.type "tuple")
 |dK {a:Addr} {kvs:List (Key × V)} (e:H a\.dK kvs):fI K H (.ref a) (.type "dict")
 |dT {a:Addr} {kvs:List (aq × V)} (e:H a\.dT kvs):fI K H (.ref a) (.type "dict")
 |ins {a C dx:Addr} {fs:List (Str × V)} (e:H a\.ins C dx fs) (cl:mU K C) (ha:PySem.W.findIn K (.ref C) "__class__"\some (.builtin "object.__class__"))
   (hn:PySem.W.specialIn K (.builtin "object.__class__") "__get__"\some (.builtin "getset_descriptor.__get__")) (BA:PySem.W.takesIn K (.builtin "object.__class__")\true)
   (hm:PySem.W.mroIn K C (.type "object")\true):fI K H (.ref a) (.ref C)
theorem Tt{x:V}{u t:Aa}(I:Inv X pins σ H s)(rx:RelV x u)(ty:fI X.K H x t)(e:PySem.W.kitOne X.K t c\b)(h:∀tk,Q (.bool b) { s with toks:=tk }) :
  wpAny (model X.prog X.w) A (call (.builtin "isinstance") [u,c]) Q E s:=by
 cases ty with
 |non=>cases (show u=Value.none from rx);exact tM PySem.W.kitx_none I.gJ True.intro e nofun h
 |bl y=>cases (show u=Value.bool y from rx);exact tM PySem.W.kitx_bool I.gJ True.intro e nofun h
 |int i=>let#[t,q]:=(show ∃t,u=Value.int i t from rx);cases q;exact tM PySem.W.kitx_int I.gJ True.intro e nofun h
 |str y=>let#[t,q]:=(show ∃t,u=Value.str y t from rx);cases q;exact tM PySem.W.kitx_str I.gJ True.intro e nofun h
 |flt y=>let#[t,q]:=(show ∃t,u=Value.float y t from rx);cases q;exact tM PySem.W.kitx_float I.gJ True.intro e nofun h
 |@lst a xs ea=>
  cases (show u=Value.ref a from rx);let#[_,_,n,_,h1]:=(show fj X.prog X.w H s.heap a (.lst xs) from I.aA a _ ea);exact tM PySem.W.kitx_list I.gJ #[_,h1,U] e nofun h
 |@frz a ob xs ea=>
  cases (show u=Value.ref a from rx);let#[_,_,_,n,_,h1]:=(show fj X.prog X.w H s.heap a (.frz ob (.lst xs)) from I.aA a _ ea);exact tM PySem.W.kitx_list I.gJ #[_,h1,U] e nofun h
 |@tup a xs ea=>
  cases (show u=Value.ref a from rx);let#[_,_,_,p,_]:=(show fj X.prog X.w H s.heap a (.tup xs) from I.aA a _ ea);let#[o,h1,h2,_]:=p;exact tM PySem.W.kitx_tuple I.gJ #[o,h1,h2] e nofun h
 |@dK a kvs ea=>
  cases (show u=Value.ref a from rx);let#[_,_,vs,_,p]:=(show fj X.prog X.w H s.heap a (.dK kvs) from I.aA a _ ea);let#[o,es,ep,h1,h2,_]:=p;exact tM PySem.W.kitx_dict I.gJ #[o,h1,h2.1] e nofun h
 |@dT a kvs ea=>
  cases (show u=Value.ref a from rx);let#[_,_,xs,_,o,es,ep,h1,h2,_]:=(show fj X.prog X.w H s.heap a (.dT kvs) from I.aA a _ ea);exact tM PySem.W.kitx_dict I.gJ #[o,h1,h2.1] e nofun h
 |@ins a C dx fs ea cl ha hn BA hm=>
  cases (show u=Value.ref a from rx);let#[mA,O,_]:=HV I.aA ea;let#[od,J,_]:=O.look;exact tM (PySem.W.kitx_own (cl.get _) cl.hd ha hn BA hm) I.gJ J e nofun h
end
end L2
namespace L2
open PySem PySem.Spec PyProof.Rows
structure aP (k:Nat) (A:Ag):Prop where
 hd:A.handled=none
 dp:A.depth+3 * k+5<recursionLimit
 un:A.units+16 * k+200<cLine
theorem aP.mono{j k:Nat}{A:Ag}(r:aP k A)(h:j<=k):aP j A:=#[r.hd,by have:=r.dp;omega,by have:=r.un;omega]
theorem aP.deeper{k:Nat}{A:Ag}(r:aP (k+1) A)(env:Env):aP k (A.deeper env):=
 #[r.hd,by have:=r.dp;show A.depth+1+3 * k+5<_;omega,by have:=r.un;show A.units+3+16 * k+200<_;omega]
theorem aP.in1{k:Nat}{A:Ag}(r:aP (k+1) A):aP k A.in1:=
 #[r.hd,by have:=r.dp;show A.depth+3 * k+5<_;omega,by have:=r.un;show A.units+1+16 * k+200<_;omega]
theorem fY_{A:Ag}{C:Addr}{us:aj}{kw:List (Str × Aa)}:(A.under (.builtin "type.__call__" #[.ref C::us,kw])).depth=A.depth+1:=by
 first|rfl|simp[Around.under,Code.weight,Code.isCreation,Code.isGuard,Code.isCaller,Code.frames,Code.isFrame,guardIds]
theorem fX_{A:Ag}{C:Addr}{us:aj}{kw:List (Str × Aa)}:(A.under (.builtin "type.__call__" #[.ref C::us,kw])).units=A.units+1:=by
 first|rfl|simp[Around.under,Code.cUnits,Code.frames,Code.isFrame]
theorem aP.make{k:Nat}{A:Ag}(r:aP (k+1) A)(C:Addr)(us:aj)(kw:List (Str × Aa)):aP k (A.under (.builtin "type.__call__" #[.ref C::us,kw])):=
 #[r.hd,by have:=r.dp;rw[fY_];omega,by have:=r.un;rw[fX_];omega]
theorem aP.depth{k:Nat}{A:Ag}(r:aP k A):A.depth<recursionLimit:=by have:=r.dp;omega
theorem aP.units{k:Nat}{A:Ag}(r:aP k A):A.units+64<cLine:=by have:=r.un;omega
def oM:TA:=λ_ H Q=>Q [] H
def ju(ta:TE)(tr:TA):TA:=λσ H Q=>ta σ H λx H1=>tr σ H1 λxs H2=>Q (x::xs) H2
section
variable{X:Cx}{e:Expr}{es:List Expr}{te:TE}{t:TA}{pos:Pos}
theorem bK:PA X [] oM:=λ_ _ _ _ H Q I h=>Calls.spliced_nil #[[],H,I,.nil,h]
theorem eW(ha:PE X e te)(hr:PA X es t)(hs:starEach (e::es) X.env=(false,eval e X.env)::starEach es X.env:=by rfl):PA X (e::es) (ju te t):=by
 intro pos pins s σ H Q I h;rw[hs];show wpAny _ _ (spliced ((false,eval e X.env)::backTo pos (starEach es X.env))) _ _ s;apply Calls.spliced_cons (aO (ha pins s σ H _ I h) λu s1 ⟨x,H1,I1,r1,q1⟩=>?_);exact aO (hr pos pins s1 σ H1 _ I1 q1) λus s2 ⟨xs,H2,I2,r2,q2⟩=>#[x::xs,H2,I2,.cons r1 r2,q2]
def CJ(t:TA):TE:=λσ H Q=>t σ H λxs H1=>xs.length<=sizeLine/\∀p,H1 p=none->Q (.ref p) (upd H1 p (.tup xs))
def JN(t:TA):TE:=λσ H Q=>t σ H λxs H1=>xs.length<=sizeLine/\∀p,H1 p=none->Q (.ref p) (upd H1 p (.lst xs))
theorem gh{x1}(h:PA X es t):PE X (.Tuple es x1 pos) (CJ t):=by
 intro pins s σ H Q I hq;apply wpAny_Tuple_spliced (aO (h pos pins s σ H _ I hq) λus s1 ⟨xs,H1,I1,r,z,q⟩=>#[by rw[<- r.length];exact z,?_]);have hf:H1 s1.heap.objs.size=none:=I1.aA.fresh (bh _);apply#[.ref s1.heap.objs.size,upd H1 s1.heap.objs.size (.tup xs),I1.laid (t':=s1.toks) (λb u e=>aQ _ e) (bh _) ?_,U,q _ hf];exact#[z,us,r,#[_,cJ _ U,U,_,U],_,cJ _ U,U]
theorem fu(h:PA X es t):PE X (.List es pos) (JN t):=by
 intro pins s σ H Q I hq;apply wpAny_List_spliced (aO (h pos pins s σ H _ I hq) λus s1 ⟨xs,H1,I1,r,z,q⟩=>#[by rw[<- r.length];exact z,?_]);have hf:H1 s1.heap.objs.size=none:=I1.aA.fresh (bh _);apply#[.ref s1.heap.objs.size,upd H1 s1.heap.objs.size (.lst xs),I1.laid (t':=s1.toks) (λb u e=>aQ _ e) (bh _) ?_,U,q _ hf];exact#[z,us,0,r,cJ _ U]
end
abbrev Sp:=ag->Hp->VK->XK->Prop
abbrev kQ:=List Env->Hp->Ab->XK->Aa->Ab->Prop
structure iT (P:Ad) (w:Af) (K:ai) (mg:Str->Option Aa) (base:Heap) (A:Ag) (outer:List Env) (s:Ab) (H:Hp):Prop where
 frames:A.frames\outer
 mod:Mod K mg base
 bs:∀b o,base.get? b\o->s.heap.get? b\o/\H b=none
 tV:base.objs.size<=s.heap.objs.size
 fU:s.heap.FunFrames base outer
 vZ:∀b∈o9 outer,H b=none
 aA:fM P w H s.heap
 bare:AllBare s.gens
def CE(outer:List Env)(P:Ad)(w:Af)(H:Hp)(s:Ab)(Q:VK)(u:Aa)(s':Ab):Prop:=
 ∃v H',s'.os=s.os/\AllBare s'.gens/\Un (o9 outer) [] H H' s.heap s'.heap/\fM P w H' s'.heap/\RelV v u/\Q v H'
def CR(CX:kQ)(outer:List Env)(P:Ad)(w:Af)(H:Hp)(s:Ab)(Q:VK)(E:XK)(r:Result)(s':Ab):Prop:=
 match r with
 |.ok (.ret u)=>CE outer P w H s Q u s'
 |.ok _=>False
 |.error e=>CX outer H s E e s'
structure ao (P:Ad) (w:Af) (K:ai) (mg:Str->Option Aa) (base:Heap) (CX:kQ) (k:Nat) (f:Addr) (fd:Ae) (ps:ae) (sp:Sp):Prop where
 len:∀vs H Q E,sp vs H Q E->vs.length=ps.length
 run:∀(A:Ag) (outer:List Env) (s:Ab) (H:Hp) (args:Args) (us:aj) (vs:ag) (Q:VK) (E:XK),aP k A->iT P w K mg base A outer s H->BindsTo s fd args (ps.zip us)->Vals vs us->sp vs H Q E->
  codeAny (model P w) A (.call (.ref f) args) (CR CX outer P w H s Q E) s
theorem ao.imp{P:Ad}{w:Af}{K:ai}{mg:Str->Option Aa}{base:Heap}{CX:kQ}{k:Nat}{f:Addr}{fd:Ae}{ps:ae}{sp Bt:Sp}(F:ao P w K mg base CX k f fd ps sp)
  (h:∀vs H Q E,Bt vs H Q E->sp vs H Q E):ao P w K mg base CX k f fd ps Bt:=
 #[λvs H Q E q=>F.len vs H Q E (h _ _ _ _ q),λA outer s H args us vs Q E hr he hb hv hs=>F.run A outer s H args us vs Q E hr he hb hv (h _ _ _ _ hs)]
theorem iT.make{P:Ad}{w:Af}{K:ai}{mg:Str->Option Aa}{base:Heap}{A:Ag}{outer:List Env}{s:Ab}{H:Hp}(e:iT P w K mg base A outer s H)(C:Addr)(us:aj)(kw:List (Str × Aa)) :
  iT P w K mg base (A.under (.builtin "type.__call__" #[.ref C::us,kw])) outer s H:=#[by first|exact e.frames|(simpa [Around.under,Code.envs,Code.isFrame,pushEnvs] using e.frames),e.mod,e.bs,e.tV,e.fU,e.vZ,e.aA,e.bare]
section
variable{X:Cx}{pins:List (Addr × Obj)}{σ:St}{H:Hp}{s s':Ab}
theorem Inv.AC(I:Inv X pins σ H s):iT X.prog X.w X.K X.mg X.base X.A X.stack s H:=
 #[I.ok.frames,I.ok.mod,I.bs,iQ I.ok.tV I.sz,I.stack,I.nh,I.aA,I.bare]
theorem Inv.after{Q:VK}{u:Aa}(I:Inv X pins σ H s)(h:CE X.stack X.prog X.w H s Q u s'):EP X pins σ Q u s':=by
 let#[v,H',os,bare,un,aA,r,q]:=h;let#[hh,g,d,t,WD]:=s';obtain rfl:WD=s.os:=os;exact#[v,H',I.call (h':=hh) (g':=g) (d':=d) (t':=t) (ch:=[]) un aA bare (λb z=>absurd z Y0),r,q]
end
def w6(sp:Sp)(gK:ag)(E:XK)(t:TA):TE:=λσ H Q=>t σ H λvs H1=>sp (vs++gK) H1 Q E
inductive qD (C:Addr) (m:Str) (sp:Sp) (gK:ag) (E:XK) (t:TA) (σ:St) (Q:VK) (x:V) (H1:Hp):Prop
 |mk:∀a dx fs,x=.ref a->H1 a\.ins C dx fs->fs.lookup m=none->(t σ H1 λvs H2=>sp (x::(vs++gK)) H2 Q E)->qD C m sp gK E t σ Q x H1
def m_(C:Addr)(m:Str)(sp:Sp)(gK:ag)(E:XK)(ta:TE)(t:TA):TE:=λσ H Q=>ta σ H λx H1=>qD C m sp gK E t σ Q x H1
def wW(C:Addr)(sp:Sp)(gK:ag)(E:XK)(t:TA):TE:=λσ H Q=>t σ H λvs H1=>∀x dx,H1 x=none->H1 dx=none->dx≠x->
 sp (.ref x::(vs++gK)) (upd (upd H1 dx (.own x)) x (.ins C dx [])) (λv H2=>v=.non/\Q (.ref x) H2) E
def pZ(K:ai)(fd:Ae)(ps:ae)(ds:aj):Prop:=
 ∀(s:Ab) (us:aj),K.In s.heap->(us++ds).length=ps.length->BindsTo s fd #[us,[]] (ps.zip (us++ds))
theorem pZ.all{K:ai}{fd:Ae}{ps:ae}(h:∀us:aj,us.length=ps.length->bindArgs fd #[us,[]]=pure (ps.zip us)):pZ K fd ps []:=λs us _ hl=>by
 rw[wK] at hl ⊢;exact .of_eq (h us hl)
def wC(CX:kQ)(X:Cx)(E:XK):Prop:=∀(pins:List (Addr × Obj)) (σ:St) (H:Hp) (s:Ab) (e:Aa) (s':Ab),Inv X pins σ H s->CX X.stack H s E e s'->X.xe e s'
section
variable{X:Cx}{CX:kQ}{k:Nat}{f C:Addr}{fd:Ae}{ps:ae}{sp:Sp}{gK:ag}{ds:aj}{E:XK}{x m:Str}{p pos apos:Pos}{e o:Expr}{es:List Expr}{ta:TE}{t:TA}
theorem Lf{pins:List (Addr × Obj)}{σ:St}{H:Hp}{s:Ab}{Q:VK}{us:aj}{vs:ag}(F:ao X.prog X.w X.K X.mg X.base CX k f fd ps sp)(hr:aP k X.A)(hb:pZ X.K fd ps ds)(hd:Vals gK ds)(hx:wC CX X E)
  (I:Inv X pins σ H s) (r:Vals vs us) (h:sp (vs++gK) H Q E):wpAny (model X.prog X.w) X.A (call (.ref f) us) (EP X pins σ Q) X.xe s:=by
 have r2:Vals (vs++gK) (us++ds):=r.append hd;have hl:(us++ds).length=ps.length:=by rw[<- r2.length];exact F.len _ _ _ _ h
 apply wpAny_call (codeAny_mono (F.run X.A X.stack s H #[us,[]] (us++ds) (vs++gK) Q E hr I.AC (hb s us I.gJ hl) r2 h) λr s' hq=>?_);cases r with
 |error e=>exact hx pins σ H s e s' I hq
 |ok fl=>
  cases fl with
  |ret u=>exact I.after hq
  |next=>exact False.elim hq
  |brk=>exact False.elim hq
  |cont=>exact False.elim hq
theorem Z3(F:ao X.prog X.w X.K X.mg X.base CX k f fd ps sp)(hr:aP k X.A)(hg:Gl X x)(hm:X.mg x\.ref f)(hk:PySem.W.keepIn X.K (.ref f)=true)(hb:pZ X.K fd ps ds)(hd:Vals gK ds)(hx:wC CX X E)
  (ha:PA X (e::es) t) (sZ:(x == ("__debug__":Str))=false:=by decide) (he:starEach (e::es) X.env=(false,eval e X.env)::starEach es X.env:=by rfl) (iE:(backTo pos (starEach es X.env)).any (·.1)=false:=by rfl) :
  PE X (.Call (.Name x p) (e::es) [] pos) (w6 sp gK E t):=by
 intro pins s σ H Q I h;apply wpAny_Call_Name_kw (MF I hg hm ?_ sZ);apply PySem.W.callWith_K (h₀:=X.base) I.ok.mod.DS hk (aO (ha pos pins s σ H _ I h) λus s1 ⟨vs,H1,I1,r,q⟩=>#[I1.gJ,?_]) he iE;exact Lf F hr hb hd hx I1 r q
theorem YM{pl:Sem Bool}(he:PE X o ta)(c:mU X.K C)(hm:Meth X.K C m f)(F:ao X.prog X.w X.K X.mg X.base CX k f fd ps sp)(hr:aP k X.A)(hb:pZ X.K fd ps ds)(hd:Vals gK ds)(hx:wC CX X E)(ha:PA X (e::es) t)
  (zN:starEach (e::es) X.env=(false,eval e X.env)::starEach es X.env:=by rfl) (iE:(backTo pos (starEach es X.env)).any (·.1)=false:=by rfl)
  (ht:eval (.Call (.Attribute o m apos) (e::es) [] pos) X.env=(do
   let ov <- eval o X.env
   standAt apos.atName
   let (f,first) <- holding [ov] (getMethod ov m pl)
   callWith pos f first (backTo pos (starEach (e::es) X.env)) (backToKw pos (keywordEach [] X.env))):=by rfl) :
  PE X (.Call (.Attribute o m apos) (e::es) [] pos) (m_ C m sp gK E ta t):=by
 intro pins s σ H Q I h;apply PySem.W.methodCall_KW (pl:=pl) (aO (he pins s σ H _ I h) λu s1 ⟨x,H1,I1,rx,a,dx,fs,ex,ea,l,q⟩=>?_) ht;subst ex;obtain rfl:u=Value.ref a:=rx;apply TF I1 ea c hm l ?_;apply PySem.W.callWith_K (first:=[.ref a]) (h₀:=X.base) I.ok.mod.DS hm.kp (aO (ha pos pins s1 σ H1 _ I1 q) λus s2 ⟨vs,H2,I2,r,q2⟩=>#[I2.gJ,?_]) zN iE;exact Lf (us:=.ref a::us) (vs:=.ref a::vs) F hr hb hd hx I2 (.cons U r) q2
theorem Zx{pl:Sem Bool}(he:PE X o ta)(c:mU X.K C)(hm:Meth X.K C m f)(F:ao X.prog X.w X.K X.mg X.base CX k f fd ps sp)(hr:aP k X.A)(hb:pZ X.K fd ps ds)(hd:Vals gK ds)(hx:wC CX X E)
  (ht:eval (.Call (.Attribute o m apos) [] [] pos) X.env=(do
   let ov <- eval o X.env
   standAt apos.atName
   let (f,first) <- holding [ov] (getMethod ov m pl)
   callWith pos f first (backTo pos (starEach [] X.env)) (backToKw pos (keywordEach [] X.env))):=by rfl) :
  PE X (.Call (.Attribute o m apos) [] [] pos) (m_ C m sp gK E ta oM):=by
 intro pins s σ H Q I h;apply PySem.W.methodCall_KW (pl:=pl) (aO (he pins s σ H _ I h) λu s1 ⟨x,H1,I1,rx,a,dx,fs,ex,ea,l,q⟩=>?_) ht;subst ex;obtain rfl:u=Value.ref a:=rx;apply TF I1 ea c hm l ?_;exact PySem.W.callWith_K0 (first:=[.ref a]) I1.gJ hm.kp (Lf (us:=[.ref a]) (vs:=[.ref a]) F hr hb hd hx I1 (.cons U .nil) q)
structure Mk (K:ai) (C f:Addr):Prop where
 makes:PySem.W.makesIn K C=true
 init:PySem.W.findIn K (.ref C) "__init__"\some (.ref f)
 fn:PySem.W.isFn K (.ref f)=true
 kp:PySem.W.keepIn K (.ref C)=true
theorem Zv{pins:List (Addr × Obj)}{σ:St}{H:Hp}{s:Ab}{Q:VK}{us:aj}{vs:ag}(M:Mk X.K C f)(F:ao X.prog X.w X.K X.mg X.base CX k f fd ps sp)(hr:aP (k+1) X.A)(hb:pZ X.K fd ps ds)(hd:Vals gK ds)
  (hx:wC CX X E) (I:Inv X pins σ H s) (r:Vals vs us)
  (h:∀x dx,H x=none->H dx=none->dx≠x->sp (.ref x::(vs++gK)) (upd (upd H dx (.own x)) x (.ins C dx [])) (λv H2=>v=.non/\Q (.ref x) H2) E) :
  wpAny (model X.prog X.w) X.A (call (.ref C) us) (EP X pins σ Q) X.xe s:=by
 let hq:=h (s.heap.objs.size+1) s.heap.objs.size (I.aA.fresh (Nat.le_succ _)) (I.aA.fresh (bh _)) (dG (Nat.lt_succ_self _));let I2:=Inv.made (C:=C) I;have r2:Vals (V.ref (s.heap.objs.size+1)::(vs++gK)) (Value.ref (s.heap.objs.size+1)::(us++ds)):=.cons U (r.append hd)
 have hl:(Value.ref (s.heap.objs.size+1)::us++ds).length=ps.length:=by
  let e:=r2.length;rw[F.len _ _ _ _ hq] at e;exact e.symm
 apply wpAny_call (hR_ (f:=f) I.gJ M.makes M.init (beq_iff_eq.mp M.fn) (codeAny_mono (F.run _ X.stack _ _ #[Value.ref (s.heap.objs.size+1)::us,[]] (Value.ref (s.heap.objs.size+1)::(us++ds)) _ _ E (hr.make C us [])
  (I2.AC.make C us []) (hb _ (Value.ref (s.heap.objs.size+1)::us) I2.gJ hl) r2 hq) λr s' hq'=>?_))
 cases r with
 |error e=>exact hx pins σ _ _ e s' I2 hq'
 |ok fl=>
  cases fl with
  |ret u=>
   let#[v,H',I3,rv,ev,q3]:=I2.after hq';subst ev;exact#[rv,#[V.ref (s.heap.objs.size+1),H',I3,U,q3]]
  |next=>exact False.elim hq'
  |brk=>exact False.elim hq'
  |cont=>exact False.elim hq'
theorem Yt(M:Mk X.K C f)(F:ao X.prog X.w X.K X.mg X.base CX k f fd ps sp)(hr:aP (k+1) X.A)(hg:Gl X x)(hm:X.mg x\.ref C)(hb:pZ X.K fd ps ds)(hd:Vals gK ds)(hx:wC CX X E)
  (ha:PA X (e::es) t) (sZ:(x == ("__debug__":Str))=false:=by decide) (he:starEach (e::es) X.env=(false,eval e X.env)::starEach es X.env:=by rfl) (iE:(backTo pos (starEach es X.env)).any (·.1)=false:=by rfl) :
  PE X (.Call (.Name x p) (e::es) [] pos) (wW C sp gK E t):=by
 intro pins s σ H Q I h;apply wpAny_Call_Name_kw (MF I hg hm ?_ sZ);apply PySem.W.callWith_K (h₀:=X.base) I.ok.mod.DS M.kp (aO (ha pos pins s σ H _ I h) λus s1 ⟨vs,H1,I1,r,q⟩=>#[I1.gJ,?_]) he iE;exact Zv M F hr hb hd hx I1 r q
end
def PK(X:Cx)(Bz:List Keyword)(t:TA):Prop:=
 ∀(pos:Pos) (pins:List (Addr × Obj)) (s:Ab) (σ:St) (H:Hp) (Q:ag->Hp->Prop),Inv X pins σ H s->t σ H Q->wpAny (model X.prog X.w) X.A (evalAll ((backToKw pos (keywordEach Bz X.env)).map (·.2))) (AP X pins σ Q) X.xe s
section
variable{X:Cx}{CX:kQ}{k:Nat}{f C:Addr}{fd:Ae}{ps ks:ae}{sp:Sp}{E:XK}{x m:Str}{p pos apos KM:Pos}{e o:Expr}{es:List Expr}{Bz:List Keyword}{te ta:TE}{t tk:TA}{nm:Option Str}
theorem Xv:PK X [] oM:=λ_ _ _ _ H Q I h=>wpAny_evalAll_nil #[[],H,I,.nil,h]
theorem Y4(ha:PE X e te)(hr:PK X Bz t):PK X (#[nm,e,KM]::Bz) (ju te t):=by
 intro pos pins s σ H Q I h;show wpAny _ _ (evalAll ((do let v <- eval e X.env;standAt pos;pure v)::(backToKw pos (keywordEach Bz X.env)).map (·.2))) _ _ s;apply wpAny_evalAll_cons (af (aO (ha pins s σ H _ I h) λu s1 ⟨x,H1,I1,r1,q1⟩=>af (wpAny_standAt (aF ?_))));exact aO (hr pos pins s1 σ H1 _ I1 q1) λus s2 ⟨xs,H2,I2,r2,q2⟩=>#[x::xs,H2,I2,.cons r1 r2,q2]
structure OT (K:ai) (fd:Ae) (ps ks:ae) (g:aj->aj->aj) (gV:ag->ag->ag):Prop where
 to:∀(s:Ab) (us ws:aj),K.In s.heap->(g us ws).length=ps.length->BindsTo s fd #[us,ks.zip ws] (ps.zip (g us ws))
 rel:∀{vs:ag} {us:aj} {zs:ag} {ws:aj},Vals vs us->Vals zs ws->Vals (gV vs zs) (g us ws)
variable{g:aj->aj->aj}{gV:ag->ag->ag}
end
structure bJ (N P:ae) (sc:Scope):Prop where
 kind:sc.kind=.function
 co:sc.isCoroutine=false
 gen:sc.isGenerator=false
 nd:N.Nodup
 pre:N.take P.length=P
 par:∀x∈P,sc.names.lookup x\.local∨sc.names.lookup x\.cell
 zu:∀y∈sc.names,y.2≠.free
theorem Tp{kindOf:Str->Option NameKind}{x:Str}:∀{binds:List (Str × Aa)} {m:Str->Option Aa},(∀v,(x,v)∉binds)->bindL kindOf binds m x=m x
 |[],_,_=>rfl
 |(n,v)::r,m,h=>by
  unfold bindL;rw[Tp λw hw=>h w (fX _ hw)];split
  ·have:x≠n:=by rintro rfl;exact h v gF
   simp[this]
  rfl
theorem Tv{kindOf:Str->Option NameKind}{x:Str}:∀{binds:List (Str × Aa)} {m:Str->Option Aa},(∀v,(x,v)∉binds)->bindC kindOf binds m x=m x
 |[],_,_=>rfl
 |(n,v)::r,m,h=>by
  unfold bindC;rw[Tv λw hw=>h w (fX _ hw)];split
  ·rfl
  have:x≠n:=by rintro rfl;exact h v gF
  simp[this]
theorem Tj{kindOf:Str->Option NameKind}{x:Str}{v:Aa}:∀{P:ae} {vs:aj} {i:Nat} {m:Str->Option Aa},P.Nodup->P[i]? = some x->vs[i]? = some v->kindOf x\.local->
  bindL kindOf (P.zip vs) m x\v
 |[],_,_,_,_,h,_,_=>by simp at h
 |_::_,[],_,_,_,_,h,_=>by simp at h
 |p::P,w::vs,0,m,nd,h1,h2,hk=>by
  simp at h1 h2;subst h1;subst h2;show bindL kindOf ((p,w)::P.zip vs) m p=_;unfold bindL;rw[Tp λv hv=>(iZ.mp nd).1 (List.of_mem_zip hv).1,aI hk];simp
 |p::P,w::vs,i+1,m,nd,h1,h2,hk=>by
  show bindL kindOf ((p,w)::P.zip vs) m x=_;unfold bindL;exact Tj (i:=i) (iZ.mp nd).2 ⇑h1 ⇑h2 hk
theorem S8{kindOf:Str->Option NameKind}{x:Str}{v:Aa}:∀{P:ae} {vs:aj} {i:Nat} {m:Str->Option Aa},P.Nodup->P[i]? = some x->vs[i]? = some v->kindOf x≠some .local->
  bindC kindOf (P.zip vs) m x\v
 |[],_,_,_,_,h,_,_=>by simp at h
 |_::_,[],_,_,_,_,h,_=>by simp at h
 |p::P,w::vs,0,m,nd,h1,h2,hk=>by
  simp at h1 h2;subst h1;subst h2;show bindC kindOf ((p,w)::P.zip vs) m p=_;unfold bindC;rw[Tv λv hv=>(iZ.mp nd).1 (List.of_mem_zip hv).1,aC hk];simp
 |p::P,w::vs,i+1,m,nd,h1,h2,hk=>by
  show bindC kindOf ((p,w)::P.zip vs) m x=_;unfold bindC;exact S8 (i:=i) (iZ.mp nd).2 ⇑h1 ⇑h2 hk
def start(N:ae)(vs:ag):St:=vs.map some++List.replicate (N.length - vs.length) none
def i9(CX:kQ)(P:Ad)(w:Af)(K:ai)(mg:Str->Option Aa)(base:Heap)(N:ae)(qual:Str)(scope:Scope)(f:Addr)(cd:Aa)(A:Ag)(outer:List Env)(s:Ab)(H:Hp)(E:XK):Cx where
 prog:=P
 w:=w
 K:=K
 mg:=mg
 base:=base
 A:=A.deeper (envOfC qual scope s.heap.objs.size f cd)
 N:=N
 di:=s
 j8:=H
 env:=envOfC qual scope s.heap.objs.size f cd
 outer:=outer
 stack:=envOfC qual scope s.heap.objs.size f cd::outer
 ex:=[]
 calm:=true
 fn:=λ_=>true
 pn:=[]
 xe:=λe s'=>wpAny (model P w) (A.deeper (envOfC qual scope s.heap.objs.size f cd)) (leaving (envOfC qual scope s.heap.objs.size f cd) e) (λ_ pM=>CX outer H s E e pM) (λe' pM=>CX outer H s E e' pM) s'
theorem R0{sc:Scope}{n:Nat}{x:Str}(h:sc.names.lookup x\.cell):∃c,(cellsFrom n sc.names []).lookup x\c:=by
 let q:=PySem.W.cellsFrom_some sc.names n [] (.inl h);exact Option.isSome_iff_exists.mp q
theorem gm_{CX:kQ}{P:Ad}{w:Af}{K:ai}{mg:Str->Option Aa}{base:Heap}{N ps:ae}{qual:Str}{scope:Scope}{f:Addr}{cd:Aa}{A:Ag}{outer:List Env}{s s1:Ab}{H:Hp}{E:XK}{us:aj}{vs:ag}
  (S:bJ N ps scope) (hd:A.handled=none) (e0:iT P w K mg base A outer s H) (hl:vs.length=ps.length) (r:Vals vs us)
  (x:InCallC s s.heap.objs.size (bindL (envOfC qual scope s.heap.objs.size f cd).kindOf (ps.zip us) λ_=>none) (cellsFrom (s.heap.objs.size+1) scope.names []) (bindC (envOfC qual scope s.heap.objs.size f cd).kindOf (ps.zip us) λ_=>none) s1) :
  Inv (i9 CX P w K mg base N qual scope f cd A outer s H E) [] (start N vs) H s1:=by
 have iE:ps.length<=N.length:=by have:=eg List.length S.pre;rw[dM] at this;omega
 let#[h1,tk,rfl,hk]:=x.done;have vI:∀b:Addr,b∉(i9 CX P w K mg base N qual scope f cd A outer s H E).ex:=λb z=>absurd (show b∈([]:au) from z) Y0
 apply#[#[e0.mod,S.kind,U,U,bh _,λy z c h1 h2=>?_,λy hy=>?_,λy c _ h=>?_,λ_=>hd,Around.frames_deeper e0.frames,.inr #[U,U],λb z=>absurd z (vI b),e0.bs,e0.tV,λb _ _=>vI b,λb z=>absurd z (vI b),e0.fU,e0.vZ],
  rfl,e0.bare,Un.kept hk,#[_,x.toInCall.ns,λi y v h1 h2 h3=>?_],λy c h=>#[_,x.cell y c h],e0.aA.fresh (bh _),λy c h=>?_,λp hp=>absurd (show p∈([]:List (Addr × Obj)) from hp) Y0,e0.aA.kept hk,?_]
 ·exact name_of_addr x.apart (qf h1) (qf h2)
 ·have hy:scope.names.lookup y\.cell∨scope.names.lookup y\.free:=hy;rcases hy with hy|hy
  ·exact R0 hy
  exact absurd U (S.zu _ (qf hy))
 ·exact Nat.le_of_lt (x.above y c (qf h))
 ·have hi:i<vs.length:=by
   unfold start at h2;by_cases hi:i<vs.length
   ·exact hi
   rw[Be ⇑hi] at h2;rw[List.getElem?_replicate] at h2;split at h2<;>cases h2
  have ha:vs[i]? = some v:=by
   unfold start at h2;rw[yi ⇑hi,dF] at h2;cases e:vs[i]? with
   |none=>rw[e] at h2;cases h2
   |some a=>rw[e] at h2;cases h2;rfl
  let#[u,hu,rv]:=r.get ha
  have hp:ps[i]? = some y:=by
   rw[<- S.pre,List.getElem?_take_of_lt Z2];exact h1
  have Gy:ps.Nodup:=by rw[<- S.pre];exact S.nd.sublist (List.take_sublist _ _)
  apply#[u,rv,?_];rcases S.par y (cZ hp) with k|k
  ·exact .inl #[k,Tj Gy hp hu k]
  let#[c,e]:=R0 (n:=s.heap.objs.size+1) k;apply .inr #[.inl k,c,e,?_];let q:=x.cell y c e;rw[S8 Gy hp hu (by show scope.names.lookup y≠_;rw[k];decide)] at q;exact q
 ·exact e0.aA.fresh (Nat.le_of_lt (x.above y c (qf h)))
 unfold start;show _=N.length;rw[d5,av,Cc];omega
theorem Qh{CX:kQ}{P:Ad}{w:Af}{K:ai}{mg:Str->Option Aa}{base:Heap}{k:Nat}{f:Addr}{name qual:Str}{params:Arguments}{body:List Stmt}{scope:Scope}{dV kV doc pm aL ct oc:Aa}{an od:Option Addr}
  {jy:Array (Option Aa)} {N ps:ae} {sp:Sp} (lk:K.lookup f=some #[oc,od,.func (PySem.W.fnOf name qual params body scope dV kV doc pm an aL ct),jy]) (iG:PySem.W.codeIn K aL qual=true) (S:bJ N ps scope)
  (len:∀vs H Q E,sp vs H Q E->vs.length=ps.length)
  (fP:∀(A:Ag) (outer:List Env) (s:Ab) (H:Hp) (vs:ag) (Q:VK) (E:XK),aP k (A.deeper (envOfC qual scope s.heap.objs.size f aL))->sp vs H Q E->
   ∃t,j0 (i9 CX P w K mg base N qual scope f aL A outer s H E) body t/\t { nx:=λ_ H'=>Q .non H',rt:=Q } (start N vs) H) :
  ao P w K mg base CX (k+1) f (PySem.W.fnOf name qual params body scope dV kV doc pm an aL ct) ps sp:=by
 apply#[len,λA outer s H args us vs Q E hr e0 hb r km=>?_];let hl:=len _ _ _ _ km;have KX:K.In s.heap:=e0.mod.DS.keeps λb o e=>(e0.bs b o e).1;have lim:s.heap.NoLimit:=e0.mod.nolimit.keeps λb o e=>(e0.bs b o e).1
 have Eu:∀y∈ps.zip us,scope.names.lookup y.1\.local∨(scope.names.lookup y.1\.cell/\((cellsFrom (s.heap.objs.size+1) scope.names []).lookup y.1).isSome=true):=λ⟨n,v⟩ hy=>by
  rcases S.par n (List.of_mem_zip hy).1 with q|q
  ·exact .inl q
  exact .inr #[q,PySem.W.cellsFrom_some _ _ _ (.inl q)]
 apply codeAny_call_function hr.depth (KX _ _ lk) U S.co S.gen U (PySem.W.codeRec_of KX iG) (hb _ _ _ _ ?_);apply wpAny_newFunctionEnv_cells S.kind Eu λenv he s1 x=>?_;subst he;apply#[lim.keeps x.toInCall.keep,codeAny_func ?_];let#[t,ht,hq]:=fP A outer s H vs Q E (hr.deeper _) km;have I:Inv (i9 CX P w K mg base N qual scope f aL A outer s H E) [] (start N vs) H s1:=gm_ S hr.hd e0 hl r x;apply wpAny_mono (ht [] s1 (start N vs) H _ I hq) (λfl s' hs=>?_) λe s' hs=>hs
 have fin:∀{aZ:St} {H':Hp} {v:V} {u:Aa},Inv (i9 CX P w K mg base N qual scope f aL A outer s H E) [] aZ H' s'->RelV v u->Q v H'->CE outer P w H s Q u s':=
  λ{aZ H' v u} J rv q=>#[v,H',J.os,J.bare,J.base,J.aA,rv,q]
 cases fl with
 |ret u=>
  let#[v,aZ,H',J,rv,q]:=hs;exact fin J rv q
 |next=>
  let#[aZ,H',J,q]:=hs;exact fin (v:=V.non) (u:=Value.none) J U q
 |brk=>
  let#[_,_,_,q]:=hs;exact False.elim q
 |cont=>
  let#[_,_,_,q]:=hs;exact False.elim q
end L2
local macro_rules|`(!$f:ident $a*)=>if [`br,`ke,`bM,`ao,`j7].contains f.getId then let i:=Lean.mkIdent;`($f $(i `P) $(i `w) $(i `K) $(i `mg) $(i `base) $a*)else Lean.Macro.throwUnsupported
namespace L2
open PySem PySem.Spec PyProof.Rows
section
variable{X:Cx}{x:Str}{p pos:Pos}{e:Expr}{es:List Expr}{t:TA}{id T:String}{r:ag->Hp->VK->Prop}
def Pi(r:ag->Hp->VK->Prop)(t:TA):TE:=λσ H Q=>t σ H λvs H1=>r vs H1 Q
theorem cy(hc:gr X (.builtin id) r)(hg:Gl X x)(hm:X.mg x=none)(hv:bootBuiltins x\.builtin id)(ha:PA X (e::es) t)(hn:x≠"__name__":=by decide)(sZ:(x == ("__debug__":Str))=false:=by decide)
  (he:starEach (e::es) X.env=(false,eval e X.env)::starEach es X.env:=by rfl) (iE:(backTo pos (starEach es X.env)).any (·.1)=false:=by rfl):PE X (.Call (.Name x p) (e::es) [] pos) (Pi r t):=by
 intro pins s σ H Q I h;apply wpAny_Call_Name_kw (uV I hg hm hv ?_ hn sZ);exact PyProof.Rows.callWith_builtin1 (aO (ha pos pins s σ H _ I h) λus s1 ⟨vs,H1,I1,r1,q1⟩=>hc pins s1 σ H1 vs us Q I1 r1 q1) he iE
theorem iO(hc:gr X (.type T) r)(hg:Gl X x)(hm:X.mg x=none)(hv:bootBuiltins x\.type T)(ha:PA X (e::es) t)(hn:x≠"__name__":=by decide)(sZ:(x == ("__debug__":Str))=false:=by decide)
  (he:starEach (e::es) X.env=(false,eval e X.env)::starEach es X.env:=by rfl) (iE:(backTo pos (starEach es X.env)).any (·.1)=false:=by rfl):PE X (.Call (.Name x p) (e::es) [] pos) (Pi r t):=by
 intro pins s σ H Q I h;apply wpAny_Call_Name_kw (uV I hg hm hv ?_ hn sZ);exact AN (aO (ha pos pins s σ H _ I h) λus s1 ⟨vs,H1,I1,r1,q1⟩=>hc pins s1 σ H1 vs us Q I1 r1 q1) he iE
end
end L2
namespace HT
open PySem PyProof.Rows
section
open PySem.SeqAt
open PySem.AutoSeq1 (wpAny_loadPart')
open PySem.MeetsSeq PySem.MeetsSeq2 PySem.MeetsSeq3
end
section
variable{prog:Ad}{w:Af}{A:Ag}{E:Aa->Ab->Prop}{s:Ab}
theorem wg{t b:Addr}{vs ws:aj}{Q:Aa->Ab->Prop}(ht:IsTup s.heap t vs.toArray)(hb:IsTup s.heap b ws.toArray)(hv:vs≠[])
  (h1:ws=[]->Q (.ref t) s) (h2:ws≠[]->Q (.ref s.heap.objs.size) { s with heap:=s.heap.push { cls:=.type "tuple",data:=.seq (vs++ws).toArray } })
  (hsz:vs.length+ws.length<=sizeLine):wpAny (model prog w) A (binaryOp .Add (.ref t) (.ref b)) Q E s:=by
 let#[#[cls,dd,data,sl],ho,hc,n,hd]:=id ht;let#[#[NG,Ij,data2,Gb],eR,jq,n2,hd2]:=id hb;simp only at hc hd jq hd2;subst hc hd jq hd2;have e:vs.toArray++ws.toArray=(vs++ws).toArray:=by simp
 by_cases hw:ws=[]
 ·exact concat_meets #[_,ho,U] #[_,eR,U] noFill_tuple_add seq_tuple_add PySem.F.slot_tuple_add PySem.F.entry_tuple_add (PySem.F.args_tuple_add_2 _ _)
   (tuple_addW1 t b vs.toArray ws.toArray n n2 dd Ij sl Gb ⇑hv (by simp[hw])) #[ho,eR,h1 hw]
 apply concat_meets #[_,ho,U] #[_,eR,U] noFill_tuple_add seq_tuple_add PySem.F.slot_tuple_add PySem.F.entry_tuple_add (PySem.F.args_tuple_add_2 _ _)
  (tuple_addW2 t b vs.toArray ws.toArray n n2 dd Ij sl Gb ⇑hv ⇑hw (by rw[dh,dh];exact hsz)) #[ho,eR,?_]
 rw[e];exact h2 hw
def cO(n d:Nat):Option Int->Nat
 |none=>d
 |some v=>if v<0 then (v+(n:Int)).toNat else min v.toNat n
theorem eP(n d:Nat):cO n d none=d:=rfl
theorem dZ(n d k:Nat):cO n d (some (k:Int))=min k n:=by
 show (if (k:Int)<0 then ((k:Int)+(n:Int)).toNat else min (k:Int).toNat n)=min k n;rw[aC Z2,ym]
theorem Yc(n d:Nat)(hd:d<=n)(o:Option Int):cO n d o<=n:=by
 cases o with
 |none=>exact hd
 |some v=>
  show (if v<0 then (v+(n:Int)).toNat else min v.toNat n)<=n;by_cases hv:v<0
  ·rw[aI hv];omega
  rw[aC hv];exact Nat.min_le_right _ _
theorem Ru(v:Int)(n d:Nat):(if v<0 then max (v+(n:Int)) 0 else min v (n:Int))=((cO n d (some v):Nat):Int):=by
 show (if v<0 then max (v+(n:Int)) 0 else min v (n:Int))=(((if v<0 then (v+(n:Int)).toNat else min v.toNat n):Nat):Int);by_cases hv:v<0
 ·simp only[aI hv];omega
 simp only[aC hv];omega
theorem fF_(lo hi:Option Int)(n:Nat):Builtin.Slice.sliceAdjust lo hi 1 (n:Int)=(((cO n 0 lo:Nat):Int),((cO n n hi:Nat):Int)):=by
 have h1:¬((1:Int)<0):=by omega
 unfold Builtin.Slice.sliceAdjust;simp only[h1,if_false];apply Prod.ext ?_ ?_
 ·cases lo with
  |none=>rfl
  |some v=>exact Ru v n 0
 cases hi with
 |none=>rfl
 |some v=>exact Ru v n n
theorem fU_(i j:Nat):Builtin.Slice.slicePlaces (i:Int) (j:Int) 1=j - i:=by
 unfold Builtin.Slice.slicePlaces;have h1:(1:Int) > 0:=by omega
 simp only[h1,if_true,Int.ediv_one];split<;>omega
theorem Ta{v:Aa}{o:Option Int}{Q:Option Int->Ab->Prop}(p:IsPart v o)(h:Q o s):wpAny (model prog w) A (Builtin.Slice.slicePartIndex v) Q E s:=by
 cases p with
 |none=>exact slicePart_none h
 |int i t=>exact slicePart_int h
theorem cn_{sl:Addr}{vl vu:Aa}{lo hi:Option Int}{n:Nat}{Q:Int × Int × Nat->Ab->Prop}(hs:s.heap.IsSliceOf sl vl vu .none)(pl:IsPart vl lo)(pu:IsPart vu hi)
  (h:Q (((cO n 0 lo:Nat):Int),1,cO n n hi - cO n 0 lo) s):wpAny (model prog w) A (Builtin.Slice.sliceApplied (.ref sl) (pure (n:Int))) Q E s:=by
 let#[os,Ef,Rh,sW]:=id hs;unfold Builtin.Slice.sliceApplied Builtin.Slice.sliceFields;apply af (af (fG Ef sW (x:=vl) U (af (fG Ef sW (x:=vu) U (af (fG Ef sW (x:=.none) U (aF ?_)))))));apply af (slicePart_none ?_);show wpAny _ _ (if ((1:Int) == 0)=true then _ else _) _ _ s;rw[aC (by decide)];apply af (Ta pl (af (Ta pu (af (aF ?_)))));show wpAny _ _ (match Builtin.Slice.sliceAdjust lo hi 1 (n:Int) with|(lo,hi)=>pure (lo,(1:Int),Builtin.Slice.slicePlaces lo hi 1)) _ _ s;rw[fF_ lo hi n];show wpAny _ _ (pure (((cO n 0 lo:Nat):Int),(1:Int),Builtin.Slice.slicePlaces ((cO n 0 lo:Nat):Int) ((cO n n hi:Nat):Int) 1)) _ _ s;rw[fU_];exact aF h
theorem Z6(xs:Array Aa)(i k:Nat):((List.range k).filterMap λ(m:Nat)=>xs[((i:Int)+(m:Int) * 1).toNat]?).toArray=((xs.toList.drop i).take k).toArray:=by
 have e:(λ(m:Nat)=>xs[((i:Int)+(m:Int) * 1).toNat]?)=λm=>xs[i+m]?:=by
  funext m
  have:((i:Int)+(m:Int) * 1).toNat=i+m:=by omega
  rw[this]
 rw[e];have:=pick_run xs i k;rw[List.filterMap_map] at this;have e2:((λx=>xs[x]?) ∘ λx=>i+x)=λm=>xs[i+m]?:=rfl;rw[e2] at this;rw[this]
theorem fQ{t sl:Addr}{items:Array Aa}{vl vu:Aa}{lo hi:Option Int}{Q:Aa->Ab->Prop}(ht:IsTup s.heap t items)(hs:s.heap.IsSliceOf sl vl vu .none)(pl:IsPart vl lo)(pu:IsPart vu hi)
  (hw:¬(cO items.size 0 lo=0/\cO items.size items.size hi=items.size))
  (h:Q (.ref s.heap.objs.size) { s with heap:=s.heap.push { cls:=.type "tuple",data:=.seq ((items.toList.drop (cO items.size 0 lo)).take (cO items.size items.size hi - cO items.size 0 lo)).toArray } })
  (hsz:items.size<=sizeLine):wpAny (model prog w) A (getItem (.ref t) (.ref sl)) Q E s:=by
 have n0:sizeOk (.seq ((items.toList.drop (cO items.size 0 lo)).take (cO items.size items.size hi - cO items.size 0 lo)).toArray):=by
  show ((items.toList.drop (cO items.size 0 lo)).take (cO items.size items.size hi - cO items.size 0 lo)).toArray.size<=sizeLine;rw[dh,dM,yl,ub];omega
 have hj:cO items.size items.size hi<=items.size:=Yc _ _ (bh _) hi;let#[os,Ef,Rh,sW]:=id hs;have LP:s.TypeIs (.ref sl) "slice":=#[os,Ef,Rh];unfold getItem
 try with_reducible apply iK ?_
 first|refine af (aF ?_)|skip
 apply af (wpAny_sequenceKey ht.typeIs (by decide) ?_)
 apply af (uU (name:=Str.ofString "__getitem__") ht.typeIs PyProof.Rows.slot_tuple_getitem
  (tN PyProof.Rows.slot_tuple_getitem ht.typeIs entry_tuple_getitem ?_ (args_tuple_getitem _ _)))
 show wpAny _ _ (Builtin.Tuple.tupleItemsOf (.ref t) >>= _) _ _ s;apply af (tupleItemsOf_ ht ?_);apply af (wpAny_typeOf LP ?_);rw[aI (by decide)];apply af (cn_ hs pl pu ?_)
 have kq:¬((((cO items.size 0 lo:Nat):Int) == 0&&(1:Int) == 1&&(cO items.size items.size hi - cO items.size 0 lo) == items.size)=true):=by
  intro q;rw[Bool.and_eq_true,Bool.and_eq_true] at q;have q1:((cO items.size 0 lo:Nat):Int)=0:=eq_of_beq q.1.1;have q2:cO items.size items.size hi - cO items.size 0 lo=items.size:=eq_of_beq q.2;exact hw #[by omega,by omega]
 show wpAny _ _ (if (((cO items.size 0 lo:Nat):Int) == 0&&(1:Int) == 1&&(cO items.size items.size hi - cO items.size 0 lo) == items.size)=true then _ else _) _ _ s;rw[aC kq,Z6]
 first
  |exact af (m:=Builtin.Tuple.tupleExact _) (qa (aF ⟨_,rfl,aF h⟩) n0)
  |exact af (m:=Builtin.Tuple.tupleExact _) (qa (af (aF (aF ⟨_,rfl,aF h⟩))) n0)
  |exact af (af (m:=Builtin.Tuple.tupleExact _) (qa (aF (aF ⟨_,rfl,aF h⟩)) n0))
  |exact af (af (m:=Builtin.Tuple.tupleExact _) (qa (aF ⟨_,rfl,aF h⟩) n0))
end
end HT
namespace L2
open PySem PySem.Spec PyProof.Rows
abbrev TO:=St->Hp->(Option Int->Hp->Prop)->Prop
def PO(X:Cx)(e:Option Expr)(t:TO):Prop:=
 ∀(pins:List (Addr × Obj)) (s:Ab) (σ:St) (H:Hp) (Q:Option Int->Hp->Prop),Inv X pins σ H s->t σ H Q->
  wpAny (model X.prog X.w) X.A (evalPart e X.env) (λu s'=>∃o H',Inv X pins σ H' s'/\IsPart u o/\Q o H') X.xe s
def vp:TO:=λ_ H Q=>Q none H
inductive qB (Q:Option Int->Hp->Prop) (x:V) (H1:Hp):Prop
 |mk:∀i,x=.int i->Q (some i) H1->qB Q x H1
def CK(t:TE):TO:=λσ H Q=>t σ H λx H1=>qB Q x H1
section
variable{X:Cx}{e:Expr}{te:TE}{lo hi:Option Expr}{tl th:TO}{pos p2:Pos}
theorem A8:PO X none vp:=by
 intro pins s σ H Q I h;rw[evalPart_none];exact aF #[none,H,I,.none,h]
theorem A7(h:PE X e te):PO X (some e) (CK te):=by
 intro pins s σ H Q I hw;rw[evalPart_some];apply aO (h pins s σ H _ I hw) λu s1 ⟨x,H1,I1,r1,q1⟩=>?_;let#[i,rfl,q]:=q1;let#[t,rfl]:=r1;exact#[some i,H1,I1,.int i t,q]
def OQ(X:Cx)(r:V->Option Int->Option Int->Hp->VK->Prop):Prop:=
 ∀(pins:List (Addr × Obj)) (s:Ab) (σ:St) (H:Hp) (x:V) (v vl vu:Aa) (lo hi:Option Int) (sl:Addr) (Q:VK),Inv X pins σ H s->RelV x v->s.heap.IsSliceOf sl vl vu .none->IsPart vl lo->IsPart vu hi->r x lo hi H Q->
  ∃T id,typeLookup (.type T) "__getitem__"=pure (some (.builtin id))/\s.TypeIs v T/\wpAny (model X.prog X.w) X.A (getItem v (.ref sl)) (EP X pins σ Q) X.xe s
def Vw(r:V->Option Int->Option Int->Hp->VK->Prop)(te:TE)(tl th:TO):TE:=λσ H Q=>te σ H λx H1=>tl σ H1 λl H2=>th σ H2 λu H3=>r x l u H3 Q
theorem A1{r:V->Option Int->Option Int->Hp->VK->Prop}(hr:OQ X r)(he:PE X e te)(hl:PO X lo tl)(hu:PO X hi th):PE X (.Subscript e (.Slice lo hi none p2) pos) (Vw r te tl th):=by
 intro pins s σ H Q I h;apply Subscript_ (aO (he pins s σ H _ I h) λv s1 ⟨x,H1,I1,r1,q1⟩=>?_);apply wpAny_Slice (aO (hl pins s1 σ H1 _ I1 q1) λvl s2 ⟨l,H2,I2,pl,q2⟩=>aO (hu pins s2 σ H2 _ I2 q2) λvu s3 ⟨u,H3,I3,pu,q3⟩=>?_);rw[evalPart_none];apply aF ?_;have I4:Inv X pins σ H3 { s3 with heap:=s3.heap.push { cls:=.type "slice",data:=.fields (List.toArray [vl,vu,.none]) } }:=I3.kept (t':=s3.toks) λb ob q=>aQ _ q;let#[T,id,hT,ht,hg]:=hr pins { s3 with heap:=s3.heap.push { cls:=.type "slice",data:=.fields (List.toArray [vl,vu,.none]) } } σ H3 x v vl vu l u s3.heap.objs.size Q I4 r1 (Heap.IsSliceOf.new ..) pl pu q3;show wpAny (model X.prog X.w) X.A (subscriptTail e (.Slice lo hi none p2) v (.ref s3.heap.objs.size)) (EP X pins σ Q) X.xe { s3 with heap:=s3.heap.push { cls:=.type "slice",data:=.fields (List.toArray [vl,vu,.none]) } };exact tail_any (ops:=[.ref s3.heap.objs.size,v]) ht hT hg (by with_unfolding_all rfl)
def dQ(xs:ag)(lo hi:Option Int):ag:=(xs.drop (HT.cO xs.length 0 lo)).take (HT.cO xs.length xs.length hi - HT.cO xs.length 0 lo)
theorem Oz(xs:ag)(lo hi:Option Int):(dQ xs lo hi).length<=xs.length:=by
 unfold dQ;rw[dM,yl];omega
inductive Df (K:ai) (x:V) (lo:Option Int) (hi:Option Int) (H:Hp) (Q:VK):Prop
 |mk:∀a xs,x=.ref a->eD K H a xs->¬(HT.cO xs.length 0 lo=0/\HT.cO xs.length xs.length hi=xs.length)->(∀p,H p=none->Q (.ref p) (upd H p (.tup (dQ xs lo hi))))->Df K x lo hi H Q
theorem Hc:OQ X (Df X.K):=by
 intro pins s σ H x v vl vu lo hi sl Q I rx hs pl pu h;let#[a,xs,rfl,hx,hw,q]:=h;cases rx;let#[its,r,ht,hz]:=I.tuple hx;have hlen:its.toArray.size=xs.length:=by rw[dh];exact r.length.symm
 apply⟨"tuple",_,PyProof.Rows.slot_tuple_getitem.lookup,ht.typeIs,?_⟩;apply HT.fQ ht hs pl pu (by rw[hlen];exact hw) ?_ (by rw[hlen];exact hz);rw[hlen];apply⟨.ref s.heap.objs.size,_,I.laid (t':=s.toks) (o:=.tup (dQ xs lo hi)) (λb ob q=>aQ _ q) (bh _) ?_,rfl,q _ (I.aA.fresh (bh _))⟩;exact⟨iQ (Oz xs lo hi) hz,_,(r.drop (HT.cO xs.length 0 lo)).take (HT.cO xs.length xs.length hi - HT.cO xs.length 0 lo),IsTup.new _ _,_,cJ _ rfl,rfl⟩
theorem Vals.nU{xs:ag}{us:aj}(r:Vals xs us):us=[] ↔ xs=[]:=by
 cases r with
 |nil=>simp
 |cons _ _=>simp
end
end L2
namespace L2
open PySem PySem.Spec PyProof.Rows
def vP(n:Nat)(i:Int):Option Nat:=if 0<=i then (if i<n then some i.toNat else none) else if -(n:Int)<=i then some (i+n).toNat else none
def ip{α:Type}(xs:List α)(i:Int):Option α:=(vP xs.length i).bind λj=>xs[j]?
theorem Q9{n:Nat}{i:Int}{j:Nat}(h:vP n i\j):seqIndex? i n\j/\j<n/\-(n:Int)<=i/\i<n:=by
 unfold vP at h;by_cases h0:0<=i
 ·rw[aI h0] at h;by_cases h1:i<n
  ·rw[aI h1] at h;have e:i.toNat=j:=cX h;exact#[by rw[seqIndex_of h0 h1,e],by omega,by omega,h1]
  rw[aC h1] at h;cases h
 rw[aC h0] at h;by_cases h1:-(n:Int)<=i
 ·rw[aI h1] at h;have e:(i+n).toNat=j:=cX h;exact#[by rw[seqIndex_neg Z2 h1,e],by omega,h1,by omega]
 rw[aC h1] at h;cases h
theorem ME{α:Type}{xs:List α}{i:Int}{v:α}(h:ip xs i\v):∃j,seqIndex? i xs.length\j/\xs[j]? = some v/\j<xs.length/\-(xs.length:Int)<=i/\i<xs.length:=by
 unfold ip at h;cases e:vP xs.length i with
 |none=>rw[e] at h;cases h
 |some j=>
  rw[e] at h;let#[h1,h2,h3,h4]:=Q9 e;exact#[j,h1,h,h2,h3,h4]
theorem dS{α:Type}{xs:List α}{j:Nat}{v:α}(h:xs[j]? = some v):ip xs (j:Int)\v:=by
 have hj:j<xs.length:=(bX.mp h).1
 have e:vP xs.length (j:Int)\j:=by
  unfold vP;rw[aI Z2,aI Z2];simp
 unfold ip;rw[e];exact h
def wL(b:Expr):Prop:=∀o i,subscripted b false o i=operate [o,i] (getItem o i)
def Ce(X:Cx)(r:R2):Prop:=
 ∀(value slice:Expr) (pins:List (Addr × Obj)) (s:Ab) (σ:St) (H:Hp) (x y:V) (v u:Aa) (Q:VK),Inv X pins σ H s->RelV x v->RelV y u->r x y H Q->
  subscripted slice false v u=operate [v,u] (getItem v u)->wpAny (model X.prog X.w) X.A (subscriptTail value slice v u) (EP X pins σ Q) X.xe s
def UE(X:Cx)(id:String)(r:V->ag->Hp->VK->Prop):Prop:=
 ∀(pins:List (Addr × Obj)) (s:Ab) (σ:St) (H:Hp) (x:V) (xs:ag) (v:Aa) (us:aj) (Q:VK),Inv X pins σ H s->RelV x v->Vals xs us->r x xs H Q->
  wpAny (model X.prog X.w) X.A (call (.builtin id) (v::us)) (EP X pins σ Q) X.xe s
section
variable{X:Cx}{a b:Expr}{ta tb:TE}{pos:Pos}
theorem bw{r:R2}(hr:Ce X r)(ha:PE X a ta)(hb:PE X b tb)(hs:wL b:=by exact λ_ _=>rfl):PE X (.Subscript a b pos) (F6 r ta tb):=by
 intro pins s σ H Q I h;exact Subscript_ (A2 ha hb I h λv u s2 x y H2 I2 rx ry q=>hr a b pins s2 σ H2 x y v u Q I2 rx ry q (hs _ _))
inductive r_ (K:ai) (x:V) (y:V) (H:Hp) (Q:VK):Prop
 |mk:∀p xs i v,x=.ref p->y=.int i->dU K H p xs->ip xs i\v->Q v H->r_ K x y H Q
inductive oS (K:ai) (x:V) (y:V) (H:Hp) (Q:VK):Prop
 |mk:∀p xs i v,x=.ref p->y=.int i->eD K H p xs->ip xs i\v->Q v H->oS K x y H Q
inductive Dh (x:V) (y:V) (H:Hp) (Q:VK):Prop
 |mk:∀z i c,x=.str z->y=.int i->z.length<=sizeLine->ip z.cps.toList i\c->Q (.str ⟨(List.toArray [c])⟩) H->Dh x y H Q
theorem gd:Ce X (r_ X.K):=by
 intro value slice pins s σ H x y v u Q I rx ry h hs;let#[p,xs,i,z,rfl,rfl,hq,he,q]:=h;cases rx;let#[t,rfl]:=ry;let#[its,r,pl,hz]:=I.list hq;let#[j,h1,h2,h3,h4,h5]:=ME he;let#[w,ew,ig]:=r.get h2;let hl:=r.length;let hn:=gm;have fin:EP X pins σ Q w s:=⟨z,H,I,ig,q⟩;by_cases h0:0<=i
 ·have hj:i.toNat=j:=by
   rw[seqIndex_of h0 h5] at h1;exact cX h1
  exact item_listR pl.isList h0 Z2 (by rw[hj];simpa using ew) fin hs
 have hj:(i+(its.toArray.size:Int)).toNat=j:=by
  rw[seqIndex_neg Z2 h4] at h1;rw[dh,<- hl];exact cX h1
 exact subscriptTail_builtinR (x:=w) pl.isList.typeIs slot_list_getitem.lookup
  (wpAny_getItem_list_neg (Q:=λr s'=>r=w/\EP X pins σ Q r s') pl.isList Z2 (by rw[dh]<;>omega) Z2 (by rw[hj];simpa using ew) ⟨rfl,fin⟩) hs
theorem cU:Ce X (oS X.K):=by
 intro value slice pins s σ H x y v u Q I rx ry h hs;let#[p,xs,i,z,rfl,rfl,hq,he,q]:=h;cases rx;let#[t,rfl]:=ry;let#[its,r,pl,hz]:=I.tuple hq;let#[j,h1,h2,h3,h4,h5]:=ME he;let#[w,ew,ig]:=r.get h2;let hl:=r.length;let hn:=gm;have fin:EP X pins σ Q w s:=⟨z,H,I,ig,q⟩
 exact subscriptTail_builtinR (x:=w) pl.typeIs slot_tuple_getitem.lookup
  (getItem_tuple (j:=j) (Q:=λr s'=>r=w/\EP X pins σ Q r s') pl Z2 Z2 (by rw[dh,<- hl];exact h1) ⇑ew ⟨rfl,fin⟩) hs
theorem Yf:Ce X Dh:=by
 intro value slice pins s σ H x y v u Q I rx ry h hs;let#[z,i,c,rfl,rfl,hz,he,q]:=h;let#[t,rfl]:=rx;let#[t',rfl]:=ry;let#[j,h1,h2,h3,h4,h5]:=ME he;have hl:z.cps.toList.length=z.length:=by simp[Str.length]
 rw[hl] at h1 h4 h5;let hn:=gm
 exact tail_any (typeIs_str s z t) slot_str_getitem.lookup (getItem_str (c:=c) (by
  have e1:decide (i < -(2 ^ 63:Int))=false:=ft Z2;have e2:decide (i ≥ 2 ^ 63)=false:=ft Z2;rw[e1,e2,Bool.or_false]) (by rw[h1];simpa using h2) ⟨.str ⟨(List.toArray [c])⟩,H,I.tok _,⟨_,rfl⟩,q⟩) hs
theorem fs_(its:aj)(n j:Nat)(u:Aa):Obj.mapSeq (·.setIfInBounds j u) { cls:=.type "list",data:=.seq its.toArray n }={ cls:=.type "list",data:=.seq (its.set j u).toArray n }:=by
 simp[Obj.mapSeq]
theorem Inv.lst{pins:List (Addr × Obj)}{σ:St}{H:Hp}{s:Ab}{p:Addr}{xs:ag}(I:Inv X pins σ H s)(h:H p\.lst xs) :
  ∃(its:aj) (n:Nat),Vals xs its/\s.heap.get? p=some { cls:=.type "list",data:=.seq its.toArray n }/\xs.length<=sizeLine:=by
 let#[z,its,n,r,e]:=I.aA p _ h;exact⟨its,n,r,e,z⟩
theorem Inv.zA{pins:List (Addr × Obj)}{σ:St}{H:Hp}{s:Ab}{p:Addr}{xs ys:ag}{its its':aj}{n n':Nat}{f:Obj->Obj}(I:Inv X pins σ H s)(h:H p\.lst xs)
  (ho:s.heap.get? p=some { cls:=.type "list",data:=.seq its.toArray n }) (hf:f { cls:=.type "list",data:=.seq its.toArray n }={ cls:=.type "list",data:=.seq its'.toArray n' }) (r:Vals ys its') (hz:ys.length<=sizeLine) (t:Nat) :
  Inv X pins σ (upd H p (.lst ys)) { s with heap:=s.heap.update p f,toks:=t }:=by
 have e:(s.heap.update p f).get? p=some { cls:=.type "list",data:=.seq its'.toArray n' }:=by
  rw[Heap.get?_update_self f ho (by rw[hf]<;>rfl),hf]
 apply I.write (x:=p) (e:=p) (by rw[h];trivial) (.inl rfl) (λb u hb q=>(uO _ _ (bN hb)).trans q) ⟨_,e⟩ ?_;exact⟨hz,its',n',r,e⟩
inductive xh (o:V) (i:V) (v:V) (H:Hp) (Q:Hp->Prop):Prop
 |mk:∀p xs k j,o=.ref p->i=.int k->H p\.lst xs->vP xs.length k\j->Q (upd H p (.lst (xs.set j v)))->xh o i v H Q
theorem SV:FP X xh:=by
 intro pins s σ H o i v ov iv u Q I ro ri rv h;let#[p,xs,k,j,rfl,rfl,hp,hj,q]:=h;cases ro;let#[t,rfl]:=ri;let#[its,n,r,ho,hz]:=I.lst hp;let#[h1,h2,h3,h4]:=Q9 hj;let hl:=r.length;let hn:=gm
 have I':Inv X pins σ (upd H p (.lst (xs.set j v))) { s with heap:=s.heap.update p (Obj.mapSeq (·.setIfInBounds j u)) }:=
  I.zA hp ho (fs_ its n j u) (r.set rv j) (by rw[List.length_set];exact hz) s.toks
 by_cases h0:0<=k
 ·have hk:k.toNat=j:=by
   rw[seqIndex_of h0 h4] at h1;exact cX h1
  exact PySem.W.ki_setAt ho h0 Z2 (by rw[dh,<- hl];exact h4) (by rw[hk];exact⟨_,I',q⟩)
 have hk:(k+(its.toArray.size:Int)).toNat=j:=by
  rw[seqIndex_neg Z2 h3] at h1;rw[dh,<- hl];exact cX h1
 exact PySem.W.ki_setBack ho Z2 (by rw[dh,<- hl];exact h3) Z2 (by rw[hk];exact⟨_,I',q⟩)
theorem dO_(lo hi:Option Int)(n:Nat):(sliceBounds lo hi none n).1=((HT.cO n 0 lo:Nat):Int)/\(sliceBounds lo hi none n).2.1=((HT.cO n n hi:Nat):Int)/\(sliceBounds lo hi none n).2.2=1:=by
 apply⟨?_,?_,rfl⟩
 ·cases lo with
  |none=>simp[sliceBounds,HT.cO]
  |some i=>
   simp only[sliceBounds,HT.cO,Option.getD_none,show (1:Int) > 0 by decide,if_true];by_cases h:i<0
   ·simp only[h,if_true]<;>omega
   simp only[h,if_false]<;>omega
 cases hi with
 |none=>simp[sliceBounds,HT.cO]
 |some i=>
  simp only[sliceBounds,HT.cO,Option.getD_none,show (1:Int) > 0 by decide,if_true];by_cases h:i<0
  ·simp only[h,if_true]<;>omega
  simp only[h,if_false]<;>omega
theorem dC_(its:aj)(lo hi:Option Int):slicePick its.toArray lo hi none=((its.drop (HT.cO its.length 0 lo)).take (HT.cO its.length its.length hi - HT.cO its.length 0 lo)).toArray:=by
 let#[h1,h2,h3]:=dO_ lo hi its.toArray.size;unfold slicePick;rw[h1,h2,h3];simp only[sliceRange_one,pick_run,dh]<;>rfl
inductive Dg (K:ai) (x:V) (lo:Option Int) (hi:Option Int) (H:Hp) (Q:VK):Prop
 |mk:∀a xs,x=.ref a->dU K H a xs->(∀p,H p=none->Q (.ref p) (upd H p (.lst (dQ xs lo hi))))->Dg K x lo hi H Q
theorem Mz:OQ X (Dg X.K):=by
 intro pins s σ H x v vl vu lo hi sl Q I rx hs pl pu h;let#[a,xs,rfl,hx,q]:=h;cases rx;let#[its,r,ht,hz]:=I.list hx;let hlen:=r.length;apply⟨"list",_,slot_list_getitem.lookup,ht.isList.typeIs,?_⟩;apply wpAny_getItem_list_slice ht.isList hs pl pu .none Y0 ?_ (by rw[dh]<;>omega)
 rw[dC_,<- hlen];apply⟨.ref s.heap.objs.size,_,I.laid (t':=s.toks) (o:=.lst (dQ xs lo hi)) (λb ob q=>aQ _ q) (bh _) ?_,rfl,q _ (I.aA.fresh (bh _))⟩;exact⟨iQ (Oz xs lo hi) hz,_,0,(r.drop (HT.cO xs.length 0 lo)).take (HT.cO xs.length xs.length hi - HT.cO xs.length 0 lo),cJ _ rfl⟩
def tE:V->Bool
 |.non=>true
 |.bl _=>true
 |.int _=>true
 |.str _=>true
 |_=>false
def Mx:V->V->Bool
 |.non,.non=>true
 |.bl a,.bl b=>a == b
 |.bl a,.int b=>(if a then 1 else 0) == b
 |.int a,.bl b=>a == (if b then 1 else 0)
 |.int a,.int b=>a == b
 |.str a,.str b=>a == b
 |_,_=>false
theorem Qr{A:Ag}{s:Ab}{y x:V}{u v:Aa}(ry:RelV y u)(rx:RelV x v)(fy:tE y=true)(fx:tE x=true):SeqAt.EqAt A s u v (Mx y x):=by
 cases y with
 |non=>
  cases ry;cases x with
  |non=>cases rx;exact SeqAt.EqAt.same _
  |bl b=>cases rx;exact SeqAt.EqAt.none_bool b
  |int b=>let#[t,rfl]:=rx;exact SeqAt.EqAt.none_int b t
  |str b=>let#[t,rfl]:=rx;exact SeqAt.EqAt.none_str b t
  |_=>exact absurd (show false=true from fx) gN
 |bl a=>
  cases ry;cases x with
  |non=>cases rx;exact SeqAt.EqAt.bool_none a
  |bl b=>cases rx;exact SeqAt.EqAt.bool_bool a b
  |int b=>let#[t,rfl]:=rx;exact SeqAt.EqAt.bool_int a b t
  |str b=>let#[t,rfl]:=rx;exact SeqAt.EqAt.bool_str a b t
  |_=>exact absurd (show false=true from fx) gN
 |int a=>
  let#[t',rfl]:=ry;cases x with
  |non=>cases rx;exact SeqAt.EqAt.int_none a t'
  |bl b=>cases rx;exact SeqAt.EqAt.int_bool a t' b
  |int b=>let#[t,rfl]:=rx;exact SeqAt.EqAt.int_int a t' b t
  |str b=>let#[t,rfl]:=rx;exact SeqAt.EqAt.int_str a t' b t
  |_=>exact absurd (show false=true from fx) gN
 |str a=>
  let#[t',rfl]:=ry;cases x with
  |non=>cases rx;exact SeqAt.EqAt.str_none a t'
  |bl b=>cases rx;exact SeqAt.EqAt.str_bool a t' b
  |int b=>let#[t,rfl]:=rx;exact SeqAt.EqAt.str_int a t' b t
  |str b=>let#[t,rfl]:=rx;exact SeqAt.EqAt.str_str a t' b t
  |_=>exact absurd (show false=true from fx) gN
 |_=>exact absurd (show false=true from fy) gN
inductive OB (K:ai) (xs:ag) (H:Hp) (Q:VK):Prop
 |mk:∀p ys,xs=[.ref p]->(dU K H p ys∨eD K H p ys)->Q (.int ys.length) H->OB K xs H Q
theorem iq:gr X (.builtin "len") (OB X.K):=by
 intro pins s σ H xs us Q I r h;let#[p,ys,rfl,hq,q]:=h;let#[u,rfl,rx]:=vals1 r;cases rx;let hn:=gm;rcases hq with hq|hq
 ·let#[its,r',pl,hz]:=I.list hq;let hlen:=r'.length;exact Calls.call_len_list pl.isList (by simp only[dh]<;>omega) ⟨.int ys.length,H,I.tok _,⟨s.toks+1,by rw[dh,hlen]⟩,q⟩
 let#[its,r',pl,hz]:=I.tuple hq;let hlen:=r'.length;exact len_tuple pl (by simp only[dh]<;>omega) ⟨.int ys.length,H,I.tok _,⟨s.toks+1,by rw[dh,hlen]⟩,q⟩
inductive Uw (xs:ag) (H:Hp) (Q:VK):Prop
 |mk:∀z,xs=[.str z]->z.length<=sizeLine->Q (.int z.length) H->Uw xs H Q
theorem dY_:gr X (.builtin "len") Uw:=by
 intro pins s σ H xs us Q I r h;let#[z,rfl,hz,q]:=h;let#[u,rfl,t,rfl]:=vals1 r;let hn:=gm;exact len_str Z2 ⟨.int z.length,H,I.tok _,⟨_,rfl⟩,q⟩
inductive Ut (K:ai) (xs:ag) (H:Hp) (Q:VK):Prop
 |mk:∀p ys,xs=[.ref p]->(dU K H p ys∨eD K H p ys)->(∀l,H l=none->Q (.ref l) (upd H l (.lst ys)))->Ut K xs H Q
theorem eg_:gr X (.type "list") (Ut X.K):=by
 intro pins s σ H xs us Q I r h;let#[p,ys,rfl,hq,q]:=h;let#[u,rfl,rx]:=vals1 r;cases rx
 have fin:∀(its:aj),Vals ys its->ys.length<=sizeLine->∀(h':Heap) (c':Nat),(∀b o',s.heap.get? b\o'->h'.get? b\o')->
   h'.get? s.heap.objs.size=some { cls:=.type "list",dict:=none,data:=.seq its.toArray c',slots:=#[] }->EP X pins σ Q (.ref s.heap.objs.size) { s with heap:=h' }:=λits r' hz h' c' kp e=>
  #[.ref s.heap.objs.size,_,I.laid (t':=s.toks) kp (bh _) (show fj X.prog X.w _ h' _ (.lst ys) from #[hz,its,c',r',e]),U,q _ (I.aA.fresh (bh _))]
 rcases hq with hq|hq
 ·let#[its,r',pl,hz]:=I.list hq;let hlen:=r'.length;let#[o,ho,hc,n,hd]:=pl.isList;exact call_list_seq p (.inl U) ho hc hd (λh' c' kp e=>fin its r' hz h' c' kp e) (by simp only[dh]<;>omega)
 let#[its,r',pl,hz]:=I.tuple hq;let hlen:=r'.length;let#[o,ho,hc,n,hd]:=pl;exact call_list_seq p (.inr U) ho hc hd (λh' c' kp e=>fin its r' hz h' c' kp e) (by simp only[dh]<;>omega)
inductive Ur (K:ai) (xs:ag) (H:Hp) (Q:VK):Prop
 |mk:∀p ys,xs=[.ref p]->((dU K H p ys/\∀l,H l=none->Q (.ref l) (upd H l (.tup ys)))∨(eD K H p ys/\Q (.ref p) H))->Ur K xs H Q
theorem IY:gr X (.type "tuple") (Ur X.K):=by
 intro pins s σ H xs us Q I r h;let#[p,ys,rfl,h]:=h;let#[u,rfl,rx]:=vals1 r;cases rx;rcases h with⟨hq,q⟩|⟨hq,q⟩
 ·let#[its,r',pl,hz]:=I.list hq;let hlen:=r'.length;apply call_tuple_list pl.isList (λh' kp=>?_) (by simp only[dh]<;>omega)
  have I1:Inv X pins σ H { s with heap:=h' }:=I.kept (t':=s.toks) kp
  have I2:Inv X pins σ (upd H h'.objs.size (.tup ys)) { s with heap:=h'.push { cls:=.type "tuple",data:=.seq its.toArray } }:=
   I1.laid (t':=s.toks) (λb o e=>aQ _ e) (bh _) (show fj X.prog X.w _ _ _ (.tup ys) from ⟨hz,its,r',IsTup.new _ _,_,cJ _ rfl,rfl⟩)
  exact⟨.ref h'.objs.size,_,I2,rfl,q _ (I1.aA.fresh (bh _))⟩
 let#[its,r',pl,hz]:=I.tuple hq;exact call_tuple_same pl ⟨.ref p,H,I,rfl,q⟩
def JB(K:ai)(T:String)(x:V)(H:Hp):Prop:=match x with
 |.str _=>T="str"
 |.int _=>T="int"
 |.ref p=>(T="list"/\∃xs,dU K H p xs)∨(T="tuple"/\∃o,K.lookup p\o/\o.cls=.type "tuple"/\o.dict=none) ∨
   (T="dict"/\((∃kvs,H p\.dK kvs)∨∃kvs,H p\.dT kvs))∨(T="set"/\∃S n,H p\.set S n)
 |_=>False
theorem QE{pins:List (Addr × Obj)}{σ:St}{H:Hp}{s:Ab}{T:String}{x:V}{v:Aa}(I:Inv X pins σ H s)(r:RelV x v)(ty:JB X.K T x H) :
  s.TypeIs v T/\∀a,v=.ref a->∃ob,s.heap.get? a\ob/\ob.dict=none:=by
 cases x with
 |str z=>
  let#[t,rfl]:=r;cases (show T="str" from ty);exact#[typeIs_str s z t,λ_ e=>nomatch e]
 |int i=>
  let#[t,rfl]:=r;cases (show T="int" from ty);exact#[typeIs_int s i t,λ_ e=>nomatch e]
 |ref p=>
  cases r;rcases ty with⟨rfl,xs,hq⟩|⟨rfl,o,hk,hc,hd⟩|⟨rfl,hk⟩|⟨rfl,S,n,hk⟩
  ·let#[its,_,pl,_]:=I.list hq;apply#[pl.isList.typeIs,λa e=>?_];cases e;let#[o,n,e,c,hd,_]:=pl;exact#[o,e,hd]
  ·apply#[#[o,I.gJ p o hk,hc],λa e=>?_];cases e;exact#[o,I.gJ _ o hk,hd]
  ·have z:∃o,s.heap.get? p\o/\o.ExactDict:=by
    rcases hk with⟨kvs,hk⟩|⟨kvs,hk⟩
    ·let#[_,_,_,_,o,_,_,e,ex,_]:=I.aA p _ hk;exact#[o,e,ex]
    let#[_,_,_,_,o,_,_,e,ex,_]:=I.aA p _ hk;exact#[o,e,ex]
   let#[o,e,ex]:=z;apply#[#[o,e,ex.1],λa e2=>?_];cases e2;exact#[o,e,ex.2.1]
  ·let#[o,_,_,_,e,ex,_]:=I.aA p _ hk;apply#[#[o,e,ex.1],λa e2=>?_];cases e2;exact#[o,e,ex.2.1]
 |_=>exact False.elim ty
def JS(K:ai)(T:String)(r:V->ag->Hp->VK->Prop)(to:TE):TE:=λσ H Q=>to σ H λx H1=>JB K T x H1/\r x [] H1 Q
def Vz(K:ai)(T:String)(r:V->ag->Hp->VK->Prop)(to:TE)(t:TA):TE:=λσ H Q=>to σ H λx H1=>JB K T x H1/\t σ H1 λxs H2=>r x xs H2 Q
variable{o e:Expr}{es:List Expr}{to:TE}{t:TA}{name:Str}{apos bW:Pos}{T id:String}{r:V->ag->Hp->VK->Prop}
theorem X9(pa:PlainAttrs T)(slot:Slot T name id)(KZ:typeOf (.builtin id)=pure (.type "method_descriptor"))(hm:UE X id r)(ho:PE X o to)
  (hW:attributeBase o name X.env (eval o X.env)=eval o X.env:=by rfl) (hJ:(apos.endLine == bW.line)=true:=by rfl):PE X (.Call (.Attribute o name apos) [] [] bW) (JS X.K T r to):=by
 intro pins s σ H Q I h;apply wpAny_Call_method0_late hW hJ (aO (ho pins s σ H _ I h) λv s1 ⟨x,H1,I1,r1,ty,q1⟩=>?_);let#[h1,h2]:=QE I1 r1 ty;exact#[T,id,pa,slot,KZ,h1,h2,Calls.callWith_builtin U (PySem.evalArgs_none (hm pins s1 σ H1 x [] v [] Q I1 r1 .nil q1))]
theorem pf(pa:PlainAttrs T)(slot:Slot T name id)(KZ:typeOf (.builtin id)=pure (.type "method_descriptor"))(hm:UE X id r)(ho:PE X o to)(ha:PA X (e::es) t)
  (hW:attributeBase o name X.env (eval o X.env)=eval o X.env:=by rfl)
  (Ly:((backTo bW (starEach (e::es) X.env)).all (λx=>!x.1)&&(backToKw bW (keywordEach [] X.env)).all (λx=>x.1.isSome)
   && decide ((e::es).length+([]:List Keyword).length+(if ([]:List Keyword).isEmpty then 0 else 1)<30))=true:=by rfl)
  (hJ:(apos.endLine == bW.line)=true:=by rfl) (hs:starEach (e::es) X.env=(false,eval e X.env)::starEach es X.env:=by rfl) (zQ:(backTo bW (starEach es X.env)).any (·.1)=false:=by rfl) :
  PE X (.Call (.Attribute o name apos) (e::es) [] bW) (Vz X.K T r to t):=by
 intro pins s σ H Q I h;apply wpAny_Call_method_late hW Ly hJ U (aO (ho pins s σ H _ I h) λv s1 ⟨x,H1,I1,r1,ty,q1⟩=>?_);let#[h1,h2]:=QE I1 r1 ty;apply#[T,id,pa,slot,KZ,h1,h2,?_];let hA:=ha bW pins s1 σ H1 _ I1 q1;rw[hs] at hA ⊢;apply Calls.callWith_builtin (by show (false || (backTo bW (starEach es X.env)).any (·.1))=false;rw[zQ]<;>rfl) (Calls.evalArgs_plain ?_)
 exact aO hA λus s2 ⟨vs,H2,I2,r2,q2⟩=>hm pins s2 σ H2 x vs v us Q I2 r1 r2 q2
end
end L2
namespace L2
open PySem PySem.Spec PyProof.Rows
def Jk(X:Cx)(id:String)(r:V->ag->Hp->VK->Prop):Prop:=
 ∀(pins:List (Addr × Obj)) (s:Ab) (σ:St) (H:Hp) (x:V) (xs:ag) (v:Aa) (us:aj) (Q:VK),Inv X pins σ H s->RelV x v->Vals xs us->r x xs H Q->
  wpAny (model X.prog X.w) X.A (call (.builtin id) (v::us)) (EP X pins σ Q) X.xe s
theorem Vals.one:∀{x:V} {us:aj},Vals [x] us->∃u,us=[u]/\RelV x u
 |_,_,.cons r .nil=>#[_,U,r]
theorem Vals.two:∀{x y:V} {us:aj},Vals [x,y] us->∃u v,us=[u,v]/\RelV x u/\RelV y v
 |_,_,_,.cons r (.cons q .nil)=>#[_,_,U,r,q]
theorem Vals.zero:∀{us:aj},Vals [] us->us=[]
 |_,.nil=>rfl
theorem Vals.reverse{xs:ag}{us:aj}(h:Vals xs us):Vals xs.reverse us.reverse:=by
 induction h with
 |nil=>exact .nil
 |cons r t ih=>rw[List.reverse_cons,List.reverse_cons];exact Vals.append ih (.cons r .nil)
section
variable{X:Cx}{pins:List (Addr × Obj)}{σ:St}{H:Hp}{s:Ab}{l b:Addr}{xs ys zs:ag}
theorem Inv.vM{its its':aj}{n:Nat}{f:Array Aa->Array Aa}{t':Nat}(I:Inv X pins σ H s)(hH:H l\.lst xs)
  (e:s.heap.get? l=some { cls:=.type "list",data:=.seq its.toArray n }) (hf:f its.toArray=its'.toArray) (hv:Vals ys its') (hz:ys.length<=sizeLine) :
  Inv X pins σ (upd H l (.lst ys)) { s with heap:=s.heap.update l (Obj.mapSeq f),toks:=t' }:=by
 let q:=PySem.IsL.update e f;rw[hf] at q;apply I.write (x:=l) (e:=l) (by rw[hH];exact trivial) (.inl U) (λb' u hb hu=>(uO s.heap (Obj.mapSeq f) (bN hb)).trans hu) #[_,q] ?_;exact#[hz,its',_,hv,q]
theorem Inv.zB{its:aj}{t':Nat}(I:Inv X pins σ H s)(hv:Vals ys its)(hz:ys.length<=sizeLine) :
  Inv X pins σ (upd H s.heap.objs.size (.lst ys)) { s with heap:=s.heap.push { cls:=.type "list",data:=.seq its.toArray },toks:=t' }:=
 I.laid (λ_ _ q=>aQ _ q) (bh _) #[hz,its,0,hv,cJ _ U]
theorem Inv.fresh(I:Inv X pins σ H s):H s.heap.objs.size=none:=I.aA.fresh (bh _)
theorem Inv.i5(I:Inv X pins σ H s)(hH:H l\.lst xs):xs.length<=sizeLine/\∃(its:aj) (n:Nat),Vals xs its/\xs.length=its.length/\s.heap.get? l=some { cls:=.type "list",data:=.seq its.toArray n }:=by
 let#[z,its,n,r,e]:=I.aA l _ hH;exact#[z,its,n,r,r.length,e]
theorem se{n:Nat}(h:n<=sizeLine):Builtin.List.listTooLong n=false:=by
 unfold Builtin.List.listTooLong;exact ft Z2
end
section
variable{X:Cx}
inductive nM (x:V) (vs:ag) (H:Hp) (Q:VK):Prop
 |mk:∀l xs y,x=.ref l->vs=[y]->H l\.lst xs->xs.length<sizeLine->Q .non (upd H l (.lst (xs++[y])))->nM x vs H Q
theorem wD:Jk X "list.append" nM:=by
 intro pins s σ H x vs v us Q I rx rv h;let#[l,xs,y,rfl,rfl,hH,hz,q]:=h;cases rx;let#[u,rfl,ru]:=rv.one;let#[z,its,n,r,hl,e]:=I.i5 hH;apply call_meets F.slot_list_append ⟨_,e,rfl⟩ F.entry_list_append (F.args_list_append_2 _ _) (PySem.list_append l its.toArray n u (by rw[dh];omega)) ⟨e,?_⟩;apply⟨.non,_,I.vM (its':=its++[u]) hH e Y0 (r.append (.cons ru .nil)) ?_,rfl,q⟩;rw[d5,jV];omega
inductive nK (x:V) (vs:ag) (H:Hp) (Q:VK):Prop
 |mk:∀l b xs zs,x=.ref l->vs=[.ref b]->H l\.lst xs->H b\.lst zs->xs.length+zs.length<=sizeLine->Q .non (upd H l (.lst (xs++zs)))->nK x vs H Q
theorem _k:Jk X "list.extend" nK:=by
 intro pins s σ H x vs v us Q I rx rv h;let#[l,b,xs,zs,rfl,rfl,hH,hB,hz,q]:=h;cases rx;let#[u,rfl,ru]:=rv.one;cases ru;let#[z,its,n,r,hl,e]:=I.i5 hH;let#[z2,iC,n2,r2,jo,e2]:=I.i5 hB;have hsz:its.toArray.size+iC.toArray.size<=sizeLine:=by rw[dh,dh];omega
 have En:¬(!its.toArray.isEmpty&&Builtin.List.listTooLong (its.toArray.size+iC.toArray.size))=true:=by
  rw[se hsz,Bool.and_false];exact gN
 apply call_meets F.slot_list_extend ⟨_,e,rfl⟩ F.entry_list_extend (F.args_list_extend_2 _ _)
  (AutoSeq1.list_extend_list_list_0 l its.toArray n b iC.toArray n2 En (by rw[dh];omega) Z2) ⟨e,e2,?_⟩
 apply⟨.non,_,I.vM (its':=its++iC) hH e Y0 (r.append r2) ?_,rfl,q⟩;rw[d5];omega
inductive Sw (x:V) (vs:ag) (H:Hp) (Q:VK):Prop
 |mk:∀l xs,x=.ref l->vs=[]->H l\.lst xs->Q .non (upd H l (.lst xs.reverse))->Sw x vs H Q
theorem fK_:Jk X "list.reverse" Sw:=by
 intro pins s σ H x vs v us Q I rx rv h;let#[l,xs,rfl,rfl,hH,q]:=h;cases rx;let _q:=rv.zero;subst _q;let#[z,its,n,r,hl,e]:=I.i5 hH;apply call_meets F.slot_list_reverse ⟨_,e,rfl⟩ F.entry_list_reverse (F.args_list_reverse_1 _) (AutoSeq1.list_reverse_list_0 l its.toArray n (by rw[dh];omega)) ⟨e,?_⟩;apply⟨.non,_,I.vM (its':=its.reverse) hH e Y0 r.reverse ?_,rfl,q⟩;rw[List.length_reverse];omega
inductive Dj (x:V) (y:V) (H:Hp) (Q:VK):Prop
 |mk:∀l b xs zs,x=.ref l->y=.ref b->H l\.lst xs->H b\.lst zs->xs.length+zs.length<=sizeLine->(∀p,H p=none->Q (.ref p) (upd H p (.lst (xs++zs))))->Dj x y H Q
theorem Yh:d_ X (binaryOp .Add) Dj:=by
 intro pins s σ H x y v u Q I rx ry h;let#[l,b,xs,zs,rfl,rfl,hH,hB,hz,q]:=h;cases rx;cases ry;let#[z,its,n,r,hl,e]:=I.i5 hH;let#[z2,iC,n2,r2,jo,e2]:=I.i5 hB;apply PySem.P.add_list e e2 ?_ (by rw[dh,dh];omega);have ea:its.toArray++iC.toArray=(its++iC).toArray:=by simp
 rw[ea];exact⟨.ref _,_,I.zB (t':=s.toks) (r.append r2) (by rw[d5];omega),rfl,q _ I.fresh⟩
end
section
variable{prog:Ad}{w:Af}{A:Ag}{E:Aa->Ab->Prop}{s:Ab}
end
section
variable{X:Cx}
end
end L2
namespace L2
open PySem PySem.Spec PyProof.Rows
section
variable{κ:Type}[DecidableEq κ]
def aU(kvs:List (κ × V))(k:κ):aE:=(kvs.find? λkv=>decide (kv.1=k)).map (·.2)
def putK(kvs:List (κ × V))(k:κ)(v:V):List (κ × V):=
 if (kvs.any λkv=>decide (kv.1=k))=true then kvs.map (λkv=>if kv.1=k then (kv.1,v) else kv) else kvs++[(k,v)]
theorem x_{p:κ × V}{r:List (κ × V)}{k:κ}(e:p.1=k):aU (p::r) k\p.2:=by simp[aU,yk,e]
theorem x8{p:κ × V}{r:List (κ × V)}{k:κ}(e:¬p.1=k):aU (p::r) k=aU r k:=by simp[aU,yk,e]
theorem B7(k:κ):∀kvs:List (κ × V),(kvs.any λkv=>decide (kv.1=k))=(aU kvs k).isSome
 |[]=>rfl
 |p::r=>by
  rw[List.any_cons];by_cases e:p.1=k
  ·simp only[x_ e,cw e,Bool.true_or,Option.isSome_some]
  rw[x8 e,ft e,Bool.false_or];exact B7 k r
theorem IU(kvs:List (κ × V))(k:κ)(v:V):(putK kvs k v).length<=kvs.length+1:=by
 unfold putK;split
 ·rw[av];omega
 rw[d5,iR,List.length_nil];omega
theorem wz{kvs:List (κ × V)}{k:κ}(v:V)(h:aU kvs k=none):putK kvs k v=kvs++[(k,v)]:=by
 unfold putK;rw[B7,h];exact aC (by decide)
theorem eI.dP{o:aE}{u:Option Aa}(r:eI o u):o.isSome=u.isSome:=by
 cases o with
 |none=>cases u with
  |none=>rfl
  |some _=>exact (show False from r).elim
 |some _=>cases u with
  |none=>exact (show False from r).elim
  |some _=>rfl
theorem eI.getD{o:aE}{u:Option Aa}{d:V}{d':Aa}(r:eI o u)(rd:RelV d d'):RelV (o.getD d) (u.getD d'):=by
 cases o with
 |none=>cases u with
  |none=>exact rd
  |some _=>exact (show False from r).elim
 |some _=>cases u with
  |none=>exact (show False from r).elim
  |some _=>exact r
theorem KV.val{kvs:List (κ × V)}{vs:List (κ × Aa)}(r:KV kvs vs)(k:κ):eI (aU kvs k) (valueAt vs k):=by
 unfold KV at r
 induction r with
 |nil=>exact True.intro
 |@cons p q ps qs h t ih=>
  let#[h1,h2]:=h;by_cases e:p.1=k
  ·have e':q.1=k:=h1.symm.trans e;have b:valueAt (q::qs) k\q.2:=by simp[valueAt,yk,e']
   rw[x_ e,b];exact h2
  have e':¬q.1=k:=λz=>e (h1.trans z);have b:valueAt (q::qs) k=valueAt qs k:=by simp[valueAt,yk,e']
  rw[x8 e,b];exact ih
theorem KV.any{kvs:List (κ × V)}{vs:List (κ × Aa)}(r:KV kvs vs)(k:κ):(kvs.any λkv=>decide (kv.1=k))=vs.any λkv=>decide (kv.1=k):=by
 unfold KV at r
 induction r with
 |nil=>rfl
 |cons h t ih=>rw[List.any_cons,List.any_cons,ih,h.1]
theorem KV.zi{kvs:List (κ × V)}{vs:List (κ × Aa)}(r:KV kvs vs)(k:κ){y:V}{u:Aa}(ry:RelV y u) :
  KV (kvs.map λkv=>if kv.1=k then (kv.1,y) else kv) (vs.map λkv=>if kv.1=k then (kv.1,u) else kv):=by
 unfold KV at r ⊢
 induction r with
 |nil=>exact .nil
 |@cons p q ps qs h t ih=>
  rw[eJ,eJ];apply .cons ?_ ih;let#[h1,h2]:=h;by_cases e:p.1=k
  ·rw[aI e,aI (h1.symm.trans e)];exact#[h1,ry]
  rw[aC e,aC (λz=>e (h1.trans z))];exact#[h1,h2]
theorem KV.put{kvs:List (κ × V)}{vs:List (κ × Aa)}(r:KV kvs vs)(k:κ){y:V}{u:Aa}(ry:RelV y u):KV (putK kvs k y) (stored vs k u):=by
 unfold putK stored;rw[r.any k];by_cases e:(vs.any λkv=>decide (kv.1=k))=true
 ·rw[aI e,aI e];exact r.zi k ry
 rw[aC e,aC e];exact Paired.snoc r #[U,ry]
theorem KV.keys{kvs:List (κ × V)}{vs:List (κ × Aa)}(r:KV kvs vs):kvs.map (·.1)=vs.map (·.1):=by
 unfold KV at r
 induction r with
 |nil=>rfl
 |cons h t ih=>rw[eJ,eJ,ih,h.1]
theorem KV.length{kvs:List (κ × V)}{vs:List (κ × Aa)}(r:KV kvs vs):kvs.length=vs.length:=bH r
end
theorem we{P:Ad}{w:Af}{k:Key}{u:Aa}(r:RelV (kV k) u):(dX P w).is k u=true:=by
 cases k with
 |inl i=>let#[t,e]:=(show ∃t,u=Value.int i t from r);subst e;exact ev_ P w i t
 |inr x=>let#[t,e]:=(show ∃t,u=Value.str x t from r);subst e;exact eG_ P w x t
theorem S2{P:Ad}{w:Af}:∀{ks:aq} {us:aj},Vals (ks.map kV) us->ItemsAre (dX P w) ks us
 |[],_,r=>by rw[List.map_nil] at r;cases r;exact .nil
 |k::ks,_,r=>by
  rw[eJ] at r;cases r with
  |cons h t=>exact .cons (we h) (S2 t)
abbrev KT(H:Hp):List (aq × V)->List (aq × Addr × Aa)->Prop:=Paired λp q=>p.1=q.1/\H q.2.1\.tup (p.1.map kV)/\RelV p.2 q.2.2
theorem KT.val{H:Hp}{kvs:List (aq × V)}{xs:List (aq × Addr × Aa)}(r:KT H kvs xs)(k:aq):eI (aU kvs k) ((atKey xs k).map (·.2)):=by
 induction r with
 |nil=>exact True.intro
 |@cons p q ps qs h t ih=>
  let#[h1,_,h2]:=h;by_cases e:p.1=k
  ·have e':q.1=k:=h1.symm.trans e;have b:atKey (q::qs) k\q.2:=by simp[atKey,yk,e']
   rw[x_ e,b];exact h2
  have e':¬q.1=k:=λz=>e (h1.trans z);have b:atKey (q::qs) k=atKey qs k:=by simp[atKey,yk,e']
  rw[x8 e,b];exact ih
theorem KT.zi{H:Hp}{kvs:List (aq × V)}{xs:List (aq × Addr × Aa)}(r:KT H kvs xs)(k:aq){y:V}{u:Aa}(ry:RelV y u) :
  KT H (kvs.map λkv=>if kv.1=k then (kv.1,y) else kv) (xs.map (putAt k u)):=by
 induction r with
 |nil=>exact .nil
 |@cons p q ps qs h t ih=>
  rw[eJ,eJ];apply .cons ?_ ih;let#[h1,h2,h3]:=h;unfold putAt;by_cases e:p.1=k
  ·rw[aI e,aI (h1.symm.trans e)];exact#[h1,h2,ry]
  rw[aC e,aC (λz=>e (h1.trans z))];exact#[h1,h2,h3]
theorem KT.put{H:Hp}{kvs:List (aq × V)}{xs:List (aq × Addr × Aa)}(r:KT H kvs xs)(k:aq){b:Addr}{y:V}{u:Aa}(hb:H b\.tup (k.map kV))(ry:RelV y u) :
  KT H (putK kvs k y) (storedH xs k b u):=by
 have e:(kvs.any λkv=>decide (kv.1=k))=(atKey xs k).isSome:=by
  rw[B7,(r.val k).dP,Option.isSome_map]
 unfold putK storedH;rw[e];by_cases q:(atKey xs k).isSome=true
 ·rw[aI q,aI q];exact r.zi k ry
 rw[aC q,aC q];exact Paired.snoc r #[U,hb,ry]
theorem KT.keeps{H H':Hp}{kvs:List (aq × V)}{xs:List (aq × Addr × Aa)}(r:KT H kvs xs)(ht:∀b ys,H b\.tup ys->H' b\.tup ys):KT H' kvs xs:=
 Paired.aX r λ_ _ z=>#[z.1,ht _ _ z.2.1,z.2.2]
section
variable{P:Ad}{w:Af}{H:Hp}{h:Heap}{a:Addr}
theorem Qk{u:HO}(ok:fM P w H h)(e:Rd H a u):fj P w H h a u:=e.ok ok
theorem kE{kvs:List (Key × V)}(ok:fM P w H h)(e:Rd H a (.dK kvs)):kvs.length<=sizeLine/\(a == sysModules)=false/\∃vs,KV kvs vs/\h.DictOf (dX P w) a vs:=
 show fj P w H h a (.dK kvs) from Qk ok e
theorem EW{kvs:List (Key × V)}(ok:fM P w H h)(e:H a\.dK kvs):kvs.length<=sizeLine/\(a == sysModules)=false/\∃vs,KV kvs vs/\h.DictOf (dX P w) a vs:=kE ok (.inl e)
theorem wA{ks:aq}(ok:fM P w H h)(e:H a\.tup (ks.map kV)):(tupleKind (dX P w)).is h ks a:=by
 let#[_,its,r,#[o,h1,h2,n,h3],_]:=(show fj P w H h a (.tup (ks.map kV)) from ok a _ e);exact#[o,its.toArray,n,h1,h2,h3,by simpa using S2 r]
theorem xQ{kvs:List (aq × V)}(ok:fM P w H h)(e:Rd H a (.dT kvs)):kvs.length<=sizeLine/\(a == sysModules)=false /\
  ∃xs,KT H kvs xs/\h.DictOfH (tupleKind (dX P w)) a xs:=by
 let#[z,y,xs,r,o,es,ep,h1,h2,h3,h4,h5]:=(show fj P w H h a (.dT kvs) from Qk ok e);apply#[z,y,xs,r,o,es,ep,h1,h2,h3,h4,λx hx=>?_,h5]
 have all:∀{l:List (aq × V)} {m:List (aq × Addr × Aa)},KT H l m->∀x∈m,(tupleKind (dX P w)).is h x.1 x.2.1:=by
  intro l m q
  induction q with
  |nil=>intro x hx;exact nomatch hx
  |@cons p q ps qs hq t ih=>
   intro x hx;rcases bZ.mp hx with e|hx
   ·subst e;exact wA ok (by rw[<- hq.1];exact hq.2.1)
   exact ih x hx
 exact all r x hx
theorem Qi{kvs:List (aq × V)}(ok:fM P w H h)(e:H a\.dT kvs):kvs.length<=sizeLine/\(a == sysModules)=false /\
  ∃xs,KT H kvs xs/\h.DictOfH (tupleKind (dX P w)) a xs:=xQ ok (.inl e)
end
def dc(H:Hp)(a:Addr)(y:V)(r:aE):Prop:=
 (∃kvs k,Rd H a (.dK kvs)/\y=kV k/\r=aU kvs k)∨∃kvs k b,Rd H a (.dT kvs)/\y=.ref b/\H b\.tup (k.map kV)/\r=aU kvs k
def pJ(H:Hp)(a:Addr)(y v:V)(H':Hp):Prop:=
 (∃kvs k,H a\.dK kvs/\y=kV k/\kvs.length<sizeLine/\H'=upd H a (.dK (putK kvs k v))) ∨
 ∃kvs k b,H a\.dT kvs/\y=.ref b/\H b\.tup (k.map kV)/\kvs.length<sizeLine/\H'=upd H a (.dT (putK kvs k v))
theorem dc.k{H:Hp}{a:Addr}{kvs:List (Key × V)}{k:Key}(e:H a\.dK kvs):dc H a (kV k) (aU kvs k):=.inl #[kvs,k,.inl e,U,U]
theorem dc.t{H:Hp}{a b:Addr}{kvs:List (aq × V)}{k:aq}(e:H a\.dT kvs)(eb:H b\.tup (k.map kV)):dc H a (.ref b) (aU kvs k):=.inr #[kvs,k,b,.inl e,U,eb,U]
theorem pJ.k{H:Hp}{a:Addr}{kvs:List (Key × V)}{k:Key}{v:V}(e:H a\.dK kvs)(hl:kvs.length<sizeLine):pJ H a (kV k) v (upd H a (.dK (putK kvs k v))):=.inl #[kvs,k,e,U,hl,U]
theorem pJ.t{H:Hp}{a b:Addr}{kvs:List (aq × V)}{k:aq}{v:V}(e:H a\.dT kvs)(eb:H b\.tup (k.map kV))(hl:kvs.length<sizeLine) :
  pJ H a (.ref b) v (upd H a (.dT (putK kvs k v))):=.inr #[kvs,k,b,e,U,eb,hl,U]
section
variable{X:Cx}{pins:List (Addr × Obj)}{σ:St}{H:Hp}{s:Ab}{a:Addr}{y v:V}{u r:Aa}{o:aE}{A:Ag}{E:Aa->Ab->Prop}
theorem Inv.big(I:Inv X pins σ H s):sysModules<s.heap.objs.size:=by
 have h:mainGlobals<s.heap.objs.size:=(I.mod.glob.keeps I.bk).lt;exact Nat.lt_trans (by decide) h
theorem gz_{Q:Aa->Ab->Prop}(hu:A.units+1<cLine)(I:Inv X pins σ H s)(g:dc H a y (some v))(ry:RelV y u)(h:∀w' s',Inv X pins σ H s'->RelV v w'->Q w' s') :
  wpAny (model X.prog X.w) A (getItem (.ref a) u) Q E s:=by
 rcases g with⟨kvs,k,e,ey,l⟩|⟨kvs,k,b,e,ey,eb,l⟩
 ·subst ey;let#[z,hd,vs,rel,dd]:=kE I.aA e;let#[w',hw,ig]:=eI.some_of (v:=v) (o:=valueAt vs k) (by rw[l];exact rel.val k);exact wpAny_getItem_of (we ry) dd.mapOf hw (h w' _ (I.tok _) ig)
 subst ey;cases (show u=Value.ref b from ry);let#[z,hd,xs,rel,dd]:=xQ I.aA e;let#[w',hw,ig]:=eI.some_of (v:=v) (o:=(atKey xs k).map (·.2)) (by rw[l];exact rel.val k);let#[p,hp,ko]:=Cd.mp hw;apply wpAny_getItem_heap (tupleKind_room_in1 hu) (wA I.aA eb) dd hp ?_;rw[ko];exact h w' _ (I.tok _) ig
theorem MW{Q:Aa->Ab->Prop}(hu:A.units+1<cLine)(I:Inv X pins σ H s)(g:dc H a y o)(ry:RelV y u)(h:∀s',Inv X pins σ H s'->Q (.bool o.isSome) s') :
  wpAny (model X.prog X.w) A (compareOp .In u (.ref a)) Q E s:=by
 rcases g with⟨kvs,k,e,ey,l⟩|⟨kvs,k,b,e,ey,eb,l⟩
 ·subst ey;let#[z,hd,vs,rel,dd]:=kE I.aA e;apply wpAny_in_of (we ry) hd dd.mapOf ?_;rw[<- (rel.val k).dP,<- l];exact h _ (I.tok _)
 subst ey;cases (show u=Value.ref b from ry);let#[z,hd,xs,rel,dd]:=xQ I.aA e;apply wpAny_in_heap (tupleKind_room_in1 hu) (wA I.aA eb) hd dd ?_;let q:=(rel.val k).dP;rw[Option.isSome_map] at q;rw[<- q,<- l];exact h _ (I.tok _)
theorem YR{Q:Aa->Ab->Prop}(hu:A.units+1<cLine)(I:Inv X pins σ H s)(g:dc H a y o)(ry:RelV y u)(h:∀s',Inv X pins σ H s'->Q (.bool (!o.isSome)) s') :
  wpAny (model X.prog X.w) A (compareOp .NotIn u (.ref a)) Q E s:=by
 rcases g with⟨kvs,k,e,ey,l⟩|⟨kvs,k,b,e,ey,eb,l⟩
 ·subst ey;let#[z,hd,vs,rel,dd]:=kE I.aA e;apply wpAny_notIn_of (we ry) hd dd.mapOf ?_;rw[<- (rel.val k).dP,<- l];exact h _ (I.tok _)
 subst ey;cases (show u=Value.ref b from ry);let#[z,hd,xs,rel,dd]:=xQ I.aA e;apply wpAny_notIn_heap (tupleKind_room_in1 hu) (wA I.aA eb) hd dd ?_;let q:=(rel.val k).dP;rw[Option.isSome_map] at q;rw[<- q,<- l];exact h _ (I.tok _)
theorem MB{h':Heap}{t':Nat}{ob:HO}(I:Inv X pins σ H s)(mu:FS (H a))(hs:Heap.SameBut a s.heap h')(he:∃q,h'.get? a\q)(new:fj X.prog X.w (upd H a ob) h' a ob) :
  Inv X pins σ (upd H a ob) { s with heap:=h',toks:=t' }:=
 I.write (x:=a) (e:=a) mu (.inl U) (λb q hb z=>(hs.2 b hb).trans z) he new
theorem L_{P:Ad}{w:Af}{H':Hp}{h':Heap}{kvs:List (Key × V)}{vs:List (Key × Aa)}(z:kvs.length<=sizeLine)(hd:(a == sysModules)=false)(rel:KV kvs vs)(dd:h'.DictOf (dX P w) a vs) :
  fj P w H' h' a (.dK kvs):=#[z,hd,vs,rel,dd]
theorem gj_{H':Hp}{Q:Unit->Ab->Prop}(hu:A.units+1<cLine)(I:Inv X pins σ H s)(g:pJ H a y v H')(ry:RelV y u)(rv:RelV v r)(h:∀s',Inv X pins σ H' s'->Q () s') :
  wpAny (model X.prog X.w) A (setItem (.ref a) u r) Q E s:=by
 rcases g with⟨kvs,k,e,ey,l,eH⟩|⟨kvs,k,b,e,ey,eb,l,eH⟩
 ·subst ey eH;let#[z,hd,vs,rel,dd]:=EW I.aA e;have hz:vs.length<=sizeLine:=by rw[<- rel.length];exact z
  have hl:(putK kvs k v).length<=sizeLine:=by have:=IU kvs k v;omega
  apply wpAny_setItem_pairs (hsz:=hz) (we ry) dd λh' BX hs=>h _ ?_;have he:∃q,h'.get? a\q:=let #[q,_,_,hq,_]:=BX;#[q,hq];exact MB I (by rw[e];exact True.intro) hs he (L_ hl hd (rel.put k rv) BX)
 subst ey eH;cases (show u=Value.ref b from ry);let#[z,hd,xs,rel,dd]:=Qi I.aA e;have hz:xs.length<=sizeLine:=by rw[<- bH rel];exact z
 have hl:(putK kvs k v).length<=sizeLine:=by have:=IU kvs k v;omega
 apply wpAny_setItem_heap (hsz:=hz) (tupleKind_room_in1 hu) (wA I.aA eb) dd λh' BX hs=>h _ ?_;let#[q,es,ep,hq,h2,h3,h4,_,h5]:=BX;apply MB I (by rw[e];exact True.intro) hs #[q,hq] #[hl,hd,_,(rel.put k eb rv).keeps λc ys ec=>?_,q,es,ep,hq,h2,h3,h4,h5];rw[ax (bS ec e nofun)];exact ec
end
section
variable{X:Cx}{pins:List (Addr × Obj)}{σ:St}{H:Hp}{s:Ab}{a:Addr}{kvs:List (Key × V)}{k:Key}{u:Aa}{A:Ag}{E:Aa->Ab->Prop}
theorem XZ{Q:Aa->Ab->Prop}(I:Inv X pins σ H s)(e:Rd H a (.dK kvs))(h:∀t s',Inv X pins σ H s'->Q (.int kvs.length t) s'):wpAny (model X.prog X.w) A (call (.builtin "len") [.ref a]) Q E s:=by
 let#[z,hd,vs,rel,dd]:=kE I.aA e;apply call_len_dict hd dd (by rw[<- rel.length];rw[cq] at z;omega) ?_;rw[<- rel.length];exact h _ _ (I.tok _)
end
def FR(i:Expr):Prop:=∀ov iv,subscripted i false ov iv=operate [ov,iv] (getItem ov iv)
theorem YU{prog:Ad}{w:Af}{A:Ag}{E:Aa->Ab->Prop}{s:Ab}{env:Env}{value slice:Expr}{pos:Pos}{T id:String}{Q:Aa->Ab->Prop}
  (hl:typeLookup (.type T) "__getitem__"=pure (some (.builtin id))) (hs:FR slice)
  (h:wpAny (model prog w) A (eval value env) (λo aJ=>wpAny (model prog w) A (eval slice env) (λi jv=>jv.TypeIs o T/\wpAny (model prog w) A (getItem o i) Q E jv) E aJ) E s) :
  wpAny (model prog w) A (eval (.Subscript value slice pos) env) Q E s:=by
 apply Subscript_ (wpAny_mono h (λo aJ KR=>wpAny_mono KR (λi jv zI=>?_) λ_ _ x=>x) λ_ _ x=>x);let#[hT,zI]:=zI;unfold subscriptTail;apply af ?_;rw[getitemInPython_of_ne hT.not_modules];apply af (wpAny_specialOf hT hl ?_)
 have fin:wpAny (model prog w) A (subscripted slice false o i) (λr CV=>wpAny (model prog w) A (letTemporaryGo value o r >>= λ_=>pure r) Q E CV) E jv:=by
  rw[hs o i];exact wpAny_operating (wpAny_mono zI (λr CV KQ=>af (wpAny_letTemporaryGo (aF KQ))) λ_ _ x=>x)
 first
  |exact aF (af fin)
  |exact af (aF (af fin))
  |exact af fin
theorem es_{X:Cx}{pins:List (Addr × Obj)}{σ:St}{H:Hp}{s:Ab}{a:Addr}{y:V}{o:aE}(I:Inv X pins σ H s)(g:dc H a y o):s.TypeIs (.ref a) "dict":=by
 rcases g with⟨kvs,k,e,_,_⟩|⟨kvs,k,b,e,_,_,_⟩
 ·let#[_,_,vs,_,dd]:=kE I.aA e;exact dd.typeIs
 let#[_,_,xs,_,dd]:=xQ I.aA e;exact dd.typeIs
inductive qF (Q:VK) (x:V) (y:V) (H2:Hp):Prop
 |mk:∀a v,x=.ref a->dc H2 a y (some v)->Q v H2->qF Q x y H2
def CS(td ty:TE):TE:=λσ H Q=>td σ H λx H1=>ty σ H1 λy H2=>qF Q x y H2
inductive wZ (Q:VK) (y:V) (x:V) (H2:Hp):Prop
 |mk:∀a o,x=.ref a->dc H2 a y o->Q (.bl o.isSome) H2->wZ Q y x H2
def JR(ty td:TE):TE:=λσ H Q=>ty σ H λy H1=>td σ H1 λx H2=>wZ Q y x H2
inductive SD (Q:VK) (y:V) (x:V) (H2:Hp):Prop
 |mk:∀a o,x=.ref a->dc H2 a y o->Q (.bl (!o.isSome)) H2->SD Q y x H2
def vq(ty td:TE):TE:=λσ H Q=>ty σ H λy H1=>td σ H1 λx H2=>SD Q y x H2
inductive rW (D:Ends) (σ:St) (v:V) (x:V) (y:V) (H3:Hp):Prop
 |mk:∀a H4,x=.ref a->pJ H3 a y v H4->D.nx σ H4->rW D σ v x y H3
def C8(td ty tv:TE):TS:=λD σ H=>tv σ H λv H1=>td σ H1 λx H2=>ty σ H2 λy H3=>rW D σ v x y H3
section
variable{X:Cx}{o i e value:Expr}{pos pos' CD:Pos}{td ty tv:TE}
theorem mJ(hu:X.A.units+1<cLine)(ho:PE X o td)(hi:PE X i ty)(hs:FR i:=by exact λ_ _=>rfl):PE X (.Subscript o i pos) (CS td ty):=by
 intro pins s σ H Q I h;apply YU PySem.F.slot_dict_getitem.lookup hs (aO (ho pins s σ H _ I h) λu s1 ⟨x,H1,I1,rx,q1⟩=>aO (hi pins s1 σ H1 _ I1 q1) λiv s2 ⟨y,H2,I2,ry,a,v,ex,g,q2⟩=>?_);subst ex;obtain rfl:u=Value.ref a:=rx;exact#[es_ I2 g,gz_ hu I2 g ry λw' s3 I3 ig=>#[v,H2,I3,ig,q2]]
theorem AW(hu:X.A.units+1<cLine)(hi:PE X i ty)(ho:PE X o td):PC X .In i o (JR ty td):=by
 intro pins s σ H Q I h;apply aO (hi pins s σ H _ I h) λiv s1 ⟨y,H1,I1,ry,q1⟩=>aO (ho pins s1 σ H1 _ I1 q1) λu s2 ⟨x,H2,I2,rx,a,ov,ex,g,q2⟩=>?_;subst ex;obtain rfl:u=Value.ref a:=rx;exact MW hu I2 g ry λs3 I3=>#[.bl ov.isSome,H2,I3,U,q2]
theorem IM(hu:X.A.units+1<cLine)(hi:PE X i ty)(ho:PE X o td):PC X .NotIn i o (vq ty td):=by
 intro pins s σ H Q I h;apply aO (hi pins s σ H _ I h) λiv s1 ⟨y,H1,I1,ry,q1⟩=>aO (ho pins s1 σ H1 _ I1 q1) λu s2 ⟨x,H2,I2,rx,a,ov,ex,g,q2⟩=>?_;subst ex;obtain rfl:u=Value.ref a:=rx;exact YR hu I2 g ry λs3 I3=>#[.bl (!ov.isSome),H2,I3,U,q2]
theorem tW(hu:X.A.units+1<cLine)(ho:PE X o td)(hi:PE X i ty)(hv:PE X value tv)(hs:swapsWith value (some (.Subscript o i pos')) pos.line X.env=pure false) :
  PS X (.Assign [.Subscript o i pos'] value pos) (C8 td ty tv):=by
 intro pins s σ H D I h;apply wpAny_Assign_Subscript (aO (hv pins s σ H _ I h) λr s1 ⟨v,H1,I1,rv,q1⟩=>aO (ho pins s1 σ H1 _ I1 q1) λu s2 ⟨x,H2,I2,rx,q2⟩=>aO (hi pins s2 σ H2 _ I2 q2) λiv s3 ⟨y,H3,I3,ry,a,H4,ex,g,q3⟩=>?_) hs;subst ex;obtain rfl:u=Value.ref a:=rx;exact gj_ hu I3 g ry rv λs4 I4=>#[σ,H4,I4,q3]
end
theorem ZM{P:Ad}{w:Af}{H:Hp}(h:Heap)(hb:sysModules<h.objs.size):fj P w H (h.push { cls:=.type "dict",data:=.dict #[] }) h.objs.size (.dK []):=
 #[gP _,beq_eq_false_iff_ne.mpr (bN (dG hb)),[],.nil,Heap.DictOf.new h]
theorem R8{P:Ad}{w:Af}{H:Hp}(h:Heap)(hb:sysModules<h.objs.size):fj P w H (h.push { cls:=.type "dict",data:=.dict #[] }) h.objs.size (.dT []):=
 #[gP _,beq_eq_false_iff_ne.mpr (bN (dG hb)),[],.nil,_,#[],0,cJ _ U,#[U,U,U],U,U,List.nodup_nil]
def yD:TE:=λ_ H Q=>∀p,H p=none->Q (.ref p) (upd H p (.dK []))
def yC:TE:=λ_ H Q=>∀p,H p=none->Q (.ref p) (upd H p (.dT []))
section
variable{X:Cx}{pos:Pos}
theorem FG:PE X (.Dict [] [] pos) yD:=λpins s σ H Q I h=>
 wpAny_Dict_empty #[.ref s.heap.objs.size,_,I.laid (a:=s.heap.objs.size) (o:=.dK []) (t':=s.toks) (λ_ _ q=>aQ _ q) (bh _) (ZM s.heap I.big),U,h _ (I.aA.fresh (bh _))]
theorem Sl:PE X (.Dict [] [] pos) yC:=λpins s σ H Q I h=>
 wpAny_Dict_empty #[.ref s.heap.objs.size,_,I.laid (a:=s.heap.objs.size) (o:=.dT []) (t':=s.toks) (λ_ _ q=>aQ _ q) (bh _) (R8 s.heap I.big),U,h _ (I.aA.fresh (bh _))]
end
def wH(kvs more:List (Key × V)):List (Key × V):=more.foldl (λacc kv=>putK acc kv.1 kv.2) kvs
theorem Oy:∀(more kvs:List (Key × V)),(wH kvs more).length<=kvs.length+more.length
 |[],kvs=>by show kvs.length<=kvs.length+0;omega
 |p::r,kvs=>by
  let h1:=Oy r (putK kvs p.1 p.2);let h2:=IU kvs p.1 p.2;show (wH (putK kvs p.1 p.2) r).length<=_;rw[iR];omega
structure M1 (X:Cx) (o:Expr) (m:Str) (apos:Pos) (e:Expr) (bW:Pos):Prop where
 base:attributeBase o m X.env (eval o X.env)=eval o X.env
 Ml:((backTo bW (starEach [e] X.env)).all (λx=>!x.1)&&(backToKw bW (keywordEach [] X.env)).all (λx=>x.1.isSome)
  && decide (([e]:List Expr).length+([]:List Keyword).length+(if ([]:List Keyword).isEmpty then 0 else 1)<30))=true
 line:(apos.endLine == bW.line)=true
 trees:backTo bW (starEach [e] X.env)=[(false,eval e X.env)]
structure M2 (X:Cx) (o:Expr) (m:Str) (apos:Pos) (e f:Expr) (bW:Pos):Prop where
 base:attributeBase o m X.env (eval o X.env)=eval o X.env
 Ml:((backTo bW (starEach [e,f] X.env)).all (λx=>!x.1)&&(backToKw bW (keywordEach [] X.env)).all (λx=>x.1.isSome)
  && decide (([e,f]:List Expr).length+([]:List Keyword).length+(if ([]:List Keyword).isEmpty then 0 else 1)<30))=true
 line:(apos.endLine == bW.line)=true
 trees:backTo bW (starEach [e,f] X.env)=[(false,eval e X.env),(false,eval f X.env)]
def OW(H:Hp)(a:Addr):Prop:=(∃kvs,Rd H a (.dK kvs))∨∃kvs,Rd H a (.dT kvs)
theorem HQ{X:Cx}{pins:List (Addr × Obj)}{σ:St}{H:Hp}{s:Ab}{a:Addr}(I:Inv X pins σ H s)(d:OW H a) :
  s.TypeIs (.ref a) "dict"/\(∀b,Value.ref a=.ref b->∃ob,s.heap.get? b\ob/\ob.dict=none)/\(a == sysModules)=false:=by
 rcases d with⟨kvs,e⟩|⟨kvs,e⟩
 ·let#[_,hd,vs,_,dd]:=kE I.aA e;apply#[dd.typeIs,λb q=>?_,hd];cases q;let#[ob,_,_,h1,h2,_]:=dd;exact#[ob,h1,h2.2.1]
 let#[_,hd,xs,_,dd]:=xQ I.aA e;apply#[dd.typeIs,λb q=>?_,hd];cases q;let#[ob,_,_,h1,h2,_]:=dd;exact#[ob,h1,h2.2.1]
section
variable{X:Cx}{pins:List (Addr × Obj)}{σ:St}{H:Hp}{s:Ab}{a:Addr}{y d:V}{u r:Aa}{o:aE}{A:Ag}{E:Aa->Ab->Prop}
theorem XN{Q:Aa->Ab->Prop}(hu:A.units+1<cLine)(I:Inv X pins σ H s)(g:dc H a y o)(ry:RelV y u)(h:∀w' s',Inv X pins σ H s'->RelV (o.getD .non) w'->Q w' s') :
  wpAny (model X.prog X.w) A (call (.builtin "dict.get") [.ref a,u]) Q E s:=by
 rcases g with⟨kvs,k,e,ey,l⟩|⟨kvs,k,b,e,ey,eb,l⟩
 ·subst ey;let#[z,hd,vs,rel,dd]:=kE I.aA e;apply call_meetsIn PySem.F.slot_dict_get dd.typeIs PySem.F.entry_dict_get (PySem.F.args_dict_get_2 _ _) (meets_dict_get (dX X.prog X.w) a (we ry) hd) #[_,dd.mapOf,h _ _ (I.tok _) ?_];rw[l];exact (rel.val k).getD U
 subst ey;cases (show u=Value.ref b from ry);let#[z,hd,xs,rel,dd]:=xQ I.aA e;apply call_meetsIn PySem.F.slot_dict_get dd.typeIs PySem.F.entry_dict_get (PySem.F.args_dict_get_2 _ _) (meetsH_dict_get (tupleKind (dX X.prog X.w)) a b hd) #[tupleKind_room_in1 hu,k,xs,wA I.aA eb,dd,h _ _ (I.tok _) ?_];rw[l];exact (rel.val k).getD U
theorem XG{Q:Aa->Ab->Prop}(hu:A.units+1<cLine)(I:Inv X pins σ H s)(g:dc H a y o)(ry:RelV y u)(rd:RelV d r)(h:∀w' s',Inv X pins σ H s'->RelV (o.getD d) w'->Q w' s') :
  wpAny (model X.prog X.w) A (call (.builtin "dict.get") [.ref a,u,r]) Q E s:=by
 rcases g with⟨kvs,k,e,ey,l⟩|⟨kvs,k,b,e,ey,eb,l⟩
 ·subst ey;let#[z,hd,vs,rel,dd]:=kE I.aA e;apply call_meetsIn PySem.F.slot_dict_get dd.typeIs PySem.F.entry_dict_get (PySem.F.args_dict_get_3 _ _ _) (meets_dict_get_default (dX X.prog X.w) a (we ry) hd r) #[_,dd.mapOf,h _ _ (I.tok _) ?_];rw[l];exact (rel.val k).getD rd
 subst ey;cases (show u=Value.ref b from ry);let#[z,hd,xs,rel,dd]:=xQ I.aA e;apply call_meetsIn PySem.F.slot_dict_get dd.typeIs PySem.F.entry_dict_get (PySem.F.args_dict_get_3 _ _ _) (meetsH_dict_get_default (tupleKind (dX X.prog X.w)) a b hd r) #[tupleKind_room_in1 hu,k,xs,wA I.aA eb,dd,h _ _ (I.tok _) ?_];rw[l];exact (rel.val k).getD rd
end
def yF(td ty:TE):TE:=λσ H Q=>td σ H λx H1=>∃a,x=.ref a/\OW H1 a/\ty σ H1 λy H2=>∃o,dc H2 a y o/\Q (o.getD .non) H2
def yE(td ty tx:TE):TE:=λσ H Q=>td σ H λx H1=>∃a,x=.ref a/\OW H1 a/\ty σ H1 λy H2=>tx σ H2 λz H3=>∃o,dc H3 a y o/\Q (o.getD z) H3
section
variable{X:Cx}{o e f:Expr}{apos bW:Pos}{td ty tx:TE}
theorem Zt(hu:X.A.units+1<cLine)(ho:PE X o td)(he:PE X e ty)(m:M1 X o "get" apos e bW):PE X (.Call (.Attribute o "get" apos) [e] [] bW) (yF td ty):=by
 intro pins s σ H Q I h;apply wpAny_Call_method m.base m.Ml m.line PySem.F.plainAttrs_dict PySem.F.slot_dict_get PySem.F.type_dict_get (aO (ho pins s σ H _ I h) λu s1 ⟨x,H1,I1,rx,a,ex,d,q1⟩=>?_);subst ex;obtain rfl:u=Value.ref a:=rx;let#[t1,t2,_]:=HQ I1 d;apply#[t1,t2,?_];rw[m.trees];apply Calls.callWith_builtin U (Calls.evalArgs_plain (Calls.spliced_cons (aO (he pins s1 σ H1 _ I1 q1) λiv s2 ⟨y,H2,I2,ry,ov,g,q2⟩=>Calls.spliced_nil ?_)));exact XN hu I2 g ry λw' s3 I3 ig=>#[_,H2,I3,ig,q2]
theorem Z_(hu:X.A.units+1<cLine)(ho:PE X o td)(he:PE X e ty)(hf:PE X f tx)(m:M2 X o "get" apos e f bW):PE X (.Call (.Attribute o "get" apos) [e,f] [] bW) (yE td ty tx):=by
 intro pins s σ H Q I h;apply wpAny_Call_method m.base m.Ml m.line PySem.F.plainAttrs_dict PySem.F.slot_dict_get PySem.F.type_dict_get (aO (ho pins s σ H _ I h) λu s1 ⟨x,H1,I1,rx,a,ex,d,q1⟩=>?_);subst ex;obtain rfl:u=Value.ref a:=rx;let#[t1,t2,_]:=HQ I1 d;apply#[t1,t2,?_];rw[m.trees]
 apply Calls.callWith_builtin U (Calls.evalArgs_plain (Calls.spliced_cons (aO (he pins s1 σ H1 _ I1 q1) λiv s2 ⟨y,H2,I2,ry,q2⟩=>
  Calls.spliced_cons (aO (hf pins s2 σ H2 _ I2 q2) λfv s3 ⟨z,H3,I3,rz,ov,g,q3⟩=>Calls.spliced_nil ?_))))
 exact XG hu I3 g ry rz λw' s4 I4 ig=>#[_,H3,I4,ig,q3]
end
section
variable{X:Cx}{pins:List (Addr × Obj)}{σ:St}{H:Hp}{s:Ab}{a:Addr}{kvs:List (Key × V)}{A:Ag}{E:Aa->Ab->Prop}
end
section
variable{X:Cx}{pins:List (Addr × Obj)}{σ:St}{H:Hp}{s:Ab}{a:Addr}{y:V}{u:Aa}{A:Ag}{E:Aa->Ab->Prop}
end
end L2
namespace UG
open PySem PySem.W PySem.Calls PyProof.Rows
theorem cy_{P:Params}{h:Heap}:∀(ns:List Int) (vs:aj),WellAll P h vs (ns.map WData.int)->IntsAre vs ns:=by
 intro ns
 induction ns with
 |nil=>
  intro vs w;rw[List.map_nil] at w;cases w;exact .nil
 |cons n ns ih=>
  intro vs w;rw[eJ] at w;cases w with
  |cons a b=>
   cases a;exact .cons _ _ (ih _ b)
theorem _C{l:OpenLaw}{n:Nat}(hn:l.most\n){P:Params}{h:Heap}{args:List WData}{vals:aj}
  (vT:l.row.toRowW.claim.pre args=true) (KW:WellAll P h vals args) :
  ∃a vs ns,vals=[Value.ref a]/\args=[WData.list (ns.map WData.int)]/\h.get? a=some { cls:=.type "list",data:=.seq vs.toArray }/\IntsAre vs ns/\ns.length<=n:=by
 have _A:WShape.hasAll [] args [.list .int]=true:=(pre_splitW vT).1;have hc:l.pre.holds [] { args:=args }=true:=(pre_splitW vT).2;let#[d,r,rfl,h1,h2]:=hasAllW_cons _A;obtain rfl:=hasAllW_nil h2;let#[xs,rfl,h3]:=hasW_list h1;let#[ns,rfl]:=items_int h3
 have hlen:ns.length<=n:=by
  unfold OpenLaw.pre at hc
  have h4:(WTm.not (.lt (.lit (.int (n:Int))) (.len (.arg 0)))).holds [] { args:=[.list (ns.map .int)] }=true:=by
   let h4:=(holds_andW hc).1;rw[hn] at h4;exact h4
  let h5:=condW_of h4 (w_not (w_lt w_lit (w_len_list (w_arg U))));rw[av] at h5;apply Nat.le_of_not_lt λq=>?_;have q':(n:Int)<((ns.length:Nat):Int):=by omega
  first
   |(rw[cw q'] at h5;exact absurd h5 (by decide))
   |(simp at h5;omega)
 cases KW with
 |cons w1 w2=>
  cases w2;cases w1 with
  |list ho Ap=>exact#[_,_,ns,U,U,ho,cy_ ns _ Ap,hlen]
theorem gq_(l:OpenLaw)(args:List WData):l.row.toRowW.claim.post args (.bool true) args=true:=
 postW_of (r:=l.row.toRowW) (X:=(true == true))
  (show WShape.has [] (.bool true) .bool=true by first|rfl|decide|simp[WShape.has,WShape.arms,WShape.armsAll])
  (show (WTm.eq .res (.lit (.bool true))).value [] { args:=args,res:=some (.bool true),after:=args }=some (.bool (true == true)) from w_eq_bool (w_res U) w_lit) U
theorem jS{l:OpenLaw}{n:Nat}{q:Ad}{loose:ae}{XP:(Str->Option Aa)->Heap->Prop}{YP:Af->Heap->Prop}{d:DefRec}
  (hn:l.most\n) (EG:d.params.defaults=[])
  (call:∀(w:Af) (di aJ:Ab) (mg mb:Str->Option Aa) (fa:Addr) (o:Obj) (pm cd doc:Aa) (a:Addr) (vs:aj) (ns:List Int),
   Ground q loose [] XP w di mg mb aJ.heap->YP w aJ.heap->
   aJ.heap.get? fa\o->o.data=.func (docDef d.name d.params d.body d.scope pm cd doc)->aJ.heap.CodeRec cd d.name->mg d.name\.ref fa->
   aJ.heap.get? a=some { cls:=.type "list",data:=.seq vs.toArray }->IntsAre vs ns->ns.length<=n->aJ.gens=#[]->
   codeAny (model l.prog w) callerA (.call (.ref fa) #[[.ref a],[]]) (λr s'=>r=.ok (.ret (.bool true))/\OldK aJ.heap s'.heap/\s'.os=aJ.os/\AllBare s'.gens) aJ) :
  WalkO q loose XP YP l.row.toRowW d [] (λf vs=>PySem.call f vs):=by
 intro w di aJ mg mb G Y fa o pm cd doc dV kV ho hd iG hD hmg hg args vals as vT _O hrd KW Q0;obtain rfl:dV=.none:=Dflts.none hD EG;obtain rfl:kV=.none:=Dflts.noKw hD;let#[a,vs,ns,rfl,rfl,zU,hints,hlen]:=_C hn vT KW;apply enter_call (codeAny_mono (call w di aJ mg mb fa o pm cd doc a vs ns G Y ho (fd_plain hd) iG hmg zU hints hlen hg) λr s' hq=>?_);let#[rfl,h2,h3,h4]:=hq;exact#[.inl #[.bool true,.bool true,[],U,λ_=>rfl,.bool true,gq_ l _,λ_=>#[List.Pairwise.nil,λ_ hm=>(nomatch hm)]],h2,h3,h4]
section
variable{prog:Ad}{w:Af}{A:Ag}{E:Aa->Ab->Prop}{s:Ab}{K:Frag}
end
end UG
namespace L2
open PySem PySem.Spec PyProof.Rows
theorem Su:∀{vs:aj} {ns:List Int},IntsAre vs ns->Vals (ns.map V.int) vs
 |_,_,.nil=>.nil
 |_,_,.cons n t h=>.cons #[t,U] (Su h)
end L2
namespace L2
open PySem PySem.Spec PyProof.Rows
end L2
namespace L2
open PySem PySem.Spec PyProof.Rows
def mr(s:Stmt)(j:Nat):Stmt:=match s with
 |.ClassDef _ _ _ body _ _ _ _ _ _ _=>body.getD j (.Pass #[0,0,0,0])
 |_=>.Pass #[0,0,0,0]
def gU(s:Stmt):Arguments:=match s with
 |.FunctionDef _ a _ _ _ _ _ _ _ _=>a
 |_=>{ posonlyargs:=[],args:=[],vararg:=none,kwonlyargs:=[],kw_defaults:=[],kwarg:=none,defaults:=[] }
def gc(s:Stmt):List Stmt:=match s with
 |.FunctionDef _ _ b _ _ _ _ _ _ _=>b
 |_=>[]
def a9(s:Stmt):Scope:=match s with
 |.FunctionDef _ _ _ _ _ _ sc _ _ _=>sc
 |_=>{ kind:=.function,names:=[],isGenerator:=false,isCoroutine:=false }
abbrev a_:kQ:=λ_ _ _ _ _ _=>False
abbrev E0:XK:=λ_ _ _=>False
theorem nQ{X:Cx}:wC a_ X E0:=λ_ _ _ _ _ _ _ h=>h.elim
structure bo (K:ai) (x qual:Str) (st:Stmt) (f:Addr) (fd:Ae):Prop where
 ex:∃(oc:Aa) (od:Option Addr) (kV doc pm:Aa) (an:Option Addr) (aL ct:Aa) (jy:Array (Option Aa)),
  fd=PySem.W.fnOf x qual (gU st) (gc st) (a9 st) .none kV doc pm an aL ct/\K.lookup f=some #[oc,od,.func fd,jy]/\PySem.W.codeIn K aL qual=true
 kp:PySem.W.keepIn K (.ref f)=true
section v
theorem bo.ok{x qual:Str}{st:Stmt}{f:Addr}{fd:Ae}{N ps:ae}{k:Nat}{sp:Sp}(F:bo K x qual st f fd)(S:bJ N ps (a9 st))(len:∀vs H Q E,sp vs H Q E->vs.length=ps.length)
  (fP:∀(aL:Aa) (A:Ag) (outer:List Env) (s:Ab) (H:Hp) (vs:ag) (Q:VK) (E:XK),aP k (A.deeper (envOfC qual (a9 st) s.heap.objs.size f aL))->sp vs H Q E->
   ∃t,j0 (i9 a_ P w K mg base N qual (a9 st) f aL A outer s H E).xo (gc st) t/\t { nx:=λ_ H'=>Q .non H',rt:=Q } (start N vs) H):!ao a_ (k+1) f fd ps sp:=by
 let#[oc,od,kV,doc,pm,an,aL,ct,jy,rfl,lk,iG]:=F.ex;apply Qh lk iG S len λA outer s H vs Q E hr km=>?_;let#[t,h,q]:=fP aL A outer s H vs Q E hr km;exact#[t,h.xo,q]
theorem bo.bU{x qual:Str}{st:Stmt}{f:Addr}{fd:Ae}{N ps:ae}{k:Nat}{sp:Sp}(F:bo K x qual st f fd)(S:bJ N ps (a9 st)) (fP:∀(aL:Aa) (A:Ag) (outer:List Env) (s:Ab) (H:Hp) (vs:ag) (Q:VK) (E:XK),aP k (A.deeper (envOfC qual (a9 st) s.heap.objs.size f aL))->sp vs H Q E->
   ∃t,j0 (i9 a_ P w K mg base N qual (a9 st) f aL A outer s H E).xo (gc st) t/\t { nx:=λ_ H'=>Q .non H',rt:=Q } (start N vs) H) (len:∀vs H Q E,sp vs H Q E->vs.length=ps.length:=by intro vs H Q E h;first|(cases h;subst_vars;rfl)|(let#[rfl,_]:=h;rfl)|(let#[_,rfl,_]:=h;rfl)|(let#[_,_,rfl,_]:=h;rfl)|(let#[_,_,_,rfl,_]:=h;rfl)|(let#[_,_,_,_,rfl,_]:=h;rfl)|(let#[_,_,_,_,_,_,_,_,_,rfl,_]:=h;rfl)):!ao a_ (k+1) f fd ps sp:=F.ok S len fP
theorem bo.binds{x qual:Str}{st:Stmt}{f:Addr}{fd:Ae}{ps:ae}(F:bo K x qual st f fd)
  (h:∀(kV doc pm:Aa) (an:Option Addr) (aL ct:Aa) (us:aj),us.length=ps.length->bindArgs (PySem.W.fnOf x qual (gU st) (gc st) (a9 st) .none kV doc pm an aL ct) #[us,[]]=pure (ps.zip us)):pZ K fd ps []:=by
 let#[oc,od,kV,doc,pm,an,aL,ct,jy,rfl,lk,iG]:=F.ex;exact .all (h kV doc pm an aL ct)
theorem Qz{x qual:Str}{st:Stmt}{f:Addr}{oc:Aa}{od an:Option Addr}{jy:Array (Option Aa)}{kV doc pm aL ct:Aa}(l:K.lookup f=some #[oc,od,.func (PySem.W.fnOf x qual (gU st) (gc st) (a9 st) .none kV doc pm an aL ct),jy])
  (c:PySem.W.codeIn K aL qual=true) (k:PySem.W.keepIn K (.ref f)=true):bo K x qual st f (PySem.W.fnOf x qual (gU st) (gc st) (a9 st) .none kV doc pm an aL ct):=#[#[oc,od,kV,doc,pm,an,aL,ct,jy,U,l,c],k]
end
theorem fH{A:Ag}{k:Nat}(hr:aP k A):A.units+1<cLine:=Nat.lt_of_le_of_lt (Nat.add_le_add_left (by decide:1<=64) _) hr.units
section
variable{X:Cx}
theorem pv(i:Nat){x:Str}{pos:Pos}(hN:X.N[i]? = some x:=by rfl)(hv:OM X.env.scope x:=by first|exact Or.inl U|exact Or.inr (Or.inl U)|exact Or.inr (Or.inr U))(hd:(x == ("__debug__":Str))=false:=by decide)
  (iG:(x == ("__classdict__":Str))=false:=by decide):PE X (.Name x pos) (oK i):=Ye hN hv hd iG
inductive T6 (xs:ag) (H:Hp) (Q:VK):Prop
 |mk:∀a kvs,xs=[V.ref a]->H a\.dK kvs->Q (.int kvs.length) H->T6 xs H Q
theorem _M:gr X (.builtin "len") T6:=by
 intro pins s σ H xs us Q I r h;let#[a,kvs,rfl,ha,q]:=h;let#[u,rfl,ru]:=vals1 r;cases ru;exact XZ I (.inl ha) λt s' I'=>#[.int kvs.length,H,I',#[t,U],q]
end
theorem aM{A B:Prop}(h:B):if false=true then A else B:=by
 rw[aC gN];exact h
theorem c_{A B:Prop}(h:A):if true=true then A else B:=by
 rw[aI U];exact h
theorem bQ{c A B:Prop}[Decidable c](h1:c->A)(h2:¬c->B):if c then A else B:=by
 by_cases h:c
 ·rw[aI h];exact h1 h
 rw[aC h];exact h2 h
theorem xU{c A B:Prop}[Decidable c](hc:c)(h:B):if (!decide c)=true then A else B:=by
 rw[cw hc];exact aM h
def aa(H H':Hp):Prop:=∀b o,H b\o->H' b\o
theorem aa.refl(H:Hp):aa H H:=λ_ _ h=>h
theorem aa.trans{H H1 H2:Hp}(a:aa H H1)(b:aa H1 H2):aa H H2:=λc o h=>b c o (a c o h)
theorem aa.free{H H':Hp}(e:aa H H'){l:Addr}(h:H' l=Option.none):H l=Option.none:=by
 cases q:H l with
 |none=>rfl
 |some o=>
  rw[e l o q] at h;cases h
section
variable{κ:Type}[DecidableEq κ]
theorem YC{kvs:List (κ × V)}{k:κ}{v:V}(h:aU kvs k\v):k∈kvs.map (·.1):=by
 have q:(kvs.any λkv=>decide (kv.1=k))=true:=by
  rw[B7,h]
  all_goals rfl
 let#[p,hp,e]:=List.any_eq_true.mp q;exact bG.mpr #[p,hp,tL e]
end
end L2
local macro_rules|`(%[$x,*|$_])=>do return (<-x.getElems.foldrM (λe (a:Lean.Term)=>if e.raw.isNatLit?.isSome then`(L2.eW (L2.pv $e) $a)else`(L2.eW $e $a)) (<-`(L2.bK)))
namespace L2
open PySem PySem.Spec PyProof.Rows
def jc(env:Env):List (Str × NameKind)->List (Str × Addr)->List (Str × Addr)
 |[],cs=>cs
 |(n,k)::r,cs=>jc env r (if k == .free then (n,(env.cells.lookup n).getD 0)::cs else cs)
theorem Ou{env:Env}(f:Str × NameKind->List (Str × Addr)->Sem (ForInStep (List (Str × Addr))))
  (hf:∀n k cs,f (n,k) cs=if (k == .free)=true then (do let a <- cellOf env n;pure (.yield ((n,a)::cs))) else pure (.yield cs)) :
  ∀(names:List (Str × NameKind)) (cs:List (Str × Addr)),(∀x∈names,x.2=.free->∃c,env.cells.lookup x.1\c)->forIn names cs f=(pure (jc env names cs):Sem _)
 |[],cs,_=>by rw[u7];rfl
 |(n,k)::r,cs,h=>by
  rw[wJ,hf];have hr:∀x∈r,x.2=.free->∃c,env.cells.lookup x.1\c:=λx hx=>h x (fX _ hx);unfold jc;by_cases hk:(k == NameKind.free)=true
  ·let#[c,hc]:=h (n,k) gF ⇑hk;have hc:env.cells.lookup n\c:=hc;rw[aI hk,aI hk];have e:cellOf env n=pure c:=by unfold cellOf;rw[hc]
   rw[e];simp only[pure_bind];rw[Ou f hf r _ hr,hc];rfl
  rw[aC hk,aC hk];simp only[pure_bind];exact Ou f hf r _ hr
theorem Uq{scope:Scope}{env:Env}(h:∀x∈scope.names,x.2=.free->∃c,env.cells.lookup x.1\c):closureFor scope env=pure (jc env scope.names []):=by
 simp only[closureFor];rw[Ou (env:=env) _ (λn k cs=>by by_cases hk:(k == NameKind.free)=true<;>simp[hk]) scope.names [] h]
 simp only[pure_bind]
theorem Tc{env:Env}:∀{names:List (Str × NameKind)} {cs:List (Str × Addr)} {x:Str} {c:Addr},(x,c)∈jc env names cs->(x,c)∈cs∨((x,NameKind.free)∈names/\c=(env.cells.lookup x).getD 0)
 |[],cs,x,c,h=>.inl h
 |(n,k)::r,cs,x,c,h=>by
  unfold jc at h;rcases Tc h with h|⟨h,e⟩
  ·by_cases hk:(k == NameKind.free)=true
   ·rw[aI hk] at h;rcases bZ.mp h with q|q
    ·cases q;have:k=.free:=⇑hk
     subst this;exact .inr #[gF,U]
    exact .inl q
   rw[aC hk] at h;exact .inl h
  exact .inr #[fX _ h,e]
theorem Oi{env:Env}:∀{names:List (Str × NameKind)} {cs:List (Str × Addr)} {x:Str},(x,NameKind.free)∈names∨(∃c,(x,c)∈cs)->∃c,(x,c)∈jc env names cs
 |[],cs,x,h=>by
  rcases h with h|h
  ·cases h
  ·exact h
 |(n,k)::r,cs,x,h=>by
  unfold jc;apply Oi ?_;rcases h with h|⟨c,h⟩
  ·rcases bZ.mp h with e|h
   ·cases e;exact .inr #[(env.cells.lookup n).getD 0,by rw[aI (by decide)];exact gF]
   exact .inl h
  apply .inr #[c,?_];split
  ·exact fX _ h
  exact h
theorem Ow:∀(names:List (Str × NameKind)) (n:Nat) (acc cl:List (Str × Addr)),cellsFrom n names (acc++cl)=cellsFrom n names acc++cl
 |[],_,_,_=>rfl
 |(x,k)::r,n,acc,cl=>by
  unfold cellsFrom;split
  ·exact Ow r (n+1) ((x,n)::acc) cl
  exact Ow r n acc cl
theorem Ox:∀{names:List (Str × NameKind)} {n:Nat} {acc:List (Str × Addr)} {x:Str} {c:Addr},(x,c)∈cellsFrom n names acc->(x,c)∈acc∨(x,NameKind.cell)∈names
 |[],_,_,_,_,h=>.inl h
 |(y,k)::r,n,acc,x,c,h=>by
  unfold cellsFrom at h;by_cases hk:(k == NameKind.cell)=true
  ·rw[aI hk] at h;rcases Ox h with h|h
   ·rcases bZ.mp h with e|h
    ·cases e;have:k=.cell:=⇑hk
     subst this;exact .inr gF
    exact .inl h
   exact .inr (fX _ h)
  rw[aC hk] at h;rcases Ox h with h|h
  ·exact .inl h
  exact .inr (fX _ h)
theorem Ot{α:Type}:∀{l:List (Str × α)} {x:Str} {c:α},(x,c)∈l->∃c',l.lookup x\c'
 |(k,v)::r,x,c,h=>by
  rw[qi];cases hb:x == k with
  |true=>exact#[v,U]
  |false=>
   rcases bZ.mp h with e|h
   ·cases e;simp at hb
   exact Ot h
def jM(scope:Scope)(C:Addr)(env:Env):Env:=
 { scope:=relabel scope env,locals:=C,globals:=env.globals,cells:=cellsFrom (C+1) scope.names (jc env scope.names []),qual:=env.qual,func:=none,code:=env.code,frame:=env.frame,builtins:=env.builtins }
theorem Uc{M:Model}{A:Ag}{E:Aa->Ab->Prop}{s:Ab}{scope:Scope}{cl:List (Str × Addr)}{env:Env}{Q:Env->Ab->Prop}
  (h:Q { scope:=scope,locals:=s.heap.objs.size,globals:=env.globals,cells:=cellsFrom (s.heap.objs.size+1) scope.names cl,qual:=env.qual,func:=none,code:=env.code,frame:=env.frame,builtins:=env.builtins }
   { s with heap:=pushCells (s.heap.push { cls:=.type "dict",data:=.dict #[] }) scope.names }) :
  wpAny M A (newFunctionEnv scope env.globals cl [] env.qual none .none (some env)) Q E s:=by
 simp only[newFunctionEnv,Option.isSome_some,if_true];apply af (wpAny_alloc ?_);apply af (wpAny_layCells _ (λname kind cells=>by cases _U:kind == NameKind.cell<;>simp[_U]) _ _ _ _ ?_)
 rw[show ({ s with heap:=s.heap.push { cls:=.type "dict",data:=.dict #[] } }:Ab).heap.objs.size=s.heap.objs.size+1 from mj ..];rw[u7];exact af (aF (aF h))
def Ii(PN:ae)(ps:Scope)(N:ae)(own:Nat)(fr:List Nat)(scope:Scope):Bool:=
 decide (scope.kind=.function)&&decide N.Nodup&&decide (own+fr.length=N.length)
 && (scope.names.all λy=>decide (scope.names.lookup y.1\y.2))
 && (scope.names.all λy=>if y.2=.free then decide (ps.names.lookup y.1\.cell) || decide (ps.names.lookup y.1\.free) else true)
 && ((fr.map λj=>PN[j]?) == (N.drop own).map some)
 && ((N.drop own).all λx=>decide (scope.names.lookup x\.free))
structure mT (PN:ae) (ps:Scope) (N:ae) (own:Nat) (fr:List Nat) (scope:Scope):Prop where
 kind:scope.kind=.function
 nd:N.Nodup
 len:own+fr.length=N.length
 look:∀y∈scope.names,scope.names.lookup y.1\y.2
 par:∀y∈scope.names,y.2=.free->ps.names.lookup y.1\.cell∨ps.names.lookup y.1\.free
 o9:(fr.map λj=>PN[j]?)=(N.drop own).map some
 frk:∀x∈N.drop own,scope.names.lookup x\.free
theorem mT.of{PN:ae}{ps:Scope}{N:ae}{own:Nat}{fr:List Nat}{scope:Scope}(h:Ii PN ps N own fr scope=true):mT PN ps N own fr scope:=by
 unfold Ii at h;simp only[Bool.and_eq_true,decide_eq_true_eq,List.all_eq_true,beq_iff_eq] at h;let#[#[#[#[#[#[h1,h2],h3],h4],h5],h6],h7]:=h;apply#[h1,h2,h3,h4,λy hy e=>?_,h6,h7];let q:=h5 y hy;rw[aI e] at q;simpa using q
def A4(own:Nat)(fr:List Nat)(σ:St):St:=List.replicate own none++fr.map λj=>(σ[j]?).join
def ik(X:Cx)(N:ae)(scope:Scope)(fp:au)(s:Ab)(H:Hp):Cx where
 prog:=X.prog
 w:=X.w
 K:=X.K
 mg:=X.mg
 base:=X.base
 A:=X.A
 N:=N
 di:=s
 j8:=H
 env:=jM scope s.heap.objs.size X.env
 outer:=X.stack
 stack:=X.stack
 ex:=fp
 fn:=λx=>decide (scope.names.lookup x\.local) || decide (scope.names.lookup x\.cell)
 calm:=X.calm
 pn:=[]
 xe:=λ_ _=>False
theorem TV{ps:Scope}{env:Env}(he:env.scope=ps){x:Str}:∀{names:List (Str × NameKind)} {k:NameKind},names.lookup x\k->
  (names.map λ(n,k)=>if (k == NameKind.free&&env.scope.kind == .function&&env.kindOf n == some .cell) then (n,NameKind.cell) else (n,k)).lookup x =
   some (if (k == NameKind.free&&env.scope.kind == .function&&env.kindOf x == some .cell) then .cell else k)
 |(n,k')::r,k,h=>by
  rw[qi] at h;rw[eJ];cases hb:x == n with
  |true=>
   rw[hb] at h;cases h;have e:x=n:=⇑hb
   subst e;dsimp only;split<;>simp[qi]
  |false=>
   rw[hb] at h;let ih:=TV he (env:=env) h;dsimp only;split<;>(rw[qi,hb];exact ih)
theorem NN{env:Env}{x:Str}:∀{names:List (Str × NameKind)} {k:NameKind},(names.map λ(n,k)=>if (k == NameKind.free&&env.scope.kind == .function&&env.kindOf n == some .cell) then (n,NameKind.cell) else (n,k)).lookup x\k->∃k',names.lookup x\k'/\(k'=k∨(k'=.free/\k=.cell))
 |(n,k')::r,k,h=>by
  rw[eJ] at h;rw[qi];dsimp only at h;cases hb:x == n with
  |true=>
   apply#[k',U,?_];by_cases hc:(k' == NameKind.free&&env.scope.kind == .function&&env.kindOf n == some .cell)=true
   ·rw[aI hc,qi,hb] at h;cases h;simp only[Bool.and_eq_true,beq_iff_eq] at hc;exact .inr #[hc.1.1,U]
   ·rw[aC hc,qi,hb] at h;cases h;exact .inl U
  |false=>
   have h':(r.map λ(n,k)=>if (k == NameKind.free&&env.scope.kind == .function&&env.kindOf n == some .cell) then (n,NameKind.cell) else (n,k)).lookup x\k:=by
    split at h<;>(rw[qi,hb] at h;exact h)
   exact NN h'
theorem dz_{α:Type}{x:Str}{c:α}:∀{l r:List (Str × α)},(l++r).lookup x\c->(x,c)∈l∨(x,c)∈r:=λh=>dJ.mp (qf h)
section
variable{X:Cx}{pins:List (Addr × Obj)}{σ:St}{H:Hp}{s:Ab}{N:ae}{own:Nat}{fr:List Nat}{scope:Scope}{fp:au}
theorem Sz(I:Inv X pins σ H s)(S:mT X.N X.env.scope N own fr scope){x:Str}{c:Addr}(h:(x,c)∈jc X.env scope.names []):X.env.cells.lookup x\c/\(x,NameKind.free)∈scope.names:=by
 rcases Tc h with h|⟨h,e⟩
 ·cases h
 let#[c',hc]:=I.ok.has x (S.par _ h U);apply#[?_,h];rw[e,hc];rfl
theorem Inv.block(I:Inv X pins σ H s)(S:mT X.N X.env.scope N own fr scope)(G4:∀b∈fp,dA X pins H b)(hfo:∀b∈fp,∃o,s.heap.get? b\o) :
  Inv (ik X N scope fp s H) [] (A4 own fr σ) H { s with heap:=pushCells (s.heap.push { cls:=.type "dict",data:=.dict #[] }) scope.names }:=by
 have kept:∀b o,s.heap.get? b\o->(pushCells (s.heap.push { cls:=.type "dict",data:=.dict #[] }) scope.names).get? b\o:=λb o e=>pushCells_keeps _ _ b o (aQ _ e);let IF:=cellsFrom_ok scope.names (s.heap.push { cls:=.type "dict",data:=.dict #[] }) (s.heap.objs.size+1) [] #[λ_ _ hm=>(nomatch hm),List.Pairwise.nil] (by rw[mj];exact bh _);rw[mj] at IF;have ecs:cellsFrom (s.heap.objs.size+1) scope.names (jc X.env scope.names [])=cellsFrom (s.heap.objs.size+1) scope.names []++jc X.env scope.names []:=Ow _ _ [] _
 have g8:∀{x c},(cellsFrom (s.heap.objs.size+1) scope.names (jc X.env scope.names [])).lookup x\c->((x,c)∈cellsFrom (s.heap.objs.size+1) scope.names []/\(x,NameKind.cell)∈scope.names/\s.heap.objs.size+1<=c)∨(X.env.cells.lookup x\c/\(x,NameKind.free)∈scope.names):=λ{x c} h=>by
  rw[ecs] at h;rcases dz_ h with h|h
  ·apply .inl #[h,?_,(IF.empty _ _ h).2];rcases Ox h with q|q
   ·cases q
   exact q
  exact .inr (Sz I S h)
 have Dq:∀{x c},X.env.cells.lookup x\c->c<s.heap.objs.size:=λ{x c} h=>by
  let#[v,hv]:=I.cell x c h;exact hv.lt
 have hb:∀b∈fp,b<s.heap.objs.size:=λb hb=>let #[o,e]:=hfo b hb;bx e
 apply#[#[I.ok.mod,S.kind,I.ok.glob,I.ok.blt,bh _,λx y c h1 h2=>?_,λx hx=>?_,λx c hf h=>?_,I.ok.hd,I.ok.frames,.inl U,λb xJ=>#[dG (hb b xJ),λx c h=>?_],I.bs,?_,λb o e xJ=>?_,λb xJ hs=>?_,I.stack,I.nh],
  rfl,I.bare,Un.kept kept,#[_,(Heap.Ns.new s.heap (.type "dict")).keeps (pushCells_keeps _ _),λi x v h1 h2 h3=>?_],λx c h=>?_,I.aA.fresh (bh _),λx c h=>?_,λp hp=>absurd (show p∈([]:List (Addr × Obj)) from hp) Y0,I.aA.kept kept,?_]
 ·-- inj
  rcases g8 h1 with⟨m1,k1,l1⟩|⟨m1,k1⟩<;>rcases g8 h2 with⟨m2,k2,l2⟩|⟨m2,k2⟩
  ·exact name_of_addr IF.apart m1 m2
  ·exact absurd (Dq m2) (Nat.not_lt.mpr (Nat.le_of_succ_le l1))
  ·exact absurd (Dq m1) (Nat.not_lt.mpr (Nat.le_of_succ_le l2))
  exact I.ok.inj x y c m1 m2
 ·-- has
  have key:(x,NameKind.cell)∈scope.names∨(x,NameKind.free)∈scope.names:=by
   rcases hx with hx|hx
   ·let#[k',e,q]:=NN (env:=X.env) (show _\NameKind.cell from hx);let m:=qf e;rcases q with q|⟨q,_⟩
    ·exact .inl (q▸m)
    exact .inr (q▸m)
   let#[k',e,q]:=NN (env:=X.env) (show _\NameKind.free from hx);let m:=qf e;rcases q with q|⟨_,q⟩
   ·exact .inr (q▸m)
   cases q
  show ∃c,(cellsFrom (s.heap.objs.size+1) scope.names (jc X.env scope.names [])).lookup x\c
  have:((cellsFrom (s.heap.objs.size+1) scope.names (jc X.env scope.names [])).lookup x).isSome=true:=by
   apply PySem.W.cellsFrom_some _ _ _ ?_;rcases key with q|q
   ·exact .inl (S.look _ q)
   let#[c,m]:=Oi (env:=X.env) (names:=scope.names) (cs:=[]) (x:=x) (.inl q);let#[c',e]:=Ot m;exact .inr (by rw[e];rfl)
  exact Option.isSome_iff_exists.mp this
 ·-- B1
  rcases g8 h with⟨_,_,l⟩|⟨_,k⟩
  ·exact Nat.le_of_succ_le l
  let e:=S.look _ k;have hf:(decide (scope.names.lookup x\.local) || decide (scope.names.lookup x\.cell))=true:=hf;rw[show scope.names.lookup x\.free from e] at hf;exact absurd hf (by decide)
 ·rcases g8 h with⟨_,_,l⟩|⟨q,_⟩
  ·exact iu (jt (hb b xJ) (Nat.le_of_succ_le l))
  exact (G4 b xJ).2.2.2.2.1 x c q
 ·exact iQ I.ok.tV I.sz
 ·rcases (G4 b xJ).2.2.2.1 with q|q
  ·exact I.ok.si b o e q
  exact absurd (jt (bx e) I.ok.tV) Z2
 ·rcases bZ.mp (I.kU b hs) with q|q
  ·exact (G4 b xJ).2.1 q
  exact (G4 b xJ).2.2.1 q
 ·-- names
  have hi:own<=i:=by
   apply Nat.le_of_not_lt λdI=>?_;unfold A4 at h2;rw[yi (by rw[Cc];exact dI),List.getElem?_replicate,aI dI] at h2;cases h2
  have gT:(fr.map λj=>(σ[j]?).join)[i - own]? = some (some v):=by
   unfold A4 at h2;rw[Be (by rw[Cc];exact hi),Cc] at h2;exact h2
  have h1:N[i]? = some x:=h1;have hx:(N.drop own)[i - own]? = some x:=by rw[List.getElem?_drop,show own+(i - own)=i by omega];exact h1
  rw[dF] at gT;cases ej:fr[i - own]? with
  |none=>rw[ej] at gT;cases gT
  |some j=>
   rw[ej] at gT;have gT:(σ[j]?).join\v:=cX gT
   have sQ:σ[j]? = some (some v):=by
    cases q:σ[j]? with
    |none=>rw[q] at gT;cases gT
    |some o=>rw[q] at gT;exact eg some gT
   have hN:X.N[j]? = some x:=by
    let q:=eg (λl=>l[i - own]?) S.o9;simp only[dF,ej,hx,Option.map_some] at q;exact cX q
   let kf:=S.frk x (cZ hx);let mf:=qf kf;let#[m,hm,hv]:=I.loc;let pk:=S.par _ mf U;let#[u,ru,lk]:=hv j x v hN sQ (pk.elim (λq=>.inr (.inl q)) λq=>.inr (.inr q));apply#[u,ru,?_];have PL:X.env.kindOf x\.cell∨X.env.kindOf x\.free:=pk;rcases lk with⟨k,_⟩|⟨_,c,hc,oh⟩
   ·rw[k] at PL;rcases PL with q|q<;>cases q
   let#[c',m1]:=Oi (env:=X.env) (names:=scope.names) (cs:=[]) (x:=x) (.inl mf);let e1:=(Sz I S m1).1;rw[hc] at e1;cases e1;apply .inr #[?_,c,?_,oh.keeps kept]
   ·let q:=TV (env:=X.env) U kf;show (relabel scope X.env).names.lookup x\.cell∨(relabel scope X.env).names.lookup x\.free;unfold relabel;rw[q];split
    ·exact .inl U
    exact .inr U
   let#[c2,e2]:=Option.isSome_iff_exists.mp (PySem.W.cellsFrom_some (x:=x) scope.names (s.heap.objs.size+1) (jc X.env scope.names []) (.inr (by let#[c',e]:=Ot m1;rw[e];rfl)));show (cellsFrom (s.heap.objs.size+1) scope.names (jc X.env scope.names [])).lookup x\c;rcases g8 e2 with⟨_,q,_⟩|⟨q,_⟩
   ·have:=S.look _ q;rw[show scope.names.lookup x\.free from kf] at this;cases this
   rw[hc] at q;cases q;exact e2
 ·-- cells
  rcases g8 h with⟨q,_,_⟩|⟨q,_⟩
  ·exact#[_,(IF.empty _ _ q).1]
  let#[v,hv]:=I.cell x c q;exact#[v,hv.keeps kept]
 ·rcases g8 h with⟨q,_,l⟩|⟨q,_⟩
  ·exact I.aA.fresh Z2
  exact I.d7 x c q
 show (A4 own fr σ).length=N.length;unfold A4;rw[d5,Cc,av];exact S.len
end
def FO(X:Cx)(ifs:List Expr)(t:TT):Prop:=
 ∀(pins:List (Addr × Obj)) (s:Ab) (σ:St) (H:Hp) (Q:Bool->Hp->Prop),Inv X pins σ H s->t σ H Q->
  wpAny (model X.prog X.w) X.A (forIn ifs true λc r=>if r=true then do let ok <- isTrue c X.env (eval c X.env);pure (ForInStep.yield ok) else pure (ForInStep.yield r)) (TP X pins σ Q) X.xe s
def qw:TT:=λ_ H Q=>Q true H
theorem fA{σ:St}{H:Hp}{A B:Hp->Prop}(h:A H):qw σ H λb H4=>if b=true then A H4 else B H4:=by
 unfold qw;exact c_ h
theorem kI{X:Cx}:FO X [] qw:=λ_ _ _ H _ I h=>wpAny_tests_nil #[H,I,h]
theorem Ib{X:Cx}{c:Expr}{t:TT}(h:PT X c t):FO X [c] t:=λpins s σ H Q I q=>wpAny_tests_one (h pins s σ H Q I q)
def AJ(J:It)(g:TG)(tc:TT)(te:TE)(kh:St)(D:Addr)(H1:Hp)(Q:VK):Prop:=∃W:Nat->Nat->St->Hp->Prop,
 (∃m,W 0 m kh (upd H1 D (.lst [])))/\∀i m aZ H',W i m aZ H'->(J.stop i H'/\Q (.ref D) H') ∨
  (J.go i H'/\∃Nx:St->Hp->Prop,(∀fw H2,Nx fw H2->∃m',m'<m/\W (i+1) m' fw H2) /\
   ∀x H2,J.uA i H' x H2->g x aZ H2 λkg H3=>tc kg H3 λb H4=>if b=true then te kg H4 λy H5=>∃out,H5 D\.lst out/\out.length<sizeLine/\Nx kg (upd H5 D (.lst (out++[y]))) else Nx kg H4)
def w4(wi:TI)(own:Nat)(fr:List Nat)(g:TG)(tc:TT)(te:TE):TE:=λσ H Q=>wi σ H λJ H1=>∀D,H1 D=none->AJ J g tc te (A4 own fr σ) D H1 Q
section
variable{X:Cx}{tg iter elt:Expr}{ifs:List Expr}{scope:Scope}{pos:Pos}{wi:TI}{g:TG}{tc:TT}{te:TE}{N:ae}
theorem QJ{R:Result->Ab->Prop}{own:Nat}{fr:List Nat}{pins:List (Addr × Obj)}{σ:St}{H1:Hp}{s2:Ab}{it:Addr}{fp:au}{tn:Nat->Heap->Prop}{J:It}{D:Addr}{Q:VK}
  (S:mT X.N X.env.scope N own fr scope) (hc:X.calm=true) (hg:∀fp s H,PG (ik X N scope fp s H) tg g) (ht:∀fp s H,FO (ik X N scope fp s H) ifs tc) (he:∀fp s H,PE (ik X N scope fp s H) elt te)
  (I3:Inv X pins σ (upd H1 D (.lst [])) s2) (T:Turn X.prog X.w X.K tg J fp it tn) (st:tn 0 s2.heap) (f2:∀b∈fp,dA X pins (upd H1 D (.lst [])) b)
  (k:AJ J g tc te (A4 own fr σ) D H1 Q)
  (hR:∀H' s',Inv X pins σ H' s'->(∃m,s'.heap.Ns s2.heap.objs.size m)->H' s2.heap.objs.size=none->Q (.ref D) H'->R (.ok .next) s') :
  codeAny (model X.prog X.w) X.A (.compStart (.ListComp elt [#[tg,iter,ifs,0]] scope pos) 0 (.ref it) (.ref D) (jM scope s2.heap.objs.size X.env)) R
   { s2 with heap:=pushCells (s2.heap.push { cls:=.type "dict",data:=.dict #[] }) scope.names }:=by
 let#[W,#[m0,w0],turn]:=k;let I4:=I3.block (N:=N) S f2 (λb hb=>let #[o,e,_]:=T.obj _ _ st b hb;#[o,e]);have kept:∀b o,s2.heap.get? b\o->(pushCells (s2.heap.push { cls:=.type "dict",data:=.dict #[] }) scope.names).get? b\o:=λb o e=>pushCells_keeps _ _ b o (aQ _ e);have gS:tn 0 (pushCells (s2.heap.push { cls:=.type "dict",data:=.dict #[] }) scope.names):=T.keep _ _ _ st λb hb o e=>kept b o e
 have fx:∀{H':Hp},(∀b∈fp,H' b=none)->∀b∈fp,dA (ik X N scope fp s2 (upd H1 D (.lst []))) [] H' b:=λhn b hb=>
  #[hn b hb,(I4.ok.Hl b hb).1,I4.ok.tG b hb,.inl hb,(I4.ok.Hl b hb).2,λp hp=>absurd (show p∈([]:List (Addr × Obj)) from hp) Y0]
 have loop:codeAny (model X.prog X.w) X.A (.compLoop (.ListComp elt [#[tg,iter,ifs,0]] scope pos) 0 (.ref it) (.ref D) (jM scope s2.heap.objs.size X.env)) R
   { s2 with heap:=pushCells (s2.heap.push { cls:=.type "dict",data:=.dict #[] }) scope.names }:=by
  apply codeAny_loop U (λn s'=>∃i aZ H',Inv (ik X N scope fp s2 (upd H1 D (.lst []))) [] aZ H' s'/\tn i s'.heap/\(∀b∈fp,H' b=none)/\W i n aZ H') (λn s' hI=>?_) m0 #[0,_,_,I4,gS,λb hb=>(f2 b hb).1,w0];let#[i,aZ,H',I5,gi,o_,w5]:=hI;show wpAny _ X.A ((compTurn (.ListComp elt [#[tg,iter,ifs,0]] scope pos) 0 (.ref it) (.ref D) (jM scope s2.heap.objs.size X.env)).onRaise (λx=>do noteFrame x (jM scope s2.heap.objs.size X.env);theTreesLotGoes x)) _ _ s';apply wpAny_noted (wpAny_mono (E:=λ_ _=>False) ?_ (λ_ _ q=>q) λ_ _ q=>q.elim);rw[compTurn_list];apply af (wpAny_standAt (af ?_));rcases turn i n aZ H' w5 with⟨stop,q⟩|⟨go,Nx,hN,step⟩
  ·apply aO (T.done (ik X N scope fp s2 (upd H1 D (.lst []))) U U U hc i [] s' aZ H' _ I5 (fx o_) gi stop) λr s6 ⟨hr,I6⟩=>?_;subst hr;apply aF (hR H' s6 (I3.Fj I6.os I6.base I6.aA I6.bare λb hb=>?_) ?_ I6.free q)
   ·exact#[(f2 b hb).2.2.2.1,(f2 b hb).2.1,(f2 b hb).2.2.2.2.1,(f2 b hb).2.2.2.2.2]
   let#[m,hm,_]:=I6.loc;exact#[m,hm]
  apply aO (T.item (ik X N scope fp s2 (upd H1 D (.lst []))) U U U hc i [] s' aZ H' _ I5 (fx o_) gi go) λr s6 ⟨u,hr,h6⟩=>?_;subst hr;apply af (aO h6 λ_ s7 ⟨x,H7,I7,r7,y7,i0,xP⟩=>?_);let I7':=I7.pinned (fx xP) (T.obj _ _ i0)
  have back:∀{uz:St} {H8:Hp} {s8:Ab},Inv (ik X N scope fp s2 (upd H1 D (.lst []))) ([]++wG fp s7.heap) uz H8 s8->Nx uz H8->∃m,m<n/\∃i aZ H',Inv (ik X N scope fp s2 (upd H1 D (.lst []))) [] aZ H' s8/\tn i s8.heap/\(∀b∈fp,H' b=none)/\W i m aZ H':=λ{uz H8 s8} I8 n8=>by
   let#[m',hm,w8]:=hN uz H8 n8;apply#[m',hm,i+1,uz,H8,I8.eN,T.keep _ _ _ i0 λb hb o e=>(I8.pin (b,o) (kP _ (kP _ (Je hb e)))).1,λb hb=>?_,w8];let#[o,e,d]:=T.obj _ _ i0 b hb;exact (I8.pin (b,o) (kP _ (kP _ (Je hb e)))).2.1
  apply af (aO (hg fp s2 (upd H1 D (.lst [])) _ s7 aZ H7 x u _ I7' r7 (step x H7 y7)) λ_ s8 ⟨uz,H8,I8,q8⟩=>?_);apply af (aO (ht fp s2 (upd H1 D (.lst [])) _ s8 uz H8 _ I8 q8) λb s9 ⟨H9,I9,q9⟩=>?_);cases b with
  |false=>
   simp only[qk,if_false] at q9 ⊢;exact aF #[U,back I9 q9]
  |true=>
   simp only[if_true] at q9 ⊢;apply af (af (aO (he fp s2 (upd H1 D (.lst [])) _ s9 uz H9 _ I9 q9) λy Dc ⟨yv,H10,I10,Wg,out,hD,hz,Kf⟩=>?_));apply af (aO (wD (X:=ik X N scope fp s2 (upd H1 D (.lst []))) _ Dc uz H10 (.ref D) [yv] (.ref D) [y] (λ_ H'=>Nx uz H') I10 U (.cons Wg .nil) #[D,out,yv,U,U,hD,hz,Kf]) λ_ s11 ⟨_,OX,I11,_,Ke⟩=>?_);exact aF (aF #[U,back I11 Ke])
 exact codeAny_compStart_list loop (T.self _ 0 _ _ _ gS loop)
theorem js(N:ae)(own:Nat)(fr:List Nat)(hi:PI X tg iter wi)(hg:∀fp s H,PG (ik X N scope fp s H) tg g)(ht:∀fp s H,FO (ik X N scope fp s H) ifs tc)(he:∀fp s H,PE (ik X N scope fp s H) elt te)
  (S:Ii X.N X.env.scope N own fr scope=true:=by kernel_rfl) (hc:X.calm=true:=by rfl) (hs:∀x,foldedSetIterable iter X.env x=pure x:=by intro _;rfl) :
  PE X (.ListComp elt [#[tg,iter,ifs,0]] scope pos) (w4 wi own fr g tc te):=by
 intro pins s σ H Q I h;let S':=mT.of S;rw[eval_ListComp];have s_:closureFor scope X.env=pure (jc X.env scope.names []):=Uq λx hx e=>I.ok.has x.1 (S'.par x hx e);apply wpAny_comprehension_free (use:=none) U hs s_ S'.kind (λx hx e=>by rw[S'.look x hx,e]) (aO (hi pins s σ H _ I h) λv s1 h1=>aO h1 λGM s2 h2=>?_);let#[it,fp,tn,J,H1,rfl,I2,T,eV,f2,k]:=h2;apply qa (Uc ?_);have hD:H1 s2.heap.objs.size=none:=I2.fresh;let I3:=I2.zB (ys:=[]) (its:=[]) (t':=s2.toks) .nil (gP _);have kept:∀b o,s2.heap.get? b\o->(s2.heap.push { cls:=.type "list",data:=.seq ([]:aj).toArray }).get? b\o:=λb o e=>aQ _ e;apply QJ (own:=own) (fr:=fr) (Q:=Q) S' hc hg ht he I3 T (T.keep _ _ _ eV λb hb o e=>kept b o e) (λb hb=>?_) (k _ hD) ?_
 ·apply#[?_,(f2 b hb).2];let#[o,e,_]:=T.obj _ _ eV b hb;rw[ax (dG (bx e))];exact (f2 b hb).1
 rintro H' s' I' ⟨m,hm⟩ hn q;apply#[m,hm,λh' hs'=>#[.ref s2.heap.objs.size,H',?_,U,q]]
 exact I'.turned (t':=s'.toks) (λb o hb e=>hs'.extBut b o hb e) hn (iu I3.lt) (.inr I3.sz) (λx c LI e=>by
  let#[v,hv]:=I3.cell x c LI
  exact absurd hv.lt (by rw[e];exact ue _)) λp hp e=>by
   have:=(I3.pin p hp).1;rw[e] at this;exact absurd (bx this) (ue _)
def CT(i:Nat)(te:TE):TS:=λD σ H=>te σ H λx H1=>D.nx (σ.set i (some x)) H1
theorem RC{i:Nat}{x:Str}{px:Pos}(N:ae)(own:Nat)(fr:List Nat)(hN:X.N.Nodup)(hi':X.N[i]? = some x)(hx:Loc X.env.scope x)
  (hi:PI X tg iter wi) (hg:∀fp s H,PG (ik X N scope fp s H) tg g) (ht:∀fp s H,FO (ik X N scope fp s H) ifs tc) (he:∀fp s H,PE (ik X N scope fp s H) elt te) {pos':Pos}
  (S:Ii X.N X.env.scope N own fr scope=true:=by kernel_rfl) (hc:X.calm=true:=by rfl) (hs:∀x,foldedSetIterable iter X.env x=pure x:=by intro _;rfl)
  (hf:X.fn x=true∨X.env.scope.names.lookup x\.local:=by first|exact .inl U|exact .inr U|assumption)
  (_z:swapsWith (.ListComp elt [#[tg,iter,ifs,0]] scope pos) (some (.Name x px)) pos'.line X.env=pure true:=by rfl) :
  PS X (.Assign [.Name x px] (.ListComp elt [#[tg,iter,ifs,0]] scope pos) pos') (CT i (w4 wi own fr g tc te)):=by
 intro pins s σ H E I h;let S':=mT.of S;rw[exec_Assign_Name_used _ _ _ _ _z];apply af (wpAny_standAt (af ?_));show wpAny _ X.A (do let _ <- comprehension (.ListComp elt [#[tg,iter,ifs,0]] scope pos) scope X.env _ (newList []) false (eval iter X.env) (some (assign (.Name x px) X.env))) _ _ s;have s_:closureFor scope X.env=pure (jc X.env scope.names []):=Uq λx hx e=>I.ok.has x.1 (S'.par x hx e)
 apply af (wpAny_mono (wpAny_comprehension_free (use:=some (assign (.Name x px) X.env)) (Q:=λ_ s'=>SP X pins E .next s') U hs s_ S'.kind (λx hx e=>by rw[S'.look x hx,e]) (aO (hi pins s σ H _ I h) λv s1 h1=>aO h1 λGM s2 h2=>?_))
  (λ_ s' hq=>aF (aF hq)) λ_ _ e=>e)
 let#[it,fp,tn,J,H1,rfl,I2,T,eV,f2,k]:=h2;apply qa (Uc ?_);have hD:H1 s2.heap.objs.size=none:=I2.fresh;let I3:=I2.zB (ys:=[]) (its:=[]) (t':=s2.toks) .nil (gP _);have kept:∀b o,s2.heap.get? b\o->(s2.heap.push { cls:=.type "list",data:=.seq ([]:aj).toArray }).get? b\o:=λb o e=>aQ _ e;apply QJ (own:=own) (fr:=fr) (Q:=λx H1=>E.nx (σ.set i (some x)) H1) S' hc hg ht he I3 T (T.keep _ _ _ eV λb hb o e=>kept b o e) (λb hb=>?_) (k _ hD) ?_
 ·apply#[?_,(f2 b hb).2];let#[o,e,_]:=T.obj _ _ eV b hb;rw[ax (dG (bx e))];exact (f2 b hb).1
 rintro H' s' I' ⟨m,hm⟩ hn q
 have uN:∀y c,X.env.cells.lookup y\c->c≠(s2.heap.push { cls:=.type "list",data:=.seq ([]:aj).toArray }).objs.size:=λy c LI e=>by
  let#[v,hv]:=I3.cell y c LI;exact absurd hv.lt (by rw[e];exact ue _)
 show wpAny _ X.A (assign (.Name x px) X.env (.ref s2.heap.objs.size)) _ _ s';apply wpAny_assign_Name (Tw (v:=V.ref s2.heap.objs.size) I' hN hi' hx U (λpM I'' ⟨a,pS,ha⟩=>?_) hf)
 have hCa:(s2.heap.push { cls:=.type "list",data:=.seq ([]:aj).toArray }).objs.size≠a:=by
  rcases ha with e|e
  ·rw[e];exact iu I3.lt
  exact (uN x a e).symm
 apply#[m,hm.sameBut pS hCa,λh' hs'=>#[_,H',?_,q]]
 exact I''.turned (t':=pM.toks) (λb o hb e=>hs'.extBut b o hb e) hn (iu I3.lt) (.inr I3.sz) uN λp hp e=>by
   have:=(I3.pin p hp).1;rw[e] at this;exact absurd (bx this) (ue _)
end
def Cg(g:TG)(own:Nat)(fv:List aE)(dec:V->Hp->List aE->Prop):Prop:=
 ∀(x:V) (o:List aE) (H:Hp) (k:iS) (o3:List aE),o.length=own->dec x H o3->k (o3++fv) H->g x (o++fv) H k
theorem fF{fv:List aE}:Cg (jQ 0) 1 fv (λx _ o3=>o3=[some x]):=λx o H k o3 hl e h=>by
 subst e
 match o,hl with
 |[a],_=>exact h
inductive Fb (K:ai) (x:V) (H:Hp) (o3:List aE):Prop
 |mk:∀p u v,x=.ref p->eD K H p [u,v]->o3=[some u,some v]->Fb K x H o3
inductive E_ (K:ai) (x:V) (H:Hp) (o3:List aE):Prop
 |mk:∀p u v w,x=.ref p->eD K H p [u,v,w]->o3=[some u,some v,some w]->E_ K x H o3
theorem Av{K:ai}{fv:List aE}:Cg (fR K 2 (pY (jQ 0) (pY (jQ 1) tw))) 2 fv (Fb K):=λx o H k o3 hl e h=>by
 let#[p,u,v,rfl,hp,rfl]:=e
 match o,hl with
 |[a,b],_=>exact#[p,[u,v],U,hp,U,u,[v],U,v,[],U,U,h]
theorem LZ{K:ai}{fv:List aE}:Cg (fR K 3 (pY (jQ 0) (pY (jQ 1) (pY (jQ 2) tw)))) 3 fv (E_ K):=λx o H k o3 hl e h=>by
 let#[p,u,v,w,rfl,hp,rfl]:=e
 match o,hl with
 |[a,b,c],_=>exact#[p,[u,v,w],U,hp,U,u,[v,w],U,v,[w],U,w,[],U,U,h]
theorem Ie{J:It}{g:TG}{tc:TT}{te:TE}{own:Nat}{fv:List aE}{dec:V->Hp->List aE->Prop}{D:Addr}{H:Hp}{Q:VK}{kh:St}(sQ:kh=List.replicate own none++fv)(G:Cg g own fv dec)(n:Nat)(Pv:Nat->ag->Hp->Prop)
  (h0:Pv 0 [] (upd H D (.lst []))) (Ed:∀out H',Pv n out H'->J.stop n H'/\Q (.ref D) H')
  (EB:∀i out H',i<n->Pv i out H'->J.go i H'/\∀x H2,J.uA i H' x H2->∃o3,dec x H2 o3/\o3.length=own/\∀Nx:Hp->Prop,(∀lZ H2,Pv (i+1) lZ H2->Nx H2)->
   tc (o3++fv) H2 λb H4=>if b=true then te (o3++fv) H4 λy H5=>∃gj,H5 D\.lst gj/\gj.length<sizeLine/\Nx (upd H5 D (.lst (gj++[y]))) else Nx H4) :
  AJ J g tc te kh D H Q:=by
 subst sQ;apply#[λi m aZ H'=>m=n - i/\i<=n/\(∃o:List aE,aZ=o++fv/\o.length=own)/\∃out,Pv i out H',#[n,by simp,gP _,#[_,U,Cc],_,h0],?_];rintro i m aZ H' ⟨rfl,hi,⟨o,rfl,ho⟩,out,p⟩;by_cases dI:i<n
 ·let#[go,k]:=EB i out H' dI p;apply .inr #[go,λfw H2=>(∃o:List aE,fw=o++fv/\o.length=own)/\∃out,Pv (i+1) out H2,λfw H2 q=>#[n - (i+1),by omega,U,dI,q],λx H2 y=>?_];let#[o3,d,l3,q]:=k x H2 y;exact G x o H2 _ o3 ho d (q (λH2=>(∃o:List aE,o3++fv=o++fv/\o.length=own)/\∃out,Pv (i+1) out H2) λlZ H2 z=>#[#[o3,U,l3],lZ,z])
 have e:i=n:=by omega
 subst e;exact .inl (Ed out H' p)
theorem kL{K:ai}{a:Addr}{xs:ag}{g:TG}{tc:TT}{te:TE}{own:Nat}{fv:List aE}{dec:V->Hp->List aE->Prop}{D:Addr}{H:Hp}{Q:VK}{kh:St}(sQ:kh=List.replicate own none++fv)(G:Cg g own fv dec)(Pv:Nat->ag->Hp->Prop)
  (h0:Pv 0 [] (upd H D (.lst []))) (hl:∀i out H',i<=xs.length->Pv i out H'->dU K H' a xs) (hd:∀out H',Pv xs.length out H'->Q (.ref D) H')
  (EB:∀i x out H',xs[i]? = some x->Pv i out H'->∃o3,dec x H' o3/\o3.length=own/\∀Nx:Hp->Prop,(∀lZ H2,Pv (i+1) lZ H2->Nx H2)->
   tc (o3++fv) H' λb H4=>if b=true then te (o3++fv) H4 λy H5=>∃gj,H5 D\.lst gj/\gj.length<sizeLine/\Nx (upd H5 D (.lst (gj++[y]))) else Nx H4) :
  AJ (yo K a) g tc te kh D H Q:=by
 apply Ie sQ G xs.length Pv h0 (λout H' p=>#[#[xs,hl _ _ _ (bh _) p,bh _],hd out H' p]) λi out H' hi p=>?_;let q:=hl i out H' (Nat.le_of_lt hi) p;apply#[#[xs,xs[i],q,by simp[hi]],λx H2 y=>?_];let#[e,y]:=y;subst e;exact EB i x out _ (y xs q) p
end L2
namespace mR
open PySem PySem.W PyProof.Rows
def Ok{α:Type}(f:Nat->Nat->Bool)(n:Nat):KasT α->(α->Prop)->Prop
 |.ret a,Q=>Q a
 |.ask i j k,Q=>i<n/\j<n/\Ok f n (k (f i j)) Q
theorem Ok.bind{α β:Type}{f:Nat->Nat->Bool}{n:Nat}{g:α->KasT β}{Q:β->Prop}:∀{t:KasT α} {R:α->Prop},Ok f n t R->(∀a,R a->Ok f n (g a) Q)->Ok f n (t.bind g) Q
 |.ret a,R,h,k=>k a h
 |.ask i j t,R,h,k=>#[h.1,h.2.1,Ok.bind h.2.2 k]
theorem Ok.imp{α:Type}{f:Nat->Nat->Bool}{n:Nat}{Q R:α->Prop}(k:∀a,Q a->R a):∀{t:KasT α},Ok f n t Q->Ok f n t R
 |.ret a,h=>k a h
 |.ask i j t,h=>#[h.1,h.2.1,Ok.imp k h.2.2]
theorem Ok.wp{α:Type}{f:Nat->Nat->Bool}{n:Nat}{cmp:Nat->Nat->(Bool->Ab->Prop)->Ab->Prop}{s:Ab}(hc:∀i j C,i<n->j<n->C (f i j) s->cmp i j C s){Q:α->Prop}{G:α->Ab->Prop}(k:∀a,Q a->G a s) :
  ∀{t:KasT α},Ok f n t Q->t.kasWp cmp G s
 |.ret a,h=>k a h
 |.ask i j t,h=>hc i j _ h.1 h.2.1 (Ok.wp hc k h.2.2)
structure Ord (f:Nat->Nat->Bool):Prop where
 fC:∀i,f i i=false
 trans:∀{i j k},f j i=false->f k j=false->f k i=false
 F4:∀{i j},f i j=true->f j i=false
section
variable{f:Nat->Nat->Bool}(O:Ord f){N:Nat}
abbrev at'(p:Array Nat)(i:Nat):Nat:=p.getD i 0
def Up(f:Nat->Nat->Bool)(p:Array Nat)(k:Nat):Prop:=∀i j,i<=j->j<k->f (at' p j) (at' p i)=false
def Down(f:Nat->Nat->Bool)(p:Array Nat)(k:Nat):Prop:=∀i j,i<=j->j<k->f (at' p i) (at' p j)=false
def pI(f:Nat->Nat->Bool)(p:Array Nat)(lo k:Nat):Prop:=∀i,lo<=i->i<k->f (at' p i) (at' p (k - 1))=false/\f (at' p (k - 1)) (at' p i)=false
def Good(N:Nat)(p:Array Nat):Prop:=p.Perm (List.range N).toArray
theorem Good.size{p:Array Nat}(h:Good N p):p.size=N:=by
 have:=h.size_eq;simpa using this
theorem Good.lt{p:Array Nat}(h:Good N p)(hN:0<N)(i:Nat):at' p i<N:=by
 unfold at';by_cases hi:i<p.size
 ·have e:p.getD i 0=p[i]:=by simp[Array.getD,hi]
  rw[e];have m:p[i]∈(List.range N).toArray:=h.mem_iff.mp (Array.getElem_mem hi);simpa using m
 have e:p.getD i 0=0:=by simp[Array.getD,hi]
 rw[e];exact hN
theorem Good.rev{p:Array Nat}(h:Good N p)(i j:Nat):Good N (kas_rev p i j):=(mirror_perm _ _ _ _).trans h
theorem Good.bub{p:Array Nat}(h:Good N p)(i j:Nat):Good N (bubble p i j):=(bubble_perm _ _ _).trans h
theorem Fq{p q:Array Nat}{i j:Nat}(h:p[i]? = q[j]?):at' p i=at' q j:=by
 unfold at';rw[Array.getD_eq_getD_getElem?,Array.getD_eq_getD_getElem?,h]
theorem AQ{p:Array Nat}{i j:Nat}(hj:j<=p.size)(k:Nat):at' (kas_rev p i j) k=if i<=k/\k<j then at' p (i+j - 1 - k) else at' p k:=by
 let e:=getElem?_mirror_all (i:=i) hj k;unfold kas_rev;split
 ·rename_i c
  rw[aI c] at e;exact Fq e
 rename_i c
 rw[aC c] at e;exact Fq e
theorem Qo{p:Array Nat}{k l:Nat}(hk:k<p.size)(hl:l<=k)(i:Nat):at' (bubble p k (k - l)) i=if i=l then at' p k else if l<i/\i<=k then at' p (i - 1) else at' p i:=by
 let e:=getElem?_bubble hk (k - l) Z2 i;rw[show k - (k - l)=l by omega] at e;by_cases c:i=l
 ·rw[aI c] at e ⊢;exact Fq e
 rw[aC c] at e ⊢;split
 ·rename_i d
  rw[aI d] at e;exact Fq e
 rename_i d
 rw[aC d] at e;exact Fq e
include O
theorem Up.more{p:Array Nat}{n:Nat}(h:Up f p n)(h1:1<=n)(c:f (at' p n) (at' p (n - 1))=false):Up f p (n+1):=λi j og hj=>by
 by_cases e:j<n
 ·exact h i j og e
 have e:j=n:=by omega
 subst e;by_cases e2:i=j
 ·subst e2;exact O.fC _
 exact O.trans (h i (j - 1) Z2 Z2) c
theorem Down.more{p:Array Nat}{n:Nat}(h:Down f p n)(h1:1<=n)(c:f (at' p (n - 1)) (at' p n)=false):Down f p (n+1):=λi j og hj=>by
 by_cases e:j<n
 ·exact h i j og e
 have e:j=n:=by omega
 subst e;by_cases e2:i=j
 ·subst e2;exact O.fC _
 exact O.trans c (h i (j - 1) Z2 Z2)
theorem Lm{p:Array Nat}(g:Good N p)(hN:0<N):∀(m n:Nat),1<=n->Up f p n->Ok f N (kas_asc p m n) λr=>n<=r/\r<=n+m/\Up f p r/\(r<n+m->f (at' p r) (at' p (r - 1))=true)
 |0,n,_,h=>#[bh _,bh _,h,λq=>absurd q Z2]
 |m+1,n,h1,h=>by
  apply#[g.lt hN _,g.lt hN _,?_];dsimp only;by_cases c:f (at' p n) (at' p (n - 1))=true
  ·rw[aI c];exact#[bh _,by omega,h,λ_=>c]
  rw[aC c];apply (Lm g hN m (n+1) Z2 (h.more O h1 ⇑c)).imp λr ⟨a,b,u,z⟩=>#[by omega,by omega,u,λq=>z Z2]
theorem pI.rev{p:Array Nat}{lo k:Nat}(h:pI f p lo k)(hk:k<=p.size)(i:Nat):f (at' (kas_rev p lo k) i) (at' p i)=false/\f (at' p i) (at' (kas_rev p lo k) i)=false:=by
 rw[AQ hk];split
 ·rename_i c
  let#[a1,a2]:=h i c.1 c.2;let#[b1,b2]:=h (lo+k - 1 - i) Z2 Z2;exact#[O.trans a2 b1,O.trans b2 a1]
 exact#[O.fC _,O.fC _]
theorem Down.rev{p:Array Nat}{lo k n:Nat}(h:Down f p n)(l:pI f p lo k)(hk:k<=p.size):Down f (kas_rev p lo k) n:=λi j og hj=>by
 let#[a1,_]:=l.rev O hk i;let#[_,b2]:=l.rev O hk j;exact O.trans (O.trans b2 (h i j og hj)) a1
theorem HZ(hN:0<N):∀(m:Nat) (p:Array Nat) (n q:Nat),Good N p->1<=n->q+1<=n->n+m<=N->Down f p n->pI f p (n - (q+1)) n->
  Ok f N (kas_desc m p n q) λr=>Good N r.1/\n<=r.2.1/\r.2.1<=n+m/\Down f r.1 r.2.1/\r.2.2+1<=r.2.1/\pI f r.1 (r.2.1 - (r.2.2+1)) r.2.1
 |0,p,n,q,g,h1,hq,hn,d,l=>#[g,bh _,bh _,d,hq,l]
 |m+1,p,n,q,g,h1,hq,hn,d,l=>by
  apply#[g.lt hN _,g.lt hN _,?_];dsimp only;by_cases c:f (at' p n) (at' p (n - 1))=true
  ·rw[aI c];have d2:Down f p (n+1):=d.more O h1 (O.F4 c)
   have one:∀p':Array Nat,pI f p' (n+1 - (0+1)) (n+1):=λp' i h2 h3=>by
    have e:i=n+1 - 1:=by omega
    subst e;exact#[O.fC _,O.fC _]
   by_cases QU:q > 0
   ·rw[aI QU];have hk:n<=p.size:=by rw[g.size];omega
    exact (HZ hN m _ (n+1) 0 (g.rev _ _) Z2 Z2 Z2 (d2.rev O l hk) (one _)).imp λr ⟨a,b,b2,z⟩=>#[a,by omega,by omega,z]
   rw[aC QU];exact (HZ hN m _ (n+1) 0 g Z2 Z2 Z2 d2 (one _)).imp λr ⟨a,b,b2,z⟩=>#[a,by omega,by omega,z]
  rw[aC c];apply#[g.lt hN _,g.lt hN _,?_];dsimp only;have c:f (at' p n) (at' p (n - 1))=false:=⇑c
  by_cases e:f (at' p (n - 1)) (at' p n)=true
  ·rw[aI e];exact#[g,bh _,by show n<=n+(m+1);omega,d,hq,l]
  rw[aC e];have e:f (at' p (n - 1)) (at' p n)=false:=⇑e
  apply (HZ hN m p (n+1) (q+1) g Z2 Z2 Z2 (d.more O h1 e) λi h2 h3=>?_).imp λr ⟨a,b,b2,z⟩=>#[a,by omega,by omega,z];show f (at' p i) (at' p n)=false/\f (at' p n) (at' p i)=false;by_cases ei:i=n
  ·subst ei;exact#[O.fC _,O.fC _]
  let#[a1,a2]:=l i Z2 Z2;exact#[O.trans e a1,O.trans a2 c]
def Nv(f:Nat->Nat->Bool)(N dk:Nat)(r:Nat × Array Nat):Prop:=Good N r.2/\1<=r.1/\r.1<=dk/\Up f r.2 r.1
theorem Ik(hN:0<N){p:Array Nat}{n dk:Nat}(g:Good N p)(h1:1<=n)(hn:n<=dk)(hr:dk<=N)(d:Down f p n):Ok f N (kas_tail3 n dk p) (Nv f N dk):=by
 unfold kas_tail3
 have u:Up f (kas_rev p 0 n) n:=λi j og hj=>by
  rw[AQ (by rw[g.size];omega),AQ (by rw[g.size];omega),aI Z2,aI Z2];exact d _ _ Z2 Z2
 exact (Lm O (g.rev _ _) hN (dk - n) n h1 u).bind λm ⟨a,b,u,_⟩=>#[g.rev _ _,by show 1<=m;omega,by show m<=dk;omega,u]
theorem T_(hN:0<N){p:Array Nat}{n dk:Nat}(g:Good N p)(hn:n+1<=dk)(hr:dk<=N)(d:Down f p (n+1)):Ok f N (kas_descPart n dk p) (Nv f N dk):=by
 unfold kas_descPart;apply (HZ O hN (dk - (n+1)) p (n+1) 0 g Z2 Z2 Z2 d λi h2 h3=>?_).bind λr ⟨g',a,b,d',hq,l⟩=>?_
 ·have e:i=n+1 - 1:=by omega
  subst e;exact#[O.fC _,O.fC _]
 split
 ·exact Ik O hN (g'.rev _ _) Z2 Z2 hr (d'.rev O l (by rw[g'.size];omega))
 exact Ik O hN g' Z2 Z2 hr d'
theorem hW_(hN:0<N){p:Array Nat}{dk:Nat}(g:Good N p)(h1:1<=dk)(hr:dk<=N):Ok f N (kas_count dk p) (Nv f N dk):=by
 unfold kas_count;apply (Lm O g hN (dk - 1) 1 (bh _) λi j og hj=>?_).bind λn ⟨a,b,u,st⟩=>?_
 ·have e:i=j:=by omega
  subst e;exact O.fC _
 by_cases e:(n == dk)=true
 ·rw[aI e];exact#[g,a,by show n<=dk;omega,u]
 rw[aC e];have e:n≠dk:=⇑e
 let c:=st Z2;by_cases h2:n > 1
 ·rw[aI h2];apply#[g.lt hN _,g.lt hN _,?_];dsimp only;by_cases c2:f (at' p 0) (at' p (n - 1))=true
  ·rw[aI c2];exact#[g,a,by show n<=dk;omega,u]
  rw[aC c2];have c2:f (at' p 0) (at' p (n - 1))=false:=⇑c2
  apply T_ O hN (g.rev _ _) Z2 hr λi j og hj=>?_;by_cases ej:j<n
  ·rw[AQ (by rw[g.size];omega),AQ (by rw[g.size];omega),aI Z2,aI Z2];exact u _ _ Z2 Z2
  have ej:j=n:=by omega
  subst ej;by_cases ei:i=j
  ·subst ei;exact O.fC _
  rw[AQ (by rw[g.size];omega),AQ (by rw[g.size];omega),aI Z2,aC Z2];exact O.trans (O.trans (O.F4 c) c2) (u 0 _ Z2 Z2)
 rw[aC h2];have e1:n=1:=by omega
 subst e1;apply T_ O hN g Z2 hr λi j og hj=>?_;by_cases ei:i=j
 ·subst ei;exact O.fC _
 have q1:i=0:=by omega
 have q2:j=1:=by omega
 subst q1;subst q2;exact O.F4 c
theorem MH(hN:0<N){p:Array Nat}{k:Nat}(g:Good N p)(u:Up f p k):∀(m l r:Nat),r - l<=m->l<=r->r<=k->(∀i,i<l->f (at' p k) (at' p i)=false)->(∀i,r<=i->i<k->f (at' p k) (at' p i)=true)->
  Ok f N (kas_place p k m l r) λx=>x<=k/\(∀i,i<x->f (at' p k) (at' p i)=false)/\∀i,x<=i->i<k->f (at' p k) (at' p i)=true
 |0,l,r,hm,hl,hr,h1,h2=>by
  have e:l=r:=by omega
  subst e;exact#[hr,h1,h2]
 |m+1,l,r,hm,hl,hr,h1,h2=>by
  unfold kas_place;by_cases e:l ≥ r
  ·rw[aI e];have e:l=r:=by omega
   subst e;exact#[hr,h1,h2]
  rw[aC e];apply#[g.lt hN _,g.lt hN _,?_];dsimp only;by_cases c:f (at' p k) (at' p ((l+r) / 2))=true
  ·rw[aI c];apply MH hN g u m l _ Z2 Z2 Z2 h1 λi h3 h4=>?_;by_cases ei:f (at' p k) (at' p i)=true
   ·exact ei
   have ei:f (at' p k) (at' p i)=false:=⇑ei
   have:=O.trans (u _ i h3 h4) ei;rw[c] at this;cases this
  rw[aC c];have c:f (at' p k) (at' p ((l+r) / 2))=false:=⇑c
  exact MH hN g u m _ r Z2 Z2 hr (λi h3=>O.trans (u i _ Z2 Z2) c) h2
theorem QD(hN:0<N):∀(m:Nat) (p:Array Nat) (k:Nat),Good N p->k+m=N->Up f p k->Ok f N (kas_bin m p k) λr=>Good N r/\Up f r N
 |0,p,k,g,e,u=>by
  have e:k=N:=by omega
  subst e;exact#[g,u]
 |m+1,p,k,g,e,u=>by
  unfold kas_bin;apply (MH O hN g u k 0 k Z2 Z2 (bh _) (λi h=>absurd h Z2) λi h1 h2=>absurd h2 Z2).bind λl ⟨hl,h1,h2⟩=>?_;have hk:k<p.size:=by rw[g.size];omega
  apply QD hN m _ (k+1) (g.bub _ _) Z2 λi j og hj=>?_;rw[Qo hk hl,Qo hk hl];by_cases ej:j=l
  ·rw[aI ej];by_cases ei:i=l
   ·rw[aI ei];exact O.fC _
   rw[aC ei,aC Z2];exact h1 i Z2
  rw[aC ej];by_cases Sv:l<j/\j<=k
  ·rw[aI Sv];by_cases ei:i=l
   ·rw[aI ei];exact O.F4 (h2 (j - 1) Z2 Z2)
   rw[aC ei];by_cases Sy:l<i/\i<=k
   ·rw[aI Sy];exact u _ _ Z2 Z2
   rw[aC Sy];exact u _ _ Z2 Z2
  rw[aC Sv];rw[aC (show ¬i=l by omega),aC (show ¬(l<i/\i<=k) by omega)];exact u _ _ Z2 Z2
theorem Se(hN:0<N):Ok f N (kas_sort N) λp=>Good N p/\Up f p N:=by
 unfold kas_sort;apply (hW_ O hN (p:=(List.range N).toArray) (Array.Perm.refl _) hN (bh _)).bind λr ⟨g,h1,h2,u⟩=>?_;split
 ·rename_i c
  rw[show max r.1 1=r.1 by omega];exact QD O hN _ _ _ g Z2 u
 rename_i c
 have e:r.1=N:=by omega
 exact#[g,e▸u]
end
end mR
namespace mR
open PySem PySem.W PyProof.Rows
section
variable{prog:Ad}{w:Af}{A:Ag}{E:Aa->Ab->Prop}{s:Ab}
def uy(prog:Ad)(w:Af)(A:Ag)(f:Nat->Nat->Bool)(vs:aj)(s:Ab):Prop:=
 ∃κ,(∀Q:SortKind->Ab->Prop,Q κ s->wpAny (model prog w) A (keyKind' vs.toArray) Q (λ_ _=>False) s)/\∀i j C,i<vs.length->j<vs.length->C (f i j) s->kas_ask prog w A κ vs i j C s
def Fy(a:Addr)(h h':Heap):Prop:=∀b o,b≠a->h.get? b\o->h'.get? b\o
def mB(p:Array Nat)(vs:aj):aj:=p.toList.map λi=>vs.getD i Value.none
theorem T1(vs:aj):mB (List.range vs.length).toArray vs=vs:=by
 unfold mB;apply List.ext_getElem? ?_;intro i;simp only[dF];by_cases h:i<vs.length
 ·simp[h]
 simp[Nat.le_of_not_lt h]
theorem hC_{a:Addr}{vs:aj}{n:Nat}{f:Nat->Nat->Bool}{P:Fin->Ab->Prop}(O:Ord f)(ho:s.heap.get? a\seqObj "list" vs.toArray n)(cY:vs.length<64)
  (An:2<=vs.length->∀h',Fy a s.heap h'->uy prog w A f vs { s with heap:=h' })
  (h:∀(p:Array Nat) (h':Heap) (e:Nat),Good vs.length p->Up f p vs.length->h'.get? a\seqObj "list" (mB p vs).toArray e->Fy a s.heap h'->P (.done (.ret .none)) { s with heap:=h' }) :
  wpAny (model prog w) A (Builtin.«list.sort» #[[.ref a],[]]) P E s:=by
 have haz:a<s.heap.objs.size:=bx ho;obtain⟨e1,o7⟩:∃e1,(s.heap.update a (Obj.mapSeq λ_=>(#[]:Array Aa))).get? a\seqObj "list" #[] e1:=#[_,get?_update_seq ho (λ_=>#[])]
 have GJ:vs.length<=sizeLine:=by
  have:=cq;omega
 rw[list_sort_plain];apply af (listItems_at ho U (af (listUpdate_at ho U (af (seqEpoch_at o7 U (af (wpAny_newTuple (af (wpAny_newList (iK ?_) (gP _))) GJ)))) ⇑GJ (gP _))))
 have keep:∀g:Array Aa->Array Aa,Fy a s.heap ((((s.heap.update a (Obj.mapSeq λ_=>(#[]:Array Aa))).push (seqObj "tuple" vs.toArray 0)).push (seqObj "list" #[] 0)).update a (Obj.mapSeq g)):=λg b o hb e=>by
  apply (uO _ _ (bN hb)).trans (aQ _ (aQ _ ?_));exact (uO _ _ (bN hb)).trans e
 have DV:Fy a s.heap (((s.heap.update a (Obj.mapSeq λ_=>(#[]:Array Aa))).push (seqObj "tuple" vs.toArray 0)).push (seqObj "list" #[] 0)):=λb o hb e=>
  aQ _ (aQ _ ((uO _ _ (bN hb)).trans e))
 have BC:(((s.heap.update a (Obj.mapSeq λ_=>(#[]:Array Aa))).push (seqObj "tuple" vs.toArray 0)).push (seqObj "list" #[] 0)).get? a\seqObj "list" #[] e1:=aQ _ (aQ _ o7);show wpAny (model prog w) A _ P E { s with heap:=((s.heap.update a (Obj.mapSeq λ_=>(#[]:Array Aa))).push (seqObj "tuple" vs.toArray 0)).push (seqObj "list" #[] 0) };dsimp only;by_cases h2:vs.toArray.size<2
 ·rw[aI h2,aI h2];apply af (aF ?_);rw[StateT.run_pure]
  have wa:((vs.toArray.zip vs.toArray).map λx:Keyed=>x.2)=(mB (List.range vs.length).toArray vs).toArray:=by
   rw[T1];apply Array.ext' ?_;simp[List.map_snd_zip]
  apply af (aF (af (seqEpoch_at BC U (af (listUpdate_at BC U ?_ (gP _) ?_)))))
  ·simp only[bne_self_eq_false,qk,if_false];apply aF (h (List.range vs.length).toArray _ _ (Array.Perm.refl _) (λi j og hj=>?_) ((get?_update_seq BC _).trans (eg (λz=>some (seqObj "list" z _)) wa)) (keep _))
   have e:i=j:=by
    simp only[dh] at h2;omega
   subst e;exact O.fC _
  have e:((vs.toArray.zip vs.toArray).map λx:Keyed=>x.2).size<=sizeLine+1:=by
   simp only[Array.size_map,Array.size_zip,dh];omega
  exact e
 rw[aC h2,aC h2]
 have gT:2<=vs.length:=by
  simp only[dh] at h2;omega
 let#[κ,hk,hc]:=An gT _ DV;apply af (wpAny_mono (hk (λk s'=>k=κ/\s'=_) #[U,U]) (λk s' Et=>?_) λ_ _ x=>x.elim);let#[rfl,rfl]:=Et
 apply af (wpAny_mono (kat_run (ks:=vs) (vs:=vs) (G:=λp s'=>s'={ s with heap:=((s.heap.update a (Obj.mapSeq λ_=>(#[]:Array Aa))).push (seqObj "tuple" vs.toArray 0)).push (seqObj "list" #[] 0) }/\Good vs.length p/\Up f p vs.length)
  (Q:=λed s'=>∃p:Array Nat,arrOf ed=p.map (kas_item (vs.toArray.zip vs.toArray))/\failedOf ed=none/\s'={ s with heap:=((s.heap.update a (Obj.mapSeq λ_=>(#[]:Array Aa))).push (seqObj "tuple" vs.toArray 0)).push (seqObj "list" #[] 0) }/\Good vs.length p/\Up f p vs.length)
  rfl gT cY (λp ed s' _ q1 q2 q3=>#[p,q1,q2,q3]) (Ok.wp hc (λp q=>#[U,q]) (Se O Z2))) ?_ λ_ _ x=>x)
 rintro⟨⟨⟩,ed⟩ s' ⟨p,LM,hf,hs',g,u⟩;have hs':s'={ s with heap:=((s.heap.update a (Obj.mapSeq λ_=>(#[]:Array Aa))).push (seqObj "tuple" vs.toArray 0)).push (seqObj "list" #[] 0) }:=hs';subst hs'
 have wa:((arrOf ed).map λx:Keyed=>x.2)=(mB p vs).toArray:=by
  rw[LM];apply Array.ext' ?_;unfold mB;simp only[Array.map_map,Array.toList_map,List.toList_toArray];apply u4 λi _=>?_;show (kas_item (vs.toArray.zip vs.toArray) i).2=_;unfold kas_item;by_cases hi:i<vs.length
  ·simp[Array.getD,hi]
  simp[Array.getD,hi,Nat.le_of_not_lt hi]
 have esz:((arrOf ed).map λx:Keyed=>x.2).size=vs.length:=by
  rw[wa];unfold mB;simp only[dh,av,ub];exact g.size
 apply af (seqEpoch_at BC U (af (listUpdate_at BC U ?_ (gP _) (by rw[esz];omega))));rw[hf];simp only[bne_self_eq_false,qk,if_false];exact aF (h p _ _ g u ((get?_update_seq BC _).trans (eg (λz=>some (seqObj "list" z _)) wa)) (keep _))
theorem Tf{x:Aa}{f:Nat->Nat->Bool}{Q:Aa->Ab->Prop}(O:Ord f)
  (mh:wpAny (model prog w) A.in1 (collect x) (λvs s1=>vs.length<64/\(2<=vs.length->∀h':Heap,(∀b o,s1.heap.get? b\o->h'.get? b\o)->uy prog w A.in1.in1 f vs { s1 with heap:=h' }) /\
   ∀(p:Array Nat) (h':Heap) (e:Nat),Good vs.length p->Up f p vs.length->h'.get? s1.heap.objs.size\seqObj "list" (mB p vs).toArray e->(∀b o,s1.heap.get? b\o->h'.get? b\o)->Q (.ref s1.heap.objs.size) { s1 with heap:=h' }) E s) :
  wpAny (model prog w) A (call (.builtin "sorted") [x]) Q E s:=by
 apply Calls.call_function_entry kind_sorted plain_sorted entry_sorted (args_sorted1 _) ?_;unfold Builtin.«sorted»;apply af (m:=checkCount "sorted" 1 1 _) (aF (af (wpAny_mono mh (λvs s1 q=>?_) λ_ _ z=>z)));let#[cY,An,hQ]:=q;apply af (wpAny_newList ?_ (by have:=cq;omega));have hn:(s1.heap.push (seqObj "list" vs.toArray 0)).get? s1.heap.objs.size\seqObj "list" vs.toArray 0:=cJ _ U
 have old:∀h',Fy s1.heap.objs.size (s1.heap.push (seqObj "list" vs.toArray 0)) h'->∀b o,s1.heap.get? b\o->h'.get? b\o:=λh' k b o e=>
  k b o (dG (bx e)) (aQ _ e)
 apply af (iK (tN slot_list_sort #[_,hn,U] entry_list_sort (hC_ O hn cY (λh2 h' k=>An h2 h' (old h' k)) λp h' e g u q k=>#[_,U,?_]) (args_list_sort _)));exact aF #[_,U,hQ p h' e g u q (old h' k)]
end
end mR
namespace L2
open PySem PySem.Spec PyProof.Rows PySem.W mR
def jm:Key->Key->Bool
 |.inl i,.inl j=>decide (i<j)
 |.inl _,.inr _=>true
 |.inr _,.inl _=>false
 |.inr x,.inr y=>decide (x.cps.toList<y.cps.toList)
def bI:aq->aq->Bool
 |[],[]=>false
 |[],_::_=>true
 |_::_,[]=>false
 |a::r,b::q=>if a=b then bI r q else jm a b
theorem YE:∀a:Key,jm a a=false
 |.inl i=>by simp[jm]
 |.inr x=>by simp[jm,List.lt_irrefl]
theorem Tu:∀{a b:Key},jm a b=true->jm b a=false
 |.inl i,.inl j,h=>by
  simp only[jm,decide_eq_true_eq,decide_eq_false_iff_not] at *;omega
 |.inl _,.inr _,_=>rfl
 |.inr _,.inl _,h=>by cases h
 |.inr x,.inr y,h=>by
  simp only[jm,decide_eq_true_eq,decide_eq_false_iff_not] at *;exact λq=>List.lt_irrefl _ (List.lt_trans h q)
theorem Ry:∀{a b:Key},jm a b=false->jm b a=false->a=b
 |.inl i,.inl j,h,h2=>by
  simp only[jm,decide_eq_false_iff_not] at *;rw[show i=j by omega]
 |.inl _,.inr _,h,_=>by cases h
 |.inr _,.inl _,_,h=>by cases h
 |.inr x,.inr y,h,h2=>by
  simp only[jm,decide_eq_false_iff_not] at *;rw[ext_toList (List.le_antisymm (List.not_lt.mp h2) (List.not_lt.mp h))]
theorem gs_:∀{a b c:Key},jm a b=true->jm b c=true->jm a c=true
 |.inl i,.inl j,.inl k,h,h2=>by
  simp only[jm,decide_eq_true_eq] at *;omega
 |.inl _,.inl _,.inr _,_,_=>rfl
 |.inl _,.inr _,.inr _,_,_=>rfl
 |.inl _,.inr _,.inl _,_,h=>by cases h
 |.inr _,.inl _,_,h,_=>by cases h
 |.inr _,.inr _,.inl _,_,h=>by cases h
 |.inr x,.inr y,.inr z,h,h2=>by
  simp only[jm,decide_eq_true_eq] at *;exact List.lt_trans h h2
theorem MJ:∀a:aq,bI a a=false
 |[]=>rfl
 |a::r=>by
  unfold bI;rw[aI U];exact MJ r
theorem NJ:∀{a b:aq},bI a b=true->bI b a=false
 |[],[],h=>by cases h
 |[],_::_,_=>rfl
 |_::_,[],h=>by cases h
 |a::r,b::q,h=>by
  unfold bI at h ⊢;by_cases e:a=b
  ·rw[aI e] at h;rw[aI e.symm];exact NJ h
  rw[aC e] at h;rw[aC (bN e)];exact Tu h
theorem Nd:∀{a b:aq},bI a b=false->bI b a=false->a=b
 |[],[],_,_=>rfl
 |[],_::_,h,_=>by cases h
 |_::_,[],_,h=>by cases h
 |a::r,b::q,h,h2=>by
  unfold bI at h h2;by_cases e:a=b
  ·rw[aI e] at h;rw[aI e.symm] at h2;rw[e,Nd h h2]
  rw[aC e] at h;rw[aC (bN e)] at h2;exact absurd (Ry h h2) e
theorem TQ:∀{a b c:aq},bI a b=true->bI b c=true->bI a c=true
 |[],_,[],h,h2=>by
  rename_i b
  cases b with
  |nil=>cases h
  |cons _ _=>cases h2
 |[],_,_::_,_,_=>rfl
 |_::_,[],_,h,_=>by cases h
 |_::_,_::_,[],_,h=>by cases h
 |a::r,b::q,c::t,h,h2=>by
  unfold bI at h h2 ⊢;by_cases e:a=b
  ·subst e;rw[aI U] at h;by_cases e2:a=c
   ·rw[aI e2] at h2 ⊢;exact TQ h h2
   rw[aC e2] at h2 ⊢;exact h2
  rw[aC e] at h;by_cases e2:b=c
  ·subst e2;rw[aC e];exact h
  rw[aC e2] at h2;let h3:=gs_ h h2;rw[aC (λq=>by rw[q,YE] at h3;cases h3)];exact h3
theorem Th{a b c:aq}(h:bI b a=false)(h2:bI c b=false):bI c a=false:=by
 cases e:bI c a with
 |false=>rfl
 |true=>
  by_cases e1:bI a b=true
  ·have:=TQ e e1;rw[h2] at this;cases this
  have e1:bI a b=false:=⇑e1
  have:=Nd e1 h;subst this;rw[h2] at e;cases e
def Cj(ks:List aq):Prop:=ks.Pairwise λa b=>bI b a=false
theorem TC:∀{a b:List aq},a.Perm b->Cj a->Cj b->a=b
 |[],b,p,_,_=>by
  have:=p.length_eq;cases b with
  |nil=>rfl
  |cons _ _=>cases this
 |x::r,[],p,_,_=>by
  have:=p.length_eq;cases this
 |x::r,y::q,p,h1,h2=>by
  let#[a1,a2]:=List.pairwise_cons.mp h1;let#[b1,b2]:=List.pairwise_cons.mp h2
  have e:x=y:=by
   rcases bZ.mp (p.mem_iff.mp gF) with m|m
   ·exact m
   rcases bZ.mp (p.mem_iff.mpr gF) with m2|m2
   ·exact m2.symm
   exact Nd (b1 _ m) (a1 _ m2)
  subst e;rw[TC ((List.perm_cons _).mp p) a2 b2]
def bj(ks:List aq):List aq:=ks.mergeSort λa b=>!bI b a
theorem uc(ks:List aq):(bj ks).Perm ks:=List.mergeSort_perm _ _
theorem fx_(ks:List aq):Cj (bj ks):=by
 have:=List.pairwise_mergeSort (le:=λa b=>!bI b a) (λa b c h1 h2=>by
  simp only[Bool.not_eq_true'] at *;exact Th h1 h2) (λa b=>by
  simp only[Bool.or_eq_true,Bool.not_eq_true'];by_cases e:bI b a=true
  ·exact .inr (NJ e)
  exact .inl ⇑e) ks
 exact this.imp λh=>by simpa using h
theorem N4{ks i6:List aq}(p:i6.Perm ks)(h:Cj i6):i6=bj ks:=TC (p.trans (uc ks).symm) h (fx_ ks)
theorem FJ{α:Type}{p:Array Nat}{n:Nat}(g:Good n p)(F:Nat->α):(p.toList.map F).Perm ((List.range n).map F):=by
 have e:p.toList.Perm (List.range n):=by
  have:=Array.perm_iff_toList_perm.mp g;simpa using this
 exact e.map F
theorem Mw{p:Array Nat}{ks:List aq}{f:Nat->Nat->Bool}(hf:∀i j,i<ks.length->j<ks.length->f i j=bI (ks.getD i []) (ks.getD j []))(g:Good ks.length p)(u:Up f p ks.length):Cj (p.toList.map λi=>ks.getD i []):=by
 unfold Cj;rw[uY,List.pairwise_iff_getElem];intro i j hi hj og;let hs:=g.size;rw[ub] at hi hj;have _W:j<ks.length:=by omega
 let q:=u i j (Nat.le_of_lt og) _W;have hN:0<ks.length:=by omega
 rw[hf _ _ (g.lt hN _) (g.lt hN _)] at q;have e1:at' p i=p.toList[i]:=by simp[at',Array.getD,hi]
 have e2:at' p j=p.toList[j]:=by simp[at',Array.getD,hj]
 rw[e1,e2] at q;exact q
theorem Nc(ks:List aq):Ord λi j=>bI (ks.getD i []) (ks.getD j []):=#[λ_=>MJ _,λh h2=>Th h h2,λh=>NJ h]
theorem FN{α:Type}(d:α)(l:List α):((List.range l.length).map λi=>l.getD i d)=l:=by
 apply List.ext_getElem? ?_;intro i;simp only[dF];by_cases h:i<l.length
 ·simp[h]
 simp[Nat.le_of_not_lt h]
theorem MO{ys:ag}{vs:aj}(r:Vals ys vs){p:Array Nat}(g:Good vs.length p):Vals (p.toList.map λi=>ys.getD i .non) (mB p vs):=by
 unfold mB
 have key:∀l:List Nat,(∀i∈l,i<vs.length)->Vals (l.map λi=>ys.getD i .non) (l.map λi=>vs.getD i Value.none):=λl=>by
  induction l with
  |nil=>exact λ_=>.nil
  |cons i l ih=>
   intro h;apply .cons ?_ (ih λj hj=>h j (fX _ hj));let hi:=h i gF;have hy:i<ys.length:=by rw[r.length];exact hi
   let#[u,hu,ru]:=r.get (aY hy);have e1:ys.getD i .non=ys[i]:=by simp[hy]
   have e2:vs.getD i Value.none=u:=by simp[hu]
   show RelV (ys.getD i .non) (vs.getD i Value.none);rw[e1,e2];exact ru
 apply key p.toList λi hi=>?_;have m:i∈(List.range vs.length).toArray:=g.mem_iff.mp ⇑hi;simpa using m
theorem QK:∀{ss:ae} {vs:aj},Vals (ss.map V.str) vs->StrsAre vs ss
 |[],_,.nil=>.nil
 |x::r,_,.cons h t=>by
  let#[tk,rfl]:=h;exact .cons x tk (QK t)
def iN(ss:ae):ae:=(bj (ss.map λx=>[Sum.inr x])).map λk=>match k with
 |[.inr x]=>x
 |_=>⟨#[]⟩
def bO(x:Str):aq:=[Sum.inr x]
theorem SI{prog:Ad}{w:Af}{A:Ag}{s:Ab}{ss:ae}{vs:aj}(r:StrsAre vs ss)(h2:2<=vs.length):uy prog w A (λi j=>bI ((ss.map bO).getD i []) ((ss.map bO).getD j [])) vs s:=by
 apply#[oneType',λQ q=>?_,λi j C hi hj hC=>?_]
 ·match vs,h2 with
  |v₁::Vc::t,_=>
   rw[keyKind_strs r];exact aF q
 unfold kas_ask;rw[keyLt'_oneType]
 have look:∀k,k<vs.length->∃x t,vs.getD k Value.none=.str x t/\(ss.map bO).getD k []=[Sum.inr x]:=λk hk=>by
  let e:=r.strs;let#[x,t,q]:=r.all vs[k] (kK hk);apply#[x,t,by simp[hk,q],?_]
  have Q6:k<ss.length:=by
   rw[<- e,av];exact hk
  have e2:ss[k]=x:=by
   have e3:(vs.map strOf)[k]? = ss[k]?:=by rw[e]
   rw[dF,aY hk,aY Q6,q] at e3;exact (cX e3).symm
  simp[Q6,e2,bO]
 let#[x,t,e1,e2]:=look i hi;let#[y,u,e3,e4]:=look j hj;rw[e1,e3];dsimp only at hC;rw[e2,e4] at hC;apply oneLt_str ?_;unfold bI at hC;by_cases e:x=y
 ·subst e;rw[aI U] at hC;have:decide (x.cps.toList<x.cps.toList)=false:=by simp[List.lt_irrefl]
  rw[this];exact hC
 rw[aC (λq=>e (iJ q))] at hC;exact hC
def xt:Key->Bool
 |.inl _=>false
 |.inr _=>true
theorem gP_{prog:Ad}{w:Af}{A:Ag}{E:Aa->Ab->Prop}{s:Ab}{c:Bool}{a b:Key}{p q:Aa}{Q:Bool->Ab->Prop}(ra:RelV (kV a) p)(rb:RelV (kV b) q)(hk:xt a=xt b)(h:Q (jm a b) s) :
  wpAny (model prog w) A (oneLt' c p q) Q E s:=by
 cases a with
 |inl i=>
  cases b with
  |inr y=>cases hk
  |inl j=>
   let#[t,rfl]:=ra;let#[u,rfl]:=rb;cases c with
   |true=>exact oneLt_int h
   |false=>exact kat_one _ _ (lt_int (show PySem.W.BoolBack Q (.bool _) s from h))
 |inr x=>
  cases b with
  |inl j=>cases hk
  |inr y=>
   let#[t,rfl]:=ra;let#[u,rfl]:=rb;cases c with
   |true=>exact oneLt_str h
   |false=>exact kat_one _ _ (PyProof.Rows.lt_str (show PySem.W.BoolBack Q (.bool _) s from h))
theorem Y6{a b:Key}(hk:xt a=xt b):Mx (kV a) (kV b)=decide (a=b):=by
 cases a with
 |inl i=>
  cases b with
  |inr y=>cases hk
  |inl j=>
   show (i == j)=_;by_cases e:i=j
   ·subst e;simp
   ·rw[ft (λq=>e (Sum.inl.inj q))];simpa using e
 |inr x=>
  cases b with
  |inl j=>cases hk
  |inr y=>
   show (x == y)=_;by_cases e:x=y
   ·subst e;simp
   rw[ft (λq=>e (iJ q))];simpa using e
theorem SY(a:Key):tE (kV a)=true:=by cases a<;>rfl
theorem T8{prog:Ad}{w:Af}{A:Ag}{s:Ab}{Q:Bool->Ab->Prop}:∀{k1 k2:aq} {us vs:aj} (i:Nat),Vals (k1.map kV) us->Vals (k2.map kV) vs->k1.map xt=k2.map xt->Q (bI k1 k2) s->KatLex prog w A true false Q (us.zip vs) i s
 |[],[],_,_,i,.nil,.nil,_,h=>h
 |[],_::_,_,_,_,_,_,h,_=>by cases h
 |_::_,[],_,_,_,_,_,h,_=>by cases h
 |a::k1,b::k2,u::us,v::vs,i,.cons ra r1,.cons rb r2,hk,h=>by
  let#[e1,e2]:=List.cons.inj hk;apply kat_cons ?_;apply Qr ra rb (SY a) (SY b) prog w _ _ ?_;rw[Y6 e1];unfold bI at h;by_cases e:a=b
  ·rw[aI e] at h;rw[cw e];exact kat_yes (T8 (i+1) r1 r2 e2 h)
  rw[aC e] at h;rw[ft e];exact kat_no (gP_ ra rb e1 h)
def bY(K:ai)(H:Hp):ag->List aq->Prop:=Paired λy k=>∃a,y=V.ref a/\H a\.tup (k.map kV)
def Alike(ks:List aq)(sh:List Bool):Prop:=sh≠[]/\∀k∈ks,k.map xt=sh
theorem gE_{X:Cx}{pins:List (Addr × Obj)}{σ:St}{H:Hp}{s s':Ab}{A:Ag}{ys:ag}{ks:List aq}{sh:List Bool}{vs:aj}(I:Inv X pins σ H s)(r:Vals ys vs)(t:bY X.K H ys ks)(al:Alike ks sh)(h2:2<=vs.length)
  (kp:∀b o,s.heap.get? b\o->s'.heap.get? b\o):uy X.prog X.w A (λi j=>bI (ks.getD i []) (ks.getD j [])) vs s':=by
 have look:∀k,k<vs.length->∃a its,vs.getD k Value.none=.ref a/\Vals ((ks.getD k []).map kV) its/\IsTup s'.heap a its.toArray/\ks.getD k []∈ks:=λk hk=>by
  have hy:k<ys.length:=by rw[r.length];exact hk
  have BD:k<ks.length:=by rw[<- bH t];exact hy
  let#[u,hu,ru]:=r.get (aY hy)
  have gen:∀{ys:ag} {ks:List aq} (k:Nat) (hy:k<ys.length) (BD:k<ks.length),bY X.K H ys ks->∃a,ys[k]=V.ref a/\H a\.tup (ks[k].map kV):=λ{ys ks} k hy BD t=>by
   induction t generalizing k with
   |nil=>exact absurd hy Y0
   |cons h t ih=>
    cases k with
    |zero=>exact h
    |succ k=>exact ih k ⇑hy ⇑BD
  let#[a,e,sq]:=gen k hy BD t;let#[its,ri,ti,_]:=I.tuple (eD.of sq);rw[e] at ru;cases ru;have e2:ks.getD k []=ks[k]:=by simp[BD]
  apply#[a,its,by simp[hu],by rw[e2];exact ri,ti.keeps kp,?_];rw[e2];exact kK BD
 let#[l9,EM]:=al
 obtain⟨c,C3,rfl⟩:∃c C3,sh=c::C3:=by
  cases sh with
  |nil=>exact absurd U l9
  |cons c C3=>exact#[c,C3,U]
 apply#[tuples' true,λQ q=>?_,λi j C hi hj hC=>?_]
 ·have Ay:∀l:aj,(∀v∈l,∃(a:Addr) (its:aj) (k:aq),v=.ref a/\Vals (k.map kV) its/\IsTup s'.heap a its.toArray/\k.map xt=c::C3)->∃fs,KatTups s'.heap l fs/\fs.length=l.length/\∀v∈fs,Looks (model X.prog X.w) s'.heap (typeOf v) (.type (if c then "str" else "int")):=λl=>by
   induction l with
   |nil=>exact λ_=>#[[],.nil,U,λ_ h=>nomatch h]
   |cons v l ih=>
    intro h;let#[fs,h1,h2,h3]:=ih λv hv=>h v (fX _ hv);let#[a,its,k,rfl,rv,#[o,ho,hc,n,hd],hk]:=h v gF
    match k,its,rv,hk with
    |k0::k,u::its,.cons r0 _,hk=>
     apply#[u::fs,.cons ho hc hd Y0 h1,by simp[h2],λv hv=>?_];rcases bZ.mp hv with e|hv
     ·subst e;let e0:=(List.cons.inj hk).1;cases k0 with
      |inl i=>
       let#[t,rfl]:=r0;rw[<- e0];exact .now
      |inr x=>
       let#[t,rfl]:=r0;rw[<- e0];exact .now
     exact h3 v hv
  let#[fs,h1,h3,h4]:=Ay vs λv hv=>by
   let#[k,hk,rfl]:=ib hv;let#[a,its,e,rv,ti,m]:=look k hk;apply#[a,its,_,?_,rv,ti,EM _ m];rw[<- e];simp[hk]
  apply kat_kind h1 Z2 h4 (by cases c<;>decide) ?_
  have e:((Value.type (if c then "str" else "int")) != Value.type "tuple")=true:=by cases c<;>decide
  rw[e];exact q
 unfold kas_ask;let#[a,its,e1,r1,#[o,ho,_,n,hd],m1]:=look i hi;let#[b,iC,e2,r2,#[o2,eR,_,n2,hd2],m2]:=look j hj;rw[e1,e2];apply kat_lt ho hd eR hd2 ?_;let l1:=r1.length;let l2:=r2.length;let l3:=eg List.length ((EM _ m1).trans (EM _ m2).symm);simp only[av] at l1 l2 l3;rw[show decide (its.toArray.size<iC.toArray.size)=false by simp;omega];exact T8 0 r1 r2 ((EM _ m1).trans (EM _ m2).symm) hC
end L2
namespace da
open PySem PySem.W PyProof.Rows
section
variable{prog:Ad}{w:Af}{A:Ag}{E:Aa->Ab->Prop}{s:Ab}
def Raw(h:Heap)(d:Addr)(es:Array DictEntry)(ep:Nat):Prop:=∃o,h.get? d\o/\o.ExactDict/\o.data=.dict es ep
theorem Raw.eO{h h':Heap}{d:Addr}{es:Array DictEntry}{ep:Nat}(x:Raw h d es ep)(k:∀o,h.get? d\o->h'.get? d\o):Raw h' d es ep:=let #[o,e,r]:=x;#[o,k o e,r]
theorem Raw.ty{d:Addr}{es:Array DictEntry}{ep:Nat}(x:Raw s.heap d es ep):s.TypeIs (.ref d) "dict":=let #[o,e,c,_]:=x;#[o,e,c.1]
theorem Z5{d:Addr}{es:Array DictEntry}{ep:Nat}{Q:Aa->Ab->Prop}(hd:(d == sysModules)=false)(x:Raw s.heap d es ep)
  (q:Q (.ref s.heap.objs.size) { s with heap:=s.heap.push { cls:=.type "dict_keyiterator",data:=.fields (List.toArray [.ref d,.int 0 0,.int es.size 0,.int ep 0]) } }) :
  wpAny (model prog w) A (pyIter (.ref d)) Q E s:=by
 let#[o,ho,hc,jI]:=id x;apply wpAny_pyIter_slot x.ty F.slot_dict_iter (tN F.slot_dict_iter x.ty F.entry_dict_iter ?_ (F.args_dict_iter_1 _));unfold Builtin.«dict.__iter__» Builtin.Dict.dictSlotNone;apply af (af (wpAny_notOrdered_dict x.ty (show wpAny _ _ (pure (Value.ref d)) _ _ s from aF (show wpAny _ _ (Builtin.Dict.showsAll d >>= _) _ _ s from ?_))));unfold Builtin.Dict.showsAll;rw[aC (by rw[hd];decide)];apply af (aF (af (wpAny_dictEntries ho jI (af (wpAny_dictEpoch ho jI (af (qa (aF #[_,U,"dict_keyiterator",_,#[_,cJ _ U,U],F.slot_dict_keyiterator_next.lookup,?_]))))))));exact q
theorem Zq{it d:Addr}{i ep:Nat}{es:Array DictEntry}{Q:Option Aa->Ab->Prop}(hit:s.heap.IsKeyIter it d i es.size ep)(x:Raw s.heap d es ep)(hi:i<es.size)
  (q:∀h',h'.IsKeyIter it d (i+1) es.size ep->Heap.SameBut it s.heap h'->Q (some es[i].key) { s with heap:=h' }):wpAny (model prog w) A (pyNext (.ref it)) Q E s:=by
 let#[o,ho,hc,hd]:=id hit;let#[od,Eh,iG,pU]:=id x;unfold pyNext;apply af (wpAny_attempt (uU (name:=Str.ofString "__next__") hit.typeIs F.slot_dict_keyiterator_next (tN F.slot_dict_keyiterator_next hit.typeIs F.entry_dict_keyiterator_next ?_ (F.args_dict_keyiterator_next_1 _))));apply af (aF (af (af ?_)))
 first|refine af (wpAny_typeNameOfWhole_keyiter hit.typeIs (aF (af (wpAny_fieldsOf ho hd ?_))))|refine af (wpAny_typeNameOf_keyiter hit.typeIs (aF (af (wpAny_fieldsOf ho hd ?_))))
 simp only[show Builtin.Dict_items.ownsTuple "dict_keyiterator"=false by decide,qk,if_false];apply (show wpAny _ _ (if (Value.ref d == Value.none)=true then _ else _) _ _ s from ?_);rw[aC (λz=>by cases z)];apply af (aF (af (wpAny_dictEntries Eh pU ?_)));rw[aC Y0];apply af (aF (af (wpAny_dictEpoch Eh pU ?_)));rw[aC Y0];apply aF ?_;simp only[show ¬((i:Int)<0) from by omega,if_false,ym,Array.getElem?_eq_getElem hi];apply af ?_
 first|refine af (wpAny_typeNameOfWhole_keyiter hit.typeIs (aF (af (wpAny_isOneOf_keyiter hit.typeIs ?_))))|refine af (wpAny_typeNameOf_keyiter hit.typeIs (aF (af (wpAny_isOneOf_keyiter hit.typeIs ?_))))
 apply (show wpAny _ _ (setField (.ref it) 1 (rawInt ((i:Int)+1)) >>= _) _ _ s from af (wpAny_setField ho hd Y0 ?_))
 have turned:(s.heap.update it (Obj.mapFields (·.setIfInBounds 1 (rawInt ((i:Int)+1))))).IsKeyIter it d (i+1) es.size ep:=
  #[_,Heap.get?_update_self _ ho (Obj.isFreed_of_fields (Obj.data_mapFields hd _)),(Obj.cls_mapFields ..).trans hc,by rw[Obj.data_mapFields hd];simp[rawInt]]
 apply af (iK (af (wpAny_isOneOf_keyiter (s:={ s with heap:=s.heap.update it (Obj.mapFields (·.setIfInBounds 1 (rawInt ((i:Int)+1)))) }) turned.typeIs ?_)));exact (show wpAny _ _ (pure es[i].key) _ _ _ from aF (aF #[_,U,aF (q _ turned (Heap.SameBut.update ..))]))
theorem hV_{it d:Addr}{ep:Nat}{es:Array DictEntry}{Q:Option Aa->Ab->Prop}(hh:A.handled=none)(hit:s.heap.IsKeyIter it d es.size es.size ep)(x:Raw s.heap d es ep)
  (q:∀h',Heap.ExtBut it s.heap h'->Q none { s with heap:=h' }):wpAny (model prog w) A (pyNext (.ref it)) Q E s:=by
 let#[o,ho,hc,hd]:=id hit;let#[od,Eh,iG,pU]:=id x;unfold pyNext;apply af (wpAny_attempt (uU (name:=Str.ofString "__next__") hit.typeIs F.slot_dict_keyiterator_next (tN F.slot_dict_keyiterator_next hit.typeIs F.entry_dict_keyiterator_next ?_ (F.args_dict_keyiterator_next_1 _))));apply af (aF (af (af ?_)))
 first|refine af (wpAny_typeNameOfWhole_keyiter hit.typeIs (aF (af (wpAny_fieldsOf ho hd ?_))))|refine af (wpAny_typeNameOf_keyiter hit.typeIs (aF (af (wpAny_fieldsOf ho hd ?_))))
 simp only[show Builtin.Dict_items.ownsTuple "dict_keyiterator"=false by decide,qk,if_false];apply (show wpAny _ _ (if (Value.ref d == Value.none)=true then _ else _) _ _ s from ?_);rw[aC (λz=>by cases z)];apply af (aF (af (wpAny_dictEntries Eh pU ?_)));rw[aC Y0];apply af (aF (af (wpAny_dictEpoch Eh pU ?_)));rw[aC Y0];apply aF ?_;simp only[show ¬((es.size:Int)<0) from by omega,if_false,ym,Array.getElem?_eq_none (bh _)];apply af ?_
 first|refine af (wpAny_typeNameOfWhole_keyiter hit.typeIs (aF ?g))|refine af (wpAny_typeNameOf_keyiter hit.typeIs (aF ?g))
 apply (show wpAny _ _ (setField (.ref it) 0 .none >>= _) _ _ s from af (wpAny_setField ho hd Y0 (show wpAny _ _ (newExc (.type "StopIteration") [] >>= _) _ _ _ from af ?_)));simp only[newExc,newTuple];apply af (qa (af (m:=firstArgMember _ _) (wpAny_of_eq (a:=Value.none) (by first|rfl|(simp only[firstArgMember];rfl)) (qa ?_ (by size_fits)))) (by size_fits));simp only[raiseNew];apply af (wpAny_handled ?_);rw[show A.in1.handled=none from hh];apply af (aF (wpAny_throw ?_));exact af (wpAny_isInstance (T:="StopIteration") (b:=true) #[_,cJ _ U,U] isSubtype_stop (aF (q _ (((Heap.SameBut.update ..).extBut.push _).push _))))
theorem gI_(hh:A.handled=none)(I d:Addr)(l9:d≠I)(es:Array DictEntry)(ep:Nat) :
  Walks prog w A I [I,d] [I] es.size (λi v=>∃h:i<es.size,v=es[i].key) (λi h=>h.IsKeyIter I d i es.size ep/\Raw h d es ep) where
 sub:=λb hb=>by simp only[eK] at hb;simp[hb]
 frame:=λ_ _ _ st k=>#[st.1.at λo e=>k I Y0 o e,st.2.eO λo e=>k d Y0 o e]
 item:=λi s Q E hi st hQ=>Zq st.1 st.2 hi λh' Ac hs'=>hQ _ h' s.toks #[hi,U] #[Ac,st.2.eO λo e=>hs'.extBut d o l9 e] λb o hb e=>hs'.extBut b o (λh=>hb (by simp[h])) e
 done:=λs Q E st hQ=>hV_ hh st.1 st.2 λh' ED=>hQ h' s.toks λb o hb e=>ED b o (λh=>hb (by simp[h])) e
 self:=λ_ _ _ _ st hQ=>wpAny_pyIter_keyiter st.1 hQ
theorem Y1{d:Addr}{es:Array DictEntry}{ep:Nat}(lo:(d == sysModules)=false):KdlSrc prog w "dict" d d es.size (λi v=>∃h:i<es.size,v=es[i].key) (λh=>Raw h d es ep) where
 type:=λs x=>x.ty
 there:=λh x=>let #[o,e,_]:=x;#[bx e,bx e]
 keep:=λh h' x k=>x.eO λo e=>k d (.inl U) o e
 notList:=by decide
 notTuple:=by decide
 hint:=λ_ _ s _ x q=>kdl_hint_dict x.ty q
 iter:=λA s hh x=>#[_,_,λE Q q=>Z5 lo x q,gI_ hh _ d (let #[o,e,_]:=x;dG (bx e)) es ep,#[#[_,cJ _ U,U,U],x.eO λo e=>aQ _ e]]
end
end da
namespace da
open PySem PySem.W PyProof.Rows
theorem cY_:typeLookup (.type "list") "keys"=pure none:=by rw[typeLookup_type,builtinLookup_eq_fast];kernel_rfl
theorem gw_{prog:Ad}{w:Af}{A:Ag}{s:Ab}{a:Addr}{xs:Array Aa}{k:Nat}{tk:Tok}{R:Result->Ab->Prop}(hx:s.heap.get? a\seqObj "list" xs k)(h:raisesAttr (.ref a) "keys" A R s) :
  codeAny (model prog w) A (.call (.builtin "list.__getattribute__") #[[.ref a,.str "keys" tk],[]]) R s:=by
 apply codeAny_call_builtin F.slot_list_getattribute.plain am_entry_list_getattribute (F.slot_list_getattribute.check _ _ _ _ _ _ _ _ #[_,hx,U] (F.args_list_getattribute_2 _ _) ?_);exact meets_getattribute_miss_list a xs k #[] "keys" tk cY_ (by decide) (by size_fits) prog w A R s #[hx,h]
theorem sk{prog:Ad}{w:Af}{A:Ag}{E:Aa->Ab->Prop}{s:Ab}{a:Addr}{xs:Array Aa}{k:Nat}{Q:Option Aa->Ab->Prop}(hx:s.heap.get? a\seqObj "list" xs k)(hA:A.handled=none)
  (h:∀h' tk,(∀b o,s.heap.get? b\o->h'.get? b\o)->Q none { s with heap:=h',toks:=tk }):wpAny (model prog w) A (getAttr? (.ref a) "keys") Q E s:=by
 let#[hp,g,d,tk,os]:=s;have ty:∀fO,(#[hp,g,d,fO,os]:Ab).TypeIs (.ref a) "list":=λ_=>#[_,hx,U];let f1:=sub_AttributeError;let f2:=F.slot_list_getattribute.lookup;let f3:=F.slot_list_getattribute.bind (.ref a);let f4:=am_list_getattr_none;unfold getAttr? getAttrBy? getAttrBy
 repeat (any_goals (first|assumption|exact ty _|wp_step))
 apply gw_ hx #[hA,λh' fO e vR=>?_];let#[t',u',he]:=vR.there;show wpAny _ _ (getattributeRaised _ _ _ _ _ _ _) _ _ _;unfold getattributeRaised
 repeat (any_goals (first|assumption|wp_step))
 exact h _ _ vR.keeps
end da
namespace da
open PySem PySem.W PyProof.Rows
theorem B5:entryFor table "dict.update.loop"\Builtin.«dict.update.loop»:=entryFor_of_tree (by kernel_rfl)
theorem qj:plainId "dict.update.loop"=true:=by decide +kernel
theorem BW(d it:Addr)(i:Int)(tk:Tok):Builtin.«dict.update.loop» #[[.ref d,.ref it,.int i tk,.none],[]]=(do
  let r <- pyNext (.ref it)
  match r with
  |none=>do Builtin.Dict.addKeywords d [];ret .none
  |some item=>do
   holding [item] (do
    let pair <- (Builtin.Dict.pairItems item).tryCatch λe=>do
     if !(<- isInstance e (.type "TypeError")) then throw e
     rule "dict.update.element-no-sequence"
     raiseError "TypeError" s!"cannot convert dictionary update sequence element #{i} to a sequence"
    match pair with
    |[k,v]=>holding [k,v] (dictSet d k v)
    |l=>do
     rule "dict.update.element-length"
     raiseError "ValueError" s!"dictionary update sequence element #{i} has length {l.length}; 2 is required")
   again (.builtin "dict.update.loop" #[[.ref d,.ref it,rawInt (i+1),.none],[]])):=by
 unfold Builtin.«dict.update.loop»;apply eg (λf=>pyNext (.ref it) >>= f) (funext λr=>?_);cases r<;>rfl
section
variable{prog:Ad}{w:Af}{K:Type}[DecidableEq K]{knd:PySem.KeyKind prog w K}{A:Ag}
def MX(knd:PySem.KeyKind prog w K)(h:Heap):aj->List (K × Aa)->Prop:=Paired λv p=>∃a key,v=.ref a/\IsTup h a (List.toArray [key,p.2])/\knd.is p.1 key=true
def eQ(kvs:List (K × Aa))(ps:List (K × Aa)):List (K × Aa):=ps.foldl (λacc p=>stored acc p.1 p.2) kvs
theorem TK(kvs:List (K × Aa))(k:K)(v:Aa):(stored kvs k v).length<=kvs.length+1:=by
 unfold stored;split
 ·simp
 simp
theorem Bd{h:Heap}{b it l:Addr}{i:Nat}{ys:Array Aa}(t:IsTup h b ys)(q:h.IsListIter it l i):b≠it:=λz=>by
 let#[o,ho,hc,_]:=t;let#[o2,eR,jq,_]:=q;subst z;rw[ho] at eR;cases eR;rw[hc] at jq;exact absurd jq (by decide)
theorem eA_{h:Heap}{b d:Addr}{ys:Array Aa}{kvs:List (K × Aa)}(t:IsTup h b ys)(q:h.DictOf knd d kvs):b≠d:=λz=>by
 let#[o,ho,hc,_]:=t;let#[o2,es,ep,eR,jq,_]:=q;subst z;rw[ho] at eR;cases eR;let tj:=jq.1;rw[hc] at tj;exact absurd tj (by decide)
theorem FH{h h':Heap}{d:Addr}{kvs:List (K × Aa)}(q:h.DictOf knd d kvs)(k:∀o,h.get? d\o->h'.get? d\o):h'.DictOf knd d kvs:=by
 let#[o,es,ep,ho,r]:=q;exact#[o,es,ep,k _ ho,r]
theorem ZD{it l d a:Addr}{i:Nat}{its:aj}{key x:Aa}{k:K}{kvs:List (K × Aa)}{s:Ab}{R:Result->Ab->Prop}{tk:Tok}(sY:d≠it)(hi:its.toArray[i]? = some (.ref a))(ht:IsTup s.heap a (List.toArray [key,x]))(hk:knd.is k key=true)
  (hit:s.heap.IsListIter it l i) (hl:s.heap.IsList l its.toArray) (hd:s.heap.DictOf knd d kvs) (hz:kvs.length<=1000)
  (hR:∀h2,h2.DictOf knd d (stored kvs k x)->(∀b o,b≠d->b≠it->s.heap.get? b\o->h2.get? b\o)->h2.IsListIter it l (i+1)->codeAny (model prog w) A (.builtin "dict.update.loop" #[[.ref d,.ref it,rawInt ((i:Int)+1),.none],[]]) R { s with heap:=h2,toks:=s.toks+1 }) :
  codeAny (model prog w) A (.builtin "dict.update.loop" #[[.ref d,.ref it,.int i tk,.none],[]]) R s:=by
 apply codeAny_builtin B5 ?_;rw[xW qj _,BW];apply af (wpAny_pyNext_list_item hit hl hi λh1 z_ xA=>?_);let#[ot,K_,Al,nt,LD]:=id ht;have sS:h1.get? a\ot:=xA.extBut _ _ (Bd ht hit) K_;apply af (iK (af (wpAny_tryCatch ?_)));unfold Builtin.Dict.pairItems;apply af (wpAny_typeOf (T:="tuple") #[ot,sS,Al] ?_);rw[aI (by decide)];unfold seqItems?;apply af (af (wpAny_load sS ?_));rw[LD];apply aF (aF ?_);apply (show wpAny _ _ (holding [key,x] (dictSet d key x)) _ _ _ from iK (wpAny_dictSet_pairs hk (FH hd λo q=>xA.extBut _ _ sY q) (λh2 hd2 pS=>?_) (by have:=cq;omega)));exact aF #[plainId_quiet qj _,hR h2 hd2 (λb o h3 h4 q=>pS.extBut _ _ h3 (xA.extBut _ _ h4 q)) (z_.extBut pS.extBut (bN sY))]
theorem Zg{it l d:Addr}{i:Nat}{its:aj}{kvs:List (K × Aa)}{s:Ab}{R:Result->Ab->Prop}{tk:Tok}(sY:d≠it)(hh:A.handled=none)(hi:its.toArray[i]? = none)
  (hit:s.heap.IsListIter it l i) (hl:s.heap.IsList l its.toArray) (hd:s.heap.DictOf knd d kvs)
  (hR:∀h',h'.DictOf knd d kvs->(∀b o,b≠it->s.heap.get? b\o->h'.get? b\o)->R (.ok (.ret .none)) { s with heap:=h' }) :
  codeAny (model prog w) A (.builtin "dict.update.loop" #[[.ref d,.ref it,.int i tk,.none],[]]) R s:=by
 apply codeAny_builtin B5 ?_;rw[xW qj _,BW];apply af (wpAny_pyNext_list_end hh hit hl hi λh' he=>?_);exact af (m:=Builtin.Dict.addKeywords d []) (aF (aF (hR h' (FH hd λo q=>he _ _ sY q) λb o hb q=>he b o hb q)))
theorem Xu{it l d:Addr}(Lq:l≠it)(sY:d≠it)(BG:d≠l)(hh:A.handled=none){its:aj}(rest:aj):∀(ps:List (K × Aa)) (i:Nat) (kvs:List (K × Aa)) (s:Ab) (R:Result->Ab->Prop) (tk:Tok),its.drop i=rest->MX knd s.heap rest ps->
  s.heap.IsListIter it l i->s.heap.IsList l its.toArray->s.heap.DictOf knd d kvs->kvs.length+ps.length<=1000->
  (∀h' fO,h'.DictOf knd d (eQ kvs ps)->(∀b o,b≠d->b≠it->s.heap.get? b\o->h'.get? b\o)->R (.ok (.ret .none)) { s with heap:=h',toks:=fO })->
  codeAny (model prog w) A (.builtin "dict.update.loop" #[[.ref d,.ref it,.int i tk,.none],[]]) R s:=by
 induction rest with
 |nil=>
  intro ps i kvs s R tk e hp hit hl hd hz hR;cases hp
  have hi:its.toArray[i]? = none:=by
   have:=eg List.length e;simp only[yl,List.length_nil] at this;simp;omega
  exact Zg sY hh hi hit hl hd λh' hU kp=>hR h' s.toks hU λb o _ hb q=>kp b o hb q
 |cons v rest ih=>
  intro ps i kvs s R tk e hp hit hl hd hz hR;cases hp with
  |@cons _ p _ ps h0 hr=>
  let#[a,key,hv,ht,hk]:=h0;let#[k,x]:=p;subst hv
  have hi:its.toArray[i]? = some (.ref a):=by
   have q:(its.drop i)[0]? = some (.ref a):=by rw[e];rfl
   rw[List.getElem?_drop] at q;simpa using q
  have e':its.drop (i+1)=rest:=by
   rw[<- List.drop_drop,e];rfl
  simp only[iR] at hz;apply ZD sY hi ht hk hit hl hd Z2 λh2 hd2 kp sU=>?_;have c1:((i:Int)+1)=((i+1:Nat):Int):=by omega
  rw[c1];apply ih ps (i+1) (stored kvs k x) _ R 0 e' (L2.Paired.aX hr λv p ⟨b,ky,e1,t1,k1⟩=>#[b,ky,e1,?_,k1]) sU (hl.at λo q=>kp _ _ (bN BG) Lq q) hd2 (by have:=TK kvs k x;omega) λh' fO hU DR=>hR h' fO hU λb o h3 h4 q=>DR b o h3 h4 (kp b o h3 h4 q);let#[o,ho,r]:=id t1;exact#[o,kp _ _ (eA_ t1 hd) (Bd t1 hit) ho,r]
theorem dZ_{E:Aa->Ab->Prop}{s:Ab}{l:Addr}{its:aj}{n:Nat}{ps:List (K × Aa)}{Q:Aa->Ab->Prop}(hh:A.handled=none)(ho:s.heap.get? l\seqObj "list" its.toArray n)(hp:MX knd s.heap its ps)(hz:ps.length<=1000)
  (h:∀h' fO,h'.DictOf knd s.heap.objs.size (eQ [] ps)->(∀b o,s.heap.get? b\o->h'.get? b\o)->Q (.ref s.heap.objs.size) { s with heap:=h',toks:=fO }) :
  wpAny (model prog w) A (call (.type "dict") [.ref l]) Q E s:=by
 apply callType_codes (Q₁:=λobj aJ=>obj=.ref s.heap.objs.size/\aJ={ s with heap:=s.heap.push { cls:=.type "dict",data:=.dict #[] } }) F.kt_called_dict (F.kt_typeCall_dict_1 _) F.entry_dict_init (kt_code_dict_new _ #[U,U]) ?_;rintro obj aJ ⟨rfl,rfl⟩;have gn:(s.heap.push { cls:=.type "dict",data:=.dict #[] }).DictOf knd s.heap.objs.size []:=Heap.DictOf.new s.heap;have fq:(s.heap.push { cls:=.type "dict",data:=.dict #[] }).get? l\seqObj "list" its.toArray n:=aQ _ ho;apply#[gn.typeIs,F.args_dict_init_2 _ _,?_];unfold Builtin.«dict.__init__» Builtin.Dict.selfAndRest;apply af (af (wpAny_notOrdered_dict gn.typeIs ?_));apply (show wpAny _ _ (pure (s.heap.objs.size,[Value.ref l])) _ _ _ from aF ?_);apply (show wpAny _ _ (Builtin.Dict.updateFrom "dict.__init__" s.heap.objs.size (.ref l) [] .none) _ _ _ from ?_);unfold Builtin.Dict.updateFrom;apply af (wpAny_typeOf (T:="list") #[_,fq,U] ?_);rw[aI (by decide)];apply af (sk fq hh λh2 Pg k2=>?_);simp only[Option.isNone_none,if_true];have jo:h2.get? l\seqObj "list" its.toArray n:=k2 _ _ fq;apply af (wpAny_rule (af (wpAny_pyIter_list #[_,jo,U,_,U] ?_)));apply aF #[plainId_quiet qj _,?_];have all:∀{b o},s.heap.get? b\o->(h2.push { cls:=.type "list_iterator",data:=.fields (List.toArray [.ref l,.int 0 0]) }).get? b\o:=λq=>aQ _ (k2 _ _ (aQ _ q))
 have hd2:h2.DictOf knd s.heap.objs.size []:=by
  let#[o,es,ep,ho,r]:=gn;exact#[o,es,ep,k2 _ _ ho,r]
 have yH:s.heap.objs.size<h2.objs.size:=by
  let#[o,es,ep,ho,r]:=hd2;exact bx ho
 have lz:l<s.heap.objs.size:=bx ho
 apply Xu (A:=A.in1) (knd:=knd) (its:=its) (it:=h2.objs.size) (l:=l) (d:=s.heap.objs.size) (dG (Nat.lt_trans lz yH)) (dG yH) (iu lz) hh its ps 0 [] _ _ 0 U (L2.Paired.aX hp λv p ⟨b,ky,e1,t1,k1⟩=>#[b,ky,e1,t1.keeps λb o q=>all q,k1])
  #[_,cJ _ U,U,U] #[_,aQ _ jo,U,_,U] (by
   let#[o,es,ep,ho,r]:=hd2;exact#[o,es,ep,aQ _ ho,r]) ⇑hz λh' fO hU kp=>#[U,h h' fO hU λb o q=>?_]
 have bl:b<s.heap.objs.size:=bx q;exact kp b o (dG bl) (dG (Nat.lt_trans bl yH)) (all q)
end
end da
theorem zl{n:Nat}(h:decide (n<=16777216)=true:=by rfl):n<=PySem.sizeLine:=by
 rw[PySem.sizeLine_eq];exact tL h
namespace L2
open PySem PySem.Spec PyProof.Rows PySem.W mR da
theorem bY.same{K:ai}{H H':Hp}{ys:ag}{ks:List aq}(t:bY K H ys ks)(e:aa H H'):bY K H' ys ks:=Paired.aX t λy k ⟨a,z,q⟩=>#[a,z,e _ _ q]
theorem aa.new{H:Hp}{l:Addr}{o:HO}(h:H l=none):aa H (upd H l o):=λb u e=>by rw[ax (bz e h)];exact e
section
variable{X:Cx}{pins:List (Addr × Obj)}{σ:St}{H H':Hp}{s:Ab}{h':Heap}{t':Nat}
theorem Inv.many(I:Inv X pins σ H s)(k:∀b o,s.heap.get? b\o->h'.get? b\o)(hold:aa H H')(gn:∀b,H b=none->b<s.heap.objs.size->H' b=none)
  (_I:∀b o,H' b\o->H b=none->∃xs its,o=.tup xs/\xs.length<=sizeLine/\Vals xs its/\IsTup h' b its.toArray/\∃o,h'.get? b\o/\o.dict=none):Inv X pins σ H' { s with heap:=h',toks:=t' }:=by
 apply I.un #[λb o q _ _ _=>k b o q,λb o q _ _ _=>#[o.slots,k b o q],λb o q n _=>gn b n (bx q),λb o q _=>#[o,k b o q],λb xs q=>hold b _ q,λb o u q=>hold b _ q,λb ps q=>#[#[],by rw[Array.append_empty];exact hold b _ q]] λb o q=>?_;cases e:H b with
 |some u=>
  let e2:=hold b u e;rw[q] at e2;cases e2;exact (I.aA b o e).eO (λc v _ z=>k c v z) (λc z=>hold c _ z) λc xs z=>hold c _ z
 |none=>
  let#[xs,its,rfl,z,r,t]:=_I b o q e;exact#[z,its,r,t]
end
section
variable{X:Cx}{pins:List (Addr × Obj)}{σ:St}{H:Hp}{s:Ab}{A:Ag}{E:Aa->Ab->Prop}
theorem hF_{p:Addr}{ys:ag}{R:aj->Ab->Prop}(I:Inv X pins σ H s)(h:dU X.K H p ys)(hz:ys.length<=100000)(q:∀vs s1,Inv X pins σ H s1->Vals ys vs->R vs s1):wpAny (model X.prog X.w) A (collect (.ref p)) R E s:=by
 let#[its,r,pl,_]:=I.list h;let hl:=r.length;apply collect_list pl.isList (q its _ ?_ r) (by have:=cq;omega);apply I.kept (t':=s.toks) λb u e=>?_;have lt:b<s.heap.objs.size:=bx e;rw[Heap.get?_update_ne _ _ _ _ (dG lt)];exact aQ _ e
theorem Jd{P:Nat->Aa->Prop}{acc:Array Aa}{ys:ag}(h:ItemsOf P acc ys.length)(hp:∀(j:Nat) v,P j v->∀y,ys[j]? = some y->RelV y v):Vals ys acc.toList:=by
 have gen:∀(ys:ag) (vs:aj),ys.length=vs.length->(∀(j:Nat) y v,ys[j]? = some y->vs[j]? = some v->RelV y v)->Vals ys vs:=λys=>by
  induction ys with
  |nil=>
   intro vs hl _;cases vs with
   |nil=>exact .nil
   |cons _ _=>cases hl
  |cons y ys ih=>
   intro vs hl h;cases vs with
   |nil=>cases hl
   |cons v vs=>exact .cons (h 0 y v U U) (ih vs ⇑hl λj y v a b=>h (j+1) y v ⇑a ⇑b)
 apply gen ys acc.toList (by rw[ub];exact h.1.symm) λj y v a b=>hp j v (h.2 j v ?_) y a;rw[<- Array.getElem?_toList];exact b
theorem QB{d:Addr}{kvs:List (Key × V)}(I:Inv X pins σ H s)(h:Rd H d (.dK kvs)):∃(P:Nat->Aa->Prop) (OK:Heap->Prop),KdlSrc X.prog X.w "dict" d d (kvs.map λkv=>kV kv.1).length P OK/\OK s.heap/\∀(j:Nat) v,P j v->∀y,(kvs.map λkv=>kV kv.1)[j]? = some y->RelV y v:=by
 let#[z,hd,vs,rel,dd]:=kE I.aA h;let#[ep,dat]:=dd.dictAt;let hl:=rel.length;apply#[λi v=>∃k x,vs[i]? = some (k,x)/\(dX X.prog X.w).is k v=true,λh=>h.DictAt (dX X.prog X.w) d vs ep,(by rw[av,hl];exact kdl_dict (knd:=dX X.prog X.w) (kvs:=vs) (ep:=ep) hd),dat,λj v ⟨k,x,e,hk⟩ y hy=>?_];rw[dF] at hy;have ek:kvs.map (·.1)=vs.map (·.1):=rel.keys;have e2:(kvs.map (·.1))[j]? = (vs.map (·.1))[j]?:=by rw[ek]
 rw[dF,dF,e] at e2;cases e3:kvs[j]? with
 |none=>rw[e3] at e2;cases e2
 |some kv=>
  rw[e3] at e2 hy;have e4:kv.1=k:=cX e2;have e5:kV kv.1=y:=cX hy;rw[<- e5,e4];have hk:wo k v=true:=hk;rcases ql hk with⟨i,t,rfl,rfl⟩|⟨x,t,rfl,rfl⟩
  ·exact#[t,U]
  exact#[t,U]
theorem QG{d:Addr}{kvs:List (Key × V)}{R:aj->Ab->Prop}(hh:A.handled=none)(I:Inv X pins σ H s)(h:Rd H d (.dK kvs))(q:∀vs s1,Inv X pins σ H s1->Vals (kvs.map λkv=>kV kv.1) vs->R vs s1):wpAny (model X.prog X.w) A (collect (.ref d)) R E s:=by
 let#[P,OK,S,ok,hp]:=QB I h;apply kdu_collect S hh ok ?_ λh' tk acc k a=>q _ _ (I.kept k) (Jd a hp);rw[av];exact (kE I.aA h).1
theorem XT{d:Addr}{kvs:List (aq × V)}(I:Inv X pins σ H s)(h:Rd H d (.dT kvs)):∃(ys:ag) (P:Nat->Aa->Prop) (OK:Heap->Prop),bY X.K H ys (kvs.map (·.1))/\ys.length<=sizeLine/\KdlSrc X.prog X.w "dict" d d ys.length P OK/\OK s.heap/\∀(j:Nat) v,P j v->∀y,ys[j]? = some y->RelV y v:=by
 let#[z,hd,xs,rel,o,es,ep,ho,hc,jI,vU,nd]:=h.ok I.aA
 have l1:es.size=xs.length:=by
  have:=eg List.length vU;simpa using this
 let l2:=bH rel;apply#[xs.map λx=>V.ref x.2.1,λi v=>∃h:i<es.size,v=es[i].key,λh=>Raw h d es ep,?_,by rw[av];omega,(by rw[av,<- l1];exact Y1 (es:=es) (ep:=ep) hd),#[o,ho,hc,jI],λj v ⟨hj,e⟩ y hy=>?_]
 ·have gen:∀{kvs:List (aq × V)} {xs:List (aq × Addr × Aa)},KT H kvs xs->bY X.K H (xs.map λx=>V.ref x.2.1) (kvs.map (·.1)):=λ{kvs xs} r=>by
   induction r with
   |nil=>exact .nil
   |cons h _ ih=>exact .cons #[_,U,h.2.1] ih
  exact gen rel
 rw[dF] at hy;have hx:j<xs.length:=by omega
 rw[aY hx] at hy;have e1:V.ref xs[j].2.1=y:=cX hy
 have e2:es[j]=entryOfKey (tupleKind (dX X.prog X.w)) xs[j]:=by
  have e3:es.toList[j]? = (xs.map (entryOfKey (tupleKind (dX X.prog X.w))))[j]?:=by rw[vU]
  rw[dF,aY hx,Array.getElem?_toList,Array.getElem?_eq_getElem hj] at e3;exact cX e3
 rw[<- e1,e,e2];rfl
theorem Xw{d:Addr}{kvs:List (aq × V)}{R:aj->Ab->Prop}(hh:A.handled=none)(I:Inv X pins σ H s)(h:Rd H d (.dT kvs))(q:∀ys vs s1,Inv X pins σ H s1->Vals ys vs->bY X.K H ys (kvs.map (·.1))->R vs s1):wpAny (model X.prog X.w) A (collect (.ref d)) R E s:=by
 let#[ys,P,OK,t,z,S,ok,hp]:=XT I h;exact kdu_collect S hh ok z λh' tk acc k a=>q ys _ _ (I.kept k) (Jd a hp) t
def tU(v d:Addr):HO:=.ext λh=>h.IsItemsView v d
def qe(v d:Addr):HO:=.ext λh=>h.IsValuesView v d
def kC(K:ai)(H:Hp):ag->List (Key × V)->Prop:=Paired λy p=>∃a,y=V.ref a/\H a\.tup [kV p.1,p.2]
theorem hb_{v d:Addr}{kvs:List (Key × V)}{R:aj->Ab->Prop}(hh:A.handled=none)(I:Inv X pins σ H s)(hv:H v\tU v d)(h:Rd H d (.dK kvs))(q:∀H1 ys vs s1,Inv X pins σ H1 s1->aa H H1->Vals ys vs->kC X.K H1 ys kvs->R vs s1) :
  wpAny (model X.prog X.w) A (collect (.ref v)) R E s:=by
 let#[z,hd,vs,rel,dd]:=kE I.aA h;let#[ep,dat]:=dd.dictAt;let#[iv,_,_]:=I.aA v _ hv;let hl:=rel.length;apply kdx_collect (knd:=dX X.prog X.w) (kvs:=vs) (ep:=ep) hh iv dat Z2 λh' tk as k la G=>?_;have up:∀b,b∈as->s.heap.objs.size<b:=G.above
 have at1:∀(j:Nat) b p,as[j]? = some b->kvs[j]? = some p->∃its,Vals [kV p.1,p.2] its/\IsTup h' b its.toArray/\∃o,h'.get? b\o/\o.dict=none:=λj b p hj hp=>by
  let#[key,kk,x,e1,e2,e3]:=G.pairs j b hj
  have gen:∀{kvs:List (Key × V)} {vs:List (Key × Aa)},KV kvs vs->∀(j:Nat),vs[j]? = some (kk,x)->kvs[j]? = some p->p.1=kk/\RelV p.2 x:=λ{kvs vs} r=>by
   induction r with
   |nil=>intro j e;simp at e
   |@cons p' q _ _ h _ ih=>
    intro j e e';cases j with
    |zero=>
     have e:q=(kk,x):=⇑e
     have e':p'=p:=⇑e'
     subst e';rw[e] at h;exact h
    |succ j=>exact ih j ⇑e ⇑e'
  let#[g1,g2]:=gen rel j e1 hp;apply#[[key,x],.cons ?_ (.cons g2 .nil),#[_,e3,U,_,U],_,e3,U];rw[g1];have e2:wo kk key=true:=e2;rcases ql e2 with⟨i,t,rfl,rfl⟩|⟨x,t,rfl,rfl⟩
  ·exact#[t,U]
  exact#[t,U]
 have look:∀{as:au} {kvs:List (Key × V)},as.Pairwise (· < ·)->∀(j:Nat) b p,as[j]? = some b->kvs[j]? = some p->(as.zip kvs).lookup b\p:=λ{as}=>by
  induction as with
  |nil=>intro kvs _ j b p e;simp at e
  |cons a as ih=>
   intro kvs pw j b p e e';cases kvs with
   |nil=>simp at e'
   |cons q kvs=>
    let#[p1,p2]:=List.pairwise_cons.mp pw;show ((a,q)::as.zip kvs).lookup b\p;cases j with
    |zero=>
     have e:a=b:=⇑e
     have e':q=p:=⇑e'
     subst e;subst e';rw[List.lookup_cons_self]
    |succ j=>
     have e:as[j]? = some b:=⇑e
     have e':kvs[j]? = some p:=⇑e'
     let lt:=p1 b (cZ e);rw[qi,show (b == a)=false by simp only[beq_eq_false_iff_ne];exact iu lt];exact ih p2 j b p e e'
 have lk:as.length=kvs.length:=by omega
 let H1:Hp:=λb=>if b∈as then ((as.zip kvs).lookup b).map λp=>HO.tup [kV p.1,p.2] else H b
 have EU:∀(j:Nat) b p,as[j]? = some b->kvs[j]? = some p->H1 b\.tup [kV p.1,p.2]:=λj b p e e'=>by
  show (if b∈as then _ else _)=_;rw[aI (cZ e),look G.rise j b p e e'];rfl
 have oq:∀b,b∉as->H1 b=H b:=λb hb=>aC hb;have old:∀b,b<s.heap.objs.size->b∉as:=λb hb m=>absurd (up b m) Z2;apply q H1 (as.map V.ref) _ _ (I.many (t':=tk) k (λb o e=>by rw[oq b (old b (I.aA.lt e))];exact e) (λb e hb=>by rw[oq b (old b hb)];exact e) λb o e e0=>?_) (λb o e=>by rw[oq b (old b (I.aA.lt e))];exact e) ?_ ?_
 ·by_cases m:b∈as
  ·let#[j,hj]:=List.mem_iff_getElem?.mp m
   have jl:j<kvs.length:=by
    have:=(bX.mp hj).1;omega
   let e':=EU j b kvs[j] hj (aY jl);rw[e] at e';cases e';let#[its,r,t]:=at1 j b _ hj (aY jl);exact#[_,its,U,zl,r,t]
  rw[oq b m,e0] at e;cases e
 ·have gen:∀as:au,Vals (as.map V.ref) (as.map Value.ref):=λas=>by
   induction as with
   |nil=>exact .nil
   |cons a as ih=>exact .cons U ih
  exact gen as
 have gen:∀(B_:au) (fE:List (Key × V)),B_.length=fE.length->(∀(j:Nat) b p,B_[j]? = some b->fE[j]? = some p->H1 b\.tup [kV p.1,p.2])->kC X.K H1 (B_.map V.ref) fE:=λB_=>by
  induction B_ with
  |nil=>
   intro fE hl _;cases fE with
   |nil=>exact .nil
   |cons _ _=>cases hl
  |cons a B_ ih=>
   intro fE hl h;cases fE with
   |nil=>cases hl
   |cons p fE=>exact .cons #[a,U,h 0 a p U U] (ih fE ⇑hl λj b p e e'=>h (j+1) b p ⇑e ⇑e')
 exact gen as kvs lk EU
end
end L2
namespace L2
open PySem PySem.Spec PyProof.Rows PySem.W mR da
theorem RU{a b:ae}(h:a.map bO=b.map bO):a=b:=by
 induction a generalizing b with
 |nil=>
  cases b with
  |nil=>rfl
  |cons _ _=>cases h
 |cons x a ih=>
  cases b with
  |nil=>cases h
  |cons y b=>
   let#[h1,h2]:=List.cons.inj h;have h1:[(Sum.inr x:Key)]=[Sum.inr y]:=h1;cases h1;rw[ih h2]
theorem Oj(ss:ae):(iN ss).map bO=bj (ss.map bO):=by
 have all:∀k∈bj (ss.map bO),∃x,k=bO x:=λk hk=>by
  let#[x,_,e]:=bG.mp ((uc _).mem_iff.mp hk);exact#[x,e.symm]
 have gen:∀l:List aq,(∀k∈l,∃x,k=bO x)->(l.map λk=>match k with | [.inr x]=>x|_=>(⟨#[]⟩:Str)).map bO=l:=λl=>by
  induction l with
  |nil=>exact λ_=>rfl
  |cons k l ih=>
   intro h;let#[x,rfl]:=h k gF;rw[eJ,eJ,ih λk hk=>h k (fX _ hk)];rfl
 exact gen _ all
theorem FD(ss:ae):(iN ss).Perm ss:=by
 have p:((iN ss).map bO).Perm (ss.map bO):=by rw[Oj];exact uc _
 have back:∀l:ae,(l.map bO).map (λk=>match k with | [.inr x]=>x|_=>(⟨#[]⟩:Str))=l:=λl=>by
  rw[cz]
  induction l with
  |nil=>rfl
  |cons x l ih=>rw[eJ,ih];rfl
 let q:=p.map (λk=>match k with | [.inr x]=>x|_=>(⟨#[]⟩:Str));rwa [back,back] at q
section
variable{X:Cx}{pins:List (Addr × Obj)}{σ:St}{H:Hp}{s:Ab}
theorem dK_{u:Aa}{ss:ae}{Q:VK}(cY:ss.length<64)(mh:wpAny (model X.prog X.w) X.A.in1 (collect u) (λvs s1=>∃H1,Inv X pins σ H1 s1/\Vals (ss.map V.str) vs/\∀l,H1 l=none->Q (.ref l) (upd H1 l (.lst ((iN ss).map V.str)))) X.xe s) :
  wpAny (model X.prog X.w) X.A (call (.builtin "sorted") [u]) (EP X pins σ Q) X.xe s:=by
 apply Tf (Nc (ss.map bO)) (aO mh λvs s1 ⟨H1,I1,r,q⟩=>?_);have hl:vs.length=ss.length:=by rw[<- r.length,av]
 apply#[by omega,λh2 h' _=>SI (QK r) h2,λp h' e g up hD kp=>?_];have g':Good (ss.map bO).length p:=by rw[av,<- hl];exact g
 let asc:=Mw (ks:=ss.map bO) (λi j _ _=>rfl) g' (by rw[av,<- hl];exact up)
 have perm:(p.toList.map λi=>(ss.map bO).getD i []).Perm (ss.map bO):=by
  have:=FJ g' λi=>(ss.map bO).getD i [];rwa [FN] at this
 let es:=N4 perm asc
 have inr:∀i∈p.toList,i<ss.length:=λi hi=>by
  have m:i∈(List.range vs.length).toArray:=g.mem_iff.mp ⇑hi;rw[hl] at m;simpa using m
 have e1:(p.toList.map λi=>ss.getD i ⟨#[]⟩)=iN ss:=by
  apply RU ?_;rw[Oj,<- es,cz];apply u4 λi hi=>?_;have:=inr i hi;simp[this]
 let rv:=MO r g
 have e2:(p.toList.map λi=>(ss.map V.str).getD i .non)=(iN ss).map V.str:=by
  rw[<- e1,cz];apply u4 λi hi=>?_;have:=inr i hi;simp[this]
 rw[e2] at rv;apply#[.ref s1.heap.objs.size,_,I1.laid (t':=s1.toks) kp (bh _) (show fj X.prog X.w _ h' _ (.lst ((iN ss).map V.str)) from #[?_,mB p vs,e,rv,hD]),U,q _ (I1.aA.fresh (bh _))];rw[av,(FD ss).length_eq];have:=cq;omega
theorem ZR{K:ai}{H:Hp}{ys:ag}{ks:List aq}(t:bY K H ys ks):∀l:List Nat,(∀i∈l,i<ys.length)->bY K H (l.map λi=>ys.getD i .non) (l.map λi=>ks.getD i []):=λl=>by
 induction l with
 |nil=>exact λ_=>.nil
 |cons i l ih=>
  intro h;apply .cons ?_ (ih λj hj=>h j (fX _ hj));let hi:=h i gF
  have gen:∀{ys:ag} {ks:List aq} (i:Nat),i<ys.length->bY K H ys ks->∃a,ys.getD i .non=V.ref a/\H a\.tup ((ks.getD i []).map kV):=λ{ys ks} i hy t=>by
   induction t generalizing i with
   |nil=>exact absurd hy Y0
   |cons h t ih=>
    cases i with
    |zero=>exact h
    |succ i=>exact ih i ⇑hy
  exact gen i hi t
theorem TU{u:Aa}{ks:List aq}{sh:List Bool}{Q:VK}(cY:ks.length<64)(al:Alike ks sh)
  (mh:wpAny (model X.prog X.w) X.A.in1 (collect u) (λvs s1=>∃H1 ys,Inv X pins σ H1 s1/\Vals ys vs/\bY X.K H1 ys ks/\∀l zs,H1 l=none->bY X.K H1 zs (bj ks)->zs.Perm ys->Q (.ref l) (upd H1 l (.lst zs))) X.xe s) :
  wpAny (model X.prog X.w) X.A (call (.builtin "sorted") [u]) (EP X pins σ Q) X.xe s:=by
 apply Tf (Nc ks) (aO mh λvs s1 ⟨H1,ys,I1,r,t,q⟩=>?_);let l1:=r.length;let l2:=bH t;have hl:vs.length=ks.length:=by omega
 apply#[by omega,λh2 h' k=>gE_ I1 r t al h2 k,λp h' e g up hD kp=>?_];have g':Good ks.length p:=by rw[<- hl];exact g
 let asc:=Mw (ks:=ks) (λi j _ _=>rfl) g' (by rw[<- hl];exact up)
 have perm:(p.toList.map λi=>ks.getD i []).Perm ks:=by
  have:=FJ g' λi=>ks.getD i [];rwa [FN] at this
 let es:=N4 perm asc
 have inr:∀i∈p.toList,i<ys.length:=λi hi=>by
  have m:i∈(List.range vs.length).toArray:=g.mem_iff.mp ⇑hi;rw[<- l1] at m;simpa using m
 let tz:=ZR t p.toList inr;rw[es] at tz;let rv:=MO r g
 have pz:(p.toList.map λi=>ys.getD i .non).Perm ys:=by
  have:=FJ (n:=ys.length) (by rw[l1];exact g) λi=>ys.getD i .non;rwa [FN] at this
 apply#[.ref s1.heap.objs.size,_,I1.laid (t':=s1.toks) kp (bh _) (show fj X.prog X.w _ h' _ (.lst (p.toList.map λi=>ys.getD i .non)) from #[?_,mB p vs,e,rv,hD]),U,q _ _ (I1.aA.fresh (bh _)) tz pz];rw[pz.length_eq];have:=cq;omega
end
section
variable{X:Cx}
inductive nF (K:ai) (xs:ag) (H:Hp) (Q:VK):Prop
 |mk:∀d kvs sh,xs=[.ref d]->H d\.dT kvs->Alike (kvs.map (·.1)) sh->kvs.length<64->(∀l zs,H l=none->bY K H zs (bj (kvs.map (·.1)))->Q (.ref l) (upd H l (.lst zs)))->nF K xs H Q
theorem eH_(hc:X.calm=true):gr X (.builtin "sorted") (nF X.K):=by
 intro pins s σ H xs us Q I r h;let#[d,kvs,sh,rfl,hd,al,cY,q]:=h;let#[u,rfl,ru]:=vals1 r;cases ru;exact TU (by rw[av];exact cY) al (Xw (I.ok.hd hc) I (.inl hd) λys vs s1 I1 r1 t=>⟨H,ys,I1,r1,t,λl zs n t' _=>q l zs n t'⟩)
inductive nI (xs:ag) (H:Hp) (Q:VK):Prop
 |mk:∀d kvs ss,xs=[.ref d]->H d\.dK kvs->kvs.map (·.1)=ss.map Sum.inr->ss.length<64->(∀l,H l=none->Q (.ref l) (upd H l (.lst ((iN ss).map V.str))))->nI xs H Q
theorem ew_(hc:X.calm=true):gr X (.builtin "sorted") nI:=by
 intro pins s σ H xs us Q I r h;let#[d,kvs,ss,rfl,hd,ek,cY,q]:=h;let#[u,rfl,ru]:=vals1 r;cases ru;apply dK_ cY (QG (I.ok.hd hc) I (.inl hd) λvs s1 I1 r1=>⟨H,I1,?_,q⟩)
 have e:(kvs.map λkv=>kV kv.1)=ss.map V.str:=by
  rw[show (kvs.map λkv=>kV kv.1)=(kvs.map (·.1)).map kV by rw[cz];rfl,ek,cz];rfl
 rwa [e] at r1
inductive rY (K:ai) (xs:ag) (H:Hp) (Q:VK):Prop
 |mk:∀(v d:Addr) (kvs:List (Key × V)) (ks:List (Key × Key)) (sh:List Bool),xs=[.ref v]->H v\tU v d->H d\.dK kvs->kvs=ks.map (λk:Key × Key=>(k.1,kV k.2))->Alike (ks.map λk=>[k.1,k.2]) sh->ks.length<64->(∀l H1 zs,aa H H1->H1 l=none->bY K H1 zs (bj (ks.map λk=>[k.1,k.2]))->Q (.ref l) (upd H1 l (.lst zs)))->rY K xs H Q
theorem fy_(hc:X.calm=true):gr X (.builtin "sorted") (rY X.K):=by
 intro pins s σ H xs us Q I r h;let#[v,d,kvs,ks,sh,rfl,hv,hd,ek,al,cY,q]:=h;let#[u,rfl,ru]:=vals1 r;cases ru;apply TU (by rw[av];exact cY) al (hb_ (I.ok.hd hc) I hv (.inl hd) λH1 ys vs s1 I1 sm r1 t=>⟨H1,ys,I1,r1,?_,λl zs n t' _=>q l H1 zs sm n t'⟩);subst ek
 have gen:∀(ks:List (Key × Key)) (ys:ag),kC X.K H1 ys (ks.map (λk:Key × Key=>(k.1,kV k.2)))->bY X.K H1 ys (ks.map λk=>[k.1,k.2]):=λks=>by
  induction ks with
  |nil=>
   intro ys t;cases t;exact .nil
  |cons k ks ih=>
   intro ys t;cases t with
   |cons h t=>exact .cons h (ih _ t)
 exact gen ks ys t
inductive r6 (xs:ag) (H:Hp) (Q:VK):Prop
 |mk:∀d kvs,xs=[.ref d]->Rd H d (.dK kvs)->(∀l,H l=none->Q (.ref l) (upd H l (.lst (kvs.map λkv=>kV kv.1))))->r6 xs H Q
theorem NL(hc:X.calm=true):gr X (.type "list") r6:=by
 intro pins s σ H xs us Q I r h;let#[d,kvs,rfl,hd,q]:=h;let#[u,rfl,ru]:=vals1 r;cases ru;let#[P,OK,S,ok,hp]:=QB I hd;let z:=(kE I.aA hd).1;apply kdl_call S (I.ok.hd hc) ok (by rw[av];exact z) λh' tk acc c k hD a=>?_;apply#[.ref s.heap.objs.size,_,I.laid (t':=tk) k (bh _) (show fj X.prog X.w _ h' _ (.lst (kvs.map λkv=>kV kv.1)) from #[by rw[av];exact z,acc.toList,c,Jd a hp,by rw[Array.toArray_toList];exact hD]),U,q _ I.fresh]
theorem KV.eQ{κ:Type}[DecidableEq κ]:∀{more:List (κ × V)} {rs:List (κ × Aa)} {kvs:List (κ × V)} {vs:List (κ × Aa)},KV more rs->KV kvs vs->KV (more.foldl (λacc kv=>putK acc kv.1 kv.2) kvs) (da.eQ vs rs):=λ{more rs kvs vs} h=>by
 induction h generalizing kvs vs with
 |nil=>exact λh=>h
 |@cons p q _ _ h _ ih=>
  intro h2;let#[k,y]:=p;let#[k',u]:=q;let#[h1,h3]:=h;have h1:k=k':=h1;subst h1;exact ih (h2.put k h3)
inductive nL (K:ai) (xs:ag) (H:Hp) (Q:VK):Prop
 |mk:∀p ys kvs,xs=[.ref p]->H p\.lst ys->kC K H ys kvs->kvs.length<=1000->(∀l,H l=none->Q (.ref l) (upd H l (.dK (wH [] kvs))))->nL K xs H Q
theorem Bc(hc:X.calm=true):gr X (.type "dict") (nL X.K):=by
 intro pins s σ H xs us Q I r h;let#[p,ys,kvs,rfl,hp,t,hz,q]:=h;let#[u,rfl,ru]:=vals1 r;cases ru;let#[z,its,n,rv,hl,ho]:=I.i5 hp
 have gen:∀{ys:ag} {its:aj} {kvs:List (Key × V)},Vals ys its->kC X.K H ys kvs->∃ps,KV kvs ps/\MX (dX X.prog X.w) s.heap its ps:=λ{ys its kvs} rv t=>by
  induction t generalizing its with
  |nil=>
   cases rv;exact#[[],.nil,.nil]
  |@cons y p ys kvs h t ih=>
   cases rv with
   |cons r0 rv=>
    let#[ps,h1,h2]:=ih rv;let#[a,e,sq]:=h;subst e;cases r0;let#[tv,rt,it,_]:=I.tuple (eD.of sq);let#[key,x,e2,rk,rx]:=vals2 rt;subst e2;apply#[(p.1,x)::ps,Paired.cons (show p.1=p.1/\RelV p.2 x from #[U,rx]) h1,Paired.cons (show ∃a' DU,Value.ref a=.ref a'/\IsTup s.heap a' (List.toArray [DU,x])/\(dX X.prog X.w).is p.1 DU=true from #[a,key,U,it,we rk]) h2]
 let#[ps,h1,h2]:=gen rv t;let lp:=KV.length h1;apply dZ_ (knd:=dX X.prog X.w) (I.ok.hd hc) ho h2 Z2 λh' tk hd kp=>?_;apply#[.ref s.heap.objs.size,_,I.laid (t':=tk) kp (bh _) (L_ ?_ (beq_eq_false_iff_ne.mpr (bN (dG I.big))) (KV.eQ h1 .nil) hd),U,q _ I.fresh];have:=Oy kvs [];have:=cq;simp only[List.length_nil] at *;show (wH [] kvs).length<=sizeLine;omega
theorem MG:∀{bs:List Bool} {vs:aj},Vals (bs.map V.bl) vs->vs=bs.map Value.bool
 |[],_,.nil=>rfl
 |b::bs,_,.cons h t=>by
  cases h;rw[MG t];rfl
inductive zk (K:ai) (g:List Bool->Bool) (xs:ag) (H:Hp) (Q:VK):Prop
 |mk:∀p bs,xs=[.ref p]->dU K H p (bs.map V.bl)->Q (.bl (g bs)) H->zk K g xs H Q
theorem R4(hc:X.calm=true):gr X (.builtin "all") (zk X.K λbs=>bs.all id):=by
 intro pins s σ H xs us Q I r h;let#[p,bs,rfl,hp,q]:=h;let#[u,rfl,ru]:=vals1 r;cases ru;let#[its,rv,pl,z]:=I.list hp;obtain rfl:=MG rv;let hl:=pl.isList;have lt:p<s.heap.objs.size:=by let#[_,e,_]:=hl;exact bx e
 apply call_all_walk (wpAny_pyIter_list hl ⟨s.heap.objs.size,[s.heap.objs.size,p],[s.heap.objs.size],(bs.map Value.bool).toArray.size,_,_,λi=>(bs[i]?).getD true,rfl,Walks.list (A:=X.A.in1) (I.ok.hd hc) _ p (dG lt) _,⟨⟨_,cJ _ rfl,rfl,rfl⟩,hl.push _⟩,λi v s' Q' E' hP hQ=>?_,λh' tk hk=>?_⟩)
 ·have hP:(bs.map Value.bool).toArray[i]? = some v:=hP;simp only[List.getElem?_toArray,dF] at hP;cases e:bs[i]? with
  |none=>rw[e] at hP;cases hP
  |some b=>
   have hQ:Q' ((bs[i]?).getD true) s':=hQ;rw[e] at hP hQ;cases hP;exact tR hQ
 have e:((List.range (bs.map Value.bool).toArray.size).all λi=>(bs[i]?).getD true)=bs.all id:=by
  rw[dh,av];exact LSm.range_all bs
 rw[e];exact#[.bl _,H,I.kept (LSm.kept_iter hk),U,q]
theorem _g(hc:X.calm=true):gr X (.builtin "any") (zk X.K λbs=>bs.any id):=by
 intro pins s σ H xs us Q I r h;let#[p,bs,rfl,hp,q]:=h;let#[u,rfl,ru]:=vals1 r;cases ru;let#[its,rv,pl,z]:=I.list hp;obtain rfl:=MG rv;let hl:=pl.isList;have lt:p<s.heap.objs.size:=by let#[_,e,_]:=hl;exact bx e
 apply call_any_walk (wpAny_pyIter_list hl #[s.heap.objs.size,[s.heap.objs.size,p],[s.heap.objs.size],(bs.map Value.bool).toArray.size,_,_,λi=>(bs[i]?).getD false,U,Walks.list (A:=X.A.in1) (I.ok.hd hc) _ p (dG lt) _,#[#[_,cJ _ U,U,U],hl.push _],λi v s' Q' E' hP hQ=>?_,λh' tk hk=>?_])
 ·have hP:(bs.map Value.bool).toArray[i]? = some v:=hP;simp only[List.getElem?_toArray,dF] at hP;cases e:bs[i]? with
  |none=>rw[e] at hP;cases hP
  |some b=>
   have hQ:Q' ((bs[i]?).getD false) s':=hQ;rw[e] at hP hQ;cases hP;exact tR hQ
 have e:((List.range (bs.map Value.bool).toArray.size).any λi=>(bs[i]?).getD false)=bs.any id:=by
  rw[dh,av];exact LSm.range_any bs
 rw[e];exact#[.bl _,H,I.kept (LSm.kept_iter hk),U,q]
end
end L2
namespace Jl
open PySem PySem.SeqAt PyProof.Rows
open AutoSeq1 (wpAny_loadPart')
open MeetsSeq MeetsSeq2 MeetsSeq3 SeqRoads2
theorem X0(l b:Addr)(xs ys:Array Aa)(n m:Nat)(dl db:Option Addr)(sl sb:Array (Option Aa))(hs:xs.size=ys.size)(e:Nat->Bool)(k:Nat) :
  ∀i:Nat,xs.size - i=k->Meets (Builtin.«list.__eq__.loop» #[[.ref l,.ref b,rawInt i,rawInt 3],[]])
   (λA R s=>(s.heap.get? l=some { cls:=.type "list",dict:=dl,data:=.seq xs n,slots:=sl }/\s.heap.get? b=some { cls:=.type "list",dict:=db,data:=.seq ys m,slots:=sb }) /\
    (∀j (h1:j<xs.size) (h2:j<ys.size),EqAt A.in1 s xs[j] ys[j] (e j))/\R (.ok (.ret (.bool (!((List.range xs.size).drop i).all e)))) s):=by
 induction k with
 |zero=>
  intro i hk prog w A R s ⟨⟨gl,gb⟩,he,h⟩;let#[hp,g,d,tk,os]:=s
  wp_walk using pE gl,pE gb
  rw[show xs[((i:Nat):Int).toNat]? = none by simp;omega,show ys[((i:Nat):Int).toNat]? = none by simp;omega];rw[show (List.range xs.size).drop i=[] by simp;omega] at h
  wp_walk using pE gl,pE gb
  apply (show R (.ok (.ret (.bool (xs.size != ys.size)))) _ from ?_);rw[show (xs.size != ys.size)=false by simp[hs]];exact h
 |succ k ih=>
  intro i hk prog w A R s ⟨⟨gl,gb⟩,he,h⟩;let#[hp,g,d,tk,os]:=s
  wp_walk using pE gl,pE gb
  have z1:i<xs.size:=by omega
  have z2:i<ys.size:=by omega
  have q1:xs[((i:Nat):Int).toNat]? = some xs[i]:=by simp[z1]
  have q2:ys[((i:Nat):Int).toNat]? = some ys[i]:=by simp[z2]
  rw[show (List.range xs.size).drop i=i::(List.range xs.size).drop (i+1) by simp[List.drop_eq_getElem_cons,z1],List.all_cons] at h;rw[q1,q2];apply af (he i z1 z2 prog w _ _ ?_);cases c:e i with
  |true=>
   rw[c] at h
   wp_walk
   rw[show ((i:Int)+1)=((i+1:Nat):Int) by omega];apply#[plainId_quiet plain_eq_loop _,codeAny_builtin entry_eq_loop ?_];rw[xW plain_eq_loop _];exact ih (i+1) Z2 prog w A R _ #[#[gl,gb],he,by simpa using h]
  |false=>
   rw[c] at h
   wp_walk using pE gl,pE gb
   rw[q1,q2]
   wp_walk
   simpa using h
theorem hS_(l b:Addr)(xs ys:Array Aa)(n m:Nat)(dl db:Option Addr)(sl sb:Array (Option Aa))(hs:xs.size=ys.size)(e:Nat->Bool) :
  Meets (Builtin.«list.__ne__» #[[.ref l,.ref b],[]])
   (λA R s=>(s.heap.get? l=some { cls:=.type "list",dict:=dl,data:=.seq xs n,slots:=sl }/\s.heap.get? b=some { cls:=.type "list",dict:=db,data:=.seq ys m,slots:=sb }) /\
    (∀j (h1:j<xs.size) (h2:j<ys.size),EqAt A.in1 s xs[j] ys[j] (e j))/\R (.ok (.ret (.bool (!(List.range xs.size).all e)))) s):=by
 intro prog w A R s ⟨⟨gl,gb⟩,he,h⟩;let#[hp,g,d,tk,os]:=s;let f3:=AutoSeq1.sub_list_list;have no:¬(xs.size != ys.size)=true:=by simp[hs]
 wp_walk using pE gl,pE gb
 apply#[plainId_quiet plain_eq_loop _,codeAny_builtin entry_eq_loop ?_];rw[xW plain_eq_loop _];exact X0 l b xs ys n m dl db sl sb hs e _ 0 U prog w A R _ #[#[gl,gb],he,by simpa using h]
theorem hH_(l b:Addr)(xs ys:Array Aa)(n m:Nat)(dl db:Option Addr)(sl sb:Array (Option Aa))(hs:(xs.size != ys.size)=true) :
  Meets (Builtin.«list.__ne__» #[[.ref l,.ref b],[]])
   (λA R s=>(s.heap.get? l=some { cls:=.type "list",dict:=dl,data:=.seq xs n,slots:=sl }/\s.heap.get? b=some { cls:=.type "list",dict:=db,data:=.seq ys m,slots:=sb })/\R (.ok (.ret (.bool true))) s):=
 .of_wp λprog w A R s ⟨⟨gl,gb⟩,h⟩=>by
  let#[hp,g,d,tk,os]:=s;let f3:=AutoSeq1.sub_list_list
  wp_walk using pE gl,pE gb
  exact#[_,U,h]
section
variable{prog:Ad}{w:Af}{A:Ag}{E:Aa->Ab->Prop}{s:Ab}
theorem oZ{l b:Addr}{xs ys:Array Aa}{e:Nat->Bool}{Q:Aa->Ab->Prop}(hl:s.heap.IsList l xs)(hb:s.heap.IsList b ys)(hs:xs.size=ys.size)(hu:A.units<cLine)
  (he:∀j (h1:j<xs.size) (h2:j<ys.size),EqAt A.in1 s xs[j] ys[j] (e j)) (h:Q (.bool (!(List.range xs.size).all e)) s):wpAny (model prog w) A (compareOp .NotEq (.ref l) (.ref b)) Q E s:=by
 let#[#[c1,d1,t1,l1],o1,k1,n1,z1]:=id hl;let#[#[c2,d2,t2,l2],o2,k2,n2,z2]:=id hb;simp only at k1 z1 k2 z2;subst k1 z1 k2 z2;exact richCompare_meets_room (op:=.NotEq) #[_,o1,U] #[_,o2,U] F.slot_list_ne F.entry_list_ne (F.args_list_ne_2 _ _) (hS_ l b xs ys n1 n2 d1 d2 l1 l2 hs e) #[#[o1,o2],he,show Value.bool (!(List.range xs.size).all e)≠Value.notImplemented/\Q (.bool (!(List.range xs.size).all e)) s from #[(λx=>nomatch x),h]] hu
theorem gX{l b:Addr}{xs ys:Array Aa}{Q:Aa->Ab->Prop}(hl:s.heap.IsList l xs)(hb:s.heap.IsList b ys)(hs:(xs.size != ys.size)=true)(hu:A.units<cLine)(h:Q (.bool true) s):wpAny (model prog w) A (compareOp .NotEq (.ref l) (.ref b)) Q E s:=by
 let#[#[c1,d1,t1,l1],o1,k1,n1,z1]:=id hl;let#[#[c2,d2,t2,l2],o2,k2,n2,z2]:=id hb;simp only at k1 z1 k2 z2;subst k1 z1 k2 z2;exact richCompare_meets_room (op:=.NotEq) #[_,o1,U] #[_,o2,U] F.slot_list_ne F.entry_list_ne (F.args_list_ne_2 _ _) (hH_ l b xs ys n1 n2 d1 d2 l1 l2 hs) #[#[o1,o2],show Value.bool true≠Value.notImplemented/\Q (.bool true) s from #[(λx=>nomatch x),h]] hu
end
end Jl
namespace L2
open PySem PySem.Spec PyProof.Rows PySem.W mR da
abbrev Rp(D:Type):=Hp->V->D->Prop
structure u9 (X:Cx) (n:Nat) {D:Type} [DecidableEq D] (R:Rp D):Prop where
 eq:∀{pins:List (Addr × Obj)} {σ:St} {H:Hp} {s:Ab} {A:Ag} {x y:V} {u v:Aa} {d e:D},Inv X pins σ H s->RelV x u->RelV y v->R H x d->R H y e->A.units+n<cLine->SeqAt.EqAt A s u v (decide (d=e))
 one:∀{pins:List (Addr × Obj)} {σ:St} {H:Hp} {s:Ab} {x:V} {d e:D},Inv X pins σ H s->R H x d->R H x e->d=e
def rS:Rp Str:=λ_ x d=>x=.str d
def r2(K:ai){D1 D2:Type}(R1:Rp D1)(R2:Rp D2):Rp (D1 × D2):=λH x d=>∃a u v,x=.ref a/\eD K H a [u,v]/\R1 H u d.1/\R2 H v d.2
def rL(K:ai){D:Type}(R:Rp D):Rp (List D):=λH x ds=>∃a xs,x=.ref a/\dU K H a xs/\Paired (R H) xs ds
section
variable{X:Cx}
theorem i_:u9 X 0 rS where
 eq:=λ{pins σ H s A x y u v d e} I ru rv hx hy hu=>by
  have hx:x=.str d:=hx;have hy:y=.str e:=hy;subst hx;subst hy;let q:=Qr (A:=A) (s:=s) ru rv U U
  have e2:Mx (.str d) (.str e)=decide (d=e):=by
   show (d == e)=_;by_cases h:d=e
   ·subst h;simp
   simp[h]
  rwa [e2] at q
 one:=λ{pins σ H s x d e} I hx hy=>by
  have hx:x=.str d:=hx;have hy:x=.str e:=hy;rw[hx] at hy;exact V.str.inj hy
theorem NK{h:Heap}{a:Addr}{its:Array Aa}(t:IsTup h a its):h.IsTuple a its:=t
theorem Fh{n m:Nat}{D1 D2:Type}[DecidableEq D1][DecidableEq D2]{R1:Rp D1}{R2:Rp D2}(c1:u9 X n R1)(c2:u9 X m R2):u9 X (max n m+1) (r2 X.K R1 R2) where
 one:=λ{pins σ H s x d e} I hx hy=>by
  let#[a,u,v,rfl,t,q1,q2]:=hx;let#[b,u',v',e0,t',Gk,Gj]:=hy;cases e0;let e1:=I.dB t t';cases e1;exact Prod.ext (c1.one I q1 Gk) (c2.one I q2 Gj)
 eq:=λ{pins σ H s A x y u v d e} I ru rv hx hy hu=>by
  let vR:=hx;let D5:=hy;let#[a,x1,x2,rfl,t,q1,q2]:=hx;let#[b,y1,y2,rfl,t',Gk,Gj]:=hy;cases ru;cases rv;by_cases xK:a=b
  ·subst xK;let e1:=I.dB t t';cases e1;have:d=e:=Prod.ext (c1.one I q1 Gk) (c2.one I q2 Gj);rw[cw this];exact SeqAt.EqAt.same _
  let#[its,r,it,_]:=I.tuple t;let#[its',r',Zu,_]:=I.tuple t';let#[u1,u2,rfl,r1,r2]:=vals2 r;let#[w1,w2,rfl,Wh,Wc]:=vals2 r'
  let key:=SeqAt.EqAt.of_refs xK (SeqAt.RcAt.tuples (A:=A) (s:=s) (e:=λj=>if j=0 then decide (d.1=e.1) else decide (d.2=e.2)) (NK it) (NK Zu) Z2 λj h1 h2=>by
   match j,h1,h2 with
   |0,_,_=>exact c1.eq I r1 Wh q1 Gk (by show A.units+1+n<cLine;omega)
   |1,_,_=>exact c2.eq I r2 Wc q2 Gj (by show A.units+1+m<cLine;omega))
  have e3:((List.range (min [u1,u2].toArray.size [w1,w2].toArray.size)).all (λj=>if j=0 then decide (d.1=e.1) else decide (d.2=e.2))&&[u1,u2].toArray.size == [w1,w2].toArray.size)=decide (d=e):=by
   show (decide (d.1=e.1)&&(decide (d.2=e.2)&&true)&&true)=_;by_cases h1:d.1=e.1
   ·by_cases h2:d.2=e.2
    ·have:d=e:=Prod.ext h1 h2;simp[this]
    have:¬d=e:=λz=>h2 (by rw[z]);simp[h1,h2,this]
   have:¬d=e:=λz=>h1 (by rw[z]);simp[h1,this]
  rw[e3] at key;exact key
theorem d9{α β:Type}{F:α->β->Prop}:∀{l:List α} {m:List β},Paired F l m->∀(i:Nat) (h1:i<l.length) (h2:i<m.length),F l[i] m[i]
 |_,_,.cons h t,0,_,_=>h
 |_,_,.cons h t,i+1,h1,h2=>d9 t i ⇑h1 ⇑h2
theorem e7_{D:Type}[DecidableEq D]:∀{ds es:List D},ds.length=es.length->((List.range ds.length).all λj=>decide (ds[j]? = es[j]?))=decide (ds=es):=λ{ds es} hl=>by
 by_cases h:ds=es
 ·subst h;simp
 rw[ft h]
 have:∃i,i<ds.length/\ds[i]?≠es[i]?:=by
  apply Classical.byContradiction λhn=>h ?_;apply List.ext_getElem? ?_;intro i;by_cases hi:i<ds.length
  ·exact Classical.byContradiction λq=>hn #[i,hi,q]
  rw[List.getElem?_eq_none Z2,List.getElem?_eq_none Z2]
 let#[i,hi,q]:=this;rw[List.all_eq_false];exact#[i,by simpa using hi,by simpa using q]
theorem hQ_{D:Type}[DecidableEq D]{n:Nat}{R:Rp D}(c:u9 X n R){pins:List (Addr × Obj)}{σ:St}{H:Hp}{s:Ab}{A:Ag}(I:Inv X pins σ H s){xs ys:ag}{us vs:aj}{ds es:List D}(ru:Vals xs us)(rv:Vals ys vs)(hx:Paired (R H) xs ds)(hy:Paired (R H) ys es)(hu:A.units+n<cLine) :
  ∀j (h1:j<us.toArray.size) (h2:j<vs.toArray.size),SeqAt.EqAt A s us.toArray[j] vs.toArray[j] (decide (ds[j]? = es[j]?)):=λj h1 h2=>by
 let l1:=ru.length;let l2:=rv.length;let l3:=bH hx;let l4:=bH hy;simp only[dh] at h1 h2;let q:=c.eq (A:=A) I (d9 ru j Z2 h1) (d9 rv j Z2 h2) (d9 hx j Z2 Z2) (d9 hy j Z2 Z2) hu
 have e:decide (ds[j]? = es[j]?)=decide (ds[j]' Z2=es[j]' Z2):=by
  rw[aY Z2,aY Z2];by_cases z:ds[j]' Z2=es[j]' Z2
  ·simp[z]
  simp[z]
 rw[e];exact q
def Kc{D:Type}[DecidableEq D](R:Rp D)(neg:Bool):V->V->Hp->VK->Prop:=λx y H Q=>∃d e,R H x d/\R H y e/\Q (.bl (if neg then !decide (d=e) else decide (d=e))) H
theorem XA{n:Nat}{D:Type}[DecidableEq D]{R:Rp D}(c:u9 X n R)(hu:X.A.units+n+1<cLine):d_ X (compareOp .NotEq) (Kc (rL X.K R) true):=by
 intro pins s σ H x y v u Q I rx ry h;let#[d,e,#[a,xs,rfl,t,q],#[b,ys,rfl,t',q'],hq]:=h;cases rx;cases ry;let#[us,r,pl,_]:=I.list t;let#[vs,r',Gn,_]:=I.list t';let l1:=r.length;let l2:=r'.length;let l3:=bH q;let l4:=bH q';have hq:Q (.bl (!decide (d=e))) H:=hq;by_cases hl:d.length=e.length
 ·apply Jl.oZ pl.isList Gn.isList (by simp only[dh];omega) Z2 (hQ_ c I r r' q q' (A:=X.A.in1) (by show X.A.units+1+n<cLine;omega)) #[.bl _,H,I,U,?_];rw[show us.toArray.size=d.length by simp only[dh];omega,e7_ hl];exact hq
 apply Jl.gX pl.isList Gn.isList (by simp only[dh,bne_iff_ne];omega) Z2 #[.bl _,H,I,U,?_];rwa [ft (λz=>hl (by rw[z]))] at hq
def zj(K:ai){D:Type}[DecidableEq D](R:Rp D)(neg:Bool):V->V->Hp->VK->Prop:=λx y H Q=>∃d es,R H x d/\rL K R H y es/\Q (.bl (if neg then !decide (d∈es) else decide (d∈es))) H
theorem L8{D:Type}[DecidableEq D]{n:Nat}{R:Rp D}(c:u9 X n R){pins:List (Addr × Obj)}{σ:St}{H:Hp}{s:Ab}{A:Ag}(I:Inv X pins σ H s){x:V}{u:Aa}{d:D}(ru:RelV x u)(hx:R H x d)(hu:A.units+n<cLine):∀{ys:ag} {vs:aj} {es:List D},Vals ys vs->Paired (R H) ys es->
  ∃f:Aa->Bool,(∀w∈vs,SeqAt.EqAt A s w u (f w))/\vs.any f=decide (d∈es):=λ{ys vs es} rv hy=>by
 let f:Aa->Bool:=λw=>@decide (∃y e,RelV y w/\R H y e/\e=d) (Classical.propDecidable _)
 have sound:∀y w e,RelV y w->R H y e->f w=decide (e=d):=λy w e h1 h2=>by
  by_cases z:e=d
  ·rw[cw z];exact @cw _ (Classical.propDecidable _) #[y,e,h1,h2,z]
  rw[ft z];apply @ft _ (Classical.propDecidable _) λ⟨y',e',g1,g2,g3⟩=>z ?_;have:y'=y:=RelV.inj g1 h1;subst this;rw[<- g3];exact c.one I h2 g2
 apply#[f,?_,?_]
 ·induction rv generalizing es with
  |nil=>exact λw hw=>nomatch hw
  |cons h t ih=>
   cases hy with
   |cons g t'=>
    intro w hw;rcases bZ.mp hw with rfl|hw
    ·rw[sound _ _ _ h g];exact c.eq I h ru g hx hu
    exact ih t' w hw
 induction rv generalizing es with
 |nil=>
  cases hy;simp
 |cons h t ih=>
  cases hy with
  |@cons _ e _ es g t'=>
   rw[List.any_cons,ih t',sound _ _ _ h g];by_cases z:e=d
   ·subst z;simp
   by_cases z2:d∈es
   ·simp[z2]
   have:¬d∈e::es:=λq=>by
    rcases bZ.mp q with q|q
    ·exact z q.symm
    exact z2 q
   rw[ft z,ft z2,ft this];rfl
theorem L5{n:Nat}{D:Type}[DecidableEq D]{R:Rp D}(c:u9 X n R)(hu:X.A.units+n+1<cLine):d_ X (compareOp .In) (zj X.K R false):=by
 intro pins s σ H x y v u Q I rx ry h;let#[d,es,hx,#[a,ys,rfl,t,q],hq]:=h;cases ry;let#[us,r,pl,_]:=I.list t;let#[f,h1,h2]:=L8 c I (A:=X.A.in1) rx hx (by show X.A.units+1+n<cLine;omega) r q;apply SeqAt.in_listAt f pl.isList (λw hw=>h1 w ⇑hw) #[.bl _,H,I,U,?_];rw[show us.toArray.any f=us.any f by simp,h2];exact hq
theorem S3{n:Nat}{D:Type}[DecidableEq D]{R:Rp D}(c:u9 X n R)(hu:X.A.units+n+1<cLine):d_ X (compareOp .NotIn) (zj X.K R true):=by
 intro pins s σ H x y v u Q I rx ry h;let#[d,es,hx,#[a,ys,rfl,t,q],hq]:=h;cases ry;let#[us,r,pl,_]:=I.list t;let#[f,h1,h2]:=L8 c I (A:=X.A.in1) rx hx (by show X.A.units+1+n<cLine;omega) r q;apply SeqAt.notIn_listAt f pl.isList (λw hw=>h1 w ⇑hw) #[.bl _,H,I,U,?_];rw[show us.toArray.any f=us.any f by simp,h2];exact hq
end
end L2
namespace L2
open PySem PySem.Spec PyProof.Rows PySem.W mR da
section
variable{X:Cx}
inductive Di (K:ai) (xs:ag) (H:Hp) (Q:VK):Prop
 |mk:∀x T t b,xs=[x,.ty T]->fI K H x t->PySem.W.kitOne K t (.type T)\b->Q (.bl b) H->Di K xs H Q
theorem jU:gr X (.builtin "isinstance") (Di X.K):=by
 intro pins s σ H xs us Q I r h;let#[x,T,t,b,rfl,ty,e,q]:=h;let#[u,w',rfl,ru,ig]:=vals2 r;cases (show w'=Value.type T from ig);exact Tt I ru ty e λtk=>#[.bl b,H,I.tok tk,U,q]
inductive T3 (x:V) (y:V) (H:Hp) (Q:VK):Prop
 |mk:∀i j,x=.str i->y=.str j->Q (.bl (!decide (j.cps.toList<i.cps.toList))) H->T3 x y H Q
theorem Sx:d_ X (compareOp .LtE) T3:=by
 intro pins s σ H x y v u Q I rx ry h;let#[i,j,rfl,rfl,q]:=h;let#[t,rfl]:=rx;let#[t',rfl]:=ry;exact PySem.P.le_str ⟨.bl _,H,I,rfl,q⟩
theorem Yv{prog:Ad}{w':Af}{A:Ag}{E:Aa->Ab->Prop}{s:Ab}(l:Addr)(its:Array Aa)(n:Nat)(k:Int)(t:Tok)(w:Aa)(h1:¬(!Builtin.List.listFitsIndex k)=true)(h2:its.size<=sizeLine){Q:Aa->Ab->Prop}
 (e:s.heap.get? l=some { cls:=.type "list",data:=.seq its n }) (f:Array Aa->Array Aa) (hf:f=λxs:Array Aa=>let k:=if k<0 then (k+((xs.size:Nat):Int)).toNat else min k.toNat xs.size;(xs.extract 0 k).push w++xs.extract k)
 (q:Q .none { s with heap:=s.heap.update l (Obj.mapSeq f) }):wpAny (model prog w') A (call (.builtin "list.insert") [.ref l,.int k t,w]) Q E s:=by
 subst hf;let hm:=@PySem.AutoListH.list_insert_list_int_val_1 l its n k t w h1 h2;have ty:s.TypeIs (.ref l) "list":=⟨_,e,rfl⟩;exact wpAny_call (codeAny_call_builtin F.slot_list_insert.plain F.entry_list_insert (F.slot_list_insert.check _ _ _ _ _ _ _ _ ty (F.args_list_insert_3 _ _ _) (hm prog w' A (wants Q E) s ⟨e,q⟩)))
inductive nJ (x:V) (vs:ag) (H:Hp) (Q:VK):Prop
 |mk:∀(l:Addr) (k:Nat) (xs:ag) (y:V),x=.ref l->vs=[.int k,y]->H l\.lst xs->k<=xs.length->xs.length<100000->Q .non (upd H l (.lst (xs.take k++y::xs.drop k)))->nJ x vs H Q
theorem Ja:Jk X "list.insert" nJ:=by
 intro pins s σ H x vs v us Q I rx rv h;let#[l,k,xs,y,rfl,rfl,hH,hk,hz,q]:=h;cases rx;let#[u,w,rfl,#[t,rfl],ig]:=rv.two;let#[z,its,n,r,hl,e]:=I.i5 hH;let sz:=cq
 have fit:Builtin.List.listFitsIndex (k:Int)=true:=by
  unfold Builtin.List.listFitsIndex;rw[cw Z2,cw Z2];rfl
 apply Yv l its.toArray n (k:Int) t w (by rw[fit];exact gN) (by rw[dh];omega) e _ rfl ?_;apply⟨.non,_,I.vM (its':=its.take k++w::its.drop k) (f:=λxs=>let k':=if (k:Int)<0 then ((k:Int)+((xs.size:Nat):Int)).toNat else min (k:Int).toNat xs.size;(xs.extract 0 k').push w++xs.extract k') hH e ?_ (Vals.append (r.take k) (.cons ig (r.drop k))) ?_,rfl,q⟩
 ·have e1:(if (k:Int)<0 then ((k:Int)+((its.toArray.size:Nat):Int)).toNat else min (k:Int).toNat its.toArray.size)=k:=by
   rw[aC Z2];simp;omega
  dsimp only;rw[e1];apply Array.ext' ?_;simp[u6]
 rw[d5,iR,dM,yl];omega
inductive qy (mk:Addr->Addr->HO) (Q:VK) (x:V) (H1:Hp):Prop
 |mk:∀d kvs,x=.ref d->H1 d\.dK kvs->(∀v,H1 v=none->Q (.ref v) (upd H1 v (mk v d)))->qy mk Q x H1
def wQ(mk:Addr->Addr->HO)(td:TE):TE:=λσ H Q=>td σ H λx H1=>qy mk Q x H1
theorem RJ{pins:List (Addr × Obj)}{σ:St}{H:Hp}{s:Ab}{d:Addr}{cls:String}(I:Inv X pins σ H s)(φ:Heap->Prop)(_i:φ (s.heap.push { cls:=.type cls,data:=.fields (List.toArray [.ref d]) }))(hs:∀h1 h2:Heap,φ h1->(∀o,h1.get? s.heap.objs.size\o->h2.get? s.heap.objs.size\o)->φ h2) :
  Inv X pins σ (upd H s.heap.objs.size (.ext φ)) { s with heap:=s.heap.push { cls:=.type cls,data:=.fields (List.toArray [.ref d]) } }:=
 I.laid (t':=s.toks) (λ_ _ q=>aQ _ q) (bh _) #[_i,#[_,cJ _ U],hs]
theorem Iz{o:Expr}{td:TE}{apos bW:Pos}(ho:PE X o td)(hW:attributeBase o "items" X.env (eval o X.env)=eval o X.env:=by rfl)(hJ:(apos.endLine == bW.line)=true:=by rfl):PE X (.Call (.Attribute o "items" apos) [] [] bW) (wQ tU td):=by
 intro pins s σ H Q I h;apply wpAny_Call_method0_late hW hJ (aO (ho pins s σ H _ I h) λv s1 ⟨x,H1,I1,r1,d,kvs,e,hd,q⟩=>?_);subst e;cases r1;let#[t1,t2,t3]:=HQ I1 (.inl #[kvs,.inl hd]);let#[_,_,vs,rel,dd]:=EW I1.aA hd;apply#["dict","dict.items",PySem.F.plainAttrs_dict,PySem.F.slot_dict_items,PySem.F.type_dict_items,t1,t2,Calls.callWith_builtin U (PySem.evalArgs_none ?_)];apply call_meetsIn PySem.F.slot_dict_items t1 PySem.F.entry_dict_items (PySem.F.args_dict_items_1 _) (meets_dict_items (dX X.prog X.w) d t3) #[#[vs,dd],?_];exact#[.ref _,_,RJ I1 _ #[_,cJ _ U,U,U] λh1 h2 ⟨o,e,r⟩ k=>#[o,k o e,r],U,q _ I1.fresh]
theorem IQ{o:Expr}{td:TE}{apos bW:Pos}(ho:PE X o td)(hW:attributeBase o "values" X.env (eval o X.env)=eval o X.env:=by rfl)(hJ:(apos.endLine == bW.line)=true:=by rfl):PE X (.Call (.Attribute o "values" apos) [] [] bW) (wQ qe td):=by
 intro pins s σ H Q I h;apply wpAny_Call_method0_late hW hJ (aO (ho pins s σ H _ I h) λv s1 ⟨x,H1,I1,r1,d,kvs,e,hd,q⟩=>?_);subst e;cases r1;let#[t1,t2,t3]:=HQ I1 (.inl #[kvs,.inl hd]);let#[_,_,vs,rel,dd]:=EW I1.aA hd;apply#["dict","dict.values",PySem.F.plainAttrs_dict,PySem.F.slot_dict_values,PySem.F.type_dict_values,t1,t2,Calls.callWith_builtin U (PySem.evalArgs_none ?_)];apply call_meetsIn PySem.F.slot_dict_values t1 PySem.F.entry_dict_values (PySem.F.args_dict_values_1 _) (meets_dict_values (dX X.prog X.w) d t3) #[#[vs,dd],?_];exact#[.ref _,_,RJ I1 _ #[_,cJ _ U,U,U] λh1 h2 ⟨o,e,r⟩ k=>#[o,k o e,r],U,q _ I1.fresh]
end
section
variable{X:Cx}{pins:List (Addr × Obj)}{σ:St}{H:Hp}{s:Ab}{d:Addr}{kvs:List (Key × V)}
theorem Inv.freeze(I:Inv X pins σ H s)(h:H d\.dK kvs):∃o,s.heap.get? d\o/\Inv X pins σ (upd H d (.frz o (.dK kvs))) s:=by
 let#[z,hd,vs,rel,dd]:=EW I.aA h;let#[o,es,ep,ho,r]:=id dd;have other:∀{b u},H b\u->u≠.dK kvs->upd H d (.frz o (.dK kvs)) b\u:=λ{b u} e ne=>by rw[ax (bS e h ne)];exact e
 apply#[o,ho,I.un (h':=s.heap) (t':=s.toks) #[λb u q _ _ _=>q,λb u q _ _ _=>#[u.slots,q],λb u q n _=>?_,λb u q _=>#[u,q],λb xs q=>other q Y0,λb u v q=>other q Y0,λb ps q=>#[#[],by rw[Array.append_empty];exact other q Y0]] λb u q=>?_]
 ·by_cases e:b=d
  ·subst e;rw[h] at n;cases n
  rw[ax e];exact n
 by_cases e:b=d
 ·subst e;rw[az] at q;cases q;exact#[ho,z,hd,vs,rel,dd]
 rw[ax e] at q;exact (I.aA b u q).eO (λc v _ z=>z) (λc z=>other z Y0) λc xs z=>other z Y0
theorem Inv.qv{o:Obj}(I:Inv X pins σ H s)(h:H d\.frz o (.dK kvs))(h0:∀o u,X.j8 d≠some (.frz o u)):Inv X pins σ (upd H d (.dK kvs)) s:=by
 have other:∀{b u},H b\u->(∀o v,u≠.frz o v)->upd H d (.dK kvs) b\u:=λ{b u} e ne=>by rw[ax (bS e h (ne _ _))];exact e
 have nR:∀{b},H b=none->upd H d (.dK kvs) b=none:=λ{b} e=>by
  rw[ax (λz=>by subst z;rw[h] at e;cases e)];exact e
 apply#[I.ok,I.os,I.bare,#[I.base.keep,I.base.slot,λb u q n hx=>nR (I.base.free b u q n hx),I.base.there,λb xs q=>other (I.base.gW b xs q) Y0,λb u v q=>?_,λb ps q=>?_],I.loc,I.cell,nR I.free,λx c e=>nR (I.d7 x c e),λp hp=>?_,λb u q=>?_,I.len]
 ·have:=I.base.hY b u v q;rw[ax (λz=>by subst z;exact h0 _ _ q)];exact this
 ·let#[more,e]:=I.base.ix b ps q;exact#[more,other e Y0]
 ·let#[a1,a2,a3]:=I.pin p hp;exact#[a1,nR a2,a3]
 by_cases e:b=d
 ·subst e;rw[az] at q;cases q;let#[ho,z,hd,vs,rel,dd]:=I.aA b _ h;exact#[z,hd,vs,rel,dd]
 rw[ax e] at q;exact (I.aA b u q).eO (λc v _ z=>z) (λc z=>other z Y0) λc xs z=>other z Y0
end
theorem Tb{X:Cx}{pins:List (Addr × Obj)}{σ:St}{H:Hp}{s:Ab}{d:Addr}{kvs:List (Key × V)}{o:Obj}{es:Array DictEntry}{ep:Nat}(I:Inv X pins σ H s)(h:H d\.frz o (.dK kvs))(ho:o.data=.dict es ep):∃vs,KV kvs vs/\s.heap.DictAt (dX X.prog X.w) d vs ep:=by
 let#[e,z,hd,vs,rel,o',Hm,Hq,e',c',d',r]:=I.aA d _ h;rw[e] at e';cases e';rw[ho] at d';cases d';exact#[vs,rel,o,es,e,c',ho,r]
theorem L4{κ:Type}{kvs:List (κ × V)}{vs:List (κ × Aa)}(r:KV kvs vs):∀(i:Nat) {k:κ} {x:V},kvs[i]? = some (k,x)->∃u,vs[i]? = some (k,u)/\RelV x u:=by
 induction r with
 |nil=>intro i k x e;simp at e
 |@cons p q _ _ h _ ih=>
  intro i k x e;cases i with
  |zero=>
   have e:p=(k,x):=⇑e
   subst e;apply#[q.2,?_,h.2];rw[List.getElem?_cons_zero];have h1:k=q.1:=h.1;rw[h1]
  |succ i=>exact ih i ⇑e
def OV(x:Str):It:=#[λi _=>i<x.cps.size,λi H v H'=>H'=H/\∃c,x.cps[i]? = some c/\v=.str ⟨(List.toArray [c])⟩,λi _=>x.cps.size<=i]
theorem fL_{P:Ad}{w:Af}{K:ai}{tg:Expr}(it:Addr)(x:Str)(t:Tok):Turn P w K tg (OV x) [it] it (λi h=>i<=x.cps.size/\h.IsStrIter it "str_ascii_iterator" x t i) where
 mem:=by simp
 obj:=λi h st b hb=>by
  obtain rfl:b=it:=⇑hb
  let#[o,e,c,d]:=st.2;exact#[o,e,λv z=>by rw[d] at z;cases z]
 keep:=λi h h' st k=>#[st.1,let #[o,ho,r]:=st.2;#[o,k it Y0 o ho,r]]
 item:=by
  intro X hP hw hK hc i pins s σ H E I hf st hg;subst hP hw hK;have hg:i<x.cps.size:=hg;let#[f0,f1,f2,f3,f4,f5]:=hf it Y0;apply wpAny_pyNext_ascii_item st.2 (c:=x.cps[i]) (by simp[hg]) λh' ed sb=>?_;have I1:Inv X pins σ H { s with heap:=h',toks:=s.toks+1 }:=I.turned (t':=s.toks+1) (λb o hb e=>(sb.2 b hb).trans e) f0 f1 f3 f4 f5;let#[o',e,c,dd]:=id ed;exact#[_,U,EV (s:={ s with heap:=h',toks:=s.toks+1 }) e c dd (by decide) #[.str ⟨(List.toArray [x.cps[i]])⟩,H,I1,#[_,U],#[U,_,by simp[hg],U],#[hg,ed],λb hb=>(hf b hb).1]]
 done:=by
  intro X hP hw hK hc i pins s σ H E I hf st hg;subst hP hw hK;have hg:x.cps.size<=i:=hg;let#[f0,f1,f2,f3,f4,f5]:=hf it Y0;exact wpAny_pyNext_ascii_end (I.ok.hd hc) st.2 (by simp[hg]) λh' eb=>#[U,I.turned (t':=s.toks) (λb o hb e=>eb b o hb e) f0 f1 f3 f4 f5]
 self:=λ_ _ _ _ _ st h=>wpAny_pyIter_striter_ascii st.2 h
theorem gT_{P:Ad}{w:Af}{K:ai}{tg:Expr}(it:Addr)(x:Str)(t:Tok):Turn P w K tg (OV x) [it] it (λi h=>i<=x.cps.size/\h.IsStrIter it "str_iterator" x t i) where
 mem:=by simp
 obj:=λi h st b hb=>by
  obtain rfl:b=it:=⇑hb
  let#[o,e,c,d]:=st.2;exact#[o,e,λv z=>by rw[d] at z;cases z]
 keep:=λi h h' st k=>#[st.1,let #[o,ho,r]:=st.2;#[o,k it Y0 o ho,r]]
 item:=by
  intro X hP hw hK hc i pins s σ H E I hf st hg;subst hP hw hK;have hg:i<x.cps.size:=hg;let#[f0,f1,f2,f3,f4,f5]:=hf it Y0;apply wpAny_pyNext_wide_item st.2 (c:=x.cps[i]) (by simp[hg]) λh' ed sb=>?_;have I1:Inv X pins σ H { s with heap:=h',toks:=s.toks+1 }:=I.turned (t':=s.toks+1) (λb o hb e=>(sb.2 b hb).trans e) f0 f1 f3 f4 f5;let#[o',e,c,dd]:=id ed;exact#[_,U,EV (s:={ s with heap:=h',toks:=s.toks+1 }) e c dd (by decide) #[.str ⟨(List.toArray [x.cps[i]])⟩,H,I1,#[_,U],#[U,_,by simp[hg],U],#[hg,ed],λb hb=>(hf b hb).1]]
 done:=by
  intro X hP hw hK hc i pins s σ H E I hf st hg;subst hP hw hK;have hg:x.cps.size<=i:=hg;let#[f0,f1,f2,f3,f4,f5]:=hf it Y0;exact wpAny_pyNext_wide_end (I.ok.hd hc) st.2 (by simp[hg]) λh' eb=>#[U,I.turned (t':=s.toks) (λb o hb e=>eb b o hb e) f0 f1 f3 f4 f5]
 self:=λ_ _ _ _ _ st h=>wpAny_pyIter_striter_wide st.2 h
inductive xv (R:It->Hp->Prop) (v:V) (H1:Hp):Prop
 |mk:∀x,v=.str x->R (OV x) H1->xv R v H1
def KP(tl:TE):TI:=λσ H R=>tl σ H λv H1=>xv R v H1
theorem XD{X:Cx}{tg l:Expr}{tl:TE}(hl:PE X l tl):PI X tg l (KP tl):=by
 intro pins s σ H R I h;apply aO (hl pins s σ H _ I h) λv s1 ⟨y,H1,I1,r1,x,e,q⟩=>?_;subst e;let#[t,rfl]:=r1
 have fp:∀b∈[s1.heap.objs.size],dA X pins H1 b:=λb hb=>by
  obtain rfl:b=s1.heap.objs.size:=⇑hb
  exact I1.iH (bh _) (I1.aA.fresh (bh _))
 cases ha:x.cps.all (· < 128)
 ·apply wpAny_pyIter_wide ha ?_;exact#[s1.heap.objs.size,[s1.heap.objs.size],_,_,H1,U,I1.kept (t':=s1.toks) λb o e=>aQ _ e,gT_ _ x t,#[gP _,_,cJ _ U,U,U],fp,q]
 apply wpAny_pyIter_ascii ha ?_;exact#[s1.heap.objs.size,[s1.heap.objs.size],_,_,H1,U,I1.kept (t':=s1.toks) λb o e=>aQ _ e,fL_ _ x t,#[gP _,_,cJ _ U,U,U],fp,q]
end L2
namespace L2
open PySem PySem.Spec PyProof.Rows PySem.W mR da
theorem WG{X:Cx}{f:Aa->Aa->Sem Aa}{K:ai}(r:ai->R2)(h:d_ X f (r X.K))(hK:X.K=K:=by rfl):d_ X f (r K):=by
 subst hK;exact h
theorem Fi{X:Cx}{f:Aa}{K:ai}(r:ai->ag->Hp->VK->Prop)(h:gr X f (r X.K))(hK:X.K=K:=by rfl):gr X f (r K):=by
 subst hK;exact h
theorem zE{X:Cx}{K:ai}(r:ai->R2)(h:Ce X (r X.K))(hK:X.K=K:=by rfl):Ce X (r K):=by
 subst hK;exact h
theorem Fe{X:Cx}{N:ae}{scope:Scope}{fp:au}{s:Ab}{H:Hp}{es:List Expr}{k:Nat}{pos:Pos}{t:Bj}{n:Nat}(h:FQ (ik X N scope fp s H) es t)(hc:X.calm=true:=by rfl)
  (hn:(assignEach es (ik X N scope fp s H).env).length=n:=by rfl) (zN:(assignEach es (ik X N scope fp s H).env).findIdx? (·.1)=none:=by rfl):PG (ik X N scope fp s H) (.Tuple es k pos) (fR X.K n t):=mw (X:=ik X N scope fp s H) hc h hn zN
end L2
abbrev AM:PySem.Str:="ways_by_name"
abbrev xV:PySem.Str:="_law_script"
abbrev wb:PySem.Str:="_law_found"
abbrev wd:PySem.Str:="_law_piece"
abbrev BO:PySem.Str:="greatest_divisor"
abbrev j1:PySem.Str:="multiple_of_strengths"
abbrev BR:PySem.Str:="neighbours_by_hand"
abbrev tT:PySem.Str:="_law_digit"
abbrev pe:PySem.Str:="_law_pieces_here"
abbrev uQ:PySem.Str:="strength_by_hand"
abbrev p_:PySem.Str:="weight_by_name"
abbrev p9:PySem.Str:="ahead_by_hands"
abbrev mE:PySem.Str:="_law_hands_here"
abbrev gM:PySem.Str:="_law_state"
abbrev jR:PySem.Str:="exits_by_place"
abbrev uR:List PySem.Str:=[gM,"_law_base"]
abbrev fV:List PySem.Str:=["thing"]
abbrev mF:List PySem.Str:=["self","thing"]
abbrev ph:List PySem.Str:=["goods","placed"]
abbrev mz:List PySem.Str:=["one","other"]
abbrev oH:List PySem.Str:=[gM,mE,pe]
abbrev BP:List PySem.Str:=["_law_name_here","_law_strength"]
abbrev xS:List PySem.Str:=["name","weight","ways"]
abbrev ur:List PySem.Str:=[mE,pe,"_law_spot","_law_limit"]
abbrev uq:List PySem.Str:=[pe,"_law_ties_here","_law_spot","_law_most"]
abbrev uo:List PySem.Str:=["_law_parts","_law_layers_here","_law_limit","_law_count"]
abbrev AI:List PySem.Str:=["thing","least","most"]
abbrev um:List PySem.Str:=[mE,pe,"_law_spot"]
abbrev uk:List PySem.Str:=[pe,"_law_ties_here","_law_spot"]
abbrev wc:List PySem.Str:=["self","hand"]
abbrev uj:List PySem.Str:=[gM,"_law_layers_here","_law_count"]
abbrev oG:List PySem.Str:=["goods","stand","limit","most"]
abbrev jY:List PySem.Str:=["goods","hands","limit"]
abbrev ui:List PySem.Str:=[gM,"_law_ties_here","_law_most"]
abbrev uh:List PySem.Str:=["goods","stand","limit","count","shut"]
abbrev jX:List PySem.Str:=["self","one","other"]
abbrev AL:List PySem.Str:=["self","hands"]
abbrev oz:List PySem.Str:=["self"]
abbrev ug:List PySem.Str:=["reach","hands","number_by_hands"]
abbrev oF:List PySem.Str:=["self","goods","placed"]
abbrev uf:List PySem.Str:=["goods","stand","limit","count"]
abbrev oE:List PySem.Str:=["goods","count","thing"]
namespace Ev
open PySem L2
def top(i:Nat):Stmt:=PySem.Challenge.pw_evenpieces_k84_whole_shut_out_by_whoever.main.body.getD i (.Pass #[0,0,0,0])
abbrev ze:Stmt:=top 12
abbrev lH:Stmt:=top 14
abbrev rH:Stmt:=top 15
abbrev Nl:Stmt:=top 16
abbrev rE:Stmt:=top 17
abbrev Ni:Stmt:=top 18
abbrev rQ:Stmt:=top 51
abbrev y_:Stmt:=top 52
abbrev rh:Stmt:=top 53
abbrev rF:Stmt:=top 54
abbrev oR:Stmt:=top 55
def zy(a b:Str):Bool:=decide (a.cps.toList<b.cps.toList)
def aK(a b:Str):Str × Str:=if zy a b=true then (a,b) else (b,a)
section v
theorem bV{N p:List Str}{c:Scope}(h:bJ N p c:=by exact#[U,U,U,by decide +kernel,U,by decide +kernel,by decide +kernel]):bJ N p c:=h
theorem qV:bJ mz mz (a9 Nl):=bV
def IA:Sp:=λvs H Q _=>∃a b,vs=[.str a,.str b]/\∀t,H t=none->Q (.ref t) (upd H t (.tup [.str (aK a b).1,.str (aK a b).2]))
theorem _F{f:Addr}{fd:Ae}(F:bo K "lesser_first" "lesser_first" Nl f fd):!ao a_ 1 f fd mz IA:=by
 exists F.bU qV;let#[a,b,rfl,k]:=h;apply#[_,aH (bp (hK_ (eZ hg_ (pv 0) (pv 1)) (gh %[0,1|0]) (gh %[1,0|0]))),?_];apply#[_,U,_,U,a,b,U,U,_,U,?_];apply bQ (λc=>?_) (λc=>?_)
 ·apply#[_,U,_,U,zl,λt ht=>?_];have:=k t ht;rwa [show aK a b=(a,b) from aI c] at this
 apply#[_,U,_,U,zl,λt ht=>?_];have:=k t ht;rwa [show aK a b=(b,a) from aC c] at this
theorem vx:bJ AI AI (a9 lH):=bV
def FC:Sp:=λvs H Q _=>∃i a b:Int,vs=[.int i,.int a,.int b]/\Q (.bl (decide (a<=i)&&decide (i<=b))) H
structure Bi (mg:Str->Option Aa):Prop where
 jn:mg "isinstance"=none
 int:mg "int"=none
 bool:mg "bool"=none
 str:mg "str"=none
 tuple:mg "tuple"=none
 list:mg "list"=none
 dict:mg "dict"=none
 len:mg "len"=none
 all:mg "all"=none
 sorted:mg "sorted"=none
 max:mg "max"=none
 range:mg "range"=none
 any:mg "any"=none
 enum:mg "enumerate"=none
structure br (P:Ad) (w:Af) (K:ai) (mg:Str->Option Aa) (base:Heap) (k:Nat) (x:Str) (ps:ae) (sp:Sp):Prop where
 ex:∃f fd,ao P w K mg base a_ k f fd ps sp/\mg x\.ref f/\PySem.W.keepIn K (.ref f)=true/\pZ K fd ps []
theorem bc{n_:Nat}{X:Cx}{k:Nat}{x:Str}{ps:ae}{sp:Sp}{p pos:Pos}{e:Expr}{es:List Expr}{t:TA}(c:br X.prog X.w X.K X.mg X.base k x ps sp)(hr:aP n_ X.A)(ha:PA X (e::es) t)(hg:Gl X x:=by rfl)(sZ:(x == ("__debug__":Str))=false:=by decide)
  (he:starEach (e::es) X.env=(false,eval e X.env)::starEach es X.env:=by rfl) (iE:(backTo pos (starEach es X.env)).any (·.1)=false:=by rfl) (hk:k<=n_:=by decide):PE X (.Call (.Name x p) (e::es) [] pos) (w6 sp [] E0 t):=by
 let#[f,fd,F,m,kp,b]:=c.ex;exact Z3 F (hr.mono hk) hg m kp b .nil nQ ha sZ he iE
theorem C5:bJ fV fV (a9 ze):=bV
def nv:Sp:=λvs H Q _=>∃i:Int,vs=[.int i]/\Q (.bl true) H
theorem Yb{f:Addr}{fd:Ae}(F:bo K "is_whole" "is_whole" ze f fd)(B:Bi mg):!ao a_ 1 f fd fV nv:=by
 exists F.bU C5;let#[i,rfl,k]:=h;apply#[_,aH (bp (pB (cy jU (by rfl) B.jn jr %[0,jT (v:=.ty "int") (by rfl) B.int Hg U|0]) (qg (QC (cy jU (by rfl) B.jn jr %[0,jT (v:=.ty "bool") (by rfl) B.bool PyProof.Rows.Boot.«bool» rfl|0]))))),?_];exact#[_,U,_,_,_,_,U,.int i,U,_,U,c_ #[_,U,_,_,_,_,U,.int i,U,_,U,k]]
theorem ZP{f:Addr}{fd:Ae}(F:bo K "is_whole_within" "is_whole_within" lH f fd)(cI:!br 1 "is_whole" fV nv):!ao a_ 2 f fd AI FC:=by
 exists F.bU vx;let#[i,a,b,rfl,k]:=h;apply#[_,aH (bp (pB (bc cI hr %[0|0]) (qg (SU xR xR (pv 1) (pv 0) (pv 2))))),?_];apply#[_,U,i,U,_,U,c_ ?_];apply#[_,U,_,U,_,_,U,U,_,U,?_];apply bQ (λc=>?_) (λc=>?_)
 ·apply#[_,U,_,_,U,U,?_];rw[c] at k;exact k
 rw[show decide (a<=i)=false by simpa using c] at k;exact k
def oW(c:Nat):Bool:=decide (97<=c)&&decide (c<=122)
def iL(x:Str):Bool:=decide (1<=x.length)&&decide (x.length<=8)&&x.cps.toList.all oW
theorem yV:bJ fV fV (a9 rH):=bV
def Hs:Sp:=λvs H Q _=>∃x:Str,vs=[.str x]/\x.length<=100000/\∀H',aa H H'->Q (.bl (iL x)) H'
theorem Y7{c:Nat}:(!decide ((⟨(List.toArray [c])⟩:Str).cps.toList<("a":Str).cps.toList))=decide (97<=c):=by
 have e:("a":Str).cps.toList=[97]:=by decide +kernel
 rw[e];show (!decide ([c] < [97]))=decide (97<=c);by_cases h:97<=c
 ·have:¬[c] < [97]:=by simp[List.cons_lt_cons_iff];omega
  simp[this,h]
 have:[c] < [97]:=by simp[List.cons_lt_cons_iff];omega
 simp[this,h]
theorem Yj{c:Nat}:(!decide (("z":Str).cps.toList<(⟨(List.toArray [c])⟩:Str).cps.toList))=decide (c<=122):=by
 have e:("z":Str).cps.toList=[122]:=by decide +kernel
 rw[e];show (!decide ([122] < [c]))=decide (c<=122);by_cases h:c<=122
 ·have:¬[122] < [c]:=by simp[List.cons_lt_cons_iff];omega
  simp[this,h]
 have:[122] < [c]:=by simp[List.cons_lt_cons_iff];omega
 simp[this,h]
theorem ZY{f:Addr}{fd:Ae}(F:bo K "is_name" "is_name" rH f fd)(B:Bi mg){t8:Tok}(m8:mg "MOST_LETTERS"\.int 8 t8):!ao a_ 1 f fd fV Hs:=by
 exists F.bU yV;let#[x,rfl,hz,k]:=h;let sz:=cq
 apply#[_,aw (cg (pA (e_ (d8 (cy jU (by rfl) B.jn jr %[0,jT (v:=.ty "str") (by rfl) B.str Hf U|0])))
   (pC (e_ (SN xR xR ay (cy dY_ (by rfl) B.len gE %[0|0]) (B4 (v:=.int 8) (by rfl) m8 #[t8,U]))))).pt (aH (bp il)) cj)
  (aH (bp (cy (R4 U) (by rfl) B.all PyProof.Rows.Boot.«all» (eW
   (js ["letter"] 1 [] (XD (pv 0)) (λfp s H=>fW (i:=0) (show (["letter"]:ae).Nodup by decide +kernel) U (Or.inl U)) (λfp s H=>kI) (λfp s H=>SU Sx Sx tY (pv 0) tY)) bK)))),?_]
 apply#[_,U,_,_,_,_,U,.str x,U,_,U,?_];apply aM ?_;apply#[_,U,x,U,by omega,_,_,U,U,_,U,?_]
 have fin:(decide (1<=x.length)&&decide (x.length<=8))=false->∀H',aa H H'->Q (.bl false) H':=λe H' sm=>by
  have:=k H' sm;rwa [show iL x=false by unfold iL;rw[e];rfl] at this
 apply bQ (λc=>?_) (λc=>?_)
 ·have c1:1<=x.length:=by
   have:(1:Int)<=(x.length:Int):=⇑c
   omega
  apply#[_,_,U,U,_,U,?_];apply bQ (λc2=>?_) (λc2=>?_)
  ·-- too long
   have c3:¬x.length<=8:=by
    have:¬((x.length:Int)<=8):=⇑c2
    omega
   exact fin (by rw[ft c3,Bool.and_false]) H (aa.refl H)
  have c3:x.length<=8:=by
   have:(x.length:Int)<=8:=⇑c2
   omega
  apply#[_,U,x,U,λD hD=>?_];apply Ie (own:=1) (fv:=[]) U fF x.cps.size (λi out H'=>H'=upd H D (.lst out)/\out=((x.cps.toList.take i).map oW).map V.bl) #[U,by simp] (λout H' ⟨e1,e2⟩=>?_) (λi out H' hi ⟨e1,e2⟩=>?_)
  ·apply#[bh _,D,x.cps.toList.map oW,U,.of ?_,?_]
   ·rw[e1,az,e2,u6 Y0]
   have:=k H' (by rw[e1];exact aa.new hD);rwa [show iL x=(x.cps.toList.map oW).all id by unfold iL;rw[cw c1,cw c3,List.all_map];rfl] at this
  apply#[hi,λv H2 y=>?_];let#[eH,c,hc,rfl]:=y;subst eH;apply#[_,U,U,λNx hN=>fA ?_]
  have lo:out.length<sizeLine:=by
   rw[e2];have hs:x.length=x.cps.size:=rfl;simp only[av,dM,ub];omega
  have nx:Nx (upd H2 D (.lst (out++[V.bl (oW c)]))):=hN (out++[V.bl (oW c)]) _ #[by rw[e1,Y_],by
   rw[e2,ua];simp[hc]]
  have UA:H2 D\.lst out:=by rw[e1,az]
  apply#[_,U,_,_,U,U,_,U,?_];rw[Y7];apply bQ (λc2=>?_) (λc2=>?_)
  ·apply#[_,_,U,U,out,UA,lo,?_];rw[Yj];rwa [show oW c=decide (c<=122) by unfold oW;rw[c2];rfl] at nx
  apply#[out,UA,lo,?_];rwa [show oW c=false by unfold oW;rw[show decide (97<=c)=false by simpa using c2];rfl] at nx
 have c1:¬1<=x.length:=by
  have:¬((1:Int)<=(x.length:Int)):=⇑c
  omega
 exact#[_,U,c_ (fin (by rw[ft c1];rfl) H (aa.refl H))]
end
end Ev
namespace Ev
open PySem L2
def kT(t:Str × Str):aq:=[.inr t.1,.inr t.2]
def wm(t:Str × Str):Prop:=iL t.1=true/\iL t.2=true/\t.1≠t.2
theorem IP{x:Str}(h:iL x=true):x.length<=8:=by
 unfold iL at h;simp only[Bool.and_eq_true,decide_eq_true_eq] at h;exact h.1.2
theorem GT{H:Hp}{p:Addr}{t:Str × Str}(h:H p\.tup ((kT t).map kV)):H p\.tup [.str t.1,.str t.2]:=h
section v
theorem yU:bJ fV fV (a9 rE):=bV
def qJ:Sp:=λvs H Q _=>∃(p:Addr) (a b:Str),vs=[.ref p]/\H p\.tup [.str a,.str b]/\a.length<=100000/\b.length<=100000/\∀H',aa H H'->Q (.bl (iL a&&iL b&&!decide (a=b))) H'
theorem YV{f:Addr}{fd:Ae}(F:bo K "is_pair_of_names" "is_pair_of_names" rE f fd)(B:Bi mg)(cN:!br 1 "is_name" fV Hs):!ao a_ 2 f fd fV qJ:=by
 exists F.bU yU;let#[p,a,b,rfl,hp,la,lb,k]:=h
 apply#[_,aw (cg (pA (e_ (d8 (cy jU (by rfl) B.jn jr %[0,jT (v:=.ty "tuple") (by rfl) B.tuple qh U|0])))
   (pC (eZ pX (cy iq (by rfl) B.len gE %[0|0]) ay))).pt (aH (bp il)) cj)
  (aH (bp (pB (bc cN hr %[bw cU (pv 0) ay|0]) (pB (bc cN hr %[bw cU (pv 0) ay|0])
   (qg (pG pX (bw cU (pv 0) ay) (bw cU (pv 0) ay))))))),?_]
 apply#[_,U,_,_,_,_,U,.tup hp,U,_,U,aM ?_];apply#[_,U,p,_,U,.inr (.of hp),U,_,U,?_];apply xU (show V.int ((2:Nat):Int)=V.int 2 from U) ?_;apply#[_,U,p,_,_,_,U,U,.of hp,U,a,U,la,λH1 s1=>#[_,U,?_]];let xB:=s1 _ _ hp;apply bQ (λc=>?_) (λc=>?_)
 ·apply#[_,U,p,_,_,_,U,U,.of xB,U,b,U,lb,λH2 s2=>#[_,U,?_]];let ko:=s2 _ _ xB;let kk:=k H2 (s1.trans s2);apply bQ (λc2=>?_) (λc2=>?_)
  ·apply#[_,U,p,_,_,_,U,U,.of ko,U,_,U,p,_,_,_,U,U,.of ko,U,U,?_];rw[c,c2] at kk
   have e:decide (V.str a=V.str b)=decide (a=b):=by
    by_cases z:a=b
    ·simp[z]
    simp[z]
   show Q (.bl (!decide (V.str a=V.str b))) H2;rw[e];exact kk
  rw[c,show iL b=false by simpa using c2] at kk;exact kk
 let kk:=k H1 s1;rw[show iL a=false by simpa using c] at kk;exact kk
theorem IH:bJ ["ties","found","pair","tie"] ["ties"] (a9 Ni):=bV
def Oh(K:ai):Sp:=λvs H Q _=>∃(l:Addr) (ys:ag) (ts:Xb),vs=[.ref l]/\H l\.lst ys/\bY K H ys (ts.map kT)/\(∀t∈ts,wm t)/\(ts.map λt=>kT (aK t.1 t.2)).Nodup/\ts.length<64 /\
 ∀l' zs H',aa H H'->H l'=none->H' l'\.lst zs->bY K H' zs (bj (ts.map λt=>kT (aK t.1 t.2)))->Q (.ref l') H'
theorem u5{α β γ:Type}{F:α->γ->Prop}{g:β->γ}{ys:List α}{ts:List β}(t:Paired F ys (ts.map g)){i:Nat}{y:α}(h:ys[i]? = some y):∃x,ts[i]? = some x/\F y (g x):=by
 have hi:i<ys.length:=(bX.mp h).1;let hl:=bH t;rw[av] at hl;have:=d9 t i hi (by rw[av];omega);rw[List.getElem_map] at this;apply#[ts[i],aY Z2,?_];rw[(bX.mp h).2] at this;exact this
theorem ud{κ:Type}[DecidableEq κ]{kvs:List (κ × V)}{k:κ}(h:k∉kvs.map (·.1)):aU kvs k=none:=by
 cases e:aU kvs k with
 |none=>rfl
 |some v=>exact absurd (YC e) h
theorem yj{α β:Type}(g:α->β){ts:List α}{i:Nat}{x:α}(h:ts[i]? = some x):(ts.take (i+1)).map g=(ts.take i).map g++[g x]:=by
 rw[ua,h,er];rfl
theorem FE{α β:Type}{g:α->β}{ts:List α}{i:Nat}{x:α}(h:(ts.map g).Nodup)(hx:ts[i]? = some x):g x∉(ts.take i).map g:=by
 intro m;have hi:i<ts.length:=(bX.mp hx).1;let#[y,hy,e]:=bG.mp m;let#[j,hj,e2]:=ib hy;rw[dM] at hj;rw[List.getElem_take] at e2;rw[qo,uY,List.pairwise_iff_getElem] at h;apply h j i Z2 hi Z2 ?_;rw[e2,e,(bX.mp hx).2]
theorem hc_{f:Addr}{fd:Ae}(F:bo K "sorted_ties" "sorted_ties" Ni f fd)(B:Bi mg)(cP:!br 2 "is_pair_of_names" fV qJ)(cL:!br 1 "lesser_first" mz IA):!ao a_ 3 f fd ["ties"] (Oh K):=by
 exists F.bU IH;let#[l,ys,ts,rfl,hl,tu,good,nd,cY,k]:=h;let hu:=fH hr;let sz:=cq
 apply#[_,aw (cg (e_ (d8 (cy jU (by rfl) B.jn jr %[0,jT (v:=.ty "list") (by rfl) B.list yc U|0]))) gg cj)
  (aw (bu 1 IH.nd Sl)
  (aw (d4 dN U (dY (pv 0)) (cu 2 IH.nd)
   (aw (cg (e_ (d8 (bc cP hr %[2|0]))) gg cj)
   (aw (bu 3 IH.nd (bc cL hr %[bw cU (pv 2) ay,bw cU (pv 2) ay|0]))
   (aw (cg (qd (AW hu (pv 3) (pv 1))) gg cj)
   (aH (tW hu (pv 1) (pv 3) il U))))))
  (aH (bp (cy (eH_ U) (by rfl) B.sorted I_ %[1|0]))))),?_]
 apply#[_,U,_,_,_,_,U,.lst hl,U,_,U,aM ?_];intro d hd;have s0:aa H (upd H d (.dT [])):=aa.new hd;apply#[_,U,l,U,#[_,.of (s0 _ _ hl)],ia (K:=K) (a:=l) (xs:=ys) (λi σ H2=>∃(v3 v4:aE),σ=[some (.ref l),some (.ref d),v3,v4]/\aa H H2/\H2 d\.dT ((ts.take i).map λt=>(kT (aK t.1 t.2),V.bl true))) #[none,none,U,s0,az] (λi σ H2 _ ⟨_,_,_,s2,_⟩=>.of (s2 _ _ hl)) ?_ ?_]
 ·rintro i y σ H2 hy ⟨v3,v4,rfl,s2,hd2⟩;let#[t,ht,a,rfl,ha]:=u5 tu hy;let#[g1,g2,g3]:=good t (cZ ht);let oi:=s2 _ _ (GT ha);apply#[_,U,a,t.1,t.2,U,oi,by have:=IP g1;omega,by have:=IP g2;omega,λH3 s3=>#[_,U,?_]];let jK:=s3 _ _ oi;let md:=s3 _ _ hd2;rw[g1,g2,ft g3];apply aM ?_;apply#[_,U,a,_,_,_,U,U,.of jK,U,_,U,a,_,_,_,U,U,.of jK,U,t.1,t.2,U,λb hb=>?_];have s4:aa H3 (upd H3 b (.tup [.str (aK t.1 t.2).1,.str (aK t.1 t.2).2])):=aa.new hb;let Rg:=s4 _ _ md;have LK:upd H3 b (.tup [.str (aK t.1 t.2).1,.str (aK t.1 t.2).2]) b\.tup ((kT (aK t.1 t.2)).map kV):=az
  have uF:aU ((ts.take i).map λt=>(kT (aK t.1 t.2),V.bl true)) (kT (aK t.1 t.2))=none:=ud (by
   rw[cz];exact FE (g:=λt=>kT (aK t.1 t.2)) nd ht)
  apply#[_,U,_,U,d,_,U,.t (k:=kT (aK t.1 t.2)) Rg LK,_,U,?_];rw[uF];apply aM ?_;apply#[_,U,_,U,d,_,U,.t (k:=kT (aK t.1 t.2)) Rg LK (by rw[av,dM];omega),?_];apply#[_,_,U,λc o e=>?_,?_]
  ·rw[ax (bz e hd)];exact s4 _ _ (s3 _ _ (s2 _ _ e))
  rw[az,wz _ uF,yj _ ht]
 rintro σ H2 ⟨v3,v4,rfl,s2,hd2⟩;let le:=bH tu;rw[av] at le;rw[le,eS] at hd2;apply#[_,U,d,_,[true,true],U,hd2,#[by decide,λk hk=>?_],by rw[av];exact cY,λl' zs hn tz=>?_]
 ·rw[cz] at hk;let#[t,_,rfl]:=bG.mp hk;rfl
 rw[cz] at tz;exact k l' zs _ (s2.trans (aa.new hn)) (s2.free hn) az (tz.same (aa.new hn))
theorem g4_{K:ai}{H:Hp}{ys:ag}{ks:List aq}{a:Addr}{k:aq}(t:bY K H ys ks)(h:H a\.tup (k.map kV)):bY K H (ys++[.ref a]) (ks++[k]):=Paired.snoc t #[a,U,h]
theorem fL{H H1:Hp}{D:Addr}{o:HO}(h:aa H H1)(hD:H D=none):aa H (upd H1 D o):=λb u e=>by rw[ax (bz e hD)];exact h b u e
theorem IB{K:ai}{H:Hp}{ys:ag}{ks:List aq}{D:Addr}{o:HO}{xs:ag}(t:bY K H ys ks)(hD:H D\.lst xs):bY K (upd H D o) ys ks:=Paired.aX t λy k ⟨a,z,q⟩=>#[a,z,by rw[ax (bS q hD nofun)];exact q]
end
end Ev
namespace Ev
open PySem L2
def kH(h:Str × Int):aq:=[.inr h.1,.inl h.2]
def ow(h:Str × Int):Prop:=iL h.1=true/\1<=h.2/\h.2<=1000
def zC:aq->Key × V
 |[k,v]=>(k,kV v)
 |_=>(.inl 0,.non)
def dD(hs:Xa):List (Key × V):=(bj (hs.map kH)).map zC
theorem zR{H:Hp}{p:Addr}{t:Str × Int}(h:H p\.tup ((kH t).map kV)):H p\.tup [.str t.1,.int t.2]:=h
theorem TB:∀(more kvs:List (Key × V)),(kvs.map (·.1)++more.map (·.1)).Nodup->wH kvs more=kvs++more
 |[],kvs,_=>by
  show kvs=kvs++[];rw[wK]
 |p::more,kvs,h=>by
  show wH (putK kvs p.1 p.2) more=kvs++p::more
  have hn:aU kvs p.1=none:=ud λm=>by
   rw[eJ,wI] at h;exact h.2.2 p.1 m p.1 gF U
  rw[wz _ hn,TB more (kvs++[(p.1,p.2)])]
  ·simp
  simpa using h
theorem yd{more:List (Key × V)}(h:(more.map (·.1)).Nodup):wH [] more=more:=by
 rw[TB more [] ⇑h];rfl
theorem TH(hs:Xa):((dD hs).map (·.1)).Perm (hs.map λh=>Sum.inr h.1):=by
 unfold dD;rw[cz];let p:=(uc (hs.map kH)).map λk=>(zC k).1;rw[cz] at p;exact p
theorem T7{hs:Xa}(h:(hs.map (·.1)).Nodup):((dD hs).map (·.1)).Nodup:=by
 apply (TH hs).nodup_iff.mpr ?_;have:(hs.map λh=>(Sum.inr h.1:Key))=(hs.map (·.1)).map Sum.inr:=by rw[cz];rfl
 rw[this,qo,uY];exact h.imp λn e=>n (iJ e)
theorem uP{k:Nat}{A:Ag}(hr:aP k A)(n:Nat)(h:n+1<=64:=by decide):A.units+n+1<cLine:=by
 have:=hr.units;omega
section v
theorem y6:bJ fV fV (a9 rQ):=bV
def qN:Sp:=λvs H Q _=>∃(p:Addr) (a:Str) (n:Int),vs=[.ref p]/\H p\.tup [.str a,.int n]/\a.length<=100000/\∀H',aa H H'->Q (.bl (iL a&&(decide (1<=n)&&decide (n<=1000)))) H'
theorem ZW{f:Addr}{fd:Ae}(F:bo K "is_hand_with_strength" "is_hand_with_strength" rQ f fd)(B:Bi mg)(cN:!br 1 "is_name" fV Hs)(cW:!br 2 "is_whole_within" AI FC){tk:Tok}(mS:mg "MOST_STRENGTH"\.int 1000 tk) :
  ao P w K mg base a_ 3 f fd fV qN:=by
 exists F.bU y6;let#[p,a,n,rfl,hp,la,k]:=h
 apply#[_,aw (cg (pA (e_ (d8 (cy jU (by rfl) B.jn jr %[0,jT (v:=.ty "tuple") (by rfl) B.tuple qh U|0])))
   (pC (eZ pX (cy iq (by rfl) B.len gE %[0|0]) ay))).pt (aH (bp il)) cj)
  (aH (bp (pB (bc cN hr %[bw cU (pv 0) ay|0]) (qg (bc cW hr %[bw cU (pv 0) ay,ay,B4 (v:=.int 1000) (by rfl) mS #[tk,U]|0]))))),?_]
 apply#[_,U,_,_,_,_,U,.tup hp,U,_,U,aM ?_];apply#[_,U,p,_,U,.inr (.of hp),U,_,U,?_];apply xU (show V.int ((2:Nat):Int)=V.int 2 from U) ?_;apply#[_,U,p,_,_,_,U,U,.of hp,U,a,U,la,λH1 s1=>#[_,U,?_]];let xB:=s1 _ _ hp;let kk:=k H1 s1;apply bQ (λc=>?_) (λc=>?_)
 ·apply#[_,U,p,_,_,_,U,U,.of xB,U,n,1,1000,U,?_];rw[c] at kk;exact kk
 rw[show iL a=false by simpa using c] at kk;exact kk
theorem qT:bJ ["hands","found","hand"] ["hands"] (a9 y_):=bV
def w_(K:ai):Sp:=λvs H Q _=>∃(l:Addr) (ys:ag) (hs:Xa),vs=[.ref l]/\H l\.lst ys/\bY K H ys (hs.map kH)/\(∀h∈hs,ow h)/\(hs.map (·.1)).Nodup/\1<=hs.length/\hs.length<=8 /\
 ∀d H',aa H H'->H d=none->H' d\.dK (dD hs)->Q (.ref d) H'
theorem XB{f:Addr}{fd:Ae}(F:bo K "checked_strengths" "checked_strengths" y_ f fd)(B:Bi mg)(cH:!br 3 "is_hand_with_strength" fV qN){tk:Tok}(mH:mg "MOST_HANDS"\.int 8 tk):!ao a_ 4 f fd ["hands"] (w_ K):=by
 exists F.bU qT;let#[l,ys,hs,rfl,hl,tu,good,nd,h1,h8,k]:=h;let hu:=fH hr;let sz:=cq;let le:=bH tu;rw[av] at le
 apply#[_,aw (cg (pA (e_ (d8 (cy jU (by rfl) B.jn jr %[0,jT (v:=.ty "list") (by rfl) B.list yc U|0])))
   (pC (e_ (SN xR xR ay (cy iq (by rfl) B.len gE %[0|0]) (B4 (v:=.int 8) (by rfl) mH #[tk,U]))))).pt gg cj)
  (aw (bu 1 qT.nd FG)
  (aw (d4 dN U (dY (pv 0)) (cu 2 qT.nd)
   (aw (cg (e_ (d8 (bc cH hr %[2|0]))) gg cj)
   (aw (cg (qd (AW hu (bw cU (pv 2) ay) (pv 1))) gg cj)
   (aH (tW hu (pv 1) (bw cU (pv 2) ay) (bw cU (pv 2) ay) U)))))
  (aH (bp (iO (Bc U) (by rfl) B.dict uT %[cy (fy_ U) (by rfl) B.sorted I_ %[Iz (pv 1)|0]|0]))))),?_]
 apply#[_,U,_,_,_,_,U,.lst hl,U,_,U,aM ?_];apply#[_,U,l,_,U,.inl (.of hl),_,_,U,U,_,U,?_];rw[cw (show (1:Int)<=(ys.length:Int) by omega)];apply c_ #[_,_,U,U,_,U,?_];rw[cw (show (ys.length:Int)<=8 by omega)];apply aM ?_;intro d hd;have s0:aa H (upd H d (.dK [])):=aa.new hd;apply#[_,U,l,U,#[_,.of (s0 _ _ hl)],ia (K:=K) (a:=l) (xs:=ys) (λi σ H2=>∃(v2:aE),σ=[some (.ref l),some (.ref d),v2]/\aa H H2/\H2 d\.dK ((hs.take i).map λh=>(Sum.inr h.1,V.int h.2))) #[none,U,s0,az] (λi σ H2 _ ⟨_,_,s2,_⟩=>.of (s2 _ _ hl)) ?_ ?_]
 ·rintro i y σ H2 hy ⟨v2,rfl,s2,hd2⟩;let#[t,ht,a,rfl,ha]:=u5 tu hy;let#[g1,g2,g3]:=good t (cZ ht);let oi:=s2 _ _ (zR ha);apply#[_,U,a,t.1,t.2,U,oi,by have:=IP g1;omega,λH3 s3=>#[_,U,?_]];let jK:=s3 _ _ oi;let md:=s3 _ _ hd2;rw[g1,cw g2,cw g3];apply aM ?_
  have uF:aU ((hs.take i).map λh=>((Sum.inr h.1:Key),V.int h.2)) (Sum.inr t.1)=none:=ud (by
   rw[cz];let q:=FE (g:=λh:Str × Int=>h.1) nd ht;intro m;let#[h,hh,e]:=bG.mp m;exact q (bG.mpr #[h,hh,iJ e]))
  apply#[_,U,a,_,_,_,U,U,.of jK,U,_,U,d,_,U,.k (k:=Sum.inr t.1) md,_,U,?_];rw[uF];apply aM ?_;apply#[_,U,a,_,_,_,U,U,.of jK,U,_,U,_,U,a,_,_,_,U,U,.of jK,U,d,_,U,.k (k:=Sum.inr t.1) md (by rw[av,dM];omega),?_];apply#[_,U,λc o e=>?_,?_]
  ·rw[ax (bz e hd)];exact s3 _ _ (s2 _ _ e)
  rw[az,wz _ uF,yj _ ht]
 rintro σ H2 ⟨v2,rfl,s2,hd2⟩;rw[le,eS] at hd2;apply#[_,U,d,_,U,hd2,λv hv=>?_];have s3:aa H2 (upd H2 v (tU v d)):=aa.new hv;apply#[v,d,_,hs.map λh=>(Sum.inr h.1,Sum.inl h.2),[true,false],U,az,s3 _ _ hd2,by rw[cz];rfl,#[by decide,λq hq=>?_],by rw[av];omega,λl' H4 zs s4 hn tz=>?_]
 ·rw[cz] at hq;let#[h,_,rfl]:=bG.mp hq;rfl
 have ez:((hs.map λh=>((Sum.inr h.1:Key),(Sum.inl h.2:Key))).map λk=>[k.1,k.2])=hs.map kH:=by rw[cz];rfl
 rw[ez] at tz
 have pz:kC K (upd H4 l' (.lst zs)) zs (dD hs):=by
  have shape:∀k∈bj (hs.map kH),∃a b,k=[a,b]:=λk hk=>by
   let#[h,_,e]:=bG.mp ((uc _).mem_iff.mp hk);exact#[_,_,e.symm]
  have gen:∀(ks:List aq) (zs:ag),(∀k∈ks,∃a b,k=[a,b])->bY K (upd H4 l' (.lst zs)) zs ks->kC K (upd H4 l' (.lst zs)) zs (ks.map zC):=λks=>by
   intro zs;generalize upd H4 l' (.lst zs)=HH;intro sh t
   induction t with
   |nil=>exact .nil
   |cons h t ih=>
    let#[a,b,rfl]:=sh _ gF;exact .cons h (ih λk hk=>sh k (fX _ hk))
  exact gen _ _ shape (tz.same (aa.new hn))
 apply#[l',zs,_,U,az,pz,?_,λd' hU=>?_]
 ·have:=(TH hs).length_eq;simp only[av] at this;omega
 rw[yd (T7 nd)];have C9:aa H (upd H4 l' (.lst zs)):=(s2.trans (s3.trans s4)).trans (aa.new hn);exact k d' _ (C9.trans (aa.new hU)) (C9.free hU) az
theorem Hn:bJ ["ties","strengths","found","one","other"] ["ties","strengths"] (a9 rh):=bV
inductive kW (K:ai) (vs:ag) (H:Hp) (Q:VK) (E:XK):Prop
 |mk:∀(l d:Addr) (ys:ag) (ts:Xb) (kvs:List (Key × V)),vs=[.ref l,.ref d]->H l\.lst ys->bY K H ys (ts.map kT)->(∀t∈ts,wm t)->(ts.map λt=>kT (aK t.1 t.2)).Nodup->ts.length<64->H d\.dK kvs->(∀t∈ts,(aU kvs (Sum.inr t.1)).isSome=true/\(aU kvs (Sum.inr t.2)).isSome=true)->(∀l' zs H',aa H H'->H l'=none->H' l'\.lst zs->bY K H' zs (bj (ts.map λt=>kT (aK t.1 t.2)))->Q (.ref l') H')->kW K vs H Q E
theorem B2(a b:Str):aK a b=(a,b)∨aK a b=(b,a):=by
 unfold aK;split
 ·exact .inl rfl
 exact .inr rfl
theorem Zd{f:Addr}{fd:Ae}(F:bo K "checked_ties" "checked_ties" rh f fd)(B:Bi mg)(cS:!br 3 "sorted_ties" ["ties"] (Oh K)):!ao a_ 4 f fd ["ties","strengths"] (kW K):=by
 exists F.bU Hn;let#[l,d,ys,ts,kvs,rfl,hl,tu,good,nd,cY,hd,there,k]:=h;let hu:=fH hr
 apply#[_,aw (bu 2 Hn.nd (bc cS hr %[0|0]))
  (aw (cg (qd (Hj (pv 2))) gg cj)
  (aw (d4 dN U (dY (pv 2)) (mw U (dO (cu 3 Hn.nd) (dO (cu 4 Hn.nd) jh)))
   (aH (cg (pA (qd (IM hu (pv 3) (pv 1))) (pC (qd (IM hu (pv 4) (pv 1))))).pt gg cj)))
  (aH (bp (pv 2))))),?_]
 apply#[_,U,l,ys,ts,U,hl,tu,good,nd,cY,λl' zs H1 s1 hf fq tz=>?_];apply#[_,U,_,U,aM ?_];apply#[_,U,l',U,#[_,.of fq],ia (K:=K) (a:=l') (xs:=zs) (λi σ H2=>∃(v3 v4:aE),σ=[some (.ref l),some (.ref d),some (.ref l'),v3,v4]/\H2=H1) #[none,none,U,U] (λi σ H2 _ ⟨_,_,_,e⟩=>by subst e;exact .of fq) ?_ ?_]
 ·rintro i y σ H2 hy ⟨v3,v4,rfl,rfl⟩;let ez:=bH tz;have hi:i<zs.length:=(bX.mp hy).1;let#[a,e,ha]:=d9 tz i hi Z2;rw[(bX.mp hy).2] at e;subst e;let#[t,ht,e]:=bG.mp ((uc _).mem_iff.mp (kK (show i<(bj (ts.map λt=>kT (aK t.1 t.2))).length by omega)));rw[<- e] at ha;let#[t1,t2]:=there t ht
  have both:(aU kvs (Sum.inr (aK t.1 t.2).1)).isSome=true/\(aU kvs (Sum.inr (aK t.1 t.2).2)).isSome=true:=by
   rcases B2 t.1 t.2 with q|q
   ·rw[q];exact#[t1,t2]
   rw[q];exact#[t2,t1]
  let pV:=s1 _ _ hd;apply#[a,_,U,.of (GT ha),U,_,_,U,_,_,U,U,?_];apply#[_,U,_,U,d,_,U,.k (k:=Sum.inr (aK t.1 t.2).1) pV,_,U,?_];rw[both.1];apply aM ?_;apply#[_,U,_,U,d,_,U,.k (k:=Sum.inr (aK t.1 t.2).2) pV,_,U,?_];rw[both.2];apply aM ?_;exact#[_,_,U,U]
 rintro σ H2 ⟨v3,v4,rfl,rfl⟩;exact#[_,U,k l' zs _ s1 hf fq tz]
def near(ns:ae)(ts:Xb)(n:Str):ae:=ns.filter λo=>decide (aK n o∈ts)
theorem lF:bJ ["names","ties","found","hand"] ["names","ties"] (a9 rF):=bV
def tX(ns:ae)(as:au):List (Key × V):=(ns.zip as).map λp=>(Sum.inr p.1,V.ref p.2)
inductive k6 (K:ai) (vs:ag) (H:Hp) (Q:VK) (E:XK):Prop
 |mk:∀(l1 l2:Addr) (ns:ae) (zs:ag) (ts:Xb),vs=[.ref l1,.ref l2]->H l1\.lst (ns.map V.str)->H l2\.lst zs->bY K H zs (ts.map kT)->ns.Nodup->ns.length<=1000->l1≠l2->(∀d as H',aa H H'->H d=none->as.length=ns.length->H' d\.dK (tX ns as)->(∀(i:Nat) n a,ns[i]? = some n->as[i]? = some a->H a=none/\H' a\.lst ((near ns ts n).map V.str))->Q (.ref d) H')->k6 K vs H Q E
theorem My{K:ai}{H:Hp}:∀{ts:Xb} {zs:ag},bY K H zs (ts.map kT)->Paired (r2 K rS rS H) zs ts
 |[],_,.nil=>.nil
 |t::ts,_,.cons ⟨a,e,h⟩ r=>.cons #[a,_,_,e,.of (GT h),U,U] (My r)
theorem mI{ns:ae}{i:Nat}{x:V}(h:(ns.map V.str)[i]? = some x):∃n,ns[i]? = some n/\x=.str n:=by
 rw[dF] at h;cases e:ns[i]? with
 |none=>rw[e] at h;cases h
 |some n=>rw[e] at h;exact#[n,U,(cX h).symm]
theorem IV{α:Type}(p:α->Bool){l:List α}{i:Nat}{x:α}(h:l[i]? = some x):(l.take (i+1)).filter p=(l.take i).filter p++(if p x then [x] else []):=PySem.take_succ_filter p l i x h
theorem Yy{f:Addr}{fd:Ae}(F:bo K "neighbours_of_all" "neighbours_of_all" rF f fd)(cL:!br 1 "lesser_first" mz IA):!ao a_ 2 f fd ["names","ties"] (k6 K):=by
 exists F.bU lF;let#[l1,l2,ns,zs,ts,rfl,fq,jo,tz,nd,h8,l9,k]:=h;let hu:=fH hr;let hu3:=hr.units;let sz:=cq
 apply#[_,aw (bu 2 lF.nd FG)
  (aw (d4 dN U (dY (pv 0)) (cu 3 lF.nd)
   (aH (tW hu (pv 2) (pv 3) (js ["other","hand","ties"] 1 [3,1] (dY (pv 0)) (λfp s H=>fW (i:=0) (show (["other","hand","ties"]:ae).Nodup by decide +kernel) U (Or.inl U))
    (λfp s H=>Ib (eZ (WG (K:=K) (λK=>zj K (r2 K rS rS) false) (L5 (Fh i_ i_) (uP hr _))) (bc cL hr %[1,0|0]) (pv 2) (by with_unfolding_all rfl))) (λfp s H=>pv 0)) U)))
  (aH (bp (pv 2)))),?_]
 intro d hd;have s0:aa H (upd H d (.dK [])):=aa.new hd
 apply#[_,U,l1,U,#[_,.of (s0 _ _ fq)],ia (K:=K) (a:=l1) (xs:=ns.map V.str) (λi σ H2=>∃(v3:aE) (as:au),σ=[some (.ref l1),some (.ref l2),some (.ref d),v3]/\aa H H2/\as.length=i/\H2 d\.dK (tX (ns.take i) as) /\
  ∀(j:Nat) n a,ns[j]? = some n->as[j]? = some a->H a=none/\a≠d/\H2 a\.lst ((near ns ts n).map V.str)) #[none,[],U,s0,U,az,λj n a _ e=>by simp at e] (λi σ H2 _ ⟨_,_,_,s2,_⟩=>.of (s2 _ _ fq)) ?_ ?_]
 ·rintro i y σ H2 hy ⟨v3,as,rfl,s2,la,hd2,lists⟩;let#[n,hn,rfl]:=mI hy;have hi:i<ns.length:=(bX.mp hn).1
  have lk:(tX (ns.take i) as).length=i:=by
   unfold tX;rw[av,List.length_zip,dM];omega
  apply#[_,U,l1,U,#[_,.of (s2 _ _ fq)],λD hD=>?_];apply kL (own:=1) (fv:=[some (.str n),some (.ref l2)]) (xs:=ns.map V.str) U fF (λj out H'=>aa H2 H'/\H' D\.lst out/\out=((ns.take j).filter λo=>decide (aK n o∈ts)).map V.str) #[aa.new hD,az,U] (λj out H' _ ⟨sm,_,_⟩=>.of (sm _ _ (s2 _ _ fq))) (λout H' ⟨sm,dH,eo⟩=>?_) (λj x out H' hx ⟨sm,dH,eo⟩=>?_)
  ·rw[av,eS] at eo
   have uF:aU (tX (ns.take i) as) (Sum.inr n)=none:=ud λm=>by
    unfold tX at m;rw[cz] at m;let#[p,hp,e]:=bG.mp m;have e:p.1=n:=iJ e;let q:=FE (g:=id) (by rw[List.map_id];exact nd) hn;rw[List.map_id] at q;exact q (e▸(List.of_mem_zip hp).1)
   have P1:D≠d:=λz=>by subst z;rw[hD] at hd2;cases hd2
   apply#[_,U,_,U,d,_,U,.k (k:=Sum.inr n) (sm _ _ hd2) Z2,?_];apply#[_,as++[D],U,λc o e=>?_,by rw[d5,la];rfl,?_,λj n' a Ek ha=>?_]
   ·rw[ax (bz e hd)];exact sm _ _ (s2 _ _ e)
   ·rw[az,wz _ uF];congr 2;unfold tX;rw[ua,hn,List.zip_append (by rw[dM];omega),er];rfl
   by_cases hj:j<as.length
   ·rw[yi hj] at ha;let#[q1,q2,q3]:=lists j n' a Ek ha;apply#[q1,q2,?_];rw[ax q2];exact sm _ _ q3
   have _V:j=i:=by
    have:=(bX.mp ha).1;rw[d5] at this;simp only[jV] at this;omega
   subst _V;rw[Be Z2,la,Nat.sub_self] at ha;have ha:D=a:=⇑ha
   subst ha;rw[hn] at Ek;cases Ek;apply#[s2.free hD,P1,?_];rw[ax P1,dH,eo];rfl
  let#[o,ho,rfl]:=mI hx;apply#[_,U,U,λNx hN=>?_];apply#[_,U,_,U,n,o,U,λt ht=>?_];have s3:aa H' (upd H' t (.tup [.str (aK n o).1,.str (aK n o).2])):=aa.new ht;let Vj:=((tz.same s2).same sm).same s3
  have lo:out.length<sizeLine:=by
   rw[eo,av];have:=Cb (λo=>decide (aK n o∈ts)) (ns.take j);rw[dM] at this;omega
  apply#[_,U,aK n o,ts,#[t,_,_,U,.of az,U,U],#[l2,zs,U,.of (s3 _ _ (sm _ _ (s2 _ _ jo))),My Vj],_,U,?_];apply bQ (λc=>?_) (λc=>?_)
  ·apply#[_,U,out,s3 _ _ dH,lo,hN _ _ #[fL (sm.trans s3) hD,az,?_]];have c:decide (aK n o∈ts)=true:=⇑c
   rw[IV _ ho,aI c,er,eo];rfl
  apply hN _ _ #[sm.trans s3,s3 _ _ dH,?_];have c:¬decide (aK n o∈ts)=true:=⇑c
  rw[IV _ ho,aC c,wK,eo]
 rintro σ H2 ⟨v3,as,rfl,s2,la,hd2,lists⟩;rw[av] at la hd2;rw[eS] at hd2;exact#[_,U,k d as _ s2 hd la hd2 λj n a h1 h2=>#[(lists j n a h1 h2).1,(lists j n a h1 h2).2.2]]
end
end Ev
namespace Ev
open PySem L2
abbrev rP:Stmt:=mr oR 0
abbrev vB:Stmt:=mr oR 1
abbrev lT:Stmt:=mr oR 2
abbrev N7:Stmt:=mr oR 3
abbrev lM:Stmt:=mr oR 4
abbrev rp:Stmt:=mr oR 5
def EX:aq->Str
 |.inr a::_=>a
 |_=>⟨#[]⟩
def JC:aq->Str × Str
 |[.inr a,.inr b]=>(a,b)
 |_=>(⟨#[]⟩,⟨#[]⟩)
def aS(hs:Xa):ae:=(bj (hs.map kH)).map EX
def bT(ts:Xb):Xb:=(bj (ts.map λt=>kT (aK t.1 t.2))).map JC
theorem NC(ts:Xb):(bT ts).map kT=bj (ts.map λt=>kT (aK t.1 t.2)):=by
 unfold bT;rw[cz]
 have all:∀k∈bj (ts.map λt=>kT (aK t.1 t.2)),∃t:Str × Str,k=kT t:=λk hk=>by
  let#[t,_,e]:=bG.mp ((uc _).mem_iff.mp hk);exact#[_,e.symm]
 generalize bj (ts.map λt=>kT (aK t.1 t.2))=l at all
 induction l with
 |nil=>rfl
 |cons k l ih=>
  let#[t,rfl]:=all k gF;rw[eJ,ih λk hk=>all k (fX _ hk)];rfl
theorem TM(hs:Xa):∀k∈bj (hs.map kH),∃h:Str × Int,h∈hs/\k=kH h:=λk hk=>by
 let#[t,ht,e]:=bG.mp ((uc _).mem_iff.mp hk);exact#[t,ht,e.symm]
theorem RX(hs:Xa):((dD hs).map λkv=>kV kv.1)=(aS hs).map V.str:=by
 unfold dD aS;rw[cz,cz];apply u4 λk hk=>?_;let#[h,_,rfl]:=TM hs k hk;rfl
theorem RY(hs:Xa):(dD hs).map (·.1)=(aS hs).map Sum.inr:=by
 unfold dD aS;rw[cz,cz];apply u4 λk hk=>?_;let#[h,_,rfl]:=TM hs k hk;rfl
theorem gO(hs:Xa):(aS hs).Perm (hs.map (·.1)):=by
 unfold aS;let p:=(uc (hs.map kH)).map EX;rw[cz] at p;exact p
theorem IZ{κ:Type}[DecidableEq κ]{kvs:List (κ × V)}{k:κ}(h:k∈kvs.map (·.1)):(aU kvs k).isSome=true:=by
 rw[<- B7];let#[p,hp,e]:=bG.mp h;exact List.any_eq_true.mpr #[p,hp,cw e]
theorem Il{hs:Xa}{n:Str}:(aU (dD hs) (Sum.inr n)).isSome=decide (n∈hs.map (·.1)):=by
 by_cases h:n∈hs.map (·.1)
 ·rw[cw h];apply IZ ?_;rw[RY];exact bG.mpr #[n,(gO hs).mem_iff.mpr h,U]
 rw[ft h,ud]
 ·rfl
 rw[RY];intro m;let#[x,hx,e]:=bG.mp m;cases e;exact h ((gO hs).mem_iff.mp hx)
theorem sI:¬((uQ:Str)="sorted_pairs"):=by decide +kernel
theorem Dz:¬((uQ:Str)=BR):=by decide +kernel
def fi(d1 l2 d3:Addr):List (Str × V):=aB BR (.ref d3) (aB "sorted_pairs" (.ref l2) (aB uQ (.ref d1) []))
theorem He(d1 l2 d3:Addr):(fi d1 l2 d3).lookup (uQ:Str)\.ref d1:=by
 unfold fi;rw[gy,aC Dz,gy,aC sI,gy,aI U]
theorem Qy(d1 l2 d3:Addr):(fi d1 l2 d3).lookup (BR:Str)\.ref d3:=by
 unfold fi;rw[gy,aI U]
theorem pF(d1 l2 d3:Addr){m:Str}(h1:¬m=uQ)(h2:¬m="sorted_pairs")(h3:¬m=BR):(fi d1 l2 d3).lookup m=none:=by
 unfold fi;rw[gy,aC h3,gy,aC h2,gy,aC h1]
 all_goals rfl
structure h_ (K:ai) (C:Addr) (H:Hp) (p:Addr) (hs:Xa) (ts:Xb) (fp:au):Prop where
 ex:∃(dx d1 l2 d3:Addr) (zs:ag) (as:au),fp=p::d1::l2::d3::as/\H p\.ins C dx (fi d1 l2 d3)/\H d1\.dK (dD hs)/\H l2\.lst zs/\bY K H zs ((bT ts).map kT)/\H d3\.dK (tX (aS hs) as)/\as.length=(aS hs).length /\
  ∀(i:Nat) n a,(aS hs)[i]? = some n->as[i]? = some a->H a\.lst ((near (aS hs) (bT ts) n).map V.str)
theorem h_.keep{K:ai}{C:Addr}{H H':Hp}{p:Addr}{hs:Xa}{ts:Xb}{fp:au}(W:h_ K C H p hs ts fp)(k:∀b∈fp,∀o,H b\o->H' b\o)(kt:∀b xs,H b\.tup xs->H' b\.tup xs):h_ K C H' p hs ts fp:=by
 let#[dx,d1,l2,d3,zs,as,rfl,h1,h2,h3,h4,h5,h6,h7]:=W.ex;apply#[dx,d1,l2,d3,zs,as,U,k _ Y0 _ h1,k _ Y0 _ h2,k _ Y0 _ h3,Paired.aX h4 λy q ⟨a,e,z⟩=>#[a,e,kt _ _ z],k _ Y0 _ h5,h6,λi n a e1 e2=>k _ ?_ _ (h7 i n a e1 e2)];have:=cZ e2;simp[this]
theorem h_.same{K:ai}{C:Addr}{H H':Hp}{p:Addr}{hs:Xa}{ts:Xb}{fp:au}(W:h_ K C H p hs ts fp)(s:aa H H'):h_ K C H' p hs ts fp:=W.keep (λb _ o e=>s b o e) λb xs e=>s b _ e
structure Good (hs:Xa) (ts:Xb):Prop where
 aA:∀h∈hs,ow h
 pT:(hs.map (·.1)).Nodup
 h1:1<=hs.length
 h8:hs.length<=8
 tok:∀t∈ts,wm t
 F5:(ts.map λt=>kT (aK t.1 t.2)).Nodup
 w9:ts.length<64
 vk:∀t∈ts,t.1∈hs.map (·.1)/\t.2∈hs.map (·.1)
theorem Good.oY{hs:Xa}{ts:Xb}(G:Good hs ts):(aS hs).Nodup:=(gO hs).nodup_iff.mpr G.pT
theorem Good.iB{hs:Xa}{ts:Xb}(G:Good hs ts):(aS hs).length=hs.length:=by
 rw[(gO hs).length_eq,av]
structure Txt (K:ai) (mg:Str->Option Aa) (C:Addr):Prop where
 cl:mU K C
 nS:mq K C uQ
 nP:mq K C "sorted_pairs"
 nN:mq K C BR
section v
theorem lG:bJ ["self","hands","ties","strengths","checked"] ["self","hands","ties"] (a9 rP):=bV
inductive Hv (K:ai) (C:Addr) (vs:ag) (H:Hp) (Q:VK) (E:XK):Prop
 |mk:∀(p dx lh lt:Addr) (ys zs:ag) (hs:Xa) (ts:Xb),vs=[.ref p,.ref lh,.ref lt]->H p\.ins C dx []->H lh\.lst ys->bY K H ys (hs.map kH)->H lt\.lst zs->bY K H zs (ts.map kT)->Good hs ts->(∀fp H',(∀b o,H b\o->b≠p->H' b\o)->h_ K C H' p hs ts fp->(∀b∈fp,b=p∨H b=none)->Q .non H')->Hv K C vs H Q E
theorem ZV{f C:Addr}{fd:Ae}(F:bo K "__init__" "Web.__init__" rP f fd)(T:Txt K mg C)(B:Bi mg)(cS:!br 4 "checked_strengths" ["hands"] (w_ K))(cT:!br 4 "checked_ties" ["ties","strengths"] (kW K))(cN:!br 2 "neighbours_of_all" ["names","ties"] (k6 K)) :
  ao P w K mg base a_ 5 f fd ["self","hands","ties"] (Hv K C):=by
 exists F.bU lG;let#[p,dx,lh,lt,ys,zs,hs,ts,rfl,hp,fZ,th,dI,tt,G,k]:=h
 apply#[_,aw (bu 3 lG.nd (bc cS hr %[1|0]))
  (aw (bu 4 lG.nd (bc cT hr %[2,3|0]))
  (aw (uW (pv 0) (pv 3) U) (aw (uW (pv 0) (pv 4) U)
  (aH (uW (pv 0) (bc cN hr %[iO (NL U) (by rfl) B.list yc %[3|0],4|0]) U))))),?_]
 apply#[_,U,lh,ys,hs,U,fZ,th,G.aA,G.pT,G.h1,G.h8,λd1 H1 s1 f1 pV=>?_];apply#[_,U,_,U,lt,d1,zs,ts,_,U,s1 _ _ dI,tt.same s1,G.tok,G.F5,G.w9,pV,λt ht=>?_,λl2 Jn H2 s2 f2 jo tz=>?_]
 ·rw[Il,Il];exact#[cw (G.vk t ht).1,cw (G.vk t ht).2]
 let Ak:=s2 _ _ pV;let ko:=s2 _ _ (s1 _ _ hp);have p1:p≠d1:=bS ko Ak nofun;have p2:p≠l2:=bS ko jo nofun;apply#[_,U,_,U,p,C,dx,[],U,ko,T.cl,T.nS,by show 0<1000;decide,?_];apply#[_,U,_,U,p,C,dx,_,U,az,T.cl,T.nP,by show 1<1000;decide,?_]
 let H3:Hp:=upd (upd H2 p (.ins C dx (aB uQ (.ref d1) []))) p (.ins C dx (aB "sorted_pairs" (.ref l2) (aB uQ (.ref d1) [])))
 have h3:∀{b o},H2 b\o->b≠p->H3 b\o:=λe ne=>by
  show upd (upd H2 p _) p _ _=_;rw[ax ne,ax ne];exact e
 have LV:H3 p\.ins C dx (aB "sorted_pairs" (.ref l2) (aB uQ (.ref d1) [])):=az
 have Dv:∀{b},H3 b=none->H2 b=none:=λ{b} e=>by
  by_cases z:b=p
  ·subst z;rw[LV] at e;cases e
  have e:upd (upd H2 p _) p _ b=none:=e;rw[ax z,ax z] at e;exact e
 have Pa:bY K H3 Jn ((bT ts).map kT):=by
  rw[NC];exact Paired.aX tz λy q ⟨a,e,z⟩=>#[a,e,h3 z (bS z ko nofun)]
 apply#[_,U,d1,_,U,.inl (h3 Ak p1.symm),λl1 fq=>?_];rw[RX];have s4:aa H3 (upd H3 l1 (.lst ((aS hs).map V.str))):=aa.new fq;have Kr:l1≠l2:=(bz (H:=H3) (h3 jo p2.symm) fq).symm;apply#[_,U,l1,l2,aS hs,Jn,bT ts,U,az,s4 _ _ (h3 jo p2.symm),Pa.same s4,G.oY,by rw[G.iB];have:=G.h8;omega,Kr,λd3 as H5 s5 f5 la md lists=>?_];let K6:=s5 _ _ (s4 _ _ LV);apply#[_,U,p,C,dx,_,U,K6,T.cl,T.nN,by show 2<1000;decide,?_]
 have up:∀{b o},H2 b\o->b≠p->upd H5 p (.ins C dx (fi d1 l2 d3)) b\o:=λe ne=>by
  rw[ax ne];exact s5 _ _ (s4 _ _ (h3 e ne))
 have o_:∀{b},upd H3 l1 (.lst ((aS hs).map V.str)) b=none->H b=none:=λe=>s1.free (s2.free (Dv (s4.free e)));have LH:d3≠p:=(bz (s4 _ _ LV) f5).symm;apply k (p::d1::l2::d3::as) _ (λb o e ne=>up (s2 _ _ (s1 _ _ e)) ne) #[dx,d1,l2,d3,Jn,as,U,az,up Ak p1.symm,up jo p2.symm,?_,?_,la,λi n a e1 e2=>?_] λb hb=>?_
 ·exact Paired.aX (Pa.same (s4.trans s5)) λy q ⟨a,e,z⟩=>#[a,e,by rw[ax (bS z K6 nofun)];exact z]
 ·rw[ax LH];exact md
 ·let#[q1,q2]:=lists i n a e1 e2;rw[ax (bS q2 K6 nofun)];exact q2
 simp only[bZ] at hb;rcases hb with rfl|rfl|rfl|rfl|hb
 ·exact .inl U
 ·exact .inr f1
 ·exact .inr (s1.free f2)
 ·exact .inr (o_ f5)
 let#[i,hi,e]:=ib hb;have e1:as[i]? = some b:=by rw[aY hi,e]
 have hn:i<(aS hs).length:=by omega
 exact .inr (o_ (lists i _ b (aY hn) e1).1)
end
end Ev
namespace Ev
open PySem L2
structure bM (P:Ad) (w:Af) (K:ai) (mg:Str->Option Aa) (base:Heap) (C:Addr) (k:Nat) (m:Str) (ps:ae) (sp:Sp):Prop where
 ex:∃f fd,ao P w K mg base a_ k f fd ps sp/\Meth K C m f/\pZ K fd ps []
theorem iX{X:Cx}{C:Addr}{k:Nat}{m:Str}{ps:ae}{sp:Sp}{pos apos:Pos}{o e:Expr}{es:List Expr}{ta:TE}{t:TA}{pl:Sem Bool}(c:bM X.prog X.w X.K X.mg X.base C k m ps sp)(cl:mU X.K C)(hr:aP k X.A)(he:PE X o ta)(ha:PA X (e::es) t)
  (zN:starEach (e::es) X.env=(false,eval e X.env)::starEach es X.env:=by rfl) (iE:(backTo pos (starEach es X.env)).any (·.1)=false:=by rfl)
  (ht:eval (.Call (.Attribute o m apos) (e::es) [] pos) X.env=(do
   let ov <- eval o X.env
   standAt apos.atName
   let (f,first) <- holding [ov] (getMethod ov m pl)
   callWith pos f first (backTo pos (starEach (e::es) X.env)) (backToKw pos (keywordEach [] X.env))):=by rfl) :
  PE X (.Call (.Attribute o m apos) (e::es) [] pos) (m_ C m sp [] E0 ta t):=by
 let#[f,fd,F,hm,b]:=c.ex;exact YM he cl hm F hr b .nil nQ ha zN iE ht
theorem xX{X:Cx}{C:Addr}{k:Nat}{m:Str}{ps:ae}{sp:Sp}{pos apos:Pos}{o:Expr}{ta:TE}{pl:Sem Bool}(c:bM X.prog X.w X.K X.mg X.base C k m ps sp)(cl:mU X.K C)(hr:aP k X.A)(he:PE X o ta)
  (ht:eval (.Call (.Attribute o m apos) [] [] pos) X.env=(do
   let ov <- eval o X.env
   standAt apos.atName
   let (f,first) <- holding [ov] (getMethod ov m pl)
   callWith pos f first (backTo pos (starEach [] X.env)) (backToKw pos (keywordEach [] X.env))):=by rfl) :
  PE X (.Call (.Attribute o m apos) [] [] pos) (m_ C m sp [] E0 ta oM):=by
 let#[f,fd,F,hm,b]:=c.ex;exact Zx he cl hm F hr b .nil nQ ht
theorem fN_{hs:Xa}(nd:(hs.map (·.1)).Nodup){x:Str}{n:Int}(h:(x,n)∈hs):aU (dD hs) (Sum.inr x)\.int n:=by
 have m:((Sum.inr x:Key),V.int n)∈dD hs:=by
  unfold dD;apply bG.mpr #[kH (x,n),(uc _).mem_iff.mpr (bG.mpr #[_,h,U]),U]
 let nk:=T7 nd;generalize dD hs=kvs at m nk
 induction kvs with
 |nil=>cases m
 |cons p r ih=>
  let#[n1,n2]:=iZ.mp nk;rcases bZ.mp m with e|m
  ·rw[<- e];exact x_ U
  rw[x8 (λe:p.1=Sum.inr x=>n1 (bG.mpr #[_,m,e.symm]))];exact ih m n2
theorem gR_{ns:ae}{as:au}(nd:ns.Nodup)(la:as.length=ns.length){i:Nat}{n:Str}(hn:ns[i]? = some n):∃a,as[i]? = some a/\aU (tX ns as) (Sum.inr n)\.ref a:=by
 induction ns generalizing as i with
 |nil=>simp at hn
 |cons x ns ih=>
  cases as with
  |nil=>cases la
  |cons b as=>
   let#[n1,n2]:=iZ.mp nd;cases i with
   |zero=>
    have e:x=n:=⇑hn
    subst e;exact#[b,U,x_ U]
   |succ i=>
    have hn:ns[i]? = some n:=⇑hn
    let#[a,h1,h2]:=ih n2 ⇑la hn;apply#[a,by simpa using h1,?_];show aU ((Sum.inr x,V.ref b)::tX ns as) (Sum.inr n)=_;rw[x8 λe=>n1 (by rw[show x=n from iJ e];exact cZ hn)];exact h2
section v
theorem xa:bJ mF mF (a9 vB):=bV
inductive BS (K:ai) (C:Addr) (vs:ag) (H:Hp) (Q:VK) (E:XK):Prop
 |mk:∀(p:Addr) (x:Str) (hs:Xa) (ts:Xb) (fp:au),vs=[.ref p,.str x]->h_ K C H p hs ts fp->Q (.bl (decide (x∈hs.map (·.1)))) H->BS K C vs H Q E
theorem XC{f C:Addr}{fd:Ae}(F:bo K "has_hand" "Web.has_hand" vB f fd)(T:Txt K mg C)(B:Bi mg):!ao a_ 1 f fd mF (BS K C):=by
 exists F.bU xa;let#[p,x,hs,ts,fp,rfl,W,k]:=h;let hu:=fH hr;let#[dx,d1,l2,d3,zs,as,rfl,h1,h2,h3,h4,h5,h6,h7]:=W.ex;apply#[_,aH (bp (pB (cy jU (by rfl) B.jn jr %[1,jT (v:=.ty "str") (by rfl) B.str Hf U|0]) (qg (HP (AW hu (pv 1) (gG (pv 0) U)))))),?_];apply#[_,U,_,_,_,_,U,.str x,U,_,U,c_ ?_];apply#[_,U,_,U,p,C,dx,_,_,U,h1,T.cl,T.nS,He _ _ _,d1,_,U,.k (k:=Sum.inr x) h2,?_];rw[Il];exact k
theorem vA:bJ oz oz (a9 lT):=bV
inductive Fx (K:ai) (C:Addr) (vs:ag) (H:Hp) (Q:VK) (E:XK):Prop
 |mk:∀(p:Addr) (hs:Xa) (ts:Xb) (fp:au),vs=[.ref p]->h_ K C H p hs ts fp->(∀l,H l=none->Q (.ref l) (upd H l (.lst ((aS hs).map V.str))))->Fx K C vs H Q E
theorem hD_{f C:Addr}{fd:Ae}(F:bo K "hands" "Web.hands" lT f fd)(T:Txt K mg C)(B:Bi mg):!ao a_ 1 f fd oz (Fx K C):=by
 exists F.bU vA;let#[p,hs,ts,fp,rfl,W,k]:=h;let#[dx,d1,l2,d3,zs,as,rfl,h1,h2,h3,h4,h5,h6,h7]:=W.ex;apply#[_,aH (bp (iO (NL U) (by rfl) B.list yc %[gG (pv 0) U|0])),?_];apply#[_,U,p,C,dx,_,_,U,h1,T.cl,T.nS,He _ _ _,d1,_,U,.inl h2,λl hl=>?_];rw[RX];exact k l hl
theorem eC':bJ wc wc (a9 N7):=bV
inductive Jb (K:ai) (C:Addr) (vs:ag) (H:Hp) (Q:VK) (E:XK):Prop
 |mk:∀(p:Addr) (x:Str) (n:Int) (hs:Xa) (ts:Xb) (fp:au),vs=[.ref p,.str x]->h_ K C H p hs ts fp->(hs.map (·.1)).Nodup->(x,n)∈hs->Q (.int n) H->Jb K C vs H Q E
theorem ep_{f C:Addr}{fd:Ae}(F:bo K "strength" "Web.strength" N7 f fd)(T:Txt K mg C)(cH:!bM C 1 "has_hand" mF (BS K C)):!ao a_ 2 f fd wc (Jb K C):=by
 apply F.bU eC' λaL A outer s H vs Q E hr h=>?_;let#[p,x,n,hs,ts,fp,rfl,W,nd,hx,k]:=h;let hu:=fH hr;let#[dx,d1,l2,d3,zs,as,rfl,h1,h2,h3,h4,h5,h6,h7]:=id W.ex;apply#[_,aw (cg (e_ (d8 (iX cH T.cl hr (pv 0) %[1|0]))) gg cj) (aH (bp (mJ hu (gG (pv 0) U) (pv 1)))),?_];apply#[_,U,p,dx,_,U,h1,pF _ _ _ Z0 Z0 Z0,_,U,p,x,hs,ts,_,U,W,_,U,?_];rw[cw (bG.mpr #[_,hx,U])];apply aM ?_;apply#[_,U,p,C,dx,_,_,U,h1,T.cl,T.nS,He _ _ _,_,U,d1,_,U,?_,k];rw[<- fN_ nd hx];exact .k (k:=Sum.inr x) h2
theorem vy:bJ wc wc (a9 lM):=bV
inductive Nj (K:ai) (C:Addr) (vs:ag) (H:Hp) (Q:VK) (E:XK):Prop
 |mk:∀(p:Addr) (x:Str) (hs:Xa) (ts:Xb) (fp:au),vs=[.ref p,.str x]->h_ K C H p hs ts fp->(aS hs).Nodup->x∈hs.map (·.1)->(∀l,H l=none->Q (.ref l) (upd H l (.lst ((near (aS hs) (bT ts) x).map V.str))))->Nj K C vs H Q E
theorem Qn{H:Hp}{hs:Xa}{ts:Xb}{as:au}{x:Str}(nd:(aS hs).Nodup)(hx:x∈hs.map (·.1))(la:as.length=(aS hs).length)
  (h7:∀(i:Nat) n a,(aS hs)[i]? = some n->as[i]? = some a->H a\.lst ((near (aS hs) (bT ts) n).map V.str)):∃a,aU (tX (aS hs) as) (Sum.inr x)\.ref a/\H a\.lst ((near (aS hs) (bT ts) x).map V.str):=by
 let#[i,hi,e]:=ib ((gO hs).mem_iff.mpr hx);have hn:(aS hs)[i]? = some x:=by rw[aY hi,e]
 let#[a,h1,h2]:=gR_ nd la hn;exact⟨a,h2,h7 i x a hn h1⟩
theorem hX_{f C:Addr}{fd:Ae}(F:bo K "neighbours" "Web.neighbours" lM f fd)(T:Txt K mg C)(B:Bi mg)(cH:!bM C 1 "has_hand" mF (BS K C)):!ao a_ 2 f fd wc (Nj K C):=by
 exists F.bU vy;let#[p,x,hs,ts,fp,rfl,W,nd,hx,k]:=h;let hu:=fH hr;let#[dx,d1,l2,d3,zs,as,rfl,h1,h2,h3,h4,h5,h6,h7]:=id W.ex;let#[a,e1,ha]:=Qn nd hx h6 h7;apply#[_,aw (cg (e_ (d8 (iX cH T.cl hr (pv 0) %[1|0]))) gg cj) (aH (bp (iO eg_ (by rfl) B.list yc %[mJ hu (gG (pv 0) U) (pv 1)|0]))),?_];apply#[_,U,p,dx,_,U,h1,pF _ _ _ Z0 Z0 Z0,_,U,p,x,hs,ts,_,U,W,_,U,?_];rw[cw hx];apply aM ?_;apply#[_,U,p,C,dx,_,_,U,h1,T.cl,T.nN,Qy _ _ _,_,U,d3,.ref a,U,?_,a,_,U,.inl (.of ha),k];rw[<- e1];exact .k (k:=Sum.inr x) h5
theorem yS:bJ jX jX (a9 rp):=bV
theorem MK{H:Hp}:∀ns:ae,Paired (rS H) (ns.map V.str) ns
 |[]=>.nil
 |_::ns=>.cons U (MK ns)
end
end Ev
namespace L2
open PySem PySem.Spec PyProof.Rows PySem.W
def FU(K:ai)(a:Addr):It:=
 #[λi H=>∃xs x,dU K H a xs/\xs[i]? = some x,λi H y H'=>∃t x,y=.ref t/\H t=none/\(∀xs,dU K H a xs->xs[i]? = some x)/\H'=upd H t (.tup [.int i,x]),λi H=>∃xs,dU K H a xs/\xs.length=i]
theorem Inv.gR{X:Cx}{pins:List (Addr × Obj)}{σ:St}{H:Hp}{s:Ab}{h':Heap}{t':Nat}{fp:au}{T:Addr}{xs:ag}{its:aj}(I:Inv X pins σ H s)(k:∀b o,b∉fp->s.heap.get? b\o->h'.get? b\o)(hf:∀b∈fp,dA X pins H b)
  (hT:s.heap.objs.size<=T) (hz:xs.length<=sizeLine) (r:Vals xs its) (ht:IsTup h' T its.toArray/\∃o,h'.get? T\o/\o.dict=none):Inv X pins σ (upd H T (.tup xs)) { s with heap:=h',toks:=t' }:=by
 have fT:H T=none:=I.aA.fresh hT;have nf:∀b u,H b\u->b∉fp:=λb u e hb=>by rw[(hf b hb).1] at e;cases e
 have old:∀{b u},H b\u->upd H T (.tup xs) b\u:=λe=>by rw[ax (bz e fT)];exact e
 apply I.step (g':=s.gens) (d':=s.drawn) (ch:=fp) (λb hb=>?_) (λb o _ _ hc e _=>k b o hc e) (λb o _ _ hc e _=>#[o.slots,k b o hc e]) (λb o _ e n=>?_)
  (λb o hc e=>#[o,k b o hc e]) (λb ys e=>old e) (λb o u e=>old e) (λb ps e=>#[#[],by rw[Array.append_empty];exact old e]) (λm hm=>?_) (λb u e=>?_) I.bare
 ·let#[f0,f1,f2,f3,f4,f5]:=hf b hb;exact#[f3,f1,f4,f5]
 ·rw[ax (λz=>by subst z;exact absurd (bx e) (Nat.not_lt.mpr hT))];exact n
 ·let#[o,es,ep,ho,r]:=hm;exact#[o,es,ep,k _ o (λhb=>(hf _ hb).2.1 U) ho,r]
 by_cases z:b=T
 ·subst z;rw[az] at e;cases e;exact#[hz,its,r,ht]
 rw[ax z] at e;apply (I.aA b u e).eO (λc v hc q=>k c v ?_ q) (λ_ q=>old q) λ_ _ q=>old q;rcases hc with z|z
 ·rw[z];exact nf b u e
 exact nf c _ z
theorem Inv.fN{X:Cx}{pins:List (Addr × Obj)}{σ:St}{H:Hp}{s:Ab}{h':Heap}{t':Nat}{fp:au}(I:Inv X pins σ H s)(k:∀b o,b∉fp->s.heap.get? b\o->h'.get? b\o)(hf:∀b∈fp,dA X pins H b):Inv X pins σ H { s with heap:=h',toks:=t' }:=by
 have nf:∀b u,H b\u->b∉fp:=λb u e hb=>by rw[(hf b hb).1] at e;cases e
 apply I.step (g':=s.gens) (d':=s.drawn) (ch:=fp) (λb hb=>?_) (λb o _ _ hc e _=>k b o hc e) (λb o _ _ hc e _=>#[o.slots,k b o hc e]) (λb o _ e n=>n)
  (λb o hc e=>#[o,k b o hc e]) (λb ys e=>e) (λb o u e=>e) (λb ps e=>#[#[],by rw[Array.append_empty];exact e]) (λm hm=>?_) (λb u e=>?_) I.bare
 ·let#[f0,f1,f2,f3,f4,f5]:=hf b hb;exact#[f3,f1,f4,f5]
 ·let#[o,es,ep,ho,r]:=hm;exact#[o,es,ep,k _ o (λhb=>(hf _ hb).2.1 U) ho,r]
 apply (I.aA b u e).eO (λc v hc q=>k c v ?_ q) (λ_ q=>q) λ_ _ q=>q;rcases hc with z|z
 ·rw[z];exact nf b u e
 exact nf c _ z
theorem h4_{P:Ad}{w:Af}{K:ai}{elts:List Expr}{k:Nat}{pos:Pos}(a e it:Addr)(h1:e≠it)(h2:a≠e)(h3:a≠it):Turn P w K (.Tuple elts k pos) (FU K a) [e,it] e (λi h=>(∃old,IsEnum h e it i old)/\h.IsListIter it a i) where
 mem:=by simp
 obj:=λi h st b hb=>by
  let#[#[old,q],o,e2,c,d]:=st;rcases bZ.mp hb with rfl|hb
  ·exact#[_,q,λv z=>by cases z]
  obtain rfl:b=it:=⇑hb
  exact#[o,e2,λv z=>by rw[d] at z;cases z]
 keep:=λi h h' st kk=>by
  let#[#[old,q],eV]:=st;exact#[#[old,kk e Y0 _ q],eV.at λo q2=>kk it Y0 o q2]
 item:=by
  intro X hP hw hK hc i pins s σ H E I hf st hg;subst hP hw hK;let#[xs,x,hq,hx]:=hg;let#[its,rv,p,hz]:=I.list hq;let#[u,hu,ru]:=rv.get hx;let W:=WalksT.enumerate (prog:=X.prog) (w:=X.w) (A:=X.A) (I.ok.hd hc) e it a h1 h2 h3 its.toArray
  have hi:i<its.toArray.size:=by
   simp only[dh];exact (bX.mp hu).1
  let#[old,he]:=st.1;let hit:=st.2;apply wpAny_pyNext_enum_item he hit p.isList (x:=u) (by rw[List.getElem?_toArray];exact hu) h1 λh' ho Ac xM hsz hk=>?_;have Ai:e<s.heap.objs.size:=bx he;have Ah:it<s.heap.objs.size:=by let#[_,x,_]:=hit;exact bx x
  have mid:(∃x,IsEnumOut h' e it ((i:Int)+1) x s.heap.objs.size)/\h'.IsListIter it a (i+1)/\h'.IsList a its.toArray/\s.heap.objs.size≠e/\s.heap.objs.size≠it:=#[#[_,ho],Ac,p.isList.at λo x=>hk a o h2 h3 x,iu Ai,iu Ah];have kk:∀b o,b∉[e,it]->s.heap.get? b\o->h'.get? b\o:=λb o hb x=>hk b o (λe'=>hb (by simp[e'])) (λe'=>hb (by simp[e'])) x;have pQ:h'.IsTuple s.heap.objs.size (List.toArray [.int i s.toks,u]):=#[_,xM,U,_,U];obtain⟨T,eT⟩:∃T,T=s.heap.objs.size:=#[_,U];obtain⟨t,et⟩:∃t,t=s.toks:=#[_,U];obtain⟨tk,BA⟩:∃tk,tk=s.toks+1:=#[_,U];rw[<- eT] at pQ mid xM ⊢;have hT:s.heap.objs.size<=T:=Nat.le_of_eq eT.symm;rw[<- et] at pQ xM;rw[<- BA];apply#[_,U,W.go elts k pos i T { s with heap:=h',toks:=tk } _ _ mid λgT ed zD=>?_];have nT:T∉[e,it]:=W.apart i T h' mid
  have o5:gT.IsTuple T (List.toArray [.int i t,u]):=by
   let#[o,q,r]:=pQ;exact#[o,zD T o nT q,r]
  have I1:Inv X pins σ (upd H T (.tup [.int i,x])) { s with heap:=gT,toks:=tk }:=I.gR (t':=tk) (fp:=[e,it]) (its:=[.int i t,u]) (λb o hb q=>zD b o hb (kk b o hb q)) hf hT (zl) (.cons #[t,U] (.cons ru .nil)) #[o5,_,zD T _ nT xM,U];apply#[.ref T,_,I1,U,#[T,x,U,I.aA.fresh hT,λys hy=>by rw[I.g9 hy hq];exact hx,U],#[?_,ed.2.1],λb hb=>?_]
  ·let#[old,q]:=ed.1;exact#[old,by simpa using q]
  rw[ax (λz:b=T=>nT (by rw[<- z];exact hb))];exact (hf b hb).1
 done:=by
  intro X hP hw hK hc i pins s σ H E I hf st hg;subst hP hw hK;let#[xs,hq,hx]:=hg;let#[its,rv,p,hz]:=I.list hq;let W:=WalksT.enumerate (prog:=X.prog) (w:=X.w) (A:=X.A) (I.ok.hd hc) e it a h1 h2 h3 its.toArray
  have hn:its.toArray.size=i:=by
   have:=rv.length;simp only[dh];omega
  apply W.done s _ _ (by rw[hn];exact#[st.1,st.2,p.isList]) λh' tk kk=>#[U,I.fN (t':=tk) (fp:=[e,it]) kk hf]
 self:=λA i s Q E st h=>by
  let#[old,q]:=st.1;exact wpAny_pyIter_enum q h
inductive sP (K:ai) (R:It->Hp->Prop) (vs:ag) (H1:Hp):Prop
 |mk:∀a,vs=[.ref a]->(∃xs,dU K H1 a xs)->R (FU K a) H1->sP K R vs H1
def D0(K:ai)(ta:TA):TI:=λσ H R=>ta σ H λvs H1=>sP K R vs H1
theorem RG{X:Cx}{elts:List Expr}{kk:Nat}{p2:Pos}{a:Expr}{ta:TA}{p pos:Pos}(hg:Gl X "enumerate")(hm:X.mg "enumerate"=none)(ha:PA X [a] ta)(hs:starEach [a] X.env=[(false,eval a X.env)]:=by rfl):PI X (.Tuple elts kk p2) (.Call (.Name "enumerate" p) [a] [] pos) (D0 X.K ta):=by
 intro pins s σ H R I h;apply Call_ (uV I hg hm boot_enumerate (AN (aO (ha pos pins s σ H _ I h) λus s1 ⟨vs,H1,I1,r1,q1⟩=>?_) hs U));let#[l,e,#[xs,hq],q]:=q1;subst e;cases r1 with
 |cons r rr=>
  cases rr;cases r;let#[its,rv,pl,hz]:=I1.list hq;have ll:l<s1.heap.objs.size:=by let#[_,e,_]:=pl.isList;exact bx e
  apply call_enumerate_list pl.isList λh' he hi hn kp=>?_;apply wpAny_pyIter_enum he ?_;apply#[s1.heap.objs.size+1,[s1.heap.objs.size+1,s1.heap.objs.size],_,_,H1,U,I1.kept (t':=s1.toks) kp,h4_ l _ _ (Nat.succ_ne_self _) (dG (Nat.lt_succ_of_lt ll)) (dG ll),#[#[_,he],hi],λb hb=>?_,q]
  have e:s1.heap.objs.size<=b:=by
   rcases bZ.mp hb with rfl|hb
   ·exact Nat.le_succ _
   obtain rfl:b=s1.heap.objs.size:=⇑hb
   exact bh _
  exact I1.iH e (I1.aA.fresh e)
theorem RZ{K:ai}{a:Addr}{xs:ag}{g:TG}{tb:TS}{D:Ends}{σ:St}{H:Hp}(Pv:bR)(h0:Pv 0 σ H)(hl:∀i σ H,i<=xs.length->Pv i σ H->dU K H a xs)
  (hs:∀i x σ H,xs[i]? = some x->Pv i σ H->∀t,H t=none->g (.ref t) σ (upd H t (.tup [.int i,x])) λfw H2=>tb { D with nx:=Pv (i+1),ct:=Pv (i+1),bk:=D.nx } fw H2) (hd:∀σ H,Pv xs.length σ H->D.nx σ H) :
  ∃W:Nat->Nat->St->Hp->Prop,(∃m,W 0 m σ H)/\∀i m σ H,W i m σ H->
   ((FU K a).stop i H/\D.nx σ H)∨((FU K a).go i H/\∃N:St->Hp->Prop,(∀aZ H',N aZ H'->∃m',m'<m/\W (i+1) m' aZ H')/\∀x H',(FU K a).uA i H x H'->g x σ H' λfw H2=>tb { D with nx:=N,ct:=N,bk:=D.nx } fw H2):=by
 apply#[λi m σ H=>m=xs.length - i/\i<=xs.length/\Pv i σ H,#[xs.length,by simp,gP _,h0],?_];rintro i m σ H ⟨rfl,hi,p⟩;let q:=hl i σ H hi p;by_cases dI:i<xs.length
 ·apply .inr #[#[xs,xs[i],q,by simp[dI]],Pv (i+1),λaZ H' p'=>#[xs.length - (i+1),by omega,U,dI,p'],λx H' y=>?_];let#[t,x,rfl,ht,y,rfl]:=y;exact hs i x σ H (y xs q) p t ht
 have e:i=xs.length:=by omega
 subst e;exact .inl #[#[xs,q,U],hd σ H p]
end L2
namespace L2
open PySem PySem.Spec PyProof.Rows
section
variable{M:Model}{A:Ag}{E:Aa->Ab->Prop}{s:Ab}{base:Heap}{env:Env}{outer:List Env}{L e:Addr}{cls cx fl:Aa}{Q:Unit->Ab->Prop}
end
end L2
namespace L2
open PySem PySem.Spec PyProof.Rows
section
variable{P:Ad}{w:Af}{H H':Hp}{B h0 h h1:Heap}{l:List Env}
end
section
variable{X:Cx}{pins:List (Addr × Obj)}{σ:St}{H H':Hp}{s s1:Ab}{B h:Heap}{a:Addr}{cls a0:Aa}{E:XK}
end
section
variable{P:Ad}{w:Af}{K:ai}{mg:Str->Option Aa}{base:Heap}{N:ae}{qual:Str}{scope:Scope}{f:Addr}{cd:Aa}{A:Ag}{outer:List Env}{s:Ab}{H:Hp}{E:XK}
end
section
variable{X:Cx}{x:Str}{C:Addr}{bm:aj}{B newId zF:String}{np bW pos:Pos}{e₀:Expr}{t:TA}{E:XK}
end
section v
end
end L2
namespace L2
open PySem PySem.Spec PySem.Calls PyProof.Rows PySem.W Builtin Builtin.ObjectAttr Builtin.Getset_descriptor
structure OY (K:ai) (C:Addr):Prop where
 cl:(clsIn K C).isSome=true
 ga:findIn K (.ref C) "__getattribute__"\some (.builtin "BaseException.__getattribute__")
 ha:findIn K (.ref C) "__getattr__"\none
 ca:findIn K (.ref C) "__class__"\some (.builtin "object.__class__")
 gt:specialIn K (.builtin "object.__class__") "__get__"\some (.builtin "getset_descriptor.__get__")
 tk:takesIn K (.builtin "object.__class__")\true
 mo:mroIn K C (.type "object")\true
 mb:mroIn K C (.type "BaseException")\true
section
variable{prog:Ad}{w:Af}{A:Ag}{E:Aa->Ab->Prop}{s:Ab}{K:ai}{x C:Addr}
end
section
variable{X:Cx}
inductive xk (K:ai) (xs:ag) (H:Hp) (Q:VK):Prop
 |mk:∀x C t b,xs=[x,.ref C]->fI K H x t->PySem.W.kitOne K t (.ref C)\b->Q (.bl b) H->xk K xs H Q
theorem gJ_:gr X (.builtin "isinstance") (xk X.K):=by
 intro pins s σ H xs us Q I r h;let#[x,C,t,b,rfl,ty,e,q]:=h;let#[u,w',rfl,ru,ig]:=vals2 r;cases (show w'=Value.ref C from ig);exact Tt I ru ty e λtk=>#[.bl b,H,I.tok tk,U,q]
end
end L2
namespace L2
open PySem PySem.Spec PyProof.Rows
section
variable{X:Cx}{pins:List (Addr × Obj)}{σ:St}{H:Hp}{s:Ab}{a:Addr}
end
section
variable{X:Cx}{st:Stmt}{e c:Expr}{te:XS->TE}{t u:XS->TS}{pos:Pos}{a b:List Stmt}{tc:TT}
end
section
variable{X:Cx}{k:Nat}{f C:Addr}{fd:Ae}{ps:ae}{sp:Sp}{gK:ag}{ds:aj}{ES:XS}{x m:Str}{p pos apos:Pos}{e o:Expr}{es:List Expr}{ta:TE}{t:TA}
end
section
variable{X:Cx}{i:Nat}{x n:Str}{D C:Addr}{np zP pos:Pos}{A0:Stmt}{qI body:List Stmt}{tb:XS->TS}{ts:TS}
end
end L2
namespace L2
open PySem
end L2
namespace Ev
open PySem L2
abbrev lX:Stmt:=top 58
abbrev Nw:Stmt:=top 59
abbrev NU:Stmt:=top 60
abbrev E7:Stmt:=top 61
abbrev lW:Stmt:=top 64
abbrev J2:Stmt:=top 20
abbrev J1:Stmt:=top 21
abbrev rV:Stmt:=top 22
abbrev rO:Stmt:=top 23
abbrev rN:Stmt:=top 24
abbrev M0:Stmt:=top 13
abbrev Np:Stmt:=top 26
abbrev MT:Stmt:=top 27
abbrev rM:Stmt:=top 28
abbrev Nb:Stmt:=top 29
abbrev rq:Stmt:=top 30
abbrev Nz:Stmt:=top 31
abbrev rX:Stmt:=top 33
abbrev lV:Stmt:=top 34
abbrev rD:Stmt:=top 35
abbrev M5:Stmt:=top 36
abbrev rJ:Stmt:=top 37
abbrev Hr:Stmt:=top 38
abbrev rK:Stmt:=top 39
abbrev Nt:Stmt:=top 40
abbrev lQ:Stmt:=top 65
abbrev M3:Stmt:=top 66
abbrev lP:Stmt:=top 67
abbrev On:Stmt:=top 68
abbrev M8:Stmt:=top 69
abbrev M_:Stmt:=top 70
abbrev lR:Stmt:=top 71
abbrev Nr:Stmt:=top 72
abbrev Na:Stmt:=top 73
abbrev zf:Stmt:=top 43
abbrev Om:Stmt:=top 44
abbrev zc:Stmt:=top 45
abbrev lO:Stmt:=top 46
abbrev lI:Stmt:=top 47
abbrev MQ:Stmt:=top 74
abbrev Ng:Stmt:=top 75
abbrev fh:Stmt:=top 76
def aV(l:Addr)(H H':Hp):Prop:=∀b o,H b\o->b≠l->H' b\o
theorem aV.refl(l:Addr)(H:Hp):aV l H H:=λ_ _ e _=>e
theorem aV.trans{l:Addr}{H H1 H2:Hp}(h:aV l H H1)(h2:aV l H1 H2):aV l H H2:=λb o e n=>h2 b o (h b o e n) n
theorem aV.of{l:Addr}{H H1:Hp}(h:aa H H1):aV l H H1:=λb o e _=>h b o e
theorem aV.upd{l:Addr}{H:Hp}{o:HO}:aV l H (upd H l o):=λb u e n=>by rw[ax n];exact e
def cK(H:Hp)(l:Addr):Prop:=(∃n:Int,H l\.lst [.int n])∨∃n m c:Int,H l\.lst [.int n,.int m,.int c]
theorem cK.some{H:Hp}{l:Addr}(h:cK H l):∃xs,H l\.lst xs:=by
 rcases h with⟨n,e⟩|⟨n,m,c,e⟩
 ·exact#[_,e]
 exact#[_,e]
theorem aV.free{l b:Addr}{H H':Hp}(h:aV l H H')(s:cK H' l)(e:H' b=none):H b=none:=by
 cases z:H b with
 |none=>rfl
 |some o=>
  by_cases q:b=l
  ·subst q;let#[xs,e2]:=s.some;rw[e] at e2;cases e2
  rw[h b o z q] at e;cases e
theorem dS{α:Type}{xs:List α}{i:Int}(h0:0<=i)(h1:i<xs.length):ip xs i=xs[i.toNat]?:=by
 unfold ip vP;rw[aI h0,aI h1];rfl
section v
def wB:Sp:=λvs H Q _=>∃(l:Addr) (b:Int),vs=[.ref l,.int b]/\0<b/\b<1073741824/\cK H l/\∀r H',0<=r->r<b->aV l H H'->cK H' l->Q (.int r) H'
theorem small(x:Int):-(2 ^ 64)<x % 2147483647/\x % 2147483647<2 ^ 64:=by
 let h1:=Int.emod_nonneg x (b:=2147483647) (by decide);let h2:=Int.emod_lt_of_pos x (b:=2147483647) (by decide);exact#[by omega,by omega]
end
end Ev
namespace Ev
open PySem L2
theorem _d:("abcdefghijklmnopqrstuvwxyz":Str).cps.toList=[97,98,99,100,101,102,103,104,105,106,107,108,109,110,111,112,113,114,115,116,117,118,119,120,121,122]:=by decide +kernel
theorem XW{r:Int}(h0:0<=r)(h1:r<26):∃c,ip ("abcdefghijklmnopqrstuvwxyz":Str).cps.toList r\c/\oW c=true:=by
 rw[_d,dS h0 ⇑h1];have hn:r.toNat<26:=by omega
 apply#[_,aY ⇑hn,?_];have all:∀c∈[97,98,99,100,101,102,103,104,105,106,107,108,109,110,111,112,113,114,115,116,117,118,119,120,121,122],oW c=true:=by decide +kernel
 exact all _ (kK _)
end Ev
namespace Ev
open PySem L2
def iM{α:Type}(l:List α)(k:Nat)(x:α):List α:=l.take k++x::l.drop k
theorem Bb{α:Type}(l:List α)(k:Nat)(x:α):(iM l k x).Perm (x::l):=by
 unfold iM;apply List.perm_middle.trans ?_;rw[List.take_append_drop]
theorem SB{α β:Type}(g:α->β)(l:List α)(k:Nat)(x:α):(iM l k x).map g=iM (l.map g) k (g x):=by
 unfold iM;rw[er,eJ,List.map_take,List.map_drop]
theorem Jc{α β:Type}{F:α->β->Prop}:∀{ys:List α} {ks:List β} (k:Nat) {y:α} {q:β},Paired F ys ks->F y q->Paired F (iM ys k y) (iM ks k q)
 |[],_,k,_,_,.nil,h=>by
  unfold iM;simp only[List.take_nil,List.drop_nil,List.nil_append];exact .cons h .nil
 |y::ys,_,0,_,_,.cons a t,h=>.cons h (.cons a t)
 |y::ys,_,k+1,_,_,.cons a t,h=>.cons a (Jc k t h)
theorem Ny{α:Type}(l:List α)(k:Nat)(x:α):(iM l k x).length=l.length+1:=(Bb l k x).length_eq
theorem sU{α:Type}{a b:α}{r:Int}(h0:0<=r)(h1:r<2):ip [a,b] r\a∨ip [a,b] r\b:=by
 have:r=0∨r=1:=by omega
 rcases this with rfl|rfl
 ·exact .inl U
 exact .inr U
theorem Lo{α:Type}{p:α->Prop}{a b c d:α}{r:Int}(h0:0<=r)(h1:r<4)(ha:p a)(hb:p b)(hc:p c)(hd:p d):∃x,ip [a,b,c,d] r\x/\p x:=by
 have:r=0∨r=1∨r=2∨r=3:=by omega
 rcases this with rfl|rfl|rfl|rfl
 ·exact#[_,U,ha]
 ·exact#[_,U,hb]
 ·exact#[_,U,hc]
 exact#[_,U,hd]
section
theorem jg{K:ai}{H H':Hp}{l:Addr}{ys:ag}{ks:List aq}(t:bY K H ys ks)(b:aV l H H'){xs:ag}(hl:H l\.lst xs):bY K H' ys ks:=Paired.aX t λy k ⟨a,z,q⟩=>#[a,z,b _ _ q (bS q hl nofun)]
theorem S4{K:ai}{H:Hp}{D:Addr}{ns:ae}(h:H D\.lst (ns.map V.str)):rL K rS H (.ref D) ns:=#[D,_,U,.of h,MK ns]
end
end Ev
namespace Ev
open PySem L2
theorem fp_{K:ai}{a D:Addr}{ys:ag}{hs:Xa}{H:Hp}{Q:VK}{kh:St}(sQ:kh=[none,none])(ha:H a\.lst ys)(tu:bY K H ys (hs.map kH))(h8:hs.length<=1000)(hD:H D=none)
  (q:∀H',aa H H'->H' D\.lst ((hs.map (·.1)).map V.str)->Q (.ref D) H'):AJ (yo K a) (fR K 2 (pY (jQ 0) (pY (jQ 1) tw))) qw (oK 0) kh D H Q:=by
 let sz:=cq;let le:=bH tu;rw[av] at le;apply kL (own:=2) (fv:=[]) (xs:=ys) sQ Av (λi out H'=>aa H H'/\H' D\.lst out/\out=((hs.take i).map (·.1)).map V.str) #[aa.new hD,az,U] (λi out H' _ ⟨sm,_,_⟩=>.of (sm _ _ ha)) (λout H4 ⟨sm,o8,eo⟩=>?_) (λj y out H' hy ⟨sm,dH,eo⟩=>?_)
 ·rw[le,eS] at eo;subst eo;exact q _ sm o8
 let#[h,hh,p,rfl,hp]:=u5 tu hy;apply#[_,#[p,_,_,U,.of (sm _ _ (zR hp)),U],U,λNx hN=>fA ?_];apply#[_,U,out,dH,?_,hN _ _ #[fL sm hD,az,?_]]
 ·rw[eo,av,av,dM];omega
 rw[yj _ hh,er,eo];rfl
def kO(t:Str × Str):aq:=kT (aK t.1 t.2)
structure TI (ns:ae) (k j:Nat) (ts:Xb):Prop where
 at':∀t∈ts,∃(a b:Nat) (x y:Str),b<a/\(a<k∨(a=k/\b<j))/\ns[a]? = some x/\ns[b]? = some y/\(t=(x,y)∨t=(y,x))
 nd:(ts.map kO).Nodup
 len:ts.length<=7 * k+j
theorem TI.skip{ns:ae}{k j:Nat}{ts:Xb}(h:TI ns k j ts):TI ns k (j+1) ts:=
 #[λt ht=>let #[a,b,x,y,h1,h2,h3,h4,h5]:=h.at' t ht;#[a,b,x,y,h1,by omega,h3,h4,h5],h.nd,by have:=h.len;omega]
theorem TI.next{ns:ae}{k:Nat}{ts:Xb}(h:TI ns k k ts)(h7:k<=7):TI ns (k+1) 0 ts:=
 #[λt ht=>let #[a,b,x,y,h1,h2,h3,h4,h5]:=h.at' t ht;#[a,b,x,y,h1,by omega,h3,h4,h5],h.nd,by have:=h.len;omega]
theorem Hh{a b:Str × Str}(h:kT a=kT b):a=b:=by
 unfold kT at h;let#[h1,h2]:=List.cons.inj h;let#[h2,_]:=List.cons.inj h2;exact Prod.ext (iJ h1) (iJ h2)
theorem FB{ns:ae}(nd:ns.Nodup){i j:Nat}{x:Str}(h:ns[i]? = some x)(h2:ns[j]? = some x):i=j:=by
 let#[hi,e1]:=bX.mp h;let#[hj,e2]:=bX.mp h2;exact (List.getElem_inj nd).mp (e1.trans e2.symm)
theorem Qw{a b c d:Str}(h:kO (a,b)=kO (c,d)):(a=c/\b=d)∨(a=d/\b=c):=by
 let h:=Hh h;dsimp only at h;rcases B2 a b with e|e<;>rcases B2 c d with e2|e2<;>rw[e,e2] at h<;>let h1:=(Prod.mk.inj h).1<;>let h2:=(Prod.mk.inj h).2
 ·exact .inl #[h1,h2]
 ·exact .inr #[h1,h2]
 ·exact .inr #[h2,h1]
 exact .inl #[h2,h1]
theorem TI.add{ns:ae}{k j:Nat}{ts:Xb}(h:TI ns k j ts)(nd:ns.Nodup){x y:Str}{t:Str × Str}(hj:j<k)(hx:ns[k]? = some x)(hy:ns[j]? = some y)(ht:t=(x,y)∨t=(y,x))(q:Nat):TI ns k (j+1) (iM ts q t):=by
 apply#[λu hu=>?_,?_,by have:=h.len;rw[Ny];omega]
 ·rcases bZ.mp ((Bb _ _ _).mem_iff.mp hu) with rfl|hu
  ·exact#[k,j,x,y,hj,.inr #[U,by omega],hx,hy,ht]
  exact h.skip.at' u hu
 apply ((Bb ts q t).map kO).nodup_iff.mpr ?_;rw[eJ];apply iZ.mpr #[λm=>?_,h.nd];let#[u,hu,e]:=bG.mp m;let#[a,b,c,d,h1,h2,h3,h4,h5]:=h.at' u hu
 have key:(c=x/\d=y)∨(c=y/\d=x):=by
  rcases h5 with rfl|rfl<;>rcases ht with rfl|rfl<;>rcases Qw e with⟨q1,q2⟩|⟨q1,q2⟩<;>simp_all
 rcases key with⟨rfl,rfl⟩|⟨rfl,rfl⟩
 ·have:=FB nd h3 hx;have:=FB nd h4 hy;omega
 have:=FB nd h3 hy;have:=FB nd h4 hx;omega
theorem TI.good{ns:ae}{k j:Nat}{ts:Xb}(h:TI ns k j ts)(nd:ns.Nodup)(ok:∀n∈ns,iL n=true):∀t∈ts,wm t/\t.1∈ns/\t.2∈ns:=λt ht=>by
 let#[a,b,x,y,h1,h2,h3,h4,h5]:=h.at' t ht;let mx:=cZ h3;let my:=cZ h4
 have ne:x≠y:=λe=>by
  subst e;have:=FB nd h3 h4;omega
 rcases h5 with rfl|rfl
 ·exact#[#[ok _ mx,ok _ my,ne],mx,my]
 exact#[#[ok _ my,ok _ mx,ne.symm],my,mx]
theorem Zl(ns:ae)(k:Nat):dQ (ns.map V.str) none (some (k:Int))=(ns.take k).map V.str:=by
 unfold dQ;rw[HT.eP,HT.dZ,List.drop_zero,Nat.sub_zero,List.map_take,av];by_cases h:k<=ns.length
 ·rw[Nat.min_eq_left h]
 rw[Nat.min_eq_right Z2,u6 (by rw[av];omega),u6 (by rw[av];omega)]
theorem cK.same{H H':Hp}{l:Addr}(h:cK H l)(s:aa H H'):cK H' l:=by
 rcases h with⟨n,e⟩|⟨n,m,c,e⟩
 ·exact .inl #[n,s _ _ e]
 exact .inr #[n,m,c,s _ _ e]
end Ev
namespace Ev
open PySem L2
theorem g0_{a b:Str}(h:zy a b=true):zy b a=false:=Tu (a:=Sum.inr a) (b:=Sum.inr b) h
theorem Zh{a b:Str}(h:zy a b=false)(h2:zy b a=false):a=b:=iJ (Ry (a:=Sum.inr a) (b:=Sum.inr b) h h2)
theorem N1(a b:Str):aK a b=aK b a:=by
 unfold aK;by_cases h:zy a b=true
 ·rw[aI h,aC (by rw[g0_ h];decide)]
 by_cases h2:zy b a=true
 ·rw[aC h,aI h2]
 have:=Zh ⇑h ⇑h2;subst this;rw[aC h]
theorem Ir{ts:Xb}{x:Str × Str}:x∈bT ts ↔ ∃t∈ts,aK t.1 t.2=x:=by
 have e:kT x∈(bT ts).map kT ↔ x∈bT ts:=#[λh=>by
  let#[y,hy,e]:=bG.mp h;rw[<- Hh e];exact hy,λh=>bG.mpr #[x,h,U]]
 rw[<- e,NC,(uc _).mem_iff,bG];exact#[λ⟨t,ht,q⟩=>#[t,ht,Hh q],λ⟨t,ht,q⟩=>#[t,ht,by rw[q]]]
theorem Zi(a b:Str):kO (a,b)=kO (b,a):=by
 show kT (aK a b)=kT (aK b a);rw[N1]
end Ev
namespace Ev
open PySem L2
section v
theorem Ia:bJ [gM,"_law_base",wb,"_law_number"] uR (a9 lW):=bV
theorem Zz{f:Addr}{fd:Ae}(F:bo K tT tT lW f fd)(B:Bi mg):!ao a_ 1 f fd uR wB:=by
 exists F.bU Ia;let#[l,b,rfl,h0,h1,st,k]:=h
 apply#[_,aw (cg (eZ BN (cy iq (by rfl) B.len gE %[0|0]) ay)
   (aH (kJ (pf oy PySem.F.slot_list_extend PySem.F.type_list_extend _k (pv 0) %[fu %[bP AX (bw gd (pv 0) ay) ay,ay|0]|0]))) cj)
  (aw (cg (eZ BM (bw gd (pv 0) ay) ay)
   (aw (bu 2 Ia.nd (bP AX (bw gd (pv 0) ay) (pv 1)))
   (aw (HS (bP Fo (bw gd (pv 0) ay) (pv 1)) (QH (pv 0) ay SV))
   (aH (bp (pv 2))))) cj)
  (aw (HS (bP gz (bw gd (pv 0) ay) ay) (QH (pv 0) ay SV))
  (aw (bu 3 Ia.nd (bP AX (bP qc (bP gz (bP gz (bw gd (pv 0) ay) (bP qc ay (bw gd (pv 0) ay))) ay) ay) ay))
  (aw (bu 3 Ia.nd (bP AX (bP qc (pv 3) (bP gz (bP Fo (pv 3) ay) ay)) ay))
  (aH (bp (bP AX (bP AX (bP qc (pv 3) (bP gz (bP Fo (pv 3) ay) ay)) ay) (pv 1)))))))),?_]
 rcases st with⟨n,ku⟩|⟨n,m,c,hl⟩
 case' inl=>
  apply#[_,U,l,_,U,.inl (.of ku),U,_,U,c_ ?_];apply#[_,U,.inl #[U,_,.of ku],_,U,l,_,_,_,U,U,.of ku,U,_,_,U,U,by show (0:Int)<2147483647;decide,zl,λq hq=>?_];apply#[l,q,_,_,U,U,aa.new hq _ _ ku,az,by show 1+2<=sizeLine;decide,?_];have bt:aV l H (upd (upd H q (.lst [.int (n % 2147483647),.int 0])) l (.lst ([.int n]++[.int (n % 2147483647),.int 0]))):=(aV.of (aa.new hq)).trans aV.upd;have hl:(upd (upd H q (.lst [.int (n % 2147483647),.int 0])) l (.lst ([.int n]++[.int (n % 2147483647),.int 0]))) l\.lst [.int n,.int (n % 2147483647),.int 0]:=az;generalize (upd (upd H q (.lst [.int (n % 2147483647),.int 0])) l (.lst ([.int n]++[.int (n % 2147483647),.int 0])))=H1 at bt hl ⊢
 case' inr=>
  apply#[_,U,l,_,U,.inl (.of hl),U,_,U,aM ?_];let bt:=aV.refl l H
 all_goals
  apply#[_,U,l,_,_,_,U,U,.of hl,U,_,_,U,U,_,U,?_];apply bQ (λc=>?_) (λc=>?_)
  ·apply#[_,U,l,_,_,_,U,U,.of hl,U,_,U,_,_,U,U,h0,?_];apply#[_,U,l,_,_,_,U,U,.of hl,U,_,U,_,_,U,U,#[h0,h1],_,U,l,_,_,0,U,U,hl,U,?_];exact#[_,U,k _ _ (Int.emod_nonneg _ Z2) (Int.emod_lt_of_pos _ h0) (bt.trans aV.upd) (.inr #[_,_,_,az])]
  apply#[_,U,l,_,_,_,U,U,.of hl,U,_,_,U,U,_,U,l,_,_,2,U,U,hl,U,?_];apply#[_,U,l,_,_,_,U,U,.of az,U,_,U,l,_,_,_,U,U,.of az,U,_,_,U,U,.inl #[by decide,by decide],_,_,U,U,_,_,U,U,_,_,U,U,.inr #[by decide,by decide],_,_,U,U,by show (0:Int)<2147483647;decide,?_];apply#[_,U,_,U,_,_,U,U,#[by decide,by decide],_,_,U,U,_,_,U,U,.inl (small _),_,_,U,U,by show (0:Int)<2147483647;decide,?_];apply#[_,U,_,U,_,_,U,U,#[by decide,by decide],_,_,U,U,_,_,U,U,.inl (small _),_,_,U,U,by show (0:Int)<2147483399;decide,_,U,_,_,U,U,h0,?_];exact k _ _ (Int.emod_nonneg _ Z2) (Int.emod_lt_of_pos _ h0) (bt.trans aV.upd) (.inr #[_,_,_,az])
theorem IR:bJ [gM,wb,"_law_k"] [gM] (a9 lQ):=bV
def Nm:Sp:=λvs H Q _=>∃(l:Addr),vs=[.ref l]/\cK H l/\∀x H',iL x=true->aV l H H'->cK H' l->Q (.str x) H'
theorem ZH{f:Addr}{fd:Ae}(F:bo K "_law_name" "_law_name" lQ f fd)(B:Bi mg)(cD:!br 1 tT uR wB):!ao a_ 2 f fd [gM] Nm:=by
 exists F.bU IR;let#[l,rfl,st,k]:=h;let sz:=cq
 apply#[_,aw (bu 1 IR.nd tY)
  (aw (d4 dN U (uZ (by rfl) B.range %[bP gz ay (bc cD hr %[0,ay|0])|0]) (cu 2 IR.nd)
   (aH (bu 1 IR.nd (bP fP_ (pv 1) (bw Yf tY (bc cD hr %[0,ay|0]))))))
  (aH (bp (pv 1)))),?_]
 apply#[_,U,l,8,U,by decide,by decide,st,λr H1 r0 r8 b1 pK=>?_];apply#[_,_,U,U,_,U,by show (-(2 ^ 62):Int)<=1+r;omega,by show 1+r<(2 ^ 62:Int);omega,?_];apply wF (lo:=0) (n:=(1+r).toNat) (λi σ H2=>∃(x:Str) (v:aE),σ=[some (.ref l),some (.str x),v]/\x.length=i/\x.cps.toList.all oW=true/\aV l H H2/\cK H2 l) #["",none,U,U,U,b1,pK] ?_ ?_
 ·rintro i σ H2 hi ⟨x,v,rfl,hx,ho,b2,eV⟩;apply#[_,U,_,U,l,26,U,by decide,by decide,eV,λq H3 q0 Wj b3 ic=>?_];let#[c,hc,oc]:=XW q0 Wj;apply#[_,_,_,U,U,by decide +kernel,hc,_,_,U,U,?_,_,_,U,?_,?_,b2.trans b3,ic]
  ·have:(⟨(List.toArray [c])⟩:Str).length=1:=rfl;omega
  ·have e:(x++(⟨(List.toArray [c])⟩:Str)).cps.toList=x.cps.toList++[c]:=PySem.W.KT.app_list _ _;have:(x++(⟨(List.toArray [c])⟩:Str)).length=(x++(⟨(List.toArray [c])⟩:Str)).cps.toList.length:=by rw[ub];rfl
   rw[this,e,d5,ub];show x.length+1=i+1;omega
  have e:(x++(⟨(List.toArray [c])⟩:Str)).cps.toList=x.cps.toList++[c]:=PySem.W.KT.app_list _ _;rw[e,List.all_append,ho];simp[oc]
 rintro σ H2 ⟨x,v,rfl,hx,ho,b2,eV⟩;apply#[_,U,k x H2 ?_ b2 eV];unfold iL;rw[ho,cw (show 1<=x.length by omega),cw (show x.length<=8 by omega)];rfl
theorem Fm:bJ [gM,"_law_most",wb,"_law_k","_law_name_here","_law_strength"] [gM,"_law_most"] (a9 M3):=bV
def So(K:ai):Sp:=λvs H Q _=>∃(l:Addr) (m:Nat),vs=[.ref l,.int m]/\1<=m/\m<=8/\cK H l/\∀(a:Addr) (ys:ag) (hs:Xa) (H':Hp),aV l H H'->cK H' l->H a=none->H' a\.lst ys->bY K H' ys (hs.map kH)->(∀h∈hs,ow h)->(hs.map (·.1)).Nodup->1<=hs.length->hs.length<=m->Q (.ref a) H'
theorem gi_{f:Addr}{fd:Ae}(F:bo K "_law_hands" "_law_hands" M3 f fd)(B:Bi mg)(cD:!br 1 tT uR wB)(cN:!br 2 "_law_name" [gM] Nm):!ao a_ 3 f fd [gM,"_law_most"] (So K):=by
 exists F.bU Fm;let#[l,m,rfl,m1,m8,st,k]:=h;let sz:=cq
 apply#[_,aw (bu 2 Fm.nd (fu bK))
  (aw (d4 dN U (uZ (by rfl) B.range %[bP gz ay (bc cD hr %[0,1|0])|0]) (cu 3 Fm.nd)
   (aw (bu 4 Fm.nd (bc cN hr %[0|0]))
   (aH (cg (eZ (S3 i_ (uP hr 0)) (pv 4) (js ["_law_one","_law_strength"] 2 [] (dY (pv 2)) (λfp s H=>Fe (n:=2) (dO (fW (i:=0) (show (["_law_one","_law_strength"]:ae).Nodup by decide +kernel) U (Or.inl U)) (dO (fW (i:=1) (show (["_law_one","_law_strength"]:ae).Nodup by decide +kernel) U (Or.inl U)) jh)))
     (λfp s H=>kI) (λfp s H=>pv 0)) (by with_unfolding_all rfl))
    (aw (bu 5 Fm.nd (bw gd (fu %[ay,bP gz ay (bc cD hr %[0,ay|0]),bP gz ay (bc cD hr %[0,ay|0]),ay|0]) (bc cD hr %[0,ay|0])))
    (aH (kJ (pf oy PySem.F.slot_list_insert PySem.F.type_list_insert Ja (pv 2) %[bc cD hr %[0,bP gz (cy iq (by rfl) B.len gE %[2|0]) ay|0],gh %[4,5|0]|0]))))
    cj))))
  (aH (bp (pv 2)))),?_]
 apply#[zl,λa ha=>?_];let#[Jr,ku]:=st.some;have gq:l≠a:=bz ku ha
 have VG:cK (upd H a (.lst [])) l:=by
  unfold cK;rw[ax gq];exact st
 apply#[_,U,_,U,l,m,U,by omega,by omega,VG,λr H1 r0 r8 b1 pK=>?_];apply#[_,_,U,U,_,U,by show (-(2 ^ 62):Int)<=1+r;omega,by show 1+r<(2 ^ 62:Int);omega,?_]
 apply wF (lo:=0) (n:=(1+r).toNat) (λi σ H2=>∃(v3 v4 v5:aE) (ys:ag) (hs:Xa),σ=[some (.ref l),some (.int m),some (.ref a),v3,v4,v5]/\aV l H H2/\cK H2 l/\H2 a\.lst ys/\bY K H2 ys (hs.map kH)/\(∀h∈hs,ow h)/\(hs.map (·.1)).Nodup/\hs.length<=i/\(1<=i->1<=hs.length))
  #[none,none,none,[],[],U,(aV.of (aa.new ha)).trans b1,pK,b1 _ _ az gq.symm,.nil,by simp,.nil,bh _,by omega] ?_ ?_
 ·rintro i σ H2 hi ⟨v3,v4,v5,ys,hs,rfl,b2,eV,oi,tu,good,nd,le,ge⟩;have i8:i<8:=by omega
  apply#[_,U,l,U,eV,λx H3 nx b3 ic=>?_];let jK:=b3 _ _ oi gq.symm;let#[O8,jo]:=eV.some;let Pe:=jg tu b3 jo;apply#[_,U,_,U,a,U,#[_,.of jK],λD hD=>?_];let P_:=bH tu;rw[av] at P_;apply kL (own:=2) (fv:=[]) (xs:=ys) U Av (λi out H'=>aa H3 H'/\H' D\.lst out/\out=((hs.take i).map (·.1)).map V.str) #[aa.new hD,az,U] (λi out H' _ ⟨sm,_,_⟩=>.of (sm _ _ jK)) (λout H4 ⟨sm,o8,eo⟩=>?_) (λj y out H' hy ⟨sm,dH,eo⟩=>?_)
  ·rw[P_,eS] at eo;subst eo;let jJ:=sm _ _ jK;have b4:aV l H H4:=(b2.trans b3).trans (aV.of sm)
   have gS:cK H4 l:=by
    rcases ic with⟨n,e⟩|⟨n,m,c,e⟩
    ·exact .inl #[n,sm _ _ e]
    exact .inr #[n,m,c,sm _ _ e]
   let yx:=Pe.same sm;apply#[x,_,U,S4 o8,_,U,?_];apply bQ (λc=>?_) (λc=>?_)
   ·have Kp:x∉hs.map (·.1):=⇑c
    apply#[_,U,l,9,U,by decide,by decide,gS,λr1 H5 q0 q1 b5 gi=>#[_,_,U,U,?_]];apply#[_,U,l,1000,U,by decide,by decide,gi,λr2 H6 q2 q3 b6 iy=>#[_,_,U,U,?_]];apply#[zl,λp hp=>?_];let#[O7,zY]:=iy.some;have lp:l≠p:=bz zY hp
    have i0:cK (upd H6 p (.lst [.int 1,.int (1+r1),.int (1+r2),.int 1000])) l:=by
     unfold cK;rw[ax lp];exact iy
    apply#[_,U,l,4,U,by decide,by decide,i0,λr3 H8 q4 q5 b8 yK=>?_];let _H:=b8 _ _ (show upd H6 p (.lst [.int 1,.int (1+r1),.int (1+r2),.int 1000]) p=_ from az) lp.symm;let#[y,hy,n,en,n1,n2]:=Lo (p:=λy:V=>∃n:Int,y=.int n/\1<=n/\n<=1000) (a:=V.int 1) (b:=.int (1+r1)) (c:=.int (1+r2)) (d:=.int 1000) q4 q5 #[1,U,by decide,by decide] #[_,U,by omega,by omega] #[_,U,by omega,by omega] #[1000,U,by decide,by decide];subst en;apply#[p,_,_,_,U,U,.of _H,hy,?_];have FM:aV l H4 H8:=((b5.trans b6).trans (aV.of (aa.new hp))).trans b8;let#[UV,Ep]:=gS.some;let LO:=FM _ _ jJ gq.symm;let Vp:=jg yx FM Ep;apply#[_,U,.inl #[U,_,.of LO],_,U,_,U,a,_,U,.inl (.of LO),_,_,U,U,l,_,U,by show (0:Int)<(ys.length:Int)+1;omega,by show (ys.length:Int)+1<1073741824;omega,yK,λr4 H9 q6 q7 b9 vt=>?_];have q7:r4<(ys.length:Int)+1:=q7;let#[xs8,_Q]:=yK.some;let LN:=b9 _ _ LO gq.symm;let Vo:=jg Vp b9 _Q;apply#[_,U,_,U,zl,λt ht=>?_];let jw:=aa.new (o:=.tup [.str x,.int n]) ht;apply#[a,r4.toNat,ys,.ref t,U,by rw[Int.toNat_of_nonneg q6],jw _ _ LN,by omega,by omega,?_]
    have hl9:∃xs,upd H9 t (.tup [.str x,.int n]) l\.lst xs:=by
     let#[xs,e]:=vt.some;exact#[xs,jw _ _ e]
    have tt:upd H9 t (.tup [.str x,.int n]) t\.tup ((kH (x,n)).map kV):=az;have ta:t≠a:=(bz LN ht).symm;apply#[_,_,_,_,iM hs r4.toNat (x,n),U,?_,?_,az,?_,?_,?_,?_,?_]
    ·intro b o e ne;rw[ax (bz e ha)];exact jw _ _ (b9 _ _ (FM _ _ (b4 _ _ e ne) ne) ne)
    ·unfold cK;rw[ax gq,ax (bz (vt.some.choose_spec) ht)];exact vt
    ·rw[SB];exact IB (Jc _ (Vo.same jw) #[t,U,tt]) (jw _ _ LN)
    ·intro h hh;rcases bZ.mp ((Bb _ _ _).mem_iff.mp hh) with rfl|hh
     ·exact#[nx,n1,n2]
     exact good h hh
    ·apply ((Bb hs _ _).map _).nodup_iff.mpr ?_;rw[eJ];exact iZ.mpr #[Kp,nd]
    ·rw[Ny];omega
    intro _;rw[Ny];omega
   apply#[_,_,_,_,hs,U,b4,gS,jJ,yx,good,nd,by omega,λ_=>?_];have UT:x∈hs.map (·.1):=⇑c
   have:=List.length_pos_of_mem UT;rw[av] at this;omega
  let#[h,hh,p,rfl,hp]:=u5 Pe hy;apply#[_,#[p,_,_,U,.of (sm _ _ (zR hp)),U],U,λNx hN=>fA ?_];apply#[_,U,out,dH,?_,hN _ _ #[fL sm hD,az,?_]]
  ·rw[eo,av,av,dM];omega
  rw[yj _ hh,er,eo];rfl
 rintro σ H2 ⟨v3,v4,v5,ys,hs,rfl,b2,eV,oi,tu,good,nd,le,ge⟩;exact#[_,U,k a ys hs H2 b2 eV ha oi tu good nd (ge Z2) Z2]
theorem A5:bJ [gM,mE,"_law_names","_law_few",wb,"_law_k","_law_other","_law_tie"] [gM,mE] (a9 lP):=bV
inductive Nk (K:ai) (vs:ag) (H:Hp) (Q:VK) (E:XK):Prop
 |mk:∀(l lh:Addr) (ys:ag) (hs:Xa),vs=[.ref l,.ref lh]->cK H l->H lh\.lst ys->bY K H ys (hs.map kH)->(∀n∈hs.map (·.1),iL n=true)->(hs.map (·.1)).Nodup->hs.length<=8->lh≠l->(∀(a:Addr) (zs:ag) (ts:Xb) (H':Hp),aV l H H'->cK H' l->H a=none->H' a\.lst zs->bY K H' zs (ts.map kT)->(∀t∈ts,wm t/\t.1∈hs.map (·.1)/\t.2∈hs.map (·.1))->(ts.map kO).Nodup->ts.length<64->Q (.ref a) H')->Nk K vs H Q E
theorem ZT{f:Addr}{fd:Ae}(F:bo K "_law_ties" "_law_ties" lP f fd)(B:Bi mg)(cD:!br 1 tT uR wB):!ao a_ 2 f fd [gM,mE] (Nk K):=by
 exists F.bU A5;let#[l,lh,ys,hs,rfl,st,fZ,tu,WH,nd,h8,l9,k]:=h;let sz:=cq
 apply#[_,aw (RC (i:=2) BP 2 [] A5.nd U (Or.inl U) (dY (pv 1)) (λfp s H=>Fe (n:=2) (dO (fW (i:=0) (show (BP:ae).Nodup by decide +kernel) U (Or.inl U)) (dO (fW (i:=1) (show (BP:ae).Nodup by decide +kernel) U (Or.inl U)) jh)))
     (λfp s H=>kI) (λfp s H=>pv 0))
  (aw (bu 3 A5.nd (bP gz ay (bc cD hr %[0,ay|0])))
  (aw (bu 4 A5.nd (fu bK))
  (aw (d4 dN U (uZ (by rfl) B.range %[cy iq (by rfl) B.len gE %[2|0]|0]) (cu 5 A5.nd)
   (aH (d4 dN U (dY (A1 Mz (pv 2) A8 (A7 (pv 5)))) (cu 6 A5.nd)
    (aH (cg (eZ BL (bc cD hr %[0,ay|0]) (pv 3))
     (aw (bu 7 A5.nd (bw gd (fu %[gh %[bw gd (pv 2) (pv 5),6|0],gh %[6,bw gd (pv 2) (pv 5)|0]|0]) (bc cD hr %[0,ay|0])))
     (aH (kJ (pf oy PySem.F.slot_list_insert PySem.F.type_list_insert Ja (pv 4) %[bc cD hr %[0,bP gz (cy iq (by rfl) B.len gE %[4|0]) ay|0],7|0]))))
     cj)))))
  (aH (bp (pv 4)))))),?_]
 apply#[_,U,lh,U,#[_,.of fZ],λln xD=>?_];apply fp_ U fZ tu Z2 xD λH1 s1 _L=>?_
 let ns:ae:=hs.map (·.1)
 have n8:ns.length<=8:=by show (hs.map (·.1)).length<=8;rw[av];exact h8
 let pK:=st.same s1;apply#[_,U,l,3,U,by decide,by decide,pK,λr H2 r0 r3 b2 eV=>#[_,_,U,U,?_]];let#[UZ,fq]:=pK.some
 have By:ln≠l:=λe=>by
  subst e;let#[xs,e2]:=st.some;rw[xD] at e2;cases e2
 let xC:=b2 _ _ _L By;apply#[zl,λa ha=>?_];let#[O8,jo]:=eV.some;have gq:l≠a:=bz jo ha;have Xj:ln≠a:=bz xC ha;have s3:aa H2 (upd H2 a (.lst [])):=aa.new ha
 have oj:H a=none:=by
  cases z:H a with
  |none=>rfl
  |some o=>
   have:=b2 _ _ (s1 _ _ z) gq.symm;rw[ha] at this;cases this
 apply#[_,U,ln,_,U,.inl (.of (s3 _ _ xC)),_,U,by show (-(2 ^ 62):Int)<=((ns.map V.str).length:Int);omega,by show (((hs.map (·.1)).map V.str).length:Int)<2 ^ 62;rw[av,av];omega,?_]
 let Iv:Nat->Nat->Hp->Prop:=λkk j H'=>∃zs ts,aV l H H'/\cK H' l/\H' ln\.lst (ns.map V.str)/\H' a\.lst zs/\bY K H' zs (ts.map kT)/\TI ns kk j ts
 have le:(ns.map V.str).length=ns.length:=av _
 apply wF (lo:=0) (n:=((ns.map V.str).length:Int).toNat) (λi σ H'=>∃(v5 v6 v7:aE),σ=[some (.ref l),some (.ref lh),some (.ref ln),some (.int (1+r)),some (.ref a),v5,v6,v7]/\Iv i 0 H')
  #[none,none,none,U,[],[],((aV.of s1).trans b2).trans (aV.of s3),eV.same s3,s3 _ _ xC,az,.nil,#[by simp,.nil,gP _]] ?_ ?_
 ·rintro i σ H4 hi ⟨v5,v6,v7,rfl,UJ,Vt,b4,gS,zW,jJ,yx,Vu⟩;rw[Int.zero_add];have hi:i<ns.length:=by omega
  apply#[_,U,_,U,_,U,ln,_,U,.of zW,λp hp=>?_];rw[Zl];have s5:aa H4 (upd H4 p (.lst ((ns.take i).map V.str))):=aa.new hp
  have lp:l≠p:=by
   let#[xs,e]:=gS.some;exact bz e hp
  have pln:ln≠p:=bz zW hp;have pa:p≠a:=(bz jJ hp).symm
  apply#[p,U,#[_,.of az],ia (K:=K) (a:=p) (xs:=(ns.take i).map V.str) (λj σ H'=>∃(v6 v7:aE),σ=[some (.ref l),some (.ref lh),some (.ref ln),some (.int (1+r)),some (.ref a),some (.int i),v6,v7]/\H' p\.lst ((ns.take i).map V.str)/\Iv i j H')
   #[_,_,U,az,UJ,Vt,b4.trans (aV.of s5),gS.same s5,s5 _ _ zW,s5 _ _ jJ,yx.same s5,Vu] (λj σ H' _ ⟨_,_,_,q,_⟩=>.of q) ?_ ?_]
  ·rintro j y σ H6 hy ⟨v6,v7,rfl,QX,u_,Bq,b6,iy,GW,vW,uB,uC⟩;let#[o,ho,rfl]:=mI hy
   have hj:j<i:=by
    have:=(bX.mp ho).1;rw[dM] at this;omega
   have ho:ns[j]? = some o:=by
    rw[List.getElem?_take_of_lt hj] at ho;exact ho
   have hx:ns[i]? = some ns[i]:=aY hi
   have EJ:ip (ns.map V.str) (i:Int)\.str ns[i]:=by
    rw[dS Z2 (by rw[av];omega),ym,dF,hx];rfl
   apply#[_,U,l,4,U,by decide,by decide,iy,λr2 H7 q0 q1 b7 i0=>#[_,U,_,_,U,U,_,U,?_]];let#[O7,zY]:=iy.some;let GV:=b7 _ _ GW By;let Rl:=b7 _ _ vW gq.symm;let QW:=b7 _ _ QX lp.symm;let Pd:=jg uB b7 zY;apply bQ (λc=>?_) (λc=>?_)
   ·apply#[_,U,_,U,ln,_,_,_,U,U,.of GV,EJ,_,U,zl,λt1 o6=>?_];let s8:=aa.new (o:=.tup [.str ns[i],.str o]) o6;apply#[_,U,_,U,_,U,ln,_,_,_,U,U,.of (s8 _ _ GV),EJ,zl,λt2 xx=>?_];let s9:=aa.new (o:=.tup [.str o,.str ns[i]]) xx;apply#[zl,λlx jH=>?_];let Dc:=aa.new (o:=.lst [.ref t1,.ref t2]) jH;let s7:=(s8.trans s9).trans Dc;let jw:=i0.same s7;apply#[_,U,l,2,U,by decide,by decide,jw,λr3 OX q2 q3 Jg CY=>?_]
    have Bx:lx≠l:=by
     let#[xs,e]:=(i0.same (s8.trans s9)).some;exact (bz e jH).symm
    let El:=Jg _ _ (show upd (upd (upd H7 t1 (.tup [.str ns[i],.str o])) t2 (.tup [.str o,.str ns[i]])) lx (.lst [.ref t1,.ref t2]) lx=_ from az) Bx;let#[UY,Es]:=jw.some;let Ec:=Dc _ _ (s9 _ _ (show upd H7 t1 (.tup [.str ns[i],.str o]) t1=_ from az));let Ea:=Dc _ _ (show upd (upd H7 t1 (.tup [.str ns[i],.str o])) t2 (.tup [.str o,.str ns[i]]) t2=_ from az);let Eb:=Jg _ _ Ec (bS Ec Es nofun);let D_:=Jg _ _ Ea (bS Ea Es nofun)
    have pick:∃(t:Addr) (tt:Str × Str),ip [V.ref t1,V.ref t2] r3\.ref t/\OX t\.tup ((kT tt).map kV)/\(tt=(ns[i],o)∨tt=(o,ns[i])):=by
     rcases sU (a:=V.ref t1) (b:=V.ref t2) q2 q3 with e|e
     ·exact#[t1,(ns[i],o),e,Eb,.inl U]
     exact#[t2,(o,ns[i]),e,D_,.inr U]
    let#[t,tt,et,ht,etc]:=pick;apply#[lx,_,_,_,U,U,.of El,et,?_];have t7:aV l H7 OX:=(aV.of s7).trans Jg;let#[xs7,_R]:=i0.some;let Aq:=t7 _ _ Rl gq.symm;let Lh:=t7 _ _ GV By;let K8:=t7 _ _ QW lp.symm;let JE:=jg Pd t7 _R;let lz:=bH uB;rw[av] at lz;let tl:=uC.len;apply#[_,U,.inl #[U,_,.of Aq],_,U,_,U,a,_,U,.inl (.of Aq),_,_,U,U,l,_,U,by show (0:Int)<(u_.length:Int)+1;omega,by show (u_.length:Int)+1<1073741824;omega,CY,λr4 H12 q4 q5 B9 JW=>?_];have q5:r4<(u_.length:Int)+1:=q5;let#[UX,Er]:=CY.some;let EO:=B9 _ _ Aq gq.symm;let Lg:=B9 _ _ Lh By;let K7:=B9 _ _ K8 lp.symm;let K3:=B9 _ _ ht (bS ht Er nofun);let JD:=jg JE B9 Er;apply#[_,U,a,r4.toNat,u_,.ref t,U,by rw[Int.toNat_of_nonneg q4],EO,by omega,by omega,?_];apply#[_,_,U,by rw[ax pa];exact K7,_,iM Bq r4.toNat tt,?_,?_,by rw[ax Xj];exact Lg,az,?_,uC.add nd hj hx ho etc _]
    ·intro b o e ne;rw[ax (bz e oj)];exact B9 _ _ (t7 _ _ (b7 _ _ (b6 _ _ e ne) ne) ne) ne
    ·unfold cK;rw[ax gq];exact JW
    rw[SB];exact IB (Jc _ JD #[t,U,K3]) EO
   exact#[_,_,U,QW,u_,Bq,b6.trans b7,i0,GV,Rl,Pd,uC.skip]
  rintro σ H6 ⟨v6,v7,rfl,QX,u_,Bq,b6,iy,GW,vW,uB,uC⟩;rw[av,dM,Nat.min_eq_left Z2] at uC;exact#[_,_,_,U,u_,Bq,b6,iy,GW,vW,uB,uC.next Z2]
 rintro σ H6 ⟨v5,v6,v7,rfl,u_,Bq,b6,iy,GW,vW,uB,uC⟩;have:=uC.len;exact#[_,U,k a u_ Bq H6 b6 iy oj vW uB (uC.good nd WH) uC.nd Z2]
end
end Ev
namespace HT
open PySem PySem.Spec PyProof.Rows
section
variable{prog:Ad}{w:Af}{A:Ag}{E:Aa->Ab->Prop}{s:Ab}
end
end HT
namespace L2
open PySem PySem.Spec PyProof.Rows
section
variable{X:Cx}{e st:Expr}{te ts:TE}{pos p2:Pos}
end
end L2
namespace Ev
open PySem L2
theorem Oe(ys:ag)(k:Nat):dQ ys none (some (k:Int))=ys.take k:=by
 unfold dQ;rw[HT.eP,HT.dZ,List.drop_zero,Nat.sub_zero];by_cases h:k<=ys.length
 ·rw[Nat.min_eq_left h]
 rw[Nat.min_eq_right Z2,u6 (bh _),u6 Z2]
theorem S7(ys:ag)(k:Nat):dQ ys (some (k:Int)) none=ys.drop k:=by
 unfold dQ;rw[HT.dZ,HT.eP];by_cases h:k<=ys.length
 ·rw[Nat.min_eq_left h,u6 (by rw[yl];omega)]
 rw[Nat.min_eq_right Z2,List.drop_eq_nil_of_le (bh _),List.drop_eq_nil_of_le Z2,List.take_nil]
theorem iY{α β:Type}{F:α->β->Prop}:∀{ys O6:List α} {ks i6:List β},Paired F ys ks->Paired F O6 i6->Paired F (ys++O6) (ks++i6)
 |_,_,_,_,.nil,h=>h
 |_,_,_,_,.cons a t,h=>.cons a (iY t h)
theorem EA{α:Type}{p:α->Prop}{a b c:α}{r:Int}(h0:0<=r)(h1:r<3)(ha:p a)(hb:p b)(hc:p c):∃x,ip [a,b,c] r\x/\p x:=by
 have:r=0∨r=1∨r=2:=by omega
 rcases this with rfl|rfl|rfl
 ·exact#[_,U,ha]
 ·exact#[_,U,hb]
 exact#[_,U,hc]
structure Fc (ts ws:Xb):Prop where
 good:∀w∈ws,wm w
 nd:(ws.map kO).Nodup
 ij:∀w∈ws,kO w∈ts.map kO
 len:ws.length<=ts.length
theorem Yi{ts us ws:Xb}(good:∀t∈ts,wm t)(nd:(ts.map kO).Nodup)(sub:us.Sublist ts)(p:Paired (λw u=>w=u∨w=(u.2,u.1)) ws us):Fc ts ws:=by
 have e:ws.map kO=us.map kO:=by
  clear sub
  induction p with
  |nil=>rfl
  |cons h _ ih=>
   rw[eJ,eJ,ih];rcases h with rfl|rfl
   ·rfl
   exact eg (·::_) (Zi _ _)
 apply#[λw hw=>?_,?_,λw hw=>?_,?_]
 ·let#[i,hi,ew]:=ib hw;let hl:=bH p;let q:=d9 p i hi Z2;rw[ew] at q;let g:=good _ (sub.subset (kK (show i<us.length by omega)));rcases q with q|q
  ·rw[q];exact g
  rw[q];exact#[g.2.1,g.1,g.2.2.symm]
 ·rw[e];exact (sub.map kO).nodup nd
 ·have:kO w∈ws.map kO:=bG.mpr #[w,hw,U];rw[e] at this;exact (sub.map kO).subset this
 rw[bH p];exact sub.length_le
def cm(K:ai)(H:Hp)(v:V):Option (Xb)->Prop
 |none=>v=.non
 |some ws=>∃a ys,v=.ref a/\H a\.lst ys/\bY K H ys (ws.map kT)
theorem cm.same{K:ai}{H H':Hp}{v:V}{o:Option (Xb)}(h:cm K H v o)(s:aa H H'):cm K H' v o:=by
 cases o with
 |none=>exact h
 |some ws=>
  let#[a,ys,e,ha,t]:=h;exact#[a,ys,e,s _ _ ha,t.same s]
end Ev
namespace Ev
open PySem L2
abbrev Pc:=Str × Int × Option (Xb)
def ji(K:ai)(H:Hp)(y:V)(p:Pc):Prop:=∃t v,y=.ref t/\H t\.tup [.str p.1,.int p.2.1,v]/\cm K H v p.2.2
abbrev kD(K:ai)(H:Hp)(ys:ag)(ps:List Pc):Prop:=Paired (ji K H) ys ps
structure j9 (ts:Xb) (p:Pc):Prop where
 nm:iL p.1=true
 w1:1<=p.2.1
 w2:p.2.1<=1000000000
 ws:∀ws,p.2.2\ws->Fc ts ws
theorem YB{K:ai}{H:Hp}{a l:Addr}{ys:ag}{ks:List aq}(t:bY K H ys ks)(ha:H a\.lst ys)(st:cK H l):a≠l:=λe=>by
 subst e;rcases st with⟨n,e⟩|⟨n,m,c,e⟩
 all_goals
  rw[ha] at e;have e:ys=_:=HO.lst.inj (cX e);subst e;cases t with
  |cons h _=>
   let#[b,z,_]:=h;cases z
theorem cm.but{K:ai}{H H':Hp}{l:Addr}{v:V}{o:Option (Xb)}(h:cm K H v o)(b:aV l H H')(st:cK H l):cm K H' v o:=by
 cases o with
 |none=>exact h
 |some ws=>
  let#[a,ys,e,ha,t]:=h;let#[xs,hl]:=st.some;exact#[a,ys,e,b _ _ ha (YB t ha st),jg t b hl]
theorem ji.but{K:ai}{H H':Hp}{l:Addr}{y:V}{p:Pc}(h:ji K H y p)(b:aV l H H')(st:cK H l):ji K H' y p:=by
 let#[t,v,e,ht,hv]:=h;let#[xs,hl]:=st.some;exact#[t,v,e,b _ _ ht (bS ht hl nofun),hv.but b st]
theorem ji.same{K:ai}{H H':Hp}{y:V}{p:Pc}(h:ji K H y p)(s:aa H H'):ji K H' y p:=by
 let#[t,v,e,ht,hv]:=h;exact#[t,v,e,s _ _ ht,hv.same s]
theorem cm.put{K:ai}{H:Hp}{D:Addr}{xs:ag}{v:V}{o:Option (Xb)}{u:HO}(h:cm K H v o)(hD:H D\.lst xs)(ne:v≠.ref D):cm K (upd H D u) v o:=by
 cases o with
 |none=>exact h
 |some ws=>
  let#[a,ys,e,ha,t]:=h;subst e;exact#[a,ys,U,by rw[ax λz=>ne (by rw[z])];exact ha,IB t hD]
end Ev
abbrev aN:=List Ev.Pc
namespace Ev
open PySem L2
def jZ(K:ai)(H:Hp)(v:V):Option Str->Prop
 |some x=>v=.str x
 |none=>∃t,fI K H v t/\PySem.W.kitOne K t (.type "str")\false
def DW(ns:ae):Option Str->Bool
 |some x=>decide (x∈ns)
 |none=>false
def BQ(hs:Xa)(ts:Xb):Option Str->Option Str->Bool
 |some x,some y=>decide (x∈hs.map (·.1))&&(decide (y∈hs.map (·.1))&&decide (y∈near (aS hs) (bT ts) x))
 |_,_=>false
theorem NI(hs:Xa)(ts:Xb)(x y:Str):BQ hs ts (some x) (some y)=(decide (x∈hs.map (·.1))&&(decide (y∈hs.map (·.1))&&decide (y∈near (aS hs) (bT ts) x))):=rfl
section v
inductive lg (K:ai) (C:Addr) (vs:ag) (H:Hp) (Q:VK) (E:XK):Prop
 |mk:∀(p:Addr) (v:V) (x:Option Str) (hs:Xa) (ts:Xb) (fp:au),vs=[.ref p,v]->h_ K C H p hs ts fp->jZ K H v x->Q (.bl (DW (hs.map (·.1)) x)) H->lg K C vs H Q E
theorem Y2{f C:Addr}{fd:Ae}(F:bo K "has_hand" "Web.has_hand" vB f fd)(T:Txt K mg C)(B:Bi mg):!ao a_ 1 f fd mF (lg K C):=by
 exists F.bU xa;let#[p,v,x,hs,ts,fp,rfl,W,sv,k]:=h;let hu:=fH hr;let#[dx,d1,l2,d3,zs,as,rfl,h1,h2,h3,h4,h5,h6,h7]:=W.ex;apply#[_,aH (bp (pB (cy jU (by rfl) B.jn jr %[1,jT (v:=.ty "str") (by rfl) B.str Hf U|0]) (qg (HP (AW hu (pv 1) (gG (pv 0) U)))))),?_];cases x with
 |some x=>
  cases (show v=.str x from sv);apply#[_,U,_,_,_,_,U,.str x,U,_,U,c_ ?_];apply#[_,U,_,U,p,C,dx,_,_,U,h1,T.cl,T.nS,He _ _ _,d1,_,U,.k (k:=Sum.inr x) h2,?_];rw[Il];exact k
 |none=>
  let#[t,ty,e]:=sv;exact#[_,U,_,_,_,_,U,ty,e,_,U,aM k]
inductive IK (K:ai) (C:Addr) (vs:ag) (H:Hp) (Q:VK) (E:XK):Prop
 |mk:∀(p:Addr) (v u:V) (x y:Option Str) (hs:Xa) (ts:Xb) (fp:au),vs=[.ref p,v,u]->h_ K C H p hs ts fp->(aS hs).Nodup->jZ K H v x->jZ K H u y->Q (.bl (BQ hs ts x y)) H->IK K C vs H Q E
theorem ZF{f C:Addr}{fd:Ae}(F:bo K "are_tied" "Web.are_tied" rp f fd)(T:Txt K mg C)(cH:!bM C 1 "has_hand" mF (lg K C)):!ao a_ 2 f fd jX (IK K C):=by
 exists F.bU yS;let#[p,v,u,x,y,hs,ts,fp,rfl,W,nd,sv,su,k]:=h;let hu:=fH hr;let#[dx,d1,l2,d3,zs,as,rfl,h1,h2,h3,h4,h5,h6,h7]:=id W.ex;have kq:(fi d1 l2 d3).lookup ("has_hand":Str)=none:=pF _ _ _ Z0 Z0 Z0;apply#[_,aH (bp (pB (iX cH T.cl hr (pv 0) %[1|0]) (pB (iX cH T.cl hr (pv 0) %[2|0]) (qg (pG (L5 i_ (uP hr 0)) (pv 2) (mJ hu (gG (pv 0) U) (pv 1)) (by with_unfolding_all rfl)))))),?_];apply#[_,U,p,dx,_,U,h1,kq,_,U,p,v,x,hs,ts,_,U,W,sv,_,U,?_];cases x with
 |none=>exact aM k
 |some x=>
  cases (show v=.str x from sv);apply bQ (λc=>?_) (λc=>?_)
  ·have hx:x∈hs.map (·.1):=tL c;let#[a,e1,ha]:=Qn nd hx h6 h7;apply#[_,U,p,dx,_,U,h1,kq,_,U,p,u,y,hs,ts,_,U,W,su,_,U,?_];cases y with
   |none=>exact aM k
   |some y=>
    cases (show u=.str y from su);rw[NI,cw hx,Bool.true_and] at k;apply bQ (λc2=>?_) (λc2=>?_)
    ·have hy:y∈hs.map (·.1):=tL c2;rw[cw hy,Bool.true_and] at k;apply#[_,U,_,U,p,C,dx,_,_,U,h1,T.cl,T.nN,Qy _ _ _,_,U,d3,.ref a,U,?_,y,_,U,#[a,_,U,.of ha,MK _],k];rw[<- e1];exact .k (k:=Sum.inr x) h5
    have hy:¬y∈hs.map (·.1):=λz=>c2 (cw z);rw[ft hy,Bool.false_and] at k;exact k
  have hx:¬x∈hs.map (·.1):=λz=>c (cw z);cases y with
  |none=>exact k
  |some y=>
   rw[NI,ft hx,Bool.false_and] at k;exact k
theorem _e{hs:Xa}{ts ws:Xb}(G:Good hs ts)(W:Fc ts ws){t:Str × Str}(ht:t∈bT ws):BQ hs ts (some t.1) (some t.2)=true:=by
 let#[x,hx,ex]:=Ir.mp ht;let#[u,hu,eu]:=bG.mp (W.ij x hx);have eo:aK u.1 u.2=t:=(Hh eu).trans ex
 have both:t.1∈hs.map (·.1)/\t.2∈hs.map (·.1)/\aK t.1 t.2=t:=by
  let#[g1,g2]:=G.vk u hu;rcases B2 u.1 u.2 with e|e
  ·rw[<- eo,e];exact#[g1,g2,e]
  rw[<- eo,e];exact#[g2,g1,(N1 _ _).trans e]
 let#[m1,m2,m3]:=both;have m4:t.2∈near (aS hs) (bT ts) t.1:=mL.mpr #[(gO hs).mem_iff.mpr m2,cw (by rw[m3];exact Ir.mpr #[u,hu,eo])];rw[NI,cw m1,cw m2,cw m4];rfl
theorem Ic:bJ ["web","ways","found","one","other"] ["web","ways"] (a9 lX):=bV
inductive Nf (K:ai) (C:Addr) (vs:ag) (H:Hp) (Q:VK) (E:XK):Prop
 |mk:∀(p:Addr) (v:V) (o:Option (Xb)) (hs:Xa) (ts:Xb) (fp:au),vs=[.ref p,v]->h_ K C H p hs ts fp->Good hs ts->cm K H v o->(∀ws,o\ws->Fc ts ws)->(∀v' H',aa H H'->cm K H' v' (o.map bT)->(∀a,v'=.ref a->H a=none)->Q v' H')->Nf K C vs H Q E
theorem Zo{f C:Addr}{fd:Ae}(F:bo K "checked_ways" "checked_ways" lX f fd)(T:Txt K mg C)(cS:!br 3 "sorted_ties" ["ties"] (Oh K))(cT:!bM C 2 "are_tied" jX (IK K C)):!ao a_ 4 f fd ["web","ways"] (Nf K C):=by
 exists F.bU Ic;let#[p,v,o,hs,ts,fp,rfl,W,G,wy,gw,k]:=h;let hu:=fH hr;have n5:aP 2 _:=hr.mono (by decide)
 apply#[_,aw (cg (qd (Hj (pv 1))) (aH (bp tZ)) cj)
  (aw (bu 2 Ic.nd (bc cS hr %[1|0]))
  (aw (cg (qd (Hj (pv 2))) gg cj)
  (aw (d4 dN U (dY (pv 2)) (mw U (dO (cu 3 Ic.nd) (dO (cu 4 Ic.nd) jh)))
   (aH (cg (e_ (d8 (iX cT T.cl n5 (pv 0) %[3,4|0]))) gg cj)))
  (aH (bp (pv 2)))))),?_]
 cases o with
 |none=>
  cases (show v=.non from wy);exact#[_,U,_,U,c_ (k .non H (aa.refl H) U (λa z=>by cases z))]
 |some ws=>
  let#[a,ys,rfl,ha,tu]:=wy;let Wo:=gw ws U;apply#[_,U,_,U,aM ?_];apply#[_,U,a,ys,ws,U,ha,tu,Wo.good,Wo.nd,by have:=Wo.len;have:=G.w9;omega,λl' zs H1 s1 hf fq tz=>?_];apply#[_,U,_,U,aM ?_];let W1:=W.same s1;let#[dx,d1,l2,d3,wO,as,rfl,h1,h2,h3,h4,h5,h6,h7]:=id W1.ex;have kq:(fi d1 l2 d3).lookup ("are_tied":Str)=none:=pF _ _ _ Z0 Z0 Z0;rw[<- NC] at tz;apply#[_,U,l',U,#[_,.of fq],ia (K:=K) (a:=l') (xs:=zs) (λi σ H2=>∃(v3 v4:aE),σ=[some (.ref p),some (.ref a),some (.ref l'),v3,v4]/\H2=H1) #[none,none,U,U] (λi σ H2 _ ⟨_,_,_,e⟩=>by subst e;exact .of fq) ?_ ?_]
  ·rintro i y σ H2 hy ⟨v3,v4,rfl,rfl⟩;let#[t,ht,q,rfl,hq]:=u5 tz hy;apply#[q,_,U,.of (GT hq),U,_,_,U,_,_,U,U,?_];apply#[_,U,p,dx,_,U,h1,kq,_,U,_,U,p,_,_,some t.1,some t.2,hs,ts,_,U,W1,G.oY,U,U,_,U,?_];rw[_e G Wo (cZ ht)];apply aM ?_;exact#[_,_,U,U]
  rintro σ H2 ⟨v3,v4,rfl,rfl⟩;exact#[_,U,k (.ref l') _ s1 #[l',zs,U,fq,tz] (λc z=>by cases z;exact hf)]
def pN(p:Pc):Pc:=(p.1,p.2.1,p.2.2.map bT)
def p7(K:ai)(H0 H:Hp)(y:V)(p:Pc):Prop:=∃t v,y=.ref t/\H t\.tup [.str p.1,.int p.2.1,v]/\cm K H v p.2.2/\∀a,v=.ref a->H0 a=none
theorem p7.same{K:ai}{H0 H H':Hp}{y:V}{p:Pc}(h:p7 K H0 H y p)(s:aa H H'):p7 K H0 H' y p:=by
 let#[t,v,e,ht,hv,hn]:=h;exact#[t,v,e,s _ _ ht,hv.same s,hn]
theorem cm.up{K:ai}{H:Hp}{D:Addr}{u:HO}{v:V}{o:Option (Xb)}(h:cm K H v o)(n1:∀xs,H D≠some (.lst xs))(n2:∀xs,H D≠some (.tup xs)):cm K (upd H D u) v o:=by
 cases o with
 |none=>exact h
 |some ws=>
  let#[a,ys,e,ha,t]:=h;exact#[a,ys,e,by rw[ax (λz:a=D=>n1 ys (z▸ha))];exact ha,Paired.aX t λy k ⟨b,z,q⟩=>#[b,z,by rw[ax (λz:b=D=>n2 _ (z▸q))];exact q]]
theorem p7.up{K:ai}{H0 H:Hp}{D:Addr}{u:HO}{y:V}{p:Pc}(h:p7 K H0 H y p)(n1:∀xs,H D≠some (.lst xs))(n2:∀xs,H D≠some (.tup xs)):p7 K H0 (upd H D u) y p:=by
 let#[t,v,e,ht,hv,hn]:=h;exact#[t,v,e,by rw[ax (λz:t=D=>n2 _ (z▸ht))];exact ht,hv.up n1 n2,hn]
theorem ML{ps:aN}{cs:ag}(nd:(ps.map (·.1)).Nodup)(hl:cs.length=ps.length):∀{j:Nat} {q:Pc} {c:V},ps[j]? = some q->cs[j]? = some c->aU ((ps.zip cs).map λq=>((Sum.inr q.1.1:Key),q.2)) (Sum.inr q.1)\c:=by
 induction ps generalizing cs with
 |nil=>
  intro j q c h;simp at h
 |cons p ps ih=>
  intro j q c h1 h2;cases cs with
  |nil=>cases hl
  |cons b cs=>
   rw[eJ] at nd;let#[n1,n2]:=iZ.mp nd;cases j with
   |zero=>
    have e1:p=q:=⇑h1
    have e2:b=c:=⇑h2
    subst e1 e2;exact x_ U
   |succ j=>
    have h1:ps[j]? = some q:=⇑h1
    have h2:cs[j]? = some c:=⇑h2
    show aU ((Sum.inr p.1,b)::((ps.zip cs).map λq=>((Sum.inr q.1.1:Key),q.2))) (Sum.inr q.1)=_;rw[x8 λe=>n1 (by rw[show p.1=q.1 from iJ e];exact bG.mpr #[q,cZ h1,U])];exact ih n2 ⇑hl h1 h2
theorem rg:bJ ["web","piece"] ["web","piece"] (a9 Nw):=bV
inductive MS (K:ai) (C:Addr) (vs:ag) (H:Hp) (Q:VK) (E:XK):Prop
 |mk:∀(p:Addr) (y:V) (q:Pc) (hs:Xa) (ts:Xb) (fp:au),vs=[.ref p,y]->h_ K C H p hs ts fp->Good hs ts->ji K H y q->j9 ts q->(∀y' H',aa H H'->p7 K H H' y' (pN q)->Q y' H')->MS K C vs H Q E
theorem h9_{f C:Addr}{fd:Ae}(F:bo K "checked_piece" "checked_piece" Nw f fd)(B:Bi mg)(cN:!br 1 "is_name" fV Hs)(cW:!br 2 "is_whole_within" AI FC)(cC:!br 4 "checked_ways" ["web","ways"] (Nf K C)){tk:Tok}(mW:mg "MOST_WEIGHT"\.int 1000000000 tk) :
  ao P w K mg base a_ 5 f fd ["web","piece"] (MS K C):=by
 exists F.bU rg;let#[p,y,q,hs,ts,fp,rfl,W,G,#[t,v,rfl,ht,wy],gp,k]:=h
 apply#[_,aw (cg (pA (e_ (d8 (cy jU (by rfl) B.jn jr %[1,jT (v:=.ty "tuple") (by rfl) B.tuple qh U|0])))
   (pC (eZ pX (cy iq (by rfl) B.len gE %[1|0]) ay))).pt gg cj)
  (aw (cg (e_ (d8 (bc cN hr %[bw cU (pv 1) ay|0]))) gg cj)
  (aw (cg (e_ (d8 (bc cW hr %[bw cU (pv 1) ay,ay,B4 (v:=.int 1000000000) (by rfl) mW #[tk,U]|0]))) gg cj)
  (aH (bp (gh %[bw cU (pv 1) ay,bw cU (pv 1) ay,bc cC hr %[0,bw cU (pv 1) ay|0]|0]))))),?_]
 apply#[_,U,_,_,_,_,U,.tup ht,U,_,U,aM ?_];apply#[_,U,t,_,U,.inr (.of ht),U,_,U,?_];apply xU (show V.int ((3:Nat):Int)=V.int 3 from U) ?_;apply#[_,U,t,_,_,_,U,U,.of ht,U,q.1,U,by have:=IP gp.nm;omega,λH1 s1=>#[_,U,?_]];rw[gp.nm];apply aM ?_;let o6:=s1 _ _ ht;apply#[_,U,t,_,_,_,U,U,.of o6,U,q.2.1,1,1000000000,U,_,U,?_];rw[cw gp.w1,cw gp.w2];apply aM ?_;apply#[_,U,t,_,_,_,U,U,.of o6,U,_,U,t,_,_,_,U,U,.of o6,U,_,U,_,U,t,_,_,_,U,U,.of o6,U,p,v,q.2.2,hs,ts,fp,U,W.same s1,G,wy.same s1,gp.ws,λv' H2 s2 U1 hf=>?_];apply#[zl,λt' xy=>?_];exact k (.ref t') _ (s1.trans (s2.trans (aa.new xy))) #[t',v',U,az,U1.same (aa.new xy),λa z=>s1.free (hf a z)]
theorem Jf:bJ ["web","pieces","found","piece","checked"] ["web","pieces"] (a9 NU):=bV
structure Qs (ps qs:aN):Prop where
 zw:qs.map (·.1)=iN (ps.map (·.1))
 mem:∀q∈qs,∃p∈ps,q=pN p
inductive N5 (K:ai) (C:Addr) (vs:ag) (H:Hp) (Q:VK) (E:XK):Prop
 |mk:∀(p l:Addr) (ys:ag) (ps:aN) (hs:Xa) (ts:Xb) (fp:au),vs=[.ref p,.ref l]->h_ K C H p hs ts fp->Good hs ts->H l\.lst ys->kD K H ys ps->(∀q∈ps,j9 ts q)->(ps.map (·.1)).Nodup->ps.length<64->(∀l' zs qs H',aa H H'->H' l'\.lst zs->Paired (p7 K H H') zs qs->Qs ps qs->Q (.ref l') H')->N5 K C vs H Q E
theorem aD{H:Hp}{a:Addr}{o:HO}(n:H a=none):aa H (upd H a o)/\upd H a o a\o:=⟨aa.new n,az⟩
theorem fq_{f C:Addr}{fd:Ae}(F:bo K "checked_pieces" "checked_pieces" NU f fd)(B:Bi mg)(cP:!br 5 "checked_piece" ["web","piece"] (MS K C)):!ao a_ 6 f fd ["web","pieces"] (N5 K C):=by
 exists F.bU Jf;let#[p,l,ys,ps,hs,ts,fp,rfl,W,G,hl,pc,gp,nd,cY,k]:=h;let hu:=fH hr;let sz:=cq;let le:=bH pc
 apply#[_,aw (cg (e_ (d8 (cy jU (by rfl) B.jn jr %[1,jT (v:=.ty "list") (by rfl) B.list yc U|0]))) gg cj)
  (aw (bu 2 Jf.nd FG)
  (aw (d4 dN U (dY (pv 1)) (cu 3 Jf.nd)
   (aw (bu 4 Jf.nd (bc cP hr %[0,3|0]))
   (aw (cg (qd (AW hu (bw cU (pv 4) ay) (pv 2))) gg cj)
   (aH (tW hu (pv 2) (bw cU (pv 4) ay) (pv 4) U)))))
  (aH (bp (js ["name","found"] 1 [2] (dY (cy (ew_ U) (by rfl) B.sorted I_ %[2|0])) (λfp s H=>fW (i:=0) (show (["name","found"]:ae).Nodup by decide +kernel) U (Or.inl U)) (λfp s H=>kI)
   (λfp s H=>mJ hu (pv 1) (pv 0))))))),?_]
 apply#[_,U,_,_,_,_,U,.lst hl,U,_,U,aM ?_];intro d hd;have s0:aa H (upd H d (.dK [])):=aa.new hd;apply#[_,U,l,U,#[_,.of (s0 _ _ hl)],ia (K:=K) (a:=l) (xs:=ys) (λi σ H2=>∃(v3 v4:aE) (cs:ag),σ=[some (.ref p),some (.ref l),some (.ref d),v3,v4]/\aa H H2/\Paired (p7 K H H2) cs ((ps.take i).map pN)/\H2 d\.dK (((ps.take i).zip cs).map λq=>(Sum.inr q.1.1,q.2))) #[none,none,[],U,s0,.nil,az] (λi σ H2 _ ⟨_,_,_,_,s2,_⟩=>.of (s2 _ _ hl)) ?_ ?_]
 ·rintro i y σ H2 hy ⟨v3,v4,cs,rfl,s2,pn,hd2⟩;have hi:i<ys.length:=(bX.mp hy).1;have hq:ps[i]? = some (ps[i]' Z2):=aY Z2;let py:=d9 pc i hi Z2;rw[(bX.mp hy).2] at py;generalize ps[i]' Z2=q at hq py;apply#[_,U,_,U,p,y,q,hs,ts,fp,U,W.same s2,G,py.same s2,gp q (cZ hq),λy' H3 s3 pw=>?_];let#[t,v,rfl,ht,wy,hf]:=pw;let md:=s3 _ _ hd2;let lc:=bH pn;rw[av,dM] at lc
  have keys:((((ps.take i).zip cs).map λq=>((Sum.inr q.1.1:Key),q.2)).map (·.1))=((ps.take i).map (·.1)).map Sum.inr:=by
   rw[cz];have:((λx:Key × V=>x.1) ∘ λq:Pc × V=>((Sum.inr q.1.1:Key),q.2))=(λp:Pc=>(Sum.inr p.1:Key)) ∘ Prod.fst:=rfl;rw[this,<- cz,List.map_fst_zip (by rw[dM];omega),cz];rfl
  have uF:aU (((ps.take i).zip cs).map λq=>((Sum.inr q.1.1:Key),q.2)) (Sum.inr q.1)=none:=ud (by
   rw[keys];intro m;let#[x,hx,e]:=bG.mp m;cases e;exact FE (g:=λp:Pc=>p.1) nd hq hx)
  apply#[_,U,t,_,_,_,U,U,.of ht,U,_,U,d,_,U,.k (k:=Sum.inr q.1) md,_,U,?_];rw[uF];apply aM ?_;apply#[_,U,_,U,_,U,t,_,_,_,U,U,.of ht,U,d,_,U,.k (k:=Sum.inr q.1) md (by rw[av,List.length_zip,dM];omega),?_];let VT:=s2.trans s3;have n1:∀xs,H3 d≠some (.lst xs):=λxs z=>by rw[md] at z;cases z
  have n2:∀xs,H3 d≠some (.tup xs):=λxs z=>by rw[md] at z;cases z
  apply#[_,_,cs++[.ref t],U,λc o e=>?_,?_,?_]
  ·rw[ax (bz e hd)];exact VT _ _ e
  ·rw[ua,hq,er];exact iY (Paired.aX pn λy q h=>(h.same s3).up n1 n2) (.cons (p7.up #[t,v,U,ht,wy,λa z=>s2.free (hf a z)] n1 n2) .nil)
  rw[az,wz _ uF,ua,hq,List.zip_append (by rw[dM];omega),er];rfl
 rintro σ H2 ⟨v3,v4,cs,rfl,s2,pn,hd2⟩;rw[le,eS] at pn hd2;let lc:=bH pn;rw[av] at lc
 have keys:(((ps.zip cs).map λq=>((Sum.inr q.1.1:Key),q.2)).map (·.1))=(ps.map (·.1)).map Sum.inr:=by
  rw[cz];have:((λx:Key × V=>x.1) ∘ λq:Pc × V=>((Sum.inr q.1.1:Key),q.2))=(λp:Pc=>(Sum.inr p.1:Key)) ∘ Prod.fst:=rfl;rw[this,<- cz,List.map_fst_zip Z2,cz];rfl
 apply#[_,U,d,_,ps.map (·.1),U,hd2,keys,by rw[av];exact cY,λls Li=>?_];let#[s3,zZ]:=aD (o:=.lst ((iN (ps.map (·.1))).map V.str)) Li;apply#[ls,U,#[_,.of zZ],λD hD=>?_];generalize upd H2 ls (.lst ((iN (ps.map (·.1))).map V.str))=H3 at s3 zZ hD ⊢;have Xd:(iN (ps.map (·.1))).length=ps.length:=by rw[(FD _).length_eq,av]
 apply kL (own:=1) (fv:=[some (.ref d)]) (xs:=(iN (ps.map (·.1))).map V.str) U fF (λi out H'=>∃qs:aN,aa H3 H'/\H' D\.lst out/\Paired (p7 K H H2) out qs/\qs.map (·.1)=(iN (ps.map (·.1))).take i/\∀q∈qs,∃p∈ps,q=pN p) #[[],aa.new hD,az,.nil,U,by simp] (λi out H' _ ⟨_,sm,_⟩=>.of (sm _ _ zZ)) (λzs H4 ⟨qs,s4,o8,pq,en,mem⟩=>?_) (λi x out H' hx ⟨qs,sm,dH,pq,en,mem⟩=>?_)
 ·rw[av,eS] at en;exact k D zs qs H4 (s2.trans (s3.trans s4)) o8 (Paired.aX pq λy q h=>h.same (s3.trans s4)) #[en,mem]
 let#[n,hn,rfl]:=mI hx;have hm:n∈ps.map (·.1):=(FD _).mem_iff.mp (cZ hn);let#[q,hq,eq]:=bG.mp hm;let#[j,hj,ej]:=ib hq;have _D:ps[j]? = some q:=by rw[aY hj,ej]
 have Ri:cs[j]? = some (cs[j]' Z2):=aY Z2;let hv:=ML nd lc _D Ri;let pj:=d9 pn j Z2 (by rw[av];omega);rw[List.getElem_map,ej] at pj;generalize cs[j]' Z2=c at Ri hv pj;rw[eq] at hv;let lo:=bH pq;let lq:=eg List.length en;rw[av,dM] at lq;have hi:i<(iN (ps.map (·.1))).length:=(bX.mp hn).1;apply#[_,U,U,λNx hN=>fA ?_];apply#[_,U,_,U,d,c,U,?_,out,dH,by omega,hN _ _ #[qs++[pN q],fL sm hD,az,?_,?_,?_]]
 ·rw[<- hv];exact .k (k:=Sum.inr n) (sm _ _ (s3 _ _ hd2))
 ·exact iY pq (.cons pj .nil)
 ·rw[er,en,ua,hn,<- eq];rfl
 intro q' hq';rcases dJ.mp hq' with hq'|hq'
 ·exact mem q' hq'
 obtain rfl:q'=pN q:=⇑hq'
 exact#[q,hq,U]
end
end Ev
namespace Ev
open PySem L2
abbrev lU:Stmt:=mr E7 0
abbrev rT:Stmt:=mr E7 1
abbrev M7:Stmt:=mr E7 2
abbrev Ol:Stmt:=mr E7 3
abbrev rR:Stmt:=mr E7 5
def cQ(p dw dy:Addr):List (Str × V):=aB AM (.ref dy) (aB p_ (.ref dw) (aB "web" (.ref p) []))
theorem g12:¬(("web":Str)=p_):=by decide +kernel
theorem g13:¬(("web":Str)=AM):=by decide +kernel
theorem g23:¬((p_:Str)=AM):=by decide +kernel
theorem yb(p dw dy:Addr):(cQ p dw dy).lookup ("web":Str)\.ref p:=by
 unfold cQ;rw[gy,aC g13,gy,aC g12,gy,aI U]
theorem Mn(p dw dy:Addr):(cQ p dw dy).lookup (p_:Str)\.ref dw:=by
 unfold cQ;rw[gy,aC g23,gy,aI U]
theorem YF(p dw dy:Addr):(cQ p dw dy).lookup (AM:Str)\.ref dy:=by
 unfold cQ;rw[gy,aI U]
theorem uX(p dw dy:Addr){m:Str}(h1:¬m="web")(h2:¬m=p_)(h3:¬m=AM):(cQ p dw dy).lookup m=none:=by
 unfold cQ;rw[gy,aC h3,gy,aC h2,gy,aC h1]
 all_goals rfl
def kR(qs:aN):List (Key × V):=qs.map λq=>(Sum.inr q.1,V.int q.2.1)
def vi(qs:aN)(vs:ag):List (Key × V):=(qs.zip vs).map λx=>(Sum.inr x.1.1,x.2)
theorem SQ(qs:aN):(kR qs).map (·.1)=(qs.map (·.1)).map Sum.inr:=by
 unfold kR;rw[cz,cz];rfl
theorem hU_{qs:aN}{vs:ag}(h:vs.length=qs.length):(vi qs vs).map (·.1)=(qs.map (·.1)).map Sum.inr:=by
 unfold vi;rw[cz];have:((λx:Key × V=>x.1) ∘ λq:Pc × V=>((Sum.inr q.1.1:Key),q.2))=(λp:Pc=>(Sum.inr p.1:Key)) ∘ Prod.fst:=rfl;rw[this,<- cz,List.map_fst_zip Z2,cz];rfl
structure gx (K:ai) (CG CW:Addr) (H:Hp) (g p:Addr) (hs:Xa) (ts:Xb) (qs:aN) (fp:au):Prop where
 ex:∃(dx dw dy:Addr) (vs:ag) (dC:au),H g\.ins CG dx (cQ p dw dy)/\h_ K CW H p hs ts dC/\H dw\.dK (kR qs)/\H dy\.dK (vi qs vs)/\Paired (λv (q:Pc)=>cm K H v q.2.2) vs qs /\
  g∈fp/\dw∈fp/\dy∈fp/\(∀b∈dC,b∈fp)/\∀v∈vs,∀a,v=.ref a->a∈fp
theorem OA{α β:Type}{F G:α->β->Prop}:∀{l:List α} {m:List β},Paired F l m->(∀a∈l,∀b,F a b->G a b)->Paired G l m
 |_,_,.nil,_=>.nil
 |_,_,.cons h t,f=>.cons (f _ gF _ h) (OA t λa ha=>f a (fX _ ha))
theorem cm.keep{K:ai}{H H':Hp}{v:V}{o:Option (Xb)}(h:cm K H v o)(k:∀a,v=.ref a->∀u,H a\u->H' a\u)(kt:∀b xs,H b\.tup xs->H' b\.tup xs):cm K H' v o:=by
 cases o with
 |none=>exact h
 |some ws=>
  let#[a,ys,e,ha,t]:=h;exact#[a,ys,e,k a e _ ha,Paired.aX t λy q ⟨b,z,hb⟩=>#[b,z,kt _ _ hb]]
theorem gx.keep{K:ai}{CG CW:Addr}{H H':Hp}{g p:Addr}{hs:Xa}{ts:Xb}{qs:aN}{fp:au}(G:gx K CG CW H g p hs ts qs fp)(k:∀b∈fp,∀o,H b\o->H' b\o)(kt:∀b xs,H b\.tup xs->H' b\.tup xs):gx K CG CW H' g p hs ts qs fp:=by
 let#[dx,dw,dy,vs,dC,h1,h2,h3,h4,h5,m1,m2,m3,m4,m5]:=G.ex;exact#[dx,dw,dy,vs,dC,k _ m1 _ h1,h2.keep (λb hb o e=>k b (m4 b hb) o e) kt,k _ m2 _ h3,k _ m3 _ h4,OA h5 λv hv q h=>h.keep (λa z u e=>k a (m5 v hv a z) u e) kt,m1,m2,m3,m4,m5]
theorem gx.same{K:ai}{CG CW:Addr}{H H':Hp}{g p:Addr}{hs:Xa}{ts:Xb}{qs:aN}{fp:au}(G:gx K CG CW H g p hs ts qs fp)(s:aa H H'):gx K CG CW H' g p hs ts qs fp:=G.keep (λb _ o e=>s b o e) λb xs e=>s b _ e
structure fY (K:ai) (CG:Addr):Prop where
 cl:mU K CG
 nW:mq K CG "web"
 nG:mq K CG p_
 nY:mq K CG AM
structure FV (K:ai) (C:Addr):Prop where
 ha:PySem.W.findIn K (.ref C) "__class__"\some (.builtin "object.__class__")
 hn:PySem.W.specialIn K (.builtin "object.__class__") "__get__"\some (.builtin "getset_descriptor.__get__")
 tk:PySem.W.takesIn K (.builtin "object.__class__")\true
 mo:PySem.W.mroIn K C (.type "object")\true
theorem _b(K:ai)(c:Aa):PySem.W.kitOne K c c\true:=by
 unfold PySem.W.kitOne;rw[aI (beq_self_eq_true c)]
theorem SO{K:ai}{H0 H:Hp}:∀{zs:ag} {qs:aN},Paired (p7 K H0 H) zs qs->∃vs:ag,vs.length=qs.length/\Paired (λz (x:Pc × V)=>∃t,z=.ref t/\H t\.tup [.str x.1.1,.int x.1.2.1,x.2]) zs (qs.zip vs)/\Paired (λv (q:Pc)=>cm K H v q.2.2) vs qs/\∀v∈vs,∀a,v=.ref a->H0 a=none
 |_,_,.nil=>#[[],U,.nil,.nil,by simp]
 |_,_,.cons ⟨t,v,e,ht,wy,hn⟩ r=>by
  let#[vs,h1,h2,h3,h4]:=SO r;apply#[v::vs,by simp[h1],.cons #[t,e,ht] h2,.cons wy h3,λu hu=>?_];rcases bZ.mp hu with rfl|hu
  ·exact hn
  exact h4 u hu
theorem Sh{K:ai}{l D:Addr}{zs:ag}{xs:List (Pc × V)}{H:Hp}{Q:VK}{kh:St}{j:Nat}(sel:Pc × V->V)(hj:∀x:Pc × V,[some (V.str x.1.1),some (V.int x.1.2.1),some x.2][j]? = some (some (sel x)))(sQ:kh=[none,none,none])(hl:H l\.lst zs)
  (pz:Paired (λz (x:Pc × V)=>∃t,z=.ref t/\H t\.tup [.str x.1.1,.int x.1.2.1,x.2]) zs xs) (ou:xs.length<=1000) (hD:H D=none)
  (q:∀H' out,aa H H'->H' D\.lst out->kC K H' out (xs.map λx=>(Sum.inr x.1.1,sel x))->Q (.ref D) H') :
  AJ (yo K l) (fR K 3 (pY (jQ 0) (pY (jQ 1) (pY (jQ 2) tw)))) qw (CJ (ju (oK 0) (ju (oK j) oM))) kh D H Q:=by
 let sz:=cq;let le:=bH pz;apply kL (own:=3) (fv:=[]) (xs:=zs) sQ LZ (λi out H'=>aa H H'/\H' D\.lst out/\kC K H' out ((xs.take i).map λx=>(Sum.inr x.1.1,sel x))) #[aa.new hD,az,.nil] (λi out H' _ ⟨sm,_,_⟩=>.of (sm _ _ hl)) (λout H4 ⟨sm,o8,eo⟩=>?_) (λi y out H' hy ⟨sm,dH,eo⟩=>?_)
 ·rw[le,eS] at eo;exact q _ _ sm o8 eo
 have hi:i<zs.length:=(bX.mp hy).1;have hx:xs[i]? = some (xs[i]' Z2):=aY Z2;let#[t,et,ht]:=d9 pz i hi Z2;rw[(bX.mp hy).2] at et;subst et;generalize xs[i]' Z2=x at hx ht;let lo:=bH eo;rw[av,dM] at lo;apply#[_,#[t,_,_,_,U,.of (sm _ _ ht),U],U,λNx hN=>fA ?_];apply#[_,U,_,hj x,zl,λp hp=>?_];let s2:=aa.new (o:=.tup [.str x.1.1,sel x]) hp;apply#[out,s2 _ _ dH,by omega,hN _ _ #[fL (sm.trans s2) hD,az,?_]];rw[yj _ hx];have pD:∀{b:Addr} {ys:ag},upd H' p (.tup [.str x.1.1,sel x]) b\.tup ys->b≠D:=λhb=>bS hb (s2 _ _ dH) nofun;apply iY (Paired.aX eo λy kv ⟨b,z,hb⟩=>#[b,z,by rw[ax (pD (s2 _ _ hb))];exact s2 _ _ hb]) (.cons #[p,U,?_] .nil);have ko:upd H' p (.tup [.str x.1.1,sel x]) p\.tup [.str x.1.1,sel x]:=az;rw[ax (pD ko)];exact ko
section v
theorem nE:bJ ["self","web","pieces","checked"] ["self","web","pieces"] (a9 lU):=bV
inductive Ih (K:ai) (CG CW:Addr) (vs:ag) (H:Hp) (Q:VK) (E:XK):Prop
 |mk:∀(g dx p l:Addr) (ys:ag) (ps:aN) (hs:Xa) (ts:Xb) (dC:au),vs=[.ref g,.ref p,.ref l]->H g\.ins CG dx []->h_ K CW H p hs ts dC->g∉dC->Good hs ts->H l\.lst ys->kD K H ys ps->(∀q∈ps,j9 ts q)->(ps.map (·.1)).Nodup->ps.length<64->(∀qs fp H',(∀b o,H b\o->b≠g->H' b\o)->gx K CG CW H' g p hs ts qs fp->Qs ps qs->(∀b∈fp,b=g∨b∈dC∨H b=none)->Q .non H')->Ih K CG CW vs H Q E
theorem Zj{f CG CW:Addr}{fd:Ae}(F:bo K "__init__" "Goods.__init__" lU f fd)(T:fY K CG)(TW:Txt K mg CW)(IW:FV K CW)(B:Bi mg)(Kt:mg "Web"\.ref CW)(cP:!br 6 "checked_pieces" ["web","pieces"] (N5 K CW)):!ao a_ 7 f fd ["self","web","pieces"] (Ih K CG CW):=by
 exists F.bU nE;let#[g,dx,p,l,ys,ps,hs,ts,dC,rfl,hg,W,gw,G,hl,pc,gp,nd,cY,k]:=h
 apply#[_,aw (cg (e_ (d8 (cy gJ_ (by rfl) B.jn jr %[1,B4 (v:=.ref CW) (by rfl) Kt U|0]))) gg cj)
  (aw (bu 3 nE.nd (bc cP hr %[1,2|0]))
  (aw (uW (pv 0) (pv 1) U)
  (aw (uW (pv 0) (iO (Bc U) (by rfl) B.dict uT %[js xS 3 [] (dY (pv 3)) (λfp s H=>Fe (n:=3) (dO (fW (i:=0) (show (xS:ae).Nodup by decide +kernel) U (Or.inl U)) (dO (fW (i:=1) (show (xS:ae).Nodup by decide +kernel) U (Or.inl U)) (dO (fW (i:=2) (show (xS:ae).Nodup by decide +kernel) U (Or.inl U)) jh)))) (λfp s H=>kI) (λfp s H=>gh %[0,1|0])|0]) U)
  (aH (uW (pv 0) (iO (Bc U) (by rfl) B.dict uT %[js xS 3 [] (dY (pv 3)) (λfp s H=>Fe (n:=3) (dO (fW (i:=0) (show (xS:ae).Nodup by decide +kernel) U (Or.inl U)) (dO (fW (i:=1) (show (xS:ae).Nodup by decide +kernel) U (Or.inl U)) (dO (fW (i:=2) (show (xS:ae).Nodup by decide +kernel) U (Or.inl U)) jh)))) (λfp s H=>kI) (λfp s H=>gh %[0,2|0])|0]) U))))),?_]
 let#[jL,d1,l2,d3,wO,as,ef,w1,_]:=id W.ex;apply#[_,U,_,_,_,_,U,.ins w1 TW.cl IW.ha IW.hn IW.tk IW.mo,_b _ _,_,U,aM ?_];apply#[_,U,_,U,p,l,ys,ps,hs,ts,dC,U,W,G,hl,pc,gp,nd,cY,λlc zs qs H1 s1 xE pn Qq=>?_];let#[vs,lv,pz,U0,CA]:=SO pn;let EC:=s1 _ _ hg
 have lq:qs.length=ps.length:=by
  have:=eg List.length Qq.zw;rw[av,(FD _).length_eq,av] at this;exact this
 have Wi:(qs.map (·.1)).Nodup:=by
  rw[Qq.zw];exact (FD _).nodup_iff.mpr nd
 apply#[_,U,_,U,g,CG,dx,[],U,EC,T.cl,T.nW,by show 0<1000;decide,?_];have up1:∀{b o},H1 b\o->b≠g->upd H1 g (.ins CG dx (aB "web" (.ref p) [])) b\o:=λe ne=>by rw[ax ne];exact e
 have Lv:upd H1 g (.ins CG dx (aB "web" (.ref p) [])) g\.ins CG dx (aB "web" (.ref p) []):=az
 have Mg:∀{b},upd H1 g (.ins CG dx (aB "web" (.ref p) [])) b=none->H1 b=none:=λ{b} e=>by
  by_cases z:b=g
  ·rw[z,az] at e;cases e
  rw[ax z] at e;exact e
 generalize upd H1 g (.ins CG dx (aB "web" (.ref p) []))=H2 at up1 Lv Mg ⊢;have GH:lc≠g:=bS xE EC nofun;have Ws:Paired (λz (x:Pc × V)=>∃t,z=.ref t/\H2 t\.tup [.str x.1.1,.int x.1.2.1,x.2]) zs (qs.zip vs):=Paired.aX pz λz x ⟨t,e,ht⟩=>#[t,e,up1 ht (bS ht EC nofun)];have mY:(qs.zip vs).length<=1000:=by rw[List.length_zip];omega
 apply#[_,U,lc,U,#[_,.of (up1 xE GH)],λD hD=>?_];apply Sh (λx=>.int x.1.2.1) (λx=>rfl) U (up1 xE GH) Ws mY hD λH3 out s3 xN WB=>?_;apply#[D,out,_,U,xN,WB,by rw[av];exact mY,λdw LC=>?_]
 have MD:((qs.zip vs).map λx:Pc × V=>((Sum.inr x.1.1:Key),V.int x.1.2.1))=kR qs:=by
  unfold kR;have:(λx:Pc × V=>((Sum.inr x.1.1:Key),V.int x.1.2.1))=(λq:Pc=>((Sum.inr q.1:Key),V.int q.2.1)) ∘ Prod.fst:=rfl;rw[this,<- cz,List.map_fst_zip Z2]
 have kj:(qs.map (·.1)).map (Sum.inr:Str->Key) |>.Nodup:=by
  rw[qo,uY];exact Wi.imp λn e=>n (iJ e)
 rw[MD,yd (by rw[SQ];exact kj)];let s4:=aa.new (o:=.dK (kR qs)) LC;let Rb:=s4 _ _ (s3 _ _ Lv);apply#[_,U,g,CG,dx,_,U,Rb,T.cl,T.nG,by show 1<1000;decide,?_];let Gf:=s3.trans s4;have EF:upd H3 dw (.dK (kR qs)) dw\.dK (kR qs):=az;have S9:dw≠g:=(bz (s3 _ _ Lv) LC).symm;have pW:∀{b},upd H3 dw (.dK (kR qs)) b=none->H2 b=none:=λe=>Gf.free e;have dwn:H2 dw=none:=s3.free LC;generalize upd H3 dw (.dK (kR qs))=H4 at s4 Rb Gf EF pW ⊢;have JA:∀{b o},H4 b\o->b≠g->upd H4 g (.ins CG dx (aB p_ (.ref dw) (aB "web" (.ref p) []))) b\o:=λe ne=>by rw[ax ne];exact e
 have Lu:upd H4 g (.ins CG dx (aB p_ (.ref dw) (aB "web" (.ref p) []))) g\.ins CG dx (aB p_ (.ref dw) (aB "web" (.ref p) [])):=az
 have o_:∀{b},upd H4 g (.ins CG dx (aB p_ (.ref dw) (aB "web" (.ref p) []))) b=none->H4 b=none:=λ{b} e=>by
  by_cases z:b=g
  ·rw[z,az] at e;cases e
  rw[ax z] at e;exact e
 generalize upd H4 g (.ins CG dx (aB p_ (.ref dw) (aB "web" (.ref p) [])))=H5 at JA Lu o_ ⊢;have vj:∀{b o},H1 b\o->b≠g->H5 b\o:=λe ne=>JA (Gf _ _ (up1 e ne)) ne;have Wr:Paired (λz (x:Pc × V)=>∃t,z=.ref t/\H5 t\.tup [.str x.1.1,.int x.1.2.1,x.2]) zs (qs.zip vs):=Paired.aX pz λz x ⟨t,e,ht⟩=>#[t,e,vj ht (bS ht EC nofun)];apply#[_,U,lc,U,#[_,.of (vj xE GH)],λD2 Au=>?_];apply Sh (λx=>x.2) (λx=>rfl) U (vj xE GH) Wr mY Au λH6 gj s6 hD6 WA=>?_;apply#[D2,gj,_,U,hD6,WA,by rw[av];exact mY,λdy LB=>?_];rw[show ((qs.zip vs).map λx:Pc × V=>((Sum.inr x.1.1:Key),x.2))=vi qs vs from U,yd (by rw[hU_ lv];exact kj)];let s7:=aa.new (o:=.dK (vi qs vs)) LB;let zg:=s6.trans s7;let Ra:=zg _ _ Lu;apply#[_,U,g,CG,dx,_,U,Ra,T.cl,T.nY,by show 2<1000;decide,?_];have EE:upd H6 dy (.dK (vi qs vs)) dy\.dK (vi qs vs):=az;have dyg:dy≠g:=(bz (s6 _ _ Lu) LB).symm;have dyn:H5 dy=none:=s6.free LB;generalize upd H6 dy (.dK (vi qs vs))=H7 at s7 zg Ra EE ⊢
 have fin:∀{b o},H1 b\o->b≠g->upd H7 g (.ins CG dx (cQ p dw dy)) b\o:=λe ne=>by
  rw[ax ne];exact zg _ _ (vj e ne)
 have CC:∀b xs,H1 b\.tup xs->upd H7 g (.ins CG dx (cQ p dw dy)) b\.tup xs:=λb xs e=>fin e (bS e EC nofun);have nH:∀{b},H1 b=none->H b=none:=λe=>s1.free e;apply k qs (g::dw::dy::(dC++vs.filterMap λv=>match v with | .ref a=>some a|_=>none)) _ (λb o e ne=>fin (s1 _ _ e) ne) #[dx,dw,dy,vs,dC,az,?_,?_,?_,?_,by simp,by simp,by simp,λb hb=>by simp[hb],λv hv a z=>?_] Qq λb hb=>?_
 ·exact W.keep (λb hb o e=>fin (s1 _ _ e) (λz=>gw (z▸hb))) λb xs e=>CC b xs (s1 _ _ e)
 ·rw[ax S9];exact zg _ _ (JA EF S9)
 ·rw[ax dyg];exact EE
 ·exact OA U0 λv hv q h=>h.keep (λa z u e=>fin e (λzz=>by
   subst zz;have:=CA v hv _ z;rw[hg] at this;cases this)) λb xs e=>CC b xs e
 ·apply fX _ (fX _ (fX _ (kP _ (yf.mpr #[v,hv,?_]))));rw[z]
 simp only[bZ,dJ,yf] at hb;rcases hb with rfl|rfl|rfl|hb|⟨v,hv,e⟩
 ·exact .inl U
 ·exact .inr (.inr (nH (Mg dwn)))
 ·exact .inr (.inr (nH (Mg (Gf.free (o_ dyn)))))
 ·exact .inr (.inl hb)
 cases v with
 |ref a=>
  cases e;exact .inr (.inr (CA _ hv _ U))
 |_=>cases e
end
end Ev
namespace L2
open PySem
end L2
namespace Ev
open PySem L2
theorem ex_{kvs:List (Key × V)}{ns:ae}(h:kvs.map (·.1)=ns.map Sum.inr)(x:Str):(aU kvs (Sum.inr x)).isSome=decide (x∈ns):=by
 by_cases hx:x∈ns
 ·rw[cw hx];apply IZ ?_;rw[h];exact bG.mpr #[x,hx,U]
 rw[ft hx,ud]
 ·rfl
 rw[h];intro m;let#[y,hy,e]:=bG.mp m;cases e;exact hx hy
theorem Yg{qs:aN}(nd:(qs.map (·.1)).Nodup){q:Pc}(hq:q∈qs):aU (kR qs) (Sum.inr q.1)\.int q.2.1:=by
 let#[j,hj,e]:=ib hq;have:=ML (ps:=qs) (cs:=qs.map λq=>V.int q.2.1) nd (by rw[av]) (j:=j) (q:=q) (c:=.int q.2.1) (by rw[aY hj,e]) (by rw[dF,aY hj,e];rfl)
 have e2:((qs.zip (qs.map λq=>V.int q.2.1)).map λq=>((Sum.inr q.1.1:Key),q.2))=kR qs:=by
  unfold kR;rw[List.zip_map_right,cz]
  have:qs.zip qs=qs.map λq=>(q,q):=by
   clear nd hq this hj e j
   induction qs with
   |nil=>rfl
   |cons a l ih=>rw[List.zip_cons_cons,ih,eJ]
  rw[this,cz];rfl
 rwa [e2] at this
theorem Ya{qs:aN}{vs:ag}(nd:(qs.map (·.1)).Nodup){K:ai}{H:Hp}(h:Paired (λv (q:Pc)=>cm K H v q.2.2) vs qs){q:Pc}(hq:q∈qs):∃v∈vs,aU (vi qs vs) (Sum.inr q.1)\v/\cm K H v q.2.2:=by
 let#[j,hj,e]:=ib hq;let hl:=bH h;have hv:j<vs.length:=by omega
 let p:=d9 h j hv hj;rw[e] at p;exact#[vs[j],kK hv,ML nd Z2 (by rw[aY hj,e]) (aY hv),p]
def BJ(hs:Xa)(ts:Xb)(o:Option (Xb))(x y:Option Str):Bool:=
 BQ hs ts x y&&match o,x,y with
  |none,_,_=>true
  |some ws,some a,some b=>decide (aK a b∈ws)
  |_,_,_=>false
section v
theorem y8:bJ mF mF (a9 rT):=bV
inductive E8 (K:ai) (CG CW:Addr) (vs:ag) (H:Hp) (Q:VK) (E:XK):Prop
 |mk:∀(g p:Addr) (v:V) (x:Option Str) (hs:Xa) (ts:Xb) (qs:aN) (fp:au),vs=[.ref g,v]->gx K CG CW H g p hs ts qs fp->jZ K H v x->Q (.bl (DW (qs.map (·.1)) x)) H->E8 K CG CW vs H Q E
theorem Yl{f CG CW:Addr}{fd:Ae}(F:bo K "has_piece" "Goods.has_piece" rT f fd)(T:fY K CG)(B:Bi mg):!ao a_ 1 f fd mF (E8 K CG CW):=by
 exists F.bU y8;let#[g,p,v,x,hs,ts,qs,fp,rfl,G,sv,k]:=h;let hu:=fH hr;let#[dx,dw,dy,vs,dC,h1,h2,h3,h4,h5,m1,m2,m3,m4,m5]:=G.ex;apply#[_,aH (bp (pB (cy jU (by rfl) B.jn jr %[1,jT (v:=.ty "str") (by rfl) B.str Hf U|0]) (qg (HP (AW hu (pv 1) (gG (pv 0) U)))))),?_];cases x with
 |some x=>
  cases (show v=.str x from sv);apply#[_,U,_,_,_,_,U,.str x,U,_,U,c_ ?_];apply#[_,U,_,U,g,CG,dx,_,_,U,h1,T.cl,T.nG,Mn _ _ _,dw,_,U,.k (k:=Sum.inr x) h3,?_];rw[ex_ (SQ qs)];exact k
 |none=>
  let#[t,ty,e]:=sv;exact#[_,U,_,_,_,_,U,ty,e,_,U,aM k]
theorem qY:bJ oz oz (a9 M7):=bV
inductive A9 (K:ai) (CG CW:Addr) (vs:ag) (H:Hp) (Q:VK) (E:XK):Prop
 |mk:∀(g p:Addr) (hs:Xa) (ts:Xb) (qs:aN) (fp:au),vs=[.ref g]->gx K CG CW H g p hs ts qs fp->(∀l,H l=none->Q (.ref l) (upd H l (.lst ((qs.map (·.1)).map V.str))))->A9 K CG CW vs H Q E
theorem h8_{f CG CW:Addr}{fd:Ae}(F:bo K "names" "Goods.names" M7 f fd)(T:fY K CG)(B:Bi mg):!ao a_ 1 f fd oz (A9 K CG CW):=by
 exists F.bU qY;let#[g,p,hs,ts,qs,fp,rfl,G,k]:=h;let#[dx,dw,dy,vs,dC,h1,h2,h3,h4,h5,m1,m2,m3,m4,m5]:=G.ex;apply#[_,aH (bp (iO (NL U) (by rfl) B.list yc %[gG (pv 0) U|0])),?_];apply#[_,U,g,CG,dx,_,_,U,h1,T.cl,T.nG,Mn _ _ _,dw,_,U,.inl h3,λl hl=>?_]
 have e:((kR qs).map λkv=>kV kv.1)=(qs.map (·.1)).map V.str:=by
  unfold kR;rw[cz,cz];rfl
 rw[e];exact k l hl
structure Ref (K:ai) (mg:Str->Option Aa) (x:Str) (C:Addr):Prop where
 mg:mg x\.ref C
 ex:PySem.W.excIn K C [.type "ValueError",.type "Exception",.type "BaseException",.type "object"] "ValueError.__new__"=true
theorem oQ:bJ ["self","piece"] ["self","piece"] (a9 Ol):=bV
inductive Oa (K:ai) (CG CW CP:Addr) (vs:ag) (H:Hp) (Q:VK) (E:XK):Prop
 |mk:∀(g p:Addr) (v:V) (x:Option Str) (hs:Xa) (ts:Xb) (qs:aN) (fp:au),vs=[.ref g,v]->gx K CG CW H g p hs ts qs fp->(qs.map (·.1)).Nodup->jZ K H v x->((∃q∈qs,x\q.1/\Q (.int q.2.1) H)∨False)->Oa K CG CW CP vs H Q E
theorem fw_{f CG CW CP:Addr}{fd:Ae}(F:bo K "weight" "Goods.weight" Ol f fd)(T:fY K CG)(cH:!bM CG 1 "has_piece" mF (E8 K CG CW)):!ao a_ 2 f fd ["self","piece"] (Oa K CG CW CP):=by
 exists F.bU oQ;let#[g,p,v,x,hs,ts,qs,fp,rfl,G,nd,sv,k]:=h;let hu:=fH hr;let#[dx,dw,dy,vs,dC,h1,h2,h3,h4,h5,m1,m2,m3,m4,m5]:=id G.ex;have kq:(cQ p dw dy).lookup ("has_piece":Str)=none:=uX _ _ _ Z0 Z0 Z0;apply#[_,aw (cg (e_ (d8 (iX cH T.cl hr (pv 0) %[1|0]))) gg cj) (aH (bp (mJ hu (gG (pv 0) U) (pv 1)))),?_];apply#[_,U,g,dx,_,U,h1,kq,_,U,g,p,v,x,hs,ts,qs,fp,U,G,sv,_,U,?_];rcases k with⟨q,hq,rfl,k⟩|k
 ·cases (show v=.str q.1 from sv);rw[show DW (qs.map (·.1)) (some q.1)=true from cw (bG.mpr #[q,hq,U])];apply aM ?_;apply#[_,U,g,CG,dx,_,_,U,h1,T.cl,T.nG,Mn _ _ _,_,U,dw,_,U,?_,k];rw[<- Yg nd hq];exact .k (k:=Sum.inr q.1) h3
 exact k.elim
theorem qZ:bJ ["self","piece","one","other","ties"] ["self","piece","one","other"] (a9 rR):=bV
inductive lu (K:ai) (CG CW CP:Addr) (vs:ag) (H:Hp) (Q:VK) (E:XK):Prop
 |mk:∀(g p:Addr) (v u1 u2:V) (x y1 y2:Option Str) (hs:Xa) (ts:Xb) (qs:aN) (fp:au),vs=[.ref g,v,u1,u2]->gx K CG CW H g p hs ts qs fp->(qs.map (·.1)).Nodup->(aS hs).Nodup->jZ K H v x->((∃q∈qs,x\q.1/\jZ K H u1 y1/\jZ K H u2 y2/\∀H',aa H H'->Q (.bl (BJ hs ts q.2.2 y1 y2)) H')∨False)->lu K CG CW CP vs H Q E
theorem YH{f CG CW CP:Addr}{fd:Ae}(F:bo K "may_go" "Goods.may_go" rR f fd)(T:fY K CG)(TW:Txt K mg CW)(cH:!bM CG 1 "has_piece" mF (E8 K CG CW))(cT:!bM CW 2 "are_tied" jX (IK K CW))(cL:!br 1 "lesser_first" mz IA) :
  ao P w K mg base a_ 3 f fd ["self","piece","one","other"] (lu K CG CW CP):=by
 exists F.bU qZ;let#[g,p,v,u1,u2,x,y1,y2,hs,ts,qs,fp,rfl,G,nd,oY,sv,k]:=h;let hu:=fH hr;have iD:aP 1 _:=hr.mono (by decide);let#[dx,dw,dy,vs,dC,h1,h2,h3,h4,h5,m1,m2,m3,m4,m5]:=id G.ex;have kq:(cQ p dw dy).lookup ("has_piece":Str)=none:=uX _ _ _ Z0 Z0 Z0;let#[jL,d1,l2,d3,wO,as,ef,w1,_]:=id h2.ex;have zV:(fi d1 l2 d3).lookup ("are_tied":Str)=none:=pF _ _ _ Z0 Z0 Z0
 apply#[_,aw (cg (e_ (d8 (iX cH T.cl iD (pv 0) %[1|0]))) gg cj)
  (aw (cg (e_ (d8 (iX cT TW.cl hr (gG (pv 0) U) %[2,3|0]))) (aH (bp il)) cj)
  (aw (bu 4 qZ.nd (mJ hu (gG (pv 0) U) (pv 1)))
  (aH (bp (XY (HP (Hj (pv 4))) (qg (pG (L5 (Fh i_ i_) (uP hr _)) (bc cL hr %[2,3|0]) (pv 4) (by with_unfolding_all rfl)))))))),?_]
 apply#[_,U,g,dx,_,U,h1,kq,_,U,g,p,v,x,hs,ts,qs,fp,U,G,sv,_,U,?_];rcases k with⟨q,hq,rfl,s1,s2,k⟩|k
 ·cases (show v=.str q.1 from sv);rw[show DW (qs.map (·.1)) (some q.1)=true from cw (bG.mpr #[q,hq,U])];apply aM ?_;apply#[_,U,g,CG,dx,_,_,U,h1,T.cl,T.nW,yb _ _ _,p,jL,_,U,w1,zV,_,U,_,U,p,u1,u2,y1,y2,hs,ts,dC,U,h2,oY,s1,s2,_,U,?_];cases tb:BQ hs ts y1 y2 with
  |false=>
   apply c_ ?_;have:=k H (aa.refl H);unfold BJ at this;rw[tb,Bool.false_and] at this;exact this
  |true=>
   apply aM ?_;let#[u,sR,eu,wy]:=Ya nd h5 hq;apply#[_,U,g,CG,dx,_,_,U,h1,T.cl,T.nY,YF _ _ _,_,U,dy,u,U,?_,?_]
   ·rw[<- eu];exact .k (k:=Sum.inr q.1) h4
   apply#[_,U,_,U,?_];unfold BJ at k;rw[tb] at k;cases e:q.2.2 with
   |none=>
    rw[e] at wy k;cases (show u=.non from wy);exact c_ (k H (aa.refl H))
   |some ws=>
    rw[e] at wy k;let#[a,ys,rfl,ha,tu]:=wy;cases y1 with
    |none=>cases tb
    |some a1=>
     cases y2 with
     |none=>cases tb
     |some a2=>
      cases (show u1=.str a1 from s1);cases (show u2=.str a2 from s2);apply aM #[_,U,_,U,a1,a2,U,λt ht=>?_];have s3:aa H (upd H t (.tup [.str (aK a1 a2).1,.str (aK a1 a2).2])):=aa.new ht;apply#[_,U,aK a1 a2,ws,#[t,_,_,U,.of az,U,U],#[a,ys,U,.of (s3 _ _ ha),My (tu.same s3)],?_];let z:=k _ s3;rw[Bool.true_and] at z;rw[aC gN];show Q (.bl _) _;have z:Q (.bl (decide (aK a1 a2∈ws))) (upd H t (.tup [.str (aK a1 a2).1,.str (aK a1 a2).2])):=z;generalize upd H t (.tup [.str (aK a1 a2).1,.str (aK a1 a2).2])=Hz at z ⊢;by_cases hm:aK a1 a2∈ws
      ·simpa [hm] using z
      simpa [hm] using z
 exact k.elim
end
end Ev
namespace L2
open PySem PySem.Spec PyProof.Rows PySem.W
theorem Y8{P:Ad}{w:Af}{k:Key}{key:Aa}(h:(dX P w).is k key=true):RelV (kV k) key:=by
 have e2:wo k key=true:=h;rcases ql e2 with⟨i,t,rfl,rfl⟩|⟨x,t,rfl,rfl⟩
 ·exact#[t,U]
 exact#[t,U]
def Itm(d:Addr)(o:Obj)(kvs:List (Key × V)):It:=#[λi H=>H d\.frz o (.dK kvs)/\i<kvs.length,λi H y H'=>∃t k x,y=.ref t/\H t=none/\kvs[i]? = some (k,x)/\H'=upd H t (.tup [kV k,x]),λi H=>H d\.frz o (.dK kvs)/\kvs.length<=i]
theorem fH_{P:Ad}{w:Af}{K:ai}{elts:List Expr}{kk:Nat}{pos:Pos}(d it:Addr)(o:Obj)(kvs:List (Key × V)){es:Array DictEntry}{ep:Nat}(ho:o.data=.dict es ep):Turn P w K (.Tuple elts kk pos) (Itm d o kvs) [it] it (λi h=>∃ok ov,IsItemIter h it d i kvs.length ep ok ov) where
 mem:=by simp
 obj:=λi h st b hb=>by
  obtain rfl:b=it:=⇑hb
  let#[ok,ov,q]:=st;exact#[_,q,λv z=>by cases z]
 keep:=λi h h' st k=>by
  let#[ok,ov,q]:=st;exact#[ok,ov,k it Y0 _ q]
 item:=by
  intro X hP hw hK hc i pins s σ H E I hf st hg;subst hP hw hK;let#[hd,hi]:=hg;let#[vs,rel,dat]:=Tb I hd ho;obtain⟨⟨k,x⟩,hx⟩:∃p,kvs[i]? = some p:=#[kvs[i],by simp[hi]];let#[u,hu,ru]:=L4 rel i hx;let#[ok,ov,st]:=st;have Zr:it<s.heap.objs.size:=bx st;rw[rel.length] at st;apply wpAny_pyNext_items_item st dat hu λkey h' hk out ht sz kp=>?_;apply#[_,U,wpAny_letOwnedTupleGo_items (s:={ s with heap:=h' }) out λh2 eV sb=>?_];have nT:s.heap.objs.size≠it:=iu Zr;have I1:Inv X pins σ (upd H s.heap.objs.size (.tup [kV k,x])) { s with heap:=h2 }:=I.gR (t':=s.toks) (fp:=[it]) (its:=[key,u]) (λb o hb q=>(sb.2 b ⇑hb).trans (kp b o ⇑hb q)) hf (bh _) (zl) (.cons (Y8 hk) (.cons ru .nil)) #[#[_,(sb.2 _ nT).trans ht,U,_,U],_,(sb.2 _ nT).trans ht,U];apply#[.ref _,_,I1,U,#[_,k,x,U,I.aA.fresh (bh _),hx,U],#[_,_,by rw[rel.length];exact eV],λb hb=>?_];have e:b=it:=⇑hb
  rw[ax (λz=>nT (z.symm.trans e))];exact (hf b hb).1
 done:=by
  intro X hP hw hK hc i pins s σ H E I hf st hg;subst hP hw hK;let#[hd,hi]:=hg;let#[vs,rel,dat]:=Tb I hd ho;let#[f0,f1,f2,f3,f4,f5]:=hf it Y0;let#[ok,ov,st]:=st;rw[rel.length] at st hi;exact wpAny_pyNext_items_end (I.ok.hd hc) st dat (by simp;omega) λh' eb=>#[U,I.turned (t':=s.toks) (λb o hb e=>eb b o hb e) f0 f1 f3 f4 f5]
 self:=λA i s Q E st h=>by
  let#[ok,ov,q]:=st;exact kcp_self q h
inductive nV (R:It->Hp->Prop) (x:V) (H1:Hp):Prop
 |mk:∀v d kvs,x=.ref v->H1 v\tU v d->H1 d\.dK kvs->(∀o,R (Itm d o kvs) (upd H1 d (.frz o (.dK kvs))))->nV R x H1
def zG(tv:TE):TI:=λσ H R=>tv σ H λx H1=>nV R x H1
theorem MI{X:Cx}{elts:List Expr}{kk:Nat}{p2:Pos}{e:Expr}{tv:TE}(he:PE X e tv):PI X (.Tuple elts kk p2) e (zG tv):=by
 intro pins s σ H R I h;apply aO (he pins s σ H _ I h) λu s1 ⟨x,H1,I1,r1,v,d,kvs,ex,hv,hd,q⟩=>?_;subst ex;cases r1;let#[iv,_,_]:=I1.aA v _ hv;let#[o,ho,I2]:=I1.freeze hd;let#[z,_,vs,rel,o',es,ep,oa,c',dt,r]:=EW I1.aA hd;rw[ho] at oa;cases oa;apply wpAny_pyIter_items (knd:=dX X.prog X.w) (kvs:=vs) (ep:=ep) iv #[o,es,ho,c',dt,r] ?_;apply#[s1.heap.objs.size,[s1.heap.objs.size],_,_,_,U,I2.kept (t':=s1.toks) λb o e=>aQ _ e,fH_ d _ o kvs dt,?_,λb hb=>?_,q o]
 ·rw[rel.length];exact#[.none,.none,cJ _ U]
 obtain rfl:b=s1.heap.objs.size:=⇑hb
 exact I2.iH (bh _) (I2.aA.fresh (bh _))
theorem NY{d:Addr}{o:Obj}{kvs:List (Key × V)}{g:TG}{tb:TS}{D:Ends}{σ:St}{H:Hp}(Pv:bR)(h0:Pv 0 σ H)(hl:∀i σ H,i<=kvs.length->Pv i σ H->H d\.frz o (.dK kvs))
  (hs:∀i k x σ H,kvs[i]? = some (k,x)->Pv i σ H->∀t,H t=none->g (.ref t) σ (upd H t (.tup [kV k,x])) λfw H2=>tb { D with nx:=Pv (i+1),ct:=Pv (i+1),bk:=D.nx } fw H2) (hd:∀σ H,Pv kvs.length σ H->D.nx σ H) :
  ∃W:Nat->Nat->St->Hp->Prop,(∃m,W 0 m σ H)/\∀i m σ H,W i m σ H->
   ((Itm d o kvs).stop i H/\D.nx σ H)∨((Itm d o kvs).go i H/\∃N:St->Hp->Prop,(∀aZ H',N aZ H'->∃m',m'<m/\W (i+1) m' aZ H')/\∀x H',(Itm d o kvs).uA i H x H'->g x σ H' λfw H2=>tb { D with nx:=N,ct:=N,bk:=D.nx } fw H2):=by
 apply#[λi m σ H=>m=kvs.length - i/\i<=kvs.length/\Pv i σ H,#[kvs.length,by simp,gP _,h0],?_];rintro i m σ H ⟨rfl,hi,p⟩;let q:=hl i σ H hi p;by_cases dI:i<kvs.length
 ·apply .inr #[#[q,dI],Pv (i+1),λaZ H' p'=>#[kvs.length - (i+1),by omega,U,dI,p'],λx H' y=>?_];let#[t,k,x,rfl,ht,hx,rfl]:=y;exact hs i k x σ H hx p t ht
 have e:i=kvs.length:=by omega
 subst e;exact .inl #[#[q,bh _],hd σ H p]
inductive qz (t:TS) (D:Ends) (σ:St) (H:Hp):Prop
 |mk:∀d kvs,H d\.dK kvs->t { nx:=λmV H1=>∃o,H1 d\.frz o (.dK kvs)/\D.nx mV (upd H1 d (.dK kvs)),rt:=λv H1=>∃o,H1 d\.frz o (.dK kvs)/\D.rt v (upd H1 d (.dK kvs)) } σ H->qz t D σ H
theorem Rq{X:Cx}{st:Stmt}{t:TS}(h:PS X st t):PS X st (qz t):=by
 intro pins s σ H D I q;let#[d,kvs,hd,q]:=q
 have nf:∀o u,X.j8 d≠some (.frz o u):=λo u z=>by
  have:=I.base.hY _ _ _ z;rw[hd] at this;cases this
 apply aO (h pins s σ H _ I q) λf s' p=>?_;cases f with
 |next=>
  let#[mV,H1,I1,o,hf,q1]:=p;exact#[mV,_,I1.qv hf nf,q1]
 |brk=>
  let#[mV,H1,I1,q1]:=p;exact False.elim q1
 |cont=>
  let#[mV,H1,I1,q1]:=p;exact False.elim q1
 |ret u=>
  let#[v,mV,H1,I1,r,o,hf,q1]:=p;exact#[v,mV,_,I1.qv hf nf,r,q1]
end L2
namespace Ev
open PySem L2
structure Fz (d:Addr) (o:Obj) (kvs:List (Key × V)) (H H':Hp):Prop where
 at_:H' d\.frz o (.dK kvs)
 sm:∀b u,b≠d->H b\u->H' b\u
section
variable{d:Addr}{o:Obj}{kvs:List (Key × V)}{H H' H2:Hp}
theorem Fz.start:Fz d o kvs H (upd H d (.frz o (.dK kvs))):=#[az,λb u ne e=>by rw[ax ne];exact e]
theorem Fz.step(f:Fz d o kvs H H')(s:aa H' H2):Fz d o kvs H H2:=#[s _ _ f.at_,λb u ne e=>s _ _ (f.sm b u ne e)]
theorem Fz.qv(f:Fz d o kvs H H')(hd:H d\.dK kvs):aa H (upd H' d (.dK kvs)):=λb u e=>by
 by_cases z:b=d
 ·subst z;rw[hd] at e;cases e;exact az
 rw[ax z];exact f.sm b u z e
theorem Fz.xO{K:ai}{CG CW g p:Addr}{hs:Xa}{ts:Xb}{qs:aN}{fp:au}(f:Fz d o kvs H H')(hd:H d\.dK kvs)(G:gx K CG CW H g p hs ts qs fp)(nd:d∉fp):gx K CG CW H' g p hs ts qs fp:=
 G.keep (λb hb u e=>f.sm b u (λz=>nd (z▸hb)) e) λb xs e=>f.sm b _ (bS e hd nofun) e
end
def dW(ns:ae)(g:Str->V):List (Key × V):=ns.map λn=>(Sum.inr n,g n)
theorem B6(ns:ae)(g:Str->V):(dW ns g).map (·.1)=ns.map Sum.inr:=by
 unfold dW;rw[cz];rfl
theorem oA(ns:ae)(g:Str->V):(dW ns g).length=ns.length:=av _
theorem BZ{ns:ae}{g:Str->V}{n:Str}(h:n∈ns):aU (dW ns g) (Sum.inr n)\g n:=by
 induction ns with
 |nil=>cases h
 |cons m ns ih=>
  by_cases e:m=n
  ·subst e;exact x_ U
  have:aU (dW (m::ns) g) (Sum.inr n)=aU (dW ns g) (Sum.inr n):=x8 λz=>e (iJ z);rw[this];rcases bZ.mp h with z|z
  ·exact absurd z.symm e
  exact ih z
theorem IS{ns:ae}{g k:Str->V}(h:∀n∈ns,g n=k n):dW ns g=dW ns k:=u4 λn hn=>by rw[h n hn]
theorem Rw{ns:ae}{g:Str->V}{n:Str}{v:V}(h:n∈ns):putK (dW ns g) (Sum.inr n) v=dW ns λm=>if m=n then v else g m:=by
 unfold putK;rw[aI]
 ·unfold dW;rw[cz];apply u4 λm _=>?_;by_cases e:m=n
  ·subst e;simp
  have:¬((Sum.inr m:Key)=Sum.inr n):=λz=>e (iJ z);simp[e]
 apply List.any_eq_true.mpr #[(Sum.inr n,g n),bG.mpr #[n,h,U],by simp]
theorem RI{ns:ae}{g:Str->V}{n:Str}{v:V}(h:n∉ns):putK (dW ns g) (Sum.inr n) v=dW (ns++[n]) λm=>if m=n then v else g m:=by
 rw[wz _ (ud (by
  rw[B6];intro m;let#[x,hx,e]:=bG.mp m;exact h (iJ e▸hx)))]
 unfold dW;rw[er];congr 1
 ·apply u4 λm hm=>?_;have e:¬m=n:=λz=>h (z▸hm);simp[e]
 simp
theorem L0{ns:ae}{g:Str->V}{i:Nat}{k:Key}{x:V}(h:(dW ns g)[i]? = some (k,x)):∃n,ns[i]? = some n/\k=Sum.inr n/\x=g n:=by
 unfold dW at h;rw[dF] at h;cases e:ns[i]? with
 |none=>rw[e] at h;cases h
 |some n=>
  rw[e] at h;let h:=cX h;exact#[n,U,(eg Prod.fst h).symm,(eg Prod.snd h).symm]
theorem SZ{ns:ae}(nd:ns.Nodup){i:Nat}{n:Str}(h:ns[i]? = some n):n∉ns.take i:=by
 let q:=FE (g:=id) (ts:=ns) (by rw[List.map_id];exact nd) h;rwa [List.map_id] at q
theorem uS{ns:ae}{i:Nat}{n:Str}(h:ns[i]? = some n):ns.take (i+1)=ns.take i++[n]:=by
 rw[ua,h];rfl
abbrev gC(ns:ae)(f:bF):List (Key × V):=dW ns λn=>.str (f n)
def fg(q:Pc):Str × Int:=(q.1,q.2.1)
def ld(f:bF)(ws:Xa)(h:Str):Int:=((ws.filter λx=>decide (f x.1=h)).map (·.2)).sum
theorem RH(f:bF)(ws:Xa)(x:Str × Int)(h:Str):ld f (ws++[x]) h=if h=f x.1 then ld f ws h+x.2 else ld f ws h:=by
 unfold ld;rw[List.filter_append];by_cases e:f x.1=h
 ·rw[aI e.symm,er,List.sum_append];simp[e]
 rw[aC λz=>e z.symm];simp[e]
theorem Q3:∀{l:List Int},(∀x∈l,0<=x)->0<=l.sum
 |[],_=>by simp
 |x::l,h=>by
  rw[List.sum_cons];have:=h x gF;have:=Q3 (l:=l) λy hy=>h y (fX _ hy);omega
theorem X_{f:bF}{ws:Xa}{h:Str}(p:∀x∈ws,0<=x.2):0<=ld f ws h:=Q3 λx hx=>by
 let#[y,hy,rfl]:=bG.mp hx;exact p y (mL.mp hy).1
theorem gk_{α:Type}{ps:List (Str × α)}(nd:(ps.map (·.1)).Nodup){a b:Str × α}(ha:a∈ps)(hb:b∈ps)(e:a.1=b.1):a=b:=by
 induction ps with
 |nil=>cases ha
 |cons p ps ih=>
  rw[eJ,iZ] at nd;rcases bZ.mp ha with za|ha
  ·rcases bZ.mp hb with zb|hb
   ·rw[za,zb]
   rw[za] at e;exact absurd (show p.1∈ps.map (·.1) from bG.mpr #[b,hb,e.symm]) nd.1
  rcases bZ.mp hb with zb|hb
  ·rw[zb] at e;exact absurd (show p.1∈ps.map (·.1) from bG.mpr #[a,ha,e]) nd.1
  exact ih nd.2 ha hb
def strOf(hs:Xa)(n:Str):Int:=((hs.find? λh=>decide (h.1=n)).map (·.2)).getD 0
theorem I0{hs:Xa}{n:Str}(h:n∈hs.map (·.1)):(n,strOf hs n)∈hs:=by
 unfold strOf;let#[x,hx,e]:=bG.mp h;cases q:hs.find? λh=>decide (h.1=n) with
 |none=>
  have:=List.find?_eq_none.mp q x hx;simp[e] at this
 |some y=>
  let m:=List.mem_of_find?_eq_some q;have:=List.find?_some q;have e2:y.1=n:=⇑this
  show (n,y.2)∈hs;rw[<- e2];exact m
theorem Sg{hs:Xa}(nd:(hs.map (·.1)).Nodup){n:Str}{s:Int}(h:(n,s)∈hs):strOf hs n=s:=by
 let m:=I0 (bG.mpr #[_,h,U]:n∈hs.map (·.1));exact eg Prod.snd (gk_ nd m h U)
def fr(a b:Int):Int × Int:=(a / (Int.gcd a b:Int),b / (Int.gcd a b:Int))
theorem Zy{a b:Int}(ha:0<=a)(h:0<b):Int.gcd b (a % b)=Int.gcd a b:=by
 let#[m,rfl]:=yg ha;let#[n,rfl]:=yg (iP h);rw[<- Int.natCast_emod];show Nat.gcd n (m % n)=Nat.gcd m n;rw[Nat.gcd_comm n,<- Nat.gcd_rec,Nat.gcd_comm]
section v
theorem oP:bJ ["one","other","rest","divisor","left"] mz (a9 J2):=bV
def vw:Sp:=λvs H Q _=>∃a b:Int,vs=[.int a,.int b]/\0<=a/\0<b/\Q (.int (Int.gcd a b)) H
theorem X7{f:Addr}{fd:Ae}(F:bo K BO BO J2 f fd):!ao a_ 1 f fd mz vw:=by
 exists F.bU oP;let#[a,b,rfl,ha,hb,k]:=h;refine' #[_,aw ?s1 (aw ?s2 (aw ?s3 ?s4)),?kk]
 case s1=>exact bu 2 oP.nd (pv 0)
 case s2=>exact bu 3 oP.nd (pv 1)
 case s3=>exact Iq dN (eZ pX (pv 2) ay) (aw (bu 4 oP.nd (bP AX (pv 3) (pv 2))) (aw (bu 3 oP.nd (pv 2)) (aH (bu 2 oP.nd (pv 4)))))
 case s4=>exact aH (bp (pv 3))
 apply#[_,U,_,U,?_];apply Z4 (λσ H'=>H'=H/\∃(r d:Int) (v4:aE),σ=[some (.int a),some (.int b),some (.int r),some (.int d),v4]/\0<=r/\0<d/\Int.gcd r d=Int.gcd a b) (λσ _=>match σ with | [_,_,some (.int r),_,_]=>r.toNat|_=>0) #[U,a,b,none,U,ha,hb,U] ?_ ?_
 ·rintro σ H' ⟨rfl,r,d,v4,rfl,jG,hd,e⟩;apply#[_,U,U,_,U,?_];apply bQ (λc=>?_) (λc=>?_)
  ·have iD:0<r:=by
    have:r≠0:=by
     intro z;subst z;simp at c
    omega
   apply#[_,U,_,U,_,_,U,U,iD,_,U,_,U,?_];let h1:=Int.emod_nonneg d (Int.ne_of_gt iD);let h2:=Int.emod_lt_of_pos d iD;apply#[#[U,_,_,_,U,h1,iD,?_],?_]
   ·rw[<- e,Int.gcd_comm (d % r) r,Zy (iP hd) iD,Int.gcd_comm]
   show (d % r).toNat<r.toNat;omega
  have iD:r=0:=⇑c
  subst iD;apply#[_,U,?_]
  have e2:(Int.gcd a b:Int)=d:=by
   rw[<- e,Int.gcd_zero_left];omega
  rw[<- e2];exact k
 intro σ H' Q1 Q2 hq h;let#[x,e,h1,c,h2,h3]:=h;exact#[x,e,h1,c,h2,hq _ _ h3]
end
end Ev
namespace Ev
open PySem L2
theorem X5{a b:Int}(hb:0<b)(mi:b<=1000):0<(Int.gcd a b:Int)/\(Int.gcd a b:Int)<1073741824:=by
 have h1:0<Int.gcd a b:=Int.gcd_pos_of_ne_zero_right a Z2;have h2:(Int.gcd a b:Int) ∣ b:=Int.gcd_dvd_right a b;let h3:=Int.le_of_dvd hb h2;omega
section v
structure M4 (hs:Xa) (qs:aN) (ns:ae) (f:bF):Prop where
 perm:ns.Perm (qs.map (·.1))
 at_:∀n∈ns,f n∈hs.map (·.1)
theorem IC:bJ ["goods","stand","piece","hand","names"] ["goods","stand"] (a9 Np):=bV
inductive IE (K:ai) (CG CW:Addr) (vs:ag) (H:Hp) (Q:VK) (E:XK):Prop
 |mk:∀(g p d:Addr) (hs:Xa) (ts:Xb) (qs:aN) (fp:au) (ns:ae) (f:bF),vs=[.ref g,.ref d]->gx K CG CW H g p hs ts qs fp->d∉fp->H d\.dK (gC ns f)->M4 hs qs ns f->(qs.map (·.1)).Nodup->qs.length<64->(∀d' H',aa H H'->H d'=none->H' d'\.dK (gC (qs.map (·.1)) f)->Q (.ref d') H')->IE K CG CW vs H Q E
theorem gX_{f CG CW:Addr}{fd:Ae}(F:bo K "checked_stand" "checked_stand" Np f fd)(B:Bi mg)(T:fY K CG)(TW:Txt K mg CW)(cH:!bM CG 1 "has_piece" mF (E8 K CG CW))(cW:!bM CW 1 "has_hand" mF (BS K CW))(cN:!bM CG 1 "names" oz (A9 K CG CW)) :
  ao P w K mg base a_ 2 f fd ["goods","stand"] (IE K CG CW):=by
 exists F.bU IC;let#[g,p,d,hs,ts,qs,fp,ns,f,rfl,G,tK,hd,so,nd,cY,k]:=h;let hu:=fH hr;let sz:=cq;refine' #[_,?r0,?kk]
 case' r0=>refine' aw ?s1 ?r1
 case s1=>exact cg (e_ (d8 (cy jU (by rfl) B.jn jr %[1,jT (v:=.ty "dict") (by rfl) B.dict uT U|0]))) gg cj
 case' r1=>refine' aw ?s2 ?r2
 case' s2=>refine' Rq (d4 dN U ?i2 ?g2 ?b2)
 case i2=>exact MI (Iz (pv 1))
 case g2=>exact mw U (dO (cu 2 IC.nd) (dO (cu 3 IC.nd) jh))
 case b2=>exact aw (cg (e_ (d8 (iX cH T.cl hr (pv 0) %[2|0]))) gg cj) (aH (cg (e_ (d8 (iX cW TW.cl hr (gG (pv 0) U) %[3|0]))) gg cj))
 case' r2=>refine' aw ?s3 ?r3
 case s3=>exact bu 4 IC.nd (xX cN T.cl hr (pv 0))
 case' r3=>refine' aw ?s4 (aH ?s5)
 case s4=>exact cg (eZ pX (cy _M (by rfl) B.len gE %[1|0]) (cy iq (by rfl) B.len gE %[4|0])) gg cj
 case s5=>exact bp (iO (Bc U) (by rfl) B.dict uT %[js ["piece","stand"] 1 [1] (dY (pv 4)) (λfp s H=>fW (i:=0) (show (["piece","stand"]:ae).Nodup by decide +kernel) U (Or.inl U)) (λfp s H=>kI) (λfp s H=>gh %[0,mJ hu (pv 1) (pv 0)|0])|0])
 have Xh:ns.length=qs.length:=by rw[so.perm.length_eq,av]
 apply#[_,U,_,_,_,_,U,.dK hd,U,_,U,aM ?_];apply#[d,_,hd,?_];apply#[_,U,d,_,U,hd,λv hv=>?_];let#[s1,xw]:=aD (o:=tU v d) hv;let G1:=G.same s1;let pV:=s1 _ _ hd;generalize upd H v (tU v d)=H1 at s1 xw G1 pV ⊢;apply#[v,d,_,U,xw,pV,λo=>?_];apply NY (λi σ H'=>∃(v2 v3:aE),σ=[some (.ref g),some (.ref d),v2,v3,none]/\Fz d o (gC ns f) H1 H') #[none,none,U,Fz.start] (λi σ H' _ ⟨_,_,_,z⟩=>z.at_) ?_ ?_
 ·rintro i ky x σ H2 hx ⟨v2,v3,rfl,fz⟩ t ht;let#[n,hn,rfl,rfl]:=L0 hx;let nm:=cZ hn;let s2:=aa.new (o:=.tup [.str n,.str (f n)]) ht;let Ax:=fz.step s2;have e2:upd H2 t (.tup [.str n,.str (f n)]) t\.tup [.str n,.str (f n)]:=az;show fR _ _ _ _ _ (upd H2 t (.tup [.str n,.str (f n)])) _;generalize upd H2 t (.tup [.str n,.str (f n)])=H3 at s2 Ax e2 ⊢;apply#[t,_,U,.of e2,U,_,_,U,_,_,U,U,?_];let G3:=Ax.xO pV G1 tK;let#[dx,dw,dy,vs,dC,h1,h2,h3,h4,h5,m1,m2,m3,m4,m5]:=id G3.ex;let#[jL,d1,l2,d3,wO,as,ef,w1,_]:=id h2.ex;have kq:(cQ p dw dy).lookup ("has_piece":Str)=none:=uX _ _ _ Z0 Z0 Z0;have zV:(fi d1 l2 d3).lookup ("has_hand":Str)=none:=pF _ _ _ Z0 Z0 Z0;apply#[_,U,g,dx,_,U,h1,kq,_,U,g,p,.str n,some n,hs,ts,qs,fp,U,G3,U,_,U,?_];rw[show DW (qs.map (·.1)) (some n)=true from cw (so.perm.mem_iff.mp nm)];apply aM ?_;apply#[_,U,g,CG,dx,_,_,U,h1,T.cl,T.nW,yb _ _ _,p,jL,_,U,w1,zV,_,U,p,f n,hs,ts,dC,U,h2,_,U,?_];rw[cw (so.at_ n nm)];exact aM #[_,_,U,Ax]
 rintro σ H2 ⟨v2,v3,rfl,fz⟩;apply#[o,fz.at_,?_];let s2:=s1.trans (fz.qv pV);have hd2:upd H2 d (.dK (gC ns f)) d\.dK (gC ns f):=az;generalize upd H2 d (.dK (gC ns f))=H3 at s2 hd2 ⊢;let G3:=G.same s2;let#[dx,dw,dy,vs,dC,h1,h2,h3,h4,h5,m1,m2,m3,m4,m5]:=id G3.ex;apply#[_,U,g,dx,_,U,h1,uX _ _ _ Z0 Z0 Z0,g,p,hs,ts,qs,fp,U,G3,λln xD=>?_];let#[s3,e3]:=aD (o:=.lst ((qs.map (·.1)).map V.str)) xD;let md:=s3 _ _ hd2;generalize upd H3 ln (.lst ((qs.map (·.1)).map V.str))=H4 at s3 e3 md ⊢;apply#[_,U,d,_,U,md,_,U,ln,_,U,.inl (.of e3),U,_,U,?_];rw[oA,av,av,Xh];simp only[bne_self_eq_false,decide_true,Bool.not_true];apply aM ?_;let lY:=s2.trans s3;apply#[_,U,ln,U,#[_,.of e3],λD hD=>?_];apply kL (own:=1) (fv:=[some (.ref d)]) (xs:=(qs.map (·.1)).map V.str) U fF (λi out H'=>aa H4 H'/\H' D\.lst out/\kC K H' out (gC ((qs.map (·.1)).take i) f)) #[aa.new hD,az,.nil] (λi out H' _ ⟨sm,_,_⟩=>.of (sm _ _ e3)) (λout H5 ⟨sm,i7,pa⟩=>?_) (λi y out H' hy ⟨sm,dH,pa⟩=>?_)
 ·rw[av,eS] at pa;apply#[D,out,_,U,i7,pa,by rw[oA,av];omega,λd' hU=>?_]
  have kj:((gC (qs.map (·.1)) f).map (·.1)).Nodup:=by
   rw[B6,qo,uY];exact nd.imp λn e=>n (iJ e)
  rw[yd kj];exact k d' _ ((lY.trans sm).trans (aa.new hU)) (lY.free (sm.free hU)) az
 let#[n,hn,rfl]:=mI hy;have hi:i<(qs.map (·.1)).length:=(bX.mp hn).1;rw[av] at hi;have nm:n∈ns:=so.perm.mem_iff.mpr (cZ hn);apply#[_,U,U,λNx hN=>fA ?_];apply#[_,U,_,U,_,U,d,.str (f n),U,?_,zl,λt ht=>?_]
 ·rw[<- BZ (g:=λn=>V.str (f n)) nm];exact .k (k:=Sum.inr n) (sm _ _ md)
 let s5:=aa.new (o:=.tup [.str n,.str (f n)]) ht;let lo:=bH pa;rw[oA,dM,av] at lo;apply#[out,s5 _ _ dH,by omega,hN _ _ #[fL (sm.trans s5) hD,az,?_]];have D9:upd H' t (.tup [.str n,.str (f n)]) t\.tup [.str n,.str (f n)]:=az;have pD:∀{b:Addr} {ys:ag},upd H' t (.tup [.str n,.str (f n)]) b\.tup ys->b≠D:=λhb=>bS hb (s5 _ _ dH) nofun;rw[uS hn];show kC K _ _ (((qs.map (·.1)).take i++[n]).map _);rw[er];exact iY (Paired.aX pa λy kv ⟨b,z,hb⟩=>#[b,z,by rw[ax (pD (s5 _ _ hb))];exact s5 _ _ hb]) (.cons #[t,U,by rw[ax (pD D9)];exact D9] .nil)
end
end Ev
namespace Ev
open PySem L2
theorem h_.has{K:ai}{C:Addr}{H:Hp}{p:Addr}{hs:Xa}{ts:Xb}{fp:au}(W:h_ K C H p hs ts fp){b:Addr}(hb:b∈fp):∃o,H b\o:=by
 let#[dx,d1,l2,d3,zs,as,rfl,h1,h2,h3,h4,h5,h6,h7]:=W.ex;simp only[bZ] at hb;rcases hb with rfl|rfl|rfl|rfl|hb
 ·exact#[_,h1]
 ·exact#[_,h2]
 ·exact#[_,h3]
 ·exact#[_,h5]
 let#[i,hi,e]:=ib hb;exact#[_,h7 i ((aS hs)[i]' Z2) b (aY Z2) (by rw[<- e];exact aY hi)]
theorem gx.slim{K:ai}{CG CW:Addr}{H:Hp}{g p:Addr}{hs:Xa}{ts:Xb}{qs:aN}{fp:au}(G:gx K CG CW H g p hs ts qs fp):∃uJ,gx K CG CW H g p hs ts qs uJ/\∀b∈uJ,∃o,H b\o:=by
 let#[dx,dw,dy,vs,dC,h1,h2,h3,h4,h5,m1,m2,m3,m4,m5]:=G.ex;apply#[g::dw::dy::(dC++vs.filterMap λv=>match v with | .ref a=>some a|_=>none),#[dx,dw,dy,vs,dC,h1,h2,h3,h4,h5,by simp,by simp,by simp,λb hb=>by simp[hb],λv hv a z=>?_],λb hb=>?_]
 ·have:a∈vs.filterMap λv=>match v with | .ref a=>some a|_=>none:=yf.mpr #[v,hv,by rw[z]];simp only[bZ,dJ];exact .inr (.inr (.inr (.inr this)))
 simp only[bZ,dJ] at hb;rcases hb with rfl|rfl|rfl|hb|hb
 ·exact#[_,h1]
 ·exact#[_,h3]
 ·exact#[_,h4]
 ·exact h2.has hb
 let#[v,hv,e]:=yf.mp hb;let#[i,hi,ev]:=ib hv;let le:=bH h5;let w:=d9 h5 i hi Z2;rw[ev] at w;cases o:(qs[i]' Z2).2.2 with
 |none=>
  rw[o] at w;rw[show v=.non from w] at e;cases e
 |some ws=>
  rw[o] at w;let#[a,ys,ea,ha,_]:=w;rw[ea] at e;cases e;exact#[_,ha]
section
variable{d d2:Addr}{o:Obj}{kvs:List (Key × V)}{H H' H1:Hp}{u:HO}
theorem Fz.yJ(s:aa H H1):Fz d o kvs H (upd H1 d (.frz o (.dK kvs))):=#[az,λb u ne e=>by rw[ax ne];exact s _ _ e]
theorem Fz.put(f:Fz d o kvs H H')(hn:H d2=none)(ne:d2≠d):Fz d o kvs H (upd H' d2 u):=#[by rw[ax ne.symm];exact f.at_,λb u nb e=>by rw[ax (bz e hn)];exact f.sm b u nb e]
end
section v
theorem Jh:bJ ["goods","placed","hand","found","piece"] ph (a9 MT):=bV
structure B3 (K:ai) (CG CW:Addr) (H:Hp) (g p d:Addr) (hs:Xa) (ts:Xb) (qs:aN) (fp:au) (f:bF):Prop where
 G:gx K CG CW H g p hs ts qs fp
 Gd:Good hs ts
 tK:d∉fp
 hd:H d\.dK (gC (qs.map (·.1)) f)
 at_:∀n∈qs.map (·.1),f n∈hs.map (·.1)
 nd:(qs.map (·.1)).Nodup
 cY:qs.length<64
abbrev Qa(hs:Xa)(qs:aN)(f:bF):List (Key × V):=dW (aS hs) λh=>.int (ld f (qs.map fg) h)
inductive Od (K:ai) (CG CW:Addr) (vs:ag) (H:Hp) (Q:VK) (E:XK):Prop
 |mk:∀(g p d:Addr) (hs:Xa) (ts:Xb) (qs:aN) (fp:au) (f:bF),vs=[.ref g,.ref d]->B3 K CG CW H g p d hs ts qs fp f->(∀d' H',aa H H'->H d'=none->H' d'\.dK (Qa hs qs f)->Q (.ref d') H')->Od K CG CW vs H Q E
theorem ft_{f CG CW CP:Addr}{fd:Ae}(F:bo K "loads_at" "loads_at" MT f fd)(B:Bi mg)(T:fY K CG)(TW:Txt K mg CW)(cH:!bM CW 1 "hands" oz (Fx K CW))(cW:!bM CG 2 "weight" ["self","piece"] (Oa K CG CW CP)) :
  ao P w K mg base a_ 3 f fd ph (Od K CG CW):=by
 exists F.bU Jh;let#[g,p,d,hs,ts,qs,fp,f,rfl,Pl,k]:=h;let hu:=fH hr;let sz:=cq;have iD:aP 1 _:=hr.mono (by decide);refine' #[_,?r0,?kk]
 case' r0=>refine' aw ?s1 ?r1
 case s1=>exact bu 3 Jh.nd (iO (Bc U) (by rfl) B.dict uT %[js ["hand"] 1 [] (dY (xX cH TW.cl iD (gG (pv 0) U))) (λfp s H=>fW (i:=0) (show (["hand"]:ae).Nodup by decide +kernel) U (Or.inl U)) (λfp s H=>kI) (λfp s H=>gh %[0,ay|0])|0])
 case' r1=>refine' aw ?s2 ?r2
 case' s2=>refine' Rq (d4 dN U ?i2 ?g2 (aH ?b2))
 case i2=>exact MI (Iz (pv 1))
 case g2=>exact mw U (dO (cu 4 Jh.nd) (dO (cu 2 Jh.nd) jh))
 case b2=>exact tW hu (pv 3) (pv 2) (bP gz (mJ hu (pv 3) (pv 2)) (iX cW T.cl hr (pv 0) %[4|0])) U
 case r2=>exact aH (bp (pv 3))
 let nl:=Pl.Gd.iB;let h8:=Pl.Gd.h8;let#[dx,dw,dy,vs,dC,h1,h2,h3,h4,h5,m1,m2,m3,m4,m5]:=id Pl.G.ex;let#[jL,d1,l2,d3,wO,as,ef,w1,_]:=id h2.ex;have zV:(fi d1 l2 d3).lookup ("hands":Str)=none:=pF _ _ _ Z0 Z0 Z0;apply#[_,U,g,CG,dx,_,_,U,h1,T.cl,T.nW,yb _ _ _,p,jL,_,U,w1,zV,p,hs,ts,dC,U,h2,λlh fZ=>?_];let#[s1,e1]:=aD (o:=.lst ((aS hs).map V.str)) fZ;generalize upd H lh (.lst ((aS hs).map V.str))=H1 at s1 e1 ⊢;apply#[lh,U,#[_,.of e1],λD hD=>?_];apply kL (own:=1) (fv:=[]) (xs:=(aS hs).map V.str) U fF (λi out H'=>aa H1 H'/\H' D\.lst out/\kC K H' out (dW ((aS hs).take i) λ_=>.int 0)) #[aa.new hD,az,.nil] (λi out H' _ ⟨sm,_,_⟩=>.of (sm _ _ e1)) (λout H5 ⟨sm,i7,pa⟩=>?_) (λi y out H' hy ⟨sm,dH,pa⟩=>?_);rotate_left 1
 ·let#[n,hn,rfl]:=mI hy;have hi:i<(aS hs).length:=(bX.mp hn).1;apply#[_,U,U,λNx hN=>fA ?_];apply#[_,U,zl,λt ht=>?_];let s5:=aa.new (o:=.tup [.str n,.int 0]) ht;let lo:=bH pa;rw[oA,dM] at lo;apply#[out,s5 _ _ dH,by omega,hN _ _ #[fL (sm.trans s5) hD,az,?_]];have D9:upd H' t (.tup [.str n,.int 0]) t\.tup [.str n,.int 0]:=az;have pD:∀{b:Addr} {ys:ag},upd H' t (.tup [.str n,.int 0]) b\.tup ys->b≠D:=λhb=>bS hb (s5 _ _ dH) nofun;rw[uS hn];show kC K _ _ (((aS hs).take i++[n]).map _);rw[er];exact iY (Paired.aX pa λy kv ⟨b,z,hb⟩=>#[b,z,by rw[ax (pD (s5 _ _ hb))];exact s5 _ _ hb]) (.cons #[t,U,by rw[ax (pD D9)];exact D9] .nil)
 rw[av,eS] at pa;apply#[D,out,_,U,i7,pa,by rw[oA];omega,λd2 hd2=>?_]
 have kj:((dW (aS hs) λ_=>V.int 0).map (·.1)).Nodup:=by
  rw[B6,qo,uY];exact Pl.Gd.oY.imp λn e=>n (iJ e)
 rw[yd kj];let s2:=(s1.trans sm).trans (aa.new (o:=.dK (dW (aS hs) λ_=>V.int 0)) hd2);have e2:upd H5 d2 (.dK (dW (aS hs) λ_=>V.int 0)) d2\.dK (dW (aS hs) λ_=>V.int 0):=az;have n2:H d2=none:=s1.free (sm.free hd2);show vo _ _ _ _ (upd H5 d2 (.dK (dW (aS hs) λ_=>V.int 0)));generalize upd H5 d2 (.dK (dW (aS hs) λ_=>V.int 0))=H6 at s2 e2 ⊢;have Nu:d2≠d:=(bz Pl.hd n2).symm;apply#[d,_,s2 _ _ Pl.hd,?_];apply#[_,U,d,_,U,s2 _ _ Pl.hd,λv hv=>?_];let#[s3,xw]:=aD (o:=tU v d) hv;let e3:=s3 _ _ e2;let d0:=s2.trans s3;generalize upd H6 v (tU v d)=H7 at s3 xw e3 d0 ⊢;apply#[v,d,_,U,xw,d0 _ _ Pl.hd,λo=>?_];apply NY (λi σ H'=>∃(v2 v4:aE),σ=[some (.ref g),some (.ref d),v2,some (.ref d2),v4]/\Fz d o (gC (qs.map (·.1)) f) H H'/\H' d2\.dK (dW (aS hs) λh=>.int (ld f ((qs.take i).map fg) h))) #[none,none,U,Fz.yJ d0,by rw[ax Nu];exact e3] (λi σ H' _ ⟨_,_,_,z,_⟩=>z.at_) ?_ ?_
 ·rintro i ky x σ H8 hx ⟨v2,v4,rfl,fz,e8⟩ t ht;let#[n,hn,rfl,rfl]:=L0 hx
  have hi:i<qs.length:=by
   have:=(bX.mp hn).1;rwa [av] at this
  have hq:qs[i]? = some (qs[i]'hi):=aY hi
  have en:n=(qs[i]'hi).1:=by
   rw[dF,hq] at hn;exact (cX hn).symm
  have fm:f n∈aS hs:=(gO hs).mem_iff.mpr (Pl.at_ n (cZ hn));generalize qs[i]'hi=q at hq en;let s8:=aa.new (o:=.tup [.str n,.str (f n)]) ht;let Ax:=fz.step s8;let e9:=s8 _ _ e8;have et:upd H8 t (.tup [.str n,.str (f n)]) t\.tup [.str n,.str (f n)]:=az;show fR _ _ _ _ _ (upd H8 t (.tup [.str n,.str (f n)])) _;generalize upd H8 t (.tup [.str n,.str (f n)])=H9 at s8 Ax e9 et ⊢;apply#[t,_,U,.of et,U,_,_,U,_,_,U,U,?_];let G9:=Ax.xO Pl.hd Pl.G Pl.tK;let#[dx,dw,dy,vs,dC,h1,h2,h3,h4,h5,m1,m2,m3,m4,m5]:=id G9.ex;have kq:(cQ p dw dy).lookup ("weight":Str)=none:=uX _ _ _ Z0 Z0 Z0;apply#[_,U,_,U,d2,.int (ld f ((qs.take i).map fg) (f n)),U,?_,_,U,g,dx,_,U,h1,kq,_,U,g,p,.str n,some n,hs,ts,qs,fp,U,G9,Pl.nd,U,.inl #[q,cZ hq,eg some en,?_]]
  ·rw[<- BZ (g:=λh=>V.int (ld f ((qs.take i).map fg) h)) fm];exact .k (k:=Sum.inr (f n)) e9
  apply#[_,_,U,U,_,U,_,U,d2,_,U,.k (k:=Sum.inr (f n)) e9 (by rw[oA];omega),?_];apply#[_,_,U,Ax.put n2 Nu,?_];rw[az,Rw fm];congr 2;apply IS λm _=>?_
  have e5:(qs.take (i+1)).map fg=(qs.take i).map fg++[fg q]:=by
   rw[ua,hq,er];rfl
  rw[e5,RH];show (if m=f n then V.int (ld f ((qs.take i).map fg) (f n)+q.2.1) else V.int (ld f ((qs.take i).map fg) m))=V.int (if m=f q.1 then _ else _);rw[<- en];by_cases z:m=f n
  ·rw[aI z,aI z,z];rfl
  rw[aC z,aC z]
 rintro σ H8 ⟨v2,v4,rfl,fz,e8⟩;apply#[o,fz.at_,?_];rw[oA,av,eS] at e8;exact#[_,U,k d2 _ (fz.qv Pl.hd) n2 (by rw[ax Nu];exact e8)]
end
end Ev
namespace Ev
open PySem L2
structure Std (K:ai) (CG CW:Addr) (H:Hp) (g p d:Addr) (hs:Xa) (ts:Xb) (qs:aN) (fp:au) (ns:ae) (f:bF):Prop where
 G:gx K CG CW H g p hs ts qs fp
 Gd:Good hs ts
 tK:d∉fp
 hd:H d\.dK (gC ns f)
 ok:M4 hs qs ns f
 nd:(qs.map (·.1)).Nodup
 cY:qs.length<64
 wp:∀q∈qs,0<=q.2.1
end Ev
namespace Ev
open PySem L2
theorem C4{t u:TS}{D:Ends}{σ:St}{H:Hp}(R:iS)(later:∀σ H,R σ H->u D σ H)(now:∀N:St->Hp->Prop,(∀σ H,R σ H->N σ H)->t { D with nx:=N } σ H):vo t u D σ H:=now (u D) later
theorem setG{i:Nat}{v:V}{σ:St}{H:Hp}{N:iS}(h:N (σ.set i (some v)) H):jQ i v σ H N:=h
structure ke (P:Ad) (w:Af) (K:ai) (mg:Str->Option Aa) (base:Heap) (C:Addr) (k:Nat) (x:Str) (ps:ae) (sp:Sp):Prop where
 ex:∃f fd,ao P w K mg base a_ k f fd ps sp/\Mk K C f/\mg x\.ref C/\pZ K fd ps []
theorem GO{n_:Nat}{X:Cx}{C:Addr}{k:Nat}{x:Str}{ps:ae}{sp:Sp}{p pos:Pos}{e:Expr}{es:List Expr}{t:TA}(c:ke X.prog X.w X.K X.mg X.base C k x ps sp)(hr:aP n_ X.A)(ha:PA X (e::es) t)(hg:Gl X x:=by rfl)(sZ:(x == ("__debug__":Str))=false:=by decide)
  (he:starEach (e::es) X.env=(false,eval e X.env)::starEach es X.env:=by rfl) (iE:(backTo pos (starEach es X.env)).any (·.1)=false:=by rfl) (hk:(k+1)<=n_:=by decide):PE X (.Call (.Name x p) (e::es) [] pos) (wW C sp [] E0 t):=by
 let#[f,fd,F,M,m,b]:=c.ex;exact Yt M F (hr.mono hk) hg m b .nil nQ ha sZ he iE
end Ev
local macro_rules|`(tactic|lk)=>`(tactic|(refine Ev.setG ?_;dsimp only))
namespace L2
open PySem PySem.Spec PyProof.Rows PySem.W
section
variable{X:Cx}
inductive rZ (K:ai) (x:V) (y:V) (H:Hp) (Q:VK):Prop
 |mk:∀a b xs,x=.ref a->y=.ref b->dU K H a xs->dU K H b []->Q (.bl (!xs.isEmpty)) H->rZ K x y H Q
theorem Nh(hu:X.A.units+0+1<cLine):d_ X (compareOp .NotEq) (rZ X.K):=by
 intro pins s σ H x y v u Q I rx ry h;let#[a,b,xs,rfl,rfl,t,t',hq]:=h;cases xs with
 |nil=>exact XA i_ hu pins s σ H (.ref a) (.ref b) v u Q I rx ry #[[],[],#[a,[],U,t,.nil],#[b,[],U,t',.nil],hq]
 |cons z zs=>
  cases rx;cases ry;let#[us,r,pl,_]:=I.list t;let#[vs,r',Gn,_]:=I.list t';let l1:=r.length;let l2:=r'.length;exact Jl.gX pl.isList Gn.isList (by simp only[dh,bne_iff_ne];simp at l1 l2;omega) Z2 #[.bl true,H,I,U,hq]
end
end L2
namespace Ev
open PySem L2
def gI(a n:Int):Int:=a / (Int.gcd a n:Int) * n
theorem Y9{a n:Int}(ha:0<a)(hn:0<n):gI a n=(Int.lcm a n:Int):=by
 let#[p,rfl]:=yg (iP ha);let#[q,rfl]:=yg (iP hn);show ((p:Int) / ((Nat.gcd p q:Nat):Int)) * (q:Int)=((Nat.lcm p q:Nat):Int);rw[<- Int.natCast_ediv,<- Int.natCast_mul,Nat.div_mul_right_comm (Nat.gcd_dvd_left p q)];rfl
def jE(ns:List Int):Int:=ns.foldl gI 1
theorem Io:∀(ns:List Int) (a:Int),0<a->(∀n∈ns,0<n)->0<ns.foldl gI a/\∀x:Int,0<=x->(ns.foldl gI a ∣ x ↔ a ∣ x/\∀n∈ns,n ∣ x)
 |[],a,ha,_=>#[ha,λx _=>by simp]
 |n::ns,a,ha,h=>by
  let hn:=h n gF;let e:=Y9 ha hn
  have p:0<gI a n:=by
   rw[e];have:=Nat.lcm_pos (m:=a.natAbs) (n:=n.natAbs) Z2 Z2;have:0<Int.lcm a n:=this;omega
  let#[h1,h2]:=Io ns (gI a n) p λm hm=>h m (fX _ hm);apply#[h1,λx hx=>(h2 x hx).trans ?_];let#[z,rfl]:=yg hx;rw[e,Int.natCast_dvd_natCast,Int.lcm_dvd_iff];constructor
  ·rintro⟨⟨q1,q2⟩,q3⟩
   exact#[q1,λm hm=>by
    rcases bZ.mp hm with rfl|hm
    ·exact q2
    exact q3 m hm]
  rintro⟨q1,q2⟩;exact#[#[q1,q2 n gF],λm hm=>q2 m (fX _ hm)]
theorem MR{ns:List Int}(h:∀n∈ns,0<n):0<jE ns:=(Io ns 1 (by decide) h).1
theorem _c{ns:List Int}(h:∀n∈ns,0<n){n:Int}(hn:n∈ns):n ∣ jE ns:=
 (((Io ns 1 (by decide) h).2 _ (iP (MR h))).mp (Int.dvd_refl _)).2 n hn
theorem YQ(f:bF)(x:Str × Int)(ws:Xa)(h:Str):ld f (x::ws) h=(if f x.1=h then x.2 else 0)+ld f ws h:=by
 unfold ld;by_cases e:f x.1=h
 ·simp[e]
 simp[e]
end Ev
namespace Ev
open PySem L2
theorem Qe{f:bF}{h:Str}:∀{ws:Xa},(∀x∈ws,0<=x.2/\x.2<=1000000000)->ld f ws h<=1000000000 * ws.length
 |[],_=>by
  unfold ld;simp
 |x::ws,p=>by
  let h1:=p x gF;let h2:=Qe (f:=f) (h:=h) (ws:=ws) λy hy=>p y (fX _ hy);rw[YQ,iR];by_cases z:f x.1=h
  ·rw[aI z];omega
  rw[aC z];omega
def f_(hs:Xa):Int:=jE ((aS hs).map (strOf hs))
theorem AZ{hs:Xa}{ts:Xb}(G:Good hs ts){n:Str}(h:n∈aS hs):1<=strOf hs n/\strOf hs n<=1000:=(G.aA _ (I0 ((gO hs).mem_iff.mp h))).2
section v
theorem vz:bJ ["numbers","found","number"] ["numbers"] (a9 J1):=bV
def CZ(K:ai):Sp:=λvs H Q _=>∃(l:Addr) (ns:List Int),vs=[.ref l]/\dU K H l (ns.map V.int)/\(∀n∈ns,1<=n/\n<=1000)/\Q (.int (jE ns)) H
theorem hG_{ns:List Int}{i:Nat}{n:Int}(h:ns[i]? = some n):jE (ns.take (i+1))=gI (jE (ns.take i)) n:=by
 unfold jE;rw[ua,h,List.foldl_append];rfl
theorem eB_{ns:List Int}{i:Nat}{y:V}(h:(ns.map V.int)[i]? = some y):∃n,ns[i]? = some n/\y=.int n:=by
 rw[dF] at h;cases e:ns[i]? with
 |none=>rw[e] at h;cases h
 |some n=>rw[e] at h;exact#[n,U,(cX h).symm]
theorem X6{f:Addr}{fd:Ae}(F:bo K "least_multiple" "least_multiple" J1 f fd)(cG:!br 1 BO mz vw):!ao a_ 2 f fd ["numbers"] (CZ K):=by
 exists F.bU vz;let#[l,ns,rfl,hl,b,k]:=h;refine' #[_,aw ?s1 (aw ?s2 (aH ?s3)),?kk]
 case s1=>exact bu 1 vz.nd ay
 case s2=>exact d4 dN U (dY (pv 0)) (cu 2 vz.nd) (aH (bu 1 vz.nd (bP qc (bP Fo (pv 1) (bc cG hr %[1,2|0])) (pv 2))))
 case s3=>exact bp (pv 1)
 apply#[_,U,l,U,#[_,hl],ia (K:=K) (a:=l) (xs:=ns.map V.int) (λi σ H'=>H'=H/\∃(v2:aE),σ=[some (.ref l),some (.int (jE (ns.take i))),v2]) #[U,none,U] (λi σ H' _ ⟨e,_⟩=>by rw[e];exact hl) ?_ ?_]
 ·rintro i y σ H' hy ⟨rfl,v2,rfl⟩;let#[n,hn,rfl]:=eB_ hy;let bn:=b n (cZ hn)
  let p:=MR (ns:=ns.take i) λm hm=>by
   have:=b m (List.take_subset _ _ hm);omega
  apply#[_,U,_,U,_,U,_,_,U,iP p,by omega,_,_,U,U,X5 Z2 bn.2,_,U,_,_,U,U,.inr #[by omega,by omega],U,some (.int n),?_];rw[hG_ hn];rfl
 rintro σ H' ⟨rfl,v2,rfl⟩;apply#[_,U,?_];rw[av,eS];exact k
theorem yX:bJ ["web"] ["web"] (a9 rM):=bV
inductive Ho (K:ai) (C:Addr) (vs:ag) (H:Hp) (Q:VK) (E:XK):Prop
 |mk:∀(p:Addr) (hs:Xa) (ts:Xb) (fp:au),vs=[.ref p]->h_ K C H p hs ts fp->Good hs ts->(∀H',aa H H'->Q (.int (f_ hs)) H')->Ho K C vs H Q E
theorem YZ{f CW:Addr}{fd:Ae}(F:bo K j1 j1 rM f fd)(TW:Txt K mg CW)(cL:!br 2 "least_multiple" ["numbers"] (CZ K))(cH:!bM CW 1 "hands" oz (Fx K CW))(cS:!bM CW 2 "strength" wc (Jb K CW)):!ao a_ 3 f fd ["web"] (Ho K CW):=by
 exists F.bU yX;let#[p,hs,ts,fp,rfl,W,G,k]:=h;let sz:=cq;let nl:=G.iB;let h8:=G.h8;refine' #[_,aH (bp (bc cL hr %[js ["hand","web"] 1 [0] (dY (xX cH TW.cl (hr.mono (by decide)) (pv 0))) (λfp s H=>fW (i:=0) (show (["hand","web"]:ae).Nodup by decide +kernel) U (Or.inl U)) (λfp s H=>kI) (λfp s H=>?e1)|0])),?kk]
 case e1=>exact iX cS TW.cl hr (pv 1) %[0|0]
 let#[jL,d1,l2,d3,wO,as,ef,w1,_]:=id W.ex;apply#[_,U,p,jL,_,U,w1,pF _ _ _ Z0 Z0 Z0,p,hs,ts,fp,U,W,λlh fZ=>?_];let#[s1,e1]:=aD (o:=.lst ((aS hs).map V.str)) fZ;generalize upd H lh (.lst ((aS hs).map V.str))=H1 at s1 e1 ⊢;apply#[lh,U,#[_,.of e1],λD hD=>?_];apply kL (own:=1) (fv:=[some (.ref p)]) (xs:=(aS hs).map V.str) U fF (λi out H'=>aa H1 H'/\H' D\.lst out/\out=(((aS hs).take i).map (strOf hs)).map V.int) #[aa.new hD,az,U] (λi out H' _ ⟨sm,_,_⟩=>.of (sm _ _ e1)) (λout H5 ⟨sm,i7,eo⟩=>?_) (λi y out H' hy ⟨sm,dH,eo⟩=>?_)
 ·rw[av,eS] at eo;rw[eo] at i7;apply#[D,_,U,.of i7,λn hn=>?_,k H5 (s1.trans sm)];let#[m,hm,rfl]:=bG.mp hn;exact AZ G hm
 let#[n,hn,rfl]:=mI hy;have hi:i<(aS hs).length:=(bX.mp hn).1;apply#[_,U,U,λNx hN=>fA ?_];let W':=(W.same s1).same sm;let#[jL,d1,l2,d3,wO,as,ef,w1,_]:=id W'.ex;apply#[_,U,p,jL,_,U,w1,pF _ _ _ Z0 Z0 Z0,_,U,p,n,strOf hs n,hs,ts,fp,U,W',G.pT,I0 ((gO hs).mem_iff.mp (cZ hn)),?_];apply#[out,dH,by rw[eo,av,av,dM];omega,hN _ _ #[fL sm hD,az,?_]];rw[uS hn,er,er,eo];rfl
theorem FK:bJ ["goods","placed","multiple","found","hand","load"] ph (a9 Nb):=bV
def fK(hs:Xa)(qs:aN)(f:bF)(h:Str):Int:=ld f (qs.map fg) h * (f_ hs / strOf hs h)
inductive NV (K:ai) (CG CW:Addr) (vs:ag) (H:Hp) (Q:VK) (E:XK):Prop
 |mk:∀(g p d:Addr) (hs:Xa) (ts:Xb) (qs:aN) (fp:au) (f:bF),vs=[.ref g,.ref d]->B3 K CG CW H g p d hs ts qs fp f->(∀q∈qs,0<=q.2.1/\q.2.1<=1000000000)->(∀d' H',aa H H'->H d'=none->H' d'\.dK (dW (aS hs) λh=>.int (fK hs qs f h))->Q (.ref d') H')->NV K CG CW vs H Q E
theorem GN{qs:aN}(wp:∀q∈qs,0<=q.2.1/\q.2.1<=1000000000)(cY:qs.length<64)(f:bF)(h:Str):0<=ld f (qs.map fg) h/\ld f (qs.map fg) h<=64000000000:=by
 have p:∀x∈qs.map fg,0<=x.2/\x.2<=1000000000:=λx hx=>by
  let#[q,hq,rfl]:=bG.mp hx;exact wp q hq
 let h1:=Qe (f:=f) (h:=h) p;rw[av] at h1;exact#[X_ λx hx=>(p x hx).1,by omega]
theorem g9_{f CG CW:Addr}{fd:Ae}(F:bo K "levels_at" "levels_at" Nb f fd)(T:fY K CG)(TW:Txt K mg CW)(cL:!br 3 "loads_at" ph (Od K CG CW))(cM:!br 3 j1 ["web"] (Ho K CW))(cS:!bM CW 2 "strength" wc (Jb K CW)) :
  ao P w K mg base a_ 4 f fd ph (NV K CG CW):=by
 exists F.bU FK;let#[g,p,d,hs,ts,qs,fp,f,rfl,Pl,wp,k]:=h;let hu:=fH hr;let sz:=cq;have n5:aP 2 _:=hr.mono (by decide);refine' #[_,?r0,?kk]
 case' r0=>refine' aw ?s0 (aw ?s1 (aw ?s2 ?r2))
 case s0=>exact bu 2 FK.nd (bc cM hr %[gG (pv 0) U|0])
 case s1=>exact bu 3 FK.nd FG
 case' s2=>refine' d4 dN U ?i2 ?g2 (aH ?b2)
 case i2=>exact MI (Iz (bc cL hr %[0,1|0]))
 case g2=>exact mw U (dO (cu 4 FK.nd) (dO (cu 5 FK.nd) jh))
 case b2=>exact tW hu (pv 3) (pv 4) (bP qc (pv 5) (bP Fo (pv 2) (iX cS TW.cl n5 (gG (pv 0) U) %[4|0]))) U
 case r2=>exact aH (bp (pv 3))
 let nl:=Pl.Gd.iB;let h8:=Pl.Gd.h8;let#[dx,dw,dy,vs,dC,h1,h2,_]:=id Pl.G.ex;apply#[_,U,g,CG,dx,_,_,U,h1,T.cl,T.nW,yb _ _ _,p,hs,ts,dC,U,h2,Pl.Gd,λH0 s0=>?_];intro d2 hd2;let s1:=s0.trans (aa.new (o:=.dK []) hd2);have e1:upd H0 d2 (.dK []) d2\.dK []:=az;have n2:H d2=none:=s0.free hd2;show vo _ _ _ _ (upd H0 d2 (.dK []));generalize upd H0 d2 (.dK [])=H1 at s1 e1 ⊢;have Pl1:B3 K CG CW H1 g p d hs ts qs fp f:=#[Pl.G.same s1,Pl.Gd,Pl.tK,s1 _ _ Pl.hd,Pl.at_,Pl.nd,Pl.cY];apply#[_,U,_,U,g,p,d,hs,ts,qs,fp,f,U,Pl1,λdl H2 s2 BG e2=>?_];apply#[dl,_,U,e2,λv hv=>?_];let#[s3,xw]:=aD (o:=tU v dl) hv;let e3:=s3 _ _ e2;let J7:=s2.trans s3;generalize upd H2 v (tU v dl)=H3 at s3 xw e3 J7 ⊢;have WX:H dl=none:=s1.free BG;have TL:d2≠dl:=bz e1 BG;apply#[v,dl,_,U,xw,e3,λo=>?_];apply NY (λi σ H'=>∃(v4 v5:aE),σ=[some (.ref g),some (.ref d),some (.int (f_ hs)),some (.ref d2),v4,v5]/\aa H H'/\H' dl\.frz o (.dK (Qa hs qs f))/\H' d2\.dK (dW ((aS hs).take i) λh=>.int (fK hs qs f h))) #[none,none,U,fL (s1.trans J7) WX,az,by rw[ax TL];exact J7 _ _ e1] (λi σ H' _ ⟨_,_,_,_,z,_⟩=>z) ?_ ?_
 ·rintro i ky x σ H8 hx ⟨v4,v5,rfl,s8,f8,e8⟩ t ht;let#[n,hn,rfl,rfl]:=L0 hx;have hi:i<(aS hs).length:=(bX.mp hn).1;have nm:n∈hs.map (·.1):=(gO hs).mem_iff.mp (cZ hn);let sm:=I0 nm;let sg:=AZ Pl.Gd (cZ hn);let lo:=GN wp Pl.cY f n;let ss:=aa.new (o:=.tup [.str n,.int (ld f (qs.map fg) n)]) ht;let s9:=s8.trans ss;let e9:=ss _ _ e8;let f9:=ss _ _ f8;have et:upd H8 t (.tup [.str n,.int (ld f (qs.map fg) n)]) t\.tup [.str n,.int (ld f (qs.map fg) n)]:=az;show fR _ _ _ _ _ (upd H8 t (.tup [.str n,.int (ld f (qs.map fg) n)])) _;generalize upd H8 t (.tup [.str n,.int (ld f (qs.map fg) n)])=H9 at ss s9 e9 f9 et ⊢;apply#[t,_,U,.of et,U,_,_,U,_,_,U,U,?_];let G9:=Pl.G.same s9;let#[dx,dw,dy,vs,dC,h1,h2,h3,h4,h5,m1,m2,m3,m4,m5]:=id G9.ex;let#[jL,d1,l2,d3,wO,as,ef,w1,_]:=id h2.ex;have zV:(fi d1 l2 d3).lookup ("strength":Str)=none:=pF _ _ _ Z0 Z0 Z0;apply#[_,U,_,U,_,U,g,CG,dx,_,_,U,h1,T.cl,T.nW,yb _ _ _,p,jL,_,U,w1,zV,_,U,p,n,strOf hs n,hs,ts,dC,U,h2,Pl.Gd.pT,sm,?_];apply#[_,_,U,U,#[by omega,by omega],_,_,U,U,.inl #[by omega,by omega],_,U,_,U,d2,_,U,.k (k:=Sum.inr n) e9 (by rw[oA,dM];omega),?_];apply#[_,_,U,fL s9 n2,by rw[ax TL.symm];exact f9,?_];rw[az,uS hn,RI (SZ Pl.Gd.oY hn)];congr 2;apply IS λm _=>?_;by_cases z:m=n
  ·subst z;simp[fK]
  simp[z]
 rintro σ H8 ⟨v4,v5,rfl,s8,f8,e8⟩;rw[oA,eS] at e8;exact#[_,U,k d2 H8 s8 n2 e8]
end
end Ev
namespace L2
open PySem PySem.Spec PyProof.Rows PySem.W
section
variable{prog:Ad}{w:Af}{A:Ag}
theorem Td{d it:Addr}{vs:List (Key × Aa)}{ep:Nat}(hh:A.handled=none)(l9:d≠it):Walks prog w A it [it,d] [it] vs.length (λi v=>∃k,vs[i]? = some (k,v)) (λi h=>h.IsValIter it d i vs.length ep/\h.DictAt (dX prog w) d vs ep) where
 sub:=λb hb=>by simp at hb;simp[hb]
 frame:=λi h h' st k=>#[st.1.at λo e=>k it Y0 o e,by
  let#[o,es,ho,r]:=st.2;exact#[o,es,k d Y0 o ho,r]]
 item:=by
  intro i s Q E hi st h;obtain⟨⟨k,v⟩,hx⟩:∃p,vs[i]? = some p:=#[vs[i],by simp[hi]];apply wpAny_pyNext_values_item st.1 st.2 hx λh' ed sb=>?_;apply h v h' s.toks #[k,hx] #[ed,?_] λb o hb e=>(sb.2 b ⇑hb).trans e;let#[o,es,ho,r]:=st.2;exact#[o,es,(sb.2 d l9).trans ho,r]
 done:=by
  intro s Q E st h;exact wpAny_pyNext_values_end hh st.1 st.2 Y0 λh' eb=>h h' s.toks λb o hb e=>eb b o ⇑hb e
 self:=λ_ _ _ _ st h=>wpAny_pyIter_valiter st.1 h
end
theorem HY{ns:List (Key × Int)}{vs:List (Key × Aa)}(r:KV (ns.map λx=>(x.1,V.int x.2)) vs){i:Nat}{k:Key}{v:Aa}(h:vs[i]? = some (k,v)):∃n t,(ns.map (·.2))[i]? = some n/\v=.int n t:=by
 let hl:=r.length;rw[av] at hl
 have hi:i<ns.length:=by
  have:=(bX.mp h).1;omega
 let#[u,hu,ru]:=L4 r i (k:=(ns[i]'hi).1) (x:=V.int (ns[i]'hi).2) (by rw[dF,aY hi];rfl);rw[h] at hu;let e:=eg Prod.snd (cX hu);let#[t,rfl]:=(show ∃t,u=Value.int (ns[i]'hi).2 t from ru);exact#[_,t,by rw[dF,aY hi];rfl,e]
inductive xj (xs:ag) (H:Hp) (Q:VK):Prop
 |mk:∀(v d:Addr) (ns:List (Key × Int)),xs=[.ref v]->H v\qe v d->Rd H d (.dK (ns.map λx=>(x.1,V.int x.2)))->0<ns.length->(∀m,m∈ns.map (·.2)->(∀a∈ns.map (·.2),a<=m)->Q (.int m) H)->xj xs H Q
inductive xi (xs:ag) (H:Hp) (Q:VK):Prop
 |mk:∀(v d:Addr) (ns:List (Key × Int)),xs=[.ref v]->H v\qe v d->Rd H d (.dK (ns.map λx=>(x.1,V.int x.2)))->0<ns.length->(∀m,m∈ns.map (·.2)->(∀a∈ns.map (·.2),m<=a)->Q (.int m) H)->xi xs H Q
theorem gC_{X:Cx}(hc:X.calm=true):gr X (.builtin "max") xj:=by
 intro pins s σ H xs us Q I r h;let#[v,d,ns,rfl,hv,hd,h0,q]:=h;let#[u,rfl,ru]:=vals1 r;cases ru;let#[z,l9,vs,rel,dd]:=kE I.aA hd;let#[ep,dat]:=dd.dictAt;let#[iv,_,_]:=I.aA v _ hv;let hl:=rel.length;rw[av] at hl
 have E9:d<s.heap.objs.size:=by
  let#[o,es,ho,_]:=dat;exact bx ho
 apply call_max_walk (wpAny_pyIter_values (knd:=dX X.prog X.w) (kvs:=vs) (ep:=ep) iv dat ?_);apply⟨s.heap.objs.size,[s.heap.objs.size,d],[s.heap.objs.size],vs.length,λi v=>∃k,vs[i]? = some (k,v),_,_,rfl,Td (ep:=ep) (I.ok.hd hc) (dG E9),⟨⟨_,cJ _ rfl,rfl,rfl⟩,?_⟩,λb hb=>?_,by omega,CmpOf.ints_gt (λi=>((ns.map (·.2))[i]?).getD 0) (λi v ⟨k,hv⟩=>?_),λv' h' tk hP k=>?_⟩
 ·let#[o,es,ho,r]:=dat;exact⟨o,es,aQ _ ho,r⟩
 ·have hb:b=s.heap.objs.size∨b=d:=⇑hb
  show b<(s.heap.objs.push _).size;rw[Array.size_push];rcases hb with e|e
  ·rw[e];exact Nat.lt_succ_self _
  rw[e];exact Nat.lt_succ_of_lt E9
 ·let#[n,t,e1,e2]:=HY rel hv;apply⟨t,?_⟩;rw[e1];exact e2
 let#[k',D6]:=hP;let#[n,t,e1,rfl]:=HY rel D6;let#[b1,b2]:=argBest_gt (λi=>((ns.map (·.2))[i]?).getD 0) (vs.length - 1);rw[e1] at b2;apply⟨.int n,H,I.kept (t':=tk) (λb o e=>k b o (λm=>?_) (aQ _ e)),⟨t,rfl⟩,q n (cZ e1) λa ha=>?_⟩
 ·have m:b=s.heap.objs.size:=⇑m
  exact absurd m (dG (bx e))
 let#[j,hj,ej]:=ib ha;have:=b2 j (by rw[av] at hj;omega);rw[aY hj,ej] at this;exact this
theorem g3_{X:Cx}(hc:X.calm=true):gr X (.builtin "min") xi:=by
 intro pins s σ H xs us Q I r h;let#[v,d,ns,rfl,hv,hd,h0,q]:=h;let#[u,rfl,ru]:=vals1 r;cases ru;let#[z,l9,vs,rel,dd]:=kE I.aA hd;let#[ep,dat]:=dd.dictAt;let#[iv,_,_]:=I.aA v _ hv;let hl:=rel.length;rw[av] at hl
 have E9:d<s.heap.objs.size:=by
  let#[o,es,ho,_]:=dat;exact bx ho
 apply call_min_walk (wpAny_pyIter_values (knd:=dX X.prog X.w) (kvs:=vs) (ep:=ep) iv dat ?_);apply⟨s.heap.objs.size,[s.heap.objs.size,d],[s.heap.objs.size],vs.length,λi v=>∃k,vs[i]? = some (k,v),_,_,rfl,Td (ep:=ep) (I.ok.hd hc) (dG E9),⟨⟨_,cJ _ rfl,rfl,rfl⟩,?_⟩,λb hb=>?_,by omega,CmpOf.ints_lt (λi=>((ns.map (·.2))[i]?).getD 0) (λi v ⟨k,hv⟩=>?_),λv' h' tk hP k=>?_⟩
 ·let#[o,es,ho,r]:=dat;exact⟨o,es,aQ _ ho,r⟩
 ·have hb:b=s.heap.objs.size∨b=d:=⇑hb
  show b<(s.heap.objs.push _).size;rw[Array.size_push];rcases hb with e|e
  ·rw[e];exact Nat.lt_succ_self _
  rw[e];exact Nat.lt_succ_of_lt E9
 ·let#[n,t,e1,e2]:=HY rel hv;apply⟨t,?_⟩;rw[e1];exact e2
 let#[k',D6]:=hP;let#[n,t,e1,rfl]:=HY rel D6;let#[b1,b2]:=argBest_lt (λi=>((ns.map (·.2))[i]?).getD 0) (vs.length - 1);rw[e1] at b2;apply⟨.int n,H,I.kept (t':=tk) (λb o e=>k b o (λm=>?_) (aQ _ e)),⟨t,rfl⟩,q n (cZ e1) λa ha=>?_⟩
 ·have m:b=s.heap.objs.size:=⇑m
  exact absurd m (dG (bx e))
 let#[j,hj,ej]:=ib ha;have:=b2 j (by rw[av] at hj;omega);rw[aY hj,ej] at this;exact this
end L2
namespace EvM
open PySem PySem.Spec PyProof.Rows PySem.W
section
variable{prog:Ad}{w:Af}{A:Ag}
end
end EvM
namespace L2
open PySem PySem.Spec PyProof.Rows PySem.W
end L2
namespace L2
open PySem PySem.Spec PyProof.Rows PySem.W
theorem RT{X:Cx}:d_ X (binaryOp .FloorDiv) (rI (λ_ j=>0<j/\j<2 ^ 100) λi j=>.int (i / j)):=Bw λi j _ _ _ _ _ hc q=>by
 have h1:(0:Int)<j:=hc.1;have h2:j<2 ^ 100:=hc.2;apply floordiv_int Z2 (by rw[Int.fdiv_eq_ediv_of_nonneg i Z2];exact q) (.inl (PyProof.noPylong_of_log2 ?_));have:j.natAbs.log2<100:=(Nat.log2_lt Z2).mpr Z2;omega
end L2
namespace Ev
open PySem L2
theorem Xt{La Lb Sa Sb ca cb M:Int}(h1:ca * Sa=M)(h2:cb * Sb=M):(La * Sb - Lb * Sa) * M=Sa * Sb * (La * ca - Lb * cb):=by
 have e1:La * Sb * M=Sa * Sb * (La * ca):=by rw[<- h1];grind
 have e2:Lb * Sa * M=Sa * Sb * (Lb * cb):=by rw[<- h2];grind
 rw[Int.sub_mul,Int.mul_sub,e1,e2]
end Ev
namespace Ev
open PySem L2
theorem Y3{a n:Int}(ha:0<a)(hn:0<n)(h2:n<=1000):gI a n<=a * 1000:=by
 unfold gI
 have g:0<(Int.gcd a n:Int):=by
  have:=Int.gcd_pos_of_ne_zero_right a (show n≠0 by omega);omega
 have k1:a / (Int.gcd a n:Int)<=a:=Int.ediv_le_self _ (iP ha);have k0:0<=a / (Int.gcd a n:Int):=Int.ediv_nonneg (iP ha) (iP g);exact Int.mul_le_mul k1 h2 (iP hn) (iP ha)
theorem Qv:∀(ns:List Int) (a:Int),0<a->(∀n∈ns,0<n/\n<=1000)->ns.foldl gI a<=a * 1000 ^ ns.length
 |[],a,_,_=>by simp
 |n::ns,a,ha,h=>by
  let hn:=h n gF
  have p:0<gI a n:=by
   have:=(Io [n] a ha ⇑(hn.1)).1;exact this
  let k1:=Qv ns (gI a n) p λm hm=>h m (fX _ hm);let k2:=Y3 ha hn.1 hn.2;have e:(0:Int)<=1000 ^ ns.length:=Int.pow_nonneg (by decide);rw[List.foldl_cons,iR,Int.pow_succ];apply Int.le_trans k1 ?_;have:=Int.mul_le_mul_of_nonneg_right k2 e;have e2:a * 1000 * 1000 ^ ns.length=a * (1000 ^ ns.length * 1000):=by grind
  rw[e2] at this;exact this
theorem BV{hs:Xa}{ts:Xb}(G:Good hs ts):0<f_ hs/\f_ hs<2 ^ 100/\∀n∈aS hs,f_ hs / strOf hs n * strOf hs n=f_ hs:=by
 have pos:∀m∈(aS hs).map (strOf hs),0<m/\m<=1000:=λm hm=>by
  let#[x,hx,rfl]:=bG.mp hm;have:=AZ G hx;omega
 have oU:∀m∈(aS hs).map (strOf hs),0<m:=λm hm=>(pos m hm).1;apply#[MR oU,?_,λn hn=>Int.ediv_mul_cancel (_c oU (bG.mpr #[_,hn,U]))];let k:=Qv _ 1 (by decide) pos;rw[av,G.iB,Int.one_mul] at k;let h8:=G.h8
 have k2:(1000:Int) ^ hs.length<=1000 ^ 8:=by
  have:(1000:Nat) ^ hs.length<=1000 ^ 8:=Nat.pow_le_pow_right (by decide) h8
  exact_mod_cast this
 have:f_ hs<=1000 ^ 8:=Int.le_trans k k2;have e:(1000:Int) ^ 8<2 ^ 100:=by decide
 omega
theorem X4{hs:Xa}{ts:Xb}(G:Good hs ts){qs:aN}(wp:∀q∈qs,0<=q.2.1/\q.2.1<=1000000000)(cY:qs.length<64){f:bF}{n:Str}(hn:n∈aS hs):0<=fK hs qs f n:=
 Int.mul_nonneg (GN wp cY f n).1 (Int.ediv_nonneg (iP (BV G).1) (by have:=AZ G hn;omega))
def Hx(hs:Xa)(qs:aN)(f:bF)(r:Int):Prop:=∃x∈aS hs,∃y∈aS hs,r=fK hs qs f x - fK hs qs f y/\∀z∈aS hs,fK hs qs f z<=fK hs qs f x/\fK hs qs f y<=fK hs qs f z
section v
theorem q_:bJ ["top","below","divisor"] ["top","below"] (a9 rV):=bV
def qO:Sp:=λvs H Q _=>∃a b:Int,vs=[.int a,.int b]/\0<=a/\0<b/\b<2 ^ 100/\∀t,H t=none->Q (.ref t) (upd H t (.tup [.int (fr a b).1,.int (fr a b).2]))
theorem YS{f:Addr}{fd:Ae}(F:bo K "fraction_of" "fraction_of" rV f fd)(cG:!br 1 BO mz vw):!ao a_ 2 f fd ["top","below"] qO:=by
 exists F.bU q_;let#[a,b,rfl,ha,hb,mi,k]:=h
 have g:0<(Int.gcd a b:Int)/\(Int.gcd a b:Int)<2 ^ 100:=by
  have h1:0<Int.gcd a b:=Int.gcd_pos_of_ne_zero_right a Z2;let h3:=Int.le_of_dvd hb (Int.gcd_dvd_right a b);omega
 apply#[_,aw (bu 2 q_.nd (bc cG hr %[0,1|0])) (aH (bp (gh %[bP RT (pv 0) (pv 2),bP RT (pv 1) (pv 2)|0]))),?_];apply#[_,U,_,U,a,b,U,ha,hb,?_];exact#[_,U,_,U,_,_,U,U,g,_,U,_,U,_,_,U,U,g,zl,k]
theorem qU:bJ ["goods","placed","levels"] ph (a9 rq):=bV
inductive kX (K:ai) (CG CW:Addr) (vs:ag) (H:Hp) (Q:VK) (E:XK):Prop
 |mk:∀(g p d:Addr) (hs:Xa) (ts:Xb) (qs:aN) (fp:au) (f:bF),vs=[.ref g,.ref d]->B3 K CG CW H g p d hs ts qs fp f->(∀q∈qs,0<=q.2.1/\q.2.1<=1000000000)->(∀r H',aa H H'->Hx hs qs f r->Q (.int r) H')->kX K CG CW vs H Q E
theorem Ze{f CG CW:Addr}{fd:Ae}(F:bo K "rise_at" "rise_at" rq f fd)(B:Bi mg)(l5:mg "min"=none)(cV:!br 4 "levels_at" ph (NV K CG CW)):!ao a_ 5 f fd ph (kX K CG CW):=by
 exists F.bU qU;let#[g,p,d,hs,ts,qs,fp,f,rfl,Pl,wp,k]:=h;let nl:=Pl.Gd.iB;let h1:=Pl.Gd.h1;refine' #[_,aw ?s1 (aH ?s2),?kk]
 case s1=>exact bu 2 qU.nd (bc cV hr %[0,1|0])
 case s2=>exact bp (bP AO (cy (gC_ U) (by rfl) B.max PyProof.Rows.Boot.«max» %[IQ (pv 2)|0]) (cy (g3_ U) (by rfl) l5 LX %[IQ (pv 2)|0]))
 apply#[_,U,_,U,g,p,d,hs,ts,qs,fp,f,U,Pl,wp,λdv H1 s1 n1 e1=>?_]
 have em:((aS hs).map λh=>((Sum.inr h:Key),fK hs qs f h)).map (·.2)=(aS hs).map (fK hs qs f):=by
  rw[cz];rfl
 have MD:dW (aS hs) (λh=>V.int (fK hs qs f h))=((aS hs).map λh=>((Sum.inr h:Key),fK hs qs f h)).map λx=>(x.1,V.int x.2):=by
  rw[cz];rfl
 rw[MD] at e1;apply#[_,U,dv,_,U,e1,λv hv=>?_];let#[s2,ev]:=aD (o:=qe v dv) hv;generalize upd H1 v (qe v dv)=H2 at s2 ev ⊢;apply#[v,dv,(aS hs).map λh=>((Sum.inr h:Key),fK hs qs f h),U,ev,.of (s2 _ _ e1),by rw[av];omega,λm hm mx=>?_];rw[em] at hm mx;apply#[_,U,dv,_,U,s2 _ _ e1,λv2 _p=>?_];let#[s3,Sn]:=aD (o:=qe v2 dv) _p;generalize upd H2 v2 (qe v2 dv)=H3 at s3 Sn ⊢;apply#[v2,dv,(aS hs).map λh=>((Sum.inr h:Key),fK hs qs f h),U,Sn,.of (s3 _ _ (s2 _ _ e1)),by rw[av];omega,λm2 QZ mn=>?_];rw[em] at QZ mn;let#[x,hx,rfl]:=bG.mp hm;let#[y,hy,rfl]:=bG.mp QZ;exact#[_,_,U,U,k _ H3 (s1.trans (s2.trans s3)) #[x,hx,y,hy,U,λz hz=>#[mx _ (bG.mpr #[z,hz,U]),mn _ (bG.mpr #[z,hz,U])]]]
theorem ey':bJ ph ph (a9 Nz):=bV
inductive NM (K:ai) (CG CW:Addr) (vs:ag) (H:Hp) (Q:VK) (E:XK):Prop
 |mk:∀(g p d:Addr) (hs:Xa) (ts:Xb) (qs:aN) (fp:au) (f:bF),vs=[.ref g,.ref d]->B3 K CG CW H g p d hs ts qs fp f->(∀q∈qs,0<=q.2.1/\q.2.1<=1000000000)->(∀t r H',aa H H'->Hx hs qs f r->H' t\.tup [.int (fr r (f_ hs)).1,.int (fr r (f_ hs)).2]->Q (.ref t) H')->NM K CG CW vs H Q E
theorem ek_{f CG CW:Addr}{fd:Ae}(F:bo K "spread_at" "spread_at" Nz f fd)(T:fY K CG)(cR:!br 5 "rise_at" ph (kX K CG CW))(cM:!br 3 j1 ["web"] (Ho K CW))(cF:!br 2 "fraction_of" ["top","below"] qO):!ao a_ 6 f fd ph (NM K CG CW):=by
 apply F.bU ey' λaL A outer s H vs Q E hr h=>?_;let#[g,p,d,hs,ts,qs,fp,f,rfl,Pl,wp,k]:=h;let mo:=BV Pl.Gd;apply#[_,aH (bp (bc cF hr %[bc cR hr %[0,1|0],bc cM hr %[gG (pv 0) U|0]|0])),?_];apply#[_,U,_,U,g,p,d,hs,ts,qs,fp,f,U,Pl,wp,λr H1 s1 ir=>?_];let G1:=Pl.G.same s1;let#[dx,dw,dy,vs,dC,h1,h2,_]:=id G1.ex;apply#[_,U,g,CG,dx,_,_,U,h1,T.cl,T.nW,yb _ _ _,p,hs,ts,dC,U,h2,Pl.Gd,λH2 s2=>?_]
 have r0:0<=r:=by
  let#[x,hx,y,hy,rfl,b]:=ir;have:=(b y hy).1;omega
 exact#[r,f_ hs,U,r0,mo.1,mo.2.1,λt ht=>k t r _ ((s1.trans s2).trans (aa.new ht)) ir az]
end
end Ev
namespace da
open PySem PySem.W PyProof.Rows
section
variable{prog:Ad}{w:Af}{A:Ag}{E:Aa->Ab->Prop}{s:Ab}
inductive Src (h:Heap) (it l:Addr) (i:Nat) (xs:Array Aa):Prop
 |lst (a:h.IsListIter it l i) (b:h.IsList l xs):Src h it l i xs
 |tup (a:h.IsTupleIter it l i) (b:h.IsTuple l xs):Src h it l i xs
theorem Src.keep{h h':Heap}{it l:Addr}{i:Nat}{xs:Array Aa}(x:Src h it l i xs)(k1:∀o,h.get? it\o->h'.get? it\o)(k2:∀o,h.get? l\o->h'.get? l\o):Src h' it l i xs:=by
 cases x with
 |lst a b=>exact .lst (a.at k1) (b.at k2)
 |tup a b=>exact .tup (a.at k1) (by let#[o,e,r]:=b;exact#[o,k2 o e,r])
theorem oB{h:Heap}{l:Addr}{xs ys:Array Aa}(a:h.IsList l xs)(b:h.IsTuple l ys):False:=by
 let#[o,e,c,_]:=a;let#[u,f,d,_]:=b;rw[e] at f;cases f;rw[c] at d;simp at d
theorem Src.Ql{h:Heap}{it l:Addr}{i:Nat}{xs ys:Array Aa}(x:Src h it l i xs)(b:h.IsList l ys):h.IsListIter it l i:=by
 cases x with
 |lst a _=>exact a
 |tup _ c=>exact (oB b c).elim
theorem Src.pQ{h:Heap}{it l:Addr}{i:Nat}{xs ys:Array Aa}(x:Src h it l i xs)(b:h.IsTuple l ys):h.IsTupleIter it l i:=by
 cases x with
 |tup a _=>exact a
 |lst _ c=>exact (oB c b).elim
theorem Src.lt{h:Heap}{it l:Addr}{i:Nat}{xs:Array Aa}(x:Src h it l i xs):it<h.objs.size/\l<h.objs.size:=by
 cases x with
 |lst a b=>let#[o,e,_]:=a;let#[u,f,_]:=b;exact#[bx e,bx f]
 |tup a b=>let#[o,e,_]:=a;let#[u,f,_]:=b;exact#[bx e,bx f]
theorem nextT{it t:Addr}{i:Nat}{xs:Array Aa}{x:Aa}{Q:Aa->Ab->Prop}(hit:s.heap.IsTupleIter it t i)(ht:s.heap.IsTuple t xs)(hx:xs[i]? = some x)
  (hQ:∀h',h'.IsTupleIter it t (i+1)->Heap.SameBut it s.heap h'->Q x { s with heap:=h' }):wpAny (model prog w) A (Builtin.SmallTypes.nextOf (.ref it)) Q E s:=by
 let#[o,ho,hc,hd]:=id hit;let#[u,hu,_,n,hv]:=ht;unfold Builtin.SmallTypes.nextOf;apply af (uU (name:=Str.ofString "__next__") hit.typeIs F.slot_tuple_iterator_next (tN F.slot_tuple_iterator_next hit.typeIs F.entry_tuple_iterator_next ?_ (F.args_tuple_iterator_next_1 _)));apply (show wpAny _ _ (field (.ref it) 0 >>= _) _ _ s from af (fG ho hd (x:=.ref t) U ?_));apply (show wpAny _ _ (if (Value.ref t == Value.none)=true then _ else _) _ _ s from ?_);rw[aC (show ¬((Value.ref t == Value.none)=true) from gN)];apply (show wpAny _ _ (field (.ref it) 1 >>= _) _ _ s from af (fG ho hd (x:=.int i 0) U ?_));apply (show wpAny _ _ (seqItems? (.ref t) >>= _) _ _ s from af (ml hu hv ?_));simp only[ym,hx];apply af (wpAny_setField ho hd Y0 (aF #[x,U,aF (hQ _ #[_,Heap.get?_update_self _ ho (Obj.isFreed_of_fields (Obj.data_mapFields hd _)),(Obj.cls_mapFields ..).trans hc,?_] (Heap.SameBut.update ..))]));rw[Obj.data_mapFields hd];simp[rawInt]
theorem Src.next{it l:Addr}{i:Nat}{xs:Array Aa}{x:Aa}{Q:Aa->Ab->Prop}(z:Src s.heap it l i xs)(ne:l≠it)(hx:xs[i]? = some x)
  (hQ:∀h',Src h' it l (i+1) xs->Heap.SameBut it s.heap h'->Q x { s with heap:=h' }):wpAny (model prog w) A (Builtin.SmallTypes.nextOf (.ref it)) Q E s:=by
 cases z with
 |lst a b=>exact wpAny_nextOf_list_item a b hx λh' a' sb=>hQ h' (.lst a' (b.extBut sb.extBut ne)) sb
 |tup a b=>exact nextT a b hx λh' a' sb=>hQ h' (.tup a' (b.extBut sb.extBut ne)) sb
abbrev Zp(h:Heap)(z TI TO:Addr)(f0:Aa)(f1:Bool):Prop:=h.get? z=some { cls:=.type "zip",dict:=none,data:=.fields (List.toArray [f0,.bool f1,.bool false,.ref TI,.ref TO]),slots:=#[] }
abbrev fe(h:Heap)(T:Addr)(xs:Array Aa):Prop:=h.get? T=some { cls:=.type "tuple",data:=.seq xs }
theorem Fp{T:Addr}{xs:Array Aa}{x:Aa}{k:Nat}{Q:Unit->Ab->Prop}(hT:fe s.heap T xs)(h3:xs.size<=3)(h:∀h',fe h' T (xs.setIfInBounds k x)->Heap.SameBut T s.heap h'->Q () { s with heap:=h' }):wpAny (model prog w) A (updateSeq T (·.setIfInBounds k x)) Q E s:=by
 apply wpAny_updateSeq hT U (h _ ?_ (Heap.SameBut.update ..)) (hz:=iQ h3 (by decide)) (_hz':=by rw[Array.size_setIfInBounds];exact iQ h3 (by decide));show Heap.get? _ _=_;rw[Heap.get?_update_self _ hT U];simp[Obj.mapSeq]
structure oC (h:Heap) (z TI TO i1 i2 i3 l1 l2 l3:Addr) (k:Nat) (xs ys zs:Array Aa):Prop where
 nd:[z,TO,i1,i2,i3].Nodup
 ti:TI∉[z,TO,i1,i2,i3]
 ls:∀l∈[l1,l2,l3],l∉[z,TO,i1,i2,i3]
 hI:fe h TI (List.toArray [.ref i1,.ref i2,.ref i3])
 hO:∃a b c,fe h TO (List.toArray [a,b,c])
 s1:Src h i1 l1 k xs
 s2:Src h i2 l2 k ys
 s3:Src h i3 l3 k zs
theorem g6_{z TI TO i1 i2 i3 l1 l2 l3:Addr}{k:Nat}{xs ys zs:Array Aa}{x y v:Aa}{Q:Aa->Ab->Prop}(D:oC s.heap z TI TO i1 i2 i3 l1 l2 l3 k xs ys zs)(hz:Zp s.heap z TI TO .none false)(hx:xs[k]? = some x)(hy:ys[k]? = some y)(hv:zs[k]? = some v)
  (hQ:∀h',Zp h' z TI TO (rawInt s.heap.objs.size) false->oC h' z TI TO i1 i2 i3 l1 l2 l3 (k+1) xs ys zs->fe h' s.heap.objs.size (List.toArray [x,y,v])->(∀c o,c∉[z,TO,i1,i2,i3]->s.heap.get? c\o->h'.get? c\o)->Q (.ref s.heap.objs.size) { s with heap:=h' }) :
  wpAny (model prog w) A (Builtin.«zip.__next__» #[[.ref z],[]]) (λfin s'=>∃v,fin=.done (.ret v)/\Q v s') E s:=by
 let#[nd,ti,ls,hI,#[a,b,c,hO],s1,s2,s3]:=D;simp only[iZ,bZ,gf,or_false,not_or,not_false_eq_true,List.nodup_nil,and_true] at nd ti ls;let#[#[zO,z1,z2,z3],#[O1,O2,O3],#[sI,Dz],n23]:=nd;let L1:=ls l1 (.inl U);let L2:=ls l2 (.inr (.inl U));let L3:=ls l3 (.inr (.inr U));apply (show wpAny _ _ (field (.ref z) 2 >>= _) _ _ _ from af (fG hz U (x:=.bool false) U ?_));apply (show wpAny _ _ (field (.ref z) 3 >>= _) _ _ _ from af (fG hz U (x:=.ref TI) U ?_));apply af (ml hI U ?_);apply (show wpAny _ _ (Builtin.SmallTypes.ownedTupleIsFree (.ref z) >>= _) _ _ _ from af ?_);unfold Builtin.SmallTypes.ownedTupleIsFree;apply af (fG hz U (x:=.none) U (aF ?_));simp only[if_true];apply af (wpAny_rule (af (fG hz U (x:=.ref TO) U (af (qb hz Y0 λh1 iV e1=>af ?_)))));replace iV:Zp h1 z TI TO .ellipsis false:=iV;have LR:fe h1 TO (List.toArray [a,b,c]):=e1.extBut _ _ (bN zO) hO;let s1:=s1.keep (e1.extBut _ · (bN z1)) (e1.extBut _ · L1.1);let s2:=s2.keep (e1.extBut _ · (bN z2)) (e1.extBut _ · L2.1);let s3:=s3.keep (e1.extBut _ · (bN z3)) (e1.extBut _ · L3.1);simp only[List.zipIdx_cons,List.zipIdx_nil,wJ,u7];apply af (af (wpAny_onRaise (show wpAny _ _ (Builtin.SmallTypes.nextOf (.ref i1) >>= _) _ _ _ from af (s1.next L1.2.2.1 hx λh2 s1 e2=>aF ?_))));have ET:fe h2 TO (List.toArray [a,b,c]):=e2.extBut _ _ O1 LR;let s2:=s2.keep (e2.extBut _ · (bN sI)) (e2.extBut _ · L2.2.2.1);let s3:=s3.keep (e2.extBut _ · (bN Dz)) (e2.extBut _ · L3.2.2.1);apply af (ml ET U (af (Fp ET (bh 3) λh3 As e3=>af (wpAny_letGo (aF ?_)))));replace As:fe h3 TO (List.toArray [x,b,c]):=As;let s1:=s1.keep (e3.extBut _ · (bN O1)) (e3.extBut _ · L1.2.1);let s2:=s2.keep (e3.extBut _ · (bN O2)) (e3.extBut _ · L2.2.1);let s3:=s3.keep (e3.extBut _ · (bN O3)) (e3.extBut _ · L3.2.1);apply af (af (wpAny_onRaise (show wpAny _ _ (Builtin.SmallTypes.nextOf (.ref i2) >>= _) _ _ _ from af (s2.next L2.2.2.2.1 hy λh4 s2 e4=>aF ?_))));have ER:fe h4 TO (List.toArray [x,b,c]):=e4.extBut _ _ O2 As;let s1:=s1.keep (e4.extBut _ · sI) (e4.extBut _ · L1.2.2.2.1);let s3:=s3.keep (e4.extBut _ · (bN n23)) (e4.extBut _ · L3.2.2.2.1);apply af (ml ER U (af (Fp ER (bh 3) λh5 LQ e5=>af (wpAny_letGo (aF ?_)))));replace LQ:fe h5 TO (List.toArray [x,y,c]):=LQ;let s1:=s1.keep (e5.extBut _ · (bN O1)) (e5.extBut _ · L1.2.1);let s2:=s2.keep (e5.extBut _ · (bN O2)) (e5.extBut _ · L2.2.1);let s3:=s3.keep (e5.extBut _ · (bN O3)) (e5.extBut _ · L3.2.1);apply af (af (wpAny_onRaise (show wpAny _ _ (Builtin.SmallTypes.nextOf (.ref i3) >>= _) _ _ _ from af (s3.next L3.2.2.2.2 hv λh6 s3 e6=>aF ?_))));have Rn:fe h6 TO (List.toArray [x,y,c]):=e6.extBut _ _ O3 LQ;let s1:=s1.keep (e6.extBut _ · Dz) (e6.extBut _ · L1.2.2.2.2);let s2:=s2.keep (e6.extBut _ · n23) (e6.extBut _ · L2.2.2.2.2);apply af (ml Rn U (af (Fp Rn (bh 3) λh7 vX e7=>af (wpAny_letGo (aF (aF ?_))))));replace vX:fe h7 TO (List.toArray [x,y,v]):=vX;let s1:=s1.keep (e7.extBut _ · (bN O1)) (e7.extBut _ · L1.2.1);let s2:=s2.keep (e7.extBut _ · (bN O2)) (e7.extBut _ · L2.2.1);let s3:=s3.keep (e7.extBut _ · (bN O3)) (e7.extBut _ · L3.2.1);have all:∀{c o},c≠TO->c≠i1->c≠i2->c≠i3->h1.get? c\o->h7.get? c\o:=λc2 c3 c4 c5 q=>e7.extBut _ _ c2 (e6.extBut _ _ c5 (e5.extBut _ _ c2 (e4.extBut _ _ c4 (e3.extBut _ _ c2 (e2.extBut _ _ c3 q)))));have zJ:Zp h7 z TI TO .ellipsis false:=all zO z1 z2 z3 iV;have LS:fe h7 TI (List.toArray [.ref i1,.ref i2,.ref i3]):=all ti.2.1 ti.2.2.1 ti.2.2.2.1 ti.2.2.2.2 (e1.extBut _ _ ti.1 hI);have sz:h7.objs.size=s.heap.objs.size:=by rw[e7.1,e6.1,e5.1,e4.1,e3.1,e2.1,e1.1]
 apply af (ml vX U (af (wpAny_newTuple ?_)));apply (show wpAny _ _ (Builtin.SmallTypes.ownedTupleHandOut (.ref z) (.ref h7.objs.size) >>= _) _ _ _ from af ?_);unfold Builtin.SmallTypes.ownedTupleHandOut;have KU:Zp (h7.push { cls:=.type "tuple",data:=.seq (List.toArray [x,y,v]) }) z TI TO .ellipsis false:=aQ _ zJ;apply af (qb KU Y0 λh9 KS e9=>qb (show Zp h9 z TI TO (rawInt h7.objs.size) false from KS) Y0 λhA vQ eA=>aF #[_,U,?_]);have up:∀{c o},c≠z->h7.get? c\o->hA.get? c\o:=λc1 q=>eA.extBut _ _ c1 (e9.extBut _ _ c1 (aQ _ q));have hT:fe hA h7.objs.size (List.toArray [x,y,v]):=eA.extBut _ _ (iu (bx zJ)) (e9.extBut _ _ (iu (bx zJ)) (cJ _ U));show Q (.ref h7.objs.size) _;rw[sz] at hT ⊢;have vQ:Zp hA z TI TO (rawInt h7.objs.size) false:=vQ;rw[sz] at vQ;apply hQ hA vQ #[?_,?_,?_,up ti.1 LS,#[_,_,_,up (bN zO) vX],s1.keep (λ_=>up (bN z1)) (λ_=>up L1.1),s2.keep (λ_=>up (bN z2)) (λ_=>up L2.1),s3.keep (λ_=>up (bN z3)) (λ_=>up L3.1)] hT λc o hc q=>?_
 ·simp[zO,z1,z2,z3,O1,O2,O3,sI,Dz,n23]
 ·simp[ti]
 ·simpa using ls
 simp only[bZ,gf,or_false,not_or] at hc;exact up hc.1 (all hc.2.1 hc.2.2.1 hc.2.2.2.1 hc.2.2.2.2 (e1.extBut _ _ hc.1 q))
end
end da
namespace da
open PySem PySem.W PyProof.Rows
section
variable{prog:Ad}{w:Af}{A:Ag}{E:Aa->Ab->Prop}{s:Ab}
theorem ended{it l:Addr}{i:Nat}{xs:Array Aa}{Q:Aa->Ab->Prop}(hh:A.handled=none)(a:s.heap.IsListIter it l i)(b:s.heap.IsList l xs)(hx:xs[i]? = none)
  (hE:∀h' e,Heap.ExtBut it s.heap h'->(∃o,h'.get? e\o/\o.cls=.type "StopIteration")->E (.ref e) { s with heap:=h' }):wpAny (model prog w) A (Builtin.SmallTypes.nextOf (.ref it)) Q E s:=wpAny_nextOf_list_end hh a b hx hE
theorem hE_{z TI TO i1 i2 i3 l1:Addr}{k:Nat}{xs:Array Aa}{Q:Fin->Ab->Prop}(hh:A.handled=none)(n1:i1≠z)(n2:l1≠z)(hI:fe s.heap TI (List.toArray [.ref i1,.ref i2,.ref i3]))(a1:s.heap.IsListIter i1 l1 k)(b1:s.heap.IsList l1 xs)(hz:Zp s.heap z TI TO .none false)(hx:xs[k]? = none)
  (hE:∀h' e,(∀c o,c≠z->c≠i1->s.heap.get? c\o->h'.get? c\o)->(∃o,h'.get? e\o/\o.cls=.type "StopIteration")->E (.ref e) { s with heap:=h' }):wpAny (model prog w) A (Builtin.«zip.__next__» #[[.ref z],[]]) Q E s:=by
 apply (show wpAny _ _ (field (.ref z) 2 >>= _) _ _ _ from af (fG hz U (x:=.bool false) U ?_));apply (show wpAny _ _ (field (.ref z) 3 >>= _) _ _ _ from af (fG hz U (x:=.ref TI) U ?_));apply af (ml hI U ?_);apply (show wpAny _ _ (Builtin.SmallTypes.ownedTupleIsFree (.ref z) >>= _) _ _ _ from af ?_);unfold Builtin.SmallTypes.ownedTupleIsFree;apply af (fG hz U (x:=.none) U (aF ?_));simp only[if_true];apply af (wpAny_rule (af (fG hz U (x:=.ref TO) U (af (qb hz Y0 λh1 iV e1=>af ?_)))));replace iV:Zp h1 z TI TO .ellipsis false:=iV;simp only[List.zipIdx_cons,List.zipIdx_nil,wJ,u7];apply af (af (wpAny_onRaise (show wpAny _ _ (Builtin.SmallTypes.nextOf (.ref i1) >>= _) _ _ _ from af (ended hh (a1.extBut e1.extBut n1) (b1.extBut e1.extBut n2) hx λh2 e e2 he=>?_))));let#[oe,zS,EH]:=he;have D3:Zp h2 z TI TO .ellipsis false:=e2 _ _ (bN n1) iV;have LA:e≠z:=λx=>by subst x;rw[D3] at zS;cases zS;simp at EH
 exact qb D3 Y0 λh3 _ e3=>hE h3 e (λc o c1 c3 x=>e3.extBut _ _ c1 (e2 _ _ c3 (e1.extBut _ _ c1 x))) #[oe,e3.extBut _ _ LA zS,EH]
theorem gt_{z TI TO i1 i2 i3 l1 l2 l3:Addr}{k:Nat}{xs ys zs:Array Aa}{x y v:Aa}{Q:Option Aa->Ab->Prop}(D:oC s.heap z TI TO i1 i2 i3 l1 l2 l3 k xs ys zs)(hz:Zp s.heap z TI TO .none false)(hx:xs[k]? = some x)(hy:ys[k]? = some y)(hv:zs[k]? = some v)
  (hQ:∀h',Zp h' z TI TO (rawInt s.heap.objs.size) false->oC h' z TI TO i1 i2 i3 l1 l2 l3 (k+1) xs ys zs->fe h' s.heap.objs.size (List.toArray [x,y,v])->(∀c o,c∉[z,TO,i1,i2,i3]->s.heap.get? c\o->h'.get? c\o)->Q (some (.ref s.heap.objs.size)) { s with heap:=h' }) :
  wpAny (model prog w) A (pyNext (.ref z)) Q E s:=by
 have hT:s.TypeIs (.ref z) "zip":=#[_,hz,U];unfold pyNext;exact af (wpAny_attempt (uU (name:=Str.ofString "__next__") hT F.slot_zip_next (tN F.slot_zip_next hT F.entry_zip_next (g6_ D hz hx hy hv λh' a1 a2 a3 a4=>aF (hQ h' a1 a2 a3 a4)) (F.args_zip_next_1 _))))
theorem dE_{z TI TO i1 i2 i3 l1:Addr}{k:Nat}{xs:Array Aa}{Q:Option Aa->Ab->Prop}(hh:A.handled=none)(n1:i1≠z)(n2:l1≠z)(hI:fe s.heap TI (List.toArray [.ref i1,.ref i2,.ref i3]))(a1:s.heap.IsListIter i1 l1 k)(b1:s.heap.IsList l1 xs)(hz:Zp s.heap z TI TO .none false)(hx:xs[k]? = none)
  (hQ:∀h',(∀c o,c≠z->c≠i1->s.heap.get? c\o->h'.get? c\o)->Q none { s with heap:=h' }):wpAny (model prog w) A (pyNext (.ref z)) Q E s:=by
 have hT:s.TypeIs (.ref z) "zip":=#[_,hz,U];unfold pyNext;apply af (wpAny_attempt (uU (name:=Str.ofString "__next__") hT F.slot_zip_next (tN F.slot_zip_next hT F.entry_zip_next (hE_ hh n1 n2 hI a1 b1 hz hx λh' e hk he=>?_) (F.args_zip_next_1 _))));let#[o,ho,hc]:=he;exact af (wpAny_isInstance (T:="StopIteration") (b:=true) #[o,ho,hc] isSubtype_stop (aF (hQ _ hk)))
theorem dt_(a b c:Aa):checkTypeCall "zip" #[[a,b,c],[]]=pure ():=by kernel_rfl
theorem e2_(a b c:Aa):checkBuiltinCall "zip.__new__" #[[.type "zip",a,b,c],[]]=pure ():=by kernel_rfl
theorem fS_(a b c d:Aa):argsOk "object.__init__" #[[a,b,c,d],[]]:=by
 unfold argsOk;rw[signature?_of (id:="object.__init__") (n:=['_','_','t','i','n','i','_','_']) (o:=['t','c','e','j','b','o']) (by kernel_rfl) F.owner_object];kernel_rfl
abbrev mX(h:Heap)(l:Addr):Heap:=h.push { cls:=.type "list_iterator",data:=.fields (List.toArray [.ref l,.int 0 0]) }
abbrev oJ(h:Heap)(l:Addr):Heap:=h.push { cls:=.type "tuple_iterator",data:=.fields (List.toArray [.ref l,.int 0 0]) }
abbrev Cs(h:Heap)(l1 l2 l3:Addr):Heap:=oJ (oJ (mX h l1) l2) l3
abbrev Cr(h:Heap)(l1 l2 l3:Addr):Heap:=(Cs h l1 l2 l3).push { cls:=.type "tuple",data:=.seq (List.toArray [.ref h.objs.size,.ref (mX h l1).objs.size,.ref (oJ (mX h l1) l2).objs.size]) }
abbrev Cq(h:Heap)(l1 l2 l3:Addr):Heap:=(Cr h l1 l2 l3).push { cls:=.type "tuple",data:=.seq (List.toArray [.none,.none,.none]) }
abbrev yu(h:Heap)(l1 l2 l3:Addr):Heap:=(Cq h l1 l2 l3).push { cls:=.type "zip",data:=.fields (List.toArray [.none,.bool false,.bool false,.ref (Cs h l1 l2 l3).objs.size,.ref (Cr h l1 l2 l3).objs.size]) }
theorem fD_(l1 l2 l3:Addr)(xs ys zs:Array Aa):Meets (Builtin.«zip.__new__» #[[.type "zip",.ref l1,.ref l2,.ref l3],[]]) (λ_ R s=>s.heap.IsList l1 xs/\s.heap.IsTuple l2 ys/\s.heap.IsTuple l3 zs /\
   R (.ok (.ret (.ref (Cq s.heap l1 l2 l3).objs.size))) { s with heap:=yu s.heap l1 l2 l3 }):=
 .of_wp λprog w A R s h=>by
  let#[hp,g,d,tk,os]:=s;let#[a1,a2,a3,h]:=h;let zM:=sub_zip;have b1:Heap.IsList (Shared.heap #[hp,g,d,tk,os]) l1 xs:=a1;have b2:Heap.IsTuple (Shared.heap #[hp.push { cls:=.type "list_iterator",data:=.fields (List.toArray [.ref l1,.int 0 0]) },g,d,tk,os]) l2 ys:=Heap.IsTuple.push a2 _;have b3:Heap.IsTuple (Shared.heap #[(hp.push { cls:=.type "list_iterator",data:=.fields (List.toArray [.ref l1,.int 0 0]) }).push { cls:=.type "tuple_iterator",data:=.fields (List.toArray [.ref l2,.int 0 0]) },g,d,tk,os]) l3 zs:=Heap.IsTuple.push (Heap.IsTuple.push a3 _) _
  wp_walk using wpAny_pyIter_list b1,wpAny_pyIter_tuple b2,wpAny_pyIter_tuple b3
  exact#[_,U,h]
end
end da
namespace L2
open PySem PySem.Spec PyProof.Rows PySem.W da
def FT(K:ai)(a b c:Addr):It:=
 #[λi H=>∃xs ys zs x y z,dU K H a xs/\eD K H b ys/\eD K H c zs/\xs[i]? = some x/\ys[i]? = some y/\zs[i]? = some z,
  λi H v H'=>∃t x y z,v=.ref t/\H t=none/\(∀xs,dU K H a xs->xs[i]? = some x)/\(∀xs,eD K H b xs->xs[i]? = some y)/\(∀xs,eD K H c xs->xs[i]? = some z)/\H'=upd H t (.tup [x,y,z]),λi H=>∃xs,dU K H a xs/\xs.length=i]
theorem gx_{P:Ad}{w:Af}{K:ai}{elts:List Expr}{k:Nat}{pos:Pos}(a b c z TI TO i1 i2 i3:Addr)(nd:[z,TO,i1,i2,i3].Nodup)(ti:TI∉[z,TO,i1,i2,i3])(ls:∀l∈[a,b,c],l∉[z,TO,i1,i2,i3]) :
  Turn P w K (.Tuple elts k pos) (FT K a b c) [z,TI,TO,i1,i2,i3] z (λi h=>Zp h z TI TO .none false/\fe h TI (List.toArray [.ref i1,.ref i2,.ref i3])/\(∃x y v,fe h TO (List.toArray [x,y,v]))/\h.IsListIter i1 a i/\h.IsTupleIter i2 b i/\h.IsTupleIter i3 c i) where
 mem:=by simp
 obj:=λi h st q hq=>by
  let#[h1,h2,#[x,y,v,h3],#[o1,e1,c1,d1],#[o2,e2,c2,d2],#[o3,e3,c3,d3]]:=st;simp only[bZ,gf,or_false] at hq;rcases hq with rfl|rfl|rfl|rfl|rfl|rfl
  ·exact#[_,h1,λv z=>by cases z]
  ·exact#[_,h2,λv z=>by cases z]
  ·exact#[_,h3,λv z=>by cases z]
  ·exact#[o1,e1,λv z=>by rw[d1] at z;cases z]
  ·exact#[o2,e2,λv z=>by rw[d2] at z;cases z]
  exact#[o3,e3,λv z=>by rw[d3] at z;cases z]
 keep:=λi h h' st kk=>by
  let#[h1,h2,#[x,y,v,h3],s1,s2,s3]:=st;exact#[kk _ Y0 _ h1,kk _ Y0 _ h2,#[x,y,v,kk _ Y0 _ h3],s1.at λo q=>kk _ Y0 o q,s2.at λo q=>kk _ Y0 o q,s3.at λo q=>kk _ Y0 o q]
 item:=by
  intro X hP hw hK hc i pins s σ H E I hf st hg;subst hP hw hK;let#[xs,ys,zs,x,y,v,q1,q2,q3,x1,x2,x3]:=hg;let Gz:=nd;have z1:z≠i1:=by simp at nd;exact nd.1.2.1
  have z2:z≠i2:=by simp at nd;exact nd.1.2.2.1
  have UL:z≠i3:=by simp at nd;exact nd.1.2.2.2
  have zO:TO≠z:=by simp at nd;exact bN nd.1.1
  have tz:TI≠z:=by simp at ti;exact ti.1
  let#[h1,h2,h3,s1,s2,s3]:=st;let#[u1,r1,p1,_]:=I.list q1;let#[u2,r2,p2,_]:=I.tuple q2;let#[u3,r3,p3,_]:=I.tuple q3;let#[w1,_n,VY]:=r1.get x1;let#[w2,_m,VX]:=r2.get x2;let#[w3,_l,VW]:=r3.get x3;apply gt_ (l1:=a) (l2:=b) (l3:=c) (xs:=u1.toArray) (ys:=u2.toArray) (zs:=u3.toArray) (x:=w1) (y:=w2) (v:=w3) #[nd,ti,ls,h2,h3,.lst s1 p1.isList,.tup s2 p2,.tup s3 p3] h1 ⇑_n ⇑_m ⇑_l λh' z' D' pQ kk=>?_;have lt:∀{d o},s.heap.get? d\o->s.heap.objs.size≠d:=λe=>iu (bx e);obtain⟨T,eT⟩:∃T,T=s.heap.objs.size:=#[_,U];have hT:s.heap.objs.size<=T:=Nat.le_of_eq eT.symm;rw[<- eT] at z' pQ ⊢;apply#[_,U,wpAny_letOwnedTupleGo_zip (s:={ s with heap:=h' }) z' λLW z3 e3=>?_]
  have nT:∀{q},q∈[z,TI,TO,i1,i2,i3]->T≠q:=λ{q} hq e=>by
   let#[x,y,v,h3]:=h3;rw[e] at eT;let#[o1,e1,_]:=s1;let#[o2,e2,_]:=s2;let#[o3,e3,_]:=s3;simp only[bZ,gf,or_false] at hq;rcases hq with rfl|rfl|rfl|rfl|rfl|rfl
   ·exact lt h1 eT.symm
   ·exact lt h2 eT.symm
   ·exact lt h3 eT.symm
   ·exact lt e1 eT.symm
   ·exact lt e2 eT.symm
   exact lt e3 eT.symm
  have yq:∀{q o},q≠z->h'.get? q\o->LW.get? q\o:=λhq e=>e3.extBut _ _ hq e;have o5:fe LW T (List.toArray [w1,w2,w3]):=yq (nT Y0) pQ;have I1:Inv X pins σ (upd H T (.tup [x,y,v])) { s with heap:=LW }:=I.gR (t':=s.toks) (fp:=[z,TI,TO,i1,i2,i3]) (its:=[w1,w2,w3]) (λq o hq e=>yq (λhz=>hq (by simp[hz])) (kk q o (λhm=>hq (by simp at hm ⊢;rcases hm with h|h|h|h|h<;>simp[h])) e)) hf hT (zl) (.cons VY (.cons VX (.cons VW .nil))) #[#[_,o5,U,_,U],_,o5,U]
  apply#[.ref T,_,I1,U,#[T,x,y,v,U,I.aA.fresh hT,λys hy=>by rw[I.g9 hy q1];exact x1,λys hy=>by rw[I.dB hy q2];exact x2,λys hy=>by rw[I.dB hy q3];exact x3,U],?_,λq hq=>?_]
  ·let#[_,_,_,j2,#[f1,f2,f3,j3],j4,j5,j6]:=D';apply#[z3,yq tz j2,#[f1,f2,f3,yq zO j3],?_,?_,?_]
   ·exact (j4.Ql (p1.isList.at λo e=>kk a o (ls a Y0) e)).at λo e=>yq (bN z1) e
   ·exact (j5.pQ (by let#[o,e,r]:=p2;exact#[o,kk b o (ls b Y0) e,r])).at λo e=>yq (bN z2) e
   exact (j6.pQ (by let#[o,e,r]:=p3;exact#[o,kk c o (ls c Y0) e,r])).at λo e=>yq (bN UL) e
  rw[ax (λz:q=T=>nT hq z.symm)];exact (hf q hq).1
 done:=by
  intro X hP hw hK hc i pins s σ H E I hf st hg;subst hP hw hK;let#[xs,hq,hx]:=hg;let#[its,rv,p,hz]:=I.list hq;let#[h1,h2,h3,s1,s2,s3]:=st;have:=rv.length;simp only[iZ,bZ,gf,or_false,not_or,not_false_eq_true,List.nodup_nil,and_true] at nd ti;exact dE_ (I.ok.hd hc) (bN nd.1.2.1) (by have:=ls a Y0;simp at this;exact this.1) h2 s1 p.isList h1 (by simp;omega) λh' kk=>#[U,I.fN (t':=s.toks) (fp:=[z,TI,TO,i1,i2,i3]) (λq o hq e=>kk q o (λh=>hq (by simp[h])) (λh=>hq (by simp[h])) e) hf]
 self:=λA i s Q E st h=>wpAny_pyIter_zip st.1 h
end L2
namespace da
open PySem PySem.W PyProof.Rows
section
variable{prog:Ad}{w:Af}{A:Ag}{E:Aa->Ab->Prop}{s:Ab}
theorem alive{a:Addr}{o:Obj}{Q:Option Obj->Ab->Prop}(ho:s.heap.get? a\o)(h:Q (some o) s):wpAny (model prog w) A (loadIfAlive a) Q E s:=fun Γ p _=>by
 unfold loadIfAlive;rw[Sem.wp_loadIfAlive,ho];exact (aF (M:=model prog w) (A:=A) h) Γ p (by assumption)
structure mN (h:Heap) (z TI TO i1 i2 l1 l2:Addr) (k:Nat) (xs ys:Array Aa):Prop where
 nd:[z,TO,i1,i2].Nodup
 ti:TI∉[z,TO,i1,i2]
 ls:∀l∈[l1,l2],l∉[z,TO,i1,i2]
 hI:fe h TI (List.toArray [.ref i1,.ref i2])
 hO:∃a b,fe h TO (List.toArray [a,b])
 s1:Src h i1 l1 k xs
 s2:Src h i2 l2 k ys
 hz:Zp h z TI TO .none false∨∃T o f1,T∉[z,TO,i1,i2]/\h.get? T\o/\Zp h z TI TO (rawInt T) f1
theorem _B{z TI TO i1 i2 l1 l2:Addr}{k:Nat}{xs ys:Array Aa}{x y:Aa}{Q:Aa->Ab->Prop}(D:mN s.heap z TI TO i1 i2 l1 l2 k xs ys)(hx:xs[k]? = some x)(hy:ys[k]? = some y)
  (hQ:∀h',mN h' z TI TO i1 i2 l1 l2 (k+1) xs ys->fe h' s.heap.objs.size (List.toArray [x,y])->(∀c o,c∉[z,TO,i1,i2]->s.heap.get? c\o->h'.get? c\o)->Q (.ref s.heap.objs.size) { s with heap:=h' }) :
  wpAny (model prog w) A (Builtin.«zip.__next__» #[[.ref z],[]]) (λfin s'=>∃v,fin=.done (.ret v)/\Q v s') E s:=by
 let#[Gz,JF,KC,hI,#[a,b,hO],s1,s2,hz]:=D;let nd:=Gz;let ti:=JF;let ls:=KC;simp only[iZ,bZ,gf,or_false,not_or,not_false_eq_true,List.nodup_nil,and_true] at nd ti ls;let#[#[zO,z1,z2],#[O1,O2],sI]:=nd;let L1:=ls l1 (.inl U);let L2:=ls l2 (.inr U);have new:∀{c o},s.heap.get? c\o->s.heap.objs.size≠c:=λe=>iu (bx e)
 have nT:s.heap.objs.size∉[z,TO,i1,i2]:=by
  simp only[bZ,gf,or_false,not_or];apply#[?_,new hO,iu s1.lt.1,iu s2.lt.1];rcases hz with hz|⟨T,o,f1,hT,e,hz⟩
  ·exact new hz
  exact new hz
 rcases hz with hz|⟨T,o,f1,hT,eT,hz⟩
 ·apply (show wpAny _ _ (field (.ref z) 2 >>= _) _ _ _ from af (fG hz U (x:=.bool false) U ?_));apply (show wpAny _ _ (field (.ref z) 3 >>= _) _ _ _ from af (fG hz U (x:=.ref TI) U ?_));apply af (ml hI U ?_);apply (show wpAny _ _ (Builtin.SmallTypes.ownedTupleIsFree (.ref z) >>= _) _ _ _ from af ?_);unfold Builtin.SmallTypes.ownedTupleIsFree;apply af (fG hz U (x:=.none) U (aF ?_));simp only[if_true];apply af (wpAny_rule (af (fG hz U (x:=.ref TO) U (af (qb hz Y0 λh1 iV e1=>af ?_)))));replace iV:Zp h1 z TI TO .ellipsis false:=iV;have LR:fe h1 TO (List.toArray [a,b]):=e1.extBut _ _ (bN zO) hO;let s1:=s1.keep (e1.extBut _ · (bN z1)) (e1.extBut _ · L1.1);let s2:=s2.keep (e1.extBut _ · (bN z2)) (e1.extBut _ · L2.1);simp only[List.zipIdx_cons,List.zipIdx_nil,wJ,u7];apply af (af (wpAny_onRaise (show wpAny _ _ (Builtin.SmallTypes.nextOf (.ref i1) >>= _) _ _ _ from af (s1.next L1.2.2.1 hx λh2 s1 e2=>aF ?_))));have ET:fe h2 TO (List.toArray [a,b]):=e2.extBut _ _ O1 LR;let s2:=s2.keep (e2.extBut _ · (bN sI)) (e2.extBut _ · L2.2.2.1);apply af (ml ET U (af (Fp ET (Nat.le_succ 2) λh3 As e3=>af (wpAny_letGo (aF ?_)))));replace As:fe h3 TO (List.toArray [x,b]):=As;let s1:=s1.keep (e3.extBut _ · (bN O1)) (e3.extBut _ · L1.2.1);let s2:=s2.keep (e3.extBut _ · (bN O2)) (e3.extBut _ · L2.2.1);apply af (af (wpAny_onRaise (show wpAny _ _ (Builtin.SmallTypes.nextOf (.ref i2) >>= _) _ _ _ from af (s2.next L2.2.2.2 hy λh4 s2 e4=>aF ?_))));have ER:fe h4 TO (List.toArray [x,b]):=e4.extBut _ _ O2 As;let s1:=s1.keep (e4.extBut _ · sI) (e4.extBut _ · L1.2.2.2);apply af (ml ER U (af (Fp ER (Nat.le_succ 2) λh7 vX e7=>af (wpAny_letGo (aF (aF ?_))))));replace vX:fe h7 TO (List.toArray [x,y]):=vX;let s1:=s1.keep (e7.extBut _ · (bN O1)) (e7.extBut _ · L1.2.1);let s2:=s2.keep (e7.extBut _ · (bN O2)) (e7.extBut _ · L2.2.1);have all:∀{c o},c≠TO->c≠i1->c≠i2->h1.get? c\o->h7.get? c\o:=λc2 c3 c4 q=>e7.extBut _ _ c2 (e4.extBut _ _ c4 (e3.extBut _ _ c2 (e2.extBut _ _ c3 q)));have zJ:Zp h7 z TI TO .ellipsis false:=all zO z1 z2 iV;have LS:fe h7 TI (List.toArray [.ref i1,.ref i2]):=all ti.2.1 ti.2.2.1 ti.2.2.2 (e1.extBut _ _ ti.1 hI);have sz:h7.objs.size=s.heap.objs.size:=by rw[e7.1,e4.1,e3.1,e2.1,e1.1]
  apply af (ml vX U (af (wpAny_newTuple ?_)));apply (show wpAny _ _ (Builtin.SmallTypes.ownedTupleHandOut (.ref z) (.ref h7.objs.size) >>= _) _ _ _ from af ?_);unfold Builtin.SmallTypes.ownedTupleHandOut;have KU:Zp (h7.push { cls:=.type "tuple",data:=.seq (List.toArray [x,y]) }) z TI TO .ellipsis false:=aQ _ zJ;apply af (qb KU Y0 λh9 KS e9=>qb (show Zp h9 z TI TO (rawInt h7.objs.size) false from KS) Y0 λhA vQ eA=>aF #[_,U,?_]);have up:∀{c o},c≠z->h7.get? c\o->hA.get? c\o:=λc1 q=>eA.extBut _ _ c1 (e9.extBut _ _ c1 (aQ _ q));have hT:fe hA h7.objs.size (List.toArray [x,y]):=eA.extBut _ _ (iu (bx zJ)) (e9.extBut _ _ (iu (bx zJ)) (cJ _ U));show Q (.ref h7.objs.size) _;have vQ:Zp hA z TI TO (rawInt h7.objs.size) false:=vQ;rw[sz] at hT vQ ⊢;apply hQ hA #[Gz,JF,KC,up ti.1 LS,#[_,_,up (bN zO) vX],s1.keep (λ_=>up (bN z1)) (λ_=>up L1.1),s2.keep (λ_=>up (bN z2)) (λ_=>up L2.1),.inr #[_,_,_,nT,hT,vQ]] hT λc o hc q=>?_;simp only[bZ,gf,or_false,not_or] at hc;exact up hc.1 (all hc.2.1 hc.2.2.1 hc.2.2.2 (e1.extBut _ _ hc.1 q))
 apply (show wpAny _ _ (field (.ref z) 2 >>= _) _ _ _ from af (fG hz U (x:=.bool false) U ?_));apply (show wpAny _ _ (field (.ref z) 3 >>= _) _ _ _ from af (fG hz U (x:=.ref TI) U ?_));apply af (ml hI U ?_);apply (show wpAny _ _ (Builtin.SmallTypes.ownedTupleIsFree (.ref z) >>= _) _ _ _ from af ?_)
 have free:∀{Q:Bool->Ab->Prop},(∀h',Zp h' z TI TO (rawInt T) true->(∀c o,c≠z->s.heap.get? c\o->h'.get? c\o)->h'.objs.size=s.heap.objs.size->Q false { s with heap:=h' })->wpAny (model prog w) A (Builtin.SmallTypes.ownedTupleIsFree (.ref z)) Q E s:=λ{Q} h=>by
  unfold Builtin.SmallTypes.ownedTupleIsFree;apply af (fG hz U (x:=rawInt T) U ?_);apply (show wpAny _ _ (loadIfAlive (((T:Nat):Int)).toNat >>= _) _ _ _ from ?_);rw[ym];apply af (alive eT ?_);simp only[Option.isNone_some,qk,if_false];apply af (fG hz U (x:=.bool f1) U ?_);cases f1 with
  |true=>
   apply wpAny_ite_false (by decide) (aF ?_);exact h _ hz (λc o _ q=>q) U
  |false=>
   apply wpAny_ite_true (by decide) ?_;apply af (qb hz Y0 λh1 iV e1=>aF ?_);exact h h1 iV (λc o hc q=>e1.extBut _ _ hc q) e1.1
 apply free λh1 iV k1 VD=>?_;simp only[qk,if_false];let s1:=s1.keep (k1 _ · (bN z1)) (k1 _ · L1.1);let s2:=s2.keep (k1 _ · (bN z2)) (k1 _ · L2.1);apply af ?_;simp only[List.forIn_toArray,wJ,u7];apply af (af (iK (show wpAny _ _ (Builtin.SmallTypes.nextOf (.ref i1) >>= _) _ _ _ from af (s1.next L1.2.2.1 hx λh2 s1 e2=>aF (aF ?_)))));let s2:=s2.keep (e2.extBut _ · (bN sI)) (e2.extBut _ · L2.2.2.1);apply af (af (iK (show wpAny _ _ (Builtin.SmallTypes.nextOf (.ref i2) >>= _) _ _ _ from af (s2.next L2.2.2.2 hy λh4 s2 e4=>aF (aF (aF ?_))))));let s1:=s1.keep (e4.extBut _ · sI) (e4.extBut _ · L1.2.2.2);have sz:h4.objs.size=s.heap.objs.size:=by rw[e4.1,e2.1,VD]
 apply (show wpAny _ _ (newTuple [x,y] >>= _) _ _ _ from af (wpAny_newTuple (aF #[_,U,?_])));have all:∀{c o},c≠i1->c≠i2->h1.get? c\o->h4.get? c\o:=λc3 c4 q=>e4.extBut _ _ c4 (e2.extBut _ _ c3 q);have up:∀{c o},h4.get? c\o->(h4.push { cls:=.type "tuple",data:=.seq (List.toArray [x,y]) }).get? c\o:=λq=>aQ _ q;have Ar:fe (h4.push { cls:=.type "tuple",data:=.seq (List.toArray [x,y]) }) h4.objs.size (List.toArray [x,y]):=cJ _ U;show Q (.ref h4.objs.size) _;rw[sz] at Ar ⊢;simp only[bZ,gf,or_false,not_or] at hT;apply hQ _ #[Gz,JF,KC,up (all ti.2.2.1 ti.2.2.2 (k1 _ _ ti.1 hI)),#[_,_,up (all O1 O2 (k1 _ _ (bN zO) hO))],s1.keep (λ_=>up) (λ_=>up),s2.keep (λ_=>up) (λ_=>up),.inr #[T,_,true,by simp[hT],up (all hT.2.2.1 hT.2.2.2 (k1 _ _ hT.1 eT)),up (all z1 z2 iV)]] Ar λc o hc q=>?_;simp only[bZ,gf,or_false,not_or] at hc;exact up (all hc.2.2.1 hc.2.2.2 (k1 _ _ hc.1 q))
end
end da
namespace da
open PySem PySem.W PyProof.Rows
section
variable{prog:Ad}{w:Af}{A:Ag}{E:Aa->Ab->Prop}{s:Ab}
theorem hM_{z TI TO i1 i2 l1 l2:Addr}{k:Nat}{xs ys:Array Aa}{Q:Fin->Ab->Prop}(hh:A.handled=none)(D:mN s.heap z TI TO i1 i2 l1 l2 k xs ys)(b0:s.heap.IsList l1 xs)(hx:xs[k]? = none)
  (hE:∀h' e,(∀c o,c∉[z,TO,i1,i2]->s.heap.get? c\o->h'.get? c\o)->(∃o,h'.get? e\o/\o.cls=.type "StopIteration")->E (.ref e) { s with heap:=h' }):wpAny (model prog w) A (Builtin.«zip.__next__» #[[.ref z],[]]) Q E s:=by
 let#[nd,ti,ls,hI,#[a,b,hO],s1,s2,hz]:=D;let a0:=s1.Ql b0;simp only[iZ,bZ,gf,or_false,not_or,not_false_eq_true,List.nodup_nil,and_true] at nd ti ls;let#[#[zO,z1,z2],#[O1,O2],sI]:=nd;let L1:=ls l1 (.inl U);have go:∀(h1:Heap),(∀c o,c≠z->s.heap.get? c\o->h1.get? c\o)->∀(E':Aa->Ab->Prop) (Q':Aa->Ab->Prop),(∀h' e,Heap.ExtBut i1 h1 h'->(∃o,h'.get? e\o/\o.cls=.type "StopIteration")->E' (.ref e) { s with heap:=h' })->wpAny (model prog w) A (Builtin.SmallTypes.nextOf (.ref i1)) Q' E' { s with heap:=h1 }:=λh1 k1 E' Q' h=>ended hh (s:={ s with heap:=h1 }) (a0.at λo q=>k1 _ o (bN z1) q) (b0.at λo q=>k1 _ o L1.1 q) hx h;rcases hz with hz|⟨T,o,f1,hT,eT,hz⟩
 ·apply (show wpAny _ _ (field (.ref z) 2 >>= _) _ _ _ from af (fG hz U (x:=.bool false) U ?_));apply (show wpAny _ _ (field (.ref z) 3 >>= _) _ _ _ from af (fG hz U (x:=.ref TI) U ?_));apply af (ml hI U ?_);apply (show wpAny _ _ (Builtin.SmallTypes.ownedTupleIsFree (.ref z) >>= _) _ _ _ from af ?_);unfold Builtin.SmallTypes.ownedTupleIsFree;apply af (fG hz U (x:=.none) U (aF ?_));simp only[if_true];apply af (wpAny_rule (af (fG hz U (x:=.ref TO) U (af (qb hz Y0 λh1 iV e1=>af ?_)))));replace iV:Zp h1 z TI TO .ellipsis false:=iV;simp only[List.zipIdx_cons,List.zipIdx_nil,wJ,u7];apply af (af (wpAny_onRaise (show wpAny _ _ (Builtin.SmallTypes.nextOf (.ref i1) >>= _) _ _ _ from af (go h1 (λc o hc q=>e1.extBut _ _ hc q) _ _ λh2 e e2 he=>?_))));let#[oe,zS,EH]:=he;have D3:Zp h2 z TI TO .ellipsis false:=e2 _ _ z1 iV;have LA:e≠z:=λx=>by subst x;rw[D3] at zS;cases zS;simp at EH
  exact qb D3 Y0 λh3 _ e3=>hE h3 e (λc o hc x=>by
   simp only[bZ,gf,or_false,not_or] at hc;exact e3.extBut _ _ hc.1 (e2 _ _ hc.2.2.1 (e1.extBut _ _ hc.1 x))) #[oe,e3.extBut _ _ LA zS,EH]
 apply (show wpAny _ _ (field (.ref z) 2 >>= _) _ _ _ from af (fG hz U (x:=.bool false) U ?_));apply (show wpAny _ _ (field (.ref z) 3 >>= _) _ _ _ from af (fG hz U (x:=.ref TI) U ?_));apply af (ml hI U ?_);apply (show wpAny _ _ (Builtin.SmallTypes.ownedTupleIsFree (.ref z) >>= _) _ _ _ from af ?_)
 have free:∀{Q:Bool->Ab->Prop},(∀h',(∀c o,c≠z->s.heap.get? c\o->h'.get? c\o)->Q false { s with heap:=h' })->wpAny (model prog w) A (Builtin.SmallTypes.ownedTupleIsFree (.ref z)) Q E s:=λ{Q} h=>by
  unfold Builtin.SmallTypes.ownedTupleIsFree;apply af (fG hz U (x:=rawInt T) U ?_);apply (show wpAny _ _ (loadIfAlive (((T:Nat):Int)).toNat >>= _) _ _ _ from ?_);rw[ym];apply af (alive eT ?_);simp only[Option.isNone_some,qk,if_false];apply af (fG hz U (x:=.bool f1) U ?_);cases f1 with
  |true=>exact wpAny_ite_false (by decide) (aF (h _ λc o _ q=>q))
  |false=>exact wpAny_ite_true (by decide) (af (qb hz Y0 λh1 iV e1=>aF (h h1 λc o hc q=>e1.extBut _ _ hc q)))
 apply free λh1 k1=>?_;simp only[qk,if_false];apply af ?_;simp only[List.forIn_toArray,wJ,u7];apply af (af (iK (show wpAny _ _ (Builtin.SmallTypes.nextOf (.ref i1) >>= _) _ _ _ from af (go h1 k1 _ _ λh2 e e2 he=>hE h2 e (λc o hc x=>?_) he))));simp only[bZ,gf,or_false,not_or] at hc;exact e2 _ _ hc.2.2.1 (k1 _ _ hc.1 x)
theorem mN.ty{z TI TO i1 i2 l1 l2:Addr}{k:Nat}{xs ys:Array Aa}(D:mN s.heap z TI TO i1 i2 l1 l2 k xs ys):s.TypeIs (.ref z) "zip":=by
 rcases D.hz with hz|⟨T,o,f1,hT,eT,hz⟩
 ·exact#[_,hz,U]
 exact#[_,hz,U]
theorem _j{z TI TO i1 i2 l1 l2:Addr}{k:Nat}{xs ys:Array Aa}{x y:Aa}{Q:Option Aa->Ab->Prop}(D:mN s.heap z TI TO i1 i2 l1 l2 k xs ys)(hx:xs[k]? = some x)(hy:ys[k]? = some y)
  (hQ:∀h',mN h' z TI TO i1 i2 l1 l2 (k+1) xs ys->fe h' s.heap.objs.size (List.toArray [x,y])->(∀c o,c∉[z,TO,i1,i2]->s.heap.get? c\o->h'.get? c\o)->Q (some (.ref s.heap.objs.size)) { s with heap:=h' }):wpAny (model prog w) A (pyNext (.ref z)) Q E s:=by
 unfold pyNext;exact af (wpAny_attempt (uU (name:=Str.ofString "__next__") D.ty F.slot_zip_next (tN F.slot_zip_next D.ty F.entry_zip_next (_B D hx hy λh' a2 a3 a4=>aF (hQ h' a2 a3 a4)) (F.args_zip_next_1 _))))
theorem dA_{z TI TO i1 i2 l1 l2:Addr}{k:Nat}{xs ys:Array Aa}{Q:Option Aa->Ab->Prop}(hh:A.handled=none)(D:mN s.heap z TI TO i1 i2 l1 l2 k xs ys)(b0:s.heap.IsList l1 xs)(hx:xs[k]? = none)
  (hQ:∀h',(∀c o,c∉[z,TO,i1,i2]->s.heap.get? c\o->h'.get? c\o)->Q none { s with heap:=h' }):wpAny (model prog w) A (pyNext (.ref z)) Q E s:=by
 unfold pyNext;apply af (wpAny_attempt (uU (name:=Str.ofString "__next__") D.ty F.slot_zip_next (tN F.slot_zip_next D.ty F.entry_zip_next (hM_ hh D b0 hx λh' e hk he=>?_) (F.args_zip_next_1 _))));let#[o,ho,hc]:=he;exact af (wpAny_isInstance (T:="StopIteration") (b:=true) #[o,ho,hc] isSubtype_stop (aF (hQ _ hk)))
abbrev Cp(h:Heap)(l1 l2:Addr):Heap:=oJ (mX h l1) l2
abbrev Co(h:Heap)(l1 l2:Addr):Heap:=(Cp h l1 l2).push { cls:=.type "tuple",data:=.seq (List.toArray [.ref h.objs.size,.ref (mX h l1).objs.size]) }
abbrev Cm(h:Heap)(l1 l2:Addr):Heap:=(Co h l1 l2).push { cls:=.type "tuple",data:=.seq (List.toArray [.none,.none]) }
abbrev yr(h:Heap)(l1 l2:Addr):Heap:=(Cm h l1 l2).push { cls:=.type "zip",data:=.fields (List.toArray [.none,.bool false,.bool false,.ref (Cp h l1 l2).objs.size,.ref (Co h l1 l2).objs.size]) }
theorem fA_(l1 l2:Addr)(xs ys:Array Aa):Meets (Builtin.«zip.__new__» #[[.type "zip",.ref l1,.ref l2],[]]) (λ_ R s=>s.heap.IsList l1 xs/\s.heap.IsTuple l2 ys/\R (.ok (.ret (.ref (Cm s.heap l1 l2).objs.size))) { s with heap:=yr s.heap l1 l2 }):=
 .of_wp λprog w A R s h=>by
  let#[hp,g,d,tk,os]:=s;let#[a1,a2,h]:=h;let zM:=sub_zip;have b1:Heap.IsList (Shared.heap #[hp,g,d,tk,os]) l1 xs:=a1;have b2:Heap.IsTuple (Shared.heap #[hp.push { cls:=.type "list_iterator",data:=.fields (List.toArray [.ref l1,.int 0 0]) },g,d,tk,os]) l2 ys:=Heap.IsTuple.push a2 _
  wp_walk using wpAny_pyIter_list b1,wpAny_pyIter_tuple b2
  exact#[_,U,h]
theorem mN.zo{h:Heap}{z TI TO i1 i2 l1 l2:Addr}{k:Nat}{xs ys:Array Aa}(D:mN h z TI TO i1 i2 l1 l2 k xs ys){h':Heap}(up:∀c o,h.get? c\o->h'.get? c\o):mN h' z TI TO i1 i2 l1 l2 k xs ys:=by
 let#[nd,ti,ls,hI,#[a,b,hO],s1,s2,hz]:=D;apply#[nd,ti,ls,up _ _ hI,#[a,b,up _ _ hO],s1.keep (up _) (up _),s2.keep (up _) (up _),?_];rcases hz with hz|⟨T,o,f1,hT,eT,hz⟩
 ·exact .inl (up _ _ hz)
 exact .inr #[T,o,f1,hT,up _ _ eT,up _ _ hz]
theorem gW_{l1 l2:Addr}{xs ys:Array Aa}{Q:Aa->Ab->Prop}(a1:s.heap.IsList l1 xs)(a2:s.heap.IsTuple l2 ys)
  (h:∀h' z TI TO i1 i2,mN h' z TI TO i1 i2 l1 l2 0 xs ys->Zp h' z TI TO .none false->(∀b∈[z,TO,i1,i2],s.heap.objs.size<=b)->(∀c o,s.heap.get? c\o->h'.get? c\o)->Q (.ref z) { s with heap:=h' }):wpAny (model prog w) A (call (.type "zip") [.ref l1,.ref l2]) Q E s:=by
 apply callType_new F.called_zip (by decide) (F.typeCall_zip_2 _ _) (F.newCall_zip_2 _ _) (λobj=>F.args_object_init_3 obj _ _) F.entry_zip_new (fA_ l1 l2 xs ys) #[a1,a2,?_];have z1:(mX s.heap l1).objs.size=s.heap.objs.size+1:=mj ..;have z2:(Cp s.heap l1 l2).objs.size=s.heap.objs.size+2:=by rw[mj,z1]
 have z3:(Co s.heap l1 l2).objs.size=s.heap.objs.size+3:=by rw[mj,z2]
 have z4:(Cm s.heap l1 l2).objs.size=s.heap.objs.size+4:=by rw[mj,z3]
 have g5:(yr s.heap l1 l2).get? (Cm s.heap l1 l2).objs.size\_:=cJ _ U;have g4:(yr s.heap l1 l2).get? (Co s.heap l1 l2).objs.size\_:=aQ _ (cJ _ U);have g3:(yr s.heap l1 l2).get? (Cp s.heap l1 l2).objs.size\_:=aQ _ (aQ _ (cJ _ U));have g2:(yr s.heap l1 l2).get? (mX s.heap l1).objs.size\_:=aQ _ (aQ _ (aQ _ (cJ _ U)));have g1:(yr s.heap l1 l2).get? s.heap.objs.size\_:=aQ _ (aQ _ (aQ _ (aQ _ (cJ _ U))));have up:∀c o,s.heap.get? c\o->(yr s.heap l1 l2).get? c\o:=λc o x=>aQ _ (aQ _ (aQ _ (aQ _ (aQ _ x))));have KA:l1<s.heap.objs.size:=by let#[_,e,_]:=a1;exact bx e
 have Kz:l2<s.heap.objs.size:=by let#[_,e,_]:=a2;exact bx e
 show _/\_;apply#[#[_,g5,U],h _ (Cm s.heap l1 l2).objs.size (Cp s.heap l1 l2).objs.size (Co s.heap l1 l2).objs.size s.heap.objs.size (mX s.heap l1).objs.size #[?_,?_,?_,g3,#[_,_,g4],.lst #[_,g1,U,U] (a1.at λo e=>up _ o e),.tup #[_,g2,U,U] (by let#[o,e,r]:=a2;exact#[o,up _ o e,r]),.inl g5] g5 ?_ up]
 ·rw[z1,z3,z4];generalize s.heap.objs.size=n;simp
 ·rw[z1,z2,z3,z4];generalize s.heap.objs.size=n;simp
 ·intro l hl hm
  have lt:l<s.heap.objs.size:=by
   simp only[bZ,gf,or_false] at hl;rcases hl with rfl|rfl
   ·exact KA
   exact Kz
  simp only[bZ,gf,or_false] at hm;rcases hm with rfl|rfl|rfl|rfl
  ·rw[z4] at lt;exact absurd lt (Nat.not_lt.mpr (t_ _ _))
  ·rw[z3] at lt;exact absurd lt (Nat.not_lt.mpr (t_ _ _))
  ·exact ue _ lt
  rw[z1] at lt;exact absurd lt (Nat.not_lt.mpr (t_ _ _))
 intro b hb;simp only[bZ,gf,or_false] at hb;rcases hb with rfl|rfl|rfl|rfl
 ·rw[z4];exact t_ _ _
 ·rw[z3];exact t_ _ _
 ·exact bh _
 rw[z1];exact t_ _ _
end
end da
namespace da
open PySem PySem.W PyProof.Rows
theorem dF_:typeLookup (.type "zip") "keys"=pure none:=by rw[typeLookup_type,builtinLookup_eq_fast];kernel_rfl
theorem co_:typeLookup (.type "zip") "__getattr__"=pure none:=by rw[typeLookup_type,builtinLookup_eq_fast];kernel_rfl
theorem e8_:entryFor table "zip.__getattribute__"\Builtin.«object.__getattribute__»:=entryFor_alias (id':="object.__getattribute__") (by kernel_rfl) Z0 Z0 (by kernel_rfl)
theorem d1_(a:Addr)(fs:Array Aa)(u:Tok):Meets (Builtin.«object.__getattribute__» #[[.ref a,.str "keys" u],[]]) (λA R s=>s.heap.get? a=some { cls:=.type "zip",dict:=none,data:=.fields fs,slots:=#[] }/\raisesAttr (.ref a) "keys" A R s):=
 Meets.of_wp λprog w A R s hs=>by
  let#[hp,g,d,tk,os]:=s;let#[hx,hs]:=hs;have hT:(#[hp,g,d,tk,os]:Ab).TypeIs (.ref a) "zip":=#[_,hx,U];let hm:=dF_;unfold Builtin.«object.__getattribute__»
  repeat (any_goals (first|assumption|wp_step))
  repeat (any_goals (first|assumption|wp_step))
  exact wpAny_raiseAttrError hs.1 hs.2 (attrMsg_fits Z0 (by size_fits))
section
variable{prog:Ad}{w:Af}{A:Ag}{E:Aa->Ab->Prop}{s:Ab}
theorem fB_{a:Addr}{fs:Array Aa}{tk:Tok}{R:Result->Ab->Prop}(hx:s.heap.get? a=some { cls:=.type "zip",dict:=none,data:=.fields fs,slots:=#[] })(h:raisesAttr (.ref a) "keys" A R s) :
  codeAny (model prog w) A (.call (.builtin "zip.__getattribute__") #[[.ref a,.str "keys" tk],[]]) R s:=by
 apply codeAny_call_builtin F.slot_zip_getattribute.plain e8_ (F.slot_zip_getattribute.check _ _ _ _ _ _ _ _ #[_,hx,U] (F.args_zip_getattribute_2 _ _) ?_);exact d1_ a fs tk prog w A R s #[hx,h]
theorem vH{a:Addr}{fs:Array Aa}{Q:Option Aa->Ab->Prop}(hx:s.heap.get? a=some { cls:=.type "zip",dict:=none,data:=.fields fs,slots:=#[] })(hA:A.handled=none)
  (h:∀h' tk,(∀b o,s.heap.get? b\o->h'.get? b\o)->Q none { s with heap:=h',toks:=tk }):wpAny (model prog w) A (getAttr? (.ref a) "keys") Q E s:=by
 let#[hp,g,d,tk,os]:=s;have ty:∀fO,(#[hp,g,d,fO,os]:Ab).TypeIs (.ref a) "zip":=λ_=>#[_,hx,U];let f1:=sub_AttributeError;let f2:=F.slot_zip_getattribute.lookup;let f3:=F.slot_zip_getattribute.bind (.ref a);let f4:=co_;unfold getAttr? getAttrBy? getAttrBy
 repeat (any_goals (first|assumption|exact ty _|wp_step))
 apply fB_ hx #[hA,λh' fO e vR=>?_];let#[t',u',he]:=vR.there;apply (show wpAny _ _ (getattributeRaised _ _ _ _ _ _ _) _ _ _ from ?_);unfold getattributeRaised
 repeat (any_goals (first|assumption|wp_step))
 exact h _ _ vR.keeps
end
section
variable{prog:Ad}{w:Af}{K:Type}[DecidableEq K]{knd:PySem.KeyKind prog w K}{A:Ag}
theorem YL{z TI TO i1 i2 l1 l2 d:Addr}(hd:d∉[z,TO,i1,i2])(hh:A.handled=none){xs ys:aj}(rest:List K):∀(i:Nat) (kvs:List (K × Aa)) (s:Ab) (R:Result->Ab->Prop) (tk:Tok),i+rest.length=xs.length->i+rest.length=ys.length->
  (∀(j:Nat) k,rest[j]? = some k->∃v,xs[i+j]? = some v/\knd.is k v=true)->mN s.heap z TI TO i1 i2 l1 l2 i xs.toArray ys.toArray->s.heap.IsList l1 xs.toArray->s.heap.DictOf knd d kvs->kvs.length+rest.length<=1000->
  (∀h' fO,h'.DictOf knd d (eQ kvs (rest.zip (ys.drop i)))->(∀b o,b≠d->b∉[z,TO,i1,i2]->s.heap.get? b\o->h'.get? b\o)->R (.ok (.ret .none)) { s with heap:=h',toks:=fO })->
  codeAny (model prog w) A (.builtin "dict.update.loop" #[[.ref d,.ref z,.int i tk,.none],[]]) R s:=by
 induction rest with
 |nil=>
  intro i kvs s R tk e1 e2 hk D b0 pU hz hR;apply codeAny_builtin B5 ?_;rw[xW qj _,BW];apply af (dA_ hh D b0 (by simp at e1 ⊢;omega) λh' kp=>?_);exact af (m:=Builtin.Dict.addKeywords d []) (aF (aF (hR h' s.toks (FH pU λo q=>kp _ _ hd q) λb o _ hb q=>kp b o hb q)))
 |cons k rest ih=>
  intro i kvs s R tk e1 e2 hk D b0 pU hz hR;simp only[iR] at e1 e2 hz;let#[v,hv,kv]:=hk 0 k U;have hy:ys[i]? = some ys[i]:=aY Z2;apply codeAny_builtin B5 ?_;rw[xW qj _,BW];apply af (_j D (x:=v) (y:=ys[i]) ⇑hv ⇑hy λh1 D1 hT kp=>?_);apply af (iK (af (wpAny_tryCatch ?_)));unfold Builtin.Dict.pairItems;apply af (wpAny_typeOf (T:="tuple") #[_,hT,U] ?_);rw[aI (by decide)];unfold seqItems?;apply af (af (wpAny_load hT (aF (aF ?_))));apply (show wpAny _ _ (holding [v,ys[i]] (dictSet d v ys[i])) _ _ _ from iK (wpAny_dictSet_pairs kv (FH pU λo q=>kp _ _ hd q) (λh2 hd2 pS=>?_) (by have:=cq;omega)));have c1:((i:Int)+1)=((i+1:Nat):Int):=by omega
  have ndT:s.heap.objs.size≠d:=by
   let#[o,es,ep,ho,_]:=pU;exact iu (bx ho)
  apply aF #[plainId_quiet qj _,?_];have d6:∀{c o},c≠d->h1.get? c\o->h2.get? c\o:=λhc q=>pS.extBut _ _ hc q;let#[nd,ti,ls,hI,#[a,b,hO],s1,s2,QI]:=D1;have dn:∀{c},c∈[z,TO,i1,i2]->c≠d:=λhc e=>hd (by rw[<- e];exact hc)
  have sr:∀{c xs},h1.IsTuple c xs->c≠d:=λ{c xs} q e=>by
   let#[o,ho,hc,_]:=q;let#[o2,es,ep,eR,jq,_]:=pU;let eR:=kp _ _ hd eR;subst e;rw[ho] at eR;cases eR;let tj:=jq.1;rw[hc] at tj;exact absurd tj (by decide)
  have sG:∀{c xs},h1.IsList c xs->c≠d:=λ{c xs} q e=>by
   let#[o,ho,hc,_]:=q;let#[o2,es,ep,eR,jq,_]:=pU;let eR:=kp _ _ hd eR;subst e;rw[ho] at eR;cases eR;let tj:=jq.1;rw[hc] at tj;exact absurd tj (by decide)
  have ld:∀{it l k zs},Src h1 it l k zs->l≠d:=λq=>by
   cases q with
   |lst _ b=>exact sG b
   |tup _ b=>exact sr b
  have D2:mN h2 z TI TO i1 i2 l1 l2 (i+1) xs.toArray ys.toArray:=by
   apply#[nd,ti,ls,d6 (sr #[_,hI,U,_,U]) hI,#[a,b,d6 (dn Y0) hO],s1.keep (λ_=>d6 (dn Y0)) (λ_=>d6 (ld s1)),s2.keep (λ_=>d6 (dn Y0)) (λ_=>d6 (ld s2)),?_];rcases QI with hz|⟨T,o,f1,Ar,eT,hz⟩
   ·exact .inl (d6 (dn Y0) hz)
   by_cases c:T=d
   ·let#[o2,es,ep,eR,_]:=hd2;exact .inr #[T,o2,f1,Ar,by rw[c];exact eR,d6 (dn Y0) hz]
   exact .inr #[T,o,f1,Ar,d6 c eT,d6 (dn Y0) hz]
  rw[c1]
  apply ih (i+1) (stored kvs k ys[i]) _ R 0 Z2 Z2 (λj k' hj=>?_) D2 (b0.at λo q=>d6 (sG (b0.at λo q=>kp _ _ (ls _ Y0) q)) (kp _ _ (ls _ Y0) q)) hd2 (by have:=TK kvs k ys[i];omega) λh' fO hU DR=>hR h' fO (by
   have e:ys.drop i=ys[i]::ys.drop (i+1):=List.drop_eq_getElem_cons Z2;rw[e];exact hU) λb o h3 h4 q=>DR b o h3 h4 (d6 h3 (kp b o h4 q))
  let#[v,e,r]:=hk (j+1) k' hj;exact#[v,by rw[<- e];congr 1;omega,r]
theorem fu_{E:Aa->Ab->Prop}{s:Ab}{z TI TO i1 i2 l1 l2:Addr}{xs ys:aj}{ks:List K}{Q:Aa->Ab->Prop}(hh:A.handled=none)(D:mN s.heap z TI TO i1 i2 l1 l2 0 xs.toArray ys.toArray)(hz:Zp s.heap z TI TO .none false)(b0:s.heap.IsList l1 xs.toArray)(e1:ks.length=xs.length)(e2:ks.length=ys.length)(hk:∀(j:Nat) k,ks[j]? = some k->∃v,xs[j]? = some v/\knd.is k v=true)(ou:ks.length<=1000)
  (h:∀h' fO,h'.DictOf knd s.heap.objs.size (eQ [] (ks.zip ys))->(∀b o,b∉[z,TO,i1,i2]->s.heap.get? b\o->h'.get? b\o)->Q (.ref s.heap.objs.size) { s with heap:=h',toks:=fO }) :
  wpAny (model prog w) A (call (.type "dict") [.ref z]) Q E s:=by
 apply callType_codes (Q₁:=λobj aJ=>obj=.ref s.heap.objs.size/\aJ={ s with heap:=s.heap.push { cls:=.type "dict",data:=.dict #[] } }) F.kt_called_dict (F.kt_typeCall_dict_1 _) F.entry_dict_init (kt_code_dict_new _ #[U,U]) ?_;rintro obj aJ ⟨rfl,rfl⟩;have gn:(s.heap.push { cls:=.type "dict",data:=.dict #[] }).DictOf knd s.heap.objs.size []:=Heap.DictOf.new s.heap;have z1:Zp (s.heap.push { cls:=.type "dict",data:=.dict #[] }) z TI TO .none false:=aQ _ hz;apply#[gn.typeIs,F.args_dict_init_2 _ _,?_];unfold Builtin.«dict.__init__» Builtin.Dict.selfAndRest;apply af (af (wpAny_notOrdered_dict gn.typeIs ?_));apply (show wpAny _ _ (pure (s.heap.objs.size,[Value.ref z])) _ _ _ from aF ?_);apply (show wpAny _ _ (Builtin.Dict.updateFrom "dict.__init__" s.heap.objs.size (.ref z) [] .none) _ _ _ from ?_);unfold Builtin.Dict.updateFrom;apply af (wpAny_typeOf (T:="zip") #[_,z1,U] ?_);rw[aI (by decide)];apply af (vH z1 hh λh2 Pg k2=>?_);simp only[Option.isNone_none,if_true];have z2:IsZip h2 z TI TO .none:=k2 _ _ z1;apply af (wpAny_rule (af (wpAny_pyIter_zip z2 ?_)));apply aF #[plainId_quiet qj _,?_];have all:∀c o,s.heap.get? c\o->h2.get? c\o:=λc o q=>k2 _ _ (aQ _ q)
 have lt:∀{b},b∈[z,TO,i1,i2]->b<s.heap.objs.size:=λ{b} hb=>by
  let#[nd,ti,ls,hI,#[a,b,hO],s1,s2,QI]:=D;simp only[bZ,gf,or_false] at hb;rcases hb with rfl|rfl|rfl|rfl
  ·exact bx hz
  ·exact bx hO
  ·exact s1.lt.1
  exact s2.lt.1
 apply YL (A:=A.in1) (knd:=knd) (d:=s.heap.objs.size) (xs:=xs) (ys:=ys) (λhm=>ue _ (lt hm)) hh ks 0 [] _ _ 0 Z2 Z2 (λj k hj=>by simpa using hk j k hj) (D.zo all) (b0.at λo q=>all _ _ q) (FH gn λo q=>k2 _ _ q) ⇑ou λh' fO hU kp=>#[U,h h' fO ⇑hU λb o hb q=>kp b o (dG (bx q)) hb (all _ _ q)]
end
end da
namespace da
open PySem PySem.W PyProof.Rows
section
variable{prog:Ad}{w:Af}{A:Ag}{E:Aa->Ab->Prop}{s:Ab}
theorem gh_{l1 l2 l3:Addr}{xs ys zs:Array Aa}{Q:Aa->Ab->Prop}(a1:s.heap.IsList l1 xs)(a2:s.heap.IsTuple l2 ys)(a3:s.heap.IsTuple l3 zs)
  (h:∀h' z TI TO i1 i2 i3,[z,TO,i1,i2,i3].Nodup->TI∉[z,TO,i1,i2,i3]->(∀b∈[z,TI,TO,i1,i2,i3],s.heap.objs.size<=b)->Zp h' z TI TO .none false->fe h' TI (List.toArray [.ref i1,.ref i2,.ref i3])->fe h' TO (List.toArray [.none,.none,.none])->h'.IsListIter i1 l1 0->h'.IsTupleIter i2 l2 0->h'.IsTupleIter i3 l3 0->(∀c o,s.heap.get? c\o->h'.get? c\o)->Q (.ref z) { s with heap:=h' }):wpAny (model prog w) A (call (.type "zip") [.ref l1,.ref l2,.ref l3]) Q E s:=by
 apply callType_new F.called_zip (by decide) (dt_ _ _ _) (e2_ _ _ _) (λobj=>fS_ obj _ _ _) F.entry_zip_new (fD_ l1 l2 l3 xs ys zs) #[a1,a2,a3,?_];have z1:(mX s.heap l1).objs.size=s.heap.objs.size+1:=mj ..;have z2:(oJ (mX s.heap l1) l2).objs.size=s.heap.objs.size+2:=by rw[mj,z1]
 have z3:(Cs s.heap l1 l2 l3).objs.size=s.heap.objs.size+3:=by rw[mj,z2]
 have z4:(Cr s.heap l1 l2 l3).objs.size=s.heap.objs.size+4:=by rw[mj,z3]
 have z5:(Cq s.heap l1 l2 l3).objs.size=s.heap.objs.size+5:=by rw[mj,z4]
 have g6:(yu s.heap l1 l2 l3).get? (Cq s.heap l1 l2 l3).objs.size\_:=cJ _ U;have g5:(yu s.heap l1 l2 l3).get? (Cr s.heap l1 l2 l3).objs.size\_:=aQ _ (cJ _ U);have g4:(yu s.heap l1 l2 l3).get? (Cs s.heap l1 l2 l3).objs.size\_:=aQ _ (aQ _ (cJ _ U));have g3:(yu s.heap l1 l2 l3).get? (oJ (mX s.heap l1) l2).objs.size\_:=aQ _ (aQ _ (aQ _ (cJ _ U)));have g2:(yu s.heap l1 l2 l3).get? (mX s.heap l1).objs.size\_:=aQ _ (aQ _ (aQ _ (aQ _ (cJ _ U))));have g1:(yu s.heap l1 l2 l3).get? s.heap.objs.size\_:=aQ _ (aQ _ (aQ _ (aQ _ (aQ _ (cJ _ U)))));show _/\_;apply#[#[_,g6,U],h _ (Cq s.heap l1 l2 l3).objs.size (Cs s.heap l1 l2 l3).objs.size (Cr s.heap l1 l2 l3).objs.size s.heap.objs.size (mX s.heap l1).objs.size (oJ (mX s.heap l1) l2).objs.size ?_ ?_ ?_ g6 g4 g5 #[_,g1,U,U] #[_,g2,U,U] #[_,g3,U,U] λc o x=>aQ _ (aQ _ (aQ _ (aQ _ (aQ _ (aQ _ x)))))]
 ·rw[z1,z2,z4,z5];generalize s.heap.objs.size=n;simp
 ·rw[z1,z2,z3,z4,z5];generalize s.heap.objs.size=n;simp
 intro b hb;simp only[bZ,gf,or_false] at hb;rcases hb with rfl|rfl|rfl|rfl|rfl|rfl
 ·rw[z5];exact t_ _ _
 ·rw[z3];exact t_ _ _
 ·rw[z4];exact t_ _ _
 ·exact bh _
 ·rw[z1];exact t_ _ _
 rw[z2];exact t_ _ _
end
end da
namespace L2
open PySem PySem.Spec PySem.Calls PyProof.Rows PySem.W da
inductive sL (K:ai) (R:It->Hp->Prop) (vs:ag) (H1:Hp):Prop
 |mk:∀a b c xs ys zs,vs=[.ref a,.ref b,.ref c]->dU K H1 a xs->eD K H1 b ys->eD K H1 c zs->R (FT K a b c) H1->sL K R vs H1
def DX(K:ai)(ta:TA):TI:=λσ H R=>ta σ H λvs H1=>sL K R vs H1
theorem YO{X:Cx}{elts:List Expr}{kk:Nat}{p2:Pos}{a:Expr}{es:List Expr}{ta:TA}{p pos:Pos}(hg:Gl X "zip")(hm:X.mg "zip"=none)(ha:PA X (a::es) ta)(hs:starEach (a::es) X.env=(false,eval a X.env)::starEach es X.env:=by rfl)(iE:(backTo pos (starEach es X.env)).any (·.1)=false:=by rfl):PI X (.Tuple elts kk p2) (.Call (.Name "zip" p) (a::es) [] pos) (DX X.K ta):=by
 intro pins s σ H R I h;apply Call_ (uV I hg hm boot_zip (AN (aO (ha pos pins s σ H _ I h) λus s1 ⟨vs,H1,I1,r1,q1⟩=>?_) hs iE));let#[a,b,c,xs,ys,zs,e,q1,q2,q3,q]:=q1;subst e;cases r1 with
 |cons ra rr=>
 cases rr with
 |cons rb rr=>
 cases rr with
 |cons rc rr=>
 cases rr;cases ra;cases rb;cases rc;let#[u1,_,p1,_]:=I1.list q1;let#[u2,_,p2,_]:=I1.tuple q2;let#[u3,_,p3,_]:=I1.tuple q3;have KA:a<s1.heap.objs.size:=by let#[_,e,_]:=p1.isList;exact bx e
 have Kz:b<s1.heap.objs.size:=by let#[_,e,_]:=p2;exact bx e
 have Xc:c<s1.heap.objs.size:=by let#[_,e,_]:=p3;exact bx e
 apply gh_ p1.isList p2 p3 λh' z TI TO i1 i2 i3 nd ti new hz hI hO VU s2 s3 kp=>?_;apply wpAny_pyIter_zip hz ?_;apply#[z,[z,TI,TO,i1,i2,i3],_,_,H1,U,I1.kept (t':=s1.toks) kp,gx_ a b c z TI TO i1 i2 i3 nd ti λl hl hm=>?_,#[hz,hI,#[_,_,_,hO],VU,s2,s3],λd hd=>I1.iH (new d hd) (I1.aA.fresh (new d hd)),q];have hm:s1.heap.objs.size<=l:=new l (by simp at hm ⊢;rcases hm with h|h|h|h|h<;>simp[h])
 simp only[bZ,gf,or_false] at hl;rcases hl with rfl|rfl|rfl
 ·exact Nat.not_lt.mpr hm KA
 ·exact Nat.not_lt.mpr hm Kz
 exact Nat.not_lt.mpr hm Xc
theorem hP_{K:ai}{a b c:Addr}{xs ys zs:ag}{g:TG}{tb:TS}{D:Ends}{σ:St}{H:Hp}(l2:ys.length=xs.length)(l3:zs.length=xs.length)(Pv:bR)(h0:Pv 0 σ H)(hl:∀i σ H,i<=xs.length->Pv i σ H->dU K H a xs/\eD K H b ys/\eD K H c zs)
  (hs:∀i x y z σ H,xs[i]? = some x->ys[i]? = some y->zs[i]? = some z->Pv i σ H->∀t,H t=none->g (.ref t) σ (upd H t (.tup [x,y,z])) λfw H2=>tb { D with nx:=Pv (i+1),ct:=Pv (i+1),bk:=D.nx } fw H2) (hd:∀σ H,Pv xs.length σ H->D.nx σ H) :
  ∃W:Nat->Nat->St->Hp->Prop,(∃m,W 0 m σ H)/\∀i m σ H,W i m σ H->
   ((FT K a b c).stop i H/\D.nx σ H)∨((FT K a b c).go i H/\∃N:St->Hp->Prop,(∀aZ H',N aZ H'->∃m',m'<m/\W (i+1) m' aZ H')/\∀x H',(FT K a b c).uA i H x H'->g x σ H' λfw H2=>tb { D with nx:=N,ct:=N,bk:=D.nx } fw H2):=by
 apply#[λi m σ H=>m=xs.length - i/\i<=xs.length/\Pv i σ H,#[xs.length,by simp,gP _,h0],?_];rintro i m σ H ⟨rfl,hi,p⟩;let#[q1,q2,q3]:=hl i σ H hi p;by_cases dI:i<xs.length
 ·apply .inr #[#[xs,ys,zs,xs[i],ys[i]' Z2,zs[i]' Z2,q1,q2,q3,by simp[dI],by simp[l2,dI],by simp[l3,dI]],Pv (i+1),λaZ H' p'=>#[xs.length - (i+1),by omega,U,dI,p'],λv H' y=>?_];let#[t,x,y,z,rfl,ht,y1,y2,y3,rfl]:=y;exact hs i x y z σ H (y1 xs q1) (y2 ys q2) (y3 zs q3) p t ht
 have e:i=xs.length:=by omega
 subst e;exact .inl #[#[xs,q1,U],hd σ H p]
inductive Tx (K:ai) (Q:VK) (vs:ag) (H1:Hp):Prop
 |mk:∀(l t:Addr) (ns:ae) (ys:ag),vs=[.ref l,.ref t]->dU K H1 l (ns.map V.str)->eD K H1 t ys->ys.length=ns.length->ns.length<=1000->(∀d,H1 d=none->Q (.ref d) (upd H1 d (.dK (wH [] ((ns.zip ys).map λp=>(Sum.inr p.1,p.2))))))->Tx K Q vs H1
def qE(K:ai)(ta:TA):TE:=λσ H Q=>ta σ H λvs H1=>Tx K Q vs H1
theorem Qx:∀{ns:ae} {ys:ag} {us:aj},Vals ys us->KV ((ns.zip ys).map λp=>((Sum.inr p.1:Key),p.2)) ((ns.map Sum.inr).zip us)
 |[],_,_,_=>by simp only[List.zip_nil_left,List.map_nil];exact Paired.nil
 |_::_,_,_,.nil=>by simp only[List.zip_nil_right,List.map_nil];exact Paired.nil
 |n::ns,y::ys,u::us,.cons r t=>.cons #[U,r] (Qx t)
theorem fJ_{X:Cx}{a:Expr}{es:List Expr}{ta:TA}{p1 p2 oU oT:Pos}(gD:Gl X "dict")(mD:X.mg "dict"=none)(gZ:Gl X "zip")(mZ:X.mg "zip"=none)(ha:PA X (a::es) ta)(hc:X.calm=true:=by rfl)
  (h1:starEach (a::es) X.env=(false,eval a X.env)::starEach es X.env:=by rfl) (h2:starEach [.Call (.Name "zip" p2) (a::es) [] oT] X.env=(false,eval (.Call (.Name "zip" p2) (a::es) [] oT) X.env)::starEach [] X.env:=by rfl)
  (h3:(backTo oU (starEach [] X.env)).any (·.1)=false:=by rfl) (h4:(backTo oT (starEach es X.env)).any (·.1)=false:=by rfl):PE X (.Call (.Name "dict" p1) [.Call (.Name "zip" p2) (a::es) [] oT] [] oU) (qE X.K ta):=by
 intro pins s σ H Q I h;apply wpAny_Call_Name_kw (uV I gD mD uT ?_ (by decide) (by decide));apply AN ?_ h2 h3;rw[h2];apply (show wpAny _ _ (spliced ((false,eval (.Call (.Name "zip" p2) (a::es) [] oT) X.env)::backTo oU (starEach [] X.env))) _ _ s from Calls.spliced_cons ?_);apply wpAny_Call_Name_kw (uV I gZ mZ boot_zip ?_ (by decide) (by decide));apply AN (aO (ha oT pins s σ H _ I h) λus s1 ⟨vs,H1,I1,r1,q1⟩=>?_) h1 h4;let#[l,t,ns,ys,e,sq,VH,ly,ou,q]:=q1;subst e;cases r1 with
 |cons ra rr=>
 cases rr with
 |cons rb rr=>
 cases rr;cases ra;cases rb;let#[u1,v1,p1,_]:=I1.list sq;let#[u2,v2,p2,_]:=I1.tuple VH;let e1:=v1.length;let e2:=v2.length;rw[av] at e1;apply gW_ p1.isList p2 λh' z TI TO i1 i2 D hz new kp=>?_;have I2:Inv X pins σ H1 { s1 with heap:=h' }:=I1.kept (t':=s1.toks) kp;apply Calls.spliced_nil ?_;apply fu_ (knd:=dX X.prog X.w) (s:={ s1 with heap:=h' }) (ks:=ns.map Sum.inr) (I1.ok.hd hc) D hz (p1.isList.at λo e=>kp _ _ e) (by rw[av];omega) (by rw[av];omega) (λj k hj=>?_) (by rw[av];exact ou) λgT tk hd XF=>?_
 ·rw[dF,Cd] at hj;let#[n,hn,rfl]:=hj;let#[u,hu,ru]:=v1.get (i:=j) (x:=V.str n) (by rw[dF,hn];rfl);exact#[u,hu,we (k:=Sum.inr n) ru]
 have hk:∀b o,s1.heap.get? b\o->gT.get? b\o:=λb o e=>XF b o (λhm=>Nat.not_lt.mpr (new b hm) (bx e)) (kp _ _ e);have fresh:s1.heap.objs.size<=h'.objs.size:=Nat.le_of_lt (Nat.lt_of_le_of_lt (new z Y0) (bx hz));let big:=I2.big;apply#[.ref h'.objs.size,_,I1.laid (t':=tk) hk fresh (L_ ?_ (beq_eq_false_iff_ne.mpr (bN (dG big))) (KV.eQ (Qx v2) .nil) hd),U,q _ (I1.aA.fresh fresh)];show (wH [] ((ns.zip ys).map λp=>((Sum.inr p.1:Key),p.2))).length<=sizeLine;have:=Oy ((ns.zip ys).map λp=>((Sum.inr p.1:Key),p.2)) [];rw[av,List.length_zip] at this;have:=cq;simp only[List.length_nil] at *;omega
end L2
namespace da
open PySem PySem.W PyProof.Rows
section
variable{prog:Ad}{w:Af}{A:Ag}{E:Aa->Ab->Prop}{s:Ab}
theorem NB(hh:A.handled=none)(it l:Addr)(ne:l≠it)(xs:Array Aa):Draws prog w A it [it,l] xs.size (λi v=>xs[i]? = some v) λi h=>h.IsTupleIter it l i/\h.IsTuple l xs where
 live:=λi h ⟨⟨o,e,_⟩,_⟩=>#[o,e]
 frame:=λi h h' ⟨a,b⟩ k=>#[a.at λo e=>k it Y0 o e,by let#[o,e,r]:=b;exact#[o,k l Y0 o e,r]]
 item:=λi s Q E hi ⟨a,b⟩ h=>nextT a b (Array.getElem?_eq_getElem hi) λh' a' sb=>h _ h' s.toks (Array.getElem?_eq_getElem hi) #[a',b.extBut sb.extBut ne] sb
 done:=λs Q E ⟨a,b⟩ hE=>by
  let#[o,ho,hc,hd]:=id a;let#[u,hu,_,n,hv]:=b;have hx:xs[xs.size]? = none:=Array.getElem?_eq_none (bh _);unfold Builtin.SmallTypes.nextOf;apply af (uU (name:=Str.ofString "__next__") a.typeIs F.slot_tuple_iterator_next (tN F.slot_tuple_iterator_next a.typeIs F.entry_tuple_iterator_next ?_ (F.args_tuple_iterator_next_1 _)));apply (show wpAny _ _ (field (.ref it) 0 >>= _) _ _ s from af (fG ho hd (x:=.ref l) U ?_));apply (show wpAny _ _ (if (Value.ref l == Value.none)=true then _ else _) _ _ s from ?_);rw[aC (show ¬((Value.ref l == Value.none)=true) from gN)];apply (show wpAny _ _ (field (.ref it) 1 >>= _) _ _ s from af (fG ho hd (x:=.int xs.size 0) U ?_));apply (show wpAny _ _ (seqItems? (.ref l) >>= _) _ _ s from af (ml hu hv ?_));simp only[ym,hx];apply af (wpAny_rule (af (wpAny_setField ho hd Y0 ?_)));apply (show wpAny _ _ (newExc (.type "StopIteration") [] >>= _) _ _ _ from af ?_);simp only[newExc,newTuple];apply af (qa ?_ (by size_fits));apply af (m:=firstArgMember _ _) (wpAny_of_eq (a:=Value.none) (by first|rfl|(simp only[firstArgMember];rfl)) ?_);apply qa ?_ (by size_fits);simp only[raiseNew];apply af (wpAny_handled ?_)
  first|rw[show A.in1.handled=none from hh]|rw[hh]
  apply af (aF (wpAny_throw ?_));exact hE _ _ (((Heap.SameBut.update ..).extBut.push _).push _) #[_,cJ _ U,U]
theorem eE_(l:Addr)(xs:Array Aa):Meets (Builtin.«enumerate.__new__» #[[.type "enumerate",.ref l],[]]) (λ_ R s=>s.heap.IsTuple l xs /\
   R (.ok (.ret (.ref (oJ s.heap l).objs.size))) { s with heap:=(oJ s.heap l).push { cls:=.type "enumerate",data:=.fields (List.toArray [.none,.bool false,.ref s.heap.objs.size,rawInt 0,.none,.none]) } }):=
 .of_wp λprog w A R s h=>by
  let#[hp,g,d,tk,os]:=s;let#[a,h]:=h;let zM:=sub_enumerate;let#[o,ho,hc,n,hd]:=id a;have hL:Heap.IsTuple (Shared.heap #[hp,g,d,tk,os]) l xs:=a
  wp_walk using AutoSeq1.wpAny_loadPart' ho
  apply wpAny_stack_any λst=>aF ?_;split
  ·rename_i c _ _ _ _ _
   cases (c == Value.type "enumerate")
   ·wp_walk using AutoSeq1.wpAny_loadPart' ho,wpAny_pyIter_tuple hL
    exact#[_,U,h]
   wp_walk using AutoSeq1.wpAny_loadPart' ho,wpAny_pyIter_tuple hL
   exact#[_,U,h]
  wp_walk using AutoSeq1.wpAny_loadPart' ho,wpAny_pyIter_tuple hL
  exact#[_,U,h]
end
end da
namespace da
open PySem PySem.W PyProof.Rows
section
variable{prog:Ad}{w:Af}{A:Ag}{E:Aa->Ab->Prop}{s:Ab}
theorem fR_{l:Addr}{xs:Array Aa}{Q:Aa->Ab->Prop}(hL:s.heap.IsTuple l xs)
  (h:∀h',IsEnum h' (s.heap.objs.size+1) s.heap.objs.size 0 .none->h'.IsTupleIter s.heap.objs.size l 0->(∀b o,s.heap.get? b\o->h'.get? b\o)->Q (.ref (s.heap.objs.size+1)) { s with heap:=h' }) :
  wpAny (model prog w) A (call (.type "enumerate") [.ref l]) Q E s:=by
 apply callType_new F.called_enumerate (by decide) (F.typeCall_enumerate_1 _) (F.newCall_enumerate_1 _) (λobj=>F.args_object_init_2 obj _) F.entry_enumerate_new (eE_ l xs) #[hL,?_];have hz:(oJ s.heap l).objs.size=s.heap.objs.size+1:=mj ..;have g2:((oJ s.heap l).push { cls:=.type "enumerate",data:=.fields (List.toArray [.none,.bool false,.ref s.heap.objs.size,rawInt 0,.none,.none]) }).get? (oJ s.heap l).objs.size\_:=cJ _ U;have g1:((oJ s.heap l).push { cls:=.type "enumerate",data:=.fields (List.toArray [.none,.bool false,.ref s.heap.objs.size,rawInt 0,.none,.none]) }).get? s.heap.objs.size\_:=aQ _ (cJ _ U);show _/\_;rw[hz] at g2 ⊢;exact#[#[_,g2,U],h _ g2 #[_,g1,U,U] λb o x=>aQ _ (aQ _ x)]
end
end da
namespace L2
open PySem PySem.Spec PyProof.Rows PySem.W da
def ux(K:ai)(a:Addr):It:=
 #[λi H=>∃xs x,eD K H a xs/\xs[i]? = some x,λi H y H'=>∃t x,y=.ref t/\H t=none/\(∀xs,eD K H a xs->xs[i]? = some x)/\H'=upd H t (.tup [.int i,x]),λi H=>∃xs,eD K H a xs/\xs.length=i]
theorem fv_{P:Ad}{w:Af}{K:ai}{elts:List Expr}{k:Nat}{pos:Pos}(a e it:Addr)(h1:e≠it)(h2:a≠e)(h3:a≠it):Turn P w K (.Tuple elts k pos) (ux K a) [e,it] e (λi h=>(∃old,IsEnum h e it i old)/\h.IsTupleIter it a i) where
 mem:=by simp
 obj:=λi h st b hb=>by
  let#[#[old,q],o,e2,c,d]:=st;rcases bZ.mp hb with rfl|hb
  ·exact#[_,q,λv z=>by cases z]
  obtain rfl:b=it:=⇑hb
  exact#[o,e2,λv z=>by rw[d] at z;cases z]
 keep:=λi h h' st kk=>by
  let#[#[old,q],eV]:=st;exact#[#[old,kk e Y0 _ q],eV.at λo q2=>kk it Y0 o q2]
 item:=by
  intro X hP hw hK hc i pins s σ H E I hf st hg;subst hP hw hK;let#[xs,x,hq,hx]:=hg;let#[its,rv,p,hz]:=I.tuple hq;let#[u,hu,ru]:=rv.get hx;have p:s.heap.IsTuple a its.toArray:=p;let W:=WalksT.enumerateD (A:=X.A) (NB (prog:=X.prog) (w:=X.w) (A:=X.A.in1) (I.ok.hd hc) it a h3 its.toArray) e h1 (by simp[h1,bN h2]) Y0
  have hi:i<its.toArray.size:=by
   simp only[dh];exact (bX.mp hu).1
  let#[old,he]:=st.1;apply wpAny_pyNext_enum_itemD (NB (prog:=X.prog) (w:=X.w) (A:=X.A.in1) (I.ok.hd hc) it a h3 its.toArray) he #[st.2,p] hi h1 (by simp[h1,bN h2]) λx' h' t vR ho ed xM hsz hk=>?_
  have ex:x'=u:=by
   rw[List.getElem?_toArray,hu] at vR;exact (cX vR).symm
  subst ex;have Ai:e<s.heap.objs.size:=bx he;have Ah:it<s.heap.objs.size:=by let#[_,x,_]:=st.2;exact bx x
  have mid:(∃x,IsEnumOut h' e it ((i:Int)+1) x s.heap.objs.size)/\(h'.IsTupleIter it a (i+1)/\h'.IsTuple a its.toArray)/\s.heap.objs.size≠e/\s.heap.objs.size≠it:=#[#[_,ho],ed,iu Ai,iu Ah];have kk:∀b o,b∉[e,it]->s.heap.get? b\o->h'.get? b\o:=λb o hb x=>hk b o (λe'=>hb (by simp[e'])) (λe'=>hb (by simp[e'])) x;have pQ:h'.IsTuple s.heap.objs.size (List.toArray [.int i t,x']):=#[_,xM,U,_,U];obtain⟨T,eT⟩:∃T,T=s.heap.objs.size:=#[_,U];obtain⟨tk,BA⟩:∃tk,tk=t+1:=#[_,U];rw[<- eT] at pQ mid xM ⊢;have hT:s.heap.objs.size<=T:=Nat.le_of_eq eT.symm;rw[<- BA];apply#[_,U,W.go elts k pos i T { s with heap:=h',toks:=tk } _ _ mid λgT ed zD=>?_];have nT:T∉[e,it]:=W.apart i T h' mid
  have o5:gT.IsTuple T (List.toArray [.int i t,x']):=by
   let#[o,q,r]:=pQ;exact#[o,zD T o nT q,r]
  have I1:Inv X pins σ (upd H T (.tup [.int i,x])) { s with heap:=gT,toks:=tk }:=I.gR (t':=tk) (fp:=[e,it]) (its:=[.int i t,x']) (λb o hb q=>zD b o hb (kk b o hb q)) hf hT (zl) (.cons #[t,U] (.cons ru .nil)) #[o5,_,zD T _ nT xM,U];apply#[.ref T,_,I1,U,#[T,x,U,I.aA.fresh hT,λys hy=>by rw[I.dB hy hq];exact hx,U],#[?_,ed.2.1],λb hb=>?_]
  ·let#[old,q]:=ed.1;exact#[old,by simpa using q]
  rw[ax (λz:b=T=>nT (by rw[<- z];exact hb))];exact (hf b hb).1
 done:=by
  intro X hP hw hK hc i pins s σ H E I hf st hg;subst hP hw hK;let#[xs,hq,hx]:=hg;let#[its,rv,p,hz]:=I.tuple hq;have p:s.heap.IsTuple a its.toArray:=p;let W:=WalksT.enumerateD (A:=X.A) (NB (prog:=X.prog) (w:=X.w) (A:=X.A.in1) (I.ok.hd hc) it a h3 its.toArray) e h1 (by simp[h1,bN h2]) Y0
  have hn:its.toArray.size=i:=by
   have:=rv.length;simp only[dh];omega
  apply W.done s _ _ (by rw[hn];exact#[st.1,st.2,p]) λh' tk kk=>#[U,I.fN (t':=tk) (fp:=[e,it]) kk hf]
 self:=λA i s Q E st h=>by
  let#[old,q]:=st.1;exact wpAny_pyIter_enum q h
inductive nZ (K:ai) (R:It->Hp->Prop) (vs:ag) (H1:Hp):Prop
 |mk:∀a,vs=[.ref a]->(∃xs,eD K H1 a xs)->R (ux K a) H1->nZ K R vs H1
def zH(K:ai)(ta:TA):TI:=λσ H R=>ta σ H λvs H1=>nZ K R vs H1
theorem ZS{X:Cx}{elts:List Expr}{kk:Nat}{p2:Pos}{a:Expr}{ta:TA}{p pos:Pos}(hg:Gl X "enumerate")(hm:X.mg "enumerate"=none)(ha:PA X [a] ta)(hs:starEach [a] X.env=[(false,eval a X.env)]:=by rfl):PI X (.Tuple elts kk p2) (.Call (.Name "enumerate" p) [a] [] pos) (zH X.K ta):=by
 intro pins s σ H R I h;apply Call_ (uV I hg hm boot_enumerate (AN (aO (ha pos pins s σ H _ I h) λus s1 ⟨vs,H1,I1,r1,q1⟩=>?_) hs U));let#[l,e,#[xs,hq],q]:=q1;subst e;cases r1 with
 |cons r rr=>
  cases rr;cases r;let#[its,rv,pl,hz]:=I1.tuple hq;have pl:s1.heap.IsTuple l its.toArray:=pl;have ll:l<s1.heap.objs.size:=by let#[_,e,_]:=pl;exact bx e
  apply fR_ pl λh' he hi kp=>?_;apply wpAny_pyIter_enum he ?_;apply#[s1.heap.objs.size+1,[s1.heap.objs.size+1,s1.heap.objs.size],_,_,H1,U,I1.kept (t':=s1.toks) kp,fv_ l _ _ (Nat.succ_ne_self _) (dG (Nat.lt_succ_of_lt ll)) (dG ll),#[#[_,he],hi],λb hb=>?_,q]
  have e:s1.heap.objs.size<=b:=by
   rcases bZ.mp hb with rfl|hb
   ·exact Nat.le_succ _
   obtain rfl:b=s1.heap.objs.size:=⇑hb
   exact bh _
  exact I1.iH e (I1.aA.fresh e)
theorem gM_{K:ai}{a:Addr}{xs:ag}{g:TG}{tb:TS}{D:Ends}{σ:St}{H:Hp}(Pv:bR)(h0:Pv 0 σ H)(hl:∀i σ H,i<=xs.length->Pv i σ H->eD K H a xs)
  (hs:∀i x σ H,xs[i]? = some x->Pv i σ H->∀t,H t=none->g (.ref t) σ (upd H t (.tup [.int i,x])) λfw H2=>tb { D with nx:=Pv (i+1),ct:=Pv (i+1),bk:=D.nx } fw H2) (hd:∀σ H,Pv xs.length σ H->D.nx σ H) :
  ∃W:Nat->Nat->St->Hp->Prop,(∃m,W 0 m σ H)/\∀i m σ H,W i m σ H->
   ((ux K a).stop i H/\D.nx σ H)∨((ux K a).go i H/\∃N:St->Hp->Prop,(∀aZ H',N aZ H'->∃m',m'<m/\W (i+1) m' aZ H')/\∀x H',(ux K a).uA i H x H'->g x σ H' λfw H2=>tb { D with nx:=N,ct:=N,bk:=D.nx } fw H2):=by
 apply#[λi m σ H=>m=xs.length - i/\i<=xs.length/\Pv i σ H,#[xs.length,by simp,gP _,h0],?_];rintro i m σ H ⟨rfl,hi,p⟩;let q:=hl i σ H hi p;by_cases dI:i<xs.length
 ·apply .inr #[#[xs,xs[i],q,by simp[dI]],Pv (i+1),λaZ H' p'=>#[xs.length - (i+1),by omega,U,dI,p'],λx H' y=>?_];let#[t,x,rfl,ht,y,rfl]:=y;exact hs i x σ H (y xs q) p t ht
 have e:i=xs.length:=by omega
 subst e;exact .inl #[#[xs,q,U],hd σ H p]
def yB(tk tv:TE):TE:=λσ H Q=>∀p,H p=none->tk σ (upd H p (.dT [])) λx H1=>tv σ H1 λy H2=>H2 p\.dT []/\∃b k,x=.ref b/\H2 b\.tup (k.map kV)/\Q (.ref p) (upd H2 p (.dT [(k,y)]))
theorem Sk{X:Cx}{pos:Pos}{k v:Expr}{tk tv:TE}(hu:X.A.units+1<cLine)(hk:PE X k tk)(hv:PE X v tv):PE X (.Dict [some k] [v] pos) (yB tk tv):=by
 intro pins s σ H Q I q;let hn:=I.aA.fresh (bh s.heap.objs.size);let I1:=I.laid (a:=s.heap.objs.size) (o:=.dT []) (h':=s.heap.push { cls:=.type "dict",data:=.dict #[] }) (t':=s.toks) (λ_ _ q=>aQ _ q) (bh _) (R8 s.heap I.big);let shape:=zip_pairTrees [some k] [v] X.env pos U U;rw[arm_eval_Dict,shape,dictDisplay_pairs (pairTrees [some k] [v] X.env pos) (by intro e;exact absurd (eg List.length e) (by rw[pairTrees_length [some k] [v] X.env pos U U];exact Nat.one_ne_zero)) (by rw[pairTrees_length [some k] [v] X.env pos U U];exact (by decide:1<17))];apply af (wpAny_standAt (af ?_));unfold subDict;apply af (wpAny_alloc (af (iK ?_)));rw[aI (by rw[pairTrees_length [some k] [v] X.env pos U U];exact (by decide:1<=15))];apply af (pairTrees_cons_walk (aO (hk pins _ σ _ _ I1 (q _ hn)) λu s2 ⟨x,H2,I2,rx,q2⟩=>aO (hv pins s2 σ H2 _ I2 q2) λr s3 ⟨y,H3,I3,ry,e,b,kk,ex,eb,q3⟩=>pairTrees_nil_walk ?_));subst ex;cases rx;let#[z,hd,xs,rel,dd]:=Qi I3.aA e;cases rel;apply iK ?_;apply af ?_;simp only[wJ,u7];apply af (af (wpAny_dictSet_heap (hsz:=by simp) (show (tupleKind (dX X.prog X.w)).room X.A from Nat.lt_of_succ_lt hu) (wA I3.aA eb) dd λh' BX hs=>aF (aF (aF (aF (aF ?_))))));let#[ob,es,ep,hq,h2,h3,h4,_,h5]:=BX;apply#[.ref s.heap.objs.size,_,MB (ob:=.dT [(kk,y)]) I3 (by rw[e];exact True.intro) hs #[ob,hq] #[zl,hd,_,(KT.put (H:=H3) (kvs:=[]) (xs:=[]) .nil kk eb ry).keeps λc ys ec=>?_,ob,es,ep,hq,h2,h3,h4,h5],U,q3];rw[ax (bS ec e nofun)];exact ec
end L2
namespace L2
open PySem PySem.Spec PyProof.Rows
section
variable{X:Cx}
end
end L2
namespace L2
open PySem PySem.Spec PyProof.Rows PySem.Builtin PySem.Builtin.Str
theorem RW:∀{ss:ae} {us:aj},Vals (ss.map V.str) us->StrsAre us ss
 |[],_,.nil=>.nil
 |x::ss,_,.cons r rs=>by
  let#[t,rfl]:=r;exact .cons x t (RW rs)
section
variable{X:Cx}
end
end L2
namespace L2
open PySem PySem.Spec PyProof.Rows PySem.W
section
variable{X:Cx}
end
end L2
namespace L2
open PySem PySem.Spec PyProof.Rows PySem.W
section
variable{X:Cx}
end
end L2
namespace da
open PySem PySem.W PyProof.Rows
section
variable{prog:Ad}{w:Af}{A:Ag}{E:Aa->Ab->Prop}{s:Ab}
end
end da
namespace L2
open PySem PySem.Spec PyProof.Rows PySem.W da
section
variable{X:Cx}{o i e value:Expr}{pos pos' CD:Pos}{td ty tv:TE}
end
section
variable{X:Cx}
end
end L2
namespace L2
open PySem PySem.Spec PyProof.Rows PySem.W da
section
variable{X:Cx}
end
section
variable{X:Cx}{CX:kQ}{k:Nat}{f C:Addr}{fd:Ae}{ps ks:ae}{sp:Sp}{E:XK}{m:Str}{pos apos:Pos}{e o:Expr}{es:List Expr}{Bz:List Keyword}{ta:TE}{t tk:TA}{g:aj->aj->aj}{gV:ag->ag->ag}
end
structure FunD (K:ai) (x qual:Str) (st:Stmt) (f:Addr) (fd:Ae):Prop where
 ex:∃(oc:Aa) (od:Option Addr) (T:Addr) (kV doc pm:Aa) (an:Option Addr) (aL ct:Aa) (jy:Array (Option Aa)) (o:Obj) (n:Nat),
  fd=PySem.W.fnOf x qual (gU st) (gc st) (a9 st) (.ref T) kV doc pm an aL ct/\K.lookup f=some #[oc,od,.func fd,jy]/\PySem.W.codeIn K aL qual=true/\K.lookup T\o/\o.data=.seq (List.toArray [.none]) n
end L2
namespace L2
open PySem PySem.Spec PyProof.Rows PySem.W da
open AutoSeq1 (wpAny_loadPart')
theorem cZ_{prog:Ad}{w:Af}(r:Addr)(o:Obj)(hc:o.cls=.type "dict_values")(φ:aj->Ab->Prop) :
  MeetsIn prog w (Builtin.«tuple.__new__» #[[.type "tuple",.ref r],[]]) (λA R s=>s.heap.get? r\o/\A.handled=none/\(∀(A':Ag) (E':Aa->Ab->Prop) (Rr:aj->Ab->Prop),A'.handled=none->(∀vs s1,φ vs s1->Rr vs s1)->wpAny (model prog w) A' (collect (.ref r)) Rr E' s)/\∀vs s1,φ vs s1->vs.length<=sizeLine/\R (.ok (.ret (.ref s1.heap.objs.size))) { s1 with heap:=s1.heap.push { cls:=.type "tuple",data:=.seq vs.toArray } }):=
 .of_wp λA R s h=>by
  let#[hp,g,d,tk,os]:=s;let#[ht,hh,col,h]:=h;let zM:=sub_tuple_self;let Q8:=init_tuple_lookup;let hmh:=madeHere_tuple;have hT:Shared.TypeIs #[hp,g,d,tk,os] (.ref r) "dict_values":=#[o,ht,hc];have ND:∀{Rr:aj->Ab->Prop} {E':Aa->Ab->Prop},(∀vs s1,φ vs s1->Rr vs s1)->wpAny (model prog w) A.in1 (collect (.ref r)) Rr E' #[hp,g,d,tk,os]:=λh=>col A.in1 _ _ hh h
  wp_walk using pE ht,wpAny_typeOf hT,ND
  intro vs s1 hv;let#[hz,h]:=h vs s1 hv;apply (show wpAny _ _ (Builtin.Tuple.tupleExact vs.toArray >>= λv=>ret v) _ _ _ from ?_);unfold Builtin.Tuple.tupleExact;apply af (qa ?_ (by show vs.toArray.size<=sizeLine;simpa using hz));exact aF #[_,U,h]
section
variable{X:Cx}
inductive xg (xs:ag) (H:Hp) (Q:VK):Prop
 |mk:∀v d kvs,xs=[.ref v]->H v\qe v d->H d\.dK kvs->(∀l,H l=none->Q (.ref l) (upd H l (.tup (kvs.map (·.2)))))->xg xs H Q
theorem Tq(hc:X.calm=true):gr X (.type "tuple") xg:=by
 intro pins s σ H xs us Q I r h;let#[v,d,kvs,rfl,hv,hd,q]:=h;let#[u,rfl,ru]:=vals1 r;cases ru;let#[z,hdn,vs,rel,dd]:=kE I.aA (.inl hd);let#[ep,dat]:=dd.dictAt;let#[iv,_,_]:=I.aA v _ hv;let hl:=rel.length;let#[o,ho,oc,_]:=id iv
 have col:∀(A':Ag) (E':Aa->Ab->Prop) (Rr:aj->Ab->Prop),A'.handled=none->(∀ws s1,(Inv X pins σ H s1/\Vals (kvs.map (·.2)) ws)->Rr ws s1)->wpAny (model X.prog X.w) A' (collect (.ref v)) Rr E' s:=λA' E' Rr hh q=>by
  apply kdu_collect (kdl_values (knd:=dX X.prog X.w) (kvs:=vs) (ep:=ep)) hh #[iv,dat] Z2 λh' tk acc k a=>q _ _ #[I.kept k,?_];have a':ItemsOf (λi v=>∃k,vs[i]? = some (k,v)) acc (kvs.map (·.2)).length:=by rw[av,hl];exact a
  apply Jd a' λj v ⟨k,e⟩ y hy=>?_;rw[dF] at hy;cases e3:kvs[j]? with
  |none=>rw[e3] at hy;cases hy
  |some kv=>
   rw[e3] at hy;let#[u,hu,ru]:=L4 rel j (k:=kv.1) (x:=kv.2) e3;rw[e] at hu;let hu:=cX hu;have g2:v=u:=eg Prod.snd hu;cases (cX hy:kv.2=y);rw[g2];exact ru
 apply callType_newIn F.called_tuple (by decide) (F.typeCall_tuple_1 _) (F.newCall_tuple_1 _) (λobj=>F.args_object_init_2 obj _) F.entry_tuple_new
  (cZ_ v o oc λws s1=>Inv X pins σ H s1/\Vals (kvs.map (·.2)) ws) #[ho,I.ok.hd hc,col,λws s1 ⟨I1,r1⟩=>#[?_,#[_,cJ _ U,U],?_]]
 ·rw[<- r1.length,av];exact z
 exact#[.ref s1.heap.objs.size,_,I1.laid (t':=s1.toks) (λb o e=>aQ _ e) (bh _) (show fj X.prog X.w _ _ _ (.tup (kvs.map (·.2))) from #[by rw[av];exact z,ws,r1,IsTup.new _ _,_,cJ _ U,U]),U,q _ (I1.aA.fresh (bh _))]
end
end L2
namespace L2
open PySem PySem.Spec PyProof.Rows PySem.W da
theorem Zk{prog:Ad}{w:Af}{A:Ag}{E:Aa->Ab->Prop}{s:Ab}{t b:Addr}{ws:aj}{Q:Aa->Ab->Prop}(ht:IsTup s.heap t #[])(hb:IsTup s.heap b ws.toArray)(h:Q (.ref b) s):wpAny (model prog w) A (binaryOp .Add (.ref t) (.ref b)) Q E s:=by
 let#[#[cls,dd,data,sl],ho,hc,n,hd]:=id ht;let#[#[NG,Ij,data2,Gb],eR,jq,n2,hd2]:=id hb;simp only at hc hd jq hd2;subst hc hd jq hd2;exact concat_meets #[_,ho,U] #[_,eR,U] noFill_tuple_add seq_tuple_add PySem.F.slot_tuple_add PySem.F.entry_tuple_add (PySem.F.args_tuple_add_2 _ _) (tuple_addW0 t b #[] ws.toArray n n2 dd Ij sl Gb U) #[ho,eR,h]
inductive xm (x:V) (y:V) (H:Hp) (Q:VK):Prop
 |mk:∀a b xs ys,x=.ref a->y=.ref b->H a\.tup xs->H b\.tup ys->xs.length+ys.length<=sizeLine->(∀p H',aa H H'->H' p\.tup (xs++ys)->Q (.ref p) H')->xm x y H Q
theorem Ig{X:Cx}:d_ X (binaryOp .Add) xm:=by
 intro pins s σ H x y v u Q I rx ry h;let#[a,b,xs,ys,rfl,rfl,ha,hb,hz,q]:=h;cases rx;cases ry;let#[its,r1,p1,_]:=I.tuple (.of ha);let#[iC,r2,p2,_]:=I.tuple (.of hb);by_cases z:its=[]
 ·subst z;let e:=r1.nU.mp rfl;exact Zk p1 p2 ⟨.ref b,H,I,rfl,q _ _ (aa.refl H) (by rw[e];exact hb)⟩
 apply HT.wg p1 p2 z (λz2=>⟨.ref a,H,I,rfl,q _ _ (aa.refl H) ?_⟩) (λz2=>?_) (by rw[<- r1.length,<- r2.length];exact hz)
 ·rw[r2.nU.mp z2,wK];exact ha
 apply⟨.ref s.heap.objs.size,_,I.laid (t':=s.toks) (o:=.tup (xs++ys)) (λb ob q=>aQ _ q) (bh _) ?_,rfl,q _ _ (aa.new (I.aA.fresh (bh _))) az⟩;exact⟨by rw[d5];exact hz,_,r1.append r2,IsTup.new _ _,_,cJ _ rfl,rfl⟩
end L2
namespace da
open PySem PySem.W PyProof.Rows
theorem fr_{prog:Ad}{w:Af}(d:Addr)(es:Array DictEntry)(ep:Nat)(hd:(d == sysModules)=false):MeetsIn prog w (Builtin.«dict.__len__» ⟨[.ref d],[]⟩) (λ_ R s=>Raw s.heap d es ep/\R (.ok (.ret (.int es.size s.toks))) { s with toks:=s.toks+1 }):=
 .of_wp λA R s ⟨hm,h⟩=>by
  let#[o,ho,hc,jI]:=hm;apply (show wpAny _ _ (dictSize d >>= _) _ _ s from ?_);unfold dictSize;apply af (af (wpAny_dictEntries ho jI (aF ?_)));apply (show wpAny _ _ (Builtin.Dict.pendingCount d >>= _) _ _ s from af (wpAny_pendingCount_other hd ?_));apply wpAny_ret_mkInt ?_;rw[Nat.add_zero];exact h
theorem h3_{prog:Ad}{w:Af}{A:Ag}{E:Aa->Ab->Prop}{s:Ab}{d:Addr}{es:Array DictEntry}{ep:Nat}{Q:Aa->Ab->Prop}(hd:(d == sysModules)=false)(hm:Raw s.heap d es ep)(hfit:(es.size:Int)<2 ^ 63)
  (h:Q (.int es.size (s.toks+1)) { s with toks:=s.toks+1+1 }):wpAny (model prog w) A (call (.builtin "len") [.ref d]) Q E s:=by
 apply Calls.call_function_entry kind_len plain_len entry_len (args_len1 _) ?_;unfold Builtin.«len»;apply af (m:=oneArg "len" _) (aF ?_);apply af (m:=callSpecial? (.ref d) (Str.ofString "__len__")) (uU (name:=Str.ofString "__len__") hm.ty F.slot_dict_len (call_meetsIn F.slot_dict_len hm.ty F.entry_dict_len (F.args_dict_len_1 _) (fr_ d es ep hd) #[hm,?_]));apply (show wpAny _ _ _ _ _ { s with toks:=s.toks+1 } from af (iK (aF ?_)));apply af (wpAny_letGo ?_);apply (show wpAny _ _ (if ((es.size:Nat):Int)<0 then _ else _) _ _ _ from ?_);rw[aC Z2];apply (show wpAny _ _ (if ((es.size:Nat):Int) ≥ 2 ^ 63 then _ else _) _ _ _ from ?_);rw[aC Z2];exact af (wpAny_mkInt (aF #[_,U,h]))
end da
namespace L2
open PySem PySem.Spec PyProof.Rows PySem.W da
inductive TX (xs:ag) (H:Hp) (Q:VK):Prop
 |mk:∀a kvs,xs=[V.ref a]->H a\.dT kvs->Q (.int kvs.length) H->TX xs H Q
theorem Ti{X:Cx}:gr X (.builtin "len") TX:=by
 intro pins s σ H xs us Q I r h;let#[a,kvs,rfl,ha,q]:=h;let#[u,rfl,ru]:=vals1 r;cases ru;let#[z,hd,xs,rel,o,es,ep,ho,hc,jI,vU,nd]:=I.aA a _ ha
 have l1:es.size=xs.length:=by
  have:=eg List.length vU;simpa using this
 let l2:=bH rel;let sz:=cq;apply h3_ (es:=es) (ep:=ep) hd ⟨o,ho,hc,jI⟩ Z2 ⟨.int kvs.length,H,I.tok _,⟨_,by rw[l2,<- l1]⟩,q⟩
end L2
namespace Ev
open PySem L2
abbrev ak:=ae
def sK(s:ak):aq:=s.map Sum.inr
abbrev sV(s:ak):ag:=s.map V.str
theorem iz(s:ak):(sK s).map kV=sV s:=by
 unfold sK;rw[cz];rfl
theorem BY{a b:ak}(h:sK a=sK b):a=b:=by
 unfold sK at h;exact List.map_inj_right (λx y e=>iJ e) |>.mp h
inductive Wk (N:ak->ak->Prop) (s0:ak):Nat->ak->Prop
 |z:Wk N s0 0 s0
 |s {k:Nat} {a b:ak}:Wk N s0 k a->N a b->Wk N s0 (k+1) b
def Ds(N:ak->ak->Prop)(s0:ak)(k:Nat)(s:ak):Prop:=Wk N s0 k s/\∀j,j<k->¬Wk N s0 j s
section
variable{N:ak->ak->Prop}{s0:ak}
theorem Wk.ds:∀{k:Nat} {s:ak},Wk N s0 k s->∃j,j<=k/\Ds N s0 j s:=λ{k s} h=>by
 induction k using Nat.strongRecOn with
 |_ k ih=>
  by_cases c:∃j,j<k/\Wk N s0 j s
  ·let#[j,hj,hw]:=c;let#[i,hi,d]:=ih j hj hw;exact#[i,by omega,d]
  exact#[k,bh _,h,λj hj hw=>c #[j,hj,hw]]
theorem Ds.prev{k:Nat}{s:ak}(h:Ds N s0 (k+1) s):∃a,Ds N s0 k a/\N a s:=by
 let#[hw,hn]:=h;cases hw with
 |@s _ a _ ha xK=>exact#[a,#[ha,λj hj hw=>hn (j+1) Z2 (.s hw xK)],xK]
theorem Ds.down:∀{k:Nat} {s:ak},Ds N s0 k s->∀i,i<=k->∃t,Ds N s0 i t
 |0,s,h,i,hi=>#[s,by rw[show i=0 by omega];exact h]
 |k+1,s,h,i,hi=>by
  by_cases c:i=k+1
  ·exact#[s,by rw[c];exact h]
  let#[a,ha,_]:=h.prev;exact ha.down i Z2
theorem Ds.inj{j k:Nat}{s:ak}(h:Ds N s0 j s)(h2:Ds N s0 k s):j=k:=by
 rcases Nat.lt_trichotomy j k with c|c|c
 ·exact absurd h.1 (h2.2 j c)
 ·exact c
 exact absurd h2.1 (h.2 k c)
structure Bf (N:ak->ak->Prop) (s0:ak) (k:Nat) (ks nw:List ak):Prop where
 nd:ks.Nodup
 nn:nw.Nodup
 all:∀s,s∈ks ↔ ∃j,j<=k/\Wk N s0 j s
 new:∀s,s∈nw ↔ Ds N s0 k s
structure Wd (old seen ks fd:List ak):Prop where
 nd:ks.Nodup
 nf:fd.Nodup
 all:∀s,s∈ks ↔ s∈old∨s∈seen
 new:∀s,s∈fd ↔ s∈seen/\s∉old
theorem Wd.start{old:List ak}(nd:old.Nodup):Wd old [] old []:=#[nd,.nil,by simp,by simp]
theorem Wd.skip{old seen ks fd:List ak}{a:ak}(h:Wd old seen ks fd)(ha:a∈ks):Wd old (seen++[a]) ks fd:=by
 apply#[h.nd,h.nf,λs=>?_,λs=>?_]
 ·rw[h.all,dJ,eK];apply#[λx=>x.imp id .inl,λx=>?_];rcases x with x|x|rfl
  ·exact .inl x
  ·exact .inr x
  exact (h.all _).mp ha
 rw[h.new,dJ,eK];apply#[λ⟨x,y⟩=>#[.inl x,y],λ⟨x,y⟩=>#[?_,y]];rcases x with x|rfl
 ·exact x
 exact ((h.all _).mp ha).resolve_left y
theorem Wd.add{old seen ks fd:List ak}{a:ak}(h:Wd old seen ks fd)(ha:a∉ks):Wd old (seen++[a]) (ks++[a]) (fd++[a]):=by
 have no:a∉old:=λx=>ha ((h.all _).mpr (.inl x));have nf:a∉fd:=λx=>ha ((h.all _).mpr (.inr ((h.new _).mp x).1));apply#[?_,?_,λs=>?_,λs=>?_]
 ·rw[wI];exact#[h.nd,by simp,λx hx y hy e=>ha (by rw[<- eK.mp hy,<- e];exact hx)]
 ·rw[wI];exact#[h.nf,by simp,λx hx y hy e=>nf (by rw[<- eK.mp hy,<- e];exact hx)]
 ·rw[dJ,dJ,h.all];constructor
  ·rintro ((x|x)|x)
   ·exact .inl x
   ·exact .inr (.inl x)
   exact .inr (.inr x)
  rintro (x|x|x)
  ·exact .inl (.inl x)
  ·exact .inl (.inr x)
  exact .inr x
 rw[dJ,dJ,h.new,eK];constructor
 ·rintro (⟨x,y⟩|rfl)
  ·exact#[.inl x,y]
  exact#[.inr U,no]
 rintro⟨x|x,y⟩
 ·exact .inl #[x,y]
 exact .inr x
theorem Bf.start:Bf N s0 0 [s0] [s0]:=by
 have w0:∀s,Wk N s0 0 s ↔ s=s0:=λs=>#[λh=>by cases h;rfl,λh=>by rw[h];exact .z];apply#[by simp,by simp,λs=>?_,λs=>?_]
 ·rw[eK,<- w0];exact#[λh=>#[0,bh _,h],λ⟨j,hj,h⟩=>by rw[show j=0 by omega] at h;exact h]
 rw[eK,<- w0];exact#[λh=>#[h,λj hj=>by omega],λh=>h.1]
theorem Bf.next{k:Nat}{ks nw seen i6 fd:List ak}(B:Bf N s0 k ks nw)(W:Wd ks seen i6 fd)(hs:∀s,s∈seen ↔ ∃a∈nw,N a s):Bf N s0 (k+1) i6 fd:=by
 have key:∀s,Wk N s0 (k+1) s->(∃j,j<=k/\Wk N s0 j s)∨s∈seen:=λs h=>by
  cases h with
  |@s _ a _ ha xK=>
   by_cases c:∃j,j<k/\Wk N s0 j a
   ·let#[j,hj,hw]:=c;exact .inl #[j+1,by omega,.s hw xK]
   exact .inr ((hs s).mpr #[a,(B.new a).mpr #[ha,λj hj hw=>c #[j,hj,hw]],xK])
 have sw:∀s,s∈seen->Wk N s0 (k+1) s:=λs h=>by
  let#[a,ha,hn]:=(hs s).mp h;exact .s ((B.new a).mp ha).1 hn
 apply#[W.nd,W.nf,λs=>?_,λs=>?_]
 ·rw[W.all,B.all];constructor
  ·rintro (⟨j,hj,h⟩|h)
   ·exact#[j,by omega,h]
   exact#[k+1,bh _,sw s h]
  rintro⟨j,hj,h⟩;by_cases c:j=k+1
  ·rw[c] at h;exact key s h
  exact .inl #[j,by omega,h]
 rw[W.new,B.all];constructor
 ·rintro⟨h,n⟩;exact#[sw s h,λj hj hw=>n #[j,by omega,hw]]
 rintro⟨h,n⟩;have no:¬∃j,j<=k/\Wk N s0 j s:=λ⟨j,hj,hw⟩=>n j Z2 hw;exact#[(key s h).resolve_left no,no]
theorem Bf.last{k:Nat}{ks:List ak}(B:Bf N s0 k ks []){j:Nat}{s:ak}(h:Ds N s0 j s):j<k:=by
 by_cases c:j<k
 ·exact c
 let#[t,ht]:=h.down k Z2;exact absurd ((B.new t).mpr ht) Y0
end
def pH(ns:ae):Nat->List ak
 |0=>[[]]
 |n+1=>ns.flatMap λh=>(pH ns n).map (h::·)
theorem SR(ns:ae):∀n,(pH ns n).length=ns.length ^ n
 |0=>rfl
 |n+1=>by
  unfold pH;rw[List.length_flatMap];have:(ns.map λh=>((pH ns n).map (h::·)).length)=ns.map λ_=>ns.length ^ n:=u4 λh _=>by rw[av,SR ns n]
  rw[this,List.map_const',List.sum_replicate_nat,Nat.pow_succ,Nat.mul_comm]
theorem S1{ns:ae}:∀{n:Nat} {s:ak},s.length=n->(∀h∈s,h∈ns)->s∈pH ns n
 |0,s,e,_=>by rw[List.length_eq_zero_iff.mp e];exact eK.mpr U
 |n+1,[],e,_=>by cases e
 |n+1,h::s,e,hm=>by
  unfold pH;rw[List.mem_flatMap];exact#[h,hm h Y0,bG.mpr #[s,S1 ⇑e (λx hx=>hm x (by simp[hx])),U]]
theorem ID{ns:ae}{n:Nat}{l:List ak}(nd:l.Nodup)(h:∀s∈l,s.length=n/\∀x∈s,x∈ns):l.length<=ns.length ^ n:=by
 rw[<- SR];exact List.Nodup.length_le_of_subset nd λs hs=>S1 (h s hs).1 (h s hs).2
def tI(hs:Xa)(ts:Xb)(q:Pc)(h:Str):ae:=(near (aS hs) (bT ts) h).filter λo=>BJ hs ts q.2.2 (some h) (some o)
structure Mv (hs:Xa) (ts:Xb) (qs:aN) (a b:ak) (m:Str × Str × Str):Prop where
 ex:∃(k:Nat) (q:Pc) (h h':Str),qs[k]? = some q/\a[k]? = some h/\h'∈tI hs ts q h/\b=a.set k h'/\m=(q.1,h,h')
def Nx(hs:Xa)(ts:Xb)(qs:aN)(a b:ak):Prop:=∃m,Mv hs ts qs a b m
structure Vs (hs:Xa) (qs:aN) (a:ak):Prop where
 len:a.length=qs.length
 ij:∀h∈a,h∈aS hs
theorem Nx.vs{hs:Xa}{ts:Xb}{qs:aN}{a b:ak}(h:Nx hs ts qs a b)(v:Vs hs qs a):Vs hs qs b:=by
 let#[m,k,q,x,y,h1,h2,h3,rfl,_]:=h;apply#[by rw[List.length_set];exact v.len,λz hz=>?_];rcases List.mem_or_eq_of_mem_set hz with h|rfl
 ·exact v.ij z h
 exact (mL.mp (mL.mp h3).1).1
theorem Wk.vs{hs:Xa}{ts:Xb}{qs:aN}{s0:ak}(v:Vs hs qs s0):∀{k:Nat} {s:ak},Wk (Nx hs ts qs) s0 k s->Vs hs qs s:=λh=>by
 induction h with
 |z=>exact v
 |s _ n ih=>exact n.vs ih
inductive Bg (hs:Xa) (ts:Xb) (qs:aN):ak->List (Str × Str × Str)->ak->Prop
 |nil {a:ak}:Bg hs ts qs a [] a
 |cons {a b c:ak} {m:Str × Str × Str} {ms:List (Str × Str × Str)}:Mv hs ts qs a b m->Bg hs ts qs b ms c->Bg hs ts qs a (m::ms) c
def Mq(hs:Xa)(qs:aN)(f:bF)(a b:Int):Prop:=∀x∈aS hs,∀y∈aS hs,b * (fK hs qs f x - fK hs qs f y)<=a * f_ hs
theorem Yw{hs:Xa}{qs:aN}{f:bF}{r a b:Int}(R:Hx hs qs f r)(hb:0<b):Mq hs qs f a b ↔ b * r<=a * f_ hs:=by
 let#[x,hx,y,hy,rfl,up]:=R;constructor
 ·exact λh=>h x hx y hy
 intro h z hz u hu;let h1:=(up z hz).1;let h2:=(up u hu).2;have:b * (fK hs qs f z - fK hs qs f u)<=b * (fK hs qs f x - fK hs qs f y):=Int.mul_le_mul_of_nonneg_left Z2 Z2;omega
theorem hB_{r M a b:Int}(hr:0<=r)(hM:0<M):a * (fr r M).2<(fr r M).1 * b ↔ a * M<r * b:=by
 have g0:0<(Int.gcd r M:Int):=by
  have:Int.gcd r M≠0:=λe=>by
   have:=Int.gcd_eq_zero_iff.mp e;omega
  omega
 have e1:(fr r M).1 * (Int.gcd r M:Int)=r:=Int.ediv_mul_cancel (Int.gcd_dvd_left ..);have e2:(fr r M).2 * (Int.gcd r M:Int)=M:=Int.ediv_mul_cancel (Int.gcd_dvd_right ..);have h1:a * (fr r M).2 * (Int.gcd r M:Int)=a * M:=by rw[Int.mul_assoc,e2]
 have h2:(fr r M).1 * b * (Int.gcd r M:Int)=r * b:=by rw[Int.mul_right_comm,e1]
 rw[<- h1,<- h2];exact#[λh=>Int.mul_lt_mul_of_pos_right h g0,λh=>Int.lt_of_mul_lt_mul_right h (iP g0)]
def Az(ns:ae)(s:ak):bF:=λn=>((ns.zip s).lookup n).getD n
theorem HN{ns:ae}{s:ak}(nd:ns.Nodup){k:Nat}{n h:Str}(hn:ns[k]? = some n)(hh:s[k]? = some h):Az ns s n=h:=by
 unfold Az
 have:(ns.zip s).lookup n\h:=by
  induction ns generalizing s k with
  |nil=>cases hn
  |cons m ns ih=>
   cases s with
   |nil=>cases hh
   |cons x s=>
    cases k with
    |zero=>
     cases cX hn;cases cX hh;simp[List.lookup]
    |succ k=>
     have hn:ns[k]? = some n:=⇑hn
     have hh:s[k]? = some h:=⇑hh
     have ne:(n == m)=false:=by
      rw[beq_eq_false_iff_ne];intro e;subst e;exact (iZ.mp nd).1 (cZ hn)
     rw[List.zip_cons_cons,qi,ne];exact ih (iZ.mp nd).2 hn hh
 rw[this];rfl
theorem QF{ns:ae}{s:ak}(nd:ns.Nodup)(hl:s.length=ns.length):((ns.zip (sV s)).map λp=>((Sum.inr p.1:Key),p.2))=gC ns (Az ns s):=by
 apply List.ext_getElem? ?_;intro k;unfold gC dW;rw[dF,dF];by_cases c:k<ns.length
 ·have h1:ns[k]? = some ns[k]:=aY c;have h2:s[k]? = some (s[k]' Z2):=aY Z2
  have h3:(ns.zip (sV s))[k]? = some (ns[k],V.str (s[k]' Z2)):=by
   rw[List.getElem?_zip_eq_some];exact#[h1,by rw[dF,h2];rfl]
  rw[h3,h1,Option.map_some,Option.map_some];dsimp only;rw[HN nd h1 h2]
 rw[List.getElem?_eq_none (by rw[List.length_zip];omega),List.getElem?_eq_none Z2];rfl
end Ev
namespace L2
open PySem PySem.Spec PyProof.Rows PySem.W
theorem SW{i:Int}(h:-(2 ^ 250)<i/\i<2 ^ 250):Builtin.Int.intBits i<=250:=by
 rw[intBits_le_iff];omega
def FY(i j:Int):Prop:=(-(2 ^ 250)<i/\i<2 ^ 250)/\(-(2 ^ 250)<j/\j<2 ^ 250)
theorem Rf{X:Cx}:d_ X (binaryOp .Mult) (rI FY λi j=>.int (i * j)):=Bw λi j _ _ _ _ _ hc q=>mul_int q (by
 let h1:=SW hc.1;let h2:=SW hc.2;let e:=bitsLine_eq;unfold IntMulOk Builtin.Int.intTooBig;have z:¬((Builtin.Int.intBits i:Int)+(Builtin.Int.intBits j:Int) > (bitsLine:Int)):=by omega
 simp[z])
end L2
namespace Ev
open PySem L2
section v
theorem qS:bJ ["thing","least"] ["thing","least"] (a9 M0):=bV
def MU:Sp:=λvs H Q _=>∃i a:Int,vs=[.int i,.int a]/\Q (.bl (decide (a<=i))) H
theorem gG_{f0:Addr}{fd:Ae}(F:bo K "is_whole_from" "is_whole_from" M0 f0 fd)(cI:!br 1 "is_whole" fV nv):!ao a_ 2 f0 fd ["thing","least"] MU:=by
 exists F.bU qS;let#[i,a,rfl,k]:=h;apply#[_,aH (bp (pB (bc cI hr %[0|0]) (qg (pG xR (pv 1) (pv 0))))),?_];exact#[_,U,i,U,_,U,c_ #[_,U,_,U,_,_,U,U,k]]
structure tO (l:Int × Int):Prop where
 b1:1<=l.2
 b2:l.2<2 ^ 200
 a1:-(2 ^ 200)<l.1
 a2:l.1<2 ^ 200
 g:Int.gcd l.1 l.2=1
abbrev gQ(H:Hp)(t:Addr)(x:Int × Int):Prop:=H t=some (.tup [.int x.1,.int x.2])
theorem y0:bJ fV fV (a9 rO):=bV
def qM:Sp:=λvs H Q _=>∃(t:Addr) (l:Int × Int),vs=[.ref t]/\gQ H t l/\tO l/\Q (.bl true) H
theorem YJ{f:Addr}{fd:Ae}(F:bo K "is_fraction" "is_fraction" rO f fd)(B:Bi mg)(Kv:mg "abs"=none)(cI:!br 1 "is_whole" fV nv)(cF:!br 2 "is_whole_from" ["thing","least"] MU)(cG:!br 1 BO mz vw):!ao a_ 3 f fd fV qM:=by
 exists F.bU y0;let#[t,l,rfl,ht,lo,k]:=h;refine' #[_,aw ?s1 (aw ?s2 (aH ?s3)),?kk]
 case s1=>exact cg (pA (e_ (d8 (cy jU (by rfl) B.jn jr %[0,jT (v:=.ty "tuple") (by rfl) B.tuple qh U|0]))) (pC (eZ pX (cy iq (by rfl) B.len gE %[0|0]) ay))).pt (aH (bp il)) cj
 case s2=>exact cg (pA (e_ (d8 (bc cI hr %[bw cU (pv 0) ay|0]))) (pC (e_ (d8 (bc cF hr %[bw cU (pv 0) ay,ay|0]))))).pt (aH (bp il)) cj
 case s3=>exact bp (pG BN (bc cG hr %[cy _h (by rfl) Kv PyProof.Rows.Boot.«abs» %[bw cU (pv 0) ay|0],bw cU (pv 0) ay|0]) ay)
 apply#[_,U,_,_,_,_,U,.tup ht,U,_,U,aM ?_];apply#[_,U,t,_,U,.inr (.of ht),U,_,U,?_];apply xU (show V.int ((2:Nat):Int)=V.int 2 from U) ?_;apply#[_,U,t,_,_,_,U,U,.of ht,U,l.1,U,_,U,aM ?_];apply#[_,U,t,_,_,_,U,U,.of ht,U,l.2,1,U,_,U,?_];rw[cw lo.b1];apply aM ?_;apply#[_,U,t,_,_,_,U,U,.of ht,U,l.1,U,_,U,t,_,_,_,U,U,.of ht,U,_,l.2,U,?_,lo.b1,?_]
 ·split<;>omega
 have e:Int.gcd (if l.1<0 then -l.1 else l.1) l.2=1:=by
  split
  ·rw[Int.neg_gcd];exact lo.g
  exact lo.g
 rw[e];exact#[U,k]
theorem yY:bJ mz mz (a9 rN):=bV
def Sm(x:Int × Int):Prop:=(-(2 ^ 250)<x.1/\x.1<2 ^ 250)/\(-(2 ^ 250)<x.2/\x.2<2 ^ 250)
inductive k_ (vs:ag) (H:Hp) (Q:VK) (E:XK):Prop
 |mk:∀(t u:Addr) (x y:Int × Int),vs=[.ref t,.ref u]->gQ H t x->gQ H u y->Sm x->Sm y->Q (.bl (decide (x.1 * y.2<y.1 * x.2))) H->k_ vs H Q E
theorem YX{f:Addr}{fd:Ae}(F:bo K "is_less" "is_less" rN f fd):!ao a_ 1 f fd mz k_:=by
 exists F.bU yY;let#[t,u,x,y,rfl,ht,hu,sx,sy,k]:=h;refine' #[_,aH ?s1,?kk]
 case s1=>exact bp (pG BL (bP Rf (bw cU (pv 0) ay) (bw cU (pv 1) ay)) (bP Rf (bw cU (pv 1) ay) (bw cU (pv 0) ay)))
 apply#[_,U,t,_,_,_,U,U,.of ht,U,_,U,u,_,_,_,U,U,.of hu,U,_,_,U,U,#[sx.1,sy.2],?_];exact#[_,U,u,_,_,_,U,U,.of hu,U,_,U,t,_,_,_,U,U,.of ht,U,_,_,U,U,#[sy.1,sx.2],_,_,U,U,k]
theorem y9:bJ fV fV (a9 rX):=bV
def lE:Sp:=λvs H Q _=>∃(t:Addr) (l:Int × Int),vs=[.ref t]/\gQ H t l/\tO l/\Q .non H
theorem Ym{f:Addr}{fd:Ae}(F:bo K "check_limit" "check_limit" rX f fd)(cF:!br 3 "is_fraction" fV qM):!ao a_ 4 f fd fV lE:=by
 exists F.bU y9;let#[t,l,rfl,ht,lo,k]:=h;apply#[_,aH (cg (e_ (d8 (bc cF hr %[0|0]))) gg cj),?_];exact#[_,U,t,l,U,ht,lo,_,U,aM k]
structure Gs (K:ai) (CG CW:Addr) (H:Hp) (g p:Addr) (hs:Xa) (ts:Xb) (qs:aN) (fp:au):Prop where
 G:gx K CG CW H g p hs ts qs fp
 Gd:Good hs ts
 nd:(qs.map (·.1)).Nodup
 cY:qs.length<64
 wp:∀q∈qs,0<=q.2.1/\q.2.1<=1000000000
theorem Gs.same{CG CW:Addr}{H H':Hp}{g p:Addr}{hs:Xa}{ts:Xb}{qs:aN}{fp:au}(G:Gs K CG CW H g p hs ts qs fp)(s:aa H H'):Gs K CG CW H' g p hs ts qs fp:=#[G.G.same s,G.Gd,G.nd,G.cY,G.wp]
theorem Gs.placed{CG CW:Addr}{H H':Hp}{g p d:Addr}{hs:Xa}{ts:Xb}{qs:aN}{fp:au}{f:bF}(G:Gs K CG CW H g p hs ts qs fp)(s:aa H H')(hn:H d=none)(hd:H' d\.dK (gC (qs.map (·.1)) f))(at_:∀n∈qs.map (·.1),f n∈hs.map (·.1)):∃uJ,B3 K CG CW H' g p d hs ts qs uJ f:=by
 let#[uJ,G',h]:=G.G.slim;apply#[uJ,G'.same s,G.Gd,λhm=>?_,hd,at_,G.nd,G.cY];let#[o,e]:=h d hm;rw[hn] at e;cases e
theorem Vs.at_{hs:Xa}{qs:aN}{s:ak}(v:Vs hs qs s)(nd:(qs.map (·.1)).Nodup):∀n∈qs.map (·.1),Az (qs.map (·.1)) s n∈hs.map (·.1):=λn hn=>by
 let#[k,hk,e]:=ib hn;have hl:k<s.length:=by rw[v.len];simpa using hk
 rw[HN nd (k:=k) (by rw[aY hk,e]) (aY hl)];exact (gO hs).mem_iff.mp (v.ij _ (kK hl))
abbrev fS(qs:aN)(s:ak):bF:=Az (qs.map (·.1)) s
theorem yT:bJ ["goods","hands"] ["goods","hands"] (a9 rD):=bV
inductive kZ (K:ai) (CG CW:Addr) (vs:ag) (H:Hp) (Q:VK) (E:XK):Prop
 |mk:∀(g p t:Addr) (hs:Xa) (ts:Xb) (qs:aN) (fp:au) (s:ak),vs=[.ref g,.ref t]->Gs K CG CW H g p hs ts qs fp->H t\.tup (sV s)->s.length=qs.length->(∀d H',aa H H'->H d=none->H' d\.dK (gC (qs.map (·.1)) (fS qs s))->Q (.ref d) H')->kZ K CG CW vs H Q E
theorem Yo{f CG CW:Addr}{fd:Ae}(F:bo K "placed_by" "placed_by" rD f fd)(B:Bi mg)(mZ:mg "zip"=none)(T:fY K CG)(cN:!bM CG 1 "names" oz (A9 K CG CW)):!ao a_ 2 f fd ["goods","hands"] (kZ K CG CW):=by
 exists F.bU yT;let#[g,p,t,hs,ts,qs,fp,s,rfl,G,ht,hl,k]:=h;let cY:=G.cY;apply#[_,aH (bp (fJ_ (by rfl) B.dict (by rfl) mZ %[xX cN T.cl (hr.mono (by decide)) (pv 0),1|0])),?_];let#[dx,dw,dy,vs,dC,h1,_]:=id G.G.ex;apply#[_,U,g,dx,_,U,h1,uX _ _ _ Z0 Z0 Z0,g,p,hs,ts,qs,fp,U,G.G,λl fq=>?_];let#[s1,e1]:=aD (o:=.lst ((qs.map (·.1)).map V.str)) fq;generalize upd H l (.lst ((qs.map (·.1)).map V.str))=H1 at s1 e1 ⊢;apply#[_,U,l,t,qs.map (·.1),sV s,U,.of e1,.of (s1 _ _ ht),by rw[av,av];exact hl,by rw[av];omega,λd hd=>?_];rw[QF G.nd (by rw[av];exact hl)]
 have kj:((gC (qs.map (·.1)) (fS qs s)).map (·.1)).Nodup:=by
  rw[B6,qo,uY];exact G.nd.imp λn e=>n (iJ e)
 rw[yd kj];exact k d _ (s1.trans (aa.new hd)) (s1.free hd) az
theorem YN{hs:Xa}{ts:Xb}{qs:aN}{f:bF}{r:Int}(G:Good hs ts)(wp:∀q∈qs,0<=q.2.1/\q.2.1<=1000000000)(cY:qs.length<64)(R:Hx hs qs f r):0<=r/\r<2 ^ 140:=by
 let#[x,hx,y,hy,rfl,up]:=R;let h1:=(up y hy).1;let h2:=X4 G wp cY (f:=f) hy
 have h3:fK hs qs f x<=64000000000 * f_ hs:=by
  unfold fK;let l1:=GN wp cY f x;let mo:=BV G;let so:=AZ G hx;have q:f_ hs / strOf hs x<=f_ hs:=Int.ediv_le_self _ (iP mo.1);have q0:0<=f_ hs / strOf hs x:=Int.ediv_nonneg (iP mo.1) Z2;exact Int.le_trans (Int.mul_le_mul_of_nonneg_left q l1.1) (Int.mul_le_mul_of_nonneg_right l1.2 (iP mo.1))
 let mo:=BV G;omega
theorem X1{r M:Int}(hr:0<=r)(n5:r<2 ^ 140)(hM:0<M)(hM2:M<2 ^ 100):0<=(fr r M).1/\(fr r M).1<2 ^ 140/\1<=(fr r M).2/\(fr r M).2<2 ^ 100/\Int.gcd (fr r M).1 (fr r M).2=1:=by
 have g0:0<Int.gcd r M:=by
  rcases Nat.eq_zero_or_pos (Int.gcd r M) with e|e
  ·have:=Int.gcd_eq_zero_iff.mp e;omega
  exact e
 have g1:0<(Int.gcd r M:Int):=by omega
 have e2:(fr r M).2 * (Int.gcd r M:Int)=M:=Int.ediv_mul_cancel (Int.gcd_dvd_right ..);have p1:0<=(fr r M).1:=Int.ediv_nonneg hr (iP g1);have p2:(fr r M).1<=r:=Int.ediv_le_self _ hr;have p3:(fr r M).2<=M:=Int.ediv_le_self _ (iP hM)
 have p4:1<=(fr r M).2:=by
  by_cases c:1<=(fr r M).2
  ·exact c
  have:(fr r M).2 * (Int.gcd r M:Int)<=0 * (Int.gcd r M:Int):=Int.mul_le_mul_of_nonneg_right Z2 (iP g1);omega
 exact#[p1,by omega,p4,by omega,Int.gcd_ediv_gcd_ediv_gcd g0]
noncomputable def eY (hs:Xa) (qs:aN) (s:ak) (l:Int × Int):Bool:=@decide (Mq hs qs (fS qs s) l.1 l.2) (Classical.propDecidable _)
theorem RD{hs:Xa}{qs:aN}{s:ak}{l:Int × Int}:eY hs qs s l=true ↔ Mq hs qs (fS qs s) l.1 l.2:=by
 unfold eY;exact @decide_eq_true_iff _ (Classical.propDecidable _)
theorem qX:bJ jY jY (a9 M5):=bV
inductive IJ (K:ai) (CG CW:Addr) (vs:ag) (H:Hp) (Q:VK) (E:XK):Prop
 |mk:∀(g p t lt:Addr) (hs:Xa) (ts:Xb) (qs:aN) (fp:au) (s:ak) (l:Int × Int),vs=[.ref g,.ref t,.ref lt]->Gs K CG CW H g p hs ts qs fp->H t\.tup (sV s)->Vs hs qs s->gQ H lt l->tO l->(∀H',aa H H'->Q (.bl (eY hs qs s l)) H')->IJ K CG CW vs H Q E
theorem go_{f CG CW:Addr}{fd:Ae}(F:bo K "is_even" "is_even" M5 f fd)(cL:!br 1 "is_less" mz k_)(cS:!br 6 "spread_at" ph (NM K CG CW))(cP:!br 2 "placed_by" ["goods","hands"] (kZ K CG CW)):!ao a_ 7 f fd jY (IJ K CG CW):=by
 exists F.bU qX;let#[g,p,t,lt,hs,ts,qs,fp,s,l,rfl,G,ht,v,hl,lo,k]:=h;apply#[_,aH (bp (QC (bc cL hr %[2,bc cS hr %[0,bc cP hr %[0,1|0]|0]|0]))),?_];apply#[_,U,_,U,_,U,_,U,g,p,t,hs,ts,qs,fp,s,U,G,ht,v.len,λd H1 s1 n1 e1=>?_];let#[RS,Pl]:=G.placed s1 n1 e1 (v.at_ G.nd);apply#[g,p,d,hs,ts,qs,RS,fS qs s,U,Pl,G.wp,λu r H2 s2 R e2=>?_];let rl:=YN G.Gd G.wp G.cY R;let mo:=BV G.Gd;let fb:=X1 rl.1 rl.2 mo.1 mo.2.1;apply#[lt,u,l,fr r (f_ hs),U,s2 _ _ (s1 _ _ hl),e2,?_,?_,?_]
 ·have:=lo.a1;have:=lo.a2;have:=lo.b1;have:=lo.b2;exact#[#[by omega,by omega],by omega,by omega]
 ·exact#[#[by omega,by omega],by omega,by omega]
 let kk:=k H2 (s1.trans s2)
 have e:(!decide (l.1 * (fr r (f_ hs)).2<(fr r (f_ hs)).1 * l.2))=eY hs qs s l:=by
  rw[Bool.eq_iff_iff,RD,Yw R (by have:=lo.b1;omega),Bool.not_eq_true',decide_eq_false_iff_not,hB_ rl.1 mo.1,Int.not_lt,Int.mul_comm]
 apply#[_,U,?_];rw[e];exact kk
end
end Ev
namespace Ev
open PySem L2
structure Ci (H:Hp) (d:Addr) (hs:Xa) (ts:Xb) (ns:ae) (q:Pc) (ad:Str->Addr):Prop where
 at_:H d\.dK (dW ns λh=>.ref (ad h))
 is:∀h∈ns,H (ad h)\.lst ((tI hs ts q h).map V.str)
def FW(H:Hp)(d:Addr)(hs:Xa)(ts:Xb)(q:Pc):Prop:=∃ad,Ci H d hs ts (aS hs) q ad
theorem Ci.same{H H':Hp}{d:Addr}{hs:Xa}{ts:Xb}{ns:ae}{q:Pc}{ad:Str->Addr}(h:Ci H d hs ts ns q ad)(s:aa H H'):Ci H' d hs ts ns q ad:=#[s _ _ h.at_,λx hx=>s _ _ (h.is x hx)]
theorem FW.same{H H':Hp}{d:Addr}{hs:Xa}{ts:Xb}{q:Pc}(h:FW H d hs ts q)(s:aa H H'):FW H' d hs ts q:=by
 let#[ad,h]:=h;exact#[ad,h.same s]
def wN(H:Hp)(l d:Addr)(hs:Xa)(ts:Xb)(q:Pc):Prop:=∃ad,Ci H d hs ts (aS hs) q ad/\∀x∈aS hs,ad x≠l
theorem wN.same{H H':Hp}{l d:Addr}{hs:Xa}{ts:Xb}{q:Pc}(h:wN H l d hs ts q)(s:aa H H'):wN H' l d hs ts q:=by
 let#[ad,h,n]:=h;exact#[ad,h.same s,n]
def qq(H:Hp)(l:Addr)(hs:Xa)(ts:Xb)(qs:aN):Prop:=∃ds:au,H l\.lst (ds.map V.ref)/\Paired (λd q=>FW H d hs ts q) ds qs
theorem qq.same{H H':Hp}{l:Addr}{hs:Xa}{ts:Xb}{qs:aN}(h:qq H l hs ts qs)(s:aa H H'):qq H' l hs ts qs:=by
 let#[ds,h1,h2]:=h;exact#[ds,s _ _ h1,Paired.aX h2 λd q x=>x.same s]
section v
theorem B0:bJ ["goods","web","found","piece","exits","one"] ["goods"] (a9 lV):=bV
inductive Nq (K:ai) (CG CW:Addr) (vs:ag) (H:Hp) (Q:VK) (E:XK):Prop
 |mk:∀(g p:Addr) (hs:Xa) (ts:Xb) (qs:aN) (fp:au),vs=[.ref g]->Gs K CG CW H g p hs ts qs fp->(∀l H',aa H H'->H l=none->qq H' l hs ts qs->Q (.ref l) H')->Nq K CG CW vs H Q E
theorem hJ_{f CG CW CP:Addr}{fd:Ae}(F:bo K "exits_of" "exits_of" lV f fd)(T:fY K CG)(TW:Txt K mg CW)(cN:!bM CG 1 "names" oz (A9 K CG CW))(cH:!bM CW 1 "hands" oz (Fx K CW))(cE:!bM CW 2 "neighbours" wc (Nj K CW))(cM:!bM CG 3 "may_go" ["self","piece","one","other"] (lu K CG CW CP)):!ao a_ 4 f fd ["goods"] (Nq K CG CW):=by
 exists F.bU B0;let#[g,p,hs,ts,qs,fp,rfl,G,k]:=h;let hu:=fH hr;let sz:=cq;let cY:=G.cY;let nl:=G.Gd.iB;let h8:=G.Gd.h8;let oY:=G.Gd.oY;have iD:aP 1 _:=hr.mono (by decide);have n5:aP 2 _:=hr.mono (by decide);have BB:aP 3 _:=hr.mono (by decide);refine' #[_,aw ?s1 (aw ?s2 (aw ?s3 (aH ?s4))),?kk]
 case s1=>exact bu 1 B0.nd (gG (pv 0) U)
 case s2=>exact bu 2 B0.nd (fu bK)
 case' s3=>refine' d4 dN U ?i3 ?g3 (aw ?b1 (aw ?b2 (aH ?b3)))
 case i3=>exact dY (xX cN T.cl iD (pv 0))
 case g3=>exact cu 3 B0.nd
 case b1=>exact bu 4 B0.nd FG
 case' b2=>refine' d4 dN U ?i4 ?g4 (aH ?b4)
 case i4=>exact dY (xX cH TW.cl iD (pv 1))
 case g4=>exact cu 5 B0.nd
 case' b4=>refine' tW hu (pv 4) (pv 5) (js ["other","goods","one","piece"] 1 [0,5,3] (dY (iX cE TW.cl n5 (pv 1) %[5|0])) (λfp s H=>?g5) (λfp s H=>?c5) (λfp s H=>?e5)) U
 case g5=>exact fW (i:=0) (show (["other","goods","one","piece"]:ae).Nodup by decide +kernel) U (Or.inl U)
 case c5=>exact Ib (d8 (iX cM T.cl BB (pv 1) %[3,2,0|0]))
 case e5=>exact pv 0
 case b3=>exact kJ (pf oy xZ x5 wD (pv 2) %[4|0])
 case s4=>exact bp (pv 2)
 let#[dx,dw,dy,vs,dC,h1,h2,_]:=id G.G.ex;have gno:(cQ p dw dy).lookup ("names":Str)=none:=uX _ _ _ Z0 Z0 Z0;have gnm:(cQ p dw dy).lookup ("may_go":Str)=none:=uX _ _ _ Z0 Z0 Z0;apply#[_,U,g,CG,dx,_,_,U,h1,T.cl,T.nW,yb _ _ _,?_];apply#[zl,λl hl=>?_];let#[s1,e1]:=aD (o:=.lst []) hl;generalize upd H l (.lst [])=H1 at s1 e1 ⊢;apply#[_,U,g,dx,_,U,s1 _ _ h1,gno,g,p,hs,ts,qs,fp,U,G.G.same s1,λln xD=>?_];let#[s2,e2]:=aD (o:=.lst ((qs.map (·.1)).map V.str)) xD;have Ko:H ln=none:=s1.free xD;have Xi:ln≠l:=(bz e1 xD).symm;let el:=s2 _ _ e1;let jk:=s1.trans s2;generalize upd H1 ln (.lst ((qs.map (·.1)).map V.str))=H2 at s2 e2 el jk ⊢
 let Iv:bR:=λi σ H'=>∃(v3 v4 v5:aE) (ds:au),σ=[some (.ref g),some (.ref p),some (.ref l),v3,v4,v5]/\aa H H'/\H' ln\.lst ((qs.map (·.1)).map V.str)/\H' l\.lst (ds.map V.ref)/\Paired (λd q=>wN H' l d hs ts q) ds (qs.take i)
 apply#[ln,U,#[_,.of e2],ia (K:=K) (a:=ln) (xs:=(qs.map (·.1)).map V.str) Iv #[none,none,none,[],U,jk,e2,el,.nil] (λi σ H' _ ⟨_,_,_,_,_,_,q,_⟩=>.of q) ?_ ?_]
 ·rintro i y σ H3 hy ⟨v3,v4,v5,ds,rfl,d0,e3,uL,pd⟩;let#[n,hn,rfl]:=mI hy;rw[dF,Cd] at hn;let#[q,hq,rfl]:=hn;let qm:=cZ hq;have hi:i<qs.length:=(bX.mp hq).1;intro d hd;let s4:=aa.new (o:=.dK []) hd;have e4:upd H3 d (.dK []) d\.dK (dW [] λh=>.ref d):=az;have dn:H d=none:=d0.free hd;let lY:=d0.trans s4;let iW:=s4 _ _ uL;let Sr:=s4 _ _ e3;let Dk:=Paired.aX (G:=λa q=>wN (upd H3 d (.dK [])) l a hs ts q/\a≠d) pd λa q x=>#[x.same s4,by let#[ad,x,_]:=x;exact bz x.at_ hd];have dl:d≠l:=(bz uL hd).symm;have dln:d≠ln:=(bz e3 hd).symm;generalize upd H3 d (.dK [])=H4 at s4 e4 lY iW Sr Dk ⊢;let W4:=h2.same lY;let#[jL,d1,l2,d3,wO,as,ef,w1,_]:=id h2.ex;have U5:(fi d1 l2 d3).lookup ("hands":Str)=none:=pF _ _ _ Z0 Z0 Z0;have U6:(fi d1 l2 d3).lookup ("neighbours":Str)=none:=pF _ _ _ Z0 Z0 Z0;apply#[_,U,p,jL,_,U,lY _ _ w1,U5,p,hs,ts,dC,U,W4,λlh fZ=>?_];let#[s5,e5]:=aD (o:=.lst ((aS hs).map V.str)) fZ;let jx:=lY.trans s5;have hn5:H lh=none:=lY.free fZ;have Xo:lh≠d:=(bz e4 fZ).symm;let S5:=s5 _ _ e4;let tJ:=s5 _ _ iW;let Sq:=s5 _ _ Sr;let PP:=Paired.aX (G:=λa q=>wN (upd H4 lh (.lst ((aS hs).map V.str))) l a hs ts q/\a≠d) Dk λa q x=>#[x.1.same s5,x.2];generalize upd H4 lh (.lst ((aS hs).map V.str))=H5 at s5 e5 jx S5 tJ Sq PP ⊢
  let Iw:bR:=λj σ H'=>∃(v5:aE) (ad:Str->Addr),σ=[some (.ref g),some (.ref p),some (.ref l),some (.str q.1),some (.ref d),v5]/\aa H H'/\H' ln\.lst ((qs.map (·.1)).map V.str)/\H' l\.lst (ds.map V.ref)/\H' lh\.lst ((aS hs).map V.str)/\Paired (λa q=>wN H' l a hs ts q/\a≠d) ds (qs.take i)/\Ci H' d hs ts ((aS hs).take j) q ad/\∀x∈(aS hs).take j,ad x≠l
  apply#[lh,U,#[_,.of e5],ia (K:=K) (a:=lh) (xs:=(aS hs).map V.str) Iw #[_,_,U,jx,Sq,tJ,e5,PP,#[S5,by simp],by simp] (λj σ H' _ ⟨_,_,_,_,_,_,z,_⟩=>.of z) ?_ ?_]
  ·rintro j y σ H6 hy ⟨Jx,ad,rfl,iA,MA,uK,e6,Gp,ex,Hk⟩;let#[h,hh,rfl]:=mI hy;let hm:=cZ hh;have hj:j<(aS hs).length:=(bX.mp hh).1;let l_:=(gO hs).mem_iff.mp hm;let Ld:=SZ oY hh;let W6:=h2.same iA;apply#[_,U,p,jL,_,U,iA _ _ w1,U6,_,U,p,h,hs,ts,dC,U,W6,oY,l_,λlx jH=>?_];let#[s7,e7]:=aD (o:=.lst ((near (aS hs) (bT ts) h).map V.str)) jH;generalize upd H6 lx (.lst ((near (aS hs) (bT ts) h).map V.str))=H7 at s7 e7 ⊢;have WS:(near (aS hs) (bT ts) h).length<=8:=iQ (Cb ..) Z2;apply#[lx,U,#[_,.of e7],λD hD=>?_];apply kL (own:=1) (fv:=[some (.ref g),some (.str h),some (.str q.1)]) (xs:=(near (aS hs) (bT ts) h).map V.str) U fF (λi out H'=>aa H7 H'/\H' D\.lst out/\out=(((near (aS hs) (bT ts) h).take i).filter λo=>BJ hs ts q.2.2 (some h) (some o)).map V.str) #[aa.new hD,az,U] (λi out H' _ ⟨sm,_,_⟩=>.of (sm _ _ e7)) (λout H8 ⟨sm,hD8,eo⟩=>?_) (λi' y out H' hy ⟨sm,dH,eo⟩=>?_)
   ·rw[av,eS] at eo;let Bu:=s7.trans sm;let E3:=ex.same Bu;have Dn:H6 D=none:=s7.free hD;apply#[_,U,_,U,d,_,U,.k (k:=Sum.inr h) E3.at_ (by rw[oA,dM];omega),?_];have Dd:D≠d:=λz=>by rw[z,ex.at_] at Dn;cases Dn
    apply#[_,λx=>if x=h then D else ad x,U,fL (iA.trans Bu) dn,by rw[ax dln.symm];exact Bu _ _ MA,by rw[ax dl.symm];exact Bu _ _ uK,by rw[ax Xo];exact Bu _ _ e6,Paired.aX Gp λa q ⟨⟨OJ,x,xl⟩,ne⟩=>#[#[OJ,?_,xl],ne],#[?_,λx hx=>?_],λx hx=>?_]
    ·let x:=x.same Bu;exact#[by rw[ax ne];exact x.at_,λz hz=>by rw[ax (bS (x.is z hz) E3.at_ (by intro e;cases e))];exact x.is z hz]
    ·rw[az,uS hh,RI Ld];exact eg (λz=>some (HO.dK z)) (IS λn _=>by split<;>rfl)
    ·rw[uS hh] at hx;rcases dJ.mp hx with hx|hx
     ·have:x≠h:=λe=>Ld (by rw[<- e];exact hx);rw[aC this,ax (bS (E3.is x hx) E3.at_ (by intro e;cases e))];exact E3.is x hx
     rw[eK.mp hx,aI U,ax Dd,hD8,eo];rfl
    rw[uS hh] at hx;rcases dJ.mp hx with hx|hx
    ·have:x≠h:=λe=>Ld (by rw[<- e];exact hx);show (if x=h then D else ad x)≠l;rw[aC this];exact Hk x hx
    rw[eK.mp hx];show (if h=h then D else ad h)≠l;rw[aI U];exact λz=>by rw[z,uK] at Dn;cases Dn
   let#[o,ho,rfl]:=mI hy;apply#[_,U,U,λNx hN=>?_];let G':=G.G.same (((iA.trans s7)).trans sm);let tq:=(iA.trans s7).trans sm _ _ h1;apply#[_,U,g,dx,_,U,tq,gnm,_,U,_,U,_,U,g,p,.str q.1,.str h,.str o,some q.1,some h,some o,hs,ts,qs,fp,U,G',G.nd,oY,U,.inl #[q,qm,U,U,U,λH9 s9=>#[_,U,?_]]]
   have lo:out.length<=8:=by
    rw[eo,av];exact iQ (Cb ..) (iQ (by rw[dM];exact Nat.min_le_right ..) WS)
   apply bQ (λc=>?_) (λc=>?_)
   ·apply#[_,U,out,s9 _ _ dH,by omega,hN _ _ #[fL (sm.trans s9) hD,az,?_]];rw[IV _ ho,er,<- eo];rw[aI c];rfl
   apply hN out _ #[sm.trans s9,s9 _ _ dH,?_];rw[IV _ ho,er,<- eo,aC c];simp
  rintro σ H6 ⟨Jx,ad,rfl,iA,MA,uK,e6,Gp,ex,Hk⟩;rw[av,eS] at ex Hk;let lp:=bH Gp;rw[dM] at lp;apply#[_,U,.inl #[U,_,.of uK],_,U,l,_,_,U,U,uK,by rw[av];omega,?_];have pl:∀{a q},wN H6 l a hs ts q->wN (upd H6 l (.lst (ds.map V.ref++[.ref d]))) l a hs ts q:=λ{a q} ⟨OJ,x,xl⟩=>#[OJ,#[by rw[ax (bS x.at_ uK (by intro e;cases e))];exact x.at_,λz hz=>by rw[ax (xl z hz)];exact x.is z hz],xl];apply#[_,_,_,ds++[d],U,fL iA hl,by rw[ax Xi];exact MA,?_,?_]
  ·rw[az,er];rfl
  rw[mK,hq];exact iY (Paired.aX Gp λa q x=>pl x.1) (.cons (pl #[ad,ex,Hk]) .nil)
 rintro σ H3 ⟨v3,v4,v5,ds,rfl,d0,e3,uL,pd⟩;rw[av,av,eS] at pd;exact#[_,U,k l H3 d0 hl #[ds,uL,Paired.aX pd λa q ⟨ad,x,_⟩=>#[ad,x]]]
end
end Ev
namespace Ev
open PySem L2
abbrev lK:Stmt:=mr Hr 0
abbrev lJ:Stmt:=mr Hr 1
abbrev M6:Stmt:=mr Hr 2
abbrev rC:Stmt:=mr Hr 3
theorem Tr(f:Str)(u v:V):∀fs:List (Str × V),aB f v (aB f u fs)=aB f v fs
 |[]=>by
  show aB f v [(f,u)]=[(f,v)];show (if f=f then _ else _)=_;rw[aI U]
 |(g,x)::r=>by
  by_cases c:g=f
  ·rw[show aB f u ((g,x)::r)=(g,u)::r from aI c,show aB f v ((g,u)::r)=(g,v)::r from aI c,show aB f v ((g,x)::r)=(g,v)::r from aI c]
  rw[show aB f u ((g,x)::r)=(g,x)::aB f u r from aC c,show aB f v ((g,x)::aB f u r)=(g,x)::aB f v (aB f u r) from aC c,show aB f v ((g,x)::r)=(g,x)::aB f v r from aC c,Tr f u v r]
def b_(x a n:Addr):List (Str × V):=aB "newest" (.ref n) (aB p9 (.ref a) (aB jR (.ref x) []))
theorem Wf:¬((jR:Str)=p9):=by decide +kernel
theorem We:¬((jR:Str)="newest"):=by decide +kernel
theorem Wa:¬((p9:Str)="newest"):=by decide +kernel
theorem YW(x a n:Addr):(b_ x a n).lookup (jR:Str)\.ref x:=by
 unfold b_;rw[gy,aC We,gy,aC Wf,gy,aI U]
theorem H_(x a n:Addr):(b_ x a n).lookup (p9:Str)\.ref a:=by
 unfold b_;rw[gy,aC Wa,gy,aI U]
theorem MC(x a n:Addr):(b_ x a n).lookup ("newest":Str)\.ref n:=by
 unfold b_;rw[gy,aI U]
theorem Iu(x a n:Addr){m:Str}(h1:¬m=jR)(h2:¬m=p9)(h3:¬m="newest"):(b_ x a n).lookup m=none:=by
 unfold b_;rw[gy,aC h3,gy,aC h2,gy,aC h1]
 all_goals rfl
structure jW (K:ai) (CR:Addr):Prop where
 cl:mU K CR
 nX:mq K CR jR
 nA:mq K CR p9
 nN:mq K CR "newest"
def jf(H:Hp):ag->List ak->Prop:=Paired λy s=>∃t,y=.ref t/\H t\.tup (sV s)
theorem jf.keep{H H':Hp}{ys:ag}{l:List ak}(h:jf H ys l)(k:∀b xs,H b\.tup xs->H' b\.tup xs):jf H' ys l:=Paired.aX h λy s ⟨t,e,ht⟩=>#[t,e,k _ _ ht]
def UC(H:Hp)(v:V):Option ak->Prop
 |none=>v=.non
 |some q=>∃b,v=.ref b/\H b\.tup (sV q)
def fJ(H:Hp):List (aq × V)->List (ak × Option ak)->Prop:=Paired λkv e=>kv.1=sK e.1/\UC H kv.2 e.2
theorem fJ.keep{H H':Hp}{kvs:List (aq × V)}{pa:List (ak × Option ak)}(h:fJ H kvs pa)(k:∀b xs,H b\.tup xs->H' b\.tup xs):fJ H' kvs pa:=Paired.aX h λkv e ⟨h1,h2⟩=>#[h1,by
 cases z:e.2 with
 |none=>rw[z] at h2;exact h2
 |some q=>
  rw[z] at h2;let#[b,e1,hb]:=h2;exact#[b,e1,k _ _ hb]]
theorem fJ.keys{H:Hp}:∀{kvs:List (aq × V)} {pa:List (ak × Option ak)},fJ H kvs pa->kvs.map (·.1)=(pa.map (·.1)).map sK
 |_,_,.nil=>rfl
 |_,_,.cons h t=>by
  rw[eJ,eJ,eJ,h.1,fJ.keys t]
theorem fJ.none{H:Hp}{kvs:List (aq × V)}{pa:List (ak × Option ak)}(h:fJ H kvs pa){s:ak}(hs:s∉pa.map (·.1)):aU kvs (sK s)=none:=ud (by
 rw[h.keys];intro hm;let#[x,hx,e]:=bG.mp hm;rw[<- BY e] at hs;exact hs hx)
theorem fJ.isSome{H:Hp}{kvs:List (aq × V)}{pa:List (ak × Option ak)}(h:fJ H kvs pa)(s:ak):(aU kvs (sK s)).isSome=decide (s∈pa.map (·.1)):=by
 by_cases c:s∈pa.map (·.1)
 ·rw[cw c];exact IZ (by rw[h.keys];exact bG.mpr #[s,c,U])
 rw[ft c,h.none c];rfl
theorem fJ.get{H:Hp}:∀{kvs:List (aq × V)} {pa:List (ak × Option ak)},fJ H kvs pa->(pa.map (·.1)).Nodup->∀{e:ak × Option ak},e∈pa->∃v,aU kvs (sK e.1)\v/\UC H v e.2
 |_,_,.nil,_,_,he=>by cases he
 |_,_,.cons (a:=kv) (b:=e0) h t,nd,e,he=>by
  rw[eJ,iZ] at nd;rcases bZ.mp he with rfl|he
  ·exact#[kv.2,by unfold aU;rw[yk];simp[h.1],h.2]
  let#[v,h1,h2]:=fJ.get t nd.2 he;apply#[v,?_,h2]
  have ne:¬kv.1=sK e.1:=λz=>by
   rw[h.1] at z;exact nd.1 (by rw[BY z];exact bG.mpr #[e,he,U])
  unfold aU at h1 ⊢;rw[yk];simp[ne,h1]
theorem wz{kvs:List (aq × V)}{k:aq}{v:V}(h:aU kvs k=none):putK kvs k v=kvs++[(k,v)]:=by
 unfold putK;rw[B7,h];rfl
def uv(N:ak->ak->Prop)(s0:ak)(pa:List (ak × Option ak)):Prop:=∀e∈pa,(e.1=s0/\e.2=none)∨∃q d,e.2\q/\Ds N s0 d q/\Ds N s0 (d+1) e.1/\N q e.1
structure xT (CR:Addr) (H:Hp) (r a x n:Addr) (hs:Xa) (ts:Xb) (qs:aN) (pa:List (ak × Option ak)) (nw:List ak):Prop where
 ins:∃dx,H r\.ins CR dx (b_ x a n)
 ex:qq H x hs ts qs
 ah:∃kvs,H a\.dT kvs/\fJ H kvs pa
 ne:∃ys,H n\.lst ys/\jf H ys nw
theorem xT.same{CR:Addr}{H H':Hp}{r a x n:Addr}{hs:Xa}{ts:Xb}{qs:aN}{pa:List (ak × Option ak)}{nw:List ak}(R:xT CR H r a x n hs ts qs pa nw)(s:aa H H'):xT CR H' r a x n hs ts qs pa nw:=by
 let#[#[dx,h1],h2,#[kvs,h3,h4],#[ys,h5,h6]]:=R;exact#[#[dx,s _ _ h1],h2.same s,#[kvs,s _ _ h3,h4.keep λb xs e=>s _ _ e],#[ys,s _ _ h5,h6.keep λb xs e=>s _ _ e]]
section v
theorem nB:bJ ["self","goods","placed","first"] oF (a9 lK):=bV
inductive IL (K:ai) (CG CW CR:Addr) (vs:ag) (H:Hp) (Q:VK) (E:XK):Prop
 |mk:∀(r dx g p d:Addr) (hs:Xa) (ts:Xb) (qs:aN) (fp:au) (f:bF),vs=[.ref r,.ref g,.ref d]->H r\.ins CR dx []->Gs K CG CW H g p hs ts qs fp->H d\.dK (gC (qs.map (·.1)) f)->(∀a x n H',(∀b o,H b\o->b≠r->H' b\o)->H a=none->xT CR H' r a x n hs ts qs [((qs.map (·.1)).map f,none)] [(qs.map (·.1)).map f]->Q .non H')->IL K CG CW CR vs H Q E
theorem hL_{f CG CW CR:Addr}{fd:Ae}(F:bo K "__init__" "Reach.__init__" lK f fd)(T:jW K CR)(B:Bi mg)(cE:!br 4 "exits_of" ["goods"] (Nq K CG CW)):!ao a_ 5 f fd oF (IL K CG CW CR):=by
 exists F.bU nB;let#[r,dx,g,p,d,hs,ts,qs,fp,f,rfl,jG,G,hd,k]:=h;let hu:=fH hr;refine' #[_,aw ?s1 (aw ?s2 (aw ?s3 (aH ?s4))),?kk]
 case s1=>exact bu 3 nB.nd (iO (Tq U) (by rfl) B.tuple qh %[IQ (pv 2)|0])
 case s2=>exact uW (pv 0) (bc cE hr %[1|0]) U
 case s3=>exact uW (pv 0) (Sk hu (pv 3) tZ) U
 case s4=>exact uW (pv 0) (fu %[3|0]) U
 apply#[_,U,d,_,U,hd,λv hv=>?_];let#[s1,e1]:=aD (o:=qe v d) hv;generalize upd H v (qe v d)=H1 at s1 e1 ⊢;apply#[v,d,_,U,e1,s1 _ _ hd,λt ht=>?_]
 have ev:(gC (qs.map (·.1)) f).map (·.2)=sV ((qs.map (·.1)).map f):=by
  simp only[gC,dW,sV,cz];rfl
 rw[ev];obtain⟨s0,QS⟩:∃s0,s0=(qs.map (·.1)).map f:=#[_,U];rw[<- QS];rw[<- QS] at k;let#[s2,e2]:=aD (o:=.tup (sV s0)) ht;let jk:=s1.trans s2;generalize upd H1 t (.tup (sV s0))=H2 at s2 e2 jk ⊢;apply#[_,U,g,p,hs,ts,qs,fp,U,G.same jk,λx H3 s3 nx ex=>?_];let d0:=jk.trans s3;apply#[_,U,r,CR,dx,[],U,d0 _ _ jG,T.cl,T.nX,by show 0<1000;decide,?_];have F2:∀{b o},H3 b\o->b≠r->upd H3 r (.ins CR dx (aB jR (.ref x) [])) b\o:=λe ne=>by rw[ax ne];exact e
 have r4:upd H3 r (.ins CR dx (aB jR (.ref x) [])) r\.ins CR dx (aB jR (.ref x) []):=az
 have pW:∀{b},upd H3 r (.ins CR dx (aB jR (.ref x) [])) b=none->H3 b=none:=λ{b} e=>by
  by_cases z:b=r
  ·rw[z,az] at e;cases e
  rw[ax z] at e;exact e
 generalize upd H3 r (.ins CR dx (aB jR (.ref x) []))=H4 at F2 r4 pW ⊢;let BB:=d0 _ _ jG;have tr:t≠r:=bS (s3 _ _ e2) BB nofun;have e4:H4 t\.tup (sV s0):=F2 (s3 _ _ e2) tr;intro a ha;let#[s5,e5]:=aD (o:=.dT []) ha;have an:H a=none:=d0.free (pW ha);have ar:a≠r:=(bz r4 ha).symm;generalize upd H4 a (.dT [])=H5 at s5 e5 ⊢;apply#[_,U,e5,t,sK s0,U,by rw[iz];exact s5 _ _ e4,_,U,?_];have ta:t≠a:=bS (s5 _ _ e4) e5 nofun;have Jz:∀{b o},H5 b\o->b≠a->upd H5 a (.dT [(sK s0,.non)]) b\o:=λe ne=>by rw[ax ne];exact e
 have e6:upd H5 a (.dT [(sK s0,.non)]) a\.dT [(sK s0,.non)]:=az
 have BK:∀{b},upd H5 a (.dT [(sK s0,.non)]) b=none->H5 b=none:=λ{b} e=>by
  by_cases z:b=a
  ·rw[z,az] at e;cases e
  rw[ax z] at e;exact e
 generalize upd H5 a (.dT [(sK s0,.non)])=H6 at Jz e6 BK ⊢;apply#[r,CR,dx,_,U,Jz (s5 _ _ r4) ar.symm,T.cl,T.nA,by show 1<1000;decide,?_];have Jy:∀{b o},H6 b\o->b≠r->upd H6 r (.ins CR dx (aB p9 (.ref a) (aB jR (.ref x) []))) b\o:=λe ne=>by rw[ax ne];exact e
 have r7:upd H6 r (.ins CR dx (aB p9 (.ref a) (aB jR (.ref x) []))) r\.ins CR dx (aB p9 (.ref a) (aB jR (.ref x) [])):=az
 have xP:∀{b},upd H6 r (.ins CR dx (aB p9 (.ref a) (aB jR (.ref x) []))) b=none->H6 b=none:=λ{b} e=>by
  by_cases z:b=r
  ·rw[z,az] at e;cases e
  rw[ax z] at e;exact e
 generalize upd H6 r (.ins CR dx (aB p9 (.ref a) (aB jR (.ref x) [])))=H7 at Jy r7 xP ⊢
 have e47:∀{b o},H3 b\o->b≠r->H7 b\o:=λ{b o} e ne=>by
  let e4':=s5 _ _ (F2 e ne)
  have ba:b≠a:=λz=>by
   have:=F2 e ne;rw[z,ha] at this;cases this
  exact Jy (Jz e4' ba) ne
 apply#[_,U,zl,λn hn=>?_];let#[s8,e8]:=aD (o:=.lst [.ref t]) hn;have nr:n≠r:=(bz r7 hn).symm;generalize upd H7 n (.lst [.ref t])=H8 at s8 e8 ⊢;apply#[_,U,r,CR,dx,_,U,s8 _ _ r7,T.cl,T.nN,by show 2<1000;decide,?_];have F1:∀{b o},H8 b\o->b≠r->upd H8 r (.ins CR dx (b_ x a n)) b\o:=λe ne=>by rw[ax ne];exact e
 have r9:upd H8 r (.ins CR dx (b_ x a n)) r\.ins CR dx (b_ x a n):=az;show Q .non (upd H8 r (.ins CR dx (b_ x a n)));generalize upd H8 r (.ins CR dx (b_ x a n))=H9 at F1 r9 ⊢;have E6:∀{b o},H3 b\o->b≠r->H9 b\o:=λe ne=>F1 (s8 _ _ (e47 e ne)) ne;apply k a x n H9 (λb o e ne=>E6 (d0 _ _ e) ne) an #[#[dx,r9],?_,#[_,F1 (s8 _ _ (Jy e6 ar)) ar,.cons #[U,U] .nil],#[_,F1 e8 nr,.cons #[t,U,E6 (s3 _ _ e2) tr] .nil]];let#[ds,x1,x2]:=ex
 have Kj:∀{b o},H3 b\o->(∀C dx fs,o≠.ins C dx fs)->b≠r:=λe no z=>by
  rw[z,BB] at e;cases e;exact no _ _ _ U
 exact#[ds,E6 x1 (Kj x1 (by intro _ _ _ z;cases z)),Paired.aX x2 λd q ⟨ad,y1,y2⟩=>#[ad,E6 y1 (Kj y1 (by intro _ _ _ z;cases z)),λh hh=>E6 (y2 h hh) (Kj (y2 h hh) (by intro _ _ _ z;cases z))]]
end
end Ev
namespace Ev
open PySem L2
theorem To{s:ak}{i:Nat}(h:i<s.length)(o:Str):(sV s).take i++[V.str o]++(sV s).drop (i+1)=sV (s.set i o):=by
 show (s.map V.str).take i++[V.str o]++(s.map V.str).drop (i+1)=(s.set i o).map V.str;rw[List.set_eq_take_append_cons_drop,aI h,er,eJ,List.map_take,List.map_drop,List.append_assoc];rfl
def Jj(hs:Xa)(ts:Xb)(qs:aN)(s:ak)(i:Nat)(b:ak):Prop:=∃(k:Nat) (q:Pc) (h h':Str),k<i/\qs[k]? = some q/\s[k]? = some h/\h'∈tI hs ts q h/\b=s.set k h'
theorem Yx{hs:Xa}{ts:Xb}{qs:aN}{s b:ak}:Jj hs ts qs s s.length b ↔ Nx hs ts qs s b:=by
 constructor
 ·rintro⟨k,q,h,h',_,h1,h2,h3,h4⟩;exact#[_,k,q,h,h',h1,h2,h3,h4,U]
 rintro⟨m,k,q,h,h',h1,h2,h3,h4,_⟩;exact#[k,q,h,h',(bX.mp h2).1,h1,h2,h3,h4]
theorem qq.at_{H:Hp}{l:Addr}{hs:Xa}{ts:Xb}{qs:aN}(h:qq H l hs ts qs){k:Nat}{q:Pc}(hq:qs[k]? = some q):∃(ds:au) (d:Addr),H l\.lst (ds.map V.ref)/\(ds.map V.ref)[k]? = some (.ref d)/\FW H d hs ts q:=by
 let#[ds,h1,h2]:=h;have hk:k<qs.length:=(bX.mp hq).1;let hl:=bH h2;have:=d9 h2 k Z2 hk;rw[aY hk] at hq;cases hq;exact#[ds,ds[k]' Z2,h1,by rw[dF,aY Z2];rfl,this]
section v
theorem Ff:bJ ["self","hands","found","place","one","other"] AL (a9 lJ):=bV
inductive IT (CR:Addr) (vs:ag) (H:Hp) (Q:VK) (E:XK):Prop
 |mk:∀(r dx t x a n:Addr) (hs:Xa) (ts:Xb) (qs:aN) (s:ak),vs=[.ref r,.ref t]->H r\.ins CR dx (b_ x a n)->qq H x hs ts qs->H t\.tup (sV s)->Vs hs qs s->(aS hs).length<=8->qs.length<64->(∀l ys L H',aa H H'->H l=none->H' l\.lst ys->jf H' ys L->(∀b,b∈L ↔ Nx hs ts qs s b)->L.length<=512->Q (.ref l) H')->IT CR vs H Q E
theorem ZG{f CR:Addr}{fd:Ae}(F:bo K "one_move_on" "Reach.one_move_on" lJ f fd)(T:jW K CR)(B:Bi mg):!ao a_ 1 f fd AL (IT CR):=by
 exists F.bU Ff;let#[r,dx,t,x,a,n,hs,ts,qs,s,rfl,GR,ex,ht,v,n8,Gi,k]:=h;let hu:=fH hr;let sz:=cq;let vl:=v.len;refine' #[_,aw ?s1 (aw ?s2 (aH ?s3)),?kk]
 case s1=>exact bu 2 Ff.nd (fu bK)
 case' s2=>refine' d4 dN U ?i2 ?g2 (aH ?b2)
 case i2=>exact ZS (by rfl) B.enum %[1|0]
 case g2=>exact mw U (dO (cu 3 Ff.nd) (dO (cu 4 Ff.nd) jh))
 case' b2=>refine' d4 dN U ?i3 ?g3 (aH ?b3)
 case i3=>exact dY (mJ hu (bw gd (gG (pv 0) U) (pv 3)) (pv 4))
 case g3=>exact cu 5 Ff.nd
 case b3=>exact kJ (pf oy xZ x5 wD (pv 2) %[bP Ig (bP Ig (A1 Hc (pv 1) A8 (A7 (pv 3))) (gh %[5|0])) (A1 Hc (pv 1) (A7 (bP gz (pv 3) ay)) A8)|0])
 case s3=>exact bp (pv 2)
 apply#[zl,λl hl=>?_];let#[s1,e1]:=aD (o:=.lst []) hl;generalize upd H l (.lst [])=H1 at s1 e1 ⊢;apply#[_,U,t,U,#[_,.of (s1 _ _ ht)],?_]
 let Iv:bR:=λi σ H'=>∃(v3 v4 v5:aE) (ys:ag) (L:List ak),σ=[some (.ref r),some (.ref t),some (.ref l),v3,v4,v5]/\aa H H'/\H' l\.lst ys/\jf H' ys L/\(∀b,b∈L ↔ Jj hs ts qs s i b)/\L.length<=8 * i
 apply gM_ (xs:=sV s) Iv #[none,none,none,[],[],U,s1,e1,.nil,λb=>by simp[Jj],by simp] (λi σ H' _ ⟨_,_,_,_,_,_,sm,_⟩=>.of (sm _ _ ht)) ?_ ?_
 ·rintro i y σ H2 hy ⟨v3,v4,v5,ys,L,rfl,s2,e2,sp,mem,len⟩ tt zK;let#[h,hh,rfl]:=mI hy;have hi:i<s.length:=(bX.mp hh).1;have hq:qs[i]? = some (qs[i]' Z2):=aY Z2;obtain⟨q,eq⟩:∃q,q=qs[i]' Z2:=#[_,U];rw[<- eq] at hq;let hm:=v.ij h (cZ hh);let#[s3,e3]:=aD (o:=.tup [.int i,.str h]) zK;let d0:=s2.trans s3;let uL:=s3 _ _ e2;let qQ:=sp.keep λb xs e=>s3 _ _ e;show fR _ _ _ _ _ (upd H2 tt (.tup [.int i,.str h])) _;generalize upd H2 tt (.tup [.int i,.str h])=H3 at s3 e3 d0 uL qQ ⊢;apply#[tt,_,U,.of e3,U,_,_,U,_,_,U,U,?_];let#[ds,d,x1,x2,ad,x3,x4]:=ex.at_ hq;apply#[_,U,r,CR,dx,_,_,U,d0 _ _ GR,T.cl,T.nX,YW _ _ _,_,U,x,_,i,.ref d,U,U,.of (d0 _ _ x1),L2.dS x2,_,U,d,.ref (ad h),U,?_,ad h,U,#[_,.of (d0 _ _ (x4 h hm))],?_]
  ·have:=dc.k (k:=.inr h) (d0 _ _ x3);rw[BZ (g:=λn=>V.ref (ad n)) hm] at this;exact this
  let Iw:bR:=λj σ H'=>∃(v5:aE) (ys:ag) (L:List ak),σ=[some (.ref r),some (.ref t),some (.ref l),some (.int i),some (.str h),v5]/\aa H H'/\H' l\.lst ys/\jf H' ys L/\(∀b,b∈L ↔ Jj hs ts qs s i b∨∃o∈(tI hs ts q h).take j,b=s.set i o)/\L.length<=8 * i+j
  have el8:(tI hs ts q h).length<=8:=iQ (Cb ..) (iQ (Cb ..) n8);apply ia (K:=K) (a:=ad h) (xs:=(tI hs ts q h).map V.str) Iw #[_,ys,L,U,d0,uL,qQ,λb=>by rw[mem];simp,by omega] (λj σ H' _ ⟨_,_,_,_,sm,_⟩=>.of (sm _ _ (x4 h hm))) ?_ ?_
  ·rintro j y σ H4 hy ⟨Jx,ys,L,rfl,s4,iW,ie,fD,l7⟩;let#[o,ho,rfl]:=mI hy;have hj:j<(tI hs ts q h).length:=(bX.mp ho).1;let uG:=bH ie;let pR:=s4 _ _ ht;apply#[_,U,.inl #[U,_,.of iW],?_];apply#[_,U,_,U,_,U,t,_,U,.of pR,?_,λp1 xB=>?_]
   ·rw[HT.eP,HT.dZ,av];omega
   rw[Oe];let#[s5,e5]:=aD (o:=.tup ((sV s).take i)) xB;generalize upd H4 p1 (.tup ((sV s).take i))=H5 at s5 e5 ⊢;apply#[_,U,zl,λp2 ko=>?_];let#[s6,e6]:=aD (o:=.tup [.str o]) ko;generalize upd H5 p2 (.tup [.str o])=H6 at s6 e6 ⊢;apply#[p1,p2,_,_,U,U,s6 _ _ e5,e6,by rw[dM,av,jV];omega,λp3 H7 s7 e7=>?_];let xf:=(s5.trans s6).trans s7;apply#[_,U,_,U,_,_,U,U,_,U,t,_,U,.of (xf _ _ pR),?_,λp4 Ee=>?_]
   ·rw[show ((i:Int)+1)=((i+1:Nat):Int) by omega,HT.dZ,av];omega
   rw[show ((i:Int)+1)=((i+1:Nat):Int) by omega,S7];let#[s8,e8]:=aD (o:=.tup ((sV s).drop (i+1))) Ee;generalize upd H7 p4 (.tup ((sV s).drop (i+1)))=H8 at s8 e8 ⊢;apply#[p3,p4,_,_,U,U,s8 _ _ e7,e8,by rw[d5,dM,av,jV,yl,av];omega,λp5 H9 s9 e9=>?_];rw[To hi] at e9;let zh:=(xf.trans s8).trans s9;let AD:=zh _ _ iW;apply#[l,_,_,U,U,AD,by omega,?_]
   have kt:∀b xs,H9 b\.tup xs->upd H9 l (.lst (ys++[.ref p5])) b\.tup xs:=λb xs e=>by
    rw[ax (bS e AD nofun)];exact e
   apply#[_,_,L++[s.set i o],U,fL (s4.trans zh) hl,az,iY ((ie.keep λb xs e=>zh _ _ e).keep kt) (.cons #[p5,U,kt _ _ e9] .nil),λb=>?_,by rw[d5,jV];omega];rw[dJ,fD,eK,uS ho];constructor
   ·rintro ((x|⟨z,hz,e⟩)|e)
    ·exact .inl x
    ·exact .inr #[z,dJ.mpr (.inl hz),e]
    exact .inr #[o,by simp,e]
   rintro (x|⟨z,hz,e⟩)
   ·exact .inl (.inl x)
   rcases dJ.mp hz with hz|hz
   ·exact .inl (.inr #[z,hz,e])
   rw[eK.mp hz] at e;exact .inr e
  rintro σ H4 ⟨Jx,ys,L,rfl,s4,iW,ie,fD,l7⟩;rw[av] at fD l7;apply#[_,_,_,ys,L,U,s4,iW,ie,λb=>?_,by omega];rw[fD,eS];constructor
  ·rintro (⟨k',q',h',o',k1,k2⟩|⟨o,ho,e⟩)
   ·exact#[k',q',h',o',by omega,k2]
   exact#[i,q,h,o,by omega,hq,hh,ho,e]
  rintro⟨k',q',h',o',k1,k2,k3,k4,k5⟩;by_cases c:k'=i
  ·subst c;rw[hq] at k2;rw[hh] at k3;cases k2;cases k3;exact .inr #[o',k4,k5]
  exact .inl #[k',q',h',o',by omega,k2,k3,k4,k5]
 rintro σ H2 ⟨v3,v4,v5,ys,L,rfl,s2,e2,sp,mem,len⟩;rw[av] at mem len;exact#[_,U,k l ys L H2 s2 hl e2 sp (λb=>(mem b).trans Yx) Z2]
end
end Ev
namespace Ev
open PySem L2
def Bn(r a:Addr)(H H':Hp):Prop:=∀b o,H b\o->b≠r->b≠a->H' b\o
theorem aV.gW{a:Addr}{H H':Hp}{o:HO}(b:aV a H H')(ha:H a\o)(no:∀xs,o≠.tup xs):∀c xs,H c\.tup xs->H' c\.tup xs:=λc xs e=>b _ _ e λz=>by
 rw[z,ha] at e;cases e;exact no _ U
theorem qq.but{a:Addr}{H H':Hp}{l:Addr}{hs:Xa}{ts:Xb}{qs:aN}{kvs:List (aq × V)}(h:qq H l hs ts qs)(b:aV a H H')(ha:H a\.dT kvs):qq H' l hs ts qs:=by
 have k:∀{c o},H c\o->o≠.dT kvs->H' c\o:=λe ne=>b _ _ e λz=>by
  rw[z,ha] at e;cases e;exact ne U
 let#[ds,h1,h2]:=h;exact#[ds,k h1 nofun,Paired.aX h2 λd q ⟨ad,x1,x2⟩=>#[ad,k x1 nofun,λy hy=>k (x2 y hy) nofun]]
section v
theorem Iy:bJ ["self","most","found","hands","after"] ["self","most"] (a9 M6):=bV
def More(N:ak->ak->Prop)(s0:ak)(m:Nat):Prop:=∃l:List ak,l.Nodup/\(∀s∈l,∃j,Wk N s0 j s)/\m<l.length
inductive NW (CR:Addr) (vs:ag) (H:Hp) (Q:VK) (E:XK):Prop
 |mk:∀(r x a n:Addr) (hs:Xa) (ts:Xb) (qs:aN) (pa:List (ak × Option ak)) (nw:List ak) (s0:ak) (k m:Nat),vs=[.ref r,.int m]->xT CR H r a x n hs ts qs pa nw->Bf (Nx hs ts qs) s0 k (pa.map (·.1)) nw->uv (Nx hs ts qs) s0 pa->(∀s∈nw,Vs hs qs s)->(aS hs).length<=8->qs.length<64->m<=1000000->pa.length<=1000000->(∀H',Bn r a H H'->More (Nx hs ts qs) s0 m->Q (.bl false) H')->(∀n' oV uE H',Bn r a H H'->H n'=none->xT CR H' r a x n' hs ts qs oV uE->Bf (Nx hs ts qs) s0 (k+1) (oV.map (·.1)) uE->uv (Nx hs ts qs) s0 oV->oV.length=pa.length+uE.length->(oV.length<=m∨uE=[])->Q (.bl true) H')->NW CR vs H Q E
theorem gF_{f CR:Addr}{fd:Ae}(F:bo K "widen" "Reach.widen" M6 f fd)(T:jW K CR)(B:Bi mg)(cM:!bM CR 1 "one_move_on" AL (IT CR)):!ao a_ 2 f fd ["self","most"] (NW CR):=by
 exists F.bU Iy;let#[r,x,a,n,hs,ts,qs,pa,nw,s0,k,m,rfl,R,bf,po,vv,n8,Gi,m6,p6,kF,kT]:=h;let hu:=fH hr;let sz:=cq;refine' #[_,aw ?s1 (aw ?s2 (aw ?s3 (aH ?s4))),?kk]
 case s1=>exact bu 2 Iy.nd (fu bK)
 case' s2=>refine' d4 dN U ?i2 ?g2 (aH ?b2)
 case i2=>exact dY (gG (pv 0) U)
 case g2=>exact cu 3 Iy.nd
 case' b2=>refine' d4 dN U ?i3 ?g3 (aH ?b3)
 case i3=>exact dY (iX cM T.cl hr (pv 0) %[3|0])
 case g3=>exact cu 4 Iy.nd
 case' b3=>refine' cg (qd (IM hu (pv 4) (gG (pv 0) U))) (aw ?c1 (aw ?c2 (aH ?c3))) cj
 case c1=>exact cg (eZ X2 (cy Ti (by rfl) B.len gE %[gG (pv 0) U|0]) (pv 1)) (aH (bp il)) cj
 case c2=>exact tW hu (gG (pv 0) U) (pv 4) (pv 3) U
 case c3=>exact kJ (pf oy xZ x5 wD (pv 2) %[4|0])
 case s3=>exact uW (pv 0) (pv 2) U
 case s4=>exact bp il
 let#[#[dx,jG],ex,#[kvs,oj,OI],#[Jp,GX,JZ]]:=R;apply#[zl,λl hl=>?_];let#[s1,e1]:=aD (o:=.lst []) hl;generalize upd H l (.lst [])=H1 at s1 e1 ⊢;apply#[_,U,r,CR,dx,_,_,U,s1 _ _ jG,T.cl,T.nN,MC _ _ _,n,U,#[_,.of (s1 _ _ GX)],?_];have vk:∀{b:Addr} {H':Hp},aV a H H'->∀c xs,H c\.tup xs->H' c\.tup xs:=λbt=>aV.gW bt oj (by intro xs z;cases z);have J_:r≠a:=bS jG oj nofun;have WQ:n≠a:=bS GX oj nofun
 let J:List ak->Hp->Prop:=λseen H'=>∃(kvs:List (aq × V)) (oV:List (ak × Option ak)) (fs:ag) (fd:List ak),aV a H H'/\H' a\.dT kvs/\fJ H' kvs oV/\H' l\.lst fs/\jf H' fs fd/\Wd (pa.map (·.1)) seen (oV.map (·.1)) fd/\uv (Nx hs ts qs) s0 oV/\oV.length=pa.length+fd.length/\(oV.length<=m∨fd=[])
 let Iv:bR:=λi σ H'=>∃(v3 v4:aE) (seen:List ak),σ=[some (.ref r),some (.int m),some (.ref l),v3,v4]/\J seen H'/\(∀b,b∈seen ↔ ∃h∈nw.take i,Nx hs ts qs h b)
 let Xk:=bH JZ;apply ia (K:=K) (a:=n) (xs:=Jp) Iv #[none,none,[],U,#[kvs,pa,[],[],aV.of s1,s1 _ _ oj,OI.keep λb xs e=>s1 _ _ e,e1,.nil,Wd.start bf.nd,po,by simp,.inr U],by simp] (λi σ H' _ ⟨_,_,_,_,⟨_,_,_,_,bt,_⟩,_⟩=>.of (bt _ _ GX WQ)) ?_ ?_
 ·rintro i y σ H2 hy ⟨v3,v4,seen,rfl,⟨DQ,Kh,RM,Mm,wx,oi,OH,Ht,yQ,Jt,Kg,ln2,Ki⟩,mem⟩;have hi:i<Jp.length:=(bX.mp hy).1
  obtain⟨h,hh,t,rfl,ht⟩:∃h,nw[i]? = some h/\∃t,y=.ref t/\H t\.tup (sV h):=by
   have:=d9 JZ i hi Z2;rw[aY hi] at hy;cases hy;exact#[nw[i]' Z2,aY Z2,this]
  let hm:=cZ hh;let sW:=(bf.new h).mp hm;let xx:=vk (b:=a) wx _ _ ht;let n5:=wx _ _ jG J_;apply#[_,U,r,dx,_,U,n5,Iu _ _ _ Z0 Z0 Z0,_,U,r,dx,t,x,a,n,hs,ts,qs,h,U,n5,ex.but wx oj,xx,vv h hm,n8,Gi,λl3 qt L H3 s3 pO e3 qQ l0 KH=>?_];have Qd:l3≠l:=λz=>by rw[z,Ht] at pO;cases pO
  have GK:l3≠a:=λz=>by rw[z,oi] at pO;cases pO
  have l3n:H l3=none:=by
   cases z:H l3 with
   |none=>rfl
   |some o=>
    have:=wx _ _ z GK;rw[pO] at this;cases this
  let KD:=bH qQ
  let Iw:bR:=λj σ H'=>∃(v4:aE) (dE:List ak),σ=[some (.ref r),some (.int m),some (.ref l),some (.ref t),v4]/\H' l3\.lst qt/\jf H' qt L/\H' t\.tup (sV h)/\J dE H'/\(∀b,b∈dE ↔ b∈seen∨b∈L.take j)
  apply#[l3,U,#[_,.of e3],?_];apply ia (K:=K) (a:=l3) (xs:=qt) Iw ?_ ?_ ?_ ?_
  ·exact#[_,seen,U,e3,qQ,s3 _ _ xx,#[DQ,Kh,RM,Mm,wx.trans (aV.of s3),s3 _ _ oi,OH.keep λb xs e=>s3 _ _ e,s3 _ _ Ht,yQ.keep λb xs e=>s3 _ _ e,Jt,Kg,ln2,Ki],λb=>#[.inl,λz=>z.elim id λw=>absurd w (gf)]]
  ·rintro j σ H' _ ⟨_,_,_,e,_⟩;exact .of e
  ·rintro j y σ H4 hy ⟨Vh,dE,rfl,e4,ie,pR,⟨g_,Do,RL,R6,IX,jJ,Ca,iW,yO,Cy,PH,Xg,WE⟩,fD⟩;have hj:j<qt.length:=(bX.mp hy).1
   obtain⟨b,hb,u,rfl,QM⟩:∃b,L[j]? = some b/\∃u,y=.ref u/\H4 u\.tup (sV b):=by
    have:=d9 ie j hj Z2;rw[aY hj] at hy;cases hy;exact#[L[j]' Z2,aY Z2,this]
   let GS:=IX _ _ jG J_;have bL:Nx hs ts qs h b:=(l0 b).mp (cZ hb)
   have tk:∀c,c∈L.take (j+1) ↔ c∈L.take j∨c=b:=λc=>by
    rw[mK,hb];simp
   have hK:H4 u\.tup ((sK b).map kV):=by rw[iz];exact QM
   apply#[_,U,_,U,r,CR,dx,_,_,U,GS,T.cl,T.nA,H_ _ _ _,a,_,U,.t jJ hK,_,U,?_];rw[Ca.isSome];by_cases c:b∈Do.map (·.1)
   ·rw[cw c];apply aM ?_;apply#[_,dE++[b],U,e4,ie,pR,#[g_,Do,RL,R6,IX,jJ,Ca,iW,yO,Cy.skip c,PH,Xg,WE],λz=>?_];rw[dJ,fD,tk,eK,or_assoc]
   rw[ft c];apply c_ ?_;let lk:=bH Ca;let lf:=bH yO;apply#[_,U,r,CR,dx,_,_,U,GS,T.cl,T.nA,H_ _ _ _,a,_,U,jJ,_,U,_,_,U,U,_,U,?_]
   have OG:∀z∈Do.map (·.1),∃j,Wk (Nx hs ts qs) s0 j z:=λz hz=>by
    rcases (Cy.all z).mp hz with y|y
    ·let#[j,_,w]:=(bf.all z).mp y;exact#[j,w]
    rcases (fD z).mp y with y|y
    ·let#[h',sT,nx]:=(mem z).mp y;exact#[_,.s ((bf.new h').mp (List.mem_of_mem_take sT)).1 nx]
    exact#[_,.s sW.1 ((l0 z).mp (List.mem_of_mem_take y))]
   apply bQ (λc2=>?_) (λc2=>?_)
   ·apply kF H4 (λc o e n1 n2=>IX _ _ e n2) #[Do.map (·.1)++[b],?_,λz hz=>?_,?_]
    ·rw[wI];exact#[Cy.nd,by simp,λx hx y hy e=>c (by rw[<- eK.mp hy,<- e];exact hx)]
    ·rcases dJ.mp hz with hz|hz
     ·exact OG z hz
     rw[eK.mp hz];exact#[_,.s sW.1 bL]
    have:(m:Int)<=(g_.length:Int):=tL c2;rw[d5,av,jV];omega
   have lt:g_.length<m:=by
    have:¬(m:Int)<=(g_.length:Int):=of_decide_eq_false ⇑c2;omega
   apply#[_,U,_,U,r,CR,dx,_,_,U,GS,T.cl,T.nA,H_ _ _ _,_,U,a,_,U,.t jJ hK Z2,?_];rw[wz (Ca.none c)];have Uk:aV a H (upd H4 a (.dT (g_++[(sK b,.ref t)]))):=IX.trans aV.upd;have k5:∀{c o},H4 c\o->c≠a->upd H4 a (.dT (g_++[(sK b,.ref t)])) c\o:=λe ne=>by rw[ax ne];exact e
   have t5:∀c xs,H4 c\.tup xs->upd H4 a (.dT (g_++[(sK b,.ref t)])) c\.tup xs:=λc xs e=>k5 e (bS e jJ nofun);have e5:upd H4 a (.dT (g_++[(sK b,.ref t)])) a\.dT (g_++[(sK b,.ref t)]):=az;have la:l≠a:=bS iW jJ nofun;generalize upd H4 a (.dT (g_++[(sK b,.ref t)]))=H5 at Uk k5 t5 e5 ⊢;let tJ:=k5 iW la;apply#[_,U,.inl #[U,_,.of tJ],_,U,l,_,_,U,U,tJ,by omega,?_]
   have t6:∀c xs,H5 c\.tup xs->upd H5 l (.lst (RL++[.ref u])) c\.tup xs:=λc xs e=>by
    rw[ax (bS e tJ nofun)];exact e
   let Br:=λc xs e=>t6 c xs (t5 c xs e);have kb:¬∃j,j<=k/\Wk (Nx hs ts qs) s0 j b:=λz=>c ((Cy.all b).mpr (.inl ((bf.all b).mpr z)));apply#[_,dE++[b],U,by rw[ax Qd];exact k5 e4 GK,ie.keep Br,Br _ _ pR,#[_,Do++[(b,some h)],_,R6++[b],λc o e ne=>?_,by rw[ax la.symm];exact e5,iY (Ca.keep Br) (.cons #[U,t,U,Br _ _ pR] .nil),az,iY (yO.keep Br) (.cons #[u,U,Br _ _ QM] .nil),?_,?_,?_,?_],λz=>?_]
   ·rw[ax (bz e hl)];exact Uk _ _ e ne
   ·rw[er];exact Cy.add c
   ·intro e he;rcases dJ.mp he with he|he
    ·exact PH e he
    rw[eK.mp he];exact .inr #[h,k,U,sW,#[.s sW.1 bL,λj hj w=>kb #[j,by omega,w]],bL]
   ·rw[d5,d5,jV,jV];omega
   ·left
    rw[d5,jV];omega
   rw[dJ,fD,tk,eK,or_assoc]
  rintro σ H4 ⟨Vh,dE,rfl,e4,ie,pR,jj,fD⟩;apply#[_,_,dE,U,jj,λb=>?_];rw[fD,mem,show qt.length=L.length from KD,eS,l0,mK,hh];simp only[Option.toList_some,dJ,eK];constructor
  ·rintro (⟨h',sT,nx⟩|nx)
   ·exact#[h',.inl sT,nx]
   exact#[h,.inr U,nx]
  rintro⟨h',sT|rfl,nx⟩
  ·exact .inl #[h',sT,nx]
  exact .inr nx
 rintro σ H2 ⟨v3,v4,seen,rfl,⟨DQ,Kh,RM,Mm,wx,oi,OH,Ht,yQ,Jt,Kg,ln2,Ki⟩,mem⟩;let n5:=wx _ _ jG J_;apply#[_,U,_,U,r,CR,dx,_,U,n5,T.cl,T.nN,?_,?_]
 ·show 3<1000;decide
 have ef:aB "newest" (V.ref l) (b_ x a n)=b_ x a l:=Tr _ _ _ _;rw[ef];have k3:∀{c o},H2 c\o->c≠r->upd H2 r (.ins CR dx (b_ x a l)) c\o:=λe ne=>by rw[ax ne];exact e
 have ni:∀{c o},H2 c\o->(∀C dx fs,o≠.ins C dx fs)->upd H2 r (.ins CR dx (b_ x a l)) c\o:=λe no=>k3 e λz=>by
  rw[z,n5] at e;cases e;exact no _ _ _ U
 let#[ds,x1,x2]:=ex.but wx oj;apply kT l Kh Mm _ (λc o e n1 n2=>by rw[ax n1];exact wx _ _ e n2) hl #[#[dx,az],#[ds,ni x1 (by intro _ _ _ z;cases z),Paired.aX x2 λd q ⟨ad,y1,y2⟩=>#[ad,ni y1 (by intro _ _ _ z;cases z),λh hh=>ni (y2 h hh) (by intro _ _ _ z;cases z)]],#[_,ni oi (by intro _ _ _ z;cases z),OH.keep λb xs e=>ni e (by intro _ _ _ z;cases z)],#[_,ni Ht (by intro _ _ _ z;cases z),yQ.keep λb xs e=>ni e (by intro _ _ _ z;cases z)]] (bf.next Jt λb=>?_) Kg ln2 Ki;rw[mem,Xk,eS]
end
end Ev
namespace Ev
open PySem L2
def Cn(N:ak->ak->Prop):List ak->Prop
 |[]=>True
 |[_]=>True
 |a::b::r=>N a b/\Cn N (b::r)
structure Row (N:ak->ak->Prop) (a s:ak) (k:Nat) (row:List ak):Prop where
 cn:Cn N row
 hd:row.head? = some a
 lt:row.getLast? = some s
 len:row.length=k+1
theorem Row.one{N:ak->ak->Prop}{s:ak}:Row N s s 0 [s]:=#[trivial,U,U,U]
theorem Row.more{N:ak->ak->Prop}{a b s:ak}{k:Nat}{row:List ak}(h:Row N b s k row)(n:N a b):Row N a s (k+1) (a::row):=by
 cases row with
 |nil=>cases h.hd
 |cons c r=>
  have e:c=b:=cX h.hd;subst e;exact#[#[n,h.cn],U,by rw[List.getLast?_cons_cons];exact h.lt,by rw[iR,h.len]]
theorem Tz{α β:Type}{F:α->β->Prop}:∀{l:List α} {m:List β},Paired F l m->Paired F l.reverse m.reverse
 |_,_,.nil=>.nil
 |_,_,.cons h t=>by
  rw[List.reverse_cons,List.reverse_cons];exact iY (Tz t) (.cons h .nil)
section v
theorem HI:bJ ["self","hands","row","there"] AL (a9 rC):=bV
inductive kY (CR:Addr) (vs:ag) (H:Hp) (Q:VK) (E:XK):Prop
 |mk:∀(r x a n t:Addr) (hs:Xa) (ts:Xb) (qs:aN) (pa:List (ak × Option ak)) (nw:List ak) (s0 s:ak) (k:Nat),vs=[.ref r,.ref t]->xT CR H r a x n hs ts qs pa nw->H t\.tup (sV s)->Ds (Nx hs ts qs) s0 k s->(pa.map (·.1)).Nodup->(∀j z,j<=k->Wk (Nx hs ts qs) s0 j z->z∈pa.map (·.1))->uv (Nx hs ts qs) s0 pa->k<1000000->(∀l ys row H',aa H H'->H l=none->H' l\.lst ys->jf H' ys row->Row (Nx hs ts qs) s0 s k row->Q (.ref l) H')->kY CR vs H Q E
theorem YK{f CR:Addr}{fd:Ae}(F:bo K "row_to" "Reach.row_to" rC f fd)(T:jW K CR):!ao a_ 1 f fd AL (kY CR):=by
 exists F.bU HI;let#[r,x,a,n,t,hs,ts,qs,pa,nw,s0,s,k,rfl,R,ht,ds,nd,all,po,p6,kk]:=h;let hu:=fH hr;let sz:=cq;refine' #[_,aw ?s1 (aw ?s2 (aw ?s3 (aw ?s4 (aH ?s5)))),?kk]
 case s1=>exact bu 2 HI.nd (fu bK)
 case s2=>exact bu 3 HI.nd (pv 1)
 case' s3=>refine' Iq dN ?c1 (aw ?b1 (aH ?b2))
 case c1=>exact qd (Yz (pv 3))
 case b1=>exact kJ (pf oy xZ x5 wD (pv 2) %[3|0])
 case b2=>exact bu 3 HI.nd (mJ hu (gG (pv 0) U) (pv 3))
 case s4=>exact kJ (X9 oy PySem.F.slot_list_reverse PySem.F.type_list_reverse fK_ (pv 2))
 case s5=>exact bp (pv 2)
 let#[#[dx,jG],ex,#[kvs,oj,OI],#[Jp,GX,JZ]]:=R;apply#[zl,λl hl=>?_];let#[s1,e1]:=aD (o:=.lst []) hl;generalize upd H l (.lst [])=H1 at s1 e1 ⊢;apply#[_,U,?_]
 let Iv:bR:=λm σ H'=>∃(v:V) (ys:ag) (wr:List ak),σ=[some (.ref r),some (.ref t),some (.ref l),some v]/\aa H H'/\H' l\.lst ys/\jf H' ys wr.reverse/\wr.length<=k+1/\((v=.non/\m=0/\Row (Nx hs ts qs) s0 s k wr)∨∃u z,v=.ref u/\H u\.tup (sV z)/\m+wr.length=k+1/\0<m/\Ds (Nx hs ts qs) s0 (m - 1) z/\((wr=[]/\z=s)∨∃b,Nx hs ts qs z b/\∃j,wr.length=j+1/\Row (Nx hs ts qs) b s j wr))
 apply#[Iv,#[k+1,.ref t,[],[],U,s1,e1,.nil,by simp,.inr #[t,s,U,ht,by simp,by omega,by simpa using ds,.inl #[U,U]]],?_];rintro m σ H2 ⟨v,ys,wr,rfl,s2,e2,yQ,lw,cs⟩;let uG:=bH yQ;rw[List.length_reverse] at uG;rcases cs with⟨rfl,rfl,row⟩|⟨u,z,rfl,hz,lm,m0,dz,cs⟩
 ·apply#[_,U,_,U,aM ?_];apply#[_,U,.inl #[U,_,.of e2],l,_,U,U,e2,?_]
  have t3:∀c xs,H2 c\.tup xs->upd H2 l (.lst ys.reverse) c\.tup xs:=λc xs e=>by
   rw[ax (bS e e2 nofun)];exact e
  let qQ:=Tz (yQ.keep t3);rw[List.reverse_reverse] at qQ;exact#[_,U,kk l _ wr _ (fL s2 hl) hl az qQ row]
 apply#[_,U,_,U,c_ #[λaZ H'=>∃m',m'<m/\Iv m' aZ H',λ_ _ h=>h,?_]];apply#[_,U,.inl #[U,_,.of e2],_,U,l,_,_,U,U,e2,by omega,?_]
 have t3:∀c xs,H2 c\.tup xs->upd H2 l (.lst (ys++[.ref u])) c\.tup xs:=λc xs e=>by
  rw[ax (bS e e2 nofun)];exact e
 have s3:aa H (upd H2 l (.lst (ys++[.ref u]))):=fL s2 hl;have e3:upd H2 l (.lst (ys++[.ref u])) l\.lst (ys++[.ref u]):=az;let qQ:=iY (yQ.keep t3) (.cons #[u,U,s3 _ _ hz] .nil:jf (upd H2 l (.lst (ys++[.ref u]))) [.ref u] [z]);generalize upd H2 l (.lst (ys++[.ref u]))=H3 at s3 e3 qQ ⊢;have Jo:z∈pa.map (·.1):=all _ z Z2 dz.1;let#[e,he,rfl]:=bG.mp Jo;let#[v',gv,Gm]:=OI.get nd he;apply#[_,U,r,CR,dx,_,_,U,s3 _ _ jG,T.cl,T.nA,H_ _ _ _,_,U,a,v',U,?_,?_]
 ·rw[<- gv];exact .t (s3 _ _ oj) (by rw[iz];exact s3 _ _ hz)
 have ig:∃j,(e.1::wr).length=j+1/\Row (Nx hs ts qs) e.1 s j (e.1::wr):=by
  rcases cs with⟨rfl,rfl⟩|⟨b,nb,j,lj,rj⟩
  ·exact#[0,U,.one]
  exact#[j+1,by rw[iR,lj],rj.more nb]
 have C0:jf H3 (ys++[.ref u]) (e.1::wr).reverse:=by rw[List.reverse_cons];exact qQ
 have lc:(e.1::wr).length=wr.length+1:=iR;rcases po e he with⟨e0,en⟩|⟨q,d,eq,dq,de,nq⟩
 ·rw[en] at Gm
  have dz0:m - 1=0:=by
   rw[e0] at dz;exact dz.inj #[.z,λj hj=>by omega]
  let#[j,lj,rj]:=ig;apply#[0,by omega,v',_,e.1::wr,U,s3,e3,C0,by omega,.inl #[Gm,U,?_]];rw[<- e0];have:j=k:=by omega
  rw[<- this];exact rj
 rw[eq] at Gm;let#[b,rfl,hb]:=Gm;let dm:=dz.inj de;apply#[m - 1,by omega,_,_,e.1::wr,U,s3,e3,C0,by omega,.inr #[b,q,U,hb,by omega,by omega,?_,.inr #[e.1,nq,ig]]];rw[show m - 1 - 1=d by omega];exact dq
end
end Ev
namespace Ev
open PySem L2
theorem Yd{hs:Xa}{ts:Xb}(G:Good hs ts){q:Pc}{h h':Str}(m:h'∈tI hs ts q h):h≠h':=by
 intro e;subst e;let m2:=(mL.mp (mL.mp m).1).2;let#[t,ht,et]:=Ir.mp (tL m2);let g:=(G.tok t ht).2.2;have e1:aK h h=(h,h):=by rcases B2 h h with e|e<;>exact e
 rw[e1] at et;rcases B2 t.1 t.2 with e|e
 ·rw[e] at et;exact g ((eg Prod.fst et).trans (eg Prod.snd et).symm)
 rw[e] at et;exact g ((eg Prod.snd et).trans (eg Prod.fst et).symm)
def oI(H:Hp):ag->List (Str × Str × Str)->Prop:=Paired λy m=>∃t,y=.ref t/\H t\.tup [.str m.1,.str m.2.1,.str m.2.2]
theorem Qp{hs:Xa}{ts:Xb}{qs:aN}:∀{ms:List (Str × Str × Str)} {row:List ak} {a s:ak},row.length=ms.length+1->(∀(j:Nat) m,ms[j]? = some m->∃x y,row[j]? = some x/\row[j+1]? = some y/\Mv hs ts qs x y m)->row.head? = some a->row.getLast? = some s->Bg hs ts qs a ms s
 |[],[],_,_,hl,_,_,_=>by cases hl
 |[],[x],a,s,_,_,h1,h2=>by
  cases cX h1;cases cX h2;exact .nil
 |[],_::_::_,_,_,hl,_,_,_=>by simp at hl
 |m::ms,[],_,_,hl,_,_,_=>by cases hl
 |m::ms,[x],_,_,hl,_,_,_=>by simp at hl
 |m::ms,x::y::r,a,s,hl,hm,h1,h2=>by
  cases cX h1;let#[x',y',e1,e2,mv]:=hm 0 m U;cases cX e1;cases cX e2;apply .cons mv (Qp ⇑hl (λj m' hj=>hm (j+1) m' hj) U ?_);rw[List.getLast?_cons_cons] at h2;exact h2
section v
theorem Hw:bJ ["goods","hands","after","piece","one","other"] ["goods","hands","after"] (a9 rJ):=bV
inductive k8 (K:ai) (CG CW:Addr) (vs:ag) (H:Hp) (Q:VK) (E:XK):Prop
 |mk:∀(g p t u:Addr) (hs:Xa) (ts:Xb) (qs:aN) (fp:au) (a b:ak) (m:Str × Str × Str),vs=[.ref g,.ref t,.ref u]->Gs K CG CW H g p hs ts qs fp->H t\.tup (sV a)->H u\.tup (sV b)->a.length=qs.length->Mv hs ts qs a b m->(∀x H',aa H H'->H' x\.tup [.str m.1,.str m.2.1,.str m.2.2]->Q (.ref x) H')->k8 K CG CW vs H Q E
theorem YA{f CG CW:Addr}{fd:Ae}(F:bo K "move_between" "move_between" rJ f fd)(mZ:mg "zip"=none)(T:fY K CG)(cN:!bM CG 1 "names" oz (A9 K CG CW)):!ao a_ 2 f fd ["goods","hands","after"] (k8 K CG CW):=by
 exists F.bU Hw;let#[g,p,t,u,hs,ts,qs,fp,a,b,m,rfl,G,ht,hu,la,mv,k]:=h;have iD:aP 1 _:=hr.mono (by decide);refine' #[_,aw ?s1 (aH ?s2),?kk]
 case' s1=>refine' d4 dN U ?i1 ?g1 (aH ?b1)
 case i1=>exact YO (by rfl) mZ %[xX cN T.cl iD (pv 0),1,2|0]
 case g1=>exact mw U (dO (cu 3 Hw.nd) (dO (cu 4 Hw.nd) (dO (cu 5 Hw.nd) jh)))
 case b1=>exact cg (eZ pX (pv 4) (pv 5)) (aH (bp (gh %[3,4,5|0]))) cj
 case s2=>exact bp tZ
 let#[k0,q,h,h',q1,q2,q3,rfl,rfl]:=mv;let ne:=Yd G.Gd q3;have hk:k0<qs.length:=(bX.mp q1).1;let#[dx,dw,dy,vs,dC,h1,_]:=id G.G.ex;apply#[_,U,g,dx,_,U,h1,uX _ _ _ Z0 Z0 Z0,g,p,hs,ts,qs,fp,U,G.G,λl hl=>?_];let#[s1,e1]:=aD (o:=.lst ((qs.map (·.1)).map V.str)) hl;generalize upd H l (.lst ((qs.map (·.1)).map V.str))=H1 at s1 e1 ⊢;apply#[_,U,_,U,l,t,u,_,_,_,U,.of e1,.of (s1 _ _ ht),.of (s1 _ _ hu),?_]
 let Iv:bR:=λi σ H'=>∃(v3 v4 v5:aE),σ=[some (.ref g),some (.ref t),some (.ref u),v3,v4,v5]/\aa H1 H'/\i<=k0
 apply hP_ (by rw[av,av,av];exact la) (by rw[av,av,av,List.length_set];exact la) Iv #[none,none,none,U,aa.refl _,gP _] (λi σ H' _ ⟨_,_,_,_,sm,_⟩=>#[.of (sm _ _ e1),.of (sm _ _ (s1 _ _ ht)),.of (sm _ _ (s1 _ _ hu))]) ?_ ?_
 ·rintro i x y z σ H2 hx hy hz ⟨v3,v4,v5,rfl,s2,le⟩ tt zK;let#[n,hn,rfl]:=mI hx;let#[o1,o7,rfl]:=mI hy;let#[o2,eR,rfl]:=mI hz;let#[s3,e3]:=aD (o:=.tup [.str n,.str o1,.str o2]) zK;show fR _ _ _ _ _ (upd H2 tt (.tup [.str n,.str o1,.str o2])) _;generalize upd H2 tt (.tup [.str n,.str o1,.str o2])=H3 at s3 e3 ⊢;apply#[tt,_,U,.of e3,U,_,_,U,_,_,U,_,_,U,U,?_];apply#[_,U,_,U,U,_,U,?_];by_cases c:i=k0
  ·subst c;rw[q2] at o7;cases o7;rw[List.getElem?_set_self Z2] at eR;cases eR;rw[dF,q1] at hn;cases hn;rw[ft (λz:V.str h=V.str h'=>ne (V.str.inj z))];apply c_ #[_,U,_,U,_,U,zl,λx hx=>?_];exact k x _ (((s1.trans s2).trans s3).trans (aa.new hx)) az
  rw[List.getElem?_set_ne (bN c),o7] at eR;cases eR;rw[cw U];exact aM #[_,_,_,U,s2.trans s3,by omega]
 rintro σ H2 ⟨v3,v4,v5,rfl,s2,le⟩;rw[av,av] at le;omega
theorem yW:bJ ["goods","row"] ["goods","row"] (a9 rK):=bV
inductive k9 (K:ai) (CG CW:Addr) (vs:ag) (H:Hp) (Q:VK) (E:XK):Prop
 |mk:∀(g p l:Addr) (ys:ag) (hs:Xa) (ts:Xb) (qs:aN) (fp:au) (a s:ak) (n:Nat) (row:List ak),vs=[.ref g,.ref l]->Gs K CG CW H g p hs ts qs fp->H l\.lst ys->jf H ys row->Row (Nx hs ts qs) a s n row->(∀z∈row,z.length=qs.length)->n<1000000->(∀x zs ms H',aa H H'->H x=none->H' x\.lst zs->oI H' zs ms->Bg hs ts qs a ms s->ms.length=n->Q (.ref x) H')->k9 K CG CW vs H Q E
theorem Qf{N:ak->ak->Prop}:∀{row:List ak},Cn N row->∀{j:Nat} {x y:ak},row[j]? = some x->row[j+1]? = some y->N x y
 |[],_,_,_,_,h,_=>by cases h
 |[_],_,j,_,_,_,h=>by simp at h
 |a::b::r,c,0,x,y,h1,h2=>by
  cases cX h1;cases cX h2;exact c.1
 |a::b::r,c,j+1,x,y,h1,h2=>Qf c.2 ⇑h1 ⇑h2
theorem Ma{H:Hp}{ys:ag}{l:List ak}(h:jf H ys l){j:Nat}{s:ak}(hs:l[j]? = some s):∃t,ys[j]? = some (.ref t)/\H t\.tup (sV s):=by
 have hj:j<l.length:=(bX.mp hs).1;let hl:=bH h;let#[t,e,ht]:=d9 h j Z2 hj;rw[aY hj] at hs;cases hs;exact#[t,by rw[aY Z2,e],ht]
theorem Yq{f CG CW:Addr}{fd:Ae}(F:bo K "moves_along" "moves_along" rK f fd)(B:Bi mg)(cB:!br 2 "move_between" ["goods","hands","after"] (k8 K CG CW)):!ao a_ 3 f fd ["goods","row"] (k9 K CG CW):=by
 exists F.bU yW;let#[g,p,l,ys,hs,ts,qs,fp,a,s,n,row,rfl,G,hl,sp,Gh,vl,n6,k]:=h;let sz:=cq;let uG:=bH sp;let lr:=Gh.len;refine' #[_,aH (bp (js ["k","goods","row"] 1 [0,1] (uZ (by rfl) B.range %[bP AO (cy iq (by rfl) B.len gE %[1|0]) ay|0]) (λfp s H=>?g1) (λfp s H=>kI) (λfp s H=>?e1))),?kk]
 case g1=>exact fW (i:=0) (show (["k","goods","row"]:ae).Nodup by decide +kernel) U (Or.inl U)
 case e1=>exact bc cB hr %[1,bw (zE (K:=K) r_ gd) (pv 2) (pv 0),bw (zE (K:=K) r_ gd) (pv 2) (bP gz (pv 0) ay)|0]
 apply#[_,U,l,_,U,.inl (.of hl),_,_,U,U,_,U,by show (-(2 ^ 62):Int)<=(ys.length:Int) - 1;omega,by show (ys.length:Int) - 1<2 ^ 62;omega,λD hD=>?_];apply Ie (own:=1) (fv:=[some (.ref g),some (.ref l)]) U fF n (λi out H'=>aa H H'/\H' D\.lst out/\∃ms,oI H' out ms/\ms.length=i/\∀(j:Nat) m,ms[j]? = some m->∃x y,row[j]? = some x/\row[j+1]? = some y/\Mv hs ts qs x y m) #[aa.new hD,az,[],.nil,U,by simp] (λout H' ⟨sm,dH,ms,mv,lm,tr⟩=>?_) (λi out H' hi ⟨sm,dH,ms,mv,lm,tr⟩=>?_)
 ·apply#[?_,k D out ms H' sm hD dH mv (Qp Z2 tr Gh.hd Gh.lt) lm];show ((ys.length:Int) - 1).toNat<=n;omega
 apply#[by show i<((ys.length:Int) - 1).toNat;omega,?_];rintro x H2 ⟨rfl,rfl⟩;rw[Int.zero_add];apply#[_,U,U,λNx' hN=>fA ?_];have h1:row[i]? = some (row[i]' Z2):=aY Z2;have h2:row[i+1]? = some (row[i+1]' Z2):=aY Z2;obtain⟨x1,e1⟩:∃x,x=row[i]' Z2:=#[_,U];obtain⟨x2,e2⟩:∃x,x=row[i+1]' Z2:=#[_,U];rw[<- e1] at h1;rw[<- e2] at h2;let#[t1,y1,o6]:=Ma sp h1;let#[t2,y2,xx]:=Ma sp h2;let#[m,mm]:=Qf Gh.cn h1 h2;apply#[_,U,_,U,_,U,l,_,i,.ref t1,U,U,.of (sm _ _ hl),L2.dS y1,_,U,_,U,_,_,U,U,l,_,((i:Int)+1),.ref t2,U,U,.of (sm _ _ hl),?_,g,p,t1,t2,hs,ts,qs,fp,x1,x2,m,U,G.same sm,sm _ _ o6,sm _ _ xx,vl _ (cZ h1),mm,λz H3 s3 e3=>?_]
 ·rw[show ((i:Int)+1)=((i+1:Nat):Int) by omega];exact L2.dS y2
 let lo:=bH mv;apply#[out,s3 _ _ dH,by omega,hN _ _ #[fL (sm.trans s3) hD,az,ms++[m],?_,by rw[d5,lm];rfl,λj m' hj=>?_]]
 ·have tD:∀{c xs},H3 c\.tup xs->upd H3 D (.lst (out++[.ref z])) c\.tup xs:=λe=>by
   rw[ax (bS e (s3 _ _ dH) nofun)];exact e
  exact iY (Paired.aX mv λy m ⟨t,e,ht⟩=>#[t,e,tD (s3 _ _ ht)]) (.cons #[z,U,tD e3] .nil)
 by_cases c:j<ms.length
 ·rw[yi c] at hj;exact tr j m' hj
 have:j=ms.length:=by
  have:=(bX.mp hj).1;rw[d5,jV] at this;omega
 subst this;rw[Be (bh _),Nat.sub_self] at hj;cases cX hj;rw[lm];exact#[x1,x2,h1,h2,mm]
end
end Ev
namespace Ev
open PySem L2
theorem Qj{hs:Xa}{ts:Xb}{qs:aN}:∀{row:List ak} {a:ak},Cn (Nx hs ts qs) row->row.head? = some a->Vs hs qs a->∀z∈row,Vs hs qs z
 |[],_,_,_,_,_,hz=>by cases hz
 |[x],a,_,h,v,z,hz=>by
  cases cX h;rw[eK.mp hz];exact v
 |x::y::r,a,c,h,v,z,hz=>by
  cases cX h;rcases bZ.mp hz with rfl|hz
  ·exact v
  exact Qj c.2 U (c.1.vs v) z hz
section v
theorem IG:bJ ["goods","stand","limit","most","placed","reach","hands"] oG (a9 Nt):=bV
structure AH (H:Hp) (d:Addr) (hs:Xa) (qs:aN) (fp:au) (s0:ak) (ns:ae) (f:bF):Prop where
 hd:H d\.dK (gC ns f)
 tK:d∉fp
 ok:M4 hs qs ns f
 s0:s0=(qs.map (·.1)).map f
inductive Ip (K:ai) (CG CW:Addr) (vs:ag) (H:Hp) (Q:VK) (E:XK):Prop
 |mk:∀(g p d lt:Addr) (hs:Xa) (ts:Xb) (qs:aN) (fp:au) (s0:ak) (ns:ae) (f:bF) (l:Int × Int) (m:Nat),vs=[.ref g,.ref d,.ref lt,.int m]->Gs K CG CW H g p hs ts qs fp->AH H d hs qs fp s0 ns f->gQ H lt l->tO l->1<=m->m<1000000->(∀t x ys ms s H',aa H H'->H x=none->H' t\.tup [.str "moves",.ref x]->H' x\.lst ys->oI H' ys ms->Bg hs ts qs s0 ms s->Ds (Nx hs ts qs) s0 ms.length s->eY hs qs s l=true->(∀j z,j<ms.length->Ds (Nx hs ts qs) s0 j z->eY hs qs z l=false)->Q (.ref t) H')->(∀t H',aa H H'->H' t\.tup [.str "none"]->(∀j z,Ds (Nx hs ts qs) s0 j z->eY hs qs z l=false)->Q (.ref t) H')->(∀t H',aa H H'->H' t\.tup [.str "more"]->More (Nx hs ts qs) s0 m->Q (.ref t) H')->Ip K CG CW vs H Q E
theorem AH.vs{H:Hp}{d:Addr}{hs:Xa}{qs:aN}{fp:au}{s0:ak}{ns:ae}{f:bF}(S:AH H d hs qs fp s0 ns f):Vs hs qs s0:=by
 apply⟨by rw[S.s0,av,av],λh hh=>?_⟩;rw[S.s0] at hh;let#[n,hn,rfl]:=bG.mp hh;exact (gO hs).mem_iff.mpr (S.ok.at_ n (S.ok.perm.mem_iff.mpr hn))
theorem h2_{f0 CG CW CR:Addr}{fd:Ae}(F:bo K "fewest_moves" "fewest_moves" Nt f0 fd)(B:Bi mg)(T:jW K CR)(cL:!br 4 "check_limit" fV lE)(cS:!br 2 "checked_stand" ["goods","stand"] (IE K CG CW))(cF:!br 2 "is_whole_from" ["thing","least"] MU)(cR:!ke CR 5 "Reach" oF (IL K CG CW CR))(cE:!br 7 "is_even" jY (IJ K CG CW))(cA:!br 3 "moves_along" ["goods","row"] (k9 K CG CW))(cT:!bM CR 1 "row_to" AL (kY CR))(cW:!bM CR 2 "widen" ["self","most"] (NW CR)):!ao a_ 8 f0 fd oG (Ip K CG CW):=by
 exists F.bU IG;let#[g,p,d,lt,hs,ts,qs,fp,s0,ns,f,l,m,rfl,G,S,hl,lo,m1,m6,kM,kN,kO]:=h;let hu:=fH hr;let sz:=cq;have n8:(aS hs).length<=8:=by rw[G.Gd.iB];exact G.Gd.h8
 have iD:aP 1 _:=hr.mono (by decide);have n5:aP 2 _:=hr.mono (by decide);have GS:aP 4 _:=hr.mono (by decide);refine' #[_,aw ?s1 (aw ?s2 (aw ?s3 (aw ?s4 (aw ?s5 (aH ?s6))))),?kk]
 case s1=>exact kJ (bc cL hr %[2|0])
 case s2=>exact bu 4 IG.nd (bc cS hr %[0,1|0])
 case s3=>exact cg (e_ (d8 (bc cF hr %[3,ay|0]))) gg cj
 case s4=>exact bu 5 IG.nd (GO cR hr %[0,4|0])
 case' s5=>refine' Iq dN ?c5 (aw ?b1 (aH ?b2))
 case c5=>exact eZ (Nh (uP hr 0)) (gG (pv 5) U) (fu bK)
 case' b1=>refine' d4 dN U ?i1 ?g1 (aH ?e1)
 case i1=>exact dY (gG (pv 5) U)
 case g1=>exact cu 6 IG.nd
 case e1=>exact cg (d8 (bc cE hr %[0,6,2|0])) (aH (bp (gh %[tY,bc cA hr %[0,iX cT T.cl iD (pv 5) %[6|0]|0]|0]))) cj
 case b2=>exact cg (e_ (d8 (iX cW T.cl n5 (pv 5) %[3|0]))) (aH (bp (iO IY (by rfl) B.tuple qh %[fu %[tY|0]|0]))) cj
 case s6=>exact bp (iO IY (by rfl) B.tuple qh %[fu %[tY|0]|0])
 apply#[_,U,lt,l,U,hl,lo,?_];apply#[_,U,_,U,g,p,d,hs,ts,qs,fp,ns,f,U,G.G,S.tK,S.hd,S.ok,G.nd,G.cY,λd1 H1 s1 n1 e1=>?_];apply#[_,U,m,1,U,_,U,?_];rw[cw (show (1:Int)<=(m:Int) by omega)];apply aM ?_;apply#[_,U,_,U,λr dx jG Aj ne=>?_];have s2:aa H1 (upd (upd H1 dx (.own r)) r (.ins CR dx [])):=(aa.new Aj).trans (aa.new (by rw[ax ne.symm];exact jG));have e2:upd (upd H1 dx (.own r)) r (.ins CR dx []) r\.ins CR dx []:=az;have rn:H r=none:=s1.free jG;generalize upd (upd H1 dx (.own r)) r (.ins CR dx [])=H2 at s2 e2 ⊢;let jk:=s1.trans s2;apply#[r,dx,g,p,d1,hs,ts,qs,fp,f,U,e2,G.same jk,s2 _ _ e1,λa x n H3 k3 an R3=>#[U,?_]];have v_:(qs.map (·.1)).map f=s0:=S.s0.symm;rw[v_] at R3;have an0:H a=none:=jk.free an;have d0:aa H H3:=λb o e=>k3 b o (jk _ _ e) (bz e rn);let v0:=S.vs
 let N:ak->ak->Prop:=Nx hs ts qs
 let Iv:bR:=λq σ H'=>∃(v6:aE) (n:Addr) (pa:List (ak × Option ak)) (nw:List ak) (k:Nat),σ=[some (.ref g),some (.ref d),some (.ref lt),some (.int m),some (.ref d1),some (.ref r),v6]/\aa H H'/\xT CR H' r a x n hs ts qs pa nw/\Bf N s0 k (pa.map (·.1)) nw/\uv N s0 pa/\pa.length<=m/\(nw≠[]->k+1<=pa.length)/\(∀j z,j<k->Ds N s0 j z->eY hs qs z l=false)/\q=(m - pa.length)+(if nw=[] then 0 else 1)
 apply#[Iv,#[_,_,n,[(s0,none)],[s0],0,U,d0,R3,Bf.start,?_,by simpa using m1,by simp,λj z hj=>by omega,U],?_]
 ·intro e he;rw[eK.mp he];exact .inl #[U,U]
 rintro q σ H4 ⟨v6,n,pa,nw,k,rfl,s4,R,bf,po,pm,kp,ev,rfl⟩;let#[#[HW,vS],ex4,#[g_,jJ,Ca],#[Bo,zW,ie]]:=id R;let l4:=bH ie;have CB:∀z∈nw,Vs hs qs z:=λz hz=>((bf.new z).mp hz).1.vs v0;apply#[_,U,r,CR,HW,_,_,U,vS,T.cl,T.nN,MC _ _ _,zl,λb hb=>?_];let#[s5,e5]:=aD (o:=.lst []) hb;generalize upd H4 b (.lst [])=H5 at s5 e5 ⊢;apply#[n,b,Bo,U,U,.of (s5 _ _ zW),.of e5,_,U,?_];let jx:=s4.trans s5;by_cases c:nw=[]
 ·have ye:Bo=[]:=List.length_eq_zero_iff.mp (by rw[l4,c];rfl);rw[ye];apply aM ?_;apply#[zl,λl1 fq=>?_];let#[s6,e6]:=aD (o:=.lst [.str "none"]) fq;generalize upd H5 l1 (.lst [.str "none"])=H6 at s6 e6 ⊢;apply#[l1,_,U,.inl #[.of e6,λt ht=>?_]];apply kN t _ ((jx.trans s6).trans (aa.new ht)) az λj z dz=>?_;rw[c] at bf;exact ev j z (bf.last dz) dz
 have ye:Bo.isEmpty=false:=by
  cases Bo with
  |nil=>
   cases nw with
   |nil=>exact absurd U c
   |cons _ _=>cases l4
  |cons _ _=>rfl
 rw[ye];let kpa:=kp c;apply c_ #[λaZ H'=>∃q',q'<(m - pa.length)+(if nw=[] then 0 else 1)/\Iv q' aZ H',λ_ _ h=>h,?_];rw[aC c];apply#[_,U,r,CR,HW,_,_,U,s5 _ _ vS,T.cl,T.nN,MC _ _ _,n,U,#[_,.of (s5 _ _ zW)],?_]
 let Iw:bR:=λi σ H'=>∃(v6:aE),σ=[some (.ref g),some (.ref d),some (.ref lt),some (.int m),some (.ref d1),some (.ref r),v6]/\aa H4 H'/\∀(j:Nat) z,j<i->nw[j]? = some z->eY hs qs z l=false
 apply ia (K:=K) (a:=n) (xs:=Bo) Iw ?_ ?_ ?_ ?_
 ·exact#[_,U,s5,λj z hj=>by omega]
 ·rintro i σ H' _ ⟨_,_,sm,_⟩;exact .of (sm _ _ zW)
 ·rintro i y σ H6 hy ⟨Vg,rfl,s6,Mp⟩;have hi:i<Bo.length:=(bX.mp hy).1;have hz:nw[i]? = some (nw[i]' Z2):=aY Z2;obtain⟨z,ez⟩:∃z,z=nw[i]' Z2:=#[_,U];rw[<- ez] at hz;let#[t,yt,ht]:=Ma ie hz;rw[hy] at yt;cases yt;let zm:=cZ hz;let zd:=(bf.new z).mp zm;let iA:=s4.trans s6;apply#[_,U,_,U,_,U,g,p,t,lt,hs,ts,qs,fp,z,l,U,G.same iA,s6 _ _ ht,CB z zm,iA _ _ hl,lo,λH7 s7=>#[_,U,?_]];let xf:=s6.trans s7;let ki:=s4.trans xf;apply bQ (λcc=>?_) (λcc=>?_)
  ·apply#[_,U,_,U,r,HW,_,U,xf _ _ vS,Iu _ _ _ Z0 Z0 Z0,_,U,r,x,a,n,t,hs,ts,qs,pa,nw,s0,z,k,U,R.same xf,xf _ _ ht,zd,bf.nd,λj u hj wu=>(bf.all u).mpr #[j,hj,wu],po,by omega,λl8 UQ row H8 s8 n8' e8 VI J9=>?_];apply#[g,p,l8,UQ,hs,ts,qs,fp,s0,z,k,row,U,(G.same ki).same s8,e8,VI,J9,λu sR=>(Qj J9.cn J9.hd v0 u sR).len,by omega,λx9 zs ms H9 s9 n9 e9 mv tr lm=>#[zl,λt9 zL=>?_]];let VS:=s8.trans s9;let uD:=ki.trans VS;let sA:=aa.new (o:=.tup [.str "moves",.ref x9]) zL;apply kM t9 x9 zs ms z _ (uD.trans sA) (ki.free (s8.free n9)) az (sA _ _ e9) (Paired.aX mv λy m ⟨t,e,ht⟩=>#[t,e,sA _ _ ht]) tr (by rw[lm];exact zd) cc λj u hj du=>ev j u Z2 du
  apply#[_,U,xf,λj u hj sR=>?_];by_cases c2:j=i
  ·subst c2;rw[hz] at sR;cases sR;simpa using cc
  exact Mp j u Z2 sR
 rintro σ H6 ⟨Vg,rfl,s6,Mp⟩;let iA:=s4.trans s6
 have evk:∀j z,j<k+1->Ds N s0 j z->eY hs qs z l=false:=λj z hj dz=>by
  by_cases c2:j=k
  ·subst c2;let#[i,hi,e]:=ib ((bf.new z).mpr dz);exact Mp i z Z2 (by rw[aY hi,e])
  exact ev j z Z2 dz
 have sN:∀{H7:Hp},Bn r a H6 H7->aa H H7:=λb7 b o e=>b7 b o (iA _ _ e) (bz e rn) (bz e an0);apply#[_,U,r,HW,_,U,s6 _ _ vS,Iu _ _ _ Z0 Z0 Z0,_,U,r,x,a,n,hs,ts,qs,pa,nw,s0,k,m,U,R.same s6,bf,po,CB,n8,G.cY,by omega,by omega,λH7 b7 more=>#[_,U,c_ ?_],λn' oV uE H7 b7 nn R7 bf7 Wt vN PX=>#[_,U,aM ?_]]
 ·apply#[zl,λl1 fq=>?_];let#[s8,e8]:=aD (o:=.lst [.str "more"]) fq;generalize upd H7 l1 (.lst [.str "more"])=H8 at s8 e8 ⊢;apply#[l1,_,U,.inl #[.of e8,λt ht=>?_]];exact kO t _ (((sN b7).trans s8).trans (aa.new ht)) az more
 apply#[_,?_,_,n',oV,uE,k+1,U,sN b7,R7,bf7,Wt,?_,?_,evk,U]
 ·split
  ·rename_i c3
   rw[c3] at vN;simp at vN;omega
  rename_i c3
  have:1<=uE.length:=by
   cases uE with
   |nil=>exact absurd U c3
   |cons _ _=>simp
  rcases PX with o|o
  ·omega
  exact absurd o c3
 ·rcases PX with o|o
  ·exact o
  rw[o] at vN;simp at vN;omega
 intro c3
 have:1<=uE.length:=by
  cases uE with
  |nil=>exact absurd U c3
  |cons _ _=>simp
 omega
end
end Ev
namespace da
open PySem PySem.W PyProof.Rows
section
variable{prog:Ad}{w:Af}{A:Ag}{E:Aa->Ab->Prop}{s:Ab}
end
end da
namespace L2
open PySem PySem.Spec PyProof.Rows PySem.W
section
variable{X:Cx}{pins:List (Addr × Obj)}{σ:St}{H:Hp}{s:Ab}{d:Addr}{kvs:List (aq × V)}
end
end L2
namespace da
open PySem PySem.W PyProof.Rows
section
variable{prog:Ad}{w:Af}{K:Type}[DecidableEq K]{knd:PySem.HeapKind prog w K}{A:Ag}
def mP(knd:PySem.HeapKind prog w K)(h:Heap):aj->List (K × Addr × Aa)->Prop:=Paired λv p=>∃a,v=.ref a/\IsTup h a (List.toArray [.ref p.2.1,p.2.2])/\knd.is h p.1 p.2.1
def gY(xs ps:List (K × Addr × Aa)):List (K × Addr × Aa):=ps.foldl (λacc p=>storedH acc p.1 p.2.1 p.2.2) xs
theorem ez_(xs:List (K × Addr × Aa))(k:K)(a:Addr)(v:Aa):(storedH xs k a v).length<=xs.length+1:=by
 unfold storedH;split
 ·simp
 simp
theorem TJ{h h':Heap}{d:Addr}{xs:List (K × Addr × Aa)}(q:h.DictOfH knd d xs)(k:∀o,h.get? d\o->h'.get? d\o)(t:∀x a,knd.is h x a->knd.is h' x a):h'.DictOfH knd d xs:=by
 let#[o,es,ep,ho,h1,h2,h3,h4,h5]:=q;exact#[o,es,ep,k _ ho,h1,h2,h3,λx hx=>t _ _ (h4 x hx),h5]
def Bl(knd:PySem.HeapKind prog w K):Prop:=∀(h h':Heap) (x:K) (a:Addr),knd.is h x a->(∀o,h.get? a\o->h'.get? a\o)->knd.is h' x a
def uw(knd:PySem.HeapKind prog w K):Prop:=∀(h:Heap) (x:K) (a:Addr),knd.is h x a->∃ys,IsTup h a ys
theorem QO{h:Heap}{b d:Addr}{ys:Array Aa}{xs:List (K × Addr × Aa)}(t:IsTup h b ys)(q:h.DictOfH knd d xs):b≠d:=λz=>by
 let#[o,ho,hc,_]:=t;let#[o2,es,ep,eR,jq,_]:=q;subst z;rw[ho] at eR;cases eR;let tj:=jq.1;rw[hc] at tj;exact absurd tj (by decide)
theorem ZZ{it l d:Addr}(fm:Bl knd)(ot:uw knd)(hu:knd.room A.in1)(Lq:l≠it)(sY:d≠it)(BG:d≠l)(hh:A.handled=none){its:aj}(rest:aj):∀(ps:List (K × Addr × Aa)) (i:Nat) (xs:List (K × Addr × Aa)) (s:Ab) (R:Result->Ab->Prop) (tk:Tok),its.drop i=rest->mP knd s.heap rest ps->
  s.heap.IsListIter it l i->s.heap.IsList l its.toArray->s.heap.DictOfH knd d xs->xs.length+ps.length<=1000->
  (∀h' fO,h'.DictOfH knd d (gY xs ps)->(∀b o,b≠d->b≠it->s.heap.get? b\o->h'.get? b\o)->R (.ok (.ret .none)) { s with heap:=h',toks:=fO })->
  codeAny (model prog w) A (.builtin "dict.update.loop" #[[.ref d,.ref it,.int i tk,.none],[]]) R s:=by
 induction rest with
 |nil=>
  intro ps i xs s R tk e hp hit hl hd hz hR;cases hp
  have hi:its.toArray[i]? = none:=by
   have:=eg List.length e;simp only[yl,List.length_nil] at this;simp;omega
  apply codeAny_builtin B5 ?_;rw[xW qj _,BW];apply af (wpAny_pyNext_list_end hh hit hl hi λh' he=>?_);apply af (m:=Builtin.Dict.addKeywords d []) (aF (aF (hR h' s.toks (TJ hd (λo q=>he _ _ sY q) λx a q=>fm _ _ _ _ q λo e=>he _ _ ?_ e) λb o _ hb q=>he b o hb q)));let#[ys,t]:=ot _ _ _ q;exact Bd t hit
 |cons v rest ih=>
  intro ps i xs s R tk e hp hit hl hd hz hR;cases hp with
  |@cons _ p _ ps h0 hr=>
  let#[a,hv,ht,hk]:=h0;let#[k,ka,x]:=p;subst hv
  have hi:its.toArray[i]? = some (.ref a):=by
   have q:(its.drop i)[0]? = some (.ref a):=by rw[e];rfl
   rw[List.getElem?_drop] at q;simpa using q
  have e':its.drop (i+1)=rest:=by
   rw[<- List.drop_drop,e];rfl
  simp only[iR] at hz;apply codeAny_builtin B5 ?_;rw[xW qj _,BW];apply af (wpAny_pyNext_list_item hit hl hi λh1 z_ xA=>?_);let#[oo,K_,Al,nt,LD]:=id ht;have sS:h1.get? a\oo:=xA.extBut _ _ (Bd ht hit) K_;apply af (iK (af (wpAny_tryCatch ?_)));unfold Builtin.Dict.pairItems;apply af (wpAny_typeOf (T:="tuple") #[oo,sS,Al] ?_);rw[aI (by decide)];unfold seqItems?;apply af (af (wpAny_load sS ?_));rw[LD];apply aF (aF ?_)
  have DT:∀x a,knd.is s.heap x a->knd.is h1 x a:=λx a q=>fm _ _ _ _ q λo e=>by
   let#[ys,t]:=ot _ _ _ q;exact xA.extBut _ _ (Bd t hit) e
  have pV:h1.DictOfH knd d xs:=TJ hd (λo q=>xA.extBut _ _ sY q) DT;apply (show wpAny _ _ (holding [Value.ref ka,x] (dictSet d (.ref ka) x)) _ _ _ from iK (wpAny_dictSet_heap hu (DT _ _ hk) pV (λh2 hd2 pS=>?_) (by have:=cq;omega)));have kp:∀b o,b≠d->b≠it->s.heap.get? b\o->h2.get? b\o:=λb o h3 h4 q=>pS.extBut _ _ h3 (xA.extBut _ _ h4 q);let sU:=z_.extBut pS.extBut (bN sY);have c1:((i:Int)+1)=((i+1:Nat):Int):=by omega
  rw[c1];apply aF #[plainId_quiet qj _,?_];apply ih ps (i+1) (storedH xs k ka x) { s with heap:=h2,toks:=s.toks+knd.draws k } R 0 e' (L2.Paired.aX hr λv p ⟨b,e1,t1,k1⟩=>#[b,e1,?_,fm _ _ _ _ k1 λo q=>?_]) sU (hl.at λo q=>kp _ _ (bN BG) Lq q) hd2 (by have:=ez_ xs k ka x;omega) λh' fO hU DR=>hR h' fO hU λb o h3 h4 q=>DR b o h3 h4 (kp b o h3 h4 q)
  ·let#[o,ho,r]:=id t1;exact#[o,kp _ _ (QO t1 hd) (Bd t1 hit) ho,r]
  let#[ys,t]:=ot _ _ _ k1;exact kp _ _ (QO t hd) (Bd t hit) q
theorem iI{E:Aa->Ab->Prop}{s:Ab}{l:Addr}{its:aj}{n:Nat}{ps:List (K × Addr × Aa)}{Q:Aa->Ab->Prop}(fm:Bl knd)(ot:uw knd)(hu:knd.room A.in1.in1)(hh:A.handled=none)(ho:s.heap.get? l\seqObj "list" its.toArray n)(hp:mP knd s.heap its ps)(hz:ps.length<=1000)
  (h:∀h' fO,h'.DictOfH knd s.heap.objs.size (gY [] ps)->(∀b o,s.heap.get? b\o->h'.get? b\o)->Q (.ref s.heap.objs.size) { s with heap:=h',toks:=fO }) :
  wpAny (model prog w) A (call (.type "dict") [.ref l]) Q E s:=by
 apply callType_codes (Q₁:=λobj aJ=>obj=.ref s.heap.objs.size/\aJ={ s with heap:=s.heap.push { cls:=.type "dict",data:=.dict #[] } }) F.kt_called_dict (F.kt_typeCall_dict_1 _) F.entry_dict_init (kt_code_dict_new _ #[U,U]) ?_;rintro obj aJ ⟨rfl,rfl⟩;have gn:(s.heap.push { cls:=.type "dict",data:=.dict #[] }).DictOfH knd s.heap.objs.size []:=Heap.DictOfH.new s.heap;have fq:(s.heap.push { cls:=.type "dict",data:=.dict #[] }).get? l\seqObj "list" its.toArray n:=aQ _ ho;apply#[gn.typeIs,F.args_dict_init_2 _ _,?_];unfold Builtin.«dict.__init__» Builtin.Dict.selfAndRest;apply af (af (wpAny_notOrdered_dict gn.typeIs ?_));apply (show wpAny _ _ (pure (s.heap.objs.size,[Value.ref l])) _ _ _ from aF ?_);apply (show wpAny _ _ (Builtin.Dict.updateFrom "dict.__init__" s.heap.objs.size (.ref l) [] .none) _ _ _ from ?_);unfold Builtin.Dict.updateFrom;apply af (wpAny_typeOf (T:="list") #[_,fq,U] ?_);rw[aI (by decide)];apply af (sk fq hh λh2 Pg k2=>?_);simp only[Option.isNone_none,if_true];have jo:h2.get? l\seqObj "list" its.toArray n:=k2 _ _ fq;apply af (wpAny_rule (af (wpAny_pyIter_list #[_,jo,U,_,U] ?_)));apply aF #[plainId_quiet qj _,?_];have all:∀{b o},s.heap.get? b\o->(h2.push { cls:=.type "list_iterator",data:=.fields (List.toArray [.ref l,.int 0 0]) }).get? b\o:=λq=>aQ _ (k2 _ _ (aQ _ q));let#[o1,es1,ep1,o7,r1,r2,r3,r4,r5]:=gn;have yH:s.heap.objs.size<h2.objs.size:=bx (k2 _ _ o7);have lz:l<s.heap.objs.size:=bx ho
 apply ZZ (A:=A.in1) (knd:=knd) (its:=its) (it:=h2.objs.size) (l:=l) (d:=s.heap.objs.size) fm ot hu (dG (Nat.lt_trans lz yH)) (dG yH) (iu lz) hh its ps 0 [] _ _ 0 U (L2.Paired.aX hp λv p ⟨b,e1,t1,k1⟩=>#[b,e1,t1.keeps λb o q=>all q,fm _ _ _ _ k1 λo q=>all q])
  #[_,cJ _ U,U,U] #[_,aQ _ jo,U,_,U] #[o1,es1,ep1,aQ _ (k2 _ _ o7),r1,r2,r3,(by intro x hx;cases hx),r5] ⇑hz λh' fO hU kp=>#[U,h h' fO hU λb o q=>?_]
 have bl:b<s.heap.objs.size:=bx q;exact kp b o (dG bl) (dG (Nat.lt_trans bl yH)) (all q)
end
theorem tF{prog:Ad}{w:Af}{K:Type}[DecidableEq K](k:PySem.KeyKind prog w K):Bl (tupleKind k):=λh h' x a q e=>by
 let#[o,ys,n,h1,h2]:=q;exact#[o,ys,n,e o h1,h2]
theorem oX{prog:Ad}{w:Af}{K:Type}[DecidableEq K](k:PySem.KeyKind prog w K):uw (tupleKind k):=λh x a q=>by
 let#[o,ys,n,h1,h2,h3,_]:=q;exact#[ys,o,h1,h2,n,h3]
end da
namespace L2
open PySem PySem.Spec PyProof.Rows PySem.W
def mO(H:Hp):ag->List (aq × V)->Prop:=Paired λy p=>∃a b,y=V.ref a/\H a\.tup [.ref b,p.2]/\H b\.tup (p.1.map kV)
def AY(kvs more:List (aq × V)):List (aq × V):=more.foldl (λacc kv=>putK acc kv.1 kv.2) kvs
theorem KT.gY{H:Hp}:∀{more:List (aq × V)} {rs:List (aq × Addr × Aa)} {kvs:List (aq × V)} {xs:List (aq × Addr × Aa)},KT H more rs->KT H kvs xs->KT H (AY kvs more) (da.gY xs rs):=λ{more rs kvs xs} h=>by
 induction h generalizing kvs xs with
 |nil=>exact λh=>h
 |@cons p q _ _ h _ ih=>
  intro h2;let#[k,y]:=p;let#[k',b,u]:=q;let#[h1,h3,h4]:=h;have h1:k=k':=h1;subst h1;exact ih (h2.put k h3 h4)
theorem Uo:∀(more kvs:List (aq × V)),(AY kvs more).length<=kvs.length+more.length
 |[],kvs=>bh _
 |kv::more,kvs=>by
  let h1:=Uo more (putK kvs kv.1 kv.2);let h2:=IU kvs kv.1 kv.2;show (AY (putK kvs kv.1 kv.2) more).length<=_;simp only[iR];omega
inductive SJ (xs:ag) (H:Hp) (Q:VK):Prop
 |mk:∀p ys kvs,xs=[.ref p]->H p\.lst ys->mO H ys kvs->kvs.length<=1000->(∀l,H l=none->Q (.ref l) (upd H l (.dT (AY [] kvs))))->SJ xs H Q
theorem e5_{X:Cx}(hc:X.calm=true)(hu:X.A.units+2<cLine):gr X (.type "dict") SJ:=by
 intro pins s σ H xs us Q I r h;let#[p,ys,kvs,rfl,hp,t,hz,q]:=h;let#[u,rfl,ru]:=vals1 r;cases ru;let#[z,its,n,rv,hl,ho]:=I.i5 hp
 have gen:∀{ys:ag} {its:aj} {kvs:List (aq × V)},Vals ys its->mO H ys kvs->∃ps,KT H kvs ps/\da.mP (tupleKind (dX X.prog X.w)) s.heap its ps:=λ{ys its kvs} rv t=>by
  induction t generalizing its with
  |nil=>
   cases rv;exact#[[],.nil,.nil]
  |@cons y p ys kvs h t ih=>
   cases rv with
   |cons r0 rv=>
    let#[ps,h1,h2]:=ih rv;let#[a,b,e,sq,sb]:=h;subst e;cases r0;let#[tv,rt,it,_]:=I.tuple (eD.of sq);let#[key,x,e2,rk,rx]:=vals2 rt;subst e2;cases (show key=Value.ref b from rk);apply#[(p.1,b,x)::ps,Paired.cons (show p.1=p.1/\H b\.tup (p.1.map kV)/\RelV p.2 x from #[U,sb,rx]) h1,Paired.cons (show ∃a',Value.ref a=.ref a'/\IsTup s.heap a' (List.toArray [.ref b,x])/\(tupleKind (dX X.prog X.w)).is s.heap p.1 b from #[a,U,it,wA I.aA sb]) h2]
 let#[ps,h1,h2]:=gen rv t;let lp:=bH h1;apply da.iI (knd:=tupleKind (dX X.prog X.w)) (da.tF _) (da.oX _) (tupleKind_room_in1 (A:=X.A.in1) (by show X.A.units+1+1<cLine;omega)) (I.ok.hd hc) ho h2 Z2 λh' tk hd kp=>?_;let#[q1,es,ep,hq,g2,g3,g4,_,g5]:=hd;apply#[.ref s.heap.objs.size,_,I.laid (t':=tk) kp (bh _) (show fj X.prog X.w _ h' _ (.dT (AY [] kvs)) from #[?_,beq_eq_false_iff_ne.mpr (bN (dG I.big)),_,(KT.gY h1 .nil).keeps λc ys ec=>?_,q1,es,ep,hq,g2,g3,g4,g5]),U,q _ I.fresh]
 ·have:=Uo kvs [];have:=cq;simp only[List.length_nil] at *;omega
 rw[ax (bz ec I.fresh)];exact ec
theorem SH:∀(more kvs:List (aq × V)),((kvs++more).map (·.1)).Nodup->AY kvs more=kvs++more
 |[],kvs,_=>(wK _).symm
 |kv::more,kvs,nd=>by
  show AY (putK kvs kv.1 kv.2) more=_
  have e:putK kvs kv.1 kv.2=kvs++[kv]:=by
   unfold putK;rw[aC];intro h;let#[q,hq,e]:=List.any_eq_true.mp h;let e:=tL e;rw[er,wI] at nd;exact nd.2.2 q.1 (List.mem_map_of_mem hq) kv.1 Y0 e
  rw[e,SH more (kvs++[kv]) ⇑nd];simp
end L2
namespace L2
open PySem PySem.Spec PyProof.Rows
theorem Zw{K:ai}{a:Addr}{xs:ag}{g:TG}{tc:TT}{te:TE}{own:Nat}{fv:List aE}{dec:V->Hp->List aE->Prop}{D:Addr}{H:Hp}{Q:VK}{kh:St}(sQ:kh=List.replicate own none++fv)(G:Cg g own fv dec)(Pv:Nat->ag->Hp->Prop)
  (h0:Pv 0 [] (upd H D (.lst []))) (hl:∀i out H',i<=xs.length->Pv i out H'->eD K H' a xs) (hd:∀out H',Pv xs.length out H'->Q (.ref D) H')
  (EB:∀i x out H',xs[i]? = some x->Pv i out H'->∃o3,dec x H' o3/\o3.length=own/\∀Nx:Hp->Prop,(∀lZ H2,Pv (i+1) lZ H2->Nx H2)->
   tc (o3++fv) H' λb H4=>if b=true then te (o3++fv) H4 λy H5=>∃gj,H5 D\.lst gj/\gj.length<sizeLine/\Nx (upd H5 D (.lst (gj++[y]))) else Nx H4) :
  AJ (OU K a) g tc te kh D H Q:=by
 apply Ie sQ G xs.length Pv h0 (λout H' p=>#[#[xs,hl _ _ _ (bh _) p,bh _],hd out H' p]) λi out H' hi p=>?_;let q:=hl i out H' (Nat.le_of_lt hi) p;apply#[#[xs,xs[i],q,by simp[hi]],λx H2 y=>?_];let#[e,y]:=y;subst e;exact EB i x out _ (y xs q) p
theorem Zb{X:Cx}{K:ai}{e:Expr}{ta:TE}{f:Str}{pos:Pos}(hK:X.K=K)(he:PE X e ta)(hb:PySem.attributeBase e f X.env (eval e X.env)=eval e X.env):PE X (.Attribute e f pos) (CO K ta f):=by
 subst hK;exact gG he hb
end L2
namespace Ev
open PySem L2
def eG(H:Hp):ag->List (ak × Nat)->Prop:=Paired λy e=>∃a t,y=.ref a/\H a\.tup [.ref t,.int (e.2:Nat)]/\H t\.tup (sV e.1)
theorem eG.keep{H H':Hp}{ys:ag}{l:List (ak × Nat)}(h:eG H ys l)(k:∀b xs,H b\.tup xs->H' b\.tup xs):eG H' ys l:=Paired.aX h λy e ⟨a,t,e1,h1,h2⟩=>#[a,t,e1,k _ _ h1,k _ _ h2]
theorem eG.same{H H':Hp}{ys:ag}{l:List (ak × Nat)}(h:eG H ys l)(s:aa H H'):eG H' ys l:=h.keep λ_ _ e=>s _ _ e
structure Bk (hs:Xa) (qs:aN) (c:Nat) (l:List (ak × Nat)):Prop where
 nd:(l.map (·.1)).Nodup
 v:∀e∈l,Vs hs qs e.1/\e.2<c
 len:l.length<=1000
section v
theorem xb:bJ ["goods","stand","limit","count","placed"] uf (a9 zf):=bV
inductive qP (K:ai) (CG CW:Addr) (vs:ag) (H:Hp) (Q:VK) (E:XK):Prop
 |mk:∀(g p d lt:Addr) (hs:Xa) (ts:Xb) (qs:aN) (fp:au) (s0:ak) (ns:ae) (f:bF) (l:Int × Int) (c:Nat),vs=[.ref g,.ref d,.ref lt,.int c]->Gs K CG CW H g p hs ts qs fp->AH H d hs qs fp s0 ns f->gQ H lt l->tO l->1<=c->c<=100->(∀d' H',aa H H'->H d'=none->H' d'\.dK (gC (qs.map (·.1)) f)->Q (.ref d') H')->qP K CG CW vs H Q E
theorem XJ{f0 CG CW:Addr}{fd:Ae}(F:bo K "checked_shut_start" "checked_shut_start" zf f0 fd){tk:Tok}(mM:mg "MOST_COUNT"\.int 100 tk)(cL:!br 4 "check_limit" fV lE)(cS:!br 2 "checked_stand" ["goods","stand"] (IE K CG CW))(cW:!br 2 "is_whole_within" AI FC):!ao a_ 5 f0 fd uf (qP K CG CW):=by
 exists F.bU xb;let#[g,p,d,lt,hs,ts,qs,fp,s0,ns,f,l,c,rfl,G,S,hl,lo,c1,c2,k]:=h;refine' #[_,aw ?s1 (aw ?s2 (aw ?s3 (aH ?s4))),?kk]
 case s1=>exact kJ (bc cL hr %[2|0])
 case s2=>exact bu 4 xb.nd (bc cS hr %[0,1|0])
 case s3=>exact cg (e_ (d8 (bc cW hr %[3,ay,B4 (v:=.int 100) (by rfl) mM #[tk,U]|0]))) gg cj
 case s4=>exact bp (pv 4)
 apply#[_,U,lt,l,U,hl,lo,?_];apply#[_,U,_,U,g,p,d,hs,ts,qs,fp,ns,f,U,G.G,S.tK,S.hd,S.ok,G.nd,G.cY,λd1 H1 s1 n1 e1=>?_];apply#[_,U,c,1,100,U,_,U,?_];rw[cw (show (1:Int)<=(c:Int) by omega),cw (show (c:Int)<=100 by omega)];exact aM #[_,U,k d1 H1 s1 n1 e1]
theorem oO:bJ oE oE (a9 Om):=bV
inductive Of (K:ai) (CG CW:Addr) (vs:ag) (H:Hp) (Q:VK) (E:XK):Prop
 |mk:∀(g p a t:Addr) (hs:Xa) (ts:Xb) (qs:aN) (fp:au) (z:ak) (n c:Nat),vs=[.ref g,.int c,.ref a]->Gs K CG CW H g p hs ts qs fp->H a\.tup [.ref t,.int n]->H t\.tup (sV z)->Vs hs qs z->n<c->c<=100->(∀H',aa H H'->Q (.bl true) H')->Of K CG CW vs H Q E
theorem fo_{f CG CW:Addr}{fd:Ae}(F:bo K "is_entry" "is_entry" Om f fd)(B:Bi mg)(T:fY K CG)(TW:Txt K mg CW)(cN:!bM CG 1 "names" oz (A9 K CG CW))(cH:!bM CW 1 "has_hand" mF (BS K CW))(cW:!br 2 "is_whole_within" AI FC):!ao a_ 3 f fd oE (Of K CG CW):=by
 exists F.bU oO;let#[g,p,a,t,hs,ts,qs,fp,z,n,c,rfl,G,ha,ht,v,nc,c2,k]:=h;let sz:=cq;have iD:aP 1 _:=hr.mono (by decide);refine' #[_,aw ?s1 (aw ?s2 (aH ?s3)),?kk]
 case s1=>exact cg (pA (e_ (d8 (cy jU (by rfl) B.jn jr %[2,jT (v:=.ty "tuple") (by rfl) B.tuple qh U|0]))) (pC (eZ pX (cy iq (by rfl) B.len gE %[2|0]) ay))).pt (aH (bp il)) cj
 case s2=>exact cg (pA (e_ (d8 (cy jU (by rfl) B.jn jr %[bw cU (pv 2) ay,jT (v:=.ty "tuple") (by rfl) B.tuple qh U|0]))) (pC (eZ pX (cy iq (by rfl) B.len gE %[bw cU (pv 2) ay|0]) (cy iq (by rfl) B.len gE %[xX cN T.cl iD (pv 0)|0])))).pt (aH (bp il)) cj
 case' s3=>refine' bp (pB (cy (R4 U) (by rfl) B.all PyProof.Rows.Boot.«all» %[js ["hand","goods"] 1 [0] (X8 (bw cU (pv 2) ay)) (λfp s H=>?g3) (λfp s H=>kI) (λfp s H=>?e3)|0]) (qg (bc cW hr %[bw cU (pv 2) ay,ay,bP AO (pv 1) ay|0])))
 case g3=>exact fW (i:=0) (show (["hand","goods"]:ae).Nodup by decide +kernel) U (Or.inl U)
 case e3=>exact iX cH TW.cl iD (Zb (K:=K) U (pv 1) U) %[0|0]
 apply#[_,U,_,_,_,_,U,.tup ha,U,_,U,aM ?_];apply#[_,U,a,_,U,.inr (.of ha),U,_,U,?_];apply xU (show V.int ((2:Nat):Int)=V.int 2 from U) ?_;let G1:=G;let#[dx,dw,dy,vs,dC,h1,h2,_]:=id G.G.ex;apply#[_,U,a,_,0,_,U,U,.of ha,L2.dS (j:=0) U,_,_,_,_,U,.tup ht,U,_,U,aM ?_];apply#[_,U,a,_,0,_,U,U,.of ha,L2.dS (j:=0) U,t,_,U,.inr (.of ht),_,U,g,dx,_,U,h1,uX _ _ _ Z0 Z0 Z0,g,p,hs,ts,qs,fp,U,G.G,λl hl=>?_];let#[s1,e1]:=aD (o:=.lst ((qs.map (·.1)).map V.str)) hl;generalize upd H l (.lst ((qs.map (·.1)).map V.str))=H1 at s1 e1 ⊢;apply#[l,_,U,.inl (.of e1),U,_,U,?_];apply xU (by rw[av,av,av,v.len]) ?_;let BI:=s1 _ _ ha;let o6:=s1 _ _ ht;let UF:=G.same s1;let#[dx',dw',dy',F0,fpw',tq,gT,_]:=id UF.G.ex;apply#[_,U,a,_,0,_,U,U,.of BI,L2.dS (j:=0) U,t,U,#[_,.of o6],λD hD=>?_];apply Zw (own:=1) (fv:=[some (.ref g)]) (xs:=sV z) U fF (λj out H'=>aa H1 H'/\∃bs:List Bool,H' D\.lst (bs.map V.bl)/\out=bs.map V.bl/\bs.length=j/\∀b∈bs,b=true) #[aa.new hD,[],az,U,U,by simp] (λj out H' _ ⟨sm,_⟩=>.of (sm _ _ o6)) (λout H5 ⟨s5,bs,i7,eo,_,all⟩=>?_) (λj y out H' hy ⟨sm,bs,dH,eo,lb,all⟩=>?_);rotate_left 1
 ·have hj:j<(sV z).length:=(bX.mp hy).1;rw[av] at hj
  have ey:y=V.str z[j]:=by
   rw[dF,aY hj] at hy;exact (cX hy).symm
  subst ey;let cY:=G.cY;let lz:=v.len;have Jo:z[j]∈hs.map (·.1):=(gO hs).mem_iff.mp (v.ij _ (kK hj));let Gg2:=UF.same sm;let#[dx2,dw2,dy2,vs2,Mh,q1,q2,_]:=id Gg2.G.ex;apply#[_,U,U,λNx hN=>fA ?_];let#[jL,_,_,_,_,_,_,w1,_]:=id q2.ex;have l1:out.length<sizeLine:=by rw[eo,av];omega
  apply#[_,U,g,CG,dx2,_,_,U,q1,T.cl,T.nW,yb _ _ _,p,jL,_,U,w1,pF _ _ _ Z0 Z0 Z0,_,U,p,z[j],hs,ts,Mh,U,q2,out,by rw[eo];exact dH,l1,hN (out++[.bl true]) _ #[fL sm hD,bs++[true],?_,?_,by rw[d5,lb];rfl,λb hb=>?_]]
  ·rw[cw Jo,az,eo,er];rfl
  ·rw[eo,er];rfl
  rcases dJ.mp hb with hb|hb
  ·exact all b hb
  exact eK.mp hb
 have ev:bs.all id=true:=List.all_eq_true.mpr λb hb=>all b hb;apply#[D,bs,U,.of i7,?_];rw[ev];apply#[_,U,c_ ?_];apply#[_,U,a,_,1,_,U,U,.of (s5 _ _ BI),L2.dS (j:=1) U,_,U,_,_,U,U,n,0,(c:Int) - 1,U,?_];rw[cw (show (0:Int)<=(n:Int) by omega),cw (show (n:Int)<=(c:Int) - 1 by omega)];exact k H5 (s1.trans s5)
end
end Ev
namespace Ev
open PySem L2
structure j_ (ts:Xb) (p:Pc):Prop where
 g:j9 ts p
 sub:∀ws,p.2.2\ws->∀w∈ws,w∈ts
theorem Ue:∀us:Xb,Paired (λw u=>w=u∨w=(u.2,u.1)) us us
 |[]=>.nil
 |u::us=>.cons (.inl U) (Ue us)
section v
theorem Ba:bJ [gM,"_law_ties_here","_law_most",wb,"_law_k","_law_name_here","_law_some","_law_weight","_law_ways"] ui (a9 On):=bV
inductive NA (K:ai) (vs:ag) (H:Hp) (Q:VK) (E:XK):Prop
 |mk:∀(l lt:Addr) (m:Nat) (zs:ag) (ts:Xb),vs=[.ref l,.ref lt,.int m]->m<=8->cK H l->H lt\.lst zs->bY K H zs (ts.map kT)->lt≠l->ts.length<64->(∀t∈ts,wm t)->(ts.map kO).Nodup->(∀(a:Addr) (ys:ag) (ps:aN) (H':Hp),aV l H H'->cK H' l->H a=none->H' a\.lst ys->kD K H' ys ps->(∀p∈ps,j_ ts p)->(ps.map (·.1)).Nodup->ps.length<=m->Q (.ref a) H')->NA K vs H Q E
theorem fC_{f:Addr}{fd:Ae}(F:bo K "_law_pieces" "_law_pieces" On f fd)(B:Bi mg)(cD:!br 1 tT uR wB)(cN:!br 2 "_law_name" [gM] Nm):!ao a_ 3 f fd ui (NA K):=by
 exists F.bU Ba;let#[l,lt,m,zs,ts,rfl,m8,st,dI,tu,xr,cY,good,nd,k]:=h;let sz:=cq;let lz:=bH tu;rw[av] at lz;refine' #[_,aw ?s1 (aw ?s2 (aH ?s3)),?kk]
 case s1=>exact bu 3 Ba.nd (fu bK)
 case' s2=>refine' d4 dN U ?i2 ?g2 (aw ?b1 (aH ?b2))
 case i2=>exact uZ (by rfl) B.range %[bc cD hr %[0,bP gz (pv 2) ay|0]|0]
 case g2=>exact cu 4 Ba.nd
 case b1=>exact bu 5 Ba.nd (bc cN hr %[0|0])
 case' b2=>refine' cg (eZ (S3 i_ (uP hr 0)) (pv 5) (js [wd] 1 [] (dY (pv 3)) (λfp s H=>?g3) (λfp s H=>kI) (λfp s H=>?e3)) (by with_unfolding_all rfl)) (aw ?c1 (aw ?c2 (aw ?c3 (aH ?c4)))) cj
 case g3=>exact fW (i:=0) (show ([wd]:ae).Nodup by decide +kernel) U (Or.inl U)
 case e3=>exact bw (zE (K:=K) oS cU) (pv 0) ay
 case c1=>exact bu 6 Ba.nd (fu %[bP gz ay (bc cD hr %[0,ay|0]),bP gz ay (bc cD hr %[0,ay|0]),bP gz ay (bc cD hr %[0,bP XE ay ay|0])|0])
 case c2=>exact bu 7 Ba.nd (bw gd (pv 6) (bc cD hr %[0,ay|0]))
 case' c3=>refine' RC (i:=8) ["_law_tie",gM] 1 [0] Ba.nd U (Or.inl U) (dY (pv 1)) (λfp s H=>?g4) (λfp s H=>?t4) (λfp s H=>?e4)
 case g4=>exact fW (i:=0) (show (["_law_tie",gM]:ae).Nodup by decide +kernel) U (Or.inl U)
 case t4=>exact Ib (eZ BM (bc cD hr %[1,ay|0]) ay)
 case e4=>exact pv 0
 case c4=>exact kJ (pf oy xZ x5 wD (pv 3) %[gh %[5,7,bw gd (fu %[tZ,tZ,8|0]) (bc cD hr %[0,ay|0])|0]|0])
 case s3=>exact bp (pv 3)
 apply#[zl,λa ha=>?_];let#[Jr,ku]:=st.some;have gq:l≠a:=bz ku ha;let#[s1,e1]:=aD (o:=.lst []) ha;let pK:=st.same s1;generalize upd H a (.lst [])=H1 at s1 e1 pK ⊢;apply#[_,U,_,U,_,_,U,U,l,(m:Int)+1,U,by omega,by omega,pK,λr H2 r0 rm b2 eV=>?_];apply#[_,U,by show (-(2 ^ 62):Int)<=r;omega,by show r<(2 ^ 62:Int);omega,?_]
 let Iv:bR:=λi σ H'=>∃(v4 v5 v6 v7 v8:aE) (ys:ag) (ps:aN),σ=[some (.ref l),some (.ref lt),some (.int m),some (.ref a),v4,v5,v6,v7,v8]/\aV l H H'/\cK H' l/\H' a\.lst ys/\Paired (λy p=>∃t v,y=.ref t/\H' t\.tup [.str p.1,.int p.2.1,v]/\cm K H' v p.2.2/\v≠.ref a) ys ps/\(∀p∈ps,j_ ts p)/\(ps.map (·.1)).Nodup/\ps.length<=i
 apply wF (lo:=0) (n:=r.toNat) Iv #[none,none,none,none,none,[],[],U,(aV.of s1).trans b2,eV,b2 _ _ e1 gq.symm,.nil,by simp,.nil,bh _] ?_ ?_
 ·rintro i σ H3 hi ⟨v4,v5,v6,v7,v8,ys,ps,rfl,b3,ic,jK,Gu,gp,vD,le⟩;let ly:=bH Gu;apply#[_,U,l,U,ic,λx H4 nx b4 gS=>?_];let#[UW,zZ]:=ic.some;let jJ:=b4 _ _ jK gq.symm
  have Gq:∀{Ha Hb:Hp},aV l Ha Hb->cK Ha l->∀{y p},(∃t v,y=V.ref t/\Ha t\.tup [.str p.1,.int p.2.1,v]/\cm K Ha v p.2.2/\v≠.ref a)->∃t v,y=V.ref t/\Hb t\.tup [.str (p:Pc).1,.int p.2.1,v]/\cm K Hb v p.2.2/\v≠.ref a:=by
   intro Ha Hb bb sb y p h;let#[t,v,e,ht,wy,na]:=h;let#[xs,e2]:=sb.some;exact#[t,v,e,bb _ _ ht (bS ht e2 nofun),wy.but bb sb,na]
  let PV:=Paired.aX Gu λy p h=>Gq b4 ic h;apply#[_,U,_,U,a,U,#[_,.of jJ],λD hD=>?_];apply kL (own:=1) (fv:=[]) (xs:=ys) U fF (λi out H'=>aa H4 H'/\H' D\.lst out/\out=((ps.take i).map (·.1)).map V.str) #[aa.new hD,az,U] (λi out H' _ ⟨sm,_,_⟩=>.of (sm _ _ jJ)) (λout H5 ⟨s5,i7,eo⟩=>?_) (λj y out H' hy ⟨sm,dH,eo⟩=>?_);rotate_left 1
  ·have hj:j<ys.length:=(bX.mp hy).1;let#[t,v,e,ht,_]:=d9 PV j hj Z2;rw[aY hj] at hy;cases hy;rw[e];have hp:ps[j]? = some (ps[j]' Z2):=aY Z2;apply#[_,U,U,λNx hN=>fA ?_];apply#[_,U,t,_,0,_,U,U,.of (sm _ _ ht),L2.dS (j:=0) U,out,dH,?_,hN _ _ #[fL sm hD,az,?_]]
   ·rw[eo,av,av,dM];omega
   rw[yj _ hp,er,eo];rfl
  rw[ly,eS] at eo;subst eo;have b5:aV l H H5:=(b3.trans b4).trans (aV.of s5);let gi:=gS.same s5;let EN:=s5 _ _ jJ;let PU:=Paired.aX PV λy p h=>Gq (aV.of s5) gS h;apply#[x,_,U,S4 i7,_,U,?_];apply bQ (λc=>?_) (λc=>?_)
  ·have Kp:x∉ps.map (·.1):=⇑c
   apply#[_,U,l,3,U,by decide,by decide,gi,λr1 H6 q0 q1 b6 iy=>#[_,_,U,U,?_]];apply#[_,U,l,9,U,by decide,by decide,iy,λr2 H7 q2 q3 b7 i0=>#[_,_,U,U,?_]];apply#[_,U,_,_,U,U,#[by decide,by decide,by decide],l,_,U,by decide,by decide,i0,λr3 H8 q4 q5 b8 yK=>#[_,_,U,U,?_]];have q5:r3<1000000000:=q5;apply#[zl,λp hp=>?_];let#[s9,e9]:=aD (o:=.lst [.int (1+r1),.int (1+r2),.int (1+r3)]) hp;let vt:=yK.same s9
   have pl:p≠l:=by
    let#[xs,e]:=yK.some;exact (bz e hp).symm
   have Uv:aV l H5 (upd H8 p (.lst [.int (1+r1),.int (1+r2),.int (1+r3)])):=((b6.trans b7).trans b8).trans (aV.of s9);generalize upd H8 p (.lst [.int (1+r1),.int (1+r2),.int (1+r3)])=H9 at s9 e9 vt Uv ⊢;apply#[_,U,_,U,l,3,U,by decide,by decide,vt,λr4 HA q6 q7 bA Bs=>?_];let#[y,hy,wt,ew,w1,w2]:=EA (p:=λy:V=>∃n:Int,y=.int n/\1<=n/\n<=1000000000) (a:=V.int (1+r1)) (b:=.int (1+r2)) (c:=.int (1+r3)) q6 q7 #[_,U,by omega,by omega] #[_,U,by omega,by omega] #[_,U,by omega,by omega];subst ew;apply#[p,_,_,_,U,U,.of (bA _ _ e9 pl),hy,?_];let OD:=Uv.trans bA;have Q4:aV l H HA:=b5.trans OD;let Em:=Q4 _ _ dI xr;let Vn:=jg tu Q4 ku;apply#[_,U,lt,U,#[_,.of Em],λD2 Au=>?_]
   have OZ:D2≠l:=by
    let#[xs,e]:=Bs.some;exact (bz e Au).symm
   apply kL (own:=1) (fv:=[some (.ref l)]) (xs:=zs) U fF (λi out H'=>∃us:Xb,aV l HA H'/\cK H' l/\H' D2\.lst out/\bY K H' out (us.map kT)/\us.Sublist (ts.take i)) #[[],aV.of (aa.new Au),Bs.same (aa.new Au),az,.nil,List.nil_sublist _] (λi out H' _ ⟨_,b,_⟩=>.of (b _ _ Em xr)) (λUR HB ⟨us,bB,oN,G_,Vm,sub⟩=>?_) (λi x out H' hx ⟨us,b,stx,hDx,Pb,sub⟩=>?_);rotate_left 1
   ·let#[t,ht,p,rfl,hp]:=u5 Vn hx;apply#[_,U,U,λNx hN=>?_];apply#[_,U,l,3,U,by decide,by decide,stx,λr2 H4 q0 q1 b4 gS=>#[_,_,U,U,_,U,?_]];let#[UU,jH]:=stx.some;let yx:=jg Pb b4 jH;let o8:=b4 _ _ hDx OZ;let#[UZ,e1]:=Bs.some;have iE:p≠l:=bS hp e1 nofun;apply bQ (λc2=>?_) (λc2=>?_)
    ·let lo:=bH Pb;rw[av] at lo;let ls:=sub.length_le;rw[dM] at ls;let Ee:=b4 _ _ (b _ _ hp iE) iE;apply#[_,U,out,o8,by omega,hN _ _ #[us++[t],λb' o e ne=>?_,?_,az,?_,?_]]
     ·rw[ax (bz e Au)];exact b4 _ _ (b _ _ e ne) ne
     ·unfold cK;rw[ax OZ.symm];exact gS
     ·rw[er];exact IB (g4_ yx Ee) o8
     rw[ua,ht];exact sub.append (List.Sublist.refl _)
    apply hN _ _ #[us,b.trans b4,gS,o8,yx,sub.trans ?_];rw[ua];exact List.sublist_append_left _ _
   rw[lz,eS] at sub;let OC:=OD.trans bB;let Rk:=OC _ _ EN gq.symm;let Wz:=Paired.aX PU λy p h=>Gq OC gi h
   have D2a:D2≠a:=λz=>by
    have:=OD _ _ EN gq.symm;rw[<- z,Au] at this;cases this
   apply#[_,U,.inl #[U,_,.of Rk],_,U,_,U,_,U,zl,λlx jH=>?_];let#[sC,eC]:=aD (o:=.lst [.non,.non,.ref D2]) jH;let stC:=oN.same sC
   have Bx:lx≠l:=by
    let#[xs,e]:=oN.some;exact (bz e jH).symm
   generalize upd HB lx (.lst [.non,.non,.ref D2])=HC at sC eC stC ⊢;apply#[_,U,l,3,U,by decide,by decide,stC,λr5 HD q8 q9 bD Ga=>?_];have FI:aV l HB HD:=(aV.of sC).trans bD;let Vk:=jg Vm FI (oN.some.choose_spec);let hDD:=FI _ _ G_ OZ;let#[v,hv,o,wy,fresh,gw,gs]:=EA (p:=λv:V=>∃o,cm K HD v o/\v≠.ref a/\(∀ws,o\ws->Fc ts ws)/\∀ws,o\ws->∀w∈ws,w∈ts) (a:=V.non) (b:=.non) (c:=.ref D2) q8 q9 #[none,U,nofun,(λws z=>by cases z),(λws z=>by cases z)] #[none,U,nofun,(λws z=>by cases z),(λws z=>by cases z)] #[some us,#[D2,UR,U,hDD,Vk],(λz=>D2a (V.ref.inj z)),(λws z=>by cases z;exact Yi good nd sub (Ue us)),(λws z w hw=>by cases z;exact sub.subset hw)];apply#[lx,_,_,_,U,U,.of (bD _ _ eC Bx),hv,zl,λt ht=>?_];let haD:=FI _ _ Rk gq.symm;let#[sE,eE]:=aD (o:=.tup [.str x,.int wt,v]) ht;let Bv:=Paired.aX Wz λy p h=>Gq (FI.trans (aV.of sE)) oN h;let F_:=Ga.same sE;let O9:=wy.same sE;let bE:=(b5.trans OC).trans (FI.trans (aV.of sE));let BH:=sE _ _ haD;generalize upd HD t (.tup [.str x,.int wt,v])=HE at sE eE Bv F_ O9 bE BH ⊢;apply#[a,_,_,U,U,BH,by omega,?_];apply#[_,_,_,_,_,_,ps++[(x,wt,o)],U,λb' o' e ne=>?_,?_,az,?_,?_,?_,?_]
   ·rw[ax (bz e ha)];exact bE _ _ e ne
   ·unfold cK;rw[ax gq];exact F_
   ·exact iY (Paired.aX Bv λy p ⟨t',v,e,xy,wy,na⟩=>#[t',v,e,by rw[ax (bS xy BH nofun)];exact xy,wy.put BH na,na]) (.cons #[t,v,U,by rw[ax (bS eE BH nofun)];exact eE,O9.put BH fresh,fresh] .nil)
   ·intro q hq;rcases dJ.mp hq with hq|hq
    ·exact gp q hq
    rw[eK.mp hq];exact#[#[nx,w1,w2,gw],gs]
   ·rw[er,wI];exact#[vD,by simp,λa1 h1 a2 h2 e=>Kp (by rw[<- (eK.mp h2:a2=x),<- e];exact h1)]
   rw[d5,jV];omega
  exact#[_,_,_,_,_,ys,ps,U,b5,gi,EN,PU,gp,vD,by omega]
 rintro σ H3 ⟨v4,v5,v6,v7,v8,ys,ps,rfl,b3,ic,jK,Gu,gp,vD,le⟩;exact#[_,U,k a ys ps H3 b3 ic ha jK (Paired.aX Gu λy p ⟨t,v,e,ht,wy,_⟩=>#[t,v,e,ht,wy]) gp vD Z2]
end
end Ev
namespace Ev
open PySem L2
section v
theorem qW:bJ oH oH (a9 M8):=bV
inductive MM (K:ai) (vs:ag) (H:Hp) (Q:VK) (E:XK):Prop
 |mk:∀(l lh lp:Addr) (yh yp:ag) (hs:Xa) (ps:aN),vs=[.ref l,.ref lh,.ref lp]->cK H l->H lh\.lst yh->bY K H yh (hs.map kH)->lh≠l->1<=hs.length->hs.length<=8->H lp\.lst yp->kD K H yp ps->lp≠l->(ps.map (·.1)).Nodup->ps.length<=8->(∀d f H',aV l H H'->cK H' l->H d=none->H' d\.dK (gC (ps.map (·.1)) f)->(∀n∈ps.map (·.1),f n∈hs.map (·.1))->Q (.ref d) H')->MM K vs H Q E
theorem h6_{f:Addr}{fd:Ae}(F:bo K "_law_stand" "_law_stand" M8 f fd)(B:Bi mg)(cD:!br 1 tT uR wB):!ao a_ 2 f fd oH (MM K):=by
 exists F.bU qW;let#[l,lh,lp,yh,yp,hs,ps,rfl,st,fZ,th,uH,h1,h8,kr,pc,DN,nd,p8,k]:=h;let sz:=cq;let zx:=bH th;rw[av] at zx;let DM:=bH pc;refine' #[_,aH (bp (iO (Bc U) (by rfl) B.dict uT %[js [wd,mE,gM] 1 [1,0] (dY (pv 2)) (λfp s H=>?g1) (λfp s H=>kI) (λfp s H=>?e1)|0])),?kk]
 case g1=>exact fW (i:=0) (show ([wd,mE,gM]:ae).Nodup by decide +kernel) U (Or.inl U)
 case e1=>exact gh %[bw (zE (K:=K) oS cU) (pv 0) ay,bw (zE (K:=K) oS cU) (bw (zE (K:=K) r_ gd) (pv 1) (bc cD hr %[2,cy (Fi (K:=K) OB iq) (by rfl) B.len gE %[1|0]|0])) ay|0]
 let#[Jr,ku]:=st.some;apply#[_,U,lp,U,#[_,.of kr],λD hD=>?_];have Dl:D≠l:=(bz ku hD).symm;apply kL (own:=1) (fv:=[some (.ref lh),some (.ref l)]) (xs:=yp) U fF (λi out H'=>∃hh:ak,aV l H H'/\cK H' l/\H' D\.lst out/\hh.length=i/\(∀h∈hh,h∈hs.map (·.1))/\kC K H' out ((((ps.map (·.1)).take i).zip (sV hh)).map λp=>(Sum.inr p.1,p.2))) #[[],aV.of (aa.new hD),st.same (aa.new hD),az,U,by simp,by simp;exact .nil] (λi out H' _ ⟨_,b,_⟩=>.of (b _ _ kr DN)) (λout H5 ⟨hh,b5,gi,i7,KF,mem,pa⟩=>?_) (λi y out H' hy ⟨hh,b,stx,dH,Xp,mem,pa⟩=>?_)
 ·rw[DM] at KF;have lt:(ps.map (·.1)).take yp.length=ps.map (·.1):=by rw[DM];exact u6 Y0
  rw[lt] at pa;have ln:(ps.map (·.1)).length=ps.length:=av _;rw[QF nd (by rw[ln];exact KF)] at pa;apply#[D,out,_,U,i7,pa,by rw[oA,ln];omega,λd hd=>?_]
  have kj:((gC (ps.map (·.1)) (Az (ps.map (·.1)) hh)).map (·.1)).Nodup:=by
   rw[B6,qo,uY];exact nd.imp λn e=>n (iJ e)
  rw[yd kj];apply k d (Az (ps.map (·.1)) hh) _ (b5.trans (aV.of (aa.new hd))) (gi.same (aa.new hd)) (b5.free gi hd) az λn hn=>?_;let#[j,hj,e]:=ib hn;have Ex:j<hh.length:=by rw[KF,<- ln];exact hj
  rw[HN nd (k:=j) (by rw[aY hj,e]) (aY Ex)];exact mem _ (kK Ex)
 have hi:i<yp.length:=(bX.mp hy).1;let#[t,v,e,ht,_]:=d9 pc i hi Z2;rw[aY hi] at hy;cases hy;rw[e];have hp:ps[i]? = some (ps[i]' Z2):=aY Z2;obtain⟨pz,ep⟩:∃p,p=ps[i]' Z2:=#[_,U];rw[<- ep] at hp ht;have tl:t≠l:=bS ht ku nofun;apply#[_,U,U,λNx hN=>fA ?_];apply#[_,U,t,_,0,_,U,U,.of (b _ _ ht tl),L2.dS (j:=0) U,_,U,_,U,_,U,lh,_,U,.inl (.of (b _ _ fZ uH)),l,(yh.length:Int),U,by omega,by omega,stx,λr H2 r0 r1 b2 eV=>?_];let#[r,rfl]:=yg r0;have QT:r<yh.length:=by omega
 let#[u,eu,hu]:=d9 th r QT (by rw[av];omega);let bb:=b.trans b2;have hh':(hs.map kH)[r]'(by rw[av];omega)=kH (hs[r]' Z2):=List.getElem_map ..;rw[hh'] at hu;let _s:=zR (bb _ _ hu (bS hu ku nofun));apply#[lh,_,r,.ref u,U,U,.of (bb _ _ fZ uH),L2.dS (by rw[aY QT,eu]),u,_,0,_,U,U,.of _s,L2.dS (j:=0) U,zl,λz hz=>?_];let#[s3,e3]:=aD (o:=.tup [.str pz.1,.str (hs[r]' Z2).1]) hz;let ic:=eV.same s3;let xN:=s3 _ _ (b2 _ _ dH Dl);generalize upd H2 z (.tup [.str pz.1,.str (hs[r]' Z2).1])=H3 at s3 e3 ic xN ⊢;let lo:=bH pa;rw[av,List.length_zip,dM,av,av] at lo
 have tD:∀{c xs},H3 c\.tup xs->upd H3 D (.lst (out++[.ref z])) c\.tup xs:=λe=>by
  rw[ax (bS e xN nofun)];exact e
 let#[UU,jH]:=stx.some;apply#[out,xN,by omega,hN _ _ #[hh++[(hs[r]' Z2).1],λc o e ne=>?_,?_,az,by rw[d5,Xp];rfl,λh hm=>?_,?_]]
 ·rw[ax (bz e hD)];exact s3 _ _ (bb _ _ e ne)
 ·unfold cK;rw[ax Dl.symm];exact ic
 ·rcases dJ.mp hm with hm|hm
  ·exact mem h hm
  rw[eK.mp hm];exact bG.mpr #[_,kK Z2,U]
 have ez:((ps.map (·.1)).take (i+1)).zip (sV (hh++[(hs[r]' Z2).1]))=((ps.map (·.1)).take i).zip (sV hh)++[(pz.1,V.str (hs[r]' Z2).1)]:=by
  rw[uS (n:=pz.1) (by rw[dF,hp];rfl)];show _=_;rw[show sV (hh++[(hs[r]' Z2).1])=sV hh++[V.str (hs[r]' Z2).1] from er,List.zip_append (by rw[dM,av,av];omega)];rfl
 rw[ez,er];apply iY (Paired.aX pa λy p ⟨c,e,hc⟩=>#[c,e,tD (s3 _ _ (b2 _ _ hc (bS hc jH nofun)))]) (.cons #[z,U,tD e3] .nil)
theorem MV:bJ [mE,pe,"_law_spot",wb,"_law_k"] um (a9 M_):=bV
def jD(ss:aN)(s:ak)(h:Str):Int:=ld (fS ss s) (ss.map fg) h
inductive MN (K:ai) (vs:ag) (H:Hp) (Q:VK) (E:XK):Prop
 |mk:∀(lh lp t:Addr) (yh yp:ag) (hs:Xa) (ss:aN) (s:ak),vs=[.ref lh,.ref lp,.ref t]->H lh\.lst yh->bY K H yh (hs.map kH)->(hs.map (·.1)).Nodup->hs.length<=8->H lp\.lst yp->kD K H yp ss->(ss.map (·.1)).Nodup->ss.length<=8->H t\.tup (sV s)->s.length=ss.length->(∀h∈s,h∈hs.map (·.1))->(∀d H',aa H H'->H d=none->H' d\.dK (dW (hs.map (·.1)) λh=>.int (jD ss s h))->Q (.ref d) H')->MN K vs H Q E
theorem g2_{f:Addr}{fd:Ae}(F:bo K "_law_loads" "_law_loads" M_ f fd)(B:Bi mg):!ao a_ 1 f fd um (MN K):=by
 exists F.bU MV;let#[lh,lp,t,yh,yp,hs,ss,s,rfl,fZ,th,pT,h8,kr,pc,nd,p8,ht,ls,ij,k]:=h;let hu:=fH hr;let sz:=cq;let zx:=bH th;rw[av] at zx;let DM:=bH pc;refine' #[_,aw ?s1 (aw ?s2 (aH ?s3)),?kk]
 case' s1=>refine' bu 3 MV.nd (iO (Bc U) (by rfl) B.dict uT %[js BP 2 [] (dY (pv 0)) (λfp s H=>?g1) (λfp s H=>kI) (λfp s H=>?e1)|0])
 case g1=>exact Fe (n:=2) (dO (fW (i:=0) (show (BP:ae).Nodup by decide +kernel) U (Or.inl U)) (dO (fW (i:=1) (show (BP:ae).Nodup by decide +kernel) U (Or.inl U)) jh))
 case e1=>exact gh %[0,ay|0]
 case' s2=>refine' d4 dN U ?i2 ?g2 (aH ?b2)
 case i2=>exact uZ (by rfl) B.range %[cy iq (by rfl) B.len gE %[1|0]|0]
 case g2=>exact cu 4 MV.nd
 case b2=>exact tW hu (pv 3) (bw cU (pv 2) (pv 4)) (bP gz (mJ hu (pv 3) (bw cU (pv 2) (pv 4))) (bw cU (bw gd (pv 1) (pv 4)) ay)) U
 case s3=>exact bp (pv 3)
 apply#[_,U,lh,U,#[_,.of fZ],λD hD=>?_];apply kL (own:=2) (fv:=[]) (xs:=yh) U Av (λi out H'=>aa H H'/\H' D\.lst out/\kC K H' out (dW ((hs.map (·.1)).take i) λ_=>.int 0)) #[aa.new hD,az,.nil] (λi out H' _ ⟨sm,_,_⟩=>.of (sm _ _ fZ)) (λout H5 ⟨sm,i7,pa⟩=>?_) (λi y out H' hy ⟨sm,dH,pa⟩=>?_);rotate_left 1
 ·let#[h,hh,p,rfl,hp]:=u5 th hy;apply#[_,#[p,_,_,U,.of (sm _ _ (zR hp)),U],U,λNx hN=>fA ?_];apply#[_,U,zl,λz hz=>?_];let#[s3,e3]:=aD (o:=.tup [.str h.1,.int 0]) hz;generalize upd H' z (.tup [.str h.1,.int 0])=H3 at s3 e3 ⊢;have hi:i<hs.length:=(bX.mp hh).1;let lo:=bH pa;rw[oA,dM,av] at lo
  have tD:∀{c xs},H3 c\.tup xs->upd H3 D (.lst (out++[.ref z])) c\.tup xs:=λe=>by
   rw[ax (bS e (s3 _ _ dH) nofun)];exact e
  apply#[out,s3 _ _ dH,by omega,hN _ _ #[fL (sm.trans s3) hD,az,?_]];rw[uS (n:=h.1) (by rw[dF,hh];rfl)];show kC K _ _ (((hs.map (·.1)).take i++[h.1]).map _);rw[er];exact iY (Paired.aX pa λy p ⟨c,e,hc⟩=>#[c,e,tD (s3 _ _ hc)]) (.cons #[z,U,tD e3] .nil)
 have lt:(hs.map (·.1)).take yh.length=hs.map (·.1):=u6 (by rw[av];omega);rw[lt] at pa;apply#[D,out,_,U,i7,pa,by rw[oA,av];omega,λd hd=>?_]
 have kj:((dW (hs.map (·.1)) λ_=>V.int 0).map (·.1)).Nodup:=by
  rw[B6,qo,uY];exact pT.imp λn e=>n (iJ e)
 rw[yd kj];let#[s6,e6]:=aD (o:=.dK (dW (hs.map (·.1)) λ_=>V.int 0)) hd;have dn:H d=none:=sm.free hd;let iA:=sm.trans s6;generalize upd H5 d (.dK (dW (hs.map (·.1)) λ_=>V.int 0))=H6 at s6 e6 iA ⊢;apply#[_,U,lp,_,U,.inl (.of (iA _ _ kr)),_,U,by show (-(2 ^ 62):Int)<=(yp.length:Int);omega,by show (yp.length:Int)<2 ^ 62;omega,?_]
 let Iv:bR:=λi σ H'=>∃(v4:aE),σ=[some (.ref lh),some (.ref lp),some (.ref t),some (.ref d),v4]/\aa H H'/\H' d\.dK (dW (hs.map (·.1)) λh=>.int (ld (fS ss s) ((ss.take i).map fg) h))
 apply wF (lo:=0) (n:=((yp.length:Nat):Int).toNat) Iv #[none,U,iA,e6] ?_ ?_
 ·rintro i σ H7 hi ⟨v4,rfl,s7,e7⟩;rw[Int.zero_add];have hi:i<ss.length:=by omega
  let#[u,v,eu,sR,_]:=d9 pc i Z2 hi;have GQ:s[i]? = some (s[i]' Z2):=aY Z2;obtain⟨h,eh⟩:∃h,h=s[i]' Z2:=#[_,U];obtain⟨q,eq⟩:∃q,q=ss[i]:=#[_,U];have hq:ss[i]? = some q:=by rw[eq];exact aY hi
  rw[<- eh] at GQ;rw[<- eq] at sR;have hm:h∈hs.map (·.1):=ij h (cZ GQ);have EJ:ip (sV s) (i:Int)\.str h:=L2.dS (by rw[dF,GQ];rfl);let QQ:=s7 _ _ ht;have ff:fS ss s q.1=h:=HN nd (k:=i) (by rw[dF,hq];rfl) GQ;apply#[_,U,_,U,_,U,t,_,i,_,U,U,.of QQ,EJ,d,.int (ld (fS ss s) ((ss.take i).map fg) h),U,?_,?_]
  ·have:=dc.k (k:=.inr h) e7;rw[BZ (g:=λh=>V.int (ld (fS ss s) ((ss.take i).map fg) h)) hm] at this;exact this
  apply#[_,U,_,U,lp,_,i,.ref u,U,U,.of (s7 _ _ kr),L2.dS (by rw[aY Z2,eu]),u,_,1,_,U,U,.of (s7 _ _ sR),L2.dS (j:=1) U,_,_,U,U,?_];apply#[_,U,_,U,_,U,t,_,i,_,U,U,.of QQ,EJ,d,_,U,.k (k:=Sum.inr h) e7 (by rw[oA,av];omega),?_];apply#[_,U,fL s7 dn,?_];rw[az,Rw hm];apply eg (λz=>some (HO.dK z)) (IS λn _=>?_);rw[yj _ hq,RH];show (if n=h then _ else _)=V.int (if n=fS ss s q.1 then _ else _);rw[ff];by_cases c:n=h
  ·rw[aI c,aI c,c];rfl
  rw[aC c,aC c]
 rintro σ H7 ⟨v4,rfl,s7,e7⟩;have:ss.take ((yp.length:Nat):Int).toNat=ss:=u6 Z2;rw[this] at e7;exact#[_,U,k d H7 s7 dn e7]
end
end Ev
namespace Ev
open PySem L2
structure eU (ts:Xb) (ss qs:aN):Prop where
 qs:qs=ss.map pN
 dr:∀p∈ss,j_ ts p
 nd:(ss.map (·.1)).Nodup
theorem eU.zw{ts:Xb}{ss qs:aN}(S:eU ts ss qs):qs.map (·.1)=ss.map (·.1):=by
 rw[S.qs,cz];rfl
theorem eU.ws{ts:Xb}{ss qs:aN}(S:eU ts ss qs):qs.map fg=ss.map fg:=by
 rw[S.qs,cz];rfl
theorem eU.wp{ts:Xb}{ss qs:aN}(S:eU ts ss qs):∀q∈qs,0<=q.2.1/\q.2.1<=1000000000:=λq hq=>by
 rw[S.qs] at hq;let#[p,hp,rfl]:=bG.mp hq;let g:=(S.dr p hp).g;let h1:=g.w1;let h2:=g.w2;exact#[by show 0<=p.2.1;omega,h2]
theorem eU.len{ts:Xb}{ss qs:aN}(S:eU ts ss qs):qs.length=ss.length:=by rw[S.qs,av]
theorem L6{ts:Xb}{ss qs:aN}(S:eU ts ss qs)(s:ak)(h:Str):jD ss s h=ld (fS qs s) (qs.map fg) h:=by
 unfold jD fS;rw[S.zw,S.ws]
theorem R9{hs:Xa}{ts:Xb}{ss qs:aN}(G:Good hs ts)(S:eU ts ss qs)(s:ak)(l:Int × Int):eY hs qs s l=true ↔ ∀a∈hs,∀b∈hs,¬(l.1 * a.2 * b.2<l.2 * (jD ss s a.1 * b.2 - jD ss s b.1 * a.2)):=by
 rw[RD];let mo:=BV G
 have one:∀a∈hs,∀b∈hs,(¬(l.1 * a.2 * b.2<l.2 * (jD ss s a.1 * b.2 - jD ss s b.1 * a.2)) ↔ l.2 * (fK hs qs (fS qs s) a.1 - fK hs qs (fS qs s) b.1)<=l.1 * f_ hs):=λa ha b hb=>by
  have am:a.1∈aS hs:=(gO hs).mem_iff.mpr (bG.mpr #[a,ha,U]);have bm:b.1∈aS hs:=(gO hs).mem_iff.mpr (bG.mpr #[b,hb,U]);have ea:strOf hs a.1=a.2:=Sg G.pT ha;have eb:strOf hs b.1=b.2:=Sg G.pT hb;let sa:=AZ G am;let sb:=AZ G bm;let ma:=mo.2.2 _ am;let mb:=mo.2.2 _ bm;rw[ea] at sa ma;rw[eb] at sb mb;let alg:=Xt (La:=ld (fS qs s) (qs.map fg) a.1) (Lb:=ld (fS qs s) (qs.map fg) b.1) ma mb
  have e1:fK hs qs (fS qs s) a.1=ld (fS qs s) (qs.map fg) a.1 * (f_ hs / a.2):=by
   unfold fK;rw[ea]
  have e2:fK hs qs (fS qs s) b.1=ld (fS qs s) (qs.map fg) b.1 * (f_ hs / b.2):=by
   unfold fK;rw[eb]
  rw[L6 S,L6 S,e1,e2,Int.not_lt];have UB:0<a.2 * b.2:=Int.mul_pos Z2 Z2
  have k1:l.2 * (ld (fS qs s) (qs.map fg) a.1 * b.2 - ld (fS qs s) (qs.map fg) b.1 * a.2) * f_ hs=a.2 * b.2 * (l.2 * (ld (fS qs s) (qs.map fg) a.1 * (f_ hs / a.2) - ld (fS qs s) (qs.map fg) b.1 * (f_ hs / b.2))):=by
   rw[Int.mul_assoc,alg]
   grind
  have k2:l.1 * a.2 * b.2 * f_ hs=a.2 * b.2 * (l.1 * f_ hs):=by grind
  constructor
  ·intro h;have:=Int.mul_le_mul_of_nonneg_right h (iP mo.1);rw[k1,k2] at this;exact Int.le_of_mul_le_mul_left this UB
  intro h;have:=Int.mul_le_mul_of_nonneg_left h (iP UB);rw[<- k1,<- k2] at this;exact Int.le_of_mul_le_mul_right this mo.1
 constructor
 ·intro h a ha b hb;exact (one a ha b hb).mpr (h _ ((gO hs).mem_iff.mpr (bG.mpr #[a,ha,U])) _ ((gO hs).mem_iff.mpr (bG.mpr #[b,hb,U])))
 intro h x hx y hy;let#[a,ha,rfl]:=bG.mp ((gO hs).mem_iff.mp hx);let#[b,hb,rfl]:=bG.mp ((gO hs).mem_iff.mp hy);exact (one a ha b hb).mp (h a ha b hb)
section v
theorem A3:bJ [mE,pe,"_law_spot","_law_limit",wb,"_law_one","_law_strength","_law_other","_law_more","_law_over"] ur (a9 lR):=bV
inductive MZ (K:ai) (vs:ag) (H:Hp) (Q:VK) (E:XK):Prop
 |mk:∀(lh lp t lt:Addr) (yh yp:ag) (hs:Xa) (ts:Xb) (ss qs:aN) (s:ak) (l:Int × Int),vs=[.ref lh,.ref lp,.ref t,.ref lt]->H lh\.lst yh->bY K H yh (hs.map kH)->Good hs ts->H lp\.lst yp->kD K H yp ss->eU ts ss qs->ss.length<=8->H t\.tup (sV s)->Vs hs qs s->gQ H lt l->tO l->(∀H',aa H H'->Q (.bl (eY hs qs s l)) H')->MZ K vs H Q E
theorem hY_{f:Addr}{fd:Ae}(F:bo K "_law_even" "_law_even" lR f fd)(cL:!br 1 "_law_loads" um (MN K)):!ao a_ 2 f fd ur (MZ K):=by
 exists F.bU A3;let#[lh,lp,t,lt,yh,yp,hs,ts,ss,qs,s,l,rfl,fZ,th,G,kr,pc,S,s8,ht,v,hl,lo,k]:=h;let hu:=fH hr;let zx:=bH th;rw[av] at zx;have ij:∀h∈s,h∈hs.map (·.1):=λh hh=>(gO hs).mem_iff.mp (v.ij h hh);refine' #[_,aw ?s1 (aw ?s2 (aH ?s3)),?kk]
 case s1=>exact bu 4 A3.nd (bc cL hr %[0,1,2|0])
 case' s2=>refine' d4 dN U (dY (pv 0)) ?g2 (aH ?b2)
 case g2=>exact mw U (dO (cu 5 A3.nd) (dO (cu 6 A3.nd) jh))
 case' b2=>refine' d4 dN U (dY (pv 0)) ?g3 (aw ?c1 (aH ?c2))
 case g3=>exact mw U (dO (cu 7 A3.nd) (dO (cu 8 A3.nd) jh))
 case c1=>exact bu 9 A3.nd (bP AO (bP qc (mJ hu (pv 4) (pv 5)) (pv 8)) (bP qc (mJ hu (pv 4) (pv 7)) (pv 6)))
 case c2=>exact cg (eZ BM (bP qc (bw cU (pv 3) ay) (pv 9)) (bP qc (bP qc (bw cU (pv 3) ay) (pv 6)) (pv 8))) (aH (bp il)) cj
 case s3=>exact bp il
 apply#[_,U,_,U,_,U,lh,lp,t,yh,yp,hs,ss,s,U,fZ,th,G.pT,G.h8,kr,pc,S.nd,s8,ht,by rw[v.len,S.len],ij,λd H1 s1 n1 e1=>?_];let Ph:=th.same s1
 have P7:∀n,0<=jD ss s n/\jD ss s n<=64000000000:=λn=>by
  rw[L6 S];exact GN S.wp (by rw[S.len];omega) _ _
 let X:(Str × Int)->(Str × Int)->Prop:=λa b=>l.1 * a.2 * b.2<l.2 * (jD ss s a.1 * b.2 - jD ss s b.1 * a.2)
 let Iv:bR:=λi σ H'=>∃(v5 v6 v7 v8 v9:aE),σ=[some (.ref lh),some (.ref lp),some (.ref t),some (.ref lt),some (.ref d),v5,v6,v7,v8,v9]/\H'=H1/\∀a∈hs.take i,∀b∈hs,¬X a b
 apply#[_,U,lh,U,#[_,.of (s1 _ _ fZ)],?_];apply ia (K:=K) (a:=lh) (xs:=yh) Iv ?_ ?_ ?_ ?_
 ·exact#[none,none,none,none,none,U,U,by simp]
 ·rintro i σ H' _ ⟨_,_,_,_,_,_,rfl,_⟩;exact .of (s1 _ _ fZ)
 ·rintro i y σ H2 hy ⟨v5,v6,v7,v8,v9,rfl,rfl,no⟩;let#[a,ha,p,rfl,hp]:=u5 Ph hy;let am:=cZ ha;have an:a.1∈hs.map (·.1):=bG.mpr #[a,am,U];let ga:=G.aA a am;apply#[p,_,U,.of (zR hp),U,_,_,U,_,_,U,U,?_]
  let Iw:bR:=λj σ H'=>∃(v7 v8 v9:aE),σ=[some (.ref lh),some (.ref lp),some (.ref t),some (.ref lt),some (.ref d),some (.str a.1),some (.int a.2),v7,v8,v9]/\H'=H2/\∀b∈hs.take j,¬X a b
  apply#[_,U,lh,U,#[_,.of (s1 _ _ fZ)],?_];apply ia (K:=K) (a:=lh) (xs:=yh) Iw ?_ ?_ ?_ ?_
  ·exact#[_,_,_,U,U,by simp]
  ·rintro j σ H' _ ⟨_,_,_,_,rfl,_⟩;exact .of (s1 _ _ fZ)
  ·rintro j y σ H3 hy ⟨v7,v8,v9,rfl,rfl,Gw⟩;let#[b,hb,q,rfl,hq]:=u5 Ph hy;let bm:=cZ hb;have bn:b.1∈hs.map (·.1):=bG.mpr #[b,bm,U];let gb:=G.aA b bm;let la:=P7 a.1;let lb:=P7 b.1;let ga1:=ga.2.1;let ga2:=ga.2.2;let gb1:=gb.2.1;let gb2:=gb.2.2
   have dg:∀{n},n∈hs.map (·.1)->dc H3 d (.str n) (some (.int (jD ss s n))):=λ{n} hn=>by
    have:=dc.k (k:=.inr n) e1;rw[BZ (g:=λh=>V.int (jD ss s h)) hn] at this;exact this
   apply#[q,_,U,.of (zR hq),U,_,_,U,_,_,U,U,?_];apply#[_,U,_,U,d,_,U,dg an,_,U,_,_,U,U,.inr #[by omega,by omega],_,U,_,U,d,_,U,dg bn,_,U,_,_,U,U,.inr #[by omega,by omega],_,_,U,U,?_];have m1:0<=jD ss s a.1 * b.2/\jD ss s a.1 * b.2<=64000000000 * 1000:=#[Int.mul_nonneg la.1 Z2,Int.mul_le_mul la.2 gb2 Z2 (by decide)];have m2:0<=jD ss s b.1 * a.2/\jD ss s b.1 * a.2<=64000000000 * 1000:=#[Int.mul_nonneg lb.1 Z2,Int.mul_le_mul lb.2 ga2 Z2 (by decide)];apply#[_,U,lt,_,1,_,U,U,.of (s1 _ _ hl),L2.dS (j:=1) U,_,U,_,_,U,U,.inr #[by omega,by omega],?_];apply#[_,U,lt,_,0,_,U,U,.of (s1 _ _ hl),L2.dS (j:=0) U,_,U,_,_,U,U,.inr #[by omega,by omega],_,U,_,_,U,U,.inr #[by omega,by omega],_,_,U,U,_,U,?_];apply bQ (λc=>?_) (λc=>?_)
   ·have hx:X a b:=tL c;let kk:=k H3 s1
    have:eY hs qs s l=false:=by
     rw[<- Bool.not_eq_true,R9 G S];exact λh=>h a am b bm hx
    rw[this] at kk;exact kk
   have hx:¬X a b:=λh=>absurd h (Int.not_lt.mpr ⇑c);apply#[_,_,_,U,U,λz hz=>?_];rw[mK,hb] at hz;rcases dJ.mp hz with hz|hz
   ·exact Gw z hz
   have:z=b:=⇑hz
   rw[this];exact hx
  rintro σ H3 ⟨v7,v8,v9,rfl,rfl,Gw⟩;rw[zx,eS] at Gw;apply#[_,_,_,_,_,U,U,λz hz=>?_];rw[mK,ha] at hz;rcases dJ.mp hz with hz|hz
  ·exact no z hz
  have:z=a:=⇑hz
  rw[this];exact Gw
 rintro σ H2 ⟨v5,v6,v7,v8,v9,rfl,rfl,no⟩;rw[zx,eS] at no;let kk:=k H2 s1;rw[(R9 G S s l).mpr no] at kk;exact kk
end
end Ev
namespace L2
open PySem PySem.Spec PyProof.Rows PySem.W mR da
def Kb(K:ai){D:Type}[DecidableEq D](R:Rp D)(neg:Bool):V->V->Hp->VK->Prop:=λx y H Q=>∃(d:D) (es:List D) (a:Addr) (ys:ag),R H x d/\y=.ref a/\eD K H a ys/\Paired (R H) ys es/\Q (.bl (if neg then !decide (d∈es) else decide (d∈es))) H
theorem XI{X:Cx}{n:Nat}{D:Type}[DecidableEq D]{R:Rp D}(c:u9 X n R)(hu:X.A.units+n+1<cLine):d_ X (compareOp .In) (Kb X.K R false):=by
 intro pins s σ H x y v u Q I rx ry h;let#[d,es,a,ys,hx,rfl,t,q,hq]:=h;cases ry;let#[us,r,pl,_]:=I.tuple t;let#[f,h1,h2]:=L8 c I (A:=X.A.in1) rx hx (by show X.A.units+1+n<cLine;omega) r q;apply SeqAt.in_tupleAt f (NK pl) (λw hw=>h1 w ⇑hw) #[.bl _,H,I,U,?_];rw[show us.toArray.any f=us.any f by simp,h2];exact hq
end L2
namespace Ev
open PySem L2
def iU(t:Str × Str)(h:Str):Str:=if t.1=h then t.2 else t.1
theorem M9{ts:Xb}{a b:Str}:aK a b∈bT ts ↔ (a,b)∈ts∨(b,a)∈ts:=by
 rw[Ir];constructor
 ·rintro⟨⟨x,y⟩,ht,e⟩;rcases Qw (a:=x) (b:=y) (c:=a) (d:=b) (by show kT (aK x y)=kT (aK a b);rw[<- e]) with⟨rfl,rfl⟩|⟨rfl,rfl⟩
  ·exact .inl ht
  exact .inr ht
 rintro (h|h)
 ·exact#[_,h,U]
 exact#[_,h,N1 _ _]
def gH(ts:Xb)(p:Pc):Xb:=p.2.2.getD ts
theorem Zc{ws:Xb}(g:∀t∈ws,wm t){h h':Str}:(∃t∈ws,(h=t.1∨h=t.2)/\h'=iU t h) ↔ (h,h')∈ws∨(h',h)∈ws:=by
 constructor
 ·rintro⟨⟨x,y⟩,ht,e,rfl⟩;let ne:=(g _ ht).2.2;rcases e with rfl|rfl
  ·left
   rw[show iU (h,y) h=y from aI U];exact ht
  right
  rw[show iU (x,h) h=x from aC ne];exact ht
 rintro (ht|ht)
 ·exact#[_,ht,.inl U,(aI U).symm]
 exact#[_,ht,.inr U,(aC (g _ ht).2.2).symm]
theorem YT{hs:Xa}{ts:Xb}(G:Good hs ts){p:Pc}(d:j_ ts p){h h':Str}(hm:h∈aS hs):h'∈tI hs ts (pN p) h ↔ ∃t∈gH ts p,(h=t.1∨h=t.2)/\h'=iU t h:=by
 have gw:∀t∈gH ts p,t∈ts:=λt ht=>by
  unfold gH at ht;cases e:p.2.2 with
  |none=>
   rw[e] at ht;exact ht
  |some ws=>
   rw[e] at ht;exact d.sub ws e t ht
 rw[Zc λt ht=>G.tok t (gw t ht)]
 have jC:∀{o},o∈near (aS hs) (bT ts) h ↔ (h,o)∈ts∨(o,h)∈ts:=λ{o}=>by
  unfold near;rw[mL,decide_eq_true_iff,M9];apply#[λz=>z.2,λz=>#[?_,z]];rcases z with z|z
  ·exact (gO hs).mem_iff.mpr (G.vk _ z).2
  exact (gO hs).mem_iff.mpr (G.vk _ z).1
 unfold tI;rw[mL,jC];let l_:=(gO hs).mem_iff.mp hm;constructor
 ·rintro⟨h1,h2⟩;cases e:p.2.2 with
  |none=>
   unfold gH;rw[e];exact h1
  |some ws=>
   have e2:(pN p).2.2\bT ws:=by
    show p.2.2.map bT=_;rw[e];rfl
   rw[e2] at h2;let h3:=(Bool.and_eq_true_iff.mp h2).2;have h4:aK h h'∈bT ws:=tL h3;unfold gH;rw[e];exact M9.mp h4
 intro z;have zt:(h,h')∈ts∨(h',h)∈ts:=z.imp (gw _) (gw _);apply#[zt,?_]
 have Lp:h'∈hs.map (·.1):=by
  rcases zt with y|y
  ·exact (G.vk _ y).2
  exact (G.vk _ y).1
 have td:BQ hs ts (some h) (some h')=true:=by
  show (decide _&&(decide _&&decide _))=true;rw[cw l_,cw Lp,cw (jC.mpr zt)];rfl
 unfold BJ;rw[td,Bool.true_and];cases e:p.2.2 with
 |none=>
  have e2:(pN p).2.2=none:=by
   show p.2.2.map bT=_;rw[e];rfl
  rw[e2]
 |some ws=>
  have e2:(pN p).2.2\bT ws:=by
   show p.2.2.map bT=_;rw[e];rfl
  rw[e2];unfold gH at z;rw[e] at z;exact cw (M9.mpr z)
abbrev Me:=(Str × Str × Str) × ak
def AK(H:Hp):ag->List Me->Prop:=Paired λy e=>∃t m u,y=.ref t/\H t\.tup [.ref m,.ref u]/\H m\.tup [.str e.1.1,.str e.1.2.1,.str e.1.2.2]/\H u\.tup (sV e.2)
theorem AK.keep{H H':Hp}{ys:ag}{L:List Me}(h:AK H ys L)(k:∀b xs,H b\.tup xs->H' b\.tup xs):AK H' ys L:=Paired.aX h λy e ⟨t,m,u,e1,e2,e3,e4⟩=>#[t,m,u,e1,k _ _ e2,k _ _ e3,k _ _ e4]
def OS(hs:Xa)(ts:Xb)(qs:aN)(s:ak)(i:Nat)(e:Me):Prop:=∃(k:Nat) (q:Pc) (h h':Str),k<i/\qs[k]? = some q/\s[k]? = some h/\h'∈tI hs ts q h/\e=((q.1,h,h'),s.set k h')
theorem Yp{hs:Xa}{ts:Xb}{qs:aN}{s:ak}{e:Me}:OS hs ts qs s qs.length e ↔ Mv hs ts qs s e.2 e.1:=by
 constructor
 ·rintro⟨k,q,h,h',_,h1,h2,h3,rfl⟩;exact#[k,q,h,h',h1,h2,h3,U,U]
 rintro⟨k,q,h,h',h1,h2,h3,h4,h5⟩;exact#[k,q,h,h',(bX.mp h1).1,h1,h2,h3,Prod.ext h5 h4]
section v
theorem wq:bJ [pe,"_law_ties_here","_law_spot",wb,"_law_k","_law_name_here","_law_weight","_law_ways","_law_tie","_law_other","_law_later"] uk (a9 Nr):=bV
inductive MP (K:ai) (vs:ag) (H:Hp) (Q:VK) (E:XK):Prop
 |mk:∀(lp lt t:Addr) (yp zs:ag) (hs:Xa) (ts:Xb) (ss qs:aN) (s:ak),vs=[.ref lp,.ref lt,.ref t]->H lp\.lst yp->kD K H yp ss->H lt\.lst zs->bY K H zs (ts.map kT)->Good hs ts->eU ts ss qs->ss.length<=8->H t\.tup (sV s)->Vs hs qs s->(∀l ys L H',aa H H'->H l=none->H' l\.lst ys->AK H' ys L->(∀e,e∈L ↔ Mv hs ts qs s e.2 e.1)->L.length<=512->Q (.ref l) H')->MP K vs H Q E
theorem g8_{f:Addr}{fd:Ae}(F:bo K "_law_moves" "_law_moves" Nr f fd)(B:Bi mg):!ao a_ 1 f fd uk (MP K):=by
 exists F.bU wq;let#[lp,lt,t,yp,zs,hs,ts,ss,qs,s,rfl,kr,pc,dI,tu,G,S,s8,ht,v,k]:=h;let sz:=cq;let DM:=bH pc;let vl:=v.len;let sl:=S.len;let w9:=G.w9;let lz:=bH tu;rw[av] at lz;refine' #[_,aw ?s1 (aw ?s2 (aH ?s3)),?kk]
 case s1=>exact bu 3 wq.nd (fu bK)
 case' s2=>refine' d4 dN U ?i2 ?g2 (aw ?b1 (aH ?b2))
 case i2=>exact uZ (by rfl) B.range %[cy iq (by rfl) B.len gE %[0|0]|0]
 case g2=>exact cu 4 wq.nd
 case b1=>exact HS (bw gd (pv 0) (pv 4)) (mw U (dO (cu 5 wq.nd) (dO (cu 6 wq.nd) (dO (cu 7 wq.nd) jh))))
 case' b2=>refine' d4 dN U (dY (bw gd (fu %[7,1|0]) (iO N0 (by rfl) B.int Hg %[pG LY (pv 7) tZ|0]))) ?g3 (aH ?b3)
 case g3=>exact cu 8 wq.nd
 case' b3=>refine' cg (eZ (XI i_ (uP hr 0)) (bw cU (pv 2) (pv 4)) (pv 8) (by with_unfolding_all rfl)) (aw ?c1 (aw ?c2 (aH ?c3))) cj
 case c1=>exact bu 9 wq.nd (bw gd (fu %[bw cU (pv 8) ay,bw cU (pv 8) ay|0]) (iO N0 (by rfl) B.int Hg %[pG BN (bw cU (pv 8) ay) (bw cU (pv 2) (pv 4))|0]))
 case c2=>exact bu 10 wq.nd (bP Ig (bP Ig (A1 Hc (pv 2) A8 (A7 (pv 4))) (gh %[9|0])) (A1 Hc (pv 2) (A7 (bP gz (pv 4) ay)) A8))
 case c3=>exact kJ (pf oy xZ x5 wD (pv 3) %[gh %[gh %[5,bw cU (pv 2) (pv 4),9|0],10|0]|0])
 case s3=>exact bp (pv 3)
 apply#[zl,λl hl=>?_];let#[s1,e1]:=aD (o:=.lst []) hl;generalize upd H l (.lst [])=H1 at s1 e1 ⊢;apply#[_,U,lp,_,U,.inl (.of (s1 _ _ kr)),_,U,by show (-(2 ^ 62):Int)<=(yp.length:Int);omega,by show (yp.length:Int)<2 ^ 62;omega,?_]
 let Iv:bR:=λi σ H'=>∃(v4 v5 v6 v7 v8 v9 v10:aE) (ys:ag) (L:List Me),σ=[some (.ref lp),some (.ref lt),some (.ref t),some (.ref l),v4,v5,v6,v7,v8,v9,v10]/\aa H H'/\H' l\.lst ys/\AK H' ys L/\(∀e,e∈L ↔ OS hs ts qs s i e)/\L.length<=64 * i
 apply wF (lo:=0) (n:=((yp.length:Nat):Int).toNat) Iv ?_ ?_ ?_
 ·exact#[none,none,none,none,none,none,none,[],[],U,s1,e1,.nil,λe=>#[λz=>absurd z gf,λ⟨_,_,_,_,z,_⟩=>absurd z (Nat.not_lt_zero _)],gP _]
 ·rintro i σ H2 hi ⟨v4,v5,v6,v7,v8,v9,v10,ys,L,rfl,s2,e2,me,mem,len⟩;have hi:i<yp.length:=by omega
  let#[tp,wv,ep,hp,wy]:=d9 pc i hi Z2;have K5:ss[i]? = some (ss[i]' Z2):=aY Z2;obtain⟨p,epp⟩:∃p,p=ss[i]' Z2:=#[_,U];rw[<- epp] at hp wy K5;have hq:qs[i]? = some (pN p):=by rw[S.qs,dF,K5];rfl
  have QR:i<s.length:=by omega
  obtain⟨h,eh⟩:∃h,h=s[i]:=#[_,U];have hh:s[i]? = some h:=by rw[aY QR,eh]
  have hV:(sV s)[i]? = some (.str h):=by rw[dF,hh];rfl
  let hm:=v.ij h (cZ hh);let dp:=S.dr p (cZ K5);let ex:=λ{h'}=>YT G dp (h':=h') hm;rw[show (0:Int)+(i:Nat)=(i:Int) by omega];apply#[_,U,_,U,lp,_,i,_,U,U,.of (s2 _ _ kr),L2.dS (by rw[aY hi,ep]),?_];apply#[tp,_,U,.of (s2 _ _ hp),U,_,_,U,_,_,U,_,_,U,U,?_]
  obtain⟨la,Ck,j,hj,gq,tl,GJ⟩:∃(la:Addr) (Ck:ag) (j:Nat),(if decide (wv=V.non)=true then (1:Int) else 0)=(j:Int)/\[wv,V.ref lt][j]? = some (.ref la)/\(H la\.lst Ck/\bY K H Ck ((gH ts p).map kT))/\(gH ts p).length<64:=by
   unfold gH;cases e:p.2.2 with
   |none=>
    rw[e] at wy;have wy:wv=.non:=wy;subst wy;exact#[lt,zs,1,U,U,#[dI,tu],w9]
   |some ws=>
    rw[e] at wy;let#[a,ys,rfl,ha,ta]:=wy;let wl:=(dp.g.ws ws e).len;exact#[a,ys,0,U,U,#[ha,ta],by show ws.length<64;omega]
  let#[Eo,tl]:=tl;apply#[_,U,_,U,zl,λlx jH=>?_];let#[s3,e3]:=aD (o:=.lst [wv,.ref lt]) jH;let d0:=s2.trans s3;let uL:=s3 _ _ e2;let P3:=me.keep λb xs e=>s3 _ _ e;generalize upd H2 lx (.lst [wv,.ref lt])=H3 at s3 e3 d0 uL P3 ⊢;apply#[_,U,U,.inr #[_,U,?_]];rw[hj];apply#[lx,_,j,_,U,U,.of e3,L2.dS gq,la,U,#[_,.of (d0 _ _ Eo)],?_];let GC:=bH tl;rw[av] at GC
  let Iw:bR:=λj σ H'=>∃(v8 v9 v10:aE) (ys:ag) (L:List Me),σ=[some (.ref lp),some (.ref lt),some (.ref t),some (.ref l),some (.int i),some (.str p.1),some (.int p.2.1),some wv,v8,v9,v10]/\aa H H'/\H' l\.lst ys/\AK H' ys L/\(∀e,e∈L ↔ OS hs ts qs s i e∨∃u∈(gH ts p).take j,(h=u.1∨h=u.2)/\e=((p.1,h,iU u h),s.set i (iU u h)))/\L.length<=64 * i+j
  apply ia (K:=K) (a:=la) (xs:=Ck) Iw ?_ ?_ ?_ ?_
  ·exact#[_,_,_,ys,L,U,d0,uL,P3,λe=>(mem e).trans #[.inl,λz=>z.elim id λ⟨_,z,_⟩=>absurd z gf],by omega]
  ·rintro j σ H' _ ⟨_,_,_,_,_,_,sm,_⟩;exact .of (sm _ _ Eo)
  ·rintro j y σ H4 hy ⟨v8,v9,v10,ys,L,rfl,s4,iW,DD,fD,l7⟩;let#[u,hu,c,rfl,hc]:=u5 tl hy;have G5:H4 c\.tup [.str u.1,.str u.2]:=s4 _ _ hc;let pR:=s4 _ _ ht;have Ex:j<Ck.length:=(bX.mp hy).1;let uG:=bH DD
   have tk:∀z,z∈(gH ts p).take (j+1) ↔ z∈(gH ts p).take j∨z=u:=λz=>by
    rw[mK,hu];simp
   apply#[_,U,_,U,t,_,i,_,U,U,.of pR,L2.dS hV,_,U,h,[u.1,u.2],c,_,U,U,.of G5,.cons U (.cons U .nil),_,U,?_];apply bQ (λcd=>?_) (λcd=>?_)
   ·have l_:h=u.1∨h=u.2:=⇑cd
    have ho:[V.str u.1,V.str u.2][(if u.1=h then 1 else 0:Nat)]? = some (.str (iU u h)):=by
     unfold iU;by_cases z:u.1=h
     ·rw[aI z,aI z];rfl
     rw[aC z,aC z];rfl
    have hz:(if decide (V.str u.1=V.str h)=true then (1:Int) else 0)=((if u.1=h then 1 else 0:Nat):Int):=by
     by_cases z:u.1=h
     ·rw[aI z,z];simp
     rw[aC z,aC (by intro y;exact z (V.str.inj (tL y)))];rfl
    apply#[_,U,c,_,0,_,U,U,.of G5,L2.dS (j:=0) U,_,U,c,_,1,_,U,U,.of G5,L2.dS (j:=1) U,zl,λlo Q0=>?_];let#[sA,eA]:=aD (o:=.lst [.str u.1,.str u.2]) Q0;generalize upd H4 lo (.lst [.str u.1,.str u.2])=HA at sA eA ⊢;apply#[_,U,c,_,0,_,U,U,.of (sA _ _ G5),L2.dS (j:=0) U,_,U,_,U,t,_,i,_,U,U,.of (sA _ _ pR),L2.dS hV,U,.inr #[_,U,?_]];rw[hz];apply#[lo,_,_,_,U,U,.of eA,L2.dS ho,?_];let QP:=sA _ _ pR;apply#[_,U,_,U,_,U,t,_,U,.of QP,?_,λp1 xB=>?_]
    ·rw[HT.eP,HT.dZ,av];omega
    rw[Oe];let#[s5,e5]:=aD (o:=.tup ((sV s).take i)) xB;generalize upd HA p1 (.tup ((sV s).take i))=H5 at s5 e5 ⊢;apply#[_,U,zl,λp2 ko=>?_];let#[s6,e6]:=aD (o:=.tup [.str (iU u h)]) ko;generalize upd H5 p2 (.tup [.str (iU u h)])=H6 at s6 e6 ⊢;apply#[p1,p2,_,_,U,U,s6 _ _ e5,e6,by rw[dM,av,jV];omega,λp3 H7 s7 e7=>?_];let Pw:=(s5.trans s6).trans s7;apply#[_,U,_,U,_,_,U,U,_,U,t,_,U,.of (Pw _ _ QP),?_,λp4 Ee=>?_]
    ·rw[show ((i:Int)+1)=((i+1:Nat):Int) by omega,HT.dZ,av];omega
    rw[show ((i:Int)+1)=((i+1:Nat):Int) by omega,S7];let#[pL,e8]:=aD (o:=.tup ((sV s).drop (i+1))) Ee;generalize upd H7 p4 (.tup ((sV s).drop (i+1)))=H8 at pL e8 ⊢;apply#[p3,p4,_,_,U,U,pL _ _ e7,e8,by rw[d5,dM,av,jV,yl,av];omega,λp5 H9 s9 e9=>?_];rw[To QR] at e9;let zh:=sA.trans ((Pw.trans pL).trans s9);let AD:=zh _ _ iW;apply#[_,U,.inl #[U,_,.of AD],_,U,_,U,_,U,t,_,i,_,U,U,.of (zh _ _ pR),L2.dS hV,_,U,zl,λm sT=>?_];let#[sB,eB]:=aD (o:=.tup [.str p.1,.str h,.str (iU u h)]) sT;generalize upd H9 m (.tup [.str p.1,.str h,.str (iU u h)])=HB at sB eB ⊢;apply#[_,U,zl,λx hx=>?_];let#[sC,eC]:=aD (o:=.tup [.ref m,.ref p5]) hx;generalize upd HB x (.tup [.ref m,.ref p5])=HC at sC eC ⊢;let Px:=sB.trans sC;let J5:=zh.trans Px;let Ss:=J5 _ _ iW;apply#[l,_,_,U,U,Ss,by omega,?_]
    have kt:∀b xs,HC b\.tup xs->upd HC l (.lst (ys++[.ref x])) b\.tup xs:=λb xs e=>by
     rw[ax (bS e Ss nofun)];exact e
    apply#[_,_,_,_,L++[((p.1,h,iU u h),s.set i (iU u h))],U,fL (s4.trans J5) hl,az,iY ((DD.keep λb xs e=>J5 _ _ e).keep kt) (.cons #[x,m,p5,U,kt _ _ eC,kt _ _ (sC _ _ eB),kt _ _ (Px _ _ e9)] .nil),λe=>?_,by rw[d5,jV];omega];rw[dJ,fD,eK];constructor
    ·rintro ((z|⟨z,D4,r⟩)|z)
     ·exact .inl z
     ·exact .inr #[z,(tk z).mpr (.inl D4),r]
     exact .inr #[u,(tk u).mpr (.inr U),l_,z]
    rintro (z|⟨z,D4,r⟩)
    ·exact .inl (.inl z)
    rcases (tk z).mp D4 with D4|rfl
    ·exact .inl (.inr #[z,D4,r])
    exact .inr r.2
   have kq:¬(h=u.1∨h=u.2):=⇑cd
   apply#[_,_,_,ys,L,U,s4,iW,DD,λe=>(fD e).trans #[λz=>z.imp id λ⟨x,hx,r⟩=>#[x,(tk x).mpr (.inl hx),r],λz=>z.imp id λ⟨x,hx,r⟩=>?_],by omega];rcases (tk x).mp hx with hx|rfl
   ·exact#[x,hx,r]
   exact absurd r.1 kq
  rintro σ H4 ⟨v8,v9,v10,ys,L,rfl,s4,iW,DD,fD,l7⟩;apply#[_,_,_,_,_,_,_,ys,L,U,s4,iW,DD,λe=>(fD e).trans ?_,by omega];rw[GC,eS];constructor
  ·rintro (⟨k',q',h1,h2,z1,z2⟩|⟨x,hx,r,rfl⟩)
   ·exact#[k',q',h1,h2,by omega,z2]
   exact#[i,_,h,_,by omega,hq,hh,ex.mpr #[x,hx,r,U],U]
  rintro⟨k',q',h1,h2,z1,z2,z3,z4,z5⟩;by_cases ck:k'=i
  ·subst ck;rw[hq] at z2;cases cX z2;rw[hh] at z3;cases cX z3;let#[x,hx,r,rfl]:=ex.mp z4;exact .inr #[x,hx,r,z5]
  exact .inl #[k',q',h1,h2,by omega,z2,z3,z4,z5]
 rintro σ H2 ⟨v4,v5,v6,v7,v8,v9,v10,ys,L,rfl,s2,e2,me,mem,len⟩;have:((yp.length:Nat):Int).toNat=qs.length:=by omega
 rw[this] at mem len;exact#[_,U,k l ys L H2 s2 hl e2 me (λe=>(mem e).trans Yp) Z2]
end
end Ev
namespace Ev
open PySem L2
theorem hO_{α:Type}{xs:List α}(h:0<xs.length):ip xs (-1)=xs[xs.length - 1]?:=by
 unfold ip vP;rw[aC (by decide),aI Z2];show xs[((xs.length:Int) + -1).toNat]? = _;congr 1;omega
def kn(ks:List ak):List (aq × V):=ks.map λs=>(sK s,.bl true)
theorem RA(ks:List ak):(kn ks).map (·.1)=ks.map sK:=by
 unfold kn;rw[cz];rfl
theorem Rz{ks:List ak}{s:ak}(hs:s∉ks):aU (kn ks) (sK s)=none:=ud (by
 rw[RA];intro hm;let#[x,hx,e]:=bG.mp hm;rw[<- BY e] at hs;exact hs hx)
theorem Q7(ks:List ak)(s:ak):(aU (kn ks) (sK s)).isSome=decide (s∈ks):=by
 by_cases c:s∈ks
 ·rw[cw c];exact IZ (by rw[RA];exact bG.mpr #[s,c,U])
 rw[ft c,Rz c];rfl
theorem Qu{ks:List ak}{s:ak}(hs:s∉ks):putK (kn ks) (sK s) (.bl true)=kn (ks++[s]):=by
 rw[wz (Rz hs)];unfold kn;rw[er];rfl
theorem AR{K:ai}{H H':Hp}{ys:ag}{ps:aN}(h:kD K H ys ps)(s:aa H H'):kD K H' ys ps:=Paired.aX h λy p ⟨t,v,e,ht,wy⟩=>#[t,v,e,s _ _ ht,wy.same s]
def gB(H:Hp):ag->List (List ak)->Prop:=Paired λy L=>∃a zs,y=.ref a/\H a\.lst zs/\jf H zs L
theorem gB.keep{H H':Hp}:∀{ys:ag} {LL:List (List ak)},gB H ys LL->(∀a,V.ref a∈ys->∀xs,H a\.lst xs->H' a\.lst xs)->(∀b xs,H b\.tup xs->H' b\.tup xs)->gB H' ys LL
 |_,_,.nil,_,_=>.nil
 |_,_,.cons ⟨a,zs,e,h1,h2⟩ t,kl,kt=>.cons #[a,zs,e,kl a (by rw[e];exact gF) _ h1,h2.keep kt] (gB.keep t (λa m=>kl a (fX _ m)) kt)
theorem gB.same{H H':Hp}{ys:ag}{LL:List (List ak)}(h:gB H ys LL)(s:aa H H'):gB H' ys LL:=h.keep (λ_ _ _ e=>s _ _ e) λ_ _ e=>s _ _ e
structure gA (N:ak->ak->Prop) (s0:ak) (LL:List (List ak)):Prop where
 is:∀(j:Nat) L,LL[j]? = some L->L.Nodup/\∀s,s∈L ↔ Ds N s0 j s
 last:∃n,LL.length=n+1/\LL[n]? = some []
 ne:∀(j:Nat) L,j+1<LL.length->LL[j]? = some L->L≠[]
theorem gA.mem{N:ak->ak->Prop}{s0:ak}{LL:List (List ak)}(h:gA N s0 LL){j:Nat}{s:ak}(d:Ds N s0 j s):∃L,LL[j]? = some L/\s∈L:=by
 let#[n,hn,hl]:=h.last
 have hj:j<n:=by
  by_cases c:j<n
  ·exact c
  let#[t,ht]:=d.down n Z2;exact absurd (((h.is n _ hl).2 t).mpr ht) gf
 have hx:LL[j]? = some (LL[j]' Z2):=aY Z2;exact#[_,hx,((h.is j _ hx).2 s).mpr d]
theorem gA.flat{N:ak->ak->Prop}{s0:ak}{LL:List (List ak)}(h:gA N s0 LL):LL.flatten.Nodup:=by
 rw[qo,List.pairwise_flatten];apply#[λL hL=>?_,?_]
 ·let#[j,hj,e]:=ib hL;exact qo.mp (h.is j L (by rw[aY hj,e])).1
 rw[List.pairwise_iff_getElem];intro i j hi hj lt;intro s h1 t h2 e;subst e;let d1:=((h.is i _ (aY hi)).2 s).mp h1;let d2:=((h.is j _ (aY hj)).2 s).mp h2;have:=d1.inj d2;omega
theorem gA.all{N:ak->ak->Prop}{s0:ak}{LL:List (List ak)}(h:gA N s0 LL)(s:ak):s∈LL.flatten ↔ ∃j,Wk N s0 j s:=by
 rw[List.mem_flatten];constructor
 ·rintro⟨L,hL,hs⟩;let#[j,hj,e]:=ib hL;exact#[j,(((h.is j L (by rw[aY hj,e])).2 s).mp hs).1]
 rintro⟨j,w⟩;let#[i,_,d]:=w.ds;let#[L,hL,hs]:=h.mem d;exact#[L,cZ hL,hs]
theorem gA.vG{N:ak->ak->Prop}{s0:ak}{LL:List (List ak)}(h:gA N s0 LL){m:Nat}(hm:LL.flatten.length<=m):¬More N s0 m:=λ⟨l,nd,al,lt⟩=>by
 have:=List.Nodup.length_le_of_subset nd λs hs=>(h.all s).mpr (al s hs);omega
section v
theorem A_:bJ [pe,"_law_ties_here","_law_spot","_law_most","_law_known","_law_layers_here","_law_layer","_law_one","_law_move","_law_later"] uq (a9 Na):=bV
inductive Og (K:ai) (vs:ag) (H:Hp) (Q:VK) (E:XK):Prop
 |mk:∀(lp lt t:Addr) (m:Nat) (yp zs:ag) (hs:Xa) (ts:Xb) (ss qs:aN) (s:ak),vs=[.ref lp,.ref lt,.ref t,.int m]->H lp\.lst yp->kD K H yp ss->H lt\.lst zs->bY K H zs (ts.map kT)->Good hs ts->eU ts ss qs->ss.length<=8->H t\.tup (sV s)->Vs hs qs s->(aS hs).length ^ qs.length<=m->m<=1000000->(∀l ys LL H',aa H H'->H l=none->H' l\.lst ys->gB H' ys LL->(∀b,V.ref b∈ys->H b=none)->gA (Nx hs ts qs) s LL->LL.flatten.length<=m->Q (.ref l) H')->Og K vs H Q E
theorem _Y{f:Addr}{fd:Ae}(F:bo K "_law_layers" "_law_layers" Na f fd)(B:Bi mg)(cM:!br 1 "_law_moves" uk (MP K)):!ao a_ 2 f fd uq (Og K):=by
 exists F.bU A_;let#[lp,lt,t,m,yp,zs,hs,ts,ss,qs,s,rfl,kr,pc,dI,tu,G,S,s8,ht,v,bm,m6,k]:=h;let hu:=fH hr;let sz:=cq;refine' #[_,aw ?s1 (aw ?s2 (aw ?s3 (aH ?s4))),?kk]
 case s1=>exact bu 4 A_.nd (Sk hu (pv 2) il)
 case s2=>exact bu 5 A_.nd (fu %[fu %[2|0]|0])
 case' s3=>refine' Iq dN (PW.pt (KY ?w1 (Ms ?w2))) (aw ?b1 (aw ?b2 (aH ?b3)))
 case w1=>exact eZ (Nh (uP hr 0)) (bw gd (pv 5) (G7 HR ay)) (fu bK)
 case w2=>exact eZ xR (cy Ti (by rfl) B.len gE %[4|0]) (pv 3)
 case b1=>exact bu 6 A_.nd (fu bK)
 case' b2=>refine' d4 dN U (dY (bw gd (pv 5) (G7 HR ay))) ?g2 (aH ?c1)
 case g2=>exact cu 7 A_.nd
 case' c1=>refine' d4 dN U (dY (bc cM hr %[0,1,7|0])) ?g3 (aH ?c2)
 case g3=>exact mw U (dO (cu 8 A_.nd) (dO (cu 9 A_.nd) jh))
 case' c2=>refine' cg (qd (IM hu (pv 9) (pv 4))) (aw ?d1 (aH ?d2)) cj
 case d1=>exact tW hu (pv 4) (pv 9) il U
 case d2=>exact kJ (pf oy xZ x5 wD (pv 6) %[9|0])
 case b3=>exact kJ (pf oy xZ x5 wD (pv 5) %[6|0])
 case s4=>exact bp (pv 5)
 intro d hd;have hK:∀{H':Hp},H' t\.tup (sV s)->H' t\.tup ((sK s).map kV):=λe=>by rw[iz];exact e
 apply#[_,U,az,t,sK s,U,by rw[ax (bz ht hd)];exact hK ht,?_];have s1:aa H (upd (upd H d (.dT [])) d (.dT [(sK s,.bl true)])):=fL (aa.new hd) hd;have e1:upd (upd H d (.dT [])) d (.dT [(sK s,.bl true)]) d\.dT (kn [s]):=az;generalize upd (upd H d (.dT [])) d (.dT [(sK s,.bl true)])=H1 at s1 e1 ⊢;apply#[_,U,zl,λa0 oj=>?_];let#[s2,e2]:=aD (o:=.lst [.ref t]) oj;have a0n:H a0=none:=s1.free oj;let SG:=s2 _ _ e1;let jk:=s1.trans s2;generalize upd H1 a0 (.lst [.ref t])=H2 at s2 e2 SG jk ⊢;apply#[zl,λl hl=>?_];let#[s3,e3]:=aD (o:=.lst [.ref a0]) hl;have ln:H l=none:=jk.free hl;have a0l:a0≠l:=bz e2 hl;let uM:=s3 _ _ SG;let SM:=s3 _ _ e2;let d0:=jk.trans s3;generalize upd H2 l (.lst [.ref a0])=H3 at s3 e3 uM SM d0 ⊢
 let N:ak->ak->Prop:=Nx hs ts qs
 let Wv:bR:=λn σ H'=>∃(v6 v7 v8 v9:aE) (k:Nat) (ys:ag) (LL:List (List ak)) (ks nw:List ak),σ=[some (.ref lp),some (.ref lt),some (.ref t),some (.int m),some (.ref d),some (.ref l),v6,v7,v8,v9]/\aa H H'/\H' d\.dT (kn ks)/\H' l\.lst ys/\gB H' ys LL/\(∀b,V.ref b∈ys->H b=none/\b≠l)/\LL.length=k+1/\LL[k]? = some nw/\(∀(j:Nat) L,LL[j]? = some L->L.Nodup/\∀s',s'∈L ↔ Ds N s j s')/\Bf N s k ks nw/\(∀s'∈ks,Vs hs qs s')/\n=(aS hs).length ^ qs.length - ks.length+(if nw=[] then 0 else 1)/\k+(if nw=[] then 0 else 1)<=ks.length/\∀(j:Nat) L,j<k->LL[j]? = some L->L≠[]
 apply#[Wv,#[_,none,none,none,none,0,[.ref a0],[[s]],[s],[s],U,d0,uM,e3,.cons #[a0,_,U,SM,.cons #[t,U,d0 _ _ ht] .nil] .nil,?_,U,U,?_,Bf.start,?_,U,?_,λj L z=>absurd z (Nat.not_lt_zero _)],?_]
 ·intro b hb;cases V.ref.inj (eK.mp hb);exact#[a0n,a0l]
 ·intro j L hj;cases j with
  |zero=>
   cases cX hj;exact#[by simp,(Bf.start (N:=N) (s0:=s)).new]
  |succ j=>cases hj
 ·intro s' hs';rw[eK.mp hs'];exact v
 ·simp
 rintro n σ H4 ⟨v6,v7,v8,v9,kk,ys,LL,ks,nw,rfl,s4,Hy,iW,Ky,pW,l7,vL,Qm,FF,Ju,hn,kle,ne4⟩;let kB:=ID (ns:=aS hs) (n:=qs.length) FF.nd λs' hs'=>#[(Ju s' hs').len,(Ju s' hs').ij];let GG:=bH Ky;have hk:kk<ys.length:=by omega
 let#[an,yn,SK,han,ie]:=d9 Ky kk hk Z2;rw[aY Z2] at vL;rw[cX vL] at ie
 have xF:ip ys (-1)\.ref an:=by
  rw[hO_ Z2,show ys.length - 1=kk by omega,aY hk,SK]
 have anm:V.ref an∈ys:=by rw[<- SK];exact kK hk
 let GD:=bH ie;apply#[_,U,_,U,l,ys,_,_,U,U,.of iW,xF,zl,λle hle=>?_];let#[s5,e5]:=aD (o:=.lst []) hle;let jx:=s4.trans s5;let AF:=s5 _ _ Hy;let tJ:=s5 _ _ iW;let GE:=Ky.same s5;let tm:=s5 _ _ han;let Pq:=ie.keep λb xs e=>s5 _ _ e;generalize upd H4 le (.lst [])=H5 at s5 e5 jx AF tJ GE tm Pq ⊢;apply#[an,le,yn,U,U,.of tm,.of e5,_,U,?_];by_cases cn:nw=[]
 ·have Jq:yn=[]:=by
   rw[cn] at GD;exact List.length_eq_zero_iff.mp GD
  rw[Jq];apply aM (aM #[_,U,?_]);rw[cn] at FF;have ok:gA (Nx hs ts qs) s LL:=#[Qm,#[kk,l7,by rw[aY Z2];exact vL.trans (by rw[cn])],λj L z=>ne4 j L Z2];apply k l ys LL H5 jx ln tJ GE (λb hb=>(pW b hb).1) ok (iQ (ID ok.flat λs' hs'=>?_) bm);let#[j,wj]:=(ok.all s').mp hs';exact#[(wj.vs v).len,(wj.vs v).ij]
 have Jq:yn.isEmpty=false:=by
  cases yn with
  |nil=>exact absurd (List.length_eq_zero_iff.mp GD.symm) cn
  |cons _ _=>rfl
 rw[Jq];apply c_ #[_,U,d,_,U,AF,_,U,_,_,U,U,_,U,?_];have lk:(kn ks).length=ks.length:=av _;rw[aC cn] at hn kle;have ct:decide (((kn ks).length:Int)<=(m:Int))=true:=cw Z2;rw[ct];apply c_ #[λaZ H'=>∃m',m'<n/\Wv m' aZ H',λ_ _ h=>h,?_];apply#[zl,λla gq=>?_];let#[s6,e6]:=aD (o:=.lst []) gq;have Qc:H la=none:=jx.free gq;have KL:la≠l:=(bz tJ gq).symm;have ana:an≠la:=bz tm gq;have OF:an≠l:=(pW an anm).2;have and_:an≠d:=bS tm AF nofun
 have fra:∀b,V.ref b∈ys->b≠la:=λb hb=>by
  let#[i,hi,ei]:=ib hb;let#[a',zs',e',h',_]:=d9 GE i hi Z2;rw[ei] at e';cases e';exact bz h' gq
 let iA:=jx.trans s6;let SF:=s6 _ _ AF;let uK:=s6 _ _ tJ;let P6:=GE.same s6;let Ao:=s6 _ _ tm;let Po:=Pq.keep λb xs e=>s6 _ _ e;generalize upd H5 la (.lst [])=H6 at s6 e6 iA SF uK P6 Ao Po ⊢
 let J:List ak->Hp->Prop:=λseen H'=>∃(i6 fd:List ak) (fs:ag),aa H H'/\H' d\.dT (kn i6)/\H' l\.lst ys/\gB H' ys LL/\H' an\.lst yn/\jf H' yn nw/\H' la\.lst fs/\jf H' fs fd/\Wd ks seen i6 fd/\(∀s'∈i6,Vs hs qs s')/\i6.length=ks.length+fd.length
 let Iv:bR:=λi σ H'=>∃(v7 v8 v9:aE) (seen:List ak),σ=[some (.ref lp),some (.ref lt),some (.ref t),some (.int m),some (.ref d),some (.ref l),some (.ref la),v7,v8,v9]/\J seen H'/\(∀b,b∈seen ↔ ∃h∈nw.take i,N h b)
 apply#[_,U,_,U,l,ys,_,_,U,U,.of uK,xF,an,U,#[_,.of Ao],?_];apply ia (K:=K) (a:=an) (xs:=yn) Iv ?_ ?_ ?_ ?_
 ·exact#[_,_,_,[],U,#[ks,[],[],iA,SF,uK,P6,Ao,Po,e6,.nil,Wd.start FF.nd,Ju,U],λb=>#[λz=>absurd z gf,λ⟨_,z,_⟩=>absurd z gf]]
 ·rintro i σ H' _ ⟨_,_,_,_,_,⟨_,_,_,_,_,_,_,e,_⟩,_⟩;exact .of e
 ·rintro i y σ H7 hy ⟨Vf,Ve,Vd,seen,rfl,⟨GL,pb,RK,ki,E5,AE,Kx,EL,JY,HM,yN,Cw,Cz,P9⟩,mem⟩;have hi:i<yn.length:=(bX.mp hy).1
  obtain⟨h,hh,u,rfl,_r⟩:∃h,nw[i]? = some h/\∃u,y=.ref u/\H7 u\.tup (sV h):=by
   have:=d9 JY i hi Z2;rw[aY hi] at hy;cases hy;exact#[nw[i]' Z2,aY Z2,this]
  let hm:=cZ hh;let sW:=(FF.new h).mp hm;have vh:Vs hs qs h:=sW.1.vs v;apply#[_,U,_,U,_,U,lp,lt,u,yp,zs,hs,ts,ss,qs,h,U,ki _ _ kr,AR pc ki,ki _ _ dI,tu.same ki,G,S,s8,_r,vh,λl3 qt L H8 pL pO e8 P2 l0 KH=>?_];have Qd:l3≠l:=λz=>by rw[z,AE] at pO;cases pO
  have GK:l3≠la:=λz=>by rw[z,HM] at pO;cases pO
  have l3d:l3≠d:=λz=>by rw[z,E5] at pO;cases pO
  let KD:=bH P2
  let Iw:bR:=λj σ H'=>∃(v8 v9:aE) (dE:List ak),σ=[some (.ref lp),some (.ref lt),some (.ref t),some (.int m),some (.ref d),some (.ref l),some (.ref la),some (.ref u),v8,v9]/\H' l3\.lst qt/\AK H' qt L/\J dE H'/\(∀b,b∈dE ↔ b∈seen∨∃e∈L.take j,b=e.2)
  apply#[l3,U,#[_,.of e8],?_];apply ia (K:=K) (a:=l3) (xs:=qt) Iw ?_ ?_ ?_ ?_
  ·exact#[_,_,seen,U,e8,P2,#[GL,pb,RK,ki.trans pL,pL _ _ E5,pL _ _ AE,Kx.same pL,pL _ _ EL,JY.keep λb xs e=>pL _ _ e,pL _ _ HM,yN.keep λb xs e=>pL _ _ e,Cw,Cz,P9],λb=>#[.inl,λz=>z.elim id λ⟨_,w,_⟩=>absurd w (gf)]]
  ·rintro j σ H' _ ⟨_,_,_,_,e,_⟩;exact .of e
  ·rintro j y σ H9 hy ⟨Jw,Jv,dE,rfl,e9,GB,⟨pP,R5,Mb,uD,E4,AD,P5,EK,Pn,SL,yM,Js,FZ,P8⟩,vJ⟩;have hj:j<qt.length:=(bX.mp hy).1
   obtain⟨e,he,tt,mm,uu,rfl,zL,_,QL⟩:∃e,L[j]? = some e/\∃t m u,y=.ref t/\H9 t\.tup [.ref m,.ref u]/\H9 m\.tup [.str e.1.1,.str e.1.2.1,.str e.1.2.2]/\H9 u\.tup (sV e.2):=by
    have:=d9 GB j hj Z2;rw[aY hj] at hy;cases hy;exact#[L[j]' Z2,aY Z2,this]
   have bL:N h e.2:=#[e.1,(l0 e).mp (cZ he)]
   have tk:∀c,(∃e∈L.take (j+1),c=e.2) ↔ (∃e∈L.take j,c=e.2)∨c=e.2:=λc=>by
    rw[mK,he];constructor
    ·rintro⟨x,hx,r⟩;rcases dJ.mp hx with hx|hx
     ·exact .inl #[x,hx,r]
     have:x=e:=⇑hx
     rw[this] at r;exact .inr r
    rintro (⟨x,hx,r⟩|r)
    ·exact#[x,dJ.mpr (.inl hx),r]
    exact#[e,by simp,r]
   have G8:H9 uu\.tup ((sK e.2).map kV):=by rw[iz];exact QL
   apply#[tt,_,U,.of zL,U,_,_,U,_,_,U,U,?_];apply#[_,U,_,U,d,_,U,.t E4 G8,_,U,?_];rw[Q7];by_cases c:e.2∈pP
   ·rw[cw c];apply aM ?_;apply#[_,_,dE++[e.2],U,e9,GB,#[pP,R5,Mb,uD,E4,AD,P5,EK,Pn,SL,yM,Js.skip c,FZ,P8],λz=>?_];rw[dJ,vJ,tk,eK,or_assoc]
   rw[ft c];apply c_ ?_;let kB9:=ID (ns:=aS hs) (n:=qs.length) Js.nd λs' hs'=>#[(FZ s' hs').len,(FZ s' hs').ij];let lf:=bH yM;have Xn:(kn pP).length=pP.length:=av _;apply#[_,U,_,U,d,_,U,.t E4 G8 Z2,?_];rw[Qu c];have kA:∀{c o},H9 c\o->c≠d->upd H9 d (.dT (kn (pP++[e.2]))) c\o:=λe ne=>by rw[ax ne];exact e
   have tA:∀c xs,H9 c\.tup xs->upd H9 d (.dT (kn (pP++[e.2]))) c\.tup xs:=λc xs e=>kA e (bS e E4 nofun);have lA:∀c xs,H9 c\.lst xs->upd H9 d (.dT (kn (pP++[e.2]))) c\.lst xs:=λc xs e=>kA e (bS e E4 nofun);have sA:aa H (upd H9 d (.dT (kn (pP++[e.2])))):=fL uD hd;have eA:upd H9 d (.dT (kn (pP++[e.2]))) d\.dT (kn (pP++[e.2])):=az;generalize upd H9 d (.dT (kn (pP++[e.2])))=HA at kA tA lA sA eA ⊢;let HK:=lA _ _ SL;apply#[_,U,.inl #[U,_,.of HK],_,U,la,_,_,U,U,HK,by omega,?_];have lB:∀c xs,c≠la->H9 c\.lst xs->upd HA la (.lst (Mb++[.ref uu])) c\.lst xs:=λc xs ne e=>by rw[ax ne];exact lA _ _ e
   have tB:∀c xs,H9 c\.tup xs->upd HA la (.lst (Mb++[.ref uu])) c\.tup xs:=λc xs e=>by
    rw[ax (bS (tA _ _ e) HK nofun)];exact tA _ _ e
   have Xr:d≠la:=bS eA HK nofun;apply#[_,_,dE++[e.2],U,lB _ _ GK e9,GB.keep tB,#[pP++[e.2],R5++[e.2],_,fL sA Qc,by rw[ax Xr];exact eA,lB _ _ KL.symm AD,P5.keep (λb hb xs e=>lB _ _ (fra b hb) e) tB,lB _ _ ana EK,Pn.keep tB,az,iY (yM.keep tB) (.cons #[uu,U,tB _ _ QL] .nil),Js.add c,λs' hs'=>?_,?_],λz=>?_]
   ·rcases dJ.mp hs' with hs'|hs'
    ·exact FZ s' hs'
    rw[eK.mp hs'];exact bL.vs vh
   ·rw[d5,d5,P8];rfl
   rw[dJ,vJ,tk,eK,or_assoc]
  rintro σ H9 ⟨Jw,Jv,dE,rfl,e9,GB,jj,vJ⟩;apply#[_,_,_,dE,U,jj,λb=>?_];rw[vJ,mem,show qt.length=L.length from KD,eS,mK,hh];simp only[Option.toList_some,dJ,eK];constructor
  ·rintro (⟨h',sT,nx⟩|⟨e,he,rfl⟩)
   ·exact#[h',.inl sT,nx]
   exact#[h,.inr U,e.1,(l0 e).mp he]
  rintro⟨h',sT|rfl,nx⟩
  ·exact .inl #[h',sT,nx]
  let#[mm,nx]:=nx;exact .inr #[(mm,b),(l0 (mm,b)).mpr nx,U]
 rintro σ H7 ⟨Vf,Ve,Vd,seen,rfl,⟨GL,pb,RK,ki,E5,AE,Kx,EL,JY,HM,yN,Cw,Cz,P9⟩,mem⟩;rw[GD,eS] at mem;let Um:=FF.next Cw mem;apply#[_,U,.inl #[U,_,.of AE],_,U,l,_,_,U,U,AE,by omega,?_];have lB:∀c xs,c≠l->H7 c\.lst xs->upd H7 l (.lst (ys++[.ref la])) c\.lst xs:=λc xs ne e=>by rw[ax ne];exact e
 have tB:∀c xs,H7 c\.tup xs->upd H7 l (.lst (ys++[.ref la])) c\.tup xs:=λc xs e=>by
  rw[ax (bS e AE nofun)];exact e
 let kB7:=ID (ns:=aS hs) (n:=qs.length) Cw.nd λs' hs'=>#[(Cz s' hs').len,(Cz s' hs').ij];have dl:d≠l:=bS E5 AE nofun
 have gl:(LL++[pb])[kk+1]? = some pb:=by
  rw[Be Z2,show kk+1 - LL.length=0 by omega];rfl
 have fl:pb=[]->pb.length=0:=λz=>by rw[z];rfl
 have Hd:pb≠[]->0<pb.length:=λz=>List.length_pos_iff.mpr z;apply#[(aS hs).length ^ qs.length - GL.length+(if pb=[] then 0 else 1),?_,_,_,_,_,kk+1,_,LL++[pb],GL,pb,U,fL ki ln,by rw[ax dl];exact E5,az,iY (Kx.keep (λb hb xs e=>lB _ _ (pW b hb).2 e) tB) (.cons #[la,_,U,lB _ _ KL HM,yN.keep tB] .nil),?_,by rw[d5,l7];rfl,gl,?_,Um,Cz,U,?_,?_]
 ·by_cases z:pb=[]
  ·rw[aI z];have:=fl z;omega
  rw[aC z];have:=Hd z;omega
 ·intro b hb;rcases dJ.mp hb with hb|hb
  ·exact pW b hb
  cases V.ref.inj (eK.mp hb);exact#[Qc,KL]
 ·intro j L hL;by_cases c:j<LL.length
  ·rw[yi c] at hL;exact Qm j L hL
  let Ex:=(bX.mp hL).1;rw[d5,jV] at Ex;have:j=kk+1:=by omega
  subst this;rw[gl] at hL;cases cX hL;exact#[Cw.nf,Um.new]
 ·by_cases z:pb=[]
  ·rw[aI z];omega
  rw[aC z];have:=Hd z;omega
 intro j L hj hL;rw[yi Z2] at hL;by_cases c:j<kk
 ·exact ne4 j L c hL
 have:j=kk:=by omega
 subst this;rw[aY Z2,cX vL] at hL;rw[<- cX hL];exact cn
end
end Ev
namespace L2
open PySem PySem.Spec PyProof.Rows PySem.W mR da
section
variable{X:Cx}
end
end L2
namespace Ev
open PySem L2
structure Ji (K:ai) (H:Hp) (lh lp lt ll:Addr) (hs:Xa) (ts:Xb) (ss qs:aN) (l:Int × Int):Prop where
 hh:∃yh,H lh\.lst yh/\bY K H yh (hs.map kH)
 hp:∃yp,H lp\.lst yp/\kD K H yp ss
 ht:∃zs,H lt\.lst zs/\bY K H zs (ts.map kT)
 hl:gQ H ll l
 lo:tO l
 G:Good hs ts
 S:eU ts ss qs
 s8:ss.length<=8
theorem Ji.same{K:ai}{H H':Hp}{lh lp lt ll:Addr}{hs:Xa}{ts:Xb}{ss qs:aN}{l:Int × Int}(h:Ji K H lh lp lt ll hs ts ss qs l)(s:aa H H'):Ji K H' lh lp lt ll hs ts ss qs l:=by
 let#[#[yh,a1,a2],#[yp,b1,b2],#[zs,c1,c2],d,e,f,g,i]:=h;exact#[#[yh,s _ _ a1,a2.same s],#[yp,s _ _ b1,AR b2 s],#[zs,s _ _ c1,c2.same s],s _ _ d,e,f,g,i]
end Ev
namespace Ev
open PySem L2
def Tld(H:Hp)(t:Addr)(hs:Xa)(ts:Xb)(qs:aN)(s0:ak)(l:Int × Int):Prop:=
 (∃(x:Addr) (ys:ag) (ms:List (Str × Str × Str)) (s:ak),H t\.tup [.str "moves",.ref x]/\H x\.lst ys/\oI H ys ms/\Bg hs ts qs s0 ms s/\Ds (Nx hs ts qs) s0 ms.length s/\eY hs qs s l=true/\∀j z,j<ms.length->Ds (Nx hs ts qs) s0 j z->eY hs qs z l=false)∨(H t\.tup [.str "none"]/\∀j z,Ds (Nx hs ts qs) s0 j z->eY hs qs z l=false)
end Ev
namespace Ev
open PySem L2
theorem Ez{α:Type}{p:α->Prop}{xs:List α}{r:Int}(h0:0<=r)(h1:r<xs.length)(all:∀x∈xs,p x):∃x,ip xs r\x/\p x:=by
 let#[j,rfl]:=yg h0;have hj:j<xs.length:=by omega
 exact#[xs[j],L2.dS (aY hj),all _ (kK hj)]
theorem gx.but{K:ai}{CG CW:Addr}{H H':Hp}{l g p:Addr}{hs:Xa}{ts:Xb}{qs:aN}{fp:au}(G:gx K CG CW H g p hs ts qs fp)(b:aV l H H')(st:cK H l)(nl:l∉fp):gx K CG CW H' g p hs ts qs fp:=by
 let#[xs,e]:=st.some;exact G.keep (λc hc o ho=>b _ _ ho λz=>nl (by rw[<- z];exact hc)) (λc zs hz=>b _ _ hz (bS hz e nofun))
theorem gx.C1{K:ai}{CG CW:Addr}{H:Hp}{g p:Addr}{hs:Xa}{ts:Xb}{qs:aN}{fp:au}(G:gx K CG CW H g p hs ts qs fp):∃uJ,gx K CG CW H g p hs ts qs uJ/\(∀b∈uJ,∃o,H b\o)/\∀c∈uJ,c∈fp:=by
 let#[dx,dw,dy,vs,dC,h1,h2,h3,h4,h5,m1,m2,m3,m4,m5]:=G.ex;have ij:∀{b:Addr} {o:HO},b∈fp->H b\o->b∈fp.filter λb=>(H b).isSome:=λm e=>mL.mpr #[m,by rw[e];rfl];apply#[fp.filter λb=>(H b).isSome,#[dx,dw,dy,vs,dC,h1,h2,h3,h4,h5,ij m1 h1,ij m2 h3,ij m3 h4,λb hb=>?_,λv hv a z=>?_],λb hb=>?_,λb hb=>(mL.mp hb).1]
 ·let#[o,e]:=h2.has hb;exact ij (m4 b hb) e
 ·let#[i,hi,ev]:=ib hv;let le:=bH h5;let w:=d9 h5 i hi Z2;rw[ev,z] at w;cases o:(qs[i]' Z2).2.2 with
  |none=>
   rw[o] at w;cases (show V.ref a=.non from w)
  |some ws=>
   rw[o] at w;let#[a',ys,e,h,_]:=w;cases e;exact ij (m5 v hv a z) h
 exact Option.isSome_iff_exists.mp (mL.mp hb).2
theorem _o{r b:Int}(h0:0<=r)(h9:r<9)(hb:b=1∨b=2∨b=4∨b=8):tO (1+2 * r,b):=by
 have g:Int.gcd (1+2 * r) b=1:=by
  let#[j,rfl]:=yg h0;have hj:j<9:=by omega
  have key:∀j:Fin 9,Int.gcd (1+2 * ((j:Nat):Int)) 1=1/\Int.gcd (1+2 * ((j:Nat):Int)) 2=1/\Int.gcd (1+2 * ((j:Nat):Int)) 4=1/\Int.gcd (1+2 * ((j:Nat):Int)) 8=1:=by decide +kernel
  let#[k1,k2,k3,k4]:=key #[j,hj];rcases hb with rfl|rfl|rfl|rfl
  ·exact k1
  ·exact k2
  ·exact k3
  exact k4
 apply#[?_,?_,?_,?_,g]<;>dsimp only<;>omega
end Ev
namespace L2
open PySem PySem.Spec PyProof.Rows
section
variable{M:Model}{A:Ag}{E:Aa->Ab->Prop}{s:Ab}
end
section
variable{X:Cx}{E:XK}
end
section v
section
variable{N:ae}{qual:Str}{scope:Scope}{f:Addr}{cd:Aa}{A:Ag}{outer:List Env}{s:Ab}{H:Hp}{E:XK}
end
end
end L2
namespace L2
open PySem PySem.Spec PySem.Calls PyProof.Rows PySem.W
section
variable{M:Model}{A:Ag}{E:Aa->Ab->Prop}{s:Ab}{base:Heap}{env:Env}{outer:List Env}{L e:Addr}{cls a0:Aa}{Q:Unit->Ab->Prop}
end
end L2
namespace L2
open PySem PySem.Spec PySem.Calls PyProof.Rows PySem.W
section
variable{prog:Ad}{w:Af}{A:Ag}{E:Aa->Ab->Prop}{h:Heap}{g:Array GenState}{d:Drawn}{t:Nat}{os:OsState}{nm q:Str}{C N f:Addr}{bs bm Ul:aj}{LG:Bool}{sn:ae}{sub:aj}{ab:Bool}{col:Option Bool}{dd:Option Addr}{k0 k1 k2 k3 k5:Option Aa}{B newId zF:String}{K:ai}{rest:aj}
end
end L2
namespace L2
open PySem PySem.Spec PySem.Calls PyProof.Rows PySem.W Builtin Builtin.ObjectAttr
def AA(C CE:Addr):aj:=[.ref C,.ref CE,.type "ValueError",.type "Exception",.type "BaseException",.type "object"]
section
variable{prog:Ad}{w:Af}{A:Ag}{E:Aa->Ab->Prop}{s:Ab}{K:ai}{x C CE:Addr}{ox:Obj}{od:Option Obj}{name:Str}{tk:Tok}{v:Aa}{cd:ClassData}
end
end L2
namespace L2
open PySem PySem.Spec PySem.Calls PyProof.Rows PySem.W
section
variable{M:Model}{A:Ag}{E:Aa->Ab->Prop}{s:Ab}{env:Env}{nm q:Str}{C N:Addr}{bs bm:aj}{LG:Bool}{sn:ae}{sub:aj}{ab:Bool}{col:Option Bool}{dd:Option Addr}{k0 k1 k2 k3 k5:Option Aa}{newId:String}
end
end L2
namespace L2
open PySem PySem.Spec PySem.Calls PyProof.Rows PySem.W
def AB(K:ai)(C:Addr)(Ul:aj)(newId:String):Bool:=
 match K.lookup C with
 |some ⟨.type "type",_,.cls cd,sl⟩=>
  match cd.mro,sl.toList with
  |.ref C'::bm,[_,_,_,_,some (.builtin n),_]=>C' == C&&n == newId&&!cd.hasDel&&tailIn K Ul bm&&nsOkIn K cd.ns
  |_,_=>false
 |_=>false
def NF(K:ai)(C CE:Addr):Bool:=
 match clsIn K C with
 |some cd=>cd.mro == AA C CE&&cd.hasDict
 |none=>false
structure ExO (K:ai) (C CE:Addr):Prop where
 kx:OY K C
 ex:AB K C bmV "ValueError.__new__"=true
 es:findIn K (.ref C) "__setattr__"\some (.builtin "object.__setattr__")
 cl:NF K C CE=true
structure ExF (K:ai) (C:Addr) (f:Str):Prop where
 tk:takerIn K C f\none
 fd:findIn K (.ref C) f\none
structure ExB (K:ai) (CE:Addr):Prop where
 sp:specialIn K (.ref CE) "__getattribute__"\some (.builtin "type.__getattribute__")
 rd:readsIn K CE (.type "type")=true
 fc:findCls K (.ref CE) (.type "type") "__init__"\.val (.builtin "ValueError.__init__")
section
variable{P:Ad}{w:Af}{H:Hp}{h:Heap}{e C a0 d:Addr}{dd:Option Addr}{fs:List (Str × V)}
end
section
variable{X:Cx}{C CE:Addr}{x f:Str}{p apos pos pos':Pos}{o e value:Expr}{es:List Expr}{ta tv:TE}{t:TA}
end
end L2
namespace L2
open PySem PySem.Spec PySem.Calls PyProof.Rows PySem.W
section
variable{X:Cx}{pins:List (Addr × Obj)}{σ:St}{H H':Hp}{s s1:Ab}{B h:Heap}{a:Addr}{cls a0:Aa}{dd:Option Addr}{E:XK}
end
section
variable{P:Ad}{w:Af}{K:ai}{mg:Str->Option Aa}{base:Heap}{N:ae}{qual:Str}{scope:Scope}{f:Addr}{cd:Aa}{A:Ag}{outer:List Env}{s:Ab}{H:Hp}{E:XK}
end
section
variable{X:Cx}{x:Str}{C f:Addr}{fd:Ae}{ps:ae}{sp:Sp}{k:Nat}{np bW pos:Pos}{e:Expr}{es:List Expr}{t:TA}{E:XK}
end
end L2
namespace L2
open PySem PySem.Spec PySem.Calls PyProof.Rows PySem.W
section
variable{X:Cx}{i:Nat}{x n:Str}{D C:Addr}{np zP pos:Pos}{A0:Stmt}{qI body:List Stmt}{tb:XK->TS}{ts:TS}{rest:List ExceptHandler}
end
end L2
namespace L2
open PySem PySem.Spec PySem.Calls PyProof.Rows PySem.W
section
variable{P:Ad}{w:Af}{K:ai}{mg:Str->Option Aa}{base:Heap}{N:ae}{qual:Str}{scope:Scope}{f:Addr}{cd:Aa}{A:Ag}{outer:List Env}{s:Ab}{H:Hp}{E:XK}
end
section
variable{X:Cx}{i:Nat}{x x2 n:Str}{D C D2 C2:Addr}{np zP np2 QV pos:Pos}{A0 c₀:Stmt}{qI JV body:List Stmt}{tb:XK->TS}{ts ts2:TS}
end
section
variable{X:Cx}
end
end L2
namespace L2
open PySem PySem.Spec PySem.Calls PyProof.Rows PySem.W
section
variable{X:Cx}{i:Nat}{x n:Str}{D:Addr}{ok:Addr->Prop}{np zP pos:Pos}{A0:Stmt}{qI body:List Stmt}{tb:XK->TS}{ts:TS}
end
end L2
namespace L2
open PySem PySem.Spec PySem.Calls PyProof.Rows PySem.W
end L2
namespace L2
open PySem PySem.Spec PyProof.Rows
section
variable{X:Cx}
end
section
variable{X:Cx}{k:Nat}{ps:ae}{x:Str}{p pos:Pos}{e:Expr}{es:List Expr}{tn:TE}{t:TA}
end
end L2
namespace L2
open PySem PySem.Spec PyProof.Rows PySem.W
structure II (ps df:ae) (scope:Scope):Prop where
 nd:(ps++df).Nodup
 kind:scope.kind=.function
 co:scope.isCoroutine=false
 gen:scope.isGenerator=false
 par:∀p∈ps,scope.names.lookup p\.local
 fv:∀x∈df,scope.names.lookup x\.free
 all:∀x,scope.names.lookup x\.free->x∈df
 sj:∀x∈scope.names,x.2≠.cell
def BU(CX:kQ)(P:Ad)(w:Af)(K:ai)(mg:Str->Option Aa)(base:Heap)(N:ae)(qual:Str)(scope:Scope)(f:Addr)(cd:Aa)(cl:List (Str × Addr))(A:Ag)(outer:List Env)(s:Ab)(H:Hp)(E:XK):Cx where
 prog:=P
 w:=w
 K:=K
 mg:=mg
 base:=base
 A:=A.deeper (envX qual scope s.heap.objs.size f cd cl)
 N:=N
 di:=s
 j8:=H
 env:=envX qual scope s.heap.objs.size f cd cl
 outer:=outer
 stack:=envX qual scope s.heap.objs.size f cd cl::outer
 ex:=[]
 calm:=true
 fn:=λ_=>false
 pn:=[]
 xe:=λe s'=>wpAny (model P w) (A.deeper (envX qual scope s.heap.objs.size f cd cl)) (leaving (envX qual scope s.heap.objs.size f cd cl) e) (λ_ pM=>CX outer H s E e pM) (λe' pM=>CX outer H s E e' pM) s'
theorem Tn{x:Str}{u:Aa}:∀{l:List (Str × Aa)},(l.map (·.1)).Nodup->(x,u)∈l->l.lookup x\u
 |(y,v)::l,nd,h=>by
  let n:=iZ.mp nd;rcases bZ.mp h with e|h
  ·cases e;simp[List.lookup]
  have ne:x≠y:=λz=>n.1 (by rw[<- z];exact bG.mpr #[_,h,U]);have:(x == y)=false:=⇑ne
  rw[qi,this];exact Tn n.2 h
theorem Rt:∀(ps:ae) (us:aj),((ps.zip us).map (·.1)).Sublist ps
 |[],_=>by simp
 |_::_,[]=>by simp
 |p::ps,u::us=>by
  simp only[List.zip_cons_cons,eJ];exact (Rt ps us).cons₂ p
theorem d0_{ps:ae}{us:aj}{i:Nat}{x:Str}{u:Aa}(nd:ps.Nodup)(h1:ps[i]? = some x)(h2:us[i]? = some u):(ps.zip us).reverse.lookup x\u:=by
 apply Tn ?_ (List.mem_reverse.mpr (cZ (i:=i) ?_))
 ·rw[List.map_reverse];apply (List.reverse_perm _).nodup_iff.mpr (nd.sublist ?_);exact Rt ps us
 rw[List.getElem?_zip_eq_some];exact#[h1,h2]
structure Im (df:ae) (cl:List (Str × Addr)) (gs:ag) (h:Heap):Prop where
 inj:∀x y c,cl.lookup x\c->cl.lookup y\c->x=y
 has:∀x∈df,∃c,cl.lookup x\c
 all:∀x c,cl.lookup x\c->∃v,h.IsCell c v
 is:∀(i:Nat) x v,df[i]? = some x->gs[i]? = some v->∃c u,cl.lookup x\c/\RelV v u/\h.IsCell c (some u)
theorem IsCell.keeps{h h':Heap}{c:Addr}{v:Option Aa}(x:h.IsCell c v)(k:∀o,h.get? c\o->h'.get? c\o):h'.IsCell c v:=let #[o,e,d]:=x;#[o,k o e,d]
theorem Zf{CX:kQ}{P:Ad}{w:Af}{K:ai}{mg:Str->Option Aa}{base:Heap}{ps df:ae}{qual:Str}{scope:Scope}{f:Addr}{cd:Aa}{cl:List (Str × Addr)}{A:Ag}{outer:List Env}{s:Ab}{H:Hp}{E:XK}{us:aj}{vs gs:ag}{h1:Heap}{tk:Nat}
  (S:II ps df scope) (hd:A.handled=none) (e0:iT P w K mg base A outer s H) (hl:vs.length=ps.length) (hg:gs.length=df.length) (r:Vals vs us) (C:Im df cl gs s.heap) (fc:∀x c,cl.lookup x\c->H c=none)
  (ns:h1.Ns s.heap.objs.size λx=>(ps.zip us).reverse.lookup x) (k:∀b o,s.heap.get? b\o->h1.get? b\o) :
  Inv (BU CX P w K mg base (ps++df) qual scope f cd cl A outer s H E) [] (vs.map some++gs.map some) H { s with heap:=h1,toks:=tk }:=by
 have vI:∀b:Addr,b∉(BU CX P w K mg base (ps++df) qual scope f cd cl A outer s H E).ex:=λb z=>absurd (show b∈([]:au) from z) Y0
 apply#[#[e0.mod,S.kind,U,U,bh _,C.inj,λy hy=>?_,λy c h=>(by cases h),λ_=>hd,Around.frames_deeper e0.frames,.inr #[U,U],λb z=>absurd z (vI b),e0.bs,e0.tV,λb _ _=>vI b,λb z=>absurd z (vI b),e0.fU,e0.vZ],
  rfl,e0.bare,Un.kept k,#[_,ns,λi y v tq h2 h3=>?_],λy c h=>?_,e0.aA.fresh (bh _),fc,λp hp=>absurd (show p∈([]:List (Addr × Obj)) from hp) Y0,e0.aA.kept k,?_]
 ·have hy:scope.names.lookup y\.cell∨scope.names.lookup y\.free:=hy;rcases hy with hy|hy
  ·exact absurd U (S.sj _ (qf hy))
  exact C.has y (S.all y hy)
 ·have tq:(ps++df)[i]? = some y:=tq;by_cases hi:i<ps.length
  ·rw[yi hi] at tq;rw[yi (by simpa [hl] using hi),dF] at h2;let#[v',hv,e]:=Cd.mp h2;cases e;let#[u,hu,rv]:=r.get hv;apply#[u,rv,.inl #[S.par y (cZ tq),?_]];have Gy:ps.Nodup:=(wI.mp S.nd).1;show (ps.zip us).reverse.lookup y\u;exact d0_ Gy tq hu
  rw[Be Z2] at tq;rw[Be (by simp[hl];omega),dF,av,hl] at h2;let#[v',hv,e]:=Cd.mp h2;cases e;let#[c,u,e1,rv,ce]:=C.is _ _ _ tq hv;exact#[u,rv,.inr #[.inr (S.fv y (cZ tq)),c,e1,IsCell.keeps ce λo e=>k _ _ e]]
 ·let#[v,ce]:=C.all y c h;exact#[v,IsCell.keeps ce λo e=>k _ _ e]
 show _=(ps++df).length;rw[d5,d5,av,av,hl,hg]
theorem Za{CX:kQ}{P:Ad}{w:Af}{K:ai}{mg:Str->Option Aa}{base:Heap}{k:Nat}{ps df:ae}{qual:Str}{params:Arguments}{body:PySem.Expr}{scope:Scope}{f c':Addr}{pm kz:Aa}{cl:List (Str × Addr)}{A:Ag}{outer:List Env}{s:Ab}{H:Hp}{Q:VK}{E:XK}{us:aj}{vs gs:ag}{t:TE}
  (S:II ps df scope) (hr:aP (k+1) A) (e0:iT P w K mg base A outer s H) (hf:s.heap.get? f\kla_obj "<lambda>" qual params body scope cl pm c' kz) (iG:s.heap.CodeRec (.ref c') qual)
  (hb:bindArgs (kla_fn "<lambda>" qual params body scope cl pm (.ref c') kz) #[us,[]]=pure (ps.zip us)) (hl:vs.length=ps.length) (hg:gs.length=df.length) (r:Vals vs us) (C:Im df cl gs s.heap) (fc:∀x c,cl.lookup x\c->H c=none)
  (ht:aP k (A.deeper (envX qual scope s.heap.objs.size f (.ref c') cl))->PE (BU CX P w K mg base (ps++df) qual scope f (.ref c') cl A outer s H E) body t) (hq:t (vs.map some++gs.map some) H Q) :
  codeAny (model P w) A (.call (.ref f) #[us,[]]) (CR CX outer P w H s Q E) s:=by
 have lim:s.heap.NoLimit:=e0.mod.nolimit.keeps λb o e=>(e0.bs b o e).1;apply kla_callFunE hr.depth hf U S.co S.gen U iG ?_;rw[hb];apply aF (wpAny_newFunctionEnv S.sj (λx hx=>?_) (λh1 ns sb=>?_) S.kind)
 ·exact S.par x.1 (List.of_mem_zip hx).1
 have k1:∀b o,s.heap.get? b\o->h1.get? b\o:=λb o e=>sb.extBut b o (dG (bx e)) (aQ _ e);apply#[lim.keeps k1,?_];show codeAny _ _ (.expr body (envX qual scope s.heap.objs.size f (.ref c') cl)) _ _;let I:=Zf (CX:=CX) (qual:=qual) (f:=f) (cd:=.ref c') (E:=E) (tk:=s.toks+(ps.zip us).length) S hr.hd e0 hl hg r C fc ns k1;apply kla_codeExpr (wpAny_mono (ht (hr.deeper _) [] _ _ H _ I hq) (λv s' hs=>?_) λe s' hs=>hs);let#[x,H',J,rv,q]:=hs;exact#[x,H',J.os,J.bare,J.base,J.aA,rv,q]
end L2
namespace L2
open PySem PySem.Spec PyProof.Rows PySem.W
def jF(f:Addr)(qual:Str)(params:Arguments)(body:PySem.Expr)(scope:Scope)(cl:List (Str × Addr))(c':Addr):HO:=.ext λh=>∃pm kz,h.get? f\kla_obj "<lambda>" qual params body scope cl pm c' kz
def AG(c':Addr)(qual:Str):HO:=.ext λh=>∃o vs t,h.get? c'\o/\o.data=.fields vs/\vs[1]? = some (.str qual t)
inductive wX (P:Addr) (qual:Str) (params:Arguments) (body:PySem.Expr) (scope:Scope) (pos:Pos) (cl:List (Str × Addr)) (H:Hp) (Q:VK):Prop
 |mk:∀ps,H P\.tbl ps->TriplesOk ps.toList->((codeAmong pos ps.toList=none/\∀c' f,H c'=none->H f=none->c'≠f->Q (.ref f) (upd (upd (upd H P (.tbl (ps++(List.toArray [rawInt pos.line,rawInt pos.col,.ref c'])))) c' (AG c' qual)) f (jF f qual params body scope cl c')))∨∃c',codeAmong pos ps.toList\.ref c'/\∀f,H f=none->Q (.ref f) (upd H f (jF f qual params body scope cl c')))->wX P qual params body scope pos cl H Q
def CN(P:Addr)(qual:Str)(params:Arguments)(body:PySem.Expr)(scope:Scope)(pos:Pos)(cl:List (Str × Addr)):TE:=λ_ H Q=>wX P qual params body scope pos cl H Q
theorem XM{X:Cx}{params:Arguments}{body:PySem.Expr}{scope:Scope}{pos:Pos}{cl:List (Str × Addr)}{c P:Addr}(LF:defaultsOf params X.env=([],[]))(vV:closureFor scope X.env=pure cl)(xH:X.env.code=.ref c)(C:CodeHd X.base c P)(xI:X.base.BuiltinsAt X.mg P) :
  PE X (.Lambda params body scope pos) (CN P (X.env.qual++"<lambda>") params body scope pos cl):=by
 intro pins s σ H Q I h;let#[ps,hP,ht,h]:=h;have Rm:s.heap.get? P\tabObj ps:=I.aA P _ hP
 have Q_:H mainGlobals=none:=by
  let#[o,_,_,e,_]:=I.mod.glob;exact (I.bs _ _ e).2
 apply kla_eval LF ?_;rcases h with⟨hn,q⟩|⟨c',hf,q⟩
 ·apply kla_makeFunction vV I.ok.glob (I.mod.glob.keeps I.bk) xH (C.keeps I.bk) Rm ht hn (λz=>by rw[z,hP] at Q_;cases Q_) (xI.keeps I.bk) λc' kz h' tk hx Ls dI K4 QN=>?_;have fz:s.heap.objs.size<=h'.objs.size:=iQ Ls (Nat.le_of_lt dI);have nc:H c'=none:=I.aA.fresh Ls;have nf:H h'.objs.size=none:=I.aA.fresh fz;have cf:c'≠h'.objs.size:=dG dI;have Pc:P≠c':=bz hP nc;have Pf:P≠h'.objs.size:=bz hP nf
  have old:∀{b u},H b\u->b≠P->upd (upd (upd H P (.tbl (ps++(List.toArray [rawInt pos.line,rawInt pos.col,.ref c'])))) c' (AG c' (X.env.qual++"<lambda>"))) h'.objs.size (jF h'.objs.size (X.env.qual++"<lambda>") params body scope cl c') b\u:=λ{b u} e n=>by
   rw[ax (bz e nf),ax (bz e nc),ax n];exact e
  have sd:∀{b u},H b\u->(∀ps,u≠.tbl ps)->b≠P:=λ{b u} e n z=>by
   rw[z,hP] at e;cases e;exact n _ U
  have kp:∀b o,b≠P->s.heap.get? b\o->(h'.push (kla_obj "<lambda>" (X.env.qual++"<lambda>") params body scope cl ((X.mg "__name__").getD .none) c' kz)).get? b\o:=λb o n e=>aQ _ (hx b o n e);apply#[.ref h'.objs.size,_,I.un (t':=tk) #[λb o e n _ _=>kp b o (λz=>by rw[z,hP] at n;cases n) e,λb o e n _ _=>#[o.slots,kp b o (λz=>by rw[z,hP] at n;cases n) e],λb o e n _=>?_,λb o e _=>?_,λb xs e=>old e (sd e Y0),λb o u e=>old e (sd e Y0),λb qs e=>?_] (λb u e=>?_),U,q c' h'.objs.size nc nf cf]
  ·let lt:=bx e;rw[ax (dG (jt lt fz)),ax (dG (jt lt Ls)),ax (λz=>by rw[z,hP] at n;cases n)];exact n
  ·by_cases z:b=P
   ·subst z;exact#[_,aQ _ QN]
   exact#[o,kp b o z e]
  ·by_cases z:b=P
   ·subst z;rw[hP] at e;cases e;exact#[_,by rw[ax Pf,ax Pc,az]]
   exact#[#[],by rw[Array.append_empty];exact old e z]
  by_cases z1:b=h'.objs.size
  ·subst z1;rw[az] at e;cases e;exact#[#[_,_,cJ _ U],#[_,cJ _ U],λh1 h2 ⟨pm,cv,e1⟩ k=>#[pm,cv,k _ e1]]
  rw[ax z1] at e;by_cases z2:b=c'
  ·subst z2;rw[az] at e;cases e;let#[c2,oc,vs,t,ec,Ei,hd,hv]:=K4;cases ec;exact#[#[oc,vs,t,aQ _ Ei,hd,hv],#[_,aQ _ Ei],λh1 h2 ⟨o,vs,t,e1,r⟩ k=>#[o,vs,t,k _ e1,r]]
  rw[ax z2] at e;by_cases z3:b=P
  ·subst z3;rw[az] at e;cases e;exact aQ _ QN
  rw[ax z3] at e;apply (I.aA b u e).eO (λd v hd e1=>kp d v ?_ e1) (λd e1=>old e1 (sd e1 Y0)) λd xs e1=>old e1 (sd e1 Y0);rcases hd with rfl|hd
  ·exact z3
  exact sd hd Y0
 apply kla_makeFunctionHit vV I.ok.glob (I.mod.glob.keeps I.bk) xH (C.keeps I.bk) Rm ht hf (xI.keeps I.bk) λkz h' tk hk hsz=>?_;have nf:H h'.objs.size=none:=I.aA.fresh hsz;apply#[.ref h'.objs.size,_,I.laid (t':=tk) (λb o e=>aQ _ (hk b o e)) hsz ?_,U,q _ nf];exact#[#[_,_,cJ _ U],#[_,cJ _ U],λh1 h2 ⟨pm,cv,e1⟩ k=>#[pm,cv,k _ e1]]
end L2
namespace L2
open PySem PySem.Spec PyProof.Rows PySem.W
theorem vE{P:Ad}{w:Af}{K:ai}{mg:Str->Option Aa}{base:Heap}{N:ae}{qual:Str}{scope:Scope}{f:Addr}{cd:Aa}{cl:List (Str × Addr)}{A:Ag}{outer:List Env}{s:Ab}{H:Hp}{E:XK}:wC a_ (BU a_ P w K mg base N qual scope f cd cl A outer s H E) E:=λ_ _ _ _ _ _ _ h=>h.elim
section
variable{cs:List (Addr × Obj)}{H H':Hp}{b:Addr}{o:Obj}{u:HO}
variable{P:Ad}{w:Af}{h:Heap}
end
section
variable{X:Cx}{pins:List (Addr × Obj)}{σ:St}{H:Hp}{s s':Ab}{cs:List (Addr × Obj)}
def j7(P:Ad)(w:Af)(K:ai)(mg:Str->Option Aa)(base:Heap)(k:Nat)(qual:Str)(params:Arguments)(body:PySem.Expr)(scope:Scope)(ps df:ae)(sp:ag->ag->Hp->VK->XK->Prop):Prop:=
 ∀(A:Ag) (outer:List Env) (s:Ab) (H:Hp) (f c':Addr) (pm kz:Aa) (cl:List (Str × Addr)) (us:aj) (vs gs:ag) (Q:VK) (E:XK),aP k A->iT P w K mg base A outer s H->s.heap.get? f\kla_obj "<lambda>" qual params body scope cl pm c' kz->s.heap.CodeRec (.ref c') qual->
  vs.length=ps.length->gs.length=df.length->Vals vs us->Im df cl gs s.heap->(∀x c,cl.lookup x\c->H c=none)->sp vs gs H Q E->codeAny (model P w) A (.call (.ref f) #[us,[]]) (CR a_ outer P w H s Q E) s
theorem DP{P:Ad}{w:Af}{K:ai}{mg:Str->Option Aa}{base:Heap}{k:Nat}{qual:Str}{params:Arguments}{body:PySem.Expr}{scope:Scope}{ps df:ae}{sp:ag->ag->Hp->VK->XK->Prop}(S:II ps df scope)
  (hb:∀pm c' kz cl us,us.length=ps.length->bindArgs (kla_fn "<lambda>" qual params body scope cl pm (.ref c') kz) #[us,[]]=pure (ps.zip us))
  (fP:∀(A:Ag) (outer:List Env) (s:Ab) (H:Hp) (f:Addr) (cd:Aa) (cl:List (Str × Addr)) (vs gs:ag) (Q:VK) (E:XK),aP k (A.deeper (envX qual scope s.heap.objs.size f cd cl))->sp vs gs H Q E->wC a_ (BU a_ P w K mg base (ps++df) qual scope f cd cl A outer s H E) E->
   ∃t,PE (BU a_ P w K mg base (ps++df) qual scope f cd cl A outer s H E) body t/\t (vs.map some++gs.map some) H Q):!j7 (k+1) qual params body scope ps df sp:=by
 intro A outer s H f c' pm kz cl us vs gs Q E hr e0 hf iG hl hg r C fc km;let#[t,ht,hq]:=fP A outer s H f (.ref c') cl vs gs Q E (hr.deeper _) km vE;exact Za S hr e0 hf iG (hb pm c' kz cl us (by rw[<- r.length];exact hl)) hl hg r C fc (λ_=>ht) hq
end
end L2
namespace L2
open PySem PySem.Spec PyProof.Rows PySem.W
structure Jm (df:ae) (cl:List (Str × Addr)) (cs:List (Addr × Obj)) (gs:ag):Prop where
 len:gs.length=df.length
 inj:∀x y c,cl.lookup x\c->cl.lookup y\c->x=y
 has:∀x∈df,∃c,cl.lookup x\c
 all:∀x c,cl.lookup x\c->∃o v,cs.lookup c\o/\o.data=.cell v
 is:∀(i:Nat) x v,df[i]? = some x->gs[i]? = some v->∃c o u,cl.lookup x\c/\cs.lookup c\o/\o.data=.cell (some u)/\RelV v u
section
variable{X:Cx}{k:Nat}{x:Str}{p pos:Pos}{tn:TE}{qual:Str}{params:Arguments}{body:PySem.Expr}{scope:Scope}{df ps:ae}{Bt:ag->ag->Hp->VK->XK->Prop}{E:XK}
end
section
variable{X:Cx}{k:Nat}{x:Str}{p pos:Pos}{e:PySem.Expr}{es:List PySem.Expr}{ta:TA}{df ps:ae}{sp:Sp}{f:Addr}{fd:Ae}{cl:List (Str × Addr)}{is:List Nat}
end
end L2
namespace L2
open PySem PySem.Spec PyProof.Rows PySem.W
theorem gK_{P:Ad}{w:Af}{K:ai}{mg mb:Str->Option Aa}{CX:kQ}{k:Nat}{fa a:Addr}{ts:au}{fd:Ae}{x:Str}{sp:Sp}{aJ:Ab}{vs:aj}{ns:List Int}
  (hT:∀T∈ts,K.lookup T=none) (eT:∀T∈ts,aJ.heap.get? T\tabObj #[]) (Al:∀T∈ts,isCodeTable aJ.heap T)
  (KX:K.In aJ.heap) (Le:aJ.heap.Ns mainGlobals mg) (hb:aJ.heap.Ns builtinsNs mb) (hbb:∀x:Str,x≠"__name__"->mb x=bootBuiltins x) (Lk:aJ.heap.NoLimit) (hg:aJ.gens=#[])
  (ha:aJ.heap.get? a=some { cls:=.type "list",data:=.seq vs.toArray }) (hi:IntsAre vs ns) (hl:ns.length<=sizeLine) (hr:aP k callerA)
  (xI:∃bm ob,mg "__builtins__"\.ref bm/\bm≠builtinsNs/\aJ.heap.get? bm\ob/\ob.cls=.type "module"/\ob.dict\builtinsNs/\ob.data=.plain)
  (F:∀base:Heap,K.In base->base.Ns mainGlobals mg->(∀T∈ts,base.BuiltinsAt mg T)->!ao CX k fa fd [x] sp) (EI:∀(s:Ab) (u:Aa),BindsTo s fd #[[u],[]] [(x,u)])
  (km:∀H:Hp,(∀T∈ts,H T\.tbl #[])->dU K H a (ns.map V.int)->sp [.ref a] H (λv _=>v=.bl true) λ_ _ _=>False)
  (LU:∀H e s',CX [] H aJ (λ_ _ _=>False) e s'->False) :
  codeAny (model P w) callerA (.call (.ref fa) #[[.ref a],[]]) (λr s'=>r=.ok (.ret (.bool true))/\OldK aJ.heap s'.heap/\s'.os=aJ.os/\AllBare s'.gens) aJ:=by
 let rv:=Su hi;let KG:=hi.length
 have aT:∀{b},b∈ts->b≠a:=λ{b} hb z=>by
  have:=eT b hb;rw[z,ha] at this;cases this
 have core:∀H:Hp,(∀b,H b=none∨(b∈ts/\H b\.tbl #[])∨(b∉ts/\∃o xs,H b\.frz o (.lst xs)))->(∀T∈ts,H T\.tbl #[])->dU K H a (ns.map V.int)->fM P w H aJ.heap->(∀b,H b≠none->b=a∨b∈ts)->(H a≠none->K.lookup a=none)->
   codeAny (model P w) callerA (.call (.ref fa) #[[.ref a],[]]) (λr s'=>r=.ok (.ret (.bool true))/\OldK aJ.heap s'.heap/\s'.os=aJ.os/\AllBare s'.gens) aJ:=by
  intro H hO hHT hS aA hA hK;have jd:∀{b:Addr} {o:Obj},aJ.heap.get? b\o->H b=none->(iF aJ.heap H).get? b\o:=λe n=>hZ_ e n
  have vI:∀{b:Addr} {o:Obj} {es:Array DictEntry} {ep:Nat},aJ.heap.get? b\o->o.data=.dict es ep->H b=none:=λ{b o es ep} e d=>by
   cases q:H b with
   |none=>rfl
   |some u=>
    rcases hA b (by rw[q];simp) with e'|e'
    ·subst e';rw[ha] at e;cases e;have d':Data.seq vs.toArray _=Data.dict es ep:=d;cases d'
    rw[eT b e'] at e;cases e;cases d
  have Gv:∀{b:Addr} {m:Str->Option Aa},aJ.heap.Ns b m->(iF aJ.heap H).Ns b m:=λ{b m} ⟨o,es,ep,e,d,r⟩=>#[o,es,ep,jd e (vI e d),d,r]
  have Ro:K.In (iF aJ.heap H):=λb o e=>jd (KX b o e) (by
   cases q:H b with
   |none=>rfl
   |some u=>
    rcases hA b (by rw[q];simp) with e'|e'
    ·subst e';rw[hK (by rw[q];simp)] at e;cases e
    rw[hT b e'] at e;cases e)
  have hB:∀T∈ts,(iF aJ.heap H).BuiltinsAt mg T:=λT LP=>by
   let#[bm,ob,h1,h2,h3,h4,h5,h6]:=xI
   have n1:bm≠mainGlobals:=λz=>by
    let#[o,es,ep,e,d,_]:=Le;rw[z,e] at h3;cases h3;rw[d] at h6;cases h6
   have n2:∀{b},b∈ts->bm≠b:=λ{b} hb z=>by
    rw[z,eT b hb] at h3;cases h3;cases h6
   apply#[bm,ob,h1,h2,n1,n2 LP,jd h3 ?_,h4,h5,h6];cases q:H bm with
   |none=>rfl
   |some u=>
    rcases hA bm (by rw[q];simp) with e'|e'
    ·subst e';rw[ha] at h3;cases h3;cases h6
    exact absurd U (n2 e')
  have hM:Mod K mg (iF aJ.heap H):=#[Ro,Gv Le,#[mb,Gv hb,hbb],let #[mc,h1,h2]:=Lk;#[mc,Gv h1,h2]];have e0:iT P w K mg (iF aJ.heap H) callerA [] aJ H:=#[U,hM,λb o e=>Ys e,Nat.le_of_eq (g1_ _ _),trivial,λb hb=>absurd (show b∈([]:au) from hb) Y0,aA,.of_eq hg];apply codeAny_mono ((F _ Ro (Gv Le) hB).run callerA [] aJ H #[[.ref a],[]] [.ref a] [.ref a] _ _ hr e0 (EI aJ (.ref a)) (.cons U .nil) (km H hHT hS)) λr s' h=>?_;cases r with
  |error e=>exact (LU H e s' h).elim
  |ok fl=>
   cases fl with
   |next=>exact False.elim h
   |brk=>exact False.elim h
   |cont=>exact False.elim h
   |ret u=>
    let#[v,H',os,bare,un,Eg,r',q]:=h;have q':v=.bl true:=q;subst q';obtain rfl:u=Value.bool true:=r'
    have main:∀b o,aJ.heap.get? b\o->s'.heap.get? b\o∨(b∈ts/\o=tabObj #[]/\∃more,s'.heap.get? b\tabObj (#[]++more)):=λb o e=>by
     cases q:H b with
     |none=>exact .inl (un.keep b o e q (by intro z;exact absurd (show b∈([]:au) from z) Y0) Y0)
     |some u=>
      rcases hO b with z|⟨zT,z⟩|⟨_,ob,xs,z⟩
      ·rw[q] at z;cases z
      ·rw[eT b zT] at e;cases e;let#[more,z]:=un.ix b _ z;exact .inr #[zT,U,more,Eg b _ z]
      let z2:=un.hY b ob _ z;let#[e1,_]:=aA b _ z;let#[e2,_]:=Eg b _ z2;rw[e] at e1;cases e1;exact .inl e2
    apply#[U,#[λb o e=>?_,λb o e=>?_],os,bare]
    ·rcases main b o e with z|⟨zT,rfl,more,z⟩
     ·exact .inl z
     exact .inr (.inl #[Al b zT,U,_,_,U,z])
    rcases main b o e with z|⟨_,_,more,z⟩
    ·exact#[_,z]
    exact#[_,z]
 cases hk:K.lookup a with
 |some o=>
  let e:=KX a o hk;rw[ha] at e;cases e;apply core (λb=>if b∈ts then some (.tbl #[]) else none) (λb=>?_) (λT h=>aI h) (.inr #[_,vs.toArray,_,hk,U,U,U,by rw[dh,KG];exact hl,by simpa using rv]) (λb u z=>?_) (λb z=>?_) λz=>absurd (aC λq=>aT q U) z
  ·by_cases hb:b∈ts
   ·exact .inr (.inl #[hb,aI hb])
   exact .inl (aC hb)
  ·by_cases hb:b∈ts
   ·let z':=(aI hb).symm.trans z;cases z';exact eT b hb
   let z':=(aC hb).symm.trans z;cases z'
  ·by_cases hb:b∈ts
   ·exact .inr hb
   ·exact absurd (aC hb) z
 |none=>
  have T2:∀{b:Addr},b∈ts->(λb=>if b∈ts then some (.tbl #[]) else if b=a then some (HO.frz { cls:=.type "list",data:=.seq vs.toArray } (.lst (ns.map V.int))) else none) b\.tbl #[]:=λ{b} hb=>aI hb;apply core (λb=>if b∈ts then some (.tbl #[]) else if b=a then some (.frz { cls:=.type "list",data:=.seq vs.toArray } (.lst (ns.map V.int))) else none) (λb=>?_) (λT h=>aI h) (.inl (.inr #[{ cls:=.type "list",data:=.seq vs.toArray },(aC λq=>aT q U).trans (aI U)])) (λb u z=>?_) (λb z=>?_) λ_=>hk
  ·by_cases mi:b∈ts
   ·exact .inr (.inl #[mi,aI mi])
   by_cases hb:b=a
   ·exact .inr (.inr #[mi,_,_,(aC mi).trans (aI hb)])
   exact .inl ((aC mi).trans (aC hb))
  ·by_cases mi:b∈ts
   ·let z':=(aI mi).symm.trans z;cases z';exact eT b mi
   by_cases hb:b=a
   ·let z':=((aC mi).trans (aI hb)).symm.trans z;cases z';subst hb;exact#[ha,by rw[av];exact hl,vs,_,rv,ha]
   let z':=((aC mi).trans (aC hb)).symm.trans z;cases z'
  by_cases mi:b∈ts
  ·exact .inr mi
  by_cases hb:b=a
  ·exact .inl hb
  exact absurd ((aC mi).trans (aC hb)) z
theorem fI_{K:ai}{T:Addr}(h:T∉K.map (·.1)):K.lookup T=none:=by
 induction K with
 |nil=>rfl
 |cons p K ih=>
  let#[b,o]:=p;simp only[eJ,bZ,not_or] at h;rw[qi,show (T == b)=false by simpa using h.1];exact ih h.2
theorem qu{l:PySem.W.OpenLaw}{n k:Nat}{q:Ad}{loose:ae}{XP:(Str->Option Aa)->Heap->Prop}{d:DefRec}{K:Params->ai}{as ts:au}{HJ:∀P:Params,as=(K P).map (·.1)}{CX:Af->kQ}{sp:Af->Sp}{x:Str}
  (hn:l.most\n) (xC:n<=sizeLine) (EG:d.params.defaults=[]) (hr:aP k callerA)
  (K0:(ts.all λT=>!as.contains T)=true)
  (F:∀(w:Af) (mg:Str->Option Aa) (fa:Addr) (h:Heap),(K w.params).In h->h.Ns mainGlobals mg->mg d.name\.ref fa->
   ∃fd:Ae,(∀(s:Ab) (u:Aa),BindsTo s fd #[[u],[]] [(x,u)])/\(∀T∈ts,isCodeTable h T) /\
    ∀base:Heap,(K w.params).In base->base.Ns mainGlobals mg->(∀T∈ts,base.BuiltinsAt mg T)->ao l.prog w (K w.params) mg base (CX w) k fa fd [x] (sp w))
  (km:∀(w:Af) (H:Hp) (a:Addr) (ns:List Int),ns.length<=n->(∀T∈ts,H T\.tbl #[])->dU (K w.params) H a (ns.map V.int)->sp w [.ref a] H (λv _=>v=.bl true) λ_ _ _=>False)
  (LU:∀(w:Af) (H:Hp) (s:Ab) (e:Aa) (s':Ab),CX w [] H s (λ_ _ _=>False) e s'->False) :
  PySem.W.WalkO q loose XP (kmHook K as HJ ts).says l.row.toRowW d [] (λf vs=>PySem.call f vs):=by
 apply UG.jS hn EG λw di aJ mg mb fa o pm cd doc a vs ns G Y ho hd iG hmg zU hints hlen hg=>?_;have KX:(K w.params).In aJ.heap:=km_in_of Y;have eT:∀T∈ts,aJ.heap.get? T\tabObj #[]:=Y.2;let#[fd,hb,Al,hF]:=F w mg fa _ KX G.T.g hmg;apply gK_ (λT h=>fI_ ?_) eT Al KX G.T.g G.T.b G.T.builtins G.T.nolimit hg zU hints (iQ hlen xC) hr G.T.bmain hF hb (λH hO hS=>km w H a ns hlen hO hS) λH e s'=>LU w H aJ e s';have:=List.all_eq_true.mp K0 T h;rw[<- HJ w.params];simpa using this
end L2
namespace L2
open PySem PySem.Spec PyProof.Rows
section
variable{X:Cx}
end
open PySem.W in
def mC:List (Pos × Addr)->aj
 |[]=>[]
 |(p,c)::es=>rawInt p.line::rawInt p.col::.ref c::mC es
def mG(H:Hp)(T:Addr)(qual:Str):Prop:=∃es:List (Pos × Addr),H T\.tbl (mC es).toArray/\∀e∈es,H e.2\AG e.2 qual
theorem mG.same{H H':Hp}{T:Addr}{qual:Str}(s:aa H H')(h:mG H T qual):mG H' T qual:=by
 let#[es,a,b]:=h;exact#[es,s _ _ a,λe he=>s _ _ (b e he)]
theorem SX:∀es:List (Pos × Addr),TriplesOk (mC es)
 |[]=>trivial
 |(p,c)::es=>by
  have:=SX es;simp[mC,TriplesOk,rawInt,this]
theorem SE:∀(es:List (Pos × Addr)) (p:Pos) (c:Addr),mC (es++[(p,c)])=mC es++[rawInt p.line,rawInt p.col,.ref c]
 |[],p,c=>rfl
 |(p',c')::es,p,c=>by
  show rawInt p'.line::rawInt p'.col::.ref c'::mC (es++[(p,c)])=_;rw[SE es p c];rfl
theorem Ub(pos:Pos):∀es:List (Pos × Addr),codeAmong pos (mC es)=none∨∃e∈es,codeAmong pos (mC es)\.ref e.2
 |[]=>.inl U
 |(p,c)::es=>by
  by_cases h:codeAmong pos (mC ((p,c)::es))\.ref c
  ·exact .inr #[(p,c),gF,h]
  have e:codeAmong pos (mC ((p,c)::es))=codeAmong pos (mC es):=by
   show codeAmong pos (rawInt p.line::rawInt p.col::.ref c::mC es)=_;have h:¬codeAmong pos (rawInt p.line::rawInt p.col::.ref c::mC es)=some (.ref c):=h;simp only[codeAmong,rawInt] at h ⊢;split at h
   ·exact absurd U h
   rename_i q
   rw[aC q]
  rcases Ub pos es with q|⟨x,hx,q⟩
  ·exact .inl (e.trans q)
  exact .inr #[x,fX _ hx,e.trans q]
end L2
namespace L2
open PySem PySem.Spec PyProof.Rows PySem.W mR
section
variable{X:Cx}{pins:List (Addr × Obj)}{σ:St}{H:Hp}{s:Ab}
theorem Inv.yy{h':Heap}{t':Nat}{fp:au}{T:Addr}{ys:ag}{its:aj}{n:Nat}(I:Inv X pins σ H s)(k:∀b o,b∉fp->s.heap.get? b\o->h'.get? b\o)(hf:∀b∈fp,dA X pins H b)
  (hT:T∈fp) (hz:ys.length<=sizeLine) (r:Vals ys its) (ht:h'.get? T=some { cls:=.type "list",data:=.seq its.toArray n }):Inv X pins σ (upd H T (.lst ys)) { s with heap:=h',toks:=t' }:=by
 have fT:H T=none:=(hf T hT).1;have nf:∀b u,H b\u->b∉fp:=λb u e hb=>by rw[(hf b hb).1] at e;cases e
 have old:∀{b u},H b\u->upd H T (.lst ys) b\u:=λe=>by rw[ax (bz e fT)];exact e
 apply I.step (g':=s.gens) (d':=s.drawn) (ch:=fp) (λb hb=>?_) (λb o _ _ hc e _=>k b o hc e) (λb o _ _ hc e _=>#[o.slots,k b o hc e]) (λb o hc e n=>?_)
  (λb o hc e=>#[o,k b o hc e]) (λb ys e=>old e) (λb o u e=>old e) (λb ps e=>#[#[],by rw[Array.append_empty];exact old e]) (λm hm=>?_) (λb u e=>?_) I.bare
 ·let#[f0,f1,f2,f3,f4,f5]:=hf b hb;exact#[f3,f1,f4,f5]
 ·rw[ax (λz=>hc (by rw[z];exact hT))];exact n
 ·let#[o,es,ep,ho,r]:=hm;exact#[o,es,ep,k _ o (λhb=>(hf _ hb).2.1 U) ho,r]
 by_cases z:b=T
 ·subst z;rw[az] at e;cases e;exact#[hz,its,n,r,ht]
 rw[ax z] at e;apply (I.aA b u e).eO (λc v hc q=>k c v ?_ q) (λ_ q=>old q) λ_ _ q=>old q;rcases hc with z|z
 ·rw[z];exact nf b u e
 exact nf c _ z
theorem dA.at{H':Hp}{b:Addr}(f:dA X pins H b)(n:H' b=none):dA X pins H' b:=#[n,f.2]
end
section
variable{X:Cx}{pins:List (Addr × Obj)}{σ:St}{H:Hp}{s:Ab}{B:Ag}
theorem YD{xs zs:ag}{kf:V->aq}{p:Array Nat}(g:Good xs.length p)(up:Up (λi j=>bI ((xs.map kf).getD i []) ((xs.map kf).getD j [])) p xs.length)(ez:zs=p.toList.map λi=>xs.getD i .non):zs.Perm xs/\zs.map kf=bj (xs.map kf):=by
 have gk:Good (xs.map kf).length p:=by rw[av];exact g
 let asc:=Mw (ks:=xs.map kf) (λi j _ _=>rfl) gk (by rw[av];exact up)
 have perm:(p.toList.map λi=>(xs.map kf).getD i []).Perm (xs.map kf):=by
  have:=FJ gk λi=>(xs.map kf).getD i [];rwa [FN] at this
 let es:=N4 perm asc;apply#[?_,?_]
 ·have:=FJ (n:=xs.length) g λi=>xs.getD i .non;rw[FN] at this;rw[ez];exact this
 rw[<- es,ez,cz];apply u4 λi hi=>?_;have m:i∈(List.range xs.length).toArray:=g.mem_iff.mp ⇑hi;have m:i<xs.length:=⇑m
 show kf (xs.getD i .non)=(xs.map kf).getD i [];simp[List.getD,m]
end
end L2
namespace L2
open PySem PySem.Spec PyProof.Rows PySem.W mR
section
variable{X:Cx}{pins:List (Addr × Obj)}{σ:St}{H:Hp}{s:Ab}
theorem Inv.tP{df:ae}{cl:List (Str × Addr)}{is:List Nat}{gs:ag}(I:Inv X pins σ H s)(l_:∀q∈cl,X.env.cells.lookup q.1\q.2)(vV:∀x∈df,∃c,cl.lookup x\c)(Ew:∀x∈df,X.env.scope.names.lookup x\.cell)(hN:is.map (λi=>X.N[i]?)=df.map some)
  (BE:is.map (λi=>σ[i]?)=gs.map (λv=>some (some v))):gs.length=df.length/\Im df cl gs s.heap/\∀x c,cl.lookup x\c->H c=none:=by
 have lk:∀{x c},cl.lookup x\c->(x,c)∈cl:=λe=>qf e;apply#[?_,#[λa b c h1 h2=>I.ok.inj a b c (l_ _ (lk h1)) (l_ _ (lk h2)),vV,λa c h1=>I.cell a c (l_ _ (lk h1)),λj a v h1 h2=>?_],λx c e=>I.d7 x c (l_ _ (lk e))]
 ·let a:=eg List.length BE;let b:=eg List.length hN;simp only[av] at a b;omega
 let#[c,hc]:=vV a (cZ h1);have e1:(is.map λi=>X.N[i]?)[j]? = some (some a):=by rw[hN,dF,h1];rfl
 have e2:(is.map λi=>σ[i]?)[j]? = some (some (some v)):=by rw[BE,dF,h2];rfl
 rw[dF] at e1 e2;let#[i,hi,e1]:=Cd.mp e1;rw[hi] at e2;have e2:σ[i]? = some (some v):=cX e2;let#[m,_,hl]:=I.loc;let kd:=Ew a (cZ h1);let#[u,ru,lo]:=hl i a v e1 e2 (.inr (.inl kd));rcases lo with⟨z,_⟩|⟨_,c2,e3,o,e4,e5⟩
 ·have z:X.env.scope.names.lookup a\.local:=z;rw[kd] at z;cases z
 rw[l_ _ (lk hc)] at e3;cases e3;exact#[c,u,hc,ru,o,e4,e5]
end
def OP(K:ai)(H:Hp)(x:V)(xs:ag):Prop:=(∃l,x=.ref l/\dU K H l xs)∨∃d kvs,x=.ref d/\H d\.dK kvs/\xs=kvs.map λkv=>kV kv.1
end L2
namespace L2
open PySem PySem.Spec PyProof.Rows PySem.W mR
theorem hd_{xs zs:ag}{kf:V->Str}(h:(zs.map λx=>bO (kf x))=bj (xs.map λx=>bO (kf x))):zs.map kf=iN (xs.map kf):=by
 apply RU ?_;rw[Oj,cz,cz];exact h
theorem fT_{prog:Ad}{w:Af}{A:Ag}{s:Ab}{xs:ag}{kf:V->Str}{vs:aj}(r:StrsAre vs (xs.map kf))(h2:2<=vs.length):uy prog w A (λi j=>bI ((xs.map λx=>bO (kf x)).getD i []) ((xs.map λx=>bO (kf x)).getD j [])) vs s:=by
 have:=SI (prog:=prog) (w:=w) (A:=A) (s:=s) r h2;rw[cz] at this;exact this
section
variable{X:Cx}{pins:List (Addr × Obj)}{σ:St}{H:Hp}{s:Ab}
def HG(X:Cx)(σ:St)(B:Ag)(fv:Aa)(H0:Hp)(kf:V->Str)(xs:ag):Prop:=
 ∀(pins:List (Addr × Obj)) (H:Hp) (s:Ab) (x:V) (u:Aa),Inv X pins σ H s->aa H0 H->x∈xs->RelV x u->
  wpAny (model X.prog X.w) B (call fv [u]) (EP X pins σ λv H'=>aa H H'/\v=.str (kf x)) (λ_ _=>False) s
theorem ZJ{B:Ag}{fv:Aa}{a kS:Addr}{e1:Nat}{H0:Hp}{kf:V->Str}{all:ag}{Q:PUnit->Ab->Prop}{E:Aa->Ab->Prop}{body:Aa->PUnit->Sem (ForInStep PUnit)}(l9:a≠kS)(jN:HG X σ B fv H0 kf all)
  (hb:∀(u:Aa) (s:Ab) (Qb:ForInStep PUnit->Ab->Prop),wpAny (model X.prog X.w) B (call fv [u]) (λk s'=>wpAny (model X.prog X.w) B (Builtin.List.listUpdate (.ref kS) (·.push k)) (λ_ pM=>Qb (.yield ⟨⟩) pM) E s') (λ_ _=>False) s->wpAny (model X.prog X.w) B (body u ⟨⟩) Qb E s) :
  ∀(xs:ag) (us:aj) (ks:ag) (kvs:aj) (kk:ae) (H:Hp) (s:Ab) (c:Nat),Vals xs us->(∀x∈xs,x∈all)->Inv X pins σ H s->aa H0 H->dA X pins H a->dA X pins H kS->s.heap.get? a\seqObj "list" #[] e1->s.heap.get? kS\seqObj "list" kvs.toArray c->
   Vals ks kvs->ks=kk.map V.str->kvs.length+us.length<64->
   (∀H' s' fE c',Inv X pins σ H' s'->aa H0 H'->dA X pins H' a->dA X pins H' kS->s'.heap.get? a\seqObj "list" #[] e1->s'.heap.get? kS\seqObj "list" fE.toArray c'->fE.length=kvs.length+us.length->(∃i6,Vals i6 fE/\i6=(kk++xs.map kf).map V.str)->Q ⟨⟩ s')->
   wpAny (model X.prog X.w) B (forIn us PUnit.unit body) Q E s:=by
 intro xs
 induction xs with
 |nil=>
  intro us ks kvs kk H s c rv _ I sm fa fk ha hk r t _ q;cases rv;rw[u7];exact aF (q H s kvs c I sm fa fk ha hk Y0 #[ks,r,by simpa using t])
 |cons x xs ih=>
  intro us ks kvs kk H s c rv hx I sm fa fk ha hk r t hz q
  obtain⟨u,us,rfl,ru,rr⟩:∃u O_,us=u::O_/\RelV x u/\Vals xs O_:=by
   cases rv with
   |cons h t=>exact#[_,_,U,h,t]
  rw[wJ];rw[iR] at hz;apply af (hb u s _ ?_)
  have hf:∀b∈[a,kS],dA X pins H b:=λb hb=>by
   rcases bZ.mp hb with rfl|hb
   ·exact fa
   obtain rfl:b=kS:=⇑hb
   exact fk
  let I1:=I.pinned (fp:=[a,kS]) hf (λb hb=>by
   rcases bZ.mp hb with rfl|hb
   ·exact#[_,ha,λv z=>by cases z]
   obtain rfl:b=kS:=⇑hb
   exact#[_,hk,λv z=>by cases z])
  apply wpAny_mono (jN _ H s x u I1 sm (hx x gF) ru) (λk s1 ⟨v,H1,J,rv,VV,ev⟩=>?_) λ_ _ z=>z
  have pa:(a,seqObj "list" #[] e1)∈wG [a,kS] s.heap:=by
   unfold wG;exact yf.mpr #[a,by simp,by rw[ha];rfl]
  have pk:(kS,seqObj "list" kvs.toArray c)∈wG [a,kS] s.heap:=by
   unfold wG;exact yf.mpr #[kS,by simp,by rw[hk];rfl]
  let#[BI,WZ,_]:=J.pin _ (kP _ (kP _ pa));let#[G0,WW,_]:=J.pin _ (kP _ (kP _ pk));have BI:s1.heap.get? a\seqObj "list" #[] e1:=BI;have G0:s1.heap.get? kS\seqObj "list" kvs.toArray c:=G0;let J0:=J.eN;let fa1:=fa.at (H':=H1) WZ;let RV:=fk.at (H':=H1) WW;have GJ:kvs.length<64:=by omega
  apply listUpdate_at G0 U ?_ (by rw[dh,cq];omega) (iQ (Nat.le_of_eq (Array.size_push ..)) (by rw[dh,cq];omega));have iU:∀b o,b∉[kS]->s1.heap.get? b\o->(s1.heap.update kS (Obj.mapSeq (·.push k))).get? b\o:=λb o hb e=>(uO _ _ (λz=>hb (by simp[z]))).trans e;have ea:kvs.toArray.push k=(kvs++[k]).toArray:=by simp
  obtain⟨c2,jq⟩:∃c2,(s1.heap.update kS (Obj.mapSeq (·.push k))).get? kS\seqObj "list" (kvs++[k]).toArray c2:=#[_,by rw[<- ea];exact get?_update_seq G0 (·.push k)]
  have I2:Inv X pins σ H1 { s1 with heap:=s1.heap.update kS (Obj.mapSeq (·.push k)) }:=J0.fN (t':=s1.toks) (fp:=[kS]) iU (λb hb=>by
   obtain rfl:b=kS:=⇑hb
   exact RV)
  subst ev;apply ih us (ks++[.str (kf x)]) (kvs++[k]) (kk++[kf x]) H1 _ c2 rr (λy hy=>hx y (fX _ hy)) I2 (sm.trans VV) fa1 RV ?_ jq (r.append (.cons rv .nil)) ?_ (by rw[d5,jV];omega) λH' s' fE c' a1 a2 a3 a4 a5 a6 a7 a8=>?_
  ·exact iU a _ ⇑l9 BI
  ·rw[er,<- t];rfl
  apply q H' s' fE c' a1 a2 a3 a4 a5 a6 (by rw[a7,d5,jV,iR];omega) ?_;let#[i6,b1,b2]:=a8;exact#[i6,b1,by simpa using b2]
end
section
variable{X:Cx}{pins:List (Addr × Obj)}{σ:St}{H:Hp}{s:Ab}{B:Ag}
theorem fn_{f a:Addr}{xs:ag}{us:aj}{n:Nat}{P:PySem.Fin->Ab->Prop}{E:Aa->Ab->Prop}{kf:V->Str}(I:Inv X pins σ H s)(fa:dA X pins H a)(ho:s.heap.get? a\seqObj "list" us.toArray n)(r:Vals xs us)(cY:us.length<64)(jN:HG X σ B (.ref f) H kf xs)
  (h:∀zs H' s',Inv X pins σ (upd H' a (.lst zs)) s'->aa H H'->H' a=none->zs.Perm xs->zs.map kf=iN (xs.map kf)->P (.done (.ret .none)) s'):wpAny (model X.prog X.w) B (ksk_tree a (.ref f) false) P E s:=by
 let lx:=r.length;obtain⟨e1,o7⟩:∃e1,(s.heap.update a (Obj.mapSeq λ_=>(#[]:Array Aa))).get? a\seqObj "list" #[] e1:=#[_,get?_update_seq ho λ_=>#[]];have iU:∀b o,b∉[a]->s.heap.get? b\o->(s.heap.update a (Obj.mapSeq λ_=>(#[]:Array Aa))).get? b\o:=λb o hb e=>(uO _ _ (λz=>hb (by simp[z]))).trans e
 have I1:Inv X pins σ H { s with heap:=s.heap.update a (Obj.mapSeq λ_=>(#[]:Array Aa)) }:=I.fN (t':=s.toks) (fp:=[a]) iU (λb hb=>by
  obtain rfl:b=a:=⇑hb
  exact fa)
 unfold ksk_tree;apply af (listItems_at ho U ?_);apply af (listUpdate_at ho U ?_ (by rw[dh,cq];omega) (gP _));apply af (seqEpoch_at o7 U ?_);apply af (wpAny_newTuple ?_ (by show us.length<=_;rw[cq];omega));apply af (wpAny_newList ?_ (gP _));apply iK ?_;have I2:Inv X pins σ H { s with heap:=(s.heap.update a (Obj.mapSeq λ_=>(#[]:Array Aa))).push (seqObj "tuple" us.toArray 0) }:=I1.kept (t':=s.toks) λb u e=>aQ _ e;have I3:Inv X pins σ H { s with heap:=((s.heap.update a (Obj.mapSeq λ_=>(#[]:Array Aa))).push (seqObj "tuple" us.toArray 0)).push (seqObj "list" #[] 0) }:=I2.kept (t':=s.toks) λb u e=>aQ _ e;have fk:dA X pins H ((s.heap.update a (Obj.mapSeq λ_=>(#[]:Array Aa))).push (seqObj "tuple" us.toArray 0)).objs.size:=I2.iH (bh _) (I2.aA.fresh (bh _));have jK:(((s.heap.update a (Obj.mapSeq λ_=>(#[]:Array Aa))).push (seqObj "tuple" us.toArray 0)).push (seqObj "list" #[] 0)).get? a\seqObj "list" #[] e1:=aQ _ (aQ _ o7);have Ln:(((s.heap.update a (Obj.mapSeq λ_=>(#[]:Array Aa))).push (seqObj "tuple" us.toArray 0)).push (seqObj "list" #[] 0)).get? ((s.heap.update a (Obj.mapSeq λ_=>(#[]:Array Aa))).push (seqObj "tuple" us.toArray 0)).objs.size\seqObj "list" #[] 0:=cJ _ U;have l9:a≠((s.heap.update a (Obj.mapSeq λ_=>(#[]:Array Aa))).push (seqObj "tuple" us.toArray 0)).objs.size:=dG (bx (aQ (seqObj "tuple" us.toArray 0) o7));show wpAny (model X.prog X.w) B (ksk_rest a (.ref f) false us.toArray e1 (.ref ((s.heap.update a (Obj.mapSeq λ_=>(#[]:Array Aa))).push (seqObj "tuple" us.toArray 0)).objs.size)) P E { s with heap:=((s.heap.update a (Obj.mapSeq λ_=>(#[]:Array Aa))).push (seqObj "tuple" us.toArray 0)).push (seqObj "list" #[] 0) };generalize ((s.heap.update a (Obj.mapSeq λ_=>(#[]:Array Aa))).push (seqObj "tuple" us.toArray 0)).objs.size=kS at fk Ln l9 ⊢;generalize ((s.heap.update a (Obj.mapSeq λ_=>(#[]:Array Aa))).push (seqObj "tuple" us.toArray 0)).push (seqObj "list" #[] 0)=h3 at I3 jK Ln ⊢;clear I2 I1 iU;unfold ksk_rest;apply af (wpAny_rule ?_);rw[List.forIn_toArray];apply af (ZJ (pins:=pins) (E:=E) (e1:=e1) l9 jN (λu s4 Qb hq=>?_) xs us [] [] [] H _ 0 r (λx hx=>hx) I3 (aa.refl H) fa fk jK Ln .nil U ⇑cY λH5 s5 kvs c5 I5 VJ R_ fk5 EN Q5 lk ⟨ks,rk,tk⟩=>?_)
 ·apply af (wpAny_attempt (wpAny_mono hq (λk pM hk=>?_) λ_ _ hF=>hF.elim));exact af (wpAny_mono hk (λ_ s6 h6=>aF h6) λ_ _ z=>z)
 rw[List.nil_append] at tk;rw[List.length_nil,Nat.zero_add] at lk;apply af (listItems_at Q5 U ?_)
 have tail:∀(p:Array Nat) (st:SortSt),Good xs.length p->Up (λi j=>bI ((xs.map λx=>bO (kf x)).getD i []) ((xs.map λx=>bO (kf x)).getD j [])) p xs.length->(arrOf st).map (·.2)=(mB p us).toArray->failedOf st=none->wpAny (model X.prog X.w) B (ksk_tail a false e1 (.ref kS) st) P E s5:=λp st g up K9 Lx=>by
  have gu:Good us.length p:=by rw[<- lx];exact g
  have hz:(mB p us).length=us.length:=by
   unfold mB;rw[av,ub];exact gu.size
  let s1:=Heap.SameBut.update s5.heap kS (Obj.mapSeq λ_=>(#[]:Array Aa));have vW:(s5.heap.update kS (Obj.mapSeq λ_=>(#[]:Array Aa))).get? a\seqObj "list" #[] e1:=(uO _ _ (bN l9)).trans EN;unfold ksk_tail;dsimp only;rw[K9];apply af (listUpdate_at Q5 U ?_ (by rw[dh,cq];omega) (gP _));apply af (wpAny_letGo ?_);apply af (seqEpoch_at vW U ?_);simp only[qk,if_false];apply af (listUpdate_at vW U ?_ (gP _) (by rw[dh,hz,cq];omega));rw[Lx];simp only[bne_self_eq_false,qk,if_false]
  have zl:(p.toList.map λi=>xs.getD i .non).length<=sizeLine:=by
   rw[av,ub,g.size,cq];omega
  let#[pz,ek]:=YD (kf:=λx=>bO (kf x)) (zs:=p.toList.map λi=>xs.getD i .non) g up U;let ek:=hd_ ek;apply aF (h _ H5 _ (I5.yy (t':=s5.toks) (fp:=[a,kS]) (T:=a) (λb o hb e=>?_) (λb hb=>?_) Y0 zl (MO r gu) (get?_update_seq vW _)) VJ R_.1 pz ek)
  ·have n1:b≠a:=λz=>hb (by simp[z]);have n2:b≠kS:=λz=>hb (by simp[z]);exact (uO _ _ (bN n1)).trans ((uO _ _ (bN n2)).trans e)
  rcases bZ.mp hb with rfl|hb
  ·exact R_
  obtain rfl:b=kS:=⇑hb
  exact fk5
 unfold ksk_end;dsimp only;simp only[qk,if_false];by_cases h2:us.toArray.size<2
 ·rw[aI h2,aI h2];apply af (aF ?_);rw[StateT.run_pure];apply af (aF (tail (List.range xs.length).toArray _ (Array.Perm.refl _) (λi j og hj=>?_) ?_ U))
  ·have e:i=j:=by
    simp only[dh] at h2;omega
   subst e;exact MJ _
  show ((kvs.toArray.zip us.toArray).map λx:Keyed=>x.2)=_;rw[show xs.length=us.length from lx,T1];apply Array.ext' ?_;simp[List.map_snd_zip,lk]
 rw[aC h2,aC h2]
 have gT:2<=us.length:=by
  simp only[dh] at h2;omega
 let#[κ,hk,hc]:=fT_ (prog:=X.prog) (w:=X.w) (A:=B) (s:=s5) (kf:=kf) (xs:=xs) (RW (tk▸rk)) Z2;apply af (wpAny_mono (hk (λk s'=>k=κ/\s'=s5) #[U,U]) (λk s7 Et=>?_) λ_ _ x=>x.elim);let#[rfl,rfl]:=Et;have O:Ord (λi j=>bI ((xs.map λx=>bO (kf x)).getD i []) ((xs.map λx=>bO (kf x)).getD j [])):=Nc _
 apply af (wpAny_mono (kat_run (ks:=kvs) (vs:=us) (G:=λp s'=>s'=s7/\Good us.length p/\Up (λi j=>bI ((xs.map λx=>bO (kf x)).getD i []) ((xs.map λx=>bO (kf x)).getD j [])) p us.length)
  (Q:=λed s'=>∃p:Array Nat,arrOf ed=p.map (kas_item (kvs.toArray.zip us.toArray))/\failedOf ed=none/\s'=s7/\Good us.length p/\Up (λi j=>bI ((xs.map λx=>bO (kf x)).getD i []) ((xs.map λx=>bO (kf x)).getD j [])) p us.length)
  lk gT cY (λp ed s' _ q1 q2 q3=>#[p,q1,q2,q3]) (Ok.wp (n:=us.length) (λi j C hi hj=>hc i j C Z2 Z2) (λp q=>#[U,q]) (Se O Z2))) ?_ λ_ _ x=>x)
 rintro⟨⟨⟩,ed⟩ s' ⟨p,LM,hf,hs',g,u⟩;subst hs';rw[<- lx] at g u;exact tail p ed g u (kat_snds lk LM) hf
end
section
variable{X:Cx}{pins:List (Addr × Obj)}{σ:St}{H:Hp}{s:Ab}
theorem ZI{B:Ag}{k:Nat}{qual:Str}{params:Arguments}{body:PySem.Expr}{scope:Scope}{p:Str}{df:ae}{sp:ag->ag->Hp->VK->XK->Prop}{f c':Addr}{cl:List (Str × Addr)}{is:List Nat}{gs xs:ag}{kf:V->Str}{H0:Hp}(F:j7 X.prog X.w X.K X.mg X.base k qual params body scope [p] df sp)(hr:aP k B)(hB:B.frames=X.A.frames)
  (hf:H0 f\jF f qual params body scope cl c') (hc:H0 c'\AG c' qual) (l_:∀q∈cl,X.env.cells.lookup q.1\q.2) (vV:∀x∈df,∃c,cl.lookup x\c) (Ew:∀x∈df,X.env.scope.names.lookup x\.cell) (hN:is.map (λi=>X.N[i]?)=df.map some) (BE:is.map (λi=>σ[i]?)=gs.map (λv=>some (some v)))
  (km:∀H x,aa H0 H->x∈xs->sp [x] gs H (λv H'=>aa H H'/\v=.str (kf x)) (λ_ _ _=>False)):HG X σ B (.ref f) H0 kf xs:=by
 intro pins H s x u I sm hx ru;let#[#[pm,kz,ef],_]:=I.aA f _ (sm _ _ hf);let#[#[oc,F0,t,ec,d1,d2],_]:=I.aA c' _ (sm _ _ hc);let#[hg,C,fc]:=I.tP l_ vV Ew hN BE;let e0:=I.AC;apply wpAny_call (codeAny_mono (F B X.stack s H f c' pm kz cl [u] [x] gs _ _ hr #[hB.trans e0.frames,e0.mod,e0.bs,e0.tV,e0.fU,e0.vZ,e0.aA,e0.bare] ef #[c',oc,F0,t,U,ec,d1,d2] U hg (.cons ru .nil) C fc (km H x sm hx)) λr s' hq=>?_);cases r with
 |error e=>
  let#[a,cls,H',B,a0,dd,rfl,os,bare,un,aA,fl,i,hE]:=hq
 |ok fl=>
  cases fl with
  |ret u=>exact I.after hq
  |next=>exact False.elim hq
  |brk=>exact False.elim hq
  |cont=>exact False.elim hq
theorem qR{f:Addr}{x:Aa}{xs:ag}{kf:V->Str}{Q:VK}{E:Aa->Ab->Prop}(I:Inv X pins σ H s)(cY:xs.length<64)(jN:HG X σ X.A.in1.in1 (.ref f) H kf xs)
  (mh:∀R:aj->Ab->Prop,(∀vs s1,Inv X pins σ H s1->Vals xs vs->R vs s1)->wpAny (model X.prog X.w) X.A.in1 (collect x) R E s)
  (q:∀l zs H',aa H H'->H' l=none->H l=none->zs.Perm xs->zs.map kf=iN (xs.map kf)->Q (.ref l) (upd H' l (.lst zs))):wpAny (model X.prog X.w) X.A (call (.builtin "sorted") [x] [(Str.ofString "key",.ref f)]) (EP X pins σ Q) E s:=by
 apply call_function_entry_kw kind_sorted plain_sorted entry_sorted (ksk_s1 _ _) ?_;unfold Builtin.«sorted»;apply af (m:=checkCount "sorted" 1 1 _) (aF ?_);apply af (mh _ λvs s1 I1 r=>?_);let lv:=r.length;apply af (wpAny_newList ?_ (by rw[cq];omega));have GU:(s1.heap.push (seqObj "list" vs.toArray 0)).get? s1.heap.objs.size\seqObj "list" vs.toArray 0:=cJ _ U;have I2:Inv X pins σ H { s1 with heap:=s1.heap.push (seqObj "list" vs.toArray 0) }:=I1.kept (t':=s1.toks) λb u e=>aQ _ e;have fa:dA X pins H s1.heap.objs.size:=I1.iH (bh _) (I1.aA.fresh (bh _));have nl:H s1.heap.objs.size=none:=I1.aA.fresh (bh _);apply af (iK (wpAny_call_entry_kw slot_list_sort #[_,GU,U] entry_list_sort ?body (ksk_l1 _ _)))
 case body=>
  show wpAny (model X.prog X.w) X.A.in1.in1 (Builtin.«list.sort» #[[.ref s1.heap.objs.size],[(Str.ofString "key",.ref f)]]) _ _ _;rw[ksk_t1];apply fn_ (s:={ s1 with heap:=s1.heap.push (seqObj "list" vs.toArray 0) }) I2 fa GU r Z2 jN λzs H' s' I' sm na pz ek=>?_;exact#[_,U,aF #[_,U,.ref _,_,I',U,q _ zs H' sm na nl pz ek]]
end
inductive SA (K:ai) (qual:Str) (params:Arguments) (body:PySem.Expr) (scope:Scope) (cl:List (Str × Addr)) (is:List Nat) (sp:ag->ag->Hp->VK->XK->Prop) (σ:St) (H:Hp) (Q:VK) (vs:ag) (ws:ag) (H2:Hp):Prop
 |mk:∀x f c' xs kf gs,vs=[x]->ws=[.ref f]->H2 f\jF f qual params body scope cl c'->H2 c'\AG c' qual->OP K H2 x xs->xs.length<64->is.map (λi=>σ[i]?)=gs.map (λv=>some (some v))->(∀H x,aa H2 H->x∈xs->sp [x] gs H (λv H'=>aa H H'/\v=.str (kf x)) (λ_ _ _=>False))->(∀l zs H',aa H2 H'->H' l=none->H2 l=none->zs.Perm xs->zs.map kf=iN (xs.map kf)->Q (.ref l) (upd H' l (.lst zs)))->SA K qual params body scope cl is sp σ H Q vs ws H2
def vm(K:ai)(qual:Str)(params:Arguments)(body:PySem.Expr)(scope:Scope)(cl:List (Str × Addr))(is:List Nat)(sp:ag->ag->Hp->VK->XK->Prop)(t tk:TA):TE:=λσ H Q=>t σ H λvs H1=>tk σ H1 λws H2=>SA K qual params body scope cl is sp σ H Q vs ws H2
theorem h7_{X:Cx}{e:PySem.Expr}{t tk:TA}{p pos kp sJ:Pos}{k:Nat}{params:Arguments}{body:PySem.Expr}{scope:Scope}{px:Str}{df:ae}{qual:Str}{sp:ag->ag->Hp->VK->XK->Prop}{cl:List (Str × Addr)}{is:List Nat}(hc:X.calm=true)(hg:Gl X "sorted")(hm:X.mg "sorted"=none)(ha:PA X [e] t)(_S:PK X [#[some "key",.Lambda params body scope sJ,kp]] tk)
  (F:j7 X.prog X.w X.K X.mg X.base k qual params body scope [px] df sp) (hr:aP (k+2) X.A) (l_:∀q∈cl,X.env.cells.lookup q.1\q.2) (vV:∀x∈df,∃c,cl.lookup x\c) (Ew:∀x∈df,X.env.scope.names.lookup x\.cell) (hN:is.map (λi=>X.N[i]?)=df.map some)
  (he:starEach [e] X.env=[(false,eval e X.env)]:=by rfl) (Ap:(backToKw pos (keywordEach [#[some "key",.Lambda params body scope sJ,kp]] X.env)).all (·.1.isSome)=true:=by rfl) (Et:(backToKw pos (keywordEach [#[some "key",.Lambda params body scope sJ,kp]] X.env)).filterMap (·.1)=[Str.ofString "key"]:=by rfl)
  (_T:(backToKw pos (keywordEach [#[some "key",.Lambda params body scope sJ,kp]] X.env)).any (·.1.isNone)=false:=by rfl):PE X (.Call (.Name "sorted" p) [e] [#[some "key",.Lambda params body scope sJ,kp]] pos) (vm X.K qual params body scope cl is sp t tk):=by
 intro pins s σ H Q I h;apply wpAny_Call_Name_kw (uV I hg hm I_ ?_);let hA:=ha pos pins s σ H _ I h;rw[he] at hA ⊢;apply callWith_builtin_kwB (first:=[]) U _T (evalArgs_kwB Ap (aO hA λus s1 ⟨vs,H1,I1,r1,q1⟩=>?_));apply aO (_S pos pins s1 σ H1 _ I1 q1) λws s2 ⟨zs,H2,I2,rz,x,f,c',xs,kf,gs,ev,ez,hf,iG,src,cY,BE,km,q⟩=>?_;subst ev ez;let#[u,rfl,ru]:=Vals.one r1;let#[fv,rfl,rf]:=Vals.one rz;cases rf;rw[Et];have hd:X.A.in1.handled=none:=I.ok.hd hc;apply qR I2 cY (ZI F hr.in1.in1 U hf iG l_ vV Ew hN BE km) (λR hR=>?_) q;rcases src with⟨l,rfl,hl⟩|⟨d,kvs,rfl,hd2,rfl⟩
 ·cases ru;exact hF_ I2 hl Z2 hR
 cases ru;exact QG hd I2 (.inl hd2) hR
end L2
namespace L2
open PySem PySem.Spec PyProof.Rows
structure wM (K:ai) (x qual:Str) (st:Stmt) (f c:Addr) (fd:Ae):Prop where
 ex:∃(oc:Aa) (od:Option Addr) (kV doc pm:Aa) (an:Option Addr) (ct:Aa) (jy:Array (Option Aa)),
  fd=PySem.W.fnOf x qual (gU st) (gc st) (a9 st) .none kV doc pm an (.ref c) ct/\K.lookup f=some #[oc,od,.func fd,jy]/\PySem.W.codeIn K (.ref c) qual=true
 kp:PySem.W.keepIn K (.ref f)=true
theorem wM.ok{P:Ad}{w:Af}{K:ai}{mg:Str->Option Aa}{base:Heap}{x qual:Str}{st:Stmt}{f c:Addr}{fd:Ae}{N ps:ae}{k:Nat}{sp:Sp}(F:wM K x qual st f c fd)(S:bJ N ps (a9 st))(len:∀vs H Q E,sp vs H Q E->vs.length=ps.length)
  (fP:∀(A:Ag) (outer:List Env) (s:Ab) (H:Hp) (vs:ag) (Q:VK) (E:XK),aP k (A.deeper (envOfC qual (a9 st) s.heap.objs.size f (.ref c)))->sp vs H Q E->
   ∃t,j0 (i9 a_ P w K mg base N qual (a9 st) f (.ref c) A outer s H E).xo (gc st) t/\t { nx:=λ_ H'=>Q .non H',rt:=Q } (start N vs) H):!ao a_ (k+1) f fd ps sp:=by
 let#[oc,od,kV,doc,pm,an,ct,jy,rfl,lk,iG]:=F.ex;apply Qh lk iG S len λA outer s H vs Q E hr km=>?_;let#[t,h,q]:=fP A outer s H vs Q E hr km;exact#[t,h.xo,q]
end L2
namespace Ev
open PySem L2
def NT(H G:Hp):Prop:=∀b o,H b\o->(∀vs,o≠.tbl vs)->G b\o
theorem NT.of{H G:Hp}(s:aa H G):NT H G:=λb o e _=>s b o e
theorem NT.refl(H:Hp):NT H H:=NT.of (aa.refl H)
theorem NT.trans{H G J:Hp}(s:NT H G)(t:NT G J):NT H J:=λb o e n=>t b o (s b o e n) n
theorem aV.nt{T:Addr}{H G:Hp}{vs:Array Aa}(b:aV T H G)(hT:H T\.tbl vs):NT H G:=λc o e n=>b c o e (λz=>by
 rw[z,hT] at e;exact n _ (cX e).symm)
theorem NT.tup{H G:Hp}(s:NT H G){a:Addr}{xs:ag}(h:H a\.tup xs):G a\.tup xs:=s _ _ h nofun
theorem NT.lst{H G:Hp}(s:NT H G){a:Addr}{xs:ag}(h:H a\.lst xs):G a\.lst xs:=s _ _ h nofun
theorem NT.dK{H G:Hp}(s:NT H G){a:Addr}{xs:List (Key × V)}(h:H a\.dK xs):G a\.dK xs:=s _ _ h nofun
theorem XH{H:Hp}{T:Addr}{qual q':Str}{a a':Arguments}{b b':Expr}{sc Gc:Scope}{ps:Pos}{cl:List (Str × Addr)}{σ:St}{Q:VK}(h:mG H T qual)(e1:q'=qual)(e2:a'=a)(e3:b'=b)(e4:Gc=sc)(q:∀f c' H1,aV T H H1->mG H1 T qual->H1 f\jF f qual a b sc cl c'->H1 c'\AG c' qual->Q (.ref f) H1):CN T q' a' b' Gc ps cl σ H Q:=by
 subst e1 e2 e3 e4;let#[es,h,vU]:=h;apply#[_,h,SX es,?_];rcases Ub ps es with e|⟨e,he,q1⟩
 ·apply .inl #[e,λc' f n1 n2 n3=>?_];have W2:T≠c':=bz h n1;have W0:T≠f:=bz h n2
  have B:aV T H (upd (upd (upd H T (.tbl ((mC es).toArray++(List.toArray [rawInt ps.line,rawInt ps.col,.ref c'])))) c' (AG c' q')) f (jF f q' a' b' Gc cl c')):=λb o e n=>by
   rw[ax (bz e n2),ax (bz e n1),ax n];exact e
  apply q f c' _ B #[es++[(ps,c')],?_,λx hx=>?_] az ?_
  ·rw[ax W0,ax W2,az,SE];simp
  ·rcases dJ.mp hx with hx|hx
   ·exact B _ _ (vU x hx) (λz=>by have:=vU x hx;rw[z,h] at this;cases this)
   rw[eK.mp hx];show upd _ f _ c'=_;rw[ax n3,az]
  rw[ax n3,az]
 apply .inr #[e.2,q1,λf hf=>?_];let s:=aa.new (o:=jF f q' a' b' Gc cl e.2) hf;exact q f e.2 _ (aV.of s) #[es,s _ _ h,λx hx=>s _ _ (vU x hx)] az (s _ _ (vU e he))
theorem Yn{H:Hp}{T:Addr}{qual:Str}(h:mG H T qual):∃vs,H T\.tbl vs:=by
 let#[es,e,_]:=h;exact#[_,e]
def vO:Expr->Scope
 |.Lambda _ _ s _=>s
 |_=>a9 fh
def KI:Expr->Expr
 |.Lambda _ b _ _=>b
 |e=>e
def KJ:Expr->Arguments
 |.Lambda a _ _ _=>a
 |_=>gU fh
def Xx:Expr->Expr
 |.Call _ _ (k::_) _=>k.value
 |e=>e
def zq(l:List Stmt)(i:Nat):Stmt:=l.getD i (.Pass #[0,0,0,0])
theorem XO{ps:aN}(nd:(ps.map (·.1)).Nodup){a b:Pc}(ha:a∈ps)(hb:b∈ps)(e:a.1=b.1):a=b:=by
 let#[i,hi,rfl]:=ib ha;let#[j,hj,rfl]:=ib hb;have:i=j:=(List.getElem?_inj (l:=ps.map (·.1)) (by rw[av];exact hi) nd).mp (by rw[dF,dF,aY hi,aY hj,Option.map_some,Option.map_some,e]);subst this;rfl
theorem X3{ts:Xb}{ps ss qs:aN}(Q:Qs ps qs)(nd:(ps.map (·.1)).Nodup)(p:ss.Perm ps)(e:ss.map (·.1)=iN (ps.map (·.1)))(dr:∀q∈ps,j_ ts q):eU ts ss qs:=by
 have en:qs.map (·.1)=ss.map (·.1):=by rw[Q.zw,e]
 have le:qs.length=ss.length:=by rw[<- av (as:=qs) (f:=λq:Pc=>q.1),en,av]
 apply#[?_,λq hq=>dr q (p.mem_iff.mp hq),?_]
 ·apply List.ext_getElem (by rw[av,le]) ?_;intro j h1 h2;rw[List.getElem_map];have hs:j<ss.length:=by omega
  let#[x,hx,ex]:=Q.mem qs[j] (kK h1);have n1:(qs.map (·.1))[j]? = some qs[j].1:=by rw[dF,aY h1];rfl
  have n2:(ss.map (·.1))[j]? = some (ss[j]).1:=by rw[dF,aY hs];rfl
  rw[en,n2] at n1;have n3:(ss[j]).1=qs[j].1:=cX n1;have n4:qs[j].1=x.1:=by rw[ex];rfl
  rw[ex,XO nd hx (p.mem_iff.mp (kK hs)) (n4.symm.trans n3.symm)]
 exact (p.map (·.1)).nodup_iff.mpr nd
theorem eC_{α β:Type}{F:α->β->Prop}{zs ys:List α}(p:zs.Perm ys):∀{ps:List β},Paired F ys ps->∃ss,ss.Perm ps/\Paired F zs ss:=by
 induction p with
 |nil=>exact λ{ps} h=>#[ps,.refl _,h]
 |cons x _ ih=>
  intro ps h;cases h with
  |cons h t=>
   let#[ss,q,r]:=ih t;exact#[_,q.cons _,.cons h r]
 |swap x y l=>
  intro ps h;cases h with
  |cons h t=>
   cases t with
   |cons h2 t=>exact#[_,.swap _ _ _,.cons h2 (.cons h t)]
 |trans _ _ ZO ZN=>
  intro ps h;let#[ss,q,r]:=ZN h;let#[s2,q2,r2]:=ZO r;exact#[s2,q2.trans q,r2]
def Kn(H:Hp):V->Str
 |.ref t=>match H t with
  |some (.tup (.str n::_))=>n
  |_=>⟨#[]⟩
 |_=>⟨#[]⟩
theorem Mr{K:ai}{H:Hp}:∀{ys:ag} {ps:aN},kD K H ys ps->ys.map (Kn H)=ps.map (·.1)
 |_,_,.nil=>rfl
 |_,_,.cons (b:=p) ⟨t,v,e,ht,_⟩ r=>by
  rw[eJ,eJ,Mr (K:=K) r,e]
  have:Kn H (.ref t)=p.1:=by
   show (match H t with|some (.tup (.str n::_))=>n|_=>(⟨#[]⟩:Str))=p.1;rw[ht]
  rw[this]
end Ev
namespace Ev
open PySem L2
def EZ:Stmt->List Stmt
 |.For _ _ b _ _=>b
 |_=>[]
def OE:Stmt->Expr
 |.Assign _ e _=>e
 |_=>.Constant .none 0 #[0,0,0,0]
def o4:Expr:=Xx (OE (zq (EZ (zq (gc fh) 0)) 5))
abbrev qL:Str:="law.<locals>.<lambda>"
theorem EY:∀y∈(vO o4).names,y.2=.free->y.1∈([]:ae):=by decide +kernel
theorem yZ:II [wd] [] (vO o4):=#[by decide +kernel,U,U,U,by decide +kernel,by decide +kernel,λx h=>EY (x,.free) (qf h) U,by decide +kernel]
inductive nu (vs:ag) (gs:ag) (H:Hp) (Q:VK):Prop
 |mk:∀(t:Addr) (n:Str) (r:ag),vs=[.ref t]->gs=[]->H t\.tup (.str n::r)->Q (.str n) H->nu vs gs H Q
def yP:ag->ag->Hp->VK->XK->Prop:=λvs gs H Q _=>nu vs gs H Q
theorem NH{L f:Addr}{cd:Aa}:closureFor (vO o4) (PyProof.Rows.envOfC "law" (a9 fh) L f cd)=pure []:=by rfl
section v
theorem Yk:!j7 1 qL (KJ o4) (KI o4) (vO o4) [wd] [] yP:=by
 apply DP yZ (λpm c' kz cl us hl=>?_) (λA outer s H f cd cl vs gs Q E hr h hp=>?_)
 ·match us,hl with
  |[_],_=>rfl
 let#[t,n,r,rfl,rfl,ht,k]:=h;apply#[_,bw cU (pv 0) ay,?_];exact#[_,U,t,_,0,_,U,U,.of ht,L2.dS (j:=0) U,k]
end
end Ev
namespace L2
open PySem PySem.Spec PyProof.Rows PySem.W mR da Ev
end L2
namespace Ev
open PySem L2
section
variable{K:ai}{CG CW:Addr}
theorem YI{H:Hp}{R:Addr->Hp->Prop}{E:XK}{lh lt:Addr}{yh yt:ag}{hs:Xa}{ts:Xb}(G:Good hs ts)(h1:H lh\.lst yh)(h2:bY K H yh (hs.map kH))(h3:H lt\.lst yt)(h4:bY K H yt (ts.map kT))
  (k:∀p fp H',aa H H'->h_ K CW H' p hs ts fp->(∀b∈fp,H b=none)->R p H'):∀x dx,H x=none->H dx=none->dx≠x->Hv K CW (.ref x::([.ref lh,.ref lt]++[])) (upd (upd H dx (.own x)) x (.ins CW dx [])) (λv H2=>v=.non/\R x H2) E:=by
 intro p dx hp Aj ne;have s4:aa H (upd (upd H dx (.own p)) p (.ins CW dx [])):=(aa.new Aj).trans (aa.new (by rw[ax ne.symm];exact hp));apply#[p,dx,lh,lt,yh,yt,hs,ts,U,az,s4 _ _ h1,h2.same s4,s4 _ _ h3,h4.same s4,G,λdC H5 kp W fr=>#[U,?_]];apply k p dC H5 (λb o e=>kp b o (s4 _ _ e) (bz e hp)) W λb hb=>?_;rcases fr b hb with rfl|z
 ·exact hp
 exact s4.free z
theorem Zm{H:Hp}{R:Addr->Hp->Prop}{E:XK}{p lp:Addr}{yp:ag}{hs:Xa}{ts:Xb}{ps:aN}{dC:au}(W:h_ K CW H p hs ts dC)(G:Good hs ts)(h1:H lp\.lst yp)(h2:kD K H yp ps)(gp:∀q∈ps,j9 ts q)(nd:(ps.map (·.1)).Nodup)(len:ps.length<64)
  (k:∀g qs fp H',aa H H'->gx K CG CW H' g p hs ts qs fp->Qs ps qs->(∀b∈fp,b∈dC∨H b=none)->R g H'):∀x dx,H x=none->H dx=none->dx≠x->Ih K CG CW (.ref x::([.ref p,.ref lp]++[])) (upd (upd H dx (.own x)) x (.ins CG dx [])) (λv H2=>v=.non/\R x H2) E:=by
 intro g dx hg Aj ne;have s4:aa H (upd (upd H dx (.own g)) g (.ins CG dx [])):=(aa.new Aj).trans (aa.new (by rw[ax ne.symm];exact hg))
 have gw:g∉dC:=λm=>by
  let#[o,e]:=W.has m;rw[hg] at e;cases e
 apply#[g,dx,p,lp,yp,ps,hs,ts,dC,U,az,W.same s4,gw,G,s4 _ _ h1,Paired.aX h2 λ_ _ q=>q.same s4,gp,nd,len,λqs fp H5 kp GA Qq fr=>#[U,?_]];apply k g qs fp H5 (λb o e=>kp b o (s4 _ _ e) (bz e hg)) GA Qq λb hb=>?_;rcases fr b hb with rfl|z|z
 ·exact .inr hg
 ·exact .inl z
 exact .inr (s4.free z)
end
theorem Kq{σ:St}{H:Hp}{k:ag->Hp->Prop}(h:k [] H):oM σ H k:=h
theorem Fg{te:TE}{t:TA}{σ:St}{H:Hp}{k:ag->Hp->Prop}(h:te σ H λx H1=>t σ H1 λxs H2=>k (x::xs) H2):ju te t σ H k:=h
theorem Mu:∀{LL:List (List ak)},(∀(j:Nat) L,j+1<LL.length->LL[j]? = some L->L≠[])->LL.length<=LL.flatten.length+1
 |[],_=>by simp
 |[L],_=>by simp
 |L::L2::r,h=>by
  let ih:=Mu (LL:=L2::r) λj M hj hM=>h (j+1) M ⇑hj ⇑hM;have h0:L≠[]:=h 0 L Y0 U;have:=List.length_pos_iff.mpr h0;rw[List.flatten_cons,d5];rw[iR (a:=L)];omega
theorem mG.Ov{H G:Hp}{T l:Addr}{q:Str}{xs:ag}(h:mG H T q)(b:aV l H G)(hl:H l\.lst xs):mG G T q:=by
 let#[es,e,c]:=h;exact#[es,b _ _ e (bS e hl nofun),λx hx=>b _ _ (c x hx) (bS (c x hx) hl nofun)]
structure Dr (K:ai) (H:Hp) (l lh lt lp d:Addr) (hs:Xa) (ts:Xb) (ps:aN) (f:bF):Prop where
 st:cK H l
 hh:∃yh,H lh\.lst yh/\bY K H yh (hs.map kH)
 ht:∃zs,H lt\.lst zs/\bY K H zs (ts.map kT)
 hp:∃yp,H lp\.lst yp/\kD K H yp ps
 hd:H d\.dK (gC (ps.map (·.1)) f)
 n1:lh≠l
 n2:lt≠l
 n3:lp≠l
theorem Dr.but{K:ai}{H H':Hp}{l lh lt lp d:Addr}{hs:Xa}{ts:Xb}{ps:aN}{f:bF}(h:Dr K H l lh lt lp d hs ts ps f)(b:aV l H H')(st:cK H' l):Dr K H' l lh lt lp d hs ts ps f:=by
 let#[a0,#[yh,a1,a2],#[zs,b1,b2],#[yp,c1,c2],d1,n1,n2,n3]:=h;let#[xs,e]:=a0.some;exact#[st,#[yh,b _ _ a1 n1,jg a2 b e],#[zs,b _ _ b1 n2,jg b2 b e],#[yp,b _ _ c1 n3,Paired.aX c2 λy p q=>q.but b a0],b _ _ d1 (bS d1 e nofun),n1,n2,n3]
theorem Dr.same{K:ai}{H H':Hp}{l lh lt lp d:Addr}{hs:Xa}{ts:Xb}{ps:aN}{f:bF}(h:Dr K H l lh lt lp d hs ts ps f)(s:aa H H'):Dr K H' l lh lt lp d hs ts ps f:=h.but (aV.of s) (h.st.same s)
theorem bY.nt{K:ai}{H G:Hp}{ys:ag}{ks:List aq}(h:bY K H ys ks)(s:NT H G):bY K G ys ks:=Paired.aX h λy k ⟨a,z,q⟩=>#[a,z,s.tup q]
theorem cm.nt{K:ai}{H G:Hp}{v:V}{o:Option (Xb)}(h:cm K H v o)(s:NT H G):cm K G v o:=by
 cases o with
 |none=>exact h
 |some ws=>
  let#[a,ys,e,ha,t]:=h;exact#[a,ys,e,s.lst ha,bY.nt t s]
theorem Dr.nt{K:ai}{H H':Hp}{l lh lt lp d:Addr}{hs:Xa}{ts:Xb}{ps:aN}{f:bF}(h:Dr K H l lh lt lp d hs ts ps f)(s:NT H H'):Dr K H' l lh lt lp d hs ts ps f:=by
 let#[a0,#[yh,a1,a2],#[zs,b1,b2],#[yp,c1,c2],d1,n1,n2,n3]:=h;apply#[?_,#[yh,s.lst a1,bY.nt a2 s],#[zs,s.lst b1,bY.nt b2 s],#[yp,s.lst c1,Paired.aX c2 λy p ⟨t,v,e,ht,w⟩=>#[t,v,e,s.tup ht,w.nt s]],s.dK d1,n1,n2,n3];rcases a0 with⟨n,e⟩|⟨n,m,c,e⟩
 ·exact .inl #[n,s.lst e]
 exact .inr #[n,m,c,s.lst e]
theorem _a{K:ai}{H H':Hp}{a:Addr}{xs:ag}(s:aa H H')(h:dU K H a xs):dU K H' a xs:=by
 rcases h with (h|⟨o,h⟩)|h
 ·exact .inl (.inl (s _ _ h))
 ·exact .inl (.inr #[o,s _ _ h])
 exact .inr h
theorem aV.same{l:Addr}{H H1 H2:Hp}(b:aV l H1 H2)(n:H l=none)(s:aa H H1):aa H H2:=λc o e=>b c o (s c o e) (bz e n)
section v
theorem br.imp{k:Nat}{x:Str}{ps:ae}{sp Bt:Sp}(c:!br k x ps sp)(h:∀vs H Q E,Bt vs H Q E->sp vs H Q E):!br k x ps Bt:=by
 let#[f,fd,F,m]:=c.ex;exact#[f,fd,F.imp h,m]
end
def OO(H H':Hp)(t:Addr)(hs:Xa)(ts:Xb)(qs:aN)(s0:ak)(l:Int × Int):Prop:=Tld H' t hs ts qs s0 l/\((∃x ys,H x=none/\H' t\.tup [.str "moves",.ref x]/\H' x\.lst ys/\ys.length<=1000000)∨H' t\.tup [.str "none"])
inductive lC (K:ai) (CG CW:Addr) (vs:ag) (H:Hp) (Q:VK) (E:XK):Prop
 |mk:∀(g p d lt:Addr) (hs:Xa) (ts:Xb) (qs:aN) (fp:au) (s0:ak) (ns:ae) (f:bF) (l:Int × Int) (m:Nat),vs=[.ref g,.ref d,.ref lt,.int m]->Gs K CG CW H g p hs ts qs fp->AH H d hs qs fp s0 ns f->gQ H lt l->tO l->1<=m->m<1000000->(∀j z,Ds (Nx hs ts qs) s0 j z->j<1000000)->(∀t H',aa H H'->(OO H H' t hs ts qs s0 l∨(H' t\.tup [.str "more"]/\More (Nx hs ts qs) s0 m))->Q (.ref t) H')->lC K CG CW vs H Q E
theorem Mj{K:ai}{CG CW:Addr}(vs:ag)(H:Hp)(Q:VK)(E:XK)(h:lC K CG CW vs H Q E):Ip K CG CW vs H Q E:=by
 let#[g,p,d,lt,hs,ts,qs,fp,s0,ns,f,l,m,e,a,b,c,o,m1,m2,dl,k]:=h;exact⟨g,p,d,lt,hs,ts,qs,fp,s0,ns,f,l,m,e,a,b,c,o,m1,m2,λt x ys ms s H' sm nx h1 h2 h3 h4 h5 h6 h7=>k _ _ sm (.inl ⟨.inl ⟨x,ys,ms,s,h1,h2,h3,h4,h5,h6,h7⟩,.inl ⟨x,ys,nx,h1,h2,by have:=bH h3;have:=dl _ _ h5;omega⟩⟩),λt H' sm h1 h2=>k _ _ sm (.inl ⟨.inr ⟨h1,h2⟩,.inr h1⟩),λt H' sm h1 h2=>k _ _ sm (.inr ⟨h1,h2⟩)⟩
end Ev
namespace Ev
open PySem L2
theorem SC{α:Type}{ns:List α}(nd:ns.Nodup){i:Nat}{n:α}(h:ns[i]? = some n):n∉ns.take i:=λhm=>by
 let#[j,hj,e]:=ib hm;rw[dM] at hj;rw[List.getElem_take] at e;have:=(List.getElem?_inj Z2 nd).mp (show ns[j]? = ns[i]? by rw[h,aY Z2,e]);omega
def jB(l:List (ak × Nat)):List (aq × V):=l.map λe=>(sK e.1,.int (e.2:Nat))
theorem S0(l:List (ak × Nat)):(jB l).map (·.1)=(l.map (·.1)).map sK:=by
 unfold jB;rw[cz,cz];rfl
theorem SS{l:List (ak × Nat)}{z:ak}(h:z∉l.map (·.1)):aU (jB l) (sK z)=none:=ud (by
 rw[S0];intro hm;let#[x,hx,e]:=bG.mp hm;rw[<- BY e] at h;exact h hx)
theorem ya:∀{l:List (ak × Nat)} {z:ak} {n:Nat},(l.map (·.1)).Nodup->(z,n)∈l->aU (jB l) (sK z)\.int (n:Nat)
 |[],_,_,_,h=>by cases h
 |(y,m)::r,z,n,nd,h=>by
  rw[eJ,iZ] at nd;rcases bZ.mp h with e|h
  ·cases e;exact x_ U
  have ne:¬sK y=sK z:=λe=>by
   have:=BY e;subst this;exact nd.1 (bG.mpr #[(y,n),h,U])
  rw[show aU (jB ((y,m)::r)) (sK z)=aU (jB r) (sK z) from x8 ne];exact ya nd.2 h
section v
theorem nC:bJ ["goods","count","shut","known","k","thing"] ["goods","count","shut"] (a9 zc):=bV
inductive qK (K:ai) (CG CW:Addr) (vs:ag) (H:Hp) (Q:VK) (E:XK):Prop
 |mk:∀(g p lS:Addr) (ys:ag) (hs:Xa) (ts:Xb) (qs:aN) (fp:au) (l:List (ak × Nat)) (c:Nat),vs=[.ref g,.int c,.ref lS]->Gs K CG CW H g p hs ts qs fp->H lS\.lst ys->eG H ys l->Bk hs qs c l->c<=100->(∀H',aa H H'->Q .non H')->qK K CG CW vs H Q E
theorem XX{f CG CW:Addr}{fd:Ae}(F:bo K "place_of_wrong_form" "place_of_wrong_form" zc f fd)(B:Bi mg)(cE:!br 3 "is_entry" oE (Of K CG CW)):!ao a_ 4 f fd ["goods","count","shut"] (qK K CG CW):=by
 exists F.bU nC;let#[g,p,lS,ys,hs,ts,qs,fp,l,c,rfl,G,hl,sh,ok,c2,k]:=h;let hu:=fH hr;let sz:=cq;refine' #[_,aw ?s1 (aw ?s2 (aw ?s3 (aH ?s4))),?kk]
 case s1=>exact cg (e_ (d8 (cy jU (by rfl) B.jn jr %[2,jT (v:=.ty "list") (by rfl) B.list yc U|0]))) (aH (bp (G7 HR ay))) cj
 case s2=>exact bu 3 nC.nd Sl
 case' s3=>refine' d4 dN U (RG (by rfl) B.enum %[2|0]) ?g3 (aw ?b1 (aH ?b2))
 case g3=>exact mw U (dO (cu 4 nC.nd) (dO (cu 5 nC.nd) jh))
 case b1=>exact cg (pA (e_ (d8 (bc cE hr %[0,1,5|0]))) (pC (qd (AW hu (bw cU (pv 5) ay) (pv 3))))).pt (aH (bp (pv 4))) cj
 case b2=>exact tW hu (pv 3) (bw cU (pv 5) ay) il U
 case s4=>exact bp tZ
 let DL:=bH sh;let l3:=ok.len;apply#[_,U,_,_,_,_,U,.lst hl,U,_,U,aM ?_];intro d hd;let s1:=aa.new (o:=.dT []) hd;have e1:upd H d (.dT []) d\.dT (kn []):=az;generalize upd H d (.dT [])=H1 at s1 e1 ⊢
 let Iv:bR:=λi σ H'=>∃(v4 v5:aE),σ=[some (.ref g),some (.int c),some (.ref lS),some (.ref d),v4,v5]/\aa H H'/\H' d\.dT (kn ((l.take i).map (·.1)))
 apply#[_,U,lS,U,#[_,.of (s1 _ _ hl)],RZ (K:=K) (a:=lS) (xs:=ys) Iv #[none,none,U,s1,e1] (λi σ H' _ ⟨_,_,_,sm,_⟩=>.of (sm _ _ hl)) ?_ ?_]
 ·rintro i y σ H2 hy ⟨v4,v5,rfl,s2,e2⟩ tt zK;have hi:i<ys.length:=(bX.mp hy).1
  obtain⟨e,he,a,t,rfl,ha,ht⟩:∃e,l[i]? = some e/\∃a t,y=.ref a/\H a\.tup [.ref t,.int (e.2:Nat)]/\H t\.tup (sV e.1):=by
   have:=d9 sh i hi Z2;rw[aY hi] at hy;cases hy;exact#[l[i]' Z2,aY Z2,this]
  let em:=cZ he;let hv:=ok.v e em;let#[s3,e3]:=aD (o:=.tup [.int i,.ref a]) zK;let d0:=s2.trans s3;let uM:=s3 _ _ e2;show fR _ _ _ _ _ (upd H2 tt (.tup [.int i,.ref a])) _;generalize upd H2 tt (.tup [.int i,.ref a])=H3 at s3 e3 d0 uM ⊢;apply#[tt,_,U,.of e3,U,_,_,U,_,_,U,U,?_];apply#[_,U,_,U,_,U,g,p,a,t,hs,ts,qs,fp,e.1,e.2,c,U,G.same d0,d0 _ _ ha,d0 _ _ ht,hv.1,hv.2,c2,λH4 s4=>#[_,U,aM ?_]];let lY:=d0.trans s4;let Hy:=s4 _ _ uM
  have nm:e.1∉(l.take i).map (·.1):=by
   have:=SC ok.nd (i:=i) (n:=e.1) (by rw[dF,he];rfl);rwa [<- List.map_take] at this
  have hK:H4 t\.tup ((sK e.1).map kV):=by rw[iz];exact lY _ _ ht
  apply#[_,U,a,_,0,_,U,U,.of (lY _ _ ha),L2.dS (j:=0) U,_,U,d,_,U,.t Hy hK,_,U,?_];rw[Q7,ft nm];apply aM ?_
  have lk:(kn ((l.take i).map (·.1))).length<sizeLine:=by
   unfold kn;rw[av,av,dM];omega
  apply#[_,U,_,U,a,_,0,_,U,U,.of (lY _ _ ha),L2.dS (j:=0) U,d,_,U,.t Hy hK lk,?_];rw[Qu nm];apply#[_,_,U,fL lY hd,?_];rw[az,mK,he,er];rfl
 rintro σ H2 ⟨v4,v5,rfl,s2,_⟩;exact k H2 s2
end
end Ev
namespace Ev
open PySem L2
def Out(N:ak->ak->Prop)(l:List (ak × Nat))(z:ak)(m:Nat):Prop:=∃y,N z y/\∀k,(y,k)∈l->m+1<k
section v
theorem nD:bJ ["reach","hands","number_by_hands","most"] ug (a9 lO):=bV
inductive Nn (K:ai) (CR:Addr) (vs:ag) (H:Hp) (Q:VK) (E:XK):Prop
 |mk:∀(r dx t x a n nd:Addr) (hs:Xa) (ts:Xb) (qs:aN) (l:List (ak × Nat)) (z:ak) (m:Nat),vs=[.ref r,.ref t,.ref nd]->H r\.ins CR dx (b_ x a n)->qq H x hs ts qs->H t\.tup (sV z)->Vs hs qs z->(aS hs).length<=8->qs.length<64->H nd\.dT (jB l)->(l.map (·.1)).Nodup->(z,m)∈l->(∀e∈l,e.2<=100)->(∀b H',aa H H'->(b=true ↔ Out (Nx hs ts qs) l z m)->Q (.bl b) H')->Nn K CR vs H Q E
theorem ZU{f CR:Addr}{fd:Ae}(F:bo K "leads_out" "leads_out" lO f fd)(T:jW K CR)(B:Bi mg)(cM:!bM CR 1 "one_move_on" AL (IT CR)):!ao a_ 2 f fd ug (Nn K CR):=by
 exists F.bU nD;let#[r,dx,t,x,a,n,nd,hs,ts,qs,l,z,m,rfl,GR,ex,ht,v,n8,Gi,pT,GF,zm,Xs,k]:=h;let hu:=fH hr;let sz:=cq;refine' #[_,aw ?s1 (aH ?s2),?kk]
 case s1=>exact bu 3 nD.nd (bP gz (mJ hu (pv 2) (pv 1)) ay)
 case' s2=>refine' bp (cy (_g U) (by rfl) B.any PyProof.Rows.Boot.«any» %[js ["after","most","number_by_hands"] 1 [3,2] (dY (iX cM T.cl hr (pv 0) %[1|0])) (λfp s H=>?g2) (λfp s H=>kI) (λfp s H=>?e2)|0])
 case g2=>exact fW (i:=0) (show (["after","most","number_by_hands"]:ae).Nodup by decide +kernel) U (Or.inl U)
 case e2=>exact pG BM (Z_ hu (pv 2) (pv 0) (bP gz (pv 1) ay) #[U,U,U,U]) (pv 1)
 have hK:H t\.tup ((sK z).map kV):=by rw[iz];exact ht
 have g0:dc H nd (.ref t) (some (.int (m:Nat))):=by
  have:=dc.t pT hK;rw[ya GF zm] at this;exact this
 apply#[_,U,_,U,nd,_,U,g0,_,_,U,U,?_];apply#[_,U,r,dx,_,U,GR,Iu _ _ _ Z0 Z0 Z0,_,U,r,dx,t,x,a,n,hs,ts,qs,z,U,GR,ex,ht,v,n8,Gi,λla ys L H1 s1 nla e1 sp mem lL=>?_];let DL:=bH sp;apply#[la,U,#[_,.of e1],λD hD=>?_]
 have num:∀y:ak,∃o:Option Nat,aU (jB l) (sK y)=o.map (λk=>V.int (k:Nat))/\∀k,(y,k)∈l ↔ o=some k:=λy=>by
  by_cases c:y∈l.map (·.1)
  ·let#[e,he,rfl]:=bG.mp c;apply#[some e.2,ya GF he,λk=>#[λh=>?_,λh=>?_]]
   ·have:=(ya GF h).symm.trans (ya GF he);have:=V.int.inj (cX this);congr 1;omega
   cases h;exact he
  exact#[none,SS c,λk=>#[λh=>absurd (bG.mpr #[_,h,U]) c,λh=>by cases h]]
 apply kL (own:=1) (fv:=[some (.int ((m:Int)+1)),some (.ref nd)]) (xs:=ys) U fF (λj out H'=>aa H1 H'/\∃bs:List Bool,H' D\.lst (bs.map V.bl)/\out=bs.map V.bl/\bs.length=j/\(true∈bs ↔ ∃y∈L.take j,∀k,(y,k)∈l->m+1<k)) #[aa.new hD,[],az,U,U,by simp] (λj out H' _ ⟨sm,_⟩=>.of (sm _ _ e1)) (λout H5 ⟨s5,bs,i7,eo,_,all⟩=>?_) (λj y out H' hy ⟨sm,bs,dH,eo,lb,all⟩=>?_);rotate_left 1
 ·have hj:j<ys.length:=(bX.mp hy).1
  obtain⟨u,sR,tu,rfl,_u⟩:∃u,L[j]? = some u/\∃t,y=.ref t/\H1 t\.tup (sV u):=by
   have:=d9 sp j hj Z2;rw[aY hj] at hy;cases hy;exact#[L[j]' Z2,aY Z2,this]
  have G8:H' tu\.tup ((sK u).map kV):=by rw[iz];exact sm _ _ _u
  have Ej:H' nd\.dT (jB l):=sm _ _ (s1 _ _ pT);let#[o,eo',mo]:=num u
  have g1:dc H' nd (.ref tu) (o.map λk=>V.int (k:Nat)):=by
   rw[<- eo'];exact dc.t Ej G8
  have l1:out.length<sizeLine:=by rw[eo,av];omega
  have tk:∀(Pp:ak->Prop),(∃y∈L.take (j+1),Pp y) ↔ (∃y∈L.take j,Pp y)∨Pp u:=λPp=>by
   rw[mK,sR];constructor
   ·rintro⟨x,hx,r⟩;rcases dJ.mp hx with hx|hx
    ·exact .inl #[x,hx,r]
    have:x=u:=⇑hx
    rw[this] at r;exact .inr r
   rintro (⟨x,hx,r⟩|r)
   ·exact#[x,dJ.mpr (.inl hx),r]
   exact#[u,by simp,r]
  obtain⟨vn,Mo,GP⟩:∃vn:Int,(o.map λk=>V.int (k:Nat)).getD (.int ((m:Int)+1+1))=.int vn/\((m:Int)+1<vn ↔ ∀k,(u,k)∈l->m+1<k):=by
   cases o with
   |none=>exact#[_,U,#[λ_ k hk=>(by have:=(mo k).mp hk;cases this),λ_=>by omega]]
   |some q=>
    apply#[(q:Nat),U,#[λh k hk=>?_,λh=>?_]]
    ·have:=(mo k).mp hk;cases this;omega
    have:=h q ((mo q).mpr U);omega
  apply#[_,U,U,λNx hN=>fA ?_];apply#[_,U,nd,U,.inr #[_,.inl Ej],_,U,_,U,_,_,U,U,_,g1,?_];rw[Mo];apply#[_,U,_,_,U,U,out,by rw[eo];exact dH,l1,hN (out++[.bl (decide ((m:Int)+1<vn))]) _ #[fL sm hD,bs++[decide ((m:Int)+1<vn)],?_,?_,by rw[d5,lb];rfl,?_]]
  ·rw[az,eo,er];rfl
  ·rw[eo,er];rfl
  rw[tk,dJ,all,eK,eq_comm,decide_eq_true_eq,GP]
 rw[DL,eS] at all;apply#[D,bs,U,.of i7,?_];apply k _ H5 (s1.trans s5) ?_;rw[List.any_eq_true];constructor
 ·rintro⟨b,hb,e⟩;have e:b=true:=e;rw[e] at hb;let#[y,hy,h]:=all.mp hb;exact#[y,(mem y).mp hy,h]
 rintro⟨y,hy,h⟩;exact#[true,all.mpr #[y,(mem y).mpr hy,h],U]
end
structure xY (N:ak->ak->Prop) (s0:ak) (c:Nat) (ev:ak->Bool) (l:List (ak × Nat)):Prop where
 first:(s0,0)∈l
 no:∀e∈l,ev e.1=false
 cl:∀e∈l,e.2<c - 1->¬Out N l e.1 e.2
theorem xY.sound{N:ak->ak->Prop}{s0:ak}{c:Nat}{ev:ak->Bool}{l:List (ak × Nat)}(h:xY N s0 c ev l):∀{j:Nat} {s:ak},Wk N s0 j s->j<c->∃k,k<=j/\(s,k)∈l:=λ{j s} w=>by
 induction w with
 |z=>exact λ_=>#[0,bh _,h.first]
 |@s j a b w ab ih=>
  intro hj;let#[k,hk,m]:=ih Z2;let no:=h.cl _ m (by show k<c - 1;omega);by_cases q:∃i,(b,i)∈l/\i<=k+1
  ·let#[i,hi,le]:=q;exact#[i,by omega,hi]
  exact absurd #[b,ab,λi hi=>by
   show k+1<i;by_cases z:k+1<i
   ·exact z
   exact absurd #[i,hi,by omega] q] no
theorem xY.exact{N:ak->ak->Prop}{s0:ak}{c:Nat}{ev:ak->Bool}{l:List (ak × Nat)}(c1:1<=c)(mem:∀s k,(s,k)∈l ↔ k<c/\Ds N s0 k s):xY N s0 c ev l ↔ ∀j z,j<c->Ds N s0 j z->ev z=false:=by
 constructor
 ·intro h j z hj dz;exact h.no (z,j) ((mem z j).mpr #[hj,dz])
 intro h;apply#[(mem _ _).mpr #[by omega,.z,λj hj=>absurd hj (Nat.not_lt_zero _)],λe he=>?_,λe he lt=>?_]
 ·let#[h1,h2]:=(mem e.1 e.2).mp he;exact h _ _ h1 h2
 rintro⟨y,ny,h2⟩;let#[h1,h3]:=(mem e.1 e.2).mp he;let#[j,hj,dj]:=(Wk.s h3.1 ny).ds;have:=h2 j ((mem y j).mpr #[by omega,dj]);omega
end Ev
namespace Ev
open PySem L2
theorem Si{H:Hp}:∀{ys:ag} {l:List (ak × Nat)},eG H ys l->mO H ys (jB l)
 |_,_,.nil=>.nil
 |_,_,.cons ⟨a,t,e,h1,h2⟩ r=>.cons #[a,t,e,h1,by rw[iz];exact h2] (Si r)
section v
theorem A6:bJ ["goods","stand","limit","count","shut","placed","wrong","number_by_hands","reach","k","entry"] uh (a9 lI):=bV
inductive MY (K:ai) (CG CW:Addr) (vs:ag) (H:Hp) (Q:VK) (E:XK):Prop
 |mk:∀(g p d lt lS:Addr) (ys:ag) (hs:Xa) (ts:Xb) (qs:aN) (fp:au) (s0:ak) (ns:ae) (f:bF) (lim:Int × Int) (c:Nat) (l:List (ak × Nat)),vs=[.ref g,.ref d,.ref lt,.int c,.ref lS]->Gs K CG CW H g p hs ts qs fp->AH H d hs qs fp s0 ns f->gQ H lt lim->tO lim->1<=c->c<=100->H lS\.lst ys->eG H ys l->Bk hs qs c l->(∀H',aa H H'->xY (Nx hs ts qs) s0 c (λz=>eY hs qs z lim) l->Q .non H')->(∀t H',aa H H'->¬xY (Nx hs ts qs) s0 c (λz=>eY hs qs z lim) l->Q (.ref t) H')->MY K CG CW vs H Q E
theorem hN_{f0 CG CW CR:Addr}{fd:Ae}(F:bo K "shut_fault" "shut_fault" lI f0 fd)(B:Bi mg)(T:jW K CR)(cC:!br 5 "checked_shut_start" uf (qP K CG CW))(cP:!br 4 "place_of_wrong_form" ["goods","count","shut"] (qK K CG CW))(cR:!ke CR 5 "Reach" oF (IL K CG CW CR))(cE:!br 7 "is_even" jY (IJ K CG CW))(cL:!br 2 "leads_out" ug (Nn K CR)):!ao a_ 8 f0 fd uh (MY K CG CW):=by
 exists F.bU A6;let#[g,p,d,lt,lS,ys,hs,ts,qs,fp,s0,ns,f,lim,c,l,rfl,G,S,dI,lo,c1,c2,hl,sh,ok,kG,kB]:=h;let hu:=fH hr;let sz:=cq;have n8:(aS hs).length<=8:=by rw[G.Gd.iB];exact G.Gd.h8
 refine' #[_,aw ?s1 (aw ?s2 (aw ?s3 (aw ?s4 (aw ?s5 (aw ?s6 (aw ?s7 (aH ?s8))))))),?kk]
 case s1=>exact bu 5 A6.nd (bc cC hr %[0,1,2,3|0])
 case s2=>exact bu 6 A6.nd (bc cP hr %[0,3,4|0])
 case s3=>exact cg (eZ Y5 (pv 6) tZ) gg cj
 case s4=>exact bu 7 A6.nd (iO (e5_ U (uP hr 1)) (by rfl) B.dict uT %[4|0])
 case s5=>exact cg (eZ pX (Zt hu (pv 7) (iO (Tq U) (by rfl) B.tuple qh %[IQ (pv 5)|0]) #[U,U,U,U]) ay) (aH (bp (iO IY (by rfl) B.tuple qh %[fu %[tY|0]|0]))) cj
 case s6=>exact bu 8 A6.nd (GO cR hr %[0,5|0])
 case' s7=>refine' d4 dN U (RG (by rfl) B.enum %[4|0]) ?g7 (aw ?b1 (aH ?b2))
 case g7=>exact mw U (dO (cu 9 A6.nd) (dO (cu 10 A6.nd) jh))
 case b1=>exact cg (d8 (bc cE hr %[0,bw cU (pv 10) ay,2|0])) (aH (bp (gh %[tY,9|0]))) cj
 case b2=>exact cg (KY (eZ BL (bw cU (pv 10) ay) (bP AO (pv 3) ay)) (Ms (d8 (bc cL hr %[8,bw cU (pv 10) ay,7|0])))).pt (aH (bp (gh %[tY,9|0]))) cj
 case s8=>exact bp tZ
 let Bp:=S.vs;let DL:=bH sh;let l3:=ok.len
 let ev:ak->Bool:=λz=>eY hs qs z lim
 apply#[_,U,_,U,_,U,_,U,g,p,d,lt,hs,ts,qs,fp,s0,ns,f,lim,c,U,G,S,dI,lo,c1,c2,λd1 H1 s1 n1 e1=>?_];apply#[_,U,_,U,_,U,g,p,lS,ys,hs,ts,qs,fp,l,c,U,G.same s1,s1 _ _ hl,sh.same s1,ok,c2,λH2 s2=>?_];let jk:=s1.trans s2;apply#[_,U,U,_,U,aM ?_];apply#[_,U,lS,ys,jB l,U,jk _ _ hl,Si (sh.same jk),by unfold jB;rw[av];exact l3,λnd oY=>?_]
 have kj:((jB l).map (·.1)).Nodup:=by
  rw[S0,qo,uY];exact (qo.mp ok.nd).imp λn e=>n (BY e)
 rw[SH (jB l) [] ⇑kj,List.nil_append];let#[s3,e3]:=aD (o:=.dT (jB l)) oY;let d0:=jk.trans s3;let uM:=(s2.trans s3) _ _ e1;generalize upd H2 nd (.dT (jB l))=H3 at s3 e3 d0 uM ⊢;apply#[_,U,nd,U,.inr #[_,.inl e3],_,U,d1,_,U,uM,λv hv=>?_];let#[s4,e4]:=aD (o:=qe v d1) hv;generalize upd H3 v (qe v d1)=H4 at s4 e4 ⊢;apply#[v,d1,_,U,e4,s4 _ _ uM,λt ht=>?_]
 have evv:(gC (qs.map (·.1)) f).map (·.2)=sV s0:=by
  rw[S.s0];simp only[gC,dW,sV,cz];rfl
 rw[evv];let#[s5,e5]:=aD (o:=.tup (sV s0)) ht;let Ge:=s4.trans s5;let jx:=d0.trans Ge;let AF:=Ge _ _ uM;let Ks:=Ge _ _ e3;generalize upd H4 t (.tup (sV s0))=H5 at s5 e5 Ge jx AF Ks ⊢;have hK:H5 t\.tup ((sK s0).map kV):=by rw[iz];exact e5
 apply#[_,.t Ks hK,?_]
 obtain⟨vn,Mo,VO,GP⟩:∃vn:V,(aU (jB l) (sK s0)).getD .non=vn/\yR vn (.int 0)=true/\(vn=.int 0 ↔ (s0,0)∈l):=by
  by_cases q:s0∈l.map (·.1)
  ·let#[e,he,ee]:=bG.mp q;have ED:(s0,e.2)∈l:=by rw[<- ee];exact he
   apply#[.int (e.2:Nat),by rw[ya ok.nd ED];rfl,U,#[λh=>?_,λh=>?_]]
   ·let h:=V.int.inj h;have:e.2=0:=by omega
    rw[<- this];exact ED
   have:=(ya ok.nd h).symm.trans (ya ok.nd ED);exact (cX this).symm
  exact#[.non,by rw[SS q];rfl,U,#[λh=>(by cases h),λh=>absurd (bG.mpr #[_,h,U]) q]]
 rw[Mo];apply#[VO,_,U,?_];apply bQ (λcc=>?_) (λcc=>?_)
 ·have nf:¬xY (Nx hs ts qs) s0 c ev l:=λh=>by
   have:=GP.mpr h.first;rw[this] at cc;simp at cc
  apply#[zl,λl1 fq=>?_];let#[s6,e6]:=aD (o:=.lst [.str "first"]) fq;generalize upd H5 l1 (.lst [.str "first"])=H6 at s6 e6 ⊢;apply#[l1,_,U,.inl #[.of e6,λt ht=>?_]];exact kB t _ ((jx.trans s6).trans (aa.new ht)) nf
 have first:(s0,0)∈l:=GP.mp ⇑cc;apply#[_,U,_,U,λr dx jG Aj ne=>?_];have s6:aa H5 (upd (upd H5 dx (.own r)) r (.ins CR dx [])):=(aa.new Aj).trans (aa.new (by rw[ax ne.symm];exact jG));have e6:upd (upd H5 dx (.own r)) r (.ins CR dx []) r\.ins CR dx []:=az;generalize upd (upd H5 dx (.own r)) r (.ins CR dx [])=H6 at s6 e6 ⊢;let iA:=jx.trans s6;apply#[r,dx,g,p,d1,hs,ts,qs,fp,f,U,e6,G.same iA,s6 _ _ AF,λa x n H7 k7 an R7=>#[U,?_]];have zg:aa H5 H7:=λb o e=>k7 b o (s6 _ _ e) (bz e jG);let ki:=jx.trans zg;let WY:=zg _ _ Ks;let#[#[dx7,h7r],ex7,_,_]:=R7
 let Iv:bR:=λi σ H'=>∃(v9 v10:aE),σ=[some (.ref g),some (.ref d),some (.ref lt),some (.int c),some (.ref lS),some (.ref d1),some .non,some (.ref nd),some (.ref r),v9,v10]/\aa H7 H'/\∀e∈l.take i,ev e.1=false/\(e.2<c - 1->¬Out (Nx hs ts qs) l e.1 e.2)
 apply#[_,U,lS,U,#[_,.of (ki _ _ hl)],RZ (K:=K) (a:=lS) (xs:=ys) Iv #[_,_,U,aa.refl _,by simp] (λi σ H' _ ⟨_,_,_,sm,_⟩=>.of (sm _ _ (ki _ _ hl))) ?_ ?_]
 ·rintro i y σ H8 hy ⟨v9,v10,rfl,s8,no⟩ tt zK;have hi:i<ys.length:=(bX.mp hy).1
  obtain⟨e,he,a',t',rfl,ha,xy⟩:∃e,l[i]? = some e/\∃a t,y=.ref a/\H a\.tup [.ref t,.int (e.2:Nat)]/\H t\.tup (sV e.1):=by
   have:=d9 sh i hi Z2;rw[aY hi] at hy;cases hy;exact#[l[i]' Z2,aY Z2,this]
  let em:=cZ he;let hv:=ok.v e em;let#[s9,e9]:=aD (o:=.tup [.int i,.ref a']) zK;let J4:=s8.trans s9;show fR _ _ _ _ _ (upd H8 tt (.tup [.int i,.ref a'])) _;generalize upd H8 tt (.tup [.int i,.ref a'])=H9 at s9 e9 J4 ⊢;let uD:=ki.trans J4;apply#[tt,_,U,.of e9,U,_,_,U,_,_,U,U,?_];apply#[_,U,_,U,a',_,0,_,U,U,.of (uD _ _ ha),L2.dS (j:=0) U,_,U,g,p,t',lt,hs,ts,qs,fp,e.1,lim,U,G.same uD,uD _ _ xy,hv.1,uD _ _ dI,lo,λHA sA=>#[_,U,?_]];let De:=uD.trans sA;let Da:=J4.trans sA;apply bQ (λce=>?_) (λce=>?_)
  ·apply#[_,U,zl,λt9 zL=>?_]
   exact kB t9 _ (De.trans (aa.new zL)) λh=>by
    have:=h.no e em;rw[show eY hs qs e.1 lim=true from ce] at this;cases this
  have ce:ev e.1=false:=⇑ce
  have tk:∀e'∈l.take (i+1),e'∈l.take i∨e'=e:=λe' h'=>by
   rw[mK,he] at h';rcases dJ.mp h' with h'|h'
   ·exact .inl h'
   exact .inr ⇑h'
  apply#[_,U,a',_,1,_,U,U,.of (De _ _ ha),L2.dS (j:=1) U,_,U,_,_,U,U,_,_,U,U,_,U,?_];apply bQ (λcl=>?_) (λcl=>?_)
  ·have cl:e.2<c - 1:=by
    have:=tL cl;omega
   apply#[_,U,_,U,a',_,0,_,U,U,.of (De _ _ ha),L2.dS (j:=0) U,_,U,r,dx7,t',x,a,n,nd,hs,ts,qs,l,e.1,e.2,U,Da _ _ h7r,ex7.same Da,De _ _ xy,hv.1,n8,G.cY,Da _ _ WY,ok.nd,em,λe' h'=>by have:=(ok.v e' h').2;omega,λb HB sB hb=>#[_,U,?_]];apply bQ (λco=>?_) (λco=>?_)
   ·apply#[_,U,zl,λt9 zL=>?_];exact kB t9 _ ((De.trans sB).trans (aa.new zL)) λh=>h.cl e em cl (hb.mp co)
   apply#[_,_,U,Da.trans sB,λe' h'=>?_];rcases tk e' h' with h'|rfl
   ·exact no e' h'
   exact#[ce,λ_=>λh=>co (hb.mpr h)]
  apply#[_,_,U,Da,λe' h'=>?_];rcases tk e' h' with h'|rfl
  ·exact no e' h'
  apply#[ce,λh=>absurd (cw ?_) cl];omega
 rintro σ H8 ⟨v9,v10,rfl,s8,no⟩;rw[DL,eS] at no;exact kG H8 (ki.trans s8) #[first,λe he=>(no e he).1,λe he=>(no e he).2]
end
end Ev
namespace Ev
open PySem L2
section v
theorem Hu:bJ ["_law_parts","_law_layers_here","_law_limit","_law_count",mE,pe,"_law_layer"] uo (a9 Ng):=bV
inductive lD (K:ai) (vs:ag) (H:Hp) (Q:VK) (E:XK):Prop
 |mk:∀(lq lh lp lt lL ll:Addr) (ys:ag) (LL:List (List ak)) (hs:Xa) (ts:Xb) (ss qs:aN) (l:Int × Int) (s0:ak) (c:Nat),vs=[.ref lq,.ref lL,.ref ll,.int c]->H lq\.tup [.ref lh,.ref lp]->Ji K H lh lp lt ll hs ts ss qs l->H lL\.lst ys->gB H ys LL->gA (Nx hs ts qs) s0 LL->Vs hs qs s0->(∀L∈LL,L.length<=1000000)->(∀b H',aa H H'->(b=true ↔ ∃j z,j<c/\Ds (Nx hs ts qs) s0 j z/\eY hs qs z l=true)->Q (.bl b) H')->lD K vs H Q E
theorem YG{f:Addr}{fd:Ae}(F:bo K "_law_is_even_by" "_law_is_even_by" Ng f fd)(cE:!br 2 "_law_even" ur (MZ K)):!ao a_ 3 f fd uo (lD K):=by
 exists F.bU Hu;let#[lq,lh,lp,lt,lL,ll,ys,LL,hs,ts,ss,qs,l,s0,c,rfl,hq,Pt,hL,ly,ok,v,L66,k]:=h;let sz:=cq;let GG:=bH ly;refine' #[_,aw ?s0 (aw ?s1 (aH ?s2)),?kk]
 case s0=>exact HS (pv 0) (mw U (dO (cu 4 Hu.nd) (dO (cu 5 Hu.nd) jh)))
 case' s1=>refine' d4 dN U (dY (A1 Mz (pv 1) A8 (A7 (pv 3)))) ?g1 (aH ?b1)
 case g1=>exact cu 6 Hu.nd
 case' b1=>refine' cg (eZ (Nh (uP hr 0)) (js ["_law_spot",mE,"_law_limit",pe] 1 [4,2,5] (dY (pv 6)) (λfp s H=>?g2) (λfp s H=>?t2) (λfp s H=>?e2)) (fu bK)) (aH (bp il)) cj
 case g2=>exact fW (i:=0) (show (["_law_spot",mE,"_law_limit",pe]:ae).Nodup by decide +kernel) U (Or.inl U)
 case t2=>exact Ib (d8 (bc cE hr %[1,3,0,2|0]))
 case e2=>exact pv 0
 case s2=>exact bp il
 apply#[_,U,lq,_,U,.of hq,U,_,_,U,_,_,U,U,?_];apply#[_,U,_,U,_,U,lL,_,U,.of hL,λl2 WV=>?_];rw[Oe];let#[s1,e1]:=aD (o:=.lst (ys.take c)) WV;generalize upd H l2 (.lst (ys.take c))=H1 at s1 e1 ⊢
 let Iv:bR:=λi σ H'=>∃(v6:aE),σ=[some (.ref lq),some (.ref lL),some (.ref ll),some (.int c),some (.ref lh),some (.ref lp),v6]/\aa H1 H'/\∀j z,j<i->Ds (Nx hs ts qs) s0 j z->eY hs qs z l=false
 apply#[l2,U,#[_,.of e1],?_];apply ia (K:=K) (a:=l2) (xs:=ys.take c) Iv ?_ ?_ ?_ ?_
 ·exact#[none,U,aa.refl _,λj z hj=>absurd hj (Nat.not_lt_zero _)]
 ·rintro i σ H' _ ⟨_,_,sm,_⟩;exact .of (sm _ _ e1)
 ·rintro i y σ H2 hy ⟨v6,rfl,Pz,no⟩;let s2:=s1.trans Pz;have _Z:i<(ys.take c).length:=(bX.mp hy).1;rw[dM] at _Z;have hi:i<ys.length:=by omega
  have D5:ys[i]? = some y:=by
   rw[List.getElem?_take] at hy;split at hy
   ·exact hy
   cases hy
  let#[a,zs,ea,ha,sp]:=d9 ly i hi Z2;have om:LL[i]? = some (LL[i]' Z2):=aY Z2;obtain⟨Lr,eL⟩:∃L,L=LL[i]' Z2:=#[_,U];rw[<- eL] at om sp;let is:=ok.is i Lr om;let uG:=bH sp;let lL6:=L66 Lr (cZ om)
  have ey:y=.ref a:=by
   rw[aY hi,ea] at D5;exact (cX D5).symm
  subst ey;apply#[_,U,a,U,#[_,.of (s2 _ _ ha)],λD hD=>?_];apply kL (own:=1) (fv:=[some (.ref lh),some (.ref ll),some (.ref lp)]) (xs:=zs) U fF (λj out H'=>aa H2 H'/\H' D\.lst out/\jf H' out ((Lr.take j).filter λz=>eY hs qs z l)) #[aa.new hD,az,.nil] (λj out H' _ ⟨sm,_,_⟩=>.of (sm _ _ (s2 _ _ ha))) (λout H4 ⟨s4,o8,ie⟩=>?_) (λj y out H' hy ⟨sm,dH,JX⟩=>?_);rotate_left 1
  ·have hj:j<zs.length:=(bX.mp hy).1
   obtain⟨z,hz,u,rfl,hu⟩:∃z,Lr[j]? = some z/\∃t,y=V.ref t/\H t\.tup (sV z):=by
    have:=d9 sp j hj Z2;rw[aY hj] at hy;cases hy;exact#[Lr[j]' Z2,aY Z2,this]
   have zv:Vs hs qs z:=(((is.2 z).mp (cZ hz)).1).vs v;let J8:=s2.trans sm;let OR:=Pt.same J8;let#[#[yh,a1,a2],#[yp,b1,b2]]:=And.intro OR.hh OR.hp;apply#[_,U,U,λNx hN=>?_];apply#[_,U,_,U,_,U,_,U,lh,lp,u,ll,yh,yp,hs,ts,ss,qs,z,l,U,a1,a2,Pt.G,b1,b2,Pt.S,Pt.s8,J8 _ _ hu,zv,OR.hl,Pt.lo,λH3 s3=>#[_,U,?_]]
   have tk:((Lr.take (j+1)).filter λz=>eY hs qs z l)=((Lr.take j).filter λz=>eY hs qs z l)++if eY hs qs z l=true then [z] else []:=by
    rw[mK,hz,List.filter_append];by_cases c:eY hs qs z l=true
    ·simp[c]
    simp[c]
   apply bQ (λc=>?_) (λc=>?_)
   ·let lo:=bH JX;let lf:=Cb (λz=>eY hs qs z l) (Lr.take j);rw[dM] at lf;let xN:=s3 _ _ dH;apply#[_,U,out,xN,by omega,hN _ _ #[fL (sm.trans s3) hD,az,?_]]
    have kt:∀b xs,H' b\.tup xs->upd H3 D (.lst (out++[.ref u])) b\.tup xs:=λb xs e=>by
     rw[ax (bS (s3 _ _ e) xN nofun)];exact s3 _ _ e
    rw[tk,aI c];exact iY (JX.keep kt) (.cons #[u,U,kt _ _ (J8 _ _ hu)] .nil)
   apply hN out _ #[sm.trans s3,s3 _ _ dH,?_];rw[tk,aC c,wK];exact JX.keep λb xs e=>s3 _ _ e
  rw[uG,eS] at ie;let lY:=s2.trans s4;apply#[zl,λle hle=>?_];let#[s5,e5]:=aD (o:=.lst []) hle;let jx:=lY.trans s5;let PB:=Pz.trans (s4.trans s5);let i7:=s5 _ _ o8;generalize upd H4 le (.lst [])=H5 at s5 e5 jx PB i7 ⊢;apply#[D,le,_,U,U,.of i7,.of e5,_,U,?_];cases ef:Lr.filter λz=>eY hs qs z l with
  |nil=>
   rw[ef] at ie;cases ie;apply aM ?_;apply#[_,U,PB,λj z hj dz=>?_];by_cases c:j=i
   ·subst c;let zm:=(is.2 z).mpr dz;rw[<- Bool.not_eq_true];intro c;have:z∈Lr.filter λz=>eY hs qs z l:=mL.mpr #[zm,c];rw[ef] at this;cases this
   ·exact no j z Z2 dz
  |cons z zr=>
   rw[ef] at ie;cases ie;apply c_ ?_;have zm:z∈Lr.filter λz=>eY hs qs z l:=by rw[ef];exact gF
   let#[z1,z2]:=mL.mp zm;exact k true _ jx #[λ_=>#[i,z,by omega,(is.2 z).mp z1,z2],λ_=>rfl]
 rintro σ H2 ⟨v6,rfl,s2,no⟩;apply k false _ (s1.trans s2) #[λh=>(by cases h),λ⟨j,z,hj,dz,e⟩=>?_];let#[L,hL',_]:=ok.mem dz;have:=(bX.mp hL').1;rw[no j z (by rw[dM];omega) dz] at e;cases e
end
end Ev
namespace Ev
open PySem L2
structure qp (c:Nat) (seen:List ak) (l:List (ak × Nat)):Prop where
 nd:(l.map (·.1)).Nodup
 lt:∀e∈l,e.2<c/\e.1∈seen
 len:l.length<=seen.length
theorem qp.skip{c:Nat}{seen:List ak}{l:List (ak × Nat)}(h:qp c seen l)(z:ak):qp c (seen++[z]) l:=#[h.nd,λe he=>#[(h.lt e he).1,List.mem_append_left _ (h.lt e he).2],by rw[d5];exact Nat.le_add_right_of_le h.len]
theorem qp.add{c:Nat}{seen:List ak}{l:List (ak × Nat)}(h:qp c seen l){z:ak}{n:Nat}(nz:z∉seen)(hn:n<c)(k:Nat):qp c (seen++[z]) (iM l k (z,n)):=by
 let p:=Bb l k (z,n);apply#[?_,λe he=>?_,?_]
 ·rw[(p.map (·.1)).nodup_iff,eJ,iZ];apply#[λhm=>?_,h.nd];let#[e,he,ee]:=bG.mp hm;have:=(h.lt e he).2;rw[ee] at this;exact nz this
 ·rcases bZ.mp (p.mem_iff.mp he) with rfl|he
  ·exact#[hn,kP _ Y0]
  exact#[(h.lt e he).1,List.mem_append_left _ (h.lt e he).2]
 rw[p.length_eq,d5,iR];have:=h.len;simp;omega
theorem QY{LL:List (List ak)}(nd:LL.flatten.Nodup){i:Nat}{L:List ak}(hL:LL[i]? = some L){j:Nat}{z:ak}(hz:L[j]? = some z):z∉(LL.take i).flatten++L.take j:=by
 have e1:LL.flatten=((LL.take i).flatten++L)++(LL.drop (i+1)).flatten:=by
  let hi:=(bX.mp hL).1;let e:=List.take_append_drop i LL;rw[List.drop_eq_getElem_cons hi] at e;let eL:=(bX.mp hL).2;rw[eL] at e
  conv=>lhs;rw[<- e]
  rw[List.flatten_append,List.flatten_cons,List.append_assoc]
 rw[e1] at nd;let n2:=(wI.mp nd).1;let#[_,n3,dj]:=wI.mp n2;intro hm;rcases dJ.mp hm with hm|hm
 ·exact dj z hm z (cZ hz) U
 exact SC n3 hz hm
theorem RF{LL:List (List ak)}{i:Nat}{L:List ak}(hL:LL[i]? = some L)(j:Nat):((LL.take i).flatten++L.take j).length<=LL.flatten.length:=by
 let hi:=(bX.mp hL).1;let e:=List.take_append_drop i LL;rw[List.drop_eq_getElem_cons hi,(bX.mp hL).2] at e
 have:LL.flatten.length=(LL.take i).flatten.length+(L.length+(LL.drop (i+1)).flatten.length):=by
  conv=>lhs;rw[<- e]
  rw[List.flatten_append,List.flatten_cons,d5,d5]
 rw[d5,dM];omega
theorem S6{LL:List (List ak)}{i:Nat}{L:List ak}(hL:LL[i]? = some L):(LL.take (i+1)).flatten=(LL.take i).flatten++L:=by
 rw[mK,hL,List.flatten_append];simp
theorem eG.ins{H:Hp}{ys:ag}{l:List (ak × Nat)}(h:eG H ys l)(k:Nat){a t:Addr}{z:ak}{n:Nat}(h1:H a\.tup [.ref t,.int n])(h2:H t\.tup (sV z)):eG H (iM ys k (.ref a)) (iM l k (z,n)):=Jc k h #[a,t,U,h1,h2]
theorem yw{R M:Hp->Prop}{A:Prop}(f:(∀G,R G->M G)->A)(h:∀G,R G->M G):A:=f h
section v
theorem B8:bJ [gM,"_law_layers_here","_law_count",wb,"_law_way","_law_k","_law_spot","_law_number"] uj (a9 MQ):=bV
inductive N6 (vs:ag) (H:Hp) (Q:VK) (E:XK):Prop
 |mk:∀(l lL:Addr) (c:Nat) (ys:ag) (LL:List (List ak)),vs=[.ref l,.ref lL,.int c]->cK H l->H lL\.lst ys->lL≠l->gB H ys LL->(∀b,V.ref b∈ys->b≠l)->LL.flatten.Nodup->LL.flatten.length<=300->LL.length<=1000->1<=c->c<=100->(∀lf zs sh H',aV l H H'->cK H' l->H lf=none->lf≠l->H' lf\.lst zs->eG H' zs sh->qp c LL.flatten sh->Q (.ref lf) H')->N6 vs H Q E
theorem fz_{f:Addr}{fd:Ae}(F:bo K "_law_written" "_law_written" MQ f fd)(B:Bi mg)(l5:mg "min"=none)(cD:!br 1 tT uR wB):!ao a_ 2 f fd uj N6:=by
 exists F.bU B8;let#[l,lL,c,ys,LL,rfl,st,hL,GI,ly,fr,nd,f3,L3,c1,c2,k]:=h;let sz:=cq;let GG:=bH ly;let#[Jr,ku]:=st.some;refine' #[_,aw ?s1 (aw ?s2 (aw ?s3 (aH ?s4))),?kk]
 case s1=>exact bu 3 B8.nd (fu bK)
 case s2=>exact bu 4 B8.nd (bc cD hr %[0,ay|0])
 case' s3=>refine' d4 dN U (uZ (by rfl) B.range %[cy iq (by rfl) B.len gE %[1|0]|0]) ?g3 (aH ?b3)
 case g3=>exact cu 5 B8.nd
 case' b3=>refine' d4 dN U (dY (bw gd (pv 1) (pv 5))) ?g4 (aw ?b4 (aH ?b5))
 case g4=>exact cu 6 B8.nd
 case b4=>exact bu 7 B8.nd (bw gd (fu %[5,cy (h0_ U) (by rfl) B.max PyProof.Rows.Boot.«max» %[ay,bP AO (pv 5) ay|0],bc cD hr %[0,2|0],5|0]) (bc cD hr %[0,bw gd (fu %[ay,ay|0]) (iO N0 (by rfl) B.int Hg %[pG BN (pv 4) ay|0])|0]))
 case' b5=>refine' cg (pA (eZ BM (pv 4) ay) (pC (eZ BL (pv 5) (pv 2)))).pt (aH (cg (pA (eZ BL (pv 4) ay) (pC (eZ BM (bc cD hr %[0,ay|0]) ay))).pt (aH ?b6) cj)) cj
 case b6=>exact kJ (pf oy PySem.F.slot_list_insert PySem.F.type_list_insert Ja (pv 3) %[bc cD hr %[0,bP gz (cy iq (by rfl) B.len gE %[3|0]) ay|0],gh %[6,cy (Ts U) (by rfl) l5 LX %[7,bP AO (pv 2) ay|0]|0]|0])
 case s4=>exact bp (pv 3)
 apply#[zl,λlf GY=>?_];let#[s1,e1]:=aD (o:=.lst []) GY;have DO:lf≠l:=(bz ku GY).symm;let pK:=st.same s1;generalize upd H lf (.lst [])=H1 at s1 e1 pK ⊢;apply#[_,U,l,4,U,by decide,by decide,pK,λway H2 w0 w1 b2 eV=>?_]
 let J:List ak->Hp->Prop:=λseen H'=>∃(zs:ag) (sh:List (ak × Nat)),aV l H H'/\cK H' l/\H' lf\.lst zs/\eG H' zs sh/\qp c seen sh
 let Iv:bR:=λi σ H'=>∃(v5 v6 v7:aE),σ=[some (.ref l),some (.ref lL),some (.int c),some (.ref lf),some (.int way),v5,v6,v7]/\J (LL.take i).flatten H'
 have Uz:aV l H H2:=(aV.of s1).trans b2;let hL2:=Uz _ _ hL GI;apply#[_,U,lL,_,U,.inl (.of hL2),_,U,by show (-(2 ^ 62):Int)<=(ys.length:Int);omega,by show (ys.length:Int)<2 ^ 62;omega,?_];apply wF (lo:=0) (n:=((ys.length:Nat):Int).toNat) Iv ?_ ?_ ?_
 ·exact#[_,_,_,U,[],[],Uz,eV,b2 _ _ e1 DO,.nil,.nil,by simp,by simp]
 ·rintro i σ H3 hi ⟨v5,v6,v7,rfl,jj⟩;have hi:i<ys.length:=by omega
  let#[a,ws,ea,ha,sp]:=d9 ly i hi Z2;have om:LL[i]? = some (LL[i]' Z2):=aY Z2;obtain⟨Lr,eL⟩:∃L,L=LL[i]' Z2:=#[_,U];rw[<- eL] at om sp;let uG:=bH sp;have al:a≠l:=fr a (by rw[<- ea];exact kK hi);rw[show (0:Int)+(i:Nat)=(i:Int) by omega];let#[UK,VN,b3,_]:=id jj;apply#[_,U,_,U,lL,_,i,_,U,U,.of (b3 _ _ hL GI),L2.dS (by rw[aY hi,ea]),a,U,#[_,.of (b3 _ _ ha al)],?_]
  let Iw:bR:=λj σ H'=>∃(v6 v7:aE),σ=[some (.ref l),some (.ref lL),some (.int c),some (.ref lf),some (.int way),some (.int i),v6,v7]/\J ((LL.take i).flatten++Lr.take j) H'
  apply ia (K:=K) (a:=a) (xs:=ws) Iw ?_ ?_ ?_ ?_
  ·exact#[_,_,U,by rw[List.take_zero,wK];exact jj]
  ·rintro j σ H' _ ⟨_,_,_,_,_,b,_⟩;exact .of (b _ _ ha al)
  ·rintro j y σ H4 hy ⟨v6,v7,rfl,zs,sh,b4,gS,hf4,Pu,JU⟩;have hj:j<ws.length:=(bX.mp hy).1
   obtain⟨z,hz,t,rfl,ht⟩:∃z,Lr[j]? = some z/\∃t,y=V.ref t/\H t\.tup (sV z):=by
    have:=d9 sp j hj Z2;rw[aY hj] at hy;cases hy;exact#[Lr[j]' Z2,aY Z2,this]
   let nz:=QY nd om hz;let fle:=RF om j;let Kw:=bH Pu;let Xe:=JU.len;have tl:t≠l:=bS ht ku nofun;have tk:Lr.take (j+1)=Lr.take j++[z]:=by rw[mK,hz];rfl
   apply#[_,U,_,U,_,_,U,U,0,(i:Int) - 1,U,?_];apply#[_,U,_,U,l,c,U,by omega,by omega,gS,λr5 H5 p0 p1 b5 gi=>?_];apply#[_,U,zl,λln Ko=>?_];let#[s6,e6]:=aD (o:=.lst [.int i,.int (if (i:Int) - 1 > 0 then (i:Int) - 1 else 0),.int r5,.int i]) Ko;generalize upd H5 ln (.lst [.int i,.int (if (i:Int) - 1 > 0 then (i:Int) - 1 else 0),.int r5,.int i])=H6 at s6 e6 ⊢;let iy:=gi.same s6;apply#[_,U,zl,λlm WR=>?_];let#[s7,e7]:=aD (o:=.lst [.int 1,.int 4]) WR;generalize upd H6 lm (.lst [.int 1,.int 4])=H7 at s7 e7 ⊢;let i0:=iy.same s7
   obtain⟨bs,ebs,hb0,LK⟩:∃m:Int,ip [V.int 1,V.int 4] (if decide (V.int way=V.int 3)=true then 1 else 0)\.int m/\0<m/\m<=4:=by
    split
    ·exact#[4,U,by decide,by decide]
    exact#[1,U,by decide,by decide]
   apply#[_,U,U,.inr #[_,U,?_]];apply#[lm,_,_,_,U,U,.of e7,ebs,l,bs,U,hb0,by omega,i0,λr8 H8 t0 t1 b8 yK=>?_]
   let#[y,D5,q,rfl,q0]:=Ez (p:=λy:V=>∃q:Int,y=.int q/\0<=q) (xs:=[V.int i,.int (if (i:Int) - 1 > 0 then (i:Int) - 1 else 0),.int r5,.int i]) t0 (by show r8<4;omega) (λx hx=>by
    simp only[bZ,gf,or_false] at hx;rcases hx with rfl|rfl|rfl|rfl
    ·exact#[_,U,by omega]
    ·apply#[_,U,?_];split<;>omega
    ·exact#[_,U,p0]
    exact#[_,U,by omega])
   have Uu:aV l H6 H8:=(aV.of s7).trans b8
   have By:ln≠l:=by
    let#[xs,e]:=gi.some;exact (bz e Ko).symm
   have FM:aV l H4 H8:=(b5.trans (aV.of s6)).trans Uu;apply#[ln,_,_,_,U,U,.of (Uu _ _ e6 By),D5,?_]
   let R:Hp->Prop:=λH'=>aV l H H'/\cK H' l/\H' lf\.lst zs/\eG H' zs sh
   have DB:∀{G G':Hp},R G->aV l G G'->cK G' l->R G':=λ{G G'} ⟨r1,r2,r3,r4⟩ bg sg=>#[r1.trans bg,sg,bg _ _ r3 DO,r4.keep λb xs e=>by
    let#[O8,e2]:=r2.some;exact bg _ _ e (bS e e2 nofun)]
   have Kd:R H8:=DB (G:=H4) #[b4,gS,hf4,Pu] FM yK;have skip:∀G,R G->Iw (j+1) [some (.ref l),some (.ref lL),some (.int c),some (.ref lf),some (.int way),some (.int i),some (.ref t),some (.int q)] G:=λG ⟨r1,r2,r3,r4⟩=>#[_,_,U,zs,sh,r1,r2,r3,r4,by rw[tk,<- List.append_assoc];exact JU.skip z];apply#[_,U,_,_,U,U,_,U,?_];apply yw (R:=R) (λh=>bQ (λ_=>h H8 Kd) (λ_=>#[_,U,_,U,_,_,U,U,_,U,bQ (λ_=>h H8 Kd) (λ_=>skip H8 Kd)])) ?_;intro G rG;apply#[_,U,_,_,U,U,_,U,?_];apply yw (R:=R) (λh=>bQ (λ_=>h G rG) (λ_=>#[_,U,l,8,U,by decide,by decide,rG.2.1,λr9 H9 _ _ b9 vt=>#[_,_,U,U,_,U,bQ (λ_=>h H9 (DB rG b9 vt)) (λ_=>skip H9 (DB rG b9 vt))]])) ?_;intro G2 PF;let rr:=PF;let#[r1,r2,r3,r4]:=rr;apply#[_,U,.inl #[U,_,.of r3],_,U,_,U,lf,_,U,.inl (.of r3),_,_,U,U,l,_,U,by show (0:Int)<(zs.length:Int)+1;omega,by show (zs.length:Int)+1<1073741824;omega,r2,λra HA a0 a1 bA Bs=>?_];have a1:ra<(zs.length:Int)+1:=a1;let rA:=DB PF bA Bs;let#[q1,q2,q3,q4]:=id rA
   obtain⟨nn,en,_K⟩:∃nn:Nat,(if (c:Int) - 1<q then (c:Int) - 1 else q)=(nn:Int)/\nn<c:=by
    split
    ·exact#[c - 1,by omega,by omega]
    exact#[q.toNat,by omega,by omega]
   apply#[_,U,_,U,_,U,_,_,U,U,_,_,U,zl,λte K1=>?_];rw[en];let#[sB,eB]:=aD (o:=.tup [.ref t,.int nn]) K1;let rB:=DB rA (aV.of sB) (Bs.same sB);generalize upd HA te (.tup [.ref t,.int nn])=HB at sB eB rB ⊢;let#[g1,g2,g3,g4]:=id rB;have _x:HB t\.tup (sV z):=g1 _ _ ht tl;apply#[lf,ra.toNat,zs,.ref te,U,by rw[Int.toNat_of_nonneg a0],g3,by omega,by omega,?_]
   have kt:∀b xs,HB b\.tup xs->upd HB lf (.lst (iM zs ra.toNat (.ref te))) b\.tup xs:=λb xs e=>by
    rw[ax (bS e g3 nofun)];exact e
   apply#[_,_,U,iM zs ra.toNat (.ref te),iM sh ra.toNat (z,nn),λb o e ne=>?_,?_,az,?_,?_]
   ·rw[ax (bz e GY)];exact g1 b o e ne
   ·unfold cK;rw[ax DO.symm];exact g2
   ·exact (eG.ins g4 ra.toNat eB _x).keep kt
   rw[tk,<- List.append_assoc];exact JU.add nz _K _
  rintro σ H4 ⟨v6,v7,rfl,jj⟩;rw[uG,eS,<- S6 om] at jj;exact#[_,_,_,U,jj]
 rintro σ H3 ⟨v5,v6,v7,rfl,zs,sh,b3,ic,hf3,VR,Pm⟩;rw[show ((ys.length:Nat):Int).toNat=LL.length by omega,eS] at Pm;exact#[_,U,k lf zs sh H3 b3 ic GY DO hf3 VR Pm]
end
end Ev
namespace Ev
open PySem L2
abbrev lN:ae:=[xV,"_law_cell",gM,mE,"_law_ties_here","_law_drawn","_law_stand_here",pe,"_law_goods","_law_layers_here","_law_limit","_law_count","_law_even_here","_law_told","_law_k","_law_shut","_law_exact","_law_spot"]
theorem je:bJ lN [xV] (a9 fh):=bV
structure Dm (K:ai) (CG CW:Addr) (H:Hp) (l lh lt lz d g0 pw lL:Addr) (hs:Xa) (ts:Xb) (ss qs:aN) (fp:au) (ns:ae) (f:bF) (s0:ak) (yL:ag) (LL:List (List ak)):Prop where
 st:cK H l
 hh:∃yh,H lh\.lst yh/\bY K H yh (hs.map kH)
 ht:∃zs,H lt\.lst zs/\bY K H zs (ts.map kT)
 hp:∃yp,H lz\.lst yp/\kD K H yp ss
 n1:lh≠l
 n2:lt≠l
 n3:lz≠l
 n4:lL≠l
 fr:∀b,V.ref b∈yL->b≠l
 G:Good hs ts
 S:eU ts ss qs
 s8:ss.length<=8
 Gg:Gs K CG CW H g0 pw hs ts qs fp
 lfp:l∉fp
 Sd:AH H d hs qs fp s0 ns f
 hL:H lL\.lst yL
 ly:gB H yL LL
 ok:gA (Nx hs ts qs) s0 LL
 fl:LL.flatten.length<=300
theorem Dm.but{K:ai}{CG CW:Addr}{H H':Hp}{l lh lt lz d g0 pw lL:Addr}{hs:Xa}{ts:Xb}{ss qs:aN}{fp:au}{ns:ae}{f:bF}{s0:ak}{yL:ag}{LL:List (List ak)}(h:Dm K CG CW H l lh lt lz d g0 pw lL hs ts ss qs fp ns f s0 yL LL)(b:aV l H H')(st:cK H' l):Dm K CG CW H' l lh lt lz d g0 pw lL hs ts ss qs fp ns f s0 yL LL:=by
 let#[a0,#[yh,a1,a2],#[zs,c1,c2],#[yp,b1,b2],n1,n2,n3,n4,fr,G,S,s8,Gg,lfp,Sd,hL,ly,ok,fl]:=h;let#[xs,e]:=a0.some;exact#[st,#[yh,b _ _ a1 n1,jg a2 b e],#[zs,b _ _ c1 n2,jg c2 b e],#[yp,b _ _ b1 n3,Paired.aX b2 λy p q=>q.but b a0],n1,n2,n3,n4,fr,G,S,s8,#[Gg.G.but b a0 lfp,Gg.Gd,Gg.nd,Gg.cY,Gg.wp],lfp,#[b _ _ Sd.hd (bS Sd.hd e nofun),Sd.tK,Sd.ok,Sd.s0],b _ _ hL n4,ly.keep (λa m xs q=>b _ _ q (fr a m)) (λc xs q=>b _ _ q (bS q e nofun)),ok,fl]
theorem Dm.same{K:ai}{CG CW:Addr}{H H':Hp}{l lh lt lz d g0 pw lL:Addr}{hs:Xa}{ts:Xb}{ss qs:aN}{fp:au}{ns:ae}{f:bF}{s0:ak}{yL:ag}{LL:List (List ak)}(h:Dm K CG CW H l lh lt lz d g0 pw lL hs ts ss qs fp ns f s0 yL LL)(s:aa H H'):Dm K CG CW H' l lh lt lz d g0 pw lL hs ts ss qs fp ns f s0 yL LL:=h.but (aV.of s) (h.st.same s)
structure FX (P:Ad) (w:Af) (K:ai) (mg:Str->Option Aa) (base:Heap) (CG CW:Addr):Prop where
 cD:!br 1 tT uR wB
 cF:!br 8 "fewest_moves" oG (Ip K CG CW)
 cS:!br 8 "shut_fault" uh (MY K CG CW)
 cW:!br 2 "_law_written" uj N6
 cB:!br 3 "_law_is_even_by" uo (lD K)
theorem qp.ok{hs:Xa}{ts:Xb}{qs:aN}{s0:ak}{LL:List (List ak)}{c:Nat}{l:List (ak × Nat)}(h:qp c LL.flatten l)(ok:gA (Nx hs ts qs) s0 LL)(v:Vs hs qs s0)(fl:LL.flatten.length<=300):Bk hs qs c l:=#[h.nd,λe he=>by
 let#[h1,h2]:=h.lt e he;let#[j,w]:=(ok.all e.1).mp h2;exact#[w.vs v,h1],by have:=h.len;omega]
theorem Dw{D:Ends}{σ:St}{H:Hp}(h:D.nx σ H):wV D σ H:=h
def yz(LL:List (List ak)):Nat->List (ak × Nat)
 |0=>[]
 |i+1=>yz LL i++(LL.getD i []).map λz=>(z,i)
theorem RB{LL:List (List ak)}{z:ak}{k:Nat}:∀{i:Nat},(z,k)∈yz LL i ↔ k<i/\z∈LL.getD k []
 |0=>#[λh=>(by cases h),λh=>absurd h.1 (Nat.not_lt_zero _)]
 |i+1=>by
  show (z,k)∈yz LL i++_ ↔ _;rw[dJ,RB,bG];constructor
  ·rintro (⟨h1,h2⟩|⟨x,hx,e⟩)
   ·exact#[by omega,h2]
   cases e;exact#[by omega,hx]
  rintro⟨h1,h2⟩;by_cases c:k=i
  ·subst c;exact .inr #[z,h2,U]
  exact .inl #[by omega,h2]
abbrev fB:List Stmt:=EZ (zq (gc fh) 0)
section v
theorem Ik{fl CG CW:Addr}{cd:Aa}{A:Ag}{outer:List Env}{s:Ab}{Hi:Hp}{E:XK}(hr:aP 9 (A.deeper (PyProof.Rows.envOfC "law" (a9 fh) s.heap.objs.size fl cd)))(B:Bi mg)(l5:mg "min"=none)(C:FX P w K mg base CG CW):∃t,j0 (i9 a_ P w K mg base lN "law" (a9 fh) fl cd A outer s Hi E).xo (fB.drop 8) t /\
  ∀(D:Ends) (H:Hp) (w1 w2 w5:V) (va vb vc vd ve vf vg vh:aE) (l lh lt lz d g0 pw lL:Addr) (hs:Xa) (ts:Xb) (ss qs:aN) (fp:au) (ns:ae) (f:bF) (s0:ak) (yL:ag) (LL:List (List ak)),Dm K CG CW H l lh lt lz d g0 pw lL hs ts ss qs fp ns f s0 yL LL->
   (∀va vb vc vd ve vf vg vh H',aV l H H'->D.nx [some w1,some w2,some (.ref l),some (.ref lh),some (.ref lt),some w5,some (.ref d),some (.ref lz),some (.ref g0),some (.ref lL),va,vb,vc,vd,ve,vf,vg,vh] H')->
   t D [some w1,some w2,some (.ref l),some (.ref lh),some (.ref lt),some w5,some (.ref d),some (.ref lz),some (.ref g0),some (.ref lL),va,vb,vc,vd,ve,vf,vg,vh] H:=by
 let hu:=fH hr;let sz:=cq;have cF2:!br 8 "fewest_moves" oG (lC K CG CW):=C.cF.imp Mj;refine' #[_,?c8,?kk]
 case' c8=>refine' aw ?q8 ?c9
 case' c9=>refine' aw ?q9 ?c10
 case' c10=>refine' aw ?Kf ?c11
 case' c11=>refine' aw ?Ke ?c12
 case' c12=>refine' aw ?Wq ?c13
 case' c13=>refine' aw ?Wp ?c14
 case' c14=>refine' aw ?Wn ?c15
 case' c15=>refine' aw ?Wm ?c16
 case' c16=>refine' aH ?Wl
 case' q8=>refine' Qt (i:=10) ?y1 ?y2 ?y3 ?y4
 case y1=>exact je.nd
 case y2=>exact U
 case y3=>exact Or.inl U
 case' y4=>refine' bw ?z1 ?z2 ?t4 ?z3
 case z1=>exact gd
 case z3=>exact λ_ _=>rfl
 case' z2=>refine' fu ?z4
 case' z4=>refine' eW ?t1 ?z5
 case' z5=>refine' eW ?t2 ?z6
 case' z6=>refine' eW ?t3 ?z7
 case z7=>exact bK
 case t1=>exact gh %[ay,ay|0]
 case' t2=>refine' gh %[?t5,ay|0]
 case t5=>exact bP gz ay (bP qc ay (bc C.cD hr %[2,ay|0]))
 case t3=>exact gh %[G7 HR ay,ay|0]
 case t4=>exact bc C.cD hr %[2,ay|0]
 case q9=>exact bu 11 je.nd (bP gz ay (bc C.cD hr %[2,ay|0]))
 case Kf=>exact bu 12 je.nd (bc C.cB hr %[gh %[3,7|0],9,10,11|0])
 case Ke=>exact bu 13 je.nd (bc cF2 hr %[8,6,10,ay|0])
 case Wq=>exact cg (eZ pX (pv 12) (pB (pG BN (bw cU (pv 13) ay) tY) (qg (pG BL (cy iq (by rfl) B.len gE %[bw cU (pv 13) ay|0]) (pv 11))))) (aH (bp il)) cj
 case' Wp=>refine' d4 dN U (uZ (by rfl) B.range %[ay|0]) (cu 14 je.nd) (aw ?d1 (aH ?d2))
 case d1=>exact bu 15 je.nd (bc C.cW hr %[2,9,11|0])
 case d2=>exact cg (KY (eZ LY (bc C.cS hr %[8,6,10,11,15|0]) tZ) (Ms (d8 (pv 12)))).pt (aH (bp il)) cj
 case Wn=>exact bu 16 je.nd (fu bK)
 case' Wm=>refine' d4 dN U (uZ (by rfl) B.range %[cy (Ts U) (by rfl) l5 LX %[11,cy iq (by rfl) B.len gE %[9|0]|0]|0]) (cu 14 je.nd) (aH ?e1)
 case' e1=>refine' d4 dN U (dY (bw gd (pv 9) (pv 14))) (cu 17 je.nd) (aH ?e2)
 case e2=>exact kJ (pf oy PySem.F.slot_list_insert PySem.F.type_list_insert Ja (pv 16) %[bc C.cD hr %[2,bP gz (cy iq (by rfl) B.len gE %[16|0]) ay|0],gh %[17,14|0]|0])
 case Wl=>exact cg (eZ BN (pG LY (bc C.cS hr %[8,6,10,11,16|0]) tZ) (pv 12)) (aH (bp il)) cj
 intro D H w1 w2 w5 va vb vc vd ve vf vg vh l lh lt lz d g0 pw lL hs ts ss qs fp ns f s0 yL LL Z k;have Bp:Vs hs qs s0:=Z.Sd.vs;let ok:=Z.ok;let Mi:=Z.fl;let Xm:=Mu ok.ne;let GG:=bH Z.ly;let nd:=ok.flat
 have tup:∀{Ha Hb:Hp},cK Ha l->aV l Ha Hb->∀{c xs},Ha c\.tup xs->Hb c\.tup xs:=λ{Ha Hb} sa b {c xs} e=>by
  let#[xs,e2]:=sa.some;exact b _ _ e (bS e e2 nofun)
 apply#[zl,λt1 o6=>?_];let#[s1,e1]:=aD (o:=.tup [.int 0,.int 1]) o6;let Z1:=Z.same s1;generalize upd H t1 (.tup [.int 0,.int 1])=H1 at s1 e1 Z1 ⊢;apply#[_,U,l,9,U,by decide,by decide,Z1.st,λr3 H2 q0 q1 b2 eV=>#[_,_,U,U,.inr #[by omega,by omega],_,_,U,U,zl,λt2 xx=>?_]];let#[s3,e3]:=aD (o:=.tup [.int (1+2 * r3),.int 4]) xx;generalize upd H2 t2 (.tup [.int (1+2 * r3),.int 4])=H3 at s3 e3 ⊢;apply#[_,U,zl,λt3 _y=>?_];let#[s4,e4]:=aD (o:=.tup [.int (-1),.int 3]) _y;generalize upd H3 t3 (.tup [.int (-1),.int 3])=H4 at s4 e4 ⊢;apply#[zl,λlc xE=>?_];let#[s5,e5]:=aD (o:=.lst [.ref t1,.ref t2,.ref t3]) xE;let gS:=(eV.same s3).same s4
 have Xq:lc≠l:=by
  let#[xs,e]:=gS.some;exact (bz e xE).symm
 let J6:=s3.trans (s4.trans s5);generalize upd H4 lc (.lst [.ref t1,.ref t2,.ref t3])=H5 at s5 e5 J6 ⊢;let gi:=eV.same J6;have Uy:aV l H1 H5:=b2.trans (aV.of J6);apply#[_,U,l,3,U,by decide,by decide,gi,λr5 H6 p0 p1 b6 iy=>?_]
 let#[y,hy,tl,lim,ey,BK,lo]:=Ez (p:=λy:V=>∃(t:Addr) (lim:Int × Int),y=.ref t/\gQ H6 t lim/\tO lim) (xs:=[V.ref t1,.ref t2,.ref t3]) p0 p1 (λx hx=>by
  simp only[bZ,gf,or_false] at hx;rcases hx with rfl|rfl|rfl
  ·exact#[t1,(0,1),U,tup gi b6 (tup Z1.st Uy e1),by constructor<;>decide]
  ·exact#[t2,(1+2 * r3,4),U,tup gi b6 ((s4.trans s5) _ _ e3),_o q0 q1 (.inr (.inr (.inl U)))]
  exact#[t3,(-1,3),U,tup gi b6 (s5 _ _ e4),by constructor<;>decide])
 subst ey;apply#[lc,_,_,_,U,U,.of (b6 _ _ e5 Xq),hy,?_];apply#[_,U,l,5,U,by decide,by decide,iy,λr7 H7 u0 u1 b7 i0=>#[_,_,U,U,?_]];obtain⟨c,ec,c1,c5⟩:∃c:Nat,(1+r7:Int)=(c:Int)/\1<=c/\c<=5:=#[(1+r7).toNat,by omega,by omega,by omega];rw[ec];have Ux:aV l H H7:=(aV.of s1).trans (Uy.trans (b6.trans b7));let Z7:=Z.but Ux i0;let xP:=tup iy b7 BK;apply#[_,U,_,U,zl,λlq _N=>?_];let#[s8,e8]:=aD (o:=.tup [.ref lh,.ref lz]) _N;generalize upd H7 lq (.tup [.ref lh,.ref lz])=H8 at s8 e8 ⊢;let Z8:=Z7.same s8
 have Xl:∀L∈LL,L.length<=1000000:=λL hL=>by
  have:=(List.sublist_flatten_of_mem hL).length_le;omega
 apply#[_,U,_,U,_,U,lq,lh,lz,lt,lL,tl,yL,LL,hs,ts,ss,qs,lim,s0,c,U,e8,#[Z8.hh,Z8.hp,Z8.ht,s8 _ _ xP,lo,Z.G,Z.S,Z.s8],Z8.hL,Z8.ly,ok,Bp,Xl,λb H9 s9 hb=>?_];let Z9:=Z8.same s9;let RQ:=s9 _ _ (s8 _ _ xP)
 have dsl:∀j z,Ds (Nx hs ts qs) s0 j z->j<1000:=λj z dz=>by
  let#[L,hL,_]:=ok.mem dz;have:=(bX.mp hL).1;omega
 apply#[_,U,_,U,_,U,g0,pw,d,tl,hs,ts,qs,fp,s0,ns,f,lim,3000,U,Z9.Gg,Z9.Sd,RQ,lo,by decide,by decide,λj z dz=>by have:=dsl j z dz;omega,λt HA sA td=>?_];rcases td with⟨td,_⟩|⟨_,W3⟩;rotate_left 1
 ·exact absurd W3 (ok.vG Z2)
 let ZA:=Z9.same sA;let RP:=sA _ _ RQ;have b0A:aV l H HA:=Ux.trans (aV.of ((s8.trans s9).trans sA));refine' yw (R:=λG=>G=HA) ?ca ?cb
 case ca=>
  intro hq;rcases td with⟨x,ys,ms,sE,h1,h2,h3,h4,h5,h6,h7⟩|⟨h1,h2⟩
  ·let lym:=bH h3
   have eb:b=decide ((ys.length:Int)<(c:Int)):=by
    rw[Bool.eq_iff_iff,hb,decide_eq_true_eq];constructor
    ·rintro⟨j,z,hj,dz,ez⟩;by_cases q:ms.length<=j
     ·omega
     rw[h7 j z Z2 dz] at ez;cases ez
    intro h;exact#[ms.length,sE,by omega,h5,h6]
   apply#[_,U,_,U,t,_,0,_,U,U,.of h1,L2.dS (j:=0) U,U,_,U,c_ ?_];apply#[_,U,t,_,1,_,U,U,.of h1,L2.dS (j:=1) U,x,_,U,.inl (.of h2),_,U,_,_,U,U,U,_,U,?_];apply xU (by rw[eb]) ?_;exact hq HA U
  have eb:b=false:=by
   rw[<- Bool.not_eq_true,hb];rintro⟨j,z,hj,dz,ez⟩;rw[h2 j z dz] at ez;cases ez
  apply#[_,U,_,U,t,_,0,_,U,U,.of h1,L2.dS (j:=0) U,U,_,U,aM ?_];apply#[U,_,U,?_];apply xU (by rw[eb]) ?_;exact hq HA U
 case cb=>
  intro G hG;let hG':=hG.symm;subst hG';apply Dw ?_;dsimp only
  let Rr:iS:=λσ H'=>∃(ve vf vg vh:aE),σ=[some w1,some w2,some (.ref l),some (.ref lh),some (.ref lt),some w5,some (.ref d),some (.ref lz),some (.ref g0),some (.ref lL),some (.ref tl),some (.int c),some (.bl b),some (.ref t),ve,vf,vg,vh]/\aV l HA H'/\cK H' l
  apply C4 (R:=Rr) ?_ (λN hN=>?_);rotate_left 1
  ·apply#[_,U,by decide,by decide,?_];apply wF (lo:=0) (n:=(3:Int).toNat) (λi σ H'=>Rr σ H') ?_ ?_ ?_
   ·exact#[_,_,_,_,U,λb o e _=>e,ZA.st]
   ·rintro i σ HB hi ⟨ve,vf,vg,vh,rfl,bB,oN⟩;let ZB:=ZA.but bB oN;let Mf:=tup ZA.st bB RP;apply#[_,U,_,U,_,U,l,lL,c,yL,LL,U,oN,ZB.hL,ZB.n4,ZB.ly,ZB.fr,nd,Mi,by omega,c1,by omega,λlf zs sh HC bC stC nlf DO hf sa sw=>?_];let ZC:=ZB.but bC stC;let Mc:=tup oN bC Mf;apply#[_,U,_,U,_,U,_,U,_,U,g0,pw,d,tl,lf,zs,hs,ts,qs,fp,s0,ns,f,lim,c,sh,U,ZC.Gg,ZC.Sd,Mc,lo,c1,by omega,hf,sa,sw.ok ok Bp Mi,λHD sD good=>?_,λtt HD sD _=>?_]
    ·have eb:b=false:=by
      rw[<- Bool.not_eq_true,hb];rintro⟨j,z,hj,dz,ez⟩;let#[k',_,hm]:=good.sound dz.1 hj;have:=good.no _ hm;rw[show eY hs qs z lim=true from ez] at this;cases this
     apply#[U,_,U,c_ #[_,U,_,U,?_]];rw[eb];apply aM ?_;exact#[_,_,_,_,by rw[eb];rfl,bB.trans (bC.trans (aV.of sD)),stC.same sD]
    apply#[U,_,U,aM ?_];exact#[_,_,_,_,U,bB.trans (bC.trans (aV.of sD)),stC.same sD]
   intro σ HB h;exact hN _ _ h
  rintro σ HB ⟨ve,vf,vg,vh,rfl,bB,oN⟩;let ZB:=ZA.but bB oN;let Mf:=tup ZA.st bB RP;apply#[zl,λlx jH=>?_];let#[sX,eX]:=aD (o:=.lst []) jH;let ZX:=ZB.same sX
  have Bx:lx≠l:=by
   let#[xs,e]:=oN.some;exact (bz e jH).symm
  generalize upd HB lx (.lst [])=HX at sX eX ZX ⊢
  obtain⟨m,em,mm⟩:∃m:Nat,(if (yL.length:Int)<(c:Int) then (yL.length:Int) else (c:Int))=(m:Int)/\m=min c LL.length:=by
   split
   ·exact#[yL.length,U,by omega]
   exact#[c,U,by omega]
  have DL:yL.length<=1000:=by omega
  let J:List ak->List (ak × Nat)->Hp->Prop:=λseen done H'=>∃(zs:ag) (sh:List (ak × Nat)),aV l HB H'/\cK H' l/\H' lx\.lst zs/\eG H' zs sh/\qp c seen sh/\sh.Perm done
  let Rx:iS:=λσ H'=>∃(ve vf vh:aE),σ=[some w1,some w2,some (.ref l),some (.ref lh),some (.ref lt),some w5,some (.ref d),some (.ref lz),some (.ref g0),some (.ref lL),some (.ref tl),some (.int c),some (.bl b),some (.ref t),ve,vf,some (.ref lx),vh]/\J (LL.take m).flatten (yz LL m) H'
  apply setG (i:=16) (v:=.ref lx) ?_;dsimp only;apply C4 (R:=Rx) ?_ (λN hN=>?_);rotate_left 1
  ·apply#[_,U,_,U,lL,_,U,.inl (.of ZX.hL),_,_,U,?_];rw[em];apply#[_,U,by omega,by omega,?_]
   let Iv:bR:=λi σ H'=>∃(ve vf vh:aE),σ=[some w1,some w2,some (.ref l),some (.ref lh),some (.ref lt),some w5,some (.ref d),some (.ref lz),some (.ref g0),some (.ref lL),some (.ref tl),some (.int c),some (.bl b),some (.ref t),ve,vf,some (.ref lx),vh]/\J (LL.take i).flatten (yz LL i) H'
   apply wF (lo:=0) (n:=(m:Int).toNat) Iv ?_ ?_ ?_
   ·exact#[_,_,_,U,[],[],aV.of sX,ZX.st,eX,.nil,#[.nil,by simp,by simp],List.Perm.refl _]
   ·rintro i σ HC hi ⟨ve,vf,vh,rfl,jj⟩;have hi:i<yL.length:=by omega
    have _X:i<c:=by omega
    let#[a,ws,ea,ha,sp]:=d9 ZB.ly i hi Z2;have om:LL[i]? = some (LL[i]' Z2):=aY Z2;obtain⟨Lr,eL⟩:∃L,L=LL[i]' Z2:=#[_,U];rw[<- eL] at om sp;let uG:=bH sp;have al:a≠l:=ZB.fr a (by rw[<- ea];exact kK hi);have gD:LL.getD i []=Lr:=by rw[List.getD_eq_getElem?_getD,om];rfl
    rw[show (0:Int)+(i:Nat)=(i:Int) by omega];let#[UK,VN,b3,_]:=id jj;apply#[_,U,_,U,lL,_,i,_,U,U,.of (b3 _ _ ZB.hL ZB.n4),L2.dS (by rw[aY hi,ea]),a,U,#[_,.of (b3 _ _ ha al)],?_]
    let Iw:bR:=λj σ H'=>∃(vf vh:aE),σ=[some w1,some w2,some (.ref l),some (.ref lh),some (.ref lt),some w5,some (.ref d),some (.ref lz),some (.ref g0),some (.ref lL),some (.ref tl),some (.int c),some (.bl b),some (.ref t),some (.int i),vf,some (.ref lx),vh]/\J ((LL.take i).flatten++Lr.take j) (yz LL i++(Lr.take j).map λz=>(z,i)) H'
    apply ia (K:=K) (a:=a) (xs:=ws) Iw ?_ ?_ ?_ ?_
    ·exact#[_,_,U,by rw[List.take_zero,wK,List.map_nil,wK];exact jj]
    ·rintro j σ H' _ ⟨_,_,_,_,_,bq,_⟩;exact .of (bq _ _ ha al)
    ·rintro j y σ HD hy ⟨vf,vh,rfl,zs,sh,bD,Ga,Lz,Pr,Pk,Ww⟩;have hj:j<ws.length:=(bX.mp hy).1
     obtain⟨z,hz,tz,rfl,_t⟩:∃z,Lr[j]? = some z/\∃t,y=V.ref t/\HB t\.tup (sV z):=by
      have:=d9 sp j hj Z2;rw[aY hj] at hy;cases hy;exact#[Lr[j]' Z2,aY Z2,this]
     let nz:=QY nd om hz;let fle:=RF om j;let Kw:=bH Pr;let Xe:=Pk.len;have tk:Lr.take (j+1)=Lr.take j++[z]:=by rw[mK,hz];rfl
     apply#[_,U,.inl #[U,_,.of Lz],_,U,_,U,lx,_,U,.inl (.of Lz),_,_,U,U,l,_,U,by show (0:Int)<(zs.length:Int)+1;omega,by show (zs.length:Int)+1<1073741824;omega,Ga,λra HE a0 a1 bE F_=>?_];have a1:ra<(zs.length:Int)+1:=a1;let Us:=bD.trans bE;have K2:HE tz\.tup (sV z):=tup oN Us _t;let hfE:=bE _ _ Lz Bx;let VP:=Pr.keep λ_ _ e=>tup Ga bE e;apply#[_,U,_,U,zl,λte K1=>?_];let#[sF,eF]:=aD (o:=.tup [.ref tz,.int i]) K1;generalize upd HE te (.tup [.ref tz,.int i])=HF at sF eF ⊢;let Re:=sF _ _ hfE;apply#[lx,ra.toNat,zs,.ref te,U,by rw[Int.toNat_of_nonneg a0],Re,by omega,by omega,?_]
     have kt:∀b xs,HF b\.tup xs->upd HF lx (.lst (iM zs ra.toNat (.ref te))) b\.tup xs:=λb xs e=>by
      rw[ax (bS e Re nofun)];exact e
     apply#[_,_,U,iM zs ra.toNat (.ref te),iM sh ra.toNat (z,i),λb o e ne=>?_,?_,az,?_,?_,?_]
     ·rw[ax (bz e jH)];exact sF _ _ (Us b o e ne)
     ·unfold cK;rw[ax Bx.symm];exact F_.same sF
     ·exact (eG.ins (VP.same sF) ra.toNat eF (sF _ _ K2)).keep kt
     ·rw[tk,<- List.append_assoc];exact Pk.add nz _X _
     rw[tk,er,<- List.append_assoc];apply (Bb sh ra.toNat (z,i)).trans ?_;exact (List.perm_append_singleton (z,i) sh).symm.trans (Ww.append_right [(z,i)])
    rintro σ HD ⟨vf,vh,rfl,jj⟩;rw[uG,eS,<- S6 om] at jj;apply#[_,_,_,U,?_];show J _ (yz LL i++(LL.getD i []).map λz=>(z,i)) HD;rw[gD];exact jj
   rintro σ HC h;rw[show (m:Int).toNat=m by omega] at h;exact hN _ _ h
  rintro σ HC ⟨ve,vf,vh,rfl,zs,sh,bC,stC,hfC,VQ,F8,Wx⟩;let ZC:=ZB.but bC stC;let Mc:=tup oN bC Mf
  have VE:qp c LL.flatten sh:=#[F8.nd,λe he=>#[(F8.lt e he).1,by
   have:=(F8.lt e he).2;let e2:=List.take_append_drop m LL;rw[<- e2,List.flatten_append]
   exact List.mem_append_left _ this],iQ F8.len (by
    have:=List.sublist_append_left (LL.take m).flatten (LL.drop m).flatten;rw[<- List.flatten_append,List.take_append_drop] at this;exact this.length_le)]
  have mem:∀s k,(s,k)∈sh ↔ k<c/\Ds (Nx hs ts qs) s0 k s:=λs k=>by
   rw[Wx.mem_iff,RB];constructor
   ·rintro⟨h1,h2⟩;have hk:LL[k]? = some (LL[k]' Z2):=aY Z2;rw[List.getD_eq_getElem?_getD,hk] at h2;exact#[by omega,((ok.is k _ hk).2 s).mp h2]
   rintro⟨h1,h2⟩;let#[L,hL,hm]:=ok.mem h2;have:=(bX.mp hL).1;apply#[by omega,?_];rw[List.getD_eq_getElem?_getD,hL];exact hm
  let tH:=xY.exact (ev:=λz=>eY hs qs z lim) c1 mem
  have eb:b=false ↔ ∀j z,j<c->Ds (Nx hs ts qs) s0 j z->eY hs qs z lim=false:=by
   rw[<- Bool.not_eq_true,hb];constructor
   ·intro h j z hj dz;rw[<- Bool.not_eq_true];exact λe=>h #[j,z,hj,dz,e]
   rintro h ⟨j,z,hj,dz,e⟩;rw[h j z hj dz] at e;cases e
  have fin:∀HD,aa HC HD->aV l H HD:=λHD sD=>b0A.trans (bB.trans (bC.trans (aV.of sD)));apply#[_,U,_,U,_,U,_,U,_,U,g0,pw,d,tl,lx,zs,hs,ts,qs,fp,s0,ns,f,lim,c,sh,U,ZC.Gg,ZC.Sd,Mc,lo,c1,by omega,hfC,VQ,VE.ok ok Bp Mi,λHD sD good=>?_,λtt HD sD bad=>?_]
  ·have b0:b=false:=eb.mpr (tH.mp good);apply#[U,_,U,U,_,U,?_];rw[b0];apply bQ (λh=>?_) (λ_=>?_)
   ·simp at h
   exact k _ _ _ _ _ _ _ _ _ (fin HD sD)
  have b1:b=true:=by
   rw[<- Bool.not_eq_false];exact λh=>bad (tH.mpr (eb.mp h))
  apply#[U,_,U,U,_,U,?_];rw[b1];apply bQ (λh=>?_) (λ_=>?_)
  ·simp at h
  exact k _ _ _ _ _ _ _ _ _ (fin HD sD)
end
end Ev
namespace Ev
open PySem L2
structure O0 (P:Ad) (w:Af) (K:ai) (mg:Str->Option Aa) (base:Heap) (CG CW:Addr):Prop where
 cD:!br 1 tT uR wB
 cH:!br 3 "_law_hands" [gM,"_law_most"] (So K)
 cT:!br 2 "_law_ties" [gM,mE] (Nk K)
 cP:!br 3 "_law_pieces" ui (NA K)
 cS:!br 2 "_law_stand" oH (MM K)
 cW:!ke CW 5 "Web" ["self","hands","ties"] (Hv K CW)
 cG:!ke CG 7 "Goods" ["self","web","pieces"] (Ih K CG CW)
 cL:!br 2 "_law_layers" uq (Og K)
def nj(K:ai)(T:Addr):Sp:=λvs H Q _=>∃(a:Addr) (ns:List Int),vs=[.ref a]/\H T\.tbl #[]/\dU K H a (ns.map V.int)/\ns.length<=63/\∀H',Q (.bl true) H'
section v
theorem XQ{fl c0 CG CW T:Addr}{fd:Ae}(F:wM K "law" "law" fh fl c0 fd)(B:Bi mg)(l5:mg "min"=none)(hC:PySem.W.CodeHd base c0 T)(xI:base.BuiltinsAt mg T)(C:O0 P w K mg base CG CW)(C2:FX P w K mg base CG CW):!ao a_ 10 fl fd [xV] (nj K T):=by
 apply F.ok je (λvs H Q E h=>?_) (λA outer s H vs Q E hr h=>?_)
 ·let#[a,ns,rfl,_]:=h;rfl
 let#[ls,ns,rfl,hT,Li,h63,k]:=h;let sz:=cq;let hu:=fH hr;have BB:aP 3 _:=hr.mono (by decide);let#[tl,_v,later]:=Ik (Hi:=H) (E:=E) (outer:=outer) hr B l5 C2;refine' #[_,aw ?s1 (aH (bp il)),?kk]
 case' s1=>refine' d4 dN U (dY (bP Yh (fu %[ay|0]) (A1 Mz (pv 0) A8 (A7 ay)))) (cu 1 je.nd) ?b0
 case' b0=>refine' aw ?q0 ?c1
 case' c1=>refine' aw ?q1 ?c2
 case' c2=>refine' aw ?q2 ?c3
 case' c3=>refine' aw ?q3 ?c4
 case' c4=>refine' aw ?q4 ?c5
 case' c5=>refine' aw ?q5 ?c6
 case' c6=>refine' aw ?q6 ?c7
 case' c7=>refine' aw ?q7 ?c8
 case c8=>exact _v
 case q0=>exact bu 2 je.nd (fu %[1|0])
 case q1=>exact bu 3 je.nd (bc C.cH hr %[2,ay|0])
 case q2=>exact bu 4 je.nd (bc C.cT hr %[2,3|0])
 case q3=>exact bu 5 je.nd (bc C.cP hr %[2,4,ay|0])
 case q4=>exact bu 6 je.nd (bc C.cS hr %[2,3,5|0])
 case q5=>exact bu 7 je.nd (h7_ (px:=wd) (df:=[]) (cl:=[]) (is:=[]) (k:=1) U (by rfl) B.sorted %[5|0] (Y4 (XM (P:=T) (c:=c0) U NH U hC xI) Xv) Yk BB (λ_ h=>by cases h) (λ_ h=>by cases h) (λ_ h=>by cases h) U)
 case q6=>exact bu 8 je.nd (GO C.cG hr %[GO C.cW hr %[3,4|0],5|0])
 case' q7=>refine' bu 9 je.nd (bc C.cL hr %[7,4,iO IY (by rfl) B.tuple qh %[js [wd,"_law_stand_here"] 1 [6] (dY (pv 7)) (λfp s H=>?g6) (λfp s H=>kI) (λfp s H=>?e6)|0],ay|0])
 case g6=>exact fW (i:=0) (show ([wd,"_law_stand_here"]:ae).Nodup by decide +kernel) U (Or.inl U)
 case e6=>exact mJ hu (pv 1) (bw (zE (K:=K) oS cU) (pv 0) ay)
 have v_:mG H T qL:=#[[],hT,λe he=>by cases he];apply#[zl,λa1 n1=>?_];let#[s1,k1]:=aD (o:=.lst [.int 0]) n1;generalize upd H a1 (.lst [.int 0])=H1 at s1 k1 ⊢;apply#[_,U,_,U,ls,_,U,_a s1 Li,λa2 n2=>?_];let#[s2,k2]:=aD (o:=.lst (dQ (ns.map V.int) none (some 4))) n2;generalize upd H1 a2 (.lst (dQ (ns.map V.int) none (some 4)))=H2 at s2 k2 ⊢;let lc:=Oz (ns.map V.int) none (some 4);rw[av] at lc;apply#[a1,a2,_,_,U,U,s2 _ _ k1,k2,by show 1+(dQ (ns.map V.int) none (some 4)).length<=sizeLine;omega,λa3 n3=>?_];let#[s3,k3]:=aD (o:=.lst ([.int 0]++dQ (ns.map V.int) none (some 4))) n3;generalize upd H2 a3 (.lst ([.int 0]++dQ (ns.map V.int) none (some 4)))=H0 at s3 k3 ⊢;have CI:mG H0 T qL:=v_.same ((s1.trans s2).trans s3)
 have allI:∀y∈[V.int 0]++dQ (ns.map V.int) none (some 4),∃n,y=.int n:=λy hy=>by
  rcases dJ.mp hy with hy|hy
  ·exact#[0,eK.mp hy]
  have hy:y∈ns.map V.int:=by
   unfold dQ at hy;exact List.mem_of_mem_drop (List.mem_of_mem_take hy)
  let#[n,_,rfl]:=bG.mp hy;exact#[n,U]
 let Iv:bR:=λi σ H2=>∃(v1 v2 v3 v4 v5 v6 v7 v8 v9 va vb vc vd ve vf vg vh:aE),σ=[some (.ref ls),v1,v2,v3,v4,v5,v6,v7,v8,v9,va,vb,vc,vd,ve,vf,vg,vh]/\NT H0 H2/\mG H2 T qL
 apply#[a3,U,#[_,.of k3],?_];apply ia (K:=K) (a:=a3) (xs:=[.int 0]++dQ (ns.map V.int) none (some 4)) Iv ?_ ?_ ?_ ?_
 ·exact#[none,none,none,none,none,none,none,none,none,none,none,none,none,none,none,none,none,U,NT.refl H0,CI]
 ·rintro i σ H' _ ⟨_,_,_,_,_,_,_,_,_,_,_,_,_,_,_,_,_,_,nt,_⟩;exact .of (nt.lst k3)
 rotate_left 1
 ·rintro σ H' ⟨_,_,_,_,_,_,_,_,_,_,_,_,_,_,_,_,_,rfl,_,_⟩;exact k H'
 rintro i y σ H2 hy ⟨v1,v2,v3,v4,v5,v6,v7,v8,v9,va,vb,vc,vd,ve,vf,vg,vh,rfl,WN,JJ⟩;let#[n,rfl]:=allI y (cZ hy);clear hy s1 k1 s2 k2 n1 n2 n3 s3 v_ CI k;apply#[_,U,zl,λl nl=>?_];let s3:=aa.new (o:=.lst [.int n]) nl;have ic:cK (upd H2 l (.lst [.int n])) l:=.inl #[n,az];generalize upd H2 l (.lst [.int n])=H3 at s3 ic ⊢;apply#[_,U,l,3,U,by decide,by decide,ic,λlh yh hs H4 b4 gS pW fZ tu g nd h1 h8=>?_];let#[UW,zZ]:=ic.some;have uH:lh≠l:=(bz zZ pW).symm;apply#[_,U,_,U,l,lh,yh,hs,U,gS,fZ,tu,λx hx=>?_,nd,by omega,uH,λlt yt ts H5 b5 gi o_ dI tt tok F5 w9=>?_]
 ·let#[h,hh,rfl]:=bG.mp hx;exact (g h hh).1
 let#[UV,Ep]:=gS.some;have xr:lt≠l:=(bz Ep o_).symm;have W:Good hs ts:=#[g,nd,h1,by omega,λt ht=>(tok t ht).1,F5,w9,λt ht=>(tok t ht).2];apply#[_,U,_,U,l,lt,3,yt,ts,U,by decide,gi,dI,tt,xr,w9,W.tok,F5,λlp yp ps H6 b6 iy BK kr pc dp vD p3=>?_];let#[xs5,GZ]:=gi.some;have DN:lp≠l:=(bz GZ BK).symm;let uB:=jg (jg tu b5 Ep) b6 GZ;let zX:=b6 _ _ (b5 _ _ fZ uH) uH;apply#[_,U,_,U,_,U,l,lh,lp,yh,yp,hs,ps,U,iy,zX,uB,uH,h1,by omega,kr,pc,DN,vD,by omega,λd f H7 b7 i0 xP hd fm=>?_];let#[O7,zY]:=iy.some;have D7:Dr K H7 l lh lt lp d hs ts ps f:=#[i0,#[yh,b7 _ _ zX uH,jg uB b7 zY],#[yt,b7 _ _ (b6 _ _ dI xr) xr,jg (jg tt b6 GZ) b7 zY],#[yp,b7 _ _ kr DN,Paired.aX pc λy p q=>q.but b7 iy],hd,uH,xr,DN];have Py:aa H2 H7:=(((b4.trans b5).trans b6).trans b7).same nl s3;have CH:mG H7 T qL:=JJ.same Py;clear b4 b5 b6 b7 ic gS gi iy i0 pW o_ BK xP zZ Ep GZ zY tu uB fZ zX dI tt kr pc hd s3;apply#[_,U,Kq (Fg ?_)];apply XH CH U U U U λHd c' H8 b8 JI Lx G6=>?_;let#[tv,hT7]:=Yn CH;have Dt:NT H7 H8:=b8.nt hT7;let D8:=D7.nt Dt;let#[US,Lj,Gr]:=D8.hp;let DM:=bH Gr;apply#[.ref lp,Hd,c',US,Kn H8,[],U,U,Lx,G6,.inl #[lp,U,.of Lj],by omega,U,λH' x sm hx=>?_,λlz zs H9 s9 WK WL pz ek=>?_]
 ·let#[j,hj,rfl]:=ib hx;let#[t,v,e,ht,_]:=d9 Gr j hj Z2;rw[e];apply#[t,_,_,U,U,sm _ _ ht,aa.refl _,?_];show V.str _=V.str (match H8 t with|some (.tup (.str n::_))=>n|_=>(⟨#[]⟩:Str));rw[ht]
 let#[ss,sp,PQ]:=eC_ pz Gr
 have esn:ss.map (·.1)=iN (ps.map (·.1)):=by
  rw[<- Mr PQ,<- Mr Gr];exact ek
 have sA:aa H8 (upd H9 lz (.lst zs)):=s9.trans (aa.new WK);have eA:upd H9 lz (.lst zs) lz\.lst zs:=az;generalize upd H9 lz (.lst zs)=HA at sA eA ⊢;have PR:kD K HA zs ss:=AR PQ sA;let DA:=D8.same sA;let JH:=JI.same sA;have WM:NT H2 HA:=((NT.of Py).trans Dt).trans (NT.of sA)
 have GC:lz≠l:=by
  let#[xs,e]:=D8.st.some;exact (bz e WL).symm
 have kj:(ss.map (·.1)).Nodup:=(sp.map (·.1)).nodup_iff.mpr vD;have Xd:ss.length=ps.length:=sp.length_eq;let Kw:=bH PR;let#[#[yhC,hhC,Vl],#[ztC,_w,Vr],#[ypC,_G,Wy]]:=And.intro DA.hh (And.intro DA.ht DA.hp);apply#[_,U,_,U,?_];apply YI W hhC Vl _w Vr (λpw dC HD sD Wb RN=>?_);apply#[_,U,?_];apply Zm Wb W (sD _ _ _G) (AR Wy sD) (λq hq=>(dp q hq).g) vD Z2 (λg0 qs RS HE sE GA Qq RO=>?_);let#[fp,GA,has,sub]:=GA.C1;have S:eU ts ss qs:=X3 Qq vD sp esn dp;let Xf:=S.len
 have lfp:l∉fp:=λm=>by
  let#[xs,e]:=DA.st.some;rcases RO l (sub l m) with z|z
  ·have:=RN l z;rw[e] at this;cases this
  rw[sD _ _ e] at z;cases z
 let C_:=sD.trans sE;let DE:=DA.same C_;have JG:mG HE T qL:=JH.same C_;let HU:=C_ _ _ eA;let Bv:=AR PR C_;have PY:qs.map (·.1)=ss.map (·.1):=S.zw;apply#[_,U,_,U,_,U,lz,U,#[_,.of HU],λD hD=>?_];apply kL (own:=1) (fv:=[some (.ref d)]) (xs:=zs) U fF (λi out H'=>aa HE H'/\H' D\.lst out/\out=((ss.take i).map λp=>f p.1).map V.str) #[aa.new hD,az,U] (λi out H' _ ⟨sm,_,_⟩=>.of (sm _ _ HU)) (λout HB ⟨sB,G_,eo⟩=>?_) (λj y out H' hy ⟨sm,dH,eo⟩=>?_);rotate_left 1
 ·have hj:j<zs.length:=(bX.mp hy).1
  obtain⟨q,hq,t,v,rfl,ht,_⟩:∃q,ss[j]? = some q/\ji K HE y q:=by
   have:=d9 Bv j hj Z2;rw[aY hj] at hy;cases hy;exact#[ss[j]' Z2,aY Z2,this]
  have qm:q.1∈ps.map (·.1):=bG.mpr #[q,sp.mem_iff.mp (cZ hq),U]
  have dg:dc H' d (.str q.1) (some (.str (f q.1))):=by
   have:=dc.k (k:=.inr q.1) (sm _ _ DE.hd);rw[BZ (g:=λn=>V.str (f n)) qm] at this;exact this
  apply#[_,U,U,λNx hN=>fA ?_];apply#[_,U,_,U,t,_,0,_,U,U,.of (sm _ _ ht),L2.dS (j:=0) U,d,_,U,dg,out,dH,?_,hN _ _ #[fL sm hD,az,?_]]
  ·rw[eo,av,av,dM];omega
  rw[yj _ hq,er,eo];rfl
 rw[Kw,eS] at eo;subst eo;obtain⟨s0,v_⟩:∃s0:ak,s0=ss.map λp=>f p.1:=#[_,U];rw[<- v_] at G_;apply#[D,_,U,.inl #[.of G_,λt0 WO=>?_]];let#[sC,eC]:=aD (o:=.tup (sV s0)) WO;let C7:=sB.trans sC;generalize upd HB t0 (.tup (sV s0))=HC at sC eC C7 ⊢;let DC:=DE.same C7
 have Bp:Vs hs qs s0:=by
  apply#[by rw[v_,av,Xf],λh hh=>?_];rw[v_] at hh;let#[q,hq,rfl]:=bG.mp hh;exact (gO hs).mem_iff.mpr (fm _ (bG.mpr #[q,sp.mem_iff.mp hq,U]))
 have WU:(aS hs).length<=3:=by rw[W.iB];omega
 have WC:(aS hs).length ^ qs.length<=300:=by
  have a1:(aS hs).length ^ qs.length<=3 ^ qs.length:=Nat.pow_le_pow_left WU _;have a2:(3:Nat) ^ qs.length<=3 ^ 3:=Nat.pow_le_pow_right (by decide) Z2;omega
 let#[#[UI,K2,Vq],_]:=And.intro DC.ht DC.hp;let eAC:=C7 _ _ HU;apply#[lz,lt,t0,300,zs,UI,hs,ts,ss,qs,s0,U,eAC,AR Bv C7,K2,Vq,W,S,by omega,eC,Bp,WC,by decide,λlL yL LL HF sF WT eL P4 frL ok E1=>?_];let DF:=DC.same sF
 have GI:lL≠l:=by
  let#[xs,e]:=DC.st.some;exact (bz e WT).symm
 have frl:∀b,V.ref b∈yL->b≠l:=λb hb=>by
  let#[xs,e]:=DC.st.some;exact (bz e (frL b hb)).symm
 let Xm:=Mu ok.ne;let GG:=bH P4;have Wu:(ps.map (·.1)).Perm (qs.map (·.1)):=by rw[PY];exact (sp.map (·.1)).symm
 have Mt:s0=(qs.map (·.1)).map f:=by rw[v_,PY,cz];rfl
 let C6:=C7.trans sF
 have tK:d∉fp:=λm=>by
  rcases RO d (sub d m) with z|z
  ·have:=RN d z;rw[DA.hd] at this;cases this
  rw[sD _ _ DA.hd] at z;cases z
 have GgF:Gs K CG CW HF g0 pw hs ts qs fp:=#[GA.same C6,W,by rw[S.zw];exact kj,by omega,S.wp];have Zn:Dm K CG CW HF l lh lt lz d g0 pw lL hs ts ss qs fp (ps.map (·.1)) f s0 yL LL:=#[DF.st,DF.hh,DF.ht,#[zs,C6 _ _ HU,AR Bv C6],uH,xr,GC,GI,frl,W,S,by omega,GgF,lfp,#[DF.hd,tK,#[Wu,fm],Mt],eL,P4,ok,E1];apply later _ HF (.ref ls) (.int n) (.ref lp) _ _ _ _ _ _ _ _ l lh lt lz d g0 pw lL hs ts ss qs fp (ps.map (·.1)) f s0 yL LL Zn (λva vb vc vd ve vf vg vh HL bL=>?_);have nt:NT H2 HL:=λb o e no=>bL _ _ (C6 _ _ (C_ _ _ (WM _ _ e no))) (bz e nl);let#[xsF,_P]:=DF.st.some;exact#[_,_,_,_,_,_,_,_,_,_,_,_,_,_,_,_,_,U,WN.trans nt,mG.Ov (JG.same C6) bL _P]
end
end Ev
namespace Ev
open PySem L2
structure Fd (K:ai) (mg:Str->Option Aa) (x:Str) (st:Stmt):Prop where
 ex:∃f fd,bo K x x st f fd/\mg x\.ref f/\PySem.W.keepIn K (.ref f)=true
theorem E2{K:ai}{h:Heap}{mg:Str->Option Aa}{x:Str}{st:Stmt}(X:K.In h)(G:h.Ns mainGlobals mg){f:Addr}{oc:Aa}{od an:Option Addr}{jy:Array (Option Aa)}{kV doc pm aL ct:Aa}(a:PySem.W.nsIn K mainGlobals x\some (.ref f))
  (l:K.lookup f=some #[oc,od,.func (PySem.W.fnOf x x (gU st) (gc st) (a9 st) .none kV doc pm an aL ct),jy]) (c:PySem.W.codeIn K aL x=true) (k:PySem.W.keepIn K (.ref f)=true):Fd K mg x st:=#[_,_,Qz l c k,PySem.W.mg_of X G a,k]
structure Md (K:ai) (C:Addr) (m qual:Str) (st:Stmt):Prop where
 ex:∃f fd,bo K m qual st f fd/\Meth K C m f
theorem DG{K:ai}{C:Addr}{m qual:Str}{st:Stmt}{f:Addr}{oc:Aa}{od an:Option Addr}{jy:Array (Option Aa)}{kV doc pm aL ct:Aa}(a:PySem.W.findIn K (.ref C) m\some (.ref f))(i:PySem.W.isFn K (.ref f)=true)
  (l:K.lookup f=some #[oc,od,.func (PySem.W.fnOf m qual (gU st) (gc st) (a9 st) .none kV doc pm an aL ct),jy]) (c:PySem.W.codeIn K aL qual=true) (k:PySem.W.keepIn K (.ref f)=true):Md K C m qual st:=#[_,_,Qz l c k,a,i,k]
theorem Fk{P:Ad}{w:Af}{K:ai}{mg:Str->Option Aa}{base:Heap}{x:Str}{st:Stmt}{k:Nat}{ps:ae}{sp:Sp}(d:Fd K mg x st)(ok:∀f fd,bo K x x st f fd->!ao a_ k f fd ps sp)
  (h:∀(kV doc pm:Aa) (an:Option Addr) (aL ct:Aa) (us:aj),us.length=ps.length->bindArgs (PySem.W.fnOf x x (gU st) (gc st) (a9 st) .none kV doc pm an aL ct) #[us,[]]=pure (ps.zip us)):!br k x ps sp:=by
 let#[f,fd,F,m,kp]:=d.ex;exact#[f,fd,ok f fd F,m,kp,F.binds h]
theorem wk{P:Ad}{w:Af}{K:ai}{mg:Str->Option Aa}{base:Heap}{C:Addr}{m qual:Str}{st:Stmt}{k:Nat}{ps:ae}{sp:Sp}(d:Md K C m qual st)(ok:∀f fd,bo K m qual st f fd->!ao a_ k f fd ps sp)
  (h:∀(kV doc pm:Aa) (an:Option Addr) (aL ct:Aa) (us:aj),us.length=ps.length->bindArgs (PySem.W.fnOf m qual (gU st) (gc st) (a9 st) .none kV doc pm an aL ct) #[us,[]]=pure (ps.zip us)):!bM C k m ps sp:=by
 let#[f,fd,F,m]:=d.ex;exact#[f,fd,ok f fd F,m,F.binds h]
theorem NO{P:Ad}{w:Af}{K:ai}{mg:Str->Option Aa}{base:Heap}{C:Addr}{x qual:Str}{st:Stmt}{k:Nat}{ps:ae}{sp:Sp}(d:Md K C "__init__" qual st)(hx:mg x\.ref C)(mk:PySem.W.makesIn K C=true)(kc:PySem.W.keepIn K (.ref C)=true)(ok:∀f fd,bo K "__init__" qual st f fd->!ao a_ k f fd ps sp)
  (h:∀(kV doc pm:Aa) (an:Option Addr) (aL ct:Aa) (us:aj),us.length=ps.length->bindArgs (PySem.W.fnOf "__init__" qual (gU st) (gc st) (a9 st) .none kV doc pm an aL ct) #[us,[]]=pure (ps.zip us)):!ke C k x ps sp:=by
 let#[f,fd,F,m]:=d.ex;exact#[f,fd,ok f fd F,#[mk,m.1,m.2,kc],hx,F.binds h]
structure Tg (P:Ad) (w:Af) (b:Heap):Prop where
theorem gL{P:Ad}{w:Af}{K:ai}{mg:Str->Option Aa}{base:Heap}{x:Str}{st:Stmt}{k:Nat}{ps:ae}{sp:Sp}(q:Tg P w base)(d:Fd K mg x st)(ok:∀f fd,bo K x x st f fd->!ao a_ k f fd ps sp)(h:∀(kV doc pm:Aa) (an:Option Addr) (aL ct:Aa) (us:aj),us.length=ps.length->bindArgs (PySem.W.fnOf x x (gU st) (gc st) (a9 st) .none kV doc pm an aL ct) #[us,[]]=pure (ps.zip us):=by exact λ_ _ _ _ _ _ us (hl:us.length=1)=>match us,hl with | [_],_=>rfl):!br k x ps sp:=Fk d ok h
theorem dR{P:Ad}{w:Af}{K:ai}{mg:Str->Option Aa}{base:Heap}{x:Str}{st:Stmt}{k:Nat}{ps:ae}{sp:Sp}(q:Tg P w base)(d:Fd K mg x st)(ok:∀f fd,bo K x x st f fd->!ao a_ k f fd ps sp)(h:∀(kV doc pm:Aa) (an:Option Addr) (aL ct:Aa) (us:aj),us.length=ps.length->bindArgs (PySem.W.fnOf x x (gU st) (gc st) (a9 st) .none kV doc pm an aL ct) #[us,[]]=pure (ps.zip us):=by exact λ_ _ _ _ _ _ us (hl:us.length=2)=>match us,hl with | [_,_],_=>rfl):!br k x ps sp:=Fk d ok h
theorem hZ{P:Ad}{w:Af}{K:ai}{mg:Str->Option Aa}{base:Heap}{x:Str}{st:Stmt}{k:Nat}{ps:ae}{sp:Sp}(q:Tg P w base)(d:Fd K mg x st)(ok:∀f fd,bo K x x st f fd->!ao a_ k f fd ps sp)(h:∀(kV doc pm:Aa) (an:Option Addr) (aL ct:Aa) (us:aj),us.length=ps.length->bindArgs (PySem.W.fnOf x x (gU st) (gc st) (a9 st) .none kV doc pm an aL ct) #[us,[]]=pure (ps.zip us):=by exact λ_ _ _ _ _ _ us (hl:us.length=3)=>match us,hl with | [_,_,_],_=>rfl):!br k x ps sp:=Fk d ok h
theorem tQ{P:Ad}{w:Af}{K:ai}{mg:Str->Option Aa}{base:Heap}{x:Str}{st:Stmt}{k:Nat}{ps:ae}{sp:Sp}(q:Tg P w base)(d:Fd K mg x st)(ok:∀f fd,bo K x x st f fd->!ao a_ k f fd ps sp)(h:∀(kV doc pm:Aa) (an:Option Addr) (aL ct:Aa) (us:aj),us.length=ps.length->bindArgs (PySem.W.fnOf x x (gU st) (gc st) (a9 st) .none kV doc pm an aL ct) #[us,[]]=pure (ps.zip us):=by exact λ_ _ _ _ _ _ us (hl:us.length=4)=>match us,hl with | [_,_,_,_],_=>rfl):!br k x ps sp:=Fk d ok h
theorem NP{P:Ad}{w:Af}{K:ai}{mg:Str->Option Aa}{base:Heap}{x:Str}{st:Stmt}{k:Nat}{ps:ae}{sp:Sp}(q:Tg P w base)(d:Fd K mg x st)(ok:∀f fd,bo K x x st f fd->!ao a_ k f fd ps sp)(h:∀(kV doc pm:Aa) (an:Option Addr) (aL ct:Aa) (us:aj),us.length=ps.length->bindArgs (PySem.W.fnOf x x (gU st) (gc st) (a9 st) .none kV doc pm an aL ct) #[us,[]]=pure (ps.zip us):=by exact λ_ _ _ _ _ _ us (hl:us.length=5)=>match us,hl with | [_,_,_,_,_],_=>rfl):!br k x ps sp:=Fk d ok h
theorem Fl{P:Ad}{w:Af}{K:ai}{mg:Str->Option Aa}{base:Heap}{C:Addr}{m qual:Str}{st:Stmt}{k:Nat}{ps:ae}{sp:Sp}(q:Tg P w base)(d:Md K C m qual st)(ok:∀f fd,bo K m qual st f fd->!ao a_ k f fd ps sp)(h:∀(kV doc pm:Aa) (an:Option Addr) (aL ct:Aa) (us:aj),us.length=ps.length->bindArgs (PySem.W.fnOf m qual (gU st) (gc st) (a9 st) .none kV doc pm an aL ct) #[us,[]]=pure (ps.zip us):=by exact λ_ _ _ _ _ _ us (hl:us.length=1)=>match us,hl with | [_],_=>rfl):!bM C k m ps sp:=wk d ok h
theorem ja{P:Ad}{w:Af}{K:ai}{mg:Str->Option Aa}{base:Heap}{C:Addr}{m qual:Str}{st:Stmt}{k:Nat}{ps:ae}{sp:Sp}(q:Tg P w base)(d:Md K C m qual st)(ok:∀f fd,bo K m qual st f fd->!ao a_ k f fd ps sp)(h:∀(kV doc pm:Aa) (an:Option Addr) (aL ct:Aa) (us:aj),us.length=ps.length->bindArgs (PySem.W.fnOf m qual (gU st) (gc st) (a9 st) .none kV doc pm an aL ct) #[us,[]]=pure (ps.zip us):=by exact λ_ _ _ _ _ _ us (hl:us.length=2)=>match us,hl with | [_,_],_=>rfl):!bM C k m ps sp:=wk d ok h
theorem NR{P:Ad}{w:Af}{K:ai}{mg:Str->Option Aa}{base:Heap}{C:Addr}{m qual:Str}{st:Stmt}{k:Nat}{ps:ae}{sp:Sp}(q:Tg P w base)(d:Md K C m qual st)(ok:∀f fd,bo K m qual st f fd->!ao a_ k f fd ps sp)(h:∀(kV doc pm:Aa) (an:Option Addr) (aL ct:Aa) (us:aj),us.length=ps.length->bindArgs (PySem.W.fnOf m qual (gU st) (gc st) (a9 st) .none kV doc pm an aL ct) #[us,[]]=pure (ps.zip us):=by exact λ_ _ _ _ _ _ us (hl:us.length=3)=>match us,hl with | [_,_,_],_=>rfl):!bM C k m ps sp:=wk d ok h
theorem NQ{P:Ad}{w:Af}{K:ai}{mg:Str->Option Aa}{base:Heap}{C:Addr}{m qual:Str}{st:Stmt}{k:Nat}{ps:ae}{sp:Sp}(q:Tg P w base)(d:Md K C m qual st)(ok:∀f fd,bo K m qual st f fd->!ao a_ k f fd ps sp)(h:∀(kV doc pm:Aa) (an:Option Addr) (aL ct:Aa) (us:aj),us.length=ps.length->bindArgs (PySem.W.fnOf m qual (gU st) (gc st) (a9 st) .none kV doc pm an aL ct) #[us,[]]=pure (ps.zip us):=by exact λ_ _ _ _ _ _ us (hl:us.length=4)=>match us,hl with | [_,_,_,_],_=>rfl):!bM C k m ps sp:=wk d ok h
theorem NS{P:Ad}{w:Af}{K:ai}{mg:Str->Option Aa}{base:Heap}{C:Addr}{x qual:Str}{st:Stmt}{k:Nat}{ps:ae}{sp:Sp}(q:Tg P w base)(d:Md K C "__init__" qual st)(hx:mg x\.ref C)(mk:PySem.W.makesIn K C=true)(kc:PySem.W.keepIn K (.ref C)=true)(ok:∀f fd,bo K "__init__" qual st f fd->!ao a_ k f fd ps sp)(h:∀(kV doc pm:Aa) (an:Option Addr) (aL ct:Aa) (us:aj),us.length=ps.length->bindArgs (PySem.W.fnOf "__init__" qual (gU st) (gc st) (a9 st) .none kV doc pm an aL ct) #[us,[]]=pure (ps.zip us):=by exact λ_ _ _ _ _ _ us (hl:us.length=3)=>match us,hl with | [_,_,_],_=>rfl):!ke C k x ps sp:=NO d hx mk kc ok h
theorem all_mk{l:W.OpenLaw}{w:Af}{K:ai}{h:Heap}{mg:Str->Option Aa}{fa CW CG CR fl c T:Addr}(X:K.In h)(G:h.Ns mainGlobals mg)(hfa:mg "law"\.ref fa)
  (f0:Fd K mg "is_whole" ze)
  (f1:Fd K mg "is_whole_from" M0)
  (f2:Fd K mg "is_whole_within" lH)
  (f3:Fd K mg "is_name" rH)
  (f4:Fd K mg "lesser_first" Nl)
  (f5:Fd K mg "is_pair_of_names" rE)
  (f6:Fd K mg "sorted_ties" Ni)
  (f7:Fd K mg BO J2)
  (f8:Fd K mg "least_multiple" J1)
  (f9:Fd K mg "fraction_of" rV)
  (f10:Fd K mg "is_fraction" rO)
  (f11:Fd K mg "is_less" rN)
  (f12:Fd K mg "is_hand_with_strength" rQ)
  (f13:Fd K mg "checked_strengths" y_)
  (f14:Fd K mg "checked_ties" rh)
  (f15:Fd K mg "neighbours_of_all" rF)
  (f16:Fd K mg "checked_ways" lX)
  (f17:Fd K mg "checked_piece" Nw)
  (f18:Fd K mg "checked_pieces" NU)
  (f19:Fd K mg "checked_stand" Np)
  (f20:Fd K mg "loads_at" MT)
  (f21:Fd K mg j1 rM)
  (f22:Fd K mg "levels_at" Nb)
  (f23:Fd K mg "rise_at" rq)
  (f24:Fd K mg "spread_at" Nz)
  (f25:Fd K mg "check_limit" rX)
  (f26:Fd K mg "exits_of" lV)
  (f27:Fd K mg "placed_by" rD)
  (f28:Fd K mg "is_even" M5)
  (f29:Fd K mg "move_between" rJ)
  (f30:Fd K mg "moves_along" rK)
  (f31:Fd K mg "fewest_moves" Nt)
  (f32:Fd K mg "checked_shut_start" zf)
  (f33:Fd K mg "is_entry" Om)
  (f34:Fd K mg "place_of_wrong_form" zc)
  (f35:Fd K mg "leads_out" lO)
  (f36:Fd K mg "shut_fault" lI)
  (f37:Fd K mg tT lW)
  (f38:Fd K mg "_law_name" lQ)
  (f39:Fd K mg "_law_hands" M3)
  (f40:Fd K mg "_law_ties" lP)
  (f41:Fd K mg "_law_pieces" On)
  (f42:Fd K mg "_law_stand" M8)
  (f43:Fd K mg "_law_loads" M_)
  (f44:Fd K mg "_law_even" lR)
  (f45:Fd K mg "_law_moves" Nr)
  (f46:Fd K mg "_law_layers" Na)
  (f47:Fd K mg "_law_written" MQ)
  (f48:Fd K mg "_law_is_even_by" Ng)
  (m0:Md K CW "__init__" "Web.__init__" rP)
  (m1:Md K CW "has_hand" "Web.has_hand" vB)
  (m2:Md K CW "hands" "Web.hands" lT)
  (m3:Md K CW "strength" "Web.strength" N7)
  (m4:Md K CW "neighbours" "Web.neighbours" lM)
  (m5:Md K CW "are_tied" "Web.are_tied" rp)
  (m6:Md K CG "__init__" "Goods.__init__" lU)
  (m7:Md K CG "has_piece" "Goods.has_piece" rT)
  (m8:Md K CG "names" "Goods.names" M7)
  (m9:Md K CG "weight" "Goods.weight" Ol)
  (W_:Md K CG "may_go" "Goods.may_go" rR)
  (W9:Md K CR "__init__" "Reach.__init__" lK)
  (W8:Md K CR "one_move_on" "Reach.one_move_on" lJ)
  (W7:Md K CR "widen" "Reach.widen" M6)
  (W5:Md K CR "row_to" "Reach.row_to" rC)
  {WJ Qg Te PJ TN:Aa} {WI OF:Option Addr} {VL:Array (Option Aa)} {t8 t9 VC VB VA:Tok}
  (al:W.nsIn K mainGlobals "law"\some (.ref fl)) (ll:K.lookup fl=some #[WJ,WI,.func (W.fnOf "law" "law" (gU fh) (gc fh) (a9 fh) .none Qg Te PJ OF (.ref c) TN),VL]) (cl:W.codeIn K (.ref c) "law"=true) (kl:W.keepIn K (.ref fl)=true) (ch:W.codeHdIn K c T=true) (aW:W.nsIn K mainGlobals "Web"\some (.ref CW)) (aG:W.nsIn K mainGlobals "Goods"\some (.ref CG)) (aR:W.nsIn K mainGlobals "Reach"\some (.ref CR)) (c8_:W.nsIn K mainGlobals "MOST_LETTERS"\some (.int 8 t8)) (c9_:W.nsIn K mainGlobals "MOST_HANDS"\some (.int 8 t9)) (Os:W.nsIn K mainGlobals "MOST_STRENGTH"\some (.int 1000 VC)) (Oq:W.nsIn K mainGlobals "MOST_WEIGHT"\some (.int 1000000000 VB)) (Oo:W.nsIn K mainGlobals "MOST_COUNT"\some (.int 100 VA)) (U4:W.plainGet K CW Str.empty=true) (Vb:W.hasDictIn K CW=true) (U3:W.plainOver K CW=true) (U2:W.findIn K (.ref CW) "__setattr__"\some (.builtin "object.__setattr__")) (U_:W.makesIn K CW=true) (Va:W.keepIn K (.ref CW)=true) (U9:W.findIn K (.ref CW) uQ\none) (U8:W.findIn K (.ref CW) "sorted_pairs"\none) (U7:W.findIn K (.ref CW) BR\none) (gpg:W.plainGet K CG Str.empty=true) (ghd:W.hasDictIn K CG=true) (gpo:W.plainOver K CG=true) (gsa:W.findIn K (.ref CG) "__setattr__"\some (.builtin "object.__setattr__")) (gmk:W.makesIn K CG=true) (gkc:W.keepIn K (.ref CG)=true) (gn0:W.findIn K (.ref CG) "web"\none) (gn1:W.findIn K (.ref CG) p_\none) (gn2:W.findIn K (.ref CG) AM\none) (V1:W.plainGet K CR Str.empty=true) (V7:W.hasDictIn K CR=true) (V0:W.plainOver K CR=true) (VZ:W.findIn K (.ref CR) "__setattr__"\some (.builtin "object.__setattr__")) (V5:W.makesIn K CR=true) (V6:W.keepIn K (.ref CR)=true) (V4:W.findIn K (.ref CR) jR\none) (V3:W.findIn K (.ref CR) p9\none) (V2:W.findIn K (.ref CR) "newest"\none) (ZL:W.findIn K (.ref CW) "__class__"\some (.builtin "object.__class__")) (ZK:W.specialIn K (.builtin "object.__class__") "__get__"\some (.builtin "getset_descriptor.__get__")) (Zs:W.takesIn K (.builtin "object.__class__")\true) (ZE:W.mroIn K CW (.type "object")\true) (Cv:W.nsIn K mainGlobals "abs"\none) (Cu:W.nsIn K mainGlobals "min"\none) (Ct:W.nsIn K mainGlobals "zip"\none) (z0:W.nsIn K mainGlobals "isinstance"\none) (z1:W.nsIn K mainGlobals "int"\none) (z2:W.nsIn K mainGlobals "bool"\none) (z3:W.nsIn K mainGlobals "str"\none) (z4:W.nsIn K mainGlobals "tuple"\none) (z5:W.nsIn K mainGlobals "list"\none) (z6:W.nsIn K mainGlobals "dict"\none) (z7:W.nsIn K mainGlobals "len"\none) (z8:W.nsIn K mainGlobals "all"\none) (z9:W.nsIn K mainGlobals "sorted"\none) (UP:W.nsIn K mainGlobals "max"\none) (UO:W.nsIn K mainGlobals "range"\none) (UN:W.nsIn K mainGlobals "any"\none) (UM:W.nsIn K mainGlobals "enumerate"\none) :
  ∃fd:Ae,(∀(s:Ab) (v:Aa),BindsTo s fd #[[v],[]] [(xV,v)])/\(∀T'∈[T],isCodeTable h T')/\∀base:Heap,K.In base->base.Ns mainGlobals mg->(∀T'∈[T],base.BuiltinsAt mg T')->ao l.prog w K mg base a_ 10 fa fd [xV] (nj K T):=by
 let e:=hfa.symm.trans (W.mg_of X G al);cases e;have B:Bi mg:=#[jP X G z0,jP X G z1,jP X G z2,jP X G z3,jP X G z4,jP X G z5,jP X G z6,jP X G z7,jP X G z8,jP X G z9,jP X G UP,jP X G UO,jP X G UN,jP X G UM];have TW:Txt K mg CW:=#[#[U4,Vb,U3,U2],U9,U8,U7];have TG:fY K CG:=#[#[gpg,ghd,gpo,gsa],gn0,gn1,gn2];have TR:jW K CR:=#[#[V1,V7,V0,VZ],V4,V3,V2];have IW:FV K CW:=#[ZL,ZK,Zs,ZE];let Dy:=jP X G Cv;let sH:=jP X G Cu;let xp:=jP X G Ct;have FL:wM K "law" "law" fh _ c _:=#[#[_,_,_,_,_,_,_,_,U,ll,cl],kl];apply#[W.fnOf "law" "law" (gU fh) (gc fh) (a9 fh) .none Qg Te PJ OF (.ref c) TN,λs v=>.of_eq U,λT' Ar=>?_,λbase KB _ xI=>?_]
 ·obtain rfl:T'=T:=⇑Ar
  let#[o,F0,file,tf,flags,tg,inF,text,tt,h1,h2,h3,h4,_]:=W.codeHd_of_K X ch;exact#[c,o,F0,h1,h2,h3,h4]
 have q:Tg l.prog w base:=⟨⟩;let AU:=gL q f0 λ_ _ F=>Yb F B;let jb:=hZ q f2 λ_ _ F=>ZP F AU;let Fn:=dR q f1 λ_ _ F=>gG_ F AU;let tS:=gL q f3 λ_ _ F=>ZY F B (W.mg_of X G c8_);let AS:=dR q f4 λ_ _ F=>_F F;let Fu:=gL q f5 λ_ _ F=>YV F B tS;let x6:=gL q f6 λ_ _ F=>hc_ F B Fu AS;let FA:=gL q f12 λ_ _ F=>ZW F B tS jb (W.mg_of X G Os);let cStr:=gL q f13 λ_ _ F=>XB F B FA (W.mg_of X G c9_);let Fs:=dR q f14 λ_ _ F=>Zd F B x6;let Fv:=dR q f15 λ_ _ F=>Yy F AS;let NX:=NS q m0 (W.mg_of X G aW) U_ Va λ_ _ F=>ZV F TW B cStr Fs Fv;let vK:=ja (mg:=mg) q m1 λ_ _ F=>XC F TW B;let DI:=ja (mg:=mg) q m1 λ_ _ F=>Y2 F TW B;let l6:=Fl (mg:=mg) q m2 λ_ _ F=>hD_ F TW B;let DH:=ja (mg:=mg) q m3 λ_ _ F=>ep_ F TW vK;let Ku:=ja (mg:=mg) q m4 λ_ _ F=>hX_ F TW B vK;let xq:=NR (mg:=mg) q m5 λ_ _ F=>ZF F TW DI;let Ob:=dR q f16 λ_ _ F=>Zo F TW x6 xq;let cCP:=dR q f17 λ_ _ F=>h9_ F B tS jb Ob (W.mg_of X G Oq);let Oc:=dR q f18 λ_ _ F=>fq_ F B cCP;let AV:=NS q m6 (W.mg_of X G aG) gmk gkc λ_ _ F=>Zj F TG TW IW B (W.mg_of X G aW) Oc;let Aw:=ja (mg:=mg) q m7 λ_ _ F=>Yl (CW:=CW) F TG B;let hX:=Fl (mg:=mg) q m8 λ_ _ F=>h8_ (CW:=CW) F TG B;let vY:=ja (mg:=mg) q m9 λ_ _ F=>fw_ (CP:=CW) F TG Aw;let L9:=NQ (mg:=mg) q W_ λ_ _ F=>YH (CP:=CW) F TG TW Aw xq AS;let N8:=dR q f7 λ_ _ F=>X7 F;let cLM:=gL q f8 λ_ _ F=>X6 F N8;let cFr:=dR q f9 λ_ _ F=>YS F N8;let cIF:=gL q f10 λ_ _ F=>YJ F B Dy AU Fn N8;let Fw:=dR q f11 λ_ _ F=>YX F;let Uh:=dR q f19 λ_ _ F=>gX_ F B TG TW Aw vK hX;let cLA:=dR q f20 λ_ _ F=>ft_ F B TG TW l6 vY;let T9:=gL q f21 λ_ _ F=>YZ F TW cLM l6 DH;let cLv:=dR q f22 λ_ _ F=>g9_ F TG TW cLA T9 DH;let Ft:=dR q f23 λ_ _ F=>Ze F B sH cLv;let NZ:=dR q f24 λ_ _ F=>ek_ F TG Ft T9 cFr;let Ui:=gL q f25 λ_ _ F=>Ym F cIF;let cEx:=gL q f26 λ_ _ F=>hJ_ F TG TW hX l6 Ku L9;let cPB:=dR q f27 λ_ _ F=>Yo F B xp TG hX;let Ud:=hZ q f28 λ_ _ F=>go_ F Fw NZ cPB;let T4:=NS q W9 (W.mg_of X G aR) V5 V6 λ_ _ F=>hL_ F TR B cEx;let PD:=ja (mg:=mg) q W8 λ_ _ F=>ZG F TR B;let V8:=ja (mg:=mg) q W7 λ_ _ F=>gF_ F TR B PD;let Ka:=ja (mg:=mg) q W5 λ_ _ F=>YK F TR;let cMB:=hZ q f29 λ_ _ F=>YA F xp TG hX;let cMA:=dR q f30 λ_ _ F=>Yq F B cMB;let N9:=tQ q f31 λ_ _ F=>h2_ F B TR Ui Uh Fn T4 Ud cMA Ka V8;let jO:=dR q f37 λ_ _ F=>Zz F B;let Ua:=gL q f38 λ_ _ F=>ZH F B jO;let cLH:=dR q f39 λ_ _ F=>gi_ F B jO Ua;let cLT:=dR q f40 λ_ _ F=>ZT F B jO;let cLP:=hZ q f41 λ_ _ F=>fC_ F B jO Ua;let cLS:=hZ q f42 λ_ _ F=>h6_ F B jO;let cLL:=hZ q f43 λ_ _ F=>g2_ F B;let cLE:=tQ q f44 λ_ _ F=>hY_ F cLL;let N3:=hZ q f45 λ_ _ F=>g8_ F B;let N2:=tQ q f46 λ_ _ F=>_Y F B N3;let cCC:=tQ q f32 λ_ _ F=>XJ F (W.mg_of X G Oo) Ui Uh jb;let cEn:=hZ q f33 λ_ _ F=>fo_ F B TG TW hX vK jb;let cPW:=hZ q f34 λ_ _ F=>XX F B cEn;let cLO:=hZ q f35 λ_ _ F=>ZU F TR B PD;let cSF:=NP q f36 λ_ _ F=>hN_ F B TR cCC cPW T4 Ud cLO;let cWr:=hZ q f47 λ_ _ F=>fz_ F B sH jO;let cEB:=tQ q f48 λ_ _ F=>YG F cLE;exact XQ FL B sH (W.codeHd_of_K KB ch) (xI T Y0) #[jO,cLH,cLT,cLP,cLS,NX,AV,N2] #[jO,N9,cSF,cWr,cEB]
theorem walk{l:PySem.W.OpenLaw}{q:Ad}{loose:ae}{XP:(Str->Option Aa)->Heap->Prop}{d:DefRec}{K:Params->ai}{as:au}{T:Addr}{HJ:∀P:Params,as=(K P).map (·.1)}(hn:l.most\63)(EG:d.params.defaults=[])(K0:([T].all λT=>!as.contains T)=true)
  (F:∀(w:Af) (mg:Str->Option Aa) (fa:Addr) (h:Heap),(K w.params).In h->h.Ns mainGlobals mg->mg d.name\.ref fa->
   ∃fd:Ae,(∀(s:Ab) (u:Aa),BindsTo s fd #[[u],[]] [(xV,u)])/\(∀T'∈[T],isCodeTable h T')/\∀base:Heap,(K w.params).In base->base.Ns mainGlobals mg->(∀T'∈[T],base.BuiltinsAt mg T')->ao l.prog w (K w.params) mg base a_ 10 fa fd [xV] (nj (K w.params) T)) :
  PySem.W.WalkO q loose XP (PySem.W.kmHook K as HJ [T]).says l.row.toRowW d [] (λf vs=>PySem.call f vs):=
 L2.qu (n:=63) (k:=10) (x:=xV) (CX:=λ_=>a_) (sp:=λw=>nj (K w.params) T) hn (by decide) EG #[U,by decide,by decide] K0 F (λ_ _ a ns hl hT hS=>#[a,ns,U,hT T Y0,hS,hl,λ_=>rfl]) λ_ _ _ _ _ z=>z
end Ev
namespace PySem.W.Fast
universe tw12874830467607904259 tw3345247294013139075 tw13702571113933095907 tw10800368855291119908 tw7563294481415220676 tw8396413743524757413 tw14871916377596306886 tw17805571758809383846 tw704905982033994823 tw15183036087558016903 tw5171393079591607848 tw5376521284828994344 tw9387909268429296554 tw15946130137779903661 tw10307569216060779950 tw9678796259896703950 tw885864191961452719 tw8953123299895390191 tw9966494362001765359 tw1422542198987809426 tw18211985429471002290 tw1448837547164620883 tw9131759072008578452 tw10374824791754365332 tw11785813413885918708 tw6767675377844583284 tw11146172951909319030 tw15867365385821042968 tw6529808775345769658 tw13644056023045702586 tw432849092872287995 tw14538314765855649980 tw16664447857316925821 tw18440650157657034782 tw11993059602693059646 tw1009119007527803230 tw6513953073015541342 tw8051288990975341343 tw6527056702908997535 tw6621618341874091480 tw9375602050082458945 tw3887965566805091284 tw6804353879613462644 tw7917807868963944808 tw16730087476141293589 tw6137283560514141253 tw9372823816626686524 tw8975283438364790427 tw7265101925263293011 tw13294791388608954088 tw18222438679633862556 tw384369642800250306 tw15475539325523238899 tw8820055102124083581 tw4058112443177548387 tw18121439451229142929 tw8967636126792845900 tw9485216956133889771 tw6166031738348629286 tw17288102729316922608 tw17611263287992333628 tw18150799512236214563 tw3576565071329196337 tw4080103861085421962 tw1022083645593396270 tw15496661381381641470 tw14814146256215369093 tw15173318617178357091 tw1811773887903653938 tw15010602742420912237 tw722092043629838060 tw4314298751010541643 tw8929827736127022696 tw17775521495511548751 tw15590427963082581600 tw6531803463026549507 tw6230747519773729854 tw3340798394241610012 tw4206703265273790454 tw3179312744355292922 tw758362249623608017 tw3714993298759037589 tw2736183843561196379 tw18122854191930320451 tw3058599603857661815 tw9870632616727673160 tw10525968165688675166 tw13990825903031678922 tw1102506610947219217 tw13885848096220630860 tw5695863869733019608 tw8352839854959465344 tw7727642235412679598 tw14946108281424955595 tw9732618049693850418 tw15521452821544309392 tw14001322255692599121 tw11813491460187940150 tw13113805011519482942 tw9054890453505579459 tw18365876322893733528 tw13666953786538807989 tw2700201261389066286 tw10467241593603421914 tw7900300302605122390 tw9339010891187256710 tw7729811256204849415 tw12250242669639181595 tw17565277962576170840 tw3574061732025312000 tw8913334257252084127 tw2729564607032214582 tw10521805523271800687 tw6703218456065929584 tw14702699726502000053 tw13052173888358417951 tw12209789321921068938 tw14845334247903653937 tw11046454765458135461 tw11908570586723050210 tw558084310034358708 tw14319716444664842143 tw11542953482102621540 tw3328844802020595350 tw16976917229156790142 tw5329609518872578946 tw8727910204244770432 tw15064675204158911724 tw718814950219466206 tw17190195573536870171 tw12313689343396076240 tw11469011871920819977 tw4042155537623993769 tw6500375342802392950 tw11128603323468650534 tw5688099695348484280 tw5363421187483879931 tw5869599180355058477 tw4791519488323482524 tw17395515738326398156 tw15737928840004409614 tw18282837405522847892 tw10897099684847193710 tw14537097984167941813 tw4026830725403763900 tw125434881940671413 tw6978735076136813813 tw9922738292548182293 tw16144508508929334704 tw8524445296957424449 tw14419036222305712545 tw1057664670657300483 tw12374372422556222786 tw15924265120387823647 tw5820017001385183687 tw10491386430777163252 tw9759934505673763171 tw12693861826507748080 tw15941649349787477999 tw16249122231888441929 tw5643113486775576537 tw10943369841688052806 tw10662811832423655642 tw860780399012427171 tw9164295443923427760 tw14086364259168323886 tw14902785321368963173 tw1662594984448424349 tw13135725041282384443 tw5166515165964254047 tw2123261207405937433 tw7269333836715891011 tw14869603934787880311 tw17307179200649025709 tw5730717881026138011 tw8160238399894952678 tw18270459800527990069 tw14792365253563064315 tw3768769683812204435 tw17425229549593699198 tw2950353093452194824 tw11459016515080304907 tw6210077464210485185 tw17652947358655678427 tw2406118347389379381 tw15445665927651634820 tw14429272355669982086 tw8495422623477889602 tw7491404681918634027 tw13687788308215759079 tw1278961248964358982 tw18163077658066818292 tw1926920631745684107 tw13622987673025639259 tw13852794284709525566 tw9988477444503725745 tw14589803281590368519 tw15935984249576214351 tw15123815844145282073 tw9875827858108259575 tw2350235696284386355 tw15940573900631139387 tw18210846330204857957 tw11905522179132819220 tw2991597258095533870 tw12266961511502045682 tw12048076256745366502 tw12565381815420736878 tw7089970054481922070 tw15089747607869635607 tw4374359513725988317 tw15724250784472527424 tw4700070128794256351 tw17201668595594661882 tw17639618922216956893 tw992859561078039392 tw11565522305366081951 tw10073111754533298224 tw5638151858658159590 tw7640630154297334701 tw11731688934158679109 tw14025805038375306895 tw15275914688108151132 tw18113609946366660276 tw14290847759672122558 tw6800815667264140851 tw14243409347370416005 tw3902960070011212438 tw16015528276395358708 tw5655530600389710615 tw13836440964089973095 tw11008287510334359273 tw7599188022781307332 tw1647134321368392212 tw1829387274874574670 tw4762261725136468643 tw1073248157281034572 tw14729625905476631365 tw6502234018606270564 tw5924953757353020741 tw15323459735272116274 tw6889084170589349616 tw3917560916505092897 tw12660681003286978061 tw13230584320449499491 tw10882796519461228339 tw5146036374950060982 tw4956761542230308626 tw3534598439699342779 tw14048264160956607987 tw14551546991603452619 tw2896809928786646494 tw11198760281568962182 tw2911396529577246863 tw15405462980248079787 tw6734466314303425595 tw16064088367753257790 tw5653010393560038714 tw1986726286408653661 tw15626430484596486832 tw14128622551395110010 tw9984511663221070160 tw14434459926722058995 tw11076747142773950409 tw17638996012928468580 tw2366316727129204199 tw15526910287579077114 tw5059002525672058219 tw15084341363321399153 tw12224061019739119274 tw17514658028614149384 tw2859851202779290951 tw5951968385304432035 tw16624482695493362729 tw7409745152512966786 tw6494563026375839790 tw9472482201030931466 tw14116358416549678590 tw14895045503961529961 tw7247486981108851613 tw10327516974247608968 tw15976723547257406922 tw4593339248366842696 tw6369018861810101090 tw6148021365270181195 tw2024017775992371118 tw6060347270757381394 tw13672513913260445110 tw18397504711745854880 tw5096879728259244178 tw13633043920084646174 tw18170760354896838409 tw17232363441162951120 tw4579240055054525127 tw4291285892114640087 tw12388442330837473230 tw131690013209852655 tw18067405060812777619 tw6125742711237106339 tw1334449378601533447 tw5180369443853617164 tw6600218352938981158 tw9429647975778937137 tw17668424272802990922 tw3091106134688857738 tw4859831298706625789 tw8820942146098682199 tw6077828185247864978 tw15467053719858597159 tw18377831102984612765 tw407694136285289555 tw12927213505722694634 tw4495908181708673744 tw1994407033378614453 tw9793588588492068008 tw4129714563135498568 tw14228805767871352949 tw5126919375099889614 tw7533238201245413853 tw12422165449176413530 tw13722686543846202766 tw12080427509023755976 tw15933617791499105136 tw15811138862483232839 tw478977903591681848 tw4661065659144086542 tw16510792323048126917 tw356444077170062077 tw13094474270439081647 tw2814634734388164387 tw1410998938248241478 tw9010032988845216304 tw10346584798617805208 tw13855794935728225279 tw63152584907584509 tw7325967372977987661 tw5325461299836950698 tw4799613316798649750 tw4378240917013287057 tw3617376104314271659 tw9174606620794440301 tw9887111233541453433 tw12133963446954690358 tw15042718646150009632 tw12968264738406266481 tw18175707029792314164 tw4363432264201852686 tw11629262789752661679 tw9498668674628411198 tw11592231472651908213 tw16635911301219489130 tw13285947345576162808 tw3965361801100213509 tw11711859520283649837 tw11321583761236350223 tw9192718968330395585 tw7901243995522554011 tw13963174475095162396 tw13284182744919724342 tw11800308250853617038 tw2740174350585615165 tw7457002303462651116 tw10050981244483134714 tw10365019028040035907 tw15187768150495097658 tw9185733491420417454 tw16337833960097142029 tw14819395747426761882 tw10497558053292051791 tw16250518513924703764 tw4881843282859191741 tw6616708277995971945 tw10949436589857815478 tw1769623180565042973 tw1598096762652849327 tw13030888880581003972 tw7172243096174126303 tw8169877278215994726 tw10075286167128738711 tw3942445054853306181 tw9444853257553606629 tw17800103317358077946 tw5661845025150007106 tw2225339832373638402 tw5518509456952902037 tw11758554401192663139 tw709816698716140883 tw13363294356804825880 tw16501795185051571189 tw10550178548918238525 tw14050521045095244655 tw17012806729373749601 tw363648732358658433 tw7367447368591818574 tw12251979989348213797 tw9557295150563874950 tw14582843339024900177 tw10994596126554896144 tw2748613435232565726 tw11807951246902335868 tw1223193558517664468 tw10441785855891820448 tw18357559118207999548 tw14992710695363930819 tw13050144051399957813 tw73504886408948380 tw6701016752135333394 tw4764999621067132867 tw2156469110793693246 tw18211982395516643130 tw8892951215825213672 tw4083313519184730178 tw12742178680165221504 tw4196579145315797771 tw5046788097755256452 tw17701331081267380820 tw460871762895697 tw8450625964090187358 tw13208283730395318465 tw6150513601011886554 tw8391622869453686568 tw9161199324697957699 tw8808405996310915281 tw1027750136457496453 tw1234177765720096206 tw13659247495548610715 tw14451003558473665813 tw16746360668800001009 tw15925021494739931385 tw7483279995359158595 tw9098222718608300596 tw12685049858220871210 tw14316213224025446365 tw8251416035312543013 tw11694620577804199477 tw12649963128349796034 tw17884225841725287862 tw15191123886216439458 tw5275855642421606275 tw18272928890521691527 tw12628020638041503383 tw7724692374175111662 tw10555512281081230154 tw8436061175162561980 tw15998903133223676661 tw10826982891637872951 tw9520293611407172893 tw17564998699314920551 tw15324950228325459944 tw14033191163313985170 tw11023521132862975249 tw1319606439035351649 tw8124003513319601570 tw6548426015921754906 tw3141164345123776800 tw17618397977197721443 tw10728781952632199696 tw131088376602439492 tw12397048361872855864 tw11500039468222135629 tw11442027705183508370 tw10815364985695647545 tw1731395243138122161 tw12829990069625567738 tw1539408966563250834 tw17067399298084700908 tw366024314967282568 tw15750235864344695859 tw235896109330062419 tw13995530869796495112 tw15400112410794748719 tw14658325097476826428 tw13292348266297804329 tw11389844726109265715 tw11626545560065776252 tw7341409002875451911 tw13251636591195509624 tw14820990047723123772 tw3779596248698957567 tw12281591470668510607 tw7239850115298940996 tw16872739468301763045 tw2564196868768012149 tw9608027556947236506 tw9993858671708120142 tw14039495876401964992 tw17417009108350226366 tw17927861836649430828 tw11926425981175957068 tw523052709316977846 tw3964572349261346993 tw6636911702713714748 tw9939980253366998389 tw5269415974435320154 tw4659472767795450468 tw7551000779050096226 tw12141219460261315065 tw15652148648595700218 tw14831319252341359924 tw8344127699197901092 tw5752591256753982843 tw15584735322706894871 tw7705742791283657458 tw8724280842722102673 tw12351932954531406552 tw540027552859817051 tw3467201925647050262 tw4262185604818556436 tw7982139590843137579 tw14785809427046491419 tw14371059135530102962 tw7814218519188461443 tw12996141181789335422 tw13028526854775796294 tw7684120054737971595 tw11127069439922219951 tw6422215209600883369 tw13299085154070027936 tw14283254095623494290 tw13220300730719169401 tw15156142222111991378 tw7188146579596634528 tw11106926332200065834 tw18000198152501528370 tw5803370121649914748 tw543303200295136713 tw1331675638108988291 tw3264127181620225831 tw7065860921017540805 tw5876868495974633229 tw15414782870089342466 tw1420083730387958132 tw5877744819386161681 tw7729773155313682592 tw13016275661084077152 tw1754995491738954608 tw3664546060204156864 tw18170823925382943119 tw12962222657336966627 tw12752092658985600067 tw7081130542473324335 tw7374441101333286279 tw17900343251098750624 tw8998796388983915633 tw5031799503596480843 tw10275079957478028538 tw685474975998104396 tw7141392797144785376 tw12867752729259199085 tw1431750552936421034 tw12306778742988097899 tw2992324083189668288 tw17000772413021360973 tw18115914670190540567 tw9896285565065274305 tw4217797527928499739 tw1193604882664318529 tw18082186177644658018 tw14417471739786889866 tw9906169308214478390 tw17533336130667811999 tw9204594933703073054 tw8670769329414892644 tw8656549705408799605 tw2243142778384336429 tw7563316367636088147 tw17930784745251836369 tw2724224168295149934 tw16730085848631324837 tw15948521832860420048 tw16419009270594791599 tw18254536389662528238 tw7550043630737894734 tw3584662896586174945 tw7726833403975490228 tw8782687821549326691 tw8209736823079721084 tw7498020062648576716 tw17361951369412104818 tw5451319229681397376 tw8607959933581143895 tw18202728850707622970 tw9357299836202431704 tw16327039652023900043 tw7482568632437631778 tw9510254518658764250 tw12626863944491938008 tw18021962815234430091 tw1495786249244737687 tw7204777646971619593 tw14716457548754909992 tw5029705473059923181 tw5357987024442844284 tw16019448347722455491 tw6977575085896961083 tw15471486444348280012 tw5918503673538230252
end PySem.W.Fast
open PySem PySem.W PyProof.Rows
set_option maxRecDepth 100000 in
local macro_rules|`(%[|$k:num])=>let i:=Lean.mkIdent;if k.getNat==1 then`(Ev.E2 $(i `KX) $(i `G) ?_ ?_ ?_ ?_)else`(Ev.DG ?_ ?_ ?_ ?_ ?_)
theorem PySem.Challenge.cw_evenpieces_k84_whole_shut_out_by_whoever_holds : PySem.Challenge.rw_evenpieces_k84_whole_shut_out_by_whoever.Holds := by
 w_on;o_law;k_head;(case hw=>w_witness2)
 k_fill
 apply Ev.walk (l:=PySem.Challenge.rw_evenpieces_k84_whole_shut_out_by_whoever) rfl rfl (by rfl) ?F
 case F=>
  intro w mg fa h KX G hmg;refine' Ev.all_mk KX G hmg %[|1] %[|1] %[|1] %[|1] %[|1] %[|1] %[|1] %[|1] %[|1] %[|1] %[|1] %[|1] %[|1] %[|1] %[|1] %[|1] %[|1] %[|1] %[|1] %[|1] %[|1] %[|1] %[|1] %[|1] %[|1] %[|1] %[|1] %[|1] %[|1] %[|1] %[|1] %[|1] %[|1] %[|1] %[|1] %[|1] %[|1] %[|1] %[|1] %[|1] %[|1] %[|1] %[|1] %[|1] %[|1] %[|1] %[|1] %[|1] %[|1] %[|2] %[|2] %[|2] %[|2] %[|2] %[|2] %[|2] %[|2] %[|2] %[|2] %[|2] %[|2] %[|2] %[|2] %[|2] ?_ ?_ ?_ ?_ ?ch ?aW ?aG ?aR ?_ ?_ ?_ ?_ ?_ ?_ ?_ ?_ ?_ ?_ ?_ ?_ ?_ ?_ ?_ ?_ ?_ ?_ ?_ ?_ ?_ ?_ ?_ ?_ ?_ ?_ ?_ ?_ ?_ ?_ ?_ ?_ ?_ ?_ ?_ ?_ ?_ ?_ ?_ ?_ ?_ ?_ ?_ ?_ ?_ ?_ ?_ ?_ ?_ ?_ ?_ ?_ ?_
  (case aW=>k_is);(case aG=>k_is);(case aR=>k_is)
  any_goals k_is
  (case ch=>kernel_rfl)
